import PyProof.Rows.All
import Wide.All
import OpenK.AllK
import Wide.FinOn
import Lean
import PyProof.EqAt
import PyProof.EqKinds
import PyProof.TupleCall
import PySem.Challenge.RW_yesorno_k05_whole_read
set_option Elab.async false
set_option linter.all false
set_option maxRecDepth 100000
namespace L2
open PySem PySem.Spec PyProof.Rows
abbrev Key:=Sum Int Str
def keyIs:Key→Value→Bool
  | .inl k,v=>Value.isInt k v
  | .inr x,v=>Value.isStrOf x v
def keyH (w:World):Key→Int
  | .inl k=>hashInt k
  | .inr x=>hashStr w x
theorem za2:∀ {k:Key} {v:Value},keyIs k v=true→(∃ i t,k=Sum.inl i∧v=Value.int i t)∨(∃ x t,k=Sum.inr x∧v=Value.str x t)
  | .inl i,v,h=>by
    obtain⟨t,e⟩:=Value.isInt_shape (k:=i) (v:=v) h
    exact .inl ⟨i,t,rfl,e⟩
  | .inr x,v,h=>by
    obtain⟨t,e⟩:=Value.isStrOf_shape (x:=x) (v:=v) h
    exact .inr ⟨x,t,rfl,e⟩
theorem key_ll (a b:Int):decide ((Sum.inl a:Key)=Sum.inl b)=(a == b):=by
  by_cases e:a=b
  · subst e;simp
  · have h:¬(Sum.inl a:Key)=Sum.inl b:=fun q=>e (Sum.inl.inj q)
    rw[decide_eq_false h]
    exact(beq_eq_false_iff_ne.mpr e).symm
theorem key_rr (a b:Str):decide ((Sum.inr a:Key)=Sum.inr b)=decide (a=b):=by
  by_cases e:a=b
  · subst e;simp
  · have h:¬(Sum.inr a:Key)=Sum.inr b:=fun q=>e (Sum.inr.inj q)
    rw[decide_eq_false h,decide_eq_false e]
theorem key_lr (a:Int) (b:Str):decide ((Sum.inl a:Key)=Sum.inr b)=false:=decide_eq_false (fun q=>nomatch q)
theorem key_rl (a:Str) (b:Int):decide ((Sum.inr a:Key)=Sum.inl b)=false:=decide_eq_false (fun q=>nomatch q)
def zfX (prog:Program) (w:World):PySem.KeyKind prog w Key where
  is:=keyIs
  hash:=keyH w
  inj:=fun v a b ha hb=>by
    rcases za2 ha with ⟨i,t,rfl,rfl⟩ | ⟨x,t,rfl,rfl⟩
    · rcases za2 hb with ⟨j,u,rfl,e⟩ | ⟨y,u,rfl,e⟩
      · injection e with e1 _;rw[e1]
      · exact nomatch e
    · rcases za2 hb with ⟨j,u,rfl,e⟩ | ⟨y,u,rfl,e⟩
      · exact nomatch e
      · injection e with e1 _;rw[e1]
  byValue:=fun k v h=>by
    rcases za2 h with ⟨i,t,rfl,rfl⟩ | ⟨x,t,rfl,rfl⟩ <;> rfl
  pyHash:=fun hv h=>by
    rcases za2 hv with ⟨i,t,rfl,rfl⟩ | ⟨x,t,rfl,rfl⟩
    · exact wpAny_pyHash_int h
    · exact wpAny_pyHash_str h
  eqBool:=fun hu hv h=>by
    rcases za2 hu with ⟨i,t,rfl,rfl⟩ | ⟨x,t,rfl,rfl⟩
    · rcases za2 hv with ⟨j,u,rfl,rfl⟩ | ⟨y,u,rfl,rfl⟩
      · rw[key_ll]at h;exact wpAny_eqBool_int h
      · rw[key_lr]at h;exact SeqAt.EqAt.int_str i t y u _ _ _ _ h
    · rcases za2 hv with ⟨j,u,rfl,rfl⟩ | ⟨y,u,rfl,rfl⟩
      · rw[key_rl]at h;exact SeqAt.EqAt.str_int x t j u _ _ _ _ h
      · rw[key_rr]at h;exact wpAny_eqBool_str h
  «strs»:=fun k x t v h=>by
    rcases za2 h with ⟨i,u,rfl,e⟩ | ⟨y,u,rfl,e⟩
    · exact nomatch e
    · injection e with e1 _
      subst e1
      cases v <;> rfl
end L2
namespace L2
open PySem PySem.Spec PyProof.Rows
inductive V where
  | non | bl (b:Bool) | int (i:Int) | str (x:Str) | byt (b:Array UInt8) | flt (b:UInt64) | ref (a:Addr) | ty (n:String)
  deriving DecidableEq
def zan:V→Value→Prop
  | .non,u=>u=Value.none
  | .bl b,u=>u=Value.bool b
  | .int i,u=>∃ t,u=Value.int i t
  | .str x,u=>∃ t,u=Value.str x t
  | .byt b,u=>∃ t,u=Value.bytes b t
  | .flt b,u=>∃ t,u=Value.float b t
  | .ref a,u=>u=Value.ref a
  | .ty n,u=>u=Value.type n
abbrev aH:List V→List Value→Prop:=Paired zan
theorem aH.length {xs:List V} {us:List Value} (r:aH xs us):xs.length=us.length:=Paired.length r
theorem aH.get:∀ {xs:List V} {us:List Value} {i:Nat} {x:V},aH xs us→xs[i]?=some x→∃ u,us[i]?=some u∧zan x u
  | _,_,_,_,.nil,e=>by simp at e
  | _,_,0,_,.cons r _,e=>by simp at e;subst e;exact⟨_,rfl,r⟩
  | _,_,i+1,x,.cons _ t,e=>by
    obtain⟨u,h1,h2⟩:=aH.get (i:=i) (x:=x) t (by simpa using e)
    exact⟨u,by simpa using h1,h2⟩
theorem aH.append:∀ {xs ys:List V} {us ws:List Value},aH xs us→aH ys ws→aH (xs++ys) (us++ws)
  | _,_,_,_,.nil,s=>s
  | _,_,_,_,.cons r t,s=>.cons r (aH.append t s)
theorem aH.take:∀ {xs:List V} {us:List Value} (n:Nat),aH xs us→aH (xs.take n) (us.take n)
  | _,_,0,_=>.nil
  | _,_,_+1,.nil=>.nil
  | _,_,n+1,.cons r t=>.cons r (aH.take n t)
theorem aH.drop:∀ {xs:List V} {us:List Value} (n:Nat),aH xs us→aH (xs.drop n) (us.drop n)
  | _,_,0,r=>r
  | _,_,_+1,.nil=>.nil
  | _,_,n+1,.cons _ t=>aH.drop n t
def zdt:Option V→Option Value→Prop
  | some v,some u=>zan v u
  | none,none=>True
  | _,_=>False
def KV {κ:Type}:List (κ × V)→List (κ × Value)→Prop:=Paired fun(p:κ × V) (q:κ × Value)=>p.1=q.1∧zan p.2 q.2
def kV:Key→V
  | .inl i=>.int i
  | .inr x=>.str x
inductive HO where
    | lst (xs:List V)
    | tup (xs:List V)
    | dK (kvs:List (Key × V)) | dT (kvs:List (List Key × V))
    | set (S:Int→Bool) (n:Nat)
    | ins (C dx:Addr) (fs:List (Str × V))
    | own (x:Addr)
    | xd (fs:List (Str × V))
    | met (f x:Addr)
    | rng (lo hi:Int)
    | frz (o:Obj) (u:HO)
    | tbl (ps:Array Value)
    | ext (φ:Heap→Prop)
abbrev Hp:=Addr→Option HO
def upd (H:Hp) (a:Addr) (o:HO):Hp:=fun b=>if b=a then some o else H b
theorem ae {H:Hp} {a:Addr} {o:HO}:upd H a o a=some o:=by unfold upd;rw[if_pos rfl]
theorem au {H:Hp} {a b:Addr} {o:HO} (h:b≠a):upd H a o b=H b:=by unfold upd;rw[if_neg h]
theorem zhV {H:Hp} {a:Addr} {o u:HO}:upd (upd H a o) a u=upd H a u:=by
  funext b;unfold upd;split <;> rfl
theorem zdi {H:Hp} {a b:Addr} {o u:HO} (h:H a=some o) (h':H b=some u) (d:o≠u):a≠b:=by
  intro e;subst e;rw[h]at h';exact d (Option.some.inj h')
theorem zaj {H:Hp} {a b:Addr} {o:HO} (h:H a=some o) (h':H b=none):a≠b:=by
  intro e;subst e;rw[h]at h';cases h'
section
variable (P:Program) (w:World)
def zbv (H:Hp) (h:Heap) (a:Addr):HO→Prop
  | .lst xs=>xs.length≤sizeLine∧∃(its:List Value) (n:Nat),aH xs its∧h.get? a=some { cls:=.type "list",data:=.seq its.toArray n }
  | .tup xs=>xs.length≤sizeLine∧∃ its:List Value,aH xs its∧IsTup h a its.toArray
  | .dK kvs=>kvs.length≤sizeLine∧(a == sysModules)=false∧∃ vs,KV kvs vs∧h.DictOf (zfX P w) a vs
  | .dT kvs=>kvs.length≤sizeLine∧(a == sysModules)=false∧∃ xs:List (List Key × Addr × Value),
      Paired (fun(p:List Key × V) (q:List Key × Addr × Value)=>p.1=q.1∧H q.2.1=some (.tup (p.1.map kV))∧zan p.2 q.2.2) kvs xs ∧
      ∃ o es ep,h.get? a=some o∧o.ExactDict∧o.data=.dict es ep∧es.toList=xs.map (entryOfKey (tupleKind (zfX P w)))∧(xs.map (·.1)).Nodup
  | .set S n=>h.SetOf (intKind P w) a S n
  | .ins C dx fs=>H dx=some (.own a)∧fs.length≤1000∧dx≠a∧h.get? a=some (PySem.W.instObj C dx) ∧
      ∃ mA,h.Ns1 dx mA∧(∀ f,zdt (fs.lookup f) (mA f))∧PySem.Within mA (fs.map (·.1))
  | .own _=>∃ o,h.get? a=some o
  | .xd fs=>∃ mA,h.Ns1 a mA∧∀ f,zdt (fs.lookup f) (mA f)
  | .rng lo hi=>∃ t u v,h.get? a=some { cls:=.type "range",data:=.fields #[.int lo t,.int hi u,.int 1 v] }
  | .frz o u=>h.get? a=some o∧zbv H h a u
  | .tbl ps=>h.get? a=some { cls:=.none,data:=.fields ps }
  | .met f x=>h.get? a=some (PySem.W.methodObj (.ref f) (.ref x))
  | .ext φ=>φ h∧(∃ o,h.get? a=some o)∧∀ h1 h2:Heap,φ h1→(∀ o,h1.get? a=some o→h2.get? a=some o)→φ h2
def HOk (H:Hp) (h:Heap):Prop:=∀ a o,H a=some o→zbv P w H h a o
end
section
variable {P:Program} {w:World} {H H':Hp} {h h':Heap} {a:Addr} {o:HO}
theorem zbv.lt (x:zbv P w H h a o):a < h.objs.size:=by
  cases o with
  | lst xs=>obtain⟨_,_,_,_,e⟩:=x;exact Heap.lt_size e
  | tup xs=>obtain⟨_,_,_,p⟩:=x;exact p.lt
  | dK kvs=>obtain⟨_,_,_,_,o,_,_,e,_⟩:=x;exact Heap.lt_size e
  | dT kvs=>obtain⟨_,_,_,_,o,_,_,e,_⟩:=x;exact Heap.lt_size e
  | set S n=>obtain⟨o,_,_,_,e,_⟩:=x;exact Heap.lt_size e
  | ins C dx fs=>obtain⟨_,_,_,e,_⟩:=x;exact Heap.lt_size e
  | own y=>obtain⟨_,e⟩:=x;exact Heap.lt_size e
  | xd fs=>obtain⟨_,⟨_,_,_,e,_⟩,_⟩:=x;exact Heap.lt_size e
  | rng lo hi=>obtain⟨_,_,_,e⟩:=x;exact Heap.lt_size e
  | frz ob u=>obtain⟨e,_⟩:=x;exact Heap.lt_size e
  | tbl ps=>exact Heap.lt_size (show h.get? a=some _ from x)
  | met f y=>exact Heap.lt_size (show h.get? a=some _ from x)
  | ext φ=>obtain⟨_,⟨_,e⟩,_⟩:=x;exact Heap.lt_size e
theorem Paired.mapP {α β:Type} {F G:α→β→Prop}:∀ {l₁:List α} {l₂:List β},Paired F l₁ l₂→(∀ a b,F a b→G a b)→Paired G l₁ l₂
  | _,_,.nil,_=>.nil
  | _,_,.cons r t,f=>.cons (f _ _ r) (Paired.mapP t f)
theorem zbv.stay (x:zbv P w H h a o) (k:∀ b u,(b=a∨H b=some (.own a))→h.get? b=some u→h'.get? b=some u)
    (ho:∀ b,H b=some (.own a)→H' b=some (.own a)) (ht:∀ b xs,H b=some (.tup xs)→H' b=some (.tup xs)):zbv P w H' h' a o:=by
  induction o with
  | lst xs=>obtain⟨z,its,n,r,e⟩:=x;exact⟨z,its,n,r,k _ _ (.inl rfl) e⟩
  | tup xs=>obtain⟨z,its,r,ob,e,c⟩:=x;exact⟨z,its,r,ob,k _ _ (.inl rfl) e,c⟩
  | dK kvs=>obtain⟨z,y,vs,r,ob,es,ep,e,c⟩:=x;exact⟨z,y,vs,r,ob,es,ep,k _ _ (.inl rfl) e,c⟩
  | dT kvs =>
    obtain⟨z,y,xs,r,ob,es,ep,e,c⟩:=x
    exact⟨z,y,xs,Paired.mapP r fun p q z=>⟨z.1,ht _ _ z.2.1,z.2.2⟩,ob,es,ep,k _ _ (.inl rfl) e,c⟩
  | set S n=>obtain⟨ob,es,ep,t,e,c⟩:=x;exact⟨ob,es,ep,t,k _ _ (.inl rfl) e,c⟩
  | ins C dx fs =>
    obtain⟨d,z,ne,e,mA,⟨od,es,ep,e2,c⟩,r⟩:=x
    exact⟨ho _ d,z,ne,k _ _ (.inl rfl) e,mA,⟨od,es,ep,k _ _ (.inr d) e2,c⟩,r⟩
  | own y=>obtain⟨ob,e⟩:=x;exact⟨ob,k _ _ (.inl rfl) e⟩
  | xd fs=>obtain⟨mA,⟨od,es,ep,e,c⟩,r⟩:=x;exact⟨mA,⟨od,es,ep,k _ _ (.inl rfl) e,c⟩,r⟩
  | rng lo hi=>obtain⟨t,u,v,e⟩:=x;exact⟨t,u,v,k _ _ (.inl rfl) e⟩
  | frz ob u ih=>obtain⟨e,q⟩:=x;exact⟨k _ _ (.inl rfl) e,ih q⟩
  | tbl ps =>
    have e:h.get? a=some { cls:=.none,data:=.fields ps }:=x
    show h'.get? a=some { cls:=.none,data:=.fields ps }
    exact k a _ (.inl rfl) e
  | met f y =>
    have e:h.get? a=some (PySem.W.methodObj (.ref f) (.ref y)):=x
    show h'.get? a=some (PySem.W.methodObj (.ref f) (.ref y))
    exact k a _ (.inl rfl) e
  | ext φ=>obtain⟨p,⟨o,e⟩,st⟩:=x;exact⟨st _ _ p fun o q=>k _ _ (.inl rfl) q,⟨o,k _ _ (.inl rfl) e⟩,st⟩
theorem HOk.lt (x:HOk P w H h) (e:H a=some o):a < h.objs.size:=(x a o e).lt
theorem HOk.fresh (x:HOk P w H h) (e:h.objs.size≤a):H a=none:=by
  cases q:H a with
  | none=>rfl
  | some u=>exact absurd (Nat.lt_of_lt_of_le (x.lt q) e) (Nat.lt_irrefl _)
theorem HOk.kept (x:HOk P w H h) (k:∀ b u,h.get? b=some u→h'.get? b=some u):HOk P w H h':=fun a o e =>
  (x a o e).stay (fun b u _ q=>k b u q) (fun _ q=>q) fun _ _ q=>q
theorem HOk.laid (x:HOk P w H h) (k:∀ b u,h.get? b=some u→h'.get? b=some u) (hp:h.objs.size≤a) (new:zbv P w (upd H a o) h' a o):HOk P w (upd H a o) h':=fun b u e=>by
  have hn:=x.fresh hp
  by_cases hb:b=a
  · subst hb;rw[ae]at e;cases e;exact new
  · rw[au hb]at e
    exact(x b u e).stay (fun c v _ q=>k c v q) (fun c q=>by rw[au (zaj q hn)];exact q) fun c xs q=>by rw[au (zaj q hn)];exact q
end
def Rd (H:Hp) (a:Addr) (u:HO):Prop:=H a=some u∨∃ o,H a=some (.frz o u)
theorem Rd.ok {P:Program} {w:World} {H:Hp} {h:Heap} {a:Addr} {u:HO} (r:Rd H a u) (x:HOk P w H h):zbv P w H h a u:=by
  rcases r with r | ⟨o,r⟩
  · exact x a u r
  · obtain⟨_,q⟩:=x a _ r
    exact q
def Mut:Option HO→Prop
  | some (.lst _)=>True
  | some (.dK _)=>True
  | some (.dT _)=>True
  | some (.set _ _)=>True
  | some (.ins _ _ _)=>True
  | some (.ext _)=>True
  | _=>False
section
variable {P:Program} {w:World} {H:Hp} {h h':Heap} {x e:Addr} {o':HO}
theorem HOk.write (ok:HOk P w H h) (mu:Mut (H x)) (he:e=x∨H e=some (.own x)) (k:∀ b u,b≠e→h.get? b=some u→h'.get? b=some u) (heo:∃ u,h'.get? e=some u)
    (new:zbv P w (upd H x o') h' x o'):HOk P w (upd H x o') h':=fun b u q=>by
  have nown:∀ c y,H c=some (.own y)→c≠x:=fun c y r z=>by subst z;rw[r]at mu;exact mu
  have ntup:∀ c xs,H c=some (.tup xs)→c≠x:=fun c xs r z=>by subst z;rw[r]at mu;exact mu
  by_cases hb:b=x
  · subst hb;rw[ae]at q;cases q;exact new
  · rw[au hb]at q
    by_cases hbe:b=e
    · have q':H b=some (.own x):=by
        rcases he with z | z
        · exact absurd (hbe.trans z) hb
        · rw[hbe];exact z
      rw[q]at q';cases q'
      obtain⟨v,hv⟩:=heo
      exact⟨v,by rw[hbe];exact hv⟩
    · refine(ok b u q).stay (fun c v hc r=>k c v ?_ r) (fun c r=>by rw[au (nown c b r)];exact r) fun c xs r=>by rw[au (ntup c xs r)];exact r
      rcases hc with rfl | hc
      · exact hbe
      · rintro rfl
        rcases he with z | z
        · exact nown c b hc z
        · rw[hc]at z;cases z;exact hb rfl
end
structure Un (fs ex:List Addr) (H H':Hp) (h h':Heap):Prop where
  keep:∀ b o,h.get? b=some o→H b=none→b∉fs→b∉ex→h'.get? b=some o
  slot:∀ b o,h.get? b=some o→H b=none→b∈fs→b∉ex→∃ sl,h'.get? b=some { o with slots:=sl }
  free:∀ b o,h.get? b=some o→H b=none→b∉ex→H' b=none
  there:∀ b o,h.get? b=some o→b∉ex→∃ o',h'.get? b=some o'
  tups:∀ b xs,H b=some (.tup xs)→H' b=some (.tup xs)
  frzs:∀ b o u,H b=some (.frz o u)→H' b=some (.frz o u)
  tbls:∀ b ps,H b=some (.tbl ps)→∃ more,H' b=some (.tbl (ps++more))
section
variable {fs fs' ex ex':List Addr} {H H1 H2:Hp} {h h1 h2 h':Heap} {a x e:Addr} {o:HO}
theorem Un.any (u:Un fs ex H H1 h h1) {b:Addr} {ob:Obj} (q:h.get? b=some ob) (n:H b=none) (hx:b∉ex):∃ sl,h1.get? b=some { ob with slots:=sl }:=by
  by_cases hb:b∈fs
  · exact u.slot b ob q n hb hx
  · exact⟨ob.slots,u.keep b ob q n hb hx⟩
theorem Un.trans (a:Un fs ex H H1 h h1) (b:Un fs ex H1 H2 h1 h2):Un fs ex H H2 h h2 where
  keep:=fun c ob q n hc hx=>b.keep c ob (a.keep c ob q n hc hx) (a.free c ob q n hx) hc hx
  slot:=fun c ob q n hc hx=>by
    obtain⟨sl,e1⟩:=a.slot c ob q n hc hx
    obtain⟨sl',e2⟩:=b.slot c _ e1 (a.free c ob q n hx) hc hx
    exact⟨sl',e2⟩
  free:=fun c ob q n hx=>by
    obtain⟨o',e1⟩:=a.there c ob q hx
    exact b.free c o' e1 (a.free c ob q n hx) hx
  there:=fun c ob q hx=>by
    obtain⟨o',e1⟩:=a.there c ob q hx
    exact b.there c o' e1 hx
  tups:=fun c xs q=>b.tups c xs (a.tups c xs q)
  frzs:=fun c ob xs q=>b.frzs c ob xs (a.frzs c ob xs q)
  tbls:=fun c ps q=>by
    obtain⟨m1,e1⟩:=a.tbls c ps q
    obtain⟨m2,e2⟩:=b.tbls c _ e1
    exact⟨m1++m2,by rw[e2,Array.append_assoc]⟩
theorem Un.kept (k:∀ b u,h.get? b=some u→h'.get? b=some u):Un fs ex H H h h' :=
  ⟨fun b ob q _ _ _=>k b ob q,fun b ob q _ _ _=>⟨ob.slots,k b ob q⟩,fun _ _ _ n _=>n,fun b ob q _=>⟨ob,k b ob q⟩,fun _ _ q=>q,fun _ _ _ q=>q,fun _ ps q=>⟨#[],by rw[q];simp⟩⟩
theorem Un.refl:Un fs ex H H h h:=Un.kept fun _ _ q=>q
theorem Un.laid (k:∀ b u,h.get? b=some u→h'.get? b=some u) (hp:h.objs.size≤a) (hn:H a=none):Un fs ex H (upd H a o) h h' where
  keep:=fun b u q _ _ _=>k b u q
  slot:=fun b u q _ _ _=>⟨u.slots,k b u q⟩
  free:=fun b u q n _=>by rw[au (Nat.ne_of_lt (Nat.lt_of_lt_of_le (Heap.lt_size q) hp))];exact n
  there:=fun b u q _=>⟨u,k b u q⟩
  tups:=fun b xs q=>by rw[au (zaj q hn)];exact q
  frzs:=fun b u xs q=>by rw[au (zaj q hn)];exact q
  tbls:=fun b ps q=>⟨#[],by rw[au (zaj q hn),q];simp⟩
theorem Un.write (mu:Mut (H x)) (he:e=x∨H e=some (.own x)) (k:∀ b u,b≠e→h.get? b=some u→h'.get? b=some u) (heo:∃ u,h'.get? e=some u):Un fs ex H (upd H x o) h h':=by
  have hx:∀ b,H b=none→b≠x:=fun b n z=>by subst z;rw[n]at mu;exact mu
  have hb:∀ b,H b=none→b≠e:=fun b n z=>by
    subst z
    rcases he with r | r
    · exact hx b n r
    · rw[n]at r;cases r
  have hm:∀ b u,H b=some u→¬Mut (some u)→b≠x:=fun b u q nm z=>by subst z;rw[q]at mu;exact nm mu
  refine⟨fun b u q n _ _=>k b u (hb b n) q,fun b u q n _ _=>⟨u.slots,k b u (hb b n) q⟩,fun b u q n _=>by rw[au (hx b n)];exact n,fun b u q _=>?_,
    fun b xs q=>by rw[au (hm b _ q fun z=>z)];exact q,fun b u xs q=>by rw[au (hm b _ q fun z=>z)];exact q,fun b ps q=>⟨#[],by rw[au (hm b _ q fun z=>z),q];simp⟩⟩
  by_cases hbe:b=e
  · subst hbe;exact heo
  · exact⟨u,k b u hbe q⟩
end
def trk (h:Heap) (H:Hp):List Addr:=(List.range h.objs.size).filter fun a=>(H a).isSome
def zdR (h:Heap) (H:Hp):Heap:=PySem.W.hideAll h (trk h H)
theorem zjR (h:Heap) (H:Hp):(zdR h H).objs.size=h.objs.size:=PySem.W.hideAll_size _ _
theorem zkC {h:Heap} {H:Hp} {b:Addr} {o:Obj} (e:h.get? b=some o) (n:H b=none):(zdR h H).get? b=some o :=
  PySem.W.hideAll_get _ e fun hm=>by
    have q:(H b).isSome=true:=(List.mem_filter.mp hm).2
    rw[n]at q;simp at q
theorem zlj {h:Heap} {H:Hp} {b:Addr} {o:Obj} (e:(zdR h H).get? b=some o):h.get? b=some o∧H b=none:=by
  have e':h.get? b=some o:=PySem.W.of_hideAll (trk h H) e
  refine⟨e',?_⟩
  cases q:H b with
  | none=>rfl
  | some x =>
    have hm:b∈trk h H:=List.mem_filter.mpr ⟨List.mem_range.mpr (Heap.lt_size e'),by simp [q]⟩
    have z:(zdR h H).get? b=none:=PySem.W.hideAll_none (trk h H) hm
    rw[z]at e;cases e
def zlA (g h:Heap) (L:Addr):List (Addr × Obj):=(List.range h.objs.size).filterMap fun a=>if a=L∨(g.get? a).isSome=true then none else(h.get? a).map fun o=>(a,o)
def zbR (g h:Heap) (L d:Addr):List (Addr × Obj):=(zlA g h L).filter fun p=>decide (p.1≠d)
end L2
namespace L2
open PySem PySem.Spec PyProof.Rows
structure Mod (K:PySem.W.Frag) (mg:Str→Option Value) (base:Heap):Prop where
  kin:K.In base
  glob:base.Ns mainGlobals mg
  blt:∃ mb,base.Ns builtinsNs mb∧∀ x:Str,x≠"__name__"→mb x=bootBuiltins x
  nolimit:base.NoLimit
structure Cx where
  prog:Program
  w:World
  K:PySem.W.Frag
  mg:Str→Option Value
  base:Heap
  A:Around
  N:List Str
  s₀:Shared
  H₀:Hp
  env:Env
  outer:List Env
  stack:List Env
  ex:List Addr
  fn:Str→Bool
  calm:Bool
  pn:List (Addr × Obj)
  xe:Value→Shared→Prop
def frs (l:List Env):List Addr:=l.filterMap (·.frame)
abbrev Cx.fs (X:Cx):List Addr:=frs X.outer
def Vis (sc:Scope) (x:Str):Prop:=sc.names.lookup x=some .local∨sc.names.lookup x=some .cell∨sc.names.lookup x=some .free
def Loc (sc:Scope) (x:Str):Prop:=sc.names.lookup x=some .local∨sc.names.lookup x=some .cell
def Look (env:Env) (h:Heap) (m:Str→Option Value) (x:Str) (u:Value):Prop :=
  (env.kindOf x=some .local∧m x=some u)∨((env.kindOf x=some .cell∨env.kindOf x=some .free)∧∃ c,env.cells.lookup x=some c∧h.IsCell c (some u))
structure Cx.Ok (X:Cx):Prop where
  mod:Mod X.K X.mg X.base
  kind:X.env.scope.kind=.function
  glob:X.env.globals=mainGlobals
  blt:X.env.builtins=builtinsNs
  above:X.s₀.heap.objs.size≤X.env.locals
  inj:∀ x y c,X.env.cells.lookup x=some c→X.env.cells.lookup y=some c→x=y
  has:∀ x,(X.env.kindOf x=some .cell∨X.env.kindOf x=some .free)→∃ c,X.env.cells.lookup x=some c
  cab:∀ x c,X.fn x=true→X.env.cells.lookup x=some c→X.s₀.heap.objs.size≤c
  hd:X.calm=true→X.A.handled=none
  frames:X.A.frames=some X.stack
  stk:X.stack=X.outer∨(X.stack=X.env :: X.outer∧X.env.frame=some X.env.locals)
  exf:∀ b∈X.ex,b≠X.env.locals∧∀ x c,X.env.cells.lookup x=some c→c≠b
  bs:∀ b o,X.base.get? b=some o→X.s₀.heap.get? b=some o∧X.H₀ b=none
  bsz:X.base.objs.size≤X.s₀.heap.objs.size
  noex:∀ b o,X.base.get? b=some o→b∉X.ex
  exfs:∀ b∈X.ex,b∉X.fs
  funs:X.s₀.heap.FunFrames X.base X.outer
  frf:∀ b∈X.fs,X.H₀ b=none
structure Inv (X:Cx) (pins:List (Addr × Obj)) (σ:List (Option V)) (H:Hp) (s:Shared):Prop where
  ok:X.Ok
  os:s.os=X.s₀.os
  bare:AllBare s.gens
  base:Un X.fs X.ex X.H₀ H X.s₀.heap s.heap
  loc:∃ m,s.heap.Ns X.env.locals m∧∀(i:Nat) (x:Str) (v:V),X.N[i]?=some x→σ[i]?=some (some v)→Vis X.env.scope x→∃ u,zan v u∧Look X.env s.heap m x u
  cell:∀ x c,X.env.cells.lookup x=some c→∃ v,s.heap.IsCell c v
  free:H X.env.locals=none
  freeC:∀ x c,X.env.cells.lookup x=some c→H c=none
  pin:∀ p∈X.pn++pins,s.heap.get? p.1=some p.2∧H p.1=none∧p.1≠X.env.locals∧p.1∉X.fs∧∀ v,p.2.data≠.cell v
  hok:HOk X.prog X.w H s.heap
  len:σ.length=X.N.length
section
variable {X:Cx} {pins:List (Addr × Obj)} {σ:List (Option V)} {H H':Hp} {s:Shared} {h':Heap}
theorem Cx.Ok.nofr (ok:X.Ok) {b:Addr} {o:Obj} (e:X.base.get? b=some o):b∉X.fs:=fun hb=>by
  have:=(ok.funs.mem hb).1
  rw[e]at this;cases this
theorem Inv.bs (I:Inv X pins σ H s):∀ b o,X.base.get? b=some o→s.heap.get? b=some o∧H b=none:=fun b o e =>
  ⟨I.base.keep b o (I.ok.bs b o e).1 (I.ok.bs b o e).2 (I.ok.nofr e) (I.ok.noex b o e),I.base.free b o (I.ok.bs b o e).1 (I.ok.bs b o e).2 (I.ok.noex b o e)⟩
theorem Inv.bk (I:Inv X pins σ H s):∀ b o,X.base.get? b=some o→s.heap.get? b=some o:=fun b o e=>(I.bs b o e).1
theorem Inv.mod (I:Inv X pins σ H s):Mod X.K X.mg X.base:=I.ok.mod
theorem Inv.kIn (I:Inv X pins σ H s):X.K.In s.heap:=I.ok.mod.kin.keeps I.bk
theorem Inv.fr (I:Inv X pins σ H s):∃ m,Fr X.base X.env.locals s.heap m :=
  let ⟨m,hn,_⟩:=I.loc
  ⟨m,hn,I.bk,Nat.le_trans I.ok.bsz I.ok.above⟩
theorem Inv.lt (I:Inv X pins σ H s):X.env.locals < s.heap.objs.size:=let ⟨_,hn,_⟩:=I.loc;hn.lt
theorem Inv.sz (I:Inv X pins σ H s):X.s₀.heap.objs.size≤s.heap.objs.size:=Nat.le_trans I.ok.above (Nat.le_of_lt I.lt)
theorem Inv.nofs (I:Inv X pins σ H s) {a:Addr} (h:s.heap.objs.size≤a):a∉X.fs:=fun hb=>by
  obtain⟨_,o,ho,_⟩:=I.ok.funs.mem hb
  exact absurd (Nat.lt_of_lt_of_le (Heap.lt_size ho) (Nat.le_trans I.sz h)) (Nat.lt_irrefl _)
theorem Inv.cne (I:Inv X pins σ H s):∀ x c,X.env.cells.lookup x=some c→c≠X.env.locals:=fun x c e z=>by
  obtain⟨v,o,ho,hd⟩:=I.cell x c e
  obtain⟨m,⟨o',es,ep,ho',hd',_⟩,_⟩:=I.loc
  rw[z,ho']at ho;cases ho;rw[hd']at hd;cases hd
theorem Inv.funs (I:Inv X pins σ H s):s.heap.FunFrames X.base X.outer:=by
  have all:∀(l:List Env),(∀ b∈frs l,b∈X.fs)→X.s₀.heap.FunFrames X.base l→s.heap.FunFrames X.base l:=by
    intro l
    induction l with
    | nil=>intro _ _;trivial
    | cons env r ih =>
      intro hs hl
      obtain⟨hk,⟨L,o,hf,hn,ho,hd⟩,hr⟩:=hl
      have hL:L∈X.fs:=hs L (by unfold frs;rw[List.filterMap_cons,hf];exact List.mem_cons_self)
      obtain⟨sl,e⟩:=I.base.slot L o ho (I.ok.frf L hL) hL fun z=>I.ok.exfs L z hL
      exact⟨hk,⟨L,_,hf,hn,e,hd⟩,ih (fun b hb=>hs b (by unfold frs;rw[List.filterMap_cons,hf];exact List.mem_cons_of_mem _ hb)) hr⟩
  exact all X.outer (fun _ hb=>hb) I.ok.funs
theorem Inv.stack (I:Inv X pins σ H s):s.heap.FunFrames X.base X.stack:=by
  rcases I.ok.stk with e | ⟨e,hf⟩
  · rw[e];exact I.funs
  · rw[e]
    obtain⟨m,hn,_⟩:=I.loc
    refine .cons (by rw[I.ok.kind];decide) hf hn ?_ I.funs
    exact Heap.get?_none_of_le (Nat.le_trans I.ok.bsz I.ok.above)
theorem Inv.stkSub (I:Inv X pins σ H s):∀ b∈frs X.stack,b∈X.env.locals :: X.fs:=fun b hb=>by
  rcases I.ok.stk with e | ⟨e,hf⟩
  · rw[e]at hb;exact List.mem_cons_of_mem _ hb
  · rw[e]at hb
    unfold frs at hb
    rw[List.filterMap_cons,hf]at hb
    exact hb
theorem Inv.stkFree (I:Inv X pins σ H s):∀ b∈frs X.stack,H b=none:=fun b hb=>by
  rcases List.mem_cons.mp (I.stkSub b hb) with e | hb
  · rw[e];exact I.free
  · obtain⟨_,o,ho,_⟩:=I.ok.funs.mem hb
    exact I.base.free b o ho (I.ok.frf b hb) fun z=>I.ok.exfs b z hb
theorem Inv.step {g':Array GenState} {t':Nat} {d':Drawn} {ch:List Addr} (I:Inv X pins σ H s)
    (hch:∀ b∈ch,(b∈X.ex∨X.s₀.heap.objs.size≤b)∧b≠X.env.locals∧(∀ x c,X.env.cells.lookup x=some c→c≠b)∧∀ p∈X.pn++pins,p.1≠b)
    (keep:∀ b o,b≠X.env.locals→b∉X.fs→b∉ch→s.heap.get? b=some o→H b=none→h'.get? b=some o)
    (slot:∀ b o,b≠X.env.locals→b∈X.fs→b∉ch→s.heap.get? b=some o→H b=none→∃ sl,h'.get? b=some { o with slots:=sl }) (free:∀ b o,b∉ch→s.heap.get? b=some o→H b=none→H' b=none)
    (there:∀ b o,b∉ch→s.heap.get? b=some o→∃ o',h'.get? b=some o')
    (tups:∀ b xs,H b=some (.tup xs)→H' b=some (.tup xs)) (frzs:∀ b o u,H b=some (.frz o u)→H' b=some (.frz o u)) (tbls:∀ b ps,H b=some (.tbl ps)→∃ more,H' b=some (.tbl (ps++more)))
    (ns:∀ m,s.heap.Ns X.env.locals m→h'.Ns X.env.locals m) (hok:HOk X.prog X.w H' h') (hg:AllBare g') :
    Inv X pins σ H' { s with heap:=h',gens:=g',drawn:=d',toks:=t' }:=by
  have neL:∀ b o,X.s₀.heap.get? b=some o→b≠X.env.locals:=fun b o e=>Nat.ne_of_lt (Nat.lt_of_lt_of_le (Heap.lt_size e) I.ok.above)
  have neC:∀ b o,X.s₀.heap.get? b=some o→b∉X.ex→b∉ch:=fun b o e hx hb=>by
    rcases(hch b hb).1 with z | z
    · exact hx z
    · exact absurd (Nat.lt_of_lt_of_le (Heap.lt_size e) z) (Nat.lt_irrefl _)
  have cellK:∀ x c,X.env.cells.lookup x=some c→∀ v,s.heap.IsCell c v→h'.IsCell c v:=fun x c e v ⟨o,ho,hd⟩=>by
    have nch:c∉ch:=fun z=>(hch c z).2.2.1 x c e rfl
    by_cases hc:c∈X.fs
    · obtain⟨sl,q⟩:=slot c o (I.cne x c e) hc nch ho (I.freeC x c e)
      exact⟨_,q,hd⟩
    · exact⟨o,keep c o (I.cne x c e) hc nch ho (I.freeC x c e),hd⟩
  refine⟨I.ok,I.os,hg,⟨fun b o e n hb hx=>?_,fun b o e n hb hx=>?_,fun b o e n hx=>?_,fun b o e hx=>?_,fun b xs e=>tups b xs (I.base.tups b xs e),fun b o xs e=>frzs b o xs (I.base.frzs b o xs e),fun b ps e=>?_⟩,?_,fun x c e=>?_,?_,fun x c e=>?_,fun p hp=>?_,hok,I.len⟩
  · exact keep b o (neL b o e) hb (neC b o e hx) (I.base.keep b o e n hb hx) (I.base.free b o e n hx)
  · obtain⟨sl,e1⟩:=I.base.slot b o e n hb hx
    obtain⟨sl',e2⟩:=slot b _ (neL b o e) hb (neC b o e hx) e1 (I.base.free b o e n hx)
    exact⟨sl',e2⟩
  · obtain⟨o',e1⟩:=I.base.there b o e hx
    exact free b o' (neC b o e hx) e1 (I.base.free b o e n hx)
  · obtain⟨o',e1⟩:=I.base.there b o e hx
    exact there b o' (neC b o e hx) e1
  · obtain⟨m1,e1⟩:=I.base.tbls b ps e
    obtain⟨m2,e2⟩:=tbls b _ e1
    exact⟨m1++m2,by rw[e2,Array.append_assoc]⟩
  · obtain⟨m,hn,hl⟩:=I.loc
    refine⟨m,ns m hn,fun i x v e1 e2 e3=>?_⟩
    obtain⟨u,r,l⟩:=hl i x v e1 e2 e3
    refine⟨u,r,?_⟩
    rcases l with l | ⟨k,c,e,z⟩
    · exact .inl l
    · exact .inr ⟨k,c,e,cellK x c e _ z⟩
  · obtain⟨v,z⟩:=I.cell x c e
    exact⟨v,cellK x c e v z⟩
  · obtain⟨m,⟨o,_,_,ho,_⟩,_⟩:=I.loc
    exact free _ o (fun z=>(hch _ z).2.1 rfl) ho I.free
  · obtain⟨v,o,ho,hd⟩:=I.cell x c e
    exact free c o (fun z=>(hch c z).2.2.1 x c e rfl) ho (I.freeC x c e)
  · obtain⟨e,n,ne,nf,d⟩:=I.pin p hp
    have nch:p.1∉ch:=fun z=>(hch p.1 z).2.2.2 p hp rfl
    exact⟨keep p.1 p.2 ne nf nch e n,free p.1 p.2 nch e n,ne,nf,d⟩
theorem Inv.un {t':Nat} (I:Inv X pins σ H s) (u:Un X.fs [] H H' s.heap h') (hok:HOk X.prog X.w H' h'):Inv X pins σ H' { s with heap:=h',toks:=t' }:=by
  obtain⟨m,⟨o,es,ep,ho,r⟩,_⟩:=id I.loc
  obtain⟨sl,hL⟩:=u.any ho I.free (by simp)
  exact I.step (g':=s.gens) (d':=s.drawn) (ch:=[]) (fun _ z=>nomatch z) (fun b o _ hb _ e n=>u.keep b o e n hb (by simp)) (fun b o _ hb _ e n=>u.slot b o e n hb (by simp)) (fun b o _ e n=>u.free b o e n (by simp)) (fun b o _ e=>u.there b o e (by simp)) u.tups u.frzs u.tbls (fun m' hm=>by
    obtain⟨o',es',ep',ho',r'⟩:=hm
    rw[ho]at ho';cases ho'
    exact⟨_,es',ep',hL,r'⟩) hok I.bare
theorem Inv.call {g':Array GenState} {t':Nat} {d':Drawn} {ch:List Addr} (I:Inv X pins σ H s) (u:Un (frs X.stack) ch H H' s.heap h') (hok:HOk X.prog X.w H' h') (hg:AllBare g')
    (hch:∀ b∈ch,(b∈X.ex∨X.s₀.heap.objs.size≤b)∧b≠X.env.locals∧(∀ x c,X.env.cells.lookup x=some c→c≠b)∧∀ p∈X.pn++pins,p.1≠b) :
    Inv X pins σ H' { s with heap:=h',gens:=g',drawn:=d',toks:=t' }:=by
  obtain⟨m,⟨o,es,ep,ho,r⟩,_⟩:=id I.loc
  obtain⟨sl,hL⟩:=u.any ho I.free fun z=>(hch _ z).2.1 rfl
  exact I.step (ch:=ch) hch (fun b o hL hb hc e n=>u.keep b o e n (fun z=>(List.mem_cons.mp (I.stkSub b z)).elim hL hb) hc) (fun b o _ _ hc e n=>u.any e n hc) (fun b o hc e n=>u.free b o e n hc) (fun b o hc e=>u.there b o e hc) u.tups u.frzs u.tbls (fun m' hm=>by
    obtain⟨o',es',ep',ho',r'⟩:=hm
    rw[ho]at ho';cases ho'
    exact⟨_,es',ep',hL,r'⟩) hok hg
theorem Inv.turned {t':Nat} {it:Addr} (I:Inv X pins σ H s) (k:∀ b o,b≠it→s.heap.get? b=some o→h'.get? b=some o) (hn:H it=none) (hL:it≠X.env.locals)
    (h1:it∈X.ex∨X.s₀.heap.objs.size≤it) (h2:∀ x c,X.env.cells.lookup x=some c→c≠it) (h3:∀ p∈X.pn++pins,p.1≠it):Inv X pins σ H { s with heap:=h',toks:=t' }:=by
  have nit:∀ b u,H b=some u→b≠it:=fun b u e z=>by rw[z,hn]at e;cases e
  refine I.step (g':=s.gens) (d':=s.drawn) (ch:=[it]) (fun b hb=>?_) (fun b o _ _ hc e _=>k b o (fun z=>hc (by simp [z])) e) (fun b o _ _ hc e _=>⟨o.slots,k b o (fun z=>hc (by simp [z])) e⟩) (fun _ _ _ _ n=>n)
    (fun b o hc e=>⟨o,k b o (fun z=>hc (by simp [z])) e⟩) (fun _ _ e=>e) (fun _ _ _ e=>e) (fun b ps e=>⟨#[],by rw[e];simp⟩) (fun m hm=>?_) (fun b u e=>?_) I.bare
  · have e:b=it:=by simpa using hb
    subst e
    exact⟨h1,hL,h2,h3⟩
  · obtain⟨o,es,ep,ho,r⟩:=hm
    exact⟨o,es,ep,k _ o (Ne.symm hL) ho,r⟩
  · refine(I.hok b u e).stay (fun c v hc q=>k c v ?_ q) (fun _ q=>q) fun _ _ q=>q
    rcases hc with z | z
    · rw[z];exact nit b u e
    · exact nit c _ z
theorem Inv.tok (I:Inv X pins σ H s) (t:Nat):Inv X pins σ H { s with toks:=t }:=I.un (h':=s.heap) (t':=t) Un.refl I.hok
theorem Inv.kept {t':Nat} (I:Inv X pins σ H s) (k:∀ b u,s.heap.get? b=some u→h'.get? b=some u):Inv X pins σ H { s with heap:=h',toks:=t' }:=I.un (Un.kept k) (I.hok.kept k)
theorem Inv.laid {a:Addr} {o:HO} {t':Nat} (I:Inv X pins σ H s) (k:∀ b u,s.heap.get? b=some u→h'.get? b=some u) (hp:s.heap.objs.size≤a) (new:zbv X.prog X.w (upd H a o) h' a o) :
    Inv X pins σ (upd H a o) { s with heap:=h',toks:=t' }:=I.un (Un.laid k hp (I.hok.fresh hp)) (I.hok.laid k hp new)
theorem Inv.write {x e:Addr} {o:HO} {t':Nat} (I:Inv X pins σ H s) (mu:Mut (H x)) (he:e=x∨H e=some (.own x)) (k:∀ b u,b≠e→s.heap.get? b=some u→h'.get? b=some u) (heo:∃ u,h'.get? e=some u)
    (new:zbv X.prog X.w (upd H x o) h' x o):Inv X pins σ (upd H x o) { s with heap:=h',toks:=t' }:=I.un (Un.write mu he k heo) (I.hok.write mu he k heo new)
theorem Inv.pins_of {pins':List (Addr × Obj)} (I:Inv X pins σ H s) (h:∀ p∈pins',s.heap.get? p.1=some p.2∧H p.1=none∧p.1≠X.env.locals∧p.1∉X.fs∧∀ v,p.2.data≠.cell v):Inv X pins' σ H s :=
  ⟨I.ok,I.os,I.bare,I.base,I.loc,I.cell,I.free,I.freeC,fun p hp=>(List.mem_append.mp hp).elim (fun z=>I.pin p (List.mem_append_left _ z)) (h p),I.hok,I.len⟩
theorem zhx {N:List Str} (hN:N.Nodup) {i j:Nat} {x:Str} (a:N[i]?=some x) (b:N[j]?=some x):i=j:=by
  obtain⟨h1,e1⟩:=List.getElem?_eq_some_iff.mp a
  obtain⟨h2,e2⟩:=List.getElem?_eq_some_iff.mp b
  exact(List.getElem_inj hN).mp (e1.trans e2.symm)
theorem zex {M:Model} {A:Around} {E:Value→Shared→Prop} {i:Nat} {x:Str} {v:V} {u:Value} {Q:Unit→Shared→Prop} (I:Inv X pins σ H s) (hN:X.N.Nodup) (hi:X.N[i]?=some x) (hx:Loc X.env.scope x) (r:zan v u)
    (h:∀ s',Inv X pins (σ.set i (some v)) H s'→(∃ a,Heap.SameBut a s.heap s'.heap∧(a=X.env.locals∨X.env.cells.lookup x=some a))→Q () s') (hf:X.fn x=true∨X.env.scope.names.lookup x=some .local:=by first | exact .inl rfl | exact .inr rfl | assumption):wpAny M A (storeName X.env x u) Q E s:=by
  obtain⟨m,hn,hl⟩:=id I.loc
  have hcls:(X.env.scope.kind == .class||(X.env.scope.kind == .module&&X.env.locals != X.env.globals))=false:=by rw[I.ok.kind];rfl
  have hiσ:i < σ.length:=by rw[I.len];exact(List.getElem?_eq_some_iff.mp hi).1
  have cne:=I.cne
  have tracked:∀ {a:Addr} {h':Heap},(∃ o,s.heap.get? a=some o∧H a=none)→Heap.SameBut a s.heap h'→HOk X.prog X.w H h':=fun {a h'} ha hs b ob e=>by
    obtain⟨_,_,hfree⟩:=ha
    refine(I.hok b ob e).stay (fun c w' hc q=>(hs.2 c ?_).trans q) (fun _ q=>q) fun _ _ q=>q
    rintro rfl
    rcases hc with rfl | hc
    · rw[hfree]at e;cases e
    · rw[hfree]at hc;cases hc
  rcases hx with hk | hk
  · refine wpAny_storeName_local hk hn (fun h' hn' hs=>?_) hcls
    obtain⟨oL,_,_,hoL,_⟩:=id hn
    refine h _ ⟨I.ok,I.os,I.bare,⟨fun b o e n hb hx=>?_,fun b o e n hb hx=>?_,I.base.free,fun b o e hx=>?_,I.base.tups,I.base.frzs,I.base.tbls⟩,⟨_,hn',fun j y v' e1 e2 e3=>?_⟩,fun y c e=>?_,I.free,I.freeC,fun p hp=>?_,tracked ⟨oL,hoL,I.free⟩ hs,by simpa using I.len⟩ ⟨_,hs,.inl rfl⟩
    · exact(hs.2 b (Nat.ne_of_lt (Nat.lt_of_lt_of_le (Heap.lt_size e) I.ok.above))).trans (I.base.keep b o e n hb hx)
    · obtain⟨sl,e1⟩:=I.base.slot b o e n hb hx
      exact⟨sl,(hs.2 b (Nat.ne_of_lt (Nat.lt_of_lt_of_le (Heap.lt_size e) I.ok.above))).trans e1⟩
    · obtain⟨o',e1⟩:=I.base.there b o e hx
      exact⟨o',(hs.2 b (Nat.ne_of_lt (Nat.lt_of_lt_of_le (Heap.lt_size e) I.ok.above))).trans e1⟩
    · by_cases hj:j=i
      · subst hj
        rw[hi]at e1;cases e1
        rw[List.getElem?_set_self hiσ]at e2
        cases e2
        exact⟨u,r,.inl ⟨hk,by simp⟩⟩
      · rw[List.getElem?_set_ne (Ne.symm hj)]at e2
        obtain⟨u',r',q⟩:=hl j y v' e1 e2 e3
        refine⟨u',r',?_⟩
        rcases q with ⟨k,e⟩ | ⟨k,c,e,z⟩
        · refine .inl ⟨k,?_⟩
          have:y≠x:=fun e=>hj (zhx hN e1 (e ▸ hi))
          simp [this,e]
        · exact .inr ⟨k,c,e,z.sameBut hs (cne y c e)⟩
    · obtain⟨w',z⟩:=I.cell y c e
      exact⟨w',z.sameBut hs (cne y c e)⟩
    · obtain⟨e,n,ne,nf,d⟩:=I.pin p hp
      exact⟨(hs.2 p.1 ne).trans e,n,ne,nf,d⟩
  · have hfn:X.fn x=true:=by
      rcases hf with z | z
      · exact z
      · rw[z]at hk;cases hk
    obtain⟨c,hc⟩:=I.ok.has x (.inl hk)
    obtain⟨w',z⟩:=I.cell x c hc
    refine wpAny_storeName_cell I.ok.kind hk hc z (fun h' hc' hs=>?_)
    obtain⟨oc,hoc,hocd⟩:=id z
    refine h { s with heap:=h' } ⟨I.ok,I.os,I.bare,⟨fun b o e n hb hx=>?_,fun b o e n hb hx=>?_,I.base.free,fun b o e hx=>?_,I.base.tups,I.base.frzs,I.base.tbls⟩,⟨m,hn.sameBut hs (Ne.symm (cne x c hc)),fun j y v' e1 e2 e3=>?_⟩,fun y c' e=>?_,I.free,I.freeC,fun p hp=>?_,tracked ⟨oc,hoc,I.freeC x c hc⟩ hs,by simpa using I.len⟩ ⟨c,hs,.inr hc⟩
    · exact(hs.2 b (Nat.ne_of_lt (Nat.lt_of_lt_of_le (Heap.lt_size e) (I.ok.cab x c hfn hc)))).trans (I.base.keep b o e n hb hx)
    · obtain⟨sl,e1⟩:=I.base.slot b o e n hb hx
      exact⟨sl,(hs.2 b (Nat.ne_of_lt (Nat.lt_of_lt_of_le (Heap.lt_size e) (I.ok.cab x c hfn hc)))).trans e1⟩
    · obtain⟨o',e1⟩:=I.base.there b o e hx
      exact⟨o',(hs.2 b (Nat.ne_of_lt (Nat.lt_of_lt_of_le (Heap.lt_size e) (I.ok.cab x c hfn hc)))).trans e1⟩
    · by_cases hj:j=i
      · subst hj
        rw[hi]at e1;cases e1
        rw[List.getElem?_set_self hiσ]at e2
        cases e2
        exact⟨u,r,.inr ⟨.inl hk,c,hc,hc'⟩⟩
      · rw[List.getElem?_set_ne (Ne.symm hj)]at e2
        obtain⟨u',r',q⟩:=hl j y v' e1 e2 e3
        refine⟨u',r',?_⟩
        rcases q with q | ⟨k,c',e,z'⟩
        · exact .inl q
        · refine .inr ⟨k,c',e,z'.sameBut hs ?_⟩
          rintro rfl
          exact hj (zhx hN e1 (I.ok.inj _ _ _ e hc ▸ hi))
    · by_cases hcc:c'=c
      · subst hcc;exact⟨_,hc'⟩
      · obtain⟨w2,z2⟩:=I.cell y c' e
        exact⟨w2,z2.sameBut hs hcc⟩
    · obtain⟨e,n,ne,nf,d⟩:=I.pin p hp
      refine⟨(hs.2 p.1 ?_).trans e,n,ne,nf,d⟩
      intro q
      rw[q,hoc]at e
      have q':oc=p.2:=Option.some.inj e
      exact d w' (by rw[←q'];exact hocd)
theorem zg4 {M:Model} {A:Around} {E:Value→Shared→Prop} {i:Nat} {x:Str} {v:V} {u:Value} {Q:Unit→Shared→Prop} (I:Inv X pins σ H s) (hN:X.N.Nodup) (hi:X.N[i]?=some x) (hx:Loc X.env.scope x) (r:zan v u)
    (h:∀ s',Inv X pins (σ.set i (some v)) H s'→Q () s') (hf:X.fn x=true∨X.env.scope.names.lookup x=some .local:=by first | exact .inl rfl | exact .inr rfl | assumption):wpAny M A (storeName X.env x u) Q E s :=
  zex I hN hi hx r (fun s' I' _=>h s' I') hf
theorem Inv.call' {s':Shared} {ch:List Addr} (I:Inv X pins σ H s) (ho:s'.os=s.os) (u:Un (frs X.stack) ch H H' s.heap s'.heap) (hok:HOk X.prog X.w H' s'.heap) (hg:AllBare s'.gens)
    (hch:∀ b∈ch,(b∈X.ex∨X.s₀.heap.objs.size≤b)∧b≠X.env.locals∧(∀ x c,X.env.cells.lookup x=some c→c≠b)∧∀ p∈X.pn++pins,p.1≠b):Inv X pins σ H' s':=by
  obtain⟨h',g',d',t',o'⟩:=s'
  have e:o'=s.os:=ho
  subst e
  exact I.call (g':=g') (t':=t') (d':=d') u hok hg hch
end
abbrev XK:=Value→Option Addr→Hp→Prop
abbrev St:=List (Option V)
abbrev VK:=V→Hp→Prop
abbrev TE:=St→Hp→VK→Prop
abbrev TT:=St→Hp→(Bool→Hp→Prop)→Prop
abbrev TA:=St→Hp→(List V→Hp→Prop)→Prop
structure zaW where
  nx:St→Hp→Prop
  rt:VK
  bk:St→Hp→Prop:=fun _ _=>False
  ct:St→Hp→Prop:=fun _ _=>False
abbrev TS:=zaW→St→Hp→Prop
def EP (X:Cx) (pins:List (Addr × Obj)) (σ:St) (Q:VK) (u:Value) (s':Shared):Prop:=∃ v H',Inv X pins σ H' s'∧zan v u∧Q v H'
def TP (X:Cx) (pins:List (Addr × Obj)) (σ:St) (Q:Bool→Hp→Prop) (b:Bool) (s':Shared):Prop:=∃ H',Inv X pins σ H' s'∧Q b H'
def AP (X:Cx) (pins:List (Addr × Obj)) (σ:St) (Q:List V→Hp→Prop) (us:List Value) (s':Shared):Prop:=∃ vs H',Inv X pins σ H' s'∧aH vs us∧Q vs H'
def SP (X:Cx) (pins:List (Addr × Obj)) (D:zaW) (f:Flow) (s':Shared):Prop :=
  match f with
  | .next=>∃ σ' H',Inv X pins σ' H' s'∧D.nx σ' H'
  | .brk=>∃ σ' H',Inv X pins σ' H' s'∧D.bk σ' H'
  | .cont=>∃ σ' H',Inv X pins σ' H' s'∧D.ct σ' H'
  | .ret u=>∃ v σ' H',Inv X pins σ' H' s'∧zan v u∧D.rt v H'
def PE (X:Cx) (e:Expr) (t:TE):Prop :=
  ∀(pins:List (Addr × Obj)) (s:Shared) (σ:St) (H:Hp) (Q:VK),Inv X pins σ H s→t σ H Q→wpAny (model X.prog X.w) X.A (eval e X.env) (EP X pins σ Q) X.xe s
def PT (X:Cx) (e:Expr) (t:TT):Prop :=
  ∀(pins:List (Addr × Obj)) (s:Shared) (σ:St) (H:Hp) (Q:Bool→Hp→Prop),Inv X pins σ H s→t σ H Q→wpAny (model X.prog X.w) X.A (isTrue e X.env (eval e X.env)) (TP X pins σ Q) X.xe s
def PW (X:Cx) (e:Expr) (t:TT):Prop :=
  ∀(whole:Sem Value) (pins:List (Addr × Obj)) (s:Shared) (σ:St) (H:Hp) (Q:Bool→Hp→Prop),Inv X pins σ H s→t σ H Q→wpAny (model X.prog X.w) X.A (isTrue e X.env whole) (TP X pins σ Q) X.xe s
theorem PW.pt {X:Cx} {e:Expr} {t:TT} (h:PW X e t):PT X e t:=h _
def PA (X:Cx) (es:List Expr) (t:TA):Prop :=
  ∀(pos:Pos) (pins:List (Addr × Obj)) (s:Shared) (σ:St) (H:Hp) (Q:List V→Hp→Prop),Inv X pins σ H s→t σ H Q→wpAny (model X.prog X.w) X.A (spliced (backTo pos (starEach es X.env))) (AP X pins σ Q) X.xe s
def PS (X:Cx) (st:Stmt) (t:TS):Prop :=
  ∀(pins:List (Addr × Obj)) (s:Shared) (σ:St) (H:Hp) (D:zaW),Inv X pins σ H s→t D σ H→wpAny (model X.prog X.w) X.A (exec st X.env) (SP X pins D) X.xe s
def PSs (X:Cx) (st:List Stmt) (t:TS):Prop :=
  ∀(pins:List (Addr × Obj)) (s:Shared) (σ:St) (H:Hp) (D:zaW),Inv X pins σ H s→t D σ H→wpAny (model X.prog X.w) X.A (execs st X.env) (SP X pins D) X.xe s
theorem thn {α:Type} {t:Sem α} {Q Q':α→Shared→Prop} {M:Model} {A:Around} {E:Value→Shared→Prop} {s:Shared} (h:wpAny M A t Q E s) (hQ:∀ a s,Q a s→Q' a s):wpAny M A t Q' E s:=wpAny_mono h hQ fun _ _ x=>x
end L2
namespace L2
open PySem PySem.Spec PyProof.Rows
section
variable {X:Cx}
theorem bin {a b:Expr} {ta tb:TE} (ha:PE X a ta) (hb:PE X b tb) {pins:List (Addr × Obj)} {s:Shared} {σ:St} {H:Hp} {R:V→V→Hp→Prop} (I:Inv X pins σ H s) (h:ta σ H fun x H1=>tb σ H1 fun y H2=>R x y H2)
    {α:Type} {Q:α→Shared→Prop} {f:Value→Value→Sem α}
    (hf:∀ v u s2 x y H2,Inv X pins σ H2 s2→zan x v→zan y u→R x y H2→wpAny (model X.prog X.w) X.A (f v u) Q X.xe s2) :
    wpAny (model X.prog X.w) X.A (eval a X.env) (fun v s₁=>wpAny (model X.prog X.w) X.A (eval b X.env) (fun u s₂=>wpAny (model X.prog X.w) X.A (f v u) Q X.xe s₂) X.xe s₁) X.xe s:=by
  refine thn (ha pins s σ H _ I h) fun v s1 ⟨x,H1,I1,r1,q1⟩=>?_
  refine thn (hb pins s1 σ H1 _ I1 q1) fun u s2 ⟨y,H2,I2,r2,q2⟩=>?_
  exact hf v u s2 x y H2 I2 r1 r2 q2
def tVar (i:Nat):TE:=fun σ H Q=>∃ v,σ[i]?=some (some v)∧Q v H
def tC (v:V):TE:=fun _ H Q=>Q v H
theorem pe_var {i:Nat} {x:Str} {pos:Pos} (hN:X.N[i]?=some x) (hv:Vis X.env.scope x) (hd:(x == ("__debug__":Str))=false:=by decide) (hcd:(x == ("__classdict__":Str))=false:=by decide):PE X (.Name x pos) (tVar i):=by
  intro pins s σ H Q I h
  obtain⟨v,e,h⟩:=h
  obtain⟨m,hn,hl⟩:=I.loc
  obtain⟨u,r,l⟩:=hl i x v hN e hv
  have fin:EP X pins σ Q u s:=⟨v,H,I,r,h⟩
  rcases l with ⟨hk,hm⟩ | ⟨hk,c,hc,hcell⟩
  · exact wpAny_Name (wpAny_loadName_local I.ok.kind hk hn hm fin) hd
  · rcases hk with hk | hk
    · exact wpAny_Name (wpAny_loadName_cell I.ok.kind hk hc hcell fin) hd
    · exact wpAny_Name (wpAny_loadName_free I.ok.kind hk hc hcell fin hcd) hd
theorem ah {i j pos}:PE X (.Constant (.int i) j pos) (tC (.int i)):=fun _ _ _ H _ I h=>wpAny_Constant_int ⟨.int i,H,I.tok _,⟨_,rfl⟩,h⟩
theorem zeM {b j pos}:PE X (.Constant (.bool b) j pos) (tC (.bl b)):=fun _ _ _ H _ I h=>Constant_bool ⟨.bl b,H,I,rfl,h⟩
theorem zdE {j pos}:PE X (.Constant .none j pos) (tC .non):=fun _ _ _ H _ I h=>Constant_none ⟨.non,H,I,rfl,h⟩
theorem aD {x j pos}:PE X (.Constant (.str x) j pos) (tC (.str x)):=fun _ _ _ H _ I h=>Calls.Constant_str ⟨.str x,H,I.tok _,⟨_,rfl⟩,h⟩
def Gl (X:Cx) (x:Str):Prop:=X.env.kindOf x=some .globalImplicit
theorem zdN {E:Value→Shared→Prop} {pins:List (Addr × Obj)} {s:Shared} {σ:St} {H:Hp} {x:Str} {u:Value} {pos:Pos} {Q:Value→Shared→Prop} (I:Inv X pins σ H s) (hg:Gl X x) (hm:X.mg x=some u) (h:Q u s)
    (hd:(x == ("__debug__":Str))=false:=by decide):wpAny (model X.prog X.w) X.A (eval (.Name x pos) X.env) Q E s :=
  Calls.Name_function_global I.ok.kind hg (Calls.loadGlobal_global (by rw[I.ok.glob];exact I.mod.glob.keeps I.bk) hm h) hd
theorem zfs {E:Value→Shared→Prop} {pins:List (Addr × Obj)} {s:Shared} {σ:St} {H:Hp} {x:Str} {u:Value} {pos:Pos} {Q:Value→Shared→Prop} (I:Inv X pins σ H s) (hg:Gl X x) (hm:X.mg x=none) (hv:bootBuiltins x=some u) (h:Q u s)
    (hn:x≠"__name__":=by decide) (hd:(x == ("__debug__":Str))=false:=by decide):wpAny (model X.prog X.w) X.A (eval (.Name x pos) X.env) Q E s:=by
  obtain⟨mb,h1,h2⟩:=I.mod.blt
  exact Calls.Name_function_global I.ok.kind hg (Calls.loadGlobal_builtin (by rw[I.ok.glob];exact I.mod.glob.keeps I.bk) hm (by rw[I.ok.blt];exact h1.keeps I.bk) ((h2 x hn).trans hv) h) hd
theorem za8 {x:Str} {v:V} {u:Value} {pos:Pos} (hg:Gl X x) (hm:X.mg x=some u) (r:zan v u) (hd:(x == ("__debug__":Str))=false:=by decide):PE X (.Name x pos) (tC v) :=
  fun _ _ _ H _ I h=>zdN I hg hm ⟨v,H,I,r,h⟩ hd
theorem zk8 {x:Str} {v:V} {u:Value} {pos:Pos} (hg:Gl X x) (hm:X.mg x=none) (hv:bootBuiltins x=some u) (r:zan v u) (hn:x≠"__name__":=by decide) (hd:(x == ("__debug__":Str))=false:=by decide):PE X (.Name x pos) (tC v) :=
  fun _ _ _ H _ I h=>zfs I hg hm hv ⟨v,H,I,r,h⟩ hn hd
variable {a b:Expr} {ta tb:TE} {pos:Pos}
def PC (X:Cx) (op:CmpOp) (a b:Expr) (t:TE):Prop :=
  ∀(pins:List (Addr × Obj)) (s:Shared) (σ:St) (H:Hp) (Q:VK),Inv X pins σ H s→t σ H Q →
    wpAny (model X.prog X.w) X.A (eval a X.env) (fun v s₁=>wpAny (model X.prog X.w) X.A (eval b X.env) (fun u s₂=>wpAny (model X.prog X.w) X.A (compareOp op v u) (EP X pins σ Q) X.xe s₂) X.xe s₁) X.xe s
def tB (t:TE):TT:=fun σ H Q=>t σ H fun x H1=>∃ c,x=.bl c∧Q c H1
theorem pt_cmp {op:CmpOp} {t:TE} (h:PC X op a b t) (h1:behindInMarks op b=false:=by first | exact nobehind _ (by decide) (by decide) | rfl):PT X (.Compare a [op] [b] pos) (tB t):=by
  intro pins s σ H Q I hw
  refine wpAny_isTrue_Compare1 (thn (h pins s σ H _ I hw) fun v s1 h1=>thn h1 fun u s2 h2=>thn h2 fun c s3 ⟨x,H1,I1,r1,q1⟩=>?_) h1
  obtain⟨d,rfl,q⟩:=q1
  cases r1
  exact wpAny_truthy_bool ⟨H1,I1,q⟩
theorem zbh {e:Expr} {t:TE} (h:PE X e t) (he:∀ whole,isTrue e X.env whole=(do let v ←whole;standAt e.pos;holding [v] (truthy v)):=by intro _;rfl):PT X e (tB t):=by
  intro pins s σ H Q I hw
  refine isTrue_plain (thn (h pins s σ H _ I hw) fun v s1 ⟨x,H1,I1,r1,q1⟩=>?_) (he _)
  obtain⟨d,rfl,q⟩:=q1
  cases r1
  exact wpAny_truthy_bool ⟨H1,I1,q⟩
variable {tA tB':TT} {zbR:List Expr}
def tAnd (t u:TT):TT:=fun σ H Q=>t σ H fun c H1=>if c=true then u σ H1 Q else Q false H1
def tOr (t u:TT):TT:=fun σ H Q=>t σ H fun c H1=>if c=true then Q true H1 else u σ H1 Q
def tNot (t:TT):TT:=fun σ H Q=>t σ H fun c H1=>Q (!c) H1
theorem zcY (ha:PT X a tA):PW X (.BoolOp .And [a] pos) tA:=by
  intro wh pins s σ H Q I h
  refine isTrue_and (thn (ha pins s σ H Q I h) fun c s1 e=>?_)
  cases c with
  | true=>exact isTrue_and_nil e
  | false=>exact e
theorem zi9 (ha:PT X a tA):PW X (.BoolOp .Or [a] pos) tA:=by
  intro wh pins s σ H Q I h
  refine isTrue_or (thn (ha pins s σ H Q I h) fun c s1 e=>?_)
  cases c with
  | false=>exact isTrue_or_nil e
  | true=>exact e
theorem zcJ (ha:PT X a tA) (hb:PW X (.BoolOp .And (b :: zbR) pos) tB'):PW X (.BoolOp .And (a :: b :: zbR) pos) (tAnd tA tB'):=by
  intro wh pins s σ H Q I h
  refine isTrue_and (thn (ha pins s σ H _ I h) fun c s1 ⟨H1,I1,q1⟩=>?_)
  cases c with
  | true=>exact hb wh pins s1 σ H1 Q I1 q1
  | false=>exact⟨H1,I1,q1⟩
theorem pw_or (ha:PT X a tA) (hb:PW X (.BoolOp .Or (b :: zbR) pos) tB'):PW X (.BoolOp .Or (a :: b :: zbR) pos) (tOr tA tB'):=by
  intro wh pins s σ H Q I h
  refine isTrue_or (thn (ha pins s σ H _ I h) fun c s1 ⟨H1,I1,q1⟩=>?_)
  cases c with
  | true=>exact⟨H1,I1,q1⟩
  | false=>exact hb wh pins s1 σ H1 Q I1 q1
theorem zbS (ha:PT X a tA):PT X (.UnaryOp .Not a pos) (tNot tA):=by
  intro pins s σ H Q I h
  exact isTrue_not (ha pins s σ H (fun c H1=>Q (!c) H1) I h)
def tAndV (ta tb:TE):TE:=fun σ H Q=>ta σ H fun x H1=>∃ c,x=.bl c∧if c=true then tb σ H1 Q else Q (.bl false) H1
theorem zfr {op} {t:TE} (h:PE X a t):PE X (.BoolOp op [a] pos) t:=fun pins s σ H Q I hw=>BoolOp_one (h pins s σ H Q I hw)
theorem zc5 (ha:PE X a ta) (hb:PE X (.BoolOp .And (b :: zbR) pos) tb):PE X (.BoolOp .And (a :: b :: zbR) pos) (tAndV ta tb):=by
  intro pins s σ H Q I h
  refine BoolOp_and (thn (ha pins s σ H _ I h) fun v s1 ⟨x,H1,I1,r1,q1⟩=>?_)
  obtain⟨c,rfl,q1⟩:=q1
  cases r1
  refine wpAny_truthy_bool ?_
  cases c with
  | true=>exact hb pins s1 σ H1 Q I1 q1
  | false=>exact⟨.bl false,H1,I1,rfl,q1⟩
def tIf (t:TT) (ta tb:TE):TE:=fun σ H Q=>t σ H fun c H1=>if c=true then ta σ H1 Q else tb σ H1 Q
theorem zki {c:Expr} (hc:PT X c tA) (ha:PE X a ta) (hb:PE X b tb):PE X (.IfExp c a b pos) (tIf tA ta tb):=by
  intro pins s σ H Q I h
  refine wpAny_IfExp (thn (hc pins s σ H _ I h) fun d s1 ⟨H1,I1,q1⟩=>?_)
  cases d with
  | true=>exact ha pins s1 σ H1 Q I1 q1
  | false=>exact hb pins s1 σ H1 Q I1 q1
end
end L2
namespace L2
open PySem PySem.Spec PyProof.Rows
def SqL (K:PySem.W.Frag) (H:Hp) (a:Addr) (xs:List V):Prop :=
  Rd H a (.lst xs) ∨
    ∃(o:Obj) (its:Array Value) (n:Nat),K.lookup a=some o∧o.cls=.type "list"∧o.dict=none∧o.data=.seq its n∧its.size≤sizeLine∧aH xs its.toList
def SqT (K:PySem.W.Frag) (H:Hp) (a:Addr) (xs:List V):Prop :=
  Rd H a (.tup xs) ∨
    ∃(o:Obj) (its:Array Value) (n:Nat),K.lookup a=some o∧o.cls=.type "tuple"∧o.data=.seq its n∧its.size≤sizeLine∧aH xs its.toList
def absV:Value→Option V
  | .none=>some .non
  | .bool b=>some (.bl b)
  | .int i _=>some (.int i)
  | .str x _=>some (.str x)
  | .bytes b _=>some (.byt b)
  | .float b _=>some (.flt b)
  | .ref a=>some (.ref a)
  | .type n=>some (.ty n)
  | _=>none
theorem zan.abs {x:V} {u:Value} (r:zan x u):absV u=some x:=by
  cases x with
  | non=>cases r;rfl
  | bl _=>cases r;rfl
  | int _=>obtain⟨t,rfl⟩:=r;rfl
  | str _=>obtain⟨t,rfl⟩:=r;rfl
  | byt _=>obtain⟨t,rfl⟩:=r;rfl
  | flt _=>obtain⟨t,rfl⟩:=r;rfl
  | ref _=>cases r;rfl
  | ty _=>cases r;rfl
theorem zan.inj {x y:V} {u:Value} (r:zan x u) (q:zan y u):x=y:=Option.some.inj (r.abs.symm.trans q.abs)
theorem aH.inj:∀ {xs ys:List V} {us:List Value},aH xs us→aH ys us→xs=ys
  | _,_,_,.nil,.nil=>rfl
  | _,_,_,.cons r t,.cons r' t'=>by rw[r.inj r',aH.inj t t']
section
variable {X:Cx} {pins:List (Addr × Obj)} {σ:St} {H:Hp} {s:Shared} {a:Addr} {xs ys:List V}
theorem SqL.of {K:PySem.W.Frag} (h:H a=some (.lst xs)):SqL K H a xs:=.inl (.inl h)
theorem SqT.of {K:PySem.W.Frag} (h:H a=some (.tup xs)):SqT K H a xs:=.inl (.inl h)
theorem Inv.list (I:Inv X pins σ H s) (h:SqL X.K H a xs):∃ its:List Value,aH xs its∧PlainL s.heap a its.toArray∧xs.length≤sizeLine:=by
  rcases h with h | ⟨o,its,n,hk,hc,hd,hs,hz,r⟩
  · obtain⟨z,its,n,r,e⟩:=h.ok I.hok
    exact⟨its,r,⟨_,n,e,rfl,rfl,rfl⟩,z⟩
  · refine⟨its.toList,r,⟨o,n,I.kIn a o hk,hc,hd,by simpa using hs⟩,?_⟩
    have e:=r.length
    simp only[Array.length_toList]at e
    omega
theorem Inv.tuple (I:Inv X pins σ H s) (h:SqT X.K H a xs):∃ its:List Value,aH xs its∧IsTup s.heap a its.toArray∧xs.length≤sizeLine:=by
  rcases h with h | ⟨o,its,n,hk,hc,hs,hz,r⟩
  · obtain⟨z,its,r,p⟩:=h.ok I.hok
    exact⟨its,r,p,z⟩
  · refine⟨its.toList,r,⟨o,I.kIn a o hk,hc,n,by simpa using hs⟩,?_⟩
    have e:=r.length
    simp only[Array.length_toList]at e
    omega
theorem Inv.list_inj (I:Inv X pins σ H s) (h:SqL X.K H a xs) (h':SqL X.K H a ys):xs=ys:=by
  obtain⟨its,r,⟨o,n,e,_,_,d⟩,_⟩:=I.list h
  obtain⟨its',r',⟨o',n',e',_,_,d'⟩,_⟩:=I.list h'
  rw[e]at e';cases e'
  rw[d]at d'
  injection d' with d1 _
  have:its=its':=by simpa using congrArg Array.toList d1
  subst this
  exact r.inj r'
theorem Inv.tuple_inj (I:Inv X pins σ H s) (h:SqT X.K H a xs) (h':SqT X.K H a ys):xs=ys:=by
  obtain⟨its,r,⟨o,e,_,n,d⟩,_⟩:=I.tuple h
  obtain⟨its',r',⟨o',e',_,n',d'⟩,_⟩:=I.tuple h'
  rw[e]at e';cases e'
  rw[d]at d'
  injection d' with d1 _
  have:its=its':=by simpa using congrArg Array.toList d1
  subst this
  exact r.inj r'
end
abbrev Cx.wish (X:Cx) (E:Value→Shared→Prop):Cx:={ X with xe:=E }
abbrev Cx.nox (X:Cx):Cx:=X.wish fun _ _=>False
theorem Cx.Ok.wish {X:Cx} (ok:X.Ok) (E:Value→Shared→Prop):(X.wish E).Ok :=
  ⟨ok.mod,ok.kind,ok.glob,ok.blt,ok.above,ok.inj,ok.has,ok.cab,ok.hd,ok.frames,ok.stk,ok.exf,ok.bs,ok.bsz,ok.noex,ok.exfs,ok.funs,ok.frf⟩
theorem Cx.Ok.unwish {X:Cx} {E:Value→Shared→Prop} (ok:(X.wish E).Ok):X.Ok :=
  ⟨ok.mod,ok.kind,ok.glob,ok.blt,ok.above,ok.inj,ok.has,ok.cab,ok.hd,ok.frames,ok.stk,ok.exf,ok.bs,ok.bsz,ok.noex,ok.exfs,ok.funs,ok.frf⟩
section
variable {X:Cx} {pins:List (Addr × Obj)} {σ:St} {H:Hp} {s:Shared} {E:Value→Shared→Prop}
theorem Inv.wish (I:Inv X pins σ H s) (E:Value→Shared→Prop):Inv (X.wish E) pins σ H s:=⟨I.ok.wish E,I.os,I.bare,I.base,I.loc,I.cell,I.free,I.freeC,I.pin,I.hok,I.len⟩
theorem Inv.unwish (I:Inv (X.wish E) pins σ H s):Inv X pins σ H s:=⟨I.ok.unwish,I.os,I.bare,I.base,I.loc,I.cell,I.free,I.freeC,I.pin,I.hok,I.len⟩
theorem SP.unwish {D:zaW} {f:Flow} {s':Shared} (h:SP (X.wish E) pins D f s'):SP X pins D f s':=by
  cases f with
  | next=>obtain⟨σ',H',I,q⟩:=h;exact⟨σ',H',I.unwish,q⟩
  | brk=>obtain⟨σ',H',I,q⟩:=h;exact⟨σ',H',I.unwish,q⟩
  | cont=>obtain⟨σ',H',I,q⟩:=h;exact⟨σ',H',I.unwish,q⟩
  | ret u=>obtain⟨v,σ',H',I,r,q⟩:=h;exact⟨v,σ',H',I.unwish,r,q⟩
theorem PSs.nox {st:List Stmt} {t:TS} (h:PSs X.nox st t):PSs X st t:=fun pins s σ H D I hw =>
  wpAny_mono (h pins s σ H D (I.wish _) hw) (fun _ _ q=>q.unwish) fun _ _ z=>False.elim z
end
section
variable {X:Cx} {st:Stmt} {zbR:List Stmt} {t u:TS} {e:Expr} {te:TE} {pos:Pos}
def tNext:TS:=fun D σ H=>D.nx σ H
def tSeq (t u:TS):TS:=fun D σ H=>t { D with nx:=u D } σ H
theorem zab:PSs X [] tNext:=fun _ _ σ H _ I h=>wpAny_execs_nil ⟨σ,H,I,h⟩
theorem ai (h1:PS X st t) (h2:PSs X zbR u):PSs X (st :: zbR) (tSeq t u):=by
  intro pins s σ H D I h
  refine wpAny_execs_cons (thn (h1 pins s σ H { D with nx:=u D } I h) fun f s1 q=>?_)
  cases f with
  | next =>
    obtain⟨σ',H',I',q⟩:=q
    exact h2 pins s1 σ' H' D I' q
  | ret v=>exact q
  | brk=>exact q
  | cont=>exact q
theorem ak (h1:PS X st t):PSs X [st] t:=by
  intro pins s σ H D I h
  refine wpAny_execs_cons (thn (h1 pins s σ H D I h) fun f s1 q=>?_)
  cases f with
  | next=>exact wpAny_execs_nil q
  | ret v=>exact q
  | brk=>exact q
  | cont=>exact q
theorem Inv.quiet {pins:List (Addr × Obj)} {σ:St} {H:Hp} {s:Shared} (I:Inv X pins σ H s):interactive X.env=false:=by simp [interactive,I.ok.kind]
def tDrop (te:TE):TS:=fun D σ H=>te σ H fun _ H1=>D.nx σ H1
theorem zaM (he:PE X e te) (hs:swapsWith e none pos.line X.env=pure false:=by rfl):PS X (.Expr e pos) (tDrop te):=by
  intro pins s σ H D I h
  exact wpAny_Expr_any (thn (he pins s σ H _ I h) fun v s1 ⟨x,H1,I1,r1,q1⟩=>⟨σ,H1,I1,q1⟩) I.quiet hs
def tRet (te:TE):TS:=fun D σ H=>te σ H D.rt
theorem aE (he:PE X e te):PS X (.Return (some e) pos) (tRet te):=by
  intro pins s σ H D I h
  exact wpAny_Return_some (thn (he pins s σ H _ I h) fun v s1 ⟨x,H1,I1,r1,q1⟩=>⟨x,σ,H1,I1,r1,q1⟩)
def tIfS (c:TT) (t u:TS):TS:=fun D σ H=>c σ H fun b H1=>if b=true then t D σ H1 else u D σ H1
theorem zal {c:Expr} {a b:List Stmt} {tc:TT} (hc:PT X c tc) (ha:PSs X a t) (hb:PSs X b u):PS X (.If c a b pos) (tIfS tc t u):=by
  intro pins s σ H D I h
  refine wpAny_If (thn (hc pins s σ H _ I h) fun d s1 ⟨H1,I1,q1⟩=>?_)
  cases d with
  | true=>exact ha pins s1 σ H1 D I1 q1
  | false=>exact hb pins s1 σ H1 D I1 q1
def tNever:TS:=fun _ _ _=>False
end
abbrev TG:=V→St→Hp→(St→Hp→Prop)→Prop
def PG (X:Cx) (target:Expr) (t:TG):Prop :=
  ∀(pins:List (Addr × Obj)) (s:Shared) (σ:St) (H:Hp) (v:V) (u:Value) (Q:St→Hp→Prop),Inv X pins σ H s→zan v u→t v σ H Q →
    wpAny (model X.prog X.w) X.A (assign target X.env u) (fun _ s'=>∃ σ' H',Inv X pins σ' H' s'∧Q σ' H') X.xe s
section
variable {X:Cx} {pos:Pos}
def zdk (i:Nat):TG:=fun v σ H Q=>Q (σ.set i (some v)) H
theorem zaP {i:Nat} {x:Str} (hN:X.N.Nodup) (hi:X.N[i]?=some x) (hx:Loc X.env.scope x) (hf:X.fn x=true∨X.env.scope.names.lookup x=some .local:=by first | exact .inl rfl | exact .inr rfl | assumption):PG X (.Name x pos) (zdk i):=by
  intro pins s σ H v u Q I r h
  exact wpAny_assign_Name (zg4 I hN hi hx r (fun s' I'=>⟨_,H,I',h⟩) hf)
def tAsg (te:TE) (g:TG):TS:=fun D σ H=>te σ H fun x H1=>g x σ H1 D.nx
theorem aA {i:Nat} {x:Str} {e:Expr} {te:TE} {pos':Pos} (hN:X.N.Nodup) (hi:X.N[i]?=some x) (hx:Loc X.env.scope x) (he:PE X e te) (hs:swapsWith e (some (.Name x pos')) pos.line X.env=pure false:=by rfl) (hf:X.fn x=true∨X.env.scope.names.lookup x=some .local:=by first | exact .inl rfl | exact .inr rfl | assumption) :
    PS X (.Assign [.Name x pos'] e pos) (tAsg te (zdk i)):=by
  intro pins s σ H D I h
  refine wpAny_Assign_Name (thn (he pins s σ H _ I h) fun v s1 ⟨y,H1,I1,r1,q1⟩=>?_) hs
  exact zg4 I1 hN hi hx r1 (fun s2 I2=>⟨_,H1,I2,q1⟩) hf
end
section
variable {X:Cx} {pos:Pos}
def tWhile (c:TT) (tb:TS):TS:=fun D σ H=>∃ W:Nat→St→Hp→Prop,(∃ m,W m σ H)∧∀ m σ H,W m σ H →
  c σ H fun b H1=>if b=true then ∃ N:St→Hp→Prop,(∀ σ' H',N σ' H'→∃ m',m' < m∧W m' σ' H')∧tb { D with nx:=N,ct:=N,bk:=D.nx } σ H1 else D.nx σ H1
theorem zhs {c:Expr} {body:List Stmt} {tc:TT} {tb:TS} (hp:PassesOwn (model X.prog X.w) X.A X.env X.xe) (hc:PT X c tc) (hb:PSs X body tb):PS X (.While c body [] pos) (tWhile tc tb):=by
  intro pins s σ H D I h
  obtain⟨W,⟨m0,w0⟩,turn⟩:=h
  refine wpAny_While (codeAny_whileLoop (fun n s'=>∃ σ' H',Inv X pins σ' H' s'∧W n σ' H') ?_ m0 ⟨σ,H,I,w0⟩)
  rintro n s1 ⟨σ1,H1,I1,w1⟩
  refine wpAny_passesOwn hp (thn (hc pins s1 σ1 H1 _ I1 (turn n σ1 H1 w1)) fun b s2 ⟨H2,I2,q2⟩=>?_)
  cases b with
  | true =>
    obtain⟨N,hN,q2⟩:=q2
    rw[if_pos rfl]
    refine wpAny_passesOwn hp (thn (hb pins s2 σ1 H2 _ I2 q2) fun f s3 q3=>?_)
    cases f with
    | next =>
      obtain⟨σ3,H3,I3,n3⟩:=q3
      obtain⟨m',hm,w3⟩:=hN σ3 H3 n3
      exact⟨m',hm,σ3,H3,I3,w3⟩
    | cont =>
      obtain⟨σ3,H3,I3,n3⟩:=q3
      obtain⟨m',hm,w3⟩:=hN σ3 H3 n3
      exact⟨m',hm,σ3,H3,I3,w3⟩
    | brk=>exact q3
    | ret v=>exact q3
  | false =>
    rw[if_neg Bool.false_ne_true]
    exact wpAny_execs_nil ⟨σ1,H2,I2,q2⟩
end
structure It where
  go:Nat→Hp→Prop
  yld:Nat→Hp→V→Hp→Prop
  stop:Nat→Hp→Prop
def zbg (X:Cx) (pins:List (Addr × Obj)) (H:Hp) (b:Addr):Prop :=
  H b=none∧b≠X.env.locals∧b∉X.fs∧(b∈X.ex∨X.s₀.heap.objs.size≤b)∧(∀ x c,X.env.cells.lookup x=some c→c≠b)∧∀ p∈X.pn++pins,p.1≠b
theorem Inv.fpOk {X:Cx} {pins:List (Addr × Obj)} {σ:St} {H H':Hp} {s:Shared} {b:Addr} (I:Inv X pins σ H s) (hb:s.heap.objs.size≤b) (hn:H' b=none):zbg X pins H' b:=by
  refine⟨hn,Nat.ne_of_gt (Nat.lt_of_lt_of_le I.lt hb),I.nofs hb,.inr (Nat.le_trans I.sz hb),fun x c e z=>?_,fun p hp z=>?_⟩
  · obtain⟨v,q⟩:=I.cell x c e
    exact absurd (Nat.lt_of_lt_of_le q.lt (by rw[z];exact hb)) (Nat.lt_irrefl _)
  · exact absurd (Nat.lt_of_lt_of_le (Heap.lt_size (I.pin p hp).1) (by rw[z];exact hb)) (Nat.lt_irrefl _)
structure Turn (P:Program) (w:World) (K:PySem.W.Frag) (tg:Expr) (J:It) (fp:List Addr) (it:Addr) (tn:Nat→Heap→Prop):Prop where
  mem:it∈fp
  obj:∀ i h,tn i h→∀ b∈fp,∃ o,h.get? b=some o∧∀ v,o.data≠.cell v
  keep:∀ i h h',tn i h→(∀ b∈fp,∀ o,h.get? b=some o→h'.get? b=some o)→tn i h'
  item:∀(X:Cx),X.prog=P→X.w=w→X.K=K→X.calm=true→∀(i:Nat) (pins:List (Addr × Obj)) (s:Shared) (σ:St) (H:Hp) (E:Value→Shared→Prop),Inv X pins σ H s→(∀ b∈fp,zbg X pins H b)→tn i s.heap→J.go i H →
    wpAny (model P w) X.A (pyNext (.ref it)) (fun r s1=>∃ u,r=some u ∧
      wpAny (model P w) X.A (letOwnedTupleGo tg (.ref it) u) (fun _ s2=>∃ x H',Inv X pins σ H' s2∧zan x u∧J.yld i H x H'∧tn (i+1) s2.heap∧∀ b∈fp,H' b=none) E s1) E s
  done:∀(X:Cx),X.prog=P→X.w=w→X.K=K→X.calm=true→∀(i:Nat) (pins:List (Addr × Obj)) (s:Shared) (σ:St) (H:Hp) (E:Value→Shared→Prop),Inv X pins σ H s→(∀ b∈fp,zbg X pins H b)→tn i s.heap→J.stop i H →
    wpAny (model P w) X.A (pyNext (.ref it)) (fun r s1=>r=none∧Inv X pins σ H s1) E s
  self:∀(A:Around) (i:Nat) (s:Shared) (Q:Value→Shared→Prop) (E:Value→Shared→Prop),tn i s.heap→Q (.ref it) s→wpAny (model P w) A (pyIter (.ref it)) Q E s
abbrev TI:=St→Hp→(It→Hp→Prop)→Prop
def PIE (X:Cx) (pins:List (Addr × Obj)) (σ:St) (tg:Expr) (R:It→Hp→Prop) (itv:Value) (s2:Shared):Prop :=
  ∃(it:Addr) (fp:List Addr) (tn:Nat→Heap→Prop) (J:It) (H':Hp),itv=.ref it∧Inv X pins σ H' s2∧Turn X.prog X.w X.K tg J fp it tn∧tn 0 s2.heap∧(∀ b∈fp,zbg X pins H' b)∧R J H'
def PI (X:Cx) (tg iter:Expr) (wi:TI):Prop :=
  ∀(pins:List (Addr × Obj)) (s:Shared) (σ:St) (H:Hp) (R:It→Hp→Prop),Inv X pins σ H s→wi σ H R →
    wpAny (model X.prog X.w) X.A (eval iter X.env) (fun v s1=>wpAny (model X.prog X.w) X.A (pyIter v) (PIE X pins σ tg R) X.xe s1) X.xe s
theorem zfl {M:Model} {A:Around} {E:Value→Shared→Prop} {s:Shared} {tg:Expr} {it:Addr} {u:Value} {o:Obj} {n:String} {vs:Array Value} {Q:Unit→Shared→Prop} (ho:s.heap.get? it=some o) (hc:o.cls=.type n) (hd:o.data=.fields vs)
    (hn:["enumerate","zip","dict_itemiterator","dict_reverseitemiterator","odict_iterator","itertools.zip_longest","itertools.pairwise"].contains n=false) (hQ:Q () s):wpAny M A (letOwnedTupleGo tg (.ref it) u) Q E s:=by
  unfold letOwnedTupleGo
  cases tg <;> first
    | exact wpAny_pure hQ
    | (cases u <;> first
        | exact wpAny_pure hQ
        | (refine wpAny_bind (wpAny_load ho ?_)
           rw[hc,hd]
           show wpAny M A (if(["enumerate","zip","dict_itemiterator","dict_reverseitemiterator","odict_iterator","itertools.zip_longest","itertools.pairwise"].contains n&&vs[0]? == some (rawInt _))=true then _ else _) Q E s
           rw[if_neg (by intro h;rw[hn,Bool.false_and]at h;cases h)]
           exact wpAny_pure hQ))
def Itl (K:PySem.W.Frag) (a:Addr):It :=
  ⟨fun i H=>∃ xs x,SqL K H a xs∧xs[i]?=some x,fun i H x H'=>H'=H∧∀ xs,SqL K H a xs→xs[i]?=some x,fun i H=>∃ xs,SqL K H a xs∧xs.length≤i⟩
def Itt (K:PySem.W.Frag) (a:Addr):It :=
  ⟨fun i H=>∃ xs x,SqT K H a xs∧xs[i]?=some x,fun i H x H'=>H'=H∧∀ xs,SqT K H a xs→xs[i]?=some x,fun i H=>∃ xs,SqT K H a xs∧xs.length≤i⟩
def Itr (lo:Int) (n:Nat):It:=⟨fun i _=>i < n,fun i H x H'=>H'=H∧x=.int (lo+i),fun i _=>n≤i⟩
theorem zge {P:Program} {w:World} {K:PySem.W.Frag} {tg:Expr} (a it:Addr):Turn P w K tg (Itl K a) [it] it (fun i h=>h.IsListIter it a i) where
  mem:=by simp
  obj:=fun i h st b hb=>by
    have e:b=it:=by simpa using hb
    subst e
    obtain⟨o,e,c,d⟩:=st
    exact⟨o,e,fun v z=>by rw[d]at z;cases z⟩
  keep:=fun i h h' st k=>st.at fun o e=>k it (by simp) o e
  item:=by
    intro X hP hw hK hc i pins s σ H E I hf st hg
    subst hP hw hK
    obtain⟨xs,x,hq,hx⟩:=hg
    obtain⟨its,rv,p,hz⟩:=I.list hq
    obtain⟨u,hu,ru⟩:=rv.get hx
    obtain⟨f0,f1,f2,f3,f4,f5⟩:=hf it (by simp)
    refine wpAny_pyNext_list_item st p.isList (x:=u) (by simpa using hu) fun h' st' sb=>?_
    have I1:Inv X pins σ H { s with heap:=h' }:=I.turned (t':=s.toks) (fun b o hb e=>(sb.2 b hb).trans e) f0 f1 f3 f4 f5
    obtain⟨o,e,c,d⟩:=id st'
    exact⟨u,rfl,zfl (s:={ s with heap:=h' }) e c d (by decide) ⟨x,H,I1,ru,⟨rfl,fun ys hy=>by rw[I.list_inj hy hq];exact hx⟩,st',fun b hb=>(hf b hb).1⟩⟩
  done:=by
    intro X hP hw hK hc i pins s σ H E I hf st hg
    subst hP hw hK
    obtain⟨xs,hq,hx⟩:=hg
    obtain⟨its,rv,p,hz⟩:=I.list hq
    obtain⟨f0,f1,f2,f3,f4,f5⟩:=hf it (by simp)
    have hl:=rv.length
    exact wpAny_pyNext_list_end (I.ok.hd hc) st p.isList (by simp;omega) fun h' eb=>⟨rfl,I.turned (t':=s.toks) (fun b o hb e=>eb b o hb e) f0 f1 f3 f4 f5⟩
  self:=fun _ _ _ _ _ st h=>wpAny_pyIter_listiter st h
theorem zfw {P:Program} {w:World} {K:PySem.W.Frag} {tg:Expr} (a it:Addr):Turn P w K tg (Itt K a) [it] it (fun i h=>h.IsTupleIter it a i) where
  mem:=by simp
  obj:=fun i h st b hb=>by
    have e:b=it:=by simpa using hb
    subst e
    obtain⟨o,e,c,d⟩:=st
    exact⟨o,e,fun v z=>by rw[d]at z;cases z⟩
  keep:=fun i h h' st k=>st.at fun o e=>k it (by simp) o e
  item:=by
    intro X hP hw hK hc i pins s σ H E I hf st hg
    subst hP hw hK
    obtain⟨xs,x,hq,hx⟩:=hg
    obtain⟨its,rv,p,hz⟩:=I.tuple hq
    obtain⟨u,hu,ru⟩:=rv.get hx
    obtain⟨f0,f1,f2,f3,f4,f5⟩:=hf it (by simp)
    refine wpAny_pyNext_tuple_item st (show s.heap.IsTuple a its.toArray from p) (x:=u) (by simpa using hu) fun h' st' sb=>?_
    have I1:Inv X pins σ H { s with heap:=h' }:=I.turned (t':=s.toks) (fun b o hb e=>(sb.2 b hb).trans e) f0 f1 f3 f4 f5
    obtain⟨o,e,c,d⟩:=id st'
    exact⟨u,rfl,zfl (s:={ s with heap:=h' }) e c d (by decide) ⟨x,H,I1,ru,⟨rfl,fun ys hy=>by rw[I.tuple_inj hy hq];exact hx⟩,st',fun b hb=>(hf b hb).1⟩⟩
  done:=by
    intro X hP hw hK hc i pins s σ H E I hf st hg
    subst hP hw hK
    obtain⟨xs,hq,hx⟩:=hg
    obtain⟨its,rv,p,hz⟩:=I.tuple hq
    obtain⟨f0,f1,f2,f3,f4,f5⟩:=hf it (by simp)
    have hl:=rv.length
    exact wpAny_pyNext_tuple_end (I.ok.hd hc) st (show s.heap.IsTuple a its.toArray from p) (by simp;omega) fun h' eb=>⟨rfl,I.turned (t':=s.toks) (fun b o hb e=>eb b o hb e) f0 f1 f3 f4 f5⟩
  self:=fun _ _ _ _ _ st h=>wpAny_pyIter_tupleiter st h
theorem ziI {P:Program} {w:World} {K:PySem.W.Frag} {tg:Expr} (it:Addr) (lo:Int) (n:Nat):Turn P w K tg (Itr lo n) [it] it (fun i h=>IsRangeIter h it (lo+(i:Nat) * 1) ((n:Int) - (i:Nat)) 1) where
  mem:=by simp
  obj:=fun i h st b hb=>by
    have e:b=it:=by simpa using hb
    subst e
    exact⟨_,st,fun v z=>by
      have z':Data.fields _=Data.cell v:=z
      cases z'⟩
  keep:=fun i h h' st k=>k it (by simp) _ st
  item:=by
    intro X hP hw hK hc i pins s σ H E I hf st hg
    subst hP hw hK
    obtain⟨f0,f1,f2,f3,f4,f5⟩:=hf it (by simp)
    have W:=Walks.range (prog:=X.prog) (w:=X.w) (I.ok.hd hc) it lo 1 n
    refine W.item i s _ _ hg st fun v h' tk hv st' kk=>?_
    obtain⟨t,rfl⟩:=hv
    have I1:Inv X pins σ H { s with heap:=h',toks:=tk }:=I.turned (fun b o hb e=>kk b o (by simpa using hb) e) f0 f1 f3 f4 f5
    refine⟨_,rfl,zfl (s:={ s with heap:=h',toks:=tk }) (n:="range_iterator") st' rfl rfl (by decide) ⟨.int (lo+i),H,I1,⟨t,?_⟩,⟨rfl,rfl⟩,st',fun b hb=>(hf b hb).1⟩⟩
    rw[Int.mul_one]
  done:=by
    intro X hP hw hK hc i pins s σ H E I hf st hg
    subst hP hw hK
    obtain⟨f0,f1,f2,f3,f4,f5⟩:=hf it (by simp)
    exact wpAny_pyNext_range_end (I.ok.hd hc) st (by have:n≤i:=hg;omega) fun h' eb=>⟨rfl,I.turned (t':=s.toks) (fun b o hb e=>eb b o hb e) f0 f1 f3 f4 f5⟩
  self:=fun _ _ _ _ _ st h=>wpAny_pyIter_rangeiter st h
end L2
namespace L2
open PySem PySem.Spec PyProof.Rows
section
variable {X:Cx} {tg:Expr}
def iList (K:PySem.W.Frag) (tl:TE):TI:=fun σ H R=>tl σ H fun x H1=>∃ a,x=.ref a∧(∃ xs,SqL K H1 a xs)∧R (Itl K a) H1
def iTup (K:PySem.W.Frag) (tl:TE):TI:=fun σ H R=>tl σ H fun x H1=>∃ a,x=.ref a∧(∃ xs,SqT K H1 a xs)∧R (Itt K a) H1
theorem zbL {l:Expr} {tl:TE} (hl:PE X l tl):PI X tg l (iList X.K tl):=by
  intro pins s σ H R I h
  refine thn (hl pins s σ H _ I h) fun v s1 ⟨x,H1,I1,r1,q1⟩=>?_
  obtain⟨a,e,⟨xs,hq⟩,q⟩:=q1
  subst e
  cases r1
  obtain⟨its,rv,p,hz⟩:=I1.list hq
  refine wpAny_pyIter_list p.isList ?_
  refine⟨s1.heap.objs.size,[s1.heap.objs.size],_,_,H1,rfl,I1.kept (t':=s1.toks) fun b o e=>Heap.get?_push_of_some _ e,zge a _,⟨_,Heap.get?_push_size _ rfl,rfl,rfl⟩,fun b hb=>?_,q⟩
  have e:b=s1.heap.objs.size:=by simpa using hb
  subst e
  exact I1.fpOk (Nat.le_refl _) (I1.hok.fresh (Nat.le_refl _))
theorem zdD {l:Expr} {tl:TE} (hl:PE X l tl):PI X tg l (iTup X.K tl):=by
  intro pins s σ H R I h
  refine thn (hl pins s σ H _ I h) fun v s1 ⟨x,H1,I1,r1,q1⟩=>?_
  obtain⟨a,e,⟨xs,hq⟩,q⟩:=q1
  subst e
  cases r1
  obtain⟨its,rv,p,hz⟩:=I1.tuple hq
  refine wpAny_pyIter_tuple (show s1.heap.IsTuple a its.toArray from p) ?_
  refine⟨s1.heap.objs.size,[s1.heap.objs.size],_,_,H1,rfl,I1.kept (t':=s1.toks) fun b o e=>Heap.get?_push_of_some _ e,zfw a _,⟨_,Heap.get?_push_size _ rfl,rfl,rfl⟩,fun b hb=>?_,q⟩
  have e:b=s1.heap.objs.size:=by simpa using hb
  subst e
  exact I1.fpOk (Nat.le_refl _) (I1.hok.fresh (Nat.le_refl _))
theorem zkc {pins:List (Addr × Obj)} {σ:St} {H:Hp} {s:Shared} {R:It→Hp→Prop} {E:Value→Shared→Prop} {lo hi:Int} {t u v:Tok} {tk:Nat} (I:Inv X pins σ H s) (h1:-(2 ^ 62)≤lo) (h2:lo < 2 ^ 62) (h3:-(2 ^ 62)≤hi) (h4:hi < 2 ^ 62)
    (q:R (Itr lo (hi - lo).toNat) H):wpAny (model X.prog X.w) X.A (pyIter (.ref s.heap.objs.size)) (PIE X pins σ tg R) E { s with heap:=s.heap.push { cls:=.type "range",data:=.fields #[.int lo t,.int hi u,.int 1 v] },toks:=tk }:=by
  refine wpAny_pyIter_range (IsRange.new ..) (small_one h1 h2 h3 h4) ?_
  have I1:Inv X pins σ H { s with heap:=s.heap.push { cls:=.type "range",data:=.fields #[.int lo t,.int hi u,.int 1 v] },toks:=tk }:=I.kept fun b o e=>Heap.get?_push_of_some _ e
  refine⟨(s.heap.push { cls:=.type "range",data:=.fields #[.int lo t,.int hi u,.int 1 v] }).objs.size,[(s.heap.push { cls:=.type "range",data:=.fields #[.int lo t,.int hi u,.int 1 v] }).objs.size],_,_,H,rfl,
    I1.kept (t':=tk) fun b o e=>Heap.get?_push_of_some _ e,ziI _ lo (hi - lo).toNat,?_,fun b hb=>?_,q⟩
  · have e1:lo+((0:Nat):Int) * 1=lo:=by simp
    have e2:(((hi - lo).toNat:Nat):Int) - ((0:Nat):Int)=Builtin.Range.rangeSize lo hi 1:=by rw[rangeSize_one];split <;> omega
    show IsRangeIter _ _ (lo+((0:Nat):Int) * 1) ((((hi - lo).toNat:Nat):Int) - ((0:Nat):Int)) 1
    rw[e1,e2]
    exact Heap.get?_push_size _ rfl
  · have e:b=(s.heap.push { cls:=.type "range",data:=.fields #[.int lo t,.int hi u,.int 1 v] }).objs.size:=by simpa using hb
    subst e
    exact I1.fpOk (Nat.le_refl _) (I1.hok.fresh (Nat.le_refl _))
def iRng1 (ta:TA):TI:=fun σ H R=>ta σ H fun vs H1=>∃ j:Int,vs=[.int j]∧-(2 ^ 62)≤j∧j < 2 ^ 62∧R (Itr 0 j.toNat) H1
theorem zbd {a:Expr} {ta:TA} {p pos:Pos} (hg:Gl X "range") (hm:X.mg "range"=none) (ha:PA X [a] ta) (hs:starEach [a] X.env=[(false,eval a X.env)]:=by rfl):PI X tg (.Call (.Name "range" p) [a] [] pos) (iRng1 ta):=by
  intro pins s σ H R I h
  refine Call_ (zfs I hg hm boot_range (PyProof.Rows.callWith_type1 (thn (ha pos pins s σ H _ I h) fun us s1 ⟨vs,H1,I1,r1,q1⟩=>?_) hs rfl))
  obtain⟨j,e,q1,q2,q⟩:=q1
  subst e
  cases r1 with
  | cons r rr =>
    cases rr
    obtain⟨t,rfl⟩:=r
    exact call_range_1 (zkc I1 (by omega) (by omega) q1 q2 (by simpa using q))
def tFor (wi:TI) (g:TG) (tb:TS):TS:=fun D σ H=>wi σ H fun J H1=>∃ W:Nat→Nat→St→Hp→Prop,(∃ m,W 0 m σ H1)∧∀ i m σ H,W i m σ H →
  (J.stop i H∧D.nx σ H)∨(J.go i H∧∃ N:St→Hp→Prop,(∀ σ' H',N σ' H'→∃ m',m' < m∧W (i+1) m' σ' H')∧∀ x H',J.yld i H x H'→g x σ H' fun σ2 H2=>tb { D with nx:=N,ct:=N,bk:=D.nx } σ2 H2)
def zfq (fp:List Addr) (h:Heap):List (Addr × Obj):=fp.filterMap fun b=>(h.get? b).map fun o=>(b,o)
theorem za1 {fp:List Addr} {h:Heap} {b:Addr} {o:Obj} (hb:b∈fp) (e:h.get? b=some o):(b,o)∈zfq fp h:=List.mem_filterMap.mpr ⟨b,hb,by rw[e];rfl⟩
theorem zjN {fp:List Addr} {h:Heap} {p:Addr × Obj} (hp:p∈zfq fp h):p.1∈fp∧h.get? p.1=some p.2:=by
  obtain⟨b,hb,e⟩:=List.mem_filterMap.mp hp
  cases q:h.get? b with
  | none=>rw[q]at e;cases e
  | some o =>
    rw[q]at e
    have e':(b,o)=p:=Option.some.inj e
    subst e'
    exact⟨hb,q⟩
theorem Inv.pinned {pins:List (Addr × Obj)} {σ:St} {H:Hp} {s:Shared} {fp:List Addr} (I:Inv X pins σ H s) (hf:∀ b∈fp,zbg X pins H b) (ho:∀ b∈fp,∃ o,s.heap.get? b=some o∧∀ v,o.data≠.cell v):Inv X (pins++zfq fp s.heap) σ H s :=
  I.pins_of fun p hp=>(List.mem_append.mp hp).elim (fun z=>I.pin p (List.mem_append_right _ z)) fun z=>by
    obtain⟨hb,e⟩:=zjN z
    obtain⟨f0,f1,f2,_⟩:=hf p.1 hb
    obtain⟨o,e',d⟩:=ho p.1 hb
    rw[e]at e';cases e'
    exact⟨e,f0,f1,f2,d⟩
theorem Inv.unpinned {pins pl:List (Addr × Obj)} {σ:St} {H:Hp} {s:Shared} (I:Inv X (pins++pl) σ H s):Inv X pins σ H s:=I.pins_of fun p hp=>I.pin p (List.mem_append_right _ (List.mem_append_left _ hp))
theorem zbo {iter:Expr} {body:List Stmt} {wi:TI} {g:TG} {tb:TS} {pos:Pos} (hp:PassesOwn (model X.prog X.w) X.A X.env X.xe) (hc:X.calm=true) (hi:PI X tg iter wi) (hg:PG X tg g) (hb:PSs X body tb)
    (hs:∀ x,foldedSetIterable iter X.env x=pure x:=by intro _;rfl):PS X (.For tg iter body [] pos) (tFor wi g tb):=by
  intro pins s σ H D I h
  refine wpAny_For (thn (hi pins s σ H _ I h) fun v s1 h1=>thn h1 fun itv s2 h2=>?_) hs
  obtain⟨it,fp,tn,J,H2,e,I2,T,st2,f2,W,⟨m0,w0⟩,turn⟩:=h2
  subst e
  have stat:∀ {H':Hp},(∀ b∈fp,H' b=none)→∀ b∈fp,zbg X pins H' b:=fun hn b hb=>⟨hn b hb,(f2 b hb).2⟩
  refine codeAny_forLoop_any (fun n s'=>∃ i σ' H',Inv X pins σ' H' s'∧tn i s'.heap∧(∀ b∈fp,H' b=none)∧W i n σ' H') ?_ m0 ⟨0,σ,H2,I2,st2,fun b hb=>(f2 b hb).1,w0⟩
  rintro n s3 ⟨i,σ3,H3,I3,st3,fr3,w3⟩
  rcases turn i n σ3 H3 w3 with ⟨stop,qn⟩ | ⟨go,N,hN,step⟩
  · refine wpAny_passesOwn hp (thn (T.done X rfl rfl rfl hc i pins s3 σ3 H3 X.xe I3 (stat fr3) st3 stop) fun r s4 ⟨hr,I4⟩=>?_)
    subst hr
    exact wpAny_execs_nil ⟨σ3,H3,I4,qn⟩
  · refine wpAny_passesOwn hp (thn (T.item X rfl rfl rfl hc i pins s3 σ3 H3 X.xe I3 (stat fr3) st3 go) fun r s4 ⟨u,hr,h4⟩=>?_)
    subst hr
    refine wpAny_passesOwn hp (thn h4 fun _ s5 ⟨x,H5,I5,r5,y5,st5,fr5⟩=>?_)
    have I5':=I5.pinned (stat fr5) (T.obj _ _ st5)
    refine wpAny_passesOwn hp (thn (hg _ s5 σ3 H5 x u _ I5' r5 (step x H5 y5)) fun _ s6 ⟨σ6,H6,I6,q6⟩=>?_)
    refine wpAny_passesOwn hp (thn (hb _ s6 σ6 H6 _ I6 q6) fun f s7 q7=>?_)
    have again:∀ {σ7:St} {H7:Hp},Inv X (pins++zfq fp s5.heap) σ7 H7 s7→N σ7 H7→∃ m,m < n∧∃ i σ' H',Inv X pins σ' H' s7∧tn i s7.heap∧(∀ b∈fp,H' b=none)∧W i m σ' H':=fun {σ7 H7} I7 n7=>by
      obtain⟨m',hm,w7⟩:=hN σ7 H7 n7
      refine⟨m',hm,i+1,σ7,H7,I7.unpinned,T.keep _ _ _ st5 fun b hb o e=>(I7.pin (b,o) (List.mem_append_right _ (List.mem_append_right _ (za1 hb e)))).1,fun b hb=>?_,w7⟩
      obtain⟨o,e,d⟩:=T.obj _ _ st5 b hb
      exact(I7.pin (b,o) (List.mem_append_right _ (List.mem_append_right _ (za1 hb e)))).2.1
    cases f with
    | next=>obtain⟨σ7,H7,I7,n7⟩:=q7;exact again I7 n7
    | cont=>obtain⟨σ7,H7,I7,n7⟩:=q7;exact again I7 n7
    | brk=>obtain⟨σ7,H7,I7,q7⟩:=q7;exact⟨σ7,H7,I7.unpinned,q7⟩
    | ret v=>obtain⟨x7,σ7,H7,I7,r7,q7⟩:=q7;exact⟨x7,σ7,H7,I7.unpinned,r7,q7⟩
end
theorem zfc {K:PySem.W.Frag} {a:Addr} {xs:List V} {g:TG} {tb:TS} {D:zaW} {σ:St} {H:Hp} (Pv:Nat→St→Hp→Prop) (h0:Pv 0 σ H) (hl:∀ i σ H,i≤xs.length→Pv i σ H→SqL K H a xs)
    (hs:∀ i x σ H,xs[i]?=some x→Pv i σ H→g x σ H fun σ2 H2=>tb { D with nx:=Pv (i+1),ct:=Pv (i+1),bk:=D.nx } σ2 H2) (hd:∀ σ H,Pv xs.length σ H→D.nx σ H) :
    ∃ W:Nat→Nat→St→Hp→Prop,(∃ m,W 0 m σ H)∧∀ i m σ H,W i m σ H →
      ((Itl K a).stop i H∧D.nx σ H)∨((Itl K a).go i H∧∃ N:St→Hp→Prop,(∀ σ' H',N σ' H'→∃ m',m' < m∧W (i+1) m' σ' H')∧∀ x H',(Itl K a).yld i H x H'→g x σ H' fun σ2 H2=>tb { D with nx:=N,ct:=N,bk:=D.nx } σ2 H2):=by
  refine⟨fun i m σ H=>m=xs.length - i∧i≤xs.length∧Pv i σ H,⟨xs.length,by simp,Nat.zero_le _,h0⟩,?_⟩
  rintro i m σ H ⟨rfl,hi,p⟩
  have q:=hl i σ H hi p
  by_cases hlt:i < xs.length
  · refine .inr ⟨⟨xs,xs[i],q,by simp [hlt]⟩,Pv (i+1),fun σ' H' p'=>⟨xs.length - (i+1),by omega,rfl,hlt,p'⟩,fun x H' y=>?_⟩
    obtain⟨e,y⟩:=y
    subst e
    exact hs i x σ _ (y xs q) p
  · have e:i=xs.length:=by omega
    subst e
    exact .inl ⟨⟨xs,q,Nat.le_refl _⟩,hd σ H p⟩
theorem zf1 {K:PySem.W.Frag} {a:Addr} {xs:List V} {g:TG} {tb:TS} {D:zaW} {σ:St} {H:Hp} (Pv:Nat→St→Hp→Prop) (h0:Pv 0 σ H) (hl:∀ i σ H,i≤xs.length→Pv i σ H→SqT K H a xs)
    (hs:∀ i x σ H,xs[i]?=some x→Pv i σ H→g x σ H fun σ2 H2=>tb { D with nx:=Pv (i+1),ct:=Pv (i+1),bk:=D.nx } σ2 H2) (hd:∀ σ H,Pv xs.length σ H→D.nx σ H) :
    ∃ W:Nat→Nat→St→Hp→Prop,(∃ m,W 0 m σ H)∧∀ i m σ H,W i m σ H →
      ((Itt K a).stop i H∧D.nx σ H)∨((Itt K a).go i H∧∃ N:St→Hp→Prop,(∀ σ' H',N σ' H'→∃ m',m' < m∧W (i+1) m' σ' H')∧∀ x H',(Itt K a).yld i H x H'→g x σ H' fun σ2 H2=>tb { D with nx:=N,ct:=N,bk:=D.nx } σ2 H2):=by
  refine⟨fun i m σ H=>m=xs.length - i∧i≤xs.length∧Pv i σ H,⟨xs.length,by simp,Nat.zero_le _,h0⟩,?_⟩
  rintro i m σ H ⟨rfl,hi,p⟩
  have q:=hl i σ H hi p
  by_cases hlt:i < xs.length
  · refine .inr ⟨⟨xs,xs[i],q,by simp [hlt]⟩,Pv (i+1),fun σ' H' p'=>⟨xs.length - (i+1),by omega,rfl,hlt,p'⟩,fun x H' y=>?_⟩
    obtain⟨e,y⟩:=y
    subst e
    exact hs i x σ _ (y xs q) p
  · have e:i=xs.length:=by omega
    subst e
    exact .inl ⟨⟨xs,q,Nat.le_refl _⟩,hd σ H p⟩
theorem zce {lo:Int} {n:Nat} {g:TG} {tb:TS} {D:zaW} {σ:St} {H:Hp} (Pv:Nat→St→Hp→Prop) (h0:Pv 0 σ H)
    (hs:∀ i σ H,i < n→Pv i σ H→g (.int (lo+i)) σ H fun σ2 H2=>tb { D with nx:=Pv (i+1),ct:=Pv (i+1),bk:=D.nx } σ2 H2) (hd:∀ σ H,Pv n σ H→D.nx σ H) :
    ∃ W:Nat→Nat→St→Hp→Prop,(∃ m,W 0 m σ H)∧∀ i m σ H,W i m σ H →
      ((Itr lo n).stop i H∧D.nx σ H)∨((Itr lo n).go i H∧∃ N:St→Hp→Prop,(∀ σ' H',N σ' H'→∃ m',m' < m∧W (i+1) m' σ' H')∧∀ x H',(Itr lo n).yld i H x H'→g x σ H' fun σ2 H2=>tb { D with nx:=N,ct:=N,bk:=D.nx } σ2 H2):=by
  refine⟨fun i m σ H=>m=n - i∧i≤n∧Pv i σ H,⟨n,by simp,Nat.zero_le _,h0⟩,?_⟩
  rintro i m σ H ⟨rfl,hi,p⟩
  by_cases hlt:i < n
  · refine .inr ⟨hlt,Pv (i+1),fun σ' H' p'=>⟨n - (i+1),by omega,rfl,hlt,p'⟩,fun x H' y=>?_⟩
    obtain⟨e,y⟩:=y
    subst e y
    exact hs i σ _ hlt p
  · have e:i=n:=by omega
    subst e
    exact .inl ⟨Nat.le_refl _,hd σ H p⟩
end L2
namespace L2
open PySem PySem.Spec PyProof.Rows
abbrev R2:=V→V→Hp→VK→Prop
def OpR (X:Cx) (f:Value→Value→Sem Value) (r:R2):Prop :=
  ∀(pins:List (Addr × Obj)) (s:Shared) (σ:St) (H:Hp) (x y:V) (v u:Value) (Q:VK),Inv X pins σ H s→zan x v→zan y u→r x y H Q →
    wpAny (model X.prog X.w) X.A (f v u) (EP X pins σ Q) X.xe s
def UnR (X:Cx) (f:Value→Sem Value) (r:V→Hp→VK→Prop):Prop :=
  ∀(pins:List (Addr × Obj)) (s:Shared) (σ:St) (H:Hp) (x:V) (v:Value) (Q:VK),Inv X pins σ H s→zan x v→r x H Q →
    wpAny (model X.prog X.w) X.A (f v) (EP X pins σ Q) X.xe s
def zcV (X:Cx) (f:Value) (r:List V→Hp→VK→Prop):Prop :=
  ∀(pins:List (Addr × Obj)) (s:Shared) (σ:St) (H:Hp) (xs:List V) (us:List Value) (Q:VK),Inv X pins σ H s→aH xs us→r xs H Q →
    wpAny (model X.prog X.w) X.A (call f us) (EP X pins σ Q) X.xe s
def tOp (r:R2) (ta tb:TE):TE:=fun σ H Q=>ta σ H fun x H1=>tb σ H1 fun y H2=>r x y H2 Q
def tUn (r:V→Hp→VK→Prop) (ta:TE):TE:=fun σ H Q=>ta σ H fun x H1=>r x H1 Q
def rI (C:Int→Int→Prop) (g:Int→Int→V):R2:=fun x y H Q=>∃ i j,x=.int i∧y=.int j∧C i j∧Q (g i j) H
def rI0 (g:Int→Int→V):R2:=fun x y H Q=>∃ i j,x=.int i∧y=.int j∧Q (g i j) H
def rU (g:Int→V):V→Hp→VK→Prop:=fun x H Q=>∃ i,x=.int i∧Q (g i) H
section
variable {X:Cx} {a b c:Expr} {ta tb tc:TE} {pos:Pos}
theorem binT (ha:PE X a ta) (hb:PE X b tb) {pins:List (Addr × Obj)} {s:Shared} {σ:St} {H:Hp} {R:V→V→Hp→Prop} (I:Inv X pins σ H s)
    (h:ta σ H fun x H1=>tb σ H1 fun y H2=>R x y H2) {Q:Value→Shared→Prop} {f:Value→Value→Sem Value}
    (hf:∀ v u s2 x y H2,Inv X pins σ H2 s2→zan x v→zan y u→R x y H2→wpAny (model X.prog X.w) X.A (f v u) Q X.xe s2) :
    wpAny (model X.prog X.w) X.A (eval a X.env) (fun v s₁=>wpAny (model X.prog X.w) X.A (eval b X.env) (fun u s₂=>wpAny (model X.prog X.w) X.A (f v u) Q X.xe s₂) X.xe s₁) X.xe s:=by
  refine thn (ha pins s σ H _ I h) fun v s1 ⟨x,H1,I1,r1,q1⟩=>?_
  refine thn (hb pins s1 σ H1 _ I1 q1) fun u s2 ⟨y,H2,I2,r2,q2⟩=>?_
  exact hf v u s2 x y H2 I2 r1 r2 q2
theorem aw {op:Operator} {r:R2} (ho:OpR X (binaryOp op) r) (ha:PE X a ta) (hb:PE X b tb):PE X (.BinOp a op b pos) (tOp r ta tb):=by
  intro pins s σ H Q I h
  exact wpAny_BinOp (binT ha hb I h fun v u s2 x y H2 I2 rx ry q=>ho pins s2 σ H2 x y v u Q I2 rx ry q)
theorem zeL {op:UnaryOp} {r:V→Hp→VK→Prop} (ho:UnR X (unaryOp op) r) (ha:PE X a ta):PE X (.UnaryOp op a pos) (tUn r ta):=by
  intro pins s σ H Q I h
  exact UnaryOp_ (thn (ha pins s σ H _ I h) fun v s1 ⟨x,H1,I1,r1,q1⟩=>ho pins s1 σ H1 x v Q I1 r1 q1)
theorem opI {f:Value→Value→Sem Value} {C:Int→Int→Prop} {g:Int→Int→Int}
    (rule:∀(i j:Int) (t u:Tok) (s:Shared) (Q:Value→Shared→Prop) (E:Value→Shared→Prop),C i j→Q (.int (g i j) s.toks) { s with toks:=s.toks+1 }→wpAny (model X.prog X.w) X.A (f (.int i t) (.int j u)) Q E s) :
    OpR X f (rI C fun i j=>.int (g i j)):=by
  intro pins s σ H x y v u Q I rx ry h
  obtain⟨i,j,rfl,rfl,hc,q⟩:=h
  obtain⟨t,rfl⟩:=rx
  obtain⟨t',rfl⟩:=ry
  exact rule i j t t' s _ _ hc ⟨.int (g i j),H,I.tok _,⟨_,rfl⟩,q⟩
theorem opI0 {f:Value→Value→Sem Value} {g:Int→Int→Int}
    (rule:∀(i j:Int) (t u:Tok) (s:Shared) (Q:Value→Shared→Prop) (E:Value→Shared→Prop),Q (.int (g i j) s.toks) { s with toks:=s.toks+1 }→wpAny (model X.prog X.w) X.A (f (.int i t) (.int j u)) Q E s) :
    OpR X f (rI0 fun i j=>.int (g i j)):=by
  intro pins s σ H x y v u Q I rx ry h
  obtain⟨i,j,rfl,rfl,q⟩:=h
  obtain⟨t,rfl⟩:=rx
  obtain⟨t',rfl⟩:=ry
  exact rule i j t t' s _ _ ⟨.int (g i j),H,I.tok _,⟨_,rfl⟩,q⟩
theorem opB0 {f:Value→Value→Sem Value} {g:Int→Int→Bool}
    (rule:∀(i j:Int) (t u:Tok) (s:Shared) (Q:Value→Shared→Prop) (E:Value→Shared→Prop),Q (.bool (g i j)) s→wpAny (model X.prog X.w) X.A (f (.int i t) (.int j u)) Q E s) :
    OpR X f (rI0 fun i j=>.bl (g i j)):=by
  intro pins s σ H x y v u Q I rx ry h
  obtain⟨i,j,rfl,rfl,q⟩:=h
  obtain⟨t,rfl⟩:=rx
  obtain⟨t',rfl⟩:=ry
  exact rule i j t t' s _ _ ⟨.bl (g i j),H,I,rfl,q⟩
def CDiv (i j:Int):Prop:=0 < j∧j < 1073741824
def CMul (i j:Int):Prop:=(-(2 ^ 64) < i∧i < 2 ^ 64)∨(-(2 ^ 64) < j∧j < 2 ^ 64)
theorem CMul.ok {i j:Int} (h:CMul i j):IntMulOk i j:=by
  rcases h with ⟨h1,h2⟩ | ⟨h1,h2⟩
  · exact .of_left (intBits_le_64 h1 h2)
  · exact .of_right (intBits_le_64 h1 h2)
theorem zbw:OpR X (binaryOp .Add) (rI0 fun i j=>.int (i+j)):=opI0 fun _ _ _ _ _ _ _ q=>add_int q
theorem zcm:OpR X (binaryOp .Sub) (rI0 fun i j=>.int (i - j)):=opI0 fun _ _ _ _ _ _ _ q=>sub_int q
theorem zbF:OpR X (binaryOp .Mult) (rI CMul fun i j=>.int (i * j)):=opI fun _ _ _ _ _ _ _ hc q=>mul_int q hc.ok
theorem zaX:OpR X (binaryOp .FloorDiv) (rI CDiv fun i j=>.int (i / j)):=opI fun i j _ _ _ _ _ hc q=>by
  have h1:(0:Int) < j:=hc.1
  have h2:j < 1073741824:=hc.2
  exact floordiv_int (by omega) (by rw[Int.fdiv_eq_ediv_of_nonneg i (by omega)];exact q) (.inl (PyProof.noPylong_small (by omega)))
theorem zar:OpR X (binaryOp .Mod) (rI (fun _ j=>0 < j) fun i j=>.int (i % j)):=opI fun i j _ _ _ _ _ hc q=>by
  have h1:(0:Int) < j:=hc
  exact mod_int' (by omega) (by rw[Int.fmod_eq_emod_of_nonneg i (by omega)];exact q)
theorem unI {f:Value→Sem Value} {g:Int→Int}
    (rule:∀(i:Int) (t:Tok) (s:Shared) (Q:Value→Shared→Prop) (E:Value→Shared→Prop),Q (.int (g i) s.toks) { s with toks:=s.toks+1 }→wpAny (model X.prog X.w) X.A (f (.int i t)) Q E s) :
    UnR X f (rU fun i=>.int (g i)):=by
  intro pins s σ H x v Q I rx h
  obtain⟨i,rfl,q⟩:=h
  obtain⟨t,rfl⟩:=rx
  exact rule i t s _ _ ⟨.int (g i),H,I.tok _,⟨_,rfl⟩,q⟩
theorem zdC:UnR X (unaryOp .USub) (rU fun i=>.int (-i)):=unI fun _ _ _ _ _ q=>neg_int q
end
def scal:V→V→Bool
  | .non,.non=>true | .non,.int _=>true | .int _,.non=>true | .non,.bl _=>true | .bl _,.non=>true | .non,.str _=>true | .str _,.non=>true
  | .int _,.int _=>true | .bl _,.bl _=>true | .str _,.str _=>true | .byt _,.byt _=>true
  | .int _,.str _=>true | .str _,.int _=>true | .bl _,.str _=>true | .str _,.bl _=>true
  | _,_=>false
def rEq:R2:=fun x y H Q=>scal x y=true∧Q (.bl (decide (x=y))) H
def rNe:R2:=fun x y H Q=>scal x y=true∧Q (.bl (!decide (x=y))) H
theorem zih {i j:Int}:decide (V.int i=V.int j)=(i == j):=by
  rw[Bool.eq_iff_iff]
  simp
theorem zjp {i j:Bool}:decide (V.bl i=V.bl j)=(i == j):=by
  rw[Bool.eq_iff_iff]
  simp
theorem zig {i j:Str}:decide (V.str i=V.str j)=(i == j):=by
  rw[Bool.eq_iff_iff]
  simp
theorem zii {i j:Array UInt8}:decide (V.byt i=V.byt j)=(i.toList == j.toList):=by
  rw[Bool.eq_iff_iff]
  cases i
  cases j
  simp
section
variable {X:Cx} {a b c:Expr} {ta tb tc:TE} {pos:Pos}
theorem zau {pins:List (Addr × Obj)} {σ:St} {H:Hp} {s:Shared} {Q:VK} {k k':Bool} (I:Inv X pins σ H s) (q:Q (.bl k) H) (e:k=k'):EP X pins σ Q (.bool k') s:=by
  subst e
  exact⟨.bl k,H,I,rfl,q⟩
theorem zbu:OpR X (compareOp .Eq) rEq:=by
  intro pins s σ H x y v u Q I rx ry h
  obtain⟨hs,q⟩:=h
  cases x with
  | non =>
    cases rx
    cases y with
    | non=>cases ry;exact PySem.EqNone.eq_none_none (zau I q (by simp))
    | bl j=>cases ry;exact PySem.EqNone.eq_none_bool (zau I q (by simp))
    | int j=>obtain⟨t',rfl⟩:=ry;exact PySem.EqNone.eq_none_int (zau I q (by simp))
    | str j=>obtain⟨t',rfl⟩:=ry;exact PySem.EqNone.eq_none_str (zau I q (by simp))
    | _=>exact absurd (show false=true from hs) Bool.false_ne_true
  | bl i =>
    cases rx
    cases y with
    | non=>cases ry;exact PySem.EqNone.eq_bool_none (zau I q (by simp))
    | bl j=>cases ry;exact eq_bool (zau I q zjp)
    | str j=>obtain⟨t',rfl⟩:=ry;exact PySem.EqMixed.eq_bool_str (zau I q (by simp))
    | _=>exact absurd (show false=true from hs) Bool.false_ne_true
  | int i =>
    obtain⟨t,rfl⟩:=rx
    cases y with
    | non=>cases ry;exact PySem.EqNone.eq_int_none (zau I q (by simp))
    | int j=>obtain⟨t',rfl⟩:=ry;exact eq_int (zau I q zih)
    | str j=>obtain⟨t',rfl⟩:=ry;exact PySem.EqMixed.eq_int_str (zau I q (by simp))
    | _=>exact absurd (show false=true from hs) Bool.false_ne_true
  | str i =>
    obtain⟨t,rfl⟩:=rx
    cases y with
    | non=>cases ry;exact PySem.EqNone.eq_str_none (zau I q (by simp))
    | bl j=>cases ry;exact PySem.EqMixed.eq_str_bool (zau I q (by simp))
    | int j=>obtain⟨t',rfl⟩:=ry;exact PySem.EqMixed.eq_str_int (zau I q (by simp))
    | str j=>obtain⟨t',rfl⟩:=ry;exact eq_str (zau I q zig)
    | _=>exact absurd (show false=true from hs) Bool.false_ne_true
  | byt i =>
    obtain⟨t,rfl⟩:=rx
    cases y with
    | byt j=>obtain⟨t',rfl⟩:=ry;exact PySem.W.eq_bytes (zau I q zii)
    | _=>exact absurd (show false=true from hs) Bool.false_ne_true
  | _=>cases y <;> exact absurd (show false=true from hs) Bool.false_ne_true
theorem op_ne:OpR X (compareOp .NotEq) rNe:=by
  intro pins s σ H x y v u Q I rx ry h
  obtain⟨hs,q⟩:=h
  cases x with
  | non =>
    cases rx
    cases y with
    | non=>cases ry;exact PySem.EqNone.ne_none_none (zau I q (by simp))
    | bl j=>cases ry;exact PySem.EqNone.ne_none_bool (zau I q (by simp))
    | int j=>obtain⟨t',rfl⟩:=ry;exact PySem.EqNone.ne_none_int (zau I q (by simp))
    | str j=>obtain⟨t',rfl⟩:=ry;exact PySem.EqNone.ne_none_str (zau I q (by simp))
    | _=>exact absurd (show false=true from hs) Bool.false_ne_true
  | bl i =>
    cases rx
    cases y with
    | non=>cases ry;exact PySem.EqNone.ne_bool_none (zau I q (by simp))
    | bl j=>cases ry;exact ne_bool (zau I q (congrArg not zjp))
    | str j=>obtain⟨t',rfl⟩:=ry;exact PySem.EqMixed.ne_bool_str (zau I q (by simp))
    | _=>exact absurd (show false=true from hs) Bool.false_ne_true
  | int i =>
    obtain⟨t,rfl⟩:=rx
    cases y with
    | non=>cases ry;exact PySem.EqNone.ne_int_none (zau I q (by simp))
    | int j=>obtain⟨t',rfl⟩:=ry;exact ne_int (zau I q (congrArg not zih))
    | str j=>obtain⟨t',rfl⟩:=ry;exact PySem.EqMixed.ne_int_str (zau I q (by simp))
    | _=>exact absurd (show false=true from hs) Bool.false_ne_true
  | str i =>
    obtain⟨t,rfl⟩:=rx
    cases y with
    | non=>cases ry;exact PySem.EqNone.ne_str_none (zau I q (by simp))
    | bl j=>cases ry;exact PySem.EqMixed.ne_str_bool (zau I q (by simp))
    | int j=>obtain⟨t',rfl⟩:=ry;exact PySem.EqMixed.ne_str_int (zau I q (by simp))
    | str j=>obtain⟨t',rfl⟩:=ry;exact ne_str (zau I q (congrArg not zig))
    | _=>exact absurd (show false=true from hs) Bool.false_ne_true
  | byt i =>
    obtain⟨t,rfl⟩:=rx
    cases y with
    | byt j=>obtain⟨t',rfl⟩:=ry;exact PySem.W.ne_bytes (zau I q (congrArg not zii))
    | _=>exact absurd (show false=true from hs) Bool.false_ne_true
  | _=>cases y <;> exact absurd (show false=true from hs) Bool.false_ne_true
theorem zfj:OpR X (compareOp .Lt) (rI0 fun i j=>.bl (decide (i < j))):=opB0 fun _ _ _ _ _ _ _ q=>lt_int q
theorem op_le:OpR X (compareOp .LtE) (rI0 fun i j=>.bl (decide (i≤j))):=opB0 fun _ _ _ _ _ _ _ q=>le_int q
theorem zcS:OpR X (compareOp .Gt) (rI0 fun i j=>.bl (decide (j < i))):=opB0 fun _ _ _ _ _ _ _ q=>gt_int q
theorem zgH:OpR X (compareOp .GtE) (rI0 fun i j=>.bl (decide (j≤i))):=opB0 fun _ _ _ _ _ _ _ q=>ge_int q
theorem zgk:OpR X (compareOp .In) (fun x y H Q=>∃ i j,x=.str i∧y=.str j∧Q (.bl (!(Builtin.Str.occurrences j i 0 j.length 1).isEmpty)) H):=by
  intro pins s σ H x y v u Q I rx ry h
  obtain⟨i,j,rfl,rfl,q⟩:=h
  obtain⟨t,rfl⟩:=rx
  obtain⟨t',rfl⟩:=ry
  exact in_str (zau I q rfl)
theorem zfT:OpR X (compareOp .IsNot) (fun x y H Q=>y=.non∧Q (.bl (!decide (x=.non))) H):=by
  intro pins s σ H x y v u Q I rx ry h
  obtain⟨rfl,q⟩:=h
  cases ry
  refine isnot_none_gen (zau I q ?_)
  cases x <;> first
    | (cases rx;rfl)
    | (obtain⟨t,rfl⟩:=rx;rfl)
theorem zam (b:Expr) {op:CmpOp} (h:op≠.In:=by decide) (h2:op≠.NotIn:=by decide):behindInMarks op b=false:=by
  have e1:(op == CmpOp.In)=false:=by cases op <;> first | rfl | exact absurd rfl h
  have e2:(op == CmpOp.NotIn)=false:=by cases op <;> first | rfl | exact absurd rfl h2
  cases b <;> simp [behindInMarks,e1,e2]
theorem zcb {op:CmpOp} {r:R2} (ho:OpR X (compareOp op) r) (ha:PE X a ta) (hb:PE X b tb) (hm:behindInMarks op b=false):PE X (.Compare a [op] [b] pos) (tOp r ta tb):=by
  intro pins s σ H Q I h
  exact wpAny_Compare1 (binT ha hb I h fun v u s2 x y H2 I2 rx ry q=>ho pins s2 σ H2 x y v u Q I2 rx ry q) hm
def tTest (t:TE):TT:=fun σ H Q=>t σ H fun x H'=>∃ k,x=.bl k∧Q k H'
theorem zac {op:CmpOp} {r:R2} (ho:OpR X (compareOp op) r) (ha:PE X a ta) (hb:PE X b tb) (hm:behindInMarks op b=false):PT X (.Compare a [op] [b] pos) (tTest (tOp r ta tb)):=by
  intro pins s σ H Q I h
  refine wpAny_isTrue_Compare1 (thn (ha pins s σ H _ I h) fun v s1 ⟨x,H1,I1,r1,q1⟩=>thn (hb pins s1 σ H1 _ I1 q1) fun u s2 ⟨y,H2,I2,r2,q2⟩ =>
    thn (ho pins s2 σ H2 x y v u _ I2 r1 r2 q2) fun c s3 ⟨z,H3,I3,r3,k,e,q3⟩=>?_) hm
  subst e
  cases r3
  exact wpAny_truthy_bool ⟨H3,I3,q3⟩
theorem zeq:(sizeLine:Nat) < 2 ^ 63:=by rw[sizeLine_eq];decide
theorem zas:OpR X (binaryOp .Add) (fun x y H Q=>∃ i j,x=.str i∧y=.str j∧i.length+j.length≤sizeLine∧Q (.str (i++j)) H):=by
  intro pins s σ H x y v u Q I rx ry h
  obtain⟨i,j,rfl,rfl,hz,q⟩:=h
  obtain⟨t,rfl⟩:=rx
  obtain⟨t',rfl⟩:=ry
  exact add_str (fun t' tk=>⟨.str (i++j),H,I.tok _,⟨_,rfl⟩,q⟩) hz
theorem zeJ {x:V} {us:List Value} (r:aH [x] us):∃ u,us=[u]∧zan x u:=by
  cases r with
  | cons r1 r2=>cases r2;exact⟨_,rfl,r1⟩
theorem vals2 {x y:V} {us:List Value} (r:aH [x,y] us):∃ u w',us=[u,w']∧zan x u∧zan y w':=by
  cases r with
  | cons r1 r2 =>
    cases r2 with
    | cons r3 r4=>cases r4;exact⟨_,_,rfl,r1,r3⟩
theorem zkK:zcV X (.builtin "abs") (fun xs H Q=>∃ i,xs=[.int i]∧Q (.int (if i < 0 then -i else i)) H):=by
  intro pins s σ H xs us Q I r h
  obtain⟨i,rfl,q⟩:=h
  obtain⟨u,rfl,t,rfl⟩:=zeJ r
  exact call_abs_int fun u tk=>⟨.int (if i < 0 then -i else i),H,I.tok _,⟨_,rfl⟩,q⟩
end
end L2
namespace L2
open PySem PySem.Spec PyProof.Rows
structure ze1 (h:Heap) (x dx C:Addr) (mA:Str→Option Value):Prop where
  obj:h.get? x=some (PySem.W.instObj C dx)
  ns:h.Ns1 dx mA
  ne:dx≠x
theorem zjO {h:Heap} {dx:Addr} {mA:Str→Option Value} (n:h.Ns1 dx mA):∃ od,h.get? dx=some od∧∀ name,PySem.W.lookIn name od=some (mA name):=by
  obtain⟨o,es,ep,ho,hd,hk,_,hm⟩:=n
  refine⟨o,ho,fun name=>?_⟩
  have e:=hm name
  unfold nsFind findBy at e
  rw[←Array.find?_toList]at e
  unfold PySem.W.lookIn
  rw[hd]
  dsimp only
  split
  · rename_i y q
    rw[q]at e
    exact congrArg some e
  · rename_i q
    rw[q]at e
    have a:es.toList.any (·.refKey)=false:=by
      rw[List.any_eq_false]
      intro y hy
      obtain⟨z,t,hkey⟩:=hk y (Array.mem_toList_iff.mp hy)
      simp [DictEntry.refKey,hkey]
    have a':¬es.toList.any (·.refKey)=true:=by rw[a];exact Bool.false_ne_true
    rw[if_neg a']
    exact congrArg some e
theorem ze1.look {h:Heap} {x dx C:Addr} {mA:Str→Option Value} (I:ze1 h x dx C mA):∃ od,PySem.W.InstAt h x (PySem.W.instObj C dx) C (some od)∧∀ name,PySem.W.lookIn name od=some (mA name) :=
  let ⟨od,ho,hl⟩:=zjO I.ns
  ⟨od,⟨I.obj,rfl,rfl,ho⟩,hl⟩
section
variable {prog:Program} {w:World} {A:Around} {E:Value→Shared→Prop} {s:Shared} {K:PySem.W.Frag} {x dx C f:Addr} {mA:Str→Option Value} {name:Str} {v:Value}
theorem zlt {expr:Bool} {Q:Value→Shared→Prop} (X:K.In s.heap) (I:ze1 s.heap x dx C mA) (hg:PySem.W.plainGet K C name=true) (hh:PySem.W.hasDictIn K C=true)
    (ha:PySem.W.findIn K (.ref C) name=some none) (hv:mA name=some v) (hv':PySem.W.handedIn v=true) (h:Q v { s with toks:=s.toks+1 }) :
    wpAny (model prog w) A (getAttr (.ref x) name expr) Q E s:=by
  obtain⟨od,J,hl⟩:=I.look
  exact PySem.W.get_value X J (PySem.W.plainGet_of hg).1 (PySem.W.findObj_own hh ha rfl (by rw[hl,hv])) hv' h
theorem zkE {pl:Sem Bool} {Q:Value × List Value→Shared→Prop} (X:K.In s.heap) (I:ze1 s.heap x dx C mA) (hg:PySem.W.plainGet K C name=true)
    (hf:PySem.W.findIn K (.ref C) name=some (some (.ref f))) (ht:PySem.W.isFn K (.ref f)=true) (hv:mA name=none) (h:Q (.ref f,[.ref x]) s) :
    wpAny (model prog w) A (getMethod (.ref x) name pl) Q E s:=by
  obtain⟨od,J,hl⟩:=I.look
  exact PySem.W.method_fn X J (PySem.W.plainGet_of hg).1 (PySem.W.plainGet_of hg).2 hf (beq_iff_eq.mp ht) (by show(PySem.W.lookIn name od).map (·.isSome)=some false;rw[hl,hv];rfl) h
theorem zkX {ns:List Str} {Q:Unit→Shared→Prop} (X:K.In s.heap) (I:ze1 s.heap x dx C mA)
    (hs:PySem.W.findIn K (.ref C) "__setattr__"=some (some (.builtin "object.__setattr__"))) (hp:PySem.W.plainOver K C=true) (ht:PySem.W.takerIn K C name=some none) (hh:PySem.W.hasDictIn K C=true)
    (hw:PySem.Within mA ns) (hsz:ns.length≤sizeLine)
    (h:∀ h',ze1 h' x dx C (fun y=>if y=name then some v else mA y)→Heap.SameBut dx s.heap h'→Q () { s with heap:=h',toks:=s.toks+2 }) :
    wpAny (model prog w) A (setAttr (.ref x) name v) Q E s:=by
  obtain⟨od,J,hl⟩:=I.look
  refine PySem.W.set_plain X J hs (PySem.W.osa_open (s:={ s with toks:=s.toks+1 }) (r:=none) X J hp ht fun b=>?_)
  obtain⟨cd,hc,hd'⟩:=PySem.W.any_some hh
  have hx:s.heap.get? x=some ⟨.ref C,some dx,.plain,#[]⟩:=I.obj
  refine wpAny_bind (wpAny_pure (wpAny_bind (wpAny_bind (wpAny_loadPart hx (wpAny_bind (PySem.W.Looks.here (s:={ s with toks:=s.toks+1 }) (PySem.W.looks_clsIn X hc) ?_))))))
  rw[hd']
  refine wpAny_pure (a:=some dx) (wpAny_bind (wpAny_pure (wpAny_bind ?_)))
  refine wpAny_nsSet1 (s:={ s with toks:=s.toks+1 }) I.ns fun h' hn2 hs2=>?_
  obtain⟨oD,esD,epD,hoD,hdD,hcD⟩:=hn2.count (PySem.Within.cons name v hw)
  refine wpAny_bind (wpAny_lookBehind hoD (by rw[hdD];exact pastItsLine_dict (Nat.le_trans hcD (by rw[List.length_cons];omega))) ?_)
  exact wpAny_pure (h _ ⟨(hs2.2 _ (Ne.symm I.ne)).trans I.obj,hn2,I.ne⟩ hs2)
theorem zkx {R:Result→Shared→Prop} {vs:List Value} {kw:List (Str × Value)} (X:K.In s.heap) (hm:PySem.W.makesIn K C=true)
    (hi:PySem.W.findIn K (.ref C) "__init__"=some (some (.ref f))) (hf:PySem.W.typeIn K (.ref f)=some (.type "function"))
    (h:codeAny (model prog w) (A.under (.builtin "type.__call__" ⟨.ref C :: vs,kw⟩)) (.call (.ref f) ⟨.ref (s.heap.objs.size+1) :: vs,kw⟩) (PySem.W.InitBack (s.heap.objs.size+1) R)
      { s with heap:=(s.heap.push PySem.W.emptyDict).push (PySem.W.instObj C s.heap.objs.size) }) :
    codeAny (model prog w) A (.call (.ref C) ⟨vs,kw⟩) R s:=by
  obtain⟨hh,g,d,t,os⟩:=s
  exact PySem.W.make_core (PySem.W.makes_of X hm) (PySem.W.looks_findIn X hi) (fun self=>PySem.W.bind_fn X self hf) (.inl rfl) h
end
def zaI (f:Str) (v:V):List (Str × V)→List (Str × V)
  | []=>[(f,v)]
  | (g,x) :: r=>if g=f then(g,v) :: r else(g,x) :: zaI f v r
theorem zay (f g:Str) (v:V):∀ fs:List (Str × V),(zaI f v fs).lookup g=if g=f then some v else fs.lookup g
  | []=>by
    show List.lookup g [(f,v)]=_
    by_cases h:g=f
    · have hb:(g == f)=true:=beq_iff_eq.mpr h
      simp only[List.lookup,hb,if_pos h]
    · have hb:(g == f)=false:=beq_eq_false_iff_ne.mpr h
      simp only[List.lookup,hb,if_neg h]
  | (k,x) :: r=>by
    have ih:=zay f g v r
    rw[show zaI f v ((k,x) :: r)=(if k=f then(k,v) :: r else(k,x) :: zaI f v r) from rfl]
    by_cases hk:k=f
    · rw[if_pos hk]
      by_cases h:g=k
      · have hb:(g == k)=true:=beq_iff_eq.mpr h
        simp only[List.lookup,hb,if_pos (h.trans hk)]
      · have hb:(g == k)=false:=beq_eq_false_iff_ne.mpr h
        simp only[List.lookup,hb,if_neg (fun e:g=f=>h (e.trans hk.symm))]
    · rw[if_neg hk]
      by_cases h:g=k
      · have hb:(g == k)=true:=beq_iff_eq.mpr h
        simp only[List.lookup,hb,if_neg (fun e:g=f=>hk (h.symm.trans e))]
      · have hb:(g == k)=false:=beq_eq_false_iff_ne.mpr h
        simp only[List.lookup,hb]
        exact ih
theorem zeE (f:Str) (v:V):∀ fs:List (Str × V),f∈(zaI f v fs).map (·.1)∧∀ g,g∈fs.map (·.1)→g∈(zaI f v fs).map (·.1)
  | []=>⟨by simp [zaI],fun g h=>by simp at h⟩
  | (k,x) :: r=>by
    obtain⟨i1,i2⟩:=zeE f v r
    rw[show zaI f v ((k,x) :: r)=(if k=f then(k,v) :: r else(k,x) :: zaI f v r) from rfl]
    by_cases hk:k=f
    · rw[if_pos hk]
      subst hk
      exact⟨by simp,fun g h=>by simpa using h⟩
    · rw[if_neg hk]
      refine⟨?_,fun g h=>?_⟩
      · rw[List.map_cons]
        exact List.mem_cons_of_mem _ i1
      · rw[List.map_cons]at h ⊢
        rcases List.mem_cons.mp h with e | e
        · exact List.mem_cons.mpr (.inl e)
        · exact List.mem_cons_of_mem _ (i2 g e)
theorem zeZ (f:Str) (v:V):∀ fs:List (Str × V),(zaI f v fs).length≤fs.length+1
  | []=>by simp [zaI]
  | (k,x) :: r=>by
    have ih:=zeZ f v r
    rw[show zaI f v ((k,x) :: r)=(if k=f then(k,v) :: r else(k,x) :: zaI f v r) from rfl]
    by_cases hk:k=f
    · rw[if_pos hk,List.length_cons,List.length_cons];omega
    · rw[if_neg hk,List.length_cons,List.length_cons];omega
theorem zdt.some_of {v:V} {o:Option Value} (r:zdt (some v) o):∃ u,o=some u∧zan v u:=by
  cases o with
  | none=>exact(show False from r).elim
  | some u=>exact⟨u,rfl,r⟩
theorem zdt.none_of {o:Option Value} (r:zdt none o):o=none:=by
  cases o with
  | none=>rfl
  | some u=>exact(show False from r).elim
theorem zjT {v:V} {u:Value} (r:zan v u):PySem.W.handedIn u=true:=by
  cases v with
  | non=>cases (show u=Value.none from r);rfl
  | bl b=>cases (show u=Value.bool b from r);rfl
  | int i=>obtain⟨t,e⟩:=(show ∃ t,u=Value.int i t from r);cases e;rfl
  | str x=>obtain⟨t,e⟩:=(show ∃ t,u=Value.str x t from r);cases e;rfl
  | byt b=>obtain⟨t,e⟩:=(show ∃ t,u=Value.bytes b t from r);cases e;rfl
  | flt b=>obtain⟨t,e⟩:=(show ∃ t,u=Value.float b t from r);cases e;rfl
  | ref a=>cases (show u=Value.ref a from r);rfl
  | ty n=>cases (show u=Value.type n from r);rfl
section
variable {P:Program} {w:World} {H H':Hp} {h h':Heap} {a C dx:Addr} {fs fs':List (Str × V)}
theorem zfY (hok:HOk P w H h) (e:H a=some (.ins C dx fs)):∃ mA,ze1 h a dx C mA∧(∀ f,zdt (fs.lookup f) (mA f))∧PySem.Within mA (fs.map (·.1))∧fs.length≤1000∧H dx=some (.own a):=by
  obtain⟨d,z,ne,ob,mA,n,r,q⟩:=(show zbv P w H h a (.ins C dx fs) from hok a _ e)
  exact⟨mA,⟨ob,n,ne⟩,r,q,z,d⟩
end
structure Cls (K:PySem.W.Frag) (C:Addr):Prop where
  pg:PySem.W.plainGet K C Str.empty=true
  hd:PySem.W.hasDictIn K C=true
  po:PySem.W.plainOver K C=true
  sa:PySem.W.findIn K (.ref C) "__setattr__"=some (some (.builtin "object.__setattr__"))
theorem Cls.get {K:PySem.W.Frag} {C:Addr} (c:Cls K C) (f:Str):PySem.W.plainGet K C f=true:=c.pg
def zbG (K:PySem.W.Frag) (C:Addr) (f:Str):Prop:=PySem.W.findIn K (.ref C) f=some none
theorem zbG.taker {K:PySem.W.Frag} {C:Addr} {f:Str} (n:zbG K C f):PySem.W.takerIn K C f=some none:=by
  unfold PySem.W.takerIn
  rw[show PySem.W.findIn K (.ref C) f=some none from n]
  rfl
structure zbk (K:PySem.W.Frag) (C:Addr) (m:Str) (f:Addr):Prop where
  at_:PySem.W.findIn K (.ref C) m=some (some (.ref f))
  fn:PySem.W.isFn K (.ref f)=true
  kp:PySem.W.keepIn K (.ref f)=true
section
variable {X:Cx} {pins:List (Addr × Obj)} {σ:St} {H:Hp} {s:Shared} {a C dx:Addr} {fs:List (Str × V)} {f:Str} {v:V} {A:Around} {E:Value→Shared→Prop}
theorem zfF {b:Bool} {Q:Value→Shared→Prop} (I:Inv X pins σ H s) (e:H a=some (.ins C dx fs)) (c:Cls X.K C) (n:zbG X.K C f) (l:fs.lookup f=some v)
    (h:∀ u s',Inv X pins σ H s'→zan v u→Q u s'):wpAny (model X.prog X.w) A (getAttr (.ref a) f b) Q E s:=by
  obtain⟨mA,O,r,_,_,_⟩:=zfY I.hok e
  obtain⟨u,hu,ru⟩:=zdt.some_of (v:=v) (o:=mA f) (by rw[←l];exact r f)
  exact zlt I.kIn O (c.get f) c.hd n hu (zjT ru) (h u _ (I.tok _) ru)
theorem zei {m:Str} {g:Addr} {pl:Sem Bool} {Q:Value × List Value→Shared→Prop} (I:Inv X pins σ H s) (e:H a=some (.ins C dx fs)) (c:Cls X.K C) (k:zbk X.K C m g) (l:fs.lookup m=none)
    (h:Q (.ref g,[.ref a]) s):wpAny (model X.prog X.w) A (getMethod (.ref a) m pl) Q E s:=by
  obtain⟨mA,O,r,_,_,_⟩:=zfY I.hok e
  have hn:mA m=none:=zdt.none_of (by rw[←l];exact r m)
  exact zkE I.kIn O (c.get m) k.at_ k.fn hn h
theorem zfy {y:V} {u:Value} {Q:Unit→Shared→Prop} (I:Inv X pins σ H s) (e:H a=some (.ins C dx fs)) (c:Cls X.K C) (n:zbG X.K C f) (hl:fs.length < 1000) (ry:zan y u)
    (h:∀ s',Inv X pins σ (upd H a (.ins C dx (zaI f y fs))) s'→Q () s'):wpAny (model X.prog X.w) A (setAttr (.ref a) f u) Q E s:=by
  obtain⟨mA,O,r,wi,_,ho⟩:=zfY I.hok e
  have hz:(fs.map (·.1)).length≤sizeLine:=by rw[List.length_map,sizeLine_eq];omega
  refine zkX I.kIn O c.sa c.po n.taker c.hd wi hz fun h' O' sb=>h _ ?_
  have hd:∃ o,h'.get? dx=some o:=let ⟨o,_,_,e',_⟩:=O'.ns;⟨o,e'⟩
  refine I.write (x:=a) (e:=dx) (by rw[e];exact True.intro) (.inr ho) (fun b q hb z=>(sb.2 b hb).trans z) hd ?_
  refine⟨by rw[au O.ne];exact ho,?_,O.ne,O'.obj,_,O'.ns,fun g=>?_,fun g hg=>?_⟩
  · have:=zeZ f y fs;omega
  · show zdt ((zaI f y fs).lookup g) (if g=f then some u else mA g)
    rw[zay]
    by_cases q:g=f
    · rw[if_pos q,if_pos q];exact ry
    · rw[if_neg q,if_neg q];exact r g
  · by_cases q:g=f
    · rw[q];exact(zeE f y fs).1
    · refine(zeE f y fs).2 g (wi g fun z=>hg ?_)
      show(if g=f then some u else mA g)=none
      rw[if_neg q];exact z
theorem Inv.made (I:Inv X pins σ H s):Inv X pins σ (upd (upd H s.heap.objs.size (.own (s.heap.objs.size+1))) (s.heap.objs.size+1) (.ins C s.heap.objs.size []))
    { s with heap:=(s.heap.push PySem.W.emptyDict).push (PySem.W.instObj C s.heap.objs.size) }:=by
  have e1:(s.heap.push PySem.W.emptyDict).get? s.heap.objs.size=some PySem.W.emptyDict:=Heap.get?_push_size s.heap rfl
  have e2:((s.heap.push PySem.W.emptyDict).push (PySem.W.instObj C s.heap.objs.size)).get? (s.heap.objs.size+1)=some (PySem.W.instObj C s.heap.objs.size):=by
    have:=Heap.get?_push_size (s.heap.push PySem.W.emptyDict) (o:=PySem.W.instObj C s.heap.objs.size) rfl
    rwa [Heap.size_push]at this
  have e3:(s.heap.push PySem.W.emptyDict).Ns s.heap.objs.size (fun _=>none):=⟨PySem.W.emptyDict,#[],_,e1,rfl,(fun e he=>absurd he (by simp)),fun _=>rfl⟩
  have I1:=I.laid (a:=s.heap.objs.size) (o:=.own (s.heap.objs.size+1)) (h':=s.heap.push PySem.W.emptyDict) (t':=s.toks) (fun b u q=>Heap.get?_push_of_some _ q) (Nat.le_refl _) ⟨_,e1⟩
  refine I1.laid (a:=s.heap.objs.size+1) (o:=.ins C s.heap.objs.size []) (t':=s.toks) (fun b u q=>Heap.get?_push_of_some _ q) (Nat.le_of_eq (Heap.size_push _ _)) ?_
  have ne:s.heap.objs.size≠s.heap.objs.size+1:=Nat.ne_of_lt (Nat.lt_succ_self _)
  refine⟨by rw[au ne,ae],Nat.zero_le _,ne,e2,fun _=>none,(Heap.Ns1.of_empty e3).at fun o q=>Heap.get?_push_of_some _ q,fun _=>True.intro,fun y hy=>absurd rfl hy⟩
theorem zlz {prog:Program} {w:World} {env:Env} {e:Expr} {f:Str} {pos:Pos} {s:Shared} {Q:Value→Shared→Prop} (hb:attributeBase e f env (eval e env)=eval e env)
    (h:wpAny (model prog w) A (eval e env) (fun o s₁=>wpAny (model prog w) A (getAttr o f true) Q E s₁) E s):wpAny (model prog w) A (eval (.Attribute e f pos) env) Q E s :=
  Attribute_any_ h (by rw[arm_eval_Attribute,hb])
end
def tFld (K:PySem.W.Frag) (ta:TE) (f:Str):TE:=fun σ H Q=>ta σ H fun x H1=>∃ a C dx fs v,x=.ref a∧H1 a=some (.ins C dx fs)∧Cls K C∧zbG K C f∧fs.lookup f=some v∧Q v H1
def sFld (K:PySem.W.Frag) (ta tv:TE) (f:Str):TS:=fun D σ H=>tv σ H fun y H1=>ta σ H1 fun x H2=>∃ a C dx fs,x=.ref a∧H2 a=some (.ins C dx fs)∧Cls K C∧zbG K C f∧fs.length < 1000 ∧
  D.nx σ (upd H2 a (.ins C dx (zaI f y fs)))
def InOp (X:Cx) (op:Operator) (rd:V→V→Hp→VK→Prop):Prop :=
  ∀(pins:List (Addr × Obj)) (s:Shared) (σ:St) (H:Hp) (x y:V) (u v:Value) (Q:VK),Inv X pins σ H s→zan x u→zan y v→rd x y H Q→wpAny (model X.prog X.w) X.A (inplaceOp op u v) (EP X pins σ Q) X.xe s
def zkZ (K:PySem.W.Frag) (ta tv:TE) (rd:V→V→Hp→VK→Prop) (f:Str):TS:=fun D σ H=>ta σ H fun x H1=>∃ a C dx fs v,x=.ref a∧H1 a=some (.ins C dx fs)∧Cls K C∧zbG K C f∧fs.lookup f=some v ∧
  tv σ H1 fun y H2=>rd v y H2 fun z H3=>∃ dx' fs',H3 a=some (.ins C dx' fs')∧fs'.length < 1000∧D.nx σ (upd H3 a (.ins C dx' (zaI f z fs')))
section
variable {X:Cx} {o e value:Expr} {f:Str} {pos pos' tpos:Pos} {ta tv:TE}
theorem zaB (he:PE X e ta) (hb:attributeBase e f X.env (eval e X.env)=eval e X.env):PE X (.Attribute e f pos) (tFld X.K ta f):=by
  intro pins s σ H Q I h
  refine zlz hb (thn (he pins s σ H _ I h) fun u s1 ⟨x,H1,I1,rx,a,C,dx,fs,v,ex,ea,c,n,l,q⟩=>?_)
  subst ex
  obtain rfl:u=Value.ref a:=rx
  exact zfF I1 ea c n l fun u' s2 I2 ru=>⟨v,H1,I2,ru,q⟩
theorem zen (ha:PE X o ta) (hv:PE X value tv) (hs:swapsWith value (some (.Attribute o f pos')) pos.line X.env=pure false):PS X (.Assign [.Attribute o f pos'] value pos) (sFld X.K ta tv f):=by
  intro pins s σ H D I h
  refine plainObj_wpAny_Assign_Attribute (thn (hv pins s σ H _ I h) fun u s1 ⟨y,H1,I1,ry,q⟩=>thn (ha pins s1 σ H1 _ I1 q) fun ov s2 ⟨x,H2,I2,rx,a,C,dx,fs,ex,ea,c,n,l,q2⟩=>?_) hs
  subst ex
  obtain rfl:ov=Value.ref a:=rx
  exact zfy I2 ea c n l ry fun s3 I3=>⟨σ,_,I3,q2⟩
theorem zgj {op:Operator} {rd:V→V→Hp→VK→Prop} (ha:PE X o ta) (hv:PE X value tv) (hop:InOp X op rd):PS X (.AugAssign (.Attribute o f tpos) op value pos) (zkZ X.K ta tv rd f):=by
  intro pins s σ H D I h
  refine wpAny_AugAssign_AttributeAny (thn (ha pins s σ H _ I h) fun ov s1 ⟨x,H1,I1,rx,a,C,dx,fs,v,ex,ea,c,n,l,q⟩=>?_)
  subst ex
  obtain rfl:ov=Value.ref a:=rx
  refine zfF I1 ea c n l fun u s2 I2 ru=>thn (hv pins s2 σ H1 _ I2 q) fun w3 s3 ⟨y,H2,I3,ry,q3⟩=>thn (hop pins s3 σ H2 v y u w3 _ I3 ru ry q3) fun w4 s4 ⟨z,H3,I4,rz,dx',fs',ea',l',q4⟩=>?_
  exact zfy I4 ea' c n l' rz fun s5 I5=>⟨σ,_,I5,q4⟩
def rAdd:V→V→Hp→VK→Prop:=fun x y H Q=>∃ i j,x=.int i∧y=.int j∧Q (.int (i+j)) H
theorem zjj:InOp X .Add rAdd:=by
  rintro pins s σ H x y u v Q I rx ry ⟨i,j,rfl,rfl,q⟩
  obtain⟨t,rfl⟩:=(show ∃ t,u=Value.int i t from rx)
  obtain⟨t',rfl⟩:=(show ∃ t',v=Value.int j t' from ry)
  exact PyProof.Rows.iadd_int ⟨.int (i+j),H,I.tok _,⟨_,rfl⟩,q⟩
theorem zlK {pl:Sem Bool} {m:Str} {apos:Pos} {args:List Expr} {pins:List (Addr × Obj)} {s:Shared} {σ:St} {H:Hp} {Q:Value→Shared→Prop} {te:TE} (he:PE X e te) (I:Inv X pins σ H s)
    (h:te σ H fun x H1=>∃ a C dx fs g,x=.ref a∧H1 a=some (.ins C dx fs)∧Cls X.K C∧zbk X.K C m g∧fs.lookup m=none ∧
      ∀ s1,Inv X pins σ H1 s1→wpAny (model X.prog X.w) X.A (callWith pos (.ref g) [.ref a] (backTo pos (starEach args X.env)) (backToKw pos (keywordEach [] X.env))) Q X.xe s1)
    (ht:eval (.Call (.Attribute e m apos) args [] pos) X.env=(do
      let ov ←eval e X.env
      standAt apos.atName
      let (f,first) ←holding [ov] (getMethod ov m pl)
      callWith pos f first (backTo pos (starEach args X.env)) (backToKw pos (keywordEach [] X.env)))) :
    wpAny (model X.prog X.w) X.A (eval (.Call (.Attribute e m apos) args [] pos) X.env) Q X.xe s:=by
  refine PySem.W.methodCall_KW (pl:=pl) (thn (he pins s σ H _ I h) fun u s1 ⟨x,H1,I1,rx,a,C,dx,fs,g,ex,ea,c,k,l,q⟩=>?_) ht
  subst ex
  obtain rfl:u=Value.ref a:=rx
  exact zei I1 ea c k l (q s1 I1)
end
section
variable {X:Cx} {pins:List (Addr × Obj)} {σ:St} {H:Hp} {s:Shared} {A:Around} {E:Value→Shared→Prop} {Q:Value→Shared→Prop} {c:Value} {b:Bool}
end
end L2
namespace L2
open PySem PySem.Spec PyProof.Rows
structure aL (k:Nat) (A:Around):Prop where
  hd:A.handled=none
  dp:A.depth+3 * k+5 < recursionLimit
  un:A.units+16 * k+200 < cLine
  gd:A.guards=some []
theorem aL.mono {j k:Nat} {A:Around} (r:aL k A) (h:j≤k):aL j A:=⟨r.hd,by have:=r.dp;omega,by have:=r.un;omega,r.gd⟩
theorem aL.deeper {k:Nat} {A:Around} (r:aL (k+1) A) (env:Env):aL k (A.deeper env) :=
  ⟨r.hd,by have:=r.dp;show A.depth+1+3 * k+5 < _;omega,by have:=r.un;show A.units+3+16 * k+200 < _;omega,r.gd⟩
theorem ziT {A:Around} {C:Addr} {us:List Value} {kw:List (Str × Value)}:(A.under (.builtin "type.__call__" ⟨.ref C :: us,kw⟩)).depth=A.depth+1:=by
  first | rfl | simp [Around.under,Code.weight,Code.isCreation,Code.isGuard,Code.isCaller,Code.frames,Code.isFrame,guardIds]
theorem ziS {A:Around} {C:Addr} {us:List Value} {kw:List (Str × Value)}:(A.under (.builtin "type.__call__" ⟨.ref C :: us,kw⟩)).units=A.units+1:=by
  first | rfl | simp [Around.under,Code.cUnits,Code.frames,Code.isFrame]
theorem zhR {A:Around} {C:Addr} {us:List Value} {kw:List (Str × Value)} (h:A.guards=some []):(A.under (.builtin "type.__call__" ⟨.ref C :: us,kw⟩)).guards=some []:=by
  first | exact h | simp [Around.under,Code.guards,Code.isGuard,guardIds,pushGuards,h]
theorem aL.make {k:Nat} {A:Around} (r:aL (k+1) A) (C:Addr) (us:List Value) (kw:List (Str × Value)):aL k (A.under (.builtin "type.__call__" ⟨.ref C :: us,kw⟩)) :=
  ⟨r.hd,by have:=r.dp;rw[ziT];omega,by have:=r.un;rw[ziS];omega,zhR r.gd⟩
theorem aL.depth {k:Nat} {A:Around} (r:aL k A):A.depth < recursionLimit:=by have:=r.dp;omega
theorem aL.units {k:Nat} {A:Around} (r:aL k A):A.units+64 < cLine:=by have:=r.un;omega
def tNil:TA:=fun _ H Q=>Q [] H
def tCons (ta:TE) (tr:TA):TA:=fun σ H Q=>ta σ H fun x H1=>tr σ H1 fun xs H2=>Q (x :: xs) H2
section
variable {X:Cx} {e:Expr} {es:List Expr} {te:TE} {t:TA} {pos:Pos}
theorem ac:PA X [] tNil:=fun _ _ _ _ H Q I h=>Calls.spliced_nil ⟨[],H,I,.nil,h⟩
theorem aa (ha:PE X e te) (hr:PA X es t) (hs:starEach (e :: es) X.env=(false,eval e X.env) :: starEach es X.env:=by rfl):PA X (e :: es) (tCons te t):=by
  intro pos pins s σ H Q I h
  rw[hs]
  show wpAny _ _ (spliced ((false,eval e X.env) :: backTo pos (starEach es X.env))) _ _ s
  refine Calls.spliced_cons (thn (ha pins s σ H _ I h) fun u s1 ⟨x,H1,I1,r1,q1⟩=>?_)
  exact thn (hr pos pins s1 σ H1 _ I1 q1) fun us s2 ⟨xs,H2,I2,r2,q2⟩=>⟨x :: xs,H2,I2,.cons r1 r2,q2⟩
def tTup (t:TA):TE:=fun σ H Q=>t σ H fun xs H1=>xs.length≤sizeLine∧∀ p,H1 p=none→Q (.ref p) (upd H1 p (.tup xs))
def tLst (t:TA):TE:=fun σ H Q=>t σ H fun xs H1=>xs.length≤sizeLine∧∀ p,H1 p=none→Q (.ref p) (upd H1 p (.lst xs))
theorem zak {x1} (h:PA X es t):PE X (.Tuple es x1 pos) (tTup t):=by
  intro pins s σ H Q I hq
  refine wpAny_Tuple_spliced (thn (h pos pins s σ H _ I hq) fun us s1 ⟨xs,H1,I1,r,z,q⟩=>⟨by rw[←r.length];exact z,?_⟩)
  have hf:H1 s1.heap.objs.size=none:=I1.hok.fresh (Nat.le_refl _)
  refine⟨.ref s1.heap.objs.size,upd H1 s1.heap.objs.size (.tup xs),I1.laid (t':=s1.toks) (fun b u e=>Heap.get?_push_of_some _ e) (Nat.le_refl _) ?_,rfl,q _ hf⟩
  exact⟨z,us,r,⟨_,Heap.get?_push_size _ rfl,rfl,_,rfl⟩⟩
theorem zaA (h:PA X es t):PE X (.List es pos) (tLst t):=by
  intro pins s σ H Q I hq
  refine wpAny_List_spliced (thn (h pos pins s σ H _ I hq) fun us s1 ⟨xs,H1,I1,r,z,q⟩=>⟨by rw[←r.length];exact z,?_⟩)
  have hf:H1 s1.heap.objs.size=none:=I1.hok.fresh (Nat.le_refl _)
  refine⟨.ref s1.heap.objs.size,upd H1 s1.heap.objs.size (.lst xs),I1.laid (t':=s1.toks) (fun b u e=>Heap.get?_push_of_some _ e) (Nat.le_refl _) ?_,rfl,q _ hf⟩
  exact⟨z,us,0,r,Heap.get?_push_size _ rfl⟩
end
abbrev Sp:=List V→Hp→VK→XK→Prop
abbrev CXT:=List Env→Hp→Shared→XK→Value→Shared→Prop
structure ze3 (P:Program) (w:World) (K:PySem.W.Frag) (mg:Str→Option Value) (base:Heap) (A:Around) (outer:List Env) (s:Shared) (H:Hp):Prop where
  frames:A.frames=some outer
  mod:Mod K mg base
  bs:∀ b o,base.get? b=some o→s.heap.get? b=some o∧H b=none
  bsz:base.objs.size≤s.heap.objs.size
  funs:s.heap.FunFrames base outer
  frf:∀ b∈frs outer,H b=none
  hok:HOk P w H s.heap
  bare:AllBare s.gens
def CE (outer:List Env) (P:Program) (w:World) (H:Hp) (s:Shared) (Q:VK) (u:Value) (s':Shared):Prop :=
  ∃ v H',s'.os=s.os∧AllBare s'.gens∧Un (frs outer) [] H H' s.heap s'.heap∧HOk P w H' s'.heap∧zan v u∧Q v H'
def CR (CX:CXT) (outer:List Env) (P:Program) (w:World) (H:Hp) (s:Shared) (Q:VK) (E:XK) (r:Result) (s':Shared):Prop :=
  match r with
  | .ok (.ret u)=>CE outer P w H s Q u s'
  | .ok _=>False
  | .error e=>CX outer H s E e s'
structure FnOk (P:Program) (w:World) (K:PySem.W.Frag) (mg:Str→Option Value) (base:Heap) (CX:CXT) (k:Nat) (f:Addr) (fd:FuncData) (ps:List Str) (sp:Sp):Prop where
  len:∀ vs H Q E,sp vs H Q E→vs.length=ps.length
  run:∀(A:Around) (outer:List Env) (s:Shared) (H:Hp) (args:Args) (us:List Value) (vs:List V) (Q:VK) (E:XK),aL k A→ze3 P w K mg base A outer s H→BindsTo s fd args (ps.zip us)→aH vs us→sp vs H Q E →
    codeAny (model P w) A (.call (.ref f) args) (CR CX outer P w H s Q E) s
theorem FnOk.mono {P:Program} {w:World} {K:PySem.W.Frag} {mg:Str→Option Value} {base:Heap} {CX:CXT} {j k:Nat} {f:Addr} {fd:FuncData} {ps:List Str} {sp:Sp} (F:FnOk P w K mg base CX j f fd ps sp) (h:j≤k) :
    FnOk P w K mg base CX k f fd ps sp:=⟨F.len,fun A outer s H args us vs Q E hr=>F.run A outer s H args us vs Q E (hr.mono h)⟩
theorem ze3.make {P:Program} {w:World} {K:PySem.W.Frag} {mg:Str→Option Value} {base:Heap} {A:Around} {outer:List Env} {s:Shared} {H:Hp} (e:ze3 P w K mg base A outer s H) (C:Addr) (us:List Value) (kw:List (Str × Value)) :
    ze3 P w K mg base (A.under (.builtin "type.__call__" ⟨.ref C :: us,kw⟩)) outer s H:=⟨by first | exact e.frames | (simpa [Around.under,Code.envs,Code.isFrame,pushEnvs] using e.frames),e.mod,e.bs,e.bsz,e.funs,e.frf,e.hok,e.bare⟩
section
variable {X:Cx} {pins:List (Addr × Obj)} {σ:St} {H:Hp} {s s':Shared}
theorem Inv.env0 (I:Inv X pins σ H s):ze3 X.prog X.w X.K X.mg X.base X.A X.stack s H :=
  ⟨I.ok.frames,I.ok.mod,I.bs,Nat.le_trans I.ok.bsz I.sz,I.stack,I.stkFree,I.hok,I.bare⟩
theorem Inv.after {Q:VK} {u:Value} (I:Inv X pins σ H s) (h:CE X.stack X.prog X.w H s Q u s'):EP X pins σ Q u s':=by
  obtain⟨v,H',os,bare,un,hok,r,q⟩:=h
  obtain⟨hh,g,d,t,os'⟩:=s'
  obtain rfl:os'=s.os:=os
  exact⟨v,H',I.call (h':=hh) (g':=g) (d':=d) (t':=t) (ch:=[]) un hok bare (fun b z=>absurd z (by simp)),r,q⟩
end
def tCall (sp:Sp) (dvs:List V) (E:XK) (t:TA):TE:=fun σ H Q=>t σ H fun vs H1=>sp (vs++dvs) H1 Q E
def tMeth (C:Addr) (m:Str) (sp:Sp) (dvs:List V) (E:XK) (ta:TE) (t:TA):TE:=fun σ H Q=>ta σ H fun x H1=>∃ a dx fs,x=.ref a∧H1 a=some (.ins C dx fs)∧fs.lookup m=none ∧
  t σ H1 fun vs H2=>sp (x :: (vs++dvs)) H2 Q E
def tMake (C:Addr) (sp:Sp) (dvs:List V) (E:XK) (t:TA):TE:=fun σ H Q=>t σ H fun vs H1=>∀ x dx,H1 x=none→H1 dx=none→dx≠x →
  sp (.ref x :: (vs++dvs)) (upd (upd H1 dx (.own x)) x (.ins C dx [])) (fun v H2=>v=.non∧Q (.ref x) H2) E
def ay (K:PySem.W.Frag) (fd:FuncData) (ps:List Str) (ds:List Value):Prop :=
  ∀(s:Shared) (us:List Value),K.In s.heap→(us++ds).length=ps.length→BindsTo s fd ⟨us,[]⟩ (ps.zip (us++ds))
theorem ay.all {K:PySem.W.Frag} {fd:FuncData} {ps:List Str} (h:∀ us:List Value,us.length=ps.length→bindArgs fd ⟨us,[]⟩=pure (ps.zip us)):ay K fd ps []:=fun s us _ hl=>by
  rw[List.append_nil]at hl ⊢
  exact .of_eq (h us hl)
def zbq (CX:CXT) (X:Cx) (E:XK):Prop:=∀(pins:List (Addr × Obj)) (σ:St) (H:Hp) (s:Shared) (e:Value) (s':Shared),Inv X pins σ H s→CX X.stack H s E e s'→X.xe e s'
section
variable {X:Cx} {CX:CXT} {k:Nat} {f C:Addr} {fd:FuncData} {ps:List Str} {sp:Sp} {dvs:List V} {ds:List Value} {E:XK} {x m:Str} {p pos apos:Pos} {e o:Expr} {es:List Expr} {ta:TE} {t:TA}
theorem zgS {pins:List (Addr × Obj)} {σ:St} {H:Hp} {s:Shared} {Q:VK} {us:List Value} {vs:List V} (F:FnOk X.prog X.w X.K X.mg X.base CX k f fd ps sp) (hr:aL k X.A) (hb:ay X.K fd ps ds) (hd:aH dvs ds) (hx:zbq CX X E)
    (I:Inv X pins σ H s) (r:aH vs us) (h:sp (vs++dvs) H Q E):wpAny (model X.prog X.w) X.A (call (.ref f) us) (EP X pins σ Q) X.xe s:=by
  have r2:aH (vs++dvs) (us++ds):=r.append hd
  have hl:(us++ds).length=ps.length:=by rw[←r2.length];exact F.len _ _ _ _ h
  refine wpAny_call (codeAny_mono (F.run X.A X.stack s H ⟨us,[]⟩ (us++ds) (vs++dvs) Q E hr I.env0 (hb s us I.kIn hl) r2 h) fun r s' hq=>?_)
  cases r with
  | error e=>exact hx pins σ H s e s' I hq
  | ok fl =>
    cases fl with
    | ret u=>exact I.after hq
    | next=>exact False.elim hq
    | brk=>exact False.elim hq
    | cont=>exact False.elim hq
theorem az (F:FnOk X.prog X.w X.K X.mg X.base CX k f fd ps sp) (hr:aL k X.A) (hg:Gl X x) (hm:X.mg x=some (.ref f)) (hk:PySem.W.keepIn X.K (.ref f)=true) (hb:ay X.K fd ps ds) (hd:aH dvs ds) (hx:zbq CX X E)
    (ha:PA X (e :: es) t) (hdb:(x == ("__debug__":Str))=false:=by decide) (he:starEach (e :: es) X.env=(false,eval e X.env) :: starEach es X.env:=by rfl) (hpl:(backTo pos (starEach es X.env)).any (·.1)=false:=by rfl) :
    PE X (.Call (.Name x p) (e :: es) [] pos) (tCall sp dvs E t):=by
  intro pins s σ H Q I h
  refine wpAny_Call_Name_kw (zdN I hg hm ?_ hdb)
  refine PySem.W.callWith_K (h₀:=X.base) I.ok.mod.kin hk (thn (ha pos pins s σ H _ I h) fun us s1 ⟨vs,H1,I1,r,q⟩=>⟨I1.kIn,?_⟩) he hpl
  exact zgS F hr hb hd hx I1 r q
theorem zaS {pl:Sem Bool} (he:PE X o ta) (c:Cls X.K C) (hm:zbk X.K C m f) (F:FnOk X.prog X.w X.K X.mg X.base CX k f fd ps sp) (hr:aL k X.A) (hb:ay X.K fd ps ds) (hd:aH dvs ds) (hx:zbq CX X E) (ha:PA X (e :: es) t)
    (hst:starEach (e :: es) X.env=(false,eval e X.env) :: starEach es X.env:=by rfl) (hpl:(backTo pos (starEach es X.env)).any (·.1)=false:=by rfl)
    (ht:eval (.Call (.Attribute o m apos) (e :: es) [] pos) X.env=(do
      let ov ←eval o X.env
      standAt apos.atName
      let (f,first) ←holding [ov] (getMethod ov m pl)
      callWith pos f first (backTo pos (starEach (e :: es) X.env)) (backToKw pos (keywordEach [] X.env))):=by rfl) :
    PE X (.Call (.Attribute o m apos) (e :: es) [] pos) (tMeth C m sp dvs E ta t):=by
  intro pins s σ H Q I h
  refine PySem.W.methodCall_KW (pl:=pl) (thn (he pins s σ H _ I h) fun u s1 ⟨x,H1,I1,rx,a,dx,fs,ex,ea,l,q⟩=>?_) ht
  subst ex
  obtain rfl:u=Value.ref a:=rx
  refine zei I1 ea c hm l ?_
  refine PySem.W.callWith_K (first:=[.ref a]) (h₀:=X.base) I.ok.mod.kin hm.kp (thn (ha pos pins s1 σ H1 _ I1 q) fun us s2 ⟨vs,H2,I2,r,q2⟩=>⟨I2.kIn,?_⟩) hst hpl
  exact zgS (us:=.ref a :: us) (vs:=.ref a :: vs) F hr hb hd hx I2 (.cons rfl r) q2
theorem zd0 {pl:Sem Bool} (he:PE X o ta) (c:Cls X.K C) (hm:zbk X.K C m f) (F:FnOk X.prog X.w X.K X.mg X.base CX k f fd ps sp) (hr:aL k X.A) (hb:ay X.K fd ps ds) (hd:aH dvs ds) (hx:zbq CX X E)
    (ht:eval (.Call (.Attribute o m apos) [] [] pos) X.env=(do
      let ov ←eval o X.env
      standAt apos.atName
      let (f,first) ←holding [ov] (getMethod ov m pl)
      callWith pos f first (backTo pos (starEach [] X.env)) (backToKw pos (keywordEach [] X.env))):=by rfl) :
    PE X (.Call (.Attribute o m apos) [] [] pos) (tMeth C m sp dvs E ta tNil):=by
  intro pins s σ H Q I h
  refine PySem.W.methodCall_KW (pl:=pl) (thn (he pins s σ H _ I h) fun u s1 ⟨x,H1,I1,rx,a,dx,fs,ex,ea,l,q⟩=>?_) ht
  subst ex
  obtain rfl:u=Value.ref a:=rx
  refine zei I1 ea c hm l ?_
  exact PySem.W.callWith_K0 (first:=[.ref a]) I1.kIn hm.kp (zgS (us:=[.ref a]) (vs:=[.ref a]) F hr hb hd hx I1 (.cons rfl .nil) q)
structure Mk (K:PySem.W.Frag) (C f:Addr):Prop where
  makes:PySem.W.makesIn K C=true
  init:PySem.W.findIn K (.ref C) "__init__"=some (some (.ref f))
  fn:PySem.W.isFn K (.ref f)=true
  kp:PySem.W.keepIn K (.ref C)=true
theorem zhq {pins:List (Addr × Obj)} {σ:St} {H:Hp} {s:Shared} {Q:VK} {us:List Value} {vs:List V} (M:Mk X.K C f) (F:FnOk X.prog X.w X.K X.mg X.base CX k f fd ps sp) (hr:aL (k+1) X.A) (hb:ay X.K fd ps ds) (hd:aH dvs ds)
    (hx:zbq CX X E) (I:Inv X pins σ H s) (r:aH vs us)
    (h:∀ x dx,H x=none→H dx=none→dx≠x→sp (.ref x :: (vs++dvs)) (upd (upd H dx (.own x)) x (.ins C dx [])) (fun v H2=>v=.non∧Q (.ref x) H2) E) :
    wpAny (model X.prog X.w) X.A (call (.ref C) us) (EP X pins σ Q) X.xe s:=by
  have hq:=h (s.heap.objs.size+1) s.heap.objs.size (I.hok.fresh (Nat.le_succ _)) (I.hok.fresh (Nat.le_refl _)) (Nat.ne_of_lt (Nat.lt_succ_self _))
  have I2:=Inv.made (C:=C) I
  have r2:aH (V.ref (s.heap.objs.size+1) :: (vs++dvs)) (Value.ref (s.heap.objs.size+1) :: (us++ds)):=.cons rfl (r.append hd)
  have hl:(Value.ref (s.heap.objs.size+1) :: us++ds).length=ps.length:=by
    have e:=r2.length
    rw[F.len _ _ _ _ hq]at e
    exact e.symm
  refine wpAny_call (zkx (f:=f) I.kIn M.makes M.init (beq_iff_eq.mp M.fn) (codeAny_mono (F.run _ X.stack _ _ ⟨Value.ref (s.heap.objs.size+1) :: us,[]⟩ (Value.ref (s.heap.objs.size+1) :: (us++ds)) _ _ E (hr.make C us [])
    (I2.env0.make C us []) (hb _ (Value.ref (s.heap.objs.size+1) :: us) I2.kIn hl) r2 hq) fun r s' hq'=>?_))
  cases r with
  | error e=>exact hx pins σ _ _ e s' I2 hq'
  | ok fl =>
    cases fl with
    | ret u =>
      obtain⟨v,H',I3,rv,ev,q3⟩:=I2.after hq'
      subst ev
      exact⟨rv,⟨V.ref (s.heap.objs.size+1),H',I3,rfl,q3⟩⟩
    | next=>exact False.elim hq'
    | brk=>exact False.elim hq'
    | cont=>exact False.elim hq'
theorem zk7 (M:Mk X.K C f) (F:FnOk X.prog X.w X.K X.mg X.base CX k f fd ps sp) (hr:aL (k+1) X.A) (hg:Gl X x) (hm:X.mg x=some (.ref C)) (hb:ay X.K fd ps ds) (hd:aH dvs ds) (hx:zbq CX X E)
    (ha:PA X (e :: es) t) (hdb:(x == ("__debug__":Str))=false:=by decide) (he:starEach (e :: es) X.env=(false,eval e X.env) :: starEach es X.env:=by rfl) (hpl:(backTo pos (starEach es X.env)).any (·.1)=false:=by rfl) :
    PE X (.Call (.Name x p) (e :: es) [] pos) (tMake C sp dvs E t):=by
  intro pins s σ H Q I h
  refine wpAny_Call_Name_kw (zdN I hg hm ?_ hdb)
  refine PySem.W.callWith_K (h₀:=X.base) I.ok.mod.kin M.kp (thn (ha pos pins s σ H _ I h) fun us s1 ⟨vs,H1,I1,r,q⟩=>⟨I1.kIn,?_⟩) he hpl
  exact zhq M F hr hb hd hx I1 r q
theorem zkh (M:Mk X.K C f) (F:FnOk X.prog X.w X.K X.mg X.base CX k f fd ps sp) (hr:aL (k+1) X.A) (hg:Gl X x) (hm:X.mg x=some (.ref C)) (hb:ay X.K fd ps ds) (hd:aH dvs ds) (hx:zbq CX X E)
    (hdb:(x == ("__debug__":Str))=false:=by decide):PE X (.Call (.Name x p) [] [] pos) (tMake C sp dvs E tNil):=by
  intro pins s σ H Q I h
  refine wpAny_Call_Name_kw (zdN I hg hm ?_ hdb)
  exact PySem.W.callWith_K0 I.kIn M.kp (zhq (us:=[]) M F hr hb hd hx I .nil h)
end
section
variable {X:Cx} {CX:CXT} {k:Nat} {f C:Addr} {fd:FuncData} {ps ks:List Str} {sp:Sp} {E:XK} {x m:Str} {p pos apos kpos:Pos} {e o:Expr} {es:List Expr} {kws:List Keyword} {te ta:TE} {t tk:TA} {nm:Option Str}
variable {g:List Value→List Value→List Value} {gV:List V→List V→List V}
end
structure zaa (N P:List Str) (sc:Scope):Prop where
  kind:sc.kind=.function
  co:sc.isCoroutine=false
  gen:sc.isGenerator=false
  nd:N.Nodup
  pre:N.take P.length=P
  par:∀ x∈P,sc.names.lookup x=some .local∨sc.names.lookup x=some .cell
  nofree:∀ y∈sc.names,y.2≠.free
theorem zgs {kindOf:Str→Option NameKind} {x:Str}:∀ {binds:List (Str × Value)} {m:Str→Option Value},(∀ v,(x,v)∉binds)→bindL kindOf binds m x=m x
  | [],_,_=>rfl
  | (n,v) :: r,m,h=>by
    unfold bindL
    rw[zgs fun w hw=>h w (List.mem_cons_of_mem _ hw)]
    split
    · have:x≠n:=by rintro rfl;exact h v List.mem_cons_self
      simp [this]
    · rfl
theorem zgu {kindOf:Str→Option NameKind} {x:Str}:∀ {binds:List (Str × Value)} {m:Str→Option Value},(∀ v,(x,v)∉binds)→bindC kindOf binds m x=m x
  | [],_,_=>rfl
  | (n,v) :: r,m,h=>by
    unfold bindC
    rw[zgu fun w hw=>h w (List.mem_cons_of_mem _ hw)]
    split
    · rfl
    · have:x≠n:=by rintro rfl;exact h v List.mem_cons_self
      simp [this]
theorem zgt {kindOf:Str→Option NameKind} {x:Str} {v:Value}:∀ {P:List Str} {vs:List Value} {i:Nat} {m:Str→Option Value},P.Nodup→P[i]?=some x→vs[i]?=some v→kindOf x=some .local →
    bindL kindOf (P.zip vs) m x=some v
  | [],_,_,_,_,h,_,_=>by simp at h
  | _ :: _,[],_,_,_,_,h,_=>by simp at h
  | p :: P,w :: vs,0,m,nd,h1,h2,hk=>by
    simp at h1 h2;subst h1;subst h2
    show bindL kindOf ((p,w) :: P.zip vs) m p=_
    unfold bindL
    rw[zgs fun v hv=>(List.nodup_cons.mp nd).1 (List.of_mem_zip hv).1,if_pos hk]
    simp
  | p :: P,w :: vs,i+1,m,nd,h1,h2,hk=>by
    show bindL kindOf ((p,w) :: P.zip vs) m x=_
    unfold bindL
    exact zgt (i:=i) (List.nodup_cons.mp nd).2 (by simpa using h1) (by simpa using h2) hk
theorem zgv {kindOf:Str→Option NameKind} {x:Str} {v:Value}:∀ {P:List Str} {vs:List Value} {i:Nat} {m:Str→Option Value},P.Nodup→P[i]?=some x→vs[i]?=some v→kindOf x≠some .local →
    bindC kindOf (P.zip vs) m x=some v
  | [],_,_,_,_,h,_,_=>by simp at h
  | _ :: _,[],_,_,_,_,h,_=>by simp at h
  | p :: P,w :: vs,0,m,nd,h1,h2,hk=>by
    simp at h1 h2;subst h1;subst h2
    show bindC kindOf ((p,w) :: P.zip vs) m p=_
    unfold bindC
    rw[zgu fun v hv=>(List.nodup_cons.mp nd).1 (List.of_mem_zip hv).1,if_neg hk]
    simp
  | p :: P,w :: vs,i+1,m,nd,h1,h2,hk=>by
    show bindC kindOf ((p,w) :: P.zip vs) m x=_
    unfold bindC
    exact zgv (i:=i) (List.nodup_cons.mp nd).2 (by simpa using h1) (by simpa using h2) hk
def zcQ (N:List Str) (vs:List V):St:=vs.map some++List.replicate (N.length - vs.length) none
def zbs (CX:CXT) (P:Program) (w:World) (K:PySem.W.Frag) (mg:Str→Option Value) (base:Heap) (N:List Str) (qual:Str) (scope:Scope) (f:Addr) (cd:Value) (A:Around) (outer:List Env) (s:Shared) (H:Hp) (E:XK):Cx where
  prog:=P
  w:=w
  K:=K
  mg:=mg
  base:=base
  A:=A.deeper (envOfC qual scope s.heap.objs.size f cd)
  N:=N
  s₀:=s
  H₀:=H
  env:=envOfC qual scope s.heap.objs.size f cd
  outer:=outer
  stack:=envOfC qual scope s.heap.objs.size f cd :: outer
  ex:=[]
  calm:=true
  fn:=fun _=>true
  pn:=[]
  xe:=fun e s'=>wpAny (model P w) (A.deeper (envOfC qual scope s.heap.objs.size f cd)) (leaving (envOfC qual scope s.heap.objs.size f cd) e) (fun _ s''=>CX outer H s E e s'') (fun e' s''=>CX outer H s E e' s'') s'
theorem zhG {sc:Scope} {n:Nat} {x:Str} (h:sc.names.lookup x=some .cell):∃ c,(cellsFrom n sc.names []).lookup x=some c:=by
  have q:=PySem.W.cellsFrom_some sc.names n [] (.inl h)
  exact Option.isSome_iff_exists.mp q
theorem zjQ {CX:CXT} {P:Program} {w:World} {K:PySem.W.Frag} {mg:Str→Option Value} {base:Heap} {N ps:List Str} {qual:Str} {scope:Scope} {f:Addr} {cd:Value} {A:Around} {outer:List Env} {s s1:Shared} {H:Hp} {E:XK} {us:List Value} {vs:List V}
    (S:zaa N ps scope) (hd:A.handled=none) (e0:ze3 P w K mg base A outer s H) (hl:vs.length=ps.length) (r:aH vs us)
    (x:InCallC s s.heap.objs.size (bindL (envOfC qual scope s.heap.objs.size f cd).kindOf (ps.zip us) fun _=>none) (cellsFrom (s.heap.objs.size+1) scope.names []) (bindC (envOfC qual scope s.heap.objs.size f cd).kindOf (ps.zip us) fun _=>none) s1) :
    Inv (zbs CX P w K mg base N qual scope f cd A outer s H E) [] (zcQ N vs) H s1:=by
  have hpl:ps.length≤N.length:=by have:=congrArg List.length S.pre;rw[List.length_take]at this;omega
  obtain⟨h1,tk,rfl,hk⟩:=x.done
  have noA:∀ b:Addr,b∉(zbs CX P w K mg base N qual scope f cd A outer s H E).ex:=fun b z=>absurd (show b∈([]:List Addr) from z) (by simp)
  refine⟨⟨e0.mod,S.kind,rfl,rfl,Nat.le_refl _,fun y z c h1 h2=>?_,fun y hy=>?_,fun y c _ h=>?_,fun _=>hd,Around.frames_deeper e0.frames,.inr ⟨rfl,rfl⟩,fun b z=>absurd z (noA b),e0.bs,e0.bsz,fun b _ _=>noA b,fun b z=>absurd z (noA b),e0.funs,e0.frf⟩,
    rfl,e0.bare,Un.kept hk,⟨_,x.toInCall.ns,fun i y v h1 h2 h3=>?_⟩,fun y c h=>⟨_,x.cell y c h⟩,e0.hok.fresh (Nat.le_refl _),fun y c h=>?_,fun p hp=>absurd (show p∈([]:List (Addr × Obj)) from hp) (by simp),e0.hok.kept hk,?_⟩
  · exact name_of_addr x.apart (PySem.mem_of_lookup h1) (PySem.mem_of_lookup h2)
  · have hy:scope.names.lookup y=some .cell∨scope.names.lookup y=some .free:=hy
    rcases hy with hy | hy
    · exact zhG hy
    · exact absurd rfl (S.nofree _ (PySem.mem_of_lookup hy))
  · exact Nat.le_of_lt (x.above y c (PySem.mem_of_lookup h))
  · have hi:i < vs.length:=by
      unfold zcQ at h2
      by_cases hi:i < vs.length
      · exact hi
      · rw[List.getElem?_append_right (by simpa using hi)]at h2
        rw[List.getElem?_replicate]at h2
        split at h2 <;> cases h2
    have ha:vs[i]?=some v:=by
      unfold zcQ at h2
      rw[List.getElem?_append_left (by simpa using hi),List.getElem?_map]at h2
      cases e:vs[i]? with
      | none=>rw[e]at h2;cases h2
      | some a=>rw[e]at h2;cases h2;rfl
    obtain⟨u,hu,rv⟩:=r.get ha
    have hp:ps[i]?=some y:=by
      rw[←S.pre,List.getElem?_take_of_lt (by omega)];exact h1
    have ndP:ps.Nodup:=by rw[←S.pre];exact S.nd.sublist (List.take_sublist _ _)
    refine⟨u,rv,?_⟩
    rcases S.par y (List.mem_of_getElem? hp) with k | k
    · exact .inl ⟨k,zgt ndP hp hu k⟩
    · obtain⟨c,e⟩:=zhG (n:=s.heap.objs.size+1) k
      refine .inr ⟨.inl k,c,e,?_⟩
      have q:=x.cell y c e
      rw[zgv ndP hp hu (by show scope.names.lookup y≠_;rw[k];decide)]at q
      exact q
  · exact e0.hok.fresh (Nat.le_of_lt (x.above y c (PySem.mem_of_lookup h)))
  · unfold zcQ
    show _=N.length
    rw[List.length_append,List.length_map,List.length_replicate]
    omega
theorem fn_of {CX:CXT} {P:Program} {w:World} {K:PySem.W.Frag} {mg:Str→Option Value} {base:Heap} {k:Nat} {f:Addr} {name qual:Str} {params:Arguments} {body:List Stmt} {scope:Scope} {dV kV doc pm cdv ct oc:Value} {an od:Option Addr}
    {osl:Array (Option Value)} {N ps:List Str} {sp:Sp} (lk:K.lookup f=some ⟨oc,od,.func (PySem.W.fnOf name qual params body scope dV kV doc pm an cdv ct),osl⟩) (hcd:PySem.W.codeIn K cdv qual=true) (S:zaa N ps scope)
    (len:∀ vs H Q E,sp vs H Q E→vs.length=ps.length)
    (hbody:∀(A:Around) (outer:List Env) (s:Shared) (H:Hp) (vs:List V) (Q:VK) (E:XK),aL k (A.deeper (envOfC qual scope s.heap.objs.size f cdv))→sp vs H Q E →
      ∃ t,PSs (zbs CX P w K mg base N qual scope f cdv A outer s H E) body t∧t { nx:=fun _ H'=>Q .non H',rt:=Q } (zcQ N vs) H) :
    FnOk P w K mg base CX (k+1) f (PySem.W.fnOf name qual params body scope dV kV doc pm an cdv ct) ps sp:=by
  refine⟨len,fun A outer s H args us vs Q E hr e0 hb r hsp=>?_⟩
  have hl:=len _ _ _ _ hsp
  have KX:K.In s.heap:=e0.mod.kin.keeps fun b o e=>(e0.bs b o e).1
  have lim:s.heap.NoLimit:=e0.mod.nolimit.keeps fun b o e=>(e0.bs b o e).1
  have hkind:∀ y∈ps.zip us,scope.names.lookup y.1=some .local∨(scope.names.lookup y.1=some .cell∧((cellsFrom (s.heap.objs.size+1) scope.names []).lookup y.1).isSome=true):=fun⟨n,v⟩ hy=>by
    rcases S.par n (List.of_mem_zip hy).1 with q | q
    · exact .inl q
    · exact .inr ⟨q,PySem.W.cellsFrom_some _ _ _ (.inl q)⟩
  refine codeAny_call_function hr.depth (KX _ _ lk) rfl S.co S.gen rfl (PySem.W.codeRec_of KX hcd) (hb _ _ _ _ ?_)
  refine wpAny_newFunctionEnv_cells S.kind hkind fun env he s1 x=>?_
  subst he
  refine⟨lim.keeps x.toInCall.keep,codeAny_func ?_⟩
  obtain⟨t,ht,hq⟩:=hbody A outer s H vs Q E (hr.deeper _) hsp
  have I:Inv (zbs CX P w K mg base N qual scope f cdv A outer s H E) [] (zcQ N vs) H s1:=zjQ S hr.hd e0 hl r x
  refine wpAny_mono (ht [] s1 (zcQ N vs) H _ I hq) (fun fl s' hs=>?_) fun e s' hs=>hs
  have fin:∀ {σ':St} {H':Hp} {v:V} {u:Value},Inv (zbs CX P w K mg base N qual scope f cdv A outer s H E) [] σ' H' s'→zan v u→Q v H'→CE outer P w H s Q u s' :=
    fun {σ' H' v u} J rv q=>⟨v,H',J.os,J.bare,J.base,J.hok,rv,q⟩
  cases fl with
  | ret u =>
    obtain⟨v,σ',H',J,rv,q⟩:=hs
    exact fin J rv q
  | next =>
    obtain⟨σ',H',J,q⟩:=hs
    exact fin (v:=V.non) (u:=Value.none) J rfl q
  | brk =>
    obtain⟨_,_,_,q⟩:=hs
    exact False.elim q
  | cont =>
    obtain⟨_,_,_,q⟩:=hs
    exact False.elim q
end L2
namespace L2
open PySem PySem.Spec PyProof.Rows
section
variable {X:Cx} {x:Str} {p pos:Pos} {e:Expr} {es:List Expr} {t:TA} {id T:String} {r:List V→Hp→VK→Prop}
def tCB (r:List V→Hp→VK→Prop) (t:TA):TE:=fun σ H Q=>t σ H fun vs H1=>r vs H1 Q
theorem zap (hc:zcV X (.builtin id) r) (hg:Gl X x) (hm:X.mg x=none) (hv:bootBuiltins x=some (.builtin id)) (ha:PA X (e :: es) t) (hn:x≠"__name__":=by decide) (hdb:(x == ("__debug__":Str))=false:=by decide)
    (he:starEach (e :: es) X.env=(false,eval e X.env) :: starEach es X.env:=by rfl) (hpl:(backTo pos (starEach es X.env)).any (·.1)=false:=by rfl):PE X (.Call (.Name x p) (e :: es) [] pos) (tCB r t):=by
  intro pins s σ H Q I h
  refine wpAny_Call_Name_kw (zfs I hg hm hv ?_ hn hdb)
  exact PyProof.Rows.callWith_builtin1 (thn (ha pos pins s σ H _ I h) fun us s1 ⟨vs,H1,I1,r1,q1⟩=>hc pins s1 σ H1 vs us Q I1 r1 q1) he hpl
theorem zcd (hc:zcV X (.type T) r) (hg:Gl X x) (hm:X.mg x=none) (hv:bootBuiltins x=some (.type T)) (ha:PA X (e :: es) t) (hn:x≠"__name__":=by decide) (hdb:(x == ("__debug__":Str))=false:=by decide)
    (he:starEach (e :: es) X.env=(false,eval e X.env) :: starEach es X.env:=by rfl) (hpl:(backTo pos (starEach es X.env)).any (·.1)=false:=by rfl):PE X (.Call (.Name x p) (e :: es) [] pos) (tCB r t):=by
  intro pins s σ H Q I h
  refine wpAny_Call_Name_kw (zfs I hg hm hv ?_ hn hdb)
  exact PyProof.Rows.callWith_type1 (thn (ha pos pins s σ H _ I h) fun us s1 ⟨vs,H1,I1,r1,q1⟩=>hc pins s1 σ H1 vs us Q I1 r1 q1) he hpl
end
end L2
namespace HT
open PySem PyProof.Rows
section
open PySem.SeqAt
open PySem.AutoSeq1 (wpAny_loadPart')
open PySem.MeetsSeq PySem.MeetsSeq2 PySem.MeetsSeq3
end
section
variable {prog:Program} {w:World} {A:Around} {E:Value→Shared→Prop} {s:Shared}
def sIx (n d:Nat):Option Int→Nat
  | none=>d
  | some v=>if v < 0 then(v+(n:Int)).toNat else min v.toNat n
theorem sIx_none (n d:Nat):sIx n d none=d:=rfl
theorem sIx_nat (n d k:Nat):sIx n d (some (k:Int))=min k n:=by
  show(if(k:Int) < 0 then((k:Int)+(n:Int)).toNat else min (k:Int).toNat n)=min k n
  rw[if_neg (by omega),Int.toNat_natCast]
end
end HT
namespace L2
open PySem PySem.Spec PyProof.Rows
abbrev TO:=St→Hp→(Option Int→Hp→Prop)→Prop
def PO (X:Cx) (e:Option Expr) (t:TO):Prop :=
  ∀(pins:List (Addr × Obj)) (s:Shared) (σ:St) (H:Hp) (Q:Option Int→Hp→Prop),Inv X pins σ H s→t σ H Q →
    wpAny (model X.prog X.w) X.A (evalPart e X.env) (fun u s'=>∃ o H',Inv X pins σ H' s'∧IsPart u o∧Q o H') X.xe s
def zkR:TO:=fun _ H Q=>Q none H
def tPart (t:TE):TO:=fun σ H Q=>t σ H fun x H1=>∃ i,x=.int i∧Q (some i) H1
section
variable {X:Cx} {e:Expr} {te:TE} {lo hi:Option Expr} {tl th:TO} {pos p2:Pos}
theorem zca:PO X none zkR:=by
  intro pins s σ H Q I h
  rw[evalPart_none]
  exact wpAny_pure ⟨none,H,I,.none,h⟩
theorem zbK (h:PE X e te):PO X (some e) (tPart te):=by
  intro pins s σ H Q I hw
  rw[evalPart_some]
  refine thn (h pins s σ H _ I hw) fun u s1 ⟨x,H1,I1,r1,q1⟩=>?_
  obtain⟨i,rfl,q⟩:=q1
  obtain⟨t,rfl⟩:=r1
  exact⟨some i,H1,I1,.int i t,q⟩
def SlR (X:Cx) (r:V→Option Int→Option Int→Hp→VK→Prop):Prop :=
  ∀(pins:List (Addr × Obj)) (s:Shared) (σ:St) (H:Hp) (x:V) (v vl vu:Value) (lo hi:Option Int) (sl:Addr) (Q:VK),Inv X pins σ H s→zan x v→s.heap.IsSliceOf sl vl vu .none→IsPart vl lo→IsPart vu hi→r x lo hi H Q →
    ∃ T id,typeLookup (.type T) "__getitem__"=pure (some (.builtin id))∧s.TypeIs v T∧wpAny (model X.prog X.w) X.A (getItem v (.ref sl)) (EP X pins σ Q) X.xe s
def tSl (r:V→Option Int→Option Int→Hp→VK→Prop) (te:TE) (tl th:TO):TE:=fun σ H Q=>te σ H fun x H1=>tl σ H1 fun l H2=>th σ H2 fun u H3=>r x l u H3 Q
theorem zbD {r:V→Option Int→Option Int→Hp→VK→Prop} (hr:SlR X r) (he:PE X e te) (hl:PO X lo tl) (hu:PO X hi th):PE X (.Subscript e (.Slice lo hi none p2) pos) (tSl r te tl th):=by
  intro pins s σ H Q I h
  refine Subscript_ (thn (he pins s σ H _ I h) fun v s1 ⟨x,H1,I1,r1,q1⟩=>?_)
  refine wpAny_Slice (thn (hl pins s1 σ H1 _ I1 q1) fun vl s2 ⟨l,H2,I2,pl,q2⟩=>thn (hu pins s2 σ H2 _ I2 q2) fun vu s3 ⟨u,H3,I3,pu,q3⟩=>?_)
  rw[evalPart_none]
  refine wpAny_pure ?_
  have I4:Inv X pins σ H3 { s3 with heap:=s3.heap.push { cls:=.type "slice",data:=.fields #[vl,vu,.none] } }:=I3.kept (t':=s3.toks) fun b ob q=>Heap.get?_push_of_some _ q
  obtain⟨T,id,hT,ht,hg⟩:=hr pins { s3 with heap:=s3.heap.push { cls:=.type "slice",data:=.fields #[vl,vu,.none] } } σ H3 x v vl vu l u s3.heap.objs.size Q I4 r1 (Heap.IsSliceOf.new ..) pl pu q3
  show wpAny (model X.prog X.w) X.A (subscriptTail e (.Slice lo hi none p2) v (.ref s3.heap.objs.size)) (EP X pins σ Q) X.xe { s3 with heap:=s3.heap.push { cls:=.type "slice",data:=.fields #[vl,vu,.none] } }
  exact tail_any (ops:=[.ref s3.heap.objs.size,v]) ht hT hg (by with_unfolding_all rfl)
def zbB (xs:List V) (lo hi:Option Int):List V:=(xs.drop (HT.sIx xs.length 0 lo)).take (HT.sIx xs.length xs.length hi - HT.sIx xs.length 0 lo)
theorem zhS (xs:List V) (lo hi:Option Int):(zbB xs lo hi).length≤xs.length:=by
  unfold zbB
  rw[List.length_take,List.length_drop]
  omega
end
end L2
namespace L2
open PySem PySem.Spec PyProof.Rows
def ixN (n:Nat) (i:Int):Option Nat:=if 0≤i then(if i < n then some i.toNat else none) else if -(n:Int)≤i then some (i+n).toNat else none
def atI {α:Type} (xs:List α) (i:Int):Option α:=(ixN xs.length i).bind fun j=>xs[j]?
theorem zlm {n:Nat} {i:Int} {j:Nat} (h:ixN n i=some j):seqIndex? i n=some j∧j < n∧-(n:Int)≤i∧i < n:=by
  unfold ixN at h
  by_cases h0:0≤i
  · rw[if_pos h0]at h
    by_cases h1:i < n
    · rw[if_pos h1]at h
      have e:i.toNat=j:=Option.some.inj h
      exact⟨by rw[seqIndex_of h0 h1,e],by omega,by omega,h1⟩
    · rw[if_neg h1]at h;cases h
  · rw[if_neg h0]at h
    by_cases h1:-(n:Int)≤i
    · rw[if_pos h1]at h
      have e:(i+n).toNat=j:=Option.some.inj h
      exact⟨by rw[seqIndex_neg (by omega) h1,e],by omega,h1,by omega⟩
    · rw[if_neg h1]at h;cases h
theorem zf4 {α:Type} {xs:List α} {i:Int} {v:α} (h:atI xs i=some v):∃ j,seqIndex? i xs.length=some j∧xs[j]?=some v∧j < xs.length∧-(xs.length:Int)≤i∧i < xs.length:=by
  unfold atI at h
  cases e:ixN xs.length i with
  | none=>rw[e]at h;cases h
  | some j =>
    rw[e]at h
    obtain⟨h1,h2,h3,h4⟩:=zlm e
    exact⟨j,h1,h,h2,h3,h4⟩
theorem zae {α:Type} {xs:List α} {j:Nat} {v:α} (h:xs[j]?=some v):atI xs (j:Int)=some v:=by
  have hj:j < xs.length:=(List.getElem?_eq_some_iff.mp h).1
  have e:ixN xs.length (j:Int)=some j:=by
    unfold ixN
    rw[if_pos (by omega),if_pos (by omega)];simp
  unfold atI;rw[e];exact h
theorem zhH {α:Type} (xs:List α) (v:α):atI (xs++[v]) (-1)=some v:=by
  have hl:(xs++[v]).length=xs.length+1:=by simp
  have e:ixN (xs++[v]).length (-1)=some xs.length:=by
    unfold ixN
    rw[hl,if_neg (by decide),if_pos (by omega)]
    congr 1
    omega
  unfold atI
  rw[e]
  show(xs++[v])[xs.length]?=some v
  simp
def zlJ (b:Expr):Prop:=∀ o i,subscripted b false o i=operate [o,i] (getItem o i)
def IxR (X:Cx) (r:R2):Prop :=
  ∀(value slice:Expr) (pins:List (Addr × Obj)) (s:Shared) (σ:St) (H:Hp) (x y:V) (v u:Value) (Q:VK),Inv X pins σ H s→zan x v→zan y u→r x y H Q →
    subscripted slice false v u=operate [v,u] (getItem v u)→wpAny (model X.prog X.w) X.A (subscriptTail value slice v u) (EP X pins σ Q) X.xe s
def MtR (X:Cx) (id:String) (r:V→List V→Hp→VK→Prop):Prop :=
  ∀(pins:List (Addr × Obj)) (s:Shared) (σ:St) (H:Hp) (x:V) (xs:List V) (v:Value) (us:List Value) (Q:VK),Inv X pins σ H s→zan x v→aH xs us→r x xs H Q →
    wpAny (model X.prog X.w) X.A (call (.builtin id) (v :: us)) (EP X pins σ Q) X.xe s
section
variable {X:Cx} {a b:Expr} {ta tb:TE} {pos:Pos}
theorem aB {r:R2} (hr:IxR X r) (ha:PE X a ta) (hb:PE X b tb) (hs:zlJ b):PE X (.Subscript a b pos) (tOp r ta tb):=by
  intro pins s σ H Q I h
  exact Subscript_ (binT ha hb I h fun v u s2 x y H2 I2 rx ry q=>hr a b pins s2 σ H2 x y v u Q I2 rx ry q (hs _ _))
def rIxL (K:PySem.W.Frag):R2:=fun x y H Q=>∃ p xs i v,x=.ref p∧y=.int i∧SqL K H p xs∧atI xs i=some v∧Q v H
def rIxT (K:PySem.W.Frag):R2:=fun x y H Q=>∃ p xs i v,x=.ref p∧y=.int i∧SqT K H p xs∧atI xs i=some v∧Q v H
def rIxS:R2:=fun x y H Q=>∃ z i c,x=.str z∧y=.int i∧z.length≤sizeLine∧atI z.cps.toList i=some c∧Q (.str ⟨#[c]⟩) H
theorem zaq:IxR X (rIxL X.K):=by
  intro value slice pins s σ H x y v u Q I rx ry h hs
  obtain⟨p,xs,i,z,rfl,rfl,hq,he,q⟩:=h
  cases rx
  obtain⟨t,rfl⟩:=ry
  obtain⟨its,r,pl,hz⟩:=I.list hq
  obtain⟨j,h1,h2,h3,h4,h5⟩:=zf4 he
  obtain⟨w,ew,rw'⟩:=r.get h2
  have hl:=r.length
  have hn:=zeq
  have fin:EP X pins σ Q w s:=⟨z,H,I,rw',q⟩
  by_cases h0:0≤i
  · have hj:i.toNat=j:=by
      rw[seqIndex_of h0 h5]at h1
      exact Option.some.inj h1
    exact item_listR pl.isList h0 (by omega) (by rw[hj];simpa using ew) fin hs
  · have hj:(i+(its.toArray.size:Int)).toNat=j:=by
      rw[seqIndex_neg (by omega) h4]at h1
      rw[List.size_toArray,←hl]
      exact Option.some.inj h1
    exact subscriptTail_builtinR (x:=w) pl.isList.typeIs slot_list_getitem.lookup
      (wpAny_getItem_list_neg (Q:=fun r s'=>r=w∧EP X pins σ Q r s') pl.isList (by omega) (by rw[List.size_toArray] <;> omega) (by omega) (by rw[hj];simpa using ew) ⟨rfl,fin⟩) hs
theorem zah:IxR X (rIxT X.K):=by
  intro value slice pins s σ H x y v u Q I rx ry h hs
  obtain⟨p,xs,i,z,rfl,rfl,hq,he,q⟩:=h
  cases rx
  obtain⟨t,rfl⟩:=ry
  obtain⟨its,r,pl,hz⟩:=I.tuple hq
  obtain⟨j,h1,h2,h3,h4,h5⟩:=zf4 he
  obtain⟨w,ew,rw'⟩:=r.get h2
  have hl:=r.length
  have hn:=zeq
  have fin:EP X pins σ Q w s:=⟨z,H,I,rw',q⟩
  exact subscriptTail_builtinR (x:=w) pl.typeIs slot_tuple_getitem.lookup
    (getItem_tuple (j:=j) (Q:=fun r s'=>r=w∧EP X pins σ Q r s') pl (by omega) (by omega) (by rw[List.size_toArray,←hl];exact h1) (by simpa using ew) ⟨rfl,fin⟩) hs
theorem zft:IxR X rIxS:=by
  intro value slice pins s σ H x y v u Q I rx ry h hs
  obtain⟨z,i,c,rfl,rfl,hz,he,q⟩:=h
  obtain⟨t,rfl⟩:=rx
  obtain⟨t',rfl⟩:=ry
  obtain⟨j,h1,h2,h3,h4,h5⟩:=zf4 he
  have hl:z.cps.toList.length=z.length:=by simp [Str.length]
  rw[hl]at h1 h4 h5
  have hn:=zeq
  exact tail_any (typeIs_str s z t) slot_str_getitem.lookup (getItem_str (c:=c) (by
    have e1:decide (i < -(2 ^ 63:Int))=false:=decide_eq_false (by omega)
    have e2:decide (i≥2 ^ 63)=false:=decide_eq_false (by omega)
    rw[e1,e2,Bool.or_false]) (by rw[h1];simpa using h2) ⟨.str ⟨#[c]⟩,H,I.tok _,⟨_,rfl⟩,q⟩) hs
theorem Inv.lst {pins:List (Addr × Obj)} {σ:St} {H:Hp} {s:Shared} {p:Addr} {xs:List V} (I:Inv X pins σ H s) (h:H p=some (.lst xs)) :
    ∃(its:List Value) (n:Nat),aH xs its∧s.heap.get? p=some { cls:=.type "list",data:=.seq its.toArray n }∧xs.length≤sizeLine:=by
  obtain⟨z,its,n,r,e⟩:=I.hok p _ h
  exact⟨its,n,r,e,z⟩
theorem zhJ (lo hi:Option Int) (n:Nat):(sliceBounds lo hi none n).1=((HT.sIx n 0 lo:Nat):Int)∧(sliceBounds lo hi none n).2.1=((HT.sIx n n hi:Nat):Int)∧(sliceBounds lo hi none n).2.2=1:=by
  refine⟨?_,?_,rfl⟩
  · cases lo with
    | none=>simp [sliceBounds,HT.sIx]
    | some i =>
      simp only[sliceBounds,HT.sIx,Option.getD_none,show(1:Int) > 0 by decide,if_true]
      by_cases h:i < 0
      · simp only[h,if_true] <;> omega
      · simp only[h,if_false] <;> omega
  · cases hi with
    | none=>simp [sliceBounds,HT.sIx]
    | some i =>
      simp only[sliceBounds,HT.sIx,Option.getD_none,show(1:Int) > 0 by decide,if_true]
      by_cases h:i < 0
      · simp only[h,if_true] <;> omega
      · simp only[h,if_false] <;> omega
theorem zgB (its:List Value) (lo hi:Option Int):slicePick its.toArray lo hi none=((its.drop (HT.sIx its.length 0 lo)).take (HT.sIx its.length its.length hi - HT.sIx its.length 0 lo)).toArray:=by
  obtain⟨h1,h2,h3⟩:=zhJ lo hi its.toArray.size
  unfold slicePick
  rw[h1,h2,h3]
  simp only[sliceRange_one,pick_run,List.size_toArray] <;> rfl
def rSlL (K:PySem.W.Frag):V→Option Int→Option Int→Hp→VK→Prop:=fun x lo hi H Q=>∃ a xs,x=.ref a∧SqL K H a xs∧∀ p,H p=none→Q (.ref p) (upd H p (.lst (zbB xs lo hi)))
theorem zeP:SlR X (rSlL X.K):=by
  intro pins s σ H x v vl vu lo hi sl Q I rx hs pl pu h
  obtain⟨a,xs,rfl,hx,q⟩:=h
  cases rx
  obtain⟨its,r,ht,hz⟩:=I.list hx
  have hlen:=r.length
  refine⟨"list",_,slot_list_getitem.lookup,ht.isList.typeIs,?_⟩
  refine wpAny_getItem_list_slice ht.isList hs pl pu .none (by simp) ?_ (by rw[List.size_toArray] <;> omega)
  rw[zgB,←hlen]
  refine⟨.ref s.heap.objs.size,_,I.laid (t':=s.toks) (o:=.lst (zbB xs lo hi)) (fun b ob q=>Heap.get?_push_of_some _ q) (Nat.le_refl _) ?_,rfl,q _ (I.hok.fresh (Nat.le_refl _))⟩
  exact⟨Nat.le_trans (zhS xs lo hi) hz,_,0,(r.drop (HT.sIx xs.length 0 lo)).take (HT.sIx xs.length xs.length hi - HT.sIx xs.length 0 lo),Heap.get?_push_size _ rfl⟩
def zcT:V→Bool
  | .non=>true
  | .bl _=>true
  | .int _=>true
  | .str _=>true
  | _=>false
def eqV:V→V→Bool
  | .non,.non=>true
  | .bl a,.bl b=>a == b
  | .bl a,.int b=>(if a then 1 else 0) == b
  | .int a,.bl b=>a == (if b then 1 else 0)
  | .int a,.int b=>a == b
  | .str a,.str b=>a == b
  | _,_=>false
theorem zet {A:Around} {s:Shared} {y x:V} {u v:Value} (ry:zan y u) (rx:zan x v) (fy:zcT y=true) (fx:zcT x=true):SeqAt.EqAt A s u v (eqV y x):=by
  cases y with
  | non =>
    cases ry
    cases x with
    | non=>cases rx;exact SeqAt.EqAt.same _
    | bl b=>cases rx;exact SeqAt.EqAt.none_bool b
    | int b=>obtain⟨t,rfl⟩:=rx;exact SeqAt.EqAt.none_int b t
    | str b=>obtain⟨t,rfl⟩:=rx;exact SeqAt.EqAt.none_str b t
    | _=>exact absurd (show false=true from fx) Bool.false_ne_true
  | bl a =>
    cases ry
    cases x with
    | non=>cases rx;exact SeqAt.EqAt.bool_none a
    | bl b=>cases rx;exact SeqAt.EqAt.bool_bool a b
    | int b=>obtain⟨t,rfl⟩:=rx;exact SeqAt.EqAt.bool_int a b t
    | str b=>obtain⟨t,rfl⟩:=rx;exact SeqAt.EqAt.bool_str a b t
    | _=>exact absurd (show false=true from fx) Bool.false_ne_true
  | int a =>
    obtain⟨t',rfl⟩:=ry
    cases x with
    | non=>cases rx;exact SeqAt.EqAt.int_none a t'
    | bl b=>cases rx;exact SeqAt.EqAt.int_bool a t' b
    | int b=>obtain⟨t,rfl⟩:=rx;exact SeqAt.EqAt.int_int a t' b t
    | str b=>obtain⟨t,rfl⟩:=rx;exact SeqAt.EqAt.int_str a t' b t
    | _=>exact absurd (show false=true from fx) Bool.false_ne_true
  | str a =>
    obtain⟨t',rfl⟩:=ry
    cases x with
    | non=>cases rx;exact SeqAt.EqAt.str_none a t'
    | bl b=>cases rx;exact SeqAt.EqAt.str_bool a t' b
    | int b=>obtain⟨t,rfl⟩:=rx;exact SeqAt.EqAt.str_int a t' b t
    | str b=>obtain⟨t,rfl⟩:=rx;exact SeqAt.EqAt.str_str a t' b t
    | _=>exact absurd (show false=true from fx) Bool.false_ne_true
  | _=>exact absurd (show false=true from fy) Bool.false_ne_true
def eqU (x:V) (u:Value):Bool:=match u with
  | .none=>eqV .non x
  | .bool b=>eqV (.bl b) x
  | .int i _=>eqV (.int i) x
  | .str z _=>eqV (.str z) x
  | _=>false
theorem zjm {x y:V} {u:Value} (r:zan y u) (f:zcT y=true):eqU x u=eqV y x:=by
  cases y with
  | non=>cases r;rfl
  | bl b=>cases r;rfl
  | int i=>obtain⟨t,rfl⟩:=r;rfl
  | str z=>obtain⟨t,rfl⟩:=r;rfl
  | _=>exact absurd (show false=true from f) Bool.false_ne_true
theorem zf5 {x:V}:∀ {xs:List V} {us:List Value},aH xs us→xs.all zcT=true→us.any (eqU x)=xs.any fun y=>eqV y x
  | _,_,.nil,_=>rfl
  | y :: xs,u :: us,.cons r t,f=>by
    rw[List.all_cons,Bool.and_eq_true]at f
    rw[List.any_cons,List.any_cons,zjm r f.1,zf5 t f.2]
theorem zfb {A:Around} {s:Shared} {x:V} {v:Value} (rx:zan x v) (fx:zcT x=true):∀ {xs:List V} {us:List Value},aH xs us→xs.all zcT=true→∀ u∈us,SeqAt.EqAt A s u v (eqU x u)
  | _,_,.nil,_=>fun u hu=>by cases hu
  | y :: xs,u :: us,.cons r t,f=>fun u' hu=>by
    rw[List.all_cons,Bool.and_eq_true]at f
    rcases List.mem_cons.mp hu with rfl | hu
    · rw[zjm r f.1];exact zet r rx f.1 fx
    · exact zfb rx fx t f.2 u' hu
def inV (x:V) (xs:List V):Bool:=xs.any fun y=>eqV y x
def rIn (K:PySem.W.Frag) (neg:Bool):R2:=fun x y H Q=>∃ p xs,y=.ref p∧(SqL K H p xs∨SqT K H p xs)∧zcT x=true∧xs.all zcT=true∧Q (.bl (if neg then !inV x xs else inV x xs)) H
theorem zhM:OpR X (compareOp .NotIn) (rIn X.K true):=by
  intro pins s σ H x y v u Q I rx ry h
  obtain⟨p,xs,rfl,hq,fx,fs,q⟩:=h
  cases ry
  rcases hq with hq | hq
  · obtain⟨its,r,pl,hz⟩:=I.list hq
    refine SeqAt.notIn_listAt (eqU x) pl.isList (fun w hw=>zfb rx fx r fs w (by simpa using hw)) ⟨.bl _,H,I,rfl,?_⟩
    rw[show its.toArray.any (eqU x)=its.any (eqU x) by simp,zf5 r fs]
    exact q
  · obtain⟨its,r,pl,hz⟩:=I.tuple hq
    refine SeqAt.notIn_tupleAt (eqU x) pl (fun w hw=>zfb rx fx r fs w (by simpa using hw)) ⟨.bl _,H,I,rfl,?_⟩
    rw[show its.toArray.any (eqU x)=its.any (eqU x) by simp,zf5 r fs]
    exact q
theorem zao:zcV X (.builtin "len") (fun xs H Q=>∃ p ys,xs=[.ref p]∧(SqL X.K H p ys∨SqT X.K H p ys)∧Q (.int ys.length) H):=by
  intro pins s σ H xs us Q I r h
  obtain⟨p,ys,rfl,hq,q⟩:=h
  obtain⟨u,rfl,rx⟩:=zeJ r
  cases rx
  have hn:=zeq
  rcases hq with hq | hq
  · obtain⟨its,r',pl,hz⟩:=I.list hq
    have hlen:=r'.length
    exact Calls.call_len_list pl.isList (by simp only[List.size_toArray] <;> omega) ⟨.int ys.length,H,I.tok _,⟨s.toks+1,by rw[List.size_toArray,hlen]⟩,q⟩
  · obtain⟨its,r',pl,hz⟩:=I.tuple hq
    have hlen:=r'.length
    exact len_tuple pl (by simp only[List.size_toArray] <;> omega) ⟨.int ys.length,H,I.tok _,⟨s.toks+1,by rw[List.size_toArray,hlen]⟩,q⟩
theorem zbW:zcV X (.builtin "len") (fun xs H Q=>∃ z,xs=[.str z]∧z.length≤sizeLine∧Q (.int z.length) H):=by
  intro pins s σ H xs us Q I r h
  obtain⟨z,rfl,hz,q⟩:=h
  obtain⟨u,rfl,t,rfl⟩:=zeJ r
  have hn:=zeq
  exact len_str (by omega) ⟨.int z.length,H,I.tok _,⟨_,rfl⟩,q⟩
theorem zbn:zcV X (.type "tuple") (fun xs H Q=>∃ p ys,xs=[.ref p]∧((SqL X.K H p ys∧∀ l,H l=none→Q (.ref l) (upd H l (.tup ys)))∨(SqT X.K H p ys∧Q (.ref p) H))):=by
  intro pins s σ H xs us Q I r h
  obtain⟨p,ys,rfl,h⟩:=h
  obtain⟨u,rfl,rx⟩:=zeJ r
  cases rx
  rcases h with ⟨hq,q⟩ | ⟨hq,q⟩
  · obtain⟨its,r',pl,hz⟩:=I.list hq
    have hlen:=r'.length
    refine call_tuple_list pl.isList (fun h' kp=>?_) (by simp only[List.size_toArray] <;> omega)
    have I1:Inv X pins σ H { s with heap:=h' }:=I.kept (t':=s.toks) kp
    have I2:Inv X pins σ (upd H h'.objs.size (.tup ys)) { s with heap:=h'.push { cls:=.type "tuple",data:=.seq its.toArray } } :=
      I1.laid (t':=s.toks) (fun b o e=>Heap.get?_push_of_some _ e) (Nat.le_refl _) (show zbv X.prog X.w _ _ _ (.tup ys) from⟨hz,its,r',IsTup.new _ _⟩)
    exact⟨.ref h'.objs.size,_,I2,rfl,q _ (I1.hok.fresh (Nat.le_refl _))⟩
  · obtain⟨its,r',pl,hz⟩:=I.tuple hq
    exact call_tuple_same pl ⟨.ref p,H,I,rfl,q⟩
def tyV (K:PySem.W.Frag) (T:String) (x:V) (H:Hp):Prop:=match x with
  | .str _=>T="str"
  | .int _=>T="int"
  | .ref p=>(T="list"∧∃ xs,SqL K H p xs)∨(T="tuple"∧∃ o,K.lookup p=some o∧o.cls=.type "tuple"∧o.dict=none) ∨
      (T="dict"∧((∃ kvs,H p=some (.dK kvs))∨∃ kvs,H p=some (.dT kvs)))∨(T="set"∧∃ S n,H p=some (.set S n))
  | _=>False
theorem tyV_is {pins:List (Addr × Obj)} {σ:St} {H:Hp} {s:Shared} {T:String} {x:V} {v:Value} (I:Inv X pins σ H s) (r:zan x v) (ty:tyV X.K T x H) :
    s.TypeIs v T∧∀ a,v=.ref a→∃ ob,s.heap.get? a=some ob∧ob.dict=none:=by
  cases x with
  | str z =>
    obtain⟨t,rfl⟩:=r
    cases (show T="str" from ty)
    exact⟨typeIs_str s z t,fun _ e=>nomatch e⟩
  | int i =>
    obtain⟨t,rfl⟩:=r
    cases (show T="int" from ty)
    exact⟨typeIs_int s i t,fun _ e=>nomatch e⟩
  | ref p =>
    cases r
    rcases ty with ⟨rfl,xs,hq⟩ | ⟨rfl,o,hk,hc,hd⟩ | ⟨rfl,hk⟩ | ⟨rfl,S,n,hk⟩
    · obtain⟨its,_,pl,_⟩:=I.list hq
      refine⟨pl.isList.typeIs,fun a e=>?_⟩
      cases e
      obtain⟨o,n,e,c,hd,_⟩:=pl
      exact⟨o,e,hd⟩
    · refine⟨⟨o,I.kIn p o hk,hc⟩,fun a e=>?_⟩
      cases e
      exact⟨o,I.kIn _ o hk,hd⟩
    · have z:∃ o,s.heap.get? p=some o∧o.ExactDict:=by
        rcases hk with ⟨kvs,hk⟩ | ⟨kvs,hk⟩
        · obtain⟨_,_,_,_,o,_,_,e,ex,_⟩:=I.hok p _ hk
          exact⟨o,e,ex⟩
        · obtain⟨_,_,_,_,o,_,_,e,ex,_⟩:=I.hok p _ hk
          exact⟨o,e,ex⟩
      obtain⟨o,e,ex⟩:=z
      refine⟨⟨o,e,ex.1⟩,fun a e2=>?_⟩
      cases e2
      exact⟨o,e,ex.2.1⟩
    · obtain⟨o,_,_,_,e,ex,_⟩:=I.hok p _ hk
      refine⟨⟨o,e,ex.1⟩,fun a e2=>?_⟩
      cases e2
      exact⟨o,e,ex.2.1⟩
  | _=>exact False.elim ty
def tBM (K:PySem.W.Frag) (T:String) (r:V→List V→Hp→VK→Prop) (to:TE) (t:TA):TE:=fun σ H Q=>to σ H fun x H1=>tyV K T x H1∧t σ H1 fun xs H2=>r x xs H2 Q
variable {o e:Expr} {es:List Expr} {to:TE} {t:TA} {name:Str} {apos cpos:Pos} {T id:String} {r:V→List V→Hp→VK→Prop}
theorem zaL (pa:PlainAttrs T) (slot:Slot T name id) (hty:typeOf (.builtin id)=pure (.type "method_descriptor")) (hm:MtR X id r) (ho:PE X o to) (ha:PA X (e :: es) t)
    (hbase:attributeBase o name X.env (eval o X.env)=eval o X.env:=by rfl)
    (hfew:((backTo cpos (starEach (e :: es) X.env)).all (fun x=>!x.1)&&(backToKw cpos (keywordEach [] X.env)).all (fun x=>x.1.isSome)
      && decide ((e :: es).length+([]:List Keyword).length+(if([]:List Keyword).isEmpty then 0 else 1) < 30))=true:=by rfl)
    (hline:(apos.endLine == cpos.line)=true:=by rfl) (hs:starEach (e :: es) X.env=(false,eval e X.env) :: starEach es X.env:=by rfl) (hplain:(backTo cpos (starEach es X.env)).any (·.1)=false:=by rfl) :
    PE X (.Call (.Attribute o name apos) (e :: es) [] cpos) (tBM X.K T r to t):=by
  intro pins s σ H Q I h
  refine wpAny_Call_method_late hbase hfew hline rfl (thn (ho pins s σ H _ I h) fun v s1 ⟨x,H1,I1,r1,ty,q1⟩=>?_)
  obtain⟨h1,h2⟩:=tyV_is I1 r1 ty
  refine⟨T,id,pa,slot,hty,h1,h2,?_⟩
  have hA:=ha cpos pins s1 σ H1 _ I1 q1
  rw[hs]at hA ⊢
  refine Calls.callWith_builtin (by show(false||(backTo cpos (starEach es X.env)).any (·.1))=false;rw[hplain] <;> rfl) (Calls.evalArgs_plain ?_)
  exact thn hA fun us s2 ⟨vs,H2,I2,r2,q2⟩=>hm pins s2 σ H2 x vs v us Q I2 r1 r2 q2
end
end L2
namespace L2
open PySem PySem.Spec PyProof.Rows
def MtM (X:Cx) (id:String) (r:V→List V→Hp→VK→Prop):Prop :=
  ∀(pins:List (Addr × Obj)) (s:Shared) (σ:St) (H:Hp) (x:V) (xs:List V) (v:Value) (us:List Value) (Q:VK),Inv X pins σ H s→zan x v→aH xs us→r x xs H Q →
    wpAny (model X.prog X.w) X.A (call (.builtin id) (v :: us)) (EP X pins σ Q) X.xe s
theorem aH.one:∀ {x:V} {us:List Value},aH [x] us→∃ u,us=[u]∧zan x u
  | _,_,.cons r .nil=>⟨_,rfl,r⟩
theorem aH.two:∀ {x y:V} {us:List Value},aH [x,y] us→∃ u v,us=[u,v]∧zan x u∧zan y v
  | _,_,_,.cons r (.cons q .nil)=>⟨_,_,rfl,r,q⟩
theorem aH.zero:∀ {us:List Value},aH [] us→us=[]
  | _,.nil=>rfl
section
variable {X:Cx} {pins:List (Addr × Obj)} {σ:St} {H:Hp} {s:Shared} {l b:Addr} {xs ys zs:List V}
theorem Inv.lset {its its':List Value} {n:Nat} {f:Array Value→Array Value} {t':Nat} (I:Inv X pins σ H s) (hH:H l=some (.lst xs))
    (e:s.heap.get? l=some { cls:=.type "list",data:=.seq its.toArray n }) (hf:f its.toArray=its'.toArray) (hv:aH ys its') (hz:ys.length≤sizeLine) :
    Inv X pins σ (upd H l (.lst ys)) { s with heap:=s.heap.update l (Obj.mapSeq f),toks:=t' }:=by
  have q:=PySem.IsL.update e f
  rw[hf]at q
  refine I.write (x:=l) (e:=l) (by rw[hH];exact trivial) (.inl rfl) (fun b' u hb hu=>(Heap.get?_update_other s.heap (Obj.mapSeq f) (Ne.symm hb)).trans hu) ⟨_,q⟩ ?_
  exact⟨hz,its',_,hv,q⟩
theorem Inv.lnew {its:List Value} {t':Nat} (I:Inv X pins σ H s) (hv:aH ys its) (hz:ys.length≤sizeLine) :
    Inv X pins σ (upd H s.heap.objs.size (.lst ys)) { s with heap:=s.heap.push { cls:=.type "list",data:=.seq its.toArray },toks:=t' } :=
  I.laid (fun _ _ q=>Heap.get?_push_of_some _ q) (Nat.le_refl _) ⟨hz,its,0,hv,Heap.get?_push_size _ rfl⟩
theorem Inv.fresh (I:Inv X pins σ H s):H s.heap.objs.size=none:=I.hok.fresh (Nat.le_refl _)
theorem Inv.lstM (I:Inv X pins σ H s) (hH:H l=some (.lst xs)):xs.length≤sizeLine∧∃(its:List Value) (n:Nat),aH xs its∧xs.length=its.length∧s.heap.get? l=some { cls:=.type "list",data:=.seq its.toArray n }:=by
  obtain⟨z,its,n,r,e⟩:=I.hok l _ hH
  exact⟨z,its,n,r,r.length,e⟩
theorem zkv {n:Nat} (h:n≤sizeLine):Builtin.List.listTooLong n=false:=by
  unfold Builtin.List.listTooLong
  exact decide_eq_false (by omega)
end
section
variable {X:Cx}
def zk4:V→List V→Hp→VK→Prop:=fun x vs H Q=>∃ l xs y,x=.ref l∧vs=[y]∧H l=some (.lst xs)∧xs.length < sizeLine∧Q .non (upd H l (.lst (xs++[y])))
theorem zaK:MtM X "list.append" zk4:=by
  intro pins s σ H x vs v us Q I rx rv h
  obtain⟨l,xs,y,rfl,rfl,hH,hz,q⟩:=h
  cases rx
  obtain⟨u,rfl,ru⟩:=rv.one
  obtain⟨z,its,n,r,hl,e⟩:=I.lstM hH
  refine call_meets F.slot_list_append ⟨_,e,rfl⟩ F.entry_list_append (F.args_list_append_2 _ _) (PySem.list_append l its.toArray n u (by rw[List.size_toArray];omega)) ⟨e,?_⟩
  refine⟨.non,_,I.lset (its':=its++[u]) hH e (by simp) (r.append (.cons ru .nil)) ?_,rfl,q⟩
  rw[List.length_append,List.length_singleton]
  omega
def zk3:V→List V→Hp→VK→Prop:=fun x vs H Q=>∃ l b xs zs,x=.ref l∧vs=[.ref b]∧H l=some (.lst xs)∧H b=some (.lst zs)∧xs.length+zs.length≤sizeLine∧Q .non (upd H l (.lst (xs++zs)))
theorem mt_extend:MtM X "list.extend" zk3:=by
  intro pins s σ H x vs v us Q I rx rv h
  obtain⟨l,b,xs,zs,rfl,rfl,hH,hB,hz,q⟩:=h
  cases rx
  obtain⟨u,rfl,ru⟩:=rv.one
  cases ru
  obtain⟨z,its,n,r,hl,e⟩:=I.lstM hH
  obtain⟨z2,its2,n2,r2,hl2,e2⟩:=I.lstM hB
  have hsz:its.toArray.size+its2.toArray.size≤sizeLine:=by rw[List.size_toArray,List.size_toArray];omega
  have hlong:¬(!its.toArray.isEmpty&&Builtin.List.listTooLong (its.toArray.size+its2.toArray.size))=true:=by
    rw[zkv hsz,Bool.and_false]
    exact Bool.false_ne_true
  refine call_meets F.slot_list_extend ⟨_,e,rfl⟩ F.entry_list_extend (F.args_list_extend_2 _ _)
    (AutoSeq1.list_extend_list_list_0 l its.toArray n b its2.toArray n2 hlong (by rw[List.size_toArray];omega) (by omega)) ⟨e,e2,?_⟩
  refine⟨.non,_,I.lset (its':=its++its2) hH e (by simp) (r.append r2) ?_,rfl,q⟩
  rw[List.length_append]
  omega
def rCat:R2:=fun x y H Q=>∃ l b xs zs,x=.ref l∧y=.ref b∧H l=some (.lst xs)∧H b=some (.lst zs)∧xs.length+zs.length≤sizeLine∧∀ p,H p=none→Q (.ref p) (upd H p (.lst (xs++zs)))
theorem zdF:OpR X (binaryOp .Add) rCat:=by
  intro pins s σ H x y v u Q I rx ry h
  obtain⟨l,b,xs,zs,rfl,rfl,hH,hB,hz,q⟩:=h
  cases rx
  cases ry
  obtain⟨z,its,n,r,hl,e⟩:=I.lstM hH
  obtain⟨z2,its2,n2,r2,hl2,e2⟩:=I.lstM hB
  refine PySem.P.add_list e e2 ?_ (by rw[List.size_toArray,List.size_toArray];omega)
  have ea:its.toArray++its2.toArray=(its++its2).toArray:=by simp
  rw[ea]
  exact⟨.ref _,_,I.lnew (t':=s.toks) (r.append r2) (by rw[List.length_append];omega),rfl,q _ I.fresh⟩
end
section
variable {prog:Program} {w:World} {A:Around} {E:Value→Shared→Prop} {s:Shared}
end
section
variable {X:Cx}
end
end L2
namespace Att
open PySem PySem.W PySem.Calls PyProof.Rows
theorem zfI {P:Params} {h:Heap}:∀(ns:List Int) (vs:List Value),WellAll P h vs (ns.map WData.int)→IntsAre vs ns:=by
  intro ns
  induction ns with
  | nil =>
    intro vs w
    rw[List.map_nil]at w
    cases w
    exact .nil
  | cons n ns ih =>
    intro vs w
    rw[List.map_cons]at w
    cases w with
    | cons a b =>
      cases a
      exact .cons _ _ (ih _ b)
theorem zjD {l:OpenLaw} {n:Nat} (hn:l.most=some n) {P:Params} {h:Heap} {args:List WData} {vals:List Value}
    (hpre:l.row.toRowW.claim.pre args=true) (hwl:WellAll P h vals args) :
    ∃ a vs ns,vals=[Value.ref a]∧args=[WData.list (ns.map WData.int)]∧h.get? a=some { cls:=.type "list",data:=.seq vs.toArray }∧IntsAre vs ns∧ns.length≤n:=by
  have hsh:WShape.hasAll [] args [.list .int]=true:=(pre_splitW hpre).1
  have hc:l.pre.holds [] { args:=args }=true:=(pre_splitW hpre).2
  obtain⟨d,r,rfl,h1,h2⟩:=hasAllW_cons hsh
  obtain rfl:=hasAllW_nil h2
  obtain⟨xs,rfl,h3⟩:=hasW_list h1
  obtain⟨ns,rfl⟩:=items_int h3
  have hlen:ns.length≤n:=by
    unfold OpenLaw.pre at hc
    have h4:(WTm.not (.lt (.lit (.int (n:Int))) (.len (.arg 0)))).holds [] { args:=[.list (ns.map .int)] }=true:=by
      have h4:=(holds_andW hc).1
      rw[hn]at h4
      exact h4
    have h5:=condW_of h4 (w_not (w_lt w_lit (w_len_list (w_arg rfl))))
    rw[List.length_map]at h5
    refine Nat.le_of_not_lt fun q=>?_
    have q':(n:Int) < ((ns.length:Nat):Int):=by omega
    first
      | (rw[decide_eq_true q']at h5;exact absurd h5 (by decide))
      | (simp at h5;omega)
  cases hwl with
  | cons w1 w2 =>
    cases w2
    cases w1 with
    | list ho hall=>exact⟨_,_,ns,rfl,rfl,ho,zfI ns _ hall,hlen⟩
theorem zjH (l:OpenLaw) (args:List WData):l.row.toRowW.claim.post args (.bool true) args=true :=
  postW_of (r:=l.row.toRowW) (X:=(true == true))
    (show WShape.has [] (.bool true) .bool=true by first | rfl | decide | simp [WShape.has,WShape.arms,WShape.armsAll])
    (show(WTm.eq .res (.lit (.bool true))).value [] { args:=args,res:=some (.bool true),after:=args }=some (.bool (true == true)) from w_eq_bool (w_res rfl) w_lit) rfl
theorem attach_call {l:OpenLaw} {n:Nat} {q:Program} {loose:List Str} {XP:(Str→Option Value)→Heap→Prop} {YP:World→Heap→Prop} {d:DefRec}
    (hn:l.most=some n) (hdf:d.params.defaults=[])
    (call:∀(w:World) (s₀ s₁:Shared) (mg mb:Str→Option Value) (fa:Addr) (o:Obj) (pm cd doc:Value) (a:Addr) (vs:List Value) (ns:List Int),
      Ground q loose [] XP w s₀ mg mb s₁.heap→YP w s₁.heap →
      s₁.heap.get? fa=some o→o.data=.func (docDef d.name d.params d.body d.scope pm cd doc)→s₁.heap.CodeRec cd d.name→mg d.name=some (.ref fa) →
      s₁.heap.get? a=some { cls:=.type "list",data:=.seq vs.toArray }→IntsAre vs ns→ns.length≤n→s₁.gens=#[] →
      codeAny (model l.prog w) callerA (.call (.ref fa) ⟨[.ref a],[]⟩) (fun r s'=>r=.ok (.ret (.bool true))∧OldK s₁.heap s'.heap∧s'.os=s₁.os∧AllBare s'.gens) s₁) :
    WalkO q loose XP YP l.row.toRowW d [] (fun f vs=>PySem.call f vs):=by
  intro w s₀ s₁ mg mb G Y fa o pm cd doc dV kV ho hd hcd hD hmg hg args vals as hpre hlay hrd hwl hlo
  obtain rfl:dV=.none:=Dflts.none hD hdf
  obtain rfl:kV=.none:=Dflts.noKw hD
  obtain⟨a,vs,ns,rfl,rfl,hobj,hints,hlen⟩:=zjD hn hpre hwl
  refine enter_call (codeAny_mono (call w s₀ s₁ mg mb fa o pm cd doc a vs ns G Y ho (fd_plain hd) hcd hmg hobj hints hlen hg) fun r s' hq=>?_)
  obtain⟨rfl,h2,h3,h4⟩:=hq
  exact⟨.inl ⟨.bool true,.bool true,[],rfl,fun _=>rfl,.bool true,zjH l _,fun _=>⟨List.Pairwise.nil,fun _ hm=>(nomatch hm)⟩⟩,h2,h3,h4⟩
section
variable {prog:Program} {w:World} {A:Around} {E:Value→Shared→Prop} {s:Shared} {K:Frag}
def ledger (h:Heap) (L d:Addr):List (Addr × Obj):=(List.range h.objs.size).filterMap fun a=>if a=L∨a=d then none else(h.get? a).map fun o=>(a,o)
end
end Att
namespace L2
open PySem PySem.Spec PyProof.Rows
theorem zgd:∀ {vs:List Value} {ns:List Int},IntsAre vs ns→aH (ns.map V.int) vs
  | _,_,.nil=>.nil
  | _,_,.cons n t h=>.cons ⟨t,rfl⟩ (zgd h)
def Only (H:Hp):Prop:=∀ b,H b=none∨∃ o xs,H b=some (.frz o (.lst xs))
theorem zky {P:Program} {w:World} {K:PySem.W.Frag} {mg mb:Str→Option Value} {CX:CXT} {k:Nat} {fa a:Addr} {fd:FuncData} {x:Str} {sp:Sp} {s₁:Shared} {vs:List Value} {ns:List Int}
    (KX:K.In s₁.heap) (hns:s₁.heap.Ns mainGlobals mg) (hb:s₁.heap.Ns builtinsNs mb) (hbb:∀ x:Str,x≠"__name__"→mb x=bootBuiltins x) (hlim:s₁.heap.NoLimit) (hg:s₁.gens=#[])
    (ha:s₁.heap.get? a=some { cls:=.type "list",data:=.seq vs.toArray }) (hi:IntsAre vs ns) (hl:ns.length≤sizeLine) (hr:aL k callerA)
    (F:∀ base:Heap,K.In base→base.Ns mainGlobals mg→FnOk P w K mg base CX k fa fd [x] sp) (hbind:∀(s:Shared) (u:Value),BindsTo s fd ⟨[u],[]⟩ [(x,u)])
    (hsp:∀ H:Hp,Only H→SqL K H a (ns.map V.int)→sp [.ref a] H (fun v _=>v=.bl true) fun _ _ _=>False)
    (hCX:∀ H e s',CX [] H s₁ (fun _ _ _=>False) e s'→False) :
    codeAny (model P w) callerA (.call (.ref fa) ⟨[.ref a],[]⟩) (fun r s'=>r=.ok (.ret (.bool true))∧OldK s₁.heap s'.heap∧s'.os=s₁.os∧AllBare s'.gens) s₁:=by
  have rv:=zgd hi
  have lenV:=hi.length
  have core:∀ H:Hp,Only H→SqL K H a (ns.map V.int)→HOk P w H s₁.heap→(∀ b,H b≠none→b=a)→(H a≠none→K.lookup a=none) →
      codeAny (model P w) callerA (.call (.ref fa) ⟨[.ref a],[]⟩) (fun r s'=>r=.ok (.ret (.bool true))∧OldK s₁.heap s'.heap∧s'.os=s₁.os∧AllBare s'.gens) s₁:=by
    intro H hO hS hok hA hK
    have base_of:∀ {b:Addr} {o:Obj},s₁.heap.get? b=some o→H b=none→(zdR s₁.heap H).get? b=some o:=fun e n=>zkC e n
    have noA:∀ {b:Addr} {o:Obj} {es:Array DictEntry} {ep:Nat},s₁.heap.get? b=some o→o.data=.dict es ep→H b=none:=fun {b o es ep} e d=>by
      cases q:H b with
      | none=>rfl
      | some u =>
        have e':b=a:=hA b (by rw[q];simp)
        subst e'
        rw[ha]at e;cases e
        have d':Data.seq vs.toArray _=Data.dict es ep:=d
        cases d'
    have nsK:∀ {b:Addr} {m:Str→Option Value},s₁.heap.Ns b m→(zdR s₁.heap H).Ns b m:=fun {b m} ⟨o,es,ep,e,d,r⟩=>⟨o,es,ep,base_of e (noA e d),d,r⟩
    have hKb:K.In (zdR s₁.heap H):=fun b o e=>base_of (KX b o e) (by
      cases q:H b with
      | none=>rfl
      | some u =>
        have e':b=a:=hA b (by rw[q];simp)
        subst e'
        rw[hK (by rw[q];simp)]at e;cases e)
    have hM:Mod K mg (zdR s₁.heap H):=⟨hKb,nsK hns,⟨mb,nsK hb,hbb⟩,let ⟨mc,h1,h2⟩:=hlim;⟨mc,nsK h1,h2⟩⟩
    have e0:ze3 P w K mg (zdR s₁.heap H) callerA [] s₁ H:=⟨rfl,hM,fun b o e=>zlj e,Nat.le_of_eq (zjR _ _),trivial,fun b hb=>absurd (show b∈([]:List Addr) from hb) (by simp),hok,.of_eq hg⟩
    refine codeAny_mono ((F _ hKb (nsK hns)).run callerA [] s₁ H ⟨[.ref a],[]⟩ [.ref a] [.ref a] _ _ hr e0 (hbind s₁ (.ref a)) (.cons rfl .nil) (hsp H hO hS)) fun r s' h=>?_
    cases r with
    | error e=>exact(hCX H e s' h).elim
    | ok fl =>
      cases fl with
      | next=>exact False.elim h
      | brk=>exact False.elim h
      | cont=>exact False.elim h
      | ret u =>
        obtain⟨v,H',os,bare,un,hok',r',q⟩:=h
        have q':v=.bl true:=q
        subst q'
        obtain rfl:u=Value.bool true:=r'
        refine⟨rfl,OldK.of_keep fun b o e=>?_,os,bare⟩
        cases q:H b with
        | none=>exact un.keep b o e q (by intro z;exact absurd (show b∈([]:List Addr) from z) (by simp)) (by simp)
        | some u =>
          rcases hO b with z | ⟨ob,xs,z⟩
          · rw[q]at z;cases z
          · have z2:=un.frzs b ob _ z
            obtain⟨e1,_⟩:=hok b _ z
            obtain⟨e2,_⟩:=hok' b _ z2
            rw[e]at e1;cases e1
            exact e2
  cases hk:K.lookup a with
  | some o =>
    have e:=KX a o hk
    rw[ha]at e
    cases e
    refine core (fun _=>none) (fun _=>.inl rfl) (.inr ⟨_,vs.toArray,_,hk,rfl,rfl,rfl,by rw[List.size_toArray,lenV];exact hl,by simpa using rv⟩) (fun b u z=>by have z':(none:Option HO)=some u:=z;cases z') (fun b z=>absurd rfl z) fun z=>absurd rfl z
  | none =>
    refine core (fun b=>if b=a then some (.frz { cls:=.type "list",data:=.seq vs.toArray } (.lst (ns.map V.int))) else none) (fun b=>?_) (.inl (.inr ⟨{ cls:=.type "list",data:=.seq vs.toArray },if_pos rfl⟩)) (fun b u z=>?_) (fun b z=>?_) fun _=>hk
    · by_cases hb:b=a
      · exact .inr ⟨_,_,if_pos hb⟩
      · exact .inl (if_neg hb)
    · by_cases hb:b=a
      · have z':=(if_pos hb).symm.trans z
        cases z'
        subst hb
        exact⟨ha,by rw[List.length_map];exact hl,vs,_,rv,ha⟩
      · have z':=(if_neg hb).symm.trans z
        cases z'
    · by_cases hb:b=a
      · exact hb
      · exact absurd (if_neg hb) z
end L2
namespace L2
open PySem PySem.Spec PyProof.Rows
abbrev KOf {K:PySem.W.Frag} {h:Heap} (_:K.In h):PySem.W.Frag:=K
theorem walk_of {l:PySem.W.OpenLaw} {n k:Nat} {q:Program} {loose:List Str} {XP:(Str→Option Value)→Heap→Prop} {YP:World→Heap→Prop} {d:DefRec} {K:Params→PySem.W.Frag} {CX:World→CXT} {sp:World→Sp} {x:Str}
    (hn:l.most=some n) (hn2:n≤sizeLine) (hdf:d.params.defaults=[]) (hr:aL k callerA)
    (hY:∀(w:World) (h:Heap),YP w h→(K w.params).In h)
    (F:∀(w:World) (mg:Str→Option Value) (fa:Addr) (h:Heap),(K w.params).In h→h.Ns mainGlobals mg→mg d.name=some (.ref fa) →
      ∃ fd:FuncData,(∀(s:Shared) (u:Value),BindsTo s fd ⟨[u],[]⟩ [(x,u)]) ∧
        ∀ base:Heap,(K w.params).In base→base.Ns mainGlobals mg→FnOk l.prog w (K w.params) mg base (CX w) k fa fd [x] (sp w))
    (hsp:∀(w:World) (H:Hp) (a:Addr) (ns:List Int),ns.length≤n→Only H→SqL (K w.params) H a (ns.map V.int)→sp w [.ref a] H (fun v _=>v=.bl true) fun _ _ _=>False)
    (hCX:∀(w:World) (H:Hp) (s:Shared) (e:Value) (s':Shared),CX w [] H s (fun _ _ _=>False) e s'→False) :
    PySem.W.WalkO q loose XP YP l.row.toRowW d [] (fun f vs=>PySem.call f vs):=by
  refine Att.attach_call hn hdf fun w s₀ s₁ mg mb fa o pm cd doc a vs ns G Y ho hd hcd hmg hobj hints hlen hg=>?_
  have KX:=hY w _ Y
  obtain⟨fd,hb,hF⟩:=F w mg fa _ KX G.T.g hmg
  exact zky KX G.T.g G.T.b G.T.builtins G.T.nolimit hg hobj hints (Nat.le_trans hlen hn2) hr hF hb (fun H hO hS=>hsp w H a ns hlen hO hS) fun H e s'=>hCX w H s₁ e s'
end L2
namespace L2
open PySem PySem.Spec PyProof.Rows
def zaO (s:Stmt) (j:Nat):Stmt:=match s with
  | .ClassDef _ _ _ body _ _ _ _ _ _ _=>body.getD j (.Pass ⟨0,0,0,0⟩)
  | _=>.Pass ⟨0,0,0,0⟩
def zbZ (s:Stmt):Arguments:=match s with
  | .FunctionDef _ a _ _ _ _ _ _ _ _=>a
  | _=>{ posonlyargs:=[],args:=[],vararg:=none,kwonlyargs:=[],kw_defaults:=[],kwarg:=none,defaults:=[] }
def zaF (s:Stmt):List Stmt:=match s with
  | .FunctionDef _ _ b _ _ _ _ _ _ _=>b
  | _=>[]
def ap (s:Stmt):Scope:=match s with
  | .FunctionDef _ _ _ _ _ _ sc _ _ _=>sc
  | _=>{ kind:=.function,names:=[],isGenerator:=false,isCoroutine:=false }
abbrev CX0:CXT:=fun _ _ _ _ _ _=>False
abbrev E0:XK:=fun _ _ _=>False
theorem aF {X:Cx}:zbq CX0 X E0:=fun _ _ _ _ _ _ _ h=>h.elim
structure Fun (K:PySem.W.Frag) (x qual:Str) (st:Stmt) (f:Addr) (fd:FuncData):Prop where
  ex:∃(oc:Value) (od:Option Addr) (kV doc pm:Value) (an:Option Addr) (cdv ct:Value) (osl:Array (Option Value)),
    fd=PySem.W.fnOf x qual (zbZ st) (zaF st) (ap st) .none kV doc pm an cdv ct∧K.lookup f=some ⟨oc,od,.func fd,osl⟩∧PySem.W.codeIn K cdv qual=true
  kp:PySem.W.keepIn K (.ref f)=true
section
variable {P:Program} {w:World} {K:PySem.W.Frag} {mg:Str→Option Value} {base:Heap}
theorem Fun.ok {x qual:Str} {st:Stmt} {f:Addr} {fd:FuncData} {N ps:List Str} {k:Nat} {sp:Sp} (F:Fun K x qual st f fd) (S:zaa N ps (ap st)) (len:∀ vs H Q E,sp vs H Q E→vs.length=ps.length)
    (hbody:∀(cdv:Value) (A:Around) (outer:List Env) (s:Shared) (H:Hp) (vs:List V) (Q:VK) (E:XK),aL k (A.deeper (envOfC qual (ap st) s.heap.objs.size f cdv))→sp vs H Q E →
      ∃ t,PSs (zbs CX0 P w K mg base N qual (ap st) f cdv A outer s H E).nox (zaF st) t∧t { nx:=fun _ H'=>Q .non H',rt:=Q } (zcQ N vs) H):FnOk P w K mg base CX0 (k+1) f fd ps sp:=by
  obtain⟨oc,od,kV,doc,pm,an,cdv,ct,osl,rfl,lk,hcd⟩:=F.ex
  refine fn_of lk hcd S len fun A outer s H vs Q E hr hsp=>?_
  obtain⟨t,h,q⟩:=hbody cdv A outer s H vs Q E hr hsp
  exact⟨t,h.nox,q⟩
theorem Fun.binds {x qual:Str} {st:Stmt} {f:Addr} {fd:FuncData} {ps:List Str} (F:Fun K x qual st f fd)
    (h:∀(kV doc pm:Value) (an:Option Addr) (cdv ct:Value) (us:List Value),us.length=ps.length→bindArgs (PySem.W.fnOf x qual (zbZ st) (zaF st) (ap st) .none kV doc pm an cdv ct) ⟨us,[]⟩=pure (ps.zip us)):ay K fd ps []:=by
  obtain⟨oc,od,kV,doc,pm,an,cdv,ct,osl,rfl,lk,hcd⟩:=F.ex
  exact .all (h kV doc pm an cdv ct)
theorem zjk {x qual:Str} {st:Stmt} {f:Addr} {oc:Value} {od an:Option Addr} {osl:Array (Option Value)} {kV doc pm cdv ct:Value} (l:K.lookup f=some ⟨oc,od,.func (PySem.W.fnOf x qual (zbZ st) (zaF st) (ap st) .none kV doc pm an cdv ct),osl⟩)
    (c:PySem.W.codeIn K cdv qual=true) (k:PySem.W.keepIn K (.ref f)=true):Fun K x qual st f (PySem.W.fnOf x qual (zbZ st) (zaF st) (ap st) .none kV doc pm an cdv ct):=⟨⟨oc,od,kV,doc,pm,an,cdv,ct,osl,rfl,l,c⟩,k⟩
end
theorem zaT {n:Nat} (h:n≤1000):n < sizeLine:=Nat.lt_of_le_of_lt h (by decide)
section
variable {X:Cx}
theorem pv (i:Nat) {x:Str} {pos:Pos} (hN:X.N[i]?=some x:=by rfl) (hv:Vis X.env.scope x:=by first | exact Or.inl rfl | exact Or.inr (Or.inl rfl) | exact Or.inr (Or.inr rfl)) (hd:(x == ("__debug__":Str))=false:=by decide)
    (hcd:(x == ("__classdict__":Str))=false:=by decide):PE X (.Name x pos) (tVar i):=pe_var hN hv hd hcd
end
theorem za3 {A B:Prop} (h:B):if false=true then A else B:=by
  rw[if_neg Bool.false_ne_true]
  exact h
theorem zbj {A B:Prop} (h:A):if true=true then A else B:=by
  rw[if_pos rfl]
  exact h
theorem aO {c A B:Prop} [Decidable c] (h1:c→A) (h2:¬c→B):if c then A else B:=by
  by_cases h:c
  · rw[if_pos h]
    exact h1 h
  · rw[if_neg h]
    exact h2 h
def ax (H H':Hp):Prop:=∀ b o,H b=some o→H' b=some o
theorem ax.refl (H:Hp):ax H H:=fun _ _ h=>h
theorem ax.trans {H H1 H2:Hp} (a:ax H H1) (b:ax H1 H2):ax H H2:=fun c o h=>b c o (a c o h)
theorem ax.free {H H':Hp} (e:ax H H') {l:Addr} (h:H' l=Option.none):H l=Option.none:=by
  cases q:H l with
  | none=>rfl
  | some o =>
    rw[e l o q]at h
    cases h
theorem ax.seq {K:PySem.W.Frag} {H H':Hp} {a:Addr} {xs:List V} (e:ax H H') (h:SqL K H a xs):SqL K H' a xs:=by
  rcases h with (h | ⟨o,h⟩) | h
  · exact .inl (.inl (e _ _ h))
  · exact .inl (.inr ⟨o,e _ _ h⟩)
  · exact .inr h
end L2
theorem lS0:0≤PySem.sizeLine:=by decide
theorem lS1:1≤PySem.sizeLine:=by decide
theorem lS2:2≤PySem.sizeLine:=by decide
theorem lS3:3≤PySem.sizeLine:=by decide
theorem lS4:4≤PySem.sizeLine:=by decide
namespace L2
open PySem PySem.Spec PyProof.Rows
section
variable {X:Cx} {e l:Expr} {te tl:TE} {pos:Pos} {tg:Expr}
def rSlS:V→Option Int→Option Int→Hp→VK→Prop:=fun x lo hi H Q=>∃ z,x=.str z∧z.length≤sizeLine∧Q (.str (Txt.slice z lo hi)) H
theorem zh8 {v:Value} {o:Option Int} (p:IsPart v o):∃ q:Option (Int × Tok),v=partValue q∧q.map (·.1)=o:=by
 cases p with
 | none=>exact⟨none,rfl,rfl⟩
 | int i t=>exact⟨some (i,t),rfl,rfl⟩
theorem zem:SlR X rSlS:=by
 intro pins s σ H x v vl vu lo hi sl Q I rx hs pl pu h
 obtain⟨z,rfl,hz,q⟩:=h
 obtain⟨t,rfl⟩:=rx
 obtain⟨ql,rfl,rfl⟩:=zh8 pl
 obtain⟨qu,rfl,rfl⟩:=zh8 pu
 obtain⟨o,ho,hc,hd⟩:=hs
 refine⟨"str",_,F.slot_str_getitem.lookup,typeIs_str _ _ _,?_⟩
 refine wpAny_getItem_str_slice (l:=ql) (u:=qu) (st:=none) ⟨o,ho,hc,hd⟩ rfl ?_
 exact post_val_or_str ⟨Nat.le_trans (Txt.slice_le z _ _) hz,fun t' k=>⟨.str (Txt.slice z (ql.map (·.1)) (qu.map (·.1))),H,I.tok _,⟨_,rfl⟩,q⟩⟩
def Its (z:Str):It:=⟨fun i _=>i < z.length,fun i H x H'=>H'=H∧∃ c,z.cps[i]?=some c∧x=.str ⟨#[c]⟩,fun i _=>z.length≤i⟩
theorem zg1 {P:Program} {w:World} {K:W.Frag} {ty:String} (hty:ty="str_ascii_iterator"∨ty="str_iterator") (it:Addr) (z:Str) (t:Tok):Turn P w K tg (Its z) [it] it (fun i h=>h.IsStrIter it ty z t i) where
 mem:=by simp
 obj:=fun i h st b hb=>by
  have e:b=it:=by simpa using hb
  subst e
  obtain⟨o,e,c,d⟩:=st
  exact⟨o,e,fun v z=>by rw[d]at z;cases z⟩
 keep:=fun i h h' st k=>by
  obtain⟨o,e,r⟩:=st
  exact⟨o,k it (by simp) o e,r⟩
 item:=by
  intro X hP hw hK hc i pins s σ H E I hf st hg
  subst hP hw hK
  have hi:i < z.cps.size:=hg
  have hx:z.cps[i]?=some z.cps[i]:=by simp [hi]
  obtain⟨f0,f1,f2,f3,f4,f5⟩:=hf it (by simp)
  rcases hty with rfl | rfl
  ·refine wpAny_pyNext_ascii_item st hx fun h' st' sb=>?_
   have I1:Inv X pins σ H { s with heap:=h',toks:=s.toks+1 }:=I.turned (t':=s.toks+1) (fun b o hb e=>(sb.2 b hb).trans e) f0 f1 f3 f4 f5
   obtain⟨o,e,c,d⟩:=id st'
   exact⟨_,rfl,zfl (s:={ s with heap:=h',toks:=s.toks+1 }) e c d (by decide) ⟨.str ⟨#[z.cps[i]]⟩,H,I1,⟨_,rfl⟩,⟨rfl,_,hx,rfl⟩,st',fun b hb=>(hf b hb).1⟩⟩
  ·refine wpAny_pyNext_wide_item st hx fun h' st' sb=>?_
   have I1:Inv X pins σ H { s with heap:=h',toks:=s.toks+1 }:=I.turned (t':=s.toks+1) (fun b o hb e=>(sb.2 b hb).trans e) f0 f1 f3 f4 f5
   obtain⟨o,e,c,d⟩:=id st'
   exact⟨_,rfl,zfl (s:={ s with heap:=h',toks:=s.toks+1 }) e c d (by decide) ⟨.str ⟨#[z.cps[i]]⟩,H,I1,⟨_,rfl⟩,⟨rfl,_,hx,rfl⟩,st',fun b hb=>(hf b hb).1⟩⟩
 done:=by
  intro X hP hw hK hc i pins s σ H E I hf st hg
  subst hP hw hK
  have hi:z.cps.size≤i:=hg
  have hx:z.cps[i]?=none:=by simp [hi]
  obtain⟨f0,f1,f2,f3,f4,f5⟩:=hf it (by simp)
  rcases hty with rfl | rfl
  ·exact wpAny_pyNext_ascii_end (I.ok.hd hc) st hx fun h' eb=>⟨rfl,I.turned (t':=s.toks) (fun b o hb e=>eb b o hb e) f0 f1 f3 f4 f5⟩
  ·exact wpAny_pyNext_wide_end (I.ok.hd hc) st hx fun h' eb=>⟨rfl,I.turned (t':=s.toks) (fun b o hb e=>eb b o hb e) f0 f1 f3 f4 f5⟩
 self:=fun _ _ _ _ _ st h=>by
  rcases hty with rfl | rfl
  ·exact wpAny_pyIter_striter_ascii st h
  ·exact wpAny_pyIter_striter_wide st h
def iStr (tl:TE):TI:=fun σ H R=>tl σ H fun x H1=>∃ z,x=.str z∧R (Its z) H1
theorem zja (hl:PE X l tl):PI X tg l (iStr tl):=by
 intro pins s σ H R I h
 refine thn (hl pins s σ H _ I h) fun v s1 ⟨x,H1,I1,r1,q1⟩=>?_
 obtain⟨z,e,q⟩:=q1
 subst e
 obtain⟨t,rfl⟩:=r1
 have fp:∀ b∈[s1.heap.objs.size],zbg X pins H1 b:=fun b hb=>by
  have e:b=s1.heap.objs.size:=by simpa using hb
  subst e
  exact I1.fpOk (Nat.le_refl _) (I1.hok.fresh (Nat.le_refl _))
 cases ha:z.cps.all (· < 128) with
 | true =>
  refine wpAny_pyIter_ascii ha ?_
  exact⟨s1.heap.objs.size,[s1.heap.objs.size],_,_,H1,rfl,I1.kept (t':=s1.toks) fun b o e=>Heap.get?_push_of_some _ e,zg1 (.inl rfl) _ z t,⟨_,Heap.get?_push_size _ rfl,rfl,rfl⟩,fp,q⟩
 | false =>
  refine wpAny_pyIter_wide ha ?_
  exact⟨s1.heap.objs.size,[s1.heap.objs.size],_,_,H1,rfl,I1.kept (t':=s1.toks) fun b o e=>Heap.get?_push_of_some _ e,zg1 (.inr rfl) _ z t,⟨_,Heap.get?_push_size _ rfl,rfl,rfl⟩,fp,q⟩
theorem zgb (hc:X.calm=true):zcV X (.builtin "all") (fun xs H Q=>∃(p:Addr) (bs:List Bool),xs=[.ref p]∧SqL X.K H p (bs.map V.bl)∧Q (.bl (bs.all id)) H):=by
 intro pins s σ H xs us Q I r h
 obtain⟨p,bs,rfl,hq,q⟩:=h
 obtain⟨u,rfl,rx⟩:=zeJ r
 cases rx
 obtain⟨its,rv,pl,hz⟩:=I.list hq
 have hl:=rv.length
 rw[List.length_map]at hl
 have hp:p < s.heap.objs.size:=by
  obtain⟨o,ho,_⟩:=pl.isList
  exact Heap.lt_size ho
 have hne:p≠s.heap.objs.size:=Nat.ne_of_lt hp
 refine call_all_walk (wpAny_pyIter_list pl.isList ?_)
 refine⟨s.heap.objs.size,[s.heap.objs.size,p],[s.heap.objs.size],its.toArray.size,_,_,fun i=>bs.getD i true,rfl,Walks.list (show X.A.in1.handled=none from I.ok.hd hc) _ p hne its.toArray,⟨⟨_,Heap.get?_push_size _ rfl,rfl,rfl⟩,pl.isList.push _⟩,?_,fun h' tk hk=>?_⟩
 ·intro i v s' Q' E' hv hQ
  have hv':its[i]?=some v:=by simpa using hv
  have hi:i < its.length:=(List.getElem?_eq_some_iff.mp hv').1
  have hb:bs[i]?=some (bs.getD i true):=by
   rw[List.getD_eq_getElem?_getD,List.getElem?_eq_getElem (by omega)]
   rfl
  obtain⟨w',e1,e2⟩:=rv.get (i:=i) (x:=.bl (bs.getD i true)) (by rw[List.getElem?_map,hb];rfl)
  rw[hv']at e1
  cases e1
  cases (show v=Value.bool _ from e2)
  exact wpAny_truthy_bool hQ
 ·have e:(List.range its.toArray.size).all (fun i=>bs.getD i true)=bs.all id:=by
   rw[Bool.eq_iff_iff,List.all_eq_true,List.all_eq_true]
   constructor
   ·intro h x hx
    obtain⟨i,hi,rfl⟩:=List.mem_iff_getElem.mp hx
    have:=h i (List.mem_range.mpr (by simp only[List.size_toArray];omega))
    rw[List.getD_eq_getElem?_getD,List.getElem?_eq_getElem hi]at this
    exact this
   ·intro h i hi
    have hi':i < bs.length:=by have:=List.mem_range.mp hi;simp only[List.size_toArray]at this;omega
    rw[List.getD_eq_getElem?_getD,List.getElem?_eq_getElem hi']
    exact h _ (List.getElem_mem hi')
  refine⟨.bl (bs.all id),H,I.kept (t':=tk) fun b o eb=>hk b o ?_ (Heap.get?_push_of_some _ eb),congrArg Value.bool e,q⟩
  intro hm
  have:b=s.heap.objs.size:=by simpa using hm
  exact absurd (Heap.lt_size eb) (by rw[this];exact Nat.lt_irrefl _)
end
structure Clo (X:Cx) (scope:Scope) (cl:List (Str × Addr)):Prop where
 eq:closureFor scope X.env=pure cl
 sub:∀ y c,cl.lookup y=some c→X.env.cells.lookup y=some c
 has:∀ y,((relabel scope X.env).names.lookup y=some .cell∨(relabel scope X.env).names.lookup y=some .free)→∃ c,cl.lookup y=some c
theorem zcD {X:Cx} {scope:Scope} (hfree:∀ x∈scope.names,x.2≠.free) (hcell:∀ x∈scope.names,x.2≠.cell):Clo X scope []:=by
 refine⟨closureFor_none hfree,fun y c h=>by simp at h,fun y h=>?_⟩
 have e:(relabel scope X.env).names=scope.names:=by
  unfold relabel
  refine map_eq_self (fun x hx=>?_)
  obtain⟨n,k⟩:=x
  have:(k == NameKind.free)=false:=by simpa using hfree _ hx
  simp [this]
 rw[e]at h
 rcases h with h | h
 ·exact absurd rfl (hcell _ (PySem.mem_of_lookup h))
 ·exact absurd rfl (hfree _ (PySem.mem_of_lookup h))
def zav (X:Cx) (N':List Str) (scope:Scope) (cl:List (Str × Addr)) (fp:List Addr) (s₃:Shared) (H₃:Hp):Cx where
 prog:=X.prog
 w:=X.w
 K:=X.K
 mg:=X.mg
 base:=X.base
 A:=X.A
 N:=N'
 s₀:=s₃
 H₀:=H₃
 env:=compEnvC scope cl s₃.heap.objs.size X.env
 outer:=X.stack
 stack:=X.stack
 ex:=fp
 calm:=X.calm
 fn:=fun _=>false
 pn:=[]
 xe:=fun _ _=>False
def fvs (σ:St) (ix:List Nat):St:=ix.map fun i=>(σ[i]?).join
def tLC (wi:TI) (ix:List Nat) (te:TE):TE:=fun σ H Q=>wi σ H fun J H1=>∀ D,H1 D=none →
 ∃ W:Nat→Nat→List V→Hp→Prop,(∃ m,W 0 m [] (upd H1 D (.lst []))) ∧
  ∀ i m ys H',W i m ys H'→H' D=some (.lst ys) ∧
   ((J.stop i H'∧Q (.ref D) H')∨(J.go i H'∧∀ x H'',J.yld i H' x H''→te (some x :: fvs σ ix) H'' fun y H3 =>
    H3 D=some (.lst ys)∧ys.length < sizeLine∧∃ m',m' < m∧W (i+1) m' (ys++[y]) (upd H3 D (.lst (ys++[y])))))
theorem zcI {prog:Program} {w:World} {A:Around} {R:Result→Shared→Prop} {s:Shared} {elt target iter:Expr} {scope:Scope} {pos:Pos} {it acc:Value} {env:Env} (I:Nat→Shared→Prop)
  (turn:∀ n s,I n s→wpAny (model prog w) A (pyNext it) (fun r s₁=>match r with
   | none=>R (.ok .next) s₁
   | some v=>wpAny (model prog w) A (letOwnedTupleGo target it v) (fun _ s₁'=>wpAny (model prog w) A (assign target env v) (fun _ s₂=>wpAny (model prog w) A (eval elt env) (fun x s₃ =>
     wpAny (model prog w) A (call (.builtin "list.append") [acc,x]) (fun _ s₄=>∃ m,m < n∧I m s₄) (notedBy (model prog w) A env fun e s'=>R (.error e) s') s₃)
     (notedBy (model prog w) A env fun e s'=>R (.error e) s') s₂) (notedBy (model prog w) A env fun e s'=>R (.error e) s') s₁') (notedBy (model prog w) A env fun e s'=>R (.error e) s') s₁) (notedBy (model prog w) A env fun e s'=>R (.error e) s') s)
  (n:Nat) (h:I n s) :
  codeAny (model prog w) A (.compLoop (.ListComp elt [⟨target,iter,[],0⟩] scope pos) 0 it acc env) R s:=by
 refine codeAny_loop rfl I (fun n s hI=>?_) n h
 show wpAny _ _ ((compTurn (.ListComp elt [⟨target,iter,[],0⟩] scope pos) 0 it acc env).onRaise (fun x=>do noteFrame x env;theTreesLotGoes x)) _ _ s
 refine wpAny_noted ?_
 rw[compTurn_list1]
 refine wpAny_bind (wpAny_standAt (wpAny_bind (wpAny_mono (turn n s hI) (fun r s₁ h₁=>?_) fun _ _ h'=>h')))
 cases r with
 | none=>exact wpAny_pure h₁
 | some v =>
  refine wpAny_bind (wpAny_mono h₁ (fun _ s₁' h₁'=>?_) fun _ _ h'=>h')
  exact wpAny_bind (wpAny_mono h₁' (fun _ s₂ h₂=>wpAny_bind (wpAny_bind (wpAny_mono h₂ (fun x s₃ h₃=>wpAny_bind (wpAny_mono h₃
   (fun _ s₄ h₄=>wpAny_pure (wpAny_pure ⟨rfl,h₄⟩)) fun _ _ h'=>h')) fun _ _ h'=>h'))) fun _ _ h'=>h')
section
variable {X:Cx} {N':List Str} {scope:Scope} {cl:List (Str × Addr)} {fp:List Addr} {pins:List (Addr × Obj)} {σ:St} {H:Hp} {s:Shared}
theorem zcy (I:Inv X pins σ H s) (C:Clo X scope cl) (hkind:scope.kind=.function) (hf:∀ b∈fp,zbg X pins H b) (hlt:∀ b∈fp,b < s.heap.objs.size):(zav X N' scope cl fp s H).Ok where
 mod:=I.ok.mod
 kind:=hkind
 glob:=I.ok.glob
 blt:=I.ok.blt
 above:=Nat.le_refl _
 inj:=fun x y c h1 h2=>I.ok.inj x y c (C.sub x c h1) (C.sub y c h2)
 has:=fun x h=>C.has x h
 cab:=fun x c h=>by cases (show false=true from h)
 hd:=I.ok.hd
 frames:=I.ok.frames
 stk:=.inl rfl
 exf:=fun b hb=>⟨Nat.ne_of_lt (hlt b hb),fun x c h=>(hf b hb).2.2.2.2.1 x c (C.sub x c h)⟩
 bs:=fun b o h=>I.bs b o h
 bsz:=Nat.le_trans I.ok.bsz I.sz
 noex:=fun b o h hb=>by
  rcases(hf b hb).2.2.2.1 with z | z
  ·exact I.ok.noex b o h z
  ·exact absurd (Nat.lt_of_lt_of_le (Heap.lt_size h) (Nat.le_trans I.ok.bsz z)) (Nat.lt_irrefl _)
 exfs:=fun b hb hs=>by
  rcases List.mem_cons.mp (I.stkSub b hs) with z | z
  ·exact(hf b hb).2.1 z
  ·exact(hf b hb).2.2.1 z
 funs:=I.stack
 frf:=I.stkFree
theorem zej {ix:List Nat} {h₁:Heap} {t':Nat} {m:Str→Option Value} (I:Inv X pins σ H s) (C:Clo X scope cl) (hkind:scope.kind=.function) (hf:∀ b∈fp,zbg X pins H b) (hlt:∀ b∈fp,b < s.heap.objs.size)
  (hlen:N'.length=ix.length+1) (hix:∀(j i:Nat),ix[j]?=some i→∃ y,X.N[i]?=some y∧N'[j+1]?=some y∧(X.env.kindOf y=some .cell∨X.env.kindOf y=some .free)∧((relabel scope X.env).names.lookup y=some .cell∨(relabel scope X.env).names.lookup y=some .free))
  (hn:h₁.Ns s.heap.objs.size m) (hk:∀ b o,s.heap.get? b=some o→h₁.get? b=some o):Inv (zav X N' scope cl fp s H) [] (none :: fvs σ ix) H { s with heap:=h₁,toks:=t' }:=by
 have cellK:∀ x c,cl.lookup x=some c→∃ v,h₁.IsCell c v:=fun x c h=>by
  obtain⟨v,o,ho,hd⟩:=I.cell x c (C.sub x c h)
  exact⟨v,o,hk c o ho,hd⟩
 refine⟨zcy I C hkind hf hlt,rfl,I.bare,Un.kept hk,⟨m,hn,fun i y v h1 h2 h3=>?_⟩,cellK,I.hok.fresh (Nat.le_refl _),fun x c h=>I.freeC x c (C.sub x c h),fun p hp=>absurd (show p∈([]:List (Addr × Obj)) from hp) (by simp),I.hok.kept hk,?_⟩
 ·cases i with
  | zero=>cases (show some (none:Option V)=some (some v) from h2)
  | succ j =>
   have h2':(fvs σ ix)[j]?=some (some v):=h2
   unfold fvs at h2'
   rw[List.getElem?_map]at h2'
   cases e:ix[j]? with
   | none=>rw[e]at h2';cases h2'
   | some i =>
    rw[e]at h2'
    have h4:(σ[i]?).join=some v:=Option.some.inj h2'
    have h5:σ[i]?=some (some v):=by
     cases e':σ[i]? with
     | none=>rw[e']at h4;cases h4
     | some q =>
      rw[e']at h4
      have h6:q=some v:=h4
      rw[h6]
    obtain⟨y',n1,n2,k1,k2⟩:=hix j i e
    have ey:y'=y:=Option.some.inj (n2.symm.trans h1)
    subst ey
    obtain⟨m0,hn0,hl0⟩:=I.loc
    have hv0:Vis X.env.scope y':=k1.elim (fun z=>.inr (.inl z)) fun z=>.inr (.inr z)
    obtain⟨u,ru,l⟩:=hl0 i y' v n1 h5 hv0
    refine⟨u,ru,.inr ⟨k2,?_⟩⟩
    rcases l with ⟨k,_⟩ | ⟨_,c,ec,o,ho,hd⟩
    ·rcases k1 with z | z
     ·rw[z]at k;cases k
     ·rw[z]at k;cases k
    ·obtain⟨c',ec'⟩:=C.has y' k2
     have:c'=c:=Option.some.inj ((C.sub _ _ ec').symm.trans ec)
     subst this
     exact⟨c',ec',o,hk c' o ho,hd⟩
 ·show(none :: fvs σ ix:St).length=N'.length
  rw[hlen]
  simp [fvs]
theorem zd5 {σ':St} {H':Hp} {s':Shared} {h':Heap} (I:Inv X pins σ H s) (J:Inv (zav X N' scope cl fp s H) [] σ' H' s') (hf:∀ b∈fp,zbg X pins H b) (hs:Heap.SameBut s.heap.objs.size s'.heap h'):Inv X pins σ H' { s' with heap:=h' }:=by
 have ne:∀ b o,s.heap.get? b=some o→b≠s.heap.objs.size:=fun b o e=>Nat.ne_of_lt (Heap.lt_size e)
 have eq:∀ b,b≠s.heap.objs.size→h'.get? b=s'.heap.get? b:=fun b hb=>hs.2 b hb
 have B:=J.base
 have u:Un (frs X.stack) fp H H' s.heap h' :=
  ⟨fun b o e n h1 h2=>(eq b (ne b o e)).trans (B.keep b o e n h1 h2),fun b o e n h1 h2=>by
   obtain⟨sl,q⟩:=B.slot b o e n h1 h2
   exact⟨sl,(eq b (ne b o e)).trans q⟩,fun b o e n h1=>B.free b o e n h1,fun b o e h1=>by
   obtain⟨o',q⟩:=B.there b o e h1
   exact⟨o',(eq b (ne b o e)).trans q⟩,B.tups,B.frzs,B.tbls⟩
 have hfree:H' s.heap.objs.size=none:=J.free
 have hok:HOk X.prog X.w H' h':=fun b ob e=>by
  refine(J.hok b ob e).stay (fun c w' hc q=>(eq c ?_).trans q) (fun _ q=>q) fun _ _ q=>q
  rintro rfl
  rcases hc with z | z
  ·rw[←z,hfree]at e;cases e
  ·rw[hfree]at z;cases z
 exact I.call' (s':={ s' with heap:=h' }) (ch:=fp) J.os u hok J.bare fun b hb=>⟨(hf b hb).2.2.2.1,(hf b hb).2.1,(hf b hb).2.2.2.2.1,(hf b hb).2.2.2.2.2⟩
end
section
variable {X:Cx} {N':List Str} {scope:Scope} {elt iter:Expr} {x:Str} {px pos:Pos} {wi:TI} {te:TE} {ix:List Nat}
theorem zbP (hc:X.calm=true) (hkind:scope.kind=.function) (hcell:∀ y∈scope.names,y.2≠.cell) (hnames:∀ y∈scope.names,y.2=.local→scope.names.lookup y.1=some .local) (hx:scope.names.lookup x=some .local)
  (hclo:X.Ok→∃ cl,Clo X scope cl) (hN:N'.Nodup) (hN0:N'[0]?=some x) (hlen:N'.length=ix.length+1)
  (hix:∀(j i:Nat),ix[j]?=some i→∃ y,X.N[i]?=some y∧N'[j+1]?=some y∧(X.env.kindOf y=some .cell∨X.env.kindOf y=some .free)∧((relabel scope X.env).names.lookup y=some .cell∨(relabel scope X.env).names.lookup y=some .free))
  (hi:PI X (.Name x px) iter wi) (he:∀ cl fp s₃ H₃,PE (zav X N' scope cl fp s₃ H₃) elt te) (hs:∀ v,foldedSetIterable iter X.env v=pure v:=by intro _;rfl) :
  PE X (.ListComp elt [⟨.Name x px,iter,[],0⟩] scope pos) (tLC wi ix te):=by
 intro pins s σ H Q I h
 obtain⟨cl,C⟩:=hclo I.ok
 rw[eval_ListComp]
 refine wpAny_comprehension_free (use:=none) rfl hs C.eq hkind hnames (thn (hi pins s σ H _ I h) fun v s1 h1=>thn h1 fun itv s2 h2=>?_)
 obtain⟨it,fp,tn,J,H2,e,I2,T,st2,f2,q2⟩:=h2
 subst e
 have hD:H2 s2.heap.objs.size=none:=I2.fresh
 obtain⟨W,⟨m0,w0⟩,turn⟩:=q2 s2.heap.objs.size hD
 refine wpAny_newObj_type (wpAny_newFunctionEnv hcell (by intro y hy;simp at hy) (fun h₁ hns₁ hsb₁=>?_) hkind)
 dsimp only at hns₁ hsb₁ ⊢
 have I3:Inv X pins σ (upd H2 s2.heap.objs.size (.lst [])) { s2 with heap:=s2.heap.push { cls:=.type "list",data:=.seq ([]:List Value).toArray },toks:=s2.toks }:=I2.lnew .nil (Nat.zero_le _)
 generalize hs3:({ s2 with heap:=s2.heap.push { cls:=.type "list",data:=.seq ([]:List Value).toArray },toks:=s2.toks }:Shared)=s3 at I3
 have e3:s3.heap=s2.heap.push { cls:=.type "list",data:=.seq ([]:List Value).toArray }:=by rw[←hs3]
 generalize hDD:s2.heap.objs.size=D at *
 generalize hH3:upd H2 D (.lst [])=H3 at *
 have lt2:∀ b∈fp,b < s2.heap.objs.size:=fun b hb=>by
  obtain⟨o,ho,_⟩:=T.obj 0 _ st2 b hb
  exact Heap.lt_size ho
 have neD:∀ b∈fp,b≠D:=fun b hb=>by rw[←hDD];exact Nat.ne_of_lt (lt2 b hb)
 have f3:∀ b∈fp,zbg X pins H3 b:=fun b hb=>⟨by rw[←hH3,au (neD b hb)];exact(f2 b hb).1,(f2 b hb).2⟩
 have sz3:s3.heap.objs.size=D+1:=by rw[e3,Heap.size_push,hDD]
 have lt3:∀ b∈fp,b < s3.heap.objs.size:=fun b hb=>by have q:=lt2 b hb;rw[sz3];rw[hDD]at q;exact Nat.lt_succ_of_lt q
 have old:∀ b o,s3.heap.get? b=some o→h₁.get? b=some o:=fun b o eb=>by
  have hb:b < D+1:=by rw[←sz3];exact Heap.lt_size eb
  refine hsb₁.extBut b o ?_ (Heap.get?_push_of_some _ (by rw[←e3];exact eb))
  rw[Heap.size_push,hDD]
  exact Nat.ne_of_lt hb
 have szC:(s2.heap.push { cls:=.type "list",data:=.seq ([]:List Value).toArray }).objs.size=s3.heap.objs.size:=by rw[e3]
 have os3:s3.os=s2.os:=by rw[←hs3]
 rw[szC]at hns₁ hsb₁
 have I4:Inv (zav X N' scope cl fp s3 H3) [] (none :: fvs σ ix) H3 { s3 with heap:=h₁,toks:=s2.toks+([]:List (Str × Value)).length }:=zej I3 C hkind f3 lt3 hlen hix hns₁ old
 have st4:tn 0 h₁:=T.keep 0 _ _ st2 fun b hb o eb=>old b o (by rw[e3];exact Heap.get?_push_of_some _ eb)
 have stat:∀ {H':Hp},(∀ b∈fp,H' b=none)→∀ b∈fp,zbg (zav X N' scope cl fp s3 H3) [] H' b:=fun hn b hb =>
  ⟨hn b hb,Nat.ne_of_lt (lt3 b hb),fun hs'=>(zcy (N':=N') I3 C hkind f3 lt3).exfs b hb hs',.inl hb,fun y c hy=>((zcy (N':=N') I3 C hkind f3 lt3).exf b hb).2 y c hy,fun p hp=>absurd (show p∈([]:List (Addr × Obj)) from hp) (by simp)⟩
 have loop:∀ s4:Shared,s4={ s3 with heap:=h₁,toks:=s2.toks+([]:List (Str × Value)).length } →
   codeAny (model X.prog X.w) X.A (.compLoop (.ListComp elt [⟨.Name x px,iter,[],0⟩] scope pos) 0 (.ref it) (.ref D) (compEnvC scope cl s3.heap.objs.size X.env))
    (compPost (model X.prog X.w) X.A X.xe none (EP X pins σ Q) (.ref D) s3.heap.objs.size) s4:=by
  rintro s4 rfl
  refine zcI (fun n s'=>∃ i σ0 H' ys,Inv (zav X N' scope cl fp s3 H3) [] (σ0 :: fvs σ ix) H' s'∧tn i s'.heap∧(∀ b∈fp,H' b=none)∧W i n ys H') ?_ m0 ⟨0,none,H3,[],I4,st4,fun b hb=>(f3 b hb).1,w0⟩
  rintro n s5 ⟨i,σ0,H5,ys,I5,st5,fr5,w5⟩
  obtain⟨hD5,alt⟩:=turn i n ys H5 w5
  rcases alt with ⟨stop,q⟩ | ⟨go,step⟩
  ·refine thn (T.done (zav X N' scope cl fp s3 H3) rfl rfl rfl hc i [] s5 _ H5 _ I5 (stat fr5) st5 stop) fun r s6 ⟨hr,I6⟩=>?_
   subst hr
   obtain⟨m,hn,_⟩:=I6.loc
   exact⟨m,hn,fun h' hsb=>⟨.ref D,H5,zd5 I3 I6 f3 hsb,rfl,q⟩⟩
  ·refine thn (T.item (zav X N' scope cl fp s3 H3) rfl rfl rfl hc i [] s5 _ H5 _ I5 (stat fr5) st5 go) fun r s6 ⟨u,hr,h6⟩=>?_
   subst hr
   refine thn h6 fun _ s7 ⟨y7,H7,I7,r7,yl7,st7,fr7⟩=>?_
   have I7':=I7.pinned (stat fr7) (T.obj _ _ st7)
   have G:PG (zav X N' scope cl fp s3 H3) (.Name x px) (zdk 0):=zaP hN hN0 (.inl (lookup_relabel_local hx)) (.inr (lookup_relabel_local hx))
   refine wpAny_mono (G _ s7 _ H7 y7 u (fun σ' H'=>σ'=some y7 :: fvs σ ix∧H'=H7) I7' r7 ⟨rfl,rfl⟩) (fun _ s8 h8=>?_) fun _ _ f=>False.elim f
   obtain⟨σ8,H8,I8,rfl,rfl⟩:=h8
   refine wpAny_mono (he cl fp s3 H3 _ s8 _ H8 _ I8 (step y7 H8 yl7)) (fun yv s9 h9=>?_) fun _ _ f=>False.elim f
   obtain⟨y9,H9,I9,r9,hD9,hl9,m',hm',w9⟩:=h9
   refine wpAny_mono (zaK (X:=zav X N' scope cl fp s3 H3) _ s9 _ H9 (.ref D) [y9] (.ref D) [yv] (fun _ H'=>H'=upd H9 D (.lst (ys++[y9]))) I9 rfl (.cons r9 .nil) ⟨D,ys,y9,rfl,rfl,hD9,hl9,rfl⟩) (fun _ s10 h10=>?_) fun _ _ f=>False.elim f
   obtain⟨_,H10,I10,_,rfl⟩:=h10
   refine⟨m',hm',i+1,some y7,_,ys++[y9],I10.unpinned,T.keep _ _ _ st7 fun b hb o eb=>(I10.pin (b,o) (List.mem_append_right _ (List.mem_append_right _ (za1 hb eb)))).1,fun b hb=>?_,w9⟩
   obtain⟨o,eb,d⟩:=T.obj _ _ st7 b hb
   exact(I10.pin (b,o) (List.mem_append_right _ (List.mem_append_right _ (za1 hb eb)))).2.1
 subst hs3
 have fin:=codeAny_compStart_list (loop _ rfl) (T.self X.A 0 _ _ _ st4 (loop _ rfl))
 exact fin
end
end L2
namespace L2
open PySem PySem.Spec PyProof.Rows
section
variable {X:Cx} {e l:Expr} {es:List Expr} {te tl:TE} {pos:Pos} {tg:Expr}
def tFmt (te:TE):TE:=fun σ H Q=>te σ H fun x H1=>(∃ z,x=.str z∧z.length≤sizeLine∧Q (.str z) H1)∨∃ i:Int,x=.int i∧i.natAbs.log2 < 1920∧Q (.str (toString i)) H1
theorem zdS (he:PE X e te):PE X (.FormattedValue e (-1) none pos) (tFmt te):=by
 intro pins s σ H Q I h
 refine FormattedValue_plain (thn (he pins s σ H _ I h) fun v s1 ⟨x,H1,I1,r1,q1⟩=>?_)
 rcases q1 with ⟨z,rfl,hz,q⟩ | ⟨i,rfl,hi,q⟩
 ·obtain⟨t,rfl⟩:=r1
  exact formatField_str (fun t' tk=>⟨.str z,H1,I1.tok _,⟨_,rfl⟩,q⟩) hz
 ·obtain⟨t,rfl⟩:=r1
  exact formatField_int_small hi ⟨.str _,H1,I1.tok _,⟨_,rfl⟩,q⟩
def tRepr (te:TE):TE:=fun σ H Q=>te σ H fun x H1=>∃ z,x=.str z∧(reprText z).length≤sizeLine∧Q (.str (reprText z)) H1
theorem pe_fvr (he:PE X e te):PE X (.FormattedValue e 114 none pos) (tRepr te):=by
 intro pins s σ H Q I h
 refine wpAny_FormattedValue_repr (thn (he pins s σ H _ I h) fun v s1 ⟨x,H1,I1,r1,q1⟩=>?_)
 obtain⟨z,rfl,hz,q⟩:=q1
 obtain⟨t,rfl⟩:=r1
 refine wpAny_pyReprObj_str ?_ hz
 exact formatField_str (fun t' tk=>⟨.str (reprText z),H1,I1.tok _,⟨_,rfl⟩,q⟩) hz
abbrev TJ:=St→Hp→Str→(Str→Hp→Prop)→Prop
def PJ (X:Cx) (es:List Expr) (t:TJ):Prop :=
 ∀(pins:List (Addr × Obj)) (s:Shared) (σ:St) (H:Hp) (acc:Str) (Q:Str→Hp→Prop) (R:Str→Shared→Prop),Inv X pins σ H s→t σ H acc Q→(∀ out s1 H1,Inv X pins σ H1 s1→Q out H1→R out s1)→Joins (model X.prog X.w) X.A X.xe (evalEach es X.env) acc R s
def jNil:TJ:=fun _ H acc Q=>Q acc H
def jCons (te:TE) (t:TJ):TJ:=fun σ H acc Q=>te σ H fun x H1=>∃ y,x=.str y∧(acc++y).length≤sizeLine∧t σ H1 (acc++y) Q
theorem zc4:PJ X [] jNil:=fun _ _ _ _ _ _ _ I h k=>k _ _ _ I h
theorem zaN {t:TJ} (he:PE X e te) (hr:PJ X es t):PJ X (e :: es) (jCons te t):=by
 intro pins s σ H acc Q R I h k
 refine thn (he pins s σ H _ I h) fun v s1 ⟨x,H1,I1,r1,q1⟩=>?_
 obtain⟨y,rfl,hz,q⟩:=q1
 obtain⟨t,rfl⟩:=r1
 exact⟨y,_,rfl,hz,hr pins s1 σ H1 _ Q R I1 q k⟩
def zkS (t:TJ):TE:=fun σ H Q=>t σ H Str.empty fun out H1=>out.length≤sizeLine∧Q (.str out) H1
theorem zbT {v1 v2:Expr} {t:TJ} (h:PJ X (v1 :: v2 :: es) t):PE X (.JoinedStr (v1 :: v2 :: es) pos) (zkS t):=by
 intro pins s σ H Q I hw
 exact wpAny_JoinedStr (h pins s σ H _ _ _ I hw fun out s1 H1 I1 q=>⟨q.1,.str out,H1,I1.tok _,⟨_,rfl⟩,q.2⟩)
def iSeq (K:W.Frag) (tl:TE):TI:=fun σ H R=>tl σ H fun x H1=>∃ a,x=.ref a∧(((∃ xs,SqL K H1 a xs)∧R (Itl K a) H1)∨((∃ xs,SqT K H1 a xs)∧R (Itt K a) H1))
theorem zgT (hl:PE X l tl):PI X tg l (iSeq X.K tl):=by
 intro pins s σ H R I h
 refine thn (hl pins s σ H _ I h) fun v s1 ⟨x,H1,I1,r1,q1⟩=>?_
 obtain⟨a,rfl,q⟩:=q1
 cases r1
 have fp:∀ b∈[s1.heap.objs.size],zbg X pins H1 b:=fun b hb=>by
  have e:b=s1.heap.objs.size:=by simpa using hb
  subst e
  exact I1.fpOk (Nat.le_refl _) (I1.hok.fresh (Nat.le_refl _))
 rcases q with ⟨⟨xs,hq⟩,q⟩ | ⟨⟨xs,hq⟩,q⟩
 ·obtain⟨its,rv,p,hz⟩:=I1.list hq
  refine wpAny_pyIter_list p.isList ?_
  exact⟨s1.heap.objs.size,[s1.heap.objs.size],_,_,H1,rfl,I1.kept (t':=s1.toks) fun b o e=>Heap.get?_push_of_some _ e,zge a _,⟨_,Heap.get?_push_size _ rfl,rfl,rfl⟩,fp,q⟩
 ·obtain⟨its,rv,p,hz⟩:=I1.tuple hq
  refine wpAny_pyIter_tuple (show s1.heap.IsTuple a its.toArray from p) ?_
  exact⟨s1.heap.objs.size,[s1.heap.objs.size],_,_,H1,rfl,I1.kept (t':=s1.toks) fun b o e=>Heap.get?_push_of_some _ e,zfw a _,⟨_,Heap.get?_push_size _ rfl,rfl,rfl⟩,fp,q⟩
end
theorem zd6 {env:Env}:∀(l:List (Str × NameKind)) (acc:List (Str × Addr)),(∀ y∈l,y.2=.free→∃ c,env.cells.lookup y.1=some c) →
  ∃ cl,(forIn l acc (fun(y:Str × NameKind) cs=>if(y.2 == NameKind.free)=true then do let c ←cellOf env y.1;pure (ForInStep.yield ((y.1,c) :: cs)) else pure (ForInStep.yield cs)):Sem (List (Str × Addr)))=pure cl ∧
   (∀ y c,cl.lookup y=some c→acc.lookup y=some c∨env.cells.lookup y=some c)∧∀ y,((y,NameKind.free)∈l∨∃ c,acc.lookup y=some c)→∃ c,cl.lookup y=some c
 | [],acc,_=>⟨acc,rfl,fun _ _ h=>.inl h,fun y h=>h.elim (fun z=>by cases z) fun z=>z⟩
 | (n,k) :: r,acc,hf=>by
  by_cases hk:k=.free
  ·subst hk
   obtain⟨c,hc⟩:=hf (n,.free) List.mem_cons_self rfl
   obtain⟨cl,e1,e2,e3⟩:=zd6 r ((n,c) :: acc) fun y hy=>hf y (List.mem_cons_of_mem _ hy)
   refine⟨cl,?_,fun y d h=>?_,fun y h=>?_⟩
   ·rw[List.forIn_cons]
    have ec:cellOf env n=pure c:=by unfold cellOf;rw[show env.cells.lookup n=some c from hc]
    have eb:(NameKind.free == NameKind.free)=true:=rfl
    simp only[eb,if_true,ec,pure_bind]
    exact e1
   ·rcases e2 y d h with z | z
    ·by_cases hy:y=n
     ·subst hy
      rw[List.lookup_cons,beq_self_eq_true]at z
      cases z
      exact .inr hc
     ·rw[List.lookup_cons,beq_eq_false_iff_ne.mpr hy]at z
      exact .inl z
    ·exact .inr z
   ·refine e3 y ?_
    by_cases hy:y=n
    ·subst hy
     exact .inr ⟨c,by rw[List.lookup_cons,beq_self_eq_true]⟩
    ·rcases h with z | ⟨d,z⟩
     ·rcases List.mem_cons.mp z with z | z
      ·exact absurd (congrArg Prod.fst z) hy
      ·exact .inl z
     ·exact .inr ⟨d,by rw[List.lookup_cons,beq_eq_false_iff_ne.mpr hy];exact z⟩
  ·obtain⟨cl,e1,e2,e3⟩:=zd6 r acc fun y hy=>hf y (List.mem_cons_of_mem _ hy)
   refine⟨cl,?_,e2,fun y h=>e3 y ?_⟩
   ·rw[List.forIn_cons]
    have hb:(k == NameKind.free)=false:=by simpa using hk
    simp only[hb,Bool.false_eq_true,if_false,pure_bind]
    exact e1
   ·rcases h with z | z
    ·rcases List.mem_cons.mp z with z | z
     ·exact absurd (congrArg Prod.snd z).symm hk
     ·exact .inl z
    ·exact .inr z
theorem zb4 {X:Cx} {scope sc:Scope} (ok:X.Ok) (hsc:X.env.scope=sc) (hcell:∀ x∈scope.names,x.2≠.cell)
  (hf:∀ y∈scope.names,y.2=.free→sc.names.lookup y.1=some .cell∨sc.names.lookup y.1=some .free):∃ cl,Clo X scope cl:=by
 obtain⟨cl,e1,e2,e3⟩:=zd6 (env:=X.env) scope.names [] fun y hy h=>ok.has y.1 (by
  show X.env.scope.names.lookup y.1=_∨X.env.scope.names.lookup y.1=_
  rw[hsc]
  exact hf y hy h)
 refine⟨cl,?_,fun y c h=>(e2 y c h).elim (fun z=>by cases z) fun z=>z,fun y h=>e3 y (.inl ?_)⟩
 ·unfold closureFor
  have e0:(forIn scope.names ([]:List (Str × Addr)) (fun(x:Str × NameKind) cs=>match x with
    | (name,kind)=>if(kind == NameKind.free)=true then do let c ←cellOf X.env name;pure (ForInStep.yield ((name,c) :: cs)) else pure (ForInStep.yield cs)):Sem (List (Str × Addr)))=pure cl:=e1
  show(forIn scope.names ([]:List (Str × Addr)) _ >>= fun z=>pure z)=pure cl
  rw[bind_pure]
  exact e0
 ·have m:∃ k,(k=.cell∨k=.free)∧(y,k)∈(relabel scope X.env).names:=by
   rcases h with h | h
   ·exact⟨_,.inl rfl,PySem.mem_of_lookup h⟩
   ·exact⟨_,.inr rfl,PySem.mem_of_lookup h⟩
  obtain⟨k,hk,hm⟩:=m
  unfold relabel at hm
  obtain⟨⟨n0,k0⟩,h0,ez⟩:=List.mem_map.mp hm
  by_cases hc:(k0 == NameKind.free&&X.env.scope.kind == .function&&X.env.kindOf n0 == some .cell)=true
  ·dsimp only at ez
   rw[if_pos hc]at ez
   have en:n0=y:=congrArg Prod.fst ez
   have ef:k0=.free:=by
    rw[Bool.and_eq_true,Bool.and_eq_true]at hc
    simpa using hc.1.1
   rw[en,ef]at h0
   exact h0
  ·dsimp only at ez
   rw[if_neg hc]at ez
   have en:n0=y:=congrArg Prod.fst ez
   have ek:k0=k:=congrArg Prod.snd ez
   rw[en,ek]at h0
   rcases hk with z | z
   ·exact absurd z (hcell _ h0)
   ·rw[z]at h0
    exact h0
section
variable {X:Cx} {N':List Str} {scope:Scope} {elt iter c:Expr} {x:Str} {px pos:Pos} {wi:TI} {tc:TT} {te:TE} {ix:List Nat}
end
end L2
namespace L2
open PySem PySem.Spec PyProof.Rows
theorem Inv.skip {X:Cx} {pins:List (Addr × Obj)} {σ:St} {H:Hp} {s:Shared} {h':Heap} {C:Addr} (I:Inv X pins σ H s) (hs:Heap.SameBut C s.heap h') (hC:X.s₀.heap.objs.size≤C) (hl:C≠X.env.locals) (hcl:∀ x c,X.env.cells.lookup x=some c→c≠C) (hp:∀ p∈X.pn++pins,p.1≠C) (hf:H C=none) :
  Inv X pins σ H { s with heap:=h' }:=by
 have eq:∀ b,b≠C→h'.get? b=s.heap.get? b:=fun b hb=>hs.2 b hb
 have nm:∀ {b:Addr},b∉[C]→b≠C:=fun h z=>h (by rw[z];exact List.mem_cons_self)
 have u:Un (frs X.stack) [C] H H s.heap h':=⟨fun b o e _ _ h2=>(eq b (nm h2)).trans e,fun b o e _ _ h2=>⟨o.slots,(eq b (nm h2)).trans e⟩,fun b o e n _=>n,fun b o e h1=>⟨o,(eq b (nm h1)).trans e⟩,fun _ _ q=>q,fun _ _ _ q=>q,fun _ ps q=>⟨#[],by rw[q];simp⟩⟩
 have hok:HOk X.prog X.w H h':=fun b ob e=>by
  refine(I.hok b ob e).stay (fun c w' hq q=>(eq c ?_).trans q) (fun _ q=>q) fun _ _ q=>q
  rintro rfl
  rcases hq with z | z
  ·rw[←z,hf]at e;cases e
  ·rw[hf]at z;cases z
 refine I.call' (s':={ s with heap:=h' }) (ch:=[C]) rfl u hok I.bare fun b hb=>?_
 have e:b=C:=List.mem_singleton.mp hb
 subst e
 exact⟨.inr hC,hl,hcl,hp⟩
section
variable {X:Cx} {N':List Str} {scope:Scope} {elt iter:Expr} {x:Str} {px pos:Pos} {wi:TI} {te:TE} {ix:List Nat}
theorem zke {i:Nat} {y0:Str} {py spos:Pos} (hNy:X.N.Nodup) (hiy:X.N[i]?=some y0) (hy:Loc X.env.scope y0) (hc:X.calm=true) (hkind:scope.kind=.function) (hcell:∀ y∈scope.names,y.2≠.cell) (hnames:∀ y∈scope.names,y.2=.local→scope.names.lookup y.1=some .local) (hx:scope.names.lookup x=some .local)
  (hclo:X.Ok→∃ cl,Clo X scope cl) (hN:N'.Nodup) (hN0:N'[0]?=some x) (hlen:N'.length=ix.length+1)
  (hix:∀(j i:Nat),ix[j]?=some i→∃ y,X.N[i]?=some y∧N'[j+1]?=some y∧(X.env.kindOf y=some .cell∨X.env.kindOf y=some .free)∧((relabel scope X.env).names.lookup y=some .cell∨(relabel scope X.env).names.lookup y=some .free))
  (hi:PI X (.Name x px) iter wi) (he:∀ cl fp s₃ H₃,PE (zav X N' scope cl fp s₃ H₃) elt te) (hsw:swapsWith (.ListComp elt [⟨.Name x px,iter,[],0⟩] scope pos) (some (.Name y0 py)) spos.line X.env=pure true:=by rfl)
  (hf:X.fn y0=true∨X.env.scope.names.lookup y0=some .local:=by first | exact .inl rfl | exact .inr rfl | assumption) (hs:∀ v,foldedSetIterable iter X.env v=pure v:=by intro _;rfl) :
  PS X (.Assign [.Name y0 py] (.ListComp elt [⟨.Name x px,iter,[],0⟩] scope pos) spos) (tAsg (tLC wi ix te) (zdk i)):=by
 intro pins s σ H Dn I h
 obtain⟨cl,C⟩:=hclo I.ok
 rw[exec_Assign_Name_used _ _ _ _ hsw]
 refine wpAny_bind (wpAny_standAt (wpAny_bind ?_))
 rw[arm_evalThenUse_ListComp]
 refine wpAny_bind (wpAny_mono (wpAny_comprehension_free (use:=some (assign (.Name y0 py) X.env)) (Q:=fun _ s'=>∃ σ' H',Inv X pins σ' H' s'∧Dn.nx σ' H') rfl hs C.eq hkind hnames (thn (hi pins s σ H _ I h) fun v s1 h1=>thn h1 fun itv s2 h2=>?_)) (fun _ s' h'=>wpAny_pure (wpAny_pure h')) fun _ _ z=>z)
 obtain⟨it,fp,tn,J,H2,e,I2,T,st2,f2,q2⟩:=h2
 subst e
 have hD:H2 s2.heap.objs.size=none:=I2.fresh
 obtain⟨W,⟨m0,w0⟩,turn⟩:=q2 s2.heap.objs.size hD
 refine wpAny_newObj_type (wpAny_newFunctionEnv hcell (by intro y hy;simp at hy) (fun h₁ hns₁ hsb₁=>?_) hkind)
 dsimp only at hns₁ hsb₁ ⊢
 have I3:Inv X pins σ (upd H2 s2.heap.objs.size (.lst [])) { s2 with heap:=s2.heap.push { cls:=.type "list",data:=.seq ([]:List Value).toArray },toks:=s2.toks }:=I2.lnew .nil (Nat.zero_le _)
 generalize hs3:({ s2 with heap:=s2.heap.push { cls:=.type "list",data:=.seq ([]:List Value).toArray },toks:=s2.toks }:Shared)=s3 at I3
 have e3:s3.heap=s2.heap.push { cls:=.type "list",data:=.seq ([]:List Value).toArray }:=by rw[←hs3]
 generalize hDD:s2.heap.objs.size=D at *
 generalize hH3:upd H2 D (.lst [])=H3 at *
 have lt2:∀ b∈fp,b < s2.heap.objs.size:=fun b hb=>by
  obtain⟨o,ho,_⟩:=T.obj 0 _ st2 b hb
  exact Heap.lt_size ho
 have neD:∀ b∈fp,b≠D:=fun b hb=>by rw[←hDD];exact Nat.ne_of_lt (lt2 b hb)
 have f3:∀ b∈fp,zbg X pins H3 b:=fun b hb=>⟨by rw[←hH3,au (neD b hb)];exact(f2 b hb).1,(f2 b hb).2⟩
 have sz3:s3.heap.objs.size=D+1:=by rw[e3,Heap.size_push,hDD]
 have lt3:∀ b∈fp,b < s3.heap.objs.size:=fun b hb=>by have q:=lt2 b hb;rw[sz3];rw[hDD]at q;exact Nat.lt_succ_of_lt q
 have old:∀ b o,s3.heap.get? b=some o→h₁.get? b=some o:=fun b o eb=>by
  have hb:b < D+1:=by rw[←sz3];exact Heap.lt_size eb
  refine hsb₁.extBut b o ?_ (Heap.get?_push_of_some _ (by rw[←e3];exact eb))
  rw[Heap.size_push,hDD]
  exact Nat.ne_of_lt hb
 have szC:(s2.heap.push { cls:=.type "list",data:=.seq ([]:List Value).toArray }).objs.size=s3.heap.objs.size:=by rw[e3]
 have os3:s3.os=s2.os:=by rw[←hs3]
 rw[szC]at hns₁ hsb₁
 have I4:Inv (zav X N' scope cl fp s3 H3) [] (none :: fvs σ ix) H3 { s3 with heap:=h₁,toks:=s2.toks+([]:List (Str × Value)).length }:=zej I3 C hkind f3 lt3 hlen hix hns₁ old
 have st4:tn 0 h₁:=T.keep 0 _ _ st2 fun b hb o eb=>old b o (by rw[e3];exact Heap.get?_push_of_some _ eb)
 have stat:∀ {H':Hp},(∀ b∈fp,H' b=none)→∀ b∈fp,zbg (zav X N' scope cl fp s3 H3) [] H' b:=fun hn b hb =>
  ⟨hn b hb,Nat.ne_of_lt (lt3 b hb),fun hs'=>(zcy (N':=N') I3 C hkind f3 lt3).exfs b hb hs',.inl hb,fun y c hy=>((zcy (N':=N') I3 C hkind f3 lt3).exf b hb).2 y c hy,fun p hp=>absurd (show p∈([]:List (Addr × Obj)) from hp) (by simp)⟩
 have loop:∀ s4:Shared,s4={ s3 with heap:=h₁,toks:=s2.toks+([]:List (Str × Value)).length } →
   codeAny (model X.prog X.w) X.A (.compLoop (.ListComp elt [⟨.Name x px,iter,[],0⟩] scope pos) 0 (.ref it) (.ref D) (compEnvC scope cl s3.heap.objs.size X.env))
    (compPost (model X.prog X.w) X.A X.xe (some (assign (.Name y0 py) X.env)) (fun _ s'=>∃ σ' H',Inv X pins σ' H' s'∧Dn.nx σ' H') (.ref D) s3.heap.objs.size) s4:=by
  rintro s4 rfl
  refine zcI (fun n s'=>∃ i σ0 H' ys,Inv (zav X N' scope cl fp s3 H3) [] (σ0 :: fvs σ ix) H' s'∧tn i s'.heap∧(∀ b∈fp,H' b=none)∧W i n ys H') ?_ m0 ⟨0,none,H3,[],I4,st4,fun b hb=>(f3 b hb).1,w0⟩
  rintro n s5 ⟨i,σ0,H5,ys,I5,st5,fr5,w5⟩
  obtain⟨hD5,alt⟩:=turn i n ys H5 w5
  rcases alt with ⟨stop,q⟩ | ⟨go,step⟩
  ·refine thn (T.done (zav X N' scope cl fp s3 H3) rfl rfl rfl hc i [] s5 _ H5 _ I5 (stat fr5) st5 stop) fun r s6 ⟨hr,I6⟩=>?_
   subst hr
   obtain⟨m,hn,_⟩:=I6.loc
   have Io:Inv X pins σ H5 s6:=zd5 (h':=s6.heap) I3 I6 f3 ⟨rfl,fun _ _=>rfl⟩
   refine wpAny_assign_Name (zex (v:=.ref D) Io hNy hiy hy rfl (fun s7 I7 ⟨a,sb,ha⟩=>?_) hf)
   have ltC:∀ x c,X.env.cells.lookup x=some c→c < s3.heap.objs.size:=fun x c e=>by
    obtain⟨v,hv⟩:=I3.cell x c e
    exact hv.lt
   have hCa:s3.heap.objs.size≠a:=by
    rintro rfl
    rcases ha with z | z
    ·exact absurd I3.lt (by rw[←z];exact Nat.lt_irrefl _)
    ·exact absurd (ltC _ _ z) (Nat.lt_irrefl _)
   refine⟨m,hn.sameBut sb hCa,fun h' hsb=>⟨_,H5,?_,q⟩⟩
   exact I7.skip hsb I3.sz (Nat.ne_of_gt I3.lt) (fun x c e=>Nat.ne_of_lt (ltC x c e)) (fun p hp=>Nat.ne_of_lt (Heap.lt_size (I3.pin p hp).1)) I6.free
  ·refine thn (T.item (zav X N' scope cl fp s3 H3) rfl rfl rfl hc i [] s5 _ H5 _ I5 (stat fr5) st5 go) fun r s6 ⟨u,hr,h6⟩=>?_
   subst hr
   refine thn h6 fun _ s7 ⟨y7,H7,I7,r7,yl7,st7,fr7⟩=>?_
   have I7':=I7.pinned (stat fr7) (T.obj _ _ st7)
   have G:PG (zav X N' scope cl fp s3 H3) (.Name x px) (zdk 0):=zaP hN hN0 (.inl (lookup_relabel_local hx)) (.inr (lookup_relabel_local hx))
   refine wpAny_mono (G _ s7 _ H7 y7 u (fun σ' H'=>σ'=some y7 :: fvs σ ix∧H'=H7) I7' r7 ⟨rfl,rfl⟩) (fun _ s8 h8=>?_) fun _ _ f=>False.elim f
   obtain⟨σ8,H8,I8,rfl,rfl⟩:=h8
   refine wpAny_mono (he cl fp s3 H3 _ s8 _ H8 _ I8 (step y7 H8 yl7)) (fun yv s9 h9=>?_) fun _ _ f=>False.elim f
   obtain⟨y9,H9,I9,r9,hD9,hl9,m',hm',w9⟩:=h9
   refine wpAny_mono (zaK (X:=zav X N' scope cl fp s3 H3) _ s9 _ H9 (.ref D) [y9] (.ref D) [yv] (fun _ H'=>H'=upd H9 D (.lst (ys++[y9]))) I9 rfl (.cons r9 .nil) ⟨D,ys,y9,rfl,rfl,hD9,hl9,rfl⟩) (fun _ s10 h10=>?_) fun _ _ f=>False.elim f
   obtain⟨_,H10,I10,_,rfl⟩:=h10
   refine⟨m',hm',i+1,some y7,_,ys++[y9],I10.unpinned,T.keep _ _ _ st7 fun b hb o eb=>(I10.pin (b,o) (List.mem_append_right _ (List.mem_append_right _ (za1 hb eb)))).1,fun b hb=>?_,w9⟩
   obtain⟨o,eb,d⟩:=T.obj _ _ st7 b hb
   exact(I10.pin (b,o) (List.mem_append_right _ (List.mem_append_right _ (za1 hb eb)))).2.1
 subst hs3
 have fin:=codeAny_compStart_list (loop _ rfl) (T.self X.A 0 _ _ _ st4 (loop _ rfl))
 exact fin
end
section
variable {X:Cx} {N':List Str} {scope:Scope} {elt iter c:Expr} {x:Str} {px pos:Pos} {wi:TI} {tc:TT} {te:TE} {ix:List Nat}
end
end L2
namespace L2
open PySem PySem.Spec PyProof.Rows
inductive Dt where
 | non | bl (b:Bool) | int (i:Int) | str (x:Str) | tup (xs:List Dt) | lst (xs:List Dt)
mutual
def peq:Dt→Dt→Bool
 | .non,.non=>true
 | .bl a,.bl b=>a == b
 | .bl a,.int b=>(if a then 1 else 0) == b
 | .int a,.bl b=>a == (if b then 1 else 0)
 | .int a,.int b=>a == b
 | .str a,.str b=>a == b
 | .tup xs,.tup ys=>zbf xs ys
 | .lst xs,.lst ys=>zbf xs ys
 | _,_=>false
def zbf:List Dt→List Dt→Bool
 | [],[]=>true
 | x :: xs,y :: ys=>peq x y&&zbf xs ys
 | _,_=>false
end
mutual
def dep:Dt→Nat
 | .tup xs=>zaz xs+1
 | .lst xs=>zaz xs+1
 | _=>0
def zaz:List Dt→Nat
 | []=>0
 | x :: xs=>max (dep x) (zaz xs)
end
mutual
def nob:Dt→Bool
 | .bl _=>false
 | .tup xs=>zc0 xs
 | .lst xs=>zc0 xs
 | _=>true
def zc0:List Dt→Bool
 | []=>true
 | x :: xs=>nob x&&zc0 xs
end
mutual
theorem zbi:∀ d:Dt,peq d d=true
 | .non=>rfl
 | .bl _=>by simp [peq]
 | .int _=>by simp [peq]
 | .str _=>by simp [peq]
 | .tup xs=>by simp only[peq];exact zeA xs
 | .lst xs=>by simp only[peq];exact zeA xs
theorem zeA:∀ d:List Dt,zbf d d=true
 | []=>by simp [zbf]
 | x :: xs=>by simp only[zbf,zbi x,zeA xs,Bool.and_self]
end
mutual
theorem zgU:∀ d e:Dt,nob d=true→nob e=true→peq d e=true→d=e
 | .non,e,_,_,h=>by cases e <;> first | rfl | (simp [peq]at h)
 | .bl _,e,h,_,_=>by simp [nob]at h
 | .int _,e,_,h2,h=>by cases e <;> first | (simp [nob]at h2;done) | (simp [peq]at h;done) | (simp [peq]at h;rw[h])
 | .str _,e,_,h2,h=>by cases e <;> first | (simp [peq]at h;done) | (simp [peq]at h;rw[h])
 | .tup xs,e,h1,h2,h=>by
  cases e with
  | tup ys=>simp only[peq]at h;simp only[nob]at h1 h2;rw[zfS xs ys h1 h2 h]
  | _=>simp [peq]at h
 | .lst xs,e,h1,h2,h=>by
  cases e with
  | lst ys=>simp only[peq]at h;simp only[nob]at h1 h2;rw[zfS xs ys h1 h2 h]
  | _=>simp [peq]at h
theorem zfS:∀ d e:List Dt,zc0 d=true→zc0 e=true→zbf d e=true→d=e
 | [],e,_,_,h=>by cases e <;> first | rfl | (simp [zbf]at h)
 | x :: xs,e,h1,h2,h=>by
  cases e with
  | nil=>simp [zbf]at h
  | cons y ys =>
   simp only[zbf,Bool.and_eq_true]at h
   simp only[zc0,Bool.and_eq_true]at h1 h2
   rw[zgU x y h1.1 h2.1 h.1,zfS xs ys h1.2 h2.2 h.2]
end
mutual
def Has (K:W.Frag) (H:Hp):Dt→V→Prop
 | .non,v=>v=.non
 | .bl b,v=>v=.bl b
 | .int i,v=>v=.int i
 | .str x,v=>v=.str x
 | .tup ds,v=>∃ a xs,v=.ref a∧SqT K H a xs∧aj K H ds xs
 | .lst ds,v=>∃ a xs,v=.ref a∧SqL K H a xs∧aj K H ds xs
def aj (K:W.Frag) (H:Hp):List Dt→List V→Prop
 | [],vs=>vs=[]
 | d :: ds,vs=>∃ v r,vs=v :: r∧Has K H d v∧aj K H ds r
end
theorem aj.length {K:W.Frag} {H:Hp}:∀ {ds:List Dt} {vs:List V},aj K H ds vs→ds.length=vs.length
 | [],vs,h=>by simp only[aj]at h;rw[h];rfl
 | d :: ds,vs,h=>by
  simp only[aj]at h
  obtain⟨v,r,rfl,_,h2⟩:=h
  rw[List.length_cons,List.length_cons,aj.length h2]
theorem aj.get {K:W.Frag} {H:Hp}:∀ {ds:List Dt} {vs:List V} {i:Nat} {v:V},aj K H ds vs→vs[i]?=some v→∃ d,ds[i]?=some d∧Has K H d v
 | [],vs,i,v,h,e=>by simp only[aj]at h;rw[h]at e;simp at e
 | d :: ds,vs,i,v,h,e=>by
  simp only[aj]at h
  obtain⟨v0,r,rfl,h1,h2⟩:=h
  cases i with
  | zero=>simp at e;subst e;exact⟨d,rfl,h1⟩
  | succ i =>
   obtain⟨d',e1,e2⟩:=aj.get (i:=i) h2 (by simpa using e)
   exact⟨d',by simpa using e1,e2⟩
theorem aj.getD {K:W.Frag} {H:Hp}:∀ {ds:List Dt} {vs:List V} {i:Nat} {d:Dt},aj K H ds vs→ds[i]?=some d→∃ v,vs[i]?=some v∧Has K H d v
 | [],vs,i,d,h,e=>by simp at e
 | d0 :: ds,vs,i,d,h,e=>by
  simp only[aj]at h
  obtain⟨v0,r,rfl,h1,h2⟩:=h
  cases i with
  | zero=>simp at e;subst e;exact⟨v0,rfl,h1⟩
  | succ i =>
   obtain⟨v,e1,e2⟩:=aj.getD (i:=i) h2 (by simpa using e)
   exact⟨v,by simpa using e1,e2⟩
theorem aj.append {K:W.Frag} {H:Hp}:∀ {ds es:List Dt} {vs ws:List V},aj K H ds vs→aj K H es ws→aj K H (ds++es) (vs++ws)
 | [],es,vs,ws,h,h'=>by simp only[aj]at h;rw[h];exact h'
 | d :: ds,es,vs,ws,h,h'=>by
  simp only[aj]at h
  obtain⟨v,r,rfl,h1,h2⟩:=h
  show aj K H (d :: (ds++es)) (v :: (r++ws))
  simp only[aj]
  exact⟨v,r++ws,rfl,h1,aj.append h2 h'⟩
theorem aj.one {K:W.Frag} {H:Hp} {d:Dt} {v:V} (h:Has K H d v):aj K H [d] [v]:=by
 simp only[aj]
 exact⟨v,[],rfl,h,rfl⟩
theorem aj.ints {K:W.Frag} {H:Hp}:∀ ns:List Int,aj K H (ns.map Dt.int) (ns.map V.int)
 | []=>by simp [aj]
 | n :: ns=>by
  simp only[List.map_cons,aj]
  exact⟨_,_,rfl,by simp only[Has],aj.ints ns⟩
mutual
def nol:Dt→Bool
 | .lst _=>false
 | .tup xs=>za9 xs
 | _=>true
def za9:List Dt→Bool
 | []=>true
 | x :: xs=>nol x&&za9 xs
end
def KeepT (H H':Hp):Prop:=∀ b xs,Rd H b (.tup xs)→Rd H' b (.tup xs)
theorem KeepT.sq {K:W.Frag} {H H':Hp} {a:Addr} {xs:List V} (k:KeepT H H') (h:SqT K H a xs):SqT K H' a xs:=h.elim (fun z=>.inl (k a xs z)) .inr
theorem KeepT.trans {H H1 H2:Hp} (a:KeepT H H1) (b:KeepT H1 H2):KeepT H H2:=fun c xs h=>b c xs (a c xs h)
theorem KeepT.of_same {H H':Hp} (e:ax H H'):KeepT H H':=fun b xs h=>by
 rcases h with h | ⟨o,h⟩
 ·exact .inl (e _ _ h)
 ·exact .inr ⟨o,e _ _ h⟩
theorem KeepT.lst {H:Hp} {l:Addr} {xs ys:List V} (h:H l=some (.lst xs)):KeepT H (upd H l (.lst ys)):=fun b zs q=>by
 rcases q with q | ⟨o,q⟩
 ·exact .inl (by rw[au (zdi q h (fun z=>by cases z))];exact q)
 ·exact .inr ⟨o,by rw[au (zdi q h (fun z=>by cases z))];exact q⟩
mutual
theorem Has.keep {K:W.Frag} {H H':Hp} (k:KeepT H H'):∀ {d:Dt} {v:V},nol d=true→Has K H d v→Has K H' d v
 | .non,v,_,h=>by simp only[Has]at h ⊢;exact h
 | .bl _,v,_,h=>by simp only[Has]at h ⊢;exact h
 | .int _,v,_,h=>by simp only[Has]at h ⊢;exact h
 | .str _,v,_,h=>by simp only[Has]at h ⊢;exact h
 | .tup ds,v,n,h=>by
  simp only[Has]at h ⊢
  simp only[nol]at n
  obtain⟨a,xs,e,h1,h2⟩:=h
  exact⟨a,xs,e,k.sq h1,aj.keep k n h2⟩
 | .lst _,v,n,h=>by simp [nol]at n
theorem aj.keep {K:W.Frag} {H H':Hp} (k:KeepT H H'):∀ {ds:List Dt} {vs:List V},za9 ds=true→aj K H ds vs→aj K H' ds vs
 | [],vs,_,h=>by simp only[aj]at h ⊢;exact h
 | d :: ds,vs,n,h=>by
  simp only[aj]at h ⊢
  simp only[za9,Bool.and_eq_true]at n
  obtain⟨v,r,e,h1,h2⟩:=h
  exact⟨v,r,e,Has.keep k n.1 h1,aj.keep k n.2 h2⟩
end
section
variable {X:Cx} {pins:List (Addr × Obj)} {σ:St} {H:Hp} {s:Shared}
theorem zg5 (I:Inv X pins σ H s) {a:Addr} {xs ys:List V} (h:SqL X.K H a xs) (h':SqT X.K H a ys):False:=by
 obtain⟨its,_,p,_⟩:=I.list h
 obtain⟨jts,_,q,_⟩:=I.tuple h'
 obtain⟨o,e,c,_⟩:=p.isList
 obtain⟨o',e',c',_⟩:=q
 rw[e]at e'
 cases e'
 rw[c]at c'
 exact absurd (Value.type.inj c') (by decide)
mutual
theorem Has.inj (I:Inv X pins σ H s):∀(d e:Dt) (v:V),Has X.K H d v→Has X.K H e v→d=e
 | .non,e,v,h,h'=>by
  simp only[Has]at h
  subst h
  cases e <;> simp only[Has]at h' <;> first | rfl | (cases h';done) | (obtain⟨_,_,z,_⟩:=h';cases z)
 | .bl b,e,v,h,h'=>by
  simp only[Has]at h
  subst h
  cases e <;> simp only[Has]at h' <;> first | (cases h';done) | (cases h';rfl) | (obtain⟨_,_,z,_⟩:=h';cases z)
 | .int b,e,v,h,h'=>by
  simp only[Has]at h
  subst h
  cases e <;> simp only[Has]at h' <;> first | (cases h';done) | (cases h';rfl) | (obtain⟨_,_,z,_⟩:=h';cases z)
 | .str b,e,v,h,h'=>by
  simp only[Has]at h
  subst h
  cases e <;> simp only[Has]at h' <;> first | (cases h';done) | (cases h';rfl) | (obtain⟨_,_,z,_⟩:=h';cases z)
 | .tup ds,e,v,h,h'=>by
  simp only[Has]at h
  obtain⟨a,xs,rfl,h1,h2⟩:=h
  cases e with
  | tup es =>
   simp only[Has]at h'
   obtain⟨a',ys,z,h3,h4⟩:=h'
   cases z
   rw[I.tuple_inj h3 h1]at h4
   rw[aj.inj I ds es xs h2 h4]
  | lst es =>
   simp only[Has]at h'
   obtain⟨a',ys,z,h3,h4⟩:=h'
   cases z
   exact(zg5 I h3 h1).elim
  | _=>simp only[Has]at h';cases h'
 | .lst ds,e,v,h,h'=>by
  simp only[Has]at h
  obtain⟨a,xs,rfl,h1,h2⟩:=h
  cases e with
  | lst es =>
   simp only[Has]at h'
   obtain⟨a',ys,z,h3,h4⟩:=h'
   cases z
   rw[I.list_inj h3 h1]at h4
   rw[aj.inj I ds es xs h2 h4]
  | tup es =>
   simp only[Has]at h'
   obtain⟨a',ys,z,h3,h4⟩:=h'
   cases z
   exact(zg5 I h1 h3).elim
  | _=>simp only[Has]at h';cases h'
theorem aj.inj (I:Inv X pins σ H s):∀(ds es:List Dt) (vs:List V),aj X.K H ds vs→aj X.K H es vs→ds=es
 | [],es,vs,h,h'=>by
  simp only[aj]at h
  subst h
  cases es with
  | nil=>rfl
  | cons e es=>simp only[aj]at h';obtain⟨_,_,z,_⟩:=h';cases z
 | d :: ds,es,vs,h,h'=>by
  simp only[aj]at h
  obtain⟨v,r,rfl,h1,h2⟩:=h
  cases es with
  | nil=>simp only[aj]at h';cases h'
  | cons e es =>
   simp only[aj]at h'
   obtain⟨v',r',z,h3,h4⟩:=h'
   cases z
   rw[Has.inj I d e v h1 h3,aj.inj I ds es r h2 h4]
end
def zbY (ds es:List Dt) (j:Nat):Bool:=match ds[j]?,es[j]? with
 | some d,some e=>peq d e
 | _,_=>true
theorem ziY (d e:Dt) (ds es:List Dt):zbY (d :: ds) (e :: es) 0=peq d e:=rfl
theorem zeT:∀(ds es:List Dt),((List.range (min ds.length es.length)).all (zbY ds es)&&ds.length == es.length)=zbf ds es
 | [],[]=>by simp [zbf]
 | [],e :: es=>by simp [zbf]
 | d :: ds,[]=>by simp [zbf]
 | d :: ds,e :: es=>by
  have ih:=zeT ds es
  have e1:min (d :: ds).length (e :: es).length=min ds.length es.length+1:=by simp only[List.length_cons];omega
  rw[e1,List.range_succ_eq_map,List.all_cons,ziY,List.all_map]
  have e2:(zbY (d :: ds) (e :: es) ∘ Nat.succ)=zbY ds es:=by funext j;rfl
  rw[e2,List.length_cons,List.length_cons]
  simp only[zbf]
  rw[←ih,Bool.and_assoc]
  congr 2
  simp
theorem zkL {ds es:List Dt} (h:ds.length=es.length):(List.range ds.length).all (zbY ds es)=zbf ds es:=by
 rw[←zeT,←h,Nat.min_self]
 simp
theorem zkg {ds es:List Dt} (h:ds.length≠es.length):zbf ds es=false:=by
 rw[←zeT]
 have:(ds.length == es.length)=false:=by simpa using h
 rw[this,Bool.and_false]
theorem zbO (I:Inv X pins σ H s) {a:Addr} {xs:List V} {ds:List Dt} (h:SqT X.K H a xs) (g:aj X.K H ds xs):∃ its:List Value,aH xs its∧s.heap.IsTuple a its.toArray∧its.toArray.size=ds.length:=by
 obtain⟨its,r,p,_⟩:=I.tuple h
 exact⟨its,r,p,by rw[List.size_toArray,←r.length,←g.length]⟩
theorem zbQ (I:Inv X pins σ H s) {a:Addr} {xs:List V} {ds:List Dt} (h:SqL X.K H a xs) (g:aj X.K H ds xs):∃ its:List Value,aH xs its∧s.heap.IsList a its.toArray∧its.toArray.size=ds.length:=by
 obtain⟨its,r,p,_⟩:=I.list h
 exact⟨its,r,p.isList,by rw[List.size_toArray,←r.length,←g.length]⟩
def zit (s:Shared) (A:Around) (ds es:List Dt) (xs ys:List V):Prop :=
 ∀(us zs:List Value),aH xs us→aH ys zs→∀(j:Nat) (u z:Value),us[j]?=some u→zs[j]?=some z→SeqAt.EqAt A.in1 s u z (zbY ds es j)
theorem rcTT (I:Inv X pins σ H s) {A:Around} {a b:Addr} {xs ys:List V} {ds es:List Dt} (h1:SqT X.K H a xs) (g1:aj X.K H ds xs) (h2:SqT X.K H b ys) (g2:aj X.K H es ys) (hu:A.units < cLine)
  (he:zit s A ds es xs ys):SeqAt.RcAt A s (.ref a) (.ref b) (zbf ds es)∧SeqAt.RcNeAt A s (.ref a) (.ref b) (!zbf ds es):=by
 obtain⟨its,r1,p1,z1⟩:=zbO I h1 g1
 obtain⟨jts,r2,p2,z2⟩:=zbO I h2 g2
 have q:∀ j (k1:j < its.toArray.size) (k2:j < jts.toArray.size),SeqAt.EqAt A.in1 s its.toArray[j] jts.toArray[j] (zbY ds es j):=fun j k1 k2=>he its jts r1 r2 j _ _ (by simp at k1 ⊢) (by simp at k2 ⊢)
 have t1:=SeqAt.RcAt.tuples (e:=zbY ds es) p1 p2 hu q
 have t2:=SeqAt.RcNeAt.tuples (e:=zbY ds es) p1 p2 hu q
 rw[z1,z2,zeT]at t1 t2
 exact⟨t1,t2⟩
theorem rcLL (I:Inv X pins σ H s) {A:Around} {a b:Addr} {xs ys:List V} {ds es:List Dt} (h1:SqL X.K H a xs) (g1:aj X.K H ds xs) (h2:SqL X.K H b ys) (g2:aj X.K H es ys) (hu:A.units < cLine)
  (he:zit s A ds es xs ys):SeqAt.RcAt A s (.ref a) (.ref b) (zbf ds es)∧SeqAt.RcNeAt A s (.ref a) (.ref b) (!zbf ds es):=by
 obtain⟨its,r1,p1,z1⟩:=zbQ I h1 g1
 obtain⟨jts,r2,p2,z2⟩:=zbQ I h2 g2
 by_cases hl:ds.length=es.length
 ·have q:∀ j (k1:j < its.toArray.size) (k2:j < jts.toArray.size),SeqAt.EqAt A.in1 s its.toArray[j] jts.toArray[j] (zbY ds es j):=fun j k1 k2=>he its jts r1 r2 j _ _ (by simp at k1 ⊢) (by simp at k2 ⊢)
  have t1:=SeqAt.RcAt.lists (e:=zbY ds es) p1 p2 (by rw[z1,z2,hl]) hu q
  have t2:=SeqAt.RcNeAt.lists (e:=zbY ds es) p1 p2 (by rw[z1,z2,hl]) hu q
  rw[z1,zkL hl]at t1 t2
  exact⟨t1,t2⟩
 ·have hne:(its.toArray.size != jts.toArray.size)=true:=by rw[z1,z2];simpa using hl
  rw[zkg hl]
  exact⟨SeqAt.RcAt.lists_lengths p1 p2 hne hu,SeqAt.RcNeAt.lists_lengths p1 p2 hne hu⟩
theorem zcs {A:Around} {d:Dt} (h:A.units+dep d < cLine):A.units < cLine:=Nat.lt_of_le_of_lt (Nat.le_add_right _ _) h
mutual
theorem zjn (I:Inv X pins σ H s):∀(d e:Dt) (v w:V) (u z:Value) (A:Around),Has X.K H d v→Has X.K H e w→zan v u→zan w z→A.units+dep d < cLine→SeqAt.EqAt A s u z (peq d e)
 | .non,e,v,w,u,z,A,h,h',r,r',hu=>by
  have hu':=zcs hu
  simp only[Has]at h
  subst h
  cases e with
  | tup es =>
   simp only[Has]at h'
   obtain⟨b,ys,rfl,h3,h4⟩:=h'
   obtain⟨_,_,p,_⟩:=zbO I h3 h4
   cases (show z=Value.ref b from r')
   cases (show u=Value.none from r)
   exact SeqAt.EqAt.none_tuple p hu'
  | lst es =>
   simp only[Has]at h'
   obtain⟨b,ys,rfl,h3,h4⟩:=h'
   obtain⟨_,_,p,_⟩:=zbQ I h3 h4
   cases (show z=Value.ref b from r')
   cases (show u=Value.none from r)
   exact SeqAt.EqAt.none_list p hu'
  | _=>simp only[Has]at h';subst h';exact zet r r' rfl rfl
 | .bl k,e,v,w,u,z,A,h,h',r,r',hu=>by
  have hu':=zcs hu
  simp only[Has]at h
  subst h
  cases e with
  | tup es =>
   simp only[Has]at h'
   obtain⟨b,ys,rfl,h3,h4⟩:=h'
   obtain⟨_,_,p,_⟩:=zbO I h3 h4
   cases (show z=Value.ref b from r')
   cases (show u=Value.bool k from r)
   exact SeqAt.EqAt.bool_tuple k p hu'
  | lst es =>
   simp only[Has]at h'
   obtain⟨b,ys,rfl,h3,h4⟩:=h'
   obtain⟨_,_,p,_⟩:=zbQ I h3 h4
   cases (show z=Value.ref b from r')
   cases (show u=Value.bool k from r)
   exact SeqAt.EqAt.bool_list k p hu'
  | _=>simp only[Has]at h';subst h';exact zet r r' rfl rfl
 | .int k,e,v,w,u,z,A,h,h',r,r',hu=>by
  have hu':=zcs hu
  simp only[Has]at h
  subst h
  cases e with
  | tup es =>
   simp only[Has]at h'
   obtain⟨b,ys,rfl,h3,h4⟩:=h'
   obtain⟨_,_,p,_⟩:=zbO I h3 h4
   cases (show z=Value.ref b from r')
   obtain⟨t,rfl⟩:=r
   exact SeqAt.EqAt.int_tuple k t p hu'
  | lst es =>
   simp only[Has]at h'
   obtain⟨b,ys,rfl,h3,h4⟩:=h'
   obtain⟨_,_,p,_⟩:=zbQ I h3 h4
   cases (show z=Value.ref b from r')
   obtain⟨t,rfl⟩:=r
   exact SeqAt.EqAt.int_list k t p hu'
  | _=>simp only[Has]at h';subst h';exact zet r r' rfl rfl
 | .str k,e,v,w,u,z,A,h,h',r,r',hu=>by
  have hu':=zcs hu
  simp only[Has]at h
  subst h
  cases e with
  | tup es =>
   simp only[Has]at h'
   obtain⟨b,ys,rfl,h3,h4⟩:=h'
   obtain⟨_,_,p,_⟩:=zbO I h3 h4
   cases (show z=Value.ref b from r')
   obtain⟨t,rfl⟩:=r
   exact SeqAt.EqAt.str_tuple k t p hu'
  | lst es =>
   simp only[Has]at h'
   obtain⟨b,ys,rfl,h3,h4⟩:=h'
   obtain⟨_,_,p,_⟩:=zbQ I h3 h4
   cases (show z=Value.ref b from r')
   obtain⟨t,rfl⟩:=r
   exact SeqAt.EqAt.str_list k t p hu'
  | _=>simp only[Has]at h';subst h';exact zet r r' rfl rfl
 | .tup ds,e,v,w,u,z,A,h,h',r,r',hu=>by
  have hu':=zcs hu
  have hd:=h
  simp only[Has]at h
  obtain⟨a,xs,rfl,h1,h2⟩:=h
  cases (show u=Value.ref a from r)
  obtain⟨_,_,p,_⟩:=zbO I h1 h2
  have hi:A.in1.units+zaz ds < cLine:=by simp only[dep]at hu;rw[Around.in1_units];omega
  cases e with
  | tup es =>
   have he:=h'
   simp only[Has]at h'
   obtain⟨b,ys,rfl,h3,h4⟩:=h'
   cases (show z=Value.ref b from r')
   by_cases hab:a=b
   ·subst hab
    rw[Has.inj I _ _ _ hd he,zbi]
    exact SeqAt.EqAt.same _
   ·have q:=(rcTT I h1 h2 h3 h4 hu' fun us zs ru rz j u z e1 e2=>zeu I ds es xs ys us zs A.in1 h2 h4 ru rz hi j u z e1 e2).1
    simp only[peq]
    exact SeqAt.EqAt.of_refs hab q
  | lst es =>
   simp only[Has]at h'
   obtain⟨b,ys,rfl,h3,h4⟩:=h'
   cases (show z=Value.ref b from r')
   obtain⟨_,_,p',_⟩:=zbQ I h3 h4
   exact SeqAt.EqAt.tuple_list p p' hu'
  | non=>simp only[Has]at h';subst h';cases (show z=Value.none from r');exact SeqAt.EqAt.tuple_none p hu'
  | bl k=>simp only[Has]at h';subst h';cases (show z=Value.bool k from r');exact SeqAt.EqAt.tuple_bool k p hu'
  | int k=>simp only[Has]at h';subst h';obtain⟨t,rfl⟩:=r';exact SeqAt.EqAt.tuple_int k t p hu'
  | str k=>simp only[Has]at h';subst h';obtain⟨t,rfl⟩:=r';exact SeqAt.EqAt.tuple_str k t p hu'
 | .lst ds,e,v,w,u,z,A,h,h',r,r',hu=>by
  have hu':=zcs hu
  have hd:=h
  simp only[Has]at h
  obtain⟨a,xs,rfl,h1,h2⟩:=h
  cases (show u=Value.ref a from r)
  obtain⟨_,_,p,_⟩:=zbQ I h1 h2
  have hi:A.in1.units+zaz ds < cLine:=by simp only[dep]at hu;rw[Around.in1_units];omega
  cases e with
  | lst es =>
   have he:=h'
   simp only[Has]at h'
   obtain⟨b,ys,rfl,h3,h4⟩:=h'
   cases (show z=Value.ref b from r')
   by_cases hab:a=b
   ·subst hab
    rw[Has.inj I _ _ _ hd he,zbi]
    exact SeqAt.EqAt.same _
   ·have q:=(rcLL I h1 h2 h3 h4 hu' fun us zs ru rz j u z e1 e2=>zeu I ds es xs ys us zs A.in1 h2 h4 ru rz hi j u z e1 e2).1
    simp only[peq]
    exact SeqAt.EqAt.of_refs hab q
  | tup es =>
   simp only[Has]at h'
   obtain⟨b,ys,rfl,h3,h4⟩:=h'
   cases (show z=Value.ref b from r')
   obtain⟨_,_,p',_⟩:=zbO I h3 h4
   exact SeqAt.EqAt.list_tuple p p' hu'
  | non=>simp only[Has]at h';subst h';cases (show z=Value.none from r');exact SeqAt.EqAt.list_none p hu'
  | bl k=>simp only[Has]at h';subst h';cases (show z=Value.bool k from r');exact SeqAt.EqAt.list_bool k p hu'
  | int k=>simp only[Has]at h';subst h';obtain⟨t,rfl⟩:=r';exact SeqAt.EqAt.list_int k t p hu'
  | str k=>simp only[Has]at h';subst h';obtain⟨t,rfl⟩:=r';exact SeqAt.EqAt.list_str k t p hu'
theorem zeu (I:Inv X pins σ H s):∀(ds es:List Dt) (vs ws:List V) (us zs:List Value) (A:Around),aj X.K H ds vs→aj X.K H es ws→aH vs us→aH ws zs→A.units+zaz ds < cLine →
  ∀(j:Nat) (u z:Value),us[j]?=some u→zs[j]?=some z→SeqAt.EqAt A s u z (zbY ds es j)
 | [],es,vs,ws,us,zs,A,h,h',r,r',hu,j,u,z,e1,e2=>by
  simp only[aj]at h
  subst h
  cases r
  simp at e1
 | d :: ds,es,vs,ws,us,zs,A,h,h',r,r',hu,j,u,z,e1,e2=>by
  simp only[aj]at h
  obtain⟨v,rs,rfl,h1,h2⟩:=h
  cases r with
  | cons r1 r2 =>
   cases es with
   | nil =>
    simp only[aj]at h'
    subst h'
    cases r'
    simp at e2
   | cons e es =>
    simp only[aj]at h'
    obtain⟨w,rt,rfl,h3,h4⟩:=h'
    simp only[zaz]at hu
    cases r' with
    | cons r3 r4 =>
     cases j with
     | zero =>
      simp at e1 e2
      subst e1 e2
      exact zjn I d e v w _ _ A h1 h3 r1 r3 (by omega)
     | succ j=>exact zeu I ds es rs rt _ _ A h2 h4 r2 r4 (by omega) j u z (by simpa using e1) (by simpa using e2)
end
end
end L2
namespace L2
open PySem PySem.Spec PyProof.Rows
section
variable {X:Cx} {pins:List (Addr × Obj)} {σ:St} {H:Hp} {s:Shared}
theorem rc_D (I:Inv X pins σ H s) (A:Around) (d e:Dt) (v w:V) (u z:Value) (h:Has X.K H d v) (h':Has X.K H e w) (r:zan v u) (r':zan w z) (hu:A.units+dep d < cLine) :
  SeqAt.RcAt A s u z (peq d e)∧SeqAt.RcNeAt A s u z (!peq d e):=by
 have hu':=zcs hu
 cases d with
 | non =>
  simp only[Has]at h
  subst h
  cases (show u=Value.none from r)
  cases e with
  | non =>
   simp only[Has]at h'
   subst h'
   cases (show z=Value.none from r')
   exact⟨SeqAt.RcAt.none_none,SeqAt.RcNeAt.none_none⟩
  | bl k2 =>
   simp only[Has]at h'
   subst h'
   cases (show z=Value.bool k2 from r')
   exact⟨SeqAt.RcAt.none_bool k2,SeqAt.RcNeAt.none_bool k2⟩
  | int k2 =>
   simp only[Has]at h'
   subst h'
   obtain⟨t2,rfl⟩:=r'
   exact⟨SeqAt.RcAt.none_int k2 t2,SeqAt.RcNeAt.none_int k2 t2⟩
  | str k2 =>
   simp only[Has]at h'
   subst h'
   obtain⟨t2,rfl⟩:=r'
   exact⟨SeqAt.RcAt.none_str k2 t2,SeqAt.RcNeAt.none_str k2 t2⟩
  | tup es =>
   simp only[Has]at h'
   obtain⟨b,ys,rfl,h3,h4⟩:=h'
   obtain⟨_,_,p,_⟩:=zbO I h3 h4
   cases (show z=Value.ref b from r')
   exact⟨SeqAt.RcAt.none_tuple p hu',SeqAt.RcNeAt.none_tuple p hu'⟩
  | lst es =>
   simp only[Has]at h'
   obtain⟨b,ys,rfl,h3,h4⟩:=h'
   obtain⟨_,_,p,_⟩:=zbQ I h3 h4
   cases (show z=Value.ref b from r')
   exact⟨SeqAt.RcAt.none_list p hu',SeqAt.RcNeAt.none_list p hu'⟩
 | bl k1 =>
  simp only[Has]at h
  subst h
  cases (show u=Value.bool k1 from r)
  cases e with
  | non =>
   simp only[Has]at h'
   subst h'
   cases (show z=Value.none from r')
   exact⟨SeqAt.RcAt.bool_none k1,SeqAt.RcNeAt.bool_none k1⟩
  | bl k2 =>
   simp only[Has]at h'
   subst h'
   cases (show z=Value.bool k2 from r')
   exact⟨SeqAt.RcAt.bool_bool k1 k2,SeqAt.RcNeAt.bool_bool k1 k2⟩
  | int k2 =>
   simp only[Has]at h'
   subst h'
   obtain⟨t2,rfl⟩:=r'
   exact⟨SeqAt.RcAt.bool_int k1 k2 t2,SeqAt.RcNeAt.bool_int k1 k2 t2⟩
  | str k2 =>
   simp only[Has]at h'
   subst h'
   obtain⟨t2,rfl⟩:=r'
   exact⟨SeqAt.RcAt.bool_str k1 k2 t2,SeqAt.RcNeAt.bool_str k1 k2 t2⟩
  | tup es =>
   simp only[Has]at h'
   obtain⟨b,ys,rfl,h3,h4⟩:=h'
   obtain⟨_,_,p,_⟩:=zbO I h3 h4
   cases (show z=Value.ref b from r')
   exact⟨SeqAt.RcAt.bool_tuple k1 p hu',SeqAt.RcNeAt.bool_tuple k1 p hu'⟩
  | lst es =>
   simp only[Has]at h'
   obtain⟨b,ys,rfl,h3,h4⟩:=h'
   obtain⟨_,_,p,_⟩:=zbQ I h3 h4
   cases (show z=Value.ref b from r')
   exact⟨SeqAt.RcAt.bool_list k1 p hu',SeqAt.RcNeAt.bool_list k1 p hu'⟩
 | int k1 =>
  simp only[Has]at h
  subst h
  obtain⟨t1,rfl⟩:=r
  cases e with
  | non =>
   simp only[Has]at h'
   subst h'
   cases (show z=Value.none from r')
   exact⟨SeqAt.RcAt.int_none k1 t1,SeqAt.RcNeAt.int_none k1 t1⟩
  | bl k2 =>
   simp only[Has]at h'
   subst h'
   cases (show z=Value.bool k2 from r')
   exact⟨SeqAt.RcAt.int_bool k1 t1 k2,SeqAt.RcNeAt.int_bool k1 t1 k2⟩
  | int k2 =>
   simp only[Has]at h'
   subst h'
   obtain⟨t2,rfl⟩:=r'
   exact⟨SeqAt.RcAt.int_int k1 t1 k2 t2,SeqAt.RcNeAt.int_int k1 t1 k2 t2⟩
  | str k2 =>
   simp only[Has]at h'
   subst h'
   obtain⟨t2,rfl⟩:=r'
   exact⟨SeqAt.RcAt.int_str k1 t1 k2 t2,SeqAt.RcNeAt.int_str k1 t1 k2 t2⟩
  | tup es =>
   simp only[Has]at h'
   obtain⟨b,ys,rfl,h3,h4⟩:=h'
   obtain⟨_,_,p,_⟩:=zbO I h3 h4
   cases (show z=Value.ref b from r')
   exact⟨SeqAt.RcAt.int_tuple k1 t1 p hu',SeqAt.RcNeAt.int_tuple k1 t1 p hu'⟩
  | lst es =>
   simp only[Has]at h'
   obtain⟨b,ys,rfl,h3,h4⟩:=h'
   obtain⟨_,_,p,_⟩:=zbQ I h3 h4
   cases (show z=Value.ref b from r')
   exact⟨SeqAt.RcAt.int_list k1 t1 p hu',SeqAt.RcNeAt.int_list k1 t1 p hu'⟩
 | str k1 =>
  simp only[Has]at h
  subst h
  obtain⟨t1,rfl⟩:=r
  cases e with
  | non =>
   simp only[Has]at h'
   subst h'
   cases (show z=Value.none from r')
   exact⟨SeqAt.RcAt.str_none k1 t1,SeqAt.RcNeAt.str_none k1 t1⟩
  | bl k2 =>
   simp only[Has]at h'
   subst h'
   cases (show z=Value.bool k2 from r')
   exact⟨SeqAt.RcAt.str_bool k1 t1 k2,SeqAt.RcNeAt.str_bool k1 t1 k2⟩
  | int k2 =>
   simp only[Has]at h'
   subst h'
   obtain⟨t2,rfl⟩:=r'
   exact⟨SeqAt.RcAt.str_int k1 t1 k2 t2,SeqAt.RcNeAt.str_int k1 t1 k2 t2⟩
  | str k2 =>
   simp only[Has]at h'
   subst h'
   obtain⟨t2,rfl⟩:=r'
   exact⟨SeqAt.RcAt.str_str k1 t1 k2 t2,SeqAt.RcNeAt.str_str k1 t1 k2 t2⟩
  | tup es =>
   simp only[Has]at h'
   obtain⟨b,ys,rfl,h3,h4⟩:=h'
   obtain⟨_,_,p,_⟩:=zbO I h3 h4
   cases (show z=Value.ref b from r')
   exact⟨SeqAt.RcAt.str_tuple k1 t1 p hu',SeqAt.RcNeAt.str_tuple k1 t1 p hu'⟩
  | lst es =>
   simp only[Has]at h'
   obtain⟨b,ys,rfl,h3,h4⟩:=h'
   obtain⟨_,_,p,_⟩:=zbQ I h3 h4
   cases (show z=Value.ref b from r')
   exact⟨SeqAt.RcAt.str_list k1 t1 p hu',SeqAt.RcNeAt.str_list k1 t1 p hu'⟩
 | tup ds =>
  simp only[Has]at h
  obtain⟨a,xs,rfl,h1,h2⟩:=h
  cases (show u=Value.ref a from r)
  obtain⟨_,_,p,_⟩:=zbO I h1 h2
  have hi:A.in1.units+zaz ds < cLine:=by simp only[dep]at hu;rw[Around.in1_units];omega
  cases e with
  | non =>
   simp only[Has]at h'
   subst h'
   cases (show z=Value.none from r')
   exact⟨SeqAt.RcAt.tuple_none p hu',SeqAt.RcNeAt.tuple_none p hu'⟩
  | bl k2 =>
   simp only[Has]at h'
   subst h'
   cases (show z=Value.bool k2 from r')
   exact⟨SeqAt.RcAt.tuple_bool k2 p hu',SeqAt.RcNeAt.tuple_bool k2 p hu'⟩
  | int k2 =>
   simp only[Has]at h'
   subst h'
   obtain⟨t2,rfl⟩:=r'
   exact⟨SeqAt.RcAt.tuple_int k2 t2 p hu',SeqAt.RcNeAt.tuple_int k2 t2 p hu'⟩
  | str k2 =>
   simp only[Has]at h'
   subst h'
   obtain⟨t2,rfl⟩:=r'
   exact⟨SeqAt.RcAt.tuple_str k2 t2 p hu',SeqAt.RcNeAt.tuple_str k2 t2 p hu'⟩
  | tup es =>
   simp only[Has]at h'
   obtain⟨b,ys,rfl,h3,h4⟩:=h'
   cases (show z=Value.ref b from r')
   simp only[peq]
   exact rcTT I h1 h2 h3 h4 hu' fun us zs ru rz j u z e1 e2=>zeu I ds es xs ys us zs A.in1 h2 h4 ru rz hi j u z e1 e2
  | lst es =>
   simp only[Has]at h'
   obtain⟨b,ys,rfl,h3,h4⟩:=h'
   cases (show z=Value.ref b from r')
   obtain⟨_,_,p',_⟩:=zbQ I h3 h4
   exact⟨SeqAt.RcAt.tuple_list p p' hu',SeqAt.RcNeAt.tuple_list p p' hu'⟩
 | lst ds =>
  simp only[Has]at h
  obtain⟨a,xs,rfl,h1,h2⟩:=h
  cases (show u=Value.ref a from r)
  obtain⟨_,_,p,_⟩:=zbQ I h1 h2
  have hi:A.in1.units+zaz ds < cLine:=by simp only[dep]at hu;rw[Around.in1_units];omega
  cases e with
  | non =>
   simp only[Has]at h'
   subst h'
   cases (show z=Value.none from r')
   exact⟨SeqAt.RcAt.list_none p hu',SeqAt.RcNeAt.list_none p hu'⟩
  | bl k2 =>
   simp only[Has]at h'
   subst h'
   cases (show z=Value.bool k2 from r')
   exact⟨SeqAt.RcAt.list_bool k2 p hu',SeqAt.RcNeAt.list_bool k2 p hu'⟩
  | int k2 =>
   simp only[Has]at h'
   subst h'
   obtain⟨t2,rfl⟩:=r'
   exact⟨SeqAt.RcAt.list_int k2 t2 p hu',SeqAt.RcNeAt.list_int k2 t2 p hu'⟩
  | str k2 =>
   simp only[Has]at h'
   subst h'
   obtain⟨t2,rfl⟩:=r'
   exact⟨SeqAt.RcAt.list_str k2 t2 p hu',SeqAt.RcNeAt.list_str k2 t2 p hu'⟩
  | tup es =>
   simp only[Has]at h'
   obtain⟨b,ys,rfl,h3,h4⟩:=h'
   cases (show z=Value.ref b from r')
   obtain⟨_,_,p',_⟩:=zbO I h3 h4
   exact⟨SeqAt.RcAt.list_tuple p p' hu',SeqAt.RcNeAt.list_tuple p p' hu'⟩
  | lst es =>
   simp only[Has]at h'
   obtain⟨b,ys,rfl,h3,h4⟩:=h'
   cases (show z=Value.ref b from r')
   simp only[peq]
   exact rcLL I h1 h2 h3 h4 hu' fun us zs ru rz j u z e1 e2=>zeu I ds es xs ys us zs A.in1 h2 h4 ru rz hi j u z e1 e2
def rEqD (K:W.Frag):R2:=fun x y H Q=>∃ d e,Has K H d x∧Has K H e y∧dep d≤60∧Q (.bl (peq d e)) H
def rNeD (K:W.Frag):R2:=fun x y H Q=>∃ d e,Has K H d x∧Has K H e y∧dep d≤60∧Q (.bl (!peq d e)) H
theorem zeo (hu:X.A.units+64 < cLine):OpR X (compareOp .Eq) (rEqD X.K):=by
 intro pins s σ H x y v u Q I rx ry h
 obtain⟨d,e,h1,h2,hd,q⟩:=h
 exact(rc_D I X.A d e x y v u h1 h2 rx ry (by omega)).1 _ _ _ _ ⟨.bl _,H,I,rfl,q⟩
theorem zgV (hu:X.A.units+64 < cLine):OpR X (compareOp .NotEq) (rNeD X.K):=by
 intro pins s σ H x y v u Q I rx ry h
 obtain⟨d,e,h1,h2,hd,q⟩:=h
 exact(rc_D I X.A d e x y v u h1 h2 rx ry (by omega)).2 _ _ _ _ ⟨.bl _,H,I,rfl,q⟩
open Classical in
noncomputable def hitD (K:W.Frag) (H:Hp) (d:Dt) (u:Value):Bool:=decide (∃(v:V) (d':Dt),zan v u∧Has K H d' v∧peq d' d=true)
open Classical in
theorem zf0 (I:Inv X pins σ H s) {d d':Dt} {v:V} {u:Value} (r:zan v u) (h:Has X.K H d' v):hitD X.K H d u=peq d' d:=by
 unfold hitD
 cases e:peq d' d with
 | true=>exact decide_eq_true ⟨v,d',r,h,e⟩
 | false =>
  refine decide_eq_false fun⟨v',d2,r',h',e'⟩=>?_
  rw[r'.inj r]at h'
  rw[Has.inj I _ _ _ h' h,e]at e'
  cases e'
theorem zda (I:Inv X pins σ H s) {d:Dt}:∀ {ds:List Dt} {vs:List V} {us:List Value},aj X.K H ds vs→aH vs us→us.any (hitD X.K H d)=ds.any fun d'=>peq d' d
 | [],vs,us,h,r=>by
  simp only[aj]at h
  subst h
  cases r
  rfl
 | d' :: ds,vs,us,h,r=>by
  simp only[aj]at h
  obtain⟨v,rs,rfl,h1,h2⟩:=h
  cases r with
  | cons r1 r2=>rw[List.any_cons,List.any_cons,zf0 I r1 h1,zda I h2 r2]
theorem zcB (I:Inv X pins σ H s) {A:Around} {d:Dt} {x:V} {ux:Value} (hx:Has X.K H d x) (rx:zan x ux):∀ {ds:List Dt} {vs:List V} {us:List Value},aj X.K H ds vs→aH vs us→A.units+zaz ds < cLine→∀ u∈us,SeqAt.EqAt A s u ux (hitD X.K H d u)
 | [],vs,us,h,r,hu,u,hm=>by
  simp only[aj]at h
  subst h
  cases r
  cases hm
 | d' :: ds,vs,us,h,r,hu,u,hm=>by
  simp only[aj]at h
  obtain⟨v,rs,rfl,h1,h2⟩:=h
  simp only[zaz]at hu
  cases r with
  | cons r1 r2 =>
   rcases List.mem_cons.mp hm with rfl | hm
   ·rw[zf0 I r1 h1]
    exact zjn I d' d v x _ _ A h1 hx r1 rx (by omega)
   ·exact zcB I hx rx h2 r2 (by omega) u hm
def rInD (K:W.Frag) (neg:Bool):R2:=fun x y H Q=>∃ p xs ds d,y=.ref p∧(SqL K H p xs∨SqT K H p xs)∧aj K H ds xs∧Has K H d x∧zaz ds≤60∧Q (.bl (if neg then !(ds.any fun d'=>peq d' d) else ds.any fun d'=>peq d' d)) H
theorem zgW (hu:X.A.units+64 < cLine):OpR X (compareOp .In) (rInD X.K false):=by
 intro pins s σ H x y v u Q I rx ry h
 obtain⟨p,xs,ds,d,rfl,hq,hs,hx,hd,q⟩:=h
 cases ry
 have hin:X.A.in1.units+zaz ds < cLine:=by rw[Around.in1_units];omega
 rcases hq with hq | hq
 ·obtain⟨its,r,pl,hz⟩:=I.list hq
  refine SeqAt.in_listAt (hitD X.K H d) pl.isList (fun w hw=>zcB I hx rx hs r hin w (by simpa using hw)) ⟨.bl _,H,I,rfl,?_⟩
  rw[show its.toArray.any (hitD X.K H d)=its.any (hitD X.K H d) by simp,zda I hs r]
  exact q
 ·obtain⟨its,r,pl,hz⟩:=I.tuple hq
  refine SeqAt.in_tupleAt (hitD X.K H d) pl (fun w hw=>zcB I hx rx hs r hin w (by simpa using hw)) ⟨.bl _,H,I,rfl,?_⟩
  rw[show its.toArray.any (hitD X.K H d)=its.any (hitD X.K H d) by simp,zda I hs r]
  exact q
theorem zdo (hu:X.A.units+64 < cLine):OpR X (compareOp .NotIn) (rInD X.K true):=by
 intro pins s σ H x y v u Q I rx ry h
 obtain⟨p,xs,ds,d,rfl,hq,hs,hx,hd,q⟩:=h
 cases ry
 have hin:X.A.in1.units+zaz ds < cLine:=by rw[Around.in1_units];omega
 rcases hq with hq | hq
 ·obtain⟨its,r,pl,hz⟩:=I.list hq
  refine SeqAt.notIn_listAt (hitD X.K H d) pl.isList (fun w hw=>zcB I hx rx hs r hin w (by simpa using hw)) ⟨.bl _,H,I,rfl,?_⟩
  rw[show its.toArray.any (hitD X.K H d)=its.any (hitD X.K H d) by simp,zda I hs r]
  exact q
 ·obtain⟨its,r,pl,hz⟩:=I.tuple hq
  refine SeqAt.notIn_tupleAt (hitD X.K H d) pl (fun w hw=>zcB I hx rx hs r hin w (by simpa using hw)) ⟨.bl _,H,I,rfl,?_⟩
  rw[show its.toArray.any (hitD X.K H d)=its.any (hitD X.K H d) by simp,zda I hs r]
  exact q
def zk2 (K:W.Frag):V→List V→Hp→VK→Prop:=fun x vs H Q=>∃ l xs ds y d j,x=.ref l∧vs=[y]∧H l=some (.lst xs)∧aj K H ds xs∧Has K H d y∧zaz ds≤60 ∧
 (∃ dj,ds[j]?=some dj∧peq dj d=true)∧(∀ m dm,m < j→ds[m]?=some dm→peq dm d=false)∧Q (.int (j:Nat)) H
theorem zdp (hu:X.A.units+64 < cLine):MtM X "list.index" (zk2 X.K):=by
 intro pins s σ H x vs v us Q I rx rv h
 obtain⟨l,xs,ds,y,d,j,rfl,rfl,hH,hs,hy,hd,⟨dj,ej,hj⟩,hno,q⟩:=h
 cases rx
 obtain⟨u,rfl,ru⟩:=rv.one
 obtain⟨z,its,n,r,hl,e⟩:=I.lstM hH
 have hlen:=hs.length
 have hjl:j < ds.length:=(List.getElem?_eq_some_iff.mp ej).1
 have hin:X.A.in1.units+zaz ds < cLine:=by rw[Around.in1_units];omega
 have at_:∀ m (hm:m < its.toArray.size),∃ dm,ds[m]?=some dm∧hitD X.K H d its.toArray[m]=peq dm d:=fun m hm=>by
  have hm':m < ds.length:=by rw[List.size_toArray]at hm;omega
  obtain⟨w,e1,e2⟩:=hs.getD (List.getElem?_eq_getElem hm')
  obtain⟨wv,e3,e4⟩:=r.get e1
  have e5:its.toArray[m]=wv:=by
   have:its[m]?=some wv:=e3
   simp only[List.getElem_toArray]
   rw[List.getElem?_eq_getElem (by rw[List.size_toArray]at hm;exact hm)]at this
   exact Option.some.inj this
  exact⟨_,List.getElem?_eq_getElem hm',by rw[e5];exact zf0 I e4 e2⟩
 have hjs:j < its.toArray.size:=by rw[List.size_toArray];omega
 have hsm:(j:Int) < 2 ^ 63 - 1:=by
  have:=sizeLine_eq
  omega
 refine call_meets F.slot_list_index ⟨_,e,rfl⟩ F.entry_list_index (F.args_list_index_2 _ _) (SeqAt.list_indexAt l its.toArray n none #[] u (hitD X.K H d) j hjs hsm ?_ ?_) ⟨e,?_,?_⟩
 ·obtain⟨dm,e1,e2⟩:=at_ j hjs
  rw[ej]at e1
  cases e1
  rw[e2,hj]
 ·intro m hm hlt
  obtain⟨dm,e1,e2⟩:=at_ m hm
  rw[e2,hno m dm hlt e1]
 ·intro w hw
  exact zcB I hy ru hs r hin w (by simpa using hw)
 ·exact⟨.int (j:Nat),H,I.tok _,⟨_,rfl⟩,q⟩
end
end L2
namespace L2
open PySem PySem.Spec PyProof.Rows
structure FB (P:Program) (w:World) (K:W.Frag) (mg:Str→Option Value) (base:Heap) (CX:CXT) (k:Nat) (x:Str) (f:Addr) (fd:FuncData) (ps:List Str) (sp:Sp):Prop where
 ok:FnOk P w K mg base CX k f fd ps sp
 b:ay K fd ps []
 kp:W.keepIn K (.ref f)=true
 m:mg x=some (.ref f)
theorem bsz (n:Nat) (h:n≤1000):n≤sizeLine:=Nat.le_of_lt (zaT h)
theorem zkO {k:Nat} {A:Around} (hr:aL k A):A.units+64 < cLine:=hr.units
theorem zaC {α:Type} {xs:List α} {i:Nat} {x:α} (h:xs[i]?=some x):xs.take (i+1)=xs.take i++[x]:=by
 rw[List.take_add_one,h]
 rfl
theorem ar {H:Hp} {p:Addr} (h:H p=none) (o:HO):ax H (upd H p o):=fun b u q=>by rw[au (zaj q h)];exact q
theorem ax.upd {H0 H:Hp} {l:Addr} {o:HO} (s:ax H0 H) (h:H0 l=none):ax H0 (upd H l o):=fun b u q=>by rw[au (zaj q h)];exact s b u q
theorem ax.kt {H H':Hp} (s:ax H H'):KeepT H H':=KeepT.of_same s
theorem ax.tup {K:W.Frag} {H H':Hp} {a:Addr} {xs:List V} (s:ax H H') (h:SqT K H a xs):SqT K H' a xs:=s.kt.sq h
structure Wk (J:It) (n:Nat) (Ok:Hp→Prop):Prop where
 stop:∀ i H,Ok H→n≤i→J.stop i H
 go:∀ i H,Ok H→i < n→J.go i H
theorem zdU {lo:Int} {n:Nat}:Wk (Itr lo n) n (fun _=>True):=⟨fun _ _ _ h=>h,fun _ _ _ h=>h⟩
theorem zbI {K:W.Frag} {a:Addr} {xs:List V}:Wk (Itl K a) xs.length (fun H=>SqL K H a xs):=⟨fun _ _ h hi=>⟨xs,h,hi⟩,fun i _ h hi=>⟨xs,xs[i],h,by simp [hi]⟩⟩
theorem zdB {K:W.Frag} {a:Addr} {xs:List V}:Wk (Itt K a) xs.length (fun H=>SqT K H a xs):=⟨fun _ _ h hi=>⟨xs,h,hi⟩,fun i _ h hi=>⟨xs,xs[i],h,by simp [hi]⟩⟩
def LcW (n:Nat) (D:Addr) (Pv:Nat→List V→Hp→Prop) (i m:Nat) (ys:List V) (H:Hp):Prop:=m=n - i∧i≤n∧ys.length≤i∧H D=some (.lst ys)∧Pv i ys H
def zjz (n:Nat) (D:Addr) (Pv:Nat→List V→Hp→Prop) (i:Nat) (ys:List V):VK:=fun y H3=>H3 D=some (.lst ys)∧ys.length < sizeLine∧∃ m',m' < n - i∧LcW n D Pv (i+1) m' (ys++[y]) (upd H3 D (.lst (ys++[y])))
theorem zaY {n:Nat} {D:Addr} {Pv:Nat→List V→Hp→Prop} {i:Nat} {ys:List V} {y:V} {H3:Hp} (hn:n≤sizeLine) (hi:i < n) (hl:ys.length≤i) (hD:H3 D=some (.lst ys)) (p:Pv (i+1) (ys++[y]) (upd H3 D (.lst (ys++[y])))):zjz n D Pv i ys y H3 :=
 ⟨hD,by omega,n - (i+1),by omega,rfl,hi,by rw[List.length_append,List.length_singleton];omega,ae,p⟩
theorem zbC {J:It} {n:Nat} {Ok:Hp→Prop} {te:TE} {fv:St} {H1:Hp} {D:Addr} {R:Hp→Prop} (W:Wk J n Ok) (Pv:Nat→List V→Hp→Prop) (hok:∀ i ys H,Pv i ys H→Ok H) (h0:Pv 0 [] (upd H1 D (.lst [])))
  (hs:∀ i ys H' x H'',i < n→ys.length≤i→H' D=some (.lst ys)→Pv i ys H'→J.yld i H' x H''→te (some x :: fv) H'' (zjz n D Pv i ys)) (hd:∀ ys H',H' D=some (.lst ys)→Pv n ys H'→R H') :
  ∃ W:Nat→Nat→List V→Hp→Prop,(∃ m,W 0 m [] (upd H1 D (.lst [])))∧∀ i m ys H',W i m ys H'→H' D=some (.lst ys) ∧
   ((J.stop i H'∧R H')∨(J.go i H'∧∀ x H'',J.yld i H' x H''→te (some x :: fv) H'' fun y H3=>H3 D=some (.lst ys)∧ys.length < sizeLine∧∃ m',m' < m∧W (i+1) m' (ys++[y]) (upd H3 D (.lst (ys++[y]))))):=by
 refine⟨LcW n D Pv,⟨n,rfl,Nat.zero_le _,Nat.zero_le _,ae,h0⟩,?_⟩
 rintro i m ys H' ⟨rfl,hi,hl,hD,p⟩
 refine⟨hD,?_⟩
 by_cases hlt:i < n
 ·exact .inr ⟨W.go i H' (hok _ _ _ p) hlt,fun x H'' y=>hs i ys H' x H'' hlt hl hD p y⟩
 ·have e:i=n:=by omega
  subst e
  exact .inl ⟨W.stop i H' (hok _ _ _ p) (Nat.le_refl _),hd ys H' hD p⟩
theorem zes {J:It} {n:Nat} {Ok:Hp→Prop} {g:TG} {tb:TS} {D:zaW} {σ:St} {H:Hp} (W:Wk J n Ok) (Pv:Nat→St→Hp→Prop) (hok:∀ i σ H,Pv i σ H→Ok H) (h0:Pv 0 σ H)
  (hs:∀ i σ H x H',i < n→Pv i σ H→J.yld i H x H'→g x σ H' fun σ2 H2=>tb { D with nx:=Pv (i+1),ct:=Pv (i+1),bk:=D.nx } σ2 H2) (hd:∀ σ H,Pv n σ H→D.nx σ H) :
  ∃ W:Nat→Nat→St→Hp→Prop,(∃ m,W 0 m σ H)∧∀ i m σ H,W i m σ H →
   (J.stop i H∧D.nx σ H)∨(J.go i H∧∃ N:St→Hp→Prop,(∀ σ' H',N σ' H'→∃ m',m' < m∧W (i+1) m' σ' H')∧∀ x H',J.yld i H x H'→g x σ H' fun σ2 H2=>tb { D with nx:=N,ct:=N,bk:=D.nx } σ2 H2):=by
 refine⟨fun i m σ H=>m=n - i∧i≤n∧Pv i σ H,⟨n,by simp,Nat.zero_le _,h0⟩,?_⟩
 rintro i m σ H ⟨rfl,hi,p⟩
 by_cases hlt:i < n
 ·exact .inr ⟨W.go i H (hok _ _ _ p) hlt,Pv (i+1),fun σ' H' p'=>⟨n - (i+1),by omega,rfl,hlt,p'⟩,fun x H' y=>hs i σ H x H' hlt p y⟩
 ·have e:i=n:=by omega
  subst e
  exact .inl ⟨W.stop i H (hok _ _ _ p) (Nat.le_refl _),hd σ H p⟩
theorem Has.str' {K:W.Frag} {H:Hp} {x:Str}:Has K H (.str x) (.str x):=by simp only[Has]
theorem aj.nil {K:W.Frag} {H:Hp}:aj K H [] []:=by simp only[aj]
theorem aj.cons {K:W.Frag} {H:Hp} {d:Dt} {ds:List Dt} {v:V} {vs:List V} (h:Has K H d v) (r:aj K H ds vs):aj K H (d :: ds) (v :: vs):=by
 simp only[aj]
 exact⟨v,vs,rfl,h,r⟩
theorem Has.tup' {K:W.Frag} {H:Hp} {ds:List Dt} {a:Addr} {xs:List V} (h:SqT K H a xs) (r:aj K H ds xs):Has K H (.tup ds) (.ref a):=by
 simp only[Has]
 exact⟨a,xs,rfl,h,r⟩
theorem Has.lst' {K:W.Frag} {H:Hp} {ds:List Dt} {a:Addr} {xs:List V} (h:SqL K H a xs) (r:aj K H ds xs):Has K H (.lst ds) (.ref a):=by
 simp only[Has]
 exact⟨a,xs,rfl,h,r⟩
theorem zeF {K:W.Frag} {H:Hp}:∀ {ns:List Int} {vs:List V},aj K H (ns.map Dt.int) vs→vs=ns.map V.int
 | [],vs,h=>by simp only[List.map_nil,aj]at h;rw[h];rfl
 | n :: ns,vs,h=>by
  simp only[List.map_cons,aj]at h
  obtain⟨v,r,rfl,h1,h2⟩:=h
  simp only[Has]at h1
  rw[h1,zeF h2]
  rfl
def dP (t:Int × Int):Dt:=.tup [.int t.1,.int t.2]
end L2
namespace PySem
open Sem (wp)
namespace F
end F
section
variable {prog:Program} {w:World} {K:Type} [DecidableEq K] {knd:KeyKind prog w K} {A:Around}
end
end PySem
namespace L2
open PySem PySem.Spec PyProof.Rows
section
variable {κ:Type} [DecidableEq κ]
def valV (kvs:List (κ × V)) (k:κ):Option V:=(kvs.find? fun kv=>decide (kv.1=k)).map (·.2)
def putK (kvs:List (κ × V)) (k:κ) (v:V):List (κ × V) :=
 if(kvs.any fun kv=>decide (kv.1=k))=true then kvs.map (fun kv=>if kv.1=k then(kv.1,v) else kv) else kvs++[(k,v)]
theorem KV.any {kvs:List (κ × V)} {vs:List (κ × Value)} (r:KV kvs vs) (k:κ):(kvs.any fun kv=>decide (kv.1=k))=vs.any fun kv=>decide (kv.1=k):=by
 unfold KV at r
 induction r with
 | nil=>rfl
 | cons h t ih=>rw[List.any_cons,List.any_cons,ih,h.1]
theorem KV.length {kvs:List (κ × V)} {vs:List (κ × Value)} (r:KV kvs vs):kvs.length=vs.length:=Paired.length r
end
section
variable {P:Program} {w:World} {H:Hp} {h:Heap} {a:Addr}
end
def DGet (H:Hp) (a:Addr) (y:V) (r:Option V):Prop :=
 (∃ kvs k,Rd H a (.dK kvs)∧y=kV k∧r=valV kvs k)∨∃ kvs k b,Rd H a (.dT kvs)∧y=.ref b∧H b=some (.tup (k.map kV))∧r=valV kvs k
def DPut (H:Hp) (a:Addr) (y v:V) (H':Hp):Prop :=
 (∃ kvs k,H a=some (.dK kvs)∧y=kV k∧kvs.length < sizeLine∧H'=upd H a (.dK (putK kvs k v))) ∨
 ∃ kvs k b,H a=some (.dT kvs)∧y=.ref b∧H b=some (.tup (k.map kV))∧kvs.length < sizeLine∧H'=upd H a (.dT (putK kvs k v))
theorem DGet.k {H:Hp} {a:Addr} {kvs:List (Key × V)} {k:Key} (e:H a=some (.dK kvs)):DGet H a (kV k) (valV kvs k):=.inl ⟨kvs,k,.inl e,rfl,rfl⟩
theorem DGet.t {H:Hp} {a b:Addr} {kvs:List (List Key × V)} {k:List Key} (e:H a=some (.dT kvs)) (eb:H b=some (.tup (k.map kV))):DGet H a (.ref b) (valV kvs k):=.inr ⟨kvs,k,b,.inl e,rfl,eb,rfl⟩
theorem DPut.k {H:Hp} {a:Addr} {kvs:List (Key × V)} {k:Key} {v:V} (e:H a=some (.dK kvs)) (hl:kvs.length < sizeLine):DPut H a (kV k) v (upd H a (.dK (putK kvs k v))):=.inl ⟨kvs,k,e,rfl,hl,rfl⟩
theorem DPut.t {H:Hp} {a b:Addr} {kvs:List (List Key × V)} {k:List Key} {v:V} (e:H a=some (.dT kvs)) (eb:H b=some (.tup (k.map kV))) (hl:kvs.length < sizeLine) :
  DPut H a (.ref b) v (upd H a (.dT (putK kvs k v))):=.inr ⟨kvs,k,b,e,rfl,eb,hl,rfl⟩
section
variable {X:Cx} {pins:List (Addr × Obj)} {σ:St} {H:Hp} {s:Shared} {a:Addr} {y v:V} {u r:Value} {o:Option V} {A:Around} {E:Value→Shared→Prop}
end
section
variable {X:Cx} {pins:List (Addr × Obj)} {σ:St} {H:Hp} {s:Shared} {a:Addr} {kvs:List (Key × V)} {k:Key} {u:Value} {A:Around} {E:Value→Shared→Prop}
end
section
variable {X:Cx} {o i e value:Expr} {pos pos' tpos:Pos} {td ty tv:TE}
end
section
variable {X:Cx} {pos:Pos}
end
section
variable {X:Cx} {pins:List (Addr × Obj)} {σ:St} {H:Hp} {s:Shared} {a:Addr} {y d:V} {u r:Value} {o:Option V} {A:Around} {E:Value→Shared→Prop}
end
section
variable {X:Cx} {o e f:Expr} {apos cpos:Pos} {td ty tx:TE}
end
section
variable {X:Cx} {pins:List (Addr × Obj)} {σ:St} {H:Hp} {s:Shared} {a:Addr} {kvs:List (Key × V)} {A:Around} {E:Value→Shared→Prop}
end
section
variable {X:Cx} {pins:List (Addr × Obj)} {σ:St} {H:Hp} {s:Shared} {a:Addr} {y:V} {u:Value} {A:Around} {E:Value→Shared→Prop}
end
end L2
namespace L2
open PySem PySem.Spec PyProof.Rows
section
variable {X:Cx}
end
section
variable {κ:Type} [DecidableEq κ]
end
end L2
namespace L2
open PySem PySem.Spec PyProof.Rows
section
variable {X:Cx}
end
end L2
namespace L2
open PySem PySem.Spec PyProof.Rows
theorem zie {ps:List Int} {i:Nat} {x:V} (h:(ps.map V.int)[i]?=some x):∃ k,ps[i]?=some k∧x=.int k:=by
 rw[List.getElem?_map]at h
 cases e:ps[i]? with
 | none=>rw[e]at h;cases h
 | some k =>
  rw[e]at h
  exact⟨k,rfl,(Option.some.inj h).symm⟩
def aJ:List Int→List Int→List Int
 | acc,[]=>acc
 | acc,p :: ps=>aJ (if p∈acc then acc else acc++[p]) ps
theorem zc8 {n:Int}:∀(ps acc:List Int),n∈aJ acc ps↔n∈acc∨n∈ps
 | [],acc=>by simp [aJ]
 | p :: ps,acc=>by
  unfold aJ
  rw[zc8 ps]
  by_cases e:p∈acc
  ·rw[if_pos e]
   constructor
   ·rintro (h | h)
    ·exact .inl h
    ·exact .inr (List.mem_cons_of_mem _ h)
   ·rintro (h | h)
    ·exact .inl h
    ·rcases List.mem_cons.mp h with rfl | h
     ·exact .inl e
     ·exact .inr h
  ·rw[if_neg e]
   simp only[List.mem_append,List.mem_cons,List.not_mem_nil,or_false]
   exact or_assoc
def nf (row held:List Int):List Int:=aJ [] (row.filter fun p=>decide (-p∉held))
end L2
namespace L2
open PySem PySem.Spec PyProof.Rows
section
variable {X:Cx}
end
end L2
namespace L2
open PySem PySem.Spec PyProof.Rows
section
variable {X:Cx} {N':List Str} {scope:Scope} {cl:List (Str × Addr)} {fp:List Addr} {pins:List (Addr × Obj)} {σ:St} {H:Hp} {s:Shared}
end
section
variable {X:Cx} {N':List Str} {scope:Scope} {elt iter tg:Expr} {L:Nat} {pos:Pos} {wi:TI} {g:TG} {te:TE} {ix:List Nat}
end
section
variable {X:Cx} {N':List Str} {scope:Scope} {elt iter c tg:Expr} {L:Nat} {pos:Pos} {wi:TI} {g:TG} {tc:TT} {te:TE} {ix:List Nat}
end
end L2
namespace L2
open PySem PySem.Spec PyProof.Rows
section
variable {X:Cx}
theorem zhO:zcV X (.builtin "isinstance") (fun xs H Q=>∃ p ys n b,xs=[.ref p,.ty n]∧SqT X.K H p ys∧W.kitOne X.K (.type "tuple") (.type n)=some b∧Q (.bl b) H):=by
 intro pins s σ H xs us Q I r h
 obtain⟨p,ys,n,b,rfl,hq,hk,q⟩:=h
 obtain⟨u,w',rfl,rx,ry⟩:=vals2 r
 cases (show w'=Value.type n from ry)
 cases rx
 obtain⟨its,rv,⟨o,h1,h2,_⟩,hz⟩:=I.tuple hq
 exact W.kia_one W.kitx_tuple I.kIn ⟨o,h1,h2⟩ hk (fun z=>nomatch z) fun tk=>⟨.bl b,H,I.tok _,rfl,q⟩
end
end L2
namespace L2
open PySem PySem.Spec PyProof.Rows
theorem zjU (sep x:Str):Builtin.Str.glued sep [x]=x:=rfl
def zbc (xs:List Str):Nat:=(xs.map Str.length).sum
theorem zhF (sep:Str):∀(xs:List Str) (a:Array Nat),(xs.foldl (fun acc p=>acc++sep.cps++p.cps) a).size≤a.size+zbc xs+xs.length * sep.length
 | [],a=>by simp [zbc]
 | x :: xs,a=>by
  rw[List.foldl_cons]
  refine Nat.le_trans (zhF sep xs _) ?_
  rw[Array.size_append,Array.size_append]
  simp only[zbc,List.map_cons,List.sum_cons,List.length_cons,Nat.add_mul,Nat.one_mul]
  show a.size+sep.length+x.length+_+_≤_
  omega
theorem zbU (sep:Str):∀ xs:List Str,(Builtin.Str.glued sep xs).length≤zbc xs+xs.length * sep.length
 | []=>Nat.zero_le _
 | x :: xs=>by
  refine Nat.le_trans (zhF sep xs x.cps) ?_
  simp only[zbc,List.map_cons,List.sum_cons,List.length_cons,Nat.add_mul,Nat.one_mul]
  show x.length+_+_≤_
  omega
section
variable {X:Cx}
theorem zhX:∀ {xs:List Str} {us:List Value},aH (xs.map V.str) us→∃ l:List (Str × Tok),us=strValues l∧l.map (·.1)=xs
 | [],us,r=>by
  have e:us=[]:=aH.zero r
  exact⟨[],by rw[e];rfl,rfl⟩
 | x :: xs,us,r=>by
  cases r with
  | cons r1 rr =>
   obtain⟨l,e1,e2⟩:=zhX rr
   obtain⟨t,e3⟩:=r1
   refine⟨(x,t) :: l,?_,by rw[List.map_cons,e2]⟩
   rw[e3,e1]
   rfl
theorem zgr (k:Nat):∀(xs:List Str) (a:Nat),xs.foldl (fun n x=>n+x.length+k) a=a+zbc xs+xs.length * k
 | [],a=>by simp [zbc]
 | x :: xs,a=>by
  rw[List.foldl_cons,zgr k xs]
  simp only[zbc,List.map_cons,List.sum_cons,List.length_cons,Nat.add_mul,Nat.one_mul]
  omega
def rJoin (K:W.Frag):V→List V→Hp→VK→Prop:=fun x vs H Q=>∃ sep p xs,x=.str sep∧vs=[.ref p]∧SqL K H p (xs.map V.str)∧zbc xs+xs.length * sep.length≤sizeLine∧Q (.str (Builtin.Str.glued sep xs)) H
theorem zdI:MtR X "str.join" (rJoin X.K):=by
 intro pins s σ H x vs v us Q I rx rv h
 obtain⟨sep,p,xs,rfl,rfl,hq,hz,q⟩:=h
 obtain⟨t,rfl⟩:=rx
 obtain⟨u,rfl,ru⟩:=rv.one
 cases ru
 obtain⟨its,r,pl,hz2⟩:=I.list hq
 obtain⟨l,rfl,e2⟩:=zhX r
 have hl:Builtin.Str.tooLong ((l.map (·.1)).toArray.foldl (·+·.length+sep.length) 0)=false:=by
  rw[e2]
  unfold Builtin.Str.tooLong
  rw[List.foldl_toArray,zgr]
  exact decide_eq_false (by omega)
 refine call_meets F.slot_str_join (typeIs_str s sep t) F.entry_str_join (F.args_str_join_2 _ _) (meets_str_join_list sep t p l hl) ⟨pl.isList,?_⟩
 match l,e2 with
 | [],e2 =>
  subst e2
  exact⟨Nat.le_trans (zbU _ _) hz,.str (Builtin.Str.glued sep []),H,I.tok _,⟨_,rfl⟩,q⟩
 | [a],e2 =>
  subst e2
  exact⟨.str a.1,H,I,⟨_,rfl⟩,q⟩
 | a :: b :: c,e2 =>
  subst e2
  exact⟨Nat.le_trans (zbU _ _) hz,.str _,H,I.tok _,⟨_,rfl⟩,q⟩
end
end L2
namespace L2
open PySem PySem.Spec PyProof.Rows
section
variable {X:Cx} {tg:Expr}
end
end L2
namespace L2
open PySem PySem.Spec PyProof.Rows
set_option maxRecDepth 100000
section
variable {prog:Program} {w:World} {A:Around} {E:Value→Shared→Prop} {s:Shared} {J:Addr} {fp wr:List Addr} {G:Array GenState→Array GenState→Prop} {n:Nat} {P:Nat→Value→Prop} {St:Nat→Shared→Prop}
end
end L2
namespace L2
open PySem PySem.Spec PyProof.Rows
set_option maxRecDepth 100000
section
variable {prog:Program} {w:World} {A:Around} {R:Result→Shared→Prop} {J:Addr} {fp wr:List Addr} {n:Nat} {P:Nat→Value→Prop} {St:Nat→Heap→Prop} {kw:List (Str × Value)}
end
section
variable {prog:Program} {w:World} {A:Around} {E:Value→Shared→Prop} {s:Shared}
end
section
variable {X:Cx}
end
end L2
namespace HT
open PySem PyProof.Rows
section
variable {prog:Program} {w:World} {A:Around} {E:Value→Shared→Prop} {s:Shared}
end
end HT
namespace L2
open PySem PySem.Spec PyProof.Rows
section
variable {X:Cx}
end
end L2
namespace L2
open PySem PySem.Spec PyProof.Rows
section
variable {X:Cx} {tg:Expr}
end
end L2
namespace L2
open PySem PySem.Spec PyProof.Rows
set_option maxRecDepth 100000
section
variable {X:Cx}
end
end L2
namespace L2
open PySem PySem.Spec PyProof.Rows
set_option maxRecDepth 100000
section
variable {X:Cx}
end
end L2
namespace L2
open PySem PySem.Spec PyProof.Rows
section
variable {P:Program} {w:World}
abbrev Sgn:=Str × List Key
def zgZ (P:Program) (w:World) (h:Heap) (k:Sgn) (a:Addr):Prop :=
 ∃(o:Obj) (t:Tok) (q:Addr) (n:Nat),h.get? a=some o∧o.cls=.type "tuple"∧o.data=.seq #[.str k.1 t,.ref q] n∧IsTupleKey (zfX P w) h k.2 q
theorem zgZ.inj {h:Heap} {a:Addr} {x y:Sgn} (hx:zgZ P w h x a) (hy:zgZ P w h y a):x=y:=by
 obtain⟨o,t,q,n,ho,_,hd,hi⟩:=hx
 obtain⟨o',t',q',n',ho',_,hd',hi'⟩:=hy
 cases ho.symm.trans ho'
 have e:=hd.symm.trans hd'
 injection e with e _
 have e2:[Value.str x.1 t,.ref q]=[Value.str y.1 t',.ref q']:=congrArg Array.toList e
 injection e2 with e3 e4
 injection e3 with e5 _
 injection e4 with e6 _
 injection e6 with e7
 subst e7
 exact Prod.ext e5 (hi.inj hi')
variable {A:Around} {E:Value→Shared→Prop} {s:Shared}
end
section
variable {prog:Program} {w:World} {K:Type} [DecidableEq K] {knd:HeapKind prog w K} {A:Around} {E:Value→Shared→Prop} {s:Shared}
end
end L2
namespace L2
open PySem PySem.Spec PyProof.Rows
section
variable {X:Cx}
end
end L2
namespace HT
open PySem PySem.Spec PyProof.Rows
section
variable {prog:Program} {w:World} {A:Around} {E:Value→Shared→Prop} {s:Shared}
end
end HT
namespace L2
open PySem PySem.Spec PyProof.Rows
section
variable {X:Cx} {e st:Expr} {te ts:TE} {pos p2:Pos}
end
end L2
namespace L2
open PySem PySem.Spec PyProof.Rows
section
variable {prog:Program} {w:World} {A:Around} {E:Value→Shared→Prop} {s:Shared}
def TuI (h:Heap) (it t:Addr) (i:Nat) (xs:Array Value):Prop:=h.IsTupleIter it t i∧h.IsTuple t xs
theorem TuI.ext {h h':Heap} {it t b:Addr} {i:Nat} {xs:Array Value} (x:TuI h it t i xs) (hs:Heap.ExtBut b h h') (h1:it≠b) (h2:t≠b):TuI h' it t i xs:=⟨x.1.extBut hs h1,x.2.extBut hs h2⟩
end
section
variable {prog:Program} {w:World} {A:Around} {E:Value→Shared→Prop} {s:Shared}
end
end L2
namespace L2
open PySem PySem.Spec PyProof.Rows
section
variable {X:Cx}
end
end L2
namespace L2
open PySem PySem.Spec PyProof.Rows
section
variable {X:Cx}
end
end L2
namespace L2
open PySem PySem.Spec PyProof.Rows
section
variable {prog:Program} {w:World} {A:Around} {E:Value→Shared→Prop} {s:Shared}
end
end L2
namespace L2
open PySem PySem.Spec PyProof.Rows
end L2
namespace L2
open PySem PySem.Spec PyProof.Rows
section
variable {prog:Program} {w:World} {A:Around} {E:Value→Shared→Prop} {s:Shared}
end
end L2
namespace L2
open PySem PySem.Spec PyProof.Rows
section
variable {X:Cx}
end
end L2
namespace L2
open PySem PySem.Spec PyProof.Rows
section
variable {P:Program} {w:World} {H H':Hp} {h h' B:Heap} {a:Addr} {o:HO}
theorem zbv.there (x:zbv P w H h a o):∃ ob,h.get? a=some ob:=by
 cases o with
 | lst xs=>obtain⟨_,_,_,_,q⟩:=x;exact⟨_,q⟩
 | tup xs=>obtain⟨_,_,_,ob,q,_⟩:=x;exact⟨_,q⟩
 | dK kvs=>obtain⟨_,_,_,_,o,_,_,q,_⟩:=x;exact⟨_,q⟩
 | dT kvs=>obtain⟨_,_,_,_,o,_,_,q,_⟩:=x;exact⟨_,q⟩
 | set S n=>obtain⟨o,_,_,_,q,_⟩:=x;exact⟨_,q⟩
 | ins C dx fs=>obtain⟨_,_,_,q,_⟩:=x;exact⟨_,q⟩
 | own y=>exact x
 | xd fs=>obtain⟨_,⟨_,_,_,q,_⟩,_⟩:=x;exact⟨_,q⟩
 | rng lo hi=>obtain⟨_,_,_,q⟩:=x;exact⟨_,q⟩
 | frz ob u=>exact⟨_,x.1⟩
 | tbl ps=>exact⟨_,(show h.get? a=some _ from x)⟩
 | met f y=>exact⟨_,(show h.get? a=some _ from x)⟩
 | ext φ=>exact x.2.1
def Trk (H:Hp) (h B:Heap):Prop:=∀ b ob,H b≠none→h.get? b=some ob→B.get? b=some ob
def Old (fs:List Addr) (H:Hp) (h B:Heap):Prop:=∀ b ob,h.get? b=some ob→b∉fs→∃ ob',B.get? b=some ob'∧(H b=none→ob'=ob)
theorem HOk.stays (ok:HOk P w H h) (t:Trk H h B) (k:B.StaysIn h'):HOk P w H h':=fun a o e =>
 (ok a o e).stay (fun b u hb q=>k b u (t b u (hb.elim (fun z=>by rw[z,e];exact nofun) fun z=>by rw[z];exact nofun) q)) (fun _ q=>q) fun _ _ q=>q
theorem Trk.stays (ok:HOk P w H h) (t:Trk H h B) (k:B.StaysIn h'):Trk H h' B:=fun b ob hb e=>by
 cases q:H b with
 | none=>exact absurd q hb
 | some u =>
  obtain⟨ob1,e1⟩:=(ok b u q).there
  have z:=t b ob1 hb e1
  have z2:=k b ob1 z
  rw[e]at z2
  cases z2
  exact z
end
def CX1 (P:Program) (w:World):CXT:=fun outer H s E e s'=>∃(ea C:Addr) (H':Hp) (B:Heap) (a0:Value),e=.ref ea∧s'.os=s.os∧AllBare s'.gens∧Un (frs outer) [] H H' s.heap s'.heap∧HOk P w H' s'.heap ∧
 Heap.FlyingW B outer ea (.ref C) a0 s'.heap∧Trk H' s'.heap B∧Old (frs outer) H s.heap B∧E (.ref C) none H'
structure Xe1 (X:Cx) (E:XK):Prop where
 xe:X.xe=fun e s'=>wpAny (model X.prog X.w) X.A (leaving X.env e) (fun _ s''=>CX1 X.prog X.w X.outer X.H₀ X.s₀ E e s'') (fun e' s''=>CX1 X.prog X.w X.outer X.H₀ X.s₀ E e' s'') s'
 stk:X.stack=X.env :: X.outer
 fr:X.env.frame=some X.env.locals
 ex:X.ex=[]
section
variable {X:Cx} {E:XK} {pins:List (Addr × Obj)} {σ:St} {H H':Hp} {s s':Shared} {B:Heap} {ea C:Addr} {a0:Value}
theorem zij (hx:Xe1 X E) (I:Inv X pins σ H s) {s'':Shared} (os:s''.os=s.os) (bare:AllBare s''.gens) (u:Un (frs X.stack) [] H H' s.heap s'.heap) (ok:HOk X.prog X.w H' s'.heap)
  (fl:Heap.FlyingW B X.outer ea (.ref C) a0 s''.heap) (sm:s'.heap.UpToSlots s''.heap) (trk:Trk H' s'.heap B) (old:Old (frs X.stack) H s.heap B) (hE:E (.ref C) none H') :
  CX1 X.prog X.w X.outer X.H₀ X.s₀ E (.ref ea) s'':=by
 have hfs:frs X.stack=X.env.locals :: X.fs:=by
  rw[hx.stk]
  unfold frs
  rw[List.filterMap_cons,hx.fr]
  rfl
 have nx:∀ b,b∉X.ex:=fun b hb=>by rw[hx.ex]at hb;cases hb
 have nf:∀ b ob,X.s₀.heap.get? b=some ob→b∉X.fs→b∉frs X.stack:=fun b ob e hb z=>by
  rw[hfs]at z
  rcases List.mem_cons.mp z with z | z
  ·exact absurd (Nat.lt_of_lt_of_le (Heap.lt_size e) I.ok.above) (by rw[z];exact Nat.lt_irrefl _)
  ·exact hb z
 have st:B.StaysIn s''.heap:=fl.1
 have U:=I.base
 have old':Old X.fs X.H₀ X.s₀.heap B:=fun b ob e hb=>by
  obtain⟨o1,e1⟩:=U.there b ob e (nx b)
  obtain⟨o',eB,hB⟩:=old b o1 e1 (nf b ob e hb)
  refine⟨o',eB,fun n=>?_⟩
  have k:=U.keep b ob e n hb (nx b)
  rw[e1]at k
  cases k
  exact hB (U.free b ob e n (nx b))
 have slot:∀ b ob,X.s₀.heap.get? b=some ob→X.H₀ b=none→b∈X.fs→∃ sl,s''.heap.get? b=some { ob with slots:=sl }:=fun b ob e n hb=>by
  obtain⟨sl,k⟩:=U.slot b ob e n hb (nx b)
  obtain⟨sl2,k2⟩:=u.any k (U.free b ob e n (nx b)) (by simp)
  obtain⟨_,o3,e3,hd⟩:=I.ok.funs.mem hb
  rw[e]at e3
  cases e3
  obtain⟨sl3,k3⟩:=sm b _ k2 fun vs q=>hd vs q
  exact⟨sl3,k3⟩
 refine⟨ea,C,H',B,a0,rfl,os.trans I.os,bare,⟨fun b ob e n hb _=>?_,fun b ob e n hb _=>slot b ob e n hb,fun b ob e n _=>?_,fun b ob e _=>?_,fun b xs q=>u.tups b xs (U.tups b xs q),fun b ob xs q=>u.frzs b ob xs (U.frzs b ob xs q),fun b ps q=>?_⟩,
  ok.stays trk st,fl,Trk.stays ok trk st,old',hE⟩
 ·obtain⟨o',eB,hB⟩:=old' b ob e hb
  rw[hB n]at eB
  exact st b ob eB
 ·obtain⟨o1,e1⟩:=U.there b ob e (nx b)
  exact u.free b o1 e1 (U.free b ob e n (nx b)) (by simp)
 ·by_cases hb:b∈X.fs
  ·obtain⟨sl,k⟩:=slot b ob e (I.ok.frf b hb) hb
   exact⟨_,k⟩
  ·obtain⟨o',eB,_⟩:=old' b ob e hb
   exact⟨o',st b o' eB⟩
 ·obtain⟨m1,e1⟩:=U.tbls b ps q
  obtain⟨m2,e2⟩:=u.tbls b _ e1
  exact⟨m1++m2,by rw[e2,Array.append_assoc]⟩
theorem zbM (hx:Xe1 X E):zbq (CX1 X.prog X.w) X E:=by
 intro pins σ H s e s' I h
 obtain⟨ea,C,H',B,a0,rfl,os,bare,u,ok,fl,trk,old,hE⟩:=h
 rw[hx.xe]
 have fl2:=fl
 rw[hx.stk]at fl2
 have hfr:X.A.frames=some (X.env :: X.outer):=by rw[I.ok.frames,hx.stk]
 exact wpAny_leaves_onW hfr hx.fr fl2 fun h' fl' sm=>zij hx I os bare u ok fl' sm trk old hE
theorem zkN {h':Heap} {vs:List Value} (hx:Xe1 X E) (I:Inv X pins σ H s) (m:Heap.MadeExcOf s.heap h' ea (.ref C) vs) (hE:E (.ref C) none H):X.xe (.ref ea) { s with heap:=h' }:=by
 rw[hx.xe]
 have hl:s.heap.FunFrames (W.hideAll s.heap (frs X.stack)) X.stack:=W.funFrames_hide I.stack fun env he a ha=>List.mem_filterMap.mpr ⟨env,he,ha⟩
 have hl2:s.heap.FunFrames (W.hideAll s.heap (frs X.stack)) (X.env :: X.outer):=by
  have z:=hl
  rw[show X.stack=X.env :: X.outer from hx.stk]at z ⊢
  exact z
 have hfr:X.A.frames=some (X.env :: X.outer):=by rw[I.ok.frames,hx.stk]
 refine wpAny_leaves_madeW (base:=W.hideAll s.heap (frs X.stack)) (h:=s.heap) hfr hx.fr (fun b ob q=>W.of_hideAll _ q) hl2 m fun h'' t fl _ _ sm=>?_
 refine zij (s':={ s with heap:=h' }) hx I rfl I.bare (Un.kept m.keeps) (I.hok.kept m.keeps) fl sm (fun b ob hb q=>?_) (fun b ob q hb=>⟨ob,W.hideAll_get _ q hb,fun _=>rfl⟩) hE
 cases z:H b with
 | none=>exact absurd z hb
 | some v =>
  obtain⟨o1,e1⟩:=(I.hok b v z).there
  have e2:=m.keeps b o1 e1
  have q':h'.get? b=some ob:=q
  rw[q']at e2
  cases e2
  exact W.hideAll_get _ e1 fun y=>hb (I.stkFree b y)
theorem own_at {K:W.Frag} {hp:Heap} {bmB:List Value} {newId:String} (XI:K.In hp) (q:W.excIn K C bmB newId=true) :
  ∃ bm N nm qn bs hdct sn sub ab col dd k0 k1 k2 k3 k5 mN,hp.get? C=some (excClassObj nm qn C N bs bm hdct sn sub ab col dd k0 k1 k2 k3 k5 newId)∧hp.Ns N mN∧mN "__init__"=none∧OwnTail hp bmB bm:=by
 unfold W.excIn at q
 split at q
 ·rename_i d1 c1 l1 hC1
  split at q
  ·rename_i C2 bm2 y0 y1 y2 y3 n2 y5 hm2 hs2
   simp only[Bool.and_eq_true,beq_iff_eq,Bool.not_eq_true']at q
   obtain⟨⟨⟨⟨⟨rfl,rfl⟩,hdl⟩,htl⟩,hno⟩,hin⟩:=q
   obtain⟨nm,bs,mro,ns,qn,hd,sn,sub,ab,col,del⟩:=c1
   dsimp only at hm2 hdl hno hin
   subst hm2 hdl
   have hsl:l1=#[y0,y1,y2,y3,some (.builtin n2),y5]:=by
    obtain⟨l⟩:=l1
    simp only at hs2
    rw[hs2]
   subst hsl
   exact⟨bm2,ns,nm,qn,bs,hd,sn,sub,ab,col,d1,y0,y1,y2,y3,y5,_,XI _ _ hC1,.of_isNs (W.isNs_of_in XI hno),W.nsMap_none_of_in XI hno hin,W.tail_of_in XI htl⟩
  ·cases q
 ·cases q
variable {e0:Expr} {zbR:List Expr} {t:TA} {x:Str} {np cpos pos:Pos} {Bn newId initId:String} {bm:List Value}
def tRaise (E:XK) (C:Addr) (t:TA):TS:=fun _ σ H=>t σ H fun vs H1=>vs.length≤sizeLine∧E (.ref C) none H1
theorem zb7 (hx:Xe1 X E) (hc:X.calm=true) (hg:Gl X x) (hm:X.mg x=some (.ref C)) (F:ExcBaseFacts Bn newId initId bm) (q:W.excIn X.K C bm newId=true) (ha:PA X (e0 :: zbR) t)
  (hdb:(x == ("__debug__":Str))=false:=by decide) (hse:starEach (e0 :: zbR) X.env=(false,eval e0 X.env) :: starEach zbR X.env:=by rfl) (hpl:(backTo cpos (starEach zbR X.env)).any (·.1)=false:=by rfl) :
  PS X (.Raise (some (.Call (.Name x np) (e0 :: zbR) [] cpos)) none pos) (tRaise E C t):=by
 intro pins s σ H D I h
 obtain⟨tl,N,nm,qn,bs,hdct,sn,sub,ab,col,dd,k0,k1,k2,k3,k5,mN,hC,hN,hni,T⟩:=own_at (C:=C) I.mod.kin q
 refine wpAny_Raise_call_subT (C:=C) (nm:=nm) (q:=qn) (N:=N) (bs:=bs) (bm:=tl) (hdct:=hdct) (sn:=sn) (sub:=sub) (ab:=ab) (col:=col) (dd:=dd) (k0:=k0) (k1:=k1) (k2:=k2) (k3:=k3) (k5:=k5) F (mN:=mN)
  (T.hasType F.hasBase) (I.ok.hd hc) (by rw[hse];show(false||(backTo cpos (starEach zbR X.env)).any (·.1))=false;rw[hpl];rfl) hni (zdN I hg hm ⟨rfl,?_⟩ hdb)
 have g:=ha cpos pins s σ H _ I h
 rw[hse]at g ⊢
 refine Calls.evalArgs_plain (wpAny_mono g (fun vs s2 ⟨ws,H2,I2,r2,hz,hE⟩=>?_) fun _ _ y=>y)
 exact⟨rfl,by rw[←r2.length];exact hz,I2.bk _ _ hC,hN.keeps I2.bk,T.keeps I2.bk,fun h' ea m=>zkN hx I2 m hE⟩
end
end L2
namespace L2
open PySem PySem.Spec PyProof.Rows
abbrev Cx.tryc (X:Cx) (pins:List (Addr × Obj)) (E1:Value→Shared→Prop):Cx:={ X with pn:=X.pn++pins,xe:=E1 }
section
variable {X:Cx} {pins:List (Addr × Obj)} {σ:St} {H H':Hp} {s s':Shared} {B:Heap} {ea C:Addr} {a0:Value} {D:zaW} {f:Flow} {E1:Value→Shared→Prop}
theorem Inv.tryc (I:Inv X pins σ H s) (E1:Value→Shared→Prop):Inv (X.tryc pins E1) [] σ H s :=
 ⟨⟨I.ok.mod,I.ok.kind,I.ok.glob,I.ok.blt,I.ok.above,I.ok.inj,I.ok.has,I.ok.cab,I.ok.hd,I.ok.frames,I.ok.stk,I.ok.exf,I.ok.bs,I.ok.bsz,I.ok.noex,I.ok.exfs,I.ok.funs,I.ok.frf⟩,I.os,I.bare,I.base,I.loc,I.cell,I.free,I.freeC,
  fun p hp=>I.pin p (by simpa using hp),I.hok,I.len⟩
theorem Inv.untryc {pins1:List (Addr × Obj)} (ok:X.Ok) (I:Inv (X.tryc pins E1) pins1 σ H s):Inv X pins σ H s :=
 ⟨ok,I.os,I.bare,I.base,I.loc,I.cell,I.free,I.freeC,fun p hp=>I.pin p (List.mem_append_left _ hp),I.hok,I.len⟩
theorem SP.untryc {pins1:List (Addr × Obj)} (ok:X.Ok) (h:SP (X.tryc pins E1) pins1 D f s):SP X pins D f s:=by
 cases f with
 | next=>obtain⟨a,b,I,q⟩:=h;exact⟨a,b,I.untryc ok,q⟩
 | brk=>obtain⟨a,b,I,q⟩:=h;exact⟨a,b,I.untryc ok,q⟩
 | cont=>obtain⟨a,b,I,q⟩:=h;exact⟨a,b,I.untryc ok,q⟩
 | ret u=>obtain⟨v,a,b,I,r,q⟩:=h;exact⟨v,a,b,I.untryc ok,r,q⟩
structure Came (X:Cx) (pins:List (Addr × Obj)) (σ:St) (H:Hp) (s:Shared) (H':Hp) (B:Heap) (s':Shared):Prop where
 I:Inv X pins σ H s
 os:s'.os=s.os
 bare:AllBare s'.gens
 u:Un (frs X.stack) [] H H' s.heap s'.heap
 ok:HOk X.prog X.w H' s'.heap
 trk:Trk H' s'.heap B
 old:Old (frs X.stack) H s.heap B
theorem Came.inv (c:Came X pins σ H s H' B s') {h':Heap} (st:B.StaysIn h') (sm:s'.heap.UpToSlots h'):Inv X pins σ H' { s' with heap:=h' }:=by
 have slot:∀ b ob,s.heap.get? b=some ob→H b=none→b∈frs X.stack→∃ sl,h'.get? b=some { ob with slots:=sl }:=fun b ob e n hb=>by
  obtain⟨sl,k⟩:=c.u.slot b ob e n hb (by simp)
  obtain⟨_,o3,e3,hd⟩:=c.I.stack.mem hb
  rw[e]at e3
  cases e3
  obtain⟨sl3,k3⟩:=sm b _ k fun vs q=>hd vs q
  exact⟨sl3,k3⟩
 refine c.I.call' (s':={ s' with heap:=h' }) (ch:=[]) c.os ⟨fun b ob e n hb _=>?_,fun b ob e n hb _=>slot b ob e n hb,fun b ob e n _=>c.u.free b ob e n (by simp),fun b ob e _=>?_,c.u.tups,c.u.frzs,c.u.tbls⟩ (c.ok.stays c.trk st) c.bare (fun b hb=>by cases hb)
 ·obtain⟨o',eB,hB⟩:=c.old b ob e hb
  rw[hB n]at eB
  exact st b ob eB
 ·by_cases hb:b∈frs X.stack
  ·obtain⟨sl,k⟩:=slot b ob e (c.I.stkFree b hb) hb
   exact⟨_,k⟩
  ·obtain⟨o',eB,_⟩:=c.old b ob e hb
   exact⟨o',st b o' eB⟩
def PH (X:Cx) (hs:List ExceptHandler) (th:Addr→TS):Prop :=
 ∀(pins:List (Addr × Obj)) (σ:St) (H:Hp) (s:Shared) (H':Hp) (B:Heap) (s':Shared) (D:zaW) (ea C:Addr) (a0:Value) (h':Heap),Came X pins σ H s H' B s'→Heap.FlyingW B X.stack ea (.ref C) a0 h'→s'.heap.UpToSlots h'→th C D σ H' →
  wpAny (model X.prog X.w) X.A (handleBy (.ref ea) X.env hs) (SP X pins D) X.xe { s' with heap:=h' }
theorem zkf {hs:List ExceptHandler}:PH X hs (fun _=>tNever):=fun _ _ _ _ _ _ _ _ _ _ _ _ _ _ _ z=>z.elim
def tTry (n:Nat) (tb:XK→TS) (th:Addr→TS):TS:=fun D σ H=>tb (fun c _ H'=>∃ C,c=.ref C∧∀ σ1:St,σ1.length=n→th C D σ1 H') D σ H
theorem ps_try {body:List Stmt} {h0:ExceptHandler} {hs:List ExceptHandler} {pos:Pos} {tb:XK→TS} {th:Addr→TS} (hst:X.stack=X.env :: X.outer) (hfr:X.env.frame=some X.env.locals)
  (hb:∀(pins:List (Addr × Obj)) (E1:Value→Shared→Prop) (Eb:XK),zbq (CX1 X.prog X.w) (X.tryc pins E1) Eb→PSs (X.tryc pins E1) body (tb Eb)) (hh:PH X (h0 :: hs) th) :
  PS X (.Try body (h0 :: hs) [] [] pos) (tTry X.N.length tb th):=by
 intro pins s σ H D I h
 refine wpAny_Try_except ?_
 have hp:zbq (CX1 X.prog X.w) (X.tryc pins (fun e s1=>wpAny (model X.prog X.w) X.A (noteFrame e X.env) (fun _ s2=>wpAny (model X.prog X.w) X.A (setFlight e none) (fun _ s3=>wpAny (model X.prog X.w) X.A (handleBy e X.env (h0 :: hs)) (SP X pins D) X.xe s3) X.xe s2) X.xe s1))
   (fun c _ H'=>∃ C,c=.ref C∧∀ σ1:St,σ1.length=X.N.length→th C D σ1 H'):=by
  intro pins1 σ1 H1 s1 e s' I1 hcx
  obtain⟨ea,C,H',B,a0,rfl,os,bare,u,ok,fl,trk,old,C',ec,hE⟩:=hcx
  cases ec
  have c:Came X pins σ1 H1 s1 H' B s':=⟨I1.untryc I.ok,os,bare,u,ok,trk,old⟩
  have fl':Heap.FlyingW B (X.env :: X.outer) ea (.ref C) a0 s'.heap:=by
   have z:=fl
   rw[show(X.tryc pins _).stack=X.env :: X.outer from hst]at z
   exact z
  have hfs:X.A.frames=some (X.env :: X.outer):=by rw[I.ok.frames,hst]
  refine wpAny_looks_onW hfs hfr fl' fun h2 fl2 sm2=>?_
  refine wpAny_landsW fl2 fun h3 fl3 sm3=>?_
  rw[←hst]at fl3
  exact hh pins σ1 H1 s1 H' B s' D ea C a0 h3 c fl3 (sm2.trans sm3) (hE σ1 I1.len)
 refine wpAny_mono (hb pins _ _ hp [] s σ H D (I.tryc _) h) (fun f s1 q=>?_) fun e s1 q=>q
 have q':SP X pins D f s1:=q.untryc I.ok
 cases f with
 | next=>exact wpAny_execs_nil q'
 | brk=>exact q'
 | cont=>exact q'
 | ret u=>exact q'
end
end L2
namespace L2
open PySem PySem.Spec PyProof.Rows
section
variable {X:Cx} {pins:List (Addr × Obj)} {σ:St} {H H':Hp} {s s':Shared} {B:Heap} {ea C:Addr} {a0:Value} {D:zaW} {f:Flow}
end
end L2
namespace L2
open PySem
end L2
namespace L2
open PySem PySem.Spec PyProof.Rows
section
variable {M:Model} {A:Around} {E:Value→Shared→Prop} {s:Shared}
theorem ziX {base:Heap} {l:List Env} {e:Addr} {cls a0 fl:Value} {fo:Option Addr} {Q:Unit→Shared→Prop} (st:base.StaysIn s.heap) (fr:s.heap.FunFrames base l) (tr:s.heap.TracedAtW base e cls a0 fl)
  (k:∀ h',base.StaysIn h'→h'.FunFrames base l→h'.TracedAtW base e cls a0 (fo.elim .none fun f=>rawInt f)→(∀ b o,s.heap.get? b=some o→(∀ vs,o.data≠.fields vs)→h'.get? b=some o)→Q () { s with heap:=h' }) :
  wpAny M A (setFlight (.ref e) fo) Q E s:=by
 obtain⟨oe,vs,T,oT,ts,ge,gcls,gd,g1,gnT,gTe,gT,gdT,g3⟩:=tr
 have lt3:=(Array.getElem?_eq_some_iff.mp g3).1
 have oth:∀ b,b≠T→(s.heap.update T (Obj.mapFields (·.setIfInBounds 3 (fo.elim Value.none fun f=>rawInt f)))).get? b=s.heap.get? b:=fun b nb=>Heap.get?_update_other _ _ (Ne.symm nb)
 have nr:∀ b o,s.heap.get? b=some o→(∀ vs,o.data≠.fields vs)→b≠T:=by
  intro b o hb hnf q
  rw[q,gT]at hb
  cases hb
  exact hnf ts gdT
 unfold setFlight
 refine wpAny_bind (wpAny_field ge gd g1 ?_)
 rw[if_pos (by simp)]
 refine wpAny_setField gT gdT lt3 (k _ ?_ ?_ ?_ ?_)
 ·intro b o q
  rw[oth b fun z=>by rw[z,gnT]at q;cases q]
  exact st b o q
 ·exact fr.of_keeps fun b o hb hnf=>⟨o,(oth b (nr b o hb hnf)).trans hb,rfl⟩
 ·exact⟨oe,vs,T,_,_,(oth e (Ne.symm gTe)).trans ge,gcls,gd,g1,gnT,gTe,Heap.get?_update_self _ gT (Obj.isFreed_of_fields (Obj.data_mapFields gdT _)),Obj.data_mapFields gdT _,by simp [lt3]⟩
 ·exact fun b o hb hnf=>(oth b (nr b o hb hnf)).trans hb
theorem ziU {base:Heap} {env:Env} {outer:List Env} {L e:Addr} {cls a0 fl:Value} {Q:Unit→Shared→Prop} (af:A.frames=some (env :: outer)) (ef:env.frame=some L) (st:base.StaysIn s.heap) (hen:base.get? e=none)
  (fr:s.heap.FunFrames base (env :: outer)) (tr:s.heap.TracedAtW base e cls a0 fl) (k:∀ h',Heap.FlyingW base outer e cls a0 h'→s.heap.UpToSlots h'→Q () { s with heap:=h' }):wpAny M A (leaving env (.ref e)) Q E s:=by
 by_cases hz:fl=rawInt L
 ·subst hz
  unfold leaving
  refine wpAny_bind (wpAny_noteFrame_againW ef tr ?_)
  refine wpAny_landsW ⟨st,hen,fr,tr⟩ fun h' hfl sm=>?_
  obtain⟨k1,k2,⟨_,_,k3⟩,k4⟩:=hfl
  exact k h' ⟨k1,k2,k3,k4⟩ sm
 ·obtain⟨oe,vs,T,oT,ts,ge,⟨gc,g0⟩,gd,g1,gnT,gTe,gT,gdT,g3⟩:=tr
  subst gc
  have oth:∀ b,b≠T→(s.heap.update T (Obj.mapFields (·.setIfInBounds 3 Value.none))).get? b=s.heap.get? b:=fun b nb=>Heap.get?_update_other _ _ (Ne.symm nb)
  have nr:∀ b o,s.heap.get? b=some o→(∀ vs,o.data≠.fields vs)→b≠T:=by
   intro b o hb hnf q
   rw[q,gT]at hb
   cases hb
   exact hnf ts gdT
  unfold leaving noteFrame
  simp only[ef]
  refine wpAny_bind (wpAny_bind (wpAny_field ge gd g1 ?_))
  rw[if_pos (by simp)]
  refine wpAny_bind (wpAny_field gT gdT g3 ?_)
  rw[if_neg (by simpa using hz)]
  refine wpAny_bind (wpAny_setField gT gdT (Array.getElem?_eq_some_iff.mp g3).1 ?_)
  refine wpAny_newEntryW af (fr.of_keeps fun b o hb hnf=>⟨o,(oth b (nr b o hb hnf)).trans hb,rfl⟩) ef ((oth e (Ne.symm gTe)).trans ge) (fun b o q=>(oth b fun z=>by rw[z,gnT]at q;cases q).trans (st b o q)) hen gd (Array.getElem?_eq_some_iff.mp g1).1 g0 fun h' hL=>?_
  obtain⟨k1,⟨_,_,k2⟩,k3,k4⟩:=hL
  exact k h' ⟨k1,hen,k2,k3⟩ fun b o hb hnf=>k4 b o ((oth b (nr b o hb hnf)).trans hb) hnf
theorem zfG {h h' base base':Heap} {c:Addr} (sb:Heap.SameBut c h h') (hb:∀ b,base.get? b=none→base'.get? b=none):∀ {l:List Env},h.FunFrames base l→(∀ env∈l,env.frame≠some c)→h'.FunFrames base' l
 | [],_,_=>trivial
 | env :: l,⟨hk,⟨L,o,e1,e2,e3,e4⟩,r⟩,hc=>by
  have nL:L≠c:=fun z=>hc env (List.mem_cons_self ..) (by rw[e1,z])
  exact⟨hk,⟨L,o,e1,hb L e2,(sb.2 L nL).trans e3,e4⟩,zfG sb hb r fun env' he=>hc env' (List.mem_cons_of_mem _ he)⟩
end
section
variable {X:Cx} {E:XK} {pins:List (Addr × Obj)} {σ:St} {H H':Hp} {s s':Shared} {B:Heap} {ea C:Addr} {a0:Value}
theorem Xe1.frs (hx:Xe1 X E):L2.frs X.stack=X.env.locals :: X.fs:=by
 rw[hx.stk]
 unfold L2.frs
 rw[List.filterMap_cons,hx.fr]
 rfl
theorem zkI (hx:Xe1 X E) (I:Inv X pins σ H s) {s'':Shared} {c:Addr} (hc:X.s₀.heap.objs.size≤c) (hcf:c∉X.fs) (os:s''.os=s.os) (bare:AllBare s''.gens) (u:Un (frs X.stack) [] H H' s.heap s'.heap) (ok:HOk X.prog X.w H' s'.heap)
  (fl:Heap.FlyingW B X.outer ea (.ref C) a0 s''.heap) (sm:∀ b o,b≠c→s'.heap.get? b=some o→(∀ vs,o.data≠.fields vs)→∃ sl,s''.heap.get? b=some { o with slots:=sl }) (trk:Trk H' s'.heap B)
  (old:∀ b ob,b≠c→s.heap.get? b=some ob→b∉frs X.stack→∃ ob',B.get? b=some ob'∧(H b=none→ob'=ob)) (hE:E (.ref C) none H') :
  CX1 X.prog X.w X.outer X.H₀ X.s₀ E (.ref ea) s'':=by
 have hfs:=hx.frs
 have nx:∀ b,b∉X.ex:=fun b hb=>by rw[hx.ex]at hb;cases hb
 have nc:∀ b ob,X.s₀.heap.get? b=some ob→b≠c:=fun b ob e z=>absurd (z ▸ Heap.lt_size e) (Nat.not_lt.mpr hc)
 have nf:∀ b ob,X.s₀.heap.get? b=some ob→b∉X.fs→b∉frs X.stack:=fun b ob e hb z=>by
  rw[hfs]at z
  rcases List.mem_cons.mp z with z | z
  ·exact absurd (Nat.lt_of_lt_of_le (Heap.lt_size e) I.ok.above) (by rw[z];exact Nat.lt_irrefl _)
  ·exact hb z
 have st:B.StaysIn s''.heap:=fl.1
 have U:=I.base
 have old':Old X.fs X.H₀ X.s₀.heap B:=fun b ob e hb=>by
  obtain⟨o1,e1⟩:=U.there b ob e (nx b)
  obtain⟨o',eB,hB⟩:=old b o1 (nc b ob e) e1 (nf b ob e hb)
  refine⟨o',eB,fun n=>?_⟩
  have k:=U.keep b ob e n hb (nx b)
  rw[e1]at k
  cases k
  exact hB (U.free b ob e n (nx b))
 have slot:∀ b ob,X.s₀.heap.get? b=some ob→X.H₀ b=none→b∈X.fs→∃ sl,s''.heap.get? b=some { ob with slots:=sl }:=fun b ob e n hb=>by
  obtain⟨sl,k⟩:=U.slot b ob e n hb (nx b)
  obtain⟨sl2,k2⟩:=u.any k (U.free b ob e n (nx b)) (by simp)
  obtain⟨_,o3,e3,hd⟩:=I.ok.funs.mem hb
  rw[e]at e3
  cases e3
  obtain⟨sl3,k3⟩:=sm b _ (fun z=>hcf (z ▸ hb)) k2 fun vs q=>hd vs q
  exact⟨sl3,k3⟩
 refine⟨ea,C,H',B,a0,rfl,os.trans I.os,bare,⟨fun b ob e n hb _=>?_,fun b ob e n hb _=>slot b ob e n hb,fun b ob e n _=>?_,fun b ob e _=>?_,fun b xs q=>u.tups b xs (U.tups b xs q),fun b ob xs q=>u.frzs b ob xs (U.frzs b ob xs q),fun b ps q=>?_⟩,
  ok.stays trk st,fl,Trk.stays ok trk st,old',hE⟩
 ·obtain⟨o',eB,hB⟩:=old' b ob e hb
  rw[hB n]at eB
  exact st b ob eB
 ·obtain⟨o1,e1⟩:=U.there b ob e (nx b)
  exact u.free b o1 e1 (U.free b ob e n (nx b)) (by simp)
 ·by_cases hb:b∈X.fs
  ·obtain⟨sl,k⟩:=slot b ob e (I.ok.frf b hb) hb
   exact⟨_,k⟩
  ·obtain⟨o',eB,_⟩:=old' b ob e hb
   exact⟨o',st b o' eB⟩
 ·obtain⟨m1,e1⟩:=U.tbls b ps q
  obtain⟨m2,e2⟩:=u.tbls b _ e1
  exact⟨m1++m2,by rw[e2,Array.append_assoc]⟩
theorem zhT {N':List Str} {scope:Scope} {cl:List (Str × Addr)} {fp:List Addr} {Qc:Value→Shared→Prop} {acc:Value} (hx:Xe1 X E) (I:Inv X pins σ H s) (f3:∀ b∈fp,zbg X pins H b) :
  zbq (CX1 X.prog X.w) ((zav X N' scope cl fp s H).wish (notedBy (model X.prog X.w) X.A (compEnvC scope cl s.heap.objs.size X.env) fun e s'=>compPost (model X.prog X.w) X.A X.xe none Qc acc s.heap.objs.size (.error e) s')) E:=by
 intro pins' σ' H5 s5 e s' J5 h
 obtain⟨ea,Cc,H',B,a0,rfl,os,bare,u,ok,fl,trk,old,hE⟩:=h
 have J5':Inv (zav X N' scope cl fp s H) pins' σ' H5 s5:=J5.unwish
 have fl2:Heap.FlyingW B (X.env :: X.outer) ea (.ref Cc) a0 s'.heap:=hx.stk ▸ (show Heap.FlyingW B X.stack ea (.ref Cc) a0 s'.heap from fl)
 have af:X.A.frames=some (X.env :: X.outer):=by rw[I.ok.frames,hx.stk]
 show wpAny (model X.prog X.w) X.A (noteFrame (.ref ea) X.env) (fun _ s''=>compPost (model X.prog X.w) X.A X.xe none Qc acc s.heap.objs.size (.error (.ref ea)) s'') (fun e s''=>compPost (model X.prog X.w) X.A X.xe none Qc acc s.heap.objs.size (.error e) s'') s'
 refine wpAny_looks_onW af hx.fr fl2 fun h1 held sm1=>?_
 have cm:Came (zav X N' scope cl fp s H) pins' σ' H5 s5 H' B s':=⟨J5',os,bare,u,ok,trk,old⟩
 have J6:=cm.inv held.1 sm1
 obtain⟨m,hn,_⟩:=J6.loc
 have hn':h1.Ns s.heap.objs.size m:=hn
 have Hc:H' s.heap.objs.size=none:=J6.free
 refine⟨m,hn',fun h2 hsb cenv' _=>?_⟩
 have I5:Inv X pins σ H5 s5:=zd5 I (J5'.pins_of (pins':=[]) (fun p hp=>by cases hp)) f3 (Heap.SameBut.refl _ _)
 generalize hcc:s.heap.objs.size=c at *
 have hcs:X.s₀.heap.objs.size≤c:=hcc ▸ I.sz
 have hcf:c∉X.fs:=I.nofs (Nat.le_of_eq hcc)
 have hcl:X.env.locals≠c:=hcc ▸ Nat.ne_of_lt I.lt
 have hcn:c∉frs X.stack:=by
  rw[hx.frs]
  intro z
  rcases List.mem_cons.mp z with z | z
  ·exact hcl z.symm
  ·exact hcf z
 obtain⟨oe,vs,T,oT,ts,ge,gc,gd,g1,gnT,gTe,gT,gdT,g3⟩:=held.2.2.2
 have nd:∀ b o ws,h1.get? b=some o→o.data=.fields ws→b≠c:=by
  intro b o ws e1 e2 z
  obtain⟨o',es,ep,e3,e4,_⟩:=hn'
  rw[z,e3]at e1
  cases e1
  rw[e4]at e2
  cases e2
 have hen':(W.hideAll B [c]).get? ea=none:=by
  cases z:(W.hideAll B [c]).get? ea with
  | none=>rfl
  | some o =>
   have:=W.of_hideAll _ z
   rw[held.2.1]at this
   cases this
 have hnn:∀ b,B.get? b=none→(W.hideAll B [c]).get? b=none:=by
  intro b q
  cases z:(W.hideAll B [c]).get? b with
  | none=>rfl
  | some o =>
   have:=W.of_hideAll _ z
   rw[q]at this
   cases this
 have st':(W.hideAll B [c]).StaysIn h2:=by
  intro b o q
  have nb:b≠c:=by
   intro z
   rw[z,W.hideAll_none [c] (by simp)]at q
   cases q
  exact(hsb.2 b nb).trans (held.1 b o (W.of_hideAll _ q))
 have fr':h2.FunFrames (W.hideAll B [c]) (X.env :: X.outer):=by
  refine zfG hsb hnn held.2.2.1 fun env he z=>hcn ?_
  rw[hx.stk]
  exact List.mem_filterMap.mpr ⟨env,he,z⟩
 have tr':h2.TracedAtW (W.hideAll B [c]) ea (.ref Cc) a0 (rawInt X.env.locals) :=
  ⟨oe,vs,T,oT,ts,(hsb.2 _ (nd _ _ _ ge gd)).trans ge,gc,gd,g1,hnn T gnT,gTe,(hsb.2 _ (nd _ _ _ gT gdT)).trans gT,gdT,g3⟩
 unfold PySem.passOn
 refine wpAny_bind (wpAny_field ((hsb.2 _ (nd _ _ _ ge gd)).trans ge) gd g1 ?_)
 rw[if_neg (by simp)]
 refine wpAny_bind (ziX st' fr' tr' fun h3 k1 k2 k3 k4=>?_)
 refine wpAny_throw ?_
 rw[hx.xe]
 refine ziU af hx.fr k1 hen' k2 k3 fun h4 hfl sm4=>?_
 refine zkI (s':=s') hx I5 hcs hcf os bare u ok hfl (fun b o nb e hnf=>?_) (fun b ob hb e=>W.hideAll_get _ (trk b ob hb e) fun z=>hb ?_) (fun b ob nb e hb=>?_) hE
 ·obtain⟨sl1,e1⟩:=sm1 b o e hnf
  obtain⟨sl2,e2⟩:=sm4 b _ (k4 b _ ((hsb.2 b nb).trans e1) hnf) hnf
  exact⟨sl2,e2⟩
 ·rw[List.mem_singleton.mp z]
  exact Hc
 ·obtain⟨ob',eB,hB⟩:=old b ob e hb
  exact⟨ob',W.hideAll_get _ eB (by simpa using nb),hB⟩
end
section
variable {X:Cx} {N':List Str} {scope:Scope} {elt iter:Expr} {x:Str} {px pos:Pos} {wi:TI} {te:TE} {ix:List Nat} {E:XK}
end
end L2
namespace L2
open PySem PySem.Spec PyProof.Rows
section
variable {X:Cx} {N':List Str} {scope:Scope} {elt iter:Expr} {x:Str} {px pos:Pos} {wi:TI} {te:TE} {ix:List Nat} {E:XK}
theorem zjG (hx1:Xe1 X E) {i:Nat} {y0:Str} {py spos:Pos} (hNy:X.N.Nodup) (hiy:X.N[i]?=some y0) (hy:Loc X.env.scope y0) (hc:X.calm=true) (hkind:scope.kind=.function) (hcell:∀ y∈scope.names,y.2≠.cell) (hnames:∀ y∈scope.names,y.2=.local→scope.names.lookup y.1=some .local) (hx:scope.names.lookup x=some .local)
  (hclo:X.Ok→∃ cl,Clo X scope cl) (hN:N'.Nodup) (hN0:N'[0]?=some x) (hlen:N'.length=ix.length+1)
  (hix:∀(j i:Nat),ix[j]?=some i→∃ y,X.N[i]?=some y∧N'[j+1]?=some y∧(X.env.kindOf y=some .cell∨X.env.kindOf y=some .free)∧((relabel scope X.env).names.lookup y=some .cell∨(relabel scope X.env).names.lookup y=some .free))
  (hi:PI X (.Name x px) iter wi) (he:∀ cl fp s₃ H₃ xe0,zbq (CX1 X.prog X.w) ((zav X N' scope cl fp s₃ H₃).wish xe0) E→PE ((zav X N' scope cl fp s₃ H₃).wish xe0) elt te) (hsw:swapsWith (.ListComp elt [⟨.Name x px,iter,[],0⟩] scope pos) (some (.Name y0 py)) spos.line X.env=pure true:=by rfl)
  (hf:X.fn y0=true∨X.env.scope.names.lookup y0=some .local:=by first | exact .inl rfl | exact .inr rfl | assumption) (hs:∀ v,foldedSetIterable iter X.env v=pure v:=by intro _;rfl) :
  PS X (.Assign [.Name y0 py] (.ListComp elt [⟨.Name x px,iter,[],0⟩] scope pos) spos) (tAsg (tLC wi ix te) (zdk i)):=by
 intro pins s σ H Dn I h
 obtain⟨cl,C⟩:=hclo I.ok
 rw[exec_Assign_Name_used _ _ _ _ hsw]
 refine wpAny_bind (wpAny_standAt (wpAny_bind ?_))
 rw[arm_evalThenUse_ListComp]
 refine wpAny_bind (wpAny_mono (wpAny_comprehension_free (use:=some (assign (.Name y0 py) X.env)) (Q:=fun _ s'=>∃ σ' H',Inv X pins σ' H' s'∧Dn.nx σ' H') rfl hs C.eq hkind hnames (thn (hi pins s σ H _ I h) fun v s1 h1=>thn h1 fun itv s2 h2=>?_)) (fun _ s' h'=>wpAny_pure (wpAny_pure h')) fun _ _ z=>z)
 obtain⟨it,fp,tn,J,H2,e,I2,T,st2,f2,q2⟩:=h2
 subst e
 have hD:H2 s2.heap.objs.size=none:=I2.fresh
 obtain⟨W,⟨m0,w0⟩,turn⟩:=q2 s2.heap.objs.size hD
 refine wpAny_newObj_type (wpAny_newFunctionEnv hcell (by intro y hy;simp at hy) (fun h₁ hns₁ hsb₁=>?_) hkind)
 dsimp only at hns₁ hsb₁ ⊢
 have I3:Inv X pins σ (upd H2 s2.heap.objs.size (.lst [])) { s2 with heap:=s2.heap.push { cls:=.type "list",data:=.seq ([]:List Value).toArray },toks:=s2.toks }:=I2.lnew .nil (Nat.zero_le _)
 generalize hs3:({ s2 with heap:=s2.heap.push { cls:=.type "list",data:=.seq ([]:List Value).toArray },toks:=s2.toks }:Shared)=s3 at I3
 have e3:s3.heap=s2.heap.push { cls:=.type "list",data:=.seq ([]:List Value).toArray }:=by rw[←hs3]
 generalize hDD:s2.heap.objs.size=D at *
 generalize hH3:upd H2 D (.lst [])=H3 at *
 have lt2:∀ b∈fp,b < s2.heap.objs.size:=fun b hb=>by
  obtain⟨o,ho,_⟩:=T.obj 0 _ st2 b hb
  exact Heap.lt_size ho
 have neD:∀ b∈fp,b≠D:=fun b hb=>by rw[←hDD];exact Nat.ne_of_lt (lt2 b hb)
 have f3:∀ b∈fp,zbg X pins H3 b:=fun b hb=>⟨by rw[←hH3,au (neD b hb)];exact(f2 b hb).1,(f2 b hb).2⟩
 have sz3:s3.heap.objs.size=D+1:=by rw[e3,Heap.size_push,hDD]
 have lt3:∀ b∈fp,b < s3.heap.objs.size:=fun b hb=>by have q:=lt2 b hb;rw[sz3];rw[hDD]at q;exact Nat.lt_succ_of_lt q
 have old:∀ b o,s3.heap.get? b=some o→h₁.get? b=some o:=fun b o eb=>by
  have hb:b < D+1:=by rw[←sz3];exact Heap.lt_size eb
  refine hsb₁.extBut b o ?_ (Heap.get?_push_of_some _ (by rw[←e3];exact eb))
  rw[Heap.size_push,hDD]
  exact Nat.ne_of_lt hb
 have szC:(s2.heap.push { cls:=.type "list",data:=.seq ([]:List Value).toArray }).objs.size=s3.heap.objs.size:=by rw[e3]
 have os3:s3.os=s2.os:=by rw[←hs3]
 rw[szC]at hns₁ hsb₁
 have I4:Inv (zav X N' scope cl fp s3 H3) [] (none :: fvs σ ix) H3 { s3 with heap:=h₁,toks:=s2.toks+([]:List (Str × Value)).length }:=zej I3 C hkind f3 lt3 hlen hix hns₁ old
 have st4:tn 0 h₁:=T.keep 0 _ _ st2 fun b hb o eb=>old b o (by rw[e3];exact Heap.get?_push_of_some _ eb)
 have stat:∀ {H':Hp},(∀ b∈fp,H' b=none)→∀ b∈fp,zbg (zav X N' scope cl fp s3 H3) [] H' b:=fun hn b hb =>
  ⟨hn b hb,Nat.ne_of_lt (lt3 b hb),fun hs'=>(zcy (N':=N') I3 C hkind f3 lt3).exfs b hb hs',.inl hb,fun y c hy=>((zcy (N':=N') I3 C hkind f3 lt3).exf b hb).2 y c hy,fun p hp=>absurd (show p∈([]:List (Addr × Obj)) from hp) (by simp)⟩
 have loop:∀ s4:Shared,s4={ s3 with heap:=h₁,toks:=s2.toks+([]:List (Str × Value)).length } →
   codeAny (model X.prog X.w) X.A (.compLoop (.ListComp elt [⟨.Name x px,iter,[],0⟩] scope pos) 0 (.ref it) (.ref D) (compEnvC scope cl s3.heap.objs.size X.env))
    (compPost (model X.prog X.w) X.A X.xe (some (assign (.Name y0 py) X.env)) (fun _ s'=>∃ σ' H',Inv X pins σ' H' s'∧Dn.nx σ' H') (.ref D) s3.heap.objs.size) s4:=by
  rintro s4 rfl
  refine zcI (fun n s'=>∃ i σ0 H' ys,Inv (zav X N' scope cl fp s3 H3) [] (σ0 :: fvs σ ix) H' s'∧tn i s'.heap∧(∀ b∈fp,H' b=none)∧W i n ys H') ?_ m0 ⟨0,none,H3,[],I4,st4,fun b hb=>(f3 b hb).1,w0⟩
  rintro n s5 ⟨i,σ0,H5,ys,I5,st5,fr5,w5⟩
  obtain⟨hD5,alt⟩:=turn i n ys H5 w5
  rcases alt with ⟨stop,q⟩ | ⟨go,step⟩
  ·refine thn (T.done (zav X N' scope cl fp s3 H3) rfl rfl rfl hc i [] s5 _ H5 _ I5 (stat fr5) st5 stop) fun r s6 ⟨hr,I6⟩=>?_
   subst hr
   obtain⟨m,hn,_⟩:=I6.loc
   have Io:Inv X pins σ H5 s6:=zd5 (h':=s6.heap) I3 I6 f3 ⟨rfl,fun _ _=>rfl⟩
   refine wpAny_assign_Name (zex (v:=.ref D) Io hNy hiy hy rfl (fun s7 I7 ⟨a,sb,ha⟩=>?_) hf)
   have ltC:∀ x c,X.env.cells.lookup x=some c→c < s3.heap.objs.size:=fun x c e=>by
    obtain⟨v,hv⟩:=I3.cell x c e
    exact hv.lt
   have hCa:s3.heap.objs.size≠a:=by
    rintro rfl
    rcases ha with z | z
    ·exact absurd I3.lt (by rw[←z];exact Nat.lt_irrefl _)
    ·exact absurd (ltC _ _ z) (Nat.lt_irrefl _)
   refine⟨m,hn.sameBut sb hCa,fun h' hsb=>⟨_,H5,?_,q⟩⟩
   exact I7.skip hsb I3.sz (Nat.ne_of_gt I3.lt) (fun x c e=>Nat.ne_of_lt (ltC x c e)) (fun p hp=>Nat.ne_of_lt (Heap.lt_size (I3.pin p hp).1)) I6.free
  ·refine thn (T.item (zav X N' scope cl fp s3 H3) rfl rfl rfl hc i [] s5 _ H5 _ I5 (stat fr5) st5 go) fun r s6 ⟨u,hr,h6⟩=>?_
   subst hr
   refine thn h6 fun _ s7 ⟨y7,H7,I7,r7,yl7,st7,fr7⟩=>?_
   have I7':=I7.pinned (stat fr7) (T.obj _ _ st7)
   have G:PG (zav X N' scope cl fp s3 H3) (.Name x px) (zdk 0):=zaP hN hN0 (.inl (lookup_relabel_local hx)) (.inr (lookup_relabel_local hx))
   refine wpAny_mono (G _ s7 _ H7 y7 u (fun σ' H'=>σ'=some y7 :: fvs σ ix∧H'=H7) I7' r7 ⟨rfl,rfl⟩) (fun _ s8 h8=>?_) fun _ _ f=>False.elim f
   obtain⟨σ8,H8,I8,rfl,rfl⟩:=h8
   refine wpAny_mono (he cl fp s3 H3 _ (zhT (Qc:=fun _ s'=>∃ σ' H',Inv X pins σ' H' s'∧Dn.nx σ' H') (acc:=.ref D) hx1 I3 f3) _ s8 _ H8 _ (I8.wish _) (step y7 H8 yl7)) (fun yv s9 h9=>?_) fun _ _ f=>f
   obtain⟨y9,H9,I9w,r9,hD9,hl9,m',hm',w9⟩:=h9
   have I9:=I9w.unwish
   refine wpAny_mono (zaK (X:=zav X N' scope cl fp s3 H3) _ s9 _ H9 (.ref D) [y9] (.ref D) [yv] (fun _ H'=>H'=upd H9 D (.lst (ys++[y9]))) I9 rfl (.cons r9 .nil) ⟨D,ys,y9,rfl,rfl,hD9,hl9,rfl⟩) (fun _ s10 h10=>?_) fun _ _ f=>False.elim f
   obtain⟨_,H10,I10,_,rfl⟩:=h10
   refine⟨m',hm',i+1,some y7,_,ys++[y9],I10.unpinned,T.keep _ _ _ st7 fun b hb o eb=>(I10.pin (b,o) (List.mem_append_right _ (List.mem_append_right _ (za1 hb eb)))).1,fun b hb=>?_,w9⟩
   obtain⟨o,eb,d⟩:=T.obj _ _ st7 b hb
   exact(I10.pin (b,o) (List.mem_append_right _ (List.mem_append_right _ (za1 hb eb)))).2.1
 subst hs3
 have fin:=codeAny_compStart_list (loop _ rfl) (T.self X.A 0 _ _ _ st4 (loop _ rfl))
 exact fin
end
end L2
namespace L2
open PySem PySem.Spec PyProof.Rows
section
variable {X:Cx}
theorem zgc:∀ l:List (Str × Tok),aH (l.map fun a=>V.str a.1) (strValues l)
 | []=>.nil
 | a :: l=>.cons ⟨_,rfl⟩ (zgc l)
theorem zjC (x y:Str):(Builtin.Str.partsBetween x (Builtin.Str.occurrences x y 0 x.length (x.length+1)) y.length).length≤x.length+2:=by
 have:=StrLaws.occ_length_le x y 0 x.length (x.length+1)
 simp only[Builtin.Str.partsBetween,List.length_map,List.length_zip,List.length_cons,List.length_append,List.length_nil]
 omega
def rSplit:V→List V→Hp→VK→Prop:=fun x vs H Q=>∃ z y,x=.str z∧vs=[.str y]∧(y.length == 0)=false∧z.length≤1000000∧∀ p,H p=none→Q (.ref p) (upd H p (.lst ((Txt.split z y).map V.str)))
theorem zfa:MtR X "str.split" rSplit:=by
 intro pins s σ H x vs v us Q I rx rv h
 obtain⟨z,y,rfl,rfl,hy,hz,q⟩:=h
 obtain⟨t,rfl⟩:=rx
 obtain⟨u,rfl,ru⟩:=rv.one
 obtain⟨tu,rfl⟩:=ru
 have hsz:z.length≤sizeLine:=Nat.le_trans hz (by rw[sizeLine_eq];decide)
 have hn:(Builtin.Str.partsBetween z (Builtin.Str.occurrences z y 0 z.length (z.length+1)) y.length).length≤sizeLine:=Nat.le_trans (zjC z y) (by rw[sizeLine_eq];omega)
 have one:∀ e:Txt.split z y=[z],wants (EP X pins σ Q) X.xe (.ok (.ret (.ref s.heap.objs.size))) { s with heap:=s.heap.push { cls:=.type "list",data:=.seq [Value.str z t].toArray } }:=fun e=>by
  have I1:=I.lnew (ys:=[.str z]) (its:=[Value.str z t]) (t':=s.toks) (.cons ⟨_,rfl⟩ .nil) (by show 1≤sizeLine;decide)
  refine⟨.ref s.heap.objs.size,_,I1,rfl,?_⟩
  have:=q _ I.fresh
  rw[e]at this
  exact this
 cases h1:(decide (z.length < y.length)||decide (Builtin.Str.strKind z < Builtin.Str.strKind y))
 ·cases hf:(Builtin.Str.occurrences z y 0 z.length (z.length+1)).isEmpty
  ·refine call_meets F.slot_str_split (typeIs_str s z t) F.entry_str_split (F.args_str_split_2 _ _) (meets_str_split_sep z y t tu h1 hy hf hsz hn) ?_
   have e:Txt.split z y=Builtin.Str.partsBetween z (Builtin.Str.occurrences z y 0 z.length (z.length+1)) y.length:=(if_neg (ne_true_of_eq_false h1)).trans (if_neg (ne_true_of_eq_false hf))
   rw[strsFrom_eq]
   have ev:((numbered s.toks (Builtin.Str.partsBetween z (Builtin.Str.occurrences z y 0 z.length (z.length+1)) y.length)).map fun a=>V.str a.1)=(Txt.split z y).map V.str:=by
    rw[e]
    conv=>rhs;rw[←numbered_texts s.toks (Builtin.Str.partsBetween z (Builtin.Str.occurrences z y 0 z.length (z.length+1)) y.length)]
    rw[List.map_map]
    rfl
   have I1:=I.lnew (ys:=(Txt.split z y).map V.str) (its:=strValues (numbered s.toks (Builtin.Str.partsBetween z (Builtin.Str.occurrences z y 0 z.length (z.length+1)) y.length))) (t':=s.toks+(Builtin.Str.partsBetween z (Builtin.Str.occurrences z y 0 z.length (z.length+1)) y.length).length) (by rw[←ev];exact zgc _) (by rw[List.length_map,e];exact hn)
   exact⟨.ref s.heap.objs.size,_,I1,rfl,q _ I.fresh⟩
  ·exact call_meets F.slot_str_split (typeIs_str s z t) F.entry_str_split (F.args_str_split_2 _ _) (meets_str_split_not_found z y t tu h1 hy hf) (one ((if_neg (ne_true_of_eq_false h1)).trans (if_pos hf)))
 ·exact call_meets F.slot_str_split (typeIs_str s z t) F.entry_str_split (F.args_str_split_2 _ _) (meets_str_split_cannot_occur z y t tu h1) (one (if_pos h1))
def zk1:V→List V→Hp→VK→Prop:=fun x vs H Q=>∃ z y,x=.str z∧vs=[.str y]∧Q (.bl (Txt.startswith z y)) H
theorem zgo:MtR X "str.startswith" zk1:=by
 intro pins s σ H x vs v us Q I rx rv h
 obtain⟨z,y,rfl,rfl,q⟩:=h
 obtain⟨t,rfl⟩:=rx
 obtain⟨u,rfl,ru⟩:=rv.one
 obtain⟨tu,rfl⟩:=ru
 exact call_gives F.slot_str_startswith (typeIs_str _ _ _) F.entry_str_startswith (F.args_str_startswith_2 _ _) (gives_str_startswith z y t tu) ⟨.bl _,H,I,rfl,q⟩
def rEnds:V→List V→Hp→VK→Prop:=fun x vs H Q=>∃ z y,x=.str z∧vs=[.str y]∧Q (.bl (Txt.endswith z y)) H
theorem zlk:MtR X "str.endswith" rEnds:=by
 intro pins s σ H x vs v us Q I rx rv h
 obtain⟨z,y,rfl,rfl,q⟩:=h
 obtain⟨t,rfl⟩:=rx
 obtain⟨u,rfl,ru⟩:=rv.one
 obtain⟨tu,rfl⟩:=ru
 exact call_gives F.slot_str_endswith (typeIs_str _ _ _) F.entry_str_endswith (F.args_str_endswith_2 _ _) (gives_str_endswith z y t tu) ⟨.bl _,H,I,rfl,q⟩
end
end L2
namespace L2
open PySem PySem.Spec PyProof.Rows PySem.Builtin.Str
theorem zkT (s sub:Str) (i:Nat):subAt s sub i=((s.cps.toList.drop i).take sub.length == sub.cps.toList):=by
 have e:(s.cps.extract i (i+sub.length)).toList=(s.cps.toList.drop i).take sub.length:=by simp
 unfold subAt
 rw[Bool.eq_iff_iff,beq_iff_eq,beq_iff_eq,←e]
 exact⟨fun h=>congrArg Array.toList h,fun h=>Array.ext' h⟩
def zcZ (z y:Str) (i:Nat):Bool:=(z.cps.toList.drop i).take y.length == y.cps.toList
theorem zkV {z y:Str} {i:Nat} (h:i≤z.length):(decide (i+y.length≤z.length)&&subAt z y i)=zcZ z y i:=by
 rw[zkT]
 unfold zcZ
 by_cases c:((z.cps.toList.drop i).take y.length == y.cps.toList)=true
 ·rw[c,Bool.and_true]
  have e:=congrArg List.length (eq_of_beq c)
  rw[List.length_take,List.length_drop]at e
  have e1:z.cps.toList.length=z.length:=by simp [Str.length]
  have e2:y.cps.toList.length=y.length:=by simp [Str.length]
  rw[e1,e2]at e
  exact decide_eq_true (by omega)
 ·rw[Bool.eq_false_iff.mpr c,Bool.and_false]
section
variable {X:Cx}
def zkd:V→List V→Hp→VK→Prop:=fun x vs H Q=>∃(z y:Str) (i:Nat),x=.str z∧vs=[.str y,.int i]∧i≤z.length∧Q (.bl (zcZ z y i)) H
theorem ziR:MtR X "str.startswith" zkd:=by
 intro pins s σ H x vs v us Q I rx rv h
 obtain⟨z,y,i,rfl,rfl,hi,q⟩:=h
 obtain⟨t,rfl⟩:=rx
 obtain⟨u,u2,rfl,ru,ru2⟩:=rv.two
 obtain⟨tu,rfl⟩:=ru
 obtain⟨tv,rfl⟩:=ru2
 refine call_gives F.slot_str_startswith (typeIs_str _ _ _) F.entry_str_startswith (F.args_str_startswith_3 _ _ _) (gives_str_startswith_from z y i t tu tv) ⟨.bl _,H,I,rfl,?_⟩
 have e:fromIndex z.length (i:Int)=i:=by
  unfold fromIndex
  rw[if_neg (by omega)]
  omega
 rw[e,zkV hi]
 exact q
end
end L2
namespace L2
open PySem PySem.Spec PyProof.Rows
section
variable {prog:Program} {w:World} {A:Around} {E:Value→Shared→Prop} {s:Shared}
end
section
variable {X:Cx}
end
end L2
namespace L2
open PySem PySem.Spec PyProof.Rows
theorem zfE:∀ {ns:List Int} {its:List Value},aH (ns.map V.int) its→∃ xs:List (Int × Tok),its=xs.map (fun p=>Value.int p.1 p.2)∧xs.map (·.1)=ns
 | [],its,h=>by
  cases h
  exact⟨[],rfl,rfl⟩
 | n :: ns,its,h=>by
  cases h with
  | cons r rr =>
   obtain⟨xs,e1,e2⟩:=zfE rr
   obtain⟨t,rfl⟩:=r
   exact⟨(n,t) :: xs,by rw[e1];rfl,by simp [e2]⟩
section
variable {X:Cx}
theorem zkJ (hc:X.calm=true):zcV X (.builtin "sum") (fun xs H Q=>∃(p:Addr) (ns:List Int),xs=[.ref p]∧SqL X.K H p (ns.map V.int)∧Q (.int ns.sum) H):=by
 intro pins s σ H xs us Q I r h
 obtain⟨p,ns,rfl,hq,q⟩:=h
 obtain⟨u,rfl,rx⟩:=zeJ r
 cases rx
 obtain⟨its,rv,pl,hz⟩:=I.list hq
 obtain⟨ys,rfl,e2⟩:=zfE rv
 have hl:s.heap.IsList p (intItems ys.toArray):=by
  have e:intItems ys.toArray=(ys.map fun p=>Value.int p.1 p.2).toArray:=by simp [intItems]
  rw[e]
  exact pl.isList
 refine sum_intListG (show X.A.handled=none from I.ok.hd hc) hl fun h' tk t' hk=>⟨.int ns.sum,H,I.kept (t':=tk) hk,⟨t',?_⟩,q⟩
 rw[preSum_eq,List.take_of_length_le (by simp)]
 show Value.int ((ys.map (·.1)).sum) t'=Value.int ns.sum t'
 rw[e2]
end
end L2
namespace L2
open PySem PySem.Spec PyProof.Rows
structure CloC (X:Cx) (scope:Scope) (x:Str) (cl:List (Str × Addr)):Prop where
 eq:closureFor scope X.env=pure cl
 sub:∀ y c,cl.lookup y=some c→X.env.cells.lookup y=some c
 has:∀ y,y≠x→((relabel scope X.env).names.lookup y=some .cell∨(relabel scope X.env).names.lookup y=some .free)→∃ c,cl.lookup y=some c
theorem zdJ {x y:Str} {a c:Addr} {cl:List (Str × Addr)} (h:((x,a) :: cl).lookup y=some c):(y=x∧c=a)∨(y≠x∧cl.lookup y=some c):=by
 rw[List.lookup_cons]at h
 cases hb:y == x with
 | true =>
  rw[hb]at h
  exact .inl ⟨beq_iff_eq.mp hb,(Option.some.inj h).symm⟩
 | false =>
  rw[hb]at h
  exact .inr ⟨beq_eq_false_iff_ne.mp hb,h⟩
theorem zic {x y:Str} {a:Addr} {cl:List (Str × Addr)} (h:y=x):((x,a) :: cl).lookup y=some a:=by
 rw[List.lookup_cons,h,beq_self_eq_true]
theorem lk_ne {x y:Str} {a:Addr} {cl:List (Str × Addr)} (h:y≠x):((x,a) :: cl).lookup y=cl.lookup y:=by
 rw[List.lookup_cons,beq_eq_false_iff_ne.mpr h]
theorem zcq {env:Env}:∀ {names:List (Str × NameKind)} {x:Str},names.lookup x=some .cell →
  (names.map fun(n,k)=>if(k == NameKind.free&&env.scope.kind == .function&&env.kindOf n == some .cell) then(n,NameKind.cell) else(n,k)).lookup x=some .cell
 | [],_,h=>by simp at h
 | (n,k) :: r,x,h=>by
  have ih:=@zcq env r x
  show List.lookup x ((if(k == NameKind.free&&env.scope.kind == .function&&env.kindOf n == some .cell)=true then(n,NameKind.cell) else(n,k)) :: _)=_
  cases hx:x == n with
  | true =>
   simp only[List.lookup_cons,hx]at h
   have hk:k=.cell:=Option.some.inj h
   subst hk
   have:(NameKind.cell == NameKind.free)=false:=rfl
   rw[this]
   simp [List.lookup_cons,hx]
  | false =>
   simp only[List.lookup_cons,hx]at h
   split <;> (simp only[List.lookup_cons,hx];exact ih h)
theorem zly {X:Cx} {scope sc:Scope} {x:Str} (ok:X.Ok) (hsc:X.env.scope=sc) (hcell:∀ y∈scope.names,y.2=.cell→y.1=x)
  (hf:∀ y∈scope.names,y.2=.free→sc.names.lookup y.1=some .cell∨sc.names.lookup y.1=some .free):∃ cl,CloC X scope x cl:=by
 obtain⟨cl,e1,e2,e3⟩:=zd6 (env:=X.env) scope.names [] fun y hy h=>ok.has y.1 (by
  show X.env.scope.names.lookup y.1=_∨X.env.scope.names.lookup y.1=_
  rw[hsc]
  exact hf y hy h)
 refine⟨cl,?_,fun y c h=>(e2 y c h).elim (fun z=>by cases z) fun z=>z,fun y ny h=>e3 y (.inl ?_)⟩
 ·unfold closureFor
  have e0:(forIn scope.names ([]:List (Str × Addr)) (fun(x:Str × NameKind) cs=>match x with
    | (name,kind)=>if(kind == NameKind.free)=true then do let c ←cellOf X.env name;pure (ForInStep.yield ((name,c) :: cs)) else pure (ForInStep.yield cs)):Sem (List (Str × Addr)))=pure cl:=e1
  show(forIn scope.names ([]:List (Str × Addr)) _ >>= fun z=>pure z)=pure cl
  rw[bind_pure]
  exact e0
 ·have m:∃ k,(k=.cell∨k=.free)∧(y,k)∈(relabel scope X.env).names:=by
   rcases h with h | h
   ·exact⟨_,.inl rfl,PySem.mem_of_lookup h⟩
   ·exact⟨_,.inr rfl,PySem.mem_of_lookup h⟩
  obtain⟨k,hk,hm⟩:=m
  unfold relabel at hm
  obtain⟨⟨n0,k0⟩,h0,ez⟩:=List.mem_map.mp hm
  by_cases hc:(k0 == NameKind.free&&X.env.scope.kind == .function&&X.env.kindOf n0 == some .cell)=true
  ·dsimp only at ez
   rw[if_pos hc]at ez
   have en:n0=y:=congrArg Prod.fst ez
   have ef:k0=.free:=by
    rw[Bool.and_eq_true,Bool.and_eq_true]at hc
    simpa using hc.1.1
   rw[en,ef]at h0
   exact h0
  ·dsimp only at ez
   rw[if_neg hc]at ez
   have en:n0=y:=congrArg Prod.fst ez
   have ek:k0=k:=congrArg Prod.snd ez
   rw[en,ek]at h0
   rcases hk with z | z
   ·exact absurd (hcell _ h0 z) ny
   ·rw[z]at h0
    exact h0
def zby (X:Cx) (x:Str) (N':List Str) (scope:Scope) (cl:List (Str × Addr)) (fp:List Addr) (s₃:Shared) (H₃:Hp):Cx :=
 { zav X N' scope ((x,s₃.heap.objs.size+1) :: cl) fp s₃ H₃ with fn:=fun y=>y == x }
theorem zgA {M:Model} {A:Around} {E:Value→Shared→Prop} {s:Shared} {scope:Scope} {globals:Addr} {cl:List (Str × Addr)} {qual:Str} {func:Option Addr} {code:Value} {outer:Env} {builtins:Addr} {x:Str} {Q:Env→Shared→Prop}
  (hone:∀ L acc,cellsFrom L scope.names acc=(x,L) :: acc) (hpush:∀ h,pushCells h scope.names=h.push { cls:=.type "cell",data:=.cell none })
  (hQ:∀ h',h'.Ns s.heap.objs.size (fun _=>none)→(∀ b o,s.heap.get? b=some o→h'.get? b=some o)→h'.IsCell (s.heap.objs.size+1) none →
   Q (newEnv scope s.heap.objs.size globals ((x,s.heap.objs.size+1) :: cl) qual func code (some outer) builtins) { s with heap:=h' }) :
  wpAny M A (newFunctionEnv scope globals cl [] qual func code (some outer) builtins) Q E s:=by
 simp only[newFunctionEnv,Option.isSome_some,if_true]
 refine wpAny_bind (wpAny_alloc ?_)
 refine wpAny_bind (wpAny_layCells _ (fun name kind cells=>by cases hkc:kind == NameKind.cell <;> simp [hkc]) _ _ _ _ ?_)
 rw[hone,hpush]
 have sz:(s.heap.push { cls:=.type "dict",data:=.dict #[] }).objs.size=s.heap.objs.size+1:=Heap.size_push ..
 dsimp only
 rw[sz,List.forIn_nil]
 refine wpAny_bind (wpAny_pure (wpAny_pure ?_))
 refine hQ _ ((Heap.Ns.new s.heap (.type "dict")).keeps fun b o e=>Heap.get?_push_of_some _ e) (fun b o e=>Heap.get?_push_of_some _ (Heap.get?_push_of_some _ e)) ⟨{ cls:=.type "cell",data:=.cell none },by rw[←sz];exact Heap.get?_push_size _ rfl,rfl⟩
section
variable {X:Cx} {x:Str} {N':List Str} {scope:Scope} {cl:List (Str × Addr)} {fp:List Addr} {pins:List (Addr × Obj)} {σ:St} {H:Hp} {s:Shared}
theorem zfe (I:Inv X pins σ H s) (C:CloC X scope x cl) (hkind:scope.kind=.function) (hf:∀ b∈fp,zbg X pins H b) (hlt:∀ b∈fp,b < s.heap.objs.size):(zby X x N' scope cl fp s H).Ok where
 mod:=I.ok.mod
 kind:=hkind
 glob:=I.ok.glob
 blt:=I.ok.blt
 above:=Nat.le_refl _
 inj:=fun u y c h1 h2=>by
  rcases zdJ h1 with ⟨rfl,e1⟩ | ⟨n1,e1⟩ <;> rcases zdJ h2 with ⟨e2',e2⟩ | ⟨n2,e2⟩
  ·exact e2'.symm
  ·obtain⟨v,o,ho,_⟩:=I.cell y c (C.sub y c e2)
   exact absurd (Heap.lt_size ho) (by rw[e1];exact Nat.not_lt.mpr (Nat.le_succ _))
  ·obtain⟨v,o,ho,_⟩:=I.cell u c (C.sub u c e1)
   exact absurd (Heap.lt_size ho) (by rw[e2];exact Nat.not_lt.mpr (Nat.le_succ _))
  ·exact I.ok.inj u y c (C.sub u c e1) (C.sub y c e2)
 has:=fun y h=>by
  by_cases hy:y=x
  ·exact⟨_,zic hy⟩
  ·obtain⟨c,hc⟩:=C.has y hy h
   exact⟨c,(lk_ne hy).trans hc⟩
 cab:=fun y c h e=>by
  have hy:y=x:=beq_iff_eq.mp h
  have:=Option.some.inj ((zic hy).symm.trans e)
  rw[←this]
  exact Nat.le_succ _
 hd:=I.ok.hd
 frames:=I.ok.frames
 stk:=.inl rfl
 exf:=fun b hb=>⟨Nat.ne_of_lt (hlt b hb),fun y c h=>by
  rcases zdJ h with ⟨_,e1⟩ | ⟨_,e1⟩
  ·intro e
   exact absurd (hlt b hb) (by rw[←e,e1];exact Nat.not_lt.mpr (Nat.le_succ _))
  ·exact(hf b hb).2.2.2.2.1 y c (C.sub y c e1)⟩
 bs:=fun b o h=>I.bs b o h
 bsz:=Nat.le_trans I.ok.bsz I.sz
 noex:=fun b o h hb=>by
  rcases(hf b hb).2.2.2.1 with z | z
  ·exact I.ok.noex b o h z
  ·exact absurd (Nat.lt_of_lt_of_le (Heap.lt_size h) (Nat.le_trans I.ok.bsz z)) (Nat.lt_irrefl _)
 exfs:=fun b hb hs=>by
  rcases List.mem_cons.mp (I.stkSub b hs) with z | z
  ·exact(hf b hb).2.1 z
  ·exact(hf b hb).2.2.1 z
 funs:=I.stack
 frf:=I.stkFree
theorem zhU {ix:List Nat} {h₁:Heap} {t':Nat} {m:Str→Option Value} (I:Inv X pins σ H s) (C:CloC X scope x cl) (hkind:scope.kind=.function) (hf:∀ b∈fp,zbg X pins H b) (hlt:∀ b∈fp,b < s.heap.objs.size)
  (hlen:N'.length=ix.length+1) (hix:∀(j i:Nat),ix[j]?=some i→∃ y,X.N[i]?=some y∧N'[j+1]?=some y∧(X.env.kindOf y=some .cell∨X.env.kindOf y=some .free)∧((relabel scope X.env).names.lookup y=some .cell∨(relabel scope X.env).names.lookup y=some .free))
  (hx0:N'[0]?=some x) (hN:N'.Nodup) (hcl:h₁.IsCell (s.heap.objs.size+1) none) (hn:h₁.Ns s.heap.objs.size m) (hk:∀ b o,s.heap.get? b=some o→h₁.get? b=some o):Inv (zby X x N' scope cl fp s H) [] (none :: fvs σ ix) H { s with heap:=h₁,toks:=t' }:=by
 have cellK:∀ y c,((x,s.heap.objs.size+1) :: cl).lookup y=some c→∃ v,h₁.IsCell c v:=fun y c h=>by
  rcases zdJ h with ⟨_,rfl⟩ | ⟨_,e1⟩
  ·exact⟨none,hcl⟩
  ·obtain⟨v,o,ho,hd⟩:=I.cell y c (C.sub y c e1)
   exact⟨v,o,hk c o ho,hd⟩
 refine⟨zfe I C hkind hf hlt,rfl,I.bare,Un.kept hk,⟨m,hn,fun i y v h1 h2 h3=>?_⟩,cellK,I.hok.fresh (Nat.le_refl _),fun y c h=>by
   rcases zdJ h with ⟨_,rfl⟩ | ⟨_,e1⟩
   ·exact I.hok.fresh (Nat.le_succ _)
   ·exact I.freeC y c (C.sub y c e1),fun p hp=>absurd (show p∈([]:List (Addr × Obj)) from hp) (by simp),I.hok.kept hk,?_⟩
 ·cases i with
  | zero=>cases (show some (none:Option V)=some (some v) from h2)
  | succ j =>
   have h2':(fvs σ ix)[j]?=some (some v):=h2
   unfold fvs at h2'
   rw[List.getElem?_map]at h2'
   cases e:ix[j]? with
   | none=>rw[e]at h2';cases h2'
   | some i =>
    rw[e]at h2'
    have h4:(σ[i]?).join=some v:=Option.some.inj h2'
    have h5:σ[i]?=some (some v):=by
     cases e':σ[i]? with
     | none=>rw[e']at h4;cases h4
     | some q =>
      rw[e']at h4
      have h6:q=some v:=h4
      rw[h6]
    obtain⟨y',n1,n2,k1,k2⟩:=hix j i e
    have ey:y'=y:=Option.some.inj (n2.symm.trans h1)
    subst ey
    obtain⟨m0,hn0,hl0⟩:=I.loc
    have hv0:Vis X.env.scope y':=k1.elim (fun z=>.inr (.inl z)) fun z=>.inr (.inr z)
    obtain⟨u,ru,l⟩:=hl0 i y' v n1 h5 hv0
    refine⟨u,ru,.inr ⟨k2,?_⟩⟩
    rcases l with ⟨k,_⟩ | ⟨_,c,ec,o,ho,hd⟩
    ·rcases k1 with z | z
     ·rw[z]at k;cases k
     ·rw[z]at k;cases k
    ·have ny:y'≠x:=fun z=>by
      have:=(List.getElem?_inj (List.getElem?_eq_some_iff.mp n2).1 hN).mp (n2.trans (by rw[z];exact hx0.symm))
      omega
     obtain⟨c',ec'⟩:=C.has y' ny k2
     have:c'=c:=Option.some.inj ((C.sub _ _ ec').symm.trans ec)
     subst this
     exact⟨c',(lk_ne ny).trans ec',o,hk c' o ho,hd⟩
 ·show(none :: fvs σ ix:St).length=N'.length
  rw[hlen]
  simp [fvs]
theorem zjW {σ':St} {H':Hp} {s':Shared} {h':Heap} (I:Inv X pins σ H s) (J:Inv (zby X x N' scope cl fp s H) [] σ' H' s') (hf:∀ b∈fp,zbg X pins H b) (hs:Heap.SameBut s.heap.objs.size s'.heap h'):Inv X pins σ H' { s' with heap:=h' }:=by
 have ne:∀ b o,s.heap.get? b=some o→b≠s.heap.objs.size:=fun b o e=>Nat.ne_of_lt (Heap.lt_size e)
 have eq:∀ b,b≠s.heap.objs.size→h'.get? b=s'.heap.get? b:=fun b hb=>hs.2 b hb
 have B:=J.base
 have u:Un (frs X.stack) fp H H' s.heap h' :=
  ⟨fun b o e n h1 h2=>(eq b (ne b o e)).trans (B.keep b o e n h1 h2),fun b o e n h1 h2=>by
   obtain⟨sl,q⟩:=B.slot b o e n h1 h2
   exact⟨sl,(eq b (ne b o e)).trans q⟩,fun b o e n h1=>B.free b o e n h1,fun b o e h1=>by
   obtain⟨o',q⟩:=B.there b o e h1
   exact⟨o',(eq b (ne b o e)).trans q⟩,B.tups,B.frzs,B.tbls⟩
 have hfree:H' s.heap.objs.size=none:=J.free
 have hok:HOk X.prog X.w H' h':=fun b ob e=>by
  refine(J.hok b ob e).stay (fun c w' hc q=>(eq c ?_).trans q) (fun _ q=>q) fun _ _ q=>q
  rintro rfl
  rcases hc with z | z
  ·rw[←z,hfree]at e;cases e
  ·rw[hfree]at z;cases z
 exact I.call' (s':={ s' with heap:=h' }) (ch:=fp) J.os u hok J.bare fun b hb=>⟨(hf b hb).2.2.2.1,(hf b hb).2.1,(hf b hb).2.2.2.2.1,(hf b hb).2.2.2.2.2⟩
end
section
variable {X:Cx} {N':List Str} {scope:Scope} {elt iter:Expr} {x:Str} {px pos:Pos} {wi:TI} {te:TE} {ix:List Nat}
theorem pe_lcC (hc:X.calm=true) (hkind:scope.kind=.function) (hone:∀ L acc,cellsFrom L scope.names acc=(x,L) :: acc) (hpush:∀ h,pushCells h scope.names=h.push { cls:=.type "cell",data:=.cell none }) (hnames:∀ y∈scope.names,y.2=.local→scope.names.lookup y.1=some .local) (hx:scope.names.lookup x=some .cell)
  (hclo:X.Ok→∃ cl,CloC X scope x cl) (hN:N'.Nodup) (hN0:N'[0]?=some x) (hlen:N'.length=ix.length+1)
  (hix:∀(j i:Nat),ix[j]?=some i→∃ y,X.N[i]?=some y∧N'[j+1]?=some y∧(X.env.kindOf y=some .cell∨X.env.kindOf y=some .free)∧((relabel scope X.env).names.lookup y=some .cell∨(relabel scope X.env).names.lookup y=some .free))
  (hi:PI X (.Name x px) iter wi) (he:∀ cl fp s₃ H₃,PE (zby X x N' scope cl fp s₃ H₃) elt te) (hs:∀ v,foldedSetIterable iter X.env v=pure v:=by intro _;rfl) :
  PE X (.ListComp elt [⟨.Name x px,iter,[],0⟩] scope pos) (tLC wi ix te):=by
 intro pins s σ H Q I h
 obtain⟨cl,C⟩:=hclo I.ok
 rw[eval_ListComp]
 refine wpAny_comprehension_free (use:=none) rfl hs C.eq hkind hnames (thn (hi pins s σ H _ I h) fun v s1 h1=>thn h1 fun itv s2 h2=>?_)
 obtain⟨it,fp,tn,J,H2,e,I2,T,st2,f2,q2⟩:=h2
 subst e
 have hD:H2 s2.heap.objs.size=none:=I2.fresh
 obtain⟨W,⟨m0,w0⟩,turn⟩:=q2 s2.heap.objs.size hD
 refine wpAny_newObj_type (zgA hone hpush fun h₁ hns₁ hk₁ hcl₁=>?_)
 dsimp only at hns₁ hk₁ hcl₁ ⊢
 have I3:Inv X pins σ (upd H2 s2.heap.objs.size (.lst [])) { s2 with heap:=s2.heap.push { cls:=.type "list",data:=.seq ([]:List Value).toArray },toks:=s2.toks }:=I2.lnew .nil (Nat.zero_le _)
 generalize hs3:({ s2 with heap:=s2.heap.push { cls:=.type "list",data:=.seq ([]:List Value).toArray },toks:=s2.toks }:Shared)=s3 at I3
 have e3:s3.heap=s2.heap.push { cls:=.type "list",data:=.seq ([]:List Value).toArray }:=by rw[←hs3]
 generalize hDD:s2.heap.objs.size=D at *
 generalize hH3:upd H2 D (.lst [])=H3 at *
 have lt2:∀ b∈fp,b < s2.heap.objs.size:=fun b hb=>by
  obtain⟨o,ho,_⟩:=T.obj 0 _ st2 b hb
  exact Heap.lt_size ho
 have neD:∀ b∈fp,b≠D:=fun b hb=>by rw[←hDD];exact Nat.ne_of_lt (lt2 b hb)
 have f3:∀ b∈fp,zbg X pins H3 b:=fun b hb=>⟨by rw[←hH3,au (neD b hb)];exact(f2 b hb).1,(f2 b hb).2⟩
 have sz3:s3.heap.objs.size=D+1:=by rw[e3,Heap.size_push,hDD]
 have lt3:∀ b∈fp,b < s3.heap.objs.size:=fun b hb=>by have q:=lt2 b hb;rw[sz3];rw[hDD]at q;exact Nat.lt_succ_of_lt q
 have old:∀ b o,s3.heap.get? b=some o→h₁.get? b=some o:=fun b o eb=>hk₁ b o (by rw[←e3];exact eb)
 have szC:(s2.heap.push { cls:=.type "list",data:=.seq ([]:List Value).toArray }).objs.size=s3.heap.objs.size:=by rw[e3]
 have os3:s3.os=s2.os:=by rw[←hs3]
 rw[szC]at hns₁ hcl₁
 have I4:Inv (zby X x N' scope cl fp s3 H3) [] (none :: fvs σ ix) H3 { s3 with heap:=h₁,toks:=s2.toks }:=zhU I3 C hkind f3 lt3 hlen hix hN0 hN hcl₁ hns₁ old
 have st4:tn 0 h₁:=T.keep 0 _ _ st2 fun b hb o eb=>old b o (by rw[e3];exact Heap.get?_push_of_some _ eb)
 have stat:∀ {H':Hp},(∀ b∈fp,H' b=none)→∀ b∈fp,zbg (zby X x N' scope cl fp s3 H3) [] H' b:=fun hn b hb =>
  ⟨hn b hb,Nat.ne_of_lt (lt3 b hb),fun hs'=>(zfe (N':=N') I3 C hkind f3 lt3).exfs b hb hs',.inl hb,fun y c hy=>((zfe (N':=N') I3 C hkind f3 lt3).exf b hb).2 y c hy,fun p hp=>absurd (show p∈([]:List (Addr × Obj)) from hp) (by simp)⟩
 have loop:∀ s4:Shared,s4={ s3 with heap:=h₁,toks:=s2.toks } →
   codeAny (model X.prog X.w) X.A (.compLoop (.ListComp elt [⟨.Name x px,iter,[],0⟩] scope pos) 0 (.ref it) (.ref D) (compEnvC scope ((x,s3.heap.objs.size+1) :: cl) s3.heap.objs.size X.env))
    (compPost (model X.prog X.w) X.A X.xe none (EP X pins σ Q) (.ref D) s3.heap.objs.size) s4:=by
  rintro s4 rfl
  refine zcI (fun n s'=>∃ i σ0 H' ys,Inv (zby X x N' scope cl fp s3 H3) [] (σ0 :: fvs σ ix) H' s'∧tn i s'.heap∧(∀ b∈fp,H' b=none)∧W i n ys H') ?_ m0 ⟨0,none,H3,[],I4,st4,fun b hb=>(f3 b hb).1,w0⟩
  rintro n s5 ⟨i,σ0,H5,ys,I5,st5,fr5,w5⟩
  obtain⟨hD5,alt⟩:=turn i n ys H5 w5
  rcases alt with ⟨stop,q⟩ | ⟨go,step⟩
  ·refine thn (T.done (zby X x N' scope cl fp s3 H3) rfl rfl rfl hc i [] s5 _ H5 _ I5 (stat fr5) st5 stop) fun r s6 ⟨hr,I6⟩=>?_
   subst hr
   obtain⟨m,hn,_⟩:=I6.loc
   exact⟨m,hn,fun h' hsb=>⟨.ref D,H5,zjW I3 I6 f3 hsb,rfl,q⟩⟩
  ·refine thn (T.item (zby X x N' scope cl fp s3 H3) rfl rfl rfl hc i [] s5 _ H5 _ I5 (stat fr5) st5 go) fun r s6 ⟨u,hr,h6⟩=>?_
   subst hr
   refine thn h6 fun _ s7 ⟨y7,H7,I7,r7,yl7,st7,fr7⟩=>?_
   have I7':=I7.pinned (stat fr7) (T.obj _ _ st7)
   have G:PG (zby X x N' scope cl fp s3 H3) (.Name x px) (zdk 0):=zaP hN hN0 (.inr (zcq hx)) (.inl (beq_self_eq_true x))
   refine wpAny_mono (G _ s7 _ H7 y7 u (fun σ' H'=>σ'=some y7 :: fvs σ ix∧H'=H7) I7' r7 ⟨rfl,rfl⟩) (fun _ s8 h8=>?_) fun _ _ f=>False.elim f
   obtain⟨σ8,H8,I8,rfl,rfl⟩:=h8
   refine wpAny_mono (he cl fp s3 H3 _ s8 _ H8 _ I8 (step y7 H8 yl7)) (fun yv s9 h9=>?_) fun _ _ f=>False.elim f
   obtain⟨y9,H9,I9,r9,hD9,hl9,m',hm',w9⟩:=h9
   refine wpAny_mono (zaK (X:=zby X x N' scope cl fp s3 H3) _ s9 _ H9 (.ref D) [y9] (.ref D) [yv] (fun _ H'=>H'=upd H9 D (.lst (ys++[y9]))) I9 rfl (.cons r9 .nil) ⟨D,ys,y9,rfl,rfl,hD9,hl9,rfl⟩) (fun _ s10 h10=>?_) fun _ _ f=>False.elim f
   obtain⟨_,H10,I10,_,rfl⟩:=h10
   refine⟨m',hm',i+1,some y7,_,ys++[y9],I10.unpinned,T.keep _ _ _ st7 fun b hb o eb=>(I10.pin (b,o) (List.mem_append_right _ (List.mem_append_right _ (za1 hb eb)))).1,fun b hb=>?_,w9⟩
   obtain⟨o,eb,d⟩:=T.obj _ _ st7 b hb
   exact(I10.pin (b,o) (List.mem_append_right _ (List.mem_append_right _ (za1 hb eb)))).2.1
 subst hs3
 have fin:=codeAny_compStart_list (loop _ rfl) (T.self X.A 0 _ _ _ st4 (loop _ rfl))
 exact fin
end
end L2
namespace L2
open PySem
section
variable {K:W.Frag} {h:Heap} {mg:Str→Option Value} {C f:Addr} {fd:FuncData} {n x q:Str} {st:Stmt} {oc kV doc pm cdv ct:Value} {od an:Option Addr} {osl:Array (Option Value)}
structure FT (K:W.Frag) (n x:Str) (st:Stmt) (f:Addr) (fd:FuncData):Prop where
 a:W.nsIn K mainGlobals n=some (some (.ref f))
 F:Fun K x x st f fd
 k:W.keepIn K (.ref f)=true
theorem FT.m (z:FT K n x st f fd) (X:K.In h) (G:h.Ns mainGlobals mg):mg n=some (.ref f):=W.mg_of X G z.a
theorem ft_in (a:W.nsIn K mainGlobals n=some (some (.ref f))) (l:K.lookup f=some ⟨oc,od,.func (W.fnOf x x (zbZ st) (zaF st) (ap st) .none kV doc pm an cdv ct),osl⟩) (c:W.codeIn K cdv x=true) (k:W.keepIn K (.ref f)=true):FT K n x st f (W.fnOf x x (zbZ st) (zaF st) (ap st) .none kV doc pm an cdv ct):=⟨a,zjk l c k,k⟩
structure FM (K:W.Frag) (C:Addr) (x q:Str) (st:Stmt) (f:Addr) (fd:FuncData):Prop where
 a:W.findIn K (.ref C) x=some (some (.ref f))
 i:W.isFn K (.ref f)=true
 F:Fun K x q st f fd
 k:W.keepIn K (.ref f)=true
theorem FM.M (z:FM K C x q st f fd):zbk K C x f:=⟨z.a,z.i,z.k⟩
theorem fm_in (a:W.findIn K (.ref C) x=some (some (.ref f))) (i:W.isFn K (.ref f)=true) (l:K.lookup f=some ⟨oc,od,.func (W.fnOf x q (zbZ st) (zaF st) (ap st) .none kV doc pm an cdv ct),osl⟩) (c:W.codeIn K cdv q=true) (k:W.keepIn K (.ref f)=true):FM K C x q st f (W.fnOf x q (zbZ st) (zaF st) (ap st) .none kV doc pm an cdv ct):=⟨a,i,zjk l c k,k⟩
abbrev Bd (x q:Str) (st:Stmt) (ps:List Str) (us:List Value):Prop:=∀(kV doc pm:Value) (an:Option Addr) (cdv ct:Value),bindArgs (W.fnOf x q (zbZ st) (zaF st) (ap st) .none kV doc pm an cdv ct) ⟨us,[]⟩=pure (ps.zip us)
theorem Fun.b1 {p:Str} (F:Fun K x q st f fd) (h:∀ a,Bd x q st [p] [a]):ay K fd [p] []:=F.binds fun kV doc pm an cdv ct us hl=>match us,hl with | [_],_=>h _ kV doc pm an cdv ct
theorem Fun.b2 {p p2:Str} (F:Fun K x q st f fd) (h:∀ a b,Bd x q st [p,p2] [a,b]):ay K fd [p,p2] []:=F.binds fun kV doc pm an cdv ct us hl=>match us,hl with | [_,_],_=>h _ _ kV doc pm an cdv ct
theorem Fun.b3 {p p2 p3:Str} (F:Fun K x q st f fd) (h:∀ a b c,Bd x q st [p,p2,p3] [a,b,c]):ay K fd [p,p2,p3] []:=F.binds fun kV doc pm an cdv ct us hl=>match us,hl with | [_,_,_],_=>h _ _ _ kV doc pm an cdv ct
theorem Fun.b4 {p p2 p3 p4:Str} (F:Fun K x q st f fd) (h:∀ a b c d,Bd x q st [p,p2,p3,p4] [a,b,c,d]):ay K fd [p,p2,p3,p4] []:=F.binds fun kV doc pm an cdv ct us hl=>match us,hl with | [_,_,_,_],_=>h _ _ _ _ kV doc pm an cdv ct
theorem Fun.b5 {p p2 p3 p4 p5:Str} (F:Fun K x q st f fd) (h:∀ a b c d e,Bd x q st [p,p2,p3,p4,p5] [a,b,c,d,e]):ay K fd [p,p2,p3,p4,p5] []:=F.binds fun kV doc pm an cdv ct us hl=>match us,hl with | [_,_,_,_,_],_=>h _ _ _ _ _ kV doc pm an cdv ct
theorem Fun.top {p:Str} (F:Fun K x q st f fd) (h:∀ a,Bd x q st [p] [a]):∀(s:Shared) (v:Value),BindsTo s fd ⟨[v],[]⟩ [(p,v)]:=fun s v=>by
 obtain⟨oc,od,kV,doc,pm,an,cdv,ct,osl,rfl,lk,hcd⟩:=F.ex
 exact .of_eq (h v kV doc pm an cdv ct)
end
end L2
namespace F05
open PySem L2
theorem sz (n:Nat) (h:n≤1000):n≤sizeLine:=Nat.le_of_lt (zaT h)
theorem szM {n:Nat} (h:n≤16000000):n≤sizeLine:=Nat.le_trans h (by rw[sizeLine_eq];decide)
theorem zai (a b:Str):(a++b).length=a.length+b.length:=by
 show(a.cps++b.cps).size=a.cps.size+b.cps.size
 exact Array.size_append
inductive Tr where
 | node (n:Str) (ts:List Tr)
def zaQ (n:Str) (ss:List Str):Str:=if ss.isEmpty=true then n else n++"("++Builtin.Str.glued ", " ss++")"
mutual
def dTr:Tr→Dt
 | .node n ts=>.tup [.str n,.tup (aQ ts)]
def aQ:List Tr→List Dt
 | []=>[]
 | t :: ts=>dTr t :: aQ ts
end
mutual
def txt:Tr→Str
 | .node n ts=>zaQ n (zaE ts)
def zaE:List Tr→List Str
 | []=>[]
 | t :: ts=>txt t :: zaE ts
end
mutual
def wt:Tr→Nat
 | .node n ts=>n.length+2+wts ts
def wts:List Tr→Nat
 | []=>0
 | t :: ts=>wt t+2+wts ts
end
mutual
def dp:Tr→Nat
 | .node _ ts=>1+dps ts
def dps:List Tr→Nat
 | []=>0
 | t :: ts=>max (dp t) (dps ts)
end
theorem dTrs_map:∀ ts:List Tr,aQ ts=ts.map dTr
 | []=>rfl
 | t :: ts=>by simp only[aQ,List.map_cons,dTrs_map ts]
theorem dTrs_length (ts:List Tr):(aQ ts).length=ts.length:=by rw[dTrs_map,List.length_map]
theorem zdV:∀ ts:List Tr,zaE ts=ts.map txt
 | []=>rfl
 | t :: ts=>by simp only[zaE,List.map_cons,zdV ts]
theorem dps_le {n:Nat}:∀ {ts:List Tr},dps ts≤n→∀ t∈ts,dp t≤n
 | t :: ts,h,u,hu=>by
  simp only[dps]at h
  rcases List.mem_cons.mp hu with rfl | hu
  ·omega
  ·exact dps_le (ts:=ts) (by omega) u hu
theorem le_dps {n:Nat}:∀ {ts:List Tr},(∀ t∈ts,dp t≤n)→dps ts≤n
 | [],_=>Nat.zero_le _
 | t :: ts,h=>by
  simp only[dps]
  have h1:=h t (by simp)
  have h2:=le_dps (ts:=ts) fun u hu=>h u (List.mem_cons_of_mem _ hu)
  omega
theorem zgK:∀ {ts:List Tr} {t:Tr},t∈ts→wt t≤wts ts
 | u :: ts,t,h=>by
  simp only[wts]
  rcases List.mem_cons.mp h with rfl | h
  ·omega
  ·have:=zgK (ts:=ts) h
   omega
theorem zeD (x:Str) (xs:List Str):zbc (x :: xs)=x.length+zbc xs:=by
 simp [zbc]
theorem ze4 (n:Str) (ss:List Str):(zaQ n ss).length≤n.length+2+(zbc ss+ss.length * 2):=by
 unfold zaQ
 split
 ·omega
 ·have:=zbU ", " ss
  have h2:((", ":Str)).length=2:=by decide +kernel
  have h1:(("(":Str)).length=1:=by decide +kernel
  have h3:((")":Str)).length=1:=by decide +kernel
  rw[h2]at this
  rw[zai,zai,zai,h1,h3]
  omega
mutual
theorem zkQ:∀ t:Tr,(txt t).length≤wt t
 | .node n ts=>by
  simp only[txt,wt]
  have:=ze4 n (zaE ts)
  have:=zdW ts
  omega
theorem zdW:∀ ts:List Tr,zbc (zaE ts)+(zaE ts).length * 2≤wts ts
 | []=>by simp [zaE,wts,zbc]
 | t :: ts=>by
  simp only[zaE,wts,List.length_cons]
  rw[zeD]
  have:=zkQ t
  have:=zdW ts
  omega
end
mutual
theorem nol_dTr:∀ t:Tr,nol (dTr t)=true
 | .node n ts=>by simp only[dTr,nol,za9,nols_dTrs ts,Bool.and_self]
theorem nols_dTrs:∀ ts:List Tr,za9 (aQ ts)=true
 | []=>rfl
 | t :: ts=>by simp only[aQ,za9,nol_dTr t,nols_dTrs ts,Bool.and_self]
end
mutual
theorem dep_dTr:∀ t:Tr,dep (dTr t)≤2 * dp t
 | .node n ts=>by
  have:=deps_dTrs ts
  simp only[dTr,dp,dep,zaz]
  omega
theorem deps_dTrs:∀ ts:List Tr,zaz (aQ ts)≤2 * dps ts
 | []=>by simp [aQ,zaz]
 | t :: ts=>by
  have:=dep_dTr t
  have:=deps_dTrs ts
  simp only[aQ,dps,zaz]
  omega
end
section
variable {K:W.Frag} {H:Hp}
theorem tr_at {n:Str} {ts:List Tr} {v:V} (h:Has K H (dTr (.node n ts)) v):∃ p q xs,v=.ref p∧SqT K H p [.str n,.ref q]∧SqT K H q xs∧aj K H (aQ ts) xs:=by
 simp only[dTr,Has,aj]at h
 obtain⟨p,ys,rfl,hp,v1,r1,rfl,rfl,v2,r2,rfl,⟨q,xs,rfl,hq,hx⟩,rfl⟩:=h
 exact⟨p,q,xs,rfl,hp,hq,hx⟩
theorem of_tr {n:Str} {ts:List Tr} {p q:Addr} {xs:List V} (hp:SqT K H p [.str n,.ref q]) (hq:SqT K H q xs) (hx:aj K H (aQ ts) xs):Has K H (dTr (.node n ts)) (.ref p):=by
 simp only[dTr]
 exact Has.tup' hp (.cons Has.str' (.cons (Has.tup' hq hx) .nil))
theorem trs_get {ts:List Tr} {xs:List V} {i:Nat} {x:V} (h:aj K H (aQ ts) xs) (e:xs[i]?=some x):∃ t,ts[i]?=some t∧Has K H (dTr t) x:=by
 rw[dTrs_map]at h
 obtain⟨d,e1,e2⟩:=h.get e
 rw[List.getElem?_map]at e1
 cases q:ts[i]? with
 | none=>rw[q]at e1;cases e1
 | some t =>
  rw[q]at e1
  cases e1
  exact⟨t,rfl,e2⟩
end
theorem FnOk.no {P:Program} {w:World} {K:W.Frag} {mg:Str→Option Value} {base:Heap} {CX:CXT} {k:Nat} {f:Addr} {fd:FuncData} {ps:List Str} {sp:Sp} (h:∀ vs H Q E,¬sp vs H Q E):FnOk P w K mg base CX k f fd ps sp :=
 ⟨fun vs H Q E q=>absurd q (h _ _ _ _),fun A outer s H args us vs Q E _ _ _ _ hs=>absurd hs (h _ _ _ _)⟩
end F05
namespace C05
open PySem L2
open F05 (Tr dTr aQ)
def top (i:Nat):Stmt:=PySem.Challenge.pw_yesorno_k05_whole_read.main.body.getD i (.Pass ⟨0,0,0,0⟩)
abbrev s_Cursor___init__:Stmt:=zaO (top 24) 0
abbrev s_Cursor_is_over:Stmt:=zaO (top 24) 1
abbrev s_Cursor_takes:Stmt:=zaO (top 24) 2
abbrev s_Cursor_take_word:Stmt:=zaO (top 24) 3
abbrev s_Cursor_take_tree:Stmt:=zaO (top 24) 4
abbrev s_Cursor_take_trees:Stmt:=zaO (top 24) 5
abbrev s_formed_tree:Stmt:=top 25
abbrev s_formed_atom:Stmt:=top 26
abbrev s_formed_part:Stmt:=top 27
abbrev s_formed_row:Stmt:=top 28
abbrev s_text_rows:Stmt:=top 29
theorem zb6 {X:Cx} {ss:List Stmt}:PSs X ss (fun _ _ _=>False):=fun _ _ _ _ _ _ h=>h.elim
abbrev abc:Str:="abcdefghijklmnopqrstuvwxyz"
def isL (c:Str):Bool:=!(Builtin.Str.occurrences abc c 0 abc.length 1).isEmpty
theorem zf8:∀ c∈abc.cps.toList,isL ⟨#[c]⟩=true:=by decide +kernel
def ends:List Nat:=[40,41,44,32]
theorem zkG:∀ c∈ends,isL ⟨#[c]⟩=false:=by decide +kernel
def cp (s:Str):List Nat:=s.cps.toList
theorem cp_len (s:Str):(cp s).length=s.length:=by simp [cp,Str.length]
theorem za6 (a b:Str):cp (a++b)=cp a++cp b:=by
 show(a.cps++b.cps).toList=_
 exact Array.toList_append
theorem cp_inj {a b:Str} (h:cp a=cp b):a=b:=by
 cases a;cases b
 unfold cp at h
 congr
 exact Array.ext' h
def cfl (s:Str) (i:Nat):List (Str × V):=zaI "place" (.int i) (zaI "text" (.str s) [])
theorem zfA (f:Str) (u v:V):∀ fs:List (Str × V),zaI f v (zaI f u fs)=zaI f v fs
 | []=>by simp only[zaI,if_pos]
 | (g,x) :: r=>by
  by_cases c:g=f
  ·simp only[zaI,if_pos c]
  ·simp only[zaI,if_neg c,zfA f u v r]
theorem zdZ (f:Str) (v:V):∀ fs:List (Str × V),(zaI f v fs).length≤fs.length+1
 | []=>Nat.le_refl _
 | (g,x) :: r=>by
  by_cases c:g=f
  ·simp only[zaI,if_pos c,List.length_cons];omega
  ·have:=zdZ f v r
   simp only[zaI,if_neg c,List.length_cons];omega
theorem za7 (s:Str) (i:Nat):(cfl s i).lookup ("place":Str)=some (.int i):=by
 unfold cfl
 rw[zay,if_pos rfl]
theorem zcE (s:Str) (i:Nat):(cfl s i).lookup ("text":Str)=some (.str s):=by
 unfold cfl
 rw[zay,if_neg (by decide +kernel),zay,if_pos rfl]
theorem zev (s:Str) (i:Nat) {m:Str} (h1:¬m="place") (h2:¬m="text"):(cfl s i).lookup m=none:=by
 unfold cfl
 rw[zay,if_neg h1,zay,if_neg h2]
 rfl
theorem zil (s:Str) (i j:Nat):zaI "place" (.int j) (cfl s i)=cfl s j:=zfA _ _ _ _
theorem zim (s:Str) (i:Nat):(cfl s i).length < 1000:=by
 have h1:=zdZ "place" (.int i) (zaI "text" (.str s) [])
 have h2:=zdZ "text" (.str s) []
 show(zaI _ _ _).length < 1000
 have h4:([]:List (Str × V)).length=0:=rfl
 omega
theorem zfC (s:Str) (i:Nat):(cfl s i).lookup ("is_over":Str)=none:=zev _ _ (by decide +kernel) (by decide +kernel)
theorem zcA (s:Str) (i:Nat):(cfl s i).lookup ("takes":Str)=none:=zev _ _ (by decide +kernel) (by decide +kernel)
theorem zeI (s:Str) (i:Nat):(cfl s i).lookup ("take_word":Str)=none:=zev _ _ (by decide +kernel) (by decide +kernel)
theorem zdh (s:Str) (i:Nat):(cfl s i).lookup ("take_tree":Str)=none:=zev _ _ (by decide +kernel) (by decide +kernel)
theorem zgE (s:Str) (i:Nat):(cfl s i).lookup ("take_trees":Str)=none:=zev _ _ (by decide +kernel) (by decide +kernel)
def zaU (CU:Addr) (H:Hp) (c:Addr) (s:Str) (i:Nat):Prop:=(∃ dx,H c=some (.ins CU dx (cfl s i)))∧i≤s.length∧s.length≤1000000
def FrC (H H':Hp) (c:Addr):Prop:=∀ b o,H b=some o→b≠c→H' b=some o
theorem FrC.of_same {H H':Hp} {c:Addr} (s:ax H H'):FrC H H' c:=fun b o e _=>s b o e
theorem FrC.trans {H H1 H2:Hp} {c:Addr} (a:FrC H H1 c) (b:FrC H1 H2 c):FrC H H2 c:=fun x o e n=>b x o (a x o e n) n
theorem KeepT.but {H:Hp} {d:Addr} {u o:HO} (h:H d=some u) (n:∀ xs,u≠.tup xs) (n2:∀ q xs,u≠.frz q (.tup xs)):KeepT H (upd H d o):=fun b zs q=>by
 rcases q with q | ⟨o,q⟩
 ·exact .inl (by rw[au (fun e=>by rw[e,h]at q;exact n _ (Option.some.inj q))];exact q)
 ·exact .inr ⟨o,by rw[au (fun e=>by rw[e,h]at q;exact n2 _ _ (Option.some.inj q))];exact q⟩
theorem zaU.kt {CU:Addr} {H H':Hp} {c:Addr} {s:Str} {i:Nat} (h:zaU CU H c s i) (f:FrC H H' c):KeepT H H':=fun b ys q=>by
 obtain⟨⟨dx,hc⟩,_⟩:=h
 rcases q with q | ⟨o,q⟩
 ·exact .inl (f _ _ q (fun z=>by rw[z,hc]at q;cases q))
 ·exact .inr ⟨o,f _ _ q (fun z=>by rw[z,hc]at q;cases q)⟩
theorem zaU.same {CU:Addr} {H H':Hp} {c:Addr} {s:Str} {i:Nat} (h:zaU CU H c s i) (m:ax H H'):zaU CU H' c s i:=by
 obtain⟨⟨dx,hc⟩,r⟩:=h
 exact⟨⟨dx,m _ _ hc⟩,r⟩
theorem zaU.ne {CU:Addr} {H:Hp} {c b:Addr} {s:Str} {i:Nat} (h:zaU CU H c s i) (e:H b=none):b≠c:=fun z=>by
 obtain⟨⟨dx,hc⟩,_⟩:=h
 rw[z,hc]at e
 cases e
theorem zaU.putL {CU:Addr} {H:Hp} {c z:Addr} {s:Str} {i:Nat} {zs us:List V} (h:zaU CU H c s i) (hz:H z=some (.lst zs)):zaU CU (upd H z (.lst us)) c s i:=by
 obtain⟨⟨dx,hc⟩,r⟩:=h
 refine⟨⟨dx,?_⟩,r⟩
 rw[au (fun e=>by rw[e,hz]at hc;cases hc)]
 exact hc
structure TxC (K:W.Frag) (mg:Str→Option Value) (CU:Addr):Prop where
 cl:Cls K CU
 nP:zbG K CU "place"
 nT:zbG K CU "text"
 small:∃ t,mg "SMALL_LETTERS"=some (.str abc t)
 len:mg "len"=none
 tuple:mg "tuple"=none
section
variable {P:Program} {w:World} {K:W.Frag} {mg:Str→Option Value} {base:Heap} {CU:Addr} {f fO fK fW fT fS:Addr} {fd dO dK' dW dT' dS:FuncData}
def zhl (CU:Addr):Sp:=fun vs H Q _=>∃(c dx:Addr) (s:Str),vs=[.ref c,.str s]∧H c=some (.ins CU dx [])∧s.length≤1000000∧∀ H',zaU CU H' c s 0→FrC H H' c→Q .non H'
theorem zj9:zaa ["self","text"] ["self","text"] (ap s_Cursor___init__):=⟨rfl,rfl,rfl,by decide +kernel,rfl,by decide +kernel,by decide +kernel⟩
theorem ok_cinit (F:Fun K "__init__" "Cursor.__init__" s_Cursor___init__ f fd) (Z:TxC K mg CU):FnOk P w K mg base CX0 1 f fd ["self","text"] (zhl CU):=by
 refine F.ok zj9 (fun vs H Q E h=>?_) (fun cdv A outer s H vs Q E hr h=>?_)
 ·obtain⟨c,dx,s,rfl,_⟩:=h
  rfl
 obtain⟨c,dx,s,rfl,hc,hl,q⟩:=h
 refine⟨_,(ai (zen (pv 0) (pv 1) rfl) (ak (zen (pv 0) ah rfl))),?_⟩
 refine⟨_,rfl,_,rfl,c,CU,dx,[],rfl,hc,Z.cl,Z.nT,(by show 0 < 1000;decide),?_⟩
 refine⟨_,rfl,c,CU,dx,_,rfl,ae,Z.cl,Z.nP,(by have:=zdZ "text" (.str s) [];have h0:([]:List (Str × V)).length=0:=rfl;omega),?_⟩
 exact q _ ⟨⟨dx,ae⟩,Nat.zero_le _,hl⟩ fun b o e n=>by rw[au n,au n];exact e
def zfN (CU:Addr):Sp:=fun vs H Q _=>∃(c:Addr) (s:Str) (i:Nat),vs=[.ref c]∧zaU CU H c s i∧Q (.bl (decide (i=s.length))) H
theorem zkY:zaa ["self"] ["self"] (ap s_Cursor_is_over):=⟨rfl,rfl,rfl,by decide +kernel,rfl,by decide +kernel,by decide +kernel⟩
theorem ok_over (F:Fun K "is_over" "Cursor.is_over" s_Cursor_is_over f fd) (Z:TxC K mg CU):FnOk P w K mg base CX0 1 f fd ["self"] (zfN CU):=by
 refine F.ok zkY (fun vs H Q E h=>?_) (fun cdv A outer s H vs Q E hr h=>?_)
 ·obtain⟨c,s,i,rfl,_⟩:=h
  rfl
 obtain⟨c,s,i,rfl,C,q⟩:=h
 refine⟨_,(ak (aE (zcb zbu (zaB (pv 0) rfl) (zap zbW rfl Z.len PySem.boot_len (aa (zaB (pv 0) rfl) ac)) (zam _)))),?_⟩
 obtain⟨⟨dx,hc⟩,hi,hl⟩:=id C
 refine⟨_,rfl,c,CU,dx,_,_,rfl,hc,Z.cl,Z.nP,za7 _ _,_,rfl,c,CU,dx,_,_,rfl,hc,Z.cl,Z.nT,zcE _ _,s,rfl,F05.szM (by omega),rfl,?_⟩
 have e:decide (V.int (i:Int)=V.int ((s.length:Nat):Int))=decide (i=s.length):=by
  rw[Bool.eq_iff_iff,decide_eq_true_iff,decide_eq_true_iff]
  exact⟨fun h=>by injection h with h;omega,fun h=>by rw[h]⟩
 show Q (.bl (decide (V.int (i:Int)=V.int ((s.length:Nat):Int)))) H
 rw[e]
 exact q
def zg8 (CU:Addr):Sp:=fun vs H Q _=>∃(c:Addr) (s y:Str) (i:Nat),vs=[.ref c,.str y]∧zaU CU H c s i∧y.length≤1000∧(zcZ s y i=true→∀ H',zaU CU H' c s (i+y.length)→FrC H H' c→Q (.bl true) H')∧(zcZ s y i=false→Q (.bl false) H)
theorem zj8:zaa ["self","signs"] ["self","signs"] (ap s_Cursor_takes):=⟨rfl,rfl,rfl,by decide +kernel,rfl,by decide +kernel,by decide +kernel⟩
theorem zkU {s y:Str} {i:Nat} (h:zcZ s y i=true) (hi:i≤s.length):i+y.length≤s.length:=by
 have e:=congrArg List.length (eq_of_beq h)
 rw[List.length_take,List.length_drop]at e
 have e1:=cp_len s
 have e2:=cp_len y
 unfold cp at e1 e2
 rw[e1,e2]at e
 omega
theorem ok_takes (F:Fun K "takes" "Cursor.takes" s_Cursor_takes f fd) (Z:TxC K mg CU):FnOk P w K mg base CX0 1 f fd ["self","signs"] (zg8 CU):=by
 refine F.ok zj8 (fun vs H Q E h=>?_) (fun cdv A outer s H vs Q E hr h=>?_)
 ·obtain⟨c,s,y,i,rfl,_⟩:=h
  rfl
 obtain⟨c,s,y,i,rfl,C,y1,q1,q2⟩:=h
 refine⟨_,(ai (zal (zbS (zbh (zaL PySem.F.plainAttrs_str PySem.F.slot_str_startswith PySem.F.type_str_startswith ziR (zaB (pv 0) rfl) (aa (pv 1) (aa (zaB (pv 0) rfl) ac)))))
   (ak (aE zeM))
   zab)
  (ai (zgj (pv 0) (zap zbW rfl Z.len PySem.boot_len (aa (pv 1) ac)) zjj)
  (ak (aE zeM)))),?_⟩
 obtain⟨⟨dx,hc⟩,hi,hl⟩:=id C
 refine⟨_,rfl,c,CU,dx,_,_,rfl,hc,Z.cl,Z.nT,zcE _ _,rfl,_,rfl,_,rfl,c,CU,dx,_,_,rfl,hc,Z.cl,Z.nP,za7 _ _,s,y,i,rfl,rfl,hi,_,rfl,?_⟩
 cases e:zcZ s y i with
 | false=>exact zbj (q2 e)
 | true =>
  have le:=zkU e hi
  refine za3 ⟨_,rfl,c,CU,dx,_,_,rfl,hc,Z.cl,Z.nP,za7 _ _,_,rfl,y,rfl,F05.szM (by omega),_,_,rfl,rfl,dx,_,hc,zim _ _,?_⟩
  have ep:zaI "place" (.int ((i:Int)+(y.length:Nat))) (cfl s i)=cfl s (i+y.length):=zil s i (i+y.length)
  rw[ep]
  exact q1 e _ ⟨⟨dx,ae⟩,le,hl⟩ fun b o e n=>by rw[au n];exact e
end
end C05
namespace C05
open PySem L2
open F05 (Tr dTr aQ)
def Wd (n:Str):Prop:=cp n≠[]∧(∀ c∈cp n,c∈cp abc)∧n.length≤20
def Eow (r:List Nat):Prop:=∀ c t,r=c :: t→c∈ends
theorem Eow.nil:Eow []:=fun _ _ h=>by cases h
theorem Eow.cons {c:Nat} {t:List Nat} (h:c∈ends):Eow (c :: t):=fun _ _ e=>by cases e;exact h
theorem zgO {s y:Str} {i:Nat} {r:List Nat} (h:(cp s).drop i=cp y++r):zcZ s y i=true:=by
 unfold zcZ
 have e:s.cps.toList.drop i=cp y++r:=h
 rw[e,←cp_len y,List.take_left']
 ·exact beq_self_eq_true _
 ·rfl
theorem ziu {s y:Str} {i:Nat} {r:List Nat} (h:(cp s).drop i=r) (n:∀ t,r≠cp y++t):zcZ s y i=false:=by
 cases e:zcZ s y i with
 | false=>rfl
 | true =>
  exfalso
  have e1:=eq_of_beq e
  have e2:s.cps.toList.drop i=r:=h
  rw[e2]at e1
  exact n (r.drop y.length) (by
   have:=List.take_append_drop y.length r
   rw[e1]at this
   exact this.symm)
theorem zcC {s:Str} {i:Nat} {a r:List Nat} (h:(cp s).drop i=a++r):(cp s).drop (i+a.length)=r:=by
 rw[←List.drop_drop,h,List.drop_left']
 rfl
theorem zfx {s n:Str} {i:Nat} {r:List Nat} (h:(cp s).drop i=cp n++r) (hi:i≤s.length):Txt.slice s (some (i:Int)) (some ((i+n.length:Nat):Int))=n:=by
 have l:i+n.length≤(cp s).length:=by
  have e:=congrArg List.length h
  rw[List.length_drop,List.length_append,cp_len n]at e
  have:=cp_len s
  by_cases c:n.length=0
  ·omega
  ·omega
 have e:=eq_of_beq (PyProof.Rows.slice_closes (x:=s) (i:=(i:Int)) (j:=((i+n.length:Nat):Int)) ⟨by omega,by omega,by show((i+n.length:Nat):Int)≤((cp s).length:Nat);omega⟩)
 rw[e]
 refine cp_inj ?_
 show((s.cps.toList.drop (i:Int).toNat).take (((i+n.length:Nat):Int) - (i:Int)).toNat).toArray.toList=cp n
 rw[List.toList_toArray,show((i:Int)).toNat=i by omega,show(((i+n.length:Nat):Int) - (i:Int)).toNat=n.length by omega]
 have e2:s.cps.toList.drop i=cp n++r:=h
 rw[e2,←cp_len n,List.take_left']
 rfl
section
variable {P:Program} {w:World} {K:W.Frag} {mg:Str→Option Value} {base:Heap} {CU:Addr} {f fO fK fW fT fS:Addr} {fd dO dK' dW dT' dS:FuncData}
def zhk (CU:Addr):Sp:=fun vs H Q _=>∃(c:Addr) (s n:Str) (i:Nat) (r:List Nat),vs=[.ref c]∧zaU CU H c s i∧(cp s).drop i=cp n++r∧Wd n∧Eow r∧∀ H',zaU CU H' c s (i+n.length)→FrC H H' c→Q (.str n) H'
theorem zh2:zaa ["self","begin"] ["self"] (ap s_Cursor_take_word):=⟨rfl,rfl,rfl,by decide +kernel,rfl,by decide +kernel,by decide +kernel⟩
theorem ok_cword (F:Fun K "take_word" "Cursor.take_word" s_Cursor_take_word f fd) (Z:TxC K mg CU) (oO:FnOk P w K mg base CX0 1 fO dO ["self"] (zfN CU)) (bO:ay K dO ["self"] []) (mO:zbk K CU "is_over" fO):FnOk P w K mg base CX0 2 f fd ["self"] (zhk CU):=by
 refine F.ok zh2 (fun vs H Q E h=>?_) (fun cdv A outer s H vs Q E hr h=>?_)
 ·obtain⟨c,s,n,i,r,rfl,_⟩:=h
  rfl
 obtain⟨c,s,n,i,r,rfl,C,hd,hw,he,q⟩:=h
 obtain⟨t1,e1⟩:=Z.small
 refine⟨_,(ai (aA (i:=1) zh2.nd rfl (Or.inl rfl) (zaB (pv 0) rfl))
  (ai (zhs PassesOwn.never (PW.pt (zcJ (zbS (zbh (zd0 (pv 0) Z.cl mO oO hr bO .nil aF))) (zcY (zac zgk (aB zft (zaB (pv 0) rfl) (zaB (pv 0) rfl) (fun _ _=>rfl)) (za8 (v:=.str abc) rfl e1 ⟨_,rfl⟩) rfl))))
   (ak (zgj (pv 0) ah zjj)))
  (ai (zal (zac zbu (zaB (pv 0) rfl) (pv 1) (zam _))
   zb6
   zab)
  (ak (aE (zbD zem (zaB (pv 0) rfl) (zbK (pv 1)) (zbK (zaB (pv 0) rfl)))))))),?_⟩
 obtain⟨⟨dx,hc⟩,hi,hl⟩:=id C
 have nl:=cp_len n
 have sl:=cp_len s
 have len:i+n.length+r.length=s.length:=by
  have e:=congrArg List.length hd
  rw[List.length_drop,List.length_append,nl,sl]at e
  omega
 refine⟨_,rfl,c,CU,dx,_,_,rfl,hc,Z.cl,Z.nP,za7 _ _,fun m σ H'=>∃ j,m+j=n.length∧σ=[some (.ref c),some (.int (i:Nat))]∧zaU CU H' c s (i+j)∧FrC H H' c,⟨n.length,0,rfl,rfl,C,FrC.of_same (ax.refl _)⟩,?_⟩
 rintro m σ H2 ⟨j,mj,rfl,C2,f2⟩
 obtain⟨⟨dx2,hc2⟩,hi2,_⟩:=id C2
 have dj:(cp s).drop (i+j)=(cp n).drop j++r:=by
  rw[←List.drop_drop,hd,List.drop_append_of_le_length (by rw[nl];omega)]
 have stop:m=0→(cp s).drop (i+j)=r:=fun e=>by rw[dj,List.drop_of_length_le (by rw[nl];omega),List.nil_append]
 have fin:m=0→∀ {tt:TS},True:=fun _ _=>trivial
 refine⟨_,rfl,c,dx2,_,rfl,hc2,zfC _ _,c,s,i+j,rfl,C2,_,rfl,?_⟩
 have last:m=0→j=n.length:=fun e=>by omega
 by_cases m0:m=0
 ·have ej:=last m0
  subst ej
  have n1:1≤n.length:=by
   rcases Nat.eq_zero_or_pos n.length with z | z
   ·exact absurd (List.length_eq_zero_iff.mp (by rw[nl];exact z)) hw.1
   ·exact z
  have tail:∀ {D:zaW},D.rt=Q→True:=fun _=>trivial
  by_cases ov:i+n.length=s.length
  ·rw[show decide (i+n.length=s.length)=true from decide_eq_true ov]
   refine za3 (za3 ?_)
   refine⟨_,rfl,c,CU,dx2,_,_,rfl,hc2,Z.cl,Z.nP,za7 _ _,_,rfl,rfl,_,rfl,aO (fun cc=>?_) (fun _=>?_)⟩
   ·have:=of_decide_eq_true cc
    injection this with this
    omega
   ·refine⟨_,rfl,c,CU,dx2,_,_,rfl,hc2,Z.cl,Z.nT,zcE _ _,_,rfl,_,rfl,_,rfl,c,CU,dx2,_,_,rfl,hc2,Z.cl,Z.nP,za7 _ _,_,rfl,s,rfl,F05.szM (by omega),?_⟩
    rw[zfx hd hi]
    exact q H2 C2 f2
  ·rw[show decide (i+n.length=s.length)=false from decide_eq_false ov]
   have dr:=stop m0
   obtain⟨ch,rt,er⟩:∃ ch rt,r=ch :: rt:=by
    cases r with
    | nil=>simp at len;omega
    | cons a b=>exact⟨a,b,rfl⟩
   have chat:atI s.cps.toList ((i+n.length:Nat):Int)=some ch:=zae (by
    have e:(cp s)[i+n.length]?=((cp s).drop (i+n.length))[0]?:=by rw[List.getElem?_drop];rfl
    show(cp s)[i+n.length]?=some ch
    rw[e,dr,er]
    rfl)
   have nb:=zkG ch (he ch rt er)
   refine zbj ⟨_,rfl,c,CU,dx2,_,_,rfl,hc2,Z.cl,Z.nT,zcE _ _,_,rfl,c,CU,dx2,_,_,rfl,hc2,Z.cl,Z.nP,za7 _ _,s,_,ch,rfl,rfl,F05.szM (by omega),chat,_,_,rfl,rfl,_,rfl,aO (fun cc=>?_) (fun _=>?_)⟩
   ·have cc':isL ⟨#[ch]⟩=true:=cc
    rw[nb]at cc'
    cases cc'
   refine⟨_,rfl,c,CU,dx2,_,_,rfl,hc2,Z.cl,Z.nP,za7 _ _,_,rfl,rfl,_,rfl,aO (fun cc=>?_) (fun _=>?_)⟩
   ·have:=of_decide_eq_true cc
    injection this with this
    omega
   ·refine⟨_,rfl,c,CU,dx2,_,_,rfl,hc2,Z.cl,Z.nT,zcE _ _,_,rfl,_,rfl,_,rfl,c,CU,dx2,_,_,rfl,hc2,Z.cl,Z.nP,za7 _ _,_,rfl,s,rfl,F05.szM (by omega),?_⟩
    rw[zfx hd hi]
    exact q H2 C2 f2
 ·have jl:j < n.length:=by omega
  obtain⟨ch,hch⟩:∃ ch,(cp n)[j]?=some ch:=⟨_,List.getElem?_eq_getElem (by rw[nl];exact jl)⟩
  have yes:=zf8 ch (hw.2.1 ch (List.mem_of_getElem? hch))
  have chat:atI s.cps.toList ((i+j:Nat):Int)=some ch:=zae (by
   have e:(cp s)[i+j]?=((cp s).drop (i+j))[0]?:=by rw[List.getElem?_drop];rfl
   show(cp s)[i+j]?=some ch
   rw[e,dj,List.getElem?_append_left (by rw[List.length_drop,nl];omega),List.getElem?_drop]
   exact hch)
  rw[show decide (i+j=s.length)=false from decide_eq_false (by omega)]
  refine zbj ⟨_,rfl,c,CU,dx2,_,_,rfl,hc2,Z.cl,Z.nT,zcE _ _,_,rfl,c,CU,dx2,_,_,rfl,hc2,Z.cl,Z.nP,za7 _ _,s,_,ch,rfl,rfl,F05.szM (by omega),chat,_,_,rfl,rfl,_,rfl,aO (fun _=>?_) (fun cc=>absurd (show isL ⟨#[ch]⟩=true from yes) cc)⟩
  refine⟨fun σ' H'=>∃ m',m' < m∧∃ j,m'+j=n.length∧σ'=[some (.ref c),some (.int (i:Nat))]∧zaU CU H' c s (i+j)∧FrC H H' c,fun _ _ h=>h,?_⟩
  refine⟨_,rfl,c,CU,dx2,_,_,rfl,hc2,Z.cl,Z.nP,za7 _ _,_,_,rfl,rfl,dx2,_,hc2,zim _ _,?_⟩
  have ep:zaI "place" (.int (((i+j:Nat):Int)+1)) (cfl s (i+j))=cfl s (i+j+1):=zil s (i+j) (i+j+1)
  rw[ep]
  exact⟨m - 1,by omega,j+1,by omega,rfl,⟨⟨dx2,ae⟩,by omega,hl⟩,fun b o e n=>by rw[au n];exact f2 _ _ e n⟩
end
end C05
namespace C05
open PySem L2
open F05 (Tr dTr aQ dp dps)
mutual
def cT:Tr→List Nat
 | .node n ts=>cp n++cB ts
def cB:List Tr→List Nat
 | []=>[]
 | t :: ts=>40 :: (cT t++cR ts)
def cR:List Tr→List Nat
 | []=>[41]
 | t :: ts=>44 :: 32 :: (cT t++cR ts)
end
mutual
def LT:Tr→Prop
 | .node n ts=>Wd n∧LTs ts∧ts.length≤1000
def LTs:List Tr→Prop
 | []=>True
 | t :: ts=>LT t∧LTs ts
end
theorem zis:∀ {ts:List Tr},LTs ts→∀ t∈ts,LT t
 | t :: ts,h,u,hu=>by
  simp only[LTs]at h
  rcases List.mem_cons.mp hu with rfl | hu
  ·exact h.1
  ·exact zis h.2 u hu
def Eot (r:List Nat):Prop:=∀ c t,r=c :: t→c∈ends∧c≠40
theorem Eot.eow {r:List Nat} (h:Eot r):Eow r:=fun c t e=>(h c t e).1
theorem Eot.cR (ts:List Tr) (r:List Nat):Eot (cR ts++r):=fun c t e=>by
 cases ts with
 | nil=>simp only[C05.cR,List.singleton_append]at e;cases e;decide
 | cons u us=>simp only[C05.cR,List.cons_append]at e;cases e;decide
theorem c_op:cp "("=[40]:=by decide +kernel
theorem c_cl:cp ")"=[41]:=by decide +kernel
theorem c_co:cp ", "=[44,32]:=by decide +kernel
section
variable {P:Program} {w:World} {K:W.Frag} {mg:Str→Option Value} {base:Heap} {CU:Addr} {f fO fK fW fT fS:Addr} {fd dO dK' dW dT' dS:FuncData}
def sp_ctree (K:W.Frag) (CU:Addr) (b:Nat):Sp:=fun vs H Q _=>∃(c:Addr) (s:Str) (i:Nat) (t:Tr) (r:List Nat),vs=[.ref c,.int (b:Nat)]∧zaU CU H c s i∧(cp s).drop i=cT t++r∧LT t∧dp t≤b+1∧Eot r ∧
 ∀(H':Hp) (v:V),zaU CU H' c s (i+(cT t).length)→FrC H H' c→Has K H' (dTr t) v→Q v H'
def zgf (K:W.Frag) (CU:Addr) (b:Nat):Sp:=fun vs H Q _=>∃(c:Addr) (s:Str) (i:Nat) (t:Tr) (ts:List Tr) (r:List Nat),vs=[.ref c,.int (b:Nat)]∧zaU CU H c s i∧(cp s).drop i=cT t++(cR ts++r)∧LTs (t :: ts)∧(∀ u∈t :: ts,dp u≤b+1)∧(t :: ts).length≤1000 ∧
 ∀(H':Hp) (p:Addr) (xs:List V),zaU CU H' c s (i+(cT t++cR ts).length)→FrC H H' c→H' p=some (.tup xs)→aj K H' (aQ (t :: ts)) xs→Q (.ref p) H'
structure OwC (P:Program) (w:World) (K:W.Frag) (mg:Str→Option Value) (base:Heap) (CU fK fW:Addr) (dK' dW:FuncData):Prop where
 T:FnOk P w K mg base CX0 1 fK dK' ["self","signs"] (zg8 CU)
 bT:ay K dK' ["self","signs"] []
 mT:zbk K CU "takes" fK
 W:FnOk P w K mg base CX0 2 fW dW ["self"] (zhk CU)
 bW:ay K dW ["self"] []
 mW:zbk K CU "take_word" fW
theorem zgi:zaa ["self","brackets","trees"] ["self","brackets"] (ap s_Cursor_take_trees):=⟨rfl,rfl,rfl,by decide +kernel,rfl,by decide +kernel,by decide +kernel⟩
theorem zjL {b k:Nat} (F:Fun K "take_trees" "Cursor.take_trees" s_Cursor_take_trees f fd) (Z:TxC K mg CU) (O:OwC P w K mg base CU fK fW dK' dW) (hk:1≤k) (oT:FnOk P w K mg base CX0 k fT dT' ["self","brackets"] (sp_ctree K CU b)) (bT:ay K dT' ["self","brackets"] []) (mT:zbk K CU "take_tree" fT):FnOk P w K mg base CX0 (k+1) f fd ["self","brackets"] (zgf K CU b):=by
 refine F.ok zgi (fun vs H Q E h=>?_) (fun cdv A outer s H vs Q E hr h=>?_)
 ·obtain⟨c,s,i,t,ts,r,rfl,_⟩:=h
  rfl
 obtain⟨c,s,i,t,ts,r,rfl,C,hd,hw,hb,l9,q⟩:=h
 have hr1:aL 1 _:=hr.mono hk
 refine⟨_,(ai (aA (i:=2) zgi.nd rfl (Or.inl rfl) (zaA (aa (zaS (pv 0) Z.cl mT oT hr bT .nil aF (aa (pv 1) ac)) ac)))
  (ai (zhs PassesOwn.never (zbh (zaS (pv 0) Z.cl O.mT O.T hr1 O.bT .nil aF (aa aD ac)))
   (ak (zaM (zaL PySem.F.plainAttrs_list PySem.F.slot_list_append PySem.F.type_list_append zaK (pv 2) (aa (zaS (pv 0) Z.cl mT oT hr bT .nil aF (aa (pv 1) ac)) ac)))))
  (ai (zal (zbS (zbh (zaS (pv 0) Z.cl O.mT O.T hr1 O.bT .nil aF (aa aD ac))))
   zb6
   zab)
  (ak (aE (zcd zbn rfl Z.tuple PyProof.Rows.Boot.tuple (aa (pv 2) ac))))))),?_⟩
 obtain⟨⟨dx,hc⟩,_⟩:=id C
 simp only[LTs]at hw
 have lts:=zis hw.2
 refine⟨_,rfl,c,dx,_,rfl,hc,zdh _ _,_,rfl,c,s,i,t,cR ts++r,rfl,C,hd,hw.1,hb t (by simp),Eot.cR _ _,fun H1 v C1 f1 h1=>⟨lS1,fun l hl=>?_⟩⟩
 have s2:=ar hl (.lst [v])
 have n2:=ae (H:=H1) (a:=l) (o:=.lst [v])
 generalize upd H1 l (.lst [v])=H2 at s2 n2
 have C2:=C1.same s2
 have nlc:=C1.ne hl
 have hl0:H l=none:=by
  cases e:H l with
  | none=>rfl
  | some o=>rw[f1 _ _ e nlc]at hl;cases hl
 refine⟨fun m σ H'=>∃(j:Nat) (us:List V) (i':Nat),m+j=ts.length∧σ=[some (.ref c),some (.int (b:Nat)),some (.ref l)]∧H' l=some (.lst us)∧aj K H' (aQ (t :: ts.take j)) us∧zaU CU H' c s i'∧(cp s).drop i'=cR (ts.drop j)++r∧i'+(cR (ts.drop j)).length=i+(cT t++cR ts).length∧FrC H H' c,
  ⟨ts.length,0,[v],i+(cT t).length,rfl,rfl,n2,aj.one (h1.keep s2.kt (F05.nol_dTr _)),C2,zcC hd,by rw[List.drop_zero,List.length_append];omega,f1.trans (FrC.of_same s2)⟩,?_⟩
 rintro m σ H3 ⟨j,us,i',mj,rfl,hl3,hx3,C3,d3,e3,f3⟩
 obtain⟨⟨dx3,hc3⟩,_⟩:=id C3
 have ul:us.length=j+1:=by
  rw[←hx3.length,F05.dTrs_length,List.length_cons,List.length_take]
  omega
 simp only[List.length_cons]at l9
 by_cases jl:j < ts.length
 ·obtain⟨u,hu⟩:∃ u,ts[j]?=some u:=⟨_,List.getElem?_eq_getElem jl⟩
  have um:=List.mem_of_getElem? hu
  have ed:ts.drop j=u :: ts.drop (j+1):=by
   obtain⟨hi,e⟩:=List.getElem?_eq_some_iff.mp hu
   rw[List.drop_eq_getElem_cons hi,e]
  rw[ed]at d3 e3
  simp only[cR]at d3 e3
  have d3':(cp s).drop i'=cp ", "++(cT u++(cR (ts.drop (j+1))++r)):=by
   rw[d3,c_co]
   simp
  refine⟨_,rfl,c,dx3,_,rfl,hc3,zcA _ _,c,s,", ",i',rfl,C3,by decide +kernel,fun _ H4 C4 f4=>?_,fun e=>by rw[zgO d3']at e;cases e⟩
  have c2:((", ":Str)).length=2:=by decide +kernel
  rw[c2]at C4
  have d4:(cp s).drop (i'+2)=cT u++(cR (ts.drop (j+1))++r):=by
   have:=zcC d3'
   rw[c_co]at this
   exact this
  refine⟨_,rfl,zbj ?_⟩
  have hl4:=f4 _ _ hl3 nlc
  refine⟨fun σ' H'=>∃ m',m' < m∧∃(j:Nat) (us:List V) (i':Nat),m'+j=ts.length∧σ'=[some (.ref c),some (.int (b:Nat)),some (.ref l)]∧H' l=some (.lst us)∧aj K H' (aQ (t :: ts.take j)) us∧zaU CU H' c s i'∧(cp s).drop i'=cR (ts.drop j)++r∧i'+(cR (ts.drop j)).length=i+(cT t++cR ts).length∧FrC H H' c,fun _ _ h=>h,?_⟩
  obtain⟨⟨dx4,hc4⟩,_⟩:=id C4
  refine⟨_,rfl,.inl ⟨rfl,_,SqL.of hl4⟩,_,rfl,c,dx4,_,rfl,hc4,zdh _ _,_,rfl,c,s,i'+2,u,_,rfl,C4,d4,lts u um,hb u (List.mem_cons_of_mem _ um),Eot.cR _ _,fun H5 x C5 f5 h5=>?_⟩
  have hl5:=f5 _ _ hl4 nlc
  have kt:KeepT H5 (upd H5 l (.lst (us++[x]))):=KeepT.lst hl5
  refine⟨l,us,x,rfl,rfl,hl5,Nat.lt_of_lt_of_le (show us.length < 16000000 by omega) (F05.szM (Nat.le_refl _)),m - 1,by omega,j+1,us++[x],_,by omega,rfl,ae,?_,C5.putL hl5,zcC d4,?_,fun b' o e n=>?_⟩
  ·have et:aQ (t :: ts.take (j+1))=aQ (t :: ts.take j)++[dTr u]:=by
    rw[zaC hu,F05.dTrs_map,F05.dTrs_map]
    simp
   rw[et]
   exact((hx3.keep (C3.kt (f4.trans f5)) (F05.nols_dTrs _)).keep kt (F05.nols_dTrs _)).append (aj.one (h5.keep kt (F05.nol_dTr _)))
  ·simp only[List.length_cons,List.length_append]at e3 ⊢
   omega
  ·rw[au (fun z=>by rw[z,hl0]at e;cases e)]
   exact f5 _ _ (f4 _ _ (f3 _ _ e n) n) n
 ·have ej:j=ts.length:=by omega
  subst ej
  rw[List.drop_length]at d3 e3
  simp only[cR]at d3 e3
  rw[List.take_length]at hx3
  refine⟨_,rfl,c,dx3,_,rfl,hc3,zcA _ _,c,s,", ",i',rfl,C3,by decide +kernel,fun e=>?_,fun _=>?_⟩
  ·rw[ziu d3 (fun t' h=>by rw[c_co]at h;simp at h)]at e
   cases e
  refine⟨_,rfl,za3 ?_⟩
  refine⟨_,rfl,c,dx3,_,rfl,hc3,zcA _ _,c,s,")",i',rfl,C3,by decide +kernel,fun _ H4 C4 f4=>?_,fun e=>by rw[zgO (r:=r) (by rw[d3,c_cl])]at e;cases e⟩
  have c1:((")":Str)).length=1:=by decide +kernel
  rw[c1]at C4
  have hl4:=f4 _ _ hl3 nlc
  refine⟨_,rfl,za3 ⟨_,rfl,l,_,rfl,.inl ⟨SqL.of hl4,fun p hp=>?_⟩⟩⟩
  have s5:=ar hp (.tup us)
  refine q _ p us ?_ ((f3.trans f4).trans (FrC.of_same s5)) ae ((hx3.keep (C3.kt f4) (F05.nols_dTrs _)).keep s5.kt (F05.nols_dTrs _))
  rw[←e3]
  exact C4.same s5
end
end C05
namespace C05
open PySem L2
open F05 (Tr dTr aQ dp dps)
section
variable {P:Program} {w:World} {K:W.Frag} {mg:Str→Option Value} {base:Heap} {CU:Addr} {f fO fK fW fT fS:Addr} {fd dO dK' dW dT' dS:FuncData}
theorem zdY:zaa ["self","brackets","word"] ["self","brackets"] (ap s_Cursor_take_tree):=⟨rfl,rfl,rfl,by decide +kernel,rfl,by decide +kernel,by decide +kernel⟩
theorem ctree0 (F:Fun K "take_tree" "Cursor.take_tree" s_Cursor_take_tree f fd) (Z:TxC K mg CU) (O:OwC P w K mg base CU fK fW dK' dW) (bS:ay K dS ["self","brackets"] []) (mS:zbk K CU "take_trees" fS):FnOk P w K mg base CX0 4 f fd ["self","brackets"] (sp_ctree K CU 0):=by
 refine F.ok zdY (fun vs H Q E h=>?_) (fun cdv A outer s H vs Q E hr h=>?_)
 ·obtain⟨c,s,i,t,r,rfl,_⟩:=h
  rfl
 obtain⟨c,s,i,t,r,rfl,C,hd,hw,hb,he,q⟩:=h
 have hr1:aL 1 _:=hr.mono (by decide)
 have hr2:aL 2 _:=hr.mono (by decide)
 refine⟨_,(ai (aA (i:=2) zdY.nd rfl (Or.inl rfl) (zd0 (pv 0) Z.cl O.mW O.W hr2 O.bW .nil aF))
  (ai (zal (zbS (zbh (zaS (pv 0) Z.cl O.mT O.T hr1 O.bT .nil aF (aa aD ac))))
   (ak (aE (zak (aa (pv 2) (aa (zak ac) ac)))))
   zab)
  zb6)),?_⟩
 obtain⟨⟨dx,hc⟩,_⟩:=id C
 cases t with
 | node n ts =>
 simp only[LT]at hw
 simp only[cT]at hd q
 rw[List.append_assoc]at hd
 have z2:2≤sizeLine:=by decide
 have z0:0≤sizeLine:=Nat.zero_le _
 have ew:Eow (cB ts++r):=by
  cases ts with
  | nil=>exact he.eow
  | cons u us=>exact Eow.cons (by decide)
 refine⟨_,rfl,c,dx,_,rfl,hc,zeI _ _,c,s,n,i,_,rfl,C,hd,hw.1,ew,fun H1 C1 f1=>?_⟩
 have d1:=zcC hd
 rw[cp_len]at d1
 obtain⟨⟨dx1,hc1⟩,_⟩:=id C1
 have c1:(("(":Str)).length=1:=by decide +kernel
 cases ts with
 | nil =>
  simp only[cB,List.nil_append,List.append_nil]at d1 q
  rw[cp_len]at q
  refine⟨_,rfl,c,dx1,_,rfl,hc1,zcA _ _,c,s,"(",_,rfl,C1,by decide +kernel,fun e=>?_,fun _=>?_⟩
  ·rw[ziu d1 (fun t' h=>by rw[c_op]at h;exact(he _ _ h).2 rfl)]at e
   cases e
  refine⟨_,rfl,zbj ⟨_,rfl,z0,fun e he'=>⟨z2,fun p hp=>?_⟩⟩⟩
  have s2:=ar he' (.tup [])
  have n2:=ae (H:=H1) (a:=e) (o:=.tup [])
  generalize upd H1 e (.tup [])=H2 at s2 n2 hp ⊢
  have s3:=ar hp (.tup [V.str n,V.ref e])
  have n3:=ae (H:=H2) (a:=p) (o:=.tup [V.str n,V.ref e])
  exact q _ _ (C1.same (s2.trans s3)) (f1.trans (FrC.of_same (s2.trans s3))) (F05.of_tr (SqT.of n3) (SqT.of (s3 _ _ n2)) (by simp only[aQ];exact aj.nil))
 | cons u us =>
  exfalso
  simp only[dp,dps]at hb
  cases u
  simp only[dp]at hb
  omega
theorem ctree {b k:Nat} (F:Fun K "take_tree" "Cursor.take_tree" s_Cursor_take_tree f fd) (Z:TxC K mg CU) (O:OwC P w K mg base CU fK fW dK' dW) (hk:2≤k) (bS:ay K dS ["self","brackets"] []) (mS:zbk K CU "take_trees" fS) {b':Nat} (hb':b=b'+1) (oS:FnOk P w K mg base CX0 k fS dS ["self","brackets"] (zgf K CU b')):FnOk P w K mg base CX0 (k+1) f fd ["self","brackets"] (sp_ctree K CU b):=by
 refine F.ok zdY (fun vs H Q E h=>?_) (fun cdv A outer s H vs Q E hr h=>?_)
 ·obtain⟨c,s,i,t,r,rfl,_⟩:=h
  rfl
 obtain⟨c,s,i,t,r,rfl,C,hd,hw,hb,he,q⟩:=h
 have hr1:aL 1 _:=hr.mono (by omega)
 have hr2:aL 2 _:=hr.mono hk
 refine⟨_,(ai (aA (i:=2) zdY.nd rfl (Or.inl rfl) (zd0 (pv 0) Z.cl O.mW O.W hr2 O.bW .nil aF))
  (ai (zal (zbS (zbh (zaS (pv 0) Z.cl O.mT O.T hr1 O.bT .nil aF (aa aD ac))))
   (ak (aE (zak (aa (pv 2) (aa (zak ac) ac)))))
   zab)
  (ai (zal (zac zbu (pv 1) ah (zam _))
   zb6
   zab)
  (ak (aE (zak (aa (pv 2) (aa (zaS (pv 0) Z.cl mS oS hr bS .nil aF (aa (aw zcm (pv 1) ah) ac)) ac)))))))),?_⟩
 obtain⟨⟨dx,hc⟩,_⟩:=id C
 cases t with
 | node n ts =>
 simp only[LT]at hw
 simp only[cT]at hd q
 rw[List.append_assoc]at hd
 have z2:2≤sizeLine:=by decide
 have z0:0≤sizeLine:=Nat.zero_le _
 have ew:Eow (cB ts++r):=by
  cases ts with
  | nil=>exact he.eow
  | cons u us=>exact Eow.cons (by decide)
 refine⟨_,rfl,c,dx,_,rfl,hc,zeI _ _,c,s,n,i,_,rfl,C,hd,hw.1,ew,fun H1 C1 f1=>?_⟩
 have d1:=zcC hd
 rw[cp_len]at d1
 obtain⟨⟨dx1,hc1⟩,_⟩:=id C1
 have c1:(("(":Str)).length=1:=by decide +kernel
 cases ts with
 | nil =>
  simp only[cB,List.nil_append,List.append_nil]at d1 q
  rw[cp_len]at q
  refine⟨_,rfl,c,dx1,_,rfl,hc1,zcA _ _,c,s,"(",_,rfl,C1,by decide +kernel,fun e=>?_,fun _=>?_⟩
  ·rw[ziu d1 (fun t' h=>by rw[c_op]at h;exact(he _ _ h).2 rfl)]at e
   cases e
  refine⟨_,rfl,zbj ⟨_,rfl,z0,fun e he'=>⟨z2,fun p hp=>?_⟩⟩⟩
  have s2:=ar he' (.tup [])
  have n2:=ae (H:=H1) (a:=e) (o:=.tup [])
  generalize upd H1 e (.tup [])=H2 at s2 n2 hp ⊢
  have s3:=ar hp (.tup [V.str n,V.ref e])
  have n3:=ae (H:=H2) (a:=p) (o:=.tup [V.str n,V.ref e])
  exact q _ _ (C1.same (s2.trans s3)) (f1.trans (FrC.of_same (s2.trans s3))) (F05.of_tr (SqT.of n3) (SqT.of (s3 _ _ n2)) (by simp only[aQ];exact aj.nil))
 | cons u us =>
  simp only[cB]at d1 q
  have hb2:∀ x∈u :: us,dp x≤b:=by
   simp only[dp]at hb
   exact F05.dps_le (by omega)
  subst hb'
  have d1':(cp s).drop (i+n.length)=cp "("++(cT u++(cR us++r)):=by
   rw[d1,c_op]
   simp
  refine⟨_,rfl,c,dx1,_,rfl,hc1,zcA _ _,c,s,"(",_,rfl,C1,by decide +kernel,fun _ H2 C2 f2=>?_,fun e=>by rw[zgO d1']at e;cases e⟩
  rw[c1]at C2
  have d2:(cp s).drop (i+n.length+1)=cT u++(cR us++r):=by
   have:=zcC d1'
   rw[c_op]at this
   exact this
  obtain⟨⟨dx2,hc2⟩,_⟩:=id C2
  refine⟨_,rfl,za3 ⟨_,rfl,rfl,_,rfl,aO (fun cc=>?_) (fun _=>?_)⟩⟩
  ·have:=of_decide_eq_true cc
   injection this with this
   omega
  have eb:(((b'+1:Nat):Int) - 1)=(b':Nat):=by omega
  have len:(u :: us).length≤1000:=hw.2.2
  refine⟨_,rfl,_,rfl,c,dx2,_,rfl,hc2,zgE _ _,_,rfl,_,_,rfl,rfl,c,s,_,u,us,r,by rw[←eb];rfl,C2,d2,hw.2.1,fun x hx=>by have:=hb2 x hx;omega,len,fun H3 p xs C3 f3 hp hx=>⟨z2,fun p2 hp2=>?_⟩⟩
  have s4:=ar hp2 (.tup [V.str n,V.ref p])
  have n4:=ae (H:=H3) (a:=p2) (o:=.tup [V.str n,V.ref p])
  refine q _ _ ?_ (((f1.trans f2).trans f3).trans (FrC.of_same s4)) (F05.of_tr (SqT.of n4) (SqT.of (s4 _ _ hp)) (hx.keep s4.kt (F05.nols_dTrs _)))
  have e:i+n.length+1+(cT u++cR us).length=i+(cp n++40 :: (cT u++cR us)).length:=by
   simp only[List.length_append,List.length_cons,cp_len]
   omega
  rw[e]at C3
  exact C3.same s4
theorem ok_ctree (F:Fun K "take_tree" "Cursor.take_tree" s_Cursor_take_tree f fd) (FS:Fun K "take_trees" "Cursor.take_trees" s_Cursor_take_trees fS dS) (Z:TxC K mg CU) (O:OwC P w K mg base CU fK fW dK' dW) (bF:ay K fd ["self","brackets"] []) (mF:zbk K CU "take_tree" f) (bS:ay K dS ["self","brackets"] []) (mS:zbk K CU "take_trees" fS) :
  ∀ b,FnOk P w K mg base CX0 (2 * b+4) f fd ["self","brackets"] (sp_ctree K CU b)
 | 0=>ctree0 F Z O bS mS
 | b+1=>ctree (b:=b+1) (k:=2 * b+5) F Z O (by omega) bS mS (b':=b) rfl (zjL FS Z O (by omega) (ok_ctree F FS Z O bF mF bS mS b) bF mF)
end
end C05
namespace C05
open PySem L2
theorem zew {x y:Str} {k:Nat} (hy:1≤y.length):StrLaws.At x y x.length k↔∃ r,(cp x).drop k=cp y++r:=by
 unfold StrLaws.At
 rw[StrLaws.subAt_eq,beq_iff_eq]
 have lx:x.cps.toList.length=x.length:=cp_len x
 have ly:y.cps.toList.length=y.length:=cp_len y
 constructor
 ·rintro ⟨h1,h2⟩
  refine⟨((cp x).drop k).drop y.length,?_⟩
  unfold cp
  rw[←h2]
  exact(List.take_append_drop _ _).symm
 ·rintro ⟨r,h⟩
  have h':x.cps.toList.drop k=y.cps.toList++r:=h
  have l:=congrArg List.length h'
  rw[List.length_drop,List.length_append,lx,ly]at l
  exact⟨by omega,by rw[h',←ly,List.take_left' rfl]⟩
def jn (y:List Nat):List (List Nat)→List Nat
 | []=>[]
 | [p]=>p
 | p :: q :: r=>p++y++jn y (q :: r)
def Fre (y:List Nat):List (List Nat)→Prop
 | []=>True
 | [p]=>∀ i r,p.drop i≠y++r
 | p :: q :: t=>(∀ i r,i < p.length→(p++y++jn y (q :: t)).drop i≠y++r)∧Fre y (q :: t)
theorem zi1 (x:Str) (i j:Nat):cp (Builtin.Str.strSub x i j)=((cp x).drop i).take (j - i):=StrLaws.strSub_toList x i j
theorem zht {x y:Str} (hy:1≤y.length):∀(ps:List Str) (a:Nat) (cuts:List Nat) (f:Nat),ps≠[]→(cp x).drop a=jn (cp y) (ps.map cp)→a≤x.length→Fre (cp y) (ps.map cp)→StrLaws.ChainG x y x.length a cuts f→(∀ k,f≤k→¬StrLaws.At x y x.length k)→StrLaws.partsFrom x y.length a cuts=ps
 | [],a,cuts,f,ne,h,ha,fr,g,n=>absurd rfl ne
 | [p],a,cuts,f,ne,h,ha,fr,g,n=>by
  simp only[List.map_cons,List.map_nil,jn,Fre]at h fr
  have lx:=cp_len x
  cases cuts with
  | nil =>
   show [Builtin.Str.strSub x a x.length]=[p]
   refine congrArg (fun z=>[z]) (cp_inj ?_)
   rw[zi1,h,List.take_of_length_le]
   have:=congrArg List.length h
   rw[List.length_drop]at this
   omega
  | cons c r =>
   exfalso
   obtain⟨h1,h2,_⟩:=g
   obtain⟨r',h3⟩:=(zew hy).mp h2
   refine fr (c - a) r' ?_
   rw[←h,List.drop_drop,←h3]
   congr 1
   omega
 | p :: q :: t,a,cuts,f,ne,h,ha,fr,g,n=>by
  simp only[List.map_cons,jn,Fre]at h fr
  have lx:=cp_len x
  have lp:=cp_len p
  have ly:=cp_len y
  have hp:(cp x).drop (a+p.length)=cp y++jn (cp y) ((q :: t).map cp):=by
   rw[←List.drop_drop,h,List.append_assoc,←lp,List.drop_left' rfl]
   rfl
  have A:StrLaws.At x y x.length (a+p.length):=(zew hy).mpr ⟨_,hp⟩
  cases cuts with
  | nil =>
   exfalso
   have e:f=a:=g
   exact n _ (by omega) A
  | cons c r =>
   obtain⟨h1,h2,h3,h4⟩:=g
   have c1:c≤a+p.length:=Nat.le_of_not_lt fun lt=>h3 _ (by omega) lt A
   have c2:a+p.length≤c:=Nat.le_of_not_lt fun lt=>by
    obtain⟨r',e⟩:=(zew hy).mp h2
    refine fr.1 (c - a) r' (by omega) ?_
    have e2:(cp x).drop c=((cp x).drop a).drop (c - a):=by
     rw[List.drop_drop]
     congr 1
     omega
    rw[e2,h]at e
    exact e
   have ec:c=a+p.length:=by omega
   subst ec
   show Builtin.Str.strSub x a (a+p.length) :: StrLaws.partsFrom x y.length (a+p.length+y.length) r=p :: q :: t
   have e1:Builtin.Str.strSub x a (a+p.length)=p:=by
    refine cp_inj ?_
    rw[zi1,h,Nat.add_sub_cancel_left,←lp,List.append_assoc,List.take_left' rfl]
   have e2:=zht hy (q :: t) (a+p.length+y.length) r f (by simp) (by
    rw[←List.drop_drop,hp,←ly,List.drop_left' rfl]) A.1 fr.2 h4 n
   rw[e1,e2]
theorem kind1 (x:Str):1≤Builtin.Str.strKind x:=by
 unfold Builtin.Str.strKind
 split
 ·decide
 ·split <;> decide
theorem zg6 {x y:Str} {ps:List Str} (hy:1≤y.length) (hk:Builtin.Str.strKind y=1) (ne:ps≠[]) (h:cp x=jn (cp y) (ps.map cp)) (fr:Fre (cp y) (ps.map cp)):Txt.split x y=ps:=by
 have lx:=cp_len x
 have ly:=cp_len y
 have k1:=kind1 x
 have one:∀ p,ps=[p]→[x]=ps:=fun p e=>by
  rw[e]
  refine congrArg (fun z=>[z]) (cp_inj ?_)
  rw[h,e]
  rfl
 have two:∀ p q t,ps=p :: q :: t→StrLaws.At x y x.length p.length:=fun p q t e=>by
  refine(zew hy).mpr ⟨jn (cp y) ((q :: t).map cp),?_⟩
  rw[h,e]
  simp only[List.map_cons,jn]
  rw[List.append_assoc,←cp_len p,List.drop_left' rfl]
 obtain⟨f,hG,hn⟩:=StrLaws.occ_tight x y hy
 unfold Txt.split
 split
 ·rename_i hc
  rw[Bool.or_eq_true,decide_eq_true_eq,decide_eq_true_eq,hk]at hc
  match ps,ne,one,two with
  | [p],_,one,_=>exact one p rfl
  | p :: q :: t,_,_,two =>
   have:=(two p q t rfl).1
   omega
 ·split
  ·rename_i he
   have e0:=List.isEmpty_iff.mp he
   match ps,ne,one,two with
   | [p],_,one,_=>exact one p rfl
   | p :: q :: t,_,_,two =>
    exfalso
    rw[e0]at hG
    have ef:f=0:=hG
    exact hn _ (by omega) (two p q t rfl)
  ·rw[StrLaws.partsBetween_eq]
   exact zht hy ps 0 _ f ne h (Nat.zero_le _) fr hG hn
def Fine (s:List Nat):Prop:=∀ u v,s=u++32 :: 111 :: 114 :: v→v≠[]∧∀ c t,v=c :: t→c≠32
theorem zjl:∀ {ps:List (List Nat)},(∀ p∈ps,Fine p)→Fre [32,111,114,32] ps
 | [],_=>trivial
 | [p],h=>fun i r e=>by
  have hp:=h p (by simp)
  have e2:p=p.take i++32 :: 111 :: 114 :: (32 :: r):=by
   conv=>lhs;rw[←List.take_append_drop i p,e]
   rfl
  exact(hp _ _ e2).2 32 r rfl rfl
 | p :: q :: t,h=>by
  refine⟨fun i r hi e=>?_,zjl fun x hx=>h x (List.mem_cons_of_mem _ hx)⟩
  have hp:=h p (by simp)
  rw[List.append_assoc,List.drop_append_of_le_length (by omega)]at e
  have ed:p=p.take i++p.drop i:=(List.take_append_drop i p).symm
  have nd:(p.drop i).length≠0:=by rw[List.length_drop];omega
  generalize p.drop i=d at e ed nd
  match d,nd,e,ed with
  | [a],_,e,ed=>simp at e
  | [a,b],_,e,ed=>simp at e
  | [a,b,c],_,e,ed =>
   simp at e
   obtain⟨rfl,rfl,rfl,_⟩:=e
   exact(hp _ [] ed).1 rfl
  | a :: b :: c :: g :: k,_,e,ed =>
   simp at e
   obtain⟨rfl,rfl,rfl,rfl,_⟩:=e
   exact(hp _ (32 :: k) ed).2 32 k rfl rfl
theorem fre_eq {a b:List Nat} (ha:61∉a) (hb:61∉b):Fre [32,61,32] [a,b]:=by
 refine⟨fun i r hi e=>?_,fun i r e=>?_⟩
 ·rw[List.append_assoc,List.drop_append_of_le_length (by omega)]at e
  have sub:∀ c∈a.drop i,c≠61:=fun c hc e'=>ha (e' ▸ List.mem_of_mem_drop hc)
  have nd:(a.drop i).length≠0:=by rw[List.length_drop];omega
  generalize a.drop i=d at e sub nd
  match d,nd,e,sub with
  | [x],_,e,_=>simp at e
  | x :: y :: t,_,e,sub =>
   simp at e
   exact sub y (by simp) e.2.1
 ·have sub:∀ c∈b.drop i,c≠61:=fun c hc e'=>hb (e' ▸ List.mem_of_mem_drop hc)
  rw[e]at sub
  exact sub 61 (by simp) rfl
end C05
namespace C05
open PySem L2
open F05 (Tr dTr aQ dp dps nols_dTrs trs_get tr_at szM dTrs_length sz txt zaE zaQ)
abbrev cl (x:Str):List Nat:=x.cps.toList
theorem zjs {a b:Str} (h:cl a=cl b):a=b:=Str.ext' (Array.toList_inj.mp h)
theorem zjt (a b:Str):cl (a++b)=cl a++cl b:=Array.toList_append
theorem ziK {x:Str} (h:1≤x.length):cl (Txt.slice x none (some (-1)))=(cl x).take (x.length - 1):=by
 have e:=eq_of_beq (PyProof.Rows.slice_closes_to_neg (x:=x) (j:=-1) (k:=-1+x.length) (by decide) (by omega) rfl)
 rw[e]
 have e2:(-1+(x.length:Int) - 0).toNat=x.length - 1:=by omega
 rw[e2]
 simp [cl]
theorem zhy {m:Nat}:∀ {a a' r r':List Nat},a++m :: r=a'++m :: r'→m∉a→m∉a'→a=a'∧r=r'
 | [],[],r,r',h,_,_=>⟨rfl,(List.cons.inj h).2⟩
 | [],y :: a',r,r',h,_,h2=>absurd (by rw[(List.cons.inj h).1];exact List.mem_cons_self ..) h2
 | x :: a,[],r,r',h,h1,_=>absurd (by rw[←(List.cons.inj h).1];exact List.mem_cons_self ..) h1
 | x :: a,y :: a',r,r',h,h1,h2=>by
  obtain⟨e1,e2⟩:=List.cons.inj h
  obtain⟨e3,e4⟩:=zhy e2 (fun z=>h1 (List.mem_cons_of_mem _ z)) (fun z=>h2 (List.mem_cons_of_mem _ z))
  exact⟨by rw[e1,e3],e4⟩
theorem zdO (c:Nat) (p q:Str) (r:List Str):cl (Str.join ⟨#[c]⟩ (p :: q :: r))=cl p++c :: cl (Str.join ⟨#[c]⟩ (q :: r)):=by
 show cl (p++⟨#[c]⟩++Str.join ⟨#[c]⟩ (q :: r))=_
 rw[zjt,zjt,List.append_assoc]
 rfl
theorem zhA {c:Nat}:∀ {ps qs:List Str},ps≠[]→qs≠[]→(∀ p∈ps,c∉cl p)→(∀ q∈qs,c∉cl q)→Str.join ⟨#[c]⟩ ps=Str.join ⟨#[c]⟩ qs→ps=qs
 | [],_,h,_,_,_,_=>absurd rfl h
 | _,[],_,h,_,_,_=>absurd rfl h
 | [p],[q],_,_,_,_,e=>by rw[show p=q from e]
 | [p],q :: q' :: r,_,_,hp,_,e=>by
  have e':cl p=cl (Str.join ⟨#[c]⟩ (q :: q' :: r)):=congrArg cl e
  rw[zdO]at e'
  exact absurd (by rw[e'];simp) (hp p (List.mem_cons_self ..))
 | p :: p' :: r,[q],_,_,_,hq,e=>by
  have e':cl (Str.join ⟨#[c]⟩ (p :: p' :: r))=cl q:=congrArg cl e
  rw[zdO]at e'
  exact absurd (by rw[←e'];simp) (hq q (List.mem_cons_self ..))
 | p :: p' :: r,q :: q' :: r',_,_,hp,hq,e=>by
  have e':=congrArg cl e
  rw[zdO,zdO]at e'
  obtain⟨e1,e2⟩:=zhy e' (hp p (List.mem_cons_self ..)) (hq q (List.mem_cons_self ..))
  rw[zjs e1,zhA (c:=c) (by simp) (by simp) (fun x hx=>hp x (List.mem_cons_of_mem _ hx)) (fun x hx=>hq x (List.mem_cons_of_mem _ hx)) (zjs e2)]
theorem zj3 (x y:Str):Txt.split x y≠[]:=by
 unfold Txt.split
 split
 ·simp
 ·split
  ·simp
  ·rw[StrLaws.partsBetween_eq]
   obtain⟨p,r,e⟩:=StrLaws.partsFrom_ne x y.length 0 (Builtin.Str.occurrences x y 0 x.length (x.length+1))
   rw[e]
   simp
theorem ziJ {c:Nat} {ps:List Str} (h:ps≠[]) (hf:∀ p∈ps,c∉cl p):Txt.split (Str.join ⟨#[c]⟩ ps) ⟨#[c]⟩=ps :=
 zhA (c:=c) (zj3 _ _) h (StrLaws.split_free _ c) hf (StrLaws.join_split _ _)
theorem zjP (c:Nat):∀ {ps:List Str},ps≠[]→Str.join ⟨#[c]⟩ (ps++[Str.empty])=Str.join ⟨#[c]⟩ ps++⟨#[c]⟩
 | [],h=>absurd rfl h
 | [p],_=>Str.append_empty _
 | p :: q :: r,_=>by
  show p++⟨#[c]⟩++Str.join ⟨#[c]⟩ ((q :: r)++[Str.empty])=p++⟨#[c]⟩++Str.join ⟨#[c]⟩ (q :: r)++⟨#[c]⟩
  rw[zjP c (ps:=q :: r) (by simp),←Str.append_assoc]
theorem e10:("\n":Str)=⟨#[10]⟩:=by decide +kernel
theorem ew {t:Str} (h1:1≤t.length):PySem.Txt.endswith t "\n"=decide ((cl t)[t.length - 1]?=some 10):=by
 rw[e10]
 unfold PySem.Txt.endswith
 have h:=StrLaws.subAt_one t 10 (t.length - 1)
 rw[Bool.eq_iff_iff,Bool.and_eq_true,decide_eq_true_eq,decide_eq_true_eq,←h]
 refine⟨fun z=>⟨?_,z.2⟩,fun z=>⟨?_,z.2⟩⟩
 ·show t.length - 1+1≤t.length
  omega
 ·show 0+1≤t.length
  omega
theorem cl_cp (x:Str):cl x=cp x:=rfl
theorem cp_glued (sep:Str):∀(p:Str) (ps:List Str),cp (Builtin.Str.glued sep (p :: ps))=cp p++ps.flatMap (fun q=>cp sep++cp q)
 | p,[]=>by
  rw[zjU]
  simp
 | p,q :: r=>by
  have ih:=cp_glued sep q r
  rw[StrLaws.glued_eq_join]at ih ⊢
  show cp (p++sep++Str.join sep (q :: r))=_
  rw[za6,za6,ih,List.flatMap_cons]
  simp only[List.append_assoc]
mutual
theorem cp_txt:∀ t:Tr,cp (txt t)=cT t
 | .node n ts=>by
  cases ts with
  | nil =>
   simp only[txt,zaE,zaQ,cT,cB,List.append_nil]
   rfl
  | cons t ts =>
   have h1:=cp_txt t
   have h2:=zik ts
   simp only[txt,zaE,zaQ,List.isEmpty_cons,Bool.false_eq_true,if_false,cT,cB]
   rw[za6,za6,za6,cp_glued,h1,c_op,←h2]
   simp only[List.append_assoc,List.cons_append,List.nil_append]
theorem zik:∀ ts:List Tr,(zaE ts).flatMap (fun q=>cp ", "++cp q)++cp ")"=cR ts
 | []=>by
  simp only[zaE,cR,List.flatMap_nil,List.nil_append]
  decide +kernel
 | t :: ts=>by
  have h1:=cp_txt t
  have h2:=zik ts
  simp only[zaE,cR,List.flatMap_cons]
  rw[h1,←h2,show cp ", "=[44,32] by decide +kernel]
  simp only[List.append_assoc,List.cons_append,List.nil_append]
end
def zcR (rs:List Str):List Nat:=rs.flatMap fun r=>cp r++[10]
theorem zfz:∀ {rs:List Str},rs≠[]→zcR rs=cp (Str.join ⟨#[10]⟩ rs)++[10]
 | [],h=>absurd rfl h
 | [r],_=>by
  show cp r++[10]++[]=cp r++[10]
  simp
 | r :: q :: l,_=>by
  have ih:=zfz (rs:=q :: l) (by simp)
  have e:zcR (r :: q :: l)=(cp r++[10])++zcR (q :: l):=rfl
  have e2:cp (Str.join ⟨#[10]⟩ (r :: q :: l))=cp r++10 :: cp (Str.join ⟨#[10]⟩ (q :: l)):=zdO 10 r q l
  rw[e,ih,e2]
  simp
theorem zj2 {s:Str} {rs:List Str} (ne:rs≠[]) (h:cp s=zcR rs) (hf:∀ r∈rs,10∉cp r):1≤s.length∧PySem.Txt.endswith s "\n"=true∧PySem.Txt.split (PySem.Txt.slice s none (some (-1))) "\n"=rs:=by
 rw[zfz ne]at h
 have sl:=cp_len s
 have l1:s.length=(cp (Str.join ⟨#[10]⟩ rs)).length+1:=by rw[←sl,h,List.length_append];rfl
 have h1:1≤s.length:=by omega
 refine⟨h1,?_,?_⟩
 ·rw[ew h1]
  refine decide_eq_true ?_
  show(cp s)[s.length - 1]?=some 10
  rw[h,List.getElem?_append_right (by omega),l1]
  simp
 ·have e:PySem.Txt.slice s none (some (-1))=Str.join ⟨#[10]⟩ rs:=by
   apply cp_inj
   have:=ziK h1
   rw[cl_cp,cl_cp]at this
   rw[this,h,List.take_append_of_le_length (by omega),List.take_of_length_le (by omega)]
  rw[e]
  exact ziJ (c:=10) ne hf
section
variable {P:Program} {w:World} {K:W.Frag} {mg:Str→Option Value} {base:Heap} {f:Addr} {fd:FuncData}
def ze6:Sp:=fun vs H Q _=>∃(s:Str) (rs:List Str),vs=[.str s]∧s.length≤1000000∧cp s=zcR rs∧(∀ r∈rs,10∉cp r)∧∀(H':Hp) (p:Addr),ax H H'→H p=none→H' p=some (.lst (rs.map V.str))→Q (.ref p) H'
theorem zj7:zaa ["text"] ["text"] (ap s_text_rows):=⟨rfl,rfl,rfl,by decide +kernel,rfl,by decide +kernel,by decide +kernel⟩
theorem ok_trows (F:Fun K "text_rows" "text_rows" s_text_rows f fd):FnOk P w K mg base CX0 1 f fd ["text"] ze6:=by
 refine F.ok zj7 (fun vs H Q E h=>?_) (fun cdv A outer s H vs Q E hr h=>?_)
 ·obtain⟨z,_,rfl,_⟩:=h
  rfl
 obtain⟨z,rs,rfl,lz,hc,hf,q⟩:=h
 refine⟨_,(ai (zal (zac zbu (pv 0) aD (zam _))
   (ak (aE (zaA ac)))
   zab)
  (ai (zal (zbS (zbh (zaL PySem.F.plainAttrs_str PySem.F.slot_str_endswith PySem.F.type_str_endswith zlk (pv 0) (aa aD ac))))
   zb6
   zab)
  (ak (aE (zaL PySem.F.plainAttrs_str PySem.F.slot_str_split PySem.F.type_str_split zfa (zbD zem (pv 0) zca (zbK (zeL zdC ah))) (aa aD ac)))))),?_⟩
 refine⟨_,rfl,rfl,_,rfl,aO (fun c=>?_) (fun c=>?_)⟩
 ·have e:z="":=by
   have:=of_decide_eq_true c
   injection this
  subst e
  have e:rs=[]:=by
   cases rs with
   | nil=>rfl
   | cons r rs =>
    have:=congrArg List.length hc
    have e0:(("":Str)).length=0:=by decide +kernel
    rw[cp_len,e0]at this
    simp [zcR]at this
  subst e
  exact⟨lS0,fun p hp=>q _ p (ar hp _) hp ae⟩
 ·have ne:rs≠[]:=fun e=>c (by
   subst e
   have e:z="":=cp_inj (by rw[hc];rfl)
   subst e
   decide +kernel)
  obtain⟨h1,h2,h3⟩:=zj2 ne hc hf
  refine⟨_,rfl,rfl,_,_,rfl,rfl,_,rfl,?_⟩
  rw[h2]
  refine za3 ⟨_,rfl,_,rfl,_,rfl,z,rfl,szM (by omega),rfl,_,_,rfl,rfl,(by decide +kernel),Nat.le_trans (PySem.Txt.slice_le z _ _) lz,fun p hp=>?_⟩
  have e3:PySem.Txt.split (PySem.Txt.slice z none (some (-(1:Int)))) "\n"=rs:=h3
  rw[e3]
  exact q _ p (ar hp _) hp ae
end
end C05
namespace C05
open PySem L2
open F05 (Tr dTr aQ dp dps nols_dTrs nol_dTr trs_get tr_at szM dTrs_length sz txt zaE zaQ)
inductive PA where
 | plain (z:Str)
 | same (t u:Tr)
structure Prt where
 n:Bool
 a:PA
def dPA:PA→Dt
 | .plain z=>.tup [.str "plain",.str z]
 | .same t u=>.tup [.str "same",dTr t,dTr u]
def dPt (p:Prt):Dt:=.tup [.bl (!p.n),dPA p.a]
def cPA:PA→List Nat
 | .plain z=>cp z
 | .same t u=>cT t++[32,61,32]++cT u
def cPt (p:Prt):List Nat:=(if p.n=true then [110,111,116,32] else [])++cPA p.a
def sOr:List Nat:=[32,111,114,32]
def cRw (r:List Prt):List Nat:=if r.isEmpty=true then cp "never" else jn sOr (r.map cPt)
structure Nm (z:Str):Prop where
 w:Wd z
 o:cp z≠[111,114]
 n:cp z≠[110,111,116]
 v:cp z≠cp "never"
mutual
def NT:Tr→Prop
 | .node n ts=>Nm n∧NTs ts∧ts.length≤3
def NTs:List Tr→Prop
 | []=>True
 | t :: ts=>NT t∧NTs ts
end
mutual
theorem NT.lt:∀ {t:Tr},NT t→LT t
 | .node n ts,h=>by
  simp only[NT]at h
  simp only[LT]
  exact⟨h.1.w,NTs.lt h.2.1,by omega⟩
theorem NTs.lt:∀ {ts:List Tr},NTs ts→LTs ts
 | [],_=>by simp only[LTs]
 | t :: ts,h=>by
  simp only[NTs]at h
  simp only[LTs]
  exact⟨NT.lt h.1,NTs.lt h.2⟩
end
def NPA:PA→Prop
 | .plain z=>Nm z
 | .same t u=>NT t∧NT u∧dp t≤21∧dp u≤21
structure NP (p:Prt):Prop where
 a:NPA p.a
 l:(cPA p.a).length≤900
def step (q c:Nat):Nat:=if q=4 then 4 else if c=32 then(if q=3 then 4 else 1) else if q=1∧c=111 then 2 else if q=2∧c=114 then 3 else 0
def run (q:Nat) (s:List Nat):Nat:=s.foldl step q
theorem zct (q:Nat) (a b:List Nat):run q (a++b)=run (run q a) b:=List.foldl_append
theorem run4:∀ s:List Nat,run 4 s=4
 | []=>rfl
 | c :: s=>run4 s
theorem run0:∀ {s:List Nat},(∀ c∈s,c≠32)→run 0 s=0
 | [],_=>rfl
 | c :: s,h=>by
  have hc:=h c (by simp)
  have e:step 0 c=0:=by simp [step,hc]
  show run (step 0 c) s=0
  rw[e]
  exact run0 fun x hx=>h x (List.mem_cons_of_mem _ hx)
theorem zlv {s:List Nat} (h:run 0 s≠4) (h3:run 0 s≠3):Fine s:=fun u v e=>by
 rw[e,zct]at h h3
 have e1:∀ q,run q (32 :: 111 :: 114 :: v)=if q=3∨q=4 then 4 else run 3 v:=fun q=>by
  by_cases c:q=3
  ·rw[if_pos (.inl c),c]
   exact run4 _
  ·by_cases d:q=4
   ·rw[if_pos (.inr d),d]
    exact run4 _
   ·rw[if_neg (by omega)]
    show run (step (step (step q 32) 111) 114) v=_
    have:step q 32=1:=by simp [step,c,d]
    rw[this]
    rfl
 rw[e1]at h h3
 by_cases c:run 0 u=3∨run 0 u=4
 ·rw[if_pos c]at h
  exact absurd rfl h
 ·rw[if_neg c]at h h3
  refine⟨fun ev=>h3 (by rw[ev];rfl),fun x t ev ex=>h ?_⟩
  rw[ev,ex]
  exact run4 t
theorem zdK {z:Str} (h:Wd z):∀ c∈cp z,97≤c∧c≤122:=fun c hc=>by
 have h1:=h.2.1 c hc
 have all:∀ c∈cp abc,97≤c∧c≤122:=by decide +kernel
 exact all c h1
theorem zhp {z:Str} (h:Nm z) {q:Nat} (hq:q=0∨q=1):run q (cp z)=0∨run q (cp z)=2:=by
 have lt:=zdK h.w
 have ne:∀ c∈cp z,c≠32:=fun c hc e=>by have:=lt c hc;omega
 have ho:=h.o
 rcases hq with rfl | rfl
 ·exact .inl (run0 ne)
 ·have n0:=h.w.1
  generalize cp z=s at ne ho n0
  match s,ne,ho,n0 with
  | [],_,_,n0=>exact absurd rfl n0
  | c :: s,ne,ho,_ =>
   have hc:=ne c (by simp)
   by_cases c1:c=111
   ·subst c1
    show run 2 s=0∨run 2 s=2
    match s,ne,ho with
    | [],_,_=>exact .inr rfl
    | d :: s,ne,ho =>
     have hd:=ne d (by simp)
     by_cases d1:d=114
     ·subst d1
      show run 3 s=0∨run 3 s=2
      match s,ne,ho with
      | [],_,ho=>exact absurd rfl ho
      | e :: s,ne,ho =>
       have he:=ne e (by simp)
       have e0:step 3 e=0:=by simp [step,he]
       show run (step 3 e) s=0∨run (step 3 e) s=2
       rw[e0]
       exact .inl (run0 fun x hx=>ne x (by simp [hx]))
     ·have e0:step 2 d=0:=by simp [step,hd,d1]
      show run (step 2 d) s=0∨run (step 2 d) s=2
      rw[e0]
      exact .inl (run0 fun x hx=>ne x (by simp [hx]))
   ·have e0:step 1 c=0:=by simp [step,hc,c1]
    show run (step 1 c) s=0∨run (step 1 c) s=2
    rw[e0]
    exact .inl (run0 fun x hx=>ne x (by simp [hx]))
def R02 (q:Nat):Prop:=q=0∨q=2
mutual
theorem zgG:∀ {t:Tr},NT t→∀ {q:Nat},q=0∨q=1→R02 (run q (cT t))
 | .node n ts,h,q,hq=>by
  simp only[NT]at h
  simp only[cT]
  rw[zct]
  exact run_B h.2.1 (zhp h.1 hq)
theorem run_B:∀ {ts:List Tr},NTs ts→∀ {q:Nat},R02 q→R02 (run q (cB ts))
 | [],_,q,hq=>by
  simp only[cB]
  exact hq
 | t :: ts,h,q,hq=>by
  simp only[NTs]at h
  simp only[cB]
  show R02 (run (step q 40) (cT t++cR ts))
  have e:step q 40=0:=by rcases hq with rfl | rfl <;> rfl
  rw[e,zct]
  exact run_R h.2 (zgG h.1 (.inl rfl))
theorem run_R:∀ {ts:List Tr},NTs ts→∀ {q:Nat},R02 q→R02 (run q (cR ts))
 | [],_,q,hq=>by
  simp only[cR]
  rcases hq with rfl | rfl <;> exact .inl rfl
 | t :: ts,h,q,hq=>by
  simp only[NTs]at h
  simp only[cR]
  show R02 (run (step (step q 44) 32) (cT t++cR ts))
  have e:step (step q 44) 32=1:=by rcases hq with rfl | rfl <;> rfl
  rw[e,zct]
  exact run_R h.2 (zgG h.1 (.inr rfl))
end
theorem zi8 {a:PA} (h:NPA a) {q:Nat} (hq:q=0∨q=1):R02 (run q (cPA a)):=by
 cases a with
 | plain z=>exact zhp h hq
 | same t u =>
  simp only[cPA]
  rw[zct,zct]
  have h1:=zgG h.1 hq
  have e:run (run q (cT t)) [32,61,32]=1:=by rcases h1 with e | e <;> (rw[e];rfl)
  rw[e]
  exact zgG h.2.1 (.inr rfl)
theorem fine_P {p:Prt} (h:NP p):Fine (cPt p):=by
 have r:R02 (run 0 (cPt p)):=by
  unfold cPt
  rw[zct]
  split
  ·exact zi8 h.a (.inr rfl)
  ·exact zi8 h.a (.inl rfl)
 refine zlv (fun e=>?_) (fun e=>?_)
 ·rcases r with r | r <;> (rw[e]at r;cases r)
 ·rcases r with r | r <;> (rw[e]at r;cases r)
def lows:List Nat:=[40,41,44,32]
mutual
theorem sg_T:∀ {t:Tr},NT t→∀ c∈cT t,(97≤c∧c≤122)∨c∈lows
 | .node n ts,h,c,hc=>by
  simp only[NT]at h
  simp only[cT]at hc
  rcases List.mem_append.mp hc with hc | hc
  ·exact .inl (zdK h.1.w c hc)
  ·exact sg_B h.2.1 c hc
theorem sg_B:∀ {ts:List Tr},NTs ts→∀ c∈cB ts,(97≤c∧c≤122)∨c∈lows
 | [],_,c,hc=>by simp only[cB]at hc;exact(nomatch hc)
 | t :: ts,h,c,hc=>by
  simp only[NTs]at h
  simp only[cB]at hc
  rcases List.mem_cons.mp hc with rfl | hc
  ·exact .inr (by decide)
  ·rcases List.mem_append.mp hc with hc | hc
   ·exact sg_T h.1 c hc
   ·exact sg_R h.2 c hc
theorem sg_R:∀ {ts:List Tr},NTs ts→∀ c∈cR ts,(97≤c∧c≤122)∨c∈lows
 | [],_,c,hc=>by simp only[cR,List.mem_singleton]at hc;subst hc;exact .inr (by decide)
 | t :: ts,h,c,hc=>by
  simp only[NTs]at h
  simp only[cR]at hc
  rcases List.mem_cons.mp hc with rfl | hc
  ·exact .inr (by decide)
  rcases List.mem_cons.mp hc with rfl | hc
  ·exact .inr (by decide)
  ·rcases List.mem_append.mp hc with hc | hc
   ·exact sg_T h.1 c hc
   ·exact sg_R h.2 c hc
end
theorem sg_PA {a:PA} (h:NPA a):∀ c∈cPA a,(97≤c∧c≤122)∨c∈lows∨c=61:=fun c hc=>by
 cases a with
 | plain z=>exact .inl (zdK h.w c hc)
 | same t u =>
  simp only[cPA]at hc
  rcases List.mem_append.mp hc with hc | hc
  ·rcases List.mem_append.mp hc with hc | hc
   ·exact(sg_T h.1 c hc).imp id .inl
   ·simp only[List.mem_cons,List.not_mem_nil,or_false]at hc
    rcases hc with rfl | rfl | rfl
    ·exact .inr (.inl (by decide))
    ·exact .inr (.inr rfl)
    ·exact .inr (.inl (by decide))
  ·exact(sg_T h.2.1 c hc).imp id .inl
theorem no61 {t:Tr} (h:NT t):61∉cT t:=fun hc=>by
 rcases sg_T h 61 hc with h | h
 ·omega
 ·exact absurd h (by decide)
theorem zfv {a:PA} (h:NPA a):∃ z r,cPA a=cp z++r∧Nm z∧∀ c t,r=c :: t→c=40∨c=32:=by
 have tr:∀ {t:Tr},NT t→∀ s,(∀ c t,s=c :: t→c=32)→∃ z r,cT t++s=cp z++r∧Nm z∧∀ c t,r=c :: t→c=40∨c=32:=fun {t} ht s hs=>by
  cases t with
  | node n ts =>
   simp only[NT]at ht
   refine⟨n,cB ts++s,by simp only[cT,List.append_assoc],ht.1,fun c u e=>?_⟩
   cases ts with
   | nil=>simp only[cB,List.nil_append]at e;exact .inr (hs c u e)
   | cons t ts=>simp only[cB,List.cons_append]at e;cases e;exact .inl rfl
 cases a with
 | plain z=>exact⟨z,[],by simp [cPA],h,fun c t e=>by cases e⟩
 | same t u =>
  obtain⟨z,r,e,h1,h2⟩:=tr h.1 ([32,61,32]++cT u) (fun c t e=>by cases e;rfl)
  exact⟨z,r,by simp only[cPA];rw[List.append_assoc];exact e,h1,h2⟩
theorem no_not {a:PA} (h:NPA a) (r:List Nat):cPA a≠[110,111,116,32]++r:=fun e=>by
 obtain⟨z,r',e',hz,hr⟩:=zfv h
 rw[e']at e
 have lt:=zdK hz.w
 have n3:=hz.n
 have ne:=hz.w.1
 generalize cp z=s at e lt n3 ne
 match s,e,lt,n3,ne with
 | [a],e,lt,_,_ =>
  simp at e
  obtain⟨_,e⟩:=e
  cases r' with
  | nil=>simp at e
  | cons x y=>simp at e;have:=hr x y rfl;omega
 | [a,b],e,lt,_,_ =>
  simp at e
  obtain⟨_,_,e⟩:=e
  cases r' with
  | nil=>simp at e
  | cons x y=>simp at e;have:=hr x y rfl;omega
 | [a,b,c],e,lt,n3,_ =>
  simp at e
  obtain⟨rfl,rfl,rfl,_⟩:=e
  exact n3 rfl
 | a :: b :: c :: d :: t,e,lt,_,_ =>
  simp at e
  have:=lt d (by simp)
  omega
theorem zjV {a:PA} (h:NPA a):∃ c r,cPA a=c :: r∧97≤c:=by
 obtain⟨z,r,e,hz,_⟩:=zfv h
 have lt:=zdK hz.w
 have ne:=hz.w.1
 generalize cp z=s at e lt ne
 match s,e,lt,ne with
 | c :: s,e,lt,_=>exact⟨c,s++r,e,(lt c (by simp)).1⟩
theorem zjE {x:Str} {r:List Prt} (ne:r≠[]) (ok:∀ p∈r,NP p) {ps:List Str} (hp:ps.map cp=r.map cPt) (h:cp x=jn sOr (r.map cPt)):Txt.split x " or "=ps:=by
 have e1:cp " or "=sOr:=by decide +kernel
 refine zg6 (by decide +kernel) (by decide +kernel) (fun e=>ne ?_) (by rw[e1,hp];exact h) (by
  rw[e1,hp]
  exact zjl fun q hq=>by
   obtain⟨p,hp',rfl⟩:=List.mem_map.mp hq
   exact fine_P (ok p hp'))
 rw[e]at hp
 exact List.map_eq_nil_iff.mp hp.symm
theorem zkF {x a b:Str} {t u:Tr} (ht:NT t) (hu:NT u) (ha:cp a=cT t) (hb:cp b=cT u) (h:cp x=cT t++[32,61,32]++cT u):Txt.split x " = "=[a,b]:=by
 have e1:cp " = "=[32,61,32]:=by decide +kernel
 refine zg6 (by decide +kernel) (by decide +kernel) (by simp) ?_ ?_
 ·simp only[List.map_cons,List.map_nil,jn]
  rw[e1,ha,hb]
  exact h
 ·simp only[List.map_cons,List.map_nil]
  rw[e1,ha,hb]
  exact fre_eq (no61 ht) (no61 hu)
def ofC (s:List Nat):Str:=⟨s.toArray⟩
theorem zaJ (s:List Nat):cp (ofC s)=s:=by simp [cp,ofC]
end C05
namespace K05
open PySem L2
def top (i:Nat):Stmt:=PySem.Challenge.pw_yesorno_k05_whole_read.main.body.getD i (.Pass ⟨0,0,0,0⟩)
abbrev zfQ:Stmt:=top 16
abbrev zfR:Stmt:=top 17
abbrev ze9:Stmt:=top 18
abbrev zix:Stmt:=top 19
abbrev zgR:Stmt:=top 20
abbrev ziy:Stmt:=zaO (top 21) 0
abbrev ze7:Stmt:=zaO (top 21) 1
abbrev ze8:Stmt:=zaO (top 21) 2
abbrev sAdd:Stmt:=zaO (top 21) 3
abbrev zgQ:Stmt:=zaO (top 21) 4
abbrev ziw:Stmt:=zaO (top 21) 5
abbrev sRow:Stmt:=zaO (top 21) 6
abbrev s_Cursor___init__:Stmt:=zaO (top 24) 0
abbrev s_Cursor_is_over:Stmt:=zaO (top 24) 1
abbrev s_Cursor_takes:Stmt:=zaO (top 24) 2
abbrev s_Cursor_take_word:Stmt:=zaO (top 24) 3
abbrev s_Cursor_take_tree:Stmt:=zaO (top 24) 4
abbrev s_Cursor_take_trees:Stmt:=zaO (top 24) 5
abbrev s_formed_tree:Stmt:=top 25
abbrev s_formed_atom:Stmt:=top 26
abbrev s_formed_part:Stmt:=top 27
abbrev s_formed_row:Stmt:=top 28
abbrev s_text_rows:Stmt:=top 29
abbrev zcW:Stmt:=top 30
abbrev zeg:Stmt:=top 31
abbrev zef:Stmt:=top 32
abbrev zfp:Stmt:=top 33
abbrev zco:Stmt:=top 35
abbrev zdd:Stmt:=top 36
abbrev zdc:Stmt:=top 37
abbrev zcG:Stmt:=top 38
abbrev zdn:Stmt:=top 39
abbrev ziz:Stmt:=top 41
abbrev zdw:Stmt:=top 42
abbrev zcp:Stmt:=top 43
abbrev zdf:Stmt:=top 44
abbrev zdy:Stmt:=top 45
abbrev zde:Stmt:=top 46
abbrev zb8:Stmt:=top 47
abbrev zaR:Stmt:=top 48
abbrev zaw:Stmt:=top 49
abbrev zb9:Stmt:=top 50
abbrev zdx:Stmt:=top 51
abbrev zcH:Stmt:=top 52
abbrev zdz:Stmt:=top 53
abbrev zeh:Stmt:=top 54
abbrev zdg:Stmt:=top 55
abbrev zaf:Stmt:=top 56
abbrev ziv:Stmt:=top 57
abbrev abc:Str:="abcdefghijklmnopqrstuvwxyz"
def isL (c:Str):Bool:=!(Builtin.Str.occurrences abc c 0 abc.length 1).isEmpty
def lets (z:Str):List Bool:=z.cps.toList.map fun c=>isL ⟨#[c]⟩
def zdj:List V:=[.str "or",.str "and",.str "not",.str "never",.str "always",.str "then",.str "as",.str "unlike"]
def wordB (z:Str):Bool:=decide ((0:Int) < (z.length:Int))&&(lets z).all id
def za0 (z:Str):Bool:=wordB z&&(decide ((z.length:Int)≤8)&&!inV (.str z) zdj)
theorem sz (n:Nat) (h:n≤1000):n≤sizeLine:=Nat.le_of_lt (zaT h)
theorem zlC:abc.cps.toList.length=26:=by decide +kernel
theorem ziW:zdj.all zcT=true:=by decide +kernel
theorem zhz (z:Str):(lets z).length=z.length:=by simp [lets,Str.length]
theorem at_in {α:Type} {xs:List α} {i:Int} (h0:0≤i) (h1:i < (xs.length:Int)):∃ c,atI xs i=some c:=by
 have hk:i.toNat < xs.length:=by omega
 have e:i=((i.toNat:Nat):Int):=by omega
 have q:atI xs ((i.toNat:Nat):Int)=some xs[i.toNat]:=zae (List.getElem?_eq_getElem hk)
 rw[←e]at q
 exact⟨_,q⟩
theorem zai (a b:Str):(a++b).length=a.length+b.length:=by
 show(a.cps++b.cps).size=a.cps.size+b.cps.size
 exact Array.size_append
theorem zgX {w:Str} {lo hi:Option Int} {n:Nat} (h:w.length≤n):(Txt.slice w lo hi).length≤n:=Nat.le_trans (Txt.slice_le w lo hi) h
theorem zj1 {z:Str} {i ch:Nat} (hch:z.cps[i]?=some ch):(lets z).take (i+1)=(lets z).take i++[isL ⟨#[ch]⟩]:=by
 have hb:(lets z)[i]?=some (isL ⟨#[ch]⟩):=by
  unfold lets
  rw[List.getElem?_map,Array.getElem?_toList,hch]
  rfl
 rw[List.take_add_one,hb]
 rfl
theorem zcu (c:Nat):(⟨#[c]⟩:Str).length=1:=rfl
abbrev Tm:=Str × List Int
def dT (t:Tm):Dt:=.tup [.str t.1,.tup (t.2.map Dt.int)]
theorem zgn:∀ ns:List Int,zc0 (ns.map Dt.int)=true
 | []=>by simp [zc0]
 | n :: ns=>by simp only[List.map_cons,zc0,nob,Bool.true_and];exact zgn ns
theorem zeC:∀ ns:List Int,za9 (ns.map Dt.int)=true
 | []=>by simp [za9]
 | n :: ns=>by simp only[List.map_cons,za9,nol,Bool.true_and];exact zeC ns
theorem zcg:∀ ns:List Int,zaz (ns.map Dt.int)=0
 | []=>by simp [zaz]
 | n :: ns=>by simp only[List.map_cons,zaz,dep,zcg ns];rfl
theorem zjf (t:Tm):nob (dT t)=true:=by simp only[dT,nob,zc0,zgn,Bool.and_self]
theorem zjc (t:Tm):nol (dT t)=true:=by simp only[dT,nol,za9,zeC,Bool.and_self]
theorem dep_dT (t:Tm):dep (dT t)=2:=by simp only[dT,dep,zaz,zcg];rfl
theorem zaG:∀ T:List Tm,za9 (T.map dT)=true
 | []=>by simp [za9]
 | t :: T=>by simp only[List.map_cons,za9,zjc,Bool.true_and];exact zaG T
theorem zd3:∀ T:List Tm,zaz (T.map dT)≤2
 | []=>by simp [zaz]
 | t :: T=>by
  have h:=zd3 T
  simp only[List.map_cons,zaz,dep_dT]
  omega
theorem zln {a b:Int} (h:Dt.int a=Dt.int b):a=b:=by cases h;rfl
theorem zhB:∀ {as bs:List Int},as.map Dt.int=bs.map Dt.int→as=bs
 | [],[],_=>rfl
 | [],b :: bs,h=>by cases h
 | a :: as,[],h=>by cases h
 | a :: as,b :: bs,h=>by
  rw[List.map_cons,List.map_cons]at h
  injection h with h1 h2
  rw[zln h1,zhB h2]
theorem dT_inj {a b:Tm} (h:dT a=dT b):a=b:=by
 obtain⟨n,ps⟩:=a
 obtain⟨m,qs⟩:=b
 unfold dT at h
 injection h with h
 injection h with h1 h2
 injection h1 with h1
 injection h2 with h2 _
 injection h2 with h2
 have e1:n=m:=h1
 have e2:ps=qs:=zhB h2
 rw[e1,e2]
theorem peq_dT (a b:Tm):peq (dT a) (dT b)=decide (a=b):=by
 by_cases h:a=b
 ·subst h
  rw[zbi,decide_eq_true rfl]
 ·rw[decide_eq_false h]
  cases e:peq (dT a) (dT b) with
  | false=>rfl
  | true=>exact absurd (dT_inj (zgU _ _ (zjf a) (zjf b) e)) h
inductive Out where
 | num (n:Nat) | name | term | many | part
def bad (T:List Tm) (ps:List Int):Bool:=decide (3 < ps.length)||ps.any fun p=>decide (p < 0)||decide ((T.length:Int)≤p)
def zc2 (T:List Tm) (good:Bool) (t:Tm):Out × List Tm :=
 if good=false then(.name,T) else if bad T t.2=true then(.term,T) else if t∈T then(.num (T.idxOf t),T) else if 60≤T.length then(.many,T) else(.num T.length,T++[t])
theorem zba {α:Type} [BEq α] [LawfulBEq α] {code:α→Dt} (hc:∀ a b,peq (code a) (code b)=true↔a=b) (T:List α) (t:α):((T.map code).any fun d=>peq d (code t))=decide (t∈T):=by
 rw[Bool.eq_iff_iff,List.any_eq_true]
 constructor
 ·rintro ⟨d,hd,e⟩
  obtain⟨u,hu,rfl⟩:=List.mem_map.mp hd
  rw[hc]at e
  rw[←e]
  exact decide_eq_true hu
 ·intro h
  exact⟨code t,List.mem_map.mpr ⟨t,of_decide_eq_true h,rfl⟩,zbi _⟩
theorem zhE {α:Type} [BEq α] [LawfulBEq α] {code:α→Dt} (hc:∀ a b,peq (code a) (code b)=true↔a=b) (T:List α) (t:α):(T.map code).findIdx (fun d=>peq d (code t))=T.idxOf t:=by
 rw[List.findIdx_map]
 unfold List.idxOf
 congr 1
 funext a
 show peq (code a) (code t)=(a == t)
 rw[Bool.eq_iff_iff,hc,beq_iff_eq]
theorem zer (a b:Tm):peq (dT a) (dT b)=true↔a=b:=by
 rw[peq_dT]
 exact decide_eq_true_iff
inductive At where
 | plain (z:Str)
 | same (a b:Int)
 deriving DecidableEq
def dA:At→Dt
 | .plain z=>.tup [.str "plain",.str z]
 | .same a b=>.tup [.str "same",.int a,.int b]
theorem zjg (t:At):nob (dA t)=true:=by cases t <;> simp only[dA,nob,zc0,Bool.and_self]
theorem za5 (t:At):nol (dA t)=true:=by cases t <;> simp only[dA,nol,za9,Bool.and_self]
theorem zfu (t:At):dep (dA t)=1:=by cases t <;> simp only[dA,dep,zaz] <;> rfl
theorem dA_inj {a b:At} (h:dA a=dA b):a=b:=by
 cases a <;> cases b
 all_goals
  unfold dA at h
  injection h with h
  injection h with h1 h2
  injection h2 with h2 h3
  first
   | (injection h2 with h2;injection h3 with h3 _;injection h3 with h3;rw[h2,h3])
   | (injection h2 with h2;rw[h2])
   | (injection h1 with h1;exact absurd h1 (by decide +kernel))
   | cases h2
theorem zjb (a b:At):peq (dA a) (dA b)=decide (a=b):=by
 by_cases h:a=b
 ·subst h
  rw[zbi,decide_eq_true rfl]
 ·rw[decide_eq_false h]
  cases e:peq (dA a) (dA b) with
  | false=>rfl
  | true=>exact absurd (dA_inj (zgU _ _ (zjg a) (zjg b) e)) h
theorem zbx (a b:At):peq (dA a) (dA b)=true↔a=b:=by
 rw[zjb]
 exact decide_eq_true_iff
def dR (r:List Int):Dt:=.tup (r.map Dt.int)
theorem za4 (r:List Int):nol (dR r)=true:=by simp only[dR,nol,zeC]
theorem zag {α:Type} {code:α→Dt} (hc:∀ a,nol (code a)=true):∀ T:List α,za9 (T.map code)=true
 | []=>by simp [za9]
 | t :: T=>by simp only[List.map_cons,za9,hc,Bool.true_and];exact zag hc T
theorem zch {α:Type} {code:α→Dt} {n:Nat} (hc:∀ a,dep (code a)≤n):∀ T:List α,zaz (T.map code)≤n
 | []=>by simp [zaz]
 | t :: T=>by
  have h:=zch hc T
  have:=hc t
  simp only[List.map_cons,zaz]
  omega
theorem kTA:¬(("terms":Str)="atoms"):=by decide +kernel
theorem kTR:¬(("terms":Str)="rows"):=by decide +kernel
theorem kAR:¬(("atoms":Str)="rows"):=by decide +kernel
def zbN (tl al rl:Addr):List (Str × V):=zaI "rows" (.ref rl) (zaI "atoms" (.ref al) (zaI "terms" (.ref tl) []))
theorem zb0 (tl al rl:Addr):(zbN tl al rl).lookup ("terms":Str)=some (.ref tl):=by
 unfold zbN
 rw[zay,if_neg kTR,zay,if_neg kTA,zay,if_pos rfl]
theorem zbr (tl al rl:Addr):(zbN tl al rl).lookup ("atoms":Str)=some (.ref al):=by
 unfold zbN
 rw[zay,if_neg kAR,zay,if_pos rfl]
theorem zcf (tl al rl:Addr):(zbN tl al rl).lookup ("rows":Str)=some (.ref rl):=by
 unfold zbN
 rw[zay,if_pos rfl]
theorem zcc (tl al rl:Addr) {m:Str} (h1:¬m="rows") (h2:¬m="atoms") (h3:¬m="terms"):(zbN tl al rl).lookup m=none:=by
 unfold zbN
 rw[zay,if_neg h1,zay,if_neg h2,zay,if_neg h3]
 all_goals rfl
def Fr1 (H H':Hp) (z:Addr):Prop:=∀ b o,H b=some o→b≠z→H' b=some o
theorem Fr1.of_same {H H':Hp} {z:Addr} (s:ax H H'):Fr1 H H' z:=fun b o e _=>s b o e
theorem Fr1.trans {H H1 H2:Hp} {z:Addr} (a:Fr1 H H1 z) (b:Fr1 H1 H2 z):Fr1 H H2 z:=fun c o e n=>b c o (a c o e n) n
theorem Fr1.keepT {H H':Hp} {z:Addr} {xs:List V} (f:Fr1 H H' z) (h:H z=some (.lst xs)):KeepT H H':=fun b ys q=>by
 rcases q with q | ⟨o,q⟩
 ·exact .inl (f b _ q (zdi q h (fun e=>by cases e)))
 ·exact .inr ⟨o,f b _ q (zdi q h (fun e=>by cases e))⟩
structure zat (K:W.Frag) (C:Addr) (H:Hp) (p tl al rl:Addr) (T:List Tm) (As:List At) (Rs:List (List Int)):Prop where
 ob:∃ dx,H p=some (.ins C dx (zbN tl al rl))
 tm:∃ xs,H tl=some (.lst xs)∧aj K H (T.map dT) xs
 am:∃ xs,H al=some (.lst xs)∧aj K H (As.map dA) xs
 rm:∃ xs,H rl=some (.lst xs)∧aj K H (Rs.map dR) xs
 na:al≠tl
 nr:rl≠tl
 nx:rl≠al
theorem zat.keep {K:W.Frag} {C:Addr} {H H':Hp} {p tl al rl z:Addr} {T:List Tm} {As:List At} {Rs:List (List Int)} {zs:List V} (h:zat K C H p tl al rl T As Rs) (f:Fr1 H H' z) (hz:H z=some (.lst zs)) (n1:z≠tl) (n2:z≠al) (n3:z≠rl):zat K C H' p tl al rl T As Rs:=by
 obtain⟨⟨dx,h1⟩,⟨xs,h2,h3⟩,⟨ys,h4,h5⟩,⟨ws,h6,h7⟩,h8,h9,h10⟩:=h
 exact⟨⟨dx,f _ _ h1 (zdi h1 hz (fun e=>by cases e))⟩,⟨xs,f _ _ h2 n1.symm,h3.keep (f.keepT hz) (zaG T)⟩,⟨ys,f _ _ h4 n2.symm,h5.keep (f.keepT hz) (zag za5 As)⟩,⟨ws,f _ _ h6 n3.symm,h7.keep (f.keepT hz) (zag za4 Rs)⟩,h8,h9,h10⟩
theorem zat.same {K:W.Frag} {C:Addr} {H H':Hp} {p tl al rl:Addr} {T:List Tm} {As:List At} {Rs:List (List Int)} (h:zat K C H p tl al rl T As Rs) (s:ax H H'):zat K C H' p tl al rl T As Rs:=by
 obtain⟨⟨dx,h1⟩,⟨xs,h2,h3⟩,⟨ys,h4,h5⟩,⟨ws,h6,h7⟩,h8,h9,h10⟩:=h
 exact⟨⟨dx,s _ _ h1⟩,⟨xs,s _ _ h2,h3.keep (.of_same s) (zaG T)⟩,⟨ys,s _ _ h4,h5.keep (.of_same s) (zag za5 As)⟩,⟨ws,s _ _ h6,h7.keep (.of_same s) (zag za4 Rs)⟩,h8,h9,h10⟩
theorem zat.setT {K:W.Frag} {C:Addr} {H:Hp} {p tl al rl:Addr} {T T':List Tm} {As:List At} {Rs:List (List Int)} {us:List V} (h:zat K C H p tl al rl T As Rs) (hs:aj K (upd H tl (.lst us)) (T'.map dT) us):zat K C (upd H tl (.lst us)) p tl al rl T' As Rs:=by
 obtain⟨⟨dx,h1⟩,⟨xs,h2,h3⟩,⟨ys,h4,h5⟩,⟨ws,h6,h7⟩,h8,h9,h10⟩:=h
 have kt:KeepT H (upd H tl (.lst us)):=KeepT.lst h2
 exact⟨⟨dx,by rw[au (zdi h1 h2 (fun e=>by cases e))];exact h1⟩,⟨us,ae,hs⟩,⟨ys,by rw[au h8];exact h4,h5.keep kt (zag za5 As)⟩,⟨ws,by rw[au h9];exact h6,h7.keep kt (zag za4 Rs)⟩,h8,h9,h10⟩
theorem zat.setA {K:W.Frag} {C:Addr} {H:Hp} {p tl al rl:Addr} {T:List Tm} {As As':List At} {Rs:List (List Int)} {us:List V} (h:zat K C H p tl al rl T As Rs) (hs:aj K (upd H al (.lst us)) (As'.map dA) us):zat K C (upd H al (.lst us)) p tl al rl T As' Rs:=by
 obtain⟨⟨dx,h1⟩,⟨xs,h2,h3⟩,⟨ys,h4,h5⟩,⟨ws,h6,h7⟩,h8,h9,h10⟩:=h
 have kt:KeepT H (upd H al (.lst us)):=KeepT.lst h4
 exact⟨⟨dx,by rw[au (zdi h1 h4 (fun e=>by cases e))];exact h1⟩,⟨xs,by rw[au h8.symm];exact h2,h3.keep kt (zaG T)⟩,⟨us,ae,hs⟩,⟨ws,by rw[au h10];exact h6,h7.keep kt (zag za4 Rs)⟩,h8,h9,h10⟩
theorem zat.setR {K:W.Frag} {C:Addr} {H:Hp} {p tl al rl:Addr} {T:List Tm} {As:List At} {Rs Rs':List (List Int)} {us:List V} (h:zat K C H p tl al rl T As Rs) (hs:aj K (upd H rl (.lst us)) (Rs'.map dR) us):zat K C (upd H rl (.lst us)) p tl al rl T As Rs':=by
 obtain⟨⟨dx,h1⟩,⟨xs,h2,h3⟩,⟨ys,h4,h5⟩,⟨ws,h6,h7⟩,h8,h9,h10⟩:=h
 have kt:KeepT H (upd H rl (.lst us)):=KeepT.lst h6
 exact⟨⟨dx,by rw[au (zdi h1 h6 (fun e=>by cases e))];exact h1⟩,⟨xs,by rw[au h9.symm];exact h2,h3.keep kt (zaG T)⟩,⟨ys,by rw[au h10.symm];exact h4,h5.keep kt (zag za5 As)⟩,⟨us,ae,hs⟩,h8,h9,h10⟩
def SqI (K:W.Frag) (H:Hp) (q:Addr) (ps:List Int):Prop:=SqL K H q (ps.map V.int)∨SqT K H q (ps.map V.int)
theorem SqI.same {K:W.Frag} {H H':Hp} {q:Addr} {ps:List Int} (h:SqI K H q ps) (s:ax H H'):SqI K H' q ps:=h.elim (fun z=>.inl (s.seq z)) fun z=>.inr ((KeepT.of_same s).sq z)
def Low (z:Str):Prop:=z.length≤100∧∀ c∈z.cps.toList,c < 1000
theorem Low.repr {z:Str} (h:Low z):(reprText z).length≤1002:=by
 have:=StrLaws.reprText_len z fun c hc=>Nat.lt_of_lt_of_le (h.2 c hc) (by decide)
 have:=h.1
 omega
def spIsWord:Sp:=fun vs H Q _=>∃ z:Str,vs=[.str z]∧z.length≤1000∧∀ H',ax H H'→Q (.bl (wordB z)) H'
def zho:Sp:=fun vs H Q _=>∃ z:Str,vs=[.str z]∧z.length≤1000∧∀ H',ax H H'→Q (.bl (za0 z)) H'
def zfo (K:W.Frag):Sp:=fun vs H Q _=>∃(a:Addr) (ns:List Int) (k:Int),vs=[.ref a,.int k]∧SqL K H a (ns.map V.int)∧ns.length≤63∧0≤k∧∀ i:Int,Q (.int i) H
def zez (CN:Addr):Sp:=fun vs H Q E=>∃ z:Str,vs=[.str z]∧Low z∧if za0 z=true then ∀ H',ax H H'→Q .non H' else ∀ H',ax H H'→E (.ref CN) none H'
def zcX (K:W.Frag) (CM:Addr):Sp:=fun vs H Q E=>∃(a tl:Addr) (m:Int) (xs:List V) (ds:List Dt) (d:Dt),vs=[.ref a,.ref tl,.int m]∧Has K H d (.ref a)∧H tl=some (.lst xs)∧aj K H ds xs∧zaz ds≤50∧ds.length≤1000∧0≤m∧m≤1000 ∧
 if(ds.any fun e=>peq e d)=true then ∀ H',ax H H'→Q (.int ((ds.findIdx fun e=>peq e d):Nat)) H' else if m≤(ds.length:Int) then ∀ H',ax H H'→E (.ref CM) none H' else Q (.int (ds.length:Nat)) (upd H tl (.lst (xs++[.ref a])))
def zi5 (C:Addr):Sp:=fun vs H Q _=>∃(p dx:Addr),vs=[.ref p]∧H p=some (.ins C dx [])∧∀(tl al rl:Addr) (H':Hp),H tl=none→H al=none→H rl=none→al≠tl→rl≠tl→rl≠al→H' p=some (.ins C dx (zbN tl al rl))→H' tl=some (.lst [])→H' al=some (.lst [])→H' rl=some (.lst []) →
 (∀ b o,H b=some o→b≠p→H' b=some o)→Q .non H'
def zey (K:W.Frag) (C CT:Addr):Sp:=fun vs H Q E=>∃(p tl al rl:Addr) (T:List Tm) (As:List At) (Rs:List (List Int)) (n:Int),vs=[.ref p,.int n]∧zat K C H p tl al rl T As Rs∧-1000≤n∧n≤1000 ∧
 if n < 0∨(T.length:Int)≤n then ∀ H',ax H H'→E (.ref CT) none H' else Q .non H
def zbp (m:Nat) (n:Int):Bool:=decide (n=0)||decide ((m:Int) < n)||decide (n < -(m:Int))
def zgh (K:W.Frag) (C CP:Addr):Sp:=fun vs H Q E=>∃(p tl al rl:Addr) (T:List Tm) (As:List At) (Rs:List (List Int)) (n:Int),vs=[.ref p,.int n]∧zat K C H p tl al rl T As Rs∧-1000≤n∧n≤1000 ∧
 if zbp As.length n=true then ∀ H',ax H H'→E (.ref CP) none H' else Q .non H
theorem zaZ {H:Hp} {p:Addr} (h:H p=none) (o:HO):ax H (upd H p o):=fun b u q=>by rw[au (zaj q h)];exact q
abbrev bmV:List Value:=[.type "ValueError",.type "Exception",.type "BaseException",.type "object"]
structure Txt (K:W.Frag) (mg:Str→Option Value) (aK C CN CT CP CM:Addr):Prop where
 small:∃ t,mg "SMALL_LETTERS"=some (.str abc t)
 longest:∃ t,mg "LONGEST_NAME"=some (.int 8 t)
 parts:∃ t,mg "MOST_TERM_PARTS"=some (.int 3 t)
 terms:∃ t,mg "MOST_TERMS"=some (.int 60 t)
 atoms:∃ t,mg "MOST_ATOMS"=some (.int 40 t)
 rparts:∃ t,mg "MOST_ROW_PARTS"=some (.int 20 t)
 rows:∃ t,mg "MOST_ROWS"=some (.int 200 t)
 kept:mg "KEPT_WORDS"=some (.ref aK)
 tup:∀ H,SqT K H aK zdj
 len:mg "len"=none
 all:mg "all"=none
 range:mg "range"=none
 isi:mg "isinstance"=none
 bool:mg "bool"=none
 tuple:mg "tuple"=none
 abs:mg "abs"=none
 bname:mg "BadName"=some (.ref CN)
 bterm:mg "BadTerm"=some (.ref CT)
 bpart:mg "BadPart"=some (.ref CP)
 bmany:mg "TooMany"=some (.ref CM)
 xname:W.excIn K CN bmV "ValueError.__new__"=true
 xterm:W.excIn K CT bmV "ValueError.__new__"=true
 xpart:W.excIn K CP bmV "ValueError.__new__"=true
 xmany:W.excIn K CM bmV "ValueError.__new__"=true
 cl:Cls K C
 nT:zbG K C "terms"
 nA:zbG K C "atoms"
 nR:zbG K C "rows"
section
variable {P:Program} {w:World} {K:W.Frag} {mg:Str→Option Value} {base:Heap} {aK C CN CT CP CM:Addr}
theorem Fun.okX {x qual:Str} {st:Stmt} {f:Addr} {fd:FuncData} {N ps:List Str} {k:Nat} {sp:Sp} (F:Fun K x qual st f fd) (S:zaa N ps (ap st)) (len:∀ vs H Q E,sp vs H Q E→vs.length=ps.length)
  (hbody:∀(cdv:Value) (A:Around) (outer:List Env) (s:Shared) (H:Hp) (vs:List V) (Q:VK) (E:XK),aL k (A.deeper (PyProof.Rows.envOfC qual (ap st) s.heap.objs.size f cdv))→sp vs H Q E →
   ∃ t,PSs (zbs (CX1 P w) P w K mg base N qual (ap st) f cdv A outer s H E) (zaF st) t∧t { nx:=fun _ H'=>Q .non H',rt:=Q } (zcQ N vs) H):FnOk P w K mg base (CX1 P w) (k+1) f fd ps sp:=by
 obtain⟨oc,od,kV,doc,pm,an,cdv,ct,osl,rfl,lk,hcd⟩:=F.ex
 exact fn_of lk hcd S len fun A outer s H vs Q E hr hsp=>hbody cdv A outer s H vs Q E hr hsp
theorem xe1 {N:List Str} {qual:Str} {scope:Scope} {f:Addr} {cd:Value} {A:Around} {outer:List Env} {s:Shared} {H:Hp} {E:XK}:Xe1 (zbs (CX1 P w) P w K mg base N qual scope f cd A outer s H E) E:=⟨rfl,rfl,rfl,rfl⟩
theorem zc1 {k:Nat} {A:Around} (hr:aL k A):A.units+64 < cLine:=hr.units
theorem scC:zaa ["_law_script","_law_k"] ["_law_script","_law_k"] (ap ziz):=⟨rfl,rfl,rfl,by decide +kernel,rfl,by decide +kernel,by decide +kernel⟩
theorem zli {f:Addr} {fd:FuncData} (F:Fun K "_law_cell_at" "_law_cell_at" ziz f fd) (T:Txt K mg aK C CN CT CP CM):FnOk P w K mg base CX0 1 f fd ["_law_script","_law_k"] (zfo K):=by
 refine F.ok scC (fun vs H Q E h=>?_) (fun cdv A outer s H vs Q E hr h=>?_)
 ·obtain⟨a,ns,k,rfl,_⟩:=h
  rfl
 obtain⟨a,ns,k,rfl,hS,h63,h0,q⟩:=h
 refine⟨_,ai (zal (zac zfj (pv 1) (zap zao rfl T.len PySem.boot_len (aa (pv 0) ac)) (zam _)) (ak (aE (aB zaq (pv 0) (pv 1) (fun _ _=>rfl)))) zab) (ak (aE ah)),?_⟩
 refine⟨_,rfl,_,rfl,a,_,rfl,.inl hS,_,_,rfl,rfl,_,rfl,?_⟩
 refine aO (fun c=>?_) (fun c=>?_)
 ·have c':k < (((ns.map V.int).length:Nat):Int):=of_decide_eq_true c
  rw[List.length_map]at c'
  have hk:k.toNat < ns.length:=by omega
  have ek:k=((k.toNat:Nat):Int):=by omega
  have hat:atI (ns.map V.int) ((k.toNat:Nat):Int)=some (.int ns[k.toNat]):=zae (by rw[List.getElem?_map,List.getElem?_eq_getElem hk] <;> rfl)
  rw[←ek]at hat
  exact⟨_,rfl,_,rfl,a,_,_,_,rfl,rfl,hS,hat,q _⟩
 ·exact q 0
theorem scIW:zaa ["text"] ["text"] (ap zfQ):=⟨rfl,rfl,rfl,by decide +kernel,rfl,by decide +kernel,by decide +kernel⟩
theorem zjJ {f:Addr} {fd:FuncData} (F:Fun K "is_word" "is_word" zfQ f fd) (T:Txt K mg aK C CN CT CP CM):FnOk P w K mg base CX0 1 f fd ["text"] spIsWord:=by
 obtain⟨t1,e1⟩:=T.small
 refine F.ok scIW (fun vs H Q E h=>?_) (fun cdv A outer s H vs Q E hr h=>?_)
 ·obtain⟨z,rfl,_⟩:=h
  rfl
 obtain⟨z,rfl,hz,q⟩:=h
 refine⟨_,ak (aE (zc5 (zcb zcS (zap zbW rfl T.len PySem.boot_len (aa (pv 0) ac)) ah (zam _))
  (zfr (zap (zgb rfl) rfl T.all PyProof.Rows.Boot.all (aa
   (zbP (N':=["letter"]) (ix:=[]) rfl rfl (by decide +kernel) (by decide +kernel) rfl (fun _=>⟨[],zcD (by decide +kernel) (by decide +kernel)⟩) (by decide +kernel) rfl rfl (fun j i h=>by simp at h)
    (zja (pv 0)) (fun cl fp s₃ H₃=>zcb zgk (pv 0) (za8 (v:=.str abc) rfl e1 ⟨_,rfl⟩) rfl)) ac))))),?_⟩
 refine⟨_,rfl,z,rfl,sz _ hz,_,_,rfl,rfl,_,rfl,?_⟩
 refine aO (fun c=>?_) (fun c=>?_)
 ·have c':(0:Int) < (z.length:Int):=of_decide_eq_true c
  refine⟨_,rfl,z,rfl,fun D hD=>⟨fun i m ys H'=>m=z.length - i∧i≤z.length∧ys=((lets z).take i).map V.bl∧H'=upd H D (.lst ys),⟨z.length,rfl,Nat.zero_le _,rfl,rfl⟩,?_⟩⟩
  rintro i m ys H' ⟨rfl,hi,rfl,rfl⟩
  refine⟨ae,?_⟩
  by_cases hlt:i < z.length
  ·refine .inr ⟨hlt,fun x H'' y=>?_⟩
   obtain⟨rfl,ch,hch,rfl⟩:=y
   have et:=zj1 hch
   refine⟨_,rfl,_,_,rfl,rfl,ae,?_,z.length - (i+1),by omega,rfl,hlt,?_,zhV⟩
   ·rw[List.length_map,List.length_take,zhz]
    exact Nat.lt_of_le_of_lt (Nat.le_trans (Nat.min_le_right _ _) hz) (by decide)
   ·rw[et,List.map_append]
    rfl
  ·have hi':i=z.length:=by omega
   subst hi'
   refine .inl ⟨Nat.le_refl _,D,lets z,rfl,SqL.of (by rw[ae,List.take_of_length_le (by rw[zhz];exact Nat.le_refl _)]),?_⟩
   have:=q _ (zaZ hD (.lst (((lets z).take z.length).map V.bl)))
   unfold wordB at this
   rw[c,Bool.true_and]at this
   exact this
 ·have:=q H (ax.refl H)
  unfold wordB at this
  rw[Bool.eq_false_iff.mpr c,Bool.false_and]at this
  exact this
theorem scIN:zaa ["word"] ["word"] (ap zfR):=⟨rfl,rfl,rfl,by decide +kernel,rfl,by decide +kernel,by decide +kernel⟩
theorem zjK {f g:Addr} {fd gd:FuncData} (F:Fun K "is_name" "is_name" zfR f fd) (T:Txt K mg aK C CN CT CP CM) (G:FnOk P w K mg base CX0 1 g gd ["text"] spIsWord) (bG:ay K gd ["text"] []) (kG:W.keepIn K (.ref g)=true) (mG:mg "is_word"=some (.ref g)) :
  FnOk P w K mg base CX0 2 f fd ["word"] zho:=by
 obtain⟨t2,e2⟩:=T.longest
 refine F.ok scIN (fun vs H Q E h=>?_) (fun cdv A outer s H vs Q E hr h=>?_)
 ·obtain⟨z,rfl,_⟩:=h
  rfl
 obtain⟨z,rfl,hz,q⟩:=h
 refine⟨_,ak (aE (zc5 (az G hr rfl mG kG bG .nil aF (aa (pv 0) ac)) (zc5 (zcb op_le (zap zbW rfl T.len PySem.boot_len (aa (pv 0) ac)) (za8 (v:=.int 8) rfl e2 ⟨_,rfl⟩) (zam _))
  (zfr (zcb zhM (pv 0) (za8 (v:=.ref aK) rfl T.kept rfl) rfl))))),?_⟩
 refine⟨_,rfl,z,rfl,hz,fun H1 s1=>⟨_,rfl,?_⟩⟩
 refine aO (fun c=>?_) (fun c=>?_)
 ·refine⟨_,rfl,z,rfl,sz _ hz,_,_,rfl,rfl,_,rfl,?_⟩
  refine aO (fun c2=>?_) (fun c2=>?_)
  ·refine⟨_,rfl,aK,zdj,rfl,.inr (T.tup H1),rfl,ziW,?_⟩
   have:=q H1 s1
   unfold za0 at this
   rw[c,c2,Bool.true_and,Bool.true_and]at this
   exact this
  ·have:=q H1 s1
   unfold za0 at this
   rw[c,Bool.eq_false_iff.mpr c2,Bool.true_and,Bool.false_and]at this
   exact this
 ·have:=q H1 s1
  unfold za0 at this
  rw[Bool.eq_false_iff.mpr c,Bool.false_and]at this
  exact this
theorem scAN:zaa ["word"] ["word"] (ap ze9):=⟨rfl,rfl,rfl,by decide +kernel,rfl,by decide +kernel,by decide +kernel⟩
theorem ziQ {f g:Addr} {fd gd:FuncData} (F:Fun K "ask_name" "ask_name" ze9 f fd) (T:Txt K mg aK C CN CT CP CM) (G:FnOk P w K mg base CX0 2 g gd ["word"] zho) (bG:ay K gd ["word"] []) (kG:W.keepIn K (.ref g)=true) (mG:mg "is_name"=some (.ref g)) :
  FnOk P w K mg base (CX1 P w) 3 f fd ["word"] (zez CN):=by
 refine Fun.okX F scAN (fun vs H Q E h=>?_) (fun cdv A outer s H vs Q E hr h=>?_)
 ·obtain⟨z,rfl,_⟩:=h
  rfl
 obtain⟨z,rfl,lo,h⟩:=h
 refine⟨_,ak (zal (zbS (zbh (az G hr rfl mG kG bG .nil aF (aa (pv 0) ac))))
  (ak (zb7 (C:=CN) xe1 rfl rfl T.bname PySem.F.excBase_ValueError T.xname (aa (zbT (zaN (pe_fvr (pv 0)) (zaN aD zc4))) ac))) zab),?_⟩
 refine⟨_,rfl,z,rfl,Nat.le_trans lo.1 (by decide),fun H1 s1=>⟨_,rfl,?_⟩⟩
 have hre:=lo.repr
 cases e:za0 z with
 | true =>
  rw[e]at h
  exact za3 (h H1 s1)
 | false =>
  rw[e,if_neg (by decide)]at h
  refine zbj ?_
  refine⟨_,rfl,z,rfl,Nat.le_trans hre (by decide),_,rfl,?_,_,rfl,?_,?_,(by show 1≤sizeLine;decide),h H1 s1⟩
  ·rw[zai]
   exact Nat.le_trans (Nat.add_le_add_left hre _) (by decide +kernel)
  ·rw[zai,zai]
   exact Nat.le_trans (Nat.add_le_add_right (Nat.add_le_add_left hre _) _) (by decide +kernel)
  ·rw[zai,zai]
   exact Nat.le_trans (Nat.add_le_add_right (Nat.add_le_add_left hre _) _) (by decide +kernel)
theorem scPl:zaa ["thing","things","most"] ["thing","things","most"] (ap zgR):=⟨rfl,rfl,rfl,by decide +kernel,rfl,by decide +kernel,by decide +kernel⟩
theorem zfV {n:Int} (h1:-1000≤n) (h2:n≤1000):n.natAbs.log2 < 1920∧((toString n:String):Str).length≤1002:=by
 have hb:n.natAbs≤1000:=by omega
 refine⟨?_,?_⟩
 ·by_cases h0:n.natAbs=0
  ·rw[h0]
   decide
  ·have:=(Nat.log2_lt h0 (k:=1920)).mpr (Nat.lt_of_le_of_lt hb (by decide +kernel))
   exact this
 ·have:=PyProof.Rows.len_str_of_int n
  omega
theorem zkp {f:Addr} {fd:FuncData} (F:Fun K "place_of" "place_of" zgR f fd) (T:Txt K mg aK C CN CT CP CM):FnOk P w K mg base (CX1 P w) 1 f fd ["thing","things","most"] (zcX K CM):=by
 refine Fun.okX F scPl (fun vs H Q E h=>?_) (fun cdv A outer s H vs Q E hr h=>?_)
 ·obtain⟨a,tl,m,xs,ds,d,rfl,_⟩:=h
  rfl
 obtain⟨a,tl,m,xs,ds,d,rfl,ht,hl,hs,hd,hn,m0,m1,h⟩:=h
 have hu:=zc1 hr
 have hlen:xs.length=ds.length:=hs.length.symm
 obtain⟨hlog,hsl⟩:=zfV (n:=m) (by omega) m1
 refine⟨_,ai (zal (zac (zgW hu) (pv 0) (pv 1) rfl) (ak (aE (zaL PySem.F.plainAttrs_list PySem.F.slot_list_index PySem.F.type_list_index (zdp hu) (pv 1) (aa (pv 0) ac)))) zab)
  (ai (zal (zac zgH (zap zao rfl T.len PySem.boot_len (aa (pv 1) ac)) (pv 2) (zam _))
   (ak (zb7 (C:=CM) xe1 rfl rfl T.bmany PySem.F.excBase_ValueError T.xmany (aa (zbT (zaN aD (zaN (zdS (pv 2)) (zaN aD zc4)))) ac))) zab)
  (ai (zaM (zaL PySem.F.plainAttrs_list PySem.F.slot_list_append PySem.F.type_list_append zaK (pv 1) (aa (pv 0) ac)))
  (ak (aE (aw zcm (zap zao rfl T.len PySem.boot_len (aa (pv 1) ac)) ah))))),?_⟩
 refine⟨_,rfl,_,rfl,tl,xs,ds,d,rfl,.inl (SqL.of hl),hs,ht,Nat.le_trans hd (by decide),_,rfl,?_⟩
 refine aO (fun c=>?_) (fun c=>?_)
 ·have c':(ds.any fun e=>peq e d)=true:=c
  rw[if_pos c']at h
  have hlt:(ds.findIdx fun e=>peq e d) < ds.length:=List.findIdx_lt_length_of_exists (by simpa using c')
  refine⟨_,rfl,.inl ⟨rfl,_,SqL.of hl⟩,_,rfl,tl,xs,ds,_,d,ds.findIdx (fun e=>peq e d),rfl,rfl,hl,hs,ht,Nat.le_trans hd (by decide),⟨_,List.getElem?_eq_getElem hlt,List.findIdx_getElem (w:=hlt)⟩,fun j dj h1 h2=>?_,h H (ax.refl H)⟩
  obtain⟨h3,h4⟩:=List.getElem?_eq_some_iff.mp h2
  have z:=List.not_of_lt_findIdx (p:=fun e=>peq e d) h1
  rw[h4]at z
  cases e:peq dj d with
  | false=>rfl
  | true=>rw[e]at z;cases z
 ·have c':¬(ds.any fun e=>peq e d)=true:=c
  rw[if_neg c']at h
  refine⟨_,rfl,tl,xs,rfl,.inl (SqL.of hl),_,rfl,_,_,rfl,rfl,_,rfl,aO (fun c2=>?_) (fun c2=>?_)⟩
  ·have c3:m≤((xs.length:Nat):Int):=of_decide_eq_true c2
   rw[hlen]at c3
   rw[if_pos c3]at h
   refine⟨_,rfl,by decide +kernel,_,rfl,.inr ⟨m,rfl,hlog,_,rfl,?_,_,rfl,?_,?_,(by show 1≤sizeLine;decide),h H (ax.refl H)⟩⟩
   all_goals
    simp only[zai]
    first
     | exact Nat.le_trans (Nat.add_le_add_left hsl _) (by decide +kernel)
     | exact Nat.le_trans (Nat.add_le_add_right (Nat.add_le_add_left hsl _) _) (by decide +kernel)
  ·have c3:¬m≤((xs.length:Nat):Int):=fun z=>c2 (decide_eq_true z)
   rw[hlen]at c3
   rw[if_neg c3]at h
   refine⟨_,rfl,.inl ⟨rfl,_,SqL.of hl⟩,_,rfl,tl,xs,_,rfl,rfl,hl,Nat.lt_of_le_of_lt (by rw[hlen];exact hn) (by decide),?_⟩
   refine⟨_,rfl,tl,_,rfl,.inl (SqL.of ae),_,_,rfl,rfl,?_⟩
   have e:(((xs++[V.ref a]).length:Nat):Int) - 1=(ds.length:Nat):=by rw[List.length_append,hlen];simp
   show Q (.int ((((xs++[V.ref a]).length:Nat):Int) - 1)) _
   rw[e]
   exact h
theorem scI:zaa ["self"] ["self"] (ap ziy):=⟨rfl,rfl,rfl,by decide +kernel,rfl,by decide +kernel,by decide +kernel⟩
theorem zlh {f:Addr} {fd:FuncData} (F:Fun K "__init__" "Problem.__init__" ziy f fd) (T:Txt K mg aK C CN CT CP CM):FnOk P w K mg base CX0 1 f fd ["self"] (zi5 C):=by
 refine F.ok scI (fun vs H Q E h=>?_) (fun cdv A outer s H vs Q E hr h=>?_)
 ·obtain⟨p,dx,rfl,_⟩:=h
  rfl
 obtain⟨p,dx,rfl,hp,k⟩:=h
 refine⟨_,ai (zen (pv 0) (zaA ac) rfl) (ai (zen (pv 0) (zaA ac) rfl) (ak (zen (pv 0) (zaA ac) rfl))),?_⟩
 refine⟨lS0,fun tl ht=>?_⟩
 have n1:p≠tl:=zaj hp ht
 refine⟨_,rfl,p,C,dx,[],rfl,(by rw[au n1];exact hp),T.cl,T.nT,(by show 0 < 1000;decide),?_⟩
 refine⟨lS0,fun al ha=>?_⟩
 have a1:al≠p:=fun z=>by rw[z,ae]at ha;cases ha
 have a2:al≠tl:=fun z=>by rw[z,au n1.symm,ae]at ha;cases ha
 have a0:H al=none:=by rw[au a1,au a2]at ha;exact ha
 refine⟨_,rfl,p,C,dx,_,rfl,(by rw[au a1.symm,ae]),T.cl,T.nA,(by show 1 < 1000;decide),?_⟩
 refine⟨lS0,fun rl hrl=>?_⟩
 have r1:rl≠p:=fun z=>by rw[z,ae]at hrl;cases hrl
 have r2:rl≠al:=fun z=>by rw[z,au a1,ae]at hrl;cases hrl
 have r3:rl≠tl:=fun z=>by rw[z,au n1.symm,au a2.symm,au n1.symm,ae]at hrl;cases hrl
 have r0:H rl=none:=by rw[au r1,au r2,au r1,au r3]at hrl;exact hrl
 refine⟨_,rfl,p,C,dx,_,rfl,(by rw[au r1.symm,ae]),T.cl,T.nR,(by show 2 < 1000;decide),?_⟩
 refine k tl al rl _ ht a0 r0 a2 r3 r2 ae ?_ ?_ ?_ fun b o e hb=>?_
 ·rw[au n1.symm,au r3.symm,au n1.symm,au a2.symm,au n1.symm,ae]
 ·rw[au a1,au r2.symm,au a1,ae]
 ·rw[au r1,ae]
 ·rw[au hb,au (zaj e r0),au hb,au (zaj e a0),au hb,au (zaj e ht)]
  exact e
theorem scAT:zaa ["self","number"] ["self","number"] (ap ze7):=⟨rfl,rfl,rfl,by decide +kernel,rfl,by decide +kernel,by decide +kernel⟩
theorem ziO {f:Addr} {fd:FuncData} (F:Fun K "ask_term" "Problem.ask_term" ze7 f fd) (T:Txt K mg aK C CN CT CP CM):FnOk P w K mg base (CX1 P w) 1 f fd ["self","number"] (zey K C CT):=by
 refine Fun.okX F scAT (fun vs H Q E h=>?_) (fun cdv A outer s H vs Q E hr h=>?_)
 ·obtain⟨p,tl,al,rl,T,As,Rs,n,rfl,_⟩:=h
  rfl
 obtain⟨p,tl,al,rl,T',As,Rs,n,rfl,S,h1,h2,h⟩:=h
 obtain⟨⟨dx,ho⟩,⟨xs,hl,hs⟩,_⟩:=id S
 have hlen:xs.length=T'.length:=by rw[←hs.length,List.length_map]
 obtain⟨hlog,hsl⟩:=zfV h1 h2
 refine⟨_,ak (zal (PW.pt (pw_or (zac zfj (pv 1) ah (zam _)) (zi9 (zac zgH (pv 1) (zap zao rfl T.len PySem.boot_len (aa (zaB (pv 0) rfl) ac)) (zam _)))))
  (ak (zb7 (C:=CT) xe1 rfl rfl T.bterm PySem.F.excBase_ValueError T.xterm (aa (zbT (zaN (zdS (pv 1)) (zaN aD zc4))) ac))) zab),?_⟩
 refine⟨_,rfl,_,_,rfl,rfl,_,rfl,aO (fun c=>zbj ?_) (fun c=>⟨_,rfl,_,rfl,p,C,dx,_,_,rfl,ho,T.cl,T.nT,zb0 _ _ _,tl,xs,rfl,.inl (SqL.of hl),_,_,rfl,rfl,_,rfl,aO (fun c2=>?_) (fun c2=>?_)⟩)⟩
 rotate_left 2
 ·have c':¬n < 0:=fun z=>c (decide_eq_true z)
  have c2':¬((xs.length:Nat):Int)≤n:=fun z=>c2 (decide_eq_true z)
  rw[hlen]at c2'
  rw[if_neg (by omega)]at h
  exact h
 all_goals
  have hcond:n < 0∨(T'.length:Int)≤n:=by
   first
    | exact .inl (of_decide_eq_true c)
    | exact .inr (by have z:((xs.length:Nat):Int)≤n:=of_decide_eq_true c2;rw[hlen]at z;exact z)
  rw[if_pos hcond]at h
  refine⟨_,rfl,.inr ⟨n,rfl,hlog,_,rfl,?_,_,rfl,?_,?_,(by show 1≤sizeLine;decide),h H (ax.refl H)⟩⟩
  ·rw[zai]
   exact Nat.le_trans (Nat.add_le_add_left hsl _) (by decide +kernel)
  ·rw[zai,zai]
   exact Nat.le_trans (Nat.add_le_add_right (Nat.add_le_add_left hsl _) _) (by decide +kernel)
  ·rw[zai,zai]
   exact Nat.le_trans (Nat.add_le_add_right (Nat.add_le_add_left hsl _) _) (by decide +kernel)
theorem scAP:zaa ["self","part"] ["self","part"] (ap ze8):=⟨rfl,rfl,rfl,by decide +kernel,rfl,by decide +kernel,by decide +kernel⟩
theorem ziP {f:Addr} {fd:FuncData} (F:Fun K "ask_part" "Problem.ask_part" ze8 f fd) (T:Txt K mg aK C CN CT CP CM):FnOk P w K mg base (CX1 P w) 1 f fd ["self","part"] (zgh K C CP):=by
 refine Fun.okX F scAP (fun vs H Q E h=>?_) (fun cdv A outer s H vs Q E hr h=>?_)
 ·obtain⟨p,tl,al,rl,T,As,Rs,n,rfl,_⟩:=h
  rfl
 obtain⟨p,tl,al,rl,T',As,Rs,n,rfl,S,h1,h2,h⟩:=h
 obtain⟨⟨dx,ho⟩,_,⟨xs,hl,hs⟩,_⟩:=id S
 have hlen:xs.length=As.length:=by rw[←hs.length,List.length_map]
 obtain⟨hlog,hsl⟩:=zfV h1 h2
 refine⟨_,ak (zal (PW.pt (pw_or (zac zbu (pv 1) ah (zam _)) (zi9 (zac zcS (zap zkK rfl T.abs PyProof.Rows.Boot.abs (aa (pv 1) ac)) (zap zao rfl T.len PySem.boot_len (aa (zaB (pv 0) rfl) ac)) (zam _)))))
  (ak (zb7 (C:=CP) xe1 rfl rfl T.bpart PySem.F.excBase_ValueError T.xpart (aa (zbT (zaN (zdS (pv 1)) (zaN aD zc4))) ac))) zab),?_⟩
 refine⟨_,rfl,rfl,_,rfl,aO (fun c=>zbj ?_) (fun c=>⟨_,rfl,n,rfl,_,rfl,p,C,dx,_,_,rfl,ho,T.cl,T.nA,zbr _ _ _,al,xs,rfl,.inl (SqL.of hl),_,_,rfl,rfl,_,rfl,aO (fun c2=>?_) (fun c2=>?_)⟩)⟩
 rotate_left 2
 ·have c':¬n=0:=fun z=>c (decide_eq_true (by rw[z]))
  have c2':¬((xs.length:Nat):Int) < (if n < 0 then -n else n):=fun z=>c2 (decide_eq_true z)
  rw[hlen]at c2'
  have hb:zbp As.length n=false:=by
   unfold zbp
   have a1:¬((As.length:Nat):Int) < n:=by split at c2' <;> omega
   have a2:¬n < -((As.length:Nat):Int):=by split at c2' <;> omega
   rw[decide_eq_false c',decide_eq_false a1,decide_eq_false a2]
   rfl
  rw[if_neg (by rw[hb];decide)]at h
  exact h
 all_goals
  have hb:zbp As.length n=true:=by
   unfold zbp
   first
    | (have c':V.int n=V.int 0:=of_decide_eq_true c
       have c2':n=0:=by injection c'
       rw[decide_eq_true c2'];rfl)
    | (have z:((xs.length:Nat):Int) < (if n < 0 then -n else n):=of_decide_eq_true c2
       rw[hlen]at z
       split at z
       ·rw[decide_eq_true (show n < -((As.length:Nat):Int) by omega),Bool.or_true]
       ·rw[decide_eq_true (show((As.length:Nat):Int) < n by omega),Bool.or_true,Bool.true_or])
  rw[if_pos hb]at h
  refine⟨_,rfl,.inr ⟨n,rfl,hlog,_,rfl,?_,_,rfl,?_,?_,(by show 1≤sizeLine;decide),h H (ax.refl H)⟩⟩
  ·rw[zai]
   exact Nat.le_trans (Nat.add_le_add_left hsl _) (by decide +kernel)
  ·rw[zai,zai]
   exact Nat.le_trans (Nat.add_le_add_right (Nat.add_le_add_left hsl _) _) (by decide +kernel)
  ·rw[zai,zai]
   exact Nat.le_trans (Nat.add_le_add_right (Nat.add_le_add_left hsl _) _) (by decide +kernel)
end
end K05
namespace K05
open PySem L2
def Fr2 (H H':Hp) (z y:Addr):Prop:=∀ b o,H b=some o→b≠z→b≠y→H' b=some o
theorem Fr2.of1 {H H':Hp} {z y:Addr} (f:Fr1 H H' z):Fr2 H H' z y:=fun b o e n _=>f b o e n
theorem Fr2.of_same {H H':Hp} {z y:Addr} (s:ax H H'):Fr2 H H' z y:=fun b o e _ _=>s b o e
theorem Fr2.trans {H H1 H2:Hp} {z y:Addr} (a:Fr2 H H1 z y) (b:Fr2 H1 H2 z y):Fr2 H H2 z y:=fun c o e n m=>b c o (a c o e n m) n m
def zdr (As:List At) (z:Str):Out × List At :=
 if za0 z=false then(.name,As) else if .plain z∈As then(.num (As.idxOf (.plain z)+1),As) else if 40≤As.length then(.many,As) else(.num (As.length+1),As++[.plain z])
def zcr (n:Nat) (As:List At) (a b:Int):Out × List At :=
 if a < 0∨(n:Int)≤a∨b < 0∨(n:Int)≤b then(.term,As) else if .same b a∈As then(.num (As.idxOf (.same b a)+1),As) else if .same a b∈As then(.num (As.idxOf (.same a b)+1),As) else if 40≤As.length then(.many,As) else(.num (As.length+1),As++[.same a b])
def aJ:List Int→List Int→List Int
 | acc,[]=>acc
 | acc,p :: ps=>aJ (if p∈acc then acc else acc++[p]) ps
def zcN (m:Nat) (Rs:List (List Int)) (ps:List Int):Out × List (List Int) :=
 if ps.any (zbp m)=true then(.part,Rs) else if 20 < ps.length then(.many,Rs) else if 200≤Rs.length then(.many,Rs) else(.num Rs.length,Rs++[aJ [] ps])
def Told (K:W.Frag) (C CN CT CP CM:Addr) (H:Hp) (p tl al rl:Addr) (T:List Tm) (As:List At) (Rs:List (List Int)) (Q:VK) (E:XK):Out→Prop
 | .num k=>∀ H',zat K C H' p tl al rl T As Rs→Fr2 H H' al rl→Q (.int (k:Nat)) H'
 | .name=>∀ H',ax H H'→E (.ref CN) none H'
 | .term=>∀ H',ax H H'→E (.ref CT) none H'
 | .part=>∀ H',ax H H'→E (.ref CP) none H'
 | .many=>∀ H',ax H H'→E (.ref CM) none H'
def zh1 (K:W.Frag) (C CN CT CP CM:Addr):Sp:=fun vs H Q E=>∃(p tl al rl:Addr) (T:List Tm) (As:List At) (Rs:List (List Int)) (z:Str),vs=[.ref p,.str z]∧zat K C H p tl al rl T As Rs∧Low z∧As.length≤1000 ∧
 Told K C CN CT CP CM H p tl al rl T (zdr As z).2 Rs Q E (zdr As z).1
def zi3 (K:W.Frag) (C CN CT CP CM:Addr):Sp:=fun vs H Q E=>∃(p tl al rl:Addr) (T:List Tm) (As:List At) (Rs:List (List Int)) (a b:Int),vs=[.ref p,.int a,.int b]∧zat K C H p tl al rl T As Rs∧(-1000≤a∧a≤1000)∧(-1000≤b∧b≤1000)∧As.length≤1000 ∧
 Told K C CN CT CP CM H p tl al rl T (zcr T.length As a b).2 Rs Q E (zcr T.length As a b).1
def spRow (K:W.Frag) (C CN CT CP CM:Addr):Sp:=fun vs H Q E=>∃(p tl al rl q:Addr) (T:List Tm) (As:List At) (Rs:List (List Int)) (ps:List Int),vs=[.ref p,.ref q]∧zat K C H p tl al rl T As Rs∧SqI K H q ps∧ps.length≤1000∧(∀ i∈ps,-1000≤i∧i≤1000)∧Rs.length≤1000 ∧
 Told K C CN CT CP CM H p tl al rl T As (zcN As.length Rs ps).2 Q E (zcN As.length Rs ps).1
def zi4 (K:W.Frag):Sp:=fun vs H Q _=>∃(q:Addr) (ps:List Int),vs=[.ref q]∧SqI K H q ps∧ps.length≤1000∧∀(H':Hp) (l:Addr),ax H H'→H' l=some (.tup ((aJ [] ps).map V.int))→Q (.ref l) H'
theorem zk6 (a b:Int):peq (.int a) (.int b)=decide (a=b):=by
 simp only[peq]
 rfl
theorem q1 {Q:VK} {n:Nat} {H:Hp} (h:Q (.int ((n+1:Nat):Int)) H):Q (.int (((n:Nat):Int)+1)) H:=h
theorem zc9:∀(ps acc:List Int),(aJ acc ps).length≤acc.length+ps.length
 | [],acc=>by simp [aJ]
 | p :: ps,acc=>by
  unfold aJ
  have h:=zc9 ps (if p∈acc then acc else acc++[p])
  split at h <;> simp only[List.length_append,List.length_cons,List.length_singleton,List.length_nil]at h ⊢ <;> split <;> simp_all <;> omega
theorem zgl {ps:List Int} {i:Nat} {k:Int}:∀ {acc:List Int},ps[i]?=some k→aJ acc (ps.take (i+1))=if k∈aJ acc (ps.take i) then aJ acc (ps.take i) else aJ acc (ps.take i)++[k]:=by
 induction ps generalizing i with
 | nil=>intro acc h;simp at h
 | cons p ps ih =>
  intro acc h
  cases i with
  | zero =>
   simp at h
   subst h
   simp [aJ]
  | succ i =>
   simp only[List.take_succ_cons,aJ]
   exact ih (by simpa using h)
section
variable {P:Program} {w:World} {K:W.Frag} {mg:Str→Option Value} {base:Heap} {aK C CN CT CP CM:Addr}
theorem zh7 {H:Hp} {p tl al rl a:Addr} {T:List Tm} {As:List At} {Rs:List (List Int)} {t:At} {Q:VK} {E:XK} (S:zat K C H p tl al rl T As Rs) (ha:Has K H (dA t) (.ref a)) (len:As.length≤1000)
  (k1:t∈As→∀ H',ax H H'→Q (.int (As.idxOf t:Nat)) H') (k2:t∉As→40≤As.length→∀ H',ax H H'→E (.ref CM) none H')
  (k3:t∉As→¬40≤As.length→∀ H',zat K C H' p tl al rl T (As++[t]) Rs→Fr1 H H' al→Q (.int (As.length:Nat)) H'):zcX K CM [.ref a,.ref al,.int 40] H Q E:=by
 obtain⟨xs,hl,hs⟩:=id S.am
 refine⟨a,al,40,xs,As.map dA,dA t,rfl,ha,hl,hs,Nat.le_trans (zch (n:=1) (fun a=>by rw[zfu];exact Nat.le_refl _) As) (by decide),by rw[List.length_map];exact len,by decide,by decide,?_⟩
 rw[zba zbx,zhE zbx,List.length_map]
 by_cases hm:t∈As
 ·rw[if_pos (decide_eq_true hm)]
  exact k1 hm
 ·rw[if_neg (by rw[decide_eq_false hm];decide)]
  by_cases h40:40≤As.length
  ·rw[if_pos (by omega)]
   exact k2 hm h40
  ·rw[if_neg (by omega)]
   have kt:KeepT H (upd H al (.lst (xs++[.ref a]))):=KeepT.lst hl
   refine k3 hm h40 _ (S.setA ?_) fun b o e hb=>by rw[au hb];exact e
   rw[List.map_append]
   exact(hs.keep kt (zag za5 As)).append (aj.one (ha.keep kt (za5 t)))
theorem scP:zaa ["self","name"] ["self","name"] (ap zgQ):=⟨rfl,rfl,rfl,by decide +kernel,rfl,by decide +kernel,by decide +kernel⟩
theorem zko {f fN fP:Addr} {fd dN dP:FuncData} (F:Fun K "add_plain" "Problem.add_plain" zgQ f fd) (T:Txt K mg aK C CN CT CP CM)
  (GN:FnOk P w K mg base (CX1 P w) 3 fN dN ["word"] (zez CN)) (bN:ay K dN ["word"] []) (kN:W.keepIn K (.ref fN)=true) (mN:mg "ask_name"=some (.ref fN))
  (GP:FnOk P w K mg base (CX1 P w) 1 fP dP ["thing","things","most"] (zcX K CM)) (bP:ay K dP ["thing","things","most"] []) (kP:W.keepIn K (.ref fP)=true) (mP:mg "place_of"=some (.ref fP)) :
  FnOk P w K mg base (CX1 P w) 4 f fd ["self","name"] (zh1 K C CN CT CP CM):=by
 obtain⟨t40,e40⟩:=T.atoms
 refine Fun.okX F scP (fun vs H Q E h=>?_) (fun cdv A outer s H vs Q E hr h=>?_)
 ·obtain⟨p,tl,al,rl,T,As,Rs,z,rfl,_⟩:=h
  rfl
 obtain⟨p,tl,al,rl,T',As,Rs,z,rfl,S,lo,len,h⟩:=h
 have hr1:aL 1 _:=hr.mono (by decide)
 refine⟨_,ai (zaM (az GN hr rfl mN kN bN .nil (zbM xe1) (aa (pv 1) ac)))
  (ak (aE (aw zbw (az GP hr1 rfl mP kP bP .nil (zbM xe1) (aa (zak (aa aD (aa (pv 1) ac))) (aa (zaB (pv 0) rfl) (aa (za8 (v:=.int 40) rfl e40 ⟨_,rfl⟩) ac)))) ah))),?_⟩
 refine⟨_,rfl,z,rfl,lo,?_⟩
 cases hg:za0 z with
 | false =>
  rw[if_neg (by decide)]
  have e:zdr As z=(.name,As):=if_pos hg
  rw[e]at h
  exact h
 | true =>
 rw[if_pos rfl]
 intro H1 s1
 refine⟨_,rfl,lS2,fun a ha=>?_⟩
 have s2:ax H1 (upd H1 a (.tup [.str "plain",.str z])):=zaZ ha _
 have s12:=s1.trans s2
 have S2:=S.same s12
 obtain⟨⟨dx,ho⟩,_⟩:=id S2
 have hd:Has K (upd H1 a (.tup [.str "plain",.str z])) (dA (.plain z)) (.ref a):=by
  simp only[dA,Has,aj]
  exact⟨a,_,rfl,SqT.of ae,_,_,rfl,rfl,_,_,rfl,rfl,rfl⟩
 refine⟨_,rfl,p,C,dx,_,_,rfl,ho,T.cl,T.nA,zbr _ _ _,?_⟩
 refine zh7 (CM:=CM) (E:=E) (Q:=fun x H'=>rI0 (fun i j=>.int (i+j)) x (.int 1) H' Q) S2 hd len (fun hm H' s'=>?_) (fun hm h40 H' s'=>?_) (fun hm h40 H' S' fr=>?_)
 ·have e:zdr As z=(.num (As.idxOf (.plain z)+1),As):=by unfold zdr;rw[if_neg (by rw[hg];decide),if_pos hm]
  rw[e]at h
  exact⟨_,_,rfl,rfl,q1 <| h H' (S2.same s') (Fr2.of_same (s12.trans s'))⟩
 ·have e:zdr As z=(.many,As):=by unfold zdr;rw[if_neg (by rw[hg];decide),if_neg hm,if_pos h40]
  rw[e]at h
  exact h H' (s12.trans s')
 ·have e:zdr As z=(.num (As.length+1),As++[.plain z]):=by unfold zdr;rw[if_neg (by rw[hg];decide),if_neg hm,if_neg h40]
  rw[e]at h
  exact⟨_,_,rfl,rfl,q1 <| h H' S' ((Fr2.of_same s12).trans (Fr2.of1 fr))⟩
theorem scSm:zaa ["self","one","other","turned"] ["self","one","other"] (ap ziw):=⟨rfl,rfl,rfl,by decide +kernel,rfl,by decide +kernel,by decide +kernel⟩
theorem zld {f fT fP:Addr} {fd dT' dP:FuncData} (F:Fun K "add_same" "Problem.add_same" ziw f fd) (T:Txt K mg aK C CN CT CP CM)
  (GT:FnOk P w K mg base (CX1 P w) 1 fT dT' ["self","number"] (zey K C CT)) (bT:ay K dT' ["self","number"] []) (mT:zbk K C "ask_term" fT)
  (GP:FnOk P w K mg base (CX1 P w) 1 fP dP ["thing","things","most"] (zcX K CM)) (bP:ay K dP ["thing","things","most"] []) (kP:W.keepIn K (.ref fP)=true) (mP:mg "place_of"=some (.ref fP)) :
  FnOk P w K mg base (CX1 P w) 2 f fd ["self","one","other"] (zi3 K C CN CT CP CM):=by
 obtain⟨t40,e40⟩:=T.atoms
 refine Fun.okX F scSm (fun vs H Q E h=>?_) (fun cdv A outer s H vs Q E hr h=>?_)
 ·obtain⟨p,tl,al,rl,T,As,Rs,a,b,rfl,_⟩:=h
  rfl
 obtain⟨p,tl,al,rl,T',As,Rs,a,b,rfl,S,⟨a1,a2⟩,⟨b1,b2⟩,len,h⟩:=h
 have hu:=zc1 hr
 refine⟨_,ai (zaM (zaS (pv 0) T.cl mT GT hr bT .nil (zbM xe1) (aa (pv 1) ac)))
  (ai (zaM (zaS (pv 0) T.cl mT GT hr bT .nil (zbM xe1) (aa (pv 2) ac)))
  (ai (aA (i:=3) scSm.nd rfl (Or.inl rfl) (zak (aa aD (aa (pv 2) (aa (pv 1) ac)))))
  (ai (zal (zac (zgW hu) (pv 3) (zaB (pv 0) rfl) rfl) (ak (aE (aw zbw (zaL PySem.F.plainAttrs_list PySem.F.slot_list_index PySem.F.type_list_index (zdp hu) (zaB (pv 0) rfl) (aa (pv 3) ac)) ah))) zab)
  (ak (aE (aw zbw (az GP hr rfl mP kP bP .nil (zbM xe1) (aa (zak (aa aD (aa (pv 1) (aa (pv 2) ac)))) (aa (zaB (pv 0) rfl) (aa (za8 (v:=.int 40) rfl e40 ⟨_,rfl⟩) ac)))) ah)))))),?_⟩
 obtain⟨⟨dx,ho⟩,_,⟨xs,hl,hs⟩,_⟩:=id S
 have no:=zcc tl al rl (m:="ask_term") (by decide +kernel) (by decide +kernel) (by decide +kernel)
 refine⟨_,rfl,p,dx,_,rfl,ho,no,_,rfl,p,tl,al,rl,T',As,Rs,a,rfl,S,a1,a2,?_⟩
 by_cases ca:a < 0∨(T'.length:Int)≤a
 ·rw[if_pos ca]
  have e:zcr T'.length As a b=(.term,As):=if_pos (ca.elim .inl fun z=>.inr (.inl z))
  rw[e]at h
  exact h
 rw[if_neg ca]
 refine⟨_,rfl,p,dx,_,rfl,ho,no,_,rfl,p,tl,al,rl,T',As,Rs,b,rfl,S,b1,b2,?_⟩
 by_cases cb:b < 0∨(T'.length:Int)≤b
 ·rw[if_pos cb]
  have e:zcr T'.length As a b=(.term,As):=if_pos (.inr (.inr cb))
  rw[e]at h
  exact h
 rw[if_neg cb]
 have cn:¬(a < 0∨(T'.length:Int)≤a∨b < 0∨(T'.length:Int)≤b):=by omega
 refine⟨_,rfl,_,rfl,lS3,fun u hu'=>?_⟩
 have s1:ax H (upd H u (.tup [.str "same",.int b,.int a])):=zaZ hu' _
 have hd:Has K (upd H u (.tup [.str "same",.int b,.int a])) (dA (.same b a)) (.ref u):=by
  simp only[dA,Has,aj]
  exact⟨u,_,rfl,SqT.of ae,_,_,rfl,rfl,_,_,rfl,rfl,_,_,rfl,rfl,rfl⟩
 have S1:=S.same s1
 have hs1:=hs.keep (.of_same s1) (zag za5 As)
 have dp:zaz (As.map dA)≤60:=Nat.le_trans (zch (n:=1) (fun a=>by rw[zfu];exact Nat.le_refl _) As) (by decide)
 refine⟨_,rfl,_,rfl,p,C,dx,_,_,rfl,s1 _ _ ho,T.cl,T.nA,zbr _ _ _,al,xs,As.map dA,dA (.same b a),rfl,.inl (SqL.of (s1 _ _ hl)),hs1,hd,dp,_,rfl,?_⟩
 have ea:=zba zbx As (.same b a)
 by_cases hm:At.same b a∈As
 ·rw[decide_eq_true hm]at ea
  refine aO (fun _=>?_) (fun c=>absurd ea c)
  have e:zcr T'.length As a b=(.num (As.idxOf (.same b a)+1),As):=by unfold zcr;rw[if_neg cn,if_pos hm]
  rw[e]at h
  have hlt:=List.idxOf_lt_length_of_mem hm
  refine⟨_,rfl,p,C,dx,_,_,rfl,s1 _ _ ho,T.cl,T.nA,zbr _ _ _,.inl ⟨rfl,_,SqL.of (s1 _ _ hl)⟩,_,rfl,al,xs,As.map dA,_,dA (.same b a),As.idxOf (.same b a),rfl,rfl,s1 _ _ hl,hs1,hd,dp,⟨dA (.same b a),?_,zbi _⟩,fun m dm h1 h2=>?_,_,_,rfl,rfl,q1 (h _ S1 (Fr2.of_same s1))⟩
  ·rw[List.getElem?_map,List.getElem?_eq_getElem hlt]
   simp
  ·rw[List.getElem?_map]at h2
   cases q:As[m]? with
   | none=>rw[q]at h2;cases h2
   | some v =>
    rw[q]at h2
    have e':dm=dA v:=(Option.some.inj h2).symm
    rw[e',zjb]
    refine decide_eq_false fun z=>?_
    obtain⟨hm',hv⟩:=List.getElem?_eq_some_iff.mp q
    have z':=List.not_of_lt_findIdx (p:=(· == At.same b a)) h1
    rw[hv,z,beq_self_eq_true]at z'
    cases z'
 ·rw[decide_eq_false hm]at ea
  refine aO (fun c=>absurd (show false=true from ea.symm.trans c) (by decide)) (fun _=>?_)
  refine⟨_,rfl,_,rfl,lS3,fun v hv=>?_⟩
  have s2:ax (upd H u (.tup [.str "same",.int b,.int a])) (upd (upd H u (.tup [.str "same",.int b,.int a])) v (.tup [.str "same",.int a,.int b])):=zaZ hv _
  have s12:=s1.trans s2
  have S2:=S.same s12
  have hd2:Has K (upd (upd H u (.tup [.str "same",.int b,.int a])) v (.tup [.str "same",.int a,.int b])) (dA (.same a b)) (.ref v):=by
   simp only[dA,Has,aj]
   exact⟨v,_,rfl,SqT.of ae,_,_,rfl,rfl,_,_,rfl,rfl,_,_,rfl,rfl,rfl⟩
  refine⟨_,rfl,p,C,dx,_,_,rfl,s12 _ _ ho,T.cl,T.nA,zbr _ _ _,?_⟩
  refine zh7 (CM:=CM) (E:=E) (Q:=fun x H'=>rI0 (fun i j=>.int (i+j)) x (.int 1) H' Q) S2 hd2 len (fun hm2 H' s'=>?_) (fun hm2 h40 H' s'=>?_) (fun hm2 h40 H' S' fr=>?_)
  ·have e:zcr T'.length As a b=(.num (As.idxOf (.same a b)+1),As):=by unfold zcr;rw[if_neg cn,if_neg hm,if_pos hm2]
   rw[e]at h
   exact⟨_,_,rfl,rfl,q1 <| h H' (S2.same s') (Fr2.of_same (s12.trans s'))⟩
  ·have e:zcr T'.length As a b=(.many,As):=by unfold zcr;rw[if_neg cn,if_neg hm,if_neg hm2,if_pos h40]
   rw[e]at h
   exact h H' (s12.trans s')
  ·have e:zcr T'.length As a b=(.num (As.length+1),As++[.same a b]):=by unfold zcr;rw[if_neg cn,if_neg hm,if_neg hm2,if_neg h40]
   rw[e]at h
   exact⟨_,_,rfl,rfl,q1 <| h H' S' ((Fr2.of_same s12).trans (Fr2.of1 fr))⟩
end
end K05
namespace K05
open PySem L2
structure Asks (K:W.Frag) (C:Addr) (H:Hp) (p tl al rl q:Addr) (T:List Tm) (As:List At) (Rs:List (List Int)) (n:Str) (ps:List Int):Prop where
 pr:zat K C H p tl al rl T As Rs
 sq:SqI K H q ps
 low:Low n
 few:ps.length≤10
 small:∀ i∈ps,-1000≤i∧i≤1000
 len:T.length≤1000
def spAdd (K:W.Frag) (C CN CT CM:Addr):Sp:=fun vs H Q E=>∃(p tl al rl q:Addr) (T:List Tm) (As:List At) (Rs:List (List Int)) (n:Str) (ps:List Int),vs=[.ref p,.str n,.ref q]∧Asks K C H p tl al rl q T As Rs n ps ∧
 match zc2 T (za0 n) (n,ps) with
 | (.num k,T')=>∀ H',zat K C H' p tl al rl T' As Rs→Fr1 H H' tl→Q (.int (k:Nat)) H'
 | (.name,_)=>∀ H',ax H H'→E (.ref CN) none H'
 | (.term,_)=>∀ H',ax H H'→E (.ref CT) none H'
 | (.many,_)=>∀ H',ax H H'→E (.ref CM) none H'
 | (.part,_)=>True
section
variable {P:Program} {w:World} {K:W.Frag} {mg:Str→Option Value} {base:Heap} {aK C CN CT CP CM:Addr}
theorem scA:zaa ["self","name","parts","part"] ["self","name","parts"] (ap sAdd):=⟨rfl,rfl,rfl,by decide +kernel,rfl,by decide +kernel,by decide +kernel⟩
theorem zhC {ps:List Int} {i:Nat} {x:V} (h:(ps.map V.int)[i]?=some x):∃ k,ps[i]?=some k∧x=.int k:=by
 rw[List.getElem?_map]at h
 cases e:ps[i]? with
 | none=>rw[e]at h;cases h
 | some k =>
  rw[e]at h
  exact⟨k,rfl,(Option.some.inj h).symm⟩
theorem zju {T:List Tm} {ps:List Int} {i:Nat} {k:Int} (h3:ps.length≤3) (e:ps[i]?=some k) (h:k < 0∨(T.length:Int)≤k):bad T ps=true:=by
 unfold bad
 rw[Bool.or_eq_true]
 refine .inr (List.any_eq_true.mpr ⟨k,List.mem_of_getElem? e,?_⟩)
 rw[Bool.or_eq_true]
 exact h.elim (fun z=>.inl (decide_eq_true z)) fun z=>.inr (decide_eq_true z)
theorem zia {T:List Tm} {ps:List Int} (h3:ps.length≤3) (h:∀(i:Nat) k,ps[i]?=some k→¬(k < 0∨(T.length:Int)≤k)):bad T ps=false:=by
 cases e:bad T ps with
 | false=>rfl
 | true =>
  unfold bad at e
  rw[Bool.or_eq_true]at e
  rcases e with e | e
  ·have:=of_decide_eq_true e
   omega
  ·obtain⟨k,hk,e⟩:=List.any_eq_true.mp e
   obtain⟨i,hi⟩:=List.mem_iff_getElem?.mp hk
   rw[Bool.or_eq_true]at e
   exact absurd (e.elim (fun z=>.inl (of_decide_eq_true z)) fun z=>.inr (of_decide_eq_true z)) (h i k hi)
theorem ok_add {f fN fT fP:Addr} {fd dN dT' dP:FuncData} (F:Fun K "add_term" "Problem.add_term" sAdd f fd) (T:Txt K mg aK C CN CT CP CM)
  (GN:FnOk P w K mg base (CX1 P w) 3 fN dN ["word"] (zez CN)) (bN:ay K dN ["word"] []) (kN:W.keepIn K (.ref fN)=true) (mN:mg "ask_name"=some (.ref fN))
  (GT:FnOk P w K mg base (CX1 P w) 1 fT dT' ["self","number"] (zey K C CT)) (bT:ay K dT' ["self","number"] []) (mT:zbk K C "ask_term" fT)
  (GP:FnOk P w K mg base (CX1 P w) 1 fP dP ["thing","things","most"] (zcX K CM)) (bP:ay K dP ["thing","things","most"] []) (kP:W.keepIn K (.ref fP)=true) (mP:mg "place_of"=some (.ref fP)) :
  FnOk P w K mg base (CX1 P w) 4 f fd ["self","name","parts"] (spAdd K C CN CT CM):=by
 obtain⟨t3,e3⟩:=T.parts
 obtain⟨t60,e60⟩:=T.terms
 refine Fun.okX F scA (fun vs H Q E h=>?_) (fun cdv A outer s H vs Q E hr h=>?_)
 ·obtain⟨p,tl,al,rl,q,T,As,Rs,n,ps,rfl,_⟩:=h
  rfl
 obtain⟨p,tl,al,rl,q,T',As,Rs,n,ps,rfl,A0,h⟩:=h
 obtain⟨S,hq,lo,few,small,len⟩:=A0
 have hr1:aL 1 _:=hr.mono (by decide)
 refine⟨_,ai (zaM (az GN hr rfl mN kN bN .nil (zbM xe1) (aa (pv 1) ac)))
  (ai (zal (zac zcS (zap zao rfl T.len PySem.boot_len (aa (pv 2) ac)) (za8 (v:=.int 3) rfl e3 ⟨_,rfl⟩) (zam _))
   (ak (zb7 (C:=CT) xe1 rfl rfl T.bterm PySem.F.excBase_ValueError T.xterm (aa (zbT (zaN (zdS (pv 1)) (zaN aD (zaN (zdS (za8 (v:=.int 3) rfl e3 ⟨_,rfl⟩)) (zaN aD zc4))))) ac))) zab)
  (ai (zbo PassesOwn.leaving rfl (zgT (pv 2)) (zaP (i:=3) scA.nd rfl (Or.inl rfl)) (ak (zaM (zaS (pv 0) T.cl mT GT hr1 bT .nil (zbM xe1) (aa (pv 3) ac)))))
  (ak (aE (az GP hr1 rfl mP kP bP .nil (zbM xe1) (aa (zak (aa (pv 1) (aa (zcd zbn rfl T.tuple PyProof.Rows.Boot.tuple (aa (pv 2) ac)) ac))) (aa (zaB (pv 0) rfl) (aa (za8 (v:=.int 60) rfl e60 ⟨_,rfl⟩) ac)))))))),?_⟩
 refine⟨_,rfl,n,rfl,lo,?_⟩
 cases hg:za0 n with
 | false =>
  have e:zc2 T' false (n,ps)=(.name,T'):=if_pos rfl
  rw[hg,e]at h
  rw[if_neg (by decide)]
  exact h
 | true =>
 rw[if_pos rfl]
 intro H1 s1
 have S1:=S.same s1
 have hq1:=hq.same s1
 refine⟨_,rfl,q,_,rfl,hq1,_,_,rfl,rfl,_,rfl,?_⟩
 have hl1:(ps.map V.int).length=ps.length:=List.length_map _
 refine aO (fun c=>?_) (fun c=>?_)
 ·have c':(3:Int) < (((ps.map V.int).length:Nat):Int):=of_decide_eq_true c
  rw[hl1]at c'
  have hb:bad T' ps=true:=by unfold bad;rw[decide_eq_true (by omega:3 < ps.length)];rfl
  have e:zc2 T' true (n,ps)=(.term,T'):=by unfold zc2;rw[if_neg (by decide),if_pos hb]
  rw[hg,e]at h
  have hn:=lo.1
  refine⟨_,rfl,.inl ⟨n,rfl,Nat.le_trans hn (by decide),_,rfl,?_,_,rfl,?_,.inr ⟨3,rfl,by decide +kernel,_,rfl,?_,_,rfl,?_,?_,(by show 1≤sizeLine;decide),h H1 s1⟩⟩⟩
  all_goals
   simp only[zai]
   exact Nat.le_trans (by first | exact Nat.add_le_add_left hn _ | exact Nat.add_le_add_right (Nat.add_le_add_left hn _) _ | exact Nat.add_le_add_right (Nat.add_le_add_right (Nat.add_le_add_left hn _) _) _ | exact Nat.add_le_add_right (Nat.add_le_add_right (Nat.add_le_add_right (Nat.add_le_add_left hn _) _) _) _) (by decide +kernel)
 ·have c':¬(3:Int) < (((ps.map V.int).length:Nat):Int):=fun z=>c (decide_eq_true z)
  rw[hl1]at c'
  have h3:ps.length≤3:=by omega
  obtain⟨⟨dx,ho⟩,⟨xs,hl,hs⟩,_⟩:=id S1
  have addE:bad T' ps=false→zc2 T' true (n,ps)=if(n,ps)∈T' then(.num (T'.idxOf (n,ps)),T') else if 60≤T'.length then(.many,T') else(.num T'.length,T'++[(n,ps)]):=fun hb=>by unfold zc2;rw[if_neg (by decide),if_neg (by rw[hb];decide)]
  have last:∀(H3:Hp) (a l:Addr),ax H H3→H3 a=some (.tup [.str n,.ref l])→SqT K H3 l (ps.map V.int)→bad T' ps=false→zcX K CM [.ref a,.ref tl,.int 60] H3 Q E:=fun H3 a l s3 ha hq3 hb=>by
   have S3:=S.same s3
   rw[hg,addE hb]at h
   obtain⟨xs3,hl3,hs3⟩:=id S3.tm
   have hd:Has K H3 (dT (n,ps)) (.ref a):=by
    simp only[dT,Has,aj]
    exact⟨a,_,rfl,SqT.of ha,_,_,rfl,rfl,_,_,rfl,⟨l,_,rfl,hq3,aj.ints ps⟩,rfl⟩
   refine⟨a,tl,60,xs3,T'.map dT,dT (n,ps),rfl,hd,hl3,hs3,Nat.le_trans (zd3 T') (by decide),by rw[List.length_map];exact len,by decide,by decide,?_⟩
   rw[zba zer,zhE zer,List.length_map]
   by_cases hm:(n,ps)∈T'
   ·rw[if_pos hm]at h
    rw[if_pos (decide_eq_true hm)]
    exact fun H' s'=>h H' (S3.same s') (Fr1.of_same (s3.trans s'))
   ·rw[if_neg hm]at h
    rw[if_neg (by rw[decide_eq_false hm];decide)]
    by_cases h60:60≤T'.length
    ·rw[if_pos h60]at h
     rw[if_pos (by omega)]
     exact fun H' s'=>h H' (s3.trans s')
    ·rw[if_neg h60]at h
     rw[if_neg (by omega)]
     have kt:KeepT H3 (upd H3 tl (.lst (xs3++[.ref a]))):=KeepT.lst hl3
     refine h _ (S3.setT ?_) fun b o e hb'=>?_
     ·rw[List.map_append]
      exact(hs3.keep kt (zaG T')).append (aj.one (hd.keep kt (zjc _)))
     ·rw[au hb']
      exact s3 b o e
  rcases hq1 with hqX | hqX
  ·refine⟨_,rfl,q,rfl,.inl ⟨⟨_,hqX⟩,zfc (K:=K) (a:=q) (xs:=ps.map V.int) (fun i σ H2=>H2=H1∧(∃ z,σ=[some (.ref p),some (.str n),some (.ref q),z])∧∀(j:Nat) k,j < i→ps[j]?=some k→¬(k < 0∨(T'.length:Int)≤k))
    ⟨rfl,⟨_,rfl⟩,fun j k hj=>absurd hj (Nat.not_lt_zero j)⟩ (fun i σ H2 _ ⟨e,_⟩=>by rw[e];exact hqX) ?_ ?_⟩⟩
   ·rintro i x σ H2 hx ⟨rfl,⟨z,rfl⟩,no⟩
    obtain⟨k,ek,rfl⟩:=zhC hx
    have sk:=small k (List.mem_of_getElem? ek)
    refine⟨_,rfl,p,dx,_,rfl,ho,zcc _ _ _ (by decide +kernel) (by decide +kernel) (by decide +kernel),_,rfl,p,tl,al,rl,T',As,Rs,k,rfl,S1,sk.1,sk.2,?_⟩
    by_cases hk:k < 0∨(T'.length:Int)≤k
    ·rw[if_pos hk]
     have e:zc2 T' true (n,ps)=(.term,T'):=by unfold zc2;rw[if_neg (by decide),if_pos (zju h3 ek hk)]
     rw[hg,e]at h
     exact fun H' s'=>h H' (s1.trans s')
    ·rw[if_neg hk]
     refine⟨rfl,⟨_,rfl⟩,fun j k' hj ej=>?_⟩
     by_cases hji:j < i
     ·exact no j k' hji ej
     ·have:j=i:=by omega
      subst this
      rw[ek]at ej
      cases ej
      exact hk
   ·rintro σ H2 ⟨rfl,⟨z,rfl⟩,no⟩
    have hb:bad T' ps=false:=zia h3 fun i k e=>no i k (by rw[hl1];exact(List.getElem?_eq_some_iff.mp e).1) e
    refine⟨_,rfl,_,rfl,q,_,rfl,.inl ⟨hqX,fun l hl'=>⟨lS2,fun a ha=>?_⟩⟩⟩
    have sA:ax H2 (upd H2 l (.tup (ps.map V.int))):=zaZ hl' _
    have sB:ax (upd H2 l (.tup (ps.map V.int))) (upd (upd H2 l (.tup (ps.map V.int))) a (.tup [.str n,.ref l])):=zaZ ha _
    have sAB:=sA.trans sB
    have hq3:SqT K (upd (upd H2 l (.tup (ps.map V.int))) a (.tup [.str n,.ref l])) l (ps.map V.int):=SqT.of (sB _ _ ae)
    refine⟨_,rfl,p,C,dx,_,_,rfl,sAB _ _ ho,T.cl,T.nT,zb0 _ _ _,last _ a _ (s1.trans sAB) ae hq3 hb⟩
  ·refine⟨_,rfl,q,rfl,.inr ⟨⟨_,hqX⟩,zf1 (K:=K) (a:=q) (xs:=ps.map V.int) (fun i σ H2=>H2=H1∧(∃ z,σ=[some (.ref p),some (.str n),some (.ref q),z])∧∀(j:Nat) k,j < i→ps[j]?=some k→¬(k < 0∨(T'.length:Int)≤k))
    ⟨rfl,⟨_,rfl⟩,fun j k hj=>absurd hj (Nat.not_lt_zero j)⟩ (fun i σ H2 _ ⟨e,_⟩=>by rw[e];exact hqX) ?_ ?_⟩⟩
   ·rintro i x σ H2 hx ⟨rfl,⟨z,rfl⟩,no⟩
    obtain⟨k,ek,rfl⟩:=zhC hx
    have sk:=small k (List.mem_of_getElem? ek)
    refine⟨_,rfl,p,dx,_,rfl,ho,zcc _ _ _ (by decide +kernel) (by decide +kernel) (by decide +kernel),_,rfl,p,tl,al,rl,T',As,Rs,k,rfl,S1,sk.1,sk.2,?_⟩
    by_cases hk:k < 0∨(T'.length:Int)≤k
    ·rw[if_pos hk]
     have e:zc2 T' true (n,ps)=(.term,T'):=by unfold zc2;rw[if_neg (by decide),if_pos (zju h3 ek hk)]
     rw[hg,e]at h
     exact fun H' s'=>h H' (s1.trans s')
    ·rw[if_neg hk]
     refine⟨rfl,⟨_,rfl⟩,fun j k' hj ej=>?_⟩
     by_cases hji:j < i
     ·exact no j k' hji ej
     ·have:j=i:=by omega
      subst this
      rw[ek]at ej
      cases ej
      exact hk
   ·rintro σ H2 ⟨rfl,⟨z,rfl⟩,no⟩
    have hb:bad T' ps=false:=zia h3 fun i k e=>no i k (by rw[hl1];exact(List.getElem?_eq_some_iff.mp e).1) e
    refine⟨_,rfl,_,rfl,q,_,rfl,.inr ⟨hqX,lS2,fun a ha=>?_⟩⟩
    have sAB:ax H2 (upd H2 a (.tup [.str n,.ref q])):=zaZ ha _
    have hq3:SqT K (upd H2 a (.tup [.str n,.ref q])) q (ps.map V.int):=(KeepT.of_same sAB).sq hqX
    refine⟨_,rfl,p,C,dx,_,_,rfl,sAB _ _ ho,T.cl,T.nT,zb0 _ _ _,last _ a _ (s1.trans sAB) ae hq3 hb⟩
end
end K05
namespace K05
open PySem L2
theorem zfZ (a b:Int):peq (.int a) (.int b)=true↔a=b:=by
 rw[zk6]
 exact decide_eq_true_iff
theorem zeS {ps:List Int} {i:Nat} {x:V} (h:(ps.map V.int)[i]?=some x):∃ k,ps[i]?=some k∧x=.int k:=by
 rw[List.getElem?_map]at h
 cases e:ps[i]? with
 | none=>rw[e]at h;cases h
 | some k =>
  rw[e]at h
  exact⟨k,rfl,(Option.some.inj h).symm⟩
section
variable {P:Program} {w:World} {K:W.Frag} {mg:Str→Option Value} {base:Heap} {aK C CN CT CP CM:Addr}
theorem scO:zaa ["parts","kept","part"] ["parts"] (ap zix):=⟨rfl,rfl,rfl,by decide +kernel,rfl,by decide +kernel,by decide +kernel⟩
theorem zlf {f:Addr} {fd:FuncData} (F:Fun K "once_each" "once_each" zix f fd) (T:Txt K mg aK C CN CT CP CM):FnOk P w K mg base CX0 1 f fd ["parts"] (zi4 K):=by
 refine F.ok scO (fun vs H Q E h=>?_) (fun cdv A outer s H vs Q E hr h=>?_)
 ·obtain⟨q,ps,rfl,_⟩:=h
  rfl
 obtain⟨q,ps,rfl,hq,len,k⟩:=h
 have hu:=zc1 hr
 refine⟨_,ai (aA (i:=1) scO.nd rfl (Or.inl rfl) (zaA ac))
  (ai (zbo PassesOwn.never rfl (zgT (pv 0)) (zaP (i:=2) scO.nd rfl (Or.inl rfl))
   (ak (zal (zac (zdo hu) (pv 2) (pv 1) rfl) (ak (zaM (zaL PySem.F.plainAttrs_list PySem.F.slot_list_append PySem.F.type_list_append zaK (pv 1) (aa (pv 2) ac)))) zab)))
  (ak (aE (zcd zbn rfl T.tuple PyProof.Rows.Boot.tuple (aa (pv 1) ac))))),?_⟩
 refine⟨lS0,fun l hl=>?_⟩
 have s1:ax H (upd H l (.lst [])):=zaZ hl _
 rcases hq with hqX | hqX
 ·refine⟨_,rfl,q,rfl,.inl ⟨⟨_,s1.seq hqX⟩,zfc (K:=K) (a:=q) (xs:=ps.map V.int) (fun i σ H2=>ax H H2∧(∃ z,σ=[some (.ref q),some (.ref l),z])∧H2 l=some (.lst ((aJ [] (ps.take i)).map V.int)))
   ⟨s1,⟨_,rfl⟩,ae⟩ (fun i σ H2 _ ⟨e,_⟩=>e.seq hqX) ?_ ?_⟩⟩
  ·rintro i x σ H2 hx ⟨s2,⟨z,rfl⟩,hl2⟩
   obtain⟨k',ek,rfl⟩:=zeS hx
   have et:=zgl (acc:=[]) ek
   have lenz:((aJ [] (ps.take i)).map V.int).length < sizeLine:=by
    rw[List.length_map]
    have:=zc9 (ps.take i) []
    rw[List.length_take,List.length_nil]at this
    exact Nat.lt_of_le_of_lt (show _≤1000 by omega) (by decide)
   refine⟨_,rfl,_,rfl,l,_,(aJ [] (ps.take i)).map Dt.int,.int k',rfl,.inl (SqL.of hl2),aj.ints _,by simp only[Has],by rw[zcg];decide,_,rfl,?_⟩
   have ea:=zba zfZ (aJ [] (ps.take i)) k'
   by_cases hm:k'∈aJ [] (ps.take i)
   ·rw[decide_eq_true hm]at ea
    refine aO (fun c=>absurd (show(!((aJ [] (ps.take i)).map Dt.int).any fun d'=>peq d' (.int k'))=true from c) (by rw[ea];decide)) (fun _=>?_)
    rw[if_pos hm]at et
    exact⟨s2,⟨_,rfl⟩,by rw[et];exact hl2⟩
   ·rw[decide_eq_false hm]at ea
    refine aO (fun _=>?_) (fun c=>absurd (show(!((aJ [] (ps.take i)).map Dt.int).any fun d'=>peq d' (.int k'))=true by rw[ea];rfl) c)
    rw[if_neg hm]at et
    refine⟨_,rfl,.inl ⟨rfl,_,SqL.of hl2⟩,_,rfl,l,_,_,rfl,rfl,hl2,lenz,?_⟩
    refine⟨fun b o e=>by rw[au (zaj e hl)];exact s2 b o e,⟨_,rfl⟩,?_⟩
    rw[et,List.map_append,ae]
    rfl
  ·rintro σ H2 ⟨s2,⟨z,rfl⟩,hl2⟩
   rw[List.length_map,List.take_length]at hl2
   refine⟨_,rfl,l,_,rfl,.inl ⟨SqL.of hl2,fun l2 hl2'=>k _ l2 (s2.trans (zaZ hl2' _)) ae⟩⟩
 ·refine⟨_,rfl,q,rfl,.inr ⟨⟨_,(KeepT.of_same s1).sq hqX⟩,zf1 (K:=K) (a:=q) (xs:=ps.map V.int) (fun i σ H2=>ax H H2∧(∃ z,σ=[some (.ref q),some (.ref l),z])∧H2 l=some (.lst ((aJ [] (ps.take i)).map V.int)))
   ⟨s1,⟨_,rfl⟩,ae⟩ (fun i σ H2 _ ⟨e,_⟩=>(KeepT.of_same e).sq hqX) ?_ ?_⟩⟩
  ·rintro i x σ H2 hx ⟨s2,⟨z,rfl⟩,hl2⟩
   obtain⟨k',ek,rfl⟩:=zeS hx
   have et:=zgl (acc:=[]) ek
   have lenz:((aJ [] (ps.take i)).map V.int).length < sizeLine:=by
    rw[List.length_map]
    have:=zc9 (ps.take i) []
    rw[List.length_take,List.length_nil]at this
    exact Nat.lt_of_le_of_lt (show _≤1000 by omega) (by decide)
   refine⟨_,rfl,_,rfl,l,_,(aJ [] (ps.take i)).map Dt.int,.int k',rfl,.inl (SqL.of hl2),aj.ints _,by simp only[Has],by rw[zcg];decide,_,rfl,?_⟩
   have ea:=zba zfZ (aJ [] (ps.take i)) k'
   by_cases hm:k'∈aJ [] (ps.take i)
   ·rw[decide_eq_true hm]at ea
    refine aO (fun c=>absurd (show(!((aJ [] (ps.take i)).map Dt.int).any fun d'=>peq d' (.int k'))=true from c) (by rw[ea];decide)) (fun _=>?_)
    rw[if_pos hm]at et
    exact⟨s2,⟨_,rfl⟩,by rw[et];exact hl2⟩
   ·rw[decide_eq_false hm]at ea
    refine aO (fun _=>?_) (fun c=>absurd (show(!((aJ [] (ps.take i)).map Dt.int).any fun d'=>peq d' (.int k'))=true by rw[ea];rfl) c)
    rw[if_neg hm]at et
    refine⟨_,rfl,.inl ⟨rfl,_,SqL.of hl2⟩,_,rfl,l,_,_,rfl,rfl,hl2,lenz,?_⟩
    refine⟨fun b o e=>by rw[au (zaj e hl)];exact s2 b o e,⟨_,rfl⟩,?_⟩
    rw[et,List.map_append,ae]
    rfl
  ·rintro σ H2 ⟨s2,⟨z,rfl⟩,hl2⟩
   rw[List.length_map,List.take_length]at hl2
   refine⟨_,rfl,l,_,rfl,.inl ⟨SqL.of hl2,fun l2 hl2'=>k _ l2 (s2.trans (zaZ hl2' _)) ae⟩⟩
theorem scRw:zaa ["self","parts","part"] ["self","parts"] (ap sRow):=⟨rfl,rfl,rfl,by decide +kernel,rfl,by decide +kernel,by decide +kernel⟩
theorem ok_row {f fP fO:Addr} {fd dP dO:FuncData} (F:Fun K "add_row" "Problem.add_row" sRow f fd) (T:Txt K mg aK C CN CT CP CM)
  (GP:FnOk P w K mg base (CX1 P w) 1 fP dP ["self","part"] (zgh K C CP)) (bP:ay K dP ["self","part"] []) (mP:zbk K C "ask_part" fP)
  (GO:FnOk P w K mg base CX0 1 fO dO ["parts"] (zi4 K)) (bO:ay K dO ["parts"] []) (kO:W.keepIn K (.ref fO)=true) (mO:mg "once_each"=some (.ref fO)) :
  FnOk P w K mg base (CX1 P w) 2 f fd ["self","parts"] (spRow K C CN CT CP CM):=by
 obtain⟨t20,e20⟩:=T.rparts
 obtain⟨t200,e200⟩:=T.rows
 refine Fun.okX F scRw (fun vs H Q E h=>?_) (fun cdv A outer s H vs Q E hr h=>?_)
 ·obtain⟨p,tl,al,rl,q,T,As,Rs,ps,rfl,_⟩:=h
  rfl
 obtain⟨p,tl,al,rl,q,T',As,Rs,ps,rfl,S,hq,len,small,rlen,h⟩:=h
 obtain⟨t2,h2,q2⟩:∃ t,PSs (zbs (CX1 P w) P w K mg base ["self","parts","part"] "Problem.add_row" (ap sRow) f cdv A outer s H E) ((zaF sRow).drop 1) t ∧
   ∀ z,ps.any (zbp As.length)=false→t { nx:=fun _ H'=>Q .non H',rt:=Q } [some (.ref p),some (.ref q),z] H:=by
  refine⟨_,ai (zal (zac zcS (zap zao rfl T.len PySem.boot_len (aa (pv 1) ac)) (za8 (v:=.int 20) rfl e20 ⟨_,rfl⟩) (zam _))
    (ak (zb7 (C:=CM) xe1 rfl rfl T.bmany PySem.F.excBase_ValueError T.xmany (aa (zbT (zaN aD (zaN (zdS (za8 (v:=.int 20) rfl e20 ⟨_,rfl⟩)) (zaN aD zc4)))) ac))) zab)
   (ai (zal (zac zgH (zap zao rfl T.len PySem.boot_len (aa (zaB (pv 0) rfl) ac)) (za8 (v:=.int 200) rfl e200 ⟨_,rfl⟩) (zam _))
    (ak (zb7 (C:=CM) xe1 rfl rfl T.bmany PySem.F.excBase_ValueError T.xmany (aa (zbT (zaN aD (zaN (zdS (za8 (v:=.int 200) rfl e200 ⟨_,rfl⟩)) (zaN aD zc4)))) ac))) zab)
   (ai (zaM (zaL PySem.F.plainAttrs_list PySem.F.slot_list_append PySem.F.type_list_append zaK (zaB (pv 0) rfl) (aa (az GO hr rfl mO kO bO .nil aF (aa (pv 1) ac)) ac)))
   (ak (aE (aw zcm (zap zao rfl T.len PySem.boot_len (aa (zaB (pv 0) rfl) ac)) ah))))),?_⟩
  intro z no
  obtain⟨⟨dx,ho⟩,_,_,⟨xs,hl,hs⟩,_⟩:=id S
  have hlen:xs.length=Rs.length:=by rw[←hs.length,List.length_map]
  have hpl:(ps.map V.int).length=ps.length:=List.length_map _
  refine⟨_,rfl,q,_,rfl,hq,_,_,rfl,rfl,_,rfl,aO (fun c=>?_) (fun c=>?_)⟩
  ·have c':(20:Int) < (((ps.map V.int).length:Nat):Int):=of_decide_eq_true c
   rw[hpl]at c'
   have e:zcN As.length Rs ps=(.many,Rs):=by unfold zcN;rw[if_neg (by rw[no];decide),if_pos (by omega)]
   rw[e]at h
   exact⟨_,rfl,by decide +kernel,.inr ⟨20,rfl,by decide +kernel,_,rfl,by decide +kernel,_,rfl,by decide +kernel,by decide +kernel,(by show 1≤sizeLine;decide),h H (ax.refl H)⟩⟩
  have c':¬(20:Int) < (((ps.map V.int).length:Nat):Int):=fun z=>c (decide_eq_true z)
  rw[hpl]at c'
  refine⟨_,rfl,p,C,dx,_,_,rfl,ho,T.cl,T.nR,zcf _ _ _,rl,xs,rfl,.inl (SqL.of hl),_,_,rfl,rfl,_,rfl,aO (fun c2=>?_) (fun c2=>?_)⟩
  ·have c3:(200:Int)≤((xs.length:Nat):Int):=of_decide_eq_true c2
   rw[hlen]at c3
   have e:zcN As.length Rs ps=(.many,Rs):=by unfold zcN;rw[if_neg (by rw[no];decide),if_neg (by omega),if_pos (by omega)]
   rw[e]at h
   exact⟨_,rfl,by decide +kernel,.inr ⟨200,rfl,by decide +kernel,_,rfl,by decide +kernel,_,rfl,by decide +kernel,by decide +kernel,(by show 1≤sizeLine;decide),h H (ax.refl H)⟩⟩
  have c3:¬(200:Int)≤((xs.length:Nat):Int):=fun z=>c2 (decide_eq_true z)
  rw[hlen]at c3
  have e:zcN As.length Rs ps=(.num Rs.length,Rs++[aJ [] ps]):=by unfold zcN;rw[if_neg (by rw[no];decide),if_neg (by omega),if_neg (by omega)]
  rw[e]at h
  refine⟨_,rfl,p,C,dx,_,_,rfl,ho,T.cl,T.nR,zcf _ _ _,.inl ⟨rfl,_,SqL.of hl⟩,_,rfl,q,ps,rfl,hq,len,fun H2 l s2 hl2=>?_⟩
  have S2:=S.same s2
  have hlr:=s2 _ _ hl
  have hd:Has K H2 (dR (aJ [] ps)) (.ref l):=by
   simp only[dR,Has]
   exact⟨l,_,rfl,SqT.of hl2,aj.ints _⟩
  have kt:KeepT H2 (upd H2 rl (.lst (xs++[.ref l]))):=KeepT.lst hlr
  have S3:zat K C (upd H2 rl (.lst (xs++[.ref l]))) p tl al rl T' As (Rs++[aJ [] ps]):=S2.setR (by
   rw[List.map_append]
   exact((hs.keep (.of_same s2) (zag za4 Rs)).keep kt (zag za4 Rs)).append (aj.one (hd.keep kt (za4 _))))
  obtain⟨⟨dx3,ho3⟩,_⟩:=id S3
  refine⟨rl,xs,_,rfl,rfl,hlr,Nat.lt_of_le_of_lt (by rw[hlen];exact rlen) (by decide),?_⟩
  refine⟨_,rfl,p,C,dx3,_,_,rfl,ho3,T.cl,T.nR,zcf _ _ _,rl,_,rfl,.inl (SqL.of ae),_,_,rfl,rfl,?_⟩
  have en:(((xs++[V.ref l]).length:Nat):Int) - 1=(Rs.length:Nat):=by rw[List.length_append,hlen];simp
  have fin:=h _ S3 (fun b o e _ n2=>by rw[au n2];exact s2 b o e)
  show Q (.int ((((xs++[V.ref l]).length:Nat):Int) - 1)) _
  rw[en]
  exact fin
 refine⟨_,ai (zbo PassesOwn.leaving rfl (zgT (pv 1)) (zaP (i:=2) scRw.nd rfl (Or.inl rfl)) (ak (zaM (zaS (pv 0) T.cl mP GP hr bP .nil (zbM xe1) (aa (pv 2) ac))))) h2,?_⟩
 obtain⟨⟨dx,ho⟩,_⟩:=id S
 have noA:=zcc tl al rl (m:="ask_part") (by decide +kernel) (by decide +kernel) (by decide +kernel)
 have fin:∀ z,ps.any (zbp As.length)=false→SqI K H q ps→t2 { nx:=fun _ H'=>Q .non H',rt:=Q } [some (.ref p),some (.ref q),z] H:=fun z no _=>q2 z no
 rcases hq with hqX | hqX
 ·refine⟨_,rfl,q,rfl,.inl ⟨⟨_,hqX⟩,zfc (K:=K) (a:=q) (xs:=ps.map V.int) (fun i σ H2=>H2=H∧(∃ z,σ=[some (.ref p),some (.ref q),z])∧(ps.take i).any (zbp As.length)=false)
   ⟨rfl,⟨_,rfl⟩,by simp⟩ (fun i σ H2 _ ⟨e,_⟩=>by rw[e];exact hqX) ?_ ?_⟩⟩
  ·rintro i x σ H2 hx ⟨rfl,⟨z,rfl⟩,no⟩
   obtain⟨k',ek,rfl⟩:=zeS hx
   have sk:=small k' (List.mem_of_getElem? ek)
   refine⟨_,rfl,p,dx,_,rfl,ho,noA,_,rfl,p,tl,al,rl,T',As,Rs,k',rfl,S,sk.1,sk.2,?_⟩
   by_cases hk:zbp As.length k'=true
   ·rw[if_pos hk]
    have e:zcN As.length Rs ps=(.part,Rs):=if_pos (List.any_eq_true.mpr ⟨k',List.mem_of_getElem? ek,hk⟩)
    rw[e]at h
    exact h
   ·rw[if_neg hk]
    refine⟨rfl,⟨_,rfl⟩,?_⟩
    rw[List.take_add_one,ek,List.any_append,no]
    simpa using hk
  ·rintro σ H2 ⟨rfl,⟨z,rfl⟩,no⟩
   rw[List.length_map,List.take_length]at no
   exact fin z no (.inl hqX)
 ·refine⟨_,rfl,q,rfl,.inr ⟨⟨_,hqX⟩,zf1 (K:=K) (a:=q) (xs:=ps.map V.int) (fun i σ H2=>H2=H∧(∃ z,σ=[some (.ref p),some (.ref q),z])∧(ps.take i).any (zbp As.length)=false)
   ⟨rfl,⟨_,rfl⟩,by simp⟩ (fun i σ H2 _ ⟨e,_⟩=>by rw[e];exact hqX) ?_ ?_⟩⟩
  ·rintro i x σ H2 hx ⟨rfl,⟨z,rfl⟩,no⟩
   obtain⟨k',ek,rfl⟩:=zeS hx
   have sk:=small k' (List.mem_of_getElem? ek)
   refine⟨_,rfl,p,dx,_,rfl,ho,noA,_,rfl,p,tl,al,rl,T',As,Rs,k',rfl,S,sk.1,sk.2,?_⟩
   by_cases hk:zbp As.length k'=true
   ·rw[if_pos hk]
    have e:zcN As.length Rs ps=(.part,Rs):=if_pos (List.any_eq_true.mpr ⟨k',List.mem_of_getElem? ek,hk⟩)
    rw[e]at h
    exact h
   ·rw[if_neg hk]
    refine⟨rfl,⟨_,rfl⟩,?_⟩
    rw[List.take_add_one,ek,List.any_append,no]
    simpa using hk
  ·rintro σ H2 ⟨rfl,⟨z,rfl⟩,no⟩
   rw[List.length_map,List.take_length]at no
   exact fin z no (.inr hqX)
end
end K05
namespace C05
open PySem L2
open F05 (Tr dTr aQ dp dps nols_dTrs nol_dTr trs_get tr_at szM dTrs_length sz txt zaE zaQ)
theorem zeb {x y:Str} (hy:1≤y.length):Txt.startswith x y=true↔∃ r,cp x=cp y++r:=by
 have:=zew (x:=x) (y:=y) (k:=0) hy
 rw[List.drop_zero]at this
 rw[←this]
 unfold Txt.startswith StrLaws.At
 rw[Bool.and_eq_true,decide_eq_true_eq]
theorem zee {x:Str} {j:Int} (h0:0≤j):cp (Txt.slice x (some j) none)=(cp x).drop j.toNat:=by
 unfold cp
 by_cases h:j≤x.length
 ·rw[PyProof.Rows.slice_from_eq h0 h rfl]
  show(x.cps.toList.drop j.toNat).take ((x.length:Int) - j).toNat=_
  rw[List.take_of_length_le]
  rw[List.length_drop,show x.cps.toList.length=x.length from cp_len x]
  omega
 ·rw[PyProof.Rows.slice_beyond (by omega),List.drop_eq_nil_of_le (by rw[show x.cps.toList.length=x.length from cp_len x];omega)]
  rfl
theorem zje (a:PA):nol (dPA a)=true:=by
 cases a with
 | plain z=>rfl
 | same t u=>simp only[dPA,nol,za9,nol_dTr,Bool.and_self]
theorem zjd (p:Prt):nol (dPt p)=true:=by simp only[dPt,nol,za9,zje,Bool.and_self]
theorem zbt:∀ r:List Prt,za9 (r.map dPt)=true
 | []=>rfl
 | p :: r=>by simp only[List.map_cons,za9,zjd,zbt r,Bool.and_self]
theorem ziH {z:Str} (h:Nm z):K05.wordB z=true:=by
 unfold K05.wordB
 have n0:=h.w.1
 have l0:0 < z.length:=by
  rw[←cp_len]
  exact List.length_pos_iff.mpr n0
 rw[decide_eq_true (by omega),Bool.true_and,List.all_eq_true]
 intro b hb
 unfold K05.lets at hb
 obtain⟨c,hc,rfl⟩:=List.mem_map.mp hb
 have all:∀ c∈cp abc,K05.isL ⟨#[c]⟩=true:=by decide +kernel
 exact all c (h.w.2.1 c hc)
theorem zjY {s:Str} (h:32∈cp s):K05.wordB s=false:=by
 unfold K05.wordB
 have:(K05.lets s).all id=false:=by
  rw[List.all_eq_false]
  refine⟨K05.isL ⟨#[32]⟩,?_,by decide +kernel⟩
  unfold K05.lets
  exact List.mem_map.mpr ⟨32,h,rfl⟩
 rw[this,Bool.and_false]
structure TxF (K:W.Frag) (mg:Str→Option Value) (CU:Addr):Prop where
 br:∃ t,mg "MOST_BRACKETS"=some (.int 20 t)
 cu:mg "Cursor"=some (.ref CU)
section
variable {P:Program} {w:World} {K:W.Frag} {mg:Str→Option Value} {base:Heap} {CU:Addr} {f fI fT fO fW fA fP:Addr} {fd dI dT' dO dW dA' dP:FuncData}
def zhh (K:W.Frag):Sp:=fun vs H Q _=>∃(s:Str) (t:Tr),vs=[.str s]∧cp s=cT t∧NT t∧dp t≤21∧s.length≤1000000∧∀(H':Hp) (v:V),ax H H'→Has K H' (dTr t) v→Q v H'
theorem zcF:zaa ["text","cursor","tree"] ["text"] (ap s_formed_tree):=⟨rfl,rfl,rfl,by decide +kernel,rfl,by decide +kernel,by decide +kernel⟩
theorem ok_ftree (F:Fun K "formed_tree" "formed_tree" s_formed_tree f fd) (Z:TxC K mg CU) (TF:TxF K mg CU) (mI:Mk K CU fI) (oI:FnOk P w K mg base CX0 1 fI dI ["self","text"] (zhl CU)) (bI:ay K dI ["self","text"] [])
  (oT:FnOk P w K mg base CX0 44 fT dT' ["self","brackets"] (sp_ctree K CU 20)) (bT:ay K dT' ["self","brackets"] []) (mT:zbk K CU "take_tree" fT) (oO:FnOk P w K mg base CX0 1 fO dO ["self"] (zfN CU)) (bO:ay K dO ["self"] []) (mO:zbk K CU "is_over" fO):FnOk P w K mg base CX0 45 f fd ["text"] (zhh K):=by
 refine F.ok zcF (fun vs H Q E h=>?_) (fun cdv A outer s H vs Q E hr h=>?_)
 ·obtain⟨s,t,rfl,_⟩:=h
  rfl
 obtain⟨z,t,rfl,hc,nt,hd,lz,q⟩:=h
 have hr1:aL 1 _:=hr.mono (by decide)
 have hr2:aL 2 _:=hr.mono (by decide)
 obtain⟨t1,e1⟩:=TF.br
 refine⟨_,(ai (aA (i:=1) zcF.nd rfl (Or.inl rfl) (zk7 mI oI hr2 rfl TF.cu bI .nil aF (aa (pv 0) ac)))
  (ai (aA (i:=2) zcF.nd rfl (Or.inl rfl) (zaS (pv 1) Z.cl mT oT hr bT .nil aF (aa (za8 (v:=.int 20) rfl e1 ⟨_,rfl⟩) ac)))
  (ai (zal (zbS (zbh (zd0 (pv 1) Z.cl mO oO hr1 bO .nil aF)))
   zb6
   zab)
  (ak (aE (pv 2)))))),?_⟩
 refine⟨_,rfl,fun c dx hc0 hdx ne=>⟨c,dx,z,rfl,ae,lz,fun H1 C1 f1=>⟨rfl,?_⟩⟩⟩
 have s1:∀ H',FrC H1 H' c→ax H H':=fun H' f2 b o e=>by
  have nb:b≠c:=fun x=>by rw[x,hc0]at e;cases e
  have nd:b≠dx:=fun x=>by rw[x,hdx]at e;cases e
  exact f2 b o (f1 b o (by rw[au nb,au nd];exact e) nb) nb
 have hd0:(cp z).drop 0=cT t++[]:=by rw[List.drop_zero,hc,List.append_nil]
 obtain⟨⟨dx1,hc1⟩,_⟩:=id C1
 refine⟨_,rfl,c,dx1,_,rfl,hc1,zdh _ _,c,z,0,t,[],rfl,C1,hd0,nt.lt,by omega,(fun _ _ e=>by cases e),fun H2 v C2 f2 h2=>?_⟩
 have e2:0+(cT t).length=z.length:=by rw[←hc,cp_len,Nat.zero_add]
 rw[e2]at C2
 obtain⟨⟨dx2,hc2⟩,_⟩:=id C2
 refine⟨_,rfl,c,dx2,_,rfl,hc2,zfC _ _,c,z,z.length,rfl,C2,_,rfl,?_⟩
 rw[decide_eq_true rfl]
 exact za3 ⟨_,rfl,q H2 v (s1 H2 f2) h2⟩
def zhj (K:W.Frag):Sp:=fun vs H Q _=>∃(s:Str) (a:PA),vs=[.str s]∧cp s=cPA a∧NPA a∧s.length≤900∧∀(H':Hp) (v:V),ax H H'→Has K H' (dPA a) v→Q v H'
theorem zdQ:zaa ["text","sides"] ["text"] (ap s_formed_atom):=⟨rfl,rfl,rfl,by decide +kernel,rfl,by decide +kernel,by decide +kernel⟩
set_option maxHeartbeats 1000000 in
theorem ok_fatom (F:Fun K "formed_atom" "formed_atom" s_formed_atom f fd) (Z:TxC K mg CU) (BW:FB P w K mg base CX0 1 "is_word" fW dW ["text"] K05.spIsWord) (BT:FB P w K mg base CX0 45 "formed_tree" fT dT' ["text"] (zhh K)):FnOk P w K mg base CX0 46 f fd ["text"] (zhj K):=by
 refine F.ok zdQ (fun vs H Q E h=>?_) (fun cdv A outer s H vs Q E hr h=>?_)
 ·obtain⟨s,a,rfl,_⟩:=h
  rfl
 obtain⟨z,a,rfl,hc,na,lz,q⟩:=h
 have hr1:aL 1 _:=hr.mono (by decide)
 refine⟨_,(ai (zal (zbh (az BW.ok hr1 rfl BW.m BW.kp BW.b .nil aF (aa (pv 0) ac)))
   (ak (aE (zak (aa aD (aa (pv 0) ac)))))
   zab)
  (ai (aA (i:=1) zdQ.nd rfl (Or.inl rfl) (zaL PySem.F.plainAttrs_str PySem.F.slot_str_split PySem.F.type_str_split zfa (pv 0) (aa aD ac)))
  (ai (zal (zac op_ne (zap zao rfl Z.len PySem.boot_len (aa (pv 1) ac)) ah (zam _))
   zb6
   zab)
  (ak (aE (zak (aa aD (aa (az BT.ok hr rfl BT.m BT.kp BT.b .nil aF (aa (aB zaq (pv 1) ah (fun _ _=>rfl)) ac)) (aa (az BT.ok hr rfl BT.m BT.kp BT.b .nil aF (aa (aB zaq (pv 1) ah (fun _ _=>rfl)) ac)) ac))))))))),?_⟩
 refine⟨_,rfl,z,rfl,by omega,fun H1 s1=>⟨_,rfl,?_⟩⟩
 cases a with
 | plain y =>
  have ey:z=y:=cp_inj hc
  subst ey
  rw[ziH na]
  refine zbj ⟨_,rfl,lS2,fun l hl=>?_⟩
  exact q _ _ (s1.trans (ar hl _)) (Has.tup' (SqT.of ae) (.cons Has.str' (.cons Has.str' .nil)))
 | same t u =>
  obtain⟨nt,nu,dt,du⟩:=na
  simp only[cPA]at hc
  rw[zjY (by rw[hc];simp)]
  have es:Txt.split z " = "=[ofC (cT t),ofC (cT u)]:=zkF nt nu (zaJ _) (zaJ _) hc
  have lt:(cT t).length≤900∧(cT u).length≤900:=by
   have:=congrArg List.length hc
   rw[cp_len,List.length_append,List.length_append]at this
   omega
  have lo:∀ c,(ofC c).length=c.length:=fun c=>by rw[←cp_len,zaJ]
  refine za3 ⟨_,rfl,rfl,z,_,rfl,rfl,(by decide +kernel),by omega,fun p hp=>?_⟩
  rw[es]
  have s2:=ar hp (.lst ([ofC (cT t),ofC (cT u)].map V.str))
  have n2:=ae (H:=H1) (a:=p) (o:=.lst ([ofC (cT t),ofC (cT u)].map V.str))
  generalize upd H1 p (.lst ([ofC (cT t),ofC (cT u)].map V.str))=H2 at s2 n2
  have s02:=s1.trans s2
  refine⟨_,rfl,p,_,rfl,.inl (SqL.of n2),rfl,_,rfl,aO (fun c=>absurd c (by simp)) (fun _=>?_)⟩
  refine⟨_,rfl,p,_,_,_,rfl,rfl,SqL.of n2,zae (j:=0) rfl,ofC (cT t),t,rfl,zaJ _,nt,dt,by rw[lo];omega,fun H3 v3 s3 h3=>?_⟩
  refine⟨_,rfl,p,_,_,_,rfl,rfl,SqL.of (s3 _ _ n2),zae (j:=1) rfl,ofC (cT u),u,rfl,zaJ _,nu,du,by rw[lo];omega,fun H4 v4 s4 h4=>?_⟩
  refine⟨lS3,fun l hl=>?_⟩
  have s5:=ar hl (.tup [V.str "same",v3,v4])
  exact q _ _ (s02.trans (s3.trans (s4.trans s5))) (Has.tup' (SqT.of ae) (.cons Has.str' (.cons (h3.keep (s4.trans s5).kt (nol_dTr _)) (.cons (h4.keep s5.kt (nol_dTr _)) .nil))))
def zhi (K:W.Frag):Sp:=fun vs H Q _=>∃(s:Str) (p:Prt),vs=[.str s]∧cp s=cPt p∧NP p∧∀(H':Hp) (v:V),ax H H'→Has K H' (dPt p) v→Q v H'
theorem zga:zaa ["text"] ["text"] (ap s_formed_part):=⟨rfl,rfl,rfl,by decide +kernel,rfl,by decide +kernel,by decide +kernel⟩
theorem l_not:((("not ":Str)).length:Nat)=4:=by decide +kernel
theorem c_not:cp "not "=[110,111,116,32]:=by decide +kernel
theorem c_note:cp "not = "=[110,111,116,32,61,32]:=by decide +kernel
set_option maxHeartbeats 1000000 in
theorem ok_fpart (F:Fun K "formed_part" "formed_part" s_formed_part f fd) (Z:TxC K mg CU) (BA:FB P w K mg base CX0 46 "formed_atom" fA dA' ["text"] (zhj K)):FnOk P w K mg base CX0 47 f fd ["text"] (zhi K):=by
 refine F.ok zga (fun vs H Q E h=>?_) (fun cdv A outer s H vs Q E hr h=>?_)
 ·obtain⟨s,p,rfl,_⟩:=h
  rfl
 obtain⟨z,p,rfl,hc,np,q⟩:=h
 refine⟨_,(ai (zal (PW.pt (zcJ (zbh (zaL PySem.F.plainAttrs_str PySem.F.slot_str_startswith PySem.F.type_str_startswith zgo (pv 0) (aa aD ac))) (zcY (zbS (zbh (zaL PySem.F.plainAttrs_str PySem.F.slot_str_startswith PySem.F.type_str_startswith zgo (pv 0) (aa aD ac)))))))
   (ak (aE (zak (aa zeM (aa (az BA.ok hr rfl BA.m BA.kp BA.b .nil aF (aa (zbD zem (pv 0) (zbK (zap zbW rfl Z.len PySem.boot_len (aa aD ac))) zca) ac)) ac)))))
   zab)
  (ak (aE (zak (aa zeM (aa (az BA.ok hr rfl BA.m BA.kp BA.b .nil aF (aa (pv 0) ac)) ac)))))),?_⟩
 obtain⟨n,a⟩:=p
 have na:NPA a:=np.a
 have la:(cPA a).length≤900:=np.l
 have fin:∀ {H1:Hp} {v1:V} {l:Addr},ax H H1→Has K H1 (dPA a) v1→H1 l=none→Q (.ref l) (upd H1 l (.tup [V.bl (!n),v1])):=fun {H1 v1 l} s1 h1 hl=>by
  have s2:=ar hl (.tup [V.bl (!n),v1])
  refine q _ _ (s1.trans s2) (Has.tup' (SqT.of ae) (.cons (by simp only[Has]) (.cons (h1.keep s2.kt (zje _)) .nil)))
 refine⟨_,rfl,rfl,z,_,rfl,rfl,_,rfl,?_⟩
 cases n with
 | true =>
  have hc':cp z=[110,111,116,32]++cPA a:=hc
  have e1:Txt.startswith z "not "=true:=(zeb (by decide +kernel)).mpr ⟨cPA a,by rw[c_not];exact hc'⟩
  have e2:Txt.startswith z "not = "=false:=by
   cases e:Txt.startswith z "not = " with
   | false=>rfl
   | true =>
    exfalso
    obtain⟨r,er⟩:=(zeb (by decide +kernel)).mp e
    rw[c_note,hc']at er
    obtain⟨c,r',e',l'⟩:=zjV na
    rw[e']at er
    simp at er
    omega
  rw[e1]
  refine zbj ⟨_,rfl,rfl,z,_,rfl,rfl,_,rfl,?_⟩
  rw[e2]
  refine zbj ⟨_,rfl,_,rfl,sz _ (by rw[l_not];decide),_,rfl,z,rfl,?_,?_⟩
  ·have:=congrArg List.length hc'
   rw[cp_len]at this
   simp at this
   exact szM (by omega)
  have es:cp (Txt.slice z (some (((("not ":Str)).length:Nat):Int)) none)=cPA a:=by
   rw[zee (by omega),l_not,hc']
   rfl
  refine⟨_,a,rfl,es,na,by rw[←cp_len,es];exact la,fun H1 v1 s1 h1=>⟨lS2,fun l hl=>fin s1 h1 hl⟩⟩
 | false =>
  have hc':cp z=cPA a:=hc
  have e1:Txt.startswith z "not "=false:=by
   cases e:Txt.startswith z "not " with
   | false=>rfl
   | true =>
    exfalso
    obtain⟨r,er⟩:=(zeb (by decide +kernel)).mp e
    rw[c_not,hc']at er
    exact no_not na r er
  rw[e1]
  refine za3 (za3 ⟨_,rfl,z,a,rfl,hc',na,by rw[←cp_len,hc'];exact la,fun H1 v1 s1 h1=>⟨lS2,fun l hl=>fin s1 h1 hl⟩⟩)
def zfP (K:W.Frag):Sp:=fun vs H Q _=>∃(s:Str) (r:List Prt),vs=[.str s]∧cp s=cRw r∧(∀ p∈r,NP p)∧r.length≤100∧s.length≤1000000∧∀(H':Hp) (l:Addr) (xs:List V),ax H H'→H l=none→H' l=some (.lst xs)→aj K H' (r.map dPt) xs→Q (.ref l) H'
theorem zgD:zaa ["text"] ["text"] (ap s_formed_row):=⟨rfl,rfl,rfl,by decide +kernel,rfl,by decide +kernel,by decide +kernel⟩
theorem zjF {r:List Prt} (ne:r≠[]) (ok:∀ p∈r,NP p):cRw r≠cp "never":=by
 have e0:cp "never"=[110,101,118,101,114]:=by decide +kernel
 match r,ne,ok with
 | [p],_,ok =>
  have e1:cRw [p]=cPt p:=rfl
  rw[e1]
  have np:=ok p (by simp)
  obtain⟨n,a⟩:=p
  cases n with
  | true=>rw[e0];intro e;simp [cPt]at e
  | false =>
   cases a with
   | plain z=>exact np.a.v
   | same t u =>
    rw[e0]
    intro e
    have:32∈cPt ⟨false,.same t u⟩:=by simp [cPt,cPA]
    rw[e]at this
    exact absurd this (by decide)
 | p :: q :: t,_,_ =>
  rw[e0]
  intro e
  have:32∈cRw (p :: q :: t):=by simp [cRw,jn,sOr]
  rw[e]at this
  exact absurd this (by decide)
set_option maxHeartbeats 1000000 in
theorem ok_frow (F:Fun K "formed_row" "formed_row" s_formed_row f fd) (BP:FB P w K mg base CX0 47 "formed_part" fP dP ["text"] (zhi K)):FnOk P w K mg base CX0 48 f fd ["text"] (zfP K):=by
 refine F.ok zgD (fun vs H Q E h=>?_) (fun cdv A outer s H vs Q E hr h=>?_)
 ·obtain⟨s,r,rfl,_⟩:=h
  rfl
 obtain⟨z,r,rfl,hc,np,r1,lz,q⟩:=h
 refine⟨_,(ai (zal (zac zbu (pv 0) aD (zam _))
   (ak (aE (zaA ac)))
   zab)
  (ak (aE (zbP (N':=["part"]) (ix:=[]) rfl rfl (by decide +kernel) (by decide +kernel) rfl (fun _=>⟨[],zcD (by decide +kernel) (by decide +kernel)⟩) (by decide +kernel) rfl rfl (fun j i h=>by simp at h) (zbL (zaL PySem.F.plainAttrs_str PySem.F.slot_str_split PySem.F.type_str_split zfa (pv 0) (aa aD ac))) (fun _ _ _ _=>(az BP.ok hr rfl BP.m BP.kp BP.b .nil aF (aa (pv 0) ac))))))),?_⟩
 refine⟨_,rfl,rfl,_,rfl,aO (fun c=>?_) (fun c=>?_)⟩
 ·have e:z="never":=by
   have:=of_decide_eq_true c
   injection this
  have er:r=[]:=Classical.byContradiction fun ne=>zjF ne np (by rw[←hc,e])
  subst er
  exact⟨lS0,fun l hl=>q _ l [] (ar hl _) hl ae aj.nil⟩
 ·have ne:r≠[]:=fun e=>c (by
   subst e
   have:z="never":=cp_inj hc
   rw[this]
   exact decide_eq_true rfl)
  have hc':cp z=jn sOr (r.map cPt):=by
   rw[hc]
   unfold cRw
   rw[if_neg (by simpa using ne)]
  have es:=zjE ne np (ps:=r.map fun p=>ofC (cPt p)) (by rw[List.map_map];exact List.map_congr_left fun p _=>zaJ _) hc'
  refine⟨_,rfl,rfl,z,_,rfl,rfl,(by decide +kernel),lz,fun p1 hp1=>?_⟩
  rw[es]
  have s1:=ar hp1 (.lst ((r.map fun p=>ofC (cPt p)).map V.str))
  have n1:=ae (H:=H) (a:=p1) (o:=.lst ((r.map fun p=>ofC (cPt p)).map V.str))
  generalize upd H p1 (.lst ((r.map fun p=>ofC (cPt p)).map V.str))=H1 at s1 n1
  have xl:((r.map fun p=>ofC (cPt p)).map V.str).length=r.length:=by rw[List.length_map,List.length_map]
  refine⟨p1,rfl,⟨_,SqL.of n1⟩,fun D hD=>?_⟩
  refine zbC zbI (fun i us H'=>ax H1 H'∧aj K H' ((r.take i).map dPt) us) (fun i us H' ⟨s',_⟩=>SqL.of (s' _ _ n1)) ⟨ar hD _,aj.nil⟩ ?_ ?_
  ·rintro i us H8 x H4 hi hly hDs ⟨s4,hus⟩ ⟨rfl,hx⟩
   have hx4:=hx _ (SqL.of (s4 _ _ n1))
   rw[List.map_map,List.getElem?_map]at hx4
   cases er:r[i]? with
   | none=>rw[er]at hx4;cases hx4
   | some p =>
    rw[er]at hx4
    cases hx4
    refine⟨_,rfl,_,p,rfl,zaJ _,np p (List.mem_of_getElem? er),fun H5 v5 s5 h5=>?_⟩
    refine zaY (sz _ (by rw[xl];omega)) hi hly (s5 _ _ hDs) ⟨(s4.trans s5).upd hD,?_⟩
    rw[zaC er,List.map_append]
    have kt:=KeepT.but (o:=.lst (us++[v5])) (s5 _ _ hDs) (fun _ e=>by cases e) (fun _ _ e=>by cases e)
    exact((hus.keep s5.kt (zbt _)).keep kt (zbt _)).append (.cons (h5.keep kt (zjd _)) .nil)
  ·rintro us H4 hDs ⟨s4,hus⟩
   rw[xl,List.take_length]at hus
   exact q _ D us (s1.trans s4) (s1.free hD) hDs hus
end
end C05
namespace K05
open PySem L2
open F05 (Tr dTr aQ)
structure Own (P:Program) (w:World) (K:W.Frag) (mg:Str→Option Value) (base:Heap) (C CN CT CP CM:Addr) (fI fA fQ fS fR:Addr) (dI dA' dQ dS dR':FuncData):Prop where
 I:FnOk P w K mg base CX0 1 fI dI ["self"] (zi5 C)
 bI:ay K dI ["self"] []
 mI:Mk K C fI
 gI:mg "Problem"=some (.ref C)
 A:FnOk P w K mg base (CX1 P w) 4 fA dA' ["self","name","parts"] (spAdd K C CN CT CM)
 bA:ay K dA' ["self","name","parts"] []
 mA:zbk K C "add_term" fA
 Q:FnOk P w K mg base (CX1 P w) 4 fQ dQ ["self","name"] (zh1 K C CN CT CP CM)
 bQ:ay K dQ ["self","name"] []
 mQ:zbk K C "add_plain" fQ
 S:FnOk P w K mg base (CX1 P w) 4 fS dS ["self","one","other"] (zi3 K C CN CT CP CM)
 bS:ay K dS ["self","one","other"] []
 mS:zbk K C "add_same" fS
 R:FnOk P w K mg base (CX1 P w) 4 fR dR' ["self","parts"] (spRow K C CN CT CP CM)
 bR:ay K dR' ["self","parts"] []
 mR:zbk K C "add_row" fR
section
variable {P:Program} {w:World} {K:W.Frag} {mg:Str→Option Value} {base:Heap}
theorem zeN {P:Program} {w:World} {X:Cx}:zbq (CX1 P w) X E0:=fun _ _ _ _ _ _ _ h=>by
 obtain⟨_,_,_,_,_,_,_,_,_,_,_,_,_,hE⟩:=h
 exact hE.elim
end
theorem zhP (tl al rl:Addr):(zbN tl al rl).lookup ("add_term":Str)=none:=zcc _ _ _ (by decide +kernel) (by decide +kernel) (by decide +kernel)
theorem zhN (tl al rl:Addr):(zbN tl al rl).lookup ("add_plain":Str)=none:=zcc _ _ _ (by decide +kernel) (by decide +kernel) (by decide +kernel)
theorem zhQ (tl al rl:Addr):(zbN tl al rl).lookup ("add_same":Str)=none:=zcc _ _ _ (by decide +kernel) (by decide +kernel) (by decide +kernel)
theorem zfD (tl al rl:Addr):(zbN tl al rl).lookup ("add_row":Str)=none:=zcc _ _ _ (by decide +kernel) (by decide +kernel) (by decide +kernel)
mutual
def ad (T:List Tm):Tr→List Tm × Nat
 | .node n ts=>(if(n,(av T ts).2)∈(av T ts).1 then(av T ts).1 else(av T ts).1++[(n,(av T ts).2)],(av T ts).1.idxOf (n,(av T ts).2))
def av (T:List Tm):List Tr→List Tm × List Int
 | []=>(T,[])
 | t :: ts=>((av (ad T t).1 ts).1,((ad T t).2:Int) :: (av (ad T t).1 ts).2)
end
mutual
def GTr:Tr→Prop
 | .node n ts=>za0 n=true∧Low n∧ts.length≤3∧ze2 ts
def ze2:List Tr→Prop
 | []=>True
 | t :: ts=>GTr t∧ze2 ts
end
theorem zhI:∀ {ts:List Tr},ze2 ts→∀ t∈ts,GTr t
 | t :: ts,h,u,hu=>by
  simp only[ze2]at h
  rcases List.mem_cons.mp hu with rfl | hu
  ·exact h.1
  ·exact zhI h.2 u hu
theorem zgz (T:List Tm):∀(xs ys:List Tr),av T (xs++ys)=((av (av T xs).1 ys).1,(av T xs).2++(av (av T xs).1 ys).2):=fun xs=>by
 induction xs generalizing T with
 | nil=>intro ys;rfl
 | cons t xs ih =>
  intro ys
  rw[List.cons_append]
  simp only[av,ih,List.cons_append]
theorem zb1 {T:List Tm} {ts:List Tr} {i:Nat} {t:Tr} (h:ts[i]?=some t):av T (ts.take (i+1))=((ad (av T (ts.take i)).1 t).1,(av T (ts.take i)).2++[((ad (av T (ts.take i)).1 t).2:Int)]):=by
 rw[zaC h,zgz]
 simp only[av]
theorem zgx (T:List Tm):∀ ts:List Tr,(av T ts).2.length=ts.length:=fun ts=>by
 induction ts generalizing T with
 | nil=>rfl
 | cons t ts ih=>simp only[av,List.length_cons,ih]
mutual
theorem zdb (T:List Tm):∀ t:Tr,∃ more,(ad T t).1=T++more∧(ad T t).2 < (ad T t).1.length
 | .node n ts=>by
  obtain⟨m,e,_⟩:=zci T ts
  simp only[ad]
  by_cases c:(n,(av T ts).2)∈(av T ts).1
  ·rw[if_pos c]
   exact⟨m,e,List.idxOf_lt_length_of_mem c⟩
  ·rw[if_neg c,List.idxOf_eq_length c]
   exact⟨m++[(n,(av T ts).2)],by rw[e,List.append_assoc],by rw[List.length_append];exact Nat.lt_succ_self _⟩
theorem zci (T:List Tm):∀ ts:List Tr,∃ more,(av T ts).1=T++more∧∀ k∈(av T ts).2,0≤k∧k < ((av T ts).1.length:Int)
 | []=>⟨[],by simp [av],by simp [av]⟩
 | t :: ts=>by
  obtain⟨m1,e1,l1⟩:=zdb T t
  obtain⟨m2,e2,l2⟩:=zci (ad T t).1 ts
  simp only[av]
  refine⟨m1++m2,by rw[e2,e1,List.append_assoc],fun k hk=>?_⟩
  rcases List.mem_cons.mp hk with rfl | hk
  ·rw[e2,List.length_append]
   omega
  ·exact l2 k hk
end
theorem zkM (T:List Tm) (ts:List Tr) (i:Nat):(av T (ts.take i)).1.length≤(av T ts).1.length:=by
 have:av T ts=av T (ts.take i++ts.drop i):=by rw[List.take_append_drop]
 rw[this,zgz]
 obtain⟨m,e,_⟩:=zci (av T (ts.take i)).1 (ts.drop i)
 rw[e,List.length_append]
 omega
theorem zlB (T:List Tm) (n:Str) (ts:List Tr):(av T ts).1.length≤(ad T (.node n ts)).1.length:=by
 simp only[ad]
 split
 ·exact Nat.le_refl _
 ·rw[List.length_append];omega
section
variable {P:Program} {w:World} {K:W.Frag} {mg:Str→Option Value} {base:Heap} {aK C CN CT CP CM:Addr} {f:Addr} {fd:FuncData} {fI fA fQ fS fR:Addr} {dI dA' dQ dS dR':FuncData}
def zed (K:W.Frag) (C CM:Addr) (n:Nat):Sp:=fun vs H Q E=>∃(p tl al rl:Addr) (T:List Tm) (As:List At) (Rs:List (List Int)) (t:Tr) (v:V),vs=[.ref p,v]∧zat K C H p tl al rl T As Rs∧Has K H (dTr t) v∧F05.dp t≤n∧GTr t∧T.length≤60 ∧
 ((ad T t).1.length≤60→∀ H',zat K C H' p tl al rl (ad T t).1 As Rs→Fr1 H H' tl→Q (.int ((ad T t).2:Nat)) H')∧(60 < (ad T t).1.length→∀ H',Fr1 H H' tl→E (.ref CM) none H')
theorem zeX:zaa ["problem","tree","numbers"] ["problem","tree"] (ap zcW):=⟨rfl,rfl,rfl,by decide +kernel,rfl,by decide +kernel,by decide +kernel⟩
set_option maxHeartbeats 1000000 in
theorem zfB (F:Fun K "add_tree" "add_tree" zcW f fd) (T:Txt K mg aK C CN CT CP CM) (G:Own P w K mg base C CN CT CP CM fI fA fQ fS fR dI dA' dQ dS dR') (b:ay K fd ["problem","tree"] []) (kp:W.keepIn K (.ref f)=true) (m:mg "add_tree"=some (.ref f)) :
  ∀ n,FnOk P w K mg base (CX1 P w) (n+5) f fd ["problem","tree"] (zed K C CM n)
 | 0=>F05.FnOk.no fun _ _ _ _ ⟨_,_,_,_,_,_,_,t,_,_,_,_,h,_⟩=>by
  cases t with
  | node n ts=>simp only[F05.dp]at h;omega
 | n+1=>by
  have IH:=zfB F T G b kp m n
  refine Fun.okX F zeX (fun vs H Q E h=>?_) (fun cdv A outer s H vs Q E hr h=>?_)
  ·obtain⟨p,tl,al,rl,T',As,Rs,t,v,rfl,_⟩:=h
   rfl
  obtain⟨p,tl,al,rl,T',As,Rs,t,v,rfl,S,hv,hd,gd,t60,q1,q2⟩:=h
  have hr4:aL 4 _:=hr.mono (by omega)
  cases t with
  | node nm ts =>
  obtain⟨pt,pq,xs,rfl,hpt,hpq,hxs⟩:=F05.tr_at hv
  simp only[GTr]at gd
  obtain⟨g1,g2,g3,g4⟩:=gd
  have gts:=zhI g4
  have dts:∀ u∈ts,F05.dp u≤n:=by
   simp only[F05.dp]at hd
   exact F05.dps_le (by omega)
  refine⟨_,(ai (zjG (i:=2) (N':=["part","problem"]) (ix:=[0]) xe1 zeX.nd rfl (Or.inl rfl) rfl rfl (by decide +kernel) (by decide +kernel) rfl (fun ok=>zb4 (sc:=ap zcW) ok rfl (by decide +kernel) (by decide +kernel)) (by decide +kernel) rfl rfl (fun j i h=>match j,h with | 0,h=>by cases h;exact⟨_,rfl,rfl,.inl rfl,.inl rfl⟩ | n+1,h=>by simp at h) (zdD (aB zah (pv 1) ah (fun _ _=>rfl))) (fun _ _ _ _ _ hp=>(az IH hr rfl m kp b .nil hp (aa (pv 1) (aa (pv 0) ac)))))
   (ak (aE (zaS (pv 0) T.cl G.mA G.A hr4 G.bA .nil (zbM xe1) (aa (aB zah (pv 1) ah (fun _ _=>rfl)) (aa (pv 2) ac)))))),?_⟩
  have at0:atI [V.str nm,V.ref pq] 0=some (.str nm):=zae (j:=0) rfl
  have at1:atI [V.str nm,V.ref pq] 1=some (.ref pq):=zae (j:=1) rfl
  have xl:xs.length=ts.length:=by rw[←hxs.length,F05.dTrs_length]
  obtain⟨⟨dx,ho⟩,⟨tsv,ht,hT⟩,⟨asv,ha,hA⟩,⟨rsv,hrv,hR⟩,na,nr,nx⟩:=id S
  have ktl:∀ {H'},Fr1 H H' tl→KeepT H H':=fun f=>f.keepT ht
  refine⟨_,rfl,pt,_,_,_,rfl,rfl,hpt,at1,pq,rfl,⟨_,hpq⟩,fun D hD=>?_⟩
  have nDt:D≠tl:=Ne.symm (zaj ht hD)
  have nDa:D≠al:=Ne.symm (zaj ha hD)
  have nDr:D≠rl:=Ne.symm (zaj hrv hD)
  refine zbC zdB (fun i us H'=>Fr1 H H' tl∧zat K C H' p tl al rl (av T' (ts.take i)).1 As Rs∧us=(av T' (ts.take i)).2.map V.int∧(av T' (ts.take i)).1.length≤60) (fun i us H' ⟨f1,_⟩=>(ktl f1).sq hpq) ⟨Fr1.of_same (ar hD _),S.same (ar hD _),rfl,t60⟩ ?_ ?_
  ·rintro i us H8 x H4 hi hly hDs ⟨f4,S4,rfl,l4⟩ ⟨rfl,hx⟩
   obtain⟨u,hu,hxu⟩:=F05.trs_get (hxs.keep (ktl f4) (F05.nols_dTrs _)) (hx _ ((ktl f4).sq hpq))
   have um:=List.mem_of_getElem? hu
   have big:=zkM T' ts (i+1)
   rw[zb1 hu]at big
   dsimp only at big
   have big2:=zlB T' nm ts
   refine⟨_,rfl,_,rfl,p,tl,al,rl,_,As,Rs,u,x,rfl,S4,hxu,dts u um,gts u um,l4,fun l5 H5 S5 f5=>?_,fun l5 H5 f5=>q2 (by omega) H5 (f4.trans f5)⟩
   have hD5:=f5 _ _ hDs nDt
   have S6:=fun o'=>S5.keep (z:=D) (H':=upd H5 D o') (fun c o hc hn=>by rw[au hn];exact hc) hD5 nDt nDa nDr
   refine zaY (sz _ (by omega)) hi hly hD5 ⟨fun c o hc hn=>?_,by rw[zb1 hu];exact S6 _,by rw[zb1 hu,List.map_append];rfl,by rw[zb1 hu];exact l5⟩
   rw[au (fun e=>by rw[e,hD]at hc;cases hc)]
   exact f5 _ _ (f4 _ _ hc hn) hn
  ·rintro us H4 hDs ⟨f4,S4,rfl,l4⟩
   rw[xl,List.take_length]at S4 hDs l4
   obtain⟨⟨dx4,ho4⟩,_⟩:=id S4
   obtain⟨mo,em,small⟩:=zci T' ts
   have al3:=zgx T' ts
   refine⟨_,rfl,p,dx4,_,rfl,ho4,zhP _ _ _,_,rfl,pt,_,_,_,rfl,rfl,(ktl f4).sq hpt,at0,_,rfl,p,tl,al,rl,D,_,As,Rs,nm,(av T' ts).2,rfl,⟨S4,.inl (SqL.of hDs),g2,by omega,fun k hk=>by have:=small k hk;omega,by omega⟩,?_⟩
   have nb:bad (av T' ts).1 (av T' ts).2=false:=by
    unfold bad
    rw[decide_eq_false (by omega),Bool.false_or,List.any_eq_false]
    intro k hk
    have:=small k hk
    simp
    omega
   unfold zc2
   rw[g1,if_neg (by decide),nb,if_neg (by decide)]
   by_cases c:(nm,(av T' ts).2)∈(av T' ts).1
   ·rw[if_pos c]
    simp only[ad]at q1
    rw[if_pos c]at q1
    exact fun H5 S5 f5=>q1 l4 H5 S5 (f4.trans f5)
   ·rw[if_neg c]
    simp only[ad]at q1 q2
    rw[if_neg c,List.idxOf_eq_length c]at q1
    rw[if_neg c]at q2
    by_cases c6:60≤(av T' ts).1.length
    ·rw[if_pos c6]
     exact fun H5 s5=>q2 (by rw[List.length_append];exact Nat.lt_succ_of_le c6) H5 (f4.trans (Fr1.of_same s5))
    ·rw[if_neg c6]
     exact fun H5 S5 f5=>q1 (by rw[List.length_append];show _+1≤60;omega) H5 S5 (f4.trans f5)
end
end K05
namespace K05
open PySem L2
open F05 (Tr dTr aQ)
open C05 (PA Prt)
def WT (T:List Tm):Prop:=∀(i:Nat) (n:Str) (ks:List Int),T[i]?=some (n,ks)→∀ k∈ks,0≤k∧k < (i:Int)
theorem WT.nil:WT []:=fun i n ks h=>by simp at h
theorem zaD {α:Type} {A:List α} {x y:α} {i:Nat} (h:(A++[x])[i]?=some y):(A[i]?=some y∧i < A.length)∨(i=A.length∧x=y):=by
 by_cases c:i < A.length
 ·rw[List.getElem?_append_left c]at h
  exact .inl ⟨h,c⟩
 ·have l:=(List.getElem?_eq_some_iff.mp h).1
  simp at l
  have:i=A.length:=by omega
  subst this
  simp at h
  exact .inr ⟨rfl,h⟩
theorem WT.put {T:List Tm} {n:Str} {ks:List Int} (h:WT T) (hk:∀ k∈ks,0≤k∧k < (T.length:Int)):WT (T++[(n,ks)]):=fun i m us e k hu=>by
 rcases zaD e with ⟨e',_⟩ | ⟨rfl,e'⟩
 ·exact h i m us e' k hu
 ·cases e'
  exact hk k hu
mutual
theorem zeU:∀(t:Tr) {T:List Tm},WT T→WT (ad T t).1
 | .node n ts,T,h=>by
  have h1:=zfg ts h
  obtain⟨_,_,hk⟩:=zci T ts
  simp only[ad]
  split
  ·exact h1
  ·exact h1.put hk
theorem zfg:∀(ts:List Tr) {T:List Tm},WT T→WT (av T ts).1
 | [],T,h=>h
 | t :: ts,T,h=>zfg ts (zeU t h)
end
theorem zbE (T:List Tm) (t:Tr):T <+: (ad T t).1:=by
 obtain⟨m,e,_⟩:=zdb T t
 exact⟨m,e.symm⟩
theorem zdq (T:List Tm) (ts:List Tr):T <+: (av T ts).1:=by
 obtain⟨m,e,_⟩:=zci T ts
 exact⟨m,e.symm⟩
theorem zdH {α:Type} {xs ys:List α} {i:Nat} {a:α} (p:xs <+: ys) (h:xs[i]?=some a):ys[i]?=some a:=by
 obtain⟨t,rfl⟩:=p
 rw[List.getElem?_append_left (List.getElem?_eq_some_iff.mp h).1]
 exact h
theorem zcx {α:Type} [BEq α] [LawfulBEq α] {A:List α} {x:α} (h:x∈A):A[A.idxOf x]?=some x:=by
 have l:=List.idxOf_lt_length_of_mem h
 rw[List.getElem?_eq_getElem l,List.getElem_idxOf l]
theorem zlo {α:Type} [BEq α] [LawfulBEq α] {A B:List α} {x:α} (p:A <+: B) (h:x∈A):B.idxOf x=A.idxOf x:=by
 obtain⟨t,rfl⟩:=p
 rw[List.idxOf_append,if_pos h]
theorem zhD {α:Type} [BEq α] [LawfulBEq α] {A B:List α} {x:α} (p:A++[x] <+: B) (h:x∉A):B.idxOf x=A.length:=by
 obtain⟨t,rfl⟩:=p
 rw[List.append_assoc,List.idxOf_append,if_neg h]
 simp
mutual
theorem zaV:∀(t:Tr) {T U:List Tm},(ad T t).1 <+: U→ad U t=(U,(ad T t).2)
 | .node n ts,T,U,p=>by
  simp only[ad]at p ⊢
  by_cases c:(n,(av T ts).2)∈(av T ts).1
  ·rw[if_pos c]at p
   have e:=zdA ts p
   rw[e]
   dsimp only
   rw[if_pos (p.subset c),zlo p c]
  ·rw[if_neg c]at p
   have p1:(av T ts).1 <+: U:=(List.prefix_append _ _).trans p
   have e:=zdA ts p1
   rw[e]
   dsimp only
   rw[if_pos (p.subset (by simp)),zhD p c,List.idxOf_eq_length c]
theorem zdA:∀(ts:List Tr) {T U:List Tm},(av T ts).1 <+: U→av U ts=(U,(av T ts).2)
 | [],T,U,p=>rfl
 | t :: ts,T,U,p=>by
  simp only[av]at p ⊢
  have e1:=zaV t ((zdq (ad T t).1 ts).trans p)
  have e2:=zdA ts p
  rw[e1]
  dsimp only
  rw[e2]
end
mutual
theorem zeG:∀(t:Tr) {T:List Tm},WT T→(ad T t).1=T∨T.length≤(ad T t).2
 | .node n ts,T,h=>by
  have h1:=zfg ts h
  have g:=zfH ts h
  have p:=(zdq T ts).length_le
  simp only[ad]
  by_cases c:(n,(av T ts).2)∈(av T ts).1
  ·rw[if_pos c]
   rcases g with g | ⟨k,hk,lk⟩
   ·exact .inl g
   ·have:=h1 _ _ _ (zcx c) k hk
    exact .inr (by omega)
  ·rw[if_neg c,List.idxOf_eq_length c]
   exact .inr p
theorem zfH:∀(ts:List Tr) {T:List Tm},WT T→(av T ts).1=T∨∃ k∈(av T ts).2,(T.length:Int)≤k
 | [],T,h=>.inl rfl
 | t :: ts,T,h=>by
  simp only[av]
  rcases zeG t h with g | g
  ·rcases zfH ts (zeU t h) with g2 | ⟨k,hk,lk⟩
   ·exact .inl (g2.trans g)
   ·rw[g]at lk
    exact .inr ⟨k,List.mem_cons_of_mem _ hk,lk⟩
  ·exact .inr ⟨_,List.mem_cons_self,by omega⟩
end
structure S5 where
 T:List Tm
 A:List At
 B:List PA
def aPA (s:S5):PA→S5 × Nat
 | .plain z=>if At.plain z∈s.A then(s,s.A.idxOf (.plain z)+1) else(⟨s.T,s.A++[.plain z],s.B++[.plain z]⟩,s.A.length+1)
 | .same t u =>
  if At.same (ad (ad s.T t).1 u).2 (ad s.T t).2∈s.A then(⟨(ad (ad s.T t).1 u).1,s.A,s.B⟩,s.A.idxOf (.same (ad (ad s.T t).1 u).2 (ad s.T t).2)+1)
  else if At.same (ad s.T t).2 (ad (ad s.T t).1 u).2∈s.A then(⟨(ad (ad s.T t).1 u).1,s.A,s.B⟩,s.A.idxOf (.same (ad s.T t).2 (ad (ad s.T t).1 u).2)+1)
  else(⟨(ad (ad s.T t).1 u).1,s.A++[.same (ad s.T t).2 (ad (ad s.T t).1 u).2],s.B++[.same t u]⟩,s.A.length+1)
def aPt (s:S5) (p:Prt):S5 × Int:=((aPA s p.a).1,if p.n=true then -((aPA s p.a).2:Int) else((aPA s p.a).2:Int))
def aRw (s:S5):List Prt→S5 × List Int
 | []=>(s,[])
 | p :: r=>((aRw (aPt s p).1 r).1,(aPt s p).2 :: (aRw (aPt s p).1 r).2)
def aRs (s:S5):List (List Prt)→S5 × List (List Int)
 | []=>(s,[])
 | r :: rs=>((aRs (aRw s r).1 rs).1,aJ [] (aRw s r).2 :: (aRs (aRw s r).1 rs).2)
def s0:S5:=⟨[],[],[]⟩
theorem zea (s:S5) (p:Prt):∀ r:List Prt,aRw s (r++[p])=((aPt (aRw s r).1 p).1,(aRw s r).2++[(aPt (aRw s r).1 p).2]):=fun r=>by
 induction r generalizing s with
 | nil=>rfl
 | cons q r ih=>simp only[List.cons_append,aRw,ih]
theorem zfi (s:S5) (r:List Prt):∀ rs:List (List Prt),aRs s (rs++[r])=((aRw (aRs s rs).1 r).1,(aRs s rs).2++[aJ [] (aRw (aRs s rs).1 r).2]):=fun rs=>by
 induction rs generalizing s with
 | nil=>rfl
 | cons q rs ih=>simp only[List.cons_append,aRs,ih]
structure I5 (s:S5):Prop where
 wt:WT s.T
 lb:s.B.length=s.A.length
 pl:∀(i:Nat) (z:Str),s.A[i]?=some (.plain z)→s.B[i]?=some (.plain z)
 sm:∀(i:Nat) (a b:Int),s.A[i]?=some (.same a b)→∃ t u,s.B[i]?=some (.same t u)∧0≤a∧0≤b∧ad s.T t=(s.T,a.toNat)∧ad s.T u=(s.T,b.toNat)
 nb:∀(i j:Nat) (a b:Int),s.A[i]?=some (.same a b)→(s.A[j]?=some (.same a b)∨s.A[j]?=some (.same b a))→i=j
 np:∀(i j:Nat) (z:Str),s.A[i]?=some (.plain z)→s.A[j]?=some (.plain z)→i=j
theorem I5.nil:I5 s0:=⟨WT.nil,rfl,fun i z h=>by simp [s0]at h,fun i a b h=>by simp [s0]at h,fun i j a b h=>by simp [s0]at h,fun i j z h=>by simp [s0]at h⟩
structure zbl (s s':S5):Prop where
 t:s.T <+: s'.T
 a:s.A <+: s'.A
 b:s.B <+: s'.B
theorem zbl.refl (s:S5):zbl s s:=⟨List.prefix_refl _,List.prefix_refl _,List.prefix_refl _⟩
theorem zbl.trans {s s' s'':S5} (h:zbl s s') (k:zbl s' s''):zbl s s'':=⟨h.t.trans k.t,h.a.trans k.a,h.b.trans k.b⟩
theorem zd9 {T:List Tm} {t:Tr} {k:Nat} (h:ad T t=(T,k)):k < T.length:=by
 obtain⟨_,_,l⟩:=zdb T t
 rw[h]at l
 exact l
theorem zff {T U:List Tm} {t:Tr} {k:Nat} (h:ad T t=(T,k)) (p:T <+: U):ad U t=(U,k):=by
 have:=zaV t (T:=T) (U:=U) (by rw[h];exact p)
 rw[h]at this
 exact this
theorem I5.terms {s:S5} (I:I5 s) {T:List Tm} (p:s.T <+: T) (w:WT T):I5 ⟨T,s.A,s.B⟩ :=
 ⟨w,I.lb,I.pl,fun i a b e=>by
  obtain⟨t,u,h1,h2,h3,h4,h5⟩:=I.sm i a b e
  exact⟨t,u,h1,h2,h3,zff h4 p,zff h5 p⟩,I.nb,I.np⟩
theorem I5.plain {s:S5} (I:I5 s) {z:Str} (h:At.plain z∉s.A):I5 ⟨s.T,s.A++[.plain z],s.B++[.plain z]⟩:=by
 have nin:∀ j:Nat,s.A[j]?≠some (At.plain z):=fun j e=>h (List.mem_of_getElem? e)
 refine⟨I.wt,by simp [I.lb],fun i y e=>?_,fun i a b e=>?_,fun i j a b e f=>?_,fun i j y e f=>?_⟩
 ·rcases zaD e with ⟨e',_⟩ | ⟨rfl,e'⟩
  ·exact zdH (List.prefix_append _ _) (I.pl i y e')
  ·cases e'
   rw[←I.lb]
   simp
 ·rcases zaD e with ⟨e',_⟩ | ⟨rfl,e'⟩
  ·obtain⟨t,u,h1,h2⟩:=I.sm i a b e'
   exact⟨t,u,zdH (List.prefix_append _ _) h1,h2⟩
  ·cases e'
 ·rcases zaD e with ⟨e',_⟩ | ⟨rfl,e'⟩
  ·refine I.nb i j a b e' ?_
   rcases f with f | f
   ·rcases zaD f with ⟨f',_⟩ | ⟨_,f'⟩
    ·exact .inl f'
    ·cases f'
   ·rcases zaD f with ⟨f',_⟩ | ⟨_,f'⟩
    ·exact .inr f'
    ·cases f'
  ·cases e'
 ·rcases zaD e with ⟨e',_⟩ | ⟨ei,e'⟩
  ·rcases zaD f with ⟨f',_⟩ | ⟨_,f'⟩
   ·exact I.np i j y e' f'
   ·cases f'
    exact absurd e' (nin i)
  ·cases e'
   rcases zaD f with ⟨f',_⟩ | ⟨ej,_⟩
   ·exact absurd f' (nin j)
   ·exact ei.trans ej.symm
theorem I5.same {s:S5} (I:I5 s) {t u:Tr} {a b:Nat} (h1:At.same (b:Int) (a:Int)∉s.A) (h2:At.same (a:Int) (b:Int)∉s.A) (ht:ad s.T t=(s.T,a)) (hu:ad s.T u=(s.T,b)):I5 ⟨s.T,s.A++[.same a b],s.B++[.same t u]⟩:=by
 have n1:∀ j:Nat,s.A[j]?≠some (At.same (b:Int) (a:Int)):=fun j e=>h1 (List.mem_of_getElem? e)
 have n2:∀ j:Nat,s.A[j]?≠some (At.same (a:Int) (b:Int)):=fun j e=>h2 (List.mem_of_getElem? e)
 refine⟨I.wt,by simp [I.lb],fun i y e=>?_,fun i c d e=>?_,fun i j c d e f=>?_,fun i j y e f=>?_⟩
 ·rcases zaD e with ⟨e',_⟩ | ⟨rfl,e'⟩
  ·exact zdH (List.prefix_append _ _) (I.pl i y e')
  ·cases e'
 ·rcases zaD e with ⟨e',_⟩ | ⟨rfl,e'⟩
  ·obtain⟨t,u,h1,h2⟩:=I.sm i c d e'
   exact⟨t,u,zdH (List.prefix_append _ _) h1,h2⟩
  ·cases e'
   refine⟨t,u,?_,by omega,by omega,by rw[Int.toNat_natCast];exact ht,by rw[Int.toNat_natCast];exact hu⟩
   rw[←I.lb]
   simp
 ·rcases zaD e with ⟨e',_⟩ | ⟨ei,e'⟩
  ·rcases f with f | f
   ·rcases zaD f with ⟨f',_⟩ | ⟨_,f'⟩
    ·exact I.nb i j c d e' (.inl f')
    ·cases f'
     exact absurd e' (n2 i)
   ·rcases zaD f with ⟨f',_⟩ | ⟨_,f'⟩
    ·exact I.nb i j c d e' (.inr f')
    ·cases f'
     exact absurd e' (n1 i)
  ·cases e'
   rcases f with f | f
   ·rcases zaD f with ⟨f',_⟩ | ⟨ej,_⟩
    ·exact absurd f' (n2 j)
    ·exact ei.trans ej.symm
   ·rcases zaD f with ⟨f',_⟩ | ⟨ej,_⟩
    ·exact absurd f' (n1 j)
    ·exact ei.trans ej.symm
 ·rcases zaD e with ⟨e',_⟩ | ⟨_,e'⟩
  ·rcases zaD f with ⟨f',_⟩ | ⟨_,f'⟩
   ·exact I.np i j y e' f'
   ·cases f'
  ·cases e'
structure Rd (s:S5) (a:PA) (x:S5 × Nat):Prop where
 inv:I5 x.1
 ex:zbl s x.1
 k1:1≤x.2
 k2:x.2≤x.1.A.length
 old:x.2≤s.A.length→x.1=s
 ag:∃ p,x.1.B[x.2 - 1]?=some p∧aPA s p=x
theorem zcK {s:S5} (I:I5 s) (a:PA):Rd s a (aPA s a):=by
 cases a with
 | plain z =>
  by_cases c:At.plain z∈s.A
  ·have e:aPA s (.plain z)=(s,s.A.idxOf (.plain z)+1):=by simp only[aPA,if_pos c]
   have l:=List.idxOf_lt_length_of_mem c
   rw[e]
   exact⟨I,zbl.refl _,by simp,by dsimp only;omega,fun _=>rfl,.plain z,I.pl _ _ (zcx c),e⟩
  ·have e:aPA s (.plain z)=(⟨s.T,s.A++[.plain z],s.B++[.plain z]⟩,s.A.length+1):=by simp only[aPA,if_neg c]
   rw[e]
   refine⟨I.plain c,⟨List.prefix_refl _,List.prefix_append _ _,List.prefix_append _ _⟩,by simp,by simp,fun h=>by dsimp only at h;omega,.plain z,?_,e⟩
   dsimp only
   rw[Nat.add_sub_cancel,←I.lb]
   simp
 | same t u =>
  have w1:=zeU t I.wt
  have w2:=zeU u w1
  have p1:=zbE s.T t
  have p2:=zbE (ad s.T t).1 u
  have ht:=zaV t p2
  have hu:=zaV u (List.prefix_refl (ad (ad s.T t).1 u).1)
  have I1:=I.terms (p1.trans p2) w2
  have oldT:∀ {j:Nat} {c d:Int},s.A[j]?=some (.same c d)→(c=((ad s.T t).2:Int)∧d=((ad (ad s.T t).1 u).2:Int))∨(c=((ad (ad s.T t).1 u).2:Int)∧d=((ad s.T t).2:Int))→(ad s.T t).1=s.T∧(ad (ad s.T t).1 u).1=s.T:=fun {j c d} e h=>by
   obtain⟨t',u',_,_,_,h4,h5⟩:=I.sm j c d e
   have l4:=zd9 h4
   have l5:=zd9 h5
   have g1:(ad s.T t).1=s.T:=by
    rcases zeG t I.wt with g | g
    ·exact g
    ·rcases h with ⟨h1,h2⟩ | ⟨h1,h2⟩ <;> omega
   refine⟨g1,?_⟩
   rcases zeG u w1 with g | g
   ·exact g.trans g1
   ·have e1:(ad s.T t).1.length=s.T.length:=by rw[g1]
    rcases h with ⟨h1,h2⟩ | ⟨h1,h2⟩ <;> omega
  by_cases c1:At.same ((ad (ad s.T t).1 u).2:Int) ((ad s.T t).2:Int)∈s.A
  ·have e:aPA s (.same t u)=(⟨(ad (ad s.T t).1 u).1,s.A,s.B⟩,s.A.idxOf (.same ((ad (ad s.T t).1 u).2:Int) ((ad s.T t).2:Int))+1):=by simp only[aPA,if_pos c1]
   have gi:=zcx c1
   have l:=List.idxOf_lt_length_of_mem c1
   obtain⟨o1,o2⟩:=oldT gi (.inr ⟨rfl,rfl⟩)
   obtain⟨t',u',b1,_,_,b4,b5⟩:=I.sm _ _ _ gi
   rw[Int.toNat_natCast]at b4 b5
   have es:(⟨(ad (ad s.T t).1 u).1,s.A,s.B⟩:S5)=s:=by rw[o2]
   rw[es]at e
   rw[e]
   refine⟨I,zbl.refl _,by simp,by dsimp only;omega,fun _=>rfl,.same t' u',b1,?_⟩
   simp only[aPA]
   rw[b4]
   dsimp only
   rw[b5]
   dsimp only
   by_cases c2:At.same ((ad s.T t).2:Int) ((ad (ad s.T t).1 u).2:Int)∈s.A
   ·rw[if_pos c2]
    have:=I.nb _ _ _ _ gi (.inr (zcx c2))
    rw[this]
   ·rw[if_neg c2,if_pos c1]
  ·by_cases c2:At.same ((ad s.T t).2:Int) ((ad (ad s.T t).1 u).2:Int)∈s.A
   ·have e:aPA s (.same t u)=(⟨(ad (ad s.T t).1 u).1,s.A,s.B⟩,s.A.idxOf (.same ((ad s.T t).2:Int) ((ad (ad s.T t).1 u).2:Int))+1):=by simp only[aPA,if_neg c1,if_pos c2]
    have gi:=zcx c2
    have l:=List.idxOf_lt_length_of_mem c2
    obtain⟨o1,o2⟩:=oldT gi (.inl ⟨rfl,rfl⟩)
    obtain⟨t',u',b1,_,_,b4,b5⟩:=I.sm _ _ _ gi
    rw[Int.toNat_natCast]at b4 b5
    have es:(⟨(ad (ad s.T t).1 u).1,s.A,s.B⟩:S5)=s:=by rw[o2]
    rw[es]at e
    rw[e]
    refine⟨I,zbl.refl _,by simp,by dsimp only;omega,fun _=>rfl,.same t' u',b1,?_⟩
    simp only[aPA]
    rw[b4]
    dsimp only
    rw[b5]
    dsimp only
    rw[if_neg c1,if_pos c2]
   ·have e:aPA s (.same t u)=(⟨(ad (ad s.T t).1 u).1,s.A++[.same ((ad s.T t).2:Int) ((ad (ad s.T t).1 u).2:Int)],s.B++[.same t u]⟩,s.A.length+1):=by simp only[aPA,if_neg c1,if_neg c2]
    have hut:ad (ad (ad s.T t).1 u).1 u=((ad (ad s.T t).1 u).1,(ad (ad s.T t).1 u).2):=hu
    have I2:=I1.same (t:=t) (u:=u) c1 c2 ht hut
    rw[e]
    refine⟨I2,⟨p1.trans p2,List.prefix_append _ _,List.prefix_append _ _⟩,by simp,by simp,fun h=>by dsimp only at h;omega,.same t u,?_,e⟩
    dsimp only
    rw[Nat.add_sub_cancel,←I.lb]
    simp
end K05
namespace K05
open PySem L2
open F05 (Tr dTr aQ)
open C05 (PA Prt)
def bk (s:S5) (k:Int):Prt:=⟨decide (k < 0),(s.B[k.natAbs - 1]?).getD (.plain "")⟩
theorem ziE {s:S5} (I:I5 s) (p:Prt):1≤(aPt s p).2.natAbs∧(aPt s p).2.natAbs≤(aPt s p).1.A.length∧(aPt s p).2.natAbs=(aPA s p.a).2∧decide ((aPt s p).2 < 0)=p.n:=by
 have r:=zcK I p.a
 have k1:=r.k1
 have k2:=r.k2
 unfold aPt
 dsimp only
 cases p.n with
 | true=>rw[if_pos rfl];exact⟨by omega,by omega,by omega,decide_eq_true (by omega)⟩
 | false=>rw[if_neg (by decide)];exact⟨by omega,by omega,by omega,decide_eq_false (by omega)⟩
theorem zgY {s:S5} (I:I5 s) (p:Prt):I5 (aPt s p).1∧zbl s (aPt s p).1:=⟨(zcK I p.a).inv,(zcK I p.a).ex⟩
theorem aPt_bk {s s':S5} (I:I5 s) (p:Prt) (e:zbl (aPt s p).1 s'):aPt s (bk s' (aPt s p).2)=aPt s p:=by
 obtain⟨k1,k2,k3,k4⟩:=ziE I p
 obtain⟨q,hq,aq⟩:=(zcK I p.a).ag
 have hq':s'.B[(aPt s p).2.natAbs - 1]?=some q:=by
  rw[k3]
  exact zdH e.b hq
 unfold bk
 rw[k4,hq']
 unfold aPt
 dsimp only [Option.getD_some]
 rw[aq]
theorem zlG {s:S5} (I:I5 s) (p:Prt) (h:(aPt s p).2.natAbs≤s.A.length):(aPt s p).1=s:=by
 obtain⟨_,_,k3,_⟩:=ziE I p
 exact(zcK I p.a).old (by omega)
theorem zc6 {s:S5} (I:I5 s):∀ r:List Prt,I5 (aRw s r).1∧zbl s (aRw s r).1∧∀ k∈(aRw s r).2,1≤k.natAbs∧k.natAbs≤(aRw s r).1.A.length:=fun r=>by
 induction r generalizing s with
 | nil=>exact⟨I,zbl.refl _,fun k hk=>nomatch hk⟩
 | cons p r ih =>
  obtain⟨I1,e1⟩:=zgY I p
  obtain⟨I2,e2,k2⟩:=ih I1
  obtain⟨a1,a2,_,_⟩:=ziE I p
  refine⟨I2,e1.trans e2,fun k hk=>?_⟩
  simp only[aRw]at hk
  rcases List.mem_cons.mp hk with rfl | hk
  ·have:=e2.a.length_le
   exact⟨a1,Nat.le_trans a2 this⟩
  ·exact k2 k hk
theorem zeB (k:Int):∀(ps acc:List Int),aJ acc (ps++[k])=if k∈aJ acc ps then aJ acc ps else aJ acc ps++[k]
 | [],acc=>rfl
 | p :: ps,acc=>by
  simp only[List.cons_append,aJ]
  exact zeB k ps _
theorem zc8 (q:Int):∀(ps acc:List Int),q∈aJ acc ps↔q∈acc∨q∈ps
 | [],acc=>by simp [aJ]
 | p :: ps,acc=>by
  unfold aJ
  rw[zc8 q ps]
  split
  ·next c =>
   constructor
   ·rintro (h | h)
    ·exact .inl h
    ·exact .inr (List.mem_cons_of_mem _ h)
   ·rintro (h | h)
    ·exact .inl h
    ·rcases List.mem_cons.mp h with rfl | h
     ·exact .inl c
     ·exact .inr h
  ·rw[List.mem_append,List.mem_singleton,List.mem_cons,or_assoc]
theorem zfU:∀(ps acc:List Int),acc.Nodup→(aJ acc ps).Nodup
 | [],acc,h=>h
 | p :: ps,acc,h=>by
  unfold aJ
  refine zfU ps _ ?_
  split
  ·exact h
  ·next c=>exact List.nodup_append.mpr ⟨h,by simp,fun a ha b hb=>by rw[List.mem_singleton.mp hb];exact fun e=>c (e ▸ ha)⟩
theorem zgm:∀(ps acc:List Int),(acc++ps).Nodup→aJ acc ps=acc++ps
 | [],acc,h=>by simp [aJ]
 | p :: ps,acc,h=>by
  unfold aJ
  have n:p∉acc:=fun hp=>by
   have:=(List.nodup_append.mp h).2.2 p hp p (by simp)
   exact this rfl
  rw[if_neg n,zgm ps (acc++[p]) (by rw[List.append_assoc];exact h),List.append_assoc]
  rfl
theorem ziM (ps:List Int):aJ [] (aJ [] ps)=aJ [] ps:=zgm _ [] (by rw[List.nil_append];exact zfU ps [] List.nodup_nil)
theorem zjx {s:S5} (I:I5 s):∀(n:Nat) (r:List Prt),r.length=n→∀ {s':S5},zbl (aRw s r).1 s'→aRw s ((aJ [] (aRw s r).2).map (bk s'))=((aRw s r).1,aJ [] (aRw s r).2)
 | 0,r,hn,s',e=>by
  rw[List.length_eq_zero_iff.mp hn]
  rfl
 | n+1,r,hn,s',e=>by
  have hne:r≠[]:=fun z=>by rw[z]at hn;simp at hn
  obtain⟨q,p,rfl⟩:∃ q p,r=q++[p]:=⟨r.dropLast,r.getLast hne,(List.dropLast_concat_getLast hne).symm⟩
  have hq:q.length=n:=by simp at hn;exact hn
  obtain⟨I1,e1,k1⟩:=zc6 I q
  obtain⟨I2,e2⟩:=zgY I1 p
  rw[zea]at e ⊢
  dsimp only at e ⊢
  have ih:=zjx I n q hq (e2.trans e)
  rw[zeB]
  by_cases c:(aPt (aRw s q).1 p).2∈aJ [] (aRw s q).2
  ·rw[if_pos c,ih]
   have c':(aPt (aRw s q).1 p).2∈(aRw s q).2:=by simpa using (zc8 _ _ _).mp c
   rw[zlG I1 p (k1 _ c').2]
  ·rw[if_neg c,List.map_append,List.map_cons,List.map_nil,zea,ih]
   dsimp only
   rw[aPt_bk I1 p e]
theorem zc7 {s:S5} (I:I5 s):∀ rs:List (List Prt),I5 (aRs s rs).1∧zbl s (aRs s rs).1∧∀ r∈(aRs s rs).2,r.Nodup∧∀ k∈r,1≤k.natAbs∧k.natAbs≤(aRs s rs).1.A.length:=fun rs=>by
 induction rs generalizing s with
 | nil=>exact⟨I,zbl.refl _,fun r hr=>nomatch hr⟩
 | cons r rs ih =>
  obtain⟨I1,e1,k1⟩:=zc6 I r
  obtain⟨I2,e2,k2⟩:=ih I1
  refine⟨I2,e1.trans e2,fun r' hr=>?_⟩
  simp only[aRs]at hr
  rcases List.mem_cons.mp hr with rfl | hr
  ·refine⟨zfU _ _ List.nodup_nil,fun k hk=>?_⟩
   have:=k1 k (by simpa using (zc8 _ _ _).mp hk)
   have:=e2.a.length_le
   simp only[aRs]
   omega
  ·exact k2 r' hr
theorem aRs_bk {s:S5} (I:I5 s):∀(rs:List (List Prt)) {s':S5},zbl (aRs s rs).1 s'→aRs s ((aRs s rs).2.map fun r=>r.map (bk s'))=((aRs s rs).1,(aRs s rs).2):=fun rs=>by
 induction rs generalizing s with
 | nil=>intro s' e;rfl
 | cons r rs ih =>
  intro s' e
  obtain⟨I1,e1,k1⟩:=zc6 I r
  obtain⟨I2,e2,k2⟩:=zc7 I1 rs
  simp only[aRs,List.map_cons]at e ⊢
  rw[zjx I _ r rfl (e2.trans e)]
  dsimp only
  rw[ih I1 e,ziM]
theorem aPA_B {s:S5} (a:PA):∀ q∈(aPA s a).1.B,q∈s.B∨q=a:=fun q hq=>by
 cases a with
 | plain z =>
  simp only[aPA]at hq
  split at hq
  ·exact .inl hq
  ·rcases List.mem_append.mp hq with h | h
   ·exact .inl h
   ·exact .inr (List.mem_singleton.mp h)
 | same t u =>
  simp only[aPA]at hq
  split at hq
  ·exact .inl hq
  ·split at hq
   ·exact .inl hq
   ·rcases List.mem_append.mp hq with h | h
    ·exact .inl h
    ·exact .inr (List.mem_singleton.mp h)
theorem aRw_B {s:S5}:∀ r:List Prt,∀ q∈(aRw s r).1.B,q∈s.B∨∃ p∈r,q=p.a:=fun r=>by
 induction r generalizing s with
 | nil=>exact fun q hq=>.inl hq
 | cons p r ih =>
  intro q hq
  rcases ih (s:=(aPt s p).1) q hq with h | ⟨p',hp,e⟩
  ·rcases aPA_B p.a q h with h | h
   ·exact .inl h
   ·exact .inr ⟨p,by simp,h⟩
  ·exact .inr ⟨p',List.mem_cons_of_mem _ hp,e⟩
theorem aRs_B {s:S5}:∀ rs:List (List Prt),∀ q∈(aRs s rs).1.B,q∈s.B∨∃ r∈rs,∃ p∈r,q=p.a:=fun rs=>by
 induction rs generalizing s with
 | nil=>exact fun q hq=>.inl hq
 | cons r rs ih =>
  intro q hq
  rcases ih (s:=(aRw s r).1) q hq with h | ⟨r',hr,p,hp,e⟩
  ·rcases aRw_B r q h with h | ⟨p,hp,e⟩
   ·exact .inl h
   ·exact .inr ⟨r,by simp,p,hp,e⟩
  ·exact .inr ⟨r',List.mem_cons_of_mem _ hr,p,hp,e⟩
mutual
def szT:Tr→Nat
 | .node _ ts=>1+aI ts
def aI:List Tr→Nat
 | []=>0
 | t :: ts=>szT t+aI ts
end
mutual
theorem zf6:∀(t:Tr) (T:List Tm),(ad T t).1.length≤T.length+szT t
 | .node n ts,T=>by
  have h:=zd7 ts T
  simp only[ad,szT]
  split
  ·omega
  ·simp only[List.length_append,List.length_singleton];omega
theorem zd7:∀(ts:List Tr) (T:List Tm),(av T ts).1.length≤T.length+aI ts
 | [],T=>by simp [av,aI]
 | t :: ts,T=>by
  have h1:=zf6 t T
  have h2:=zd7 ts (ad T t).1
  simp only[av,aI]
  omega
end
theorem zfn {α:Type} (f g:α→Nat):∀ {L:List α},(∀ x∈L,f x≤g x)→(L.map f).sum≤(L.map g).sum
 | [],_=>Nat.le_refl _
 | x :: L,h=>by
  have h1:=h x (by simp)
  have h2:=zfn f g (L:=L) fun y hy=>h y (List.mem_cons_of_mem _ hy)
  simp only[List.map_cons,List.sum_cons]
  omega
theorem zgN {α:Type} (f g:α→Nat) {d:Nat}:∀ {L:List α} {x:α},x∈L→(∀ y∈L,f y≤g y)→f x+d≤g x→(L.map f).sum+d≤(L.map g).sum
 | y :: L,x,hx,h,hd=>by
  simp only[List.map_cons,List.sum_cons]
  rcases List.mem_cons.mp hx with rfl | hx
  ·have:=zfn f g (L:=L) fun z hz=>h z (List.mem_cons_of_mem _ hz)
   omega
  ·have h1:=h y (by simp)
   have h2:=zgN f g (L:=L) hx (fun z hz=>h z (List.mem_cons_of_mem _ hz)) hd
   omega
def inT (T:List Tm) (t:Tr):Nat:=if(ad T t).1=T then szT t else 0
theorem zkA {T U:List Tm} (p:T <+: U) (t:Tr):inT T t≤inT U t:=by
 unfold inT
 split
 ·next c =>
  have:=zaV t (T:=T) (U:=U) (by rw[c];exact p)
  rw[if_pos (by rw[this])]
  exact Nat.le_refl _
 ·exact Nat.zero_le _
def TIn (L:List Tr) (T:List Tm):Prop:=T.length≤(L.map (inT T)).sum
theorem TIn.nil (L:List Tr):TIn L []:=Nat.zero_le _
theorem TIn.put {L:List Tr} {T:List Tm} {t:Tr} (h:TIn L T) (ht:t∈L):TIn L (ad T t).1:=by
 unfold TIn at h ⊢
 by_cases c:(ad T t).1=T
 ·rw[c]
  exact h
 ·have p:=zbE T t
  have e:ad (ad T t).1 t=((ad T t).1,(ad T t).2):=zaV t (List.prefix_refl _)
  have:=zgN (inT T) (inT (ad T t).1) (d:=szT t) ht (fun y _=>zkA p y) (by
   unfold inT
   rw[if_neg c,if_pos (by rw[e]),Nat.zero_add]
   exact Nat.le_refl _)
  have:=zf6 t T
  omega
theorem TIn.len {L:List Tr} {T:List Tm} (h:TIn L T):T.length≤(L.map szT).sum:=by
 refine Nat.le_trans h (zfn _ _ fun t _=>?_)
 unfold inT
 split
 ·exact Nat.le_refl _
 ·exact Nat.zero_le _
def zbJ (L:List Tr):PA→Prop
 | .plain _=>True
 | .same t u=>t∈L∧u∈L
theorem aPA_T {L:List Tr} {s:S5} {a:PA} (h:TIn L s.T) (ha:zbJ L a):TIn L (aPA s a).1.T:=by
 cases a with
 | plain z =>
  simp only[aPA]
  split <;> exact h
 | same t u =>
  have:=(h.put ha.1).put ha.2
  simp only[aPA]
  split
  ·exact this
  ·split <;> exact this
theorem aRs_T {L:List Tr}:∀(rs:List (List Prt)) {s:S5},TIn L s.T→(∀ r∈rs,∀ p∈r,zbJ L p.a)→TIn L (aRs s rs).1.T:=fun rs=>by
 have row:∀(r:List Prt) {s:S5},TIn L s.T→(∀ p∈r,zbJ L p.a)→TIn L (aRw s r).1.T:=fun r=>by
  induction r with
  | nil=>intro s h _;exact h
  | cons p r ih=>intro s h hp;exact ih (s:=(aPt s p).1) (aPA_T h (hp p (by simp))) fun q hq=>hp q (List.mem_cons_of_mem _ hq)
 induction rs with
 | nil=>intro s h _;exact h
 | cons r rs ih=>intro s h hp;exact ih (s:=(aRw s r).1) (row r h (hp r (by simp))) fun q hq=>hp q (List.mem_cons_of_mem _ hq)
def inA (s:S5) (a:PA):Nat:=if(aPA s a).2≤s.A.length then 1 else 0
theorem zkB {s s':S5} (I:I5 s) (e:zbl s s') (a:PA):inA s a≤inA s' a:=by
 unfold inA
 split
 ·next c =>
  have r:=zcK I a
  have eo:=r.old c
  have el:=e.a.length_le
  have le:(aPA s' a).2≤s'.A.length:=by
   cases a with
   | plain z =>
    by_cases d:At.plain z∈s.A
    ·have d':=e.a.subset d
     have:=List.idxOf_lt_length_of_mem d'
     simp only[aPA,if_pos d']
     omega
    ·simp only[aPA,if_neg d]at c
     omega
   | same t u =>
    have tt:(ad (ad s.T t).1 u).1=s.T:=by
     have:=congrArg S5.T eo
     simp only[aPA]at this
     split at this
     ·exact this
     ·split at this
      ·exact this
      ·exact this
    have t1:(ad s.T t).1=s.T:=by
     have p1:=zbE s.T t
     have p2:=zbE (ad s.T t).1 u
     rw[tt]at p2
     exact(p1.eq_of_length (by have:=p1.length_le;have:=p2.length_le;omega)).symm
    have at1:=zaV t (T:=s.T) (U:=s'.T) (by rw[t1];exact e.t)
    have au1:=zaV u (T:=(ad s.T t).1) (U:=s'.T) (by rw[tt];exact e.t)
    by_cases d1:At.same ((ad (ad s.T t).1 u).2:Int) ((ad s.T t).2:Int)∈s.A
    ·have d':=e.a.subset d1
     have:=List.idxOf_lt_length_of_mem d'
     simp only[aPA]
     rw[at1]
     dsimp only
     rw[au1]
     dsimp only
     rw[if_pos d']
     dsimp only
     omega
    ·by_cases d2:At.same ((ad s.T t).2:Int) ((ad (ad s.T t).1 u).2:Int)∈s.A
     ·have d':=e.a.subset d2
      have l2:=List.idxOf_lt_length_of_mem d'
      simp only[aPA]
      rw[at1]
      dsimp only
      rw[au1]
      dsimp only
      by_cases d3:At.same ((ad (ad s.T t).1 u).2:Int) ((ad s.T t).2:Int)∈s'.A
      ·have:=List.idxOf_lt_length_of_mem d3
       rw[if_pos d3]
       dsimp only
       omega
      ·rw[if_neg d3,if_pos d']
       dsimp only
       omega
     ·simp only[aPA,if_neg d1,if_neg d2]at c
      omega
  rw[if_pos le]
  exact Nat.le_refl _
 ·exact Nat.zero_le _
def AIn (L:List PA) (s:S5):Prop:=s.A.length≤(L.map (inA s)).sum
theorem AIn.nil (L:List PA):AIn L s0:=Nat.zero_le _
theorem zlH {s:S5} (a:PA):(aPA s a).1.A.length≤s.A.length+1:=by
 cases a with
 | plain z=>simp only[aPA];split <;> simp
 | same t u =>
  simp only[aPA]
  split
  ·simp
  ·split <;> simp
theorem AIn.put {L:List PA} {s:S5} (I:I5 s) {a:PA} (h:AIn L s) (ha:a∈L):AIn L (aPA s a).1:=by
 have r:=zcK I a
 unfold AIn at h ⊢
 by_cases c:(aPA s a).2≤s.A.length
 ·rw[r.old c]
  exact h
 ·have m:=zgN (inA s) (inA (aPA s a).1) (d:=1) ha (fun y _=>zkB I r.ex y) (by
   unfold inA
   rw[if_neg c]
   have r2:=zcK r.inv a
   obtain⟨q,hq,aq⟩:=r.ag
   have:(aPA (aPA s a).1 a).2≤(aPA s a).1.A.length:=by
    cases a with
    | plain z =>
     have mem:At.plain z∈(aPA s (.plain z)).1.A:=by
      simp only[aPA]
      split
      ·next d=>exact d
      ·simp
     have l:=List.idxOf_lt_length_of_mem mem
     generalize (aPA s (.plain z)).1=s1 at mem l
     simp only[aPA,if_pos mem]
     omega
    | same t u =>
     by_cases d1:At.same ((ad (ad s.T t).1 u).2:Int) ((ad s.T t).2:Int)∈s.A
     ·exfalso
      have:=List.idxOf_lt_length_of_mem d1
      simp only[aPA,if_pos d1]at c
      omega
     ·by_cases d2:At.same ((ad s.T t).2:Int) ((ad (ad s.T t).1 u).2:Int)∈s.A
      ·exfalso
       have:=List.idxOf_lt_length_of_mem d2
       simp only[aPA,if_neg d1,if_pos d2]at c
       omega
      ·have e:aPA s (.same t u)=(⟨(ad (ad s.T t).1 u).1,s.A++[.same ((ad s.T t).2:Int) ((ad (ad s.T t).1 u).2:Int)],s.B++[.same t u]⟩,s.A.length+1):=by simp only[aPA,if_neg d1,if_neg d2]
       have at1:=zaV t (T:=s.T) (U:=(ad (ad s.T t).1 u).1) (zbE _ _)
       have au1:=zaV u (T:=(ad s.T t).1) (U:=(ad (ad s.T t).1 u).1) (List.prefix_refl _)
       rw[e]
       have mem:At.same ((ad s.T t).2:Int) ((ad (ad s.T t).1 u).2:Int)∈s.A++[At.same ((ad s.T t).2:Int) ((ad (ad s.T t).1 u).2:Int)]:=by simp
       have l:=List.idxOf_lt_length_of_mem mem
       show(aPA _ (.same t u)).2≤(s.A++[At.same ((ad s.T t).2:Int) ((ad (ad s.T t).1 u).2:Int)]).length
       simp only[aPA]
       rw[at1]
       dsimp only
       rw[au1]
       dsimp only
       by_cases d3:At.same ((ad (ad s.T t).1 u).2:Int) ((ad s.T t).2:Int)∈s.A++[At.same ((ad s.T t).2:Int) ((ad (ad s.T t).1 u).2:Int)]
       ·have:=List.idxOf_lt_length_of_mem d3
        rw[if_pos d3]
        dsimp only
        omega
       ·rw[if_neg d3,if_pos mem]
        dsimp only
        omega
   rw[if_pos this]
   exact Nat.le_refl _)
  have:=zlH (s:=s) a
  omega
theorem AIn.len {L:List PA} {s:S5} (h:AIn L s):s.A.length≤L.length:=by
 refine Nat.le_trans h ?_
 have:=zfn (inA s) (fun _=>1) (L:=L) fun a _=>by
  unfold inA
  split
  ·exact Nat.le_refl _
  ·exact Nat.zero_le _
 have e:∀ L:List PA,(L.map fun _=>1).sum=L.length:=fun L=>by
  induction L with
  | nil=>rfl
  | cons a L ih=>simp only[List.map_cons,List.sum_cons,ih,List.length_cons];omega
 have:=e L
 omega
theorem aRs_A {L:List PA}:∀(rs:List (List Prt)) {s:S5},I5 s→AIn L s→(∀ r∈rs,∀ p∈r,p.a∈L)→AIn L (aRs s rs).1:=fun rs=>by
 have row:∀(r:List Prt) {s:S5},I5 s→AIn L s→(∀ p∈r,p.a∈L)→AIn L (aRw s r).1:=fun r=>by
  induction r with
  | nil=>intro s _ h _;exact h
  | cons p r ih=>intro s I h hp;exact ih (s:=(aPt s p).1) (zgY I p).1 (h.put I (hp p (by simp))) fun q hq=>hp q (List.mem_cons_of_mem _ hq)
 induction rs with
 | nil=>intro s _ h _;exact h
 | cons r rs ih=>intro s I h hp;exact ih (s:=(aRw s r).1) (zc6 I r).1 (row r I h (hp r (by simp))) fun q hq=>hp q (List.mem_cons_of_mem _ hq)
end K05
namespace K05
open PySem L2
open F05 (Tr dTr aQ)
open C05 (PA Prt dPA dPt cRw NP)
theorem made {K:W.Frag} {C:Addr} {H H1:Hp} {x dx tl al rl:Addr} (hx:H x=none) (hdx:H dx=none) (hne:dx≠x) (h1:(upd (upd H dx (.own x)) x (.ins C dx [])) tl=none) (h2:(upd (upd H dx (.own x)) x (.ins C dx [])) al=none)
  (h3:(upd (upd H dx (.own x)) x (.ins C dx [])) rl=none) (na:al≠tl) (nr:rl≠tl) (nx:rl≠al) (k1:H1 x=some (.ins C dx (zbN tl al rl))) (k2:H1 tl=some (.lst [])) (k3:H1 al=some (.lst [])) (k4:H1 rl=some (.lst []))
  (k5:∀ b o,(upd (upd H dx (.own x)) x (.ins C dx [])) b=some o→b≠x→H1 b=some o):zat K C H1 x tl al rl [] [] []∧ax H H1∧H tl=none∧H al=none∧H rl=none:=by
 have sm:ax H (upd (upd H dx (.own x)) x (.ins C dx [])):=(zaZ hdx _).trans (zaZ (by rw[au hne.symm];exact hx) _)
 exact⟨⟨⟨dx,k1⟩,⟨[],k2,.nil⟩,⟨[],k3,.nil⟩,⟨[],k4,.nil⟩,na,nr,nx⟩,fun b o e=>k5 b o (sm _ _ e) (zaj e hx),sm.free h1,sm.free h2,sm.free h3⟩
def Fr3 (H H':Hp) (tl al rl:Addr):Prop:=∀ b o,H b=some o→b≠tl→b≠al→b≠rl→H' b=some o
theorem Fr3.of_same {H H':Hp} {tl al rl:Addr} (s:ax H H'):Fr3 H H' tl al rl:=fun b o e _ _ _=>s b o e
theorem Fr3.trans {H H' H2:Hp} {tl al rl:Addr} (a:Fr3 H H' tl al rl) (b:Fr3 H' H2 tl al rl):Fr3 H H2 tl al rl:=fun c o e n1 n2 n3=>b c o (a c o e n1 n2 n3) n1 n2 n3
theorem Fr3.of1 {H H':Hp} {tl al rl:Addr} (f:Fr1 H H' tl):Fr3 H H' tl al rl:=fun b o e n _ _=>f b o e n
theorem Fr3.of2 {H H':Hp} {tl al rl:Addr} (f:Fr2 H H' al rl):Fr3 H H' tl al rl:=fun b o e _ n m=>f b o e n m
theorem zat.kt3 {K:W.Frag} {C:Addr} {H H':Hp} {p tl al rl:Addr} {T:List Tm} {As:List At} {Rs:List (List Int)} (h:zat K C H p tl al rl T As Rs) (f:Fr3 H H' tl al rl):KeepT H H':=fun b ys q=>by
 obtain⟨_,⟨x2,t2,_⟩,⟨x3,t3,_⟩,⟨x4,t4,_⟩,_⟩:=h
 rcases q with q | ⟨o,q⟩
 ·exact .inl (f _ _ q (fun e=>by rw[e,t2]at q;cases q) (fun e=>by rw[e,t3]at q;cases q) (fun e=>by rw[e,t4]at q;cases q))
 ·exact .inr ⟨o,f _ _ q (fun e=>by rw[e,t2]at q;cases q) (fun e=>by rw[e,t3]at q;cases q) (fun e=>by rw[e,t4]at q;cases q)⟩
theorem zat.ne3 {K:W.Frag} {C:Addr} {H:Hp} {p tl al rl b:Addr} {T:List Tm} {As:List At} {Rs:List (List Int)} (h:zat K C H p tl al rl T As Rs) (e:H b=none):b≠tl∧b≠al∧b≠rl:=by
 obtain⟨_,⟨x2,t2,_⟩,⟨x3,t3,_⟩,⟨x4,t4,_⟩,_⟩:=h
 exact⟨(fun z=>by rw[z,t2]at e;cases e),(fun z=>by rw[z,t3]at e;cases e),(fun z=>by rw[z,t4]at e;cases e)⟩
def GPA:PA→Prop
 | .plain z=>za0 z=true∧Low z
 | .same t u=>GTr t∧GTr u∧F05.dp t≤21∧F05.dp u≤21
section
variable {P:Program} {w:World} {K:W.Frag} {mg:Str→Option Value} {base:Heap} {aK C CN CT CP CM CU:Addr} {f fT fB fP' fX fW:Addr} {fd dT' dB dP' dX dW:FuncData} {fI fA fQ fS fR:Addr} {dI dA' dQ dS dR':FuncData}
def zhn (K:W.Frag) (C:Addr):Sp:=fun vs H Q _=>∃(p tl al rl:Addr) (s:S5) (R:List (List Int)) (a:PA) (v:V),vs=[.ref p,v]∧zat K C H p tl al rl s.T s.A R∧Has K H (dPA a) v∧GPA a∧(aPA s a).1.T.length≤60∧(aPA s a).1.A.length≤40 ∧
 ∀ H',zat K C H' p tl al rl (aPA s a).1.T (aPA s a).1.A R→Fr3 H H' tl al rl→Q (.int ((aPA s a).2:Nat)) H'
theorem zdv:zaa ["problem","atom","one","other"] ["problem","atom"] (ap zeg):=⟨rfl,rfl,rfl,by decide +kernel,rfl,by decide +kernel,by decide +kernel⟩
set_option maxHeartbeats 1000000 in
theorem zku (F:Fun K "add_atom" "add_atom" zeg f fd) (T:Txt K mg aK C CN CT CP CM) (G:Own P w K mg base C CN CT CP CM fI fA fQ fS fR dI dA' dQ dS dR') (BT:FB P w K mg base (CX1 P w) 26 "add_tree" fT dT' ["problem","tree"] (zed K C CM 21)):FnOk P w K mg base CX0 27 f fd ["problem","atom"] (zhn K C):=by
 refine F.ok zdv (fun vs H Q E h=>?_) (fun cdv A outer s H vs Q E hr h=>?_)
 ·obtain⟨p,tl,al,rl,s,R,a,v,rfl,_⟩:=h
  rfl
 obtain⟨p,tl,al,rl,s5,R,a,v,rfl,S,hv,ga,t60,a40,q⟩:=h
 have hr4:aL 4 _:=hr.mono (by decide)
 refine⟨_,(ai (zal (zac zbu (aB zah (pv 1) ah (fun _ _=>rfl)) aD (zam _))
   (ak (aE (zaS (pv 0) T.cl G.mQ G.Q hr4 G.bQ .nil zeN (aa (aB zah (pv 1) ah (fun _ _=>rfl)) ac))))
   zab)
  (ai (aA (i:=2) zdv.nd rfl (Or.inl rfl) (az BT.ok hr rfl BT.m BT.kp BT.b .nil zeN (aa (pv 0) (aa (aB zah (pv 1) ah (fun _ _=>rfl)) ac))))
  (ai (aA (i:=3) zdv.nd rfl (Or.inl rfl) (az BT.ok hr rfl BT.m BT.kp BT.b .nil zeN (aa (pv 0) (aa (aB zah (pv 1) ah (fun _ _=>rfl)) ac))))
  (ak (aE (zaS (pv 0) T.cl G.mS G.S hr4 G.bS .nil zeN (aa (pv 2) (aa (pv 3) ac)))))))),?_⟩
 obtain⟨⟨dx,ho⟩,_⟩:=id S
 cases a with
 | plain z =>
  simp only[dPA,Has,aj]at hv
  obtain⟨pa,_,rfl,hpa,_,_,rfl,rfl,_,_,rfl,rfl,rfl⟩:=hv
  have at0:atI [V.str "plain",V.str z] 0=some (.str "plain"):=zae (j:=0) rfl
  have at1:atI [V.str "plain",V.str z] 1=some (.str z):=zae (j:=1) rfl
  refine⟨_,rfl,pa,_,_,_,rfl,rfl,hpa,at0,rfl,_,rfl,aO (fun _=>?_) (fun c=>absurd (decide_eq_true rfl) c)⟩
  have l40:s5.A.length≤40:=by
   simp only[aPA]at a40
   split at a40
   ·exact a40
   ·simp at a40;omega
  refine⟨_,rfl,p,dx,_,rfl,ho,zhN _ _ _,_,rfl,pa,_,_,_,rfl,rfl,hpa,at1,p,tl,al,rl,s5.T,s5.A,R,z,rfl,S,ga.2,by omega,?_⟩
  unfold zdr
  rw[if_neg (by rw[ga.1];decide)]
  by_cases c:At.plain z∈s5.A
  ·rw[if_pos c]
   simp only[aPA,if_pos c]at q
   exact fun H5 S5 f5=>q H5 S5 (Fr3.of2 f5)
  ·rw[if_neg c]
   simp only[aPA,if_neg c]at q a40
   rw[List.length_append,List.length_singleton]at a40
   rw[if_neg (by omega)]
   exact fun H5 S5 f5=>q H5 S5 (Fr3.of2 f5)
 | same t u =>
  simp only[dPA,Has,aj]at hv
  obtain⟨pa,_,rfl,hpa,_,_,rfl,rfl,x1,_,rfl,h1,x2,_,rfl,h2,rfl⟩:=hv
  have at0:atI [V.str "same",x1,x2] 0=some (.str "same"):=zae (j:=0) rfl
  have at1:atI [V.str "same",x1,x2] 1=some x1:=zae (j:=1) rfl
  have at2:atI [V.str "same",x1,x2] 2=some x2:=zae (j:=2) rfl
  obtain⟨gt,gu,dt,du⟩:=ga
  have eT:(aPA s5 (.same t u)).1.T=(ad (ad s5.T t).1 u).1:=by
   simp only[aPA]
   split
   ·rfl
   ·split <;> rfl
  rw[eT]at t60
  have p1:=(zbE s5.T t).length_le
  have p2:=(zbE (ad s5.T t).1 u).length_le
  obtain⟨_,_,n1⟩:=zdb s5.T t
  obtain⟨_,_,n2⟩:=zdb (ad s5.T t).1 u
  have l40:s5.A.length≤40:=by
   simp only[aPA]at a40
   split at a40
   ·exact a40
   ·split at a40
    ·exact a40
    ·simp at a40;omega
  refine⟨_,rfl,pa,_,_,_,rfl,rfl,hpa,at0,rfl,_,rfl,aO (fun c=>absurd c (by decide +kernel)) (fun _=>?_)⟩
  refine⟨_,rfl,_,rfl,pa,_,_,_,rfl,rfl,hpa,at1,p,tl,al,rl,s5.T,s5.A,R,t,x1,rfl,S,h1,dt,gt,by omega,fun _ H1 S1 f1=>?_,fun big=>by omega⟩
  have f1':Fr3 H H1 tl al rl:=Fr3.of1 f1
  have k1:=S.kt3 f1'
  refine⟨_,rfl,_,rfl,pa,_,_,_,rfl,rfl,k1.sq hpa,at2,p,tl,al,rl,_,s5.A,R,u,x2,rfl,S1,h2.keep k1 (F05.nol_dTr _),du,gu,by omega,fun _ H2 S2 f2=>?_,fun big=>by omega⟩
  have f2':Fr3 H H2 tl al rl:=f1'.trans (Fr3.of1 f2)
  obtain⟨⟨dx2,ho2⟩,_⟩:=id S2
  refine⟨_,rfl,p,dx2,_,rfl,ho2,zhQ _ _ _,_,rfl,_,rfl,p,tl,al,rl,_,s5.A,R,_,_,rfl,S2,⟨by omega,by omega⟩,⟨by omega,by omega⟩,by omega,?_⟩
  unfold zcr
  rw[if_neg (by omega)]
  by_cases c1:At.same ((ad (ad s5.T t).1 u).2:Int) ((ad s5.T t).2:Int)∈s5.A
  ·rw[if_pos c1]
   simp only[aPA,if_pos c1]at q
   exact fun H5 S5 f5=>q H5 S5 (f2'.trans (Fr3.of2 f5))
  ·rw[if_neg c1]
   by_cases c2:At.same ((ad s5.T t).2:Int) ((ad (ad s5.T t).1 u).2:Int)∈s5.A
   ·rw[if_pos c2]
    simp only[aPA,if_neg c1,if_pos c2]at q
    exact fun H5 S5 f5=>q H5 S5 (f2'.trans (Fr3.of2 f5))
   ·rw[if_neg c2]
    simp only[aPA,if_neg c1,if_neg c2]at q a40
    rw[List.length_append,List.length_singleton]at a40
    rw[if_neg (by omega)]
    exact fun H5 S5 f5=>q H5 S5 (f2'.trans (Fr3.of2 f5))
def zhm (K:W.Frag) (C:Addr):Sp:=fun vs H Q _=>∃(p tl al rl:Addr) (s:S5) (R:List (List Int)) (a:Prt) (v:V),vs=[.ref p,v]∧zat K C H p tl al rl s.T s.A R∧Has K H (dPt a) v∧GPA a.a∧(aPt s a).1.T.length≤60∧(aPt s a).1.A.length≤40 ∧
 ∀ H',zat K C H' p tl al rl (aPt s a).1.T (aPt s a).1.A R→Fr3 H H' tl al rl→Q (.int (aPt s a).2) H'
theorem zeY:zaa ["problem","part","number"] ["problem","part"] (ap zef):=⟨rfl,rfl,rfl,by decide +kernel,rfl,by decide +kernel,by decide +kernel⟩
theorem zkt (F:Fun K "add_part" "add_part" zef f fd) (BA:FB P w K mg base CX0 27 "add_atom" fB dB ["problem","atom"] (zhn K C)):FnOk P w K mg base CX0 28 f fd ["problem","part"] (zhm K C):=by
 refine F.ok zeY (fun vs H Q E h=>?_) (fun cdv A outer s H vs Q E hr h=>?_)
 ·obtain⟨p,tl,al,rl,s,R,a,v,rfl,_⟩:=h
  rfl
 obtain⟨p,tl,al,rl,s5,R,a,v,rfl,S,hv,ga,t60,a40,q⟩:=h
 refine⟨_,(ai (aA (i:=2) zeY.nd rfl (Or.inl rfl) (az BA.ok hr rfl BA.m BA.kp BA.b .nil aF (aa (pv 0) (aa (aB zah (pv 1) ah (fun _ _=>rfl)) ac))))
  (ak (aE (zki (zbh (aB zah (pv 1) ah (fun _ _=>rfl))) (pv 2) (zeL zdC (pv 2)))))),?_⟩
 unfold dPt at hv
 simp only[Has,aj]at hv
 obtain⟨pa,_,rfl,hpa,_,_,rfl,rfl,x1,_,rfl,h1,rfl⟩:=hv
 have at0:atI [V.bl (!a.n),x1] 0=some (.bl (!a.n)):=zae (j:=0) rfl
 have at1:atI [V.bl (!a.n),x1] 1=some x1:=zae (j:=1) rfl
 refine⟨_,rfl,_,rfl,pa,_,_,_,rfl,rfl,hpa,at1,p,tl,al,rl,s5,R,a.a,x1,rfl,S,h1,ga,t60,a40,fun H1 S1 f1=>?_⟩
 refine⟨_,rfl,pa,_,_,_,rfl,rfl,(S.kt3 f1).sq hpa,at0,_,rfl,?_⟩
 have q1:=q H1 S1 f1
 unfold aPt at q1
 dsimp only at q1
 cases e:a.n with
 | false =>
  rw[e,if_neg (by decide)]at q1
  exact zbj ⟨_,rfl,q1⟩
 | true =>
  rw[e,if_pos rfl]at q1
  exact za3 ⟨_,rfl,_,rfl,q1⟩
structure GRs (rs:List (List Prt)):Prop where
 np:∀ r∈rs,∀ p∈r,NP p∧GPA p.a
 rl:∀ r∈rs,r.length≤20
 n:rs.length≤200
 t:(aRs s0 rs).1.T.length≤60
 a:(aRs s0 rs).1.A.length≤40
end
end K05
namespace K05
open PySem L2
open F05 (Tr dTr aQ)
open C05 (PA Prt dPA dPt cRw NP ofC cp zaJ zcR zbt ze6 zfP)
theorem zlD (s:S5):∀(a b:List Prt),aRw s (a++b)=((aRw (aRw s a).1 b).1,(aRw s a).2++(aRw (aRw s a).1 b).2):=fun a=>by
 induction a generalizing s with
 | nil=>intro b;rfl
 | cons p a ih=>intro b;simp only[List.cons_append,aRw,ih]
theorem zlF (s:S5):∀(a b:List (List Prt)),aRs s (a++b)=((aRs (aRs s a).1 b).1,(aRs s a).2++(aRs (aRs s a).1 b).2):=fun a=>by
 induction a generalizing s with
 | nil=>intro b;rfl
 | cons p a ih=>intro b;simp only[List.cons_append,aRs,ih]
theorem zh5 {rs:List (List Prt)} {i:Nat} {r:List Prt} (h:rs[i]?=some r) (j:Nat):zbl (aRw (aRs s0 (rs.take i)).1 (r.take j)).1 (aRs s0 rs).1:=by
 obtain⟨I1,_,_⟩:=zc7 I5.nil (rs.take i)
 obtain⟨I2,_,_⟩:=zc6 I1 (r.take j)
 obtain⟨I3,e3,_⟩:=zc6 I2 (r.drop j)
 have er:(aRw (aRs s0 (rs.take i)).1 r).1=(aRw (aRw (aRs s0 (rs.take i)).1 (r.take j)).1 (r.drop j)).1:=by
  conv=>lhs;rw[←List.take_append_drop j r,zlD]
 have es:(aRs s0 (rs.take (i+1))).1=(aRw (aRs s0 (rs.take i)).1 r).1:=by rw[zaC h,zfi]
 obtain⟨I4,_,_⟩:=zc7 I5.nil (rs.take (i+1))
 obtain⟨_,e5,_⟩:=zc7 I4 (rs.drop (i+1))
 have ef:(aRs s0 rs).1=(aRs (aRs s0 (rs.take (i+1))).1 (rs.drop (i+1))).1:=by
  conv=>lhs;rw[←List.take_append_drop (i+1) rs,zlF]
 rw[ef]
 refine zbl.trans ?_ e5
 rw[es,er]
 exact e3
theorem zf9 (s:S5):∀ r:List Prt,(aRw s r).2.length=r.length:=fun r=>by
 induction r generalizing s with
 | nil=>rfl
 | cons p r ih=>simp only[aRw,List.length_cons,ih]
theorem zdP (s:S5):∀ rs:List (List Prt),(aRs s rs).2.length=rs.length:=fun rs=>by
 induction rs generalizing s with
 | nil=>rfl
 | cons p r ih=>simp only[aRs,List.length_cons,ih]
def zgJ (K:W.Frag) (H:Hp) (us:List V) (rs:List (List Prt)):Prop:=us.length=rs.length∧∀(i:Nat) (u:V) (r:List Prt),us[i]?=some u→rs[i]?=some r→∃ l xs,u=.ref l∧H l=some (.lst xs)∧aj K H (r.map dPt) xs
theorem zgJ.keep {K:W.Frag} {H H':Hp} {us:List V} {rs:List (List Prt)} (h:zgJ K H us rs) (k:KeepT H H') (f:∀ l xs,V.ref l∈us→H l=some (.lst xs)→H' l=some (.lst xs)):zgJ K H' us rs:=⟨h.1,fun i u r e1 e2=>by
 obtain⟨l,xs,rfl,hl,hx⟩:=h.2 i u r e1 e2
 exact⟨l,xs,rfl,f l xs (List.mem_of_getElem? e1) hl,hx.keep k (zbt _)⟩⟩
theorem no10 {r:List Prt} (h:∀ p∈r,NP p):10∉cRw r:=by
 have part:∀ p∈r,10∉C05.cPt p:=fun p hp hc=>by
  unfold C05.cPt at hc
  rcases List.mem_append.mp hc with hc | hc
  ·split at hc
   ·exact absurd hc (by decide)
   ·exact(nomatch hc)
  ·rcases C05.sg_PA (h p hp).a 10 hc with h | h | h
   ·omega
   ·exact absurd h (by decide)
   ·exact absurd h (by decide)
 unfold cRw
 split
 ·decide +kernel
 ·clear h
  induction r with
  | nil=>simp [C05.jn]
  | cons p r ih =>
   cases r with
   | nil=>simpa [C05.jn] using part p (by simp)
   | cons q t =>
    have h1:=part p (by simp)
    have h2:=ih (fun x hx=>part x (List.mem_cons_of_mem _ hx)) (by simp)
    simp only[List.map_cons,C05.jn,List.mem_append,not_or]at h2 ⊢
    exact⟨⟨h1,by decide⟩,h2⟩
def zbb (rs:List (List Prt)):List Nat:=rs.flatMap fun r=>cRw r++[10]
theorem zkb (rs:List (List Prt)):zcR (rs.map fun r=>ofC (cRw r))=zbb rs:=by
 unfold zcR zbb
 rw[List.flatMap_map]
 simp only[zaJ]
theorem row_le {rs:List (List Prt)} {r:List Prt} (h:r∈rs):(cRw r).length≤(zbb rs).length:=by
 unfold zbb
 induction rs with
 | nil=>exact nomatch h
 | cons q rs ih =>
  simp only[List.flatMap_cons,List.length_append,List.length_singleton]
  rcases List.mem_cons.mp h with rfl | h
  ·omega
  ·have:=ih h
   omega
section
variable {P:Program} {w:World} {K:W.Frag} {mg:Str→Option Value} {base:Heap} {aK C CN CT CP CM CU:Addr} {f fT fB fP' fX fW:Addr} {fd dT' dB dP' dX dW:FuncData} {fI fA fQ fS fR:Addr} {dI dA' dQ dS dR':FuncData}
def zeO (K:W.Frag) (C:Addr):Sp:=fun vs H Q _=>∃(z:Str) (rs:List (List Prt)),vs=[.str z]∧cp z=zbb rs∧z.length≤1000000∧GRs rs ∧
 ∀(H':Hp) (p tl al rl:Addr),ax H H'→H p=none→H tl=none→H al=none→H rl=none→zat K C H' p tl al rl (aRs s0 rs).1.T (aRs s0 rs).1.A (aRs s0 rs).2→Q (.ref p) H'
theorem zeQ:zaa ["text","rows","problem","row"] ["text"] (ap zfp):=⟨rfl,rfl,rfl,by decide +kernel,rfl,by decide +kernel,by decide +kernel⟩
set_option maxHeartbeats 2000000 in
theorem zle (F:Fun K "read" "read" zfp f fd) (T:Txt K mg aK C CN CT CP CM) (G:Own P w K mg base C CN CT CP CM fI fA fQ fS fR dI dA' dQ dS dR') (BT:FB P w K mg base CX0 1 "text_rows" fT dT' ["text"] ze6) (BW:FB P w K mg base CX0 48 "formed_row" fW dW ["text"] (zfP K)) (BP:FB P w K mg base CX0 28 "add_part" fP' dP' ["problem","part"] (zhm K C)):FnOk P w K mg base CX0 49 f fd ["text"] (zeO K C):=by
 refine F.ok zeQ (fun vs H Q E h=>?_) (fun cdv A outer s H vs Q E hr h=>?_)
 ·obtain⟨z,rs,rfl,_⟩:=h
  rfl
 obtain⟨z,rs,rfl,hc,lz,GR,q⟩:=h
 have hr1:aL 1 _:=hr.mono (by decide)
 have hr2:aL 2 _:=hr.mono (by decide)
 have hr4:aL 4 _:=hr.mono (by decide)
 have hr28:aL 28 _:=hr.mono (by decide)
 refine⟨_,(ai (zke (i:=1) (N':=["row"]) (ix:=[]) zeQ.nd rfl (Or.inl rfl) rfl rfl (by decide +kernel) (by decide +kernel) rfl (fun _=>⟨[],zcD (by decide +kernel) (by decide +kernel)⟩) (by decide +kernel) rfl rfl (fun j i h=>by simp at h) (zbL (az BT.ok hr1 rfl BT.m BT.kp BT.b .nil aF (aa (pv 0) ac))) (fun _ _ _ _=>(az BW.ok hr rfl BW.m BW.kp BW.b .nil aF (aa (pv 0) ac))))
  (ai (aA (i:=2) zeQ.nd rfl (Or.inr rfl) (zkh G.mI G.I hr2 rfl G.gI G.bI .nil aF))
  (ai (zbo PassesOwn.never rfl (zbL (pv 1)) (zaP (i:=3) zeQ.nd rfl (Or.inl rfl))
   (ak (zaM (zaS (pv 2) T.cl G.mR G.R hr4 G.bR .nil zeN (aa (zbP (N':=["part","problem"]) (ix:=[2]) rfl rfl (by decide +kernel) (by decide +kernel) rfl (fun ok=>zb4 (sc:=ap zfp) ok rfl (by decide +kernel) (by decide +kernel)) (by decide +kernel) rfl rfl (fun j i h=>match j,h with | 0,h=>by cases h;exact⟨_,rfl,rfl,.inl rfl,.inl rfl⟩ | n+1,h=>by simp at h) (zbL (pv 3)) (fun _ _ _ _=>(az BP.ok hr28 rfl BP.m BP.kp BP.b .nil aF (aa (pv 1) (aa (pv 0) ac))))) ac)))))
  (ak (aE (pv 2)))))),?_⟩
 have hn:=GR.n
 have tn:∀ r∈rs.map (fun r=>ofC (cRw r)),10∉cp r:=fun x hx=>by
  obtain⟨r,hr',rfl⟩:=List.mem_map.mp hx
  rw[zaJ]
  exact no10 fun p hp=>(GR.np r hr' p hp).1
 refine⟨_,rfl,z,rs.map (fun r=>ofC (cRw r)),rfl,lz,by rw[zkb];exact hc,tn,fun H1 x1 s1 nx1 hx1=>?_⟩
 have xl:((rs.map fun r=>ofC (cRw r)).map V.str).length=rs.length:=by rw[List.length_map,List.length_map]
 refine⟨x1,rfl,⟨_,SqL.of hx1⟩,fun D hD=>?_⟩
 refine zbC zbI (fun i us H'=>ax H1 H'∧zgJ K H' us (rs.take i)∧V.ref D∉us) (fun i us H' ⟨s',_⟩=>SqL.of (s' _ _ hx1)) ⟨ar hD _,⟨rfl,fun i u r e=>by simp at e⟩,fun h=>nomatch h⟩ ?_ ?_
 ·rintro i us H8 x H4 hi hly hDs ⟨s4,hus,nD⟩ ⟨rfl,hx⟩
  have hx4:=hx _ (SqL.of (s4 _ _ hx1))
  rw[List.map_map,List.getElem?_map]at hx4
  cases er:rs[i]? with
  | none=>rw[er]at hx4;cases hx4
  | some r =>
   rw[er]at hx4
   cases hx4
   have rm:=List.mem_of_getElem? er
   have ll:(ofC (cRw r)).length≤1000000:=by
    have h1:=row_le rm
    rw[←hc,C05.cp_len]at h1
    rw[←C05.cp_len,zaJ]
    omega
   refine⟨_,rfl,_,r,rfl,zaJ _,fun p hp=>(GR.np r rm p hp).1,by have:=GR.rl r rm;omega,ll,fun H5 l5 xs5 s5 n5 h5 hx5=>?_⟩
   have lD:l5≠D:=fun e=>by rw[e,hDs]at n5;cases n5
   have kt:=C05.KeepT.but (o:=.lst (us++[V.ref l5])) (s5 _ _ hDs) (fun _ e=>by cases e) (fun _ _ e=>by cases e)
   refine zaY (sz _ (by rw[xl];omega)) hi hly (s5 _ _ hDs) ⟨(s4.trans s5).upd hD,?_,?_⟩
   ·refine⟨by rw[List.length_append,hus.1,zaC er,List.length_append];rfl,fun j u r' e1 e2=>?_⟩
    rw[zaC er]at e2
    rcases zaD e1 with ⟨e1',jl⟩ | ⟨ej,eu⟩
    ·rw[List.getElem?_append_left (by rw[←hus.1];exact jl)]at e2
     obtain⟨l,xs,rfl,hl,hxs⟩:=hus.2 j u r' e1' e2
     have nl:l≠D:=fun e=>nD (e ▸ List.mem_of_getElem? e1')
     exact⟨l,xs,rfl,by rw[au nl];exact s5 _ _ hl,(hxs.keep s5.kt (zbt _)).keep kt (zbt _)⟩
    ·rw[ej,hus.1,List.getElem?_append_right (Nat.le_refl _),Nat.sub_self]at e2
     cases e2
     exact⟨l5,xs5,eu.symm,by rw[au lD];exact h5,hx5.keep kt (zbt _)⟩
   ·intro hm
    rcases List.mem_append.mp hm with hm | hm
    ·exact nD hm
    ·have:=List.mem_singleton.mp hm
     injection this with this
     exact lD this.symm
 ·rintro us H4 hDs ⟨s4,hus,nD⟩
  rw[xl,List.take_length]at hus
  have s04:=s1.trans s4
  intro p dx np ndx nex
  refine⟨p,dx,rfl,ae,fun tl al rl H5 ht ha hrr e1 e2 e3 k1 k2 k3 k4 k5=>⟨rfl,?_⟩⟩
  obtain⟨pr5,s5,ft,fa,fr⟩:=made (K:=K) np ndx nex ht ha hrr e1 e2 e3 k1 k2 k3 k4 k5
  have sm:∀ {H':Hp},Fr3 H5 H' tl al rl→ax H4 H':=fun f' b o e=>f' _ _ (s5 _ _ e) (zaj e ft) (zaj e fa) (zaj e fr)
  have ul:us.length=rs.length:=hus.1
  refine⟨_,rfl,D,rfl,⟨_,SqL.of (s5 _ _ hDs)⟩,zes zbI (fun i σ H'=>(∃ v3:Option V,σ=[some (.str z),some (.ref D),some (.ref p),v3])∧Fr3 H5 H' tl al rl∧zat K C H' p tl al rl (aRs s0 (rs.take i)).1.T (aRs s0 (rs.take i)).1.A (aRs s0 (rs.take i)).2) (fun i σ H' ⟨_,f',_⟩=>SqL.of (sm f' _ _ hDs)) ⟨⟨none,rfl⟩,Fr3.of_same (ax.refl _),pr5⟩ ?_ ?_⟩
  ·rintro i σ H9 x H6 hi ⟨⟨v3,rfl⟩,f6,pr6⟩ ⟨rfl,hx⟩
   have s46:=sm f6
   have hx6:=hx _ (SqL.of (s46 _ _ hDs))
   have il:i < rs.length:=by rw[←ul];exact hi
   have er:rs[i]?=some rs[i]:=List.getElem?_eq_getElem il
   generalize rs[i]=r at er
   have rm:=List.mem_of_getElem? er
   obtain⟨l,xs,rfl,hl,hxs⟩:=hus.2 i x r hx6 er
   have hl6:=s46 _ _ hl
   have hxs6:=hxs.keep s46.kt (zbt _)
   have xsl:xs.length=r.length:=by rw[←hxs.length,List.length_map]
   have r20:=GR.rl r rm
   obtain⟨I6,_,_⟩:=zc7 I5.nil (rs.take i)
   generalize hs6:aRs s0 (rs.take i)=y6 at pr6 I6
   obtain⟨⟨dx6,ho6⟩,⟨_,ht6,_⟩,⟨_,ha6,_⟩,⟨_,hr6,_⟩,_⟩:=id pr6
   refine⟨_,rfl,p,dx6,_,rfl,ho6,zfD _ _ _,_,rfl,l,rfl,⟨_,SqL.of hl6⟩,fun U hU=>?_⟩
   obtain⟨u1,u2,u3⟩:=pr6.ne3 hU
   have bnd:∀ j,(aRw y6.1 (r.take j)).1.T.length≤60∧(aRw y6.1 (r.take j)).1.A.length≤40:=fun j=>by
    have e:=zh5 er j
    rw[hs6]at e
    exact⟨Nat.le_trans e.t.length_le GR.t,Nat.le_trans e.a.length_le GR.a⟩
   refine zbC zbI (fun j us' H'=>Fr3 H6 H' tl al rl∧zat K C H' p tl al rl (aRw y6.1 (r.take j)).1.T (aRw y6.1 (r.take j)).1.A y6.2∧us'=(aRw y6.1 (r.take j)).2.map V.int) (fun j us' H' ⟨f',_⟩=>SqL.of (f' _ _ hl6 (fun e=>by rw[e]at hl;exact absurd hl (by rw[ft];simp)) (fun e=>by rw[e]at hl;exact absurd hl (by rw[fa];simp)) (fun e=>by rw[e]at hl;exact absurd hl (by rw[fr];simp)))) ⟨Fr3.of_same (ar hU _),pr6.same (ar hU _),rfl⟩ ?_ ?_
   ·rintro j us' H10 x H7 hj hly hUs ⟨f7,pr7,rfl⟩ ⟨rfl,hx7⟩
    have hl7:=f7 _ _ hl6 (fun e=>by rw[e]at hl;exact absurd hl (by rw[ft];simp)) (fun e=>by rw[e]at hl;exact absurd hl (by rw[fa];simp)) (fun e=>by rw[e]at hl;exact absurd hl (by rw[fr];simp))
    have hxj:=hx7 _ (SqL.of hl7)
    obtain⟨d,hd,hxd⟩:=aj.get (hxs6.keep (pr6.kt3 f7) (zbt _)) hxj
    rw[List.getElem?_map]at hd
    cases ep:r[j]? with
    | none=>rw[ep]at hd;cases hd
    | some pt =>
     rw[ep]at hd
     cases hd
     have pm:=List.mem_of_getElem? ep
     have en:aRw y6.1 (r.take (j+1))=((aPt (aRw y6.1 (r.take j)).1 pt).1,(aRw y6.1 (r.take j)).2++[(aPt (aRw y6.1 (r.take j)).1 pt).2]):=by rw[zaC ep,zea]
     obtain⟨b1,b2⟩:=bnd (j+1)
     rw[en]at b1 b2
     refine⟨_,rfl,_,rfl,p,tl,al,rl,(aRw y6.1 (r.take j)).1,y6.2,pt,x,rfl,pr7,hxd,(GR.np r rm pt pm).2,b1,b2,fun H8 pr8 f8=>?_⟩
     have hU8:=f8 _ _ hUs u1 u2 u3
     have pr9:=fun o'=>pr8.keep (z:=U) (H':=upd H8 U o') (fun c o hc hn=>by rw[au hn];exact hc) hU8 u1 u2 u3
     refine zaY (sz _ (by rw[xsl];omega)) hj hly hU8 ⟨fun c o hc m1 m2 m3=>?_,?_,?_⟩
     ·rw[au (fun e=>by rw[e,hU]at hc;cases hc)]
      exact f8 _ _ (f7 _ _ hc m1 m2 m3) m1 m2 m3
     ·rw[en]
      exact pr9 _
     ·rw[en,List.map_append]
      rfl
   ·rintro us' H7 hUs ⟨f7,pr7,rfl⟩
    rw[xsl,List.take_length]at pr7 hUs
    obtain⟨I7,_,k7⟩:=zc6 I6 r
    have bN:=bnd r.length
    rw[List.take_length]at bN
    have nl:=zf9 y6.1 r
    have Rl:y6.2.length=i:=by
     rw[←hs6,zdP,List.length_take]
     omega
    refine⟨p,tl,al,rl,U,_,_,y6.2,(aRw y6.1 r).2,rfl,pr7,.inl (SqL.of hUs),by omega,fun k hk=>by have:=k7 k hk;omega,by omega,?_⟩
    unfold zcN
    have na:¬(aRw y6.1 r).2.any (zbp (aRw y6.1 r).1.A.length)=true:=by
     rw[List.any_eq_true]
     rintro ⟨k,hk,e⟩
     have:=k7 k hk
     simp only[zbp,Bool.or_eq_true,decide_eq_true_eq]at e
     omega
    rw[if_neg na,if_neg (by omega),if_neg (by omega)]
    intro H8 pr8 f8
    have ef:aRs s0 (rs.take (i+1))=((aRw y6.1 r).1,y6.2++[aJ [] (aRw y6.1 r).2]):=by rw[zaC er,zfi,hs6]
    refine⟨⟨_,rfl⟩,f6.trans (f7.trans (Fr3.of2 f8)),?_⟩
    rw[ef]
    exact pr8
  ·rintro σ H6 ⟨⟨v3,rfl⟩,f6,pr6⟩
   rw[ul,List.take_length]at pr6
   exact⟨_,rfl,q H6 p tl al rl (s04.trans (sm f6)) (s04.free np) (s04.free ft) (s04.free fa) (s04.free fr) pr6⟩
end
end K05
namespace K05
open PySem L2
open F05 (zaQ ze4)
section
variable {K:W.Frag} {C:Addr}
theorem zat.lenT {H:Hp} {p tl al rl:Addr} {T:List Tm} {As:List At} {Rs:List (List Int)} (S:zat K C H p tl al rl T As Rs):∃ dx xs,H p=some (.ins C dx (zbN tl al rl))∧H tl=some (.lst xs)∧xs.length=T.length:=by
 obtain⟨⟨dx,h1⟩,⟨xs,h2,h3⟩,_⟩:=S
 exact⟨dx,xs,h1,h2,by rw[←h3.length,List.length_map]⟩
theorem zat.lenA {H:Hp} {p tl al rl:Addr} {T:List Tm} {As:List At} {Rs:List (List Int)} (S:zat K C H p tl al rl T As Rs):∃ dx xs,H p=some (.ins C dx (zbN tl al rl))∧H al=some (.lst xs)∧xs.length=As.length:=by
 obtain⟨⟨dx,h1⟩,_,⟨xs,h2,h3⟩,_⟩:=S
 exact⟨dx,xs,h1,h2,by rw[←h3.length,List.length_map]⟩
theorem zat.lenR {H:Hp} {p tl al rl:Addr} {T:List Tm} {As:List At} {Rs:List (List Int)} (S:zat K C H p tl al rl T As Rs):∃ dx xs,H p=some (.ins C dx (zbN tl al rl))∧H rl=some (.lst xs)∧xs.length=Rs.length:=by
 obtain⟨⟨dx,h1⟩,_,_,⟨xs,h2,h3⟩,_⟩:=S
 exact⟨dx,xs,h1,h2,by rw[←h3.length,List.length_map]⟩
end
theorem szM {n:Nat} (h:n≤16000000):n≤sizeLine:=Nat.le_trans h (by rw[sizeLine_eq];decide)
theorem zeD (x:Str) (xs:List Str):zbc (x :: xs)=x.length+zbc xs:=by simp [zbc]
theorem c1:(("(":Str)).length=1:=by decide +kernel
theorem c2:((")":Str)).length=1:=by decide +kernel
theorem c3:((", ":Str)).length=2:=by decide +kernel
theorem c4:((" or ":Str)).length=4:=by decide +kernel
theorem c5:((" = ":Str)).length=3:=by decide +kernel
theorem c6:(("not ":Str)).length=4:=by decide +kernel
theorem c7:(("\n":Str)).length=1:=by decide +kernel
theorem c8:(("never":Str)).length=5:=by decide +kernel
theorem c9:(("":Str)).length=0:=by decide +kernel
theorem zdM {m:Nat}:∀ {ss:List Str},(∀ s∈ss,s.length≤m)→zbc ss≤m * ss.length
 | [],_=>by simp [zbc]
 | s :: ss,h=>by
  have h1:=h s (by simp)
  have h2:=zdM (ss:=ss) fun u hu=>h u (List.mem_cons_of_mem _ hu)
  rw[zeD,List.length_cons,Nat.mul_add]
  omega
def gS (us:List Str) (p:Int):Str:=us.getD p.toNat ""
def zfm (us:List Str) (t:Tm):List Str:=us++[zaQ t.1 (t.2.map (gS us))]
def txs (T:List Tm):List Str:=T.foldl zfm []
theorem zj0 (T:List Tm) (t:Tm):txs (T++[t])=txs T++[zaQ t.1 (t.2.map (gS (txs T)))]:=by
 unfold txs
 rw[List.foldl_append]
 rfl
theorem zfJ:∀(L:List Tm) (us:List Str),∃ ws,L.foldl zfm us=us++ws∧ws.length=L.length
 | [],us=>⟨[],by simp,rfl⟩
 | t :: L,us=>by
  obtain⟨ws,h,hl⟩:=zfJ L (zfm us t)
  refine⟨zaQ t.1 (t.2.map (gS us)) :: ws,?_,by rw[List.length_cons,List.length_cons,hl]⟩
  rw[List.foldl_cons,h]
  unfold zfm
  simp
theorem zfK (T:List Tm):(txs T).length=T.length:=by
 obtain⟨ws,h,hl⟩:=zfJ T []
 unfold txs
 rw[h,List.length_append,hl]
 simp
theorem zg0 (T:List Tm) (i:Nat):∃ ws,txs T=txs (T.take i)++ws:=by
 obtain⟨ws,h,_⟩:=zfJ (T.drop i) (txs (T.take i))
 refine⟨ws,?_⟩
 rw[←h]
 unfold txs
 rw[←List.foldl_append,List.take_append_drop]
def Wf (T:List Tm):Prop:=∀(i:Nat) (t:Tm),T[i]?=some t→t.2.length≤3∧∀ p∈t.2,0≤p∧p < (i:Int)
theorem zlu {T:List Tm} {i:Nat} {p:Int} (h0:0≤p) (h1:p < (i:Int)) (hi:i≤T.length):gS (txs (T.take i)) p=gS (txs T) p:=by
 obtain⟨ws,h⟩:=zg0 T i
 unfold gS
 rw[h,List.getD_eq_getElem?_getD,List.getD_eq_getElem?_getD,List.getElem?_append_left (by rw[zfK,List.length_take];omega)]
theorem ziZ {T:List Tm} {i:Nat} {t:Tm} (hW:Wf T) (h:T[i]?=some t):(txs T)[i]?=some (zaQ t.1 (t.2.map (gS (txs T)))):=by
 have hi:=(List.getElem?_eq_some_iff.mp h).1
 obtain⟨ws,hw⟩:=zg0 T (i+1)
 have e:=zaC h
 have hl:(txs (T.take i)).length=i:=by rw[zfK,List.length_take];omega
 have g:(txs T)[i]?=some (zaQ t.1 (t.2.map (gS (txs (T.take i))))):=by
  rw[hw,e,zj0,List.getElem?_append_left (by rw[List.length_append,hl];simp),List.getElem?_append_right (by omega),hl]
  simp
 have em:t.2.map (gS (txs (T.take i)))=t.2.map (gS (txs T)):=List.map_congr_left fun p hp=>by
  have:=(hW i t h).2 p hp
  exact zlu this.1 this.2 (by omega)
 rw[g,em]
theorem ziB {us:List Str} {p:Int} {s:Str} (h0:0≤p) (h:us[p.toNat]?=some s):gS us p=s:=by
 unfold gS
 rw[List.getD_eq_getElem?_getD,h]
 rfl
def Sm (us:List Str):Prop:=∀ s∈us,s.length≤2000
theorem Sm.g {us:List Str} (h:Sm us) (p:Int):(gS us p).length≤2000:=by
 unfold gS
 rw[List.getD_eq_getElem?_getD]
 cases e:us[p.toNat]? with
 | none=>exact Nat.le_trans (Nat.le_of_eq c9) (by decide)
 | some s=>exact h s (List.mem_of_getElem? e)
def atx (us:List Str):At→Str
 | .plain z=>z
 | .same a b=>gS us a++" = "++gS us b
def aG (As:List At) (p:Int):At:=As.getD (p.natAbs - 1) (.plain "")
def ptx (us:List Str) (As:List At) (p:Int):Str:=if p < 0 then "not "++atx us (aG As p) else atx us (aG As p)
def rtx (us:List Str) (As:List At) (r:List Int):Str:=if r.isEmpty=true then "never" else Builtin.Str.glued " or " (r.map (ptx us As))
def wtx (us:List Str) (As:List At) (Rs:List (List Int)):Str:=Builtin.Str.glued "" (Rs.map fun r=>rtx us As r++"\n")
def AOk (n:Nat):At→Prop
 | .plain z=>z.length≤8
 | .same a b=>(0≤a∧a < (n:Int))∧(0≤b∧b < (n:Int))
def POk (m:Nat) (p:Int):Prop:=p≠0∧-(m:Int)≤p∧p≤(m:Int)
theorem ziF {As:List At} {p:Int} (h:POk As.length p):As[p.natAbs - 1]?=some (aG As p):=by
 obtain⟨h0,h1,h2⟩:=h
 unfold aG
 rw[List.getD_eq_getElem?_getD,List.getElem?_eq_getElem (by omega)]
 rfl
theorem zjy {As:List At} {p:Int} (h:POk As.length p):aG As p∈As:=List.mem_of_getElem? (ziF h)
theorem ziq {us:List Str} {n:Nat} {a:At} (hs:Sm us) (h:AOk n a):(atx us a).length≤4003:=by
 cases a with
 | plain z=>exact Nat.le_trans h (by decide)
 | same x y =>
  have:=hs.g x
  have:=hs.g y
  simp only[atx]
  rw[zai,zai,c5]
  omega
theorem zk5 {us:List Str} {n:Nat} {As:List At} {p:Int} (hs:Sm us) (h:∀ a∈As,AOk n a) (hp:POk As.length p):(ptx us As p).length≤4007:=by
 have:=ziq hs (h _ (zjy hp))
 unfold ptx
 split
 ·rw[zai,c6]
  omega
 ·omega
theorem zhr {us:List Str} {n:Nat} {As:List At} {r:List Int} (hs:Sm us) (h:∀ a∈As,AOk n a) (hp:∀ p∈r,POk As.length p):zbc (r.map (ptx us As))≤4007 * r.length:=by
 have:=zdM (m:=4007) (ss:=r.map (ptx us As)) fun s hs'=>by
  obtain⟨p,hp',rfl⟩:=List.mem_map.mp hs'
  exact zk5 hs h (hp p hp')
 rw[List.length_map]at this
 exact this
theorem zh4 {us:List Str} {n:Nat} {As:List At} {r:List Int} (hs:Sm us) (h:∀ a∈As,AOk n a) (hp:∀ p∈r,POk As.length p) (h5:r.length≤10):(rtx us As r).length≤50000:=by
 unfold rtx
 split
 ·exact Nat.le_trans (Nat.le_of_eq c8) (by decide)
 ·have h1:=zhr hs h hp
  have h2:=zbU " or " (r.map (ptx us As))
  rw[c4,List.length_map]at h2
  omega
theorem zka {us:List Str} {n:Nat} {As:List At} {Rs:List (List Int)} (hs:Sm us) (h:∀ a∈As,AOk n a) (hp:∀ r∈Rs,r.length≤10∧∀ p∈r,POk As.length p):zbc (Rs.map fun r=>rtx us As r++"\n")≤50001 * Rs.length:=by
 have:=zdM (m:=50001) (ss:=Rs.map fun r=>rtx us As r++"\n") fun s hs'=>by
  obtain⟨r,hr,rfl⟩:=List.mem_map.mp hs'
  have:=zh4 hs h (hp r hr).2 (hp r hr).1
  rw[zai,c7]
  omega
 rw[List.length_map]at this
 exact this
end K05
namespace K05
open PySem L2
open F05 (zaQ ze4)
section
variable {P:Program} {w:World} {K:W.Frag} {mg:Str→Option Value} {base:Heap} {aK C CN CT CP CM:Addr} {f fT fA fP fR:Addr} {fd dT' dA' dP dR':FuncData}
structure PrW (K:W.Frag) (C:Addr) (H:Hp) (p tl al rl:Addr) (T:List Tm) (As:List At) (Rs:List (List Int)):Prop where
 pr:zat K C H p tl al rl T As Rs
 wf:Wf T
 sm:Sm (txs T)
 ao:∀ a∈As,AOk T.length a
 nm:∀ t∈T,t.1.length≤8
theorem PrW.same {H H':Hp} {p tl al rl:Addr} {T:List Tm} {As:List At} {Rs:List (List Int)} (h:PrW K C H p tl al rl T As Rs) (s:ax H H'):PrW K C H' p tl al rl T As Rs:=⟨h.pr.same s,h.wf,h.sm,h.ao,h.nm⟩
theorem zlp {H:Hp} {T:List Tm} {xs:List V} {i:Nat} {x:V} (h:aj K H (T.map dT) xs) (e:xs[i]?=some x):∃ t q r,T[i]?=some t∧x=.ref q∧SqT K H q [.str t.1,.ref r]∧SqT K H r (t.2.map V.int):=by
 obtain⟨d,e1,e2⟩:=h.get e
 rw[List.getElem?_map]at e1
 cases q:T[i]? with
 | none=>rw[q]at e1;cases e1
 | some t =>
  rw[q]at e1
  cases e1
  simp only[dT,Has,aj]at e2
  obtain⟨p,ys,rfl,hp,v1,r1,rfl,rfl,v2,r2,rfl,⟨r,zs,rfl,hr,hz⟩,rfl⟩:=e2
  rw[zeF hz]at hr
  exact⟨t,p,r,rfl,rfl,hp,hr⟩
theorem zlr {H:Hp} {As:List At} {xs:List V} {i:Nat} {x:V} (h:aj K H (As.map dA) xs) (e:xs[i]?=some x):∃ a,As[i]?=some a∧Has K H (dA a) x:=by
 obtain⟨d,e1,e2⟩:=h.get e
 rw[List.getElem?_map]at e1
 cases q:As[i]? with
 | none=>rw[q]at e1;cases e1
 | some t =>
  rw[q]at e1
  cases e1
  exact⟨t,rfl,e2⟩
theorem zlq {H:Hp} {Rs:List (List Int)} {xs:List V} {i:Nat} {x:V} (h:aj K H (Rs.map dR) xs) (e:xs[i]?=some x):∃ r q,Rs[i]?=some r∧x=.ref q∧SqT K H q (r.map V.int):=by
 obtain⟨d,e1,e2⟩:=h.get e
 rw[List.getElem?_map]at e1
 cases q:Rs[i]? with
 | none=>rw[q]at e1;cases e1
 | some t =>
  rw[q]at e1
  cases e1
  simp only[dR,Has]at e2
  obtain⟨a,xs,rfl,hs,hl⟩:=e2
  rw[zeF hl]at hs
  exact⟨t,a,rfl,rfl,hs⟩
theorem zjS {H:Hp} {z:Str} {x:V} (h:Has K H (dA (.plain z)) x):∃ q,x=.ref q∧SqT K H q [.str "plain",.str z]:=by
 unfold dA at h
 simp only[Has,aj]at h
 obtain⟨a,xs,rfl,hs,v,r,rfl,rfl,v2,r2,rfl,rfl,rfl⟩:=h
 exact⟨a,rfl,hs⟩
theorem zkD {H:Hp} {a b:Int} {x:V} (h:Has K H (dA (.same a b)) x):∃ q,x=.ref q∧SqT K H q [.str "same",.int a,.int b]:=by
 unfold dA at h
 simp only[Has,aj]at h
 obtain⟨q,xs,rfl,hs,v,r,rfl,rfl,v2,r2,rfl,rfl,v3,r3,rfl,rfl,rfl⟩:=h
 exact⟨q,rfl,hs⟩
theorem zjv {α:Type} {xs:List α} {i:Int} (h0:0≤i) (h1:i < (xs.length:Int)):∃ x,xs[i.toNat]?=some x∧atI xs i=some x:=by
 have hk:i.toNat < xs.length:=by omega
 have e:i=((i.toNat:Nat):Int):=by omega
 have q:atI xs ((i.toNat:Nat):Int)=some xs[i.toNat]:=zae (List.getElem?_eq_getElem hk)
 rw[←e]at q
 exact⟨_,List.getElem?_eq_getElem hk,q⟩
def zg9 (K:W.Frag) (C:Addr) (n:Nat):Sp:=fun vs H Q _=>∃(p tl al rl:Addr) (T:List Tm) (As:List At) (Rs:List (List Int)) (k:Int),vs=[.ref p,.int k]∧PrW K C H p tl al rl T As Rs∧0≤k∧k < (T.length:Int)∧k < (n:Int)∧∀ H',ax H H'→Q (.str (gS (txs T) k)) H'
theorem zcO:zaa ["problem","number","term","within"] ["problem","number"] (ap zco):=⟨rfl,rfl,rfl,by decide +kernel,rfl,by decide +kernel,by decide +kernel⟩
set_option maxHeartbeats 1000000 in
theorem zhu (F:Fun K "shown_term" "shown_term" zco f fd) (T:Txt K mg aK C CN CT CP CM) (b:ay K fd ["problem","number"] []) (kp:W.keepIn K (.ref f)=true) (m:mg "shown_term"=some (.ref f)):∀ n,FnOk P w K mg base CX0 n f fd ["problem","number"] (zg9 K C n)
 | 0=>⟨fun vs H Q E ⟨_,_,_,_,_,_,_,_,_,_,h0,_,h,_⟩=>by omega,fun A outer s H args us vs Q E _ _ _ _ ⟨_,_,_,_,_,_,_,_,_,_,h0,_,h,_⟩=>by omega⟩
 | n+1=>by
  have IH:=zhu F T b kp m n
  refine F.ok zcO (fun vs H Q E h=>?_) (fun cdv A outer s H vs Q E hr h=>?_)
  ·obtain⟨p,tl,al,rl,T,As,Rs,k,rfl,_⟩:=h
   rfl
  obtain⟨p,tl,al,rl,T',As,Rs,k,rfl,hP,k0,k1,kn,q⟩:=h
  refine⟨_,(ai (aA (i:=2) zcO.nd rfl (Or.inl rfl) (aB zaq (zaB (pv 0) rfl) (pv 1) (fun _ _=>rfl)))
   (ai (zal (zac zbu (zap zao rfl T.len PySem.boot_len (aa (aB zah (pv 2) ah (fun _ _=>rfl)) ac)) ah (zam _))
    (ak (aE (aB zah (pv 2) ah (fun _ _=>rfl))))
    zab)
   (ai (aA (i:=3) zcO.nd rfl (Or.inl rfl) (zaL PySem.F.plainAttrs_str PySem.F.slot_str_join PySem.F.type_str_join zdI aD (aa (zbP (N':=["part","problem"]) (ix:=[0]) rfl rfl (by decide +kernel) (by decide +kernel) rfl (fun ok=>zb4 (sc:=ap zco) ok rfl (by decide +kernel) (by decide +kernel)) (by decide +kernel) rfl rfl (fun j i h=>match j,h with | 0,h=>by cases h;exact⟨_,rfl,rfl,.inl rfl,.inl rfl⟩ | n+1,h=>by simp at h) (zdD (aB zah (pv 2) ah (fun _ _=>rfl))) (fun _ _ _ _=>(az IH hr rfl m kp b .nil aF (aa (pv 1) (aa (pv 0) ac))))) ac)))
   (ak (aE (aw zas (aw zas (aw zas (aB zah (pv 2) ah (fun _ _=>rfl)) aD) (pv 3)) aD)))))),?_⟩
  obtain⟨dx,xs,ho,hx,xl⟩:=hP.pr.lenT
  obtain⟨xs',hx',hxs⟩:=hP.pr.tm
  cases hx.symm.trans hx'
  obtain⟨x,e1,e2⟩:=zjv (xs:=xs) k0 (by omega)
  obtain⟨t,tq,r,ht,rfl,hq,hr'⟩:=zlp hxs e1
  have wf:=hP.wf _ t ht
  have tx:=ziZ hP.wf ht
  have gx:=ziB k0 tx
  have nm:=hP.nm t (List.mem_of_getElem? ht)
  rw[gx]at q
  refine⟨_,rfl,p,C,dx,_,_,rfl,ho,T.cl,T.nT,zb0 _ _ _,_,rfl,tl,_,_,_,rfl,rfl,SqL.of hx,e2,?_⟩
  refine⟨_,rfl,tq,_,_,_,rfl,rfl,hq,rfl,r,_,rfl,.inr hr',rfl,_,rfl,aO (fun c=>?_) (fun c=>?_)⟩
  ·have c':(((t.2.map V.int).length:Nat):Int)=0:=by
    have:=of_decide_eq_true c
    injection this
   rw[List.length_map]at c'
   have e:t.2=[]:=List.length_eq_zero_iff.mp (by omega)
   refine⟨_,rfl,tq,_,_,_,rfl,rfl,hq,rfl,?_⟩
   have:=q H (ax.refl H)
   rw[e]at this
   exact this
  have hne:t.2≠[]:=fun e=>c (by rw[e];decide)
  refine⟨rfl,_,rfl,tq,_,_,_,rfl,rfl,hq,rfl,r,rfl,⟨_,hr'⟩,fun D hD=>zbC zdB (fun i us H'=>ax H H'∧us=((t.2.take i).map (gS (txs T'))).map V.str) (fun i us H' ⟨s4,_⟩=>s4.tup hr') ⟨ar hD _,rfl⟩ ?_ ?_⟩
  ·rintro i us H8 x H4 hi hly hDs ⟨s4,rfl⟩ ⟨rfl,hx4⟩
   obtain⟨k',hk',rfl⟩:=zie (hx4 _ (s4.tup hr'))
   have kb:=wf.2 k' (List.mem_of_getElem? hk')
   refine⟨_,rfl,_,rfl,p,tl,al,rl,T',As,Rs,k',rfl,hP.same s4,kb.1,by omega,by omega,fun H5 s5=>zaY (szM (by rw[List.length_map];omega)) hi hly (s5 _ _ hDs) ⟨(s4.trans s5).upd hD,?_⟩⟩
   rw[zaC hk',List.map_append,List.map_append]
   rfl
  rintro us H4 hDs ⟨s4,rfl⟩
  rw[List.length_map,List.take_of_length_le (Nat.le_refl _)]at hDs
  have ls:zbc (t.2.map (gS (txs T')))≤2000 * t.2.length:=by
   have:=zdM (m:=2000) (ss:=t.2.map (gS (txs T'))) fun s hs=>by
    obtain⟨p',_,rfl⟩:=List.mem_map.mp hs
    exact hP.sm.g p'
   rw[List.length_map]at this
   exact this
  have gl:=zbU ", " (t.2.map (gS (txs T')))
  rw[c3,List.length_map]at gl
  refine⟨", ",D,_,rfl,rfl,SqL.of hDs,szM (by rw[c3,List.length_map];omega),?_⟩
  refine⟨_,rfl,tq,_,_,_,rfl,rfl,s4.tup hq,rfl,_,_,rfl,rfl,szM (by rw[c1];omega),_,rfl,_,_,rfl,rfl,szM (by rw[zai,c1];omega),_,_,rfl,rfl,szM (by rw[zai,zai,c1,c2];omega),?_⟩
  have e:zaQ t.1 (t.2.map (gS (txs T')))=t.1++"("++Builtin.Str.glued ", " (t.2.map (gS (txs T')))++")":=by
   unfold zaQ
   rw[if_neg (by
    cases e:t.2 with
    | nil=>exact absurd e hne
    | cons a l=>simp)]
  rw[←e]
  exact q H4 s4
def zhb (K:W.Frag) (C:Addr):Sp:=fun vs H Q _=>∃(p tl al rl:Addr) (T:List Tm) (As:List At) (Rs:List (List Int)) (k:Int),vs=[.ref p,.int k]∧PrW K C H p tl al rl T As Rs∧1≤k∧k≤(As.length:Int)∧T.length≤61∧∀ H',ax H H'→Q (.str (atx (txs T) (aG As k))) H'
theorem zek:zaa ["problem","number","atom"] ["problem","number"] (ap zdd):=⟨rfl,rfl,rfl,by decide +kernel,rfl,by decide +kernel,by decide +kernel⟩
theorem zkl (F:Fun K "shown_atom" "shown_atom" zdd f fd) (T:Txt K mg aK C CN CT CP CM) (BT:FB P w K mg base CX0 61 "shown_term" fT dT' ["problem","number"] (zg9 K C 61)):FnOk P w K mg base CX0 62 f fd ["problem","number"] (zhb K C):=by
 refine F.ok zek (fun vs H Q E h=>?_) (fun cdv A outer s H vs Q E hr h=>?_)
 ·obtain⟨p,tl,al,rl,T,As,Rs,k,rfl,_⟩:=h
  rfl
 obtain⟨p,tl,al,rl,T',As,Rs,k,rfl,hP,k0,k1,t61,q⟩:=h
 refine⟨_,(ai (aA (i:=2) zek.nd rfl (Or.inl rfl) (aB zaq (zaB (pv 0) rfl) (aw zcm (pv 1) ah) (fun _ _=>rfl)))
  (ai (zal (zac zbu (aB zah (pv 2) ah (fun _ _=>rfl)) aD (zam _))
   (ak (aE (aB zah (pv 2) ah (fun _ _=>rfl))))
   zab)
  (ak (aE (aw zas (aw zas (az BT.ok hr rfl BT.m BT.kp BT.b .nil aF (aa (pv 0) (aa (aB zah (pv 2) ah (fun _ _=>rfl)) ac))) aD) (az BT.ok hr rfl BT.m BT.kp BT.b .nil aF (aa (pv 0) (aa (aB zah (pv 2) ah (fun _ _=>rfl)) ac)))))))),?_⟩
 obtain⟨dx,xs,ho,hx,xl⟩:=hP.pr.lenA
 obtain⟨xs',hx',hxs⟩:=hP.pr.am
 cases hx.symm.trans hx'
 obtain⟨x,e1,e2⟩:=zjv (xs:=xs) (i:=k - 1) (by omega) (by omega)
 obtain⟨a,ha,hax⟩:=zlr hxs e1
 have pk:POk As.length k:=⟨by omega,by omega,by omega⟩
 have ea:aG As k=a:=by
  have:=ziF pk
  rw[show k.natAbs - 1=(k - 1).toNat by omega,ha]at this
  exact(Option.some.inj this).symm
 rw[ea]at q
 have aok:=hP.ao a (List.mem_of_getElem? ha)
 refine⟨_,rfl,p,C,dx,_,_,rfl,ho,T.cl,T.nA,zbr _ _ _,_,rfl,_,_,rfl,rfl,al,_,_,_,rfl,rfl,SqL.of hx,e2,?_⟩
 cases a with
 | plain z =>
  obtain⟨aq,rfl,hq⟩:=zjS hax
  exact⟨_,rfl,aq,_,_,_,rfl,rfl,hq,rfl,rfl,_,rfl,aO (fun _=>⟨_,rfl,aq,_,_,_,rfl,rfl,hq,rfl,q H (ax.refl H)⟩) (fun c=>absurd (show _=true by decide +kernel) c)⟩
 | same x y =>
  obtain⟨aq,rfl,hq⟩:=zkD hax
  have g1:=hP.sm.g x
  have g2:=hP.sm.g y
  refine⟨_,rfl,aq,_,_,_,rfl,rfl,hq,rfl,rfl,_,rfl,aO (fun c=>absurd c (by decide +kernel)) (fun _=>?_)⟩
  refine⟨_,rfl,_,rfl,aq,_,_,_,rfl,rfl,hq,rfl,p,tl,al,rl,T',As,Rs,x,rfl,hP,aok.1.1,aok.1.2,by have:=aok.1.2;omega,fun H1 s1=>⟨_,_,rfl,rfl,szM (by rw[c5];omega),_,rfl,_,rfl,aq,_,_,_,rfl,rfl,s1.tup hq,rfl,p,tl,al,rl,T',As,Rs,y,rfl,hP.same s1,aok.2.1,aok.2.2,by have:=aok.2.2;omega,fun H2 s2=>⟨_,_,rfl,rfl,szM (by rw[zai,c5];omega),q H2 (s1.trans s2)⟩⟩⟩
def zha (K:W.Frag) (C:Addr):Sp:=fun vs H Q _=>∃(p tl al rl:Addr) (T:List Tm) (As:List At) (Rs:List (List Int)) (k:Int),vs=[.ref p,.int k]∧PrW K C H p tl al rl T As Rs∧POk As.length k∧T.length≤61∧∀ H',ax H H'→Q (.str (ptx (txs T) As k)) H'
theorem zgC:zaa ["problem","part"] ["problem","part"] (ap zdc):=⟨rfl,rfl,rfl,by decide +kernel,rfl,by decide +kernel,by decide +kernel⟩
theorem aG_neg (As:List At) (k:Int):aG As (-k)=aG As k:=by
 unfold aG
 rw[Int.natAbs_neg]
theorem zkk (F:Fun K "shown_part" "shown_part" zdc f fd) (BA:FB P w K mg base CX0 62 "shown_atom" fA dA' ["problem","number"] (zhb K C)):FnOk P w K mg base CX0 63 f fd ["problem","part"] (zha K C):=by
 refine F.ok zgC (fun vs H Q E h=>?_) (fun cdv A outer s H vs Q E hr h=>?_)
 ·obtain⟨p,tl,al,rl,T,As,Rs,k,rfl,_⟩:=h
  rfl
 obtain⟨p,tl,al,rl,T',As,Rs,k,rfl,hP,pk,t61,q⟩:=h
 refine⟨_,(ai (zal (zac zfj (pv 1) ah (zam _))
   (ak (aE (aw zas aD (az BA.ok hr rfl BA.m BA.kp BA.b .nil aF (aa (pv 0) (aa (zeL zdC (pv 1)) ac))))))
   zab)
  (ak (aE (az BA.ok hr rfl BA.m BA.kp BA.b .nil aF (aa (pv 0) (aa (pv 1) ac)))))),?_⟩
 have al':=ziq hP.sm (hP.ao _ (zjy pk))
 obtain⟨p0,p1,p2⟩:=pk
 refine⟨_,rfl,_,_,rfl,rfl,_,rfl,aO (fun c=>?_) (fun c=>?_)⟩
 ·have c':k < 0:=of_decide_eq_true c
  refine⟨_,rfl,_,rfl,_,rfl,p,tl,al,rl,T',As,Rs,-k,rfl,hP,by omega,by omega,t61,fun H1 s1=>?_⟩
  have:=q H1 s1
  unfold ptx at this
  rw[if_pos c']at this
  rw[aG_neg]
  exact⟨_,_,rfl,rfl,szM (by rw[c6];omega),this⟩
 ·have c':¬k < 0:=fun z=>c (decide_eq_true z)
  refine⟨_,rfl,_,rfl,p,tl,al,rl,T',As,Rs,k,rfl,hP,by omega,by omega,t61,fun H1 s1=>?_⟩
  have:=q H1 s1
  unfold ptx at this
  rw[if_neg c']at this
  exact this
def zhZ (K:W.Frag) (C:Addr):Sp:=fun vs H Q _=>∃(p tl al rl r:Addr) (T:List Tm) (As:List At) (Rs:List (List Int)) (ks:List Int),vs=[.ref p,.ref r]∧PrW K C H p tl al rl T As Rs∧SqT K H r (ks.map V.int)∧(∀ k∈ks,POk As.length k)∧ks.length≤10∧T.length≤61∧∀ H',ax H H'→Q (.str (rtx (txs T) As ks)) H'
theorem zhK:zaa ["problem","row"] ["problem","row"] (ap zcG):=⟨rfl,rfl,rfl,by decide +kernel,rfl,by decide +kernel,by decide +kernel⟩
theorem zlc (F:Fun K "shown_row" "shown_row" zcG f fd) (T:Txt K mg aK C CN CT CP CM) (BP:FB P w K mg base CX0 63 "shown_part" fP dP ["problem","part"] (zha K C)):FnOk P w K mg base CX0 64 f fd ["problem","row"] (zhZ K C):=by
 refine F.ok zhK (fun vs H Q E h=>?_) (fun cdv A outer s H vs Q E hr h=>?_)
 ·obtain⟨p,tl,al,rl,r,T,As,Rs,ks,rfl,_⟩:=h
  rfl
 obtain⟨p,tl,al,rl,r,T',As,Rs,ks,rfl,hP,hr',kok,k10,t61,q⟩:=h
 refine⟨_,(ai (zal (zac zbu (zap zao rfl T.len PySem.boot_len (aa (pv 1) ac)) ah (zam _))
   (ak (aE aD))
   zab)
  (ak (aE (zaL PySem.F.plainAttrs_str PySem.F.slot_str_join PySem.F.type_str_join zdI aD (aa (zbP (N':=["part","problem"]) (ix:=[0]) rfl rfl (by decide +kernel) (by decide +kernel) rfl (fun ok=>zb4 (sc:=ap zcG) ok rfl (by decide +kernel) (by decide +kernel)) (by decide +kernel) rfl rfl (fun j i h=>match j,h with | 0,h=>by cases h;exact⟨_,rfl,rfl,.inl rfl,.inl rfl⟩ | n+1,h=>by simp at h) (zdD (pv 1)) (fun _ _ _ _=>(az BP.ok hr rfl BP.m BP.kp BP.b .nil aF (aa (pv 1) (aa (pv 0) ac))))) ac))))),?_⟩
 refine⟨_,rfl,r,_,rfl,.inr hr',rfl,_,rfl,aO (fun c=>?_) (fun c=>?_)⟩
 ·have c':(((ks.map V.int).length:Nat):Int)=0:=by
   have:=of_decide_eq_true c
   injection this
  rw[List.length_map]at c'
  have e:ks=[]:=List.length_eq_zero_iff.mp (by omega)
  subst e
  exact q H (ax.refl H)
 have hne:ks≠[]:=fun e=>c (by rw[e];decide)
 refine⟨rfl,_,rfl,r,rfl,⟨_,hr'⟩,fun D hD=>zbC zdB (fun i us H'=>ax H H'∧us=((ks.take i).map (ptx (txs T') As)).map V.str) (fun i us H' ⟨s4,_⟩=>s4.tup hr') ⟨ar hD _,rfl⟩ ?_ ?_⟩
 ·rintro i us H8 x H4 hi hly hDs ⟨s4,rfl⟩ ⟨rfl,hx4⟩
  obtain⟨k',hk',rfl⟩:=zie (hx4 _ (s4.tup hr'))
  refine⟨_,rfl,_,rfl,p,tl,al,rl,T',As,Rs,k',rfl,hP.same s4,kok k' (List.mem_of_getElem? hk'),t61,fun H5 s5=>zaY (szM (by rw[List.length_map];omega)) hi hly (s5 _ _ hDs) ⟨(s4.trans s5).upd hD,?_⟩⟩
  rw[zaC hk',List.map_append,List.map_append]
  rfl
 rintro us H4 hDs ⟨s4,rfl⟩
 rw[List.length_map,List.take_of_length_le (Nat.le_refl _)]at hDs
 have pl:=zhr hP.sm hP.ao kok
 refine⟨" or ",D,_,rfl,rfl,SqL.of hDs,szM (by rw[c4,List.length_map];omega),?_⟩
 have:=q H4 s4
 unfold rtx at this
 rw[if_neg (by
  cases ks with
  | nil=>exact absurd rfl hne
  | cons a l=>simp)]at this
 exact this
def zec (K:W.Frag) (C:Addr):Sp:=fun vs H Q _=>∃(p tl al rl:Addr) (T:List Tm) (As:List At) (Rs:List (List Int)),vs=[.ref p]∧PrW K C H p tl al rl T As Rs∧(∀ r∈Rs,r.length≤10∧∀ k∈r,POk As.length k)∧Rs.length≤200∧T.length≤61∧∀ H',ax H H'→Q (.str (wtx (txs T) As Rs)) H'
theorem ziL:zaa ["problem"] ["problem"] (ap zdn):=⟨rfl,rfl,rfl,by decide +kernel,rfl,by decide +kernel,by decide +kernel⟩
theorem ziN (F:Fun K "written" "written" zdn f fd) (T:Txt K mg aK C CN CT CP CM) (BR:FB P w K mg base CX0 64 "shown_row" fR dR' ["problem","row"] (zhZ K C)):FnOk P w K mg base CX0 65 f fd ["problem"] (zec K C):=by
 refine F.ok ziL (fun vs H Q E h=>?_) (fun cdv A outer s H vs Q E hr h=>?_)
 ·obtain⟨p,tl,al,rl,T,As,Rs,rfl,_⟩:=h
  rfl
 obtain⟨p,tl,al,rl,T',As,Rs,rfl,hP,rok,r20,t61,q⟩:=h
 refine⟨_,(ak (aE (zaL PySem.F.plainAttrs_str PySem.F.slot_str_join PySem.F.type_str_join zdI aD (aa (zbP (N':=["row","problem"]) (ix:=[0]) rfl rfl (by decide +kernel) (by decide +kernel) rfl (fun ok=>zb4 (sc:=ap zdn) ok rfl (by decide +kernel) (by decide +kernel)) (by decide +kernel) rfl rfl (fun j i h=>match j,h with | 0,h=>by cases h;exact⟨_,rfl,rfl,.inl rfl,.inl rfl⟩ | n+1,h=>by simp at h) (zbL (zaB (pv 0) rfl)) (fun _ _ _ _=>(aw zas (az BR.ok hr rfl BR.m BR.kp BR.b .nil aF (aa (pv 1) (aa (pv 0) ac))) aD))) ac)))),?_⟩
 obtain⟨dx,xs,ho,hx,xl⟩:=hP.pr.lenR
 obtain⟨xs',hx',hxs⟩:=hP.pr.rm
 cases hx.symm.trans hx'
 refine⟨rfl,_,rfl,p,C,dx,_,_,rfl,ho,T.cl,T.nR,zcf _ _ _,rl,rfl,⟨_,SqL.of hx⟩,fun D hD=>zbC zbI (fun i us H'=>ax H H'∧us=((Rs.take i).map fun r=>rtx (txs T') As r++"\n").map V.str) (fun i us H' ⟨s4,_⟩=>SqL.of (s4 _ _ hx)) ⟨ar hD _,rfl⟩ ?_ ?_⟩
 ·rintro i us H8 x H4 hi hly hDs ⟨s4,rfl⟩ ⟨rfl,hx4⟩
  obtain⟨r,rq,hrr,rfl,hrq⟩:=zlq (hxs.keep s4.kt (zag za4 _)) (hx4 _ (SqL.of (s4 _ _ hx)))
  have rk:=rok r (List.mem_of_getElem? hrr)
  have rl':=zh4 hP.sm hP.ao rk.2 rk.1
  refine⟨_,rfl,_,rfl,p,tl,al,rl,rq,T',As,Rs,r,rfl,hP.same s4,hrq,rk.2,rk.1,t61,fun H5 s5=>⟨_,_,rfl,rfl,szM (by rw[c7];omega),zaY (szM (by omega)) hi hly (s5 _ _ hDs) ⟨(s4.trans s5).upd hD,?_⟩⟩⟩
  rw[zaC hrr,List.map_append,List.map_append]
  rfl
 rintro us H4 hDs ⟨s4,rfl⟩
 rw[xl,List.take_of_length_le (Nat.le_refl _)]at hDs
 have pl:=zka hP.sm hP.ao rok
 exact⟨"",D,_,rfl,rfl,SqL.of hDs,szM (by rw[c9,List.length_map];omega),q H4 s4⟩
end
end K05
namespace K05
open PySem L2
open F05 (Tr dTr aQ zaQ txt zaE)
open C05 (PA Prt cRw NP cp cp_len za6 cPt cPA jn sOr cT)
structure Cl (t:Tr):Prop where
 g:GTr t
 l:(txt t).length≤2000
mutual
def zdu:Tr→Prop
 | .node n ts=>Cl (.node n ts)∧zdT ts
def zdT:List Tr→Prop
 | []=>True
 | t :: ts=>zdu t∧zdT ts
end
theorem zdu.cl {t:Tr} (h:zdu t):Cl t:=by
 cases t with
 | node n ts=>simp only[zdu]at h;exact h.1
def Cov (T:List Tm):Prop:=∀ i,i < T.length→∃ t,Cl t∧ad T t=(T,i)
theorem Cov.nil:Cov []:=fun i h=>absurd h (Nat.not_lt_zero _)
mutual
theorem zfh:∀(t:Tr) {T:List Tm},zdu t→Cov T→Cov (ad T t).1
 | .node n ts,T,h,c=>by
  simp only[zdu]at h
  have c1:=zgy ts h.2 c
  have ag:=zaV (.node n ts) (T:=T) (List.prefix_refl _)
  by_cases m:(n,(av T ts).2)∈(av T ts).1
  ·have e:(ad T (.node n ts)).1=(av T ts).1:=by simp only[ad,if_pos m]
   rw[e]
   exact c1
  ·have e:ad T (.node n ts)=((av T ts).1++[(n,(av T ts).2)],(av T ts).1.length):=by simp only[ad,if_neg m,List.idxOf_eq_length m]
   rw[e]at ag ⊢
   intro i hi
   by_cases l:i < (av T ts).1.length
   ·obtain⟨u,cu,hu⟩:=c1 i l
    exact⟨u,cu,zff hu (List.prefix_append _ _)⟩
   ·have il:i=(av T ts).1.length:=by
     rw[List.length_append,List.length_singleton]at hi
     omega
    subst il
    exact⟨.node n ts,h.1,ag⟩
theorem zgy:∀(ts:List Tr) {T:List Tm},zdT ts→Cov T→Cov (av T ts).1
 | [],T,_,c=>c
 | t :: ts,T,h,c=>by
  simp only[zdT]at h
  exact zgy ts h.2 (zfh t h.1 c)
end
theorem pre_eq {α:Type} {a b:List α} (p:a <+: b) (q:b <+: a):a=b:=p.eq_of_length (Nat.le_antisymm p.length_le q.length_le)
theorem zfW {T:List Tm} {n:Str} {ts:List Tr} {k:Nat} (h:ad T (.node n ts)=(T,k)):av T ts=(T,(av T ts).2)∧T[k]?=some (n,(av T ts).2):=by
 have p1:=zdq T ts
 have e1:(av T ts).1=T:=by
  simp only[ad]at h
  have h1:=congrArg Prod.fst h
  dsimp only at h1
  split at h1
  ·exact h1
  ·exact absurd h1 (fun e=>by
    have:=congrArg List.length e
    rw[List.length_append,List.length_singleton]at this
    have:=p1.length_le
    omega)
 have e2:av T ts=(T,(av T ts).2):=by
  conv=>lhs;rw[←Prod.eta (av T ts),e1]
 refine⟨e2,?_⟩
 simp only[ad]at h
 rw[e1]at h
 by_cases m:(n,(av T ts).2)∈T
 ·rw[if_pos m]at h
  have:=congrArg Prod.snd h
  dsimp only at this
  rw[←this]
  exact zcx m
 ·rw[if_neg m]at h
  have:=congrArg (fun x=>x.1.length) h
  dsimp only at this
  rw[List.length_append,List.length_singleton]at this
  omega
theorem Cov.wf {T:List Tm} (c:Cov T) (w:WT T):Wf T:=fun i t e=>by
 obtain⟨u,cu,hu⟩:=c i (List.getElem?_eq_some_iff.mp e).1
 cases u with
 | node n ts =>
  obtain⟨_,h2⟩:=zfW hu
  rw[e]at h2
  cases h2
  have g:=cu.g
  simp only[GTr]at g
  refine⟨?_,fun p hp=>w i _ _ e p hp⟩
  dsimp only
  rw[zgx]
  exact g.2.2.1
mutual
theorem zd8 {T:List Tm} (W:Wf T):∀(t:Tr) {k:Nat},ad T t=(T,k)→gS (txs T) (k:Int)=txt t
 | .node n ts,k,h=>by
  obtain⟨h1,h2⟩:=zfW h
  have:=ziZ W h2
  rw[ziB (by omega) (by rw[Int.toNat_natCast];exact this)]
  simp only[txt]
  rw[zgw W ts h1]
theorem zgw {T:List Tm} (W:Wf T):∀(ts:List Tr) {ks:List Int},av T ts=(T,ks)→ks.map (gS (txs T))=zaE ts
 | [],ks,h=>by
  simp only[av]at h
  cases h
  rfl
 | t :: ts,ks,h=>by
  simp only[av]at h
  have h1:=congrArg Prod.fst h
  have h2:=congrArg Prod.snd h
  dsimp only at h1 h2
  have p1:=zbE T t
  have p2:=zdq (ad T t).1 ts
  rw[h1]at p2
  have e1:(ad T t).1=T:=(pre_eq p1 p2).symm
  have a1:ad T t=(T,(ad T t).2):=by
   conv=>lhs;rw[←Prod.eta (ad T t),e1]
  rw[e1]at h1 h2
  have a2:av T ts=(T,(av T ts).2):=by
   conv=>lhs;rw[←Prod.eta (av T ts),h1]
  rw[←h2]
  simp only[List.map_cons,zaE]
  rw[zd8 W t a1,zgw W ts a2]
end
theorem Cov.sm {T:List Tm} (c:Cov T) (W:Wf T):Sm (txs T):=fun s hs=>by
 obtain⟨i,hi⟩:=List.mem_iff_getElem?.mp hs
 have il:i < T.length:=by rw[←zfK];exact(List.getElem?_eq_some_iff.mp hi).1
 obtain⟨u,cu,hu⟩:=c i il
 have e1:=zd8 W u hu
 have e2:=ziB (us:=txs T) (p:=(i:Int)) (by omega) (by rw[Int.toNat_natCast];exact hi)
 rw[e1]at e2
 rw[←e2]
 exact cu.l
theorem Cov.nm {T:List Tm} (c:Cov T):∀ t∈T,t.1.length≤8:=fun t ht=>by
 obtain⟨i,hi⟩:=List.mem_iff_getElem?.mp ht
 obtain⟨u,cu,hu⟩:=c i (List.getElem?_eq_some_iff.mp hi).1
 cases u with
 | node n ts =>
  obtain⟨_,h2⟩:=zfW hu
  rw[hi]at h2
  cases h2
  have g:=cu.g
  simp only[GTr]at g
  have:=g.1
  unfold za0 at this
  rw[Bool.and_eq_true,Bool.and_eq_true,decide_eq_true_eq]at this
  dsimp only
  omega
def CPA:PA→Prop
 | .plain z=>z.length≤8
 | .same t u=>zdu t∧zdu u
theorem zlI {s:S5} {a:PA} (h:CPA a) (c:Cov s.T):Cov (aPA s a).1.T:=by
 cases a with
 | plain z =>
  simp only[aPA]
  split <;> exact c
 | same t u =>
  have:=zfh u h.2 (zfh t h.1 c)
  simp only[aPA]
  split
  ·exact this
  ·split <;> exact this
theorem zlE:∀(rs:List (List Prt)) {s:S5},Cov s.T→(∀ r∈rs,∀ p∈r,CPA p.a)→Cov (aRs s rs).1.T:=fun rs=>by
 have row:∀(r:List Prt) {s:S5},Cov s.T→(∀ p∈r,CPA p.a)→Cov (aRw s r).1.T:=fun r=>by
  induction r with
  | nil=>intro s h _;exact h
  | cons p r ih=>intro s h hp;exact ih (s:=(aPt s p).1) (zlI (hp p (by simp)) h) fun q hq=>hp q (List.mem_cons_of_mem _ hq)
 induction rs with
 | nil=>intro s h _;exact h
 | cons r rs ih=>intro s h hp;exact ih (s:=(aRw s r).1) (row r h (hp r (by simp))) fun q hq=>hp q (List.mem_cons_of_mem _ hq)
theorem I5.ao {s:S5} (I:I5 s) (hb:∀ q∈s.B,CPA q):∀ a∈s.A,AOk s.T.length a:=fun a ha=>by
 obtain⟨i,hi⟩:=List.mem_iff_getElem?.mp ha
 cases a with
 | plain z =>
  have:=hb _ (List.mem_of_getElem? (I.pl i z hi))
  exact this
 | same a b =>
  obtain⟨t,u,_,h0,h1,h2,h3⟩:=I.sm i a b hi
  have l2:=zd9 h2
  have l3:=zd9 h3
  exact⟨⟨by omega,by omega⟩,by omega,by omega⟩
theorem cp_PA {s:S5} (I:I5 s) (W:Wf s.T) {k:Int} (h1:1≤k.natAbs) (h2:k.natAbs≤s.A.length):cp (ptx (txs s.T) s.A k)=cPt (bk s k):=by
 have pk:POk s.A.length k:=⟨by omega,by omega,by omega⟩
 have ag:=ziF pk
 have atxE:cp (atx (txs s.T) (aG s.A k))=cPA (bk s k).a:=by
  unfold bk
  dsimp only
  cases e:aG s.A k with
  | plain z =>
   rw[e]at ag
   rw[I.pl _ _ ag]
   rfl
  | same a b =>
   rw[e]at ag
   obtain⟨t,u,hb,h0,h0',ha,hu⟩:=I.sm _ _ _ ag
   rw[hb]
   have e1:=zd8 W t ha
   have e2:=zd8 W u hu
   rw[Int.toNat_of_nonneg h0]at e1
   rw[Int.toNat_of_nonneg h0']at e2
   simp only[atx,Option.getD_some,cPA]
   rw[e1,e2,za6,za6,C05.cp_txt,C05.cp_txt]
   rfl
 unfold ptx cPt
 by_cases c:k < 0
 ·rw[if_pos c,za6,atxE,C05.c_not]
  simp [bk,c]
 ·rw[if_neg c,atxE]
  simp [bk,c]
theorem zf3 (y:Str):∀(ps:List Str),ps≠[]→cp (Builtin.Str.glued y ps)=jn (cp y) (ps.map cp)
 | [],h=>absurd rfl h
 | [p],_=>by
  rw[C05.cp_glued]
  simp [jn]
 | p :: q :: t,_=>by
  have ih:=zf3 y (q :: t) (by simp)
  rw[C05.cp_glued]at ih ⊢
  simp only[List.map_cons,jn,List.flatMap_cons]
  rw[←List.map_cons,←ih]
  simp only[List.append_assoc]
theorem zjr {s:S5} (I:I5 s) (W:Wf s.T) {r:List Int} (h:∀ k∈r,1≤k.natAbs∧k.natAbs≤s.A.length):cp (rtx (txs s.T) s.A r)=cRw (r.map (bk s)):=by
 unfold rtx cRw
 by_cases c:r=[]
 ·subst c
  rfl
 ·rw[if_neg (by simpa using c),if_neg (by simpa using c),zf3 _ _ (by simpa using c),List.map_map,List.map_map]
  have e1:cp " or "=sOr:=by decide +kernel
  rw[e1]
  congr 1
  exact List.map_congr_left fun k hk=>cp_PA I W (h k hk).1 (h k hk).2
theorem cp_all {s:S5} (I:I5 s) (W:Wf s.T):∀ {R:List (List Int)},(∀ r∈R,∀ k∈r,1≤k.natAbs∧k.natAbs≤s.A.length)→cp (wtx (txs s.T) s.A R)=zbb (R.map fun r=>r.map (bk s)):=fun {R} h=>by
 unfold wtx zbb
 cases R with
 | nil=>rfl
 | cons r R =>
  have gl:∀(R:List (List Int)),(∀ r∈R,∀ k∈r,1≤k.natAbs∧k.natAbs≤s.A.length)→(R.map fun r=>rtx (txs s.T) s.A r++"\n").flatMap (fun q=>cp ""++cp q)=R.flatMap fun r=>cRw (r.map (bk s))++[10]:=fun R hR=>by
   induction R with
   | nil=>rfl
   | cons r R ih =>
    simp only[List.map_cons,List.flatMap_cons]
    rw[ih fun x hx=>hR x (List.mem_cons_of_mem _ hx),za6,zjr I W (hR r (by simp))]
    have e0:cp ""=[]:=by decide +kernel
    have e1:cp "\n"=[10]:=by decide +kernel
    rw[e0,e1,List.nil_append]
  rw[List.map_cons,C05.cp_glued,gl R fun x hx=>h x (List.mem_cons_of_mem _ hx),za6,zjr I W (h r (by simp)),List.flatMap_map,List.flatMap_cons]
  have e1:cp "\n"=[10]:=by decide +kernel
  rw[e1]
end K05
namespace K05
open PySem L2
open F05 (Tr dTr aQ zaQ txt zaE)
open C05 (PA Prt NP cp cp_len Nm NT NTs)
theorem at_mem {α:Type} {xs:List α} {i:Int} {c:α} (h:atI xs i=some c):c∈xs:=by
 unfold atI at h
 cases e:ixN xs.length i with
 | none=>rw[e]at h;cases h
 | some j=>rw[e]at h;exact List.mem_of_getElem? h
theorem zcM (a:Int) {b:Int} (h:0 < b):0≤a % b∧a % b < b:=⟨Int.emod_nonneg _ (by omega),Int.emod_lt_of_pos _ h⟩
def zbX:List Nat:=[98,120,102,122]
theorem zf8:∀ c∈abc.cps.toList,isL ⟨#[c]⟩=true:=by decide +kernel
theorem zf7:∀ c∈abc.cps.toList,c < 1000:=by decide +kernel
theorem ziV {z:Str} (h:inV (.str z) zdj=true):∀ c∈z.cps.toList,c∉zbX:=by
 obtain⟨y,hy,e⟩:=List.any_eq_true.mp h
 have key:∀ w:Str,(∀ c∈w.cps.toList,c∉zbX)→eqV (.str w) (.str z)=true→∀ c∈z.cps.toList,c∉zbX:=fun w hw e=>by
  have e':w=z:=eq_of_beq e
  rw[←e']
  exact hw
 simp only[zdj,List.mem_cons,List.not_mem_nil,or_false]at hy
 rcases hy with rfl | rfl | rfl | rfl | rfl | rfl | rfl | rfl
 all_goals exact key _ (by decide +kernel) e
theorem zkw {z:Str} (h1:1≤z.length) (h8:z.length≤8) (ha:∀ c∈z.cps.toList,c∈abc.cps.toList) (hm:∃ c∈z.cps.toList,c∈zbX):za0 z=true:=by
 have e1:(lets z).all id=true:=by
  rw[List.all_eq_true]
  intro b hb
  unfold lets at hb
  obtain⟨c,hc,rfl⟩:=List.mem_map.mp hb
  exact zf8 c (ha c hc)
 have e2:inV (.str z) zdj=false:=by
  cases e:inV (.str z) zdj with
  | false=>rfl
  | true =>
   obtain⟨c,hc,hm⟩:=hm
   exact absurd hm (ziV e c hc)
 unfold za0 wordB
 rw[e1,e2,decide_eq_true (by omega:(0:Int) < (z.length:Int)),decide_eq_true (by omega:(z.length:Int)≤8)]
 rfl
structure ziG (z:Str):Prop where
 nm:za0 z=true
 lo:Low z
 mr:∃ c∈z.cps.toList,c∈zbX
 ab:∀ c∈z.cps.toList,c∈abc.cps.toList
theorem zf2 (a b:Str):(a++b).cps.toList=a.cps.toList++b.cps.toList:=by
 show(a.cps++b.cps).toList=_
 exact Array.toList_append
theorem zdL (a:Str):a.cps.toList.length=a.length:=by simp [Str.length]
theorem zj6 {x:Str} {j:Int} (h0:0≤j):(Txt.slice x none (some j)).cps.toList=x.cps.toList.take j.toNat:=by
 by_cases h:j≤x.cps.toList.length
 ·have e:=eq_of_beq (PyProof.Rows.slice_closes_to (x:=x) ⟨h0,h⟩)
  rw[e]
  simp
 ·have e:Txt.slice x none (some j)=x:=by
   have hn:(x.length:Int)≤j:=by rw[zdL]at h;omega
   have hz:(Builtin.Str.strSliceIndices none (some j) 1 x.length).length=x.length:=by
    unfold Builtin.Str.strSliceIndices
    simp only[show(1:Int) > 0 by decide,if_true]
    have e1:¬j < 0:=by omega
    simp only[e1,if_false]
    have e2:max 0 (min j (x.length:Int))=((x.length:Nat):Int):=by omega
    rw[e2]
    have e3:sliceRange 0 ((x.length:Nat):Int) 1=(List.range (x.length - 0)).map (0+·):=sliceRange_one 0 x.length
    rw[e3]
    simp
   unfold Txt.slice
   rw[if_pos (by rw[hz];simp)]
  rw[e,List.take_of_length_le (by omega)]
theorem zee {x:Str} {j:Int} (h0:0≤j):(Txt.slice x (some j) none).cps.toList=x.cps.toList.drop j.toNat:=by
 by_cases h:j≤x.length
 ·rw[PyProof.Rows.slice_from_eq h0 h rfl]
  show(x.cps.toList.drop j.toNat).take ((x.length:Int) - j).toNat=_
  rw[List.take_of_length_le]
  rw[List.length_drop,zdL]
  omega
 ·rw[PyProof.Rows.slice_beyond (by omega),List.drop_eq_nil_of_le (by rw[zdL];omega)]
  rfl
theorem zls {y:Str} {at_:Int} {c:Nat} (h0:0≤at_) (hy:y.length≤7) (ha:∀ c∈y.cps.toList,c∈abc.cps.toList) (hc:c∈zbX) (hca:c∈abc.cps.toList):ziG (Txt.slice y none (some at_)++⟨#[c]⟩++Txt.slice y (some at_) none)∧(Txt.slice y none (some at_)++⟨#[c]⟩++Txt.slice y (some at_) none).length=y.length+1:=by
 have e:(Txt.slice y none (some at_)++⟨#[c]⟩++Txt.slice y (some at_) none).cps.toList=y.cps.toList.take at_.toNat++[c]++y.cps.toList.drop at_.toNat:=by
  rw[zf2,zf2,zj6 h0,zee h0]
 have hl:(Txt.slice y none (some at_)++⟨#[c]⟩++Txt.slice y (some at_) none).length=y.length+1:=by
  rw[←zdL,e,List.length_append,List.length_append,List.length_take,List.length_drop,zdL]
  simp only[List.length_singleton]
  omega
 have hm:∀ d∈(Txt.slice y none (some at_)++⟨#[c]⟩++Txt.slice y (some at_) none).cps.toList,d∈abc.cps.toList:=fun d hd=>by
  rw[e]at hd
  rcases List.mem_append.mp hd with hd | hd
  ·rcases List.mem_append.mp hd with hd | hd
   ·exact ha d (List.mem_of_mem_take hd)
   ·rw[List.mem_singleton.mp hd]
    exact hca
  ·exact ha d (List.mem_of_mem_drop hd)
 have mk:∃ d∈(Txt.slice y none (some at_)++⟨#[c]⟩++Txt.slice y (some at_) none).cps.toList,d∈zbX:=⟨c,by rw[e];simp,hc⟩
 exact⟨⟨zkw (by omega) (by omega) hm mk,⟨by omega,fun d hd=>zf7 d (hm d hd)⟩,mk,hm⟩,hl⟩
structure GN (z:Str):Prop where
 nb:za0 z=true
 lo:Low z
 nm:Nm z
theorem gn_of {z:Str} (g:ziG z) (l:z.length≤8):GN z:=by
 obtain⟨nb,lo,⟨c,hc,hm⟩,ab⟩:=g
 refine⟨nb,lo,⟨⟨fun e=>?_,ab,by omega⟩,fun e=>?_,fun e=>?_,fun e=>?_⟩⟩
 ·have:c∈cp z:=hc
  rw[e]at this
  exact nomatch this
 ·have:c∈cp z:=hc
  rw[e]at this
  exact absurd hm ((show ∀ c∈[111,114],c∉zbX by decide) c this)
 ·have:c∈cp z:=hc
  rw[e]at this
  exact absurd hm ((show ∀ c∈[110,111,116],c∉zbX by decide) c this)
 ·have:c∈cp z:=hc
  rw[e]at this
  exact absurd hm ((show ∀ c∈cp "never",c∉zbX by decide +kernel) c this)
theorem GN.l8 {z:Str} (h:GN z):z.length≤8:=by
 have:=h.nb
 unfold za0 at this
 rw[Bool.and_eq_true,Bool.and_eq_true,decide_eq_true_eq]at this
 omega
section
variable {P:Program} {w:World} {K:W.Frag} {mg:Str→Option Value} {base:Heap} {aK C CN CT CP CM:Addr} {f g:Addr} {fd gd:FuncData}
def zi2:Sp:=fun vs H Q _=>∃ c n:Int,vs=[.int c,.int n]∧0≤n∧n≤100∧∀ y:Str,(y.length:Int)=n→(∀ d∈y.cps.toList,d∈abc.cps.toList)→Q (.str y) H
theorem scW:zaa ["_law_cell","_law_size_here","_law_letters","_law_word_here","_law_k"] ["_law_cell","_law_size_here"] (ap zdw):=⟨rfl,rfl,rfl,by decide +kernel,rfl,by decide +kernel,by decide +kernel⟩
theorem zk9 (F:Fun K "_law_word" "_law_word" zdw f fd) (T:Txt K mg aK C CN CT CP CM):FnOk P w K mg base CX0 1 f fd ["_law_cell","_law_size_here"] zi2:=by
 refine F.ok scW (fun vs H Q E h=>?_) (fun cdv A outer s H vs Q E hr h=>?_)
 ·obtain⟨c,n,rfl,_⟩:=h
  rfl
 obtain⟨c,n,rfl,h0,h1,q⟩:=h
 refine⟨_,ai (aA (i:=2) scW.nd rfl (Or.inl rfl) aD) (ai (aA (i:=3) scW.nd rfl (Or.inl rfl) aD)
  (ai (zbo PassesOwn.never rfl (zbd rfl T.range (aa (pv 1) ac)) (zaP (i:=4) scW.nd rfl (Or.inl rfl))
   (ai (aA (i:=0) scW.nd rfl (Or.inl rfl) (aw zar (aw zbw (aw zbF (pv 0) ah) ah) ah))
   (ak (aA (i:=3) scW.nd rfl (Or.inl rfl) (aw zas (pv 3) (aB zft (pv 2) (aw zar (aw zaX (pv 0) ah) ah) (fun _ _=>rfl)))))))
  (ak (aE (pv 3))))),?_⟩
 refine⟨_,rfl,n,rfl,by omega,by omega,zce (lo:=0) (n:=n.toNat) (fun i σ H'=>H'=H∧∃(c:Int) (y:Str) (k:Option V),σ=[some (.int c),some (.int n),some (.str abc),some (.str y),k]∧y.length=i∧∀ d∈y.cps.toList,d∈abc.cps.toList)
  ⟨rfl,c,"",none,rfl,by decide +kernel,by decide +kernel⟩ ?_ ?_⟩
 ·rintro i σ H' hi ⟨rfl,c,y,k,rfl,hy,hab⟩
  refine⟨_,rfl,_,_,rfl,rfl,.inr ⟨by decide,by decide⟩,_,_,rfl,rfl,_,_,rfl,rfl,(by show(0:Int) < 2147483647;decide),?_⟩
  have m:=zcM ((c * 48271+11) % 2147483647 / 7) (show(0:Int) < 26 by decide)
  obtain⟨ch,hch⟩:=at_in (xs:=abc.cps.toList) m.1 (by rw[zlC];exact m.2)
  refine⟨_,rfl,_,rfl,_,rfl,_,_,rfl,rfl,⟨by decide,by decide⟩,_,_,rfl,rfl,(by show(0:Int) < 26;decide),abc,_,ch,rfl,rfl,sz _ (by decide +kernel),hch,y,_,rfl,rfl,sz _ (by rw[zcu];omega),?_⟩
  refine⟨rfl,_,_,_,rfl,by rw[zai,zcu,hy],fun d hd=>?_⟩
  rw[zf2]at hd
  rcases List.mem_append.mp hd with hd | hd
  ·exact hab d hd
  ·have e:d=ch:=by simpa using hd
   rw[e]
   exact at_mem hch
 ·rintro σ H' ⟨rfl,c,y,k,rfl,hy,hab⟩
  exact⟨_,rfl,q y (by omega) hab⟩
def zhd:Sp:=fun vs H Q _=>∃ c:Int,vs=[.int c]∧∀(H':Hp) (l:Addr) (zs:List Str),zs.length=4→(∀ z∈zs,GN z)→ax H H'→H l=none→H' l=some (.lst (zs.map V.str))→Q (.ref l) H'
theorem zcP:zaa ["_law_cell","_law_base","_law_at"] ["_law_cell"] (ap zcp):=⟨rfl,rfl,rfl,by decide +kernel,rfl,by decide +kernel,by decide +kernel⟩
theorem three (i c:Nat) (h:(("bxfz":Str)).cps[i]?=some c):c∈zbX∧c∈abc.cps.toList:=by
 have h':c∈(("bxfz":Str)).cps.toList:=by
  rw[←Array.getElem?_toList]at h
  exact List.mem_of_getElem? h
 have:∀ c∈(("bxfz":Str)).cps.toList,c∈zbX∧c∈abc.cps.toList:=by decide +kernel
 exact this c h'
theorem zkq (F:Fun K "_law_names" "_law_names" zcp f fd) (BW:FB P w K mg base CX0 1 "_law_word" g gd ["_law_cell","_law_size_here"] zi2):FnOk P w K mg base CX0 2 f fd ["_law_cell"] zhd:=by
 refine F.ok zcP (fun vs H Q E h=>?_) (fun cdv A outer s H vs Q E hr h=>?_)
 ·obtain⟨c,rfl,_⟩:=h
  rfl
 obtain⟨c,rfl,q⟩:=h
 refine⟨_,(ai (aA (i:=1) zcP.nd rfl (Or.inr rfl) (az BW.ok hr rfl BW.m BW.kp BW.b .nil aF (aa (pv 0) (aa (aw zar (pv 0) ah) ac))))
  (ai (aA (i:=2) zcP.nd rfl (Or.inr rfl) (aw zar (aw zaX (pv 0) ah) ah))
  (ak (aE (zbP (N':=["_law_letter","_law_base","_law_at"]) (ix:=[1,2]) rfl rfl (by decide +kernel) (by decide +kernel) rfl (fun ok=>zb4 (sc:=ap zcp) ok rfl (by decide +kernel) (by decide +kernel)) (by decide +kernel) rfl rfl (fun j i h=>match j,h with | 0,h=>by cases h;exact⟨_,rfl,rfl,.inl rfl,.inl rfl⟩ | 1,h=>by cases h;exact⟨_,rfl,rfl,.inl rfl,.inl rfl⟩ | n+2,h=>by simp at h) (zja aD) (fun _ _ _ _=>(aw zas (aw zas (zbD zem (pv 1) zca (zbK (pv 2))) (pv 0)) (zbD zem (pv 1) (zbK (pv 2)) zca)))))))),?_⟩
 have b7:=zcM c (show(0:Int) < 7 by decide)
 refine⟨_,rfl,_,rfl,_,_,rfl,rfl,(by show(0:Int) < 7;decide),c,c % 7,rfl,by omega,by omega,fun y hy hab=>?_⟩
 refine⟨_,rfl,_,_,rfl,rfl,⟨by decide,by decide⟩,_,_,rfl,rfl,(by show(0:Int) < 8;decide),?_⟩
 have h7:y.length≤7:=by omega
 have h0:=(zcM (c / 8) (show(0:Int) < 8 by decide)).1
 refine⟨_,rfl,fun D hD=>⟨fun i m ys H'=>m=4 - i∧i≤4∧(∃ zs:List Str,zs.length=i∧(∀ z∈zs,ziG z∧z.length=y.length+1)∧ys=zs.map V.str)∧H'=upd H D (.lst ys),⟨4,rfl,Nat.zero_le _,⟨[],rfl,(fun z hz=>nomatch hz),rfl⟩,rfl⟩,?_⟩⟩
 rintro i m ys H' ⟨rfl,hi,⟨zs,hzl,hzg,rfl⟩,rfl⟩
 refine⟨ae,?_⟩
 have e4:(("bxfz":Str)).length=4:=by decide +kernel
 by_cases hlt:i < 4
 ·refine .inr ⟨(show i < (("bxfz":Str)).length by rw[e4];exact hlt),fun x H'' y'=>?_⟩
  obtain⟨rfl,ch,hch,rfl⟩:=y'
  obtain⟨hm,ha⟩:=three i ch hch
  have g:=zls h0 h7 hab hm ha
  refine⟨_,rfl,_,rfl,_,rfl,y,rfl,sz _ (by omega),_,rfl,_,_,rfl,rfl,sz _ (Nat.le_trans (Nat.add_le_add (zgX h7) (Nat.le_refl _)) (by rw[zcu];decide)),?_⟩
  refine⟨_,rfl,_,rfl,_,rfl,y,rfl,sz _ (by omega),_,_,rfl,rfl,sz _ (Nat.le_trans (Nat.add_le_add (by rw[zai,zcu];exact Nat.add_le_add (zgX h7) (Nat.le_refl _)) (zgX h7)) (by decide)),ae,?_,4 - (i+1),by omega,rfl,hlt,⟨zs++[Txt.slice y none (some (c / 8 % 8))++⟨#[ch]⟩++Txt.slice y (some (c / 8 % 8)) none],?_,?_,?_⟩,zhV⟩
  ·rw[List.length_map,hzl]
   exact Nat.lt_of_lt_of_le hlt (by decide)
  ·rw[List.length_append,hzl];rfl
  ·intro z hz
   rcases List.mem_append.mp hz with hz | hz
   ·exact hzg z hz
   ·rw[List.mem_singleton.mp hz]
    exact g
  ·rw[List.map_append];rfl
 ·have hi3:i=4:=by omega
  subst hi3
  exact .inl ⟨(show(("bxfz":Str)).length≤4 by rw[e4];exact Nat.le_refl _),q _ D zs hzl (fun z hz=>gn_of (hzg z hz).1 (by have:=(hzg z hz).2;omega)) (zaZ hD _) hD ae⟩
end
end K05
namespace K05
open PySem L2
open F05 (Tr dTr aQ zaQ txt zaE dp dps wt wts tr_at trs_get nols_dTrs nol_dTr dTrs_length dTrs_map zdV zdW zgK dps_le deps_dTrs)
open C05 (PA Prt NP cp cp_len Nm NT NTs cT cB cR)
mutual
def TGd:Tr→Prop
 | .node n ts=>GN n∧ts.length≤3∧zb2 ts
def zb2:List Tr→Prop
 | []=>True
 | t :: ts=>TGd t∧zb2 ts
end
theorem zir:∀ {ts:List Tr},(∀ t∈ts,TGd t)→zb2 ts
 | [],_=>by simp only[zb2]
 | t :: ts,h=>by
  simp only[zb2]
  exact⟨h t (by simp),zir fun u hu=>h u (List.mem_cons_of_mem _ hu)⟩
mutual
theorem TGd.nt:∀ {t:Tr},TGd t→NT t∧GTr t
 | .node n ts,h=>by
  simp only[TGd]at h
  obtain⟨a,b⟩:=zb2.nt h.2.2
  simp only[NT,GTr]
  exact⟨⟨h.1.nm,a,h.2.1⟩,h.1.nb,h.1.lo,h.2.1,b⟩
theorem zb2.nt:∀ {ts:List Tr},zb2 ts→NTs ts∧ze2 ts
 | [],_=>by simp only[NTs,ze2];exact⟨trivial,trivial⟩
 | t :: ts,h=>by
  simp only[zb2]at h
  obtain⟨a,b⟩:=TGd.nt h.1
  obtain⟨c,d⟩:=zb2.nt h.2
  simp only[NTs,ze2]
  exact⟨⟨a,c⟩,b,d⟩
end
mutual
theorem zck:∀ t:Tr,dp t≤szT t
 | .node n ts=>by
  have:=zjo ts
  simp only[dp,szT]
  omega
theorem zjo:∀ ts:List Tr,dps ts≤aI ts
 | []=>by simp [dps,aI]
 | t :: ts=>by
  have:=zck t
  have:=zjo ts
  simp only[dps,aI]
  omega
end
mutual
theorem zdl:∀ {t:Tr},TGd t→(cT t).length+2≤10 * szT t∧wt t+2≤12 * szT t
 | .node n ts,h=>by
  simp only[TGd]at h
  have l8:=h.1.l8
  obtain⟨a,_,c⟩:=cB_sz h.2.2
  simp only[cT,szT,wt,List.length_append,cp_len]
  omega
theorem cB_sz:∀ {ts:List Tr},zb2 ts→(cB ts).length≤10 * aI ts∧(cR ts).length≤10 * aI ts+1∧wts ts≤12 * aI ts
 | [],_=>by simp [cB,cR,aI,wts]
 | t :: ts,h=>by
  simp only[zb2]at h
  obtain⟨a,b⟩:=zdl h.1
  obtain⟨c,d,e⟩:=cB_sz h.2
  simp only[cB,cR,aI,wts,List.length_cons,List.length_append]
  omega
end
mutual
theorem ziD:∀ {t:Tr},TGd t→szT t≤100→zdu t
 | .node n ts,h,hs=>by
  have h1:=zdl h
  simp only[zdu]
  refine⟨⟨h.nt.2,?_⟩,?_⟩
  ·rw[←cp_len,C05.cp_txt]
   omega
  ·simp only[TGd]at h
   simp only[szT]at hs
   exact zjw h.2.2 (by omega)
theorem zjw:∀ {ts:List Tr},zb2 ts→aI ts≤100→zdT ts
 | [],_,_=>by simp only[zdT]
 | t :: ts,h,hs=>by
  simp only[zb2]at h
  simp only[aI]at hs
  simp only[zdT]
  exact⟨ziD h.1 (by omega),zjw h.2 (by omega)⟩
end
theorem zhW (t:Tr):1≤szT t:=by
 cases t with
 | node n ts=>simp only[szT];omega
theorem zb5:∀ a b:List Tr,aI (a++b)=aI a+aI b
 | [],b=>by simp [aI]
 | t :: a,b=>by simp only[List.cons_append,aI,zb5 a b];omega
theorem zg3:∀ {ts:List Tr} {t:Tr},t∈ts→szT t≤aI ts
 | u :: ts,t,h=>by
  simp only[aI]
  rcases List.mem_cons.mp h with rfl | h
  ·omega
  ·have:=zg3 h
   omega
theorem zg2:∀ ts:List Tr,aI ts=(ts.map szT).sum
 | []=>rfl
 | t :: ts=>by simp only[aI,List.map_cons,List.sum_cons,zg2 ts]
theorem zcz:∀ ts:List Tr,ts.length≤aI ts
 | []=>Nat.zero_le _
 | t :: ts=>by
  have:=zcz ts
  have:=zhW t
  simp only[aI,List.length_cons]
  omega
theorem zd4 (a b:List Tr):aQ (a++b)=aQ a++aQ b:=by rw[dTrs_map,dTrs_map,dTrs_map,List.map_append]
section
variable {P:Program} {w:World} {K:W.Frag} {mg:Str→Option Value} {base:Heap} {aK C CN CT CP CM:Addr} {f fC fG fZ:Addr} {fd dC dG dZ:FuncData}
def zfL (K:W.Frag) (n:Nat):Sp:=fun vs H Q _=>∃(t:Tr) (v:V),vs=[v]∧Has K H (dTr t) v∧dp t≤n∧wt t≤1000000∧∀ H',ax H H'→Q (.str (txt t)) H'
theorem zj4 {vs:List V} {H:Hp} {Q:VK} {E:XK}:¬zfL K 0 vs H Q E:=fun⟨t,v,_,_,h,_⟩=>by
 cases t
 simp only[dp]at h
 omega
theorem zjZ {nm:Str} {ts:List Tr} (h:ts≠[]):txt (.node nm ts)=nm++"("++Builtin.Str.glued ", " (zaE ts)++")":=by
 cases ts with
 | nil=>exact absurd rfl h
 | cons t ts=>rfl
theorem zkP {ts:List Tr} {i:Nat} {t:Tr} (h:ts[i]?=some t):(zaE ts)[i]?=some (txt t):=by rw[zdV,List.getElem?_map,h];rfl
theorem zeW (ts:List Tr):(zaE ts).length=ts.length:=by rw[zdV,List.length_map]
theorem zeV:zaa ["_law_tree"] ["_law_tree"] (ap zb8):=⟨rfl,rfl,rfl,by decide +kernel,rfl,by decide +kernel,by decide +kernel⟩
theorem zhv (F:Fun K "_law_tree_text" "_law_tree_text" zb8 f fd) (T:Txt K mg aK C CN CT CP CM) (b:ay K fd ["_law_tree"] []) (kp:W.keepIn K (.ref f)=true) (m:mg "_law_tree_text"=some (.ref f)):∀ n,n≤22→FnOk P w K mg base CX0 n f fd ["_law_tree"] (zfL K n)
 | 0,_=>F05.FnOk.no fun _ _ _ _=>zj4
 | n+1,hn=>by
  have IH:=zhv F T b kp m n (by omega)
  refine F.ok zeV (fun vs H Q E h=>?_) (fun cdv A outer s H vs Q E hr h=>?_)
  ·obtain⟨t,v,rfl,_⟩:=h
   rfl
  obtain⟨⟨nm,ts⟩,v,rfl,ht,hd,hw,q⟩:=h
  have hu:=zkO hr
  refine⟨_,(ai (zal (zac (zeo hu) (aB zah (pv 0) ah (fun _ _=>rfl)) (zak ac) rfl)
    (ak (aE (aB zah (pv 0) ah (fun _ _=>rfl))))
    zab)
   (ak (aE (aw zas (aw zas (aw zas (aB zah (pv 0) ah (fun _ _=>rfl)) aD) (zaL PySem.F.plainAttrs_str PySem.F.slot_str_join PySem.F.type_str_join zdI aD (aa (zbP (N':=["_law_inner"]) (ix:=[]) rfl rfl (by decide +kernel) (by decide +kernel) rfl (fun _=>⟨[],zcD (by decide +kernel) (by decide +kernel)⟩) (by decide +kernel) rfl rfl (fun j i h=>by simp at h) (zdD (aB zah (pv 0) ah (fun _ _=>rfl))) (fun _ _ _ _=>(az IH hr rfl m kp b .nil aF (aa (pv 0) ac)))) ac))) aD)))),?_⟩
  obtain⟨p,r,xs,rfl,hp,hq,hx⟩:=tr_at ht
  have xl:xs.length=ts.length:=by rw[←hx.length,dTrs_length]
  simp only[dp]at hd
  simp only[wt]at hw
  have tl:=zdW ts
  have tl2:=zeW ts
  have gl:=zbU ", " (zaE ts)
  rw[c3]at gl
  have dd:=deps_dTrs ts
  refine⟨_,rfl,p,_,_,_,rfl,rfl,hp,rfl,lS0,fun l hl=>?_⟩
  have s1:ax H (upd H l (.tup [])):=ar hl _
  have n1:=ae (H:=H) (a:=l) (o:=.tup [])
  generalize upd H l (.tup [])=H1 at s1 n1
  have hp1:=s1.tup hp
  have hq1:=s1.tup hq
  have hx1:=hx.keep s1.kt (nols_dTrs _)
  refine⟨.tup (aQ ts),.tup [],Has.tup' hq1 hx1,Has.tup' (SqT.of n1) aj.nil,(by simp only[dep];omega),_,rfl,?_⟩
  by_cases hne:ts=[]
  ·subst hne
   exact zbj ⟨_,rfl,p,_,_,_,rfl,rfl,hp1,rfl,q H1 s1⟩
  have e0:peq (.tup (aQ ts)) (.tup [])=false:=by
   cases ts with
   | nil=>exact absurd rfl hne
   | cons t ts=>rfl
  rw[e0]
  refine za3 ⟨_,rfl,p,_,_,_,rfl,rfl,hp1,rfl,_,_,rfl,rfl,szM (by rw[c1];omega),rfl,_,rfl,p,_,_,_,rfl,rfl,hp1,rfl,r,rfl,⟨_,hq1⟩,fun D hD=>zbC zdB (fun i us H'=>ax H1 H'∧us=((zaE ts).take i).map V.str) (fun i us H' ⟨s4,_⟩=>s4.tup hq1) ⟨ar hD _,rfl⟩ ?_ ?_⟩
  ·rintro i us H8 x H4 hi hly hDs ⟨s4,rfl⟩ ⟨rfl,hx'⟩
   obtain⟨u,hu',hux⟩:=trs_get (hx1.keep s4.kt (nols_dTrs _)) (hx' _ (s4.tup hq1))
   have um:=List.mem_of_getElem? hu'
   have:=zgK um
   refine⟨_,rfl,u,_,rfl,hux,dps_le (by omega) u um,by omega,fun H5 s5=>zaY (szM (by omega)) hi hly (s5 _ _ hDs) ⟨(s4.trans s5).upd hD,?_⟩⟩
   rw[zaC (zkP hu'),List.map_append]
   rfl
  rintro us H4 hDs ⟨s4,rfl⟩
  rw[List.take_of_length_le (by rw[zeW,xl];exact Nat.le_refl _)]at hDs
  refine⟨", ",D,zaE ts,rfl,rfl,SqL.of hDs,szM (by rw[c3];omega),_,_,rfl,rfl,szM (by rw[zai,c1];omega),_,_,rfl,rfl,szM (by rw[zai,zai,c1,c2];omega),?_⟩
  rw[←zjZ hne]
  exact q H4 (s1.trans s4)
def zh0 (K:W.Frag) (n:Nat):Sp:=fun vs H Q _=>∃(t:Tr) (v:V),vs=[v]∧Has K H (dTr t) v∧dp t≤n∧szT t≤100∧∀ H',ax H H'→Q (.int (szT t:Nat)) H'
theorem zhL:zaa ["_law_tree"] ["_law_tree"] (ap zdy):=⟨rfl,rfl,rfl,by decide +kernel,rfl,by decide +kernel,by decide +kernel⟩
theorem zi0:∀ ts:List Tr,(ts.map fun t=>((szT t:Nat):Int)).sum=((aI ts:Nat):Int)
 | []=>rfl
 | t :: ts=>by
  simp only[List.map_cons,List.sum_cons,aI,zi0 ts]
  omega
theorem zh9 (F:Fun K "_law_size" "_law_size" zdy f fd) (ms:mg "sum"=none) (b:ay K fd ["_law_tree"] []) (kp:W.keepIn K (.ref f)=true) (m:mg "_law_size"=some (.ref f)):∀ n,FnOk P w K mg base CX0 n f fd ["_law_tree"] (zh0 K n)
 | 0=>F05.FnOk.no fun _ _ _ _ ⟨t,_,_,_,h,_⟩=>by
  cases t with
  | node n ts=>simp only[dp]at h;omega
 | n+1=>by
  have IH:=zh9 F ms b kp m n
  refine F.ok zhL (fun vs H Q E h=>?_) (fun cdv A outer s H vs Q E hr h=>?_)
  ·obtain⟨t,v,rfl,_⟩:=h
   rfl
  obtain⟨⟨nm,ts⟩,v,rfl,ht,hd,hs,q⟩:=h
  refine⟨_,(ak (aE (aw zbw ah (zap (zkJ rfl) rfl ms PyProof.Rows.Boot.sum (aa (zbP (N':=["_law_inner"]) (ix:=[]) rfl rfl (by decide +kernel) (by decide +kernel) rfl (fun _=>⟨[],zcD (by decide +kernel) (by decide +kernel)⟩) (by decide +kernel) rfl rfl (fun j i h=>by simp at h) (zdD (aB zah (pv 0) ah (fun _ _=>rfl))) (fun _ _ _ _=>(az IH hr rfl m kp b .nil aF (aa (pv 0) ac)))) ac))))),?_⟩
  obtain⟨p,r,xs,rfl,hp,hq,hx⟩:=tr_at ht
  have xl:xs.length=ts.length:=by rw[←hx.length,dTrs_length]
  simp only[dp]at hd
  simp only[szT]at hs q
  have tl:=zcz ts
  refine⟨_,rfl,p,_,_,_,rfl,rfl,hp,zae (j:=1) rfl,r,rfl,⟨_,hq⟩,fun D hD=>zbC zdB (fun i us H'=>ax H H'∧us=((ts.take i).map fun t=>V.int ((szT t:Nat):Int))) (fun i us H' ⟨s4,_⟩=>s4.tup hq) ⟨ar hD _,rfl⟩ ?_ ?_⟩
  ·rintro i us H8 x H4 hi hly hDs ⟨s4,rfl⟩ ⟨rfl,hx'⟩
   obtain⟨u,hu',hux⟩:=trs_get (hx.keep s4.kt (nols_dTrs _)) (hx' _ (s4.tup hq))
   have um:=List.mem_of_getElem? hu'
   have:=zg3 um
   refine⟨_,rfl,u,_,rfl,hux,dps_le (by omega) u um,by omega,fun H5 s5=>zaY (sz _ (by omega)) hi hly (s5 _ _ hDs) ⟨(s4.trans s5).upd hD,?_⟩⟩
   rw[zaC hu',List.map_append]
   rfl
  ·rintro us H4 hDs ⟨s4,rfl⟩
   rw[xl,List.take_length]at hDs
   have e:(ts.map fun t=>V.int ((szT t:Nat):Int))=(ts.map fun t=>((szT t:Nat):Int)).map V.int:=by rw[List.map_map];rfl
   rw[e]at hDs
   refine⟨D,_,rfl,SqL.of hDs,_,_,rfl,rfl,?_⟩
   rw[zi0]
   have e2:(1:Int)+((aI ts:Nat):Int)=((1+aI ts:Nat):Int):=by omega
   show Q (.int (1+((aI ts:Nat):Int))) H4
   rw[e2]
   exact q H4 s4
end
end K05
namespace K05
open PySem L2
open F05 (Tr dTr aQ zaQ txt zaE dp dps wt wts tr_at trs_get nols_dTrs nol_dTr dTrs_length dTrs_map)
open C05 (PA Prt NP cp cp_len Nm NT NTs cT cB cR)
theorem zfk {zs:List Str} (h4:zs.length=4) (c:Int):∃ z∈zs,atI (zs.map V.str) (c % 4)=some (.str z):=by
 have b:=zcM c (show(0:Int) < 4 by decide)
 have e:c % 4=(((c % 4).toNat:Nat):Int):=by omega
 have hl:(c % 4).toNat < zs.length:=by omega
 have key:atI (zs.map V.str) (((c % 4).toNat:Nat):Int)=some (.str zs[(c % 4).toNat]):=by
  refine zae ?_
  rw[List.getElem?_map,List.getElem?_eq_getElem hl]
  rfl
 exact⟨zs[(c % 4).toNat],List.getElem_mem hl,by rw[←e]at key;exact key⟩
theorem cutF (xs:List V) (k:Nat) (h:k≤xs.length):zbB xs (some ((k:Nat):Int)) none=xs.drop k:=by
 unfold zbB
 rw[HT.sIx_none,HT.sIx_nat,Nat.min_eq_left h,List.take_of_length_le (by rw[List.length_drop];omega)]
theorem cutT (xs:List V) (k:Nat) (h:k≤xs.length):zbB xs none (some ((k:Nat):Int))=xs.take k:=by
 unfold zbB
 rw[HT.sIx_none,HT.sIx_nat,List.drop_zero,Nat.sub_zero,Nat.min_eq_left h]
theorem zgp {K:W.Frag} {H:Hp}:∀ {ds:List Dt} {vs:List V} (n:Nat),aj K H ds vs→aj K H (ds.take n) (vs.take n)
 | [],[],n,_=>by simp [aj]
 | d :: ds,v :: vs,0,h=>by simp [aj]
 | d :: ds,v :: vs,n+1,h=>by
  simp only[aj]at h
  obtain⟨v1,r1,e,h1,h2⟩:=h
  cases e
  exact .cons h1 (zgp n h2)
 | [],v :: vs,n,h=>by simp only[aj]at h;cases h
 | d :: ds,[],n,h=>by simp only[aj]at h;obtain⟨_,_,e,_⟩:=h;cases e
theorem zgq {K:W.Frag} {H:Hp}:∀ {ds:List Dt} {vs:List V} (n:Nat),aj K H ds vs→aj K H (ds.drop n) (vs.drop n)
 | ds,vs,0,h=>h
 | [],[],n+1,_=>by simp [aj]
 | d :: ds,v :: vs,n+1,h=>by
  simp only[aj]at h
  obtain⟨v1,r1,e,h1,h2⟩:=h
  cases e
  exact zgq n h2
 | [],v :: vs,n+1,h=>by simp only[aj]at h;cases h
 | d :: ds,[],n+1,h=>by simp only[aj]at h;obtain⟨_,_,e,_⟩:=h;cases e
section
variable {P:Program} {w:World} {K:W.Frag} {mg:Str→Option Value} {base:Heap} {aK C CN CT CP CM:Addr} {f fC fG fZ:Addr} {fd dC dG dZ:FuncData}
def zcL (K:W.Frag) (H:Hp) (l:Addr) (ts:List Tr):Prop:=∃ xs,H l=some (.lst xs)∧aj K H (aQ ts) xs
def zhg (K:W.Frag):Sp:=fun vs H Q _=>∃(pl nl:Addr) (c:Int) (ts:List Tr) (zs:List Str),vs=[.ref pl,.ref nl,.int c]∧zcL K H pl ts∧H nl=some (.lst (zs.map V.str))∧zs.length=4∧(∀ z∈zs,GN z)∧(∀ t∈ts,TGd t∧szT t≤9)∧ts.length≤50 ∧
 ∀(H':Hp) (l:Addr) (us:List Tr) (t:Tr),ax H H'→H l=none→zcL K H' l (us++[t])→(∀ u∈us,u∈ts)→TGd t→szT t≤28→aI us+szT t=aI ts+1→Q (.ref l) H'
theorem zbH:zaa ["_law_pile","_law_names_here","_law_cell","_law_tree","_law_many"] ["_law_pile","_law_names_here","_law_cell"] (ap zdf):=⟨rfl,rfl,rfl,by decide +kernel,rfl,by decide +kernel,by decide +kernel⟩
set_option maxHeartbeats 2000000 in
theorem zks (F:Fun K "_law_grown" "_law_grown" zdf f fd) (T:Txt K mg aK C CN CT CP CM):FnOk P w K mg base CX0 1 f fd ["_law_pile","_law_names_here","_law_cell"] (zhg K):=by
 refine F.ok zbH (fun vs H Q E h=>?_) (fun cdv A outer s H vs Q E hr h=>?_)
 ·obtain⟨pl,nl,c,ts,zs,rfl,_⟩:=h
  rfl
 obtain⟨pl,nl,c,ts,zs,rfl,⟨xs,hpl,hx⟩,hN,z4,gz,gt,l50,q⟩:=h
 have xl:xs.length=ts.length:=by rw[←hx.length,dTrs_length]
 refine⟨_,(ai (aA (i:=3) zbH.nd rfl (Or.inl rfl) (zak (aa (aB zaq (pv 1) (aw zar (pv 2) ah) (fun _ _=>rfl)) (aa (zak ac) ac))))
  (ai (aA (i:=4) zbH.nd rfl (Or.inl rfl) (aw zar (aw zaX (pv 2) ah) ah))
  (ai (zal (PW.pt (zcJ (zac zcS (pv 4) ah (zam _)) (zcJ (zac zfj (pv 4) ah (zam _)) (zcY (zac zgH (zap zao rfl T.len PySem.boot_len (aa (pv 0) ac)) (pv 4) (zam _))))))
   (ai (aA (i:=3) zbH.nd rfl (Or.inl rfl) (zak (aa (aB zaq (pv 1) (aw zar (pv 2) ah) (fun _ _=>rfl)) (aa (zcd zbn rfl T.tuple PyProof.Rows.Boot.tuple (aa (zbD zeP (pv 0) (zbK (aw zcm (zap zao rfl T.len PySem.boot_len (aa (pv 0) ac)) (pv 4))) zca) ac)) ac))))
    (ak (aA (i:=0) zbH.nd rfl (Or.inl rfl) (zbD zeP (pv 0) zca (zbK (aw zcm (zap zao rfl T.len PySem.boot_len (aa (pv 0) ac)) (pv 4)))))))
   zab)
  (ak (aE (aw zdF (pv 0) (zaA (aa (pv 3) ac)))))))),?_⟩
 obtain⟨z,hz,hat⟩:=zfk z4 c
 refine⟨_,rfl,_,rfl,_,_,rfl,rfl,(by show(0:Int) < 4;decide),nl,_,_,_,rfl,rfl,SqL.of hN,hat,lS0,fun e he=>⟨lS2,fun t0 ht0=>?_⟩⟩
 have s1:=ar he (.tup [])
 have n1:=ae (H:=H) (a:=e) (o:=.tup [])
 generalize upd H e (.tup [])=H1 at s1 n1 ht0
 have s2:=ar ht0 (.tup [V.str z,V.ref e])
 have n2:=ae (H:=H1) (a:=t0) (o:=.tup [V.str z,V.ref e])
 generalize upd H1 t0 (.tup [V.str z,V.ref e])=H2 at s2 n2
 have s02:=s1.trans s2
 have hleaf:Has K H2 (dTr (.node z [])) (.ref t0):=by
  simp only[dTr,aQ]
  exact Has.tup' (SqT.of n2) (.cons Has.str' (.cons (Has.tup' (SqT.of (s2 _ _ n1)) .nil) .nil))
 have b5:=zcM (c / 4) (show(0:Int) < 5 by decide)
 refine⟨_,rfl,_,_,rfl,rfl,⟨by decide,by decide⟩,_,_,rfl,rfl,(by show(0:Int) < 5;decide),?_⟩
 have fin:∀ {H3:Hp} {pu tv:Addr} {us:List Tr} {ys:List V} {t:Tr},ax H H3→H3 pu=some (.lst ys)→aj K H3 (aQ us) ys→Has K H3 (dTr t) (.ref tv)→us.length≤50→(∀ u∈us,u∈ts)→TGd t→szT t≤28→aI us+szT t=aI ts+1→∀ l,H3 l=none→∀ r,upd H3 l (.lst [V.ref tv]) r=none→Q (.ref r) (upd (upd H3 l (.lst [V.ref tv])) r (.lst (ys++[V.ref tv]))):=fun {H3 pu tv us ys t} s3 hpu hys ht u50 sub gt' st eq l hl r hr'=>by
  have s4:=ar hl (.lst [V.ref tv])
  have s5:=ar hr' (.lst (ys++[V.ref tv]))
  have s35:=s4.trans s5
  refine q _ r us t (s3.trans s35) ((s3.trans s4).free hr') ⟨_,ae,?_⟩ sub gt' st eq
  rw[zd4]
  exact(hys.keep s35.kt (nols_dTrs _)).append (.cons (ht.keep s35.kt (nol_dTr _)) .nil)
 have leafG:TGd (.node z []):=by
  simp only[TGd,zb2]
  exact⟨gz z hz,by simp,trivial⟩
 refine⟨_,rfl,_,_,rfl,rfl,_,rfl,aO (fun c1=>?_) (fun _=>za3 ?_)⟩
 ·have c1':(0:Int) < c / 4 % 5:=of_decide_eq_true c1
  refine⟨_,rfl,_,_,rfl,rfl,_,rfl,aO (fun c2=>?_) (fun _=>za3 ?_)⟩
  ·have c2':c / 4 % 5 < (4:Int):=of_decide_eq_true c2
   refine⟨_,rfl,pl,_,rfl,.inl (SqL.of (s02 _ _ hpl)),_,rfl,_,_,rfl,rfl,_,rfl,aO (fun c3=>?_) (fun _=>?_)⟩
   ·have c3':c / 4 % 5≤((xs.length:Nat):Int):=of_decide_eq_true c3
    generalize hm:(c / 4 % 5).toNat=m
    have em:c / 4 % 5=((m:Nat):Int):=by omega
    have ek:((xs.length:Nat):Int) - c / 4 % 5=((xs.length - m:Nat):Int):=by omega
    refine⟨_,rfl,_,rfl,_,_,rfl,rfl,(by show(0:Int) < 4;decide),nl,_,_,_,rfl,rfl,SqL.of (s02 _ _ hN),hat,_,rfl,_,rfl,pl,_,rfl,.inl (SqL.of (s02 _ _ hpl)),_,rfl,_,_,rfl,rfl,_,rfl,pl,xs,rfl,SqL.of (s02 _ _ hpl),fun p1 hp1=>?_⟩
    have ec:zbB xs (some (((xs.length:Nat):Int) - c / 4 % 5)) none=xs.drop (xs.length - m):=by rw[ek];exact cutF xs _ (by omega)
    rw[ec]
    have s3:=ar hp1 (.lst (xs.drop (xs.length - m)))
    have n3:=ae (H:=H2) (a:=p1) (o:=.lst (xs.drop (xs.length - m)))
    generalize upd H2 p1 (.lst (xs.drop (xs.length - m)))=H3 at s3 n3
    refine⟨p1,_,rfl,.inl ⟨SqL.of n3,fun q1 hq1=>?_⟩⟩
    have s4:=ar hq1 (.tup (xs.drop (xs.length - m)))
    have n4:=ae (H:=H3) (a:=q1) (o:=.tup (xs.drop (xs.length - m)))
    generalize upd H3 q1 (.tup (xs.drop (xs.length - m)))=H4 at s4 n4
    refine⟨lS2,fun t2 ht2=>?_⟩
    have s5:=ar ht2 (.tup [V.str z,V.ref q1])
    have n5:=ae (H:=H4) (a:=t2) (o:=.tup [V.str z,V.ref q1])
    generalize upd H4 t2 (.tup [V.str z,V.ref q1])=H5 at s5 n5
    have s05:=s02.trans (s3.trans (s4.trans s5))
    have hx5:=hx.keep s05.kt (nols_dTrs _)
    have tree5:Has K H5 (dTr (.node z (ts.drop (xs.length - m)))) (.ref t2):=by
     simp only[dTr]
     refine Has.tup' (SqT.of n5) (.cons Has.str' (.cons (Has.tup' (SqT.of (s5 _ _ n4)) ?_) .nil))
     rw[dTrs_map,List.map_drop,←dTrs_map]
     exact zgq _ hx5
    refine⟨_,rfl,_,rfl,pl,_,rfl,.inl (SqL.of (s05 _ _ hpl)),_,rfl,_,_,rfl,rfl,_,rfl,pl,xs,rfl,SqL.of (s05 _ _ hpl),fun p3 hp3=>?_⟩
    have ec2:zbB xs none (some (((xs.length:Nat):Int) - c / 4 % 5))=xs.take (xs.length - m):=by rw[ek];exact cutT xs _ (by omega)
    rw[ec2]
    have s6:=ar hp3 (.lst (xs.take (xs.length - m)))
    have n6:=ae (H:=H5) (a:=p3) (o:=.lst (xs.take (xs.length - m)))
    generalize upd H5 p3 (.lst (xs.take (xs.length - m)))=H6 at s6 n6
    have split:aI (ts.take (xs.length - m))+aI (ts.drop (xs.length - m))=aI ts:=by rw[←zb5,List.take_append_drop]
    have d3:(ts.drop (xs.length - m)).length≤3:=by rw[List.length_drop];omega
    have s9:aI (ts.drop (xs.length - m))≤27:=by
     have:∀ us:List Tr,(∀ u∈us,szT u≤9)→aI us≤9 * us.length:=fun us=>by
      induction us with
      | nil=>intro _;simp [aI]
      | cons u us ih =>
       intro h
       have h1:=h u (by simp)
       have h2:=ih fun v hv=>h v (List.mem_cons_of_mem _ hv)
       simp only[aI,List.length_cons]
       omega
     have h27:=this (ts.drop (xs.length - m)) fun u hu=>(gt u (List.mem_of_mem_drop hu)).2
     omega
    refine⟨_,rfl,_,rfl,lS1,fun l hl=>⟨p3,l,_,_,rfl,rfl,(ar hl _) _ _ n6,ae,sz _ (by simp;omega),fun r hr'=>fin (us:=ts.take (xs.length - m)) (t:=.node z (ts.drop (xs.length - m))) (s05.trans s6) n6 ?_ (tree5.keep s6.kt (nol_dTr _)) (by rw[List.length_take];omega) (fun u h=>List.mem_of_mem_take h) ?_ ?_ ?_ l hl r hr'⟩⟩
    ·rw[dTrs_map,List.map_take,←dTrs_map]
     exact zgp _ (hx5.keep s6.kt (nols_dTrs _))
    ·simp only[TGd]
     exact⟨gz z hz,d3,zir fun u hu=>(gt u (List.mem_of_mem_drop hu)).1⟩
    ·simp only[szT];omega
    ·simp only[szT];omega
   ·exact⟨_,rfl,_,rfl,lS1,fun l hl=>⟨pl,l,_,_,rfl,rfl,(ar hl _) _ _ (s02 _ _ hpl),ae,sz _ (by simp;omega),fun r hr'=>fin s02 (s02 _ _ hpl) (hx.keep s02.kt (nols_dTrs _)) hleaf l50 (fun u h=>h) leafG (by simp [szT,aI]) (by simp [szT,aI]) l hl r hr'⟩⟩
  ·exact⟨_,rfl,_,rfl,lS1,fun l hl=>⟨pl,l,_,_,rfl,rfl,(ar hl _) _ _ (s02 _ _ hpl),ae,sz _ (by simp;omega),fun r hr'=>fin s02 (s02 _ _ hpl) (hx.keep s02.kt (nols_dTrs _)) hleaf l50 (fun u h=>h) leafG (by simp [szT,aI]) (by simp [szT,aI]) l hl r hr'⟩⟩
 ·exact⟨_,rfl,_,rfl,lS1,fun l hl=>⟨pl,l,_,_,rfl,rfl,(ar hl _) _ _ (s02 _ _ hpl),ae,sz _ (by simp;omega),fun r hr'=>fin s02 (s02 _ _ hpl) (hx.keep s02.kt (nols_dTrs _)) hleaf l50 (fun u h=>h) leafG (by simp [szT,aI]) (by simp [szT,aI]) l hl r hr'⟩⟩
end
end K05
namespace K05
open PySem L2
open F05 (Tr dTr aQ zaQ txt zaE dp dps wt wts tr_at trs_get nols_dTrs nol_dTr dTrs_length dTrs_map)
open C05 (PA Prt NP cp cp_len Nm NT NTs cT cB cR)
theorem cut_m1 (ini:List V) (z:V):zbB (ini++[z]) none (some (-1))=ini:=by
 unfold zbB
 have e:HT.sIx (ini++[z]).length (ini++[z]).length (some (-1))=ini.length:=by
  show(if(-1:Int) < 0 then((-1:Int)+((ini++[z]).length:Int)).toNat else min (-1:Int).toNat (ini++[z]).length)=ini.length
  rw[if_pos (by decide),List.length_append]
  simp only[List.length_singleton]
  omega
 rw[e,HT.sIx_none,List.drop_zero,Nat.sub_zero,List.take_left]
theorem aj.split {K:W.Frag} {H:Hp}:∀ {a b:List Dt} {vs:List V},aj K H (a++b) vs→∃ us ws,vs=us++ws∧aj K H a us∧aj K H b ws
 | [],b,vs,h=>⟨[],vs,rfl,aj.nil,h⟩
 | d :: a,b,vs,h=>by
  have h':aj K H (d :: (a++b)) vs:=h
  simp only[aj]at h'
  obtain⟨v,r,rfl,h1,h2⟩:=h'
  obtain⟨us,ws,rfl,g1,g2⟩:=aj.split (a:=a) h2
  exact⟨v :: us,ws,rfl,.cons h1 g1,g2⟩
theorem aj.one {K:W.Frag} {H:Hp} {d:Dt} {ws:List V} (h:aj K H [d] ws):∃ x,ws=[x]∧Has K H d x:=by
 simp only[aj]at h
 obtain⟨x,r,rfl,h1,rfl⟩:=h
 exact⟨x,rfl,h1⟩
section
variable {P:Program} {w:World} {K:W.Frag} {mg:Str→Option Value} {base:Heap} {aK C CN CT CP CM:Addr} {f fC fG fZ:Addr} {fd dC dG dZ:FuncData}
def zg7 (K:W.Frag):Sp:=fun vs H Q _=>∃(a nl:Addr) (ns:List Int) (zs:List Str) (b m:Int),vs=[.ref a,.int b,.ref nl,.int m]∧SqL K H a (ns.map V.int)∧ns.length≤63∧0≤b∧H nl=some (.lst (zs.map V.str))∧zs.length=4∧(∀ z∈zs,GN z)∧0≤m∧m≤12 ∧
 ∀(H':Hp) (l:Addr) (ts:List Tr),ax H H'→H l=none→zcL K H' l ts→(∀ t∈ts,TGd t∧szT t≤9)→aI ts≤12→Q (.ref l) H'
theorem zbm:zaa ["_law_script","_law_begin","_law_names_here","_law_many","_law_pile","_law_k","_law_cell"] ["_law_script","_law_begin","_law_names_here","_law_many"] (ap zde):=⟨rfl,rfl,rfl,by decide +kernel,rfl,by decide +kernel,by decide +kernel⟩
set_option maxHeartbeats 2000000 in
theorem zkj (F:Fun K "_law_trees" "_law_trees" zde f fd) (T:Txt K mg aK C CN CT CP CM) (BC:FB P w K mg base CX0 1 "_law_cell_at" fC dC ["_law_script","_law_k"] (zfo K)) (BG:FB P w K mg base CX0 1 "_law_grown" fG dG ["_law_pile","_law_names_here","_law_cell"] (zhg K)) (BZ:FB P w K mg base CX0 28 "_law_size" fZ dZ ["_law_tree"] (zh0 K 28)):FnOk P w K mg base CX0 29 f fd ["_law_script","_law_begin","_law_names_here","_law_many"] (zg7 K):=by
 refine F.ok zbm (fun vs H Q E h=>?_) (fun cdv A outer s H vs Q E hr h=>?_)
 ·obtain⟨a,nl,ns,zs,b,m,rfl,_⟩:=h
  rfl
 obtain⟨a,nl,ns,zs,b,m,rfl,hS,n63,b0,hN,z4,gz,m0,m12,q⟩:=h
 have hr1:aL 1 _:=hr.mono (by decide)
 refine⟨_,(ai (aA (i:=4) zbm.nd rfl (Or.inl rfl) (zaA ac))
  (ai (zbo PassesOwn.never rfl (zbd rfl T.range (aa (pv 3) ac)) (zaP (i:=5) zbm.nd rfl (Or.inl rfl))
   (ai (aA (i:=6) zbm.nd rfl (Or.inl rfl) (aw zar (aw zbw (aw zbF (az BC.ok hr1 rfl BC.m BC.kp BC.b .nil aF (aa (pv 0) (aa (aw zbw (pv 1) (pv 5)) ac))) ah) (aw zbF ah (pv 5))) ah))
    (ai (aA (i:=4) zbm.nd rfl (Or.inl rfl) (az BG.ok hr1 rfl BG.m BG.kp BG.b .nil aF (aa (pv 4) (aa (pv 2) (aa (aw zaX (pv 6) ah) ac)))))
    (ak (zal (zac zcS (az BZ.ok hr rfl BZ.m BZ.kp BZ.b .nil aF (aa (aB zaq (pv 4) (zeL zdC ah) (fun _ _=>rfl)) ac)) ah (zam _))
     (ak (aA (i:=4) zbm.nd rfl (Or.inl rfl) (aw zdF (zbD zeP (pv 4) zca (zbK (zeL zdC ah))) (zaA (aa (zak (aa (aB zaq (pv 2) (aw zar (pv 6) ah) (fun _ _=>rfl)) (aa (zak ac) ac))) ac)))))
     zab)))))
  (ak (aE (pv 4))))),?_⟩
 refine⟨lS0,fun l0 hl0=>?_⟩
 have s1:=ar hl0 (.lst [])
 have n1:=ae (H:=H) (a:=l0) (o:=.lst [])
 generalize upd H l0 (.lst [])=H1 at s1 n1
 refine⟨_,rfl,m,rfl,by omega,by omega,zce (lo:=0) (n:=m.toNat) (fun i σ H'=>ax H H'∧∃(l:Addr) (ts:List Tr) (v5 v6:Option V),σ=[some (.ref a),some (.int b),some (.ref nl),some (.int m),some (.ref l),v5,v6]∧H l=none∧zcL K H' l ts∧(∀ t∈ts,TGd t∧szT t≤9)∧aI ts≤i) ⟨s1,l0,[],none,none,rfl,hl0,⟨[],n1,by simp only[aQ];exact .nil⟩,(fun t ht=>nomatch ht),Nat.le_refl _⟩ ?_ ?_⟩
 ·rintro i σ H2 hi ⟨s2,l,ts,v5,v6,rfl,nl',PA2,gt,sts⟩
  have hi':i < m.toNat:=hi
  have tl:=zcz ts
  refine⟨_,rfl,_,rfl,_,rfl,_,_,rfl,rfl,a,ns,_,rfl,s2.seq hS,n63,(by show(0:Int)≤b+(0+(i:Int));omega),fun c0=>⟨_,_,rfl,rfl,.inr ⟨by decide,by decide⟩,_,rfl,_,_,rfl,rfl,.inl ⟨by decide,by decide⟩,_,_,rfl,rfl,_,_,rfl,rfl,(by show(0:Int) < 2147483647;decide),?_⟩⟩
  refine⟨_,rfl,_,rfl,_,rfl,_,_,rfl,rfl,⟨by decide,by decide⟩,l,nl,_,ts,zs,rfl,PA2,s2 _ _ hN,z4,gz,gt,by omega,fun H3 l3 us t s3 n3 P3 sub gt' st eq=>?_⟩
  obtain⟨ys,hl3,hys⟩:=P3
  rw[zd4]at hys
  obtain⟨y1,y2,rfl,h1,h2⟩:=aj.split hys
  obtain⟨x,rfl,hx⟩:=aj.one (by simpa [aQ] using h2)
  have s03:=s2.trans s3
  have dpt:=zck t
  refine⟨_,rfl,_,rfl,l3,_,_,_,rfl,rfl,SqL.of hl3,zhH y1 x,t,x,rfl,hx,by omega,by omega,fun H4 s4=>⟨_,_,rfl,rfl,_,rfl,aO (fun c1=>?_) (fun c1=>?_)⟩⟩
  ·have s04:=s03.trans s4
   have hl4:=s4 _ _ hl3
   refine⟨_,rfl,_,rfl,_,rfl,l3,_,rfl,SqL.of hl4,fun p5 hp5=>?_⟩
   rw[cut_m1]
   have s5:=ar hp5 (.lst y1)
   have n5:=ae (H:=H4) (a:=p5) (o:=.lst y1)
   generalize upd H4 p5 (.lst y1)=H5 at s5 n5
   obtain⟨z,hz,hat⟩:=zfk z4 ((c0 * 48271+11 * (0+(i:Int))) % 2147483647)
   have s05:=s04.trans s5
   refine⟨_,rfl,_,rfl,_,_,rfl,rfl,(by show(0:Int) < 4;decide),nl,_,_,_,rfl,rfl,SqL.of (s05 _ _ hN),hat,lS0,fun e he=>⟨lS2,fun t0 ht0=>⟨lS1,fun l6 hl6=>?_⟩⟩⟩
   have s6:=ar he (.tup [])
   have n6:=ae (H:=H5) (a:=e) (o:=.tup [])
   generalize upd H5 e (.tup [])=H6 at s6 n6 ht0 hl6
   have s7:=ar ht0 (.tup [V.str z,V.ref e])
   have n7:=ae (H:=H6) (a:=t0) (o:=.tup [V.str z,V.ref e])
   generalize upd H6 t0 (.tup [V.str z,V.ref e])=H7 at s7 n7 hl6
   have s8:=ar hl6 (.lst [V.ref t0])
   have n8:=ae (H:=H7) (a:=l6) (o:=.lst [V.ref t0])
   generalize upd H7 l6 (.lst [V.ref t0])=H8 at s8 n8
   have s58:=s6.trans (s7.trans s8)
   have yl:y1.length=us.length:=by rw[←h1.length,dTrs_length]
   have ul:=zcz us
   have szp:=zhW t
   refine⟨p5,l6,_,_,rfl,rfl,s58 _ _ n5,n8,sz _ (by simp;omega),fun r hr'=>?_⟩
   have s9:=ar hr' (.lst (y1++[V.ref t0]))
   have s39:ax H3 (upd H8 r (.lst (y1++[V.ref t0]))):=s4.trans (s5.trans (s58.trans s9))
   refine⟨s03.trans s39,r,us++[.node z []],_,_,rfl,(s05.trans s58).free hr',⟨_,ae,?_⟩,fun u hu=>?_,?_⟩
   ·rw[zd4]
    refine(h1.keep s39.kt (nols_dTrs _)).append ?_
    simp only[aQ,dTr]
    exact .cons (Has.tup' (SqT.of (s9 _ _ (s8 _ _ n7))) (.cons Has.str' (.cons (Has.tup' (SqT.of (s9 _ _ (s8 _ _ (s7 _ _ n6)))) .nil) .nil))) .nil
   ·rcases List.mem_append.mp hu with hu | hu
    ·exact gt u (sub u hu)
    ·rw[List.mem_singleton.mp hu]
     exact⟨by simp only[TGd,zb2];exact⟨gz z hz,by simp,trivial⟩,by simp [szT,aI]⟩
   ·rw[zb5]
    simp only[aI,szT]
    omega
  ·have c1':¬(9:Int) < ((szT t:Nat):Int):=of_decide_eq_false (Bool.eq_false_iff.mpr c1)
   refine⟨s03.trans s4,l3,us++[t],_,_,rfl,s2.free n3,⟨_,s4 _ _ hl3,?_⟩,fun u hu=>?_,?_⟩
   ·rw[zd4]
    refine(h1.keep s4.kt (nols_dTrs _)).append ?_
    simp only[aQ]
    exact .cons (hx.keep s4.kt (nol_dTr _)) .nil
   ·rcases List.mem_append.mp hu with hu | hu
    ·exact gt u (sub u hu)
    ·rw[List.mem_singleton.mp hu]
     exact⟨gt',by omega⟩
   ·rw[zb5]
    simp only[aI]
    omega
 ·rintro σ H2 ⟨s2,l,ts,v5,v6,rfl,nl',PA2,gt,sts⟩
  exact⟨_,rfl,q H2 l ts s2 nl' PA2 gt (by omega)⟩
end
end K05
namespace K05
open PySem L2
open F05 (Tr dTr aQ zaQ txt zaE dp dps wt wts tr_at trs_get nols_dTrs nol_dTr dTrs_length dTrs_map)
open C05 (PA Prt NP NPA cp cp_len za6 zaJ ofC Nm NT NTs cT cB cR cPA cPt cRw jn sOr)
def sg (p:Prt):Int:=if p.n=true then 1 else 0
def dLP (p:Prt):Dt:=match p.a with
 | .plain z=>.tup [.int (sg p),.str z,.non]
 | .same t u=>.tup [.int (sg p),dTr t,dTr u]
theorem zcn (p:Prt):nol (dLP p)=true:=by
 unfold dLP
 cases p.a with
 | plain z=>rfl
 | same t u=>simp only[nol,za9,nol_dTr,Bool.and_self]
theorem zax:∀ r:List Prt,za9 (r.map dLP)=true
 | []=>rfl
 | p :: r=>by simp only[List.map_cons,za9,zcn,zax r,Bool.and_self]
def zcl (K:W.Frag) (H:Hp) (v:V) (r:List Prt):Prop:=∃ l xs,v=.ref l∧H l=some (.lst xs)∧aj K H (r.map dLP) xs
theorem zcl.same {K:W.Frag} {H H':Hp} {v:V} {r:List Prt} (h:zcl K H v r) (s:ax H H'):zcl K H' v r:=by
 obtain⟨l,xs,rfl,hl,hx⟩:=h
 exact⟨l,xs,rfl,s _ _ hl,hx.keep s.kt (zax _)⟩
def zc3 (K:W.Frag) (H:Hp) (l:Addr) (rs:List (List Prt)):Prop:=∃ us,H l=some (.lst us)∧us.length=rs.length∧∀(i:Nat) (u:V) (r:List Prt),us[i]?=some u→rs[i]?=some r→zcl K H u r
theorem zc3.same {K:W.Frag} {H H':Hp} {l:Addr} {rs:List (List Prt)} (h:zc3 K H l rs) (s:ax H H'):zc3 K H' l rs:=by
 obtain⟨us,hl,hn,hx⟩:=h
 exact⟨us,s _ _ hl,hn,fun i u r e1 e2=>(hx i u r e1 e2).same s⟩
def PGa:PA→Prop
 | .plain z=>GN z
 | .same t u=>(TGd t∧szT t≤21)∧TGd u∧szT u≤21
theorem PGa.np {a:PA} (h:PGa a):NPA a∧(cPA a).length≤440∧GPA a∧CPA a:=by
 cases a with
 | plain z =>
  have l8:=h.l8
  have nm:Nm z:=h.nm
  exact⟨nm,by show(cp z).length≤440;rw[cp_len];omega,⟨h.nb,h.lo⟩,l8⟩
 | same t u =>
  obtain⟨⟨t1,t2⟩,u1,u2⟩:=h
  have a1:=(zdl t1).1
  have a2:=(zdl u1).1
  have d1:=zck t
  have d2:=zck u
  refine⟨⟨t1.nt.1,u1.nt.1,by omega,by omega⟩,?_,⟨t1.nt.2,u1.nt.2,by omega,by omega⟩,ziD t1 (by omega),ziD u1 (by omega)⟩
  simp only[cPA,List.length_append,List.length_cons,List.length_nil]
  omega
theorem pg_np {p:Prt} (h:PGa p.a):NP p:=⟨h.np.1,by have:=h.np.2.1;omega⟩
theorem zio {p:Prt} (h:PGa p.a):(cPt p).length≤444:=by
 have:=h.np.2.1
 unfold cPt
 rw[List.length_append]
 split
 ·simp only[List.length_cons,List.length_nil];omega
 ·simp only[List.length_nil];omega
theorem zji {y:List Nat}:∀ {ps:List (List Nat)},(∀ p∈ps,p.length≤444)→(jn y ps).length≤(444+y.length) * ps.length
 | [],_=>by simp [jn]
 | [p],h=>by
  have:=h p (by simp)
  simp only[jn,List.length_singleton]
  omega
 | p :: q :: t,h=>by
  have h1:=h p (by simp)
  have h2:=zji (y:=y) (ps:=q :: t) fun x hx=>h x (List.mem_cons_of_mem _ hx)
  simp only[jn,List.length_append,List.length_cons,Nat.mul_add]at h2 ⊢
  omega
theorem zin {r:List Prt} (h:∀ p∈r,PGa p.a) (l4:r.length≤4):(cRw r).length≤1800:=by
 unfold cRw
 split
 ·decide +kernel
 ·have:=zji (y:=sOr) (ps:=r.map cPt) fun q hq=>by
   obtain⟨p,hp,rfl⟩:=List.mem_map.mp hq
   exact zio (h p hp)
  rw[List.length_map,show sOr.length=4 from rfl]at this
  have:(444+4) * r.length≤(444+4) * 4:=Nat.mul_le_mul_left _ l4
  omega
theorem zjA {rs:List (List Prt)} {i:Nat} {r:List Prt} (h:rs[i]?=some r):zbb (rs.take (i+1))=zbb (rs.take i)++(cRw r++[10]):=by
 unfold zbb
 rw[zaC h,List.flatMap_append]
 simp
theorem zdX:∀ {rs:List (List Prt)},(∀ r∈rs,(∀ p∈r,PGa p.a)∧r.length≤4)→(zbb rs).length≤1801 * rs.length
 | [],_=>by simp [zbb]
 | r :: rs,h=>by
  have h1:=zin (h r (by simp)).1 (h r (by simp)).2
  have h2:=zdX (rs:=rs) fun x hx=>h x (List.mem_cons_of_mem _ hx)
  unfold zbb at h2 ⊢
  simp only[List.flatMap_cons,List.length_append,List.length_cons,List.length_nil]
  omega
theorem zdG {ds:List Dt} {n:Nat} (h:zaz ds≤n):dep (.lst ds)≤n+1:=by
 simp only[dep]
 omega
theorem zeR (ds:List Dt):peq (.lst ds) (.lst [])=ds.isEmpty:=by
 cases ds with
 | nil=>simp [peq,zbf]
 | cons d ds=>simp [peq,zbf]
theorem zfd:∀ {r:List Prt},(∀ p∈r,PGa p.a)→zaz (r.map dLP)≤45
 | [],_=>by simp [zaz]
 | p :: r,h=>by
  have h1:=zfd (r:=r) fun x hx=>h x (List.mem_cons_of_mem _ hx)
  have h2:=h p (by simp)
  have h3:dep (dLP p)≤44:=by
   unfold dLP
   cases e:p.a with
   | plain z=>simp only[dep,zaz];omega
   | same t u =>
    rw[e]at h2
    have d1:=F05.dep_dTr t
    have d2:=F05.dep_dTr u
    have e1:=zck t
    have e2:=zck u
    have f1:=h2.1.2
    have f2:=h2.2.2
    simp only[dep,zaz]
    omega
  simp only[List.map_cons,zaz]
  omega
theorem zjq {s:Str} {c:List Nat} (h:cp s=c):s=ofC c:=C05.cp_inj (by rw[zaJ];exact h)
theorem ziA (c:List Nat):(ofC c).length=c.length:=by rw[←cp_len,zaJ]
section
variable {P:Program} {w:World} {K:W.Frag} {mg:Str→Option Value} {base:Heap} {aK C CN CT CP CM:Addr} {f fC fG fZ:Addr} {fd dC dG dZ:FuncData}
def zhc (K:W.Frag):Sp:=fun vs H Q _=>∃(v:V) (p:Prt),vs=[v]∧Has K H (dLP p) v∧PGa p.a∧∀ H',ax H H'→Q (.str (ofC (cPt p))) H'
theorem zb3:zaa ["_law_part","_law_said"] ["_law_part"] (ap zb9):=⟨rfl,rfl,rfl,by decide +kernel,rfl,by decide +kernel,by decide +kernel⟩
theorem zgL {H:Hp} {t:Tr} {v:V} (h:Has K H (dTr t) v):∃ p,v=.ref p:=by
 cases t with
 | node n ts =>
  obtain⟨p,_,_,e,_⟩:=tr_at h
  exact⟨p,e⟩
theorem zh3 (p:Prt):atI [V.str "",V.str "not "] (sg p)=some (.str (if p.n=true then "not " else "")):=by
 unfold sg
 cases p.n with
 | true=>exact zae (j:=1) rfl
 | false=>exact zae (j:=0) rfl
set_option maxHeartbeats 1000000 in
theorem zkn (F:Fun K "_law_part_text" "_law_part_text" zb9 f fd) (BT:FB P w K mg base CX0 22 "_law_tree_text" fC dC ["_law_tree"] (zfL K 22)):FnOk P w K mg base CX0 23 f fd ["_law_part"] (zhc K):=by
 refine F.ok zb3 (fun vs H Q E h=>?_) (fun cdv A outer s H vs Q E hr h=>?_)
 ·obtain⟨v,p,rfl,_⟩:=h
  rfl
 obtain⟨v,pt,rfl,hv,pg,q⟩:=h
 refine⟨_,(ai (aA (i:=1) zb3.nd rfl (Or.inl rfl) (aB zah (pv 0) ah (fun _ _=>rfl)))
  (ai (zal (zac zfT (aB zah (pv 0) ah (fun _ _=>rfl)) zdE (zam _))
   (ak (aA (i:=1) zb3.nd rfl (Or.inl rfl) (aw zas (aw zas (az BT.ok hr rfl BT.m BT.kp BT.b .nil aF (aa (aB zah (pv 0) ah (fun _ _=>rfl)) ac)) aD) (az BT.ok hr rfl BT.m BT.kp BT.b .nil aF (aa (aB zah (pv 0) ah (fun _ _=>rfl)) ac)))))
   zab)
  (ak (aE (aw zas (aB zaq (zaA (aa aD (aa aD ac))) (aB zah (pv 0) ah (fun _ _=>rfl)) (fun _ _=>rfl)) (pv 1)))))),?_⟩
 have e4:(("not ":Str)).length=4:=by decide +kernel
 have e0:(("":Str)).length=0:=by decide +kernel
 have fin:∀(y:Str),cp y=cPA pt.a→(if pt.n=true then("not ":Str) else "")++y=ofC (cPt pt):=fun y hy=>by
  refine zjq ?_
  rw[za6,hy]
  unfold cPt
  cases pt.n with
  | true=>rw[if_pos rfl,if_pos rfl,C05.c_not]
  | false=>rw[if_neg (by decide),if_neg (by decide)];rfl
 have ls:∀(y:Str),y.length≤900→(if pt.n=true then("not ":Str) else "").length+y.length≤1000:=fun y hy=>by
  cases pt.n with
  | true=>rw[if_pos rfl,e4];omega
  | false=>rw[if_neg (by decide),e0];omega
 cases ea:pt.a with
 | plain z =>
  unfold dLP at hv
  rw[ea]at hv pg fin
  simp only[Has,aj]at hv
  obtain⟨pa,_,rfl,hpa,_,_,rfl,rfl,_,_,rfl,rfl,_,_,rfl,rfl,rfl⟩:=hv
  have a0:atI [V.int (sg pt),V.str z,V.non] 0=some (.int (sg pt)):=zae (j:=0) rfl
  have a1:atI [V.int (sg pt),V.str z,V.non] 1=some (.str z):=zae (j:=1) rfl
  have a2:atI [V.int (sg pt),V.str z,V.non] 2=some .non:=zae (j:=2) rfl
  have l8:=pg.l8
  refine⟨_,rfl,pa,_,_,_,rfl,rfl,hpa,a1,_,rfl,pa,_,_,_,rfl,rfl,hpa,a2,rfl,_,rfl,aO (fun c=>absurd c (by decide)) (fun _=>?_)⟩
  refine⟨lS2,fun l hl=>?_⟩
  have s1:=ar hl (.lst [V.str "",V.str "not "])
  have n1:=ae (H:=H) (a:=l) (o:=.lst [V.str "",V.str "not "])
  generalize upd H l (.lst [V.str "",V.str "not "])=H1 at s1 n1
  refine⟨_,rfl,pa,_,_,_,rfl,rfl,s1.kt.sq hpa,a0,l,_,_,_,rfl,rfl,SqL.of n1,zh3 pt,_,rfl,_,_,rfl,rfl,sz _ (ls z (by omega)),?_⟩
  rw[fin z rfl]
  exact q H1 s1
 | same t u =>
  unfold dLP at hv
  rw[ea]at hv pg fin
  simp only[Has,aj]at hv
  obtain⟨pa,_,rfl,hpa,_,_,rfl,rfl,x1,_,rfl,h1,x2,_,rfl,h2,rfl⟩:=hv
  have a0:atI [V.int (sg pt),x1,x2] 0=some (.int (sg pt)):=zae (j:=0) rfl
  have a1:atI [V.int (sg pt),x1,x2] 1=some x1:=zae (j:=1) rfl
  have a2:atI [V.int (sg pt),x1,x2] 2=some x2:=zae (j:=2) rfl
  obtain⟨⟨t1,t2⟩,u1,u2⟩:=pg
  obtain⟨p2,e2⟩:=zgL h2
  have w1:=(zdl t1).2
  have w2:=(zdl u1).2
  have c1:=(zdl t1).1
  have c2:=(zdl u1).1
  have d1:=zck t
  have d2:=zck u
  have lt1:(txt t).length=(cT t).length:=by rw[←cp_len,C05.cp_txt]
  have lt2:(txt u).length=(cT u).length:=by rw[←cp_len,C05.cp_txt]
  have e3:((" = ":Str)).length=3:=by decide +kernel
  refine⟨_,rfl,pa,_,_,_,rfl,rfl,hpa,a1,_,rfl,pa,_,_,_,rfl,rfl,hpa,a2,rfl,_,rfl,aO (fun _=>?_) (fun c=>absurd (show(!decide (x2=V.non))=true by rw[e2];rfl) c)⟩
  refine⟨_,rfl,pa,_,_,_,rfl,rfl,hpa,a1,t,x1,rfl,h1,by omega,by omega,fun H1 s1=>⟨_,_,rfl,rfl,sz _ (by rw[lt1,e3];omega),_,rfl,pa,_,_,_,rfl,rfl,s1.kt.sq hpa,a2,u,x2,rfl,h2.keep s1.kt (nol_dTr _),by omega,by omega,fun H2 s2=>⟨_,_,rfl,rfl,sz _ (by rw[zai,lt1,lt2,e3];omega),?_⟩⟩⟩
  have s02:=s1.trans s2
  refine⟨lS2,fun l hl=>?_⟩
  have s3:=ar hl (.lst [V.str "",V.str "not "])
  have n3:=ae (H:=H2) (a:=l) (o:=.lst [V.str "",V.str "not "])
  generalize upd H2 l (.lst [V.str "",V.str "not "])=H3 at s3 n3
  have s03:=s02.trans s3
  refine⟨_,rfl,pa,_,_,_,rfl,rfl,s03.kt.sq hpa,a0,l,_,_,_,rfl,rfl,SqL.of n3,zh3 pt,_,rfl,_,_,rfl,rfl,sz _ (ls (txt t++" = "++txt u) (by rw[zai,zai,lt1,lt2,e3];omega)),?_⟩
  rw[fin (txt t++" = "++txt u) (by rw[za6,za6,C05.cp_txt,C05.cp_txt];rfl)]
  exact q H3 s03
def zfM (K:W.Frag):Sp:=fun vs H Q _=>∃(l:Addr) (rs:List (List Prt)),vs=[.ref l]∧zc3 K H l rs∧(∀ r∈rs,(∀ p∈r,PGa p.a)∧r.length≤4)∧rs.length≤200∧∀ H',ax H H'→Q (.str (ofC (zbb rs))) H'
theorem zbz:zaa ["_law_rows","_law_text_here","_law_row","_law_said"] ["_law_rows"] (ap zdx):=⟨rfl,rfl,rfl,by decide +kernel,rfl,by decide +kernel,by decide +kernel⟩
set_option maxHeartbeats 2000000 in
theorem zlb (F:Fun K "_law_text" "_law_text" zdx f fd) (BP:FB P w K mg base CX0 23 "_law_part_text" fC dC ["_law_part"] (zhc K)):FnOk P w K mg base CX0 24 f fd ["_law_rows"] (zfM K):=by
 refine F.ok zbz (fun vs H Q E h=>?_) (fun cdv A outer s H vs Q E hr h=>?_)
 ·obtain⟨l,rs,rfl,_⟩:=h
  rfl
 obtain⟨l,rs,rfl,⟨us,hl,ul,hus⟩,pg,r200,q⟩:=h
 have hu:=zc1 hr
 refine⟨_,(ai (aA (i:=1) zbz.nd rfl (Or.inl rfl) aD)
  (ai (zbo PassesOwn.never rfl (zbL (pv 0)) (zaP (i:=2) zbz.nd rfl (Or.inl rfl))
   (ai (aA (i:=3) zbz.nd rfl (Or.inl rfl) (zaL PySem.F.plainAttrs_str PySem.F.slot_str_join PySem.F.type_str_join zdI aD (aa (zbP (N':=["_law_part"]) (ix:=[]) rfl rfl (by decide +kernel) (by decide +kernel) rfl (fun _=>⟨[],zcD (by decide +kernel) (by decide +kernel)⟩) (by decide +kernel) rfl rfl (fun j i h=>by simp at h) (zbL (pv 2)) (fun _ _ _ _=>(az BP.ok hr rfl BP.m BP.kp BP.b .nil aF (aa (pv 0) ac)))) ac)))
    (ai (zal (zac (zeo hu) (pv 2) (zaA ac) rfl)
     (ak (aA (i:=3) zbz.nd rfl (Or.inl rfl) aD))
     zab)
    (ak (aA (i:=1) zbz.nd rfl (Or.inl rfl) (aw zas (aw zas (pv 1) (pv 3)) aD))))))
  (ak (aE (pv 1))))),?_⟩
 have e1:(("\n":Str)).length=1:=by decide +kernel
 have c10:cp "\n"=[10]:=by decide +kernel
 have cor:cp " or "=sOr:=by decide +kernel
 refine⟨_,rfl,l,rfl,⟨_,SqL.of hl⟩,zes zbI (fun i σ H'=>ax H H'∧∃ v2 v3:Option V,σ=[some (.ref l),some (.str (ofC (zbb (rs.take i)))),v2,v3]) (fun i σ H' ⟨s',_⟩=>SqL.of (s' _ _ hl)) ⟨ax.refl _,none,none,?_⟩ ?_ ?_⟩
 ·have:ofC (zbb (rs.take 0))="":=by rw[List.take_zero];rfl
  rw[this]
  rfl
 ·rintro i σ H9 x H2 hi ⟨s2,v2,v3,rfl⟩ ⟨rfl,hx⟩
  have hx2:=hx _ (SqL.of (s2 _ _ hl))
  have il:i < rs.length:=by rw[←ul];exact hi
  have er:rs[i]?=some rs[i]:=List.getElem?_eq_getElem il
  generalize rs[i]=r at er
  have rm:=List.mem_of_getElem? er
  obtain⟨lr,xs,rfl,hlr,hxs⟩:=(hus i x r hx2 er).same s2
  have xl:xs.length=r.length:=by rw[←hxs.length,List.length_map]
  have r4:=(pg r rm).2
  have pgr:=(pg r rm).1
  have tl:=zdX (rs:=rs.take i) fun y hy=>pg y (List.mem_of_mem_take hy)
  have ti:(rs.take i).length≤200:=by rw[List.length_take];omega
  have tl':(zbb (rs.take i)).length≤360200:=Nat.le_trans tl (Nat.le_trans (Nat.mul_le_mul_left 1801 ti) (by decide))
  have rl:=zin pgr r4
  refine⟨rfl,_,rfl,lr,rfl,⟨_,SqL.of hlr⟩,fun D hD=>zbC zbI (fun j us' H'=>ax H2 H'∧us'=((r.take j).map fun p=>V.str (ofC (cPt p)))) (fun j us' H' ⟨s',_⟩=>SqL.of (s' _ _ hlr)) ⟨ar hD _,rfl⟩ ?_ ?_⟩
  ·rintro j us' H8 y H4 hj hly hDs ⟨s4,rfl⟩ ⟨rfl,hy⟩
   obtain⟨d,hd,hyd⟩:=aj.get (hxs.keep s4.kt (zax _)) (hy _ (SqL.of (s4 _ _ hlr)))
   rw[List.getElem?_map]at hd
   cases ep:r[j]? with
   | none=>rw[ep]at hd;cases hd
   | some p =>
    rw[ep]at hd
    cases hd
    refine⟨_,rfl,y,p,rfl,hyd,pgr p (List.mem_of_getElem? ep),fun H5 s5=>zaY (sz _ (by omega)) hj hly (s5 _ _ hDs) ⟨(s4.trans s5).upd hD,?_⟩⟩
    rw[zaC ep,List.map_append]
    rfl
  ·rintro us' H4 hDs ⟨s4,rfl⟩
   rw[xl,List.take_length]at hDs
   have em:(r.map fun p=>V.str (ofC (cPt p)))=(r.map fun p=>ofC (cPt p)).map V.str:=by rw[List.map_map];rfl
   rw[em]at hDs
   have gl:=zbU " or " (r.map fun p=>ofC (cPt p))
   have e4:((" or ":Str)).length=4:=by decide +kernel
   have ll:zbc (r.map fun p=>ofC (cPt p))≤444 * r.length:=by
    have:=zdM (m:=444) (ss:=r.map fun p=>ofC (cPt p)) fun s hs=>by
     obtain⟨p,hp,rfl⟩:=List.mem_map.mp hs
     rw[ziA]
     exact zio (pgr p hp)
    rw[List.length_map]at this
    exact this
   rw[e4,List.length_map]at gl
   refine⟨" or ",D,_,rfl,rfl,SqL.of hDs,szM (by rw[e4,List.length_map];omega),?_⟩
   refine⟨_,rfl,lS0,fun el hel=>?_⟩
   have s5:=ar hel (.lst [])
   have n5:=ae (H:=H4) (a:=el) (o:=.lst [])
   generalize upd H4 el (.lst [])=H5 at s5 n5
   have s25:=s4.trans s5
   have dd:=zfd pgr
   refine⟨.lst (r.map dLP),.lst [],Has.lst' (SqL.of (s25 _ _ hlr)) (hxs.keep s25.kt (zax _)),Has.lst' (SqL.of n5) aj.nil,by have:=zdG dd;omega,_,rfl,?_⟩
   rw[zeR]
   have fin:∀(y:Str),cp y=cRw r→y.length≤2000∧ofC (zbb (rs.take i))++y++"\n"=ofC (zbb (rs.take (i+1))):=fun y hy=>by
    refine⟨by rw[←cp_len,hy];omega,zjq ?_⟩
    rw[za6,za6,zaJ,hy,c10,zjA er,List.append_assoc]
   have go:∀(y:Str),cp y=cRw r→(ofC (zbb (rs.take i))).length+y.length≤sizeLine∧(ofC (zbb (rs.take i))++y).length+(("\n":Str)).length≤sizeLine:=fun y hy=>by
    have:=(fin y hy).1
    exact⟨szM (by rw[ziA];omega),szM (by rw[zai,ziA,e1];omega)⟩
   cases r with
   | nil =>
    have hy:cp "never"=cRw []:=rfl
    obtain⟨g1,g2⟩:=go "never" hy
    refine zbj ⟨_,rfl,_,rfl,_,_,rfl,rfl,g1,_,_,rfl,rfl,g2,s2.trans s25,some (.ref lr),some (.str "never"),?_⟩
    rw[←(fin "never" hy).2]
    rfl
   | cons p r =>
    have hy:cp (Builtin.Str.glued " or " ((p :: r).map fun p=>ofC (cPt p)))=cRw (p :: r):=by
     rw[zf3 _ _ (by simp),cor,List.map_map]
     unfold cRw
     rw[if_neg (by simp)]
     refine congrArg (jn sOr) ?_
     exact List.map_congr_left fun p _=>zaJ _
    obtain⟨g1,g2⟩:=go _ hy
    refine za3 ⟨_,rfl,_,rfl,_,_,rfl,rfl,g1,_,_,rfl,rfl,g2,s2.trans s25,some (.ref lr),some (.str (Builtin.Str.glued " or " ((p :: r).map fun p=>ofC (cPt p)))),?_⟩
    rw[←(fin _ hy).2]
    rfl
 ·rintro σ H2 ⟨s2,v2,v3,rfl⟩
  rw[ul,List.take_length]
  exact⟨_,rfl,q H2 s2⟩
end
end K05
namespace K05
open PySem L2
open F05 (Tr dTr aQ zaQ txt zaE dp dps wt wts tr_at trs_get nols_dTrs nol_dTr dTrs_length dTrs_map)
open C05 (PA Prt)
theorem ziC (T:List Tm):zaz (T.map dT)≤60:=Nat.le_trans (zd3 T) (by decide)
theorem zcU (As:List At):zaz (As.map dA)≤60:=Nat.le_trans (zch (code:=dA) (n:=1) (fun t=>Nat.le_of_eq (zfu t)) As) (by decide)
theorem ze0 {α:Type} [BEq α] [LawfulBEq α] {code:α→Dt} (hc:∀ a b,peq (code a) (code b)=true↔a=b) {A:List α} {t:α} (h:t∈A):(∃ dj,(A.map code)[A.idxOf t]?=some dj∧peq dj (code t)=true)∧∀ m dm,m < A.idxOf t→(A.map code)[m]?=some dm→peq dm (code t)=false:=by
 refine⟨⟨code t,?_,zbi _⟩,fun m dm hm e=>?_⟩
 ·rw[List.getElem?_map,zcx h]
  rfl
 ·rw[List.getElem?_map]at e
  cases hy:A[m]? with
  | none=>rw[hy]at e;cases e
  | some y =>
   rw[hy]at e
   cases e
   cases q:peq (code y) (code t) with
   | false=>rfl
   | true =>
    have:=(hc y t).mp q
    subst this
    have h2:=List.not_of_lt_findIdx (p:=(· == y)) (xs:=A) hm
    have e2:=(List.getElem?_eq_some_iff.mp hy).2
    rw[e2]at h2
    simp at h2
theorem zcw {α:Type} [BEq α] [LawfulBEq α] {A:List α} {t:α} (h:t∉A):(A++[t]).idxOf t=A.length:=zhD (List.prefix_refl _) h
def zds (K:W.Frag) (H:Hp) (tl:Addr) (T:List Tm):Prop:=∃ xs,H tl=some (.lst xs)∧aj K H (T.map dT) xs
def AtAt (K:W.Frag) (H:Hp) (al:Addr) (A:List At):Prop:=∃ xs,H al=some (.lst xs)∧aj K H (A.map dA) xs
theorem zds.same {K:W.Frag} {H H':Hp} {tl:Addr} {T:List Tm} (h:zds K H tl T) (s:ax H H'):zds K H' tl T:=by
 obtain⟨xs,h1,h2⟩:=h
 exact⟨xs,s _ _ h1,h2.keep s.kt (zaG _)⟩
theorem AtAt.same {K:W.Frag} {H H':Hp} {tl:Addr} {T:List At} (h:AtAt K H tl T) (s:ax H H'):AtAt K H' tl T:=by
 obtain⟨xs,h1,h2⟩:=h
 exact⟨xs,s _ _ h1,h2.keep s.kt (zag za5 _)⟩
theorem zds.kt {K:W.Frag} {H H':Hp} {tl:Addr} {T:List Tm} (h:zds K H tl T) (f:Fr1 H H' tl):KeepT H H':=by
 obtain⟨xs,h1,_⟩:=h
 exact f.keepT h1
section
variable {P:Program} {w:World} {K:W.Frag} {mg:Str→Option Value} {base:Heap} {aK C CN CT CP CM:Addr} {f fT:Addr} {fd dT':FuncData}
theorem zd2 {H:Hp} {q r:Addr} {n:Str} {ks:List Int} (h:H q=some (.tup [.str n,.ref r])) (h2:H r=some (.tup (ks.map V.int))):Has K H (dT (n,ks)) (.ref q):=Has.tup' (SqT.of h) (.cons Has.str' (.cons (Has.tup' (SqT.of h2) (aj.ints _)) .nil))
theorem zd1 {H:Hp} {q:Addr} {z:Str} (h:H q=some (.tup [.str "plain",.str z])):Has K H (dA (.plain z)) (.ref q):=Has.tup' (SqT.of h) (.cons Has.str' (.cons Has.str' .nil))
theorem zcv {H:Hp} {q:Addr} {a b:Int} (h:H q=some (.tup [.str "same",.int a,.int b])):Has K H (dA (.same a b)) (.ref q):=Has.tup' (SqT.of h) (.cons Has.str' (.cons (by simp only[Has]) (.cons (by simp only[Has]) .nil)))
def zhe (K:W.Frag) (n:Nat):Sp:=fun vs H Q _=>∃(tl:Addr) (T:List Tm) (t:Tr) (v:V),vs=[.ref tl,v]∧zds K H tl T∧Has K H (dTr t) v∧dp t≤n∧T.length+szT t≤900 ∧
 ∀ H',zds K H' tl (ad T t).1→Fr1 H H' tl→Q (.int ((ad T t).2:Nat)) H'
theorem zeH:zaa ["_law_terms","_law_tree","_law_parts"] ["_law_terms","_law_tree"] (ap zcH):=⟨rfl,rfl,rfl,by decide +kernel,rfl,by decide +kernel,by decide +kernel⟩
set_option maxHeartbeats 2000000 in
theorem zhw (F:Fun K "_law_term" "_law_term" zcH f fd) (T:Txt K mg aK C CN CT CP CM) (b:ay K fd ["_law_terms","_law_tree"] []) (kp:W.keepIn K (.ref f)=true) (m:mg "_law_term"=some (.ref f)):∀ n,FnOk P w K mg base CX0 n f fd ["_law_terms","_law_tree"] (zhe K n)
 | 0=>F05.FnOk.no fun _ _ _ _ ⟨_,_,t,_,_,_,_,h,_⟩=>by
  cases t with
  | node n ts=>simp only[dp]at h;omega
 | n+1=>by
  have IH:=zhw F T b kp m n
  refine F.ok zeH (fun vs H Q E h=>?_) (fun cdv A outer s H vs Q E hr h=>?_)
  ·obtain⟨tl,T',t,v,rfl,_⟩:=h
   rfl
  obtain⟨tl,T',t,v,rfl,D,hv,hd,m6,q⟩:=h
  have hu:=zc1 hr
  cases t with
  | node nm ts =>
  obtain⟨pt,pq,xs,rfl,hpt,hpq,hxs⟩:=tr_at hv
  have dts:∀ u∈ts,dp u≤n:=by
   simp only[dp]at hd
   exact F05.dps_le (by omega)
  simp only[szT]at m6
  refine⟨_,(ai (aA (i:=2) zeH.nd rfl (Or.inl rfl) (zcd zbn rfl T.tuple PyProof.Rows.Boot.tuple (aa (zbP (N':=["_law_inner","_law_terms"]) (ix:=[0]) rfl rfl (by decide +kernel) (by decide +kernel) rfl (fun ok=>zb4 (sc:=ap zcH) ok rfl (by decide +kernel) (by decide +kernel)) (by decide +kernel) rfl rfl (fun j i h=>match j,h with | 0,h=>by cases h;exact⟨_,rfl,rfl,.inl rfl,.inl rfl⟩ | n+1,h=>by simp at h) (zdD (aB zah (pv 1) ah (fun _ _=>rfl))) (fun _ _ _ _=>(az IH hr rfl m kp b .nil aF (aa (pv 1) (aa (pv 0) ac))))) ac)))
  (ai (zal (zac (zdo hu) (zak (aa (aB zah (pv 1) ah (fun _ _=>rfl)) (aa (pv 2) ac))) (pv 0) rfl)
   (ak (zaM (zaL PySem.F.plainAttrs_list PySem.F.slot_list_append PySem.F.type_list_append zaK (pv 0) (aa (zak (aa (aB zah (pv 1) ah (fun _ _=>rfl)) (aa (pv 2) ac))) ac))))
   zab)
  (ak (aE (zaL PySem.F.plainAttrs_list PySem.F.slot_list_index PySem.F.type_list_index (zdp hu) (pv 0) (aa (zak (aa (aB zah (pv 1) ah (fun _ _=>rfl)) (aa (pv 2) ac))) ac)))))),?_⟩
  have at0:atI [V.str nm,V.ref pq] 0=some (.str nm):=zae (j:=0) rfl
  have at1:atI [V.str nm,V.ref pq] 1=some (.ref pq):=zae (j:=1) rfl
  have xl:xs.length=ts.length:=by rw[←hxs.length,dTrs_length]
  have z2:2≤sizeLine:=by decide
  have tll:=zcz ts
  obtain⟨x0,ht0,_⟩:=id D
  have nTl:∀ {b:Addr},H b=none→b≠tl:=fun e z=>by rw[z,ht0]at e;cases e
  have szi:∀ i,(av T' (ts.take i)).1.length≤T'.length+aI ts:=fun i=>by
   have h1:=zd7 (ts.take i) T'
   have h2:aI (ts.take i)≤aI ts:=by
    have:aI (ts.take i)+aI (ts.drop i)=aI ts:=by rw[←zb5,List.take_append_drop]
    omega
   omega
  refine⟨_,rfl,pt,_,_,_,rfl,rfl,hpt,at1,pq,rfl,⟨_,hpq⟩,fun U hU=>?_⟩
  have nU:=nTl hU
  refine zbC zdB (fun i us H'=>Fr1 H H' tl∧zds K H' tl (av T' (ts.take i)).1∧us=(av T' (ts.take i)).2.map V.int) (fun i us H' ⟨f1,_⟩=>(D.kt f1).sq hpq) ⟨Fr1.of_same (ar hU _),D.same (ar hU _),rfl⟩ ?_ ?_
  ·rintro i us H8 x H4 hi hly hUs ⟨f4,D4,rfl⟩ ⟨rfl,hx⟩
   obtain⟨u,hu',hxu⟩:=trs_get (hxs.keep (D.kt f4) (nols_dTrs _)) (hx _ ((D.kt f4).sq hpq))
   have um:=List.mem_of_getElem? hu'
   have s1:aI (ts.take i)+szT u≤aI ts:=by
    have h1:aI (ts.take (i+1))+aI (ts.drop (i+1))=aI ts:=by rw[←zb5,List.take_append_drop]
    rw[zaC hu',zb5]at h1
    simp only[aI]at h1
    omega
   have s2:=zd7 (ts.take i) T'
   refine⟨_,rfl,_,rfl,tl,_,u,x,rfl,D4,hxu,dts u um,by omega,fun H5 D5 f5=>?_⟩
   have hU5:=f5 _ _ hUs nU
   have kt:=C05.KeepT.but (o:=.lst ((av T' (ts.take i)).2.map V.int++[V.int ((ad (av T' (ts.take i)).1 u).2:Nat)])) hU5 (fun _ e=>by cases e) (fun _ _ e=>by cases e)
   refine zaY (sz _ (by omega)) hi hly hU5 ⟨fun c o hc h1=>?_,?_,by rw[zb1 hu',List.map_append];rfl⟩
   ·rw[au (fun e=>by rw[e,hU]at hc;cases hc)]
    exact f5 _ _ (f4 _ _ hc h1) h1
   ·rw[zb1 hu']
    obtain⟨y5,hy5,hz5⟩:=D5
    exact⟨y5,by rw[au nU.symm];exact hy5,hz5.keep kt (zaG _)⟩
  ·rintro us H4 hUs ⟨f4,D4,rfl⟩
   rw[xl,List.take_length]at D4 hUs
   have sz4:=szi ts.length
   rw[List.take_length]at sz4
   refine⟨U,_,rfl,.inl ⟨SqL.of hUs,fun r hr'=>?_⟩⟩
   have s5:=ar hr' (.tup ((av T' ts).2.map V.int))
   have n5:=ae (H:=H4) (a:=r) (o:=.tup ((av T' ts).2.map V.int))
   generalize upd H4 r (.tup ((av T' ts).2.map V.int))=H5 at s5 n5
   have D5:=D4.same s5
   have f05:Fr1 H H5 tl:=fun c o hc h1=>s5 _ _ (f4 _ _ hc h1)
   have hpt5:=(D.kt f05).sq hpt
   refine⟨_,rfl,pt,_,_,_,rfl,rfl,hpt5,at0,_,rfl,z2,fun l1 h1=>?_⟩
   have s6:=ar h1 (.tup [V.str nm,V.ref r])
   have n6:=ae (H:=H5) (a:=l1) (o:=.tup [V.str nm,V.ref r])
   generalize upd H5 l1 (.tup [V.str nm,V.ref r])=H6 at s6 n6
   have D6:=D5.same s6
   obtain⟨ys,hl,hs⟩:=id D6
   have yl:ys.length=(av T' ts).1.length:=by rw[←hs.length,List.length_map]
   refine⟨_,rfl,tl,ys,(av T' ts).1.map dT,dT (nm,(av T' ts).2),rfl,.inl (SqL.of hl),hs,zd2 n6 (s6 _ _ n5),ziC _,_,rfl,?_⟩
   have ea:=zba zer (av T' ts).1 (nm,(av T' ts).2)
   have hpt6:=s6.kt.sq hpt5
   by_cases hm:(nm,(av T' ts).2)∈(av T' ts).1
   ·rw[decide_eq_true hm]at ea
    simp only[ad,if_pos hm]at q
    refine aO (fun c=>absurd (show(!((av T' ts).1.map dT).any fun d'=>peq d' (dT (nm,(av T' ts).2)))=true from c) (by rw[ea];decide)) (fun _=>?_)
    refine⟨_,rfl,.inl ⟨rfl,_,SqL.of hl⟩,_,rfl,pt,_,_,_,rfl,rfl,hpt6,at0,_,rfl,z2,fun l2 h2=>?_⟩
    have s7:=ar h2 (.tup [V.str nm,V.ref r])
    have n7:=ae (H:=H6) (a:=l2) (o:=.tup [V.str nm,V.ref r])
    generalize upd H6 l2 (.tup [V.str nm,V.ref r])=H7 at s7 n7
    have ix:=ze0 zer hm
    refine⟨tl,_,_,_,_,_,rfl,rfl,(s7 _ _ hl),(hs.keep s7.kt (zaG _)),(zd2 n7 (s7 _ _ (s6 _ _ n5))),(ziC _),ix.1,ix.2,?_⟩
    exact q H7 (D6.same s7) (fun c o hc h1=>s7 _ _ (s6 _ _ (f05 _ _ hc h1)))
   ·rw[decide_eq_false hm]at ea
    simp only[ad,if_neg hm,List.idxOf_eq_length hm]at q
    refine aO (fun _=>?_) (fun c=>absurd (show(!((av T' ts).1.map dT).any fun d'=>peq d' (dT (nm,(av T' ts).2)))=true by rw[ea];rfl) c)
    refine⟨_,rfl,.inl ⟨rfl,_,SqL.of hl⟩,_,rfl,pt,_,_,_,rfl,rfl,hpt6,at0,_,rfl,z2,fun l2 h2=>?_⟩
    have s7:=ar h2 (.tup [V.str nm,V.ref r])
    have n7:=ae (H:=H6) (a:=l2) (o:=.tup [V.str nm,V.ref r])
    generalize upd H6 l2 (.tup [V.str nm,V.ref r])=H7 at s7 n7
    have hl7:=s7 _ _ hl
    have hs7:=hs.keep s7.kt (zaG _)
    refine⟨tl,ys,_,rfl,rfl,hl7,zaT (by omega),?_⟩
    have f07:Fr1 H H7 tl:=fun c o hc h1=>s7 _ _ (s6 _ _ (f05 _ _ hc h1))
    have kt:=C05.KeepT.but (o:=.lst (ys++[V.ref l2])) hl7 (fun _ e=>by cases e) (fun _ _ e=>by cases e)
    have hr7:=s7 _ _ (s6 _ _ n5)
    have n8:=ae (H:=H7) (a:=tl) (o:=.lst (ys++[V.ref l2]))
    have rt:r≠tl:=fun e=>by rw[e,hl7]at hr7;cases hr7
    have lt':l2≠tl:=fun e=>by rw[e,hl7]at n7;cases n7
    have hr8:upd H7 tl (.lst (ys++[V.ref l2])) r=some (.tup ((av T' ts).2.map V.int)):=by rw[au rt];exact hr7
    have h28:upd H7 tl (.lst (ys++[V.ref l2])) l2=some (.tup [V.str nm,V.ref r]):=by rw[au lt'];exact n7
    have hs8:aj K (upd H7 tl (.lst (ys++[V.ref l2]))) (((av T' ts).1++[(nm,(av T' ts).2)]).map dT) (ys++[V.ref l2]):=by
     rw[List.map_append]
     exact(hs7.keep kt (zaG _)).append (.cons (zd2 h28 hr8) .nil)
    have f08:Fr1 H (upd H7 tl (.lst (ys++[V.ref l2]))) tl:=fun c o hc h1=>by rw[au h1];exact f07 _ _ hc h1
    generalize upd H7 tl (.lst (ys++[V.ref l2]))=H8 at n8 hr8 h28 hs8 f08
    refine⟨_,rfl,.inl ⟨rfl,_,SqL.of n8⟩,_,rfl,pt,_,_,_,rfl,rfl,(D.kt f08).sq hpt,at0,_,rfl,z2,fun l4 h4=>?_⟩
    have s9:=ar h4 (.tup [V.str nm,V.ref r])
    have n9:=ae (H:=H8) (a:=l4) (o:=.tup [V.str nm,V.ref r])
    generalize upd H8 l4 (.tup [V.str nm,V.ref r])=H9 at s9 n9
    have ix:=ze0 zer (A:=(av T' ts).1++[(nm,(av T' ts).2)]) (t:=(nm,(av T' ts).2)) (by simp)
    refine⟨tl,_,_,_,_,_,rfl,rfl,(s9 _ _ n8),(hs8.keep s9.kt (zaG _)),(zd2 n9 (s9 _ _ hr8)),(ziC _),ix.1,ix.2,?_⟩
    rw[zcw hm]
    exact q H9 ⟨_,s9 _ _ n8,hs8.keep s9.kt (zaG _)⟩ (fun c o hc h1=>s9 _ _ (f08 _ _ hc h1))
end
end K05
namespace K05
open PySem L2
open F05 (Tr dTr aQ zaQ txt zaE dp dps wt wts tr_at trs_get nols_dTrs nol_dTr dTrs_length dTrs_map)
open C05 (PA Prt)
def FrL (H H':Hp) (tl al:Addr):Prop:=∀ b o,H b=some o→b≠tl→b≠al→H' b=some o
theorem FrL.of_same {H H':Hp} {tl al:Addr} (s:ax H H'):FrL H H' tl al:=fun b o e _ _=>s b o e
theorem FrL.trans {H H' H2:Hp} {tl al:Addr} (a:FrL H H' tl al) (b:FrL H' H2 tl al):FrL H H2 tl al:=fun c o e n1 n2=>b c o (a c o e n1 n2) n1 n2
structure LAt (K:W.Frag) (H:Hp) (tl al:Addr) (T:List Tm) (A:List At):Prop where
 t:zds K H tl T
 a:AtAt K H al A
 n:al≠tl
theorem LAt.same {K:W.Frag} {H H':Hp} {tl al:Addr} {T:List Tm} {A:List At} (h:LAt K H tl al T A) (s:ax H H'):LAt K H' tl al T A:=⟨h.t.same s,h.a.same s,h.n⟩
theorem LAt.kt {K:W.Frag} {H H':Hp} {tl al:Addr} {T:List Tm} {A:List At} (h:LAt K H tl al T A) (f:FrL H H' tl al):KeepT H H':=fun b ys q=>by
 obtain⟨⟨x1,t1,_⟩,⟨x2,t2,_⟩,_⟩:=h
 rcases q with q | ⟨o,q⟩
 ·exact .inl (f _ _ q (fun e=>by rw[e,t1]at q;cases q) (fun e=>by rw[e,t2]at q;cases q))
 ·exact .inr ⟨o,f _ _ q (fun e=>by rw[e,t1]at q;cases q) (fun e=>by rw[e,t2]at q;cases q)⟩
theorem LAt.ne {K:W.Frag} {H:Hp} {tl al b:Addr} {T:List Tm} {A:List At} (h:LAt K H tl al T A) (e:H b=none):b≠tl∧b≠al:=by
 obtain⟨⟨x1,t1,_⟩,⟨x2,t2,_⟩,_⟩:=h
 exact⟨(fun z=>by rw[z,t1]at e;cases e),(fun z=>by rw[z,t2]at e;cases e)⟩
theorem LAt.tm {K:W.Frag} {H H':Hp} {tl al:Addr} {T T':List Tm} {A:List At} (h:LAt K H tl al T A) (t:zds K H' tl T') (f:Fr1 H H' tl):LAt K H' tl al T' A:=by
 have kt:=h.t.kt f
 obtain⟨ht,⟨x2,t2,h2⟩,n⟩:=h
 exact⟨t,⟨x2,f _ _ t2 n,h2.keep kt (zag za5 _)⟩,n⟩
section
variable {P:Program} {w:World} {K:W.Frag} {mg:Str→Option Value} {base:Heap} {aK C CN CT CP CM:Addr} {f fT:Addr} {fd dT':FuncData}
theorem LAt.put {H:Hp} {tl al l:Addr} {T:List Tm} {A:List At} {xs:List V} {a:At} (h:LAt K H tl al T A) (hx:H al=some (.lst xs)) (hs:aj K H (A.map dA) xs) (ha:Has K H (dA a) (.ref l)):LAt K (upd H al (.lst (xs++[V.ref l]))) tl al T (A++[a])∧FrL H (upd H al (.lst (xs++[V.ref l]))) tl al:=by
 have kt:=C05.KeepT.but (o:=.lst (xs++[V.ref l])) hx (fun _ e=>by cases e) (fun _ _ e=>by cases e)
 obtain⟨⟨x1,t1,h1⟩,_,n⟩:=h
 refine⟨⟨⟨x1,by rw[au n.symm];exact t1,h1.keep kt (zaG _)⟩,⟨_,ae,?_⟩,n⟩,fun b o e m1 m2=>by rw[au m2];exact e⟩
 rw[List.map_append]
 exact(hs.keep kt (zag za5 _)).append (.cons (ha.keep kt (za5 _)) .nil)
def zhf (K:W.Frag):Sp:=fun vs H Q _=>∃(tl al:Addr) (s:S5) (p:Prt) (v:V),vs=[.ref tl,.ref al,v]∧LAt K H tl al s.T s.A∧Has K H (dLP p) v∧PGa p.a∧s.T.length≤100∧s.A.length≤500 ∧
 ∀ H',LAt K H' tl al (aPt s p).1.T (aPt s p).1.A→FrL H H' tl al→Q (.int (aPt s p).2) H'
theorem zbV:zaa ["_law_terms","_law_atoms","_law_part","_law_atom_here","_law_one"] ["_law_terms","_law_atoms","_law_part"] (ap zdz):=⟨rfl,rfl,rfl,by decide +kernel,rfl,by decide +kernel,by decide +kernel⟩
theorem zep (p:Prt) (i:Nat):(1+((i:Nat):Int)) * (1 - 2 * sg p)=if p.n=true then -(((i+1:Nat)):Int) else((i+1:Nat):Int):=by
 unfold sg
 cases p.n with
 | true=>rw[if_pos rfl,if_pos rfl];omega
 | false=>rw[if_neg (by decide),if_neg (by decide)];omega
set_option maxHeartbeats 2000000 in
theorem zkr (F:Fun K "_law_atom" "_law_atom" zdz f fd) (BT:FB P w K mg base CX0 21 "_law_term" fT dT' ["_law_terms","_law_tree"] (zhe K 21)):FnOk P w K mg base CX0 22 f fd ["_law_terms","_law_atoms","_law_part"] (zhf K):=by
 refine F.ok zbV (fun vs H Q E h=>?_) (fun cdv A outer s H vs Q E hr h=>?_)
 ·obtain⟨tl,al,s,p,v,rfl,_⟩:=h
  rfl
 obtain⟨tl,al,s5,pt,v,rfl,L,hv,pg,t100,a500,q⟩:=h
 have hu:=zc1 hr
 refine⟨_,(ai (aA (i:=3) zbV.nd rfl (Or.inl rfl) (zak (aa aD (aa (aB zah (pv 2) ah (fun _ _=>rfl)) ac))))
  (ai (zal (zac zfT (aB zah (pv 2) ah (fun _ _=>rfl)) zdE (zam _))
   (ai (aA (i:=4) zbV.nd rfl (Or.inl rfl) (az BT.ok hr rfl BT.m BT.kp BT.b .nil aF (aa (pv 0) (aa (aB zah (pv 2) ah (fun _ _=>rfl)) ac))))
    (ai (aA (i:=3) zbV.nd rfl (Or.inl rfl) (zak (aa aD (aa (pv 4) (aa (az BT.ok hr rfl BT.m BT.kp BT.b .nil aF (aa (pv 0) (aa (aB zah (pv 2) ah (fun _ _=>rfl)) ac))) ac)))))
    (ak (zal (zac (zgW hu) (zak (aa aD (aa (aB zah (pv 3) ah (fun _ _=>rfl)) (aa (aB zah (pv 3) ah (fun _ _=>rfl)) ac)))) (pv 1) rfl)
     (ak (aA (i:=3) zbV.nd rfl (Or.inl rfl) (zak (aa aD (aa (aB zah (pv 3) ah (fun _ _=>rfl)) (aa (aB zah (pv 3) ah (fun _ _=>rfl)) ac))))))
     zab))))
   zab)
  (ai (zal (zac (zdo hu) (pv 3) (pv 1) rfl)
   (ak (zaM (zaL PySem.F.plainAttrs_list PySem.F.slot_list_append PySem.F.type_list_append zaK (pv 1) (aa (pv 3) ac))))
   zab)
  (ak (aE (aw zbF (aw zbw ah (zaL PySem.F.plainAttrs_list PySem.F.slot_list_index PySem.F.type_list_index (zdp hu) (pv 1) (aa (pv 3) ac))) (aw zcm ah (aw zbF ah (aB zah (pv 2) ah (fun _ _=>rfl)))))))))),?_⟩
 have sgb:0≤sg pt∧sg pt≤1:=by unfold sg;split <;> omega
 unfold aPt at q
 dsimp only at q
 cases ea:pt.a with
 | plain z =>
  unfold dLP at hv
  rw[ea]at hv pg q
  simp only[Has,aj]at hv
  obtain⟨pa,_,rfl,hpa,_,_,rfl,rfl,_,_,rfl,rfl,_,_,rfl,rfl,rfl⟩:=hv
  have a0:atI [V.int (sg pt),V.str z,V.non] 0=some (.int (sg pt)):=zae (j:=0) rfl
  have a1:atI [V.int (sg pt),V.str z,V.non] 1=some (.str z):=zae (j:=1) rfl
  have a2:atI [V.int (sg pt),V.str z,V.non] 2=some .non:=zae (j:=2) rfl
  refine⟨_,rfl,pa,_,_,_,rfl,rfl,hpa,a1,lS2,fun l hl=>?_⟩
  have s1:=ar hl (.tup [V.str "plain",V.str z])
  have n1:=ae (H:=H) (a:=l) (o:=.tup [V.str "plain",V.str z])
  generalize upd H l (.tup [V.str "plain",V.str z])=H1 at s1 n1
  have L1:=L.same s1
  have hpa1:=s1.kt.sq hpa
  refine⟨_,rfl,pa,_,_,_,rfl,rfl,hpa1,a2,rfl,_,rfl,aO (fun c=>absurd c (by decide)) (fun _=>?_)⟩
  obtain⟨xs,hx,hs⟩:=id L1.a
  have xl:xs.length=s5.A.length:=by rw[←hs.length,List.length_map]
  refine⟨_,rfl,_,rfl,al,xs,s5.A.map dA,dA (.plain z),rfl,.inl (SqL.of hx),hs,zd1 n1,zcU _,_,rfl,?_⟩
  have eq:=zba zbx s5.A (.plain z)
  by_cases hm:At.plain z∈s5.A
  ·rw[decide_eq_true hm]at eq
   simp only[aPA,if_pos hm]at q
   refine aO (fun c=>absurd (show(!(s5.A.map dA).any fun d'=>peq d' (dA (.plain z)))=true from c) (by rw[eq];decide)) (fun _=>?_)
   have ix:=ze0 zbx hm
   have il:=List.idxOf_lt_length_of_mem hm
   refine⟨_,rfl,.inl ⟨rfl,_,SqL.of hx⟩,_,rfl,al,_,_,_,_,_,rfl,rfl,hx,hs,zd1 n1,zcU _,ix.1,ix.2,_,_,rfl,rfl,_,rfl,pa,_,_,_,rfl,rfl,hpa1,a0,_,_,rfl,rfl,.inl ⟨by decide,by decide⟩,_,_,rfl,rfl,_,_,rfl,rfl,.inl ⟨by omega,by omega⟩,?_⟩
   show Q (.int ((1+((s5.A.idxOf (At.plain z):Nat):Int)) * (1 - 2 * sg pt))) H1
   rw[zep]
   exact q H1 L1 (FrL.of_same s1)
  ·rw[decide_eq_false hm]at eq
   simp only[aPA,if_neg hm]at q
   refine aO (fun _=>?_) (fun c=>absurd (show(!(s5.A.map dA).any fun d'=>peq d' (dA (.plain z)))=true by rw[eq];rfl) c)
   refine⟨_,rfl,.inl ⟨rfl,_,SqL.of hx⟩,_,rfl,al,xs,_,rfl,rfl,hx,zaT (by omega),?_⟩
   obtain⟨L2,f2⟩:=L1.put hx hs (zd1 n1)
   have hal:l≠al:=fun e=>by rw[e,hx]at n1;cases n1
   have n2:upd H1 al (.lst (xs++[V.ref l])) l=some (.tup [V.str "plain",V.str z]):=by rw[au hal];exact n1
   have hpa2:=(L1.kt f2).sq hpa1
   generalize upd H1 al (.lst (xs++[V.ref l]))=H2 at L2 f2 n2 hpa2
   obtain⟨ys,hy,hsy⟩:=id L2.a
   have ix:=ze0 zbx (A:=s5.A++[At.plain z]) (t:=.plain z) (by simp)
   refine⟨_,rfl,.inl ⟨rfl,_,SqL.of hy⟩,_,rfl,al,_,_,_,_,_,rfl,rfl,hy,hsy,zd1 n2,zcU _,ix.1,ix.2,_,_,rfl,rfl,_,rfl,pa,_,_,_,rfl,rfl,hpa2,a0,_,_,rfl,rfl,.inl ⟨by decide,by decide⟩,_,_,rfl,rfl,_,_,rfl,rfl,.inl ⟨by rw[zcw hm];omega,by rw[zcw hm];omega⟩,?_⟩
   show Q (.int ((1+(((s5.A++[At.plain z]).idxOf (At.plain z):Nat):Int)) * (1 - 2 * sg pt))) H2
   rw[zep,zcw hm]
   exact q H2 L2 ((FrL.of_same s1).trans f2)
 | same t u =>
  unfold dLP at hv
  rw[ea]at hv pg q
  simp only[Has,aj]at hv
  obtain⟨pa,_,rfl,hpa,_,_,rfl,rfl,x1,_,rfl,h1,x2,_,rfl,h2,rfl⟩:=hv
  have a0:atI [V.int (sg pt),x1,x2] 0=some (.int (sg pt)):=zae (j:=0) rfl
  have a1:atI [V.int (sg pt),x1,x2] 1=some x1:=zae (j:=1) rfl
  have a2:atI [V.int (sg pt),x1,x2] 2=some x2:=zae (j:=2) rfl
  obtain⟨⟨t1,t2⟩,u1,u2⟩:=pg
  obtain⟨p2,e2⟩:=zgL h2
  have d1:=zck t
  have d2:=zck u
  have z1:=zf6 t s5.T
  refine⟨_,rfl,pa,_,_,_,rfl,rfl,hpa,a1,lS2,fun l0 hl0=>?_⟩
  have s0:=ar hl0 (.tup [V.str "plain",x1])
  generalize upd H l0 (.tup [V.str "plain",x1])=H0 at s0
  refine⟨_,rfl,pa,_,_,_,rfl,rfl,s0.kt.sq hpa,a2,rfl,_,rfl,aO (fun _=>?_) (fun c=>absurd (show(!decide (x2=V.non))=true by rw[e2];rfl) c)⟩
  have L0:=L.same s0
  refine⟨_,rfl,_,rfl,pa,_,_,_,rfl,rfl,s0.kt.sq hpa,a1,tl,s5.T,t,x1,rfl,L0.t,h1.keep s0.kt (nol_dTr _),by omega,by omega,fun H1 T1 f1=>?_⟩
  have L1:=L0.tm T1 f1
  have f01:FrL H H1 tl al:=fun b o e m1 m2=>f1 _ _ (s0 _ _ e) m1
  have k1:=L.kt f01
  refine⟨_,rfl,_,rfl,_,rfl,pa,_,_,_,rfl,rfl,k1.sq hpa,a2,tl,_,u,x2,rfl,L1.t,h2.keep k1 (nol_dTr _),by omega,by omega,fun H2 T2 f2=>?_⟩
  have L2:=L1.tm T2 f2
  have f02:FrL H H2 tl al:=fun b o e m1 m2=>f2 _ _ (f01 _ _ e m1 m2) m1
  refine⟨lS3,fun l3 hl3=>?_⟩
  have s3:=ar hl3 (.tup [V.str "same",V.int ((ad s5.T t).2:Nat),V.int ((ad (ad s5.T t).1 u).2:Nat)])
  have n3:=ae (H:=H2) (a:=l3) (o:=.tup [V.str "same",V.int ((ad s5.T t).2:Nat),V.int ((ad (ad s5.T t).1 u).2:Nat)])
  generalize upd H2 l3 (.tup [V.str "same",V.int ((ad s5.T t).2:Nat),V.int ((ad (ad s5.T t).1 u).2:Nat)])=H3 at s3 n3
  have b1:atI [V.str "same",V.int ((ad s5.T t).2:Nat),V.int ((ad (ad s5.T t).1 u).2:Nat)] 1=some (.int ((ad s5.T t).2:Nat)):=zae (j:=1) rfl
  have b2:atI [V.str "same",V.int ((ad s5.T t).2:Nat),V.int ((ad (ad s5.T t).1 u).2:Nat)] 2=some (.int ((ad (ad s5.T t).1 u).2:Nat)):=zae (j:=2) rfl
  refine⟨_,rfl,l3,_,_,_,rfl,rfl,SqT.of n3,b2,_,rfl,l3,_,_,_,rfl,rfl,SqT.of n3,b1,lS3,fun l4 hl4=>?_⟩
  have s4:=ar hl4 (.tup [V.str "same",V.int ((ad (ad s5.T t).1 u).2:Nat),V.int ((ad s5.T t).2:Nat)])
  have n4:=ae (H:=H3) (a:=l4) (o:=.tup [V.str "same",V.int ((ad (ad s5.T t).1 u).2:Nat),V.int ((ad s5.T t).2:Nat)])
  generalize upd H3 l4 (.tup [V.str "same",V.int ((ad (ad s5.T t).1 u).2:Nat),V.int ((ad s5.T t).2:Nat)])=H4 at s4 n4
  have s24:=s3.trans s4
  have L4:=L2.same s24
  obtain⟨xs,hx,hs⟩:=id L4.a
  have xl:xs.length=s5.A.length:=by rw[←hs.length,List.length_map]
  refine⟨_,rfl,al,xs,s5.A.map dA,dA (At.same ((ad (ad s5.T t).1 u).2:Int) ((ad s5.T t).2:Int)),rfl,.inl (SqL.of hx),hs,zcv n4,zcU _,_,rfl,?_⟩
  have eq1:=zba zbx s5.A (At.same ((ad (ad s5.T t).1 u).2:Int) ((ad s5.T t).2:Int))
  have f04:FrL H H4 tl al:=f02.trans (FrL.of_same s24)
  by_cases hm1:At.same ((ad (ad s5.T t).1 u).2:Int) ((ad s5.T t).2:Int)∈s5.A
  ·rw[decide_eq_true hm1]at eq1
   simp only[aPA,if_pos hm1]at q
   refine aO (fun _=>?_) (fun c=>absurd (show((s5.A.map dA).any fun d'=>peq d' (dA (At.same ((ad (ad s5.T t).1 u).2:Int) ((ad s5.T t).2:Int))))=true from eq1) c)
   refine⟨_,rfl,l3,_,_,_,rfl,rfl,SqT.of (s4 _ _ n3),b2,_,rfl,l3,_,_,_,rfl,rfl,SqT.of (s4 _ _ n3),b1,lS3,fun l5 hl5=>?_⟩
   have s5':=ar hl5 (.tup [V.str "same",V.int ((ad (ad s5.T t).1 u).2:Nat),V.int ((ad s5.T t).2:Nat)])
   have n5:=ae (H:=H4) (a:=l5) (o:=.tup [V.str "same",V.int ((ad (ad s5.T t).1 u).2:Nat),V.int ((ad s5.T t).2:Nat)])
   generalize upd H4 l5 (.tup [V.str "same",V.int ((ad (ad s5.T t).1 u).2:Nat),V.int ((ad s5.T t).2:Nat)])=H5 at s5' n5
   have L5:=L4.same s5'
   have hx5:=s5' _ _ hx
   have hs5:=hs.keep s5'.kt (zag za5 _)
   have f05:=f04.trans (FrL.of_same s5')
   have hpa5:=(L.kt f05).sq hpa
   refine⟨_,rfl,_,rfl,al,xs,s5.A.map dA,dA (At.same ((ad (ad s5.T t).1 u).2:Int) ((ad s5.T t).2:Int)),rfl,.inl (SqL.of hx5),hs5,zcv n5,zcU _,_,rfl,?_⟩
   have eq:=zba zbx s5.A (At.same ((ad (ad s5.T t).1 u).2:Int) ((ad s5.T t).2:Int))
   rw[decide_eq_true hm1]at eq
   refine aO (fun c=>absurd (show(!(s5.A.map dA).any fun d'=>peq d' (dA (At.same ((ad (ad s5.T t).1 u).2:Int) ((ad s5.T t).2:Int))))=true from c) (by rw[eq];decide)) (fun _=>?_)
   have ix:=ze0 zbx hm1
   have il:=List.idxOf_lt_length_of_mem hm1
   refine⟨_,rfl,.inl ⟨rfl,_,SqL.of hx5⟩,_,rfl,al,_,_,_,_,_,rfl,rfl,hx5,hs5,zcv n5,zcU _,ix.1,ix.2,_,_,rfl,rfl,_,rfl,pa,_,_,_,rfl,rfl,hpa5,a0,_,_,rfl,rfl,.inl ⟨by decide,by decide⟩,_,_,rfl,rfl,_,_,rfl,rfl,.inl ⟨by omega,by omega⟩,?_⟩
   show Q (.int ((1+((s5.A.idxOf (At.same ((ad (ad s5.T t).1 u).2:Int) ((ad s5.T t).2:Int)):Nat):Int)) * (1 - 2 * sg pt))) H5
   rw[zep]
   exact q H5 L5 (f05)
  ·rw[decide_eq_false hm1]at eq1
   refine aO (fun c=>absurd (show((s5.A.map dA).any fun d'=>peq d' (dA (At.same ((ad (ad s5.T t).1 u).2:Int) ((ad s5.T t).2:Int))))=true from c) (by rw[eq1];decide)) (fun _=>?_)
   have hx5:=hx
   have hs5:=hs
   have hpa5:=(L.kt f04).sq hpa
   have n3':=s4 _ _ n3
   refine⟨_,rfl,_,rfl,al,xs,s5.A.map dA,dA (At.same ((ad s5.T t).2:Int) ((ad (ad s5.T t).1 u).2:Int)),rfl,.inl (SqL.of hx),hs,zcv n3',zcU _,_,rfl,?_⟩
   by_cases hm2:At.same ((ad s5.T t).2:Int) ((ad (ad s5.T t).1 u).2:Int)∈s5.A
   ·simp only[aPA,if_neg hm1,if_pos hm2]at q
    have eq:=zba zbx s5.A (At.same ((ad s5.T t).2:Int) ((ad (ad s5.T t).1 u).2:Int))
    rw[decide_eq_true hm2]at eq
    refine aO (fun c=>absurd (show(!(s5.A.map dA).any fun d'=>peq d' (dA (At.same ((ad s5.T t).2:Int) ((ad (ad s5.T t).1 u).2:Int))))=true from c) (by rw[eq];decide)) (fun _=>?_)
    have ix:=ze0 zbx hm2
    have il:=List.idxOf_lt_length_of_mem hm2
    refine⟨_,rfl,.inl ⟨rfl,_,SqL.of hx5⟩,_,rfl,al,_,_,_,_,_,rfl,rfl,hx5,hs5,zcv n3',zcU _,ix.1,ix.2,_,_,rfl,rfl,_,rfl,pa,_,_,_,rfl,rfl,hpa5,a0,_,_,rfl,rfl,.inl ⟨by decide,by decide⟩,_,_,rfl,rfl,_,_,rfl,rfl,.inl ⟨by omega,by omega⟩,?_⟩
    show Q (.int ((1+((s5.A.idxOf (At.same ((ad s5.T t).2:Int) ((ad (ad s5.T t).1 u).2:Int)):Nat):Int)) * (1 - 2 * sg pt))) H4
    rw[zep]
    exact q H4 L4 (f04)
   ·have eq:=zba zbx s5.A (At.same ((ad s5.T t).2:Int) ((ad (ad s5.T t).1 u).2:Int))
    rw[decide_eq_false hm2]at eq
    simp only[aPA,if_neg hm1,if_neg hm2]at q
    refine aO (fun _=>?_) (fun c=>absurd (show(!(s5.A.map dA).any fun d'=>peq d' (dA (At.same ((ad s5.T t).2:Int) ((ad (ad s5.T t).1 u).2:Int))))=true by rw[eq];rfl) c)
    refine⟨_,rfl,.inl ⟨rfl,_,SqL.of hx⟩,_,rfl,al,xs,_,rfl,rfl,hx,zaT (by omega),?_⟩
    obtain⟨L6,f6⟩:=L4.put hx hs (zcv n3')
    have hal:l3≠al:=fun e=>by rw[e,hx]at n3';cases n3'
    have n6:upd H4 al (.lst (xs++[V.ref l3])) l3=some (.tup [V.str "same",V.int ((ad s5.T t).2:Nat),V.int ((ad (ad s5.T t).1 u).2:Nat)]):=by rw[au hal];exact n3'
    have f06:=f04.trans f6
    have hpa6:=(L.kt f06).sq hpa
    generalize upd H4 al (.lst (xs++[V.ref l3]))=H6 at L6 f6 n6 f06 hpa6
    obtain⟨ys,hy,hsy⟩:=id L6.a
    have ix:=ze0 zbx (A:=s5.A++[At.same ((ad s5.T t).2:Int) ((ad (ad s5.T t).1 u).2:Int)]) (t:=At.same ((ad s5.T t).2:Int) ((ad (ad s5.T t).1 u).2:Int)) (by simp)
    refine⟨_,rfl,.inl ⟨rfl,_,SqL.of hy⟩,_,rfl,al,_,_,_,_,_,rfl,rfl,hy,hsy,zcv n6,zcU _,ix.1,ix.2,_,_,rfl,rfl,_,rfl,pa,_,_,_,rfl,rfl,hpa6,a0,_,_,rfl,rfl,.inl ⟨by decide,by decide⟩,_,_,rfl,rfl,_,_,rfl,rfl,.inl ⟨by rw[zcw hm2];omega,by rw[zcw hm2];omega⟩,?_⟩
    show Q (.int ((1+(((s5.A++[At.same ((ad s5.T t).2:Int) ((ad (ad s5.T t).1 u).2:Int)]).idxOf (At.same ((ad s5.T t).2:Int) ((ad (ad s5.T t).1 u).2:Int)):Nat):Int)) * (1 - 2 * sg pt))) H6
    rw[zep,zcw hm2]
    exact q H6 L6 f06
end
end K05
namespace K05
open PySem L2
open F05 (Tr dTr aQ zaQ txt zaE dp dps wt wts tr_at trs_get nols_dTrs nol_dTr dTrs_length dTrs_map)
open C05 (PA Prt)
structure DAt (K:W.Frag) (H:Hp) (dh tl al rl:Addr) (T:List Tm) (A:List At) (R:List (List Int)):Prop where
 tp:SqT K H dh [.ref tl,.ref al,.ref rl]
 la:LAt K H tl al T A
 rw:∃ ws,H rl=some (.lst ws)∧aj K H (R.map dR) ws
theorem DAt.same {K:W.Frag} {H H':Hp} {dh tl al rl:Addr} {T:List Tm} {A:List At} {R:List (List Int)} (h:DAt K H dh tl al rl T A R) (s:ax H H'):DAt K H' dh tl al rl T A R:=by
 obtain⟨h1,h2,ws,h3,h4⟩:=h
 exact⟨s.kt.sq h1,h2.same s,ws,s _ _ h3,h4.keep s.kt (zag za4 _)⟩
section
variable {P:Program} {w:World} {K:W.Frag} {mg:Str→Option Value} {base:Heap} {aK C CN CT CP CM:Addr} {f fT:Addr} {fd dT':FuncData}
def zfO (K:W.Frag):Sp:=fun vs H Q _=>∃(l:Addr) (rs:List (List Prt)),vs=[.ref l]∧zc3 K H l rs∧(∀ r∈rs,(∀ p∈r,PGa p.a)∧r.length≤4)∧rs.length≤200∧(aRs s0 rs).1.T.length≤60∧(aRs s0 rs).1.A.length≤40 ∧
 ∀(H':Hp) (dh tl al rl:Addr),ax H H'→DAt K H' dh tl al rl (aRs s0 rs).1.T (aRs s0 rs).1.A (aRs s0 rs).2→Q (.ref dh) H'
theorem zbe:zaa ["_law_rows","_law_terms","_law_atoms","_law_due_here","_law_row","_law_parts","_law_part","_law_number"] ["_law_rows"] (ap zeh):=⟨rfl,rfl,rfl,by decide +kernel,rfl,by decide +kernel,by decide +kernel⟩
set_option maxHeartbeats 2000000 in
theorem zlg (F:Fun K "_law_due" "_law_due" zeh f fd) (T:Txt K mg aK C CN CT CP CM) (BA:FB P w K mg base CX0 22 "_law_atom" fT dT' ["_law_terms","_law_atoms","_law_part"] (zhf K)):FnOk P w K mg base CX0 23 f fd ["_law_rows"] (zfO K):=by
 refine F.ok zbe (fun vs H Q E h=>?_) (fun cdv A outer s H vs Q E hr h=>?_)
 ·obtain⟨l,rs,rfl,_⟩:=h
  rfl
 obtain⟨l,rs,rfl,RA,pg,r200,t60,a40,q⟩:=h
 have hu:=zc1 hr
 refine⟨_,(ai (aA (i:=1) zbe.nd rfl (Or.inl rfl) (zaA ac))
  (ai (aA (i:=2) zbe.nd rfl (Or.inl rfl) (zaA ac))
  (ai (aA (i:=3) zbe.nd rfl (Or.inl rfl) (zaA ac))
  (ai (zbo PassesOwn.never rfl (zbL (pv 0)) (zaP (i:=4) zbe.nd rfl (Or.inl rfl))
   (ai (aA (i:=5) zbe.nd rfl (Or.inl rfl) (zaA ac))
    (ai (zbo PassesOwn.never rfl (zbL (pv 4)) (zaP (i:=6) zbe.nd rfl (Or.inl rfl))
     (ai (aA (i:=7) zbe.nd rfl (Or.inl rfl) (az BA.ok hr rfl BA.m BA.kp BA.b .nil aF (aa (pv 1) (aa (pv 2) (aa (pv 6) ac)))))
      (ak (zal (zac (zdo hu) (pv 7) (pv 5) rfl)
       (ak (zaM (zaL PySem.F.plainAttrs_list PySem.F.slot_list_append PySem.F.type_list_append zaK (pv 5) (aa (pv 7) ac))))
       zab))))
    (ak (zaM (zaL PySem.F.plainAttrs_list PySem.F.slot_list_append PySem.F.type_list_append zaK (pv 3) (aa (zcd zbn rfl T.tuple PyProof.Rows.Boot.tuple (aa (pv 5) ac)) ac)))))))
  (ak (aE (zak (aa (pv 1) (aa (pv 2) (aa (pv 3) ac)))))))))),?_⟩
 have z0:0≤sizeLine:=by decide
 refine⟨z0,fun tl htl=>⟨z0,fun al hal=>⟨z0,fun rl hrl=>?_⟩⟩⟩
 have s1:=ar htl (.lst [])
 have n1:=ae (H:=H) (a:=tl) (o:=.lst [])
 generalize upd H tl (.lst [])=H1 at s1 n1 hal hrl
 have s2:=ar hal (.lst [])
 have n2:=ae (H:=H1) (a:=al) (o:=.lst [])
 generalize upd H1 al (.lst [])=H2 at s2 n2 hrl
 have s3:=ar hrl (.lst [])
 have n3:=ae (H:=H2) (a:=rl) (o:=.lst [])
 generalize upd H2 rl (.lst [])=H3 at s3 n3
 have e1:al≠tl:=fun z=>by rw[z,n1]at hal;cases hal
 have e2:rl≠tl:=fun z=>by rw[z,s2 _ _ n1]at hrl;cases hrl
 have e3:rl≠al:=fun z=>by rw[z,n2]at hrl;cases hrl
 have fal:H al=none:=s1.free hal
 have frl:H rl=none:=s1.free (s2.free hrl)
 have s03:=s1.trans (s2.trans s3)
 have T3:=s3 _ _ (s2 _ _ n1)
 have A3:=s3 _ _ n2
 have sm:∀ {H':Hp},Fr3 H3 H' tl al rl→ax H H':=fun f' b o e=>f' _ _ (s03 _ _ e) (zaj e htl) (zaj e fal) (zaj e frl)
 obtain⟨us,hl,ul,hus⟩:=id RA
 refine⟨_,rfl,l,rfl,⟨_,SqL.of (s03 _ _ hl)⟩,zes zbI (fun i σ H'=>(∃ v4 v5 v6 v7:Option V,σ=[some (.ref l),some (.ref tl),some (.ref al),some (.ref rl),v4,v5,v6,v7])∧Fr3 H3 H' tl al rl∧LAt K H' tl al (aRs s0 (rs.take i)).1.T (aRs s0 (rs.take i)).1.A∧∃ ws,H' rl=some (.lst ws)∧aj K H' ((aRs s0 (rs.take i)).2.map dR) ws) (fun i σ H' ⟨_,f',_⟩=>SqL.of (sm f' _ _ hl)) ⟨⟨none,none,none,none,rfl⟩,Fr3.of_same (ax.refl _),⟨⟨[],T3,.nil⟩,⟨[],A3,.nil⟩,e1⟩,[],n3,.nil⟩ ?_ ?_⟩
 ·rintro i σ H9 x H4 hi ⟨⟨v4,v5,v6,v7,rfl⟩,f4,L4,ws,hw4,hws4⟩ ⟨rfl,hx⟩
  have s04:=sm f4
  have hx4:=hx _ (SqL.of (s04 _ _ hl))
  have il:i < rs.length:=by rw[←ul];exact hi
  have er:rs[i]?=some rs[i]:=List.getElem?_eq_getElem il
  generalize rs[i]=r at er
  have rm:=List.mem_of_getElem? er
  obtain⟨lr,xs,rfl,hlr,hxs⟩:=hus i x r hx4 er
  have xl:xs.length=r.length:=by rw[←hxs.length,List.length_map]
  have r4:=(pg r rm).2
  have pgr:=(pg r rm).1
  have nlr1:lr≠tl:=zaj hlr htl
  have nlr2:lr≠al:=zaj hlr fal
  have nlr3:lr≠rl:=zaj hlr frl
  obtain⟨I4,_,_⟩:=zc7 I5.nil (rs.take i)
  have hs4:=zh5 er
  have Rl:=zdP s0 (rs.take i)
  have wl:ws.length=(aRs s0 (rs.take i)).2.length:=by rw[←hws4.length,List.length_map]
  have ti:(rs.take i).length=i:=by rw[List.length_take];omega
  have esn:aRs s0 (rs.take (i+1))=((aRw (aRs s0 (rs.take i)).1 r).1,(aRs s0 (rs.take i)).2++[aJ [] (aRw (aRs s0 (rs.take i)).1 r).2]):=by rw[zaC er,zfi]
  rw[esn]
  generalize aRs s0 (rs.take i)=y4 at L4 hws4 I4 hs4 Rl wl
  refine⟨z0,fun pl hpl=>?_⟩
  have s5:=ar hpl (.lst [])
  have n5:=ae (H:=H4) (a:=pl) (o:=.lst [])
  generalize upd H4 pl (.lst [])=H5 at s5 n5
  obtain⟨p1,p2⟩:=L4.ne hpl
  have p3:pl≠rl:=fun z=>by rw[z,hw4]at hpl;cases hpl
  have plr:pl≠lr:=fun z=>by rw[z,s04 _ _ hlr]at hpl;cases hpl
  have hlr5:=s5 _ _ (s04 _ _ hlr)
  refine⟨_,rfl,lr,rfl,⟨_,SqL.of hlr5⟩,zes zbI (fun j σ H'=>(∃ v6 v7:Option V,σ=[some (.ref l),some (.ref tl),some (.ref al),some (.ref rl),some (.ref lr),some (.ref pl),v6,v7])∧(∀ b o,H5 b=some o→b≠tl→b≠al→b≠pl→H' b=some o)∧LAt K H' tl al (aRw y4.1 (r.take j)).1.T (aRw y4.1 (r.take j)).1.A∧H' pl=some (.lst ((aJ [] (aRw y4.1 (r.take j)).2).map V.int))) (fun j σ H' ⟨_,f',_⟩=>SqL.of (f' _ _ hlr5 nlr1 nlr2 plr.symm)) ⟨⟨v6,v7,rfl⟩,fun b o e _ _ _=>e,L4.same s5,n5⟩ ?_ ?_⟩
  ·rintro j σ H8 y H6 hj ⟨⟨w6,w7,rfl⟩,f6,L6,hp6⟩ ⟨rfl,hy⟩
   have k6:KeepT H5 H6:=fun b ys q'=>by
    obtain⟨⟨_,q1,_⟩,⟨_,q2,_⟩,_⟩:=L4.same s5
    rcases q' with q' | ⟨o,q'⟩
    ·exact .inl (f6 _ _ q' (fun e=>by rw[e,q1]at q';cases q') (fun e=>by rw[e,q2]at q';cases q') (fun e=>by rw[e,n5]at q';cases q'))
    ·exact .inr ⟨o,f6 _ _ q' (fun e=>by rw[e,q1]at q';cases q') (fun e=>by rw[e,q2]at q';cases q') (fun e=>by rw[e,n5]at q';cases q')⟩
   have hlr6:=f6 _ _ hlr5 nlr1 nlr2 plr.symm
   obtain⟨d,hd,hyd⟩:=aj.get ((hxs.keep (s04.trans s5).kt (zax _)).keep k6 (zax _)) (hy _ (SqL.of hlr6))
   rw[List.getElem?_map]at hd
   cases ep:r[j]? with
   | none=>rw[ep]at hd;cases hd
   | some p =>
    rw[ep]at hd
    cases hd
    have pm:=List.mem_of_getElem? ep
    have en:aRw y4.1 (r.take (j+1))=((aPt (aRw y4.1 (r.take j)).1 p).1,(aRw y4.1 (r.take j)).2++[(aPt (aRw y4.1 (r.take j)).1 p).2]):=by rw[zaC ep,zea]
    have ex:=hs4 j
    have b1:=ex.t.length_le
    have b2:=ex.a.length_le
    have ol:=zc9 (aRw y4.1 (r.take j)).2 []
    have rl':=zf9 y4.1 (r.take j)
    rw[List.length_take]at rl'
    refine⟨_,rfl,_,rfl,_,rfl,tl,al,(aRw y4.1 (r.take j)).1,p,y,rfl,L6,hyd,pgr p pm,by omega,by omega,fun H7 L7 f7=>?_⟩
    have hp7:=f7 _ _ hp6 p1 p2
    refine⟨_,rfl,_,rfl,pl,_,(aJ [] (aRw y4.1 (r.take j)).2).map Dt.int,.int (aPt (aRw y4.1 (r.take j)).1 p).2,rfl,.inl (SqL.of hp7),aj.ints _,by simp only[Has],by rw[zcg];decide,_,rfl,?_⟩
    have ea:=zba zfZ (aJ [] (aRw y4.1 (r.take j)).2) (aPt (aRw y4.1 (r.take j)).1 p).2
    have f57:∀ b o,H5 b=some o→b≠tl→b≠al→b≠pl→H7 b=some o:=fun b o e m1 m2 m3=>f7 _ _ (f6 _ _ e m1 m2 m3) m1 m2
    rw[en]
    dsimp only
    rw[zeB]
    by_cases hm:(aPt (aRw y4.1 (r.take j)).1 p).2∈aJ [] (aRw y4.1 (r.take j)).2
    ·rw[decide_eq_true hm]at ea
     rw[if_pos hm]
     refine aO (fun c=>absurd (show(!((aJ [] (aRw y4.1 (r.take j)).2).map Dt.int).any fun d'=>peq d' (.int (aPt (aRw y4.1 (r.take j)).1 p).2))=true from c) (by rw[ea];decide)) (fun _=>?_)
     exact⟨⟨_,_,rfl⟩,f57,L7,hp7⟩
    ·rw[decide_eq_false hm]at ea
     rw[if_neg hm]
     refine aO (fun _=>?_) (fun c=>absurd (show(!((aJ [] (aRw y4.1 (r.take j)).2).map Dt.int).any fun d'=>peq d' (.int (aPt (aRw y4.1 (r.take j)).1 p).2))=true by rw[ea];rfl) c)
     have l0:([]:List Int).length=0:=rfl
     refine⟨_,rfl,.inl ⟨rfl,_,SqL.of hp7⟩,_,rfl,pl,_,_,rfl,rfl,hp7,zaT (by rw[List.length_map];omega),⟨_,_,rfl⟩,fun b o e m1 m2 m3=>by rw[au m3];exact f57 _ _ e m1 m2 m3,?_,?_⟩
     ·have kt:=C05.KeepT.but (o:=.lst ((aJ [] (aRw y4.1 (r.take j)).2).map V.int++[V.int (aPt (aRw y4.1 (r.take j)).1 p).2])) hp7 (fun _ e=>by cases e) (fun _ _ e=>by cases e)
      obtain⟨⟨g1,g2,g3⟩,⟨g4,g5,g6⟩,g7⟩:=L7
      exact⟨⟨g1,by rw[au p1.symm];exact g2,g3.keep kt (zaG _)⟩,⟨g4,by rw[au p2.symm];exact g5,g6.keep kt (zag za5 _)⟩,g7⟩
     ·rw[ae,List.map_append]
      rfl
  ·rintro σ H6 ⟨⟨w6,w7,rfl⟩,f6,L6,hp6⟩
   rw[xl,List.take_length]at L6 hp6
   have hw6:=f6 _ _ (s5 _ _ hw4) e2 e3 p3.symm
   have k6:KeepT H5 H6:=fun b ys q'=>by
    obtain⟨⟨_,q1,_⟩,⟨_,q2,_⟩,_⟩:=L4.same s5
    rcases q' with q' | ⟨o,q'⟩
    ·exact .inl (f6 _ _ q' (fun e=>by rw[e,q1]at q';cases q') (fun e=>by rw[e,q2]at q';cases q') (fun e=>by rw[e,n5]at q';cases q'))
    ·exact .inr ⟨o,f6 _ _ q' (fun e=>by rw[e,q1]at q';cases q') (fun e=>by rw[e,q2]at q';cases q') (fun e=>by rw[e,n5]at q';cases q')⟩
   refine⟨_,rfl,.inl ⟨rfl,_,SqL.of hw6⟩,_,rfl,pl,_,rfl,.inl ⟨SqL.of hp6,fun t7 ht7=>?_⟩⟩
   have s7:=ar ht7 (.tup ((aJ [] (aRw y4.1 r).2).map V.int))
   have n7:=ae (H:=H6) (a:=t7) (o:=.tup ((aJ [] (aRw y4.1 r).2).map V.int))
   generalize upd H6 t7 (.tup ((aJ [] (aRw y4.1 r).2).map V.int))=H7 at s7 n7
   have hw7:=s7 _ _ hw6
   refine⟨rl,ws,_,rfl,rfl,hw7,zaT (by omega),⟨_,_,_,_,rfl⟩,fun b o e m1 m2 m3=>?_,?_,_,ae,?_⟩
   ·rw[au m3]
    have e4:=f4 _ _ e m1 m2 m3
    exact s7 _ _ (f6 _ _ (s5 _ _ e4) m1 m2 (fun z=>by rw[z,hpl]at e4;cases e4))
   ·have kt:=C05.KeepT.but (o:=.lst (ws++[V.ref t7])) hw7 (fun _ e=>by cases e) (fun _ _ e=>by cases e)
    obtain⟨⟨g1,g2,g3⟩,⟨g4,g5,g6⟩,g7⟩:=L6.same s7
    exact⟨⟨g1,by rw[au e2.symm];exact g2,g3.keep kt (zaG _)⟩,⟨g4,by rw[au e3.symm];exact g5,g6.keep kt (zag za5 _)⟩,g7⟩
   ·have kt:=C05.KeepT.but (o:=.lst (ws++[V.ref t7])) hw7 (fun _ e=>by cases e) (fun _ _ e=>by cases e)
    rw[List.map_append]
    exact((((hws4.keep s5.kt (zag za4 _)).keep k6 (zag za4 _)).keep s7.kt (zag za4 _)).keep kt (zag za4 _)).append (.cons (Has.tup' (kt.sq (SqT.of n7)) (aj.ints _)) .nil)
 ·rintro σ H4 ⟨⟨v4,v5,v6,v7,rfl⟩,f4,L4,ws,hw4,hws4⟩
  rw[ul,List.take_length]at L4 hws4
  refine⟨_,rfl,_,rfl,_,rfl,lS3,fun dh hdh=>?_⟩
  have s5:=ar hdh (.tup [V.ref tl,.ref al,.ref rl])
  exact q _ dh tl al rl ((sm f4).trans s5) ⟨SqT.of ae,L4.same s5,ws,s5 _ _ hw4,hws4.keep s5.kt (zag za4 _)⟩
end
end K05
namespace K05
open PySem L2
open C05 (PA Prt)
theorem zkz (K:W.Frag) (n:String):W.kitOne K (.type n) (.type n)=some true:=by
 unfold W.kitOne
 rw[if_pos (by rw[beq_self_eq_true])]
theorem depsR (R:List (List Int)):zaz (R.map dR)≤50:=Nat.le_trans (zch (code:=dR) (n:=1) (fun r=>by
 simp only[dR,dep,zcg]
 decide) R) (by decide)
theorem depsT' (T:List Tm):zaz (T.map dT)≤50:=Nat.le_trans (zd3 T) (by decide)
theorem depsA' (As:List At):zaz (As.map dA)≤50:=Nat.le_trans (zch (code:=dA) (n:=1) (fun t=>Nat.le_of_eq (zfu t)) As) (by decide)
section
variable {P:Program} {w:World} {K:W.Frag} {mg:Str→Option Value} {base:Heap} {aK C CN CT CP CM:Addr} {f fT:Addr} {fd dT':FuncData}
def zdm (K:W.Frag) (C:Addr):Sp:=fun vs H Q _=>∃(p tl al rl dh tl' al' rl':Addr) (T:List Tm) (A:List At) (R:List (List Int)),vs=[.ref p,.ref dh]∧zat K C H p tl al rl T A R∧DAt K H dh tl' al' rl' T A R∧T.length≤60∧A.length≤40∧R.length≤200∧∀ H',ax H H'→Q (.bl true) H'
theorem zel:zaa ["_law_problem","_law_due_here","_law_thing"] ["_law_problem","_law_due_here"] (ap zdg):=⟨rfl,rfl,rfl,by decide +kernel,rfl,by decide +kernel,by decide +kernel⟩
theorem tup_of {H:Hp} {ds:List Dt} {v:V} (h:Has K H (.tup ds) v):∃ p ys,v=.ref p∧SqT K H p ys:=by
 simp only[Has]at h
 obtain⟨p,ys,e,h,_⟩:=h
 exact⟨p,ys,e,h⟩
theorem zgM {H:Hp} {ds:List Dt} {vs:List V} (h:aj K H ds vs) (hd:∀ d∈ds,∃ es,d=.tup es):∀ v∈vs,∃ p ys,v=.ref p∧SqT K H p ys:=fun v hv=>by
 obtain⟨i,hi⟩:=List.mem_iff_getElem?.mp hv
 obtain⟨d,e1,e2⟩:=aj.get h hi
 obtain⟨es,rfl⟩:=hd d (List.mem_of_getElem? e1)
 exact tup_of e2
set_option maxHeartbeats 2000000 in
theorem zjI (F:Fun K "_law_alike" "_law_alike" zdg f fd) (T:Txt K mg aK C CN CT CP CM):FnOk P w K mg base CX0 1 f fd ["_law_problem","_law_due_here"] (zdm K C):=by
 refine F.ok zel (fun vs H Q E h=>?_) (fun cdv A outer s H vs Q E hr h=>?_)
 ·obtain⟨p,tl,al,rl,dh,tl',al',rl',T',A',R',rfl,_⟩:=h
  rfl
 obtain⟨p,tl,al,rl,dh,tl',al',rl',T',A',R',rfl,S,D,t60,a40,r200,q⟩:=h
 have hu:=zc1 hr
 refine⟨_,(ai (zbo PassesOwn.never rfl (zbL (aw zdF (aw zdF (zaB (pv 0) rfl) (zaB (pv 0) rfl)) (zaB (pv 0) rfl))) (zaP (i:=2) zel.nd rfl (Or.inl rfl))
   (ak (zal (zbS (zbh (zap zhO rfl T.isi PyProof.Rows.Boot.isinstance (aa (pv 2) (aa (zk8 (v:=.ty "tuple") rfl T.tuple PyProof.Rows.Boot.tuple rfl) ac)))))
     (ak (aE zeM))
     zab)))
  (ak (aE (zc5 (zcb (zeo hu) (zaB (pv 0) rfl) (aB zah (pv 1) ah (fun _ _=>rfl)) rfl) (zc5 (zcb (zeo hu) (zaB (pv 0) rfl) (aB zah (pv 1) ah (fun _ _=>rfl)) rfl) (zfr (zcb (zeo hu) (zaB (pv 0) rfl) (aB zah (pv 1) ah (fun _ _=>rfl)) rfl))))))),?_⟩
 obtain⟨⟨dx,ho⟩,⟨xs,ht,hT⟩,⟨ys,ha,hA⟩,⟨zs,hrr,hR⟩,_⟩:=id S
 obtain⟨hdh,⟨⟨xs',ht',hT'⟩,⟨ys',ha',hA'⟩,_⟩,zs',hr',hR'⟩:=id D
 have xl:xs.length=T'.length:=by rw[←hT.length,List.length_map]
 have yl:ys.length=A'.length:=by rw[←hA.length,List.length_map]
 have zl:zs.length=R'.length:=by rw[←hR.length,List.length_map]
 refine⟨_,rfl,p,C,dx,_,_,rfl,ho,T.cl,T.nT,zb0 tl al rl,_,rfl,p,C,dx,_,_,rfl,ho,T.cl,T.nA,zbr tl al rl,tl,al,_,_,rfl,rfl,ht,ha,sz _ (by omega),fun c hc=>?_⟩
 have s1:=ar hc (.lst (xs++ys))
 have n1:=ae (H:=H) (a:=c) (o:=.lst (xs++ys))
 generalize upd H c (.lst (xs++ys))=H1 at s1 n1
 refine⟨_,rfl,p,C,dx,_,_,rfl,s1 _ _ ho,T.cl,T.nR,zcf tl al rl,c,rl,_,_,rfl,rfl,n1,s1 _ _ hrr,sz _ (by rw[List.length_append];omega),fun d hd=>?_⟩
 have s2:=ar hd (.lst (xs++ys++zs))
 have n2:=ae (H:=H1) (a:=d) (o:=.lst (xs++ys++zs))
 generalize upd H1 d (.lst (xs++ys++zs))=H2 at s2 n2
 have s02:=s1.trans s2
 have all:∀ v∈xs++ys++zs,∃ p ys,v=V.ref p∧SqT K H2 p ys:=fun v hv=>by
  rcases List.mem_append.mp hv with hv | hv
  ·rcases List.mem_append.mp hv with hv | hv
   ·exact zgM (hT.keep s02.kt (zaG _)) (fun d hd=>by obtain⟨t,_,rfl⟩:=List.mem_map.mp hd;exact⟨_,rfl⟩) v hv
   ·exact zgM (hA.keep s02.kt (zag za5 _)) (fun d hd=>by obtain⟨t,_,rfl⟩:=List.mem_map.mp hd;cases t <;> exact⟨_,rfl⟩) v hv
  ·exact zgM (hR.keep s02.kt (zag za4 _)) (fun d hd=>by obtain⟨t,_,rfl⟩:=List.mem_map.mp hd;exact⟨_,rfl⟩) v hv
 refine⟨d,rfl,⟨_,SqL.of n2⟩,zes zbI (fun i σ H'=>H'=H2∧∃ v2:Option V,σ=[some (.ref p),some (.ref dh),v2]) (fun i σ H' ⟨e,_⟩=>by rw[e];exact SqL.of n2) ⟨rfl,none,rfl⟩ ?_ ?_⟩
 ·rintro i σ H9 x H3 hi ⟨rfl,v2,rfl⟩ ⟨rfl,hx⟩
  obtain⟨q1,ws,rfl,hq1⟩:=all x (List.mem_of_getElem? (hx _ (SqL.of n2)))
  exact⟨_,rfl,q1,ws,"tuple",true,rfl,hq1,zkz K "tuple",_,rfl,za3 ⟨rfl,_,rfl⟩⟩
 ·rintro σ H3 ⟨rfl,v2,rfl⟩
  have at0:atI [V.ref tl',.ref al',.ref rl'] 0=some (.ref tl'):=zae (j:=0) rfl
  have at1:atI [V.ref tl',.ref al',.ref rl'] 1=some (.ref al'):=zae (j:=1) rfl
  have at2:atI [V.ref tl',.ref al',.ref rl'] 2=some (.ref rl'):=zae (j:=2) rfl
  have hdh2:=s02.kt.sq hdh
  refine⟨_,rfl,p,C,dx,_,_,rfl,s02 _ _ ho,T.cl,T.nT,zb0 tl al rl,_,rfl,dh,_,_,_,rfl,rfl,hdh2,at0,.lst (T'.map dT),.lst (T'.map dT),Has.lst' (SqL.of (s02 _ _ ht)) (hT.keep s02.kt (zaG _)),Has.lst' (SqL.of (s02 _ _ ht')) (hT'.keep s02.kt (zaG _)),by have:=zdG (depsT' T');omega,_,rfl,?_⟩
  rw[zbi]
  refine zbj ⟨_,rfl,p,C,dx,_,_,rfl,s02 _ _ ho,T.cl,T.nA,zbr tl al rl,_,rfl,dh,_,_,_,rfl,rfl,hdh2,at1,.lst (A'.map dA),.lst (A'.map dA),Has.lst' (SqL.of (s02 _ _ ha)) (hA.keep s02.kt (zag za5 _)),Has.lst' (SqL.of (s02 _ _ ha')) (hA'.keep s02.kt (zag za5 _)),by have:=zdG (depsA' A');omega,_,rfl,?_⟩
  rw[zbi]
  refine zbj ⟨_,rfl,p,C,dx,_,_,rfl,s02 _ _ ho,T.cl,T.nR,zcf tl al rl,_,rfl,dh,_,_,_,rfl,rfl,hdh2,at2,.lst (R'.map dR),.lst (R'.map dR),Has.lst' (SqL.of (s02 _ _ hrr)) (hR.keep s02.kt (zag za4 _)),Has.lst' (SqL.of (s02 _ _ hr')) (hR'.keep s02.kt (zag za4 _)),by have:=zdG (depsR R');omega,?_⟩
  rw[zbi]
  exact q _ s02
end
end K05
namespace K05
open PySem L2
open F05 (Tr dTr aQ zaQ txt zaE dp dps wt wts tr_at trs_get nols_dTrs nol_dTr dTrs_length dTrs_map)
open C05 (PA Prt)
def forB (s:Stmt):List Stmt:=match s with
 | .For _ _ b _ _=>b
 | _=>[]
abbrev NTd:List Str:=["_law_script","_law_trees_here","_law_names_here","_law_rows","_law_k","_law_cell","_law_row","_law_j","_law_more","_law_part"]
abbrev inB:List Stmt:=forB ((forB ((zaF zaR).getD 1 (.Pass ⟨0,0,0,0⟩))).getD 2 (.Pass ⟨0,0,0,0⟩))
def GP (ts:List Tr) (p:Prt):Prop:=PGa p.a∧zbJ ts p.a
section
variable {P:Program} {w:World} {K:W.Frag} {mg:Str→Option Value} {base:Heap} {aK C CN CT CP CM:Addr} {f fC:Addr} {fd dC:FuncData}
theorem zaH:zaa NTd ["_law_script","_law_trees_here","_law_names_here"] (ap zaR):=⟨rfl,rfl,rfl,by decide +kernel,rfl,by decide +kernel,by decide +kernel⟩
def Nxt (K:W.Frag) (ts:List Tr) (D:zaW) (H:Hp) (lw:Addr) (xs:List V) (r:List Prt) (v0 tr nl v3 v4:Option V) (c:Int) (v7 v8:Option V):Prop :=
 ∀(H':Hp) (v:V) (p:Prt),Fr1 H H' lw→H' lw=some (.lst (xs++[v]))→aj K H' ((r++[p]).map dLP) (xs++[v])→GP ts p→D.nx [v0,tr,nl,v3,v4,some (.int c),some (.ref lw),v7,v8,some v] H'
theorem Nxt.from {ts:List Tr} {D:zaW} {H H1:Hp} {lw:Addr} {xs:List V} {r:List Prt} {v0 tr nl v3 v4:Option V} {c:Int} {v7 v8:Option V} (h:Nxt K ts D H lw xs r v0 tr nl v3 v4 c v7 v8) (s:ax H H1):Nxt K ts D H1 lw xs r v0 tr nl v3 v4 c v7 v8:=fun H' v p f' h1 h2 h3=>h H' v p (fun b o e n=>f' _ _ (s _ _ e) n) h1 h2 h3
theorem told6 {cdv:Value} {A:Around} {outer:List Env} {s:Shared} {H0:Hp} {E:XK} :
  ∃ t,PSs (zbs CX0 P w K mg base NTd "_law_told" (ap zaR) f cdv A outer s H0 E).nox (inB.drop 6) t ∧
   ∀(D:zaW) (H:Hp) (lw:Addr) (xs:List V) (r:List Prt) (ts:List Tr) (p:Prt) (v:V) (c:Int) (v0 tr nl v3 v4 v7 v8:Option V),H lw=some (.lst xs)→aj K H (r.map dLP) xs→xs.length≤100→Has K H (dLP p) v→GP ts p→Nxt K ts D H lw xs r v0 tr nl v3 v4 c v7 v8 →
    t D [v0,tr,nl,v3,v4,some (.int c),some (.ref lw),v7,v8,some v] H:=by
 refine⟨_,(ak (zaM (zaL PySem.F.plainAttrs_list PySem.F.slot_list_append PySem.F.type_list_append zaK (pv 6) (aa (pv 9) ac)))),?_⟩
 intro D H lw xs r ts p v c v0 tr nl v3 v4 v7 v8 hw hx x100 hv gp nx
 refine⟨_,rfl,.inl ⟨rfl,_,SqL.of hw⟩,_,rfl,lw,_,_,rfl,rfl,hw,zaT (by omega),?_⟩
 have kt:=C05.KeepT.but (o:=.lst (xs++[v])) hw (fun _ e=>by cases e) (fun _ _ e=>by cases e)
 refine nx _ v p (fun b o e n=>by rw[au n];exact e) ae ?_ gp
 rw[List.map_append]
 exact(hx.keep kt (zax _)).append (.cons (hv.keep kt (zcn _)) .nil)
theorem zjh {H:Hp} {lw el:Addr} {xs:List V} {r:List Prt} (hw:H lw=some (.lst xs)) (hx:aj K H (r.map dLP) xs) (pg:∀ p∈r,PGa p.a) (he:H el=none):dep (.lst (r.map dLP))≤60∧Has K (upd H el (.lst [])) (.lst (r.map dLP)) (.ref lw)∧Has K (upd H el (.lst [])) (.lst []) (.ref el):=by
 have s1:=ar he (.lst [])
 exact⟨by have:=zdG (zfd pg);omega,Has.lst' (SqL.of (s1 _ _ hw)) (hx.keep s1.kt (zax _)),Has.lst' (SqL.of ae) aj.nil⟩
set_option maxHeartbeats 2000000 in
theorem told5 {cdv:Value} {A:Around} {outer:List Env} {s:Shared} {H0:Hp} {E:XK} (hr:aL 1 (A.deeper (PyProof.Rows.envOfC "_law_told" (ap zaR) s.heap.objs.size f cdv))) :
  ∃ t,PSs (zbs CX0 P w K mg base NTd "_law_told" (ap zaR) f cdv A outer s H0 E).nox (inB.drop 5) t ∧
   ∀(D:zaW) (H:Hp) (lw:Addr) (xs:List V) (r:List Prt) (ts:List Tr) (p:Prt) (v:V) (c:Int) (v0 tr nl v3 v4 v7 v8:Option V),H lw=some (.lst xs)→aj K H (r.map dLP) xs→xs.length≤100→(∀ p∈r,GP ts p)→Has K H (dLP p) v→GP ts p→Nxt K ts D H lw xs r v0 tr nl v3 v4 c v7 v8 →
    t D [v0,tr,nl,v3,v4,some (.int c),some (.ref lw),v7,v8,some v] H:=by
 have hu:=zc1 hr
 obtain⟨t6,h6,g6⟩:=told6 (P:=P) (w:=w) (K:=K) (mg:=mg) (base:=base) (f:=f) (cdv:=cdv) (A:=A) (outer:=outer) (s:=s) (H0:=H0) (E:=E)
 refine⟨_,(ai (zal (PW.pt (zcJ (zac zbu (aw zar (aw zaX (pv 5) ah) ah) ah (zam _)) (zcJ (zac (zgV hu) (pv 6) (zaA ac) rfl) (zcY (zac zfT (aB zah (aB zaq (pv 6) ah (fun _ _=>rfl)) ah (fun _ _=>rfl)) zdE (zam _))))))
       (ak (aA (i:=9) zaH.nd rfl (Or.inl rfl) (zak (aa (aB zah (aB zaq (pv 6) ah (fun _ _=>rfl)) ah (fun _ _=>rfl)) (aa (aB zah (aB zaq (pv 6) ah (fun _ _=>rfl)) ah (fun _ _=>rfl)) (aa (aB zah (aB zaq (pv 6) ah (fun _ _=>rfl)) ah (fun _ _=>rfl)) ac))))))
       zab) h6),?_⟩
 intro D H lw xs r ts p v c v0 tr nl v3 v4 v7 v8 hw hx x100 gr hv gp nx
 have go:=fun {H1:Hp} (s1:ax H H1)=>g6 D H1 lw xs r ts p v c v0 tr nl v3 v4 v7 v8 (s1 _ _ hw) (hx.keep s1.kt (zax _)) x100 (hv.keep s1.kt (zcn _)) gp (nx.from s1)
 refine⟨_,rfl,_,_,rfl,rfl,⟨by decide,by decide⟩,_,_,rfl,rfl,(by show(0:Int) < 5;decide),rfl,_,rfl,aO (fun _=>?_) (fun _=>za3 (go (ax.refl _)))⟩
 refine⟨_,rfl,lS0,fun el hel=>?_⟩
 obtain⟨d1,d2,d3⟩:=zjh hw hx (fun p hp=>(gr p hp).1) hel
 have s1:=ar hel (.lst [])
 generalize upd H el (.lst [])=H1 at d2 d3 s1
 refine⟨_,_,d2,d3,by omega,_,rfl,?_⟩
 rw[zeR]
 cases r with
 | nil=>exact za3 (za3 (go s1))
 | cons p0 r =>
  have hx1:=hx.keep s1.kt (zax _)
  have hw1:=s1 _ _ hw
  rw[List.map_cons]at hx1
  simp only[aj]at hx1
  obtain⟨x0,xr,exs,h0,hxr⟩:=hx1
  subst exs
  have at0:atI (x0 :: xr) 0=some x0:=zae (j:=0) rfl
  have g0:=gr p0 (by simp)
  refine zbj ?_
  unfold dLP at h0
  cases ea:p0.a with
  | plain z =>
   rw[ea]at h0
   simp only[Has,aj]at h0
   obtain⟨q0,_,rfl,hq0,_,_,rfl,rfl,_,_,rfl,rfl,_,_,rfl,rfl,rfl⟩:=h0
   have a2:atI [V.int (sg p0),V.str z,V.non] 2=some .non:=zae (j:=2) rfl
   exact⟨_,rfl,lw,_,_,_,rfl,rfl,SqL.of hw1,at0,q0,_,_,_,rfl,rfl,hq0,a2,rfl,_,rfl,aO (fun c=>absurd c (by decide)) (fun _=>go s1)⟩
  | same t u =>
   rw[ea]at h0
   simp only[Has,aj]at h0
   obtain⟨q0,_,rfl,hq0,_,_,rfl,rfl,y1,_,rfl,hy1,y2,_,rfl,hy2,rfl⟩:=h0
   obtain⟨p2,e2⟩:=zgL hy2
   have a0:atI [V.int (sg p0),y1,y2] 0=some (.int (sg p0)):=zae (j:=0) rfl
   have a1:atI [V.int (sg p0),y1,y2] 1=some y1:=zae (j:=1) rfl
   have a2:atI [V.int (sg p0),y1,y2] 2=some y2:=zae (j:=2) rfl
   refine⟨_,rfl,lw,_,_,_,rfl,rfl,SqL.of hw1,at0,q0,_,_,_,rfl,rfl,hq0,a2,rfl,_,rfl,aO (fun _=>?_) (fun c=>absurd (show(!decide (y2=V.non))=true by rw[e2];rfl) c)⟩
   refine⟨_,rfl,lw,_,_,_,rfl,rfl,SqL.of hw1,at0,q0,_,_,_,rfl,rfl,hq0,a0,_,rfl,lw,_,_,_,rfl,rfl,SqL.of hw1,at0,q0,_,_,_,rfl,rfl,hq0,a2,_,rfl,lw,_,_,_,rfl,rfl,SqL.of hw1,at0,q0,_,_,_,rfl,rfl,hq0,a1,lS3,fun l3 hl3=>?_⟩
   have s3:=ar hl3 (.tup [V.int (sg p0),y2,y1])
   have s13:=s1.trans s3
   have gp':GP ts ⟨p0.n,.same u t⟩:=by
    obtain⟨g1,g2⟩:=g0
    rw[ea]at g1 g2
    exact⟨⟨g1.2,g1.1⟩,g2.2,g2.1⟩
   refine g6 D _ lw (V.ref q0 :: xr) (p0 :: r) ts ⟨p0.n,.same u t⟩ _ c v0 tr nl v3 v4 v7 v8 (s13 _ _ hw) (hx.keep s13.kt (zax _)) x100 ?_ gp' (nx.from s13)
   unfold dLP
   exact Has.tup' (SqT.of ae) (.cons (by simp only[Has];rfl) (.cons (hy2.keep s3.kt (nol_dTr _)) (.cons (hy1.keep s3.kt (nol_dTr _)) .nil)))
set_option maxHeartbeats 2000000 in
theorem told4 {cdv:Value} {A:Around} {outer:List Env} {s:Shared} {H0:Hp} {E:XK} (hr:aL 1 (A.deeper (PyProof.Rows.envOfC "_law_told" (ap zaR) s.heap.objs.size f cdv))) :
  ∃ t,PSs (zbs CX0 P w K mg base NTd "_law_told" (ap zaR) f cdv A outer s H0 E).nox (inB.drop 4) t ∧
   ∀(D:zaW) (H:Hp) (lw:Addr) (xs:List V) (r:List Prt) (ts:List Tr) (p:Prt) (v:V) (c:Int) (v0 tr nl v3 v4 v7 v8:Option V),H lw=some (.lst xs)→aj K H (r.map dLP) xs→xs.length≤100→(∀ p∈r,GP ts p)→Has K H (dLP p) v→GP ts p→Nxt K ts D H lw xs r v0 tr nl v3 v4 c v7 v8 →
    t D [v0,tr,nl,v3,v4,some (.int c),some (.ref lw),v7,v8,some v] H:=by
 have hu:=zc1 hr
 obtain⟨t5,h5,g5⟩:=told5 (P:=P) (w:=w) (K:=K) (mg:=mg) (base:=base) (f:=f) (outer:=outer) (H0:=H0) (E:=E) hr
 refine⟨_,(ai (zal (PW.pt (zcJ (zac zbu (aw zar (aw zaX (pv 5) ah) ah) ah (zam _)) (zcY (zac (zgV hu) (pv 6) (zaA ac) rfl))))
       (ak (aA (i:=9) zaH.nd rfl (Or.inl rfl) (aB zaq (pv 6) ah (fun _ _=>rfl))))
       zab) h5),?_⟩
 intro D H lw xs r ts p v c v0 tr nl v3 v4 v7 v8 hw hx x100 gr hv gp nx
 have go:=fun {H1:Hp} (s1:ax H H1)=>g5 D H1 lw xs r ts p v c v0 tr nl v3 v4 v7 v8 (s1 _ _ hw) (hx.keep s1.kt (zax _)) x100 gr (hv.keep s1.kt (zcn _)) gp (nx.from s1)
 refine⟨_,rfl,_,_,rfl,rfl,⟨by decide,by decide⟩,_,_,rfl,rfl,(by show(0:Int) < 5;decide),rfl,_,rfl,aO (fun _=>?_) (fun _=>za3 (go (ax.refl _)))⟩
 refine⟨_,rfl,lS0,fun el hel=>?_⟩
 obtain⟨d1,d2,d3⟩:=zjh hw hx (fun p hp=>(gr p hp).1) hel
 have s1:=ar hel (.lst [])
 generalize upd H el (.lst [])=H1 at d2 d3 s1
 refine⟨_,_,d2,d3,by omega,_,rfl,?_⟩
 rw[zeR]
 cases r with
 | nil=>exact za3 (go s1)
 | cons p0 r =>
  have hx1:=hx.keep s1.kt (zax _)
  have hw1:=s1 _ _ hw
  rw[List.map_cons]at hx1
  simp only[aj]at hx1
  obtain⟨x0,xr,exs,h0,hxr⟩:=hx1
  subst exs
  have at0:atI (x0 :: xr) 0=some x0:=zae (j:=0) rfl
  exact zbj ⟨_,rfl,lw,_,_,_,rfl,rfl,SqL.of hw1,at0,g5 D H1 lw (x0 :: xr) (p0 :: r) ts p0 x0 c v0 tr nl v3 v4 v7 v8 hw1 (hx.keep s1.kt (zax _)) x100 gr h0 (gr p0 (by simp)) (nx.from s1)⟩
end
end K05
namespace K05
open PySem L2
open F05 (Tr dTr aQ zaQ txt zaE dp dps wt wts tr_at trs_get nols_dTrs nol_dTr dTrs_length dTrs_map)
open C05 (PA Prt)
theorem zgF (c:Int):sg ⟨decide (c % 2=1),a⟩=c % 2:=by
 have b:=zcM c (show(0:Int) < 2 by decide)
 unfold sg
 by_cases h:c % 2=1
 ·rw[if_pos (decide_eq_true h),h]
 ·rw[if_neg (by simp [h])]
  omega
section
variable {P:Program} {w:World} {K:W.Frag} {mg:Str→Option Value} {base:Heap} {aK C CN CT CP CM:Addr} {f fC:Addr} {fd dC:FuncData}
theorem ze5 {H:Hp} {xs:List V} {ts:List Tr} (hx:aj K H (aQ ts) xs) (ne:xs.length≠0) (c:Int):∃ t v,t∈ts∧atI xs (c % ((xs.length:Nat):Int))=some v∧Has K H (dTr t) v:=by
 have b:=zcM c (show(0:Int) < ((xs.length:Nat):Int) by omega)
 have e:c % ((xs.length:Nat):Int)=(((c % ((xs.length:Nat):Int)).toNat:Nat):Int):=by omega
 have hl:(c % ((xs.length:Nat):Int)).toNat < xs.length:=by omega
 obtain⟨t,ht,hv⟩:=trs_get hx (List.getElem?_eq_getElem hl)
 have key:atI xs (((c % ((xs.length:Nat):Int)).toNat:Nat):Int)=some xs[(c % ((xs.length:Nat):Int)).toNat]:=zae (List.getElem?_eq_getElem hl)
 rw[←e]at key
 exact⟨t,_,List.mem_of_getElem? ht,key,hv⟩
theorem zkH {ts:List Tr} (h:∀ t∈ts,szT t≤21):zaz (aQ ts)≤42:=by
 have h1:=F05.deps_dTrs ts
 have h2:dps ts≤21:=F05.le_dps fun t ht=>by
  have:=zck t
  have:=h t ht
  omega
 omega
set_option maxHeartbeats 2000000 in
theorem told3 (T:Txt K mg aK C CN CT CP CM) {cdv:Value} {A:Around} {outer:List Env} {s:Shared} {H0:Hp} {E:XK} (hr:aL 1 (A.deeper (PyProof.Rows.envOfC "_law_told" (ap zaR) s.heap.objs.size f cdv))) :
  ∃ t,PSs (zbs CX0 P w K mg base NTd "_law_told" (ap zaR) f cdv A outer s H0 E).nox (inB.drop 3) t ∧
   ∀(D:zaW) (H:Hp) (lw tr:Addr) (xs:List V) (r:List Prt) (ts:List Tr) (p:Prt) (v:V) (c m:Int) (v0 nl v3 v4 v7:Option V),H lw=some (.lst xs)→aj K H (r.map dLP) xs→xs.length≤100→(∀ p∈r,GP ts p)→Has K H (dLP p) v→GP ts p→zcL K H tr ts→(∀ t∈ts,TGd t∧szT t≤21)→Nxt K ts D H lw xs r v0 (some (.ref tr)) nl v3 v4 c v7 (some (.int m)) →
    t D [v0,some (.ref tr),nl,v3,v4,some (.int c),some (.ref lw),v7,some (.int m),some v] H:=by
 have hu:=zc1 hr
 obtain⟨t4,h4,g4⟩:=told4 (P:=P) (w:=w) (K:=K) (mg:=mg) (base:=base) (f:=f) (outer:=outer) (H0:=H0) (E:=E) hr
 refine⟨_,(ai (zal (PW.pt (zcJ (zac zcS (aw zar (pv 5) ah) ah (zam _)) (zcY (zac (zgV hu) (pv 1) (zaA ac) rfl))))
       (ak (aA (i:=9) zaH.nd rfl (Or.inl rfl) (zak (aa (aw zar (aw zaX (pv 5) ah) ah) (aa (aB zaq (pv 1) (aw zar (aw zaX (pv 5) ah) (zap zao rfl T.len PySem.boot_len (aa (pv 1) ac))) (fun _ _=>rfl)) (aa (aB zaq (pv 1) (aw zar (pv 8) (zap zao rfl T.len PySem.boot_len (aa (pv 1) ac))) (fun _ _=>rfl)) ac))))))
       zab) h4),?_⟩
 intro D H lw tr xs r ts p v c m v0 nl v3 v4 v7 hw hx x100 gr hv gp PA gt nx
 have go:=fun {H1:Hp} (s1:ax H H1)=>g4 D H1 lw xs r ts p v c v0 _ nl v3 v4 v7 _ (s1 _ _ hw) (hx.keep s1.kt (zax _)) x100 gr (hv.keep s1.kt (zcn _)) gp (nx.from s1)
 refine⟨_,rfl,_,_,rfl,rfl,(by show(0:Int) < 3;decide),_,_,rfl,rfl,_,rfl,aO (fun _=>?_) (fun _=>za3 (go (ax.refl _)))⟩
 refine⟨_,rfl,lS0,fun el hel=>?_⟩
 obtain⟨ws,hws,hxw⟩:=PA
 have s1:=ar hel (.lst [])
 have n1:=ae (H:=H) (a:=el) (o:=.lst [])
 generalize upd H el (.lst [])=H1 at s1 n1
 have dd:=zkH fun t ht=>(gt t ht).2
 refine⟨.lst (aQ ts),.lst [],Has.lst' (SqL.of (s1 _ _ hws)) (hxw.keep s1.kt (nols_dTrs _)),Has.lst' (SqL.of n1) aj.nil,by have:=zdG dd;omega,_,rfl,?_⟩
 rw[zeR]
 have wl:ws.length=ts.length:=by rw[←hxw.length,dTrs_length]
 by_cases hne:ts=[]
 ·subst hne
  exact za3 (go s1)
 ·have ei:(aQ ts).isEmpty=false:=by
   cases ts with
   | nil=>exact absurd rfl hne
   | cons t ts=>rfl
  rw[ei]
  have nz:ws.length≠0:=fun e=>hne (List.length_eq_zero_iff.mp (by omega))
  have hxw1:=hxw.keep s1.kt (nols_dTrs _)
  have hws1:=s1 _ _ hws
  obtain⟨t,y1,mt,at1,hy1⟩:=ze5 hxw1 nz (c / 6)
  obtain⟨u,y2,mu,at2,hy2⟩:=ze5 hxw1 nz m
  refine zbj ⟨_,rfl,_,_,rfl,rfl,⟨by decide,by decide⟩,_,_,rfl,rfl,(by show(0:Int) < 2;decide),_,rfl,_,rfl,_,_,rfl,rfl,⟨by decide,by decide⟩,_,rfl,tr,_,rfl,.inl (SqL.of hws1),_,_,rfl,rfl,(by show(0:Int) < ((ws.length:Nat):Int);omega),tr,_,_,_,rfl,rfl,SqL.of hws1,at1,_,rfl,_,rfl,_,rfl,tr,_,rfl,.inl (SqL.of hws1),_,_,rfl,rfl,(by show(0:Int) < ((ws.length:Nat):Int);omega),tr,_,_,_,rfl,rfl,SqL.of hws1,at2,lS3,fun l3 hl3=>?_⟩
  have s3:=ar hl3 (.tup [V.int (c / 2 % 2),y1,y2])
  have s13:=s1.trans s3
  refine g4 D _ lw xs r ts ⟨decide (c / 2 % 2=1),.same t u⟩ _ c v0 _ nl v3 v4 v7 _ (s13 _ _ hw) (hx.keep s13.kt (zax _)) x100 gr ?_ ⟨⟨gt t mt,gt u mu⟩,mt,mu⟩ (nx.from s13)
  unfold dLP
  dsimp only
  rw[zgF]
  exact Has.tup' (SqT.of ae) (.cons (by simp only[Has]) (.cons (hy1.keep s3.kt (nol_dTr _)) (.cons (hy2.keep s3.kt (nol_dTr _)) .nil)))
def zhY (K:W.Frag):Sp:=fun vs H Q _=>∃(a tr nl:Addr) (ns:List Int) (zs:List Str) (ts:List Tr),vs=[.ref a,.ref tr,.ref nl]∧SqL K H a (ns.map V.int)∧ns.length≤63∧H nl=some (.lst (zs.map V.str))∧zs.length=4∧(∀ z∈zs,GN z)∧zcL K H tr ts∧(∀ t∈ts,TGd t∧szT t≤21) ∧
 ∀(H':Hp) (l:Addr) (rs:List (List Prt)),ax H H'→H l=none→zc3 K H' l rs→(∀ r∈rs,(∀ p∈r,GP ts p)∧r.length≤4)→rs.length≤6→Q (.ref l) H'
set_option maxHeartbeats 4000000 in
theorem zla (F:Fun K "_law_told" "_law_told" zaR f fd) (T:Txt K mg aK C CN CT CP CM) (BC:FB P w K mg base CX0 1 "_law_cell_at" fC dC ["_law_script","_law_k"] (zfo K)):FnOk P w K mg base CX0 2 f fd ["_law_script","_law_trees_here","_law_names_here"] (zhY K):=by
 refine F.ok zaH (fun vs H Q E h=>?_) (fun cdv A outer s H vs Q E hr h=>?_)
 ·obtain⟨a,tr,nl,ns,zs,ts,rfl,_⟩:=h
  rfl
 obtain⟨a,tr,nl,ns,zs,ts,rfl,hS,n63,hN,z4,gz,PA,gt,q⟩:=h
 have hr1:aL 1 _:=hr.mono (by decide)
 obtain⟨t3,h3,g3⟩:=told3 (P:=P) (w:=w) (K:=K) (mg:=mg) (base:=base) (f:=f) (outer:=outer) (H0:=H) (E:=E) T hr1
 refine⟨_,(ai (aA (i:=3) zaH.nd rfl (Or.inl rfl) (zaA ac))
  (ai (zbo PassesOwn.never rfl (zbd rfl T.range (aa (aw zar (az BC.ok hr1 rfl BC.m BC.kp BC.b .nil aF (aa (pv 0) (aa ah ac))) ah) ac)) (zaP (i:=4) zaH.nd rfl (Or.inl rfl))
   (ai (aA (i:=5) zaH.nd rfl (Or.inl rfl) (aw zar (aw zbw (aw zbF (az BC.ok hr1 rfl BC.m BC.kp BC.b .nil aF (aa (pv 0) (aa (aw zbw ah (pv 4)) ac))) ah) (aw zbF ah (pv 4))) ah))
    (ai (aA (i:=6) zaH.nd rfl (Or.inl rfl) (zaA ac))
    (ai (zbo PassesOwn.never rfl (zbd rfl T.range (aa (aw zar (pv 5) ah) ac)) (zaP (i:=7) zaH.nd rfl (Or.inl rfl))
     (ai (aA (i:=5) zaH.nd rfl (Or.inl rfl) (aw zar (aw zbw (aw zbF (pv 5) ah) ah) ah))
      (ai (aA (i:=8) zaH.nd rfl (Or.inl rfl) (aw zar (aw zbF (pv 5) ah) ah))
      (ai (aA (i:=9) zaH.nd rfl (Or.inl rfl) (zak (aa (aw zar (aw zaX (pv 5) ah) ah) (aa (aB zaq (pv 2) (aw zar (pv 8) ah) (fun _ _=>rfl)) (aa zdE ac)))))
      h3))))
    (ak (zaM (zaL PySem.F.plainAttrs_list PySem.F.slot_list_append PySem.F.type_list_append zaK (pv 3) (aa (pv 6) ac))))))))
  (ak (aE (pv 3))))),?_⟩
 refine⟨lS0,fun lr hlr=>?_⟩
 have s1:=ar hlr (.lst [])
 have n1:=ae (H:=H) (a:=lr) (o:=.lst [])
 generalize upd H lr (.lst [])=H1 at s1 n1
 refine⟨_,rfl,a,ns,_,rfl,s1.seq hS,n63,(by decide),fun c0=>⟨_,_,rfl,rfl,(by show(0:Int) < 7;decide),_,rfl,?_⟩⟩
 have b7:=zcM c0 (show(0:Int) < 7 by decide)
 refine⟨(by show -(2 ^ 62)≤c0 % 7;omega),(by show c0 % 7 < 2 ^ 62;omega),zce (lo:=0) (n:=(c0 % 7).toNat) (fun i σ H'=>ax H H'∧∃(us:List V) (rs:List (List Prt)) (v4 v5 v6 v7 v8 v9:Option V),σ=[some (.ref a),some (.ref tr),some (.ref nl),some (.ref lr),v4,v5,v6,v7,v8,v9]∧H' lr=some (.lst us)∧us.length=rs.length∧rs.length=i∧(∀(j:Nat) (u:V) (r:List Prt),us[j]?=some u→rs[j]?=some r→zcl K H' u r)∧V.ref lr∉us∧∀ r∈rs,(∀ p∈r,GP ts p)∧r.length≤4) ⟨s1,[],[],none,none,none,none,none,none,rfl,n1,rfl,rfl,(fun j u r e=>by simp at e),(fun h=>nomatch h),(fun r hr'=>nomatch hr')⟩ ?_ ?_⟩
 ·rintro i σ H2 hi ⟨s2,us,rs,v4,v5,v6,v7,v8,v9,rfl,hlr2,ul,rl,RA,nin,gr⟩
  have hi':i < (c0 % 7).toNat:=hi
  refine⟨_,rfl,_,rfl,_,_,rfl,rfl,a,ns,_,rfl,s2.seq hS,n63,(by show(0:Int)≤15+(0+(i:Int));omega),fun c1=>⟨_,_,rfl,rfl,.inr ⟨by decide,by decide⟩,_,rfl,_,_,rfl,rfl,.inl ⟨by decide,by decide⟩,_,_,rfl,rfl,_,_,rfl,rfl,(by show(0:Int) < 2147483647;decide),?_⟩⟩
  refine⟨lS0,fun lw hlw=>?_⟩
  have s3:=ar hlw (.lst [])
  have n3:=ae (H:=H2) (a:=lw) (o:=.lst [])
  generalize upd H2 lw (.lst [])=H3 at s3 n3
  have lwr:lw≠lr:=fun e=>by rw[e,hlr2]at hlw;cases hlw
  have b5:=zcM ((c1 * 48271+13 * (0+(i:Int))) % 2147483647) (show(0:Int) < 5 by decide)
  refine⟨_,rfl,_,_,rfl,rfl,(by show(0:Int) < 5;decide),_,rfl,(by show -(2 ^ 62)≤(c1 * 48271+13 * (0+(i:Int))) % 2147483647 % 5;omega),(by show(c1 * 48271+13 * (0+(i:Int))) % 2147483647 % 5 < 2 ^ 62;omega),zce (lo:=0) (n:=((c1 * 48271+13 * (0+(i:Int))) % 2147483647 % 5).toNat) (fun j σ H'=>ax H2 H'∧∃(xs:List V) (r:List Prt) (c:Int) (v7 v8 v9:Option V),σ=[some (.ref a),some (.ref tr),some (.ref nl),some (.ref lr),some (.int (0+(i:Int))),some (.int c),some (.ref lw),v7,v8,v9]∧H' lw=some (.lst xs)∧aj K H' (r.map dLP) xs∧r.length=j∧∀ p∈r,GP ts p) ⟨s3,[],[],_,_,_,_,rfl,n3,aj.nil,rfl,(fun p hp=>nomatch hp)⟩ ?_ ?_⟩
  ·rintro j σ H4 hj ⟨s4,xs,r,c,w7,w8,w9,rfl,hw4,hx4,rj,gr4⟩
   have hj':j < ((c1 * 48271+13 * (0+(i:Int))) % 2147483647 % 5).toNat:=hj
   have xl:xs.length=r.length:=by rw[←hx4.length,List.length_map]
   have s24:=s2.trans s4
   refine⟨_,rfl,_,_,rfl,rfl,.inr ⟨by decide,by decide⟩,_,_,rfl,rfl,_,_,rfl,rfl,(by show(0:Int) < 2147483647;decide),?_⟩
   refine⟨_,rfl,_,_,rfl,rfl,.inr ⟨by decide,by decide⟩,_,_,rfl,rfl,(by show(0:Int) < 2147483647;decide),?_⟩
   obtain⟨z,hz,hat⟩:=zfk z4 ((c * 69621+5) % 2147483647 * 16807 % 2147483647)
   refine⟨_,rfl,_,_,rfl,rfl,⟨by decide,by decide⟩,_,_,rfl,rfl,(by show(0:Int) < 2;decide),_,rfl,_,rfl,_,_,rfl,rfl,(by show(0:Int) < 4;decide),nl,_,_,_,rfl,rfl,SqL.of (s24 _ _ hN),hat,lS3,fun l5 hl5=>?_⟩
   have s5:=ar hl5 (.tup [V.int ((c * 69621+5) % 2147483647 / 2 % 2),V.str z,V.non])
   have s25:=s24.trans s5
   have PA5:zcL K (upd H4 l5 (.tup [V.int ((c * 69621+5) % 2147483647 / 2 % 2),V.str z,V.non])) tr ts:=by
    obtain⟨ws,h1,h2⟩:=PA
    exact⟨ws,s25 _ _ h1,h2.keep s25.kt (nols_dTrs _)⟩
   refine g3 _ _ lw tr xs r ts ⟨decide ((c * 69621+5) % 2147483647 / 2 % 2=1),.plain z⟩ (.ref l5) ((c * 69621+5) % 2147483647) ((c * 69621+5) % 2147483647 * 16807 % 2147483647) _ _ _ _ _ (s5 _ _ hw4) (hx4.keep s5.kt (zax _)) (by omega) gr4 ?_ ⟨gz z hz,trivial⟩ PA5 gt (fun H6 v p f6 hw6 hx6 gp6=>?_)
   ·unfold dLP
    dsimp only
    rw[zgF]
    exact Has.tup' (SqT.of ae) (.cons (by simp only[Has]) (.cons Has.str' (.cons (by simp only[Has]) .nil)))
   ·refine⟨fun b o e=>f6 _ _ (s5 _ _ (s4 _ _ e)) (fun z'=>by rw[z',hlw]at e;cases e),_,r++[p],_,_,_,_,rfl,hw6,hx6,by rw[List.length_append,rj];rfl,fun p' hp'=>?_⟩
    rcases List.mem_append.mp hp' with hp' | hp'
    ·exact gr4 p' hp'
    ·rw[List.mem_singleton.mp hp']
     exact gp6
  ·rintro σ H4 ⟨s4,xs,r,c,w7,w8,w9,rfl,hw4,hx4,rj,gr4⟩
   have hlr4:=s4 _ _ hlr2
   refine⟨_,rfl,.inl ⟨rfl,_,SqL.of hlr4⟩,_,rfl,lr,us,_,rfl,rfl,hlr4,zaT (by omega),?_⟩
   have kt:=C05.KeepT.but (o:=.lst (us++[V.ref lw])) hlr4 (fun _ e=>by cases e) (fun _ _ e=>by cases e)
   refine⟨(s2.trans s4).upd hlr,us++[V.ref lw],rs++[r],_,_,_,_,_,_,rfl,ae,by rw[List.length_append,List.length_append,ul];rfl,by rw[List.length_append,rl];rfl,fun k u r' e1 e2=>?_,fun hm=>?_,fun r' hr'=>?_⟩
   ·rcases zaD e1 with ⟨e1',kl⟩ | ⟨ek,eu⟩
    ·rw[List.getElem?_append_left (by rw[←ul];exact kl)]at e2
     obtain⟨l',x',rfl,h1,h2⟩:=(RA k u r' e1' e2).same s4
     have nl':l'≠lr:=fun e=>nin (e ▸ List.mem_of_getElem? e1')
     exact⟨l',x',rfl,by rw[au nl'];exact h1,h2.keep kt (zax _)⟩
    ·rw[ek,ul,List.getElem?_append_right (Nat.le_refl _),Nat.sub_self]at e2
     cases e2
     exact⟨lw,xs,eu.symm,by rw[au lwr];exact hw4,hx4.keep kt (zax _)⟩
   ·rcases List.mem_append.mp hm with hm | hm
    ·exact nin hm
    ·have:=List.mem_singleton.mp hm
     injection this with this
     exact lwr this.symm
   ·rcases List.mem_append.mp hr' with hr' | hr'
    ·exact gr r' hr'
    ·rw[List.mem_singleton.mp hr']
     exact⟨gr4,by omega⟩
 ·rintro σ H2 ⟨s2,us,rs,v4,v5,v6,v7,v8,v9,rfl,hlr2,ul,rl,RA,nin,gr⟩
  exact⟨_,rfl,q H2 lr rs s2 hlr ⟨us,hlr2,ul,RA⟩ gr (by omega)⟩
end
end K05
namespace K05
open PySem L2
open F05 (Tr dTr aQ zaQ txt zaE dp dps wt wts tr_at trs_get nols_dTrs nol_dTr dTrs_length dTrs_map)
open C05 (PA Prt)
def rlS (sc out:Scope):Scope:={ sc with names:=sc.names.map fun(n,k)=>if(k == .free&&out.kind == .function&&out.names.lookup n == some .cell) then(n,.cell) else(n,k) }
abbrev L24:Str:="bcdefghijklmnopqrtuvwxyz"
def lc24 (i:Nat):Nat:=(L24.cps.toList).getD i 98
def smN (k:Nat):Str:=("z":Str)++⟨#[lc24 (k % 24)]⟩++⟨#[lc24 (k / 24)]⟩
abbrev smL:List V:=((List.range 60).map smN).map V.str
theorem at24:∀ i:Nat,i < 60→atI L24.cps.toList ((0+(i:Int)) % 24)=some (lc24 (i % 24))∧atI L24.cps.toList ((0+(i:Int)) / 24)=some (lc24 (i / 24)):=by decide +kernel
theorem zj5:∀ k,k < 60→za0 (smN k)=true∧(smN k).length=3∧(∀ c∈(smN k).cps.toList,c∈abc.cps.toList)∧∃ c∈(smN k).cps.toList,c∈zbX:=by
 have h:∀ k,k < 60→za0 (smN k)=true∧(smN k).length=3∧(∀ c∈(smN k).cps.toList,c∈abc.cps.toList)∧122∈(smN k).cps.toList:=by decide +kernel
 intro k hk
 obtain⟨h1,h2,h3,h4⟩:=h k hk
 exact⟨h1,h2,h3,122,h4,by decide⟩
theorem zgP {k:Nat} (h:k < 60):GN (smN k):=by
 obtain⟨h1,h2,h3,h4⟩:=zj5 k h
 exact gn_of ⟨h1,⟨by omega,fun d hd=>zf7 d (h3 d hd)⟩,h4,h3⟩ (by omega)
theorem zgI {i:Int} (n:Nat) (h:i=(n:Int)) (hn:n < 60):atI smL i=some (.str (smN n)):=by
 subst h
 refine zae ?_
 rw[List.getElem?_map,List.getElem?_map,List.getElem?_range hn]
 rfl
abbrev zcj (k:Nat):Tr:=.node (smN k) []
theorem zid {k:Nat} (h:k < 60):TGd (zcj k)∧szT (zcj k)≤21:=by
 refine⟨⟨zgP h,by decide,trivial⟩,?_⟩
 simp [szT,aI]
structure Rws (K:W.Frag) (H:Hp) (lr:Addr) (us:List V) (rs:List (List Prt)):Prop where
 at_:H lr=some (.lst us)
 len:us.length=rs.length
 row:∀(j:Nat) (u:V) (r:List Prt),us[j]?=some u→rs[j]?=some r→zcl K H u r
 out:V.ref lr∉us
theorem Rws.nil {K:W.Frag} {H:Hp} {lr:Addr} (h:H lr=some (.lst [])):Rws K H lr [] []:=⟨h,rfl,(fun j u r e=>by simp at e),(fun h=>nomatch h)⟩
theorem Rws.same {K:W.Frag} {H H':Hp} {lr:Addr} {us:List V} {rs:List (List Prt)} (h:Rws K H lr us rs) (s:ax H H'):Rws K H' lr us rs :=
 ⟨s _ _ h.at_,h.len,fun j u r e1 e2=>(h.row j u r e1 e2).same s,h.out⟩
theorem Rws.snoc {K:W.Frag} {H:Hp} {lr lw:Addr} {us:List V} {rs:List (List Prt)} {r:List Prt} (h:Rws K H lr us rs) (hw:zcl K H (.ref lw) r) (ne:lw≠lr):Rws K (upd H lr (.lst (us++[V.ref lw]))) lr (us++[V.ref lw]) (rs++[r]):=by
 have kt:=C05.KeepT.but (o:=.lst (us++[V.ref lw])) h.at_ (fun _ e=>by cases e) (fun _ _ e=>by cases e)
 have up:∀ {u:V} {r:List Prt},u≠V.ref lr→zcl K H u r→zcl K (upd H lr (.lst (us++[V.ref lw]))) u r:=fun {u r} n h=>by
  obtain⟨l',x',rfl,h1,h2⟩:=h
  have nl':l'≠lr:=fun e=>n (by rw[e])
  exact⟨l',x',rfl,by rw[au nl'];exact h1,h2.keep kt (zax _)⟩
 have nw:V.ref lw≠V.ref lr:=fun e=>ne (by injection e)
 refine⟨ae,by rw[List.length_append,List.length_append,h.len];rfl,fun k u r' e1 e2=>?_,fun hm=>?_⟩
 ·rcases zaD e1 with ⟨e1',kl⟩ | ⟨ek,eu⟩
  ·rw[List.getElem?_append_left (by rw[←h.len];exact kl)]at e2
   exact up (fun e=>h.out (e ▸ List.mem_of_getElem? e1')) (h.row k u r' e1' e2)
  ·rw[ek,h.len,List.getElem?_append_right (Nat.le_refl _),Nat.sub_self]at e2
   cases e2
   rw[←eu]
   exact up nw hw
 ·rcases List.mem_append.mp hm with hm | hm
  ·exact h.out hm
  ·exact nw (List.mem_singleton.mp hm).symm
theorem Rws.rsAt {K:W.Frag} {H:Hp} {lr:Addr} {us:List V} {rs:List (List Prt)} (h:Rws K H lr us rs):zc3 K H lr rs:=⟨us,h.at_,h.len,h.row⟩
structure RB (rs:List (List Prt)):Prop where
 len:rs.length≤200
 row:∀ r∈rs,r.length≤4
 ok:∃(ts:List Tr) (LA:List PA),(∀ r∈rs,∀ p∈r,PGa p.a∧zbJ ts p.a∧p.a∈LA)∧(ts.map szT).sum≤60∧LA.length≤40
def zll (s:Stmt):Scope:=match (zaF s).getD 2 (.Pass ⟨0,0,0,0⟩) with
 | .If _ (.Return (some (.ListComp _ _ sc _)) _ :: _) _ _=>sc
 | _=>ap s
abbrev NBd:List Str:=["_law_cell","_law_letters","_law_some","_law_rows","_law_k"]
theorem zbA:zaa NBd ["_law_cell"] (ap zaw):=⟨rfl,rfl,rfl,by decide +kernel,rfl,by decide +kernel,by decide +kernel⟩
section
variable {P:Program} {w:World} {K:W.Frag} {mg:Str→Option Value} {base:Heap} {aK C CN CT CP CM:Addr} {f fC:Addr} {fd dC:FuncData}
def BNx (K:W.Frag) (D:zaW) (H:Hp):Prop:=∀(H':Hp) (l:Addr) (rs:List (List Prt)),ax H H'→H l=none→zc3 K H' l rs→RB rs→D.rt (.ref l) H'
def pls:List PA:=(List.range 40).map fun k=>.plain (smN k)
theorem zh6 {k:Nat} (h:k < 40):PA.plain (smN k)∈pls:=List.mem_map.mpr ⟨k,List.mem_range.mpr h,rfl⟩
def lvs:List Tr:=(List.range 60).map zcj
theorem zib {k:Nat} (h:k < 60):zcj k∈lvs:=List.mem_map.mpr ⟨k,List.mem_range.mpr h,rfl⟩
def sms:List PA:=(List.range 30).map fun k=>.same (zcj (2 * k)) (zcj (2 * k+1))
theorem zkW {k:Nat} (h:k < 30):PA.same (zcj (2 * k)) (zcj (2 * k+1))∈sms:=List.mem_map.mpr ⟨k,List.mem_range.mpr h,rfl⟩
theorem zlx (v:V) (lo hi:Option Int):zbB [v] lo hi=[]∨zbB [v] lo hi=[v]:=by
 unfold zbB
 generalize HT.sIx [v].length 0 lo=a
 generalize HT.sIx [v].length [v].length hi - a=b
 cases a with
 | zero =>
  cases b with
  | zero=>exact .inl rfl
  | succ b=>exact .inr (by simp)
 | succ a=>exact .inl (by simp)
theorem zlw {H:Hp} {v:V} {p:Prt} (h:Has K H (dLP p) v) (lo hi:Option Int):∃ r:List Prt,aj K H (r.map dLP) (zbB [v] lo hi)∧(r=[]∨r=[p]):=by
 rcases zlx v lo hi with e | e
 ·exact⟨[],by rw[e];exact aj.nil,.inl rfl⟩
 ·exact⟨[p],by rw[e];exact .cons h .nil,.inr rfl⟩
set_option maxHeartbeats 4000000 in
theorem bnd4 (T:Txt K mg aK C CN CT CP CM) {cdv:Value} {A:Around} {outer:List Env} {s:Shared} {H0:Hp} {E:XK} :
  ∃ t,PSs (zbs CX0 P w K mg base NBd "_law_bounds" (ap zaw) f cdv A outer s H0 E).nox ((zaF zaw).drop 4) t ∧
   ∀(D:zaW) (H:Hp) (c:Int) (sm:Addr) (v1 v3 v4:Option V),H sm=some (.lst smL)→BNx K D H→t D [some (.int c),v1,some (.ref sm),v3,v4] H:=by
 refine⟨_,(ai (aA (i:=3) zbA.nd rfl (Or.inl rfl) (zaA ac))
  (ai (zbo PassesOwn.never rfl (zbd rfl T.range (aa ah ac)) (zaP (i:=4) zbA.nd rfl (Or.inl rfl))
   (ak (zaM (zaL PySem.F.plainAttrs_list PySem.F.slot_list_append PySem.F.type_list_append zaK (pv 3) (aa (zbD zeP (zaA (aa (zak (aa (aw zar (aw zaX (pv 4) ah) ah) (aa (aB zaq (pv 2) (aw zar (pv 4) ah) (fun _ _=>rfl)) (aa zdE ac)))) ac)) zca (zbK (aw zar (pv 4) ah))) ac)))))
  (ak (aE (pv 3))))),?_⟩
 intro D H c sm v1 v3 v4 hs nx
 refine⟨lS0,fun lr hlr=>?_⟩
 have s1:=ar hlr (.lst [])
 have n1:=ae (H:=H) (a:=lr) (o:=.lst [])
 generalize upd H lr (.lst [])=H1 at s1 n1
 refine⟨_,rfl,(by decide),(by decide),zce (lo:=0) (n:=200) (fun i σ H'=>ax H H'∧∃(us:List V) (rs:List (List Prt)) (v4:Option V),σ=[some (.int c),v1,some (.ref sm),some (.ref lr),v4]∧Rws K H' lr us rs∧rs.length=i∧(∀ r∈rs,r.length≤4)∧∀ r∈rs,∀ p∈r,PGa p.a∧zbJ [] p.a∧p.a∈pls) ⟨s1,[],[],v4,rfl,Rws.nil n1,rfl,(fun r hr=>nomatch hr),fun r hr=>nomatch hr⟩ ?_ ?_⟩
 ·rintro i σ H2 hi ⟨s2,us,rs,w4,rfl,R,rl,r4,rg⟩
  have hi':i < 200:=hi
  have hk:i % 40 < 60:=by omega
  have ul:=R.len
  refine⟨_,rfl,.inl ⟨rfl,_,SqL.of R.at_⟩,_,rfl,_,_,rfl,rfl,⟨by decide,by decide⟩,_,_,rfl,rfl,(by show(0:Int) < 2;decide),_,rfl,_,rfl,_,_,rfl,rfl,(by show(0:Int) < 40;decide),sm,_,_,_,rfl,rfl,SqL.of (s2 _ _ hs),zgI (i % 40) (by omega) hk,lS3,fun l3 hl3=>?_⟩
  have s3:=ar hl3 (.tup [V.int ((0+(i:Int)) / 40 % 2),V.str (smN (i % 40)),V.non])
  have hv:Has K (upd H2 l3 (.tup [V.int ((0+(i:Int)) / 40 % 2),V.str (smN (i % 40)),V.non])) (dLP ⟨decide ((0+(i:Int)) / 40 % 2=1),.plain (smN (i % 40))⟩) (.ref l3):=by
   unfold dLP
   dsimp only
   rw[zgF]
   exact Has.tup' (SqT.of ae) (.cons (by simp only[Has]) (.cons Has.str' (.cons (by simp only[Has]) .nil)))
  generalize upd H2 l3 (.tup [V.int ((0+(i:Int)) / 40 % 2),V.str (smN (i % 40)),V.non])=H3 at s3 hv
  refine⟨lS1,fun l4 hl4=>?_⟩
  have s4:=ar hl4 (.lst [V.ref l3])
  have n4:=ae (H:=H3) (a:=l4) (o:=.lst [V.ref l3])
  have hv4:=hv.keep s4.kt (zcn _)
  generalize upd H3 l4 (.lst [V.ref l3])=H4 at s4 n4 hv4
  refine⟨_,rfl,_,_,rfl,rfl,(by show(0:Int) < 11;decide),_,rfl,l4,[V.ref l3],rfl,SqL.of n4,fun l5 hl5=>?_⟩
  obtain⟨r,hr,hrr⟩:=zlw hv4 none (some ((0+(i:Int)) % 11))
  have s5:=ar hl5 (.lst (zbB [V.ref l3] none (some ((0+(i:Int)) % 11))))
  have n5:=ae (H:=H4) (a:=l5) (o:=.lst (zbB [V.ref l3] none (some ((0+(i:Int)) % 11))))
  have hr5:=hr.keep s5.kt (zax _)
  generalize upd H4 l5 (.lst (zbB [V.ref l3] none (some ((0+(i:Int)) % 11))))=H5 at s5 n5 hr5
  have s25:=(s3.trans s4).trans s5
  have R5:=R.same s25
  have ne:l5≠lr:=fun e=>by
   have:=(s3.trans s4) _ _ R.at_
   rw[←e,hl5]at this
   cases this
  refine⟨lr,us,_,rfl,rfl,R5.at_,zaT (by omega),?_⟩
  have rp:∀ p∈r,PGa p.a∧zbJ [] p.a∧p.a∈pls:=fun p hp=>by
   rcases hrr with rfl | rfl
   ·exact nomatch hp
   ·rw[List.mem_singleton.mp hp]
    exact⟨zgP hk,trivial,zh6 (by omega)⟩
  refine⟨(s2.trans s25).upd hlr,_,rs++[r],_,rfl,R5.snoc ⟨l5,_,rfl,n5,hr5⟩ ne,by rw[List.length_append,rl];rfl,fun r' hr'=>?_,fun r' hr'=>?_⟩
  ·rcases List.mem_append.mp hr' with hr' | hr'
   ·exact r4 r' hr'
   ·rw[List.mem_singleton.mp hr']
    rcases hrr with rfl | rfl <;> simp
  ·rcases List.mem_append.mp hr' with hr' | hr'
   ·exact rg r' hr'
   ·rw[List.mem_singleton.mp hr']
    exact rp
 ·rintro σ H2 ⟨s2,us,rs,w4,rfl,R,rl,r4,rg⟩
  exact⟨_,rfl,nx H2 lr rs s2 hlr R.rsAt ⟨by omega,r4,[],pls,rg,by decide,by decide +kernel⟩⟩
set_option maxHeartbeats 4000000 in
theorem bnd3 (T:Txt K mg aK C CN CT CP CM) {cdv:Value} {A:Around} {outer:List Env} {s:Shared} {H0:Hp} {E:XK} :
  ∃ t,PSs (zbs CX0 P w K mg base NBd "_law_bounds" (ap zaw) f cdv A outer s H0 E).nox ((zaF zaw).drop 3) t ∧
   ∀(D:zaW) (H:Hp) (c:Int) (sm:Addr) (v1 v3 v4:Option V),H sm=some (.lst smL)→BNx K D H→t D [some (.int c),v1,some (.ref sm),v3,v4] H:=by
 obtain⟨t4,h4,g4⟩:=bnd4 (P:=P) (w:=w) (K:=K) (mg:=mg) (base:=base) (f:=f) (cdv:=cdv) (A:=A) (outer:=outer) (s:=s) (H0:=H0) (E:=E) T
 refine⟨_,(ai (zal (zac zbu (aw zar (pv 0) ah) ah (zam _))
   (ak (aE (zbP (N':=["_law_k","_law_some"]) (ix:=[2]) rfl rfl (by decide +kernel) (by decide +kernel) rfl (fun ok=>zb4 (sc:=ap zaw) ok rfl (by decide +kernel) (by decide +kernel)) (by decide +kernel) rfl rfl (fun j i h=>match j,h with | 0,h=>by cases h;exact⟨_,rfl,rfl,.inl rfl,.inl rfl⟩ | n+1,h=>by simp at h) (zbd rfl T.range (aa ah ac)) (fun _ _ _ _=>(zaA (aa (zak (aa ah (aa (zak (aa (aB (r:=rIxL K) zaq (pv 1) (aw zbF ah (pv 0)) (fun _ _=>rfl)) (aa (zak ac) ac))) (aa (zak (aa (aB (r:=rIxL K) zaq (pv 1) (aw zbw (aw zbF ah (pv 0)) ah) (fun _ _=>rfl)) (aa (zak ac) ac))) ac)))) ac))))))
   zab) h4),?_⟩
 intro D H c sm v1 v3 v4 hs nx
 refine⟨_,rfl,_,_,rfl,rfl,(by show(0:Int) < 3;decide),rfl,_,rfl,aO (fun _=>?_) (fun _=>g4 D H c sm v1 v3 v4 hs nx)⟩
 refine⟨_,rfl,(by decide),(by decide),fun lr hlr=>zbC zdU (fun i us H'=>ax H H'∧∃ rs:List (List Prt),Rws K H' lr us rs∧rs.length=i∧(∀ r∈rs,r.length≤4)∧∀ r∈rs,∀ p∈r,PGa p.a∧zbJ lvs p.a∧p.a∈sms) (fun _ _ _ _=>trivial) ⟨ar hlr _,[],Rws.nil ae,rfl,(fun r hr=>nomatch hr),fun r hr=>nomatch hr⟩ ?_ ?_⟩
 ·rintro i us H9 x H2 hi ul _ ⟨s2,rs,R,rl,r4,rg⟩ ⟨rfl,rfl⟩
  have hi':i < 30:=hi
  refine⟨_,rfl,_,rfl,_,_,rfl,rfl,.inl ⟨by decide,by decide⟩,sm,_,_,_,rfl,rfl,SqL.of (s2 _ _ hs),zgI (2 * i) (by omega) (by omega),lS0,fun l3 hl3=>?_⟩
  have s3:=ar hl3 (.tup [])
  have n3:=ae (H:=H2) (a:=l3) (o:=.tup [])
  generalize upd H2 l3 (.tup [])=H3 at s3 n3
  refine⟨lS2,fun l4 hl4=>?_⟩
  have s4:=ar hl4 (.tup [V.str (smN (2 * i)),V.ref l3])
  have h4:Has K (upd H3 l4 (.tup [V.str (smN (2 * i)),V.ref l3])) (dTr (zcj (2 * i))) (.ref l4):=Has.tup' (SqT.of ae) (.cons Has.str' (.cons (Has.tup' (SqT.of (s4 _ _ n3)) .nil) .nil))
  generalize upd H3 l4 (.tup [V.str (smN (2 * i)),V.ref l3])=H4 at s4 h4
  have s24:=s3.trans s4
  refine⟨_,rfl,_,rfl,_,_,rfl,rfl,.inl ⟨by decide,by decide⟩,_,_,rfl,rfl,sm,_,_,_,rfl,rfl,SqL.of (s24 _ _ (s2 _ _ hs)),zgI (2 * i+1) (by omega) (by omega),lS0,fun l5 hl5=>?_⟩
  have s5:=ar hl5 (.tup [])
  have n5:=ae (H:=H4) (a:=l5) (o:=.tup [])
  generalize upd H4 l5 (.tup [])=H5 at s5 n5
  refine⟨lS2,fun l6 hl6=>?_⟩
  have s6:=ar hl6 (.tup [V.str (smN (2 * i+1)),V.ref l5])
  have h6:Has K (upd H5 l6 (.tup [V.str (smN (2 * i+1)),V.ref l5])) (dTr (zcj (2 * i+1))) (.ref l6):=Has.tup' (SqT.of ae) (.cons Has.str' (.cons (Has.tup' (SqT.of (s6 _ _ n5)) .nil) .nil))
  generalize upd H5 l6 (.tup [V.str (smN (2 * i+1)),V.ref l5])=H6 at s6 h6
  have s46:=s5.trans s6
  have h46:=h4.keep s46.kt (nol_dTr _)
  refine⟨lS3,fun l7 hl7=>?_⟩
  have s7:=ar hl7 (.tup [V.int 0,V.ref l4,V.ref l6])
  have h7:Has K (upd H6 l7 (.tup [V.int 0,V.ref l4,V.ref l6])) (dLP ⟨false,.same (zcj (2 * i)) (zcj (2 * i+1))⟩) (.ref l7):=Has.tup' (SqT.of ae) (.cons (by simp only[Has];rfl) (.cons (h46.keep s7.kt (nol_dTr _)) (.cons (h6.keep s7.kt (nol_dTr _)) .nil)))
  generalize upd H6 l7 (.tup [V.int 0,V.ref l4,V.ref l6])=H7 at s7 h7
  refine⟨lS1,fun l8 hl8=>?_⟩
  have s8:=ar hl8 (.lst [V.ref l7])
  have n8:=ae (H:=H7) (a:=l8) (o:=.lst [V.ref l7])
  have h8:=h7.keep s8.kt (zcn _)
  generalize upd H7 l8 (.lst [V.ref l7])=H8 at s8 n8 h8
  have s27:=(s24.trans s46).trans s7
  have s28:=s27.trans s8
  have R8:=R.same s28
  have ne:l8≠lr:=fun e=>by
   have:=s27 _ _ R.at_
   rw[←e,hl8]at this
   cases this
  refine zaY (by decide) hi ul R8.at_ ⟨(s2.trans s28).upd hlr,rs++[[⟨false,.same (zcj (2 * i)) (zcj (2 * i+1))⟩]],R8.snoc ⟨l8,_,rfl,n8,.cons h8 .nil⟩ ne,by rw[List.length_append,rl];rfl,fun r' hr'=>?_,fun r' hr'=>?_⟩
  ·rcases List.mem_append.mp hr' with hr' | hr'
   ·exact r4 r' hr'
   ·rw[List.mem_singleton.mp hr']
    simp
  ·rcases List.mem_append.mp hr' with hr' | hr'
   ·exact rg r' hr'
   ·rw[List.mem_singleton.mp hr']
    intro p hp
    rw[List.mem_singleton.mp hp]
    exact⟨⟨zid (by omega),zid (by omega)⟩,⟨zib (by omega),zib (by omega)⟩,zkW hi'⟩
 ·rintro us H2 _ ⟨s2,rs,R,rl,r4,rg⟩
  exact nx H2 lr rs s2 hlr R.rsAt ⟨by omega,r4,lvs,sms,rg,by decide +kernel,by decide +kernel⟩
set_option maxHeartbeats 4000000 in
theorem bnd2 (T:Txt K mg aK C CN CT CP CM) {cdv:Value} {A:Around} {outer:List Env} {s:Shared} {H0:Hp} {E:XK} :
  ∃ t,PSs (zbs CX0 P w K mg base NBd "_law_bounds" (ap zaw) f cdv A outer s H0 E).nox ((zaF zaw).drop 2) t ∧
   ∀(D:zaW) (H:Hp) (c:Int) (sm:Addr) (v1 v3 v4:Option V),H sm=some (.lst smL)→BNx K D H→t D [some (.int c),v1,some (.ref sm),v3,v4] H:=by
 obtain⟨t3,h3,g3⟩:=bnd3 (P:=P) (w:=w) (K:=K) (mg:=mg) (base:=base) (f:=f) (cdv:=cdv) (A:=A) (outer:=outer) (s:=s) (H0:=H0) (E:=E) T
 refine⟨_,(ai (zal (zac zbu (aw zar (pv 0) ah) ah (zam _))
   (ak (aE (pe_lcC (N':=["_law_k","_law_some"]) (ix:=[2]) rfl rfl (fun _ _=>rfl) (fun _=>rfl) (by decide +kernel) rfl (fun ok=>zly (sc:=ap zaw) ok rfl (by decide +kernel) (by decide +kernel)) (by decide +kernel) rfl rfl (fun j i h=>match j,h with | 0,h=>by cases h;exact⟨_,rfl,rfl,.inl rfl,.inl rfl⟩ | n+1,h=>by simp at h) (zbd rfl T.range (aa ah ac)) (fun _ _ _ _=>(zbP (N':=["_law_j","_law_k","_law_some"]) (ix:=[0,1]) rfl rfl (by decide +kernel) (by decide +kernel) rfl (fun ok=>zb4 (sc:=rlS (zll zaw) (ap zaw)) ok rfl (by decide +kernel) (by decide +kernel)) (by decide +kernel) rfl rfl (fun j i h=>match j,h with | 0,h=>by cases h;exact⟨_,rfl,rfl,.inl rfl,.inl rfl⟩ | 1,h=>by cases h;exact⟨_,rfl,rfl,.inl rfl,.inl rfl⟩ | n+2,h=>by simp at h) (zbd rfl T.range (aa ah ac)) (fun _ _ _ _=>(zak (aa (aw zar (pv 1) ah) (aa (aB (r:=rIxL K) zaq (pv 2) (aw zbw (aw zbF ah (pv 1)) (pv 0)) (fun _ _=>rfl)) (aa zdE ac))))))))))
   zab) h3),?_⟩
 intro D H c sm v1 v3 v4 hs nx
 refine⟨_,rfl,_,_,rfl,rfl,(by show(0:Int) < 3;decide),rfl,_,rfl,aO (fun _=>?_) (fun _=>g3 D H c sm v1 v3 v4 hs nx)⟩
 refine⟨_,rfl,(by decide),(by decide),fun lr hlr=>zbC zdU (fun i us H'=>ax H H'∧∃ rs:List (List Prt),Rws K H' lr us rs∧rs.length=i∧(∀ r∈rs,r.length≤4)∧∀ r∈rs,∀ p∈r,PGa p.a∧zbJ [] p.a∧p.a∈pls) (fun _ _ _ _=>trivial) ⟨ar hlr _,[],Rws.nil ae,rfl,(fun r hr=>nomatch hr),fun r hr=>nomatch hr⟩ ?_ ?_⟩
 ·rintro i us H9 x H2 hi ul _ ⟨s2,rs,R,rl,r4,rg⟩ ⟨rfl,rfl⟩
  have hi':i < 10:=hi
  refine⟨_,rfl,(by decide),(by decide),fun lw hlw=>zbC zdU (fun j xs H'=>ax H2 H'∧∃ r:List Prt,aj K H' (r.map dLP) xs∧r.length=j∧∀ p∈r,PGa p.a∧zbJ [] p.a∧p.a∈pls) (fun _ _ _ _=>trivial) ⟨ar hlw _,[],aj.nil,rfl,fun p hp=>nomatch hp⟩ ?_ ?_⟩
  ·rintro j xs H9 x H3 hj xl hD ⟨s3,r,hx,rj,rp⟩ ⟨rfl,rfl⟩
   have hj':j < 4:=hj
   have s23:=s2.trans s3
   refine⟨_,rfl,_,_,rfl,rfl,(by show(0:Int) < 2;decide),_,rfl,_,rfl,_,_,rfl,rfl,.inl ⟨by decide,by decide⟩,_,rfl,_,_,rfl,rfl,sm,_,_,_,rfl,rfl,SqL.of (s23 _ _ hs),zgI (4 * i+j) (by omega) (by omega),lS3,fun l4 hl4=>?_⟩
   have s4:=ar hl4 (.tup [V.int ((0+(i:Int)) % 2),V.str (smN (4 * i+j)),V.non])
   have h4:Has K (upd H3 l4 (.tup [V.int ((0+(i:Int)) % 2),V.str (smN (4 * i+j)),V.non])) (dLP ⟨decide ((0+(i:Int)) % 2=1),.plain (smN (4 * i+j))⟩) (.ref l4):=by
    unfold dLP
    dsimp only
    rw[zgF]
    exact Has.tup' (SqT.of ae) (.cons (by simp only[Has]) (.cons Has.str' (.cons (by simp only[Has]) .nil)))
   have hD4:=s4 _ _ hD
   have hx4:=hx.keep s4.kt (zax _)
   generalize upd H3 l4 (.tup [V.int ((0+(i:Int)) % 2),V.str (smN (4 * i+j)),V.non])=H4 at s4 h4 hD4 hx4
   have kt:=C05.KeepT.but (o:=.lst (xs++[V.ref l4])) hD4 (fun _ e=>by cases e) (fun _ _ e=>by cases e)
   refine zaY (by decide) hj xl hD4 ⟨(s3.trans s4).upd hlw,r++[⟨decide ((0+(i:Int)) % 2=1),.plain (smN (4 * i+j))⟩],?_,by rw[List.length_append,rj];rfl,fun p hp=>?_⟩
   ·rw[List.map_append]
    exact(hx4.keep kt (zax _)).append (.cons (h4.keep kt (zcn _)) .nil)
   ·rcases List.mem_append.mp hp with hp | hp
    ·exact rp p hp
    ·rw[List.mem_singleton.mp hp]
     exact⟨zgP (by omega),trivial,zh6 (by omega)⟩
  ·rintro xs H3 hD ⟨s3,r,hx,rj,rp⟩
   have R3:=R.same s3
   have ne:lw≠lr:=fun e=>by
    have:=R.at_
    rw[←e,hlw]at this
    cases this
   refine zaY (by decide) hi ul R3.at_ ⟨(s2.trans s3).upd hlr,rs++[r],R3.snoc ⟨lw,xs,rfl,hD,hx⟩ ne,by rw[List.length_append,rl];rfl,fun r' hr'=>?_,fun r' hr'=>?_⟩
   ·rcases List.mem_append.mp hr' with hr' | hr'
    ·exact r4 r' hr'
    ·rw[List.mem_singleton.mp hr']
     exact Nat.le_of_eq rj
   ·rcases List.mem_append.mp hr' with hr' | hr'
    ·exact rg r' hr'
    ·rw[List.mem_singleton.mp hr']
     exact rp
 ·rintro us H2 _ ⟨s2,rs,R,rl,r4,rg⟩
  exact nx H2 lr rs s2 hlr R.rsAt ⟨by omega,r4,[],pls,rg,by decide,by decide +kernel⟩
def zgg (K:W.Frag):Sp:=fun vs H Q _=>∃ c:Int,vs=[.int c]∧∀(H':Hp) (l:Addr) (rs:List (List Prt)),ax H H'→H l=none→zc3 K H' l rs→RB rs→Q (.ref l) H'
set_option maxHeartbeats 4000000 in
theorem zjM (F:Fun K "_law_bounds" "_law_bounds" zaw f fd) (T:Txt K mg aK C CN CT CP CM):FnOk P w K mg base CX0 1 f fd ["_law_cell"] (zgg K):=by
 refine F.ok zbA (fun vs H Q E h=>?_) (fun cdv A outer s H vs Q E hr h=>?_)
 ·obtain⟨c,rfl,_⟩:=h
  rfl
 obtain⟨c,rfl,q⟩:=h
 obtain⟨t2,h2,g2⟩:=bnd2 (P:=P) (w:=w) (K:=K) (mg:=mg) (base:=base) (f:=f) (cdv:=cdv) (A:=A) (outer:=outer) (s:=s) (H0:=H) (E:=E) T
 refine⟨_,(ai (aA (i:=1) zbA.nd rfl (Or.inr rfl) aD)
  (ai (aA (i:=2) zbA.nd rfl (Or.inr rfl) (zbP (N':=["_law_k","_law_letters"]) (ix:=[1]) rfl rfl (by decide +kernel) (by decide +kernel) rfl (fun ok=>zb4 (sc:=ap zaw) ok rfl (by decide +kernel) (by decide +kernel)) (by decide +kernel) rfl rfl (fun j i h=>match j,h with | 0,h=>by cases h;exact⟨_,rfl,rfl,.inl rfl,.inl rfl⟩ | n+1,h=>by simp at h) (zbd rfl T.range (aa ah ac)) (fun _ _ _ _=>(aw zas (aw zas aD (aB zft (pv 1) (aw zar (pv 0) ah) (fun _ _=>rfl))) (aB zft (pv 1) (aw zaX (pv 0) ah) (fun _ _=>rfl))))))
  h2)),?_⟩
 refine⟨_,rfl,(by decide),(by decide),fun sm hsm=>zbC zdU (fun i us H'=>ax H H'∧us=((List.range i).map smN).map V.str) (fun _ _ _ _=>trivial) ⟨ar hsm _,rfl⟩ ?_ ?_⟩
 ·rintro i us H9 x H3 hi ul hD ⟨s3,rfl⟩ ⟨rfl,rfl⟩
  have hi':i < 60:=hi
  obtain⟨a1,a2⟩:=at24 i hi'
  refine⟨_,rfl,_,rfl,_,_,rfl,rfl,(by show(0:Int) < 24;decide),L24,_,_,rfl,rfl,sz _ (by decide +kernel),a1,_,_,rfl,rfl,sz _ (by rw[zcu];decide +kernel),_,rfl,_,rfl,_,_,rfl,rfl,⟨by decide,by decide⟩,L24,_,_,rfl,rfl,sz _ (by decide +kernel),a2,_,_,rfl,rfl,sz _ (by rw[zai,zcu,zcu];decide +kernel),?_⟩
  refine zaY (by decide) hi ul hD ⟨s3.upd hsm,?_⟩
  rw[List.range_succ,List.map_append,List.map_append]
  rfl
 ·rintro us H3 hD ⟨s3,rfl⟩
  refine g2 _ H3 c sm _ _ _ hD fun H' l rs s4 hl ra rb=>q H' l rs (s3.trans s4) ?_ ra rb
  cases e:H l with
  | none=>rfl
  | some o=>rw[s3 _ _ e]at hl;cases hl
end
end K05
namespace K05
open PySem L2
open F05 (Tr dTr aQ zaQ txt zaE dp dps wt wts tr_at trs_get nols_dTrs nol_dTr dTrs_length dTrs_map)
open C05 (PA Prt NP cp cp_len zaJ ofC)
def bks (rs:List (List Prt)):List (List Prt):=(aRs s0 rs).2.map fun r=>r.map (bk (aRs s0 rs).1)
structure Fit (rs:List (List Prt)):Prop where
 g:GRs rs
 pg:∀ r∈rs,(∀ p∈r,PGa p.a)∧r.length≤4
 gb:GRs (bks rs)
 eb:aRs s0 (bks rs)=aRs s0 rs
 pgb:∀ r∈bks rs,(∀ p∈r,PGa p.a)∧r.length≤4
 nb:(bks rs).length=rs.length
 wf:Wf (aRs s0 rs).1.T
 sm:Sm (txs (aRs s0 rs).1.T)
 ao:∀ a∈(aRs s0 rs).1.A,AOk (aRs s0 rs).1.T.length a
 nm:∀ t∈(aRs s0 rs).1.T,t.1.length≤8
 cw:cp (wtx (txs (aRs s0 rs).1.T) (aRs s0 rs).1.A (aRs s0 rs).2)=zbb (bks rs)
 rr:∀ r∈(aRs s0 rs).2,r.length≤10∧∀ k∈r,POk (aRs s0 rs).1.A.length k
theorem zjX {n:Nat}:∀(rs:List (List Prt)) {s:S5},(∀ r∈rs,r.length≤n)→∀ r∈(aRs s rs).2,r.length≤n:=fun rs=>by
 induction rs with
 | nil=>intro s _ r hr;exact nomatch hr
 | cons r rs ih =>
  intro s h q hq
  simp only[aRs]at hq
  rcases List.mem_cons.mp hq with rfl | hq
  ·have h1:=zc9 (aRw s r).2 []
   have h2:=zf9 s r
   have h3:=h r (by simp)
   rw[List.length_nil]at h1
   omega
  ·exact ih (fun x hx=>h x (List.mem_cons_of_mem _ hx)) q hq
theorem RB.fit {rs:List (List Prt)} (h:RB rs):Fit rs:=by
 obtain⟨n,r4,ts,LA,hp,st,la⟩:=h
 have pg:∀ r∈rs,(∀ p∈r,PGa p.a)∧r.length≤4:=fun r hr=>⟨fun p hp'=>(hp r hr p hp').1,r4 r hr⟩
 have tl:(aRs s0 rs).1.T.length≤60:=Nat.le_trans (aRs_T rs (TIn.nil ts) fun r hr p hp'=>(hp r hr p hp').2.1).len st
 have al:(aRs s0 rs).1.A.length≤40:=Nat.le_trans (aRs_A rs I5.nil (AIn.nil LA) fun r hr p hp'=>(hp r hr p hp').2.2).len la
 obtain⟨I,_,kk⟩:=zc7 I5.nil rs
 have gB:∀ q∈(aRs s0 rs).1.B,PGa q:=fun q hq=>by
  rcases aRs_B rs q hq with h | ⟨r,hr,p,hp',rfl⟩
  ·exact nomatch h
  ·exact(hp r hr p hp').1
 have cov:=zlE (s:=s0) rs Cov.nil fun r hr p hp'=>((hp r hr p hp').1).np.2.2.2
 have wf:=cov.wf I.wt
 have r4':=zjX (s:=s0) rs r4
 have eb:aRs s0 (bks rs)=aRs s0 rs:=aRs_bk I5.nil rs (zbl.refl _)
 have pgb:∀ r∈bks rs,(∀ p∈r,PGa p.a)∧r.length≤4:=fun r hr=>by
  obtain⟨r',hr',rfl⟩:=List.mem_map.mp hr
  refine⟨fun p hp'=>?_,by rw[List.length_map];exact r4' r' hr'⟩
  obtain⟨k,hk,rfl⟩:=List.mem_map.mp hp'
  obtain⟨k1,k2⟩:=(kk r' hr').2 k hk
  have lb:=I.lb
  have il:k.natAbs - 1 < (aRs s0 rs).1.B.length:=by omega
  have e:(bk (aRs s0 rs).1 k).a=(aRs s0 rs).1.B[k.natAbs - 1]:=by
   simp only[bk]
   rw[List.getElem?_eq_getElem il]
   rfl
  rw[e]
  exact gB _ (List.getElem_mem il)
 have nb:(bks rs).length=rs.length:=by
  unfold bks
  rw[List.length_map,zdP]
 have mk:∀ {q:List (List Prt)},(∀ r∈q,(∀ p∈r,PGa p.a)∧r.length≤4)→q.length=rs.length→aRs s0 q=aRs s0 rs→GRs q:=fun {q} h1 h2 h3 =>
  ⟨fun r hr p hp'=>⟨pg_np ((h1 r hr).1 p hp'),((h1 r hr).1 p hp').np.2.2.1⟩,fun r hr=>by have:=(h1 r hr).2;omega,by omega,by rw[h3];exact tl,by rw[h3];exact al⟩
 refine⟨mk pg rfl rfl,pg,mk pgb nb eb,eb,pgb,nb,wf,cov.sm wf,I.ao fun q hq=>(gB q hq).np.2.2.2,cov.nm,cp_all I wf fun r hr k hk=>(kk r hr).2 k hk,fun r hr=>⟨by have:=r4' r hr;omega,fun k hk=>?_⟩⟩
 obtain⟨k1,k2⟩:=(kk r hr).2 k hk
 exact⟨by omega,by omega,by omega⟩
theorem Fit.len {rs:List (List Prt)} (h:Fit rs):(ofC (zbb rs)).length≤1000000:=by
 have h1:=zdX h.pg
 have h2:=h.g.n
 rw[←cp_len,zaJ]
 omega
theorem Fit.lenw {rs:List (List Prt)} (h:Fit rs):(wtx (txs (aRs s0 rs).1.T) (aRs s0 rs).1.A (aRs s0 rs).2).length≤1000000:=by
 have h1:=zdX h.pgb
 have h2:=h.g.n
 have h3:=h.nb
 rw[←cp_len,h.cw]
 omega
abbrev NAr:List Str:=["_law_script","_law_names_here","_law_more","_law_turn","_law_trees_here","_law_deep","_law_tree","_law_k","_law_rows","_law_text_here","_law_due_here","_law_problem","_law_said","_law_other"]
theorem zad:zaa NAr ["_law_script"] (ap zaf):=⟨rfl,rfl,rfl,by decide +kernel,rfl,by decide +kernel,by decide +kernel⟩
section
variable {P:Program} {w:World} {K:W.Frag} {mg:Str→Option Value} {base:Heap} {aK C CN CT CP CM:Addr} {f fX fD fR' fL fW:Addr} {fd dX dD dR'' dL dW:FuncData} {fI fA fQ fS fR:Addr} {dI dA' dQ dS dR':FuncData}
set_option maxHeartbeats 4000000 in
theorem zk0 (BR:FB P w K mg base CX0 49 "read" fR' dR'' ["text"] (zeO K C)) (BL:FB P w K mg base CX0 1 "_law_alike" fL dL ["_law_problem","_law_due_here"] (zdm K C))
  {cdv:Value} {A:Around} {outer:List Env} {s:Shared} {H0:Hp} {E:XK} (hr:aL 65 (A.deeper (PyProof.Rows.envOfC "_law_all_right" (ap zaf) s.heap.objs.size f cdv))) :
  ∃ t,PSs (zbs CX0 P w K mg base NAr "_law_all_right" (ap zaf) f cdv A outer s H0 E).nox ((zaF zaf).drop 15) t ∧
   ∀(D:zaW) (H:Hp) (rs:List (List Prt)) (p tl al rl dh tl' al' rl':Addr) (v0 v1 v2 v3 v4 v5 v6 v7 v8 v13:Option V),zat K C H p tl al rl (aRs s0 rs).1.T (aRs s0 rs).1.A (aRs s0 rs).2→DAt K H dh tl' al' rl' (aRs s0 rs).1.T (aRs s0 rs).1.A (aRs s0 rs).2→RB rs→(∀ H',D.rt (.bl true) H') →
    t D [v0,v1,v2,v3,v4,v5,v6,v7,v8,some (.str (ofC (zbb rs))),some (.ref dh),some (.ref p),some (.str (wtx (txs (aRs s0 rs).1.T) (aRs s0 rs).1.A (aRs s0 rs).2)),v13] H:=by
 have hr1:aL 1 _:=hr.mono (by decide)
 have hr49:aL 49 _:=hr.mono (by decide)
 refine⟨_,(ak (aE (zc5 (az BL.ok hr1 rfl BL.m BL.kp BL.b .nil aF (aa (az BR.ok hr49 rfl BR.m BR.kp BR.b .nil aF (aa (pv 12) ac)) (aa (pv 10) ac))) (zc5 (az BL.ok hr1 rfl BL.m BL.kp BL.b .nil aF (aa (az BR.ok hr49 rfl BR.m BR.kp BR.b .nil aF (aa (pv 9) ac)) (aa (pv 10) ac))) (zfr (az BL.ok hr1 rfl BL.m BL.kp BL.b .nil aF (aa (pv 11) (aa (pv 10) ac)))))))),?_⟩
 intro D H rs p tl al rl dh tl' al' rl' v0 v1 v2 v3 v4 v5 v6 v7 v8 v13 P0 d0 rb q
 have F:=rb.fit
 have t60:=F.g.t
 have a40:=F.g.a
 have n200:=F.g.n
 have Rl:(aRs s0 rs).2.length=rs.length:=zdP _ _
 refine⟨_,rfl,_,bks rs,rfl,F.cw,F.lenw,F.gb,fun H1 p' tl1 al1 rl1 s1 np1 nt1 na1 nr1 p1=>?_⟩
 rw[F.eb]at p1
 refine⟨_,rfl,p',tl1,al1,rl1,dh,tl',al',rl',_,_,_,rfl,p1,d0.same s1,t60,a40,by omega,fun H2 s2=>⟨_,rfl,zbj ?_⟩⟩
 have s02:=s1.trans s2
 refine⟨_,rfl,_,rs,rfl,zaJ _,F.len,F.g,fun H3 p'' tl3 al3 rl3 s3 np3 nt3 na3 nr3 p3=>?_⟩
 have s03:=s02.trans s3
 refine⟨_,rfl,p'',tl3,al3,rl3,dh,tl',al',rl',_,_,_,rfl,p3,d0.same s03,t60,a40,by omega,fun H4 s4=>⟨_,rfl,zbj ?_⟩⟩
 have s04:=s03.trans s4
 exact⟨_,rfl,_,rfl,p,tl,al,rl,dh,tl',al',rl',_,_,_,rfl,P0.same s04,d0.same s04,t60,a40,by omega,fun H5 _=>q H5⟩
set_option maxHeartbeats 4000000 in
theorem right8 (T:Txt K mg aK C CN CT CP CM) (G:Own P w K mg base C CN CT CP CM fI fA fQ fS fR dI dA' dQ dS dR') (BX:FB P w K mg base CX0 24 "_law_text" fX dX ["_law_rows"] (zfM K)) (BD:FB P w K mg base CX0 23 "_law_due" fD dD ["_law_rows"] (zfO K)) (BR:FB P w K mg base CX0 49 "read" fR' dR'' ["text"] (zeO K C)) (BL:FB P w K mg base CX0 1 "_law_alike" fL dL ["_law_problem","_law_due_here"] (zdm K C)) (BW:FB P w K mg base CX0 65 "written" fW dW ["problem"] (zec K C))
  {cdv:Value} {A:Around} {outer:List Env} {s:Shared} {H0:Hp} {E:XK} (hr:aL 65 (A.deeper (PyProof.Rows.envOfC "_law_all_right" (ap zaf) s.heap.objs.size f cdv))) :
  ∃ t,PSs (zbs CX0 P w K mg base NAr "_law_all_right" (ap zaf) f cdv A outer s H0 E).nox ((zaF zaf).drop 8) t ∧
   ∀(D:zaW) (H:Hp) (l:Addr) (rs:List (List Prt)) (v0 v1 v2 v3 v4 v5 v6 v7 v9 v10 v11 v12 v13:Option V),zc3 K H l rs→RB rs→(∀ H',D.rt (.bl true) H')→t D [v0,v1,v2,v3,v4,v5,v6,v7,some (.ref l),v9,v10,v11,v12,v13] H:=by
 have hr1:aL 1 _:=hr.mono (by decide)
 have hr4:aL 4 _:=hr.mono (by decide)
 have hr23:aL 23 _:=hr.mono (by decide)
 have hr24:aL 24 _:=hr.mono (by decide)
 have hr49:aL 49 _:=hr.mono (by decide)
 obtain⟨t15,h15,g15⟩:=zk0 (P:=P) (w:=w) (K:=K) (mg:=mg) (base:=base) (f:=f) (cdv:=cdv) (A:=A) (outer:=outer) (s:=s) (H0:=H0) (E:=E) BR BL hr
 refine⟨_,(ai (aA (i:=9) zad.nd rfl (Or.inl rfl) (az BX.ok hr24 rfl BX.m BX.kp BX.b .nil aF (aa (pv 8) ac)))
  (ai (aA (i:=10) zad.nd rfl (Or.inl rfl) (az BD.ok hr23 rfl BD.m BD.kp BD.b .nil aF (aa (pv 8) ac)))
  (ai (aA (i:=11) zad.nd rfl (Or.inl rfl) (az BR.ok hr49 rfl BR.m BR.kp BR.b .nil aF (aa (pv 9) ac)))
  (ai (zal (zbS (zbh (az BL.ok hr1 rfl BL.m BL.kp BL.b .nil aF (aa (pv 11) (aa (pv 10) ac)))))
   (ak (aE zeM))
   zab)
  (ai (aA (i:=12) zad.nd rfl (Or.inl rfl) (az BW.ok hr rfl BW.m BW.kp BW.b .nil aF (aa (pv 11) ac)))
  (ai (aA (i:=13) zad.nd rfl (Or.inl rfl) (az BR.ok hr49 rfl BR.m BR.kp BR.b .nil aF (aa (pv 12) ac)))
  (ai (zal (zac zfj (zap zao rfl T.len PySem.boot_len (aa (aB zah (pv 10) ah (fun _ _=>rfl)) ac)) ah (zam _))
   (ak (zaM (zaS (pv 13) T.cl G.mR G.R hr4 G.bR .nil zeN (aa (zak ac) ac))))
   zab)
  h15))))))),?_⟩
 intro D H l rs v0 v1 v2 v3 v4 v5 v6 v7 v9 v10 v11 v12 v13 ra rb q
 have F:=rb.fit
 have t60:=F.g.t
 have a40:=F.g.a
 have n200:=F.g.n
 have Rl:(aRs s0 rs).2.length=rs.length:=zdP _ _
 refine⟨_,rfl,l,rs,rfl,ra,F.pg,F.g.n,fun H1 s1=>?_⟩
 refine⟨_,rfl,l,rs,rfl,ra.same s1,F.pg,F.g.n,F.g.t,F.g.a,fun H2 dh tl' al' rl' s2 d2=>?_⟩
 refine⟨_,rfl,_,rs,rfl,zaJ _,F.len,F.g,fun H3 p tl al rl s3 np nt na nr p3=>?_⟩
 refine⟨_,rfl,_,rfl,p,tl,al,rl,dh,tl',al',rl',_,_,_,rfl,p3,d2.same s3,t60,a40,by omega,fun H4 s4=>⟨_,rfl,za3 ?_⟩⟩
 have p4:=p3.same s4
 have d4:=(d2.same s3).same s4
 refine⟨_,rfl,p,tl,al,rl,_,_,_,rfl,⟨p4,F.wf,F.sm,F.ao,F.nm⟩,F.rr,by omega,by omega,fun H5 s5=>?_⟩
 have d5:=d4.same s5
 have p5:=p4.same s5
 refine⟨_,rfl,_,bks rs,rfl,F.cw,F.lenw,F.gb,fun H6 p' tl6 al6 rl6 s6 np6 nt6 na6 nr6 p6=>?_⟩
 have P6:=p5.same s6
 have d6:=d5.same s6
 obtain⟨ws,hws,hw⟩:=d6.rw
 have wl:ws.length=rs.length:=by rw[←hw.length,List.length_map,Rl]
 refine⟨_,rfl,dh,_,_,_,rfl,rfl,d6.tp,rfl,rl',ws,rfl,.inl (SqL.of hws),_,_,rfl,rfl,_,rfl,aO (fun lt=>?_) (fun _=>g15 _ H6 rs p tl al rl dh tl' al' rl' _ _ _ _ _ _ _ _ _ _ P6 d6 rb q)⟩
 have lt':rs.length < 200:=by
  have:=of_decide_eq_true lt
  omega
 obtain⟨dx6,ho6⟩:=p6.ob
 refine⟨_,rfl,p',dx6,_,rfl,ho6,zfD _ _ _,lS0,fun e7 he7=>?_⟩
 have s7:=ar he7 (.tup [])
 have n7:=ae (H:=H6) (a:=e7) (o:=.tup [])
 generalize upd H6 e7 (.tup [])=H7 at s7 n7
 have p7:=p6.same s7
 rw[F.eb]at p7
 refine⟨p',tl6,al6,rl6,e7,_,_,_,[],rfl,p7,.inr (SqT.of n7),by decide,(fun k hk=>nomatch hk),by omega,?_⟩
 unfold zcN
 rw[if_neg (by simp),if_neg (by simp),if_neg (by omega)]
 intro H8 _ f8
 have s58:ax H5 H8:=fun b o e=>f8 _ _ (s7 _ _ (s6 _ _ e)) (fun z=>by rw[z,na6]at e;cases e) (fun z=>by rw[z,nr6]at e;cases e)
 exact g15 _ H8 rs p tl al rl dh tl' al' rl' _ _ _ _ _ _ _ _ _ _ (p5.same s58) (d5.same s58) rb q
end
end K05
namespace K05
open PySem L2
open F05 (Tr dTr aQ zaQ txt zaE dp dps wt wts tr_at trs_get nols_dTrs nol_dTr dTrs_length dTrs_map)
open C05 (PA Prt NP cp cp_len zaJ ofC Nm)
theorem zif {n:Nat}:∀ {rs:List (List Prt)},(∀ r∈rs,r.length≤n)→(rs.flatMap fun r=>r.map (·.a)).length≤n * rs.length
 | [],_=>by simp
 | r :: rs,h=>by
  have h1:=h r (by simp)
  have h2:=zif (rs:=rs) fun x hx=>h x (List.mem_cons_of_mem _ hx)
  rw[List.flatMap_cons,List.length_append,List.length_map,List.length_cons,Nat.mul_add,Nat.mul_one]
  omega
theorem RB.told {ts:List Tr} {rs:List (List Prt)} (h:∀ r∈rs,(∀ p∈r,GP ts p)∧r.length≤4) (n:rs.length≤7) (st:aI ts≤60):RB rs:=by
 refine⟨by omega,fun r hr=>(h r hr).2,ts,rs.flatMap fun r=>r.map (·.a),fun r hr p hp=>⟨((h r hr).1 p hp).1,((h r hr).1 p hp).2,List.mem_flatMap.mpr ⟨r,hr,List.mem_map.mpr ⟨p,hp,rfl⟩⟩⟩,by rw[←zg2];exact st,?_⟩
 have:=zif fun r hr=>(h r hr).2
 omega
def six:List Str:=["notx","xor","orb","neverx","asx","nota"]
theorem zi6:∀ z∈six,GN z:=by
 have h:∀ z∈six,za0 z=true∧(z.length≤8∧∀ c∈z.cps.toList,c∈abc.cps.toList)∧cp z≠[]∧cp z≠[111,114]∧cp z≠[110,111,116]∧cp z≠cp "never":=by decide +kernel
 intro z hz
 obtain⟨h1,⟨h2,h3⟩,h4,h5,h6,h7⟩:=h z hz
 exact⟨h1,⟨by omega,fun d hd=>zf7 d (h3 d hd)⟩,⟨⟨h4,h3,by omega⟩,h5,h6,h7⟩⟩
def NmsAt (H:Hp) (v:Option V):Prop:=∃(nl:Addr) (zs:List Str),v=some (.ref nl)∧H nl=some (.lst (zs.map V.str))∧zs.length=4∧∀ z∈zs,GN z
section
variable {P:Program} {w:World} {K:W.Frag} {mg:Str→Option Value} {base:Heap} {aK C CN CT CP CM:Addr} {f fX fD fR' fL fW fB fC fT fN fE:Addr} {fd dX dD dR'' dL dW dB dC dT' dN dE:FuncData} {fI fA fQ fS fR:Addr} {dI dA' dQ dS dR':FuncData}
theorem zjB {H:Hp} {xs:List V} {ts:List Tr} (hx:aj K H (aQ ts) xs) (ne:xs≠[]):∃ t v,t∈ts∧atI xs (-1)=some v∧Has K H (dTr t) v:=by
 obtain⟨ys,y,rfl⟩:∃ ys y,xs=ys++[y]:=⟨xs.dropLast,xs.getLast ne,(List.dropLast_concat_getLast ne).symm⟩
 obtain⟨t,ht,hv⟩:=trs_get hx (i:=ys.length) (by simp:(ys++[y])[ys.length]?=some y)
 exact⟨t,y,List.mem_of_getElem? ht,zhH ys y,hv⟩
structure Hlp (P:Program) (w:World) (K:W.Frag) (mg:Str→Option Value) (base:Heap) (C:Addr) (fX fD fR' fL fW fB fC fT fN fE:Addr) (dX dD dR'' dL dW dB dC dT' dN dE:FuncData):Prop where
 X:FB P w K mg base CX0 24 "_law_text" fX dX ["_law_rows"] (zfM K)
 D:FB P w K mg base CX0 23 "_law_due" fD dD ["_law_rows"] (zfO K)
 R:FB P w K mg base CX0 49 "read" fR' dR'' ["text"] (zeO K C)
 L:FB P w K mg base CX0 1 "_law_alike" fL dL ["_law_problem","_law_due_here"] (zdm K C)
 W:FB P w K mg base CX0 65 "written" fW dW ["problem"] (zec K C)
 B:FB P w K mg base CX0 1 "_law_bounds" fB dB ["_law_cell"] (zgg K)
 Ce:FB P w K mg base CX0 1 "_law_cell_at" fC dC ["_law_script","_law_k"] (zfo K)
 T:FB P w K mg base CX0 2 "_law_told" fT dT' ["_law_script","_law_trees_here","_law_names_here"] (zhY K)
 N:FB P w K mg base CX0 2 "_law_names" fN dN ["_law_cell"] zhd
 E:FB P w K mg base CX0 29 "_law_trees" fE dE ["_law_script","_law_begin","_law_names_here","_law_many"] (zg7 K)
set_option maxHeartbeats 4000000 in
theorem right7 (T:Txt K mg aK C CN CT CP CM) (G:Own P w K mg base C CN CT CP CM fI fA fQ fS fR dI dA' dQ dS dR') (B:Hlp P w K mg base C fX fD fR' fL fW fB fC fT fN fE dX dD dR'' dL dW dB dC dT' dN dE)
  {cdv:Value} {A:Around} {outer:List Env} {s:Shared} {H0:Hp} {E:XK} (hr:aL 65 (A.deeper (PyProof.Rows.envOfC "_law_all_right" (ap zaf) s.heap.objs.size f cdv))) :
  ∃ t,PSs (zbs CX0 P w K mg base NAr "_law_all_right" (ap zaf) f cdv A outer s H0 E).nox ((zaF zaf).drop 7) t ∧
   ∀(D:zaW) (H:Hp) (a:Addr) (ns:List Int) (l:Addr) (rs:List (List Prt)) (v1 v2 v3 v4 v5 v6 v7 v9 v10 v11 v12 v13:Option V),SqL K H a (ns.map V.int)→ns.length≤63→zc3 K H l rs→RB rs→(∀ H',D.rt (.bl true) H')→t D [some (.ref a),v1,v2,v3,v4,v5,v6,v7,some (.ref l),v9,v10,v11,v12,v13] H:=by
 have hr1:aL 1 _:=hr.mono (by decide)
 obtain⟨t8,h8,g8⟩:=right8 (P:=P) (w:=w) (K:=K) (mg:=mg) (base:=base) (f:=f) (cdv:=cdv) (A:=A) (outer:=outer) (s:=s) (H0:=H0) (E:=E) T G B.X B.D B.R B.L B.W hr
 refine⟨_,(ai (zal (zac zbu (aw zar (az B.Ce.ok hr1 rfl B.Ce.m B.Ce.kp B.Ce.b .nil aF (aa (pv 0) (aa ah ac))) ah) ah (zam _))
   (ak (aA (i:=8) zad.nd rfl (Or.inl rfl) (az B.B.ok hr1 rfl B.B.m B.B.kp B.B.b .nil aF (aa (aw zaX (az B.Ce.ok hr1 rfl B.Ce.m B.Ce.kp B.Ce.b .nil aF (aa (pv 0) (aa ah ac))) ah) ac))))
   zab) h8),?_⟩
 intro D H a ns l rs v1 v2 v3 v4 v5 v6 v7 v9 v10 v11 v12 v13 hS n63 ra rb q
 refine⟨_,rfl,a,ns,_,rfl,hS,n63,(by decide),fun c=>⟨_,_,rfl,rfl,(by show(0:Int) < 12;decide),rfl,_,rfl,aO (fun _=>?_) (fun _=>g8 _ H l rs _ _ _ _ _ _ _ _ _ _ _ _ _ ra rb q)⟩⟩
 exact⟨_,rfl,a,ns,_,rfl,hS,n63,(by decide),fun c'=>⟨_,_,rfl,rfl,⟨by decide,by decide⟩,_,rfl,fun H1 l1 rs1 s1 n1 ra1 rb1=>g8 _ H1 l1 rs1 _ _ _ _ _ _ _ _ _ _ _ _ _ ra1 rb1 q⟩⟩
set_option maxHeartbeats 4000000 in
theorem right5 (T:Txt K mg aK C CN CT CP CM) (G:Own P w K mg base C CN CT CP CM fI fA fQ fS fR dI dA' dQ dS dR') (B:Hlp P w K mg base C fX fD fR' fL fW fB fC fT fN fE dX dD dR'' dL dW dB dC dT' dN dE)
  {cdv:Value} {A:Around} {outer:List Env} {s:Shared} {H0:Hp} {E:XK} (hr:aL 65 (A.deeper (PyProof.Rows.envOfC "_law_all_right" (ap zaf) s.heap.objs.size f cdv))) :
  ∃ t,PSs (zbs CX0 P w K mg base NAr "_law_all_right" (ap zaf) f cdv A outer s H0 E).nox ((zaF zaf).drop 5) t ∧
   ∀(D:zaW) (H:Hp) (a:Addr) (ns:List Int) (tr:Addr) (ts:List Tr) (d:Int) (v1 v2 v3 v6 v7 v8 v9 v10 v11 v12 v13:Option V),SqL K H a (ns.map V.int)→ns.length≤63→NmsAt H v1→zcL K H tr ts→(∀ t∈ts,TGd t∧szT t≤21)→aI ts≤60→(139 < d→ts≠[])→(∀ H',D.rt (.bl true) H')→t D [some (.ref a),v1,v2,v3,some (.ref tr),some (.int d),v6,v7,v8,v9,v10,v11,v12,v13] H:=by
 have hr2:aL 2 _:=hr.mono (by decide)
 obtain⟨t7,h7,g7⟩:=right7 (P:=P) (w:=w) (K:=K) (mg:=mg) (base:=base) (f:=f) (cdv:=cdv) (A:=A) (outer:=outer) (s:=s) (H0:=H0) (E:=E) T G B hr
 refine⟨_,(ai (aA (i:=8) zad.nd rfl (Or.inl rfl) (az B.T.ok hr2 rfl B.T.m B.T.kp B.T.b .nil aF (aa (pv 0) (aa (pv 4) (aa (pv 1) ac)))))
  (ai (zal (zac zcS (pv 5) ah (zam _))
   (ak (aA (i:=8) zad.nd rfl (Or.inl rfl) (aw zdF (zaA (aa (zaA (aa (zak (aa ah (aa (aB zaq (pv 4) ah (fun _ _=>rfl)) (aa (aB zaq (pv 4) (zeL zdC ah) (fun _ _=>rfl)) ac)))) ac)) ac)) (pv 8))))
   zab) h7)),?_⟩
 intro D H a ns tr ts d v1 v2 v3 v6 v7 v8 v9 v10 v11 v12 v13 hS n63 N PA gt st dn q
 obtain⟨nl,zs,rfl,hN,z4,gz⟩:=N
 refine⟨_,rfl,_,rfl,_,rfl,a,tr,nl,ns,zs,ts,rfl,hS,n63,hN,z4,gz,PA,gt,fun H1 l rs s1 nl1 ra gr r6=>?_⟩
 refine⟨_,rfl,_,_,rfl,rfl,_,rfl,aO (fun c=>?_) (fun _=>g7 _ H1 a ns l rs _ _ _ _ _ _ _ _ _ _ _ _ (s1.seq hS) n63 ra (RB.told gr (by omega) st) q)⟩
 have dn':=dn (of_decide_eq_true c)
 obtain⟨ws,hws,hxw⟩:=PA
 have hws1:=s1 _ _ hws
 have hxw1:=hxw.keep s1.kt (nols_dTrs _)
 have wl:ws.length=ts.length:=by rw[←hxw.length,dTrs_length]
 have nz:ws≠[]:=fun e=>dn' (List.length_eq_zero_iff.mp (by rw[←wl,e];rfl))
 have nz':ws.length≠0:=fun e=>nz (List.length_eq_zero_iff.mp e)
 obtain⟨t,y1,mt,at1,hy1⟩:=ze5 hxw1 nz' 0
 rw[Int.zero_emod]at at1
 obtain⟨u,y2,mu,at2,hy2⟩:=zjB hxw1 nz
 refine⟨_,rfl,tr,_,_,_,rfl,rfl,SqL.of hws1,at1,_,rfl,_,rfl,tr,_,_,_,rfl,rfl,SqL.of hws1,at2,lS3,fun l3 hl3=>?_⟩
 have s3:=ar hl3 (.tup [V.int 0,y1,y2])
 have h3:Has K (upd H1 l3 (.tup [V.int 0,y1,y2])) (dLP ⟨false,.same t u⟩) (.ref l3):=Has.tup' (SqT.of ae) (.cons (by simp only[Has];rfl) (.cons (hy1.keep s3.kt (nol_dTr _)) (.cons (hy2.keep s3.kt (nol_dTr _)) .nil)))
 generalize upd H1 l3 (.tup [V.int 0,y1,y2])=H3 at s3 h3
 refine⟨lS1,fun l4 hl4=>?_⟩
 have s4:=ar hl4 (.lst [V.ref l3])
 have n4:=ae (H:=H3) (a:=l4) (o:=.lst [V.ref l3])
 have h4:=h3.keep s4.kt (zcn _)
 generalize upd H3 l4 (.lst [V.ref l3])=H4 at s4 n4 h4
 refine⟨lS1,fun l5 hl5=>?_⟩
 have s5:=ar hl5 (.lst [V.ref l4])
 have n5:=ae (H:=H4) (a:=l5) (o:=.lst [V.ref l4])
 have r5:zcl K (upd H4 l5 (.lst [V.ref l4])) (.ref l4) [⟨false,.same t u⟩]:=zcl.same ⟨l4,_,rfl,n4,.cons h4 .nil⟩ s5
 generalize upd H4 l5 (.lst [V.ref l4])=H5 at s5 n5 r5
 have s15:=(s3.trans s4).trans s5
 obtain⟨us,hus,ul,hrow⟩:=ra
 refine⟨_,rfl,l5,l,_,us,rfl,rfl,n5,s15 _ _ hus,Nat.le_of_lt (zaT (by show 1+us.length≤1000;omega)),fun l6 hl6=>?_⟩
 have s6:=ar hl6 (.lst ([V.ref l4]++us))
 have n6:=ae (H:=H5) (a:=l6) (o:=.lst ([V.ref l4]++us))
 generalize upd H5 l6 (.lst ([V.ref l4]++us))=H6 at s6 n6
 have s16:=s15.trans s6
 refine g7 _ H6 a ns l6 ([⟨false,.same t u⟩] :: rs) _ _ _ _ _ _ _ _ _ _ _ _ ((s1.trans s16).seq hS) n63 ⟨_,n6,by simp [ul],fun i u' r' e1 e2=>?_⟩ (RB.told (ts:=ts) (fun r hr=>?_) (by simp;omega) st) q
 ·cases i with
  | zero =>
   cases e1
   cases e2
   exact r5.same s6
  | succ i=>exact(hrow i u' r' e1 e2).same s16
 ·rcases List.mem_cons.mp hr with rfl | hr
  ·refine⟨fun p hp=>?_,by simp⟩
   rw[List.mem_singleton.mp hp]
   exact⟨⟨gt t mt,gt u mu⟩,mt,mu⟩
  ·exact gr r hr
end
end K05
namespace K05
open PySem L2
open F05 (Tr dTr aQ zaQ txt zaE dp dps wt wts tr_at trs_get nols_dTrs nol_dTr dTrs_length dTrs_map)
open C05 (PA Prt NP cp cp_len zaJ ofC Nm)
section
variable {P:Program} {w:World} {K:W.Frag} {mg:Str→Option Value} {base:Heap} {aK C CN CT CP CM:Addr} {f fX fD fR' fL fW fB fC fT fN fE:Addr} {fd dX dD dR'' dL dW dB dC dT' dN dE:FuncData} {fI fA fQ fS fR:Addr} {dI dA' dQ dS dR':FuncData}
set_option maxHeartbeats 4000000 in
theorem right2 (T:Txt K mg aK C CN CT CP CM) (G:Own P w K mg base C CN CT CP CM fI fA fQ fS fR dI dA' dQ dS dR') (B:Hlp P w K mg base C fX fD fR' fL fW fB fC fT fN fE dX dD dR'' dL dW dB dC dT' dN dE)
  {cdv:Value} {A:Around} {outer:List Env} {s:Shared} {H0:Hp} {E:XK} (hr:aL 65 (A.deeper (PyProof.Rows.envOfC "_law_all_right" (ap zaf) s.heap.objs.size f cdv))) :
  ∃ t,PSs (zbs CX0 P w K mg base NAr "_law_all_right" (ap zaf) f cdv A outer s H0 E).nox ((zaF zaf).drop 2) t ∧
   ∀(D:zaW) (H:Hp) (a:Addr) (ns:List Int) (v1 v2 v3 v4 v5 v6 v7 v8 v9 v10 v11 v12 v13:Option V),SqL K H a (ns.map V.int)→ns.length≤63→NmsAt H v1→(∀ H',D.rt (.bl true) H')→t D [some (.ref a),v1,v2,v3,v4,v5,v6,v7,v8,v9,v10,v11,v12,v13] H:=by
 have hr1:aL 1 _:=hr.mono (by decide)
 have hr29:aL 29 _:=hr.mono (by decide)
 obtain⟨t5,h5,g5⟩:=right5 (P:=P) (w:=w) (K:=K) (mg:=mg) (base:=base) (f:=f) (cdv:=cdv) (A:=A) (outer:=outer) (s:=s) (H0:=H0) (E:=E) T G B hr
 refine⟨_,(ai (aA (i:=4) zad.nd rfl (Or.inl rfl) (az B.E.ok hr29 rfl B.E.m B.E.kp B.E.b .nil aF (aa (pv 0) (aa ah (aa (pv 1) (aa (aw zar (az B.Ce.ok hr1 rfl B.Ce.m B.Ce.kp B.Ce.b .nil aF (aa (pv 0) (aa ah ac))) ah) ac))))))
  (ai (aA (i:=5) zad.nd rfl (Or.inl rfl) (aw zar (aw zaX (az B.Ce.ok hr1 rfl B.Ce.m B.Ce.kp B.Ce.b .nil aF (aa (pv 0) (aa ah ac))) ah) ah))
  (ai (zal (zac zcS (pv 5) ah (zam _))
   (ai (aA (i:=6) zad.nd rfl (Or.inl rfl) (zak (aa (aB zaq (pv 1) ah (fun _ _=>rfl)) (aa (zak ac) ac))))
    (ai (zbo PassesOwn.never rfl (zbd rfl T.range (aa (aw zcm (pv 5) ah) ac)) (zaP (i:=7) zad.nd rfl (Or.inl rfl))
     (ak (aA (i:=6) zad.nd rfl (Or.inl rfl) (zak (aa (aB zaq (pv 1) (aw zar (pv 7) ah) (fun _ _=>rfl)) (aa (zak (aa (pv 6) ac)) ac))))))
    (ak (aA (i:=4) zad.nd rfl (Or.inl rfl) (aw zdF (zaA (aa (pv 6) ac)) (pv 4))))))
   zab) h5))),?_⟩
 intro D H a ns v1 v2 v3 v4 v5 v6 v7 v8 v9 v10 v11 v12 v13 hS n63 N q
 obtain⟨nl,zs,rfl,hN,z4,gz⟩:=N
 refine⟨_,rfl,_,rfl,_,rfl,a,ns,_,rfl,hS,n63,(by decide),fun c0=>⟨_,_,rfl,rfl,(by show(0:Int) < 13;decide),?_⟩⟩
 have b13:=zcM c0 (show(0:Int) < 13 by decide)
 refine⟨a,nl,ns,zs,2,c0 % 13,rfl,hS,n63,(by decide),hN,z4,gz,b13.1,by omega,fun H1 tr ts s1 ntr PA gt st=>?_⟩
 refine⟨_,rfl,a,ns,_,rfl,s1.seq hS,n63,(by decide),fun c1=>⟨_,_,rfl,rfl,⟨by decide,by decide⟩,_,_,rfl,rfl,(by show(0:Int) < 160;decide),?_⟩⟩
 have b160:=zcM (c1 / 13) (show(0:Int) < 160 by decide)
 have gt':∀ t∈ts,TGd t∧szT t≤21:=fun t ht=>⟨(gt t ht).1,by have:=(gt t ht).2;omega⟩
 refine⟨_,rfl,_,_,rfl,rfl,_,rfl,aO (fun cc=>?_) (fun cc=>g5 _ H1 a ns tr ts _ _ _ _ _ _ _ _ _ _ _ _ (s1.seq hS) n63 ⟨nl,zs,rfl,s1 _ _ hN,z4,gz⟩ PA gt' (by omega) (fun h=>absurd (decide_eq_true h) cc) q)⟩
 have d139:139 < c1 / 13 % 160:=of_decide_eq_true cc
 obtain⟨z,hz,hat⟩:=zfk z4 0
 refine⟨_,rfl,nl,_,_,_,rfl,rfl,SqL.of (s1 _ _ hN),hat,lS0,fun l2 hl2=>?_⟩
 have s2:=ar hl2 (.tup [])
 have n2:=ae (H:=H1) (a:=l2) (o:=.tup [])
 generalize upd H1 l2 (.tup [])=H2 at s2 n2
 refine⟨lS2,fun l3 hl3=>?_⟩
 have s3:=ar hl3 (.tup [V.str z,V.ref l2])
 have h3:Has K (upd H2 l3 (.tup [V.str z,V.ref l2])) (dTr (.node z [])) (.ref l3):=Has.tup' (SqT.of ae) (.cons Has.str' (.cons (Has.tup' (SqT.of (s3 _ _ n2)) .nil) .nil))
 generalize upd H2 l3 (.tup [V.str z,V.ref l2])=H3 at s3 h3
 have s13:=s2.trans s3
 refine⟨_,rfl,_,_,rfl,rfl,_,rfl,(by show -(2 ^ 62)≤c1 / 13 % 160 - 139;omega),(by show c1 / 13 % 160 - 139 < 2 ^ 62;omega),zce (lo:=0) (n:=(c1 / 13 % 160 - 139).toNat) (fun i σ H'=>ax H1 H'∧∃(t:Tr) (v:V) (w7:Option V),σ=[some (.ref a),some (.ref nl),v2,v3,some (.ref tr),some (.int (c1 / 13 % 160)),some v,w7,v8,v9,v10,v11,v12,v13]∧Has K H' (dTr t) v∧TGd t∧szT t=i+1) ⟨s13,_,_,_,rfl,h3,⟨gz z hz,by decide,trivial⟩,by simp [szT,aI]⟩ ?_ ?_⟩
 ·rintro i σ H4 hi ⟨s4,t,v,w7,rfl,hv,gv,zv⟩
  obtain⟨y,hy,haty⟩:=zfk z4 (0+(i:Int))
  refine⟨_,rfl,_,rfl,_,_,rfl,rfl,(by show(0:Int) < 4;decide),nl,_,_,_,rfl,rfl,SqL.of (s4 _ _ (s1 _ _ hN)),haty,_,rfl,lS1,fun l5 hl5=>?_⟩
  have s5:=ar hl5 (.tup [v])
  have n5:=ae (H:=H4) (a:=l5) (o:=.tup [v])
  have hv5:=hv.keep s5.kt (nol_dTr _)
  generalize upd H4 l5 (.tup [v])=H5 at s5 n5 hv5
  refine⟨lS2,fun l6 hl6=>?_⟩
  have s6:=ar hl6 (.tup [V.str y,V.ref l5])
  refine⟨(s4.trans s5).trans s6,.node y [t],_,_,rfl,Has.tup' (SqT.of ae) (.cons Has.str' (.cons (Has.tup' (SqT.of (s6 _ _ n5)) (.cons (hv5.keep s6.kt (nol_dTr _)) .nil)) .nil)),⟨gz y hy,by simp,gv,trivial⟩,?_⟩
  simp only[szT,aI]
  omega
 ·rintro σ H4 ⟨s4,t,v,w7,rfl,hv,gv,zv⟩
  refine⟨_,rfl,lS1,fun l5 hl5=>?_⟩
  have s5:=ar hl5 (.lst [v])
  have n5:=ae (H:=H4) (a:=l5) (o:=.lst [v])
  have hv5:=hv.keep s5.kt (nol_dTr _)
  generalize upd H4 l5 (.lst [v])=H5 at s5 n5 hv5
  have s15:=s4.trans s5
  obtain⟨ws,hws,hxw⟩:=PA
  have wl:ws.length=ts.length:=by rw[←hxw.length,dTrs_length]
  have tl:=zcz ts
  refine⟨_,rfl,l5,tr,_,ws,rfl,rfl,n5,s15 _ _ hws,Nat.le_of_lt (zaT (by show 1+ws.length≤1000;omega)),fun l6 hl6=>?_⟩
  have s6:=ar hl6 (.lst ([v]++ws))
  have s16:=s15.trans s6
  refine g5 _ _ a ns l6 (t :: ts) _ _ _ _ _ _ _ _ _ _ _ _ ((s1.trans s16).seq hS) n63 ⟨nl,zs,rfl,s16 _ _ (s1 _ _ hN),z4,gz⟩ ⟨_,ae,.cons (hv5.keep s6.kt (nol_dTr _)) (hxw.keep s16.kt (nols_dTrs _))⟩ (fun u hu=>?_) (by simp only[aI];omega) (fun _=>List.cons_ne_nil _ _) q
  rcases List.mem_cons.mp hu with rfl | hu
  ·exact⟨gv,by omega⟩
  ·exact gt' u hu
theorem zi7 {i:Int} (h0:-1≤i) (h1:i < 6):∃ z∈six,atI (six.map V.str) i=some (.str z):=by
 have h:∀ k:Nat,k < 7→∃ z∈six,atI (six.map V.str) ((k:Int) - 1)=some (.str z):=fun k hk=>by
  match k,hk with
  | 0,_=>exact⟨"nota",by simp [six],rfl⟩
  | 1,_=>exact⟨"notx",by simp [six],rfl⟩
  | 2,_=>exact⟨"xor",by simp [six],rfl⟩
  | 3,_=>exact⟨"orb",by simp [six],rfl⟩
  | 4,_=>exact⟨"neverx",by simp [six],rfl⟩
  | 5,_=>exact⟨"asx",by simp [six],rfl⟩
  | 6,_=>exact⟨"nota",by simp [six],rfl⟩
  | k+7,h=>exact absurd h (by omega)
 obtain⟨z,hz,e⟩:=h (i+1).toNat (by omega)
 refine⟨z,hz,?_⟩
 rw[←e]
 congr 1
 omega
def zeK (K:W.Frag):Sp:=fun vs H Q _=>∃(a:Addr) (ns:List Int),vs=[.ref a]∧SqL K H a (ns.map V.int)∧ns.length≤63∧∀ H',Q (.bl true) H'
set_option maxHeartbeats 4000000 in
theorem zkm (F:Fun K "_law_all_right" "_law_all_right" zaf f fd) (T:Txt K mg aK C CN CT CP CM) (G:Own P w K mg base C CN CT CP CM fI fA fQ fS fR dI dA' dQ dS dR') (B:Hlp P w K mg base C fX fD fR' fL fW fB fC fT fN fE dX dD dR'' dL dW dB dC dT' dN dE):FnOk P w K mg base CX0 66 f fd ["_law_script"] (zeK K):=by
 refine F.ok zad (fun vs H Q E h=>?_) (fun cdv A outer s H vs Q E hr h=>?_)
 ·obtain⟨a,ns,rfl,_⟩:=h
  rfl
 obtain⟨a,ns,rfl,hS,n63,q⟩:=h
 have hr1:aL 1 _:=hr.mono (by decide)
 have hr2:aL 2 _:=hr.mono (by decide)
 obtain⟨t2,h2,g2⟩:=right2 (P:=P) (w:=w) (K:=K) (mg:=mg) (base:=base) (f:=f) (cdv:=cdv) (A:=A) (outer:=outer) (s:=s) (H0:=H) (E:=E) T G B hr
 refine⟨_,(ai (aA (i:=1) zad.nd rfl (Or.inl rfl) (az B.N.ok hr2 rfl B.N.m B.N.kp B.N.b .nil aF (aa (az B.Ce.ok hr1 rfl B.Ce.m B.Ce.kp B.Ce.b .nil aF (aa (pv 0) (aa ah ac))) ac)))
  (ai (zal (zac zbu (aw zar (aw zaX (az B.Ce.ok hr1 rfl B.Ce.m B.Ce.kp B.Ce.b .nil aF (aa (pv 0) (aa ah ac))) ah) ah) ah (zam _))
   (ai (aA (i:=2) zad.nd rfl (Or.inl rfl) (zaA (aa aD (aa aD (aa aD (aa aD (aa aD (aa aD ac))))))))
    (ai (aA (i:=3) zad.nd rfl (Or.inl rfl) (aw zar (aw zaX (az B.Ce.ok hr1 rfl B.Ce.m B.Ce.kp B.Ce.b .nil aF (aa (pv 0) (aa ah ac))) ah) ah))
    (ak (aA (i:=1) zad.nd rfl (Or.inl rfl) (zaA (aa (aB zaq (pv 2) (pv 3) (fun _ _=>rfl)) (aa (aB zaq (pv 1) ah (fun _ _=>rfl)) (aa (aB zaq (pv 2) (aw zcm (pv 3) ah) (fun _ _=>rfl)) (aa (aB zaq (pv 1) ah (fun _ _=>rfl)) ac)))))))))
   zab) h2)),?_⟩
 refine⟨_,rfl,a,ns,_,rfl,hS,n63,(by decide),fun c0=>⟨_,rfl,fun H1 nl zs z4 gz s1 nn hN=>?_⟩⟩
 refine⟨_,rfl,a,ns,_,rfl,s1.seq hS,n63,(by decide),fun c1=>⟨_,_,rfl,rfl,⟨by decide,by decide⟩,_,_,rfl,rfl,(by show(0:Int) < 8;decide),rfl,_,rfl,aO (fun _=>?_) (fun _=>g2 _ H1 a ns _ _ _ _ _ _ _ _ _ _ _ _ _ (s1.seq hS) n63 ⟨nl,zs,rfl,hN,z4,gz⟩ q)⟩⟩
 refine⟨(by show 6≤sizeLine;decide),fun l2 hl2=>?_⟩
 have s2:=ar hl2 (.lst (six.map V.str))
 have n2:=ae (H:=H1) (a:=l2) (o:=.lst (six.map V.str))
 have s02:=s1.trans s2
 refine⟨_,rfl,a,ns,_,rfl,s02.seq hS,n63,(by decide),fun c2=>⟨_,_,rfl,rfl,⟨by decide,by decide⟩,_,_,rfl,rfl,(by show(0:Int) < 6;decide),?_⟩⟩
 have b6:=zcM (c2 / 512) (show(0:Int) < 6 by decide)
 obtain⟨x1,m1,e1⟩:=zi7 (i:=c2 / 512 % 6) (by omega) b6.2
 obtain⟨x2,m2,e2⟩:=zi7 (i:=c2 / 512 % 6 - 1) (by omega) (by omega)
 obtain⟨z0,z1,z2,z3,rfl⟩:∃ z0 z1 z2 z3,zs=[z0,z1,z2,z3]:=by
  match zs,z4 with
  | [z0,z1,z2,z3],_=>exact⟨z0,z1,z2,z3,rfl⟩
 refine⟨_,rfl,_,rfl,l2,_,_,_,rfl,rfl,SqL.of n2,e1,_,rfl,nl,_,_,_,rfl,rfl,SqL.of (s2 _ _ hN),rfl,_,rfl,_,rfl,_,_,rfl,rfl,l2,_,_,_,rfl,rfl,SqL.of n2,e2,_,rfl,nl,_,_,_,rfl,rfl,SqL.of (s2 _ _ hN),rfl,lS4,fun l3 hl3=>?_⟩
 have s3:=ar hl3 (.lst [V.str x1,V.str z1,V.str x2,V.str z3])
 refine g2 _ _ a ns _ _ _ _ _ _ _ _ _ _ _ _ _ ((s02.trans s3).seq hS) n63 ⟨l3,[x1,z1,x2,z3],rfl,ae,rfl,fun z hz=>?_⟩ q
 simp only[List.mem_cons,List.not_mem_nil,or_false]at hz
 rcases hz with rfl | rfl | rfl | rfl
 ·exact zi6 _ m1
 ·exact gz _ (by simp)
 ·exact zi6 _ m2
 ·exact gz _ (by simp)
theorem sc_law:zaa ["_law_script"] ["_law_script"] (ap ziv):=⟨rfl,rfl,rfl,by decide +kernel,rfl,by decide +kernel,by decide +kernel⟩
theorem ok_law (F:Fun K "law" "law" ziv f fd) (BA:FB P w K mg base CX0 66 "_law_all_right" fA dA' ["_law_script"] (zeK K)):FnOk P w K mg base CX0 67 f fd ["_law_script"] (zeK K):=by
 refine F.ok sc_law (fun vs H Q E h=>?_) (fun cdv A outer s H vs Q E hr h=>?_)
 ·obtain⟨a,ns,rfl,_⟩:=h
  rfl
 obtain⟨a,ns,rfl,hS,h63,k⟩:=h
 refine⟨_,ak (ps_try rfl rfl (fun pins E1 Eb hp=>ak (aE (az BA.ok hr rfl BA.m BA.kp BA.b .nil aF (aa (pv 0) ac)))) zkf),?_⟩
 exact⟨_,rfl,a,ns,rfl,hS,h63,fun H'=>k H'⟩
end
end K05
namespace K05
open PySem L2
set_option maxHeartbeats 4000000 in
theorem all_mk {l:W.OpenLaw} {w:World} {K:W.Frag} {h:Heap} {mg:Str→Option Value} {fa aK C CN CT CP CM CU f1 f2 f3 f4 f5 f6 f7 f8 f9 f10 f11 f12 f13 f14 f15 f16 f17 f18 f19 f20 f21 f22 f23 f24 f25 f26 f27 f28 f29 f30 f31 f32 f33 f34 f35 f36 f37 f38 f39 f40 f41 f42 f43 f44 f45 f46 f47 f48 f49:Addr} (X:K.In h) (G:h.Ns mainGlobals mg) (hfa:mg "law"=some (.ref fa))
  {d1 d2 d3 d4 d5 d6 d7 d8 d9 d10 d11 d12 d13 d14 d15 d16 d17 d18 d19 d20 d21 d22 d23 d24 d25 d26 d27 d28 d29 d30 d31 d32 d33 d34 d35 d36 d37 d38 d39 d40 d41 d42 d43 d44 d45 d46 d47 d48 d49:FuncData} {odK:Option Addr} {slK:Array (Option Value)} {t1 t2 t3 t4 t5 t6 t7 u1 u2 u3 u4 u5 u6 u7 u8:Tok} {nK:Nat} {t8:Tok}
  (aC:W.nsIn K mainGlobals "Problem"=some (some (.ref C)))
  (aN:W.nsIn K mainGlobals "BadName"=some (some (.ref CN)))
  (aT:W.nsIn K mainGlobals "BadTerm"=some (some (.ref CT)))
  (aP:W.nsIn K mainGlobals "BadPart"=some (some (.ref CP)))
  (aM:W.nsIn K mainGlobals "TooMany"=some (some (.ref CM)))
  (aU:W.nsIn K mainGlobals "Cursor"=some (some (.ref CU)))
  (y1:FT K "is_word" "is_word" zfQ f1 d1)
  (y2:FT K "is_name" "is_name" zfR f2 d2)
  (y3:FT K "ask_name" "ask_name" ze9 f3 d3)
  (y4:FT K "once_each" "once_each" zix f4 d4)
  (y5:FT K "place_of" "place_of" zgR f5 d5)
  (y6:FT K "formed_tree" "formed_tree" C05.s_formed_tree f6 d6)
  (y7:FT K "formed_atom" "formed_atom" C05.s_formed_atom f7 d7)
  (y8:FT K "formed_part" "formed_part" C05.s_formed_part f8 d8)
  (y9:FT K "formed_row" "formed_row" C05.s_formed_row f9 d9)
  (y10:FT K "text_rows" "text_rows" C05.s_text_rows f10 d10)
  (y11:FT K "add_tree" "add_tree" zcW f11 d11)
  (y12:FT K "add_atom" "add_atom" zeg f12 d12)
  (y13:FT K "add_part" "add_part" zef f13 d13)
  (y14:FT K "read" "read" zfp f14 d14)
  (y15:FT K "shown_term" "shown_term" zco f15 d15)
  (y16:FT K "shown_atom" "shown_atom" zdd f16 d16)
  (y17:FT K "shown_part" "shown_part" zdc f17 d17)
  (y18:FT K "shown_row" "shown_row" zcG f18 d18)
  (y19:FT K "written" "written" zdn f19 d19)
  (y20:FT K "_law_cell_at" "_law_cell_at" ziz f20 d20)
  (y21:FT K "_law_word" "_law_word" zdw f21 d21)
  (y22:FT K "_law_names" "_law_names" zcp f22 d22)
  (y23:FT K "_law_grown" "_law_grown" zdf f23 d23)
  (y24:FT K "_law_size" "_law_size" zdy f24 d24)
  (y25:FT K "_law_trees" "_law_trees" zde f25 d25)
  (y26:FT K "_law_tree_text" "_law_tree_text" zb8 f26 d26)
  (y27:FT K "_law_told" "_law_told" zaR f27 d27)
  (y28:FT K "_law_bounds" "_law_bounds" zaw f28 d28)
  (y29:FT K "_law_part_text" "_law_part_text" zb9 f29 d29)
  (y30:FT K "_law_text" "_law_text" zdx f30 d30)
  (y31:FT K "_law_term" "_law_term" zcH f31 d31)
  (y32:FT K "_law_atom" "_law_atom" zdz f32 d32)
  (y33:FT K "_law_due" "_law_due" zeh f33 d33)
  (y34:FT K "_law_alike" "_law_alike" zdg f34 d34)
  (y35:FT K "_law_all_right" "_law_all_right" zaf f35 d35)
  (y36:FT K "law" "law" ziv f36 d36)
  (y37:FM K C "__init__" "Problem.__init__" ziy f37 d37)
  (y38:FM K C "ask_term" "Problem.ask_term" ze7 f38 d38)
  (y39:FM K C "ask_part" "Problem.ask_part" ze8 f39 d39)
  (y40:FM K C "add_term" "Problem.add_term" sAdd f40 d40)
  (y41:FM K C "add_plain" "Problem.add_plain" zgQ f41 d41)
  (y42:FM K C "add_same" "Problem.add_same" ziw f42 d42)
  (y43:FM K C "add_row" "Problem.add_row" sRow f43 d43)
  (y44:FM K CU "__init__" "Cursor.__init__" C05.s_Cursor___init__ f44 d44)
  (y45:FM K CU "is_over" "Cursor.is_over" C05.s_Cursor_is_over f45 d45)
  (y46:FM K CU "takes" "Cursor.takes" C05.s_Cursor_takes f46 d46)
  (y47:FM K CU "take_word" "Cursor.take_word" C05.s_Cursor_take_word f47 d47)
  (y48:FM K CU "take_tree" "Cursor.take_tree" C05.s_Cursor_take_tree f48 d48)
  (y49:FM K CU "take_trees" "Cursor.take_trees" C05.s_Cursor_take_trees f49 d49)
  (s1:W.nsIn K mainGlobals "SMALL_LETTERS"=some (some (.str abc t1)))
  (s2:W.nsIn K mainGlobals "LONGEST_NAME"=some (some (.int 8 t2)))
  (s3:W.nsIn K mainGlobals "MOST_TERM_PARTS"=some (some (.int 3 t3)))
  (s4:W.nsIn K mainGlobals "MOST_TERMS"=some (some (.int 60 t4)))
  (s5:W.nsIn K mainGlobals "MOST_ATOMS"=some (some (.int 40 t5)))
  (s6:W.nsIn K mainGlobals "MOST_ROW_PARTS"=some (some (.int 20 t6)))
  (s7:W.nsIn K mainGlobals "MOST_ROWS"=some (some (.int 200 t7)))
  (s8:W.nsIn K mainGlobals "KEPT_WORDS"=some (some (.ref aK)))
  (s9:K.lookup aK=some ⟨.type "tuple",odK,.seq #[.str "or" u1,.str "and" u2,.str "not" u3,.str "never" u4,.str "always" u5,.str "then" u6,.str "as" u7,.str "unlike" u8] nK,slK⟩)
  (z_len:W.nsIn K mainGlobals "len"=some none)
  (z_all:W.nsIn K mainGlobals "all"=some none)
  (z_range:W.nsIn K mainGlobals "range"=some none)
  (z_isinstance:W.nsIn K mainGlobals "isinstance"=some none)
  (z_bool:W.nsIn K mainGlobals "bool"=some none)
  (z_tuple:W.nsIn K mainGlobals "tuple"=some none)
  (z_abs:W.nsIn K mainGlobals "abs"=some none)
  (z_sum:W.nsIn K mainGlobals "sum"=some none)
  (pg:W.plainGet K C Str.empty=true)
  (hd:W.hasDictIn K C=true)
  (po:W.plainOver K C=true)
  (sa:W.findIn K (.ref C) "__setattr__"=some (some (.builtin "object.__setattr__")))
  (mk:W.makesIn K C=true)
  (kc:W.keepIn K (.ref C)=true)
  (nT:W.findIn K (.ref C) "terms"=some none)
  (nA:W.findIn K (.ref C) "atoms"=some none)
  (nR:W.findIn K (.ref C) "rows"=some none)
  (xN:W.excIn K CN bmV "ValueError.__new__"=true)
  (xT:W.excIn K CT bmV "ValueError.__new__"=true)
  (xP:W.excIn K CP bmV "ValueError.__new__"=true)
  (xM:W.excIn K CM bmV "ValueError.__new__"=true)
  (g1:W.nsIn K mainGlobals "MOST_BRACKETS"=some (some (.int 20 t8)))
  (zg:W.plainGet K CU Str.empty=true)
  (zd:W.hasDictIn K CU=true)
  (zo:W.plainOver K CU=true)
  (zs:W.findIn K (.ref CU) "__setattr__"=some (some (.builtin "object.__setattr__")))
  (zm:W.makesIn K CU=true)
  (zk:W.keepIn K (.ref CU)=true)
  (zp:W.findIn K (.ref CU) "place"=some none)
  (zt:W.findIn K (.ref CU) "text"=some none)
  : ∃ fd:FuncData,(∀(s:Shared) (v:Value),BindsTo s fd ⟨[v],[]⟩ [("_law_script",v)])∧∀ base:Heap,K.In base→base.Ns mainGlobals mg→FnOk l.prog w K mg base CX0 67 fa fd ["_law_script"] (zeK K):=by
 have e:=hfa.symm.trans (y36.m X G)
 cases e
 have T:Txt K mg aK C CN CT CP CM:=⟨⟨_,W.mg_of X G s1⟩,⟨_,W.mg_of X G s2⟩,⟨_,W.mg_of X G s3⟩,⟨_,W.mg_of X G s4⟩,⟨_,W.mg_of X G s5⟩,⟨_,W.mg_of X G s6⟩,⟨_,W.mg_of X G s7⟩,W.mg_of X G s8,fun H=>.inr ⟨_,_,_,s9,rfl,rfl,(by show 8≤sizeLine;decide),.cons ⟨_,rfl⟩ (.cons ⟨_,rfl⟩ (.cons ⟨_,rfl⟩ (.cons ⟨_,rfl⟩ (.cons ⟨_,rfl⟩ (.cons ⟨_,rfl⟩ (.cons ⟨_,rfl⟩ (.cons ⟨_,rfl⟩ .nil)))))))⟩,W.mg_none_of X G z_len,W.mg_none_of X G z_all,W.mg_none_of X G z_range,W.mg_none_of X G z_isinstance,W.mg_none_of X G z_bool,W.mg_none_of X G z_tuple,W.mg_none_of X G z_abs,W.mg_of X G aN,W.mg_of X G aT,W.mg_of X G aP,W.mg_of X G aM,xN,xT,xP,xM,⟨pg,hd,po,sa⟩,nT,nA,nR⟩
 have Z:C05.TxC K mg CU:=⟨⟨zg,zd,zo,zs⟩,zp,zt,T.small,T.len,T.tuple⟩
 have TF:C05.TxF K mg CU:=⟨⟨_,W.mg_of X G g1⟩,W.mg_of X G aU⟩
 have b1:ay K d1 ["text"] []:=y1.F.b1 fun _ _ _ _ _ _ _=>rfl
 have b2:ay K d2 ["word"] []:=y2.F.b1 fun _ _ _ _ _ _ _=>rfl
 have b3:ay K d3 ["word"] []:=y3.F.b1 fun _ _ _ _ _ _ _=>rfl
 have b4:ay K d4 ["parts"] []:=y4.F.b1 fun _ _ _ _ _ _ _=>rfl
 have b5:ay K d5 ["thing","things","most"] []:=y5.F.b3 fun _ _ _ _ _ _ _ _ _=>rfl
 have b6:ay K d6 ["text"] []:=y6.F.b1 fun _ _ _ _ _ _ _=>rfl
 have b7:ay K d7 ["text"] []:=y7.F.b1 fun _ _ _ _ _ _ _=>rfl
 have b8:ay K d8 ["text"] []:=y8.F.b1 fun _ _ _ _ _ _ _=>rfl
 have b9:ay K d9 ["text"] []:=y9.F.b1 fun _ _ _ _ _ _ _=>rfl
 have b10:ay K d10 ["text"] []:=y10.F.b1 fun _ _ _ _ _ _ _=>rfl
 have b11:ay K d11 ["problem","tree"] []:=y11.F.b2 fun _ _ _ _ _ _ _ _=>rfl
 have b12:ay K d12 ["problem","atom"] []:=y12.F.b2 fun _ _ _ _ _ _ _ _=>rfl
 have b13:ay K d13 ["problem","part"] []:=y13.F.b2 fun _ _ _ _ _ _ _ _=>rfl
 have b14:ay K d14 ["text"] []:=y14.F.b1 fun _ _ _ _ _ _ _=>rfl
 have b15:ay K d15 ["problem","number"] []:=y15.F.b2 fun _ _ _ _ _ _ _ _=>rfl
 have b16:ay K d16 ["problem","number"] []:=y16.F.b2 fun _ _ _ _ _ _ _ _=>rfl
 have b17:ay K d17 ["problem","part"] []:=y17.F.b2 fun _ _ _ _ _ _ _ _=>rfl
 have b18:ay K d18 ["problem","row"] []:=y18.F.b2 fun _ _ _ _ _ _ _ _=>rfl
 have b19:ay K d19 ["problem"] []:=y19.F.b1 fun _ _ _ _ _ _ _=>rfl
 have b20:ay K d20 ["_law_script","_law_k"] []:=y20.F.b2 fun _ _ _ _ _ _ _ _=>rfl
 have b21:ay K d21 ["_law_cell","_law_size_here"] []:=y21.F.b2 fun _ _ _ _ _ _ _ _=>rfl
 have b22:ay K d22 ["_law_cell"] []:=y22.F.b1 fun _ _ _ _ _ _ _=>rfl
 have b23:ay K d23 ["_law_pile","_law_names_here","_law_cell"] []:=y23.F.b3 fun _ _ _ _ _ _ _ _ _=>rfl
 have b24:ay K d24 ["_law_tree"] []:=y24.F.b1 fun _ _ _ _ _ _ _=>rfl
 have b25:ay K d25 ["_law_script","_law_begin","_law_names_here","_law_many"] []:=y25.F.b4 fun _ _ _ _ _ _ _ _ _ _=>rfl
 have b26:ay K d26 ["_law_tree"] []:=y26.F.b1 fun _ _ _ _ _ _ _=>rfl
 have b27:ay K d27 ["_law_script","_law_trees_here","_law_names_here"] []:=y27.F.b3 fun _ _ _ _ _ _ _ _ _=>rfl
 have b28:ay K d28 ["_law_cell"] []:=y28.F.b1 fun _ _ _ _ _ _ _=>rfl
 have b29:ay K d29 ["_law_part"] []:=y29.F.b1 fun _ _ _ _ _ _ _=>rfl
 have b30:ay K d30 ["_law_rows"] []:=y30.F.b1 fun _ _ _ _ _ _ _=>rfl
 have b31:ay K d31 ["_law_terms","_law_tree"] []:=y31.F.b2 fun _ _ _ _ _ _ _ _=>rfl
 have b32:ay K d32 ["_law_terms","_law_atoms","_law_part"] []:=y32.F.b3 fun _ _ _ _ _ _ _ _ _=>rfl
 have b33:ay K d33 ["_law_rows"] []:=y33.F.b1 fun _ _ _ _ _ _ _=>rfl
 have b34:ay K d34 ["_law_problem","_law_due_here"] []:=y34.F.b2 fun _ _ _ _ _ _ _ _=>rfl
 have b35:ay K d35 ["_law_script"] []:=y35.F.b1 fun _ _ _ _ _ _ _=>rfl
 have b37:ay K d37 ["self"] []:=y37.F.b1 fun _ _ _ _ _ _ _=>rfl
 have b38:ay K d38 ["self","number"] []:=y38.F.b2 fun _ _ _ _ _ _ _ _=>rfl
 have b39:ay K d39 ["self","part"] []:=y39.F.b2 fun _ _ _ _ _ _ _ _=>rfl
 have b40:ay K d40 ["self","name","parts"] []:=y40.F.b3 fun _ _ _ _ _ _ _ _ _=>rfl
 have b41:ay K d41 ["self","name"] []:=y41.F.b2 fun _ _ _ _ _ _ _ _=>rfl
 have b42:ay K d42 ["self","one","other"] []:=y42.F.b3 fun _ _ _ _ _ _ _ _ _=>rfl
 have b43:ay K d43 ["self","parts"] []:=y43.F.b2 fun _ _ _ _ _ _ _ _=>rfl
 have b44:ay K d44 ["self","text"] []:=y44.F.b2 fun _ _ _ _ _ _ _ _=>rfl
 have b45:ay K d45 ["self"] []:=y45.F.b1 fun _ _ _ _ _ _ _=>rfl
 have b46:ay K d46 ["self","signs"] []:=y46.F.b2 fun _ _ _ _ _ _ _ _=>rfl
 have b47:ay K d47 ["self"] []:=y47.F.b1 fun _ _ _ _ _ _ _=>rfl
 have b48:ay K d48 ["self","brackets"] []:=y48.F.b2 fun _ _ _ _ _ _ _ _=>rfl
 have b49:ay K d49 ["self","brackets"] []:=y49.F.b2 fun _ _ _ _ _ _ _ _=>rfl
 refine⟨_,y36.F.top fun _ _ _ _ _ _ _=>rfl,fun base _ _=>?_⟩
 have G1:=zjJ (P:=l.prog) (w:=w) (base:=base) y1.F T
 have G2:=zjK y2.F T G1 b1 y1.k (y1.m X G)
 have G3:=ziQ y3.F T G2 b2 y2.k (y2.m X G)
 have G4:=zlf (P:=l.prog) (w:=w) (base:=base) y4.F T
 have G5:=zkp (P:=l.prog) (w:=w) (base:=base) y5.F T
 have G37:=zlh (P:=l.prog) (w:=w) (base:=base) y37.F T
 have G38:=ziO (P:=l.prog) (w:=w) (base:=base) y38.F T
 have G39:=ziP (P:=l.prog) (w:=w) (base:=base) y39.F T
 have G40:=ok_add y40.F T G3 b3 y3.k (y3.m X G) G38 b38 y38.M G5 b5 y5.k (y5.m X G)
 have G41:=zko y41.F T G3 b3 y3.k (y3.m X G) G5 b5 y5.k (y5.m X G)
 have G42:=zld y42.F T G38 b38 y38.M G5 b5 y5.k (y5.m X G)
 have G43:=ok_row y43.F T G39 b39 y39.M G4 b4 y4.k (y4.m X G)
 have GR4:=G43.mono (k:=4) (by decide)
 have GS4:=G42.mono (k:=4) (by decide)
 have MKI:Mk K C f37:=⟨mk,y37.a,y37.i,kc⟩
 have OW:Own l.prog w K mg base C CN CT CP CM f37 f40 f41 f42 f43 _ _ _ _ _:=⟨G37,b37,MKI,W.mg_of X G aC,G40,b40,y40.M,G41,b41,y41.M,GS4,b42,y42.M,GR4,b43,y43.M⟩
 have G44:=C05.ok_cinit (P:=l.prog) (w:=w) (base:=base) y44.F Z
 have G45:=C05.ok_over (P:=l.prog) (w:=w) (base:=base) y45.F Z
 have G46:=C05.ok_takes (P:=l.prog) (w:=w) (base:=base) y46.F Z
 have G47:=C05.ok_cword y47.F Z G45 b45 y45.M
 have O:C05.OwC l.prog w K mg base CU f46 f47 _ _:=⟨G46,b46,y46.M,G47,b47,y47.M⟩
 have G48:FnOk l.prog w K mg base CX0 44 f48 _ ["self","brackets"] (C05.sp_ctree K CU 20):=C05.ok_ctree y48.F y49.F Z O b48 y48.M b49 y49.M 20
 have MKC:Mk K CU f44:=⟨zm,y44.a,y44.i,zk⟩
 have G10:=C05.ok_trows (mg:=mg) (P:=l.prog) (w:=w) (base:=base) y10.F
 have G6:=C05.ok_ftree y6.F Z TF MKC G44 b44 G48 b48 y48.M G45 b45 y45.M
 have G7:=C05.ok_fatom y7.F Z ⟨G1,b1,y1.k,(y1.m X G)⟩ ⟨G6,b6,y6.k,(y6.m X G)⟩
 have G8:=C05.ok_fpart y8.F Z ⟨G7,b7,y7.k,(y7.m X G)⟩
 have G9:=C05.ok_frow y9.F ⟨G8,b8,y8.k,(y8.m X G)⟩
 have G11:FnOk l.prog w K mg base (CX1 l.prog w) 26 f11 _ ["problem","tree"] (zed K C CM 21):=zfB y11.F T OW b11 y11.k (y11.m X G) 21
 have G12:=zku y12.F T OW ⟨G11,b11,y11.k,(y11.m X G)⟩
 have G13:=zkt y13.F ⟨G12,b12,y12.k,(y12.m X G)⟩
 have G14:=zle y14.F T OW ⟨G10,b10,y10.k,(y10.m X G)⟩ ⟨G9,b9,y9.k,(y9.m X G)⟩ ⟨G13,b13,y13.k,(y13.m X G)⟩
 have G15:=zhu (P:=l.prog) (w:=w) (base:=base) y15.F T b15 y15.k (y15.m X G) 61
 have G16:=zkl y16.F T ⟨G15,b15,y15.k,(y15.m X G)⟩
 have G17:=zkk y17.F ⟨G16,b16,y16.k,(y16.m X G)⟩
 have G18:=zlc y18.F T ⟨G17,b17,y17.k,(y17.m X G)⟩
 have G19:=ziN y19.F T ⟨G18,b18,y18.k,(y18.m X G)⟩
 have G20:=zli (P:=l.prog) (w:=w) (base:=base) y20.F T
 have G21:=zk9 (P:=l.prog) (w:=w) (base:=base) y21.F T
 have G22:=zkq y22.F ⟨G21,b21,y21.k,(y21.m X G)⟩
 have G26:=zhv (P:=l.prog) (w:=w) (base:=base) y26.F T b26 y26.k (y26.m X G) 22 (by decide)
 have G24:=zh9 (P:=l.prog) (w:=w) (base:=base) y24.F (W.mg_none_of X G z_sum) b24 y24.k (y24.m X G) 28
 have G23:=zks (P:=l.prog) (w:=w) (base:=base) y23.F T
 have G25:=zkj y25.F T ⟨G20,b20,y20.k,(y20.m X G)⟩ ⟨G23,b23,y23.k,(y23.m X G)⟩ ⟨G24,b24,y24.k,(y24.m X G)⟩
 have G29:=zkn y29.F ⟨G26,b26,y26.k,(y26.m X G)⟩
 have G30:=zlb y30.F ⟨G29,b29,y29.k,(y29.m X G)⟩
 have G31:=zhw (P:=l.prog) (w:=w) (base:=base) y31.F T b31 y31.k (y31.m X G) 21
 have G32:=zkr y32.F ⟨G31,b31,y31.k,(y31.m X G)⟩
 have G33:=zlg y33.F T ⟨G32,b32,y32.k,(y32.m X G)⟩
 have G34:=zjI (C:=C) (P:=l.prog) (w:=w) (base:=base) y34.F T
 have G27:=zla y27.F T ⟨G20,b20,y20.k,(y20.m X G)⟩
 have G28:=zjM (P:=l.prog) (w:=w) (base:=base) y28.F T
 have G35:=zkm y35.F T OW ⟨⟨G30,b30,y30.k,(y30.m X G)⟩,⟨G33,b33,y33.k,(y33.m X G)⟩,⟨G14,b14,y14.k,(y14.m X G)⟩,⟨G34,b34,y34.k,(y34.m X G)⟩,⟨G19,b19,y19.k,(y19.m X G)⟩,⟨G28,b28,y28.k,(y28.m X G)⟩,⟨G20,b20,y20.k,(y20.m X G)⟩,⟨G27,b27,y27.k,(y27.m X G)⟩,⟨G22,b22,y22.k,(y22.m X G)⟩,⟨G25,b25,y25.k,(y25.m X G)⟩⟩
 exact ok_law y36.F ⟨G35,b35,y35.k,(y35.m X G)⟩
theorem walk {l:W.OpenLaw} {q:Program} {loose:List Str} {XP:(Str→Option Value)→Heap→Prop} {YP:World→Heap→Prop} {d:DefRec} {K:Params→W.Frag} (hn:l.most=some 63) (hdf:d.params.defaults=[])
  (hY:∀(w:World) (h:Heap),YP w h→(K w.params).In h)
  (F:∀(w:World) (mg:Str→Option Value) (fa:Addr) (h:Heap),(K w.params).In h→h.Ns mainGlobals mg→mg d.name=some (.ref fa) →
   ∃ fd:FuncData,(∀(s:Shared) (u:Value),BindsTo s fd ⟨[u],[]⟩ [("_law_script",u)])∧∀ base:Heap,(K w.params).In base→base.Ns mainGlobals mg→FnOk l.prog w (K w.params) mg base CX0 67 fa fd ["_law_script"] (zeK (K w.params))) :
  W.WalkO q loose XP YP l.row.toRowW d [] (fun f vs=>PySem.call f vs) :=
 L2.walk_of (n:=63) (k:=67) (x:="_law_script") (CX:=fun _=>CX0) (sp:=fun w=>zeK (K w.params)) hn (by decide) hdf ⟨rfl,by decide,by decide,rfl⟩ hY F (fun _ _ a ns hl _ hS=>⟨a,ns,rfl,hS,hl,fun _=>rfl⟩) fun _ _ _ _ _ z=>z
end K05
namespace PySem.W.Fast
def tw17697880494928148427:=()
def tw2781125027751120114:=()
def tw14603933761191436037:=()
def tw12427152556820303946:=()
def tw8593536547811880048:=()
def tw4297554502552037459:=()
def tw3333434665198176696:=()
def tw2005694052303537911:=()
def tw4095219460298014229:=()
def tw7446516096719552166:=()
def tw13363068624942181413:=()
def tw5734112964427038332:=()
def tw8753861937962644742:=()
def tw17662888093183609296:=()
def tw14716654270482420327:=()
def tw8234586663602659170:=()
def tw179288424280556326:=()
def tw7627686809401841140:=()
def tw4936399561122343799:=()
def tw8558189558097710424:=()
def tw3703566200811116337:=()
def tw10365987397864310827:=()
def tw15493553877874852395:=()
def tw5563133719355133308:=()
def tw12531703750837183871:=()
def tw18014060353526843255:=()
def tw13983373547082396184:=()
def tw15229136004863514270:=()
def tw16459358694353737033:=()
def tw2127253665492600536:=()
def tw17082168767295884458:=()
def tw16415013708587841165:=()
def tw12464168384656041117:=()
def tw8255771118087427307:=()
def tw5654267639736553784:=()
def tw1803039978414554084:=()
def tw6794533541200355233:=()
def tw6699718144294245254:=()
def tw4626378604006245433:=()
def tw3753776794400861791:=()
def tw13384048454429490644:=()
def tw1468454052513629579:=()
def tw216680792247044996:=()
def tw718432916244944119:=()
def tw11738580418521218088:=()
def tw12944436763858128044:=()
def tw10211697565320391950:=()
def tw10485327715199150674:=()
def tw6304504766038035997:=()
def tw4618991587558632983:=()
def tw6745612438637394797:=()
def tw17463633126526660001:=()
def tw4915592728073203127:=()
def tw555231915721575820:=()
def tw8790714909696325741:=()
def tw17112680668507045223:=()
def tw4104090681680294962:=()
def tw12918826487066908677:=()
def tw14298536842324636535:=()
def tw13897469433180489899:=()
def tw1825814742687707383:=()
def tw4040320706586151386:=()
def tw679727145929540538:=()
def tw8233916066422055092:=()
def tw566620271721348367:=()
def tw1454573085344023051:=()
def tw1374818295593107204:=()
def tw1520131693931954194:=()
def tw5183670028855624383:=()
def tw17236743651956149973:=()
def tw11762562024234259453:=()
def tw17453445508220282455:=()
def tw1915937776794181689:=()
def tw13567186668033550264:=()
def tw10341580663949846072:=()
def tw15358913530773393908:=()
def tw10000082090968277917:=()
def tw17716243328344487498:=()
def tw15515048250422522182:=()
def tw7745947843222760932:=()
def tw4177525811141806338:=()
def tw6686026162819948962:=()
def tw18127864880431906804:=()
def tw6380232226572192093:=()
def tw3392636539612421720:=()
def tw5115040494487674621:=()
def tw4493180395205757151:=()
def tw6985974992806988072:=()
def tw338796474859865268:=()
def tw4742303620156327761:=()
def tw14340103487682695113:=()
def tw10210080587516895125:=()
def tw16615112365146349828:=()
def tw17924456852751279964:=()
def tw8246146507832702213:=()
def tw11355607622503880277:=()
def tw11705224645220493891:=()
def tw7090420805495598717:=()
def tw8424662238641327357:=()
def tw10893969761990950051:=()
def tw18151458794896635482:=()
def tw14017787720313887565:=()
def tw3313755662942536994:=()
def tw11442306986563883396:=()
def tw17497763558916479491:=()
def tw1858382787260747045:=()
def tw9532719938822849184:=()
def tw18309609869908180571:=()
def tw462930473101255222:=()
def tw811610507534071780:=()
def tw8066590263654651730:=()
def tw7561330655304321963:=()
def tw8118903843581127726:=()
def tw2058504396606262782:=()
def tw10634628490642908538:=()
def tw52187681389167892:=()
def tw17415130724767460267:=()
def tw11244862546776274750:=()
def tw11695096935129884905:=()
def tw2603605418505890572:=()
def tw7166145960314023066:=()
def tw14449774239755863754:=()
def tw9748346556765065661:=()
def tw17306956447062744955:=()
def tw17552065112546729307:=()
def tw2847723782099695756:=()
def tw1967115241038007158:=()
def tw2531789321712558106:=()
def tw3855306874879280993:=()
def tw4764079350106423509:=()
def tw4607160642349816534:=()
def tw9869992740274188457:=()
def tw13515853905472678112:=()
def tw9345166448806151534:=()
def tw11906580010718233386:=()
def tw6558646160629414795:=()
def tw10294141156370567406:=()
def tw14200934575800014451:=()
def tw13624229137242093634:=()
def tw9089736220510620008:=()
def tw352601073921396338:=()
def tw16577858410059126935:=()
def tw18012308063073196857:=()
def tw430486832946228440:=()
def tw2519697142910121762:=()
def tw16395662514650439589:=()
def tw10689060008563676217:=()
def tw8890395099415164926:=()
def tw11579949303347416087:=()
def tw17734129614738013877:=()
def tw14197742010780397946:=()
def tw34907255765058499:=()
def tw3000383842594399598:=()
def tw10652130464901976077:=()
def tw6208189315608410674:=()
def tw4079136115635219256:=()
def tw12660762201995025780:=()
def tw15276319241105732238:=()
def tw15496301372144640317:=()
def tw13698671829486413011:=()
def tw2786887761911456510:=()
def tw4771858351365371580:=()
def tw14246409560262611434:=()
def tw11307573686815610456:=()
def tw18242654739690661628:=()
def tw11816822685811125851:=()
def tw14518738117327564093:=()
def tw11823923898892147474:=()
def tw16818442632704247416:=()
def tw10171104400811389099:=()
def tw13764517367710493077:=()
def tw6145341476942219680:=()
def tw3022854673152431811:=()
def tw9455887726879822307:=()
def tw2946578163497535681:=()
def tw14719389577327046367:=()
def tw17661792178322339545:=()
def tw17531124318660239171:=()
def tw2555443679180649634:=()
def tw12026254523715605201:=()
def tw15290656494864488294:=()
def tw12462266139205875050:=()
def tw1459544210895378774:=()
def tw14476046713611266483:=()
def tw10305722614850125721:=()
def tw8878176614413097334:=()
def tw3581227452667537050:=()
def tw4237934727368894973:=()
def tw17604943635298377843:=()
def tw11031652567613149931:=()
def tw5785833777021244727:=()
def tw15848397077674805068:=()
def tw4197879640892724483:=()
def tw1257704738894617220:=()
def tw14606751590526386417:=()
def tw13565668247360934128:=()
def tw5324905382950606912:=()
def tw11280149058725134448:=()
def tw16298025393624597871:=()
def tw16371016255621394519:=()
def tw5857661027044186510:=()
def tw3400386123836954018:=()
def tw14335542822798904090:=()
def tw5330918041554574004:=()
def tw8141844726939740129:=()
def tw282389899237091967:=()
def tw7482763867545869552:=()
def tw17420217323907213319:=()
def tw7313225207898375581:=()
def tw8502560878012949373:=()
def tw10418389645734369609:=()
def tw16879207446306782596:=()
def tw7655980464031541782:=()
def tw6385737000501774896:=()
def tw5169441638566905599:=()
def tw12985166417531139073:=()
def tw9101898254339784495:=()
def tw13056064937845663806:=()
def tw6184918094425882849:=()
def tw6162191901726458258:=()
def tw17492452007744150392:=()
def tw10910257923998427957:=()
def tw16209895993727284550:=()
def tw7715004286153754801:=()
def tw5321354466818281494:=()
def tw5707471029192009450:=()
def tw16095749200629537961:=()
def tw15715373437796382947:=()
def tw5032258884458542735:=()
def tw8095250344094893054:=()
def tw6538100973197704385:=()
def tw17555162538456401884:=()
def tw15170345731603972235:=()
def tw3342678727667614705:=()
def tw4970481314760441336:=()
def tw11484017942329408192:=()
def tw16743628161116481266:=()
def tw10002525584497709444:=()
def tw1897012167648409355:=()
def tw6409606298842835586:=()
def tw12998215478241177352:=()
def tw9758796576256949627:=()
def tw3230463694982287368:=()
def tw12351650708486843675:=()
def tw15992008662011459448:=()
def tw17242842143099675673:=()
def tw8435479986073502800:=()
def tw1764305223344009109:=()
def tw10065057715743336075:=()
def tw17696170505185455565:=()
def tw16608466095360600766:=()
def tw14082755195939642962:=()
def tw15095982716665909747:=()
def tw16542773890572510331:=()
def tw14721014958587250825:=()
def tw7686869011379661302:=()
def tw423524603418425436:=()
def tw8545070214174996994:=()
def tw7891840561164487226:=()
def tw1409100098482946156:=()
def tw11771674708409556758:=()
def tw7894162671043495689:=()
def tw10697697668429438509:=()
def tw6975508218362025401:=()
def tw1427588669657694985:=()
def tw5429860353438383407:=()
def tw1465209400102559823:=()
def tw14004442706707937559:=()
def tw8098732031729864514:=()
def tw17755641105713053097:=()
def tw7537380829971914541:=()
def tw13752419337376506941:=()
def tw5446454454406601191:=()
def tw14153608096508962774:=()
def tw10076672450443351284:=()
def tw6509749932991884776:=()
def tw13536962418688650868:=()
def tw15644097284939748789:=()
def tw6412041758803138395:=()
def tw5783207729444426662:=()
def tw16809197412490252991:=()
def tw5775141149744799942:=()
def tw5103786804256722317:=()
def tw18422731359075454530:=()
def tw6096683201168706135:=()
def tw3016229782643846330:=()
def tw17480568015842057276:=()
def tw6179267025239563185:=()
def tw13525298594995547403:=()
def tw16511086778359973078:=()
def tw7168708319359516508:=()
def tw1817851620458954429:=()
def tw145611729660343851:=()
def tw982307255092320330:=()
def tw255710063540709660:=()
def tw16283029122255360643:=()
def tw13390698533706474046:=()
def tw12199722832640241556:=()
def tw13579865966532295316:=()
def tw9178557960933350613:=()
def tw4305892456793962446:=()
def tw12015943705802749270:=()
def tw6787341311349041944:=()
def tw12800737614324619211:=()
def tw4437999790400162536:=()
def tw14887981196291626343:=()
def tw5436744055930422146:=()
def tw7011665415855984024:=()
def tw16209812822886368709:=()
def tw2849030209304357456:=()
def tw15267630590066639782:=()
def tw14342538350871929244:=()
def tw79126149805495682:=()
def tw12222049397860021095:=()
def tw13661481182013227124:=()
def tw3202133500582906597:=()
def tw16150595949187793947:=()
def tw6924825454528369722:=()
def tw8077202175120825509:=()
def tw1774301412220637473:=()
def tw17553334404074307851:=()
def tw10253925804976353830:=()
def tw7221830156896981677:=()
def tw12775707490142574714:=()
def tw13598493583334803703:=()
def tw4783564931068100259:=()
def tw2235348569454414536:=()
def tw11005536858929517437:=()
def tw6176353090013476854:=()
def tw9555512100116986758:=()
def tw4331333055837958832:=()
def tw15372304253927653757:=()
def tw284471205536770089:=()
def tw3678095313844612190:=()
def tw6353995820041392038:=()
def tw2122949321835381579:=()
def tw18197861866060219790:=()
def tw12113136601904961771:=()
def tw13564373046151153842:=()
def tw8751683501482899347:=()
def tw10094033020006209459:=()
def tw359526809286541164:=()
def tw2931353664788142332:=()
def tw5395623500404734528:=()
def tw13293240745994744851:=()
def tw18287601083840485318:=()
def tw18117281360695461645:=()
def tw9939515872704662085:=()
def tw4722121809560749451:=()
def tw15478629214095361206:=()
def tw2396494653777774394:=()
def tw17848689418704403291:=()
def tw14986658725356771910:=()
def tw3014396627932993931:=()
def tw17592858094472022028:=()
def tw7649423253392630086:=()
def tw2642705663169722231:=()
def tw831915990674383770:=()
def tw6135225196835990547:=()
def tw1604783538643817602:=()
def tw2138602119173447328:=()
def tw11808142817220568823:=()
def tw2684322801111374432:=()
def tw18310956999273193304:=()
def tw10603976239283400736:=()
def tw6010049522417496527:=()
def tw2903210392864653769:=()
def tw1769507708590921553:=()
def tw16847576693924432147:=()
def tw31679774581807547:=()
def tw13013525396743734263:=()
def tw3625361362466468604:=()
def tw244440447173311106:=()
def tw4241053071253400523:=()
def tw14666138958356971722:=()
def tw3365171950191957051:=()
def tw4120655319766057142:=()
def tw3448405629576457507:=()
def tw3529493561056721658:=()
def tw8590369948724460863:=()
def tw14464942132315261018:=()
def tw11069354721192441659:=()
def tw17397378902593674486:=()
def tw17391705342692375366:=()
def tw15499673032415341803:=()
def tw12572487303034737078:=()
def tw9299607096022815370:=()
def tw12097373492048626696:=()
def tw10698433007843274058:=()
def tw8662992326159519027:=()
def tw5637599181046412932:=()
def tw2783507540246511336:=()
def tw13322043537869969362:=()
def tw5517178061515972342:=()
def tw7164729986782349267:=()
def tw8666112320389656772:=()
def tw16876437631602521080:=()
def tw11437964412704430694:=()
def tw5136881512043526428:=()
def tw3497821344237006621:=()
def tw6630553397020724245:=()
def tw10292574561717424821:=()
def tw6689028510825130813:=()
def tw10579317893193792885:=()
def tw540812249516260690:=()
def tw12019005903635445487:=()
def tw3177268436984824171:=()
def tw14259811417573831861:=()
def tw4778245056846221395:=()
def tw3209773524115059560:=()
def tw247879152347029619:=()
def tw5476000510123787747:=()
def tw4381651203601422523:=()
def tw16330858455859207659:=()
def tw4373620375299222099:=()
def tw3177217710913035926:=()
def tw11038796587809785076:=()
end PySem.W.Fast
open PySem PySem.W PyProof.Rows
set_option maxRecDepth 100000 in
set_option maxHeartbeats 0 in
theorem PySem.Challenge.cw_yesorno_k05_whole_read_holds : PySem.Challenge.rw_yesorno_k05_whole_read.Holds := by
 w_on;o_law;k_head;(case hw=>w_witness2)
 k_fill
 refine K05.walk (l:=PySem.Challenge.rw_yesorno_k05_whole_read) rfl rfl (fun w h Y=>W.kIn_of Y) ?F
 case F =>
  intro w mg fa h KX G hmg
  refine' K05.all_mk KX G hmg ?aC ?aN ?aT ?aP ?aM ?aU ?y1 ?y2 ?y3 ?y4 ?y5 ?y6 ?y7 ?y8 ?y9 ?y10 ?y11 ?y12 ?y13 ?y14 ?y15 ?y16 ?y17 ?y18 ?y19 ?y20 ?y21 ?y22 ?y23 ?y24 ?y25 ?y26 ?y27 ?y28 ?y29 ?y30 ?y31 ?y32 ?y33 ?y34 ?y35 ?y36 ?y37 ?y38 ?y39 ?y40 ?y41 ?y42 ?y43 ?y44 ?y45 ?y46 ?y47 ?y48 ?y49 ?s1 ?s2 ?s3 ?s4 ?s5 ?s6 ?s7 ?s8 ?s9 ?z_len ?z_all ?z_range ?z_isinstance ?z_bool ?z_tuple ?z_abs ?z_sum ?pg ?hd ?po ?sa ?mk ?kc ?nT ?nA ?nR ?xN ?xT ?xP ?xM ?g1 ?zg ?zd ?zo ?zs ?zm ?zk ?zp ?zt
  (case aC=>k_is)
  (case aN=>k_is)
  (case aT=>k_is)
  (case aP=>k_is)
  (case aM=>k_is)
  (case aU=>k_is)
  (case y1=>exact L2.ft_in (by k_is) (by k_is) (by k_is) (by k_is))
  (case y2=>exact L2.ft_in (by k_is) (by k_is) (by k_is) (by k_is))
  (case y3=>exact L2.ft_in (by k_is) (by k_is) (by k_is) (by k_is))
  (case y4=>exact L2.ft_in (by k_is) (by k_is) (by k_is) (by k_is))
  (case y5=>exact L2.ft_in (by k_is) (by k_is) (by k_is) (by k_is))
  (case y6=>exact L2.ft_in (by k_is) (by k_is) (by k_is) (by k_is))
  (case y7=>exact L2.ft_in (by k_is) (by k_is) (by k_is) (by k_is))
  (case y8=>exact L2.ft_in (by k_is) (by k_is) (by k_is) (by k_is))
  (case y9=>exact L2.ft_in (by k_is) (by k_is) (by k_is) (by k_is))
  (case y10=>exact L2.ft_in (by k_is) (by k_is) (by k_is) (by k_is))
  (case y11=>exact L2.ft_in (by k_is) (by k_is) (by k_is) (by k_is))
  (case y12=>exact L2.ft_in (by k_is) (by k_is) (by k_is) (by k_is))
  (case y13=>exact L2.ft_in (by k_is) (by k_is) (by k_is) (by k_is))
  (case y14=>exact L2.ft_in (by k_is) (by k_is) (by k_is) (by k_is))
  (case y15=>exact L2.ft_in (by k_is) (by k_is) (by k_is) (by k_is))
  (case y16=>exact L2.ft_in (by k_is) (by k_is) (by k_is) (by k_is))
  (case y17=>exact L2.ft_in (by k_is) (by k_is) (by k_is) (by k_is))
  (case y18=>exact L2.ft_in (by k_is) (by k_is) (by k_is) (by k_is))
  (case y19=>exact L2.ft_in (by k_is) (by k_is) (by k_is) (by k_is))
  (case y20=>exact L2.ft_in (by k_is) (by k_is) (by k_is) (by k_is))
  (case y21=>exact L2.ft_in (by k_is) (by k_is) (by k_is) (by k_is))
  (case y22=>exact L2.ft_in (by k_is) (by k_is) (by k_is) (by k_is))
  (case y23=>exact L2.ft_in (by k_is) (by k_is) (by k_is) (by k_is))
  (case y24=>exact L2.ft_in (by k_is) (by k_is) (by k_is) (by k_is))
  (case y25=>exact L2.ft_in (by k_is) (by k_is) (by k_is) (by k_is))
  (case y26=>exact L2.ft_in (by k_is) (by k_is) (by k_is) (by k_is))
  (case y27=>exact L2.ft_in (by k_is) (by k_is) (by k_is) (by k_is))
  (case y28=>exact L2.ft_in (by k_is) (by k_is) (by k_is) (by k_is))
  (case y29=>exact L2.ft_in (by k_is) (by k_is) (by k_is) (by k_is))
  (case y30=>exact L2.ft_in (by k_is) (by k_is) (by k_is) (by k_is))
  (case y31=>exact L2.ft_in (by k_is) (by k_is) (by k_is) (by k_is))
  (case y32=>exact L2.ft_in (by k_is) (by k_is) (by k_is) (by k_is))
  (case y33=>exact L2.ft_in (by k_is) (by k_is) (by k_is) (by k_is))
  (case y34=>exact L2.ft_in (by k_is) (by k_is) (by k_is) (by k_is))
  (case y35=>exact L2.ft_in (by k_is) (by k_is) (by k_is) (by k_is))
  (case y36=>exact L2.ft_in (by k_is) (by k_is) (by k_is) (by k_is))
  (case y37=>exact L2.fm_in (by k_is) (by k_is) (by k_is) (by k_is) (by k_is))
  (case y38=>exact L2.fm_in (by k_is) (by k_is) (by k_is) (by k_is) (by k_is))
  (case y39=>exact L2.fm_in (by k_is) (by k_is) (by k_is) (by k_is) (by k_is))
  (case y40=>exact L2.fm_in (by k_is) (by k_is) (by k_is) (by k_is) (by k_is))
  (case y41=>exact L2.fm_in (by k_is) (by k_is) (by k_is) (by k_is) (by k_is))
  (case y42=>exact L2.fm_in (by k_is) (by k_is) (by k_is) (by k_is) (by k_is))
  (case y43=>exact L2.fm_in (by k_is) (by k_is) (by k_is) (by k_is) (by k_is))
  (case y44=>exact L2.fm_in (by k_is) (by k_is) (by k_is) (by k_is) (by k_is))
  (case y45=>exact L2.fm_in (by k_is) (by k_is) (by k_is) (by k_is) (by k_is))
  (case y46=>exact L2.fm_in (by k_is) (by k_is) (by k_is) (by k_is) (by k_is))
  (case y47=>exact L2.fm_in (by k_is) (by k_is) (by k_is) (by k_is) (by k_is))
  (case y48=>exact L2.fm_in (by k_is) (by k_is) (by k_is) (by k_is) (by k_is))
  (case y49=>exact L2.fm_in (by k_is) (by k_is) (by k_is) (by k_is) (by k_is))
  (case s1=>k_is)
  (case s2=>k_is)
  (case s3=>k_is)
  (case s4=>k_is)
  (case s5=>k_is)
  (case s6=>k_is)
  (case s7=>k_is)
  (case s8=>k_is)
  (case s9=>k_is)
  (case z_len=>k_is)
  (case z_all=>k_is)
  (case z_range=>k_is)
  (case z_isinstance=>k_is)
  (case z_bool=>k_is)
  (case z_tuple=>k_is)
  (case z_abs=>k_is)
  (case z_sum=>k_is)
  (case pg=>k_is)
  (case hd=>k_is)
  (case po=>k_is)
  (case sa=>k_is)
  (case mk=>k_is)
  (case kc=>k_is)
  (case nT=>k_is)
  (case nA=>k_is)
  (case nR=>k_is)
  (case xN=>k_exc)
  (case xT=>k_exc)
  (case xP=>k_exc)
  (case xM=>k_exc)
  (case g1=>k_is)
  (case zg=>k_is)
  (case zd=>k_is)
  (case zo=>k_is)
  (case zs=>k_is)
  (case zm=>k_is)
  (case zk=>k_is)
  (case zp=>k_is)
  (case zt=>k_is)
