import PyProof.Rows.All
import Wide.All
import OpenK.AllK
import Wide.FinOn
import PyProof.EqAt
import PyProof.EqKinds
import PyProof.TupleCall
import KE.BitLaws
import Open.SpecLaws
import KE.OsHead
import KE.OsGo
import KE.KLam
import KE.KDictList
import KE.KDictLaws
import PySem.Challenge.RW_locklevels_s01_answers
set_option Elab.async false
set_option linter.all false
set_option maxRecDepth 100000
set_option maxHeartbeats 8000000
local macro_rules|`(tactic|rfl')=>`(tactic|decide +kernel)
namespace L2
open PySem PySem.Spec PyProof.Rows
abbrev d9:=Sum Int Str
def O7:d9→Value→Bool
 | .inl k,v=>Value.isInt k v
 | .inr x,v=>Value.isStrOf x v
def tJ (w:World):d9→Int
 | .inl k=>hashInt k
 | .inr x=>hashStr w x
theorem K7:∀{k:d9} {v:Value},O7 k v=true→(∃i t,k=Sum.inl i∧v=Value.int i t)∨(∃x t,k=Sum.inr x∧v=Value.str x t)
 | .inl i,v,h=>by
  obtain ⟨t,e⟩:=Value.isInt_shape (k:=i) (v:=v) h
  exact .inl ⟨i,t,rfl,e⟩
 | .inr x,v,h=>by
  obtain ⟨t,e⟩:=Value.isStrOf_shape (x:=x) (v:=v) h
  exact .inr ⟨x,t,rfl,e⟩
theorem DJ (i:Int) (t:Tok):O7 (.inl i) (.int i t)=true:=by simp [O7,Value.isInt]
theorem AN (x:Str) (t:Tok):O7 (.inr x) (.str x t)=true:=by simp [O7,Value.isStrOf]
theorem Aa (a b:Int):decide ((Sum.inl a:d9)=Sum.inl b)=(a==b):=by
 by_cases e:a=b
 ·subst e;simp
 ·have h:¬(Sum.inl a:d9)=Sum.inl b:=fun q=>e (Sum.inl.inj q)
  rw [decide_eq_false h]
  exact (beq_eq_false_iff_ne.mpr e).symm
theorem wV (a b:Str):decide ((Sum.inr a:d9)=Sum.inr b)=decide (a=b):=by
 by_cases e:a=b
 ·subst e;simp
 ·have h:¬(Sum.inr a:d9)=Sum.inr b:=fun q=>e (Sum.inr.inj q)
  rw [decide_eq_false h,decide_eq_false e]
theorem Eb (a:Int) (b:Str):decide ((Sum.inl a:d9)=Sum.inr b)=false:=decide_eq_false (fun q=>nomatch q)
theorem yR (a:Str) (b:Int):decide ((Sum.inr a:d9)=Sum.inl b)=false:=decide_eq_false (fun q=>nomatch q)
def p6 (prog:Program) (w:World):PySem.KeyKind prog w d9 where
 is:=O7
 hash:=tJ w
 inj:=fun v a b ha hb=>by
  rcases K7 ha with ⟨i,t,rfl,rfl⟩|⟨x,t,rfl,rfl⟩
  ·rcases K7 hb with ⟨j,u,rfl,e⟩|⟨y,u,rfl,e⟩
   ·injection e with e1 _;rw [e1]
   ·exact nomatch e
  ·rcases K7 hb with ⟨j,u,rfl,e⟩|⟨y,u,rfl,e⟩
   ·exact nomatch e
   ·injection e with e1 _;rw [e1]
 byValue:=fun k v h=>by
  rcases K7 h with ⟨i,t,rfl,rfl⟩|⟨x,t,rfl,rfl⟩<;>rfl
 pyHash:=fun hv h=>by
  rcases K7 hv with ⟨i,t,rfl,rfl⟩|⟨x,t,rfl,rfl⟩
  ·exact wpAny_pyHash_int h
  ·exact wpAny_pyHash_str h
 eqBool:=fun hu hv h=>by
  rcases K7 hu with ⟨i,t,rfl,rfl⟩|⟨x,t,rfl,rfl⟩
  ·rcases K7 hv with ⟨j,u,rfl,rfl⟩|⟨y,u,rfl,rfl⟩
   ·rw [Aa] at h;exact wpAny_eqBool_int h
   ·rw [Eb] at h;exact SeqAt.EqAt.int_str i t y u _ _ _ _ h
  ·rcases K7 hv with ⟨j,u,rfl,rfl⟩|⟨y,u,rfl,rfl⟩
   ·rw [yR] at h;exact SeqAt.EqAt.str_int x t j u _ _ _ _ h
   ·rw [wV] at h;exact wpAny_eqBool_str h
 «strs»:=fun k x t v h=>by
  rcases K7 h with ⟨i,u,rfl,e⟩|⟨y,u,rfl,e⟩
  ·exact nomatch e
  ·injection e with e1 _
   subst e1
   cases v<;>rfl
theorem gK (prog:Program) (w:World) (i:Int) (t:Tok):(p6 prog w).is (.inl i) (.int i t)=true:=DJ i t
theorem Ay (prog:Program) (w:World) (x:Str) (t:Tok):(p6 prog w).is (.inr x) (.str x t)=true:=AN x t
inductive V where
 | non|bl (b:Bool)|int (i:Int)|str (x:Str)|byt (b:Array UInt8)|flt (b:UInt64)|ref (a:Addr)|ty (n:String)
 deriving DecidableEq
def RelV:V→Value→Prop
 | .non,u=>u=Value.none
 | .bl b,u=>u=Value.bool b
 | .int i,u=>∃t,u=Value.int i t
 | .str x,u=>∃t,u=Value.str x t
 | .byt b,u=>∃t,u=Value.bytes b t
 | .flt b,u=>∃t,u=Value.float b t
 | .ref a,u=>u=Value.ref a
 | .ty n,u=>u=Value.type n
abbrev Vals:List V→List Value→Prop:=Paired RelV
theorem Vals.length {xs:List V} {us:List Value} (r:Vals xs us):xs.length=us.length:=Paired.length r
theorem Vals.get:∀{xs:List V} {us:List Value} {i:Nat} {x:V},Vals xs us→xs[i]?=some x→∃u,us[i]?=some u∧RelV x u
 | _,_,_,_,.nil,e=>by simp at e
 | _,_,0,_,.cons r _,e=>by simp at e;subst e;exact ⟨_,rfl,r⟩
 | _,_,i+1,x,.cons _ t,e=>by
  obtain ⟨u,h1,h2⟩:=Vals.get (i:=i) (x:=x) t (by simpa using e)
  exact ⟨u,by simpa using h1,h2⟩
theorem Vals.set {x:V} {u:Value} (r:RelV x u):∀{xs:List V} {us:List Value} (i:Nat),Vals xs us→Vals (xs.set i x) (us.set i u)
 | _,_,_,.nil=>.nil
 | _,_,0,.cons _ t=>.cons r t
 | _,_,i+1,.cons q t=>.cons q (Vals.set r i t)
theorem Vals.append:∀{xs ys:List V} {us ws:List Value},Vals xs us→Vals ys ws→Vals (xs++ys) (us++ws)
 | _,_,_,_,.nil,s=>s
 | _,_,_,_,.cons r t,s=>.cons r (Vals.append t s)
theorem Vals.take:∀{xs:List V} {us:List Value} (n:Nat),Vals xs us→Vals (xs.take n) (us.take n)
 | _,_,0,_=>.nil
 | _,_,_+1,.nil=>.nil
 | _,_,n+1,.cons r t=>.cons r (Vals.take n t)
theorem Vals.drop:∀{xs:List V} {us:List Value} (n:Nat),Vals xs us→Vals (xs.drop n) (us.drop n)
 | _,_,0,r=>r
 | _,_,_+1,.nil=>.nil
 | _,_,n+1,.cons _ t=>Vals.drop n t
def RelO:Option V→Option Value→Prop
 | some v,some u=>RelV v u
 | none,none=>True
 | _,_=>False
def KV {κ:Type}:List (κ×V)→List (κ×Value)→Prop:=Paired fun (p:κ×V) (q:κ×Value)=>p.1=q.1∧RelV p.2 q.2
def kV:d9→V
 | .inl i=>.int i
 | .inr x=>.str x
inductive HO where
 | lst (xs:List V)
 | tup (xs:List V)
 | dK (kvs:List (d9×V))|dT (kvs:List (List d9×V))
 | set (S:Int→Bool) (n:Nat)
 | ins (C dx:Addr) (fs:List (Str×V))
 | own (x:Addr)
 | xd (fs:List (Str×V))
 | met (f x:Addr)
 | rng (lo hi:Int)
 | frz (o:Obj) (u:HO)
 | tbl (ps:Array Value)
 | ext (φ:Heap→Prop)
abbrev Hp:=Addr→Option HO
def a8 (H:Hp) (a:Addr) (o:HO):Hp:=fun b=>if b=a then some o else H b
theorem c8 {H:Hp} {a:Addr} {o:HO}:a8 H a o a=some o:=by unfold a8;rw [if_pos rfl]
theorem a9 {H:Hp} {a b:Addr} {o:HO} (h:b≠a):a8 H a o b=H b:=by unfold a8;rw [if_neg h]
theorem N5 {H:Hp} {a:Addr} {o u:HO}:a8 (a8 H a o) a u=a8 H a u:=by
 funext b;unfold a8;split<;>rfl
theorem f8 {H:Hp} {a b:Addr} {o u:HO} (h:H a=some o) (h':H b=some u) (d:o≠u):a≠b:=by
 intro e;subst e;rw [h] at h';exact d (Option.some.inj h')
theorem d8 {H:Hp} {a b:Addr} {o:HO} (h:H a=some o) (h':H b=none):a≠b:=by
 intro e;subst e;rw [h] at h';cases h'
section
variable (P:Program) (w:World)
def ObjOk (H:Hp) (h:Heap) (a:Addr):HO→Prop
 | .lst xs=>xs.length≤sizeLine∧∃(its:List Value) (n:Nat),Vals xs its∧h.get? a=some { cls:=.type "list",data:=.seq its.toArray n }
 | .tup xs=>xs.length≤sizeLine∧∃its:List Value,Vals xs its∧IsTup h a its.toArray
 | .dK kvs=>kvs.length≤sizeLine∧(a==sysModules)=false∧∃vs,KV kvs vs∧h.DictOf (p6 P w) a vs
 | .dT kvs=>kvs.length≤sizeLine∧(a==sysModules)=false∧∃xs:List (List d9×Addr×Value),
   Paired (fun (p:List d9×V) (q:List d9×Addr×Value)=>p.1=q.1∧H q.2.1=some (.tup (p.1.map kV))∧RelV p.2 q.2.2) kvs xs∧
   ∃o es ep,h.get? a=some o∧o.ExactDict∧o.data=.dict es ep∧es.toList=xs.map (entryOfKey (tupleKind (p6 P w)))∧(xs.map (·.1)).Nodup
 | .set S n=>h.SetOf (intKind P w) a S n
 | .ins C dx fs=>H dx=some (.own a)∧fs.length≤1000∧dx≠a∧h.get? a=some (PySem.W.instObj C dx)∧
   ∃mA,h.Ns1 dx mA∧(∀f,RelO (fs.lookup f) (mA f))∧PySem.Within mA (fs.map (·.1))
 | .own _=>∃o,h.get? a=some o
 | .xd fs=>∃mA,h.Ns1 a mA∧∀f,RelO (fs.lookup f) (mA f)
 | .rng lo hi=>∃t u v,h.get? a=some { cls:=.type "range",data:=.fields #[.int lo t,.int hi u,.int 1 v] }
 | .frz o u=>h.get? a=some o∧ObjOk H h a u
 | .tbl ps=>h.get? a=some { cls:=.none,data:=.fields ps }
 | .met f x=>h.get? a=some (PySem.W.methodObj (.ref f) (.ref x))
 | .ext φ=>φ h∧(∃o,h.get? a=some o)∧∀h1 h2:Heap,φ h1→(∀o,h1.get? a=some o→h2.get? a=some o)→φ h2
def HOk (H:Hp) (h:Heap):Prop:=∀a o,H a=some o→ObjOk P w H h a o
end
section
variable {P:Program} {w:World} {H H':Hp} {h h':Heap} {a:Addr} {o:HO}
theorem ObjOk.lt (x:ObjOk P w H h a o):a < h.objs.size:=by
 cases o with
 | lst xs=>obtain ⟨_,_,_,_,e⟩:=x;exact Heap.lt_size e
 | tup xs=>obtain ⟨_,_,_,p⟩:=x;exact p.lt
 | dK kvs=>obtain ⟨_,_,_,_,o,_,_,e,_⟩:=x;exact Heap.lt_size e
 | dT kvs=>obtain ⟨_,_,_,_,o,_,_,e,_⟩:=x;exact Heap.lt_size e
 | set S n=>obtain ⟨o,_,_,_,e,_⟩:=x;exact Heap.lt_size e
 | ins C dx fs=>obtain ⟨_,_,_,e,_⟩:=x;exact Heap.lt_size e
 | own y=>obtain ⟨_,e⟩:=x;exact Heap.lt_size e
 | xd fs=>obtain ⟨_,⟨_,_,_,e,_⟩,_⟩:=x;exact Heap.lt_size e
 | rng lo hi=>obtain ⟨_,_,_,e⟩:=x;exact Heap.lt_size e
 | frz ob u=>obtain ⟨e,_⟩:=x;exact Heap.lt_size e
 | tbl ps=>exact Heap.lt_size (show h.get? a=some _ from x)
 | met f y=>exact Heap.lt_size (show h.get? a=some _ from x)
 | ext φ=>obtain ⟨_,⟨_,e⟩,_⟩:=x;exact Heap.lt_size e
theorem Paired.mapP {α β:Type} {F G:α→β→Prop}:∀{l₁:List α} {l₂:List β},Paired F l₁ l₂→(∀a b,F a b→G a b)→Paired G l₁ l₂
 | _,_,.nil,_=>.nil
 | _,_,.cons r t,f=>.cons (f _ _ r) (Paired.mapP t f)
theorem ObjOk.stay (x:ObjOk P w H h a o) (k:∀b u,(b=a∨H b=some (.own a))→h.get? b=some u→h'.get? b=some u)
  (ho:∀b,H b=some (.own a)→H' b=some (.own a)) (ht:∀b xs,H b=some (.tup xs)→H' b=some (.tup xs)):ObjOk P w H' h' a o:=by
 induction o with
 | lst xs=>obtain ⟨z,its,n,r,e⟩:=x;exact ⟨z,its,n,r,k _ _ (.inl rfl) e⟩
 | tup xs=>obtain ⟨z,its,r,ob,e,c⟩:=x;exact ⟨z,its,r,ob,k _ _ (.inl rfl) e,c⟩
 | dK kvs=>obtain ⟨z,y,vs,r,ob,es,ep,e,c⟩:=x;exact ⟨z,y,vs,r,ob,es,ep,k _ _ (.inl rfl) e,c⟩
 | dT kvs=>
  obtain ⟨z,y,xs,r,ob,es,ep,e,c⟩:=x
  exact ⟨z,y,xs,Paired.mapP r fun p q z=>⟨z.1,ht _ _ z.2.1,z.2.2⟩,ob,es,ep,k _ _ (.inl rfl) e,c⟩
 | set S n=>obtain ⟨ob,es,ep,t,e,c⟩:=x;exact ⟨ob,es,ep,t,k _ _ (.inl rfl) e,c⟩
 | ins C dx fs=>
  obtain ⟨d,z,ne,e,mA,⟨od,es,ep,e2,c⟩,r⟩:=x
  exact ⟨ho _ d,z,ne,k _ _ (.inl rfl) e,mA,⟨od,es,ep,k _ _ (.inr d) e2,c⟩,r⟩
 | own y=>obtain ⟨ob,e⟩:=x;exact ⟨ob,k _ _ (.inl rfl) e⟩
 | xd fs=>obtain ⟨mA,⟨od,es,ep,e,c⟩,r⟩:=x;exact ⟨mA,⟨od,es,ep,k _ _ (.inl rfl) e,c⟩,r⟩
 | rng lo hi=>obtain ⟨t,u,v,e⟩:=x;exact ⟨t,u,v,k _ _ (.inl rfl) e⟩
 | frz ob u ih=>obtain ⟨e,q⟩:=x;exact ⟨k _ _ (.inl rfl) e,ih q⟩
 | tbl ps=>
  have e:h.get? a=some { cls:=.none,data:=.fields ps }:=x
  show h'.get? a=some { cls:=.none,data:=.fields ps }
  exact k a _ (.inl rfl) e
 | met f y=>
  have e:h.get? a=some (PySem.W.methodObj (.ref f) (.ref y)):=x
  show h'.get? a=some (PySem.W.methodObj (.ref f) (.ref y))
  exact k a _ (.inl rfl) e
 | ext φ=>obtain ⟨p,⟨o,e⟩,st⟩:=x;exact ⟨st _ _ p fun o q=>k _ _ (.inl rfl) q,⟨o,k _ _ (.inl rfl) e⟩,st⟩
theorem HOk.lt (x:HOk P w H h) (e:H a=some o):a < h.objs.size:=(x a o e).lt
theorem HOk.fresh (x:HOk P w H h) (e:h.objs.size≤a):H a=none:=by
 cases q:H a with
 | none=>rfl
 | some u=>exact absurd (Nat.lt_of_lt_of_le (x.lt q) e) (Nat.lt_irrefl _)
theorem HOk.kept (x:HOk P w H h) (k:∀b u,h.get? b=some u→h'.get? b=some u):HOk P w H h':=fun a o e=>
 (x a o e).stay (fun b u _ q=>k b u q) (fun _ q=>q) fun _ _ q=>q
theorem HOk.laid (x:HOk P w H h) (k:∀b u,h.get? b=some u→h'.get? b=some u) (hp:h.objs.size≤a) (new:ObjOk P w (a8 H a o) h' a o):HOk P w (a8 H a o) h':=fun b u e=>by
 have hn:=x.fresh hp
 by_cases hb:b=a
 ·subst hb;rw [c8] at e;cases e;exact new
 ·rw [a9 hb] at e
  exact (x b u e).stay (fun c v _ q=>k c v q) (fun c q=>by rw [a9 (d8 q hn)];exact q) fun c xs q=>by rw [a9 (d8 q hn)];exact q
end
def Rd (H:Hp) (a:Addr) (u:HO):Prop:=H a=some u∨∃o,H a=some (.frz o u)
theorem Rd.ok {P:Program} {w:World} {H:Hp} {h:Heap} {a:Addr} {u:HO} (r:Rd H a u) (x:HOk P w H h):ObjOk P w H h a u:=by
 rcases r with r|⟨o,r⟩
 ·exact x a u r
 ·obtain ⟨_,q⟩:=x a _ r
  exact q
def O5:Option HO→Prop
 | some (.lst _)=>True
 | some (.dK _)=>True
 | some (.dT _)=>True
 | some (.set _ _)=>True
 | some (.ins _ _ _)=>True
 | some (.ext _)=>True
 | _=>False
section
variable {P:Program} {w:World} {H:Hp} {h h':Heap} {x e:Addr} {o':HO}
theorem HOk.write (ok:HOk P w H h) (mu:O5 (H x)) (he:e=x∨H e=some (.own x)) (k:∀b u,b≠e→h.get? b=some u→h'.get? b=some u) (heo:∃u,h'.get? e=some u)
  (new:ObjOk P w (a8 H x o') h' x o'):HOk P w (a8 H x o') h':=fun b u q=>by
 have nown:∀c y,H c=some (.own y)→c≠x:=fun c y r z=>by subst z;rw [r] at mu;exact mu
 have ntup:∀c xs,H c=some (.tup xs)→c≠x:=fun c xs r z=>by subst z;rw [r] at mu;exact mu
 by_cases hb:b=x
 ·subst hb;rw [c8] at q;cases q;exact new
 ·rw [a9 hb] at q
  by_cases hbe:b=e
  ·have q':H b=some (.own x):=by
    rcases he with z|z
    ·exact absurd (hbe.trans z) hb
    ·rw [hbe];exact z
   rw [q] at q';cases q'
   obtain ⟨v,hv⟩:=heo
   exact ⟨v,by rw [hbe];exact hv⟩
  ·refine (ok b u q).stay (fun c v hc r=>k c v ?_ r) (fun c r=>by rw [a9 (nown c b r)];exact r) fun c xs r=>by rw [a9 (ntup c xs r)];exact r
   rcases hc with rfl|hc
   ·exact hbe
   ·rintro rfl
    rcases he with z|z
    ·exact nown c b hc z
    ·rw [hc] at z;cases z;exact hb rfl
end
structure Un (fs ex:List Addr) (H H':Hp) (h h':Heap):Prop where
 keep:∀b o,h.get? b=some o→H b=none→b∉fs→b∉ex→h'.get? b=some o
 slot:∀b o,h.get? b=some o→H b=none→b∈fs→b∉ex→∃sl,h'.get? b=some { o with slots:=sl }
 free:∀b o,h.get? b=some o→H b=none→b∉ex→H' b=none
 there:∀b o,h.get? b=some o→b∉ex→∃o',h'.get? b=some o'
 tups:∀b xs,H b=some (.tup xs)→H' b=some (.tup xs)
 frzs:∀b o u,H b=some (.frz o u)→H' b=some (.frz o u)
 tbls:∀b ps,H b=some (.tbl ps)→∃more,H' b=some (.tbl (ps++more))
section
variable {fs fs' ex ex':List Addr} {H H1 H2:Hp} {h h1 h2 h':Heap} {a x e:Addr} {o:HO}
theorem Un.any (u:Un fs ex H H1 h h1) {b:Addr} {ob:Obj} (q:h.get? b=some ob) (n:H b=none) (hx:b∉ex):∃sl,h1.get? b=some { ob with slots:=sl }:=by
 by_cases hb:b∈fs
 ·exact u.slot b ob q n hb hx
 ·exact ⟨ob.slots,u.keep b ob q n hb hx⟩
theorem Un.kept (k:∀b u,h.get? b=some u→h'.get? b=some u):Un fs ex H H h h':=
 ⟨fun b ob q _ _ _=>k b ob q,fun b ob q _ _ _=>⟨ob.slots,k b ob q⟩,fun _ _ _ n _=>n,fun b ob q _=>⟨ob,k b ob q⟩,fun _ _ q=>q,fun _ _ _ q=>q,fun _ ps q=>⟨#[],by rw [q];simp⟩⟩
theorem Un.refl:Un fs ex H H h h:=Un.kept fun _ _ q=>q
theorem Un.laid (k:∀b u,h.get? b=some u→h'.get? b=some u) (hp:h.objs.size≤a) (hn:H a=none):Un fs ex H (a8 H a o) h h' where
 keep:=fun b u q _ _ _=>k b u q
 slot:=fun b u q _ _ _=>⟨u.slots,k b u q⟩
 free:=fun b u q n _=>by rw [a9 (Nat.ne_of_lt (Nat.lt_of_lt_of_le (Heap.lt_size q) hp))];exact n
 there:=fun b u q _=>⟨u,k b u q⟩
 tups:=fun b xs q=>by rw [a9 (d8 q hn)];exact q
 frzs:=fun b u xs q=>by rw [a9 (d8 q hn)];exact q
 tbls:=fun b ps q=>⟨#[],by rw [a9 (d8 q hn),q];simp⟩
theorem Un.write (mu:O5 (H x)) (he:e=x∨H e=some (.own x)) (k:∀b u,b≠e→h.get? b=some u→h'.get? b=some u) (heo:∃u,h'.get? e=some u):Un fs ex H (a8 H x o) h h':=by
 have hx:∀b,H b=none→b≠x:=fun b n z=>by subst z;rw [n] at mu;exact mu
 have hb:∀b,H b=none→b≠e:=fun b n z=>by
  subst z
  rcases he with r|r
  ·exact hx b n r
  ·rw [n] at r;cases r
 have hm:∀b u,H b=some u→¬O5 (some u)→b≠x:=fun b u q nm z=>by subst z;rw [q] at mu;exact nm mu
 refine ⟨fun b u q n _ _=>k b u (hb b n) q,fun b u q n _ _=>⟨u.slots,k b u (hb b n) q⟩,fun b u q n _=>by rw [a9 (hx b n)];exact n,fun b u q _=>?_,
  fun b xs q=>by rw [a9 (hm b _ q fun z=>z)];exact q,fun b u xs q=>by rw [a9 (hm b _ q fun z=>z)];exact q,fun b ps q=>⟨#[],by rw [a9 (hm b _ q fun z=>z),q];simp⟩⟩
 by_cases hbe:b=e
 ·subst hbe;exact heo
 ·exact ⟨u,k b u hbe q⟩
end
def aT (h:Heap) (H:Hp):List Addr:=(List.range h.objs.size).filter fun a=>(H a).isSome
def L4 (h:Heap) (H:Hp):Heap:=PySem.W.hideAll h (aT h H)
theorem DC (h:Heap) (H:Hp):(L4 h H).objs.size=h.objs.size:=PySem.W.hideAll_size _ _
theorem wC {h:Heap} {H:Hp} {b:Addr} {o:Obj} (e:h.get? b=some o) (n:H b=none):(L4 h H).get? b=some o:=
 PySem.W.hideAll_get _ e fun hm=>by
  have q:(H b).isSome=true:=(List.mem_filter.mp hm).2
  rw [n] at q;simp at q
theorem zK {h:Heap} {H:Hp} {b:Addr} {o:Obj} (e:(L4 h H).get? b=some o):h.get? b=some o∧H b=none:=by
 have e':h.get? b=some o:=PySem.W.of_hideAll (aT h H) e
 refine ⟨e',?_⟩
 cases q:H b with
 | none=>rfl
 | some x=>
  have hm:b∈aT h H:=List.mem_filter.mpr ⟨List.mem_range.mpr (Heap.lt_size e'),by simp [q]⟩
  have z:(L4 h H).get? b=none:=PySem.W.hideAll_none (aT h H) hm
  rw [z] at e;cases e
structure Mod (K:PySem.W.Frag) (mg:Str→Option Value) (base:Heap):Prop where
 kin:K.In base
 glob:base.Ns mainGlobals mg
 blt:∃mb,base.Ns builtinsNs mb∧∀x:Str,x≠"__name__"→mb x=bootBuiltins x
 nolimit:base.NoLimit
structure Cx where
 prog:Program
 w:World
 K:PySem.W.Frag
 mg:Str→Option Value
 base:Heap
 A:Around
 N:List Str
 s_0:Shared
 H_0:Hp
 env:Env
 outer:List Env
 stack:List Env
 ex:List Addr
 fn:Str→Bool
 calm:Bool
 pn:List (Addr×Obj)
 xe:Value→Shared→Prop
def C4 (l:List Env):List Addr:=l.filterMap (·.frame)
abbrev Cx.fs (X:Cx):List Addr:=C4 X.outer
def T6 (sc:Scope) (x:Str):Prop:=sc.names.lookup x=some .local∨sc.names.lookup x=some .cell∨sc.names.lookup x=some .free
def Loc (sc:Scope) (x:Str):Prop:=sc.names.lookup x=some .local∨sc.names.lookup x=some .cell
def Look (env:Env) (h:Heap) (m:Str→Option Value) (x:Str) (u:Value):Prop:=
 (env.kindOf x=some .local∧m x=some u)∨((env.kindOf x=some .cell∨env.kindOf x=some .free)∧∃c,env.cells.lookup x=some c∧h.IsCell c (some u))
structure Cx.Ok (X:Cx):Prop where
 mod:Mod X.K X.mg X.base
 kind:X.env.scope.kind=.function
 glob:X.env.globals=mainGlobals
 blt:X.env.builtins=builtinsNs
 above:X.s_0.heap.objs.size≤X.env.locals
 inj:∀x y c,X.env.cells.lookup x=some c→X.env.cells.lookup y=some c→x=y
 has:∀x,(X.env.kindOf x=some .cell∨X.env.kindOf x=some .free)→∃c,X.env.cells.lookup x=some c
 cab:∀x c,X.fn x=true→X.env.cells.lookup x=some c→X.s_0.heap.objs.size≤c
 hd:X.calm=true→X.A.handled=none
 frames:X.A.frames=some X.stack
 stk:X.stack=X.outer∨(X.stack=X.env::X.outer∧X.env.frame=some X.env.locals)
 exf:∀b∈X.ex,b≠X.env.locals∧∀x c,X.env.cells.lookup x=some c→c≠b
 bs:∀b o,X.base.get? b=some o→X.s_0.heap.get? b=some o∧X.H_0 b=none
 bsz:X.base.objs.size≤X.s_0.heap.objs.size
 noex:∀b o,X.base.get? b=some o→b∉X.ex
 exfs:∀b∈X.ex,b∉X.fs
 funs:X.s_0.heap.FunFrames X.base X.outer
 frf:∀b∈X.fs,X.H_0 b=none
structure Inv (X:Cx) (pins:List (Addr×Obj)) (σ:List (Option V)) (H:Hp) (s:Shared):Prop where
 ok:X.Ok
 os:s.os=X.s_0.os
 bare:AllBare s.gens
 base:Un X.fs X.ex X.H_0 H X.s_0.heap s.heap
 loc:∃m,s.heap.Ns X.env.locals m∧∀(i:Nat) (x:Str) (v:V),X.N[i]?=some x→σ[i]?=some (some v)→T6 X.env.scope x→∃u,RelV v u∧Look X.env s.heap m x u
 cell:∀x c,X.env.cells.lookup x=some c→∃v,s.heap.IsCell c v
 free:H X.env.locals=none
 freeC:∀x c,X.env.cells.lookup x=some c→H c=none
 pin:∀p∈X.pn++pins,s.heap.get? p.1=some p.2∧H p.1=none∧p.1≠X.env.locals∧p.1∉X.fs∧∀v,p.2.data≠.cell v
 hok:HOk X.prog X.w H s.heap
 len:σ.length=X.N.length
section
variable {X:Cx} {pins:List (Addr×Obj)} {σ:List (Option V)} {H H':Hp} {s:Shared} {h':Heap}
theorem Cx.Ok.nofr (ok:X.Ok) {b:Addr} {o:Obj} (e:X.base.get? b=some o):b∉X.fs:=fun hb=>by
 have:=(ok.funs.mem hb).1
 rw [e] at this;cases this
theorem Inv.bs (I:Inv X pins σ H s):∀b o,X.base.get? b=some o→s.heap.get? b=some o∧H b=none:=fun b o e=>
 ⟨I.base.keep b o (I.ok.bs b o e).1 (I.ok.bs b o e).2 (I.ok.nofr e) (I.ok.noex b o e),I.base.free b o (I.ok.bs b o e).1 (I.ok.bs b o e).2 (I.ok.noex b o e)⟩
theorem Inv.bk (I:Inv X pins σ H s):∀b o,X.base.get? b=some o→s.heap.get? b=some o:=fun b o e=>(I.bs b o e).1
theorem Inv.mod (I:Inv X pins σ H s):Mod X.K X.mg X.base:=I.ok.mod
theorem Inv.kIn (I:Inv X pins σ H s):X.K.In s.heap:=I.ok.mod.kin.keeps I.bk
theorem Inv.lt (I:Inv X pins σ H s):X.env.locals < s.heap.objs.size:=let ⟨_,hn,_⟩:=I.loc;hn.lt
theorem Inv.sz (I:Inv X pins σ H s):X.s_0.heap.objs.size≤s.heap.objs.size:=Nat.le_trans I.ok.above (Nat.le_of_lt I.lt)
theorem Inv.nofs (I:Inv X pins σ H s) {a:Addr} (h:s.heap.objs.size≤a):a∉X.fs:=fun hb=>by
 obtain ⟨_,o,ho,_⟩:=I.ok.funs.mem hb
 exact absurd (Nat.lt_of_lt_of_le (Heap.lt_size ho) (Nat.le_trans I.sz h)) (Nat.lt_irrefl _)
theorem Inv.cne (I:Inv X pins σ H s):∀x c,X.env.cells.lookup x=some c→c≠X.env.locals:=fun x c e z=>by
 obtain ⟨v,o,ho,hd⟩:=I.cell x c e
 obtain ⟨m,⟨o',es,ep,ho',hd',_⟩,_⟩:=I.loc
 rw [z,ho'] at ho;cases ho;rw [hd'] at hd;cases hd
theorem Inv.funs (I:Inv X pins σ H s):s.heap.FunFrames X.base X.outer:=by
 have all:∀(l:List Env),(∀b∈C4 l,b∈X.fs)→X.s_0.heap.FunFrames X.base l→s.heap.FunFrames X.base l:=by
  intro l
  induction l with
  | nil=>intro _ _;trivial
  | cons env r ih=>
   intro hs hl
   obtain ⟨hk,⟨L,o,hf,hn,ho,hd⟩,hr⟩:=hl
   have hL:L∈X.fs:=hs L (by unfold C4;rw [List.filterMap_cons,hf];exact List.mem_cons_self)
   obtain ⟨sl,e⟩:=I.base.slot L o ho (I.ok.frf L hL) hL fun z=>I.ok.exfs L z hL
   exact ⟨hk,⟨L,_,hf,hn,e,hd⟩,ih (fun b hb=>hs b (by unfold C4;rw [List.filterMap_cons,hf];exact List.mem_cons_of_mem _ hb)) hr⟩
 exact all X.outer (fun _ hb=>hb) I.ok.funs
theorem Inv.stack (I:Inv X pins σ H s):s.heap.FunFrames X.base X.stack:=by
 rcases I.ok.stk with e|⟨e,hf⟩
 ·rw [e];exact I.funs
 ·rw [e]
  obtain ⟨m,hn,_⟩:=I.loc
  refine .cons (by rw [I.ok.kind];decide) hf hn ?_ I.funs
  exact Heap.get?_none_of_le (Nat.le_trans I.ok.bsz I.ok.above)
theorem Inv.stkSub (I:Inv X pins σ H s):∀b∈C4 X.stack,b∈X.env.locals::X.fs:=fun b hb=>by
 rcases I.ok.stk with e|⟨e,hf⟩
 ·rw [e] at hb;exact List.mem_cons_of_mem _ hb
 ·rw [e] at hb
  unfold C4 at hb
  rw [List.filterMap_cons,hf] at hb
  exact hb
theorem Inv.stkFree (I:Inv X pins σ H s):∀b∈C4 X.stack,H b=none:=fun b hb=>by
 rcases List.mem_cons.mp (I.stkSub b hb) with e|hb
 ·rw [e];exact I.free
 ·obtain ⟨_,o,ho,_⟩:=I.ok.funs.mem hb
  exact I.base.free b o ho (I.ok.frf b hb) fun z=>I.ok.exfs b z hb
theorem Inv.step {g':Array GenState} {t':Nat} {d':Drawn} {ch:List Addr} (I:Inv X pins σ H s)
  (hch:∀b∈ch,(b∈X.ex∨X.s_0.heap.objs.size≤b)∧b≠X.env.locals∧(∀x c,X.env.cells.lookup x=some c→c≠b)∧∀p∈X.pn++pins,p.1≠b)
  (keep:∀b o,b≠X.env.locals→b∉X.fs→b∉ch→s.heap.get? b=some o→H b=none→h'.get? b=some o)
  (slot:∀b o,b≠X.env.locals→b∈X.fs→b∉ch→s.heap.get? b=some o→H b=none→∃sl,h'.get? b=some { o with slots:=sl }) (free:∀b o,b∉ch→s.heap.get? b=some o→H b=none→H' b=none)
  (there:∀b o,b∉ch→s.heap.get? b=some o→∃o',h'.get? b=some o')
  (tups:∀b xs,H b=some (.tup xs)→H' b=some (.tup xs)) (frzs:∀b o u,H b=some (.frz o u)→H' b=some (.frz o u)) (tbls:∀b ps,H b=some (.tbl ps)→∃more,H' b=some (.tbl (ps++more)))
  (ns:∀m,s.heap.Ns X.env.locals m→h'.Ns X.env.locals m) (hok:HOk X.prog X.w H' h') (hg:AllBare g') :
  Inv X pins σ H' { s with heap:=h',gens:=g',drawn:=d',toks:=t' }:=by
 have neL:∀b o,X.s_0.heap.get? b=some o→b≠X.env.locals:=fun b o e=>Nat.ne_of_lt (Nat.lt_of_lt_of_le (Heap.lt_size e) I.ok.above)
 have neC:∀b o,X.s_0.heap.get? b=some o→b∉X.ex→b∉ch:=fun b o e hx hb=>by
  rcases (hch b hb).1 with z|z
  ·exact hx z
  ·exact absurd (Nat.lt_of_lt_of_le (Heap.lt_size e) z) (Nat.lt_irrefl _)
 have cellK:∀x c,X.env.cells.lookup x=some c→∀v,s.heap.IsCell c v→h'.IsCell c v:=fun x c e v ⟨o,ho,hd⟩=>by
  have nch:c∉ch:=fun z=>(hch c z).2.2.1 x c e rfl
  by_cases hc:c∈X.fs
  ·obtain ⟨sl,q⟩:=slot c o (I.cne x c e) hc nch ho (I.freeC x c e)
   exact ⟨_,q,hd⟩
  ·exact ⟨o,keep c o (I.cne x c e) hc nch ho (I.freeC x c e),hd⟩
 refine ⟨I.ok,I.os,hg,⟨fun b o e n hb hx=>?_,fun b o e n hb hx=>?_,fun b o e n hx=>?_,fun b o e hx=>?_,fun b xs e=>tups b xs (I.base.tups b xs e),fun b o xs e=>frzs b o xs (I.base.frzs b o xs e),fun b ps e=>?_⟩,?_,fun x c e=>?_,?_,fun x c e=>?_,fun p hp=>?_,hok,I.len⟩
 ·exact keep b o (neL b o e) hb (neC b o e hx) (I.base.keep b o e n hb hx) (I.base.free b o e n hx)
 ·obtain ⟨sl,e1⟩:=I.base.slot b o e n hb hx
  obtain ⟨sl',e2⟩:=slot b _ (neL b o e) hb (neC b o e hx) e1 (I.base.free b o e n hx)
  exact ⟨sl',e2⟩
 ·obtain ⟨o',e1⟩:=I.base.there b o e hx
  exact free b o' (neC b o e hx) e1 (I.base.free b o e n hx)
 ·obtain ⟨o',e1⟩:=I.base.there b o e hx
  exact there b o' (neC b o e hx) e1
 ·obtain ⟨m1,e1⟩:=I.base.tbls b ps e
  obtain ⟨m2,e2⟩:=tbls b _ e1
  exact ⟨m1++m2,by rw [e2,Array.append_assoc]⟩
 ·obtain ⟨m,hn,hl⟩:=I.loc
  refine ⟨m,ns m hn,fun i x v e1 e2 e3=>?_⟩
  obtain ⟨u,r,l⟩:=hl i x v e1 e2 e3
  refine ⟨u,r,?_⟩
  rcases l with l|⟨k,c,e,z⟩
  ·exact .inl l
  ·exact .inr ⟨k,c,e,cellK x c e _ z⟩
 ·obtain ⟨v,z⟩:=I.cell x c e
  exact ⟨v,cellK x c e v z⟩
 ·obtain ⟨m,⟨o,_,_,ho,_⟩,_⟩:=I.loc
  exact free _ o (fun z=>(hch _ z).2.1 rfl) ho I.free
 ·obtain ⟨v,o,ho,hd⟩:=I.cell x c e
  exact free c o (fun z=>(hch c z).2.2.1 x c e rfl) ho (I.freeC x c e)
 ·obtain ⟨e,n,ne,nf,d⟩:=I.pin p hp
  have nch:p.1∉ch:=fun z=>(hch p.1 z).2.2.2 p hp rfl
  exact ⟨keep p.1 p.2 ne nf nch e n,free p.1 p.2 nch e n,ne,nf,d⟩
theorem Inv.un {t':Nat} (I:Inv X pins σ H s) (u:Un X.fs [] H H' s.heap h') (hok:HOk X.prog X.w H' h'):Inv X pins σ H' { s with heap:=h',toks:=t' }:=by
 obtain ⟨m,⟨o,es,ep,ho,r⟩,_⟩:=id I.loc
 obtain ⟨sl,hL⟩:=u.any ho I.free (by simp)
 exact I.step (g':=s.gens) (d':=s.drawn) (ch:=[]) (fun _ z=>nomatch z) (fun b o _ hb _ e n=>u.keep b o e n hb (by simp)) (fun b o _ hb _ e n=>u.slot b o e n hb (by simp)) (fun b o _ e n=>u.free b o e n (by simp)) (fun b o _ e=>u.there b o e (by simp)) u.tups u.frzs u.tbls (fun m' hm=>by
  obtain ⟨o',es',ep',ho',r'⟩:=hm
  rw [ho] at ho';cases ho'
  exact ⟨_,es',ep',hL,r'⟩) hok I.bare
theorem Inv.call {g':Array GenState} {t':Nat} {d':Drawn} {ch:List Addr} (I:Inv X pins σ H s) (u:Un (C4 X.stack) ch H H' s.heap h') (hok:HOk X.prog X.w H' h') (hg:AllBare g')
  (hch:∀b∈ch,(b∈X.ex∨X.s_0.heap.objs.size≤b)∧b≠X.env.locals∧(∀x c,X.env.cells.lookup x=some c→c≠b)∧∀p∈X.pn++pins,p.1≠b) :
  Inv X pins σ H' { s with heap:=h',gens:=g',drawn:=d',toks:=t' }:=by
 obtain ⟨m,⟨o,es,ep,ho,r⟩,_⟩:=id I.loc
 obtain ⟨sl,hL⟩:=u.any ho I.free fun z=>(hch _ z).2.1 rfl
 exact I.step (ch:=ch) hch (fun b o hL hb hc e n=>u.keep b o e n (fun z=>(List.mem_cons.mp (I.stkSub b z)).elim hL hb) hc) (fun b o _ _ hc e n=>u.any e n hc) (fun b o hc e n=>u.free b o e n hc) (fun b o hc e=>u.there b o e hc) u.tups u.frzs u.tbls (fun m' hm=>by
  obtain ⟨o',es',ep',ho',r'⟩:=hm
  rw [ho] at ho';cases ho'
  exact ⟨_,es',ep',hL,r'⟩) hok hg
theorem Inv.turned {t':Nat} {it:Addr} (I:Inv X pins σ H s) (k:∀b o,b≠it→s.heap.get? b=some o→h'.get? b=some o) (hn:H it=none) (hL:it≠X.env.locals)
  (h1:it∈X.ex∨X.s_0.heap.objs.size≤it) (h2:∀x c,X.env.cells.lookup x=some c→c≠it) (h3:∀p∈X.pn++pins,p.1≠it):Inv X pins σ H { s with heap:=h',toks:=t' }:=by
 have nit:∀b u,H b=some u→b≠it:=fun b u e z=>by rw [z,hn] at e;cases e
 refine I.step (g':=s.gens) (d':=s.drawn) (ch:=[it]) (fun b hb=>?_) (fun b o _ _ hc e _=>k b o (fun z=>hc (by simp [z])) e) (fun b o _ _ hc e _=>⟨o.slots,k b o (fun z=>hc (by simp [z])) e⟩) (fun _ _ _ _ n=>n)
  (fun b o hc e=>⟨o,k b o (fun z=>hc (by simp [z])) e⟩) (fun _ _ e=>e) (fun _ _ _ e=>e) (fun b ps e=>⟨#[],by rw [e];simp⟩) (fun m hm=>?_) (fun b u e=>?_) I.bare
 ·have e:b=it:=by simpa using hb
  subst e
  exact ⟨h1,hL,h2,h3⟩
 ·obtain ⟨o,es,ep,ho,r⟩:=hm
  exact ⟨o,es,ep,k _ o (Ne.symm hL) ho,r⟩
 ·refine (I.hok b u e).stay (fun c v hc q=>k c v ?_ q) (fun _ q=>q) fun _ _ q=>q
  rcases hc with z|z
  ·rw [z];exact nit b u e
  ·exact nit c _ z
theorem Inv.tok (I:Inv X pins σ H s) (t:Nat):Inv X pins σ H { s with toks:=t }:=I.un (h':=s.heap) (t':=t) Un.refl I.hok
theorem Inv.kept {t':Nat} (I:Inv X pins σ H s) (k:∀b u,s.heap.get? b=some u→h'.get? b=some u):Inv X pins σ H { s with heap:=h',toks:=t' }:=I.un (Un.kept k) (I.hok.kept k)
theorem Inv.laid {a:Addr} {o:HO} {t':Nat} (I:Inv X pins σ H s) (k:∀b u,s.heap.get? b=some u→h'.get? b=some u) (hp:s.heap.objs.size≤a) (new:ObjOk X.prog X.w (a8 H a o) h' a o) :
  Inv X pins σ (a8 H a o) { s with heap:=h',toks:=t' }:=I.un (Un.laid k hp (I.hok.fresh hp)) (I.hok.laid k hp new)
theorem Inv.write {x e:Addr} {o:HO} {t':Nat} (I:Inv X pins σ H s) (mu:O5 (H x)) (he:e=x∨H e=some (.own x)) (k:∀b u,b≠e→s.heap.get? b=some u→h'.get? b=some u) (heo:∃u,h'.get? e=some u)
  (new:ObjOk X.prog X.w (a8 H x o) h' x o):Inv X pins σ (a8 H x o) { s with heap:=h',toks:=t' }:=I.un (Un.write mu he k heo) (I.hok.write mu he k heo new)
theorem Inv.weak {σ':List (Option V)} (I:Inv X pins σ H s) (hl:σ'.length=σ.length) (w:∀(i:Nat) v,σ'[i]?=some (some v)→σ[i]?=some (some v)):Inv X pins σ' H s:=
 ⟨I.ok,I.os,I.bare,I.base,let ⟨m,hn,hl'⟩:=I.loc;⟨m,hn,fun i x v e1 e2 e3=>hl' i x v e1 (w i v e2) e3⟩,I.cell,I.free,I.freeC,I.pin,I.hok,hl.trans I.len⟩
theorem Inv.pins_of {pins':List (Addr×Obj)} (I:Inv X pins σ H s) (h:∀p∈pins',s.heap.get? p.1=some p.2∧H p.1=none∧p.1≠X.env.locals∧p.1∉X.fs∧∀v,p.2.data≠.cell v):Inv X pins' σ H s:=
 ⟨I.ok,I.os,I.bare,I.base,I.loc,I.cell,I.free,I.freeC,fun p hp=>(List.mem_append.mp hp).elim (fun z=>I.pin p (List.mem_append_left _ z)) (h p),I.hok,I.len⟩
theorem eJ {N:List Str} (hN:N.Nodup) {i j:Nat} {x:Str} (a:N[i]?=some x) (b:N[j]?=some x):i=j:=by
 obtain ⟨h1,e1⟩:=List.getElem?_eq_some_iff.mp a
 obtain ⟨h2,e2⟩:=List.getElem?_eq_some_iff.mp b
 exact (List.getElem_inj hN).mp (e1.trans e2.symm)
theorem jY {M:Model} {A:Around} {E:Value→Shared→Prop} {i:Nat} {x:Str} {v:V} {u:Value} {Q:Unit→Shared→Prop} (I:Inv X pins σ H s) (hN:X.N.Nodup) (hi:X.N[i]?=some x) (hx:Loc X.env.scope x) (r:RelV v u)
  (h:∀s',Inv X pins (σ.set i (some v)) H s'→(∃a,Heap.SameBut a s.heap s'.heap∧(a=X.env.locals∨X.env.cells.lookup x=some a))→Q () s') (hf:X.fn x=true∨X.env.scope.names.lookup x=some .local:=by first | exact .inl rfl|exact .inr rfl|assumption):wpAny M A (storeName X.env x u) Q E s:=by
 obtain ⟨m,hn,hl⟩:=id I.loc
 have hcls:(X.env.scope.kind==.class || (X.env.scope.kind==.module && X.env.locals != X.env.globals))=false:=by rw [I.ok.kind];rfl
 have hiσ:i < σ.length:=by rw [I.len];exact (List.getElem?_eq_some_iff.mp hi).1
 have cne:=I.cne
 have tracked:∀{a:Addr} {h':Heap},(∃o,s.heap.get? a=some o∧H a=none)→Heap.SameBut a s.heap h'→HOk X.prog X.w H h':=fun {a h'} ha hs b ob e=>by
  obtain ⟨_,_,hfree⟩:=ha
  refine (I.hok b ob e).stay (fun c w' hc q=>(hs.2 c ?_).trans q) (fun _ q=>q) fun _ _ q=>q
  rintro rfl
  rcases hc with rfl|hc
  ·rw [hfree] at e;cases e
  ·rw [hfree] at hc;cases hc
 rcases hx with hk|hk
 ·refine wpAny_storeName_local hk hn (fun h' hn' hs=>?_) hcls
  obtain ⟨oL,_,_,hoL,_⟩:=id hn
  refine h _ ⟨I.ok,I.os,I.bare,⟨fun b o e n hb hx=>?_,fun b o e n hb hx=>?_,I.base.free,fun b o e hx=>?_,I.base.tups,I.base.frzs,I.base.tbls⟩,⟨_,hn',fun j y v' e1 e2 e3=>?_⟩,fun y c e=>?_,I.free,I.freeC,fun p hp=>?_,tracked ⟨oL,hoL,I.free⟩ hs,by simpa using I.len⟩ ⟨_,hs,.inl rfl⟩
  ·exact (hs.2 b (Nat.ne_of_lt (Nat.lt_of_lt_of_le (Heap.lt_size e) I.ok.above))).trans (I.base.keep b o e n hb hx)
  ·obtain ⟨sl,e1⟩:=I.base.slot b o e n hb hx
   exact ⟨sl,(hs.2 b (Nat.ne_of_lt (Nat.lt_of_lt_of_le (Heap.lt_size e) I.ok.above))).trans e1⟩
  ·obtain ⟨o',e1⟩:=I.base.there b o e hx
   exact ⟨o',(hs.2 b (Nat.ne_of_lt (Nat.lt_of_lt_of_le (Heap.lt_size e) I.ok.above))).trans e1⟩
  ·by_cases hj:j=i
   ·subst hj
    rw [hi] at e1;cases e1
    rw [List.getElem?_set_self hiσ] at e2
    cases e2
    exact ⟨u,r,.inl ⟨hk,by simp⟩⟩
   ·rw [List.getElem?_set_ne (Ne.symm hj)] at e2
    obtain ⟨u',r',q⟩:=hl j y v' e1 e2 e3
    refine ⟨u',r',?_⟩
    rcases q with ⟨k,e⟩|⟨k,c,e,z⟩
    ·refine .inl ⟨k,?_⟩
     have:y≠x:=fun e=>hj (eJ hN e1 (e▸hi))
     simp [this,e]
    ·exact .inr ⟨k,c,e,z.sameBut hs (cne y c e)⟩
  ·obtain ⟨w',z⟩:=I.cell y c e
   exact ⟨w',z.sameBut hs (cne y c e)⟩
  ·obtain ⟨e,n,ne,nf,d⟩:=I.pin p hp
   exact ⟨(hs.2 p.1 ne).trans e,n,ne,nf,d⟩
 ·have hfn:X.fn x=true:=by
   rcases hf with z|z
   ·exact z
   ·rw [z] at hk;cases hk
  obtain ⟨c,hc⟩:=I.ok.has x (.inl hk)
  obtain ⟨w',z⟩:=I.cell x c hc
  refine wpAny_storeName_cell I.ok.kind hk hc z (fun h' hc' hs=>?_)
  obtain ⟨oc,hoc,hocd⟩:=id z
  refine h { s with heap:=h' } ⟨I.ok,I.os,I.bare,⟨fun b o e n hb hx=>?_,fun b o e n hb hx=>?_,I.base.free,fun b o e hx=>?_,I.base.tups,I.base.frzs,I.base.tbls⟩,⟨m,hn.sameBut hs (Ne.symm (cne x c hc)),fun j y v' e1 e2 e3=>?_⟩,fun y c' e=>?_,I.free,I.freeC,fun p hp=>?_,tracked ⟨oc,hoc,I.freeC x c hc⟩ hs,by simpa using I.len⟩ ⟨c,hs,.inr hc⟩
  ·exact (hs.2 b (Nat.ne_of_lt (Nat.lt_of_lt_of_le (Heap.lt_size e) (I.ok.cab x c hfn hc)))).trans (I.base.keep b o e n hb hx)
  ·obtain ⟨sl,e1⟩:=I.base.slot b o e n hb hx
   exact ⟨sl,(hs.2 b (Nat.ne_of_lt (Nat.lt_of_lt_of_le (Heap.lt_size e) (I.ok.cab x c hfn hc)))).trans e1⟩
  ·obtain ⟨o',e1⟩:=I.base.there b o e hx
   exact ⟨o',(hs.2 b (Nat.ne_of_lt (Nat.lt_of_lt_of_le (Heap.lt_size e) (I.ok.cab x c hfn hc)))).trans e1⟩
  ·by_cases hj:j=i
   ·subst hj
    rw [hi] at e1;cases e1
    rw [List.getElem?_set_self hiσ] at e2
    cases e2
    exact ⟨u,r,.inr ⟨.inl hk,c,hc,hc'⟩⟩
   ·rw [List.getElem?_set_ne (Ne.symm hj)] at e2
    obtain ⟨u',r',q⟩:=hl j y v' e1 e2 e3
    refine ⟨u',r',?_⟩
    rcases q with q|⟨k,c',e,z'⟩
    ·exact .inl q
    ·refine .inr ⟨k,c',e,z'.sameBut hs ?_⟩
     rintro rfl
     exact hj (eJ hN e1 (I.ok.inj _ _ _ e hc▸hi))
  ·by_cases hcc:c'=c
   ·subst hcc;exact ⟨_,hc'⟩
   ·obtain ⟨w2,z2⟩:=I.cell y c' e
    exact ⟨w2,z2.sameBut hs hcc⟩
  ·obtain ⟨e,n,ne,nf,d⟩:=I.pin p hp
   refine ⟨(hs.2 p.1 ?_).trans e,n,ne,nf,d⟩
   intro q
   rw [q,hoc] at e
   have q':oc=p.2:=Option.some.inj e
   exact d w' (by rw [←q'];exact hocd)
theorem fC {M:Model} {A:Around} {E:Value→Shared→Prop} {i:Nat} {x:Str} {v:V} {u:Value} {Q:Unit→Shared→Prop} (I:Inv X pins σ H s) (hN:X.N.Nodup) (hi:X.N[i]?=some x) (hx:Loc X.env.scope x) (r:RelV v u)
  (h:∀s',Inv X pins (σ.set i (some v)) H s'→Q () s') (hf:X.fn x=true∨X.env.scope.names.lookup x=some .local:=by first | exact .inl rfl|exact .inr rfl|assumption):wpAny M A (storeName X.env x u) Q E s:=
 jY I hN hi hx r (fun s' I' _=>h s' I') hf
theorem Inv.call' {s':Shared} {ch:List Addr} (I:Inv X pins σ H s) (ho:s'.os=s.os) (u:Un (C4 X.stack) ch H H' s.heap s'.heap) (hok:HOk X.prog X.w H' s'.heap) (hg:AllBare s'.gens)
  (hch:∀b∈ch,(b∈X.ex∨X.s_0.heap.objs.size≤b)∧b≠X.env.locals∧(∀x c,X.env.cells.lookup x=some c→c≠b)∧∀p∈X.pn++pins,p.1≠b):Inv X pins σ H' s':=by
 obtain ⟨h',g',d',t',o'⟩:=s'
 have e:o'=s.os:=ho
 subst e
 exact I.call (g':=g') (t':=t') (d':=d') u hok hg hch
end
abbrev XK:=Value→Option Addr→Hp→Prop
abbrev St:=List (Option V)
abbrev VK:=V→Hp→Prop
abbrev TE:=St→Hp→VK→Prop
abbrev TT:=St→Hp→(Bool→Hp→Prop)→Prop
abbrev TA:=St→Hp→(List V→Hp→Prop)→Prop
structure G7 where
 nx:St→Hp→Prop
 rt:VK
 bk:St→Hp→Prop:=fun _ _=>False
 ct:St→Hp→Prop:=fun _ _=>False
abbrev TS:=G7→St→Hp→Prop
def EP (X:Cx) (pins:List (Addr×Obj)) (σ:St) (Q:VK) (u:Value) (s':Shared):Prop:=∃v H',Inv X pins σ H' s'∧RelV v u∧Q v H'
def TP (X:Cx) (pins:List (Addr×Obj)) (σ:St) (Q:Bool→Hp→Prop) (b:Bool) (s':Shared):Prop:=∃H',Inv X pins σ H' s'∧Q b H'
def AP (X:Cx) (pins:List (Addr×Obj)) (σ:St) (Q:List V→Hp→Prop) (us:List Value) (s':Shared):Prop:=∃vs H',Inv X pins σ H' s'∧Vals vs us∧Q vs H'
def SP (X:Cx) (pins:List (Addr×Obj)) (D:G7) (f:Flow) (s':Shared):Prop:=
 match f with
 | .next=>∃σ' H',Inv X pins σ' H' s'∧D.nx σ' H'
 | .brk=>∃σ' H',Inv X pins σ' H' s'∧D.bk σ' H'
 | .cont=>∃σ' H',Inv X pins σ' H' s'∧D.ct σ' H'
 | .ret u=>∃v σ' H',Inv X pins σ' H' s'∧RelV v u∧D.rt v H'
def PE (X:Cx) (e:Expr) (t:TE):Prop:=
 ∀(pins:List (Addr×Obj)) (s:Shared) (σ:St) (H:Hp) (Q:VK),Inv X pins σ H s→t σ H Q→wpAny (model X.prog X.w) X.A (eval e X.env) (EP X pins σ Q) X.xe s
def PT (X:Cx) (e:Expr) (t:TT):Prop:=
 ∀(pins:List (Addr×Obj)) (s:Shared) (σ:St) (H:Hp) (Q:Bool→Hp→Prop),Inv X pins σ H s→t σ H Q→wpAny (model X.prog X.w) X.A (isTrue e X.env (eval e X.env)) (TP X pins σ Q) X.xe s
def PW (X:Cx) (e:Expr) (t:TT):Prop:=
 ∀(whole:Sem Value) (pins:List (Addr×Obj)) (s:Shared) (σ:St) (H:Hp) (Q:Bool→Hp→Prop),Inv X pins σ H s→t σ H Q→wpAny (model X.prog X.w) X.A (isTrue e X.env whole) (TP X pins σ Q) X.xe s
theorem PW.pt {X:Cx} {e:Expr} {t:TT} (h:PW X e t):PT X e t:=h _
def PA (X:Cx) (es:List Expr) (t:TA):Prop:=
 ∀(pos:Pos) (pins:List (Addr×Obj)) (s:Shared) (σ:St) (H:Hp) (Q:List V→Hp→Prop),Inv X pins σ H s→t σ H Q→wpAny (model X.prog X.w) X.A (spliced (backTo pos (starEach es X.env))) (AP X pins σ Q) X.xe s
def PS (X:Cx) (st:Stmt) (t:TS):Prop:=
 ∀(pins:List (Addr×Obj)) (s:Shared) (σ:St) (H:Hp) (D:G7),Inv X pins σ H s→t D σ H→wpAny (model X.prog X.w) X.A (exec st X.env) (SP X pins D) X.xe s
def PSs (X:Cx) (st:List Stmt) (t:TS):Prop:=
 ∀(pins:List (Addr×Obj)) (s:Shared) (σ:St) (H:Hp) (D:G7),Inv X pins σ H s→t D σ H→wpAny (model X.prog X.w) X.A (execs st X.env) (SP X pins D) X.xe s
theorem g6 {α:Type} {t:Sem α} {Q Q':α→Shared→Prop} {M:Model} {A:Around} {E:Value→Shared→Prop} {s:Shared} (h:wpAny M A t Q E s) (hQ:∀a s,Q a s→Q' a s):wpAny M A t Q' E s:=wpAny_mono h hQ fun _ _ x=>x
section
variable {X:Cx}
def z9 (i:Nat):TE:=fun σ H Q=>∃v,σ[i]?=some (some v)∧Q v H
def tC (v:V):TE:=fun _ H Q=>Q v H
theorem wE {i:Nat} {x:Str} {pos:Pos} (hN:X.N[i]?=some x) (hv:T6 X.env.scope x) (hd:(x==("__debug__":Str))=false:=by decide) (hcd:(x==("__classdict__":Str))=false:=by decide):PE X (.Name x pos) (z9 i):=by
 intro pins s σ H Q I h
 obtain ⟨v,e,h⟩:=h
 obtain ⟨m,hn,hl⟩:=I.loc
 obtain ⟨u,r,l⟩:=hl i x v hN e hv
 have fin:EP X pins σ Q u s:=⟨v,H,I,r,h⟩
 rcases l with ⟨hk,hm⟩|⟨hk,c,hc,hcell⟩
 ·exact wpAny_Name (wpAny_loadName_local I.ok.kind hk hn hm fin) hd
 ·rcases hk with hk|hk
  ·exact wpAny_Name (wpAny_loadName_cell I.ok.kind hk hc hcell fin) hd
  ·exact wpAny_Name (wpAny_loadName_free I.ok.kind hk hc hcell fin hcd) hd
theorem j0 {i j pos}:PE X (.Constant (.int i) j pos) (tC (.int i)):=fun _ _ _ H _ I h=>wpAny_Constant_int ⟨.int i,H,I.tok _,⟨_,rfl⟩,h⟩
theorem R7 {b j pos}:PE X (.Constant (.bool b) j pos) (tC (.bl b)):=fun _ _ _ H _ I h=>Constant_bool ⟨.bl b,H,I,rfl,h⟩
theorem V1 {j pos}:PE X (.Constant .none j pos) (tC .non):=fun _ _ _ H _ I h=>Constant_none ⟨.non,H,I,rfl,h⟩
def Gl (X:Cx) (x:Str):Prop:=X.env.kindOf x=some .globalImplicit
theorem X0 {E:Value→Shared→Prop} {pins:List (Addr×Obj)} {s:Shared} {σ:St} {H:Hp} {x:Str} {u:Value} {pos:Pos} {Q:Value→Shared→Prop} (I:Inv X pins σ H s) (hg:Gl X x) (hm:X.mg x=some u) (h:Q u s)
  (hd:(x==("__debug__":Str))=false:=by decide):wpAny (model X.prog X.w) X.A (eval (.Name x pos) X.env) Q E s:=
 Calls.Name_function_global I.ok.kind hg (Calls.loadGlobal_global (by rw [I.ok.glob];exact I.mod.glob.keeps I.bk) hm h) hd
theorem R8 {E:Value→Shared→Prop} {pins:List (Addr×Obj)} {s:Shared} {σ:St} {H:Hp} {x:Str} {u:Value} {pos:Pos} {Q:Value→Shared→Prop} (I:Inv X pins σ H s) (hg:Gl X x) (hm:X.mg x=none) (hv:bootBuiltins x=some u) (h:Q u s)
  (hn:x≠"__name__":=by decide) (hd:(x==("__debug__":Str))=false:=by decide):wpAny (model X.prog X.w) X.A (eval (.Name x pos) X.env) Q E s:=by
 obtain ⟨mb,h1,h2⟩:=I.mod.blt
 exact Calls.Name_function_global I.ok.kind hg (Calls.loadGlobal_builtin (by rw [I.ok.glob];exact I.mod.glob.keeps I.bk) hm (by rw [I.ok.blt];exact h1.keeps I.bk) ((h2 x hn).trans hv) h) hd
theorem oM {x:Str} {v:V} {u:Value} {pos:Pos} (hg:Gl X x) (hm:X.mg x=some u) (r:RelV v u) (hd:(x==("__debug__":Str))=false:=by decide):PE X (.Name x pos) (tC v):=
 fun _ _ _ H _ I h=>X0 I hg hm ⟨v,H,I,r,h⟩ hd
variable {a b:Expr} {ta tb:TE} {pos:Pos}
def PC (X:Cx) (op:CmpOp) (a b:Expr) (t:TE):Prop:=
 ∀(pins:List (Addr×Obj)) (s:Shared) (σ:St) (H:Hp) (Q:VK),Inv X pins σ H s→t σ H Q→
  wpAny (model X.prog X.w) X.A (eval a X.env) (fun v s₁=>wpAny (model X.prog X.w) X.A (eval b X.env) (fun u s₂=>wpAny (model X.prog X.w) X.A (compareOp op v u) (EP X pins σ Q) X.xe s₂) X.xe s₁) X.xe s
theorem mF (b:Expr) {op:CmpOp} (h:op≠.In) (h2:op≠.NotIn):behindInMarks op b=false:=by
 have e1:(op==CmpOp.In)=false:=by cases op<;>first | rfl|exact absurd rfl h
 have e2:(op==CmpOp.NotIn)=false:=by cases op<;>first | rfl|exact absurd rfl h2
 cases b<;>simp [behindInMarks,e1,e2]
def Dg (ta:TE):TE:=fun σ H Q=>ta σ H fun x H1=>Q (.bl (decide (x=.non))) H1
def DW (ta:TE):TE:=fun σ H Q=>ta σ H fun x H1=>Q (.bl (!decide (x=.non))) H1
theorem RelV.none_iff {x:V} {v:Value} (r:RelV x v):(v==Value.none)=decide (x=.non):=by
 cases x with
 | non=>cases r;rfl
 | bl _=>cases r;rfl
 | int _=>obtain ⟨t,rfl⟩:=r;rfl
 | str _=>obtain ⟨t,rfl⟩:=r;rfl
 | byt _=>obtain ⟨t,rfl⟩:=r;rfl
 | flt _=>obtain ⟨t,rfl⟩:=r;rfl
 | ref _=>cases r;rfl
 | ty _=>cases r;rfl
theorem bA {j pos'} (ha:PE X a ta):PC X .Is a (.Constant .none j pos') (Dg ta):=by
 intro pins s σ H Q I h
 refine g6 (ha pins s σ H _ I h) fun v s1 ⟨x,H1,I1,r1,q1⟩=>?_
 exact Constant_none (is_none_gen ⟨.bl _,H1,I1,by rw [r1.none_iff];rfl,q1⟩)
theorem Dp {j pos'} (ha:PE X a ta):PC X .IsNot a (.Constant .none j pos') (DW ta):=by
 intro pins s σ H Q I h
 refine g6 (ha pins s σ H _ I h) fun v s1 ⟨x,H1,I1,r1,q1⟩=>?_
 exact Constant_none (isnot_none_gen ⟨.bl _,H1,I1,by rw [r1.none_iff];rfl,q1⟩)
def tB (t:TE):TT:=fun σ H Q=>t σ H fun x H1=>∃c,x=.bl c∧Q c H1
theorem lB {op:CmpOp} {t:TE} (h:PC X op a b t) (h1:behindInMarks op b=false:=by first | exact mF _ (by decide) (by decide)|rfl):PE X (.Compare a [op] [b] pos) t:=fun pins s σ H Q I hw=>wpAny_Compare1 (h pins s σ H Q I hw) h1
theorem K2 {op:CmpOp} {t:TE} (h:PC X op a b t) (h1:behindInMarks op b=false:=by first | exact mF _ (by decide) (by decide)|rfl):PT X (.Compare a [op] [b] pos) (tB t):=by
 intro pins s σ H Q I hw
 refine wpAny_isTrue_Compare1 (g6 (h pins s σ H _ I hw) fun v s1 h1=>g6 h1 fun u s2 h2=>g6 h2 fun c s3 ⟨x,H1,I1,r1,q1⟩=>?_) h1
 obtain ⟨d,rfl,q⟩:=q1
 cases r1
 exact wpAny_truthy_bool ⟨H1,I1,q⟩
theorem C8 {e:Expr} {t:TE} (h:PE X e t) (he:∀whole,isTrue e X.env whole=(do let v ←whole;standAt e.pos;holding [v] (truthy v)):=by intro _;rfl):PT X e (tB t):=by
 intro pins s σ H Q I hw
 refine isTrue_plain (g6 (h pins s σ H _ I hw) fun v s1 ⟨x,H1,I1,r1,q1⟩=>?_) (he _)
 obtain ⟨d,rfl,q⟩:=q1
 cases r1
 exact wpAny_truthy_bool ⟨H1,I1,q⟩
variable {tA tB':TT} {rest:List Expr}
def sD (t u:TT):TT:=fun σ H Q=>t σ H fun c H1=>if c=true then u σ H1 Q else Q false H1
def rO (t u:TT):TT:=fun σ H Q=>t σ H fun c H1=>if c=true then Q true H1 else u σ H1 Q
def uK (t:TT):TT:=fun σ H Q=>t σ H fun c H1=>Q (!c) H1
theorem cK (ha:PT X a tA):PW X (.BoolOp .And [a] pos) tA:=by
 intro wh pins s σ H Q I h
 refine isTrue_and (g6 (ha pins s σ H Q I h) fun c s1 e=>?_)
 cases c with
 | true=>exact isTrue_and_nil e
 | false=>exact e
theorem mJ (ha:PT X a tA):PW X (.BoolOp .Or [a] pos) tA:=by
 intro wh pins s σ H Q I h
 refine isTrue_or (g6 (ha pins s σ H Q I h) fun c s1 e=>?_)
 cases c with
 | false=>exact isTrue_or_nil e
 | true=>exact e
theorem W2 (ha:PT X a tA) (hb:PW X (.BoolOp .And (b::rest) pos) tB'):PW X (.BoolOp .And (a::b::rest) pos) (sD tA tB'):=by
 intro wh pins s σ H Q I h
 refine isTrue_and (g6 (ha pins s σ H _ I h) fun c s1 ⟨H1,I1,q1⟩=>?_)
 cases c with
 | true=>exact hb wh pins s1 σ H1 Q I1 q1
 | false=>exact ⟨H1,I1,q1⟩
theorem jR (ha:PT X a tA) (hb:PW X (.BoolOp .Or (b::rest) pos) tB'):PW X (.BoolOp .Or (a::b::rest) pos) (rO tA tB'):=by
 intro wh pins s σ H Q I h
 refine isTrue_or (g6 (ha pins s σ H _ I h) fun c s1 ⟨H1,I1,q1⟩=>?_)
 cases c with
 | true=>exact ⟨H1,I1,q1⟩
 | false=>exact hb wh pins s1 σ H1 Q I1 q1
theorem nV (ha:PT X a tA):PT X (.UnaryOp .Not a pos) (uK tA):=by
 intro pins s σ H Q I h
 exact isTrue_not (ha pins s σ H (fun c H1=>Q (!c) H1) I h)
def EU (ta tb:TE):TE:=fun σ H Q=>ta σ H fun x H1=>∃c,x=.bl c∧if c=true then tb σ H1 Q else Q (.bl false) H1
def Cp (ta tb:TE):TE:=fun σ H Q=>ta σ H fun x H1=>∃c,x=.bl c∧if c=true then Q (.bl true) H1 else tb σ H1 Q
theorem fF {op} {t:TE} (h:PE X a t):PE X (.BoolOp op [a] pos) t:=fun pins s σ H Q I hw=>BoolOp_one (h pins s σ H Q I hw)
theorem EH (ha:PE X a ta) (hb:PE X (.BoolOp .And (b::rest) pos) tb):PE X (.BoolOp .And (a::b::rest) pos) (EU ta tb):=by
 intro pins s σ H Q I h
 refine BoolOp_and (g6 (ha pins s σ H _ I h) fun v s1 ⟨x,H1,I1,r1,q1⟩=>?_)
 obtain ⟨c,rfl,q1⟩:=q1
 cases r1
 refine wpAny_truthy_bool ?_
 cases c with
 | true=>exact hb pins s1 σ H1 Q I1 q1
 | false=>exact ⟨.bl false,H1,I1,rfl,q1⟩
theorem lN (ha:PE X a ta) (hb:PE X (.BoolOp .Or (b::rest) pos) tb):PE X (.BoolOp .Or (a::b::rest) pos) (Cp ta tb):=by
 intro pins s σ H Q I h
 refine BoolOp_or (g6 (ha pins s σ H _ I h) fun v s1 ⟨x,H1,I1,r1,q1⟩=>?_)
 obtain ⟨c,rfl,q1⟩:=q1
 cases r1
 refine wpAny_truthy_bool ?_
 cases c with
 | false=>exact hb pins s1 σ H1 Q I1 q1
 | true=>exact ⟨.bl true,H1,I1,rfl,q1⟩
def dY (t:TT) (ta tb:TE):TE:=fun σ H Q=>t σ H fun c H1=>if c=true then ta σ H1 Q else tb σ H1 Q
theorem L6 {c:Expr} (hc:PT X c tA) (ha:PE X a ta) (hb:PE X b tb):PE X (.IfExp c a b pos) (dY tA ta tb):=by
 intro pins s σ H Q I h
 refine wpAny_IfExp (g6 (hc pins s σ H _ I h) fun d s1 ⟨H1,I1,q1⟩=>?_)
 cases d with
 | true=>exact ha pins s1 σ H1 Q I1 q1
 | false=>exact hb pins s1 σ H1 Q I1 q1
end
def SqL (K:PySem.W.Frag) (H:Hp) (a:Addr) (xs:List V):Prop:=
 Rd H a (.lst xs)∨
  ∃(o:Obj) (its:Array Value) (n:Nat),K.lookup a=some o∧o.cls=.type "list"∧o.dict=none∧o.data=.seq its n∧its.size≤sizeLine∧Vals xs its.toList
def SqT (K:PySem.W.Frag) (H:Hp) (a:Addr) (xs:List V):Prop:=
 Rd H a (.tup xs)∨
  ∃(o:Obj) (its:Array Value) (n:Nat),K.lookup a=some o∧o.cls=.type "tuple"∧o.data=.seq its n∧its.size≤sizeLine∧Vals xs its.toList
def uL:Value→Option V
 | .none=>some .non
 | .bool b=>some (.bl b)
 | .int i _=>some (.int i)
 | .str x _=>some (.str x)
 | .bytes b _=>some (.byt b)
 | .float b _=>some (.flt b)
 | .ref a=>some (.ref a)
 | .type n=>some (.ty n)
 | _=>none
theorem RelV.abs {x:V} {u:Value} (r:RelV x u):uL u=some x:=by
 cases x with
 | non=>cases r;rfl
 | bl _=>cases r;rfl
 | int _=>obtain ⟨t,rfl⟩:=r;rfl
 | str _=>obtain ⟨t,rfl⟩:=r;rfl
 | byt _=>obtain ⟨t,rfl⟩:=r;rfl
 | flt _=>obtain ⟨t,rfl⟩:=r;rfl
 | ref _=>cases r;rfl
 | ty _=>cases r;rfl
theorem RelV.inj {x y:V} {u:Value} (r:RelV x u) (q:RelV y u):x=y:=Option.some.inj (r.abs.symm.trans q.abs)
theorem Vals.inj:∀{xs ys:List V} {us:List Value},Vals xs us→Vals ys us→xs=ys
 | _,_,_,.nil,.nil=>rfl
 | _,_,_,.cons r t,.cons r' t'=>by rw [r.inj r',Vals.inj t t']
section
variable {X:Cx} {pins:List (Addr×Obj)} {σ:St} {H:Hp} {s:Shared} {a:Addr} {xs ys:List V}
theorem SqL.of {K:PySem.W.Frag} (h:H a=some (.lst xs)):SqL K H a xs:=.inl (.inl h)
theorem SqT.of {K:PySem.W.Frag} (h:H a=some (.tup xs)):SqT K H a xs:=.inl (.inl h)
theorem Inv.list (I:Inv X pins σ H s) (h:SqL X.K H a xs):∃its:List Value,Vals xs its∧PlainL s.heap a its.toArray∧xs.length≤sizeLine:=by
 rcases h with h|⟨o,its,n,hk,hc,hd,hs,hz,r⟩
 ·obtain ⟨z,its,n,r,e⟩:=h.ok I.hok
  exact ⟨its,r,⟨_,n,e,rfl,rfl,rfl⟩,z⟩
 ·refine ⟨its.toList,r,⟨o,n,I.kIn a o hk,hc,hd,by simpa using hs⟩,?_⟩
  have e:=r.length
  simp only [Array.length_toList] at e
  omega
theorem Inv.tuple (I:Inv X pins σ H s) (h:SqT X.K H a xs):∃its:List Value,Vals xs its∧IsTup s.heap a its.toArray∧xs.length≤sizeLine:=by
 rcases h with h|⟨o,its,n,hk,hc,hs,hz,r⟩
 ·obtain ⟨z,its,r,p⟩:=h.ok I.hok
  exact ⟨its,r,p,z⟩
 ·refine ⟨its.toList,r,⟨o,I.kIn a o hk,hc,n,by simpa using hs⟩,?_⟩
  have e:=r.length
  simp only [Array.length_toList] at e
  omega
theorem Inv.list_inj (I:Inv X pins σ H s) (h:SqL X.K H a xs) (h':SqL X.K H a ys):xs=ys:=by
 obtain ⟨its,r,⟨o,n,e,_,_,d⟩,_⟩:=I.list h
 obtain ⟨its',r',⟨o',n',e',_,_,d'⟩,_⟩:=I.list h'
 rw [e] at e';cases e'
 rw [d] at d'
 injection d' with d1 _
 have:its=its':=by simpa using congrArg Array.toList d1
 subst this
 exact r.inj r'
theorem Inv.tuple_inj (I:Inv X pins σ H s) (h:SqT X.K H a xs) (h':SqT X.K H a ys):xs=ys:=by
 obtain ⟨its,r,⟨o,e,_,n,d⟩,_⟩:=I.tuple h
 obtain ⟨its',r',⟨o',e',_,n',d'⟩,_⟩:=I.tuple h'
 rw [e] at e';cases e'
 rw [d] at d'
 injection d' with d1 _
 have:its=its':=by simpa using congrArg Array.toList d1
 subst this
 exact r.inj r'
end
abbrev Cx.wish (X:Cx) (E:Value→Shared→Prop):Cx:={ X with xe:=E }
abbrev Cx.nox (X:Cx):Cx:=X.wish fun _ _=>False
theorem Cx.Ok.wish {X:Cx} (ok:X.Ok) (E:Value→Shared→Prop):(X.wish E).Ok:=
 ⟨ok.mod,ok.kind,ok.glob,ok.blt,ok.above,ok.inj,ok.has,ok.cab,ok.hd,ok.frames,ok.stk,ok.exf,ok.bs,ok.bsz,ok.noex,ok.exfs,ok.funs,ok.frf⟩
theorem Cx.Ok.unwish {X:Cx} {E:Value→Shared→Prop} (ok:(X.wish E).Ok):X.Ok:=
 ⟨ok.mod,ok.kind,ok.glob,ok.blt,ok.above,ok.inj,ok.has,ok.cab,ok.hd,ok.frames,ok.stk,ok.exf,ok.bs,ok.bsz,ok.noex,ok.exfs,ok.funs,ok.frf⟩
section
variable {X:Cx} {pins:List (Addr×Obj)} {σ:St} {H:Hp} {s:Shared} {E:Value→Shared→Prop}
theorem Inv.wish (I:Inv X pins σ H s) (E:Value→Shared→Prop):Inv (X.wish E) pins σ H s:=⟨I.ok.wish E,I.os,I.bare,I.base,I.loc,I.cell,I.free,I.freeC,I.pin,I.hok,I.len⟩
theorem Inv.unwish (I:Inv (X.wish E) pins σ H s):Inv X pins σ H s:=⟨I.ok.unwish,I.os,I.bare,I.base,I.loc,I.cell,I.free,I.freeC,I.pin,I.hok,I.len⟩
theorem SP.unwish {D:G7} {f:Flow} {s':Shared} (h:SP (X.wish E) pins D f s'):SP X pins D f s':=by
 cases f with
 | next=>obtain ⟨σ',H',I,q⟩:=h;exact ⟨σ',H',I.unwish,q⟩
 | brk=>obtain ⟨σ',H',I,q⟩:=h;exact ⟨σ',H',I.unwish,q⟩
 | cont=>obtain ⟨σ',H',I,q⟩:=h;exact ⟨σ',H',I.unwish,q⟩
 | ret u=>obtain ⟨v,σ',H',I,r,q⟩:=h;exact ⟨v,σ',H',I.unwish,r,q⟩
theorem PSs.nox {st:List Stmt} {t:TS} (h:PSs X.nox st t):PSs X st t:=fun pins s σ H D I hw=>
 wpAny_mono (h pins s σ H D (I.wish _) hw) (fun _ _ q=>q.unwish) fun _ _ z=>False.elim z
end
section
variable {X:Cx} {st:Stmt} {rest:List Stmt} {t u:TS} {e:Expr} {te:TE} {pos:Pos}
def kR:TS:=fun D σ H=>D.nx σ H
def xV (t u:TS):TS:=fun D σ H=>t { D with nx:=u D } σ H
theorem m8:PSs X [] kR:=fun _ _ σ H _ I h=>wpAny_execs_nil ⟨σ,H,I,h⟩
theorem d7 (h1:PS X st t) (h2:PSs X rest u):PSs X (st::rest) (xV t u):=by
 intro pins s σ H D I h
 refine wpAny_execs_cons (g6 (h1 pins s σ H { D with nx:=u D } I h) fun f s1 q=>?_)
 cases f with
 | next=>
  obtain ⟨σ',H',I',q⟩:=q
  exact h2 pins s1 σ' H' D I' q
 | ret v=>exact q
 | brk=>exact q
 | cont=>exact q
theorem f7 (h1:PS X st t):PSs X [st] t:=by
 intro pins s σ H D I h
 refine wpAny_execs_cons (g6 (h1 pins s σ H D I h) fun f s1 q=>?_)
 cases f with
 | next=>exact wpAny_execs_nil q
 | ret v=>exact q
 | brk=>exact q
 | cont=>exact q
def CO:TS:=fun D σ H=>D.bk σ H
def Dv:TS:=fun D σ H=>D.ct σ H
theorem AK:PS X (.Break pos) CO:=fun _ _ σ H _ I h=>wpAny_Break ⟨σ,H,I,h⟩
theorem DO:PS X (.Continue pos) Dv:=fun _ _ σ H _ I h=>wpAny_Continue ⟨σ,H,I,h⟩
theorem Inv.quiet {pins:List (Addr×Obj)} {σ:St} {H:Hp} {s:Shared} (I:Inv X pins σ H s):interactive X.env=false:=by simp [interactive,I.ok.kind]
def Ds (te:TE):TS:=fun D σ H=>te σ H fun _ H1=>D.nx σ H1
theorem A7 (he:PE X e te) (hs:swapsWith e none pos.line X.env=pure false:=by rfl):PS X (.Expr e pos) (Ds te):=by
 intro pins s σ H D I h
 exact wpAny_Expr_any (g6 (he pins s σ H _ I h) fun v s1 ⟨x,H1,I1,r1,q1⟩=>⟨σ,H1,I1,q1⟩) I.quiet hs
def nM (te:TE):TS:=fun D σ H=>te σ H D.rt
theorem i0 (he:PE X e te):PS X (.Return (some e) pos) (nM te):=by
 intro pins s σ H D I h
 exact wpAny_Return_some (g6 (he pins s σ H _ I h) fun v s1 ⟨x,H1,I1,r1,q1⟩=>⟨x,σ,H1,I1,r1,q1⟩)
def pO (c:TT) (t u:TS):TS:=fun D σ H=>c σ H fun b H1=>if b=true then t D σ H1 else u D σ H1
theorem m7 {c:Expr} {a b:List Stmt} {tc:TT} (hc:PT X c tc) (ha:PSs X a t) (hb:PSs X b u):PS X (.If c a b pos) (pO tc t u):=by
 intro pins s σ H D I h
 refine wpAny_If (g6 (hc pins s σ H _ I h) fun d s1 ⟨H1,I1,q1⟩=>?_)
 cases d with
 | true=>exact ha pins s1 σ H1 D I1 q1
 | false=>exact hb pins s1 σ H1 D I1 q1
end
abbrev TG:=V→St→Hp→(St→Hp→Prop)→Prop
abbrev Q5:=List V→St→Hp→(St→Hp→Prop)→Prop
def PG (X:Cx) (target:Expr) (t:TG):Prop:=
 ∀(pins:List (Addr×Obj)) (s:Shared) (σ:St) (H:Hp) (v:V) (u:Value) (Q:St→Hp→Prop),Inv X pins σ H s→RelV v u→t v σ H Q→
  wpAny (model X.prog X.w) X.A (assign target X.env u) (fun _ s'=>∃σ' H',Inv X pins σ' H' s'∧Q σ' H') X.xe s
def cX (X:Cx) (ts:List Expr) (t:Q5):Prop:=
 ∀(pins:List (Addr×Obj)) (s:Shared) (σ:St) (H:Hp) (vs:List V) (us:List Value) (Q:St→Hp→Prop),Inv X pins σ H s→Vals vs us→t vs σ H Q→
  wpAny (model X.prog X.w) X.A (assignInOrder ((assignEach ts X.env).map (·.2)) us) (fun _ s'=>∃σ' H',Inv X pins σ' H' s'∧Q σ' H') X.xe s
abbrev gW:=V→V→V→Hp→(Hp→Prop)→Prop
def pL (X:Cx) (t:gW):Prop:=
 ∀(pins:List (Addr×Obj)) (s:Shared) (σ:St) (H:Hp) (o i v:V) (ov iv u:Value) (Q:Hp→Prop),Inv X pins σ H s→RelV o ov→RelV i iv→RelV v u→t o i v H Q→
  wpAny (model X.prog X.w) X.A (setItem ov iv u) (fun _ s'=>∃H',Inv X pins σ H' s'∧Q H') X.xe s
abbrev bK:=V→V→Hp→VK→Prop
def mM (X:Cx) (op:Operator) (t:bK):Prop:=
 ∀(pins:List (Addr×Obj)) (s:Shared) (σ:St) (H:Hp) (x y:V) (v u:Value) (Q:VK),Inv X pins σ H s→RelV x v→RelV y u→t x y H Q→
  wpAny (model X.prog X.w) X.A (inplaceOp op v u) (EP X pins σ Q) X.xe s
section
variable {X:Cx} {pos:Pos}
def P6 (i:Nat):TG:=fun v σ H Q=>Q (σ.set i (some v)) H
theorem n8 {i:Nat} {x:Str} (hN:X.N.Nodup) (hi:X.N[i]?=some x) (hx:Loc X.env.scope x) (hf:X.fn x=true∨X.env.scope.names.lookup x=some .local:=by first | exact .inl rfl|exact .inr rfl|assumption):PG X (.Name x pos) (P6 i):=by
 intro pins s σ H v u Q I r h
 exact wpAny_assign_Name (fC I hN hi hx r (fun s' I'=>⟨_,H,I',h⟩) hf)
def pJ:Q5:=fun vs σ H Q=>vs=[]∧Q σ H
def gE (t:TG) (u:Q5):Q5:=fun vs σ H Q=>∃v r,vs=v::r∧t v σ H fun σ' H'=>u r σ' H' Q
theorem U0:cX X [] pJ:=by
 intro pins s σ H vs us Q I r h
 obtain ⟨e,h⟩:=h
 subst e
 cases r
 exact assignInOrder_nil ⟨σ,H,I,h⟩
theorem J9 {e:Expr} {es:List Expr} {t:TG} {u:Q5} (h1:PG X e t) (h2:cX X es u)
  (hs:(assignEach (e::es) X.env).map (·.2)=assign e X.env::(assignEach es X.env).map (·.2):=by rfl):cX X (e::es) (gE t u):=by
 intro pins s σ H vs us Q I r h
 obtain ⟨v,vr,e1,h⟩:=h
 subst e1
 cases r with
 | cons r rr=>
  rw [hs]
  refine assignInOrder_cons (g6 (h1 pins s σ H _ _ _ I r h) fun _ s1 ⟨σ1,H1,I1,q1⟩=>?_)
  exact h2 pins s1 σ1 H1 _ _ Q I1 rr q1
def jO (K:PySem.W.Frag) (n:Nat) (t:Q5):TG:=fun v σ H Q=>∃a xs,v=.ref a∧SqT K H a xs∧xs.length=n∧t xs σ H Q
theorem T2 {es:List Expr} {k:Nat} {t:Q5} {n:Nat} (hc:X.calm=true) (h:cX X es t)
  (hn:(assignEach es X.env).length=n:=by rfl) (hst:(assignEach es X.env).findIdx? (·.1)=none:=by rfl):PG X (.Tuple es k pos) (jO X.K n t):=by
 intro pins s σ H v u Q I r hw
 obtain ⟨a,xs,e1,hq,hl,hw⟩:=hw
 subst e1
 cases r
 obtain ⟨its,rv,ht,hz⟩:=I.tuple hq
 refine assign_Tuple_tuple (I.ok.hd hc) ht (by simp [hn,←hl,rv.length]) hst fun h' hx=>?_
 have I1:Inv X pins σ H { s with heap:=h' }:=I.kept (t':=s.toks) fun b o e=>hx b o (Nat.ne_of_lt (Heap.lt_size e)) e
 exact h pins _ σ H xs _ Q I1 (by simpa using rv) hw
def jD (to ti:TE) (t:gW):TG:=fun v σ H Q=>to σ H fun o H1=>ti σ H1 fun i H2=>t o i v H2 fun H3=>Q σ H3
theorem iD {o i:Expr} {to ti:TE} {t:gW} (ho:PE X o to) (hi:PE X i ti) (hs:pL X t)
  (ha:∀v,assign (.Subscript o i pos) X.env v=(do
   let ov ←holding [v] (eval o X.env)
   let iv ←holding [v,ov] (eval i X.env)
   standAt pos
   holding [v,ov,iv] (setItem ov iv v)
   release [v,ov,iv] []):=by intro _;rfl):PG X (.Subscript o i pos) (jD to ti t):=by
 intro pins s σ H v u Q I r h
 rw [ha]
 refine wpAny_bind (wpAny_holding (g6 (ho pins s σ H _ I h) fun ov s1 ⟨x,H1,I1,r1,q1⟩=>?_))
 refine wpAny_bind (wpAny_holding (g6 (hi pins s1 σ H1 _ I1 q1) fun iv s2 ⟨y,H2,I2,r2,q2⟩=>?_))
 refine wpAny_bind (wpAny_standAt (wpAny_bind (wpAny_holding (g6 (hs pins s2 σ H2 x y v ov iv u _ I2 r1 r2 r q2) fun _ s3 ⟨H3,I3,q3⟩=>?_))))
 exact wpAny_release ⟨σ,H3,I3,q3⟩
def bR (te:TE) (g:TG):TS:=fun D σ H=>te σ H fun x H1=>g x σ H1 D.nx
theorem eU {tg e:Expr} {te:TE} {g:TG} (he:PE X e te) (hg:PG X tg g) (hs:swapsWithSole [tg] e pos.line X.env=pure false:=by rfl) (hw:swappedStores [tg] e X.env=pure none:=by rfl)
  (h1:(assignEach [tg] X.env).map (·.2)=[assign tg X.env]:=by rfl):PS X (.Assign [tg] e pos) (bR te g):=by
 intro pins s σ H D I h
 refine wpAny_Assign_stores (g6 (he pins s σ H _ I h) fun v s1 ⟨x,H1,I1,r1,q1⟩=>?_) hs hw
 rw [h1]
 exact g6 (hg pins s1 σ H1 x v _ I1 r1 q1) fun _ s2 q=>q
theorem j4 {i:Nat} {x:Str} {e:Expr} {te:TE} {pos':Pos} (hN:X.N.Nodup) (hi:X.N[i]?=some x) (hx:Loc X.env.scope x) (he:PE X e te) (hs:swapsWith e (some (.Name x pos')) pos.line X.env=pure false:=by rfl) (hf:X.fn x=true∨X.env.scope.names.lookup x=some .local:=by first | exact .inl rfl|exact .inr rfl|assumption) :
  PS X (.Assign [.Name x pos'] e pos) (bR te (P6 i)):=by
 intro pins s σ H D I h
 refine wpAny_Assign_Name (g6 (he pins s σ H _ I h) fun v s1 ⟨y,H1,I1,r1,q1⟩=>?_) hs
 exact fC I1 hN hi hx r1 (fun s2 I2=>⟨_,H1,I2,q1⟩) hf
def DT (i:Nat) (te:TE) (ti:bK):TS:=fun D σ H=>∃x,σ[i]?=some (some x)∧te σ H fun y H1=>ti x y H1 fun z H2=>D.nx (σ.set i (some z)) H2
theorem bU {i:Nat} {x:Str} {e:Expr} {te:TE} {op:Operator} {ti:bK} {pos':Pos} (hN:X.N.Nodup) (hi:X.N[i]?=some x) (hx:Loc X.env.scope x) (he:PE X e te) (ho:mM X op ti) (hf:X.fn x=true∨X.env.scope.names.lookup x=some .local:=by first | exact .inl rfl|exact .inr rfl|assumption) :
  PS X (.AugAssign (.Name x pos') op e pos) (DT i te ti):=by
 intro pins s σ H D I h
 obtain ⟨v,e1,h⟩:=h
 obtain ⟨m,hn,hl⟩:=I.loc
 have vis:T6 X.env.scope x:=by rcases hx with k|k;exact .inl k;exact .inr (.inl k)
 obtain ⟨u,r,l⟩:=hl i x v hi e1 vis
 refine wpAny_AugAssign_Name ?_
 have go:wpAny (model X.prog X.w) X.A (eval e X.env) (fun w s₂=>wpAny (model X.prog X.w) X.A (inplaceOp op u w) (fun r s₃=>wpAny (model X.prog X.w) X.A (storeName X.env x r) (fun _=>SP X pins D .next) X.xe s₃) X.xe s₂) X.xe s:=by
  refine g6 (he pins s σ H _ I h) fun w s1 ⟨y,H1,I1,r1,q1⟩=>?_
  refine g6 (ho pins s1 σ H1 v y u w _ I1 r r1 q1) fun z s2 ⟨zv,H2,I2,r2,q2⟩=>?_
  exact fC I2 hN hi hx r2 (fun s3 I3=>⟨_,H2,I3,q2⟩) hf
 rcases l with ⟨hk,hm⟩|⟨hk,c,hc,hcell⟩
 ·exact wpAny_loadName_local I.ok.kind hk hn hm go
 ·rcases hk with hk|hk
  ·exact wpAny_loadName_cell I.ok.kind hk hc hcell go
  ·rcases hx with k|k
   ·have:X.env.scope.names.lookup x=some .free:=hk
    rw [k] at this;cases this
   ·have:X.env.scope.names.lookup x=some .free:=hk
    rw [k] at this;cases this
def Cv (f:Int→Int→Int):bK:=fun x y H Q=>∃i j,x=.int i∧y=.int j∧Q (.int (f i j)) H
theorem aE:mM X .Add (Cv fun i j=>i+j):=by
 intro pins s σ H x y v u Q I r1 r2 h
 obtain ⟨i,j,e1,e2,q⟩:=h
 subst e1;subst e2
 obtain ⟨t,rfl⟩:=r1
 obtain ⟨t',rfl⟩:=r2
 exact iadd_int ⟨.int _,H,I.tok _,⟨_,rfl⟩,q⟩
end
section
variable {X:Cx} {pos:Pos}
def AL (c:TT) (tb:TS):TS:=fun D σ H=>∃W:Nat→St→Hp→Prop,(∃m,W m σ H)∧∀m σ H,W m σ H→
 c σ H fun b H1=>if b=true then ∃N:St→Hp→Prop,(∀σ' H',N σ' H'→∃m',m' < m∧W m' σ' H')∧tb { D with nx:=N,ct:=N,bk:=D.nx } σ H1 else D.nx σ H1
theorem Z0 {c:Expr} {body:List Stmt} {tc:TT} {tb:TS} (hp:PassesOwn (model X.prog X.w) X.A X.env X.xe) (hc:PT X c tc) (hb:PSs X body tb):PS X (.While c body [] pos) (AL tc tb):=by
 intro pins s σ H D I h
 obtain ⟨W,⟨m0,w0⟩,turn⟩:=h
 refine wpAny_While (codeAny_whileLoop (fun n s'=>∃σ' H',Inv X pins σ' H' s'∧W n σ' H') ?_ m0 ⟨σ,H,I,w0⟩)
 rintro n s1 ⟨σ1,H1,I1,w1⟩
 refine wpAny_passesOwn hp (g6 (hc pins s1 σ1 H1 _ I1 (turn n σ1 H1 w1)) fun b s2 ⟨H2,I2,q2⟩=>?_)
 cases b with
 | true=>
  obtain ⟨N,hN,q2⟩:=q2
  rw [if_pos rfl]
  refine wpAny_passesOwn hp (g6 (hb pins s2 σ1 H2 _ I2 q2) fun f s3 q3=>?_)
  cases f with
  | next=>
   obtain ⟨σ3,H3,I3,n3⟩:=q3
   obtain ⟨m',hm,w3⟩:=hN σ3 H3 n3
   exact ⟨m',hm,σ3,H3,I3,w3⟩
  | cont=>
   obtain ⟨σ3,H3,I3,n3⟩:=q3
   obtain ⟨m',hm,w3⟩:=hN σ3 H3 n3
   exact ⟨m',hm,σ3,H3,I3,w3⟩
  | brk=>exact q3
  | ret v=>exact q3
 | false=>
  rw [if_neg Bool.false_ne_true]
  exact wpAny_execs_nil ⟨σ1,H2,I2,q2⟩
end
structure It where
 go:Nat→Hp→Prop
 yld:Nat→Hp→V→Hp→Prop
 stop:Nat→Hp→Prop
def J2 (X:Cx) (pins:List (Addr×Obj)) (H:Hp) (b:Addr):Prop:=
 H b=none∧b≠X.env.locals∧b∉X.fs∧(b∈X.ex∨X.s_0.heap.objs.size≤b)∧(∀x c,X.env.cells.lookup x=some c→c≠b)∧∀p∈X.pn++pins,p.1≠b
theorem Inv.fpOk {X:Cx} {pins:List (Addr×Obj)} {σ:St} {H H':Hp} {s:Shared} {b:Addr} (I:Inv X pins σ H s) (hb:s.heap.objs.size≤b) (hn:H' b=none):J2 X pins H' b:=by
 refine ⟨hn,Nat.ne_of_gt (Nat.lt_of_lt_of_le I.lt hb),I.nofs hb,.inr (Nat.le_trans I.sz hb),fun x c e z=>?_,fun p hp z=>?_⟩
 ·obtain ⟨v,q⟩:=I.cell x c e
  exact absurd (Nat.lt_of_lt_of_le q.lt (by rw [z];exact hb)) (Nat.lt_irrefl _)
 ·exact absurd (Nat.lt_of_lt_of_le (Heap.lt_size (I.pin p hp).1) (by rw [z];exact hb)) (Nat.lt_irrefl _)
structure N3 (P:Program) (w:World) (K:PySem.W.Frag) (tg:Expr) (J:It) (fp:List Addr) (it:Addr) (tn:Nat→Heap→Prop):Prop where
 mem:it∈fp
 obj:∀i h,tn i h→∀b∈fp,∃o,h.get? b=some o∧∀v,o.data≠.cell v
 keep:∀i h h',tn i h→(∀b∈fp,∀o,h.get? b=some o→h'.get? b=some o)→tn i h'
 item:∀(X:Cx),X.prog=P→X.w=w→X.K=K→X.calm=true→∀(i:Nat) (pins:List (Addr×Obj)) (s:Shared) (σ:St) (H:Hp) (E:Value→Shared→Prop),Inv X pins σ H s→(∀b∈fp,J2 X pins H b)→tn i s.heap→J.go i H→
  wpAny (model P w) X.A (pyNext (.ref it)) (fun r s1=>∃u,r=some u∧
   wpAny (model P w) X.A (letOwnedTupleGo tg (.ref it) u) (fun _ s2=>∃x H',Inv X pins σ H' s2∧RelV x u∧J.yld i H x H'∧tn (i+1) s2.heap∧∀b∈fp,H' b=none) E s1) E s
 done:∀(X:Cx),X.prog=P→X.w=w→X.K=K→X.calm=true→∀(i:Nat) (pins:List (Addr×Obj)) (s:Shared) (σ:St) (H:Hp) (E:Value→Shared→Prop),Inv X pins σ H s→(∀b∈fp,J2 X pins H b)→tn i s.heap→J.stop i H→
  wpAny (model P w) X.A (pyNext (.ref it)) (fun r s1=>r=none∧Inv X pins σ H s1) E s
 self:∀(A:Around) (i:Nat) (s:Shared) (Q:Value→Shared→Prop) (E:Value→Shared→Prop),tn i s.heap→Q (.ref it) s→wpAny (model P w) A (pyIter (.ref it)) Q E s
abbrev TI:=St→Hp→(It→Hp→Prop)→Prop
def cS (X:Cx) (pins:List (Addr×Obj)) (σ:St) (tg:Expr) (R:It→Hp→Prop) (itv:Value) (s2:Shared):Prop:=
 ∃(it:Addr) (fp:List Addr) (tn:Nat→Heap→Prop) (J:It) (H':Hp),itv=.ref it∧Inv X pins σ H' s2∧N3 X.prog X.w X.K tg J fp it tn∧tn 0 s2.heap∧(∀b∈fp,J2 X pins H' b)∧R J H'
def PI (X:Cx) (tg iter:Expr) (wi:TI):Prop:=
 ∀(pins:List (Addr×Obj)) (s:Shared) (σ:St) (H:Hp) (R:It→Hp→Prop),Inv X pins σ H s→wi σ H R→
  wpAny (model X.prog X.w) X.A (eval iter X.env) (fun v s1=>wpAny (model X.prog X.w) X.A (pyIter v) (cS X pins σ tg R) X.xe s1) X.xe s
theorem bO {M:Model} {A:Around} {E:Value→Shared→Prop} {s:Shared} {tg:Expr} {it:Addr} {u:Value} {o:Obj} {n:String} {vs:Array Value} {Q:Unit→Shared→Prop} (ho:s.heap.get? it=some o) (hc:o.cls=.type n) (hd:o.data=.fields vs)
  (hn:["enumerate","zip","dict_itemiterator","dict_reverseitemiterator","odict_iterator","itertools.zip_longest","itertools.pairwise"].contains n=false) (hQ:Q () s):wpAny M A (letOwnedTupleGo tg (.ref it) u) Q E s:=by
 unfold letOwnedTupleGo
 cases tg<;>first
  | exact wpAny_pure hQ
  | (cases u<;>first
    | exact wpAny_pure hQ
    | (refine wpAny_bind (wpAny_load ho ?_);rw [hc,hd];show wpAny M A (if (["enumerate","zip","dict_itemiterator","dict_reverseitemiterator","odict_iterator","itertools.zip_longest","itertools.pairwise"].contains n && vs[0]?==some (rawInt _))=true then _ else _) Q E s;rw [if_neg (by intro h;rw [hn,Bool.false_and] at h;cases h)];exact wpAny_pure hQ))
def J5 (K:PySem.W.Frag) (a:Addr):It:=
 ⟨fun i H=>∃xs x,SqL K H a xs∧xs[i]?=some x,fun i H x H'=>H'=H∧∀xs,SqL K H a xs→xs[i]?=some x,fun i H=>∃xs,SqL K H a xs∧xs.length≤i⟩
def I0 (K:PySem.W.Frag) (a:Addr):It:=
 ⟨fun i H=>∃xs x,SqT K H a xs∧xs[i]?=some x,fun i H x H'=>H'=H∧∀xs,SqT K H a xs→xs[i]?=some x,fun i H=>∃xs,SqT K H a xs∧xs.length≤i⟩
def J8 (lo:Int) (n:Nat):It:=⟨fun i _=>i < n,fun i H x H'=>H'=H∧x=.int (lo+i),fun i _=>n≤i⟩
theorem pK {P:Program} {w:World} {K:PySem.W.Frag} {tg:Expr} (a it:Addr):N3 P w K tg (J5 K a) [it] it (fun i h=>h.IsListIter it a i) where
 mem:=by simp
 obj:=fun i h st b hb=>by
  have e:b=it:=by simpa using hb
  subst e
  obtain ⟨o,e,c,d⟩:=st
  exact ⟨o,e,fun v z=>by rw [d] at z;cases z⟩
 keep:=fun i h h' st k=>st.at fun o e=>k it (by simp) o e
 item:=by
  intro X hP hw hK hc i pins s σ H E I hf st hg
  subst hP hw hK
  obtain ⟨xs,x,hq,hx⟩:=hg
  obtain ⟨its,rv,p,hz⟩:=I.list hq
  obtain ⟨u,hu,ru⟩:=rv.get hx
  obtain ⟨f0,f1,f2,f3,f4,f5⟩:=hf it (by simp)
  refine wpAny_pyNext_list_item st p.isList (x:=u) (by simpa using hu) fun h' st' sb=>?_
  have I1:Inv X pins σ H { s with heap:=h' }:=I.turned (t':=s.toks) (fun b o hb e=>(sb.2 b hb).trans e) f0 f1 f3 f4 f5
  obtain ⟨o,e,c,d⟩:=id st'
  exact ⟨u,rfl,bO (s:={ s with heap:=h' }) e c d (by decide) ⟨x,H,I1,ru,⟨rfl,fun ys hy=>by rw [I.list_inj hy hq];exact hx⟩,st',fun b hb=>(hf b hb).1⟩⟩
 done:=by
  intro X hP hw hK hc i pins s σ H E I hf st hg
  subst hP hw hK
  obtain ⟨xs,hq,hx⟩:=hg
  obtain ⟨its,rv,p,hz⟩:=I.list hq
  obtain ⟨f0,f1,f2,f3,f4,f5⟩:=hf it (by simp)
  have hl:=rv.length
  exact wpAny_pyNext_list_end (I.ok.hd hc) st p.isList (by simp;omega) fun h' eb=>⟨rfl,I.turned (t':=s.toks) (fun b o hb e=>eb b o hb e) f0 f1 f3 f4 f5⟩
 self:=fun _ _ _ _ _ st h=>wpAny_pyIter_listiter st h
theorem jP {P:Program} {w:World} {K:PySem.W.Frag} {tg:Expr} (a it:Addr):N3 P w K tg (I0 K a) [it] it (fun i h=>h.IsTupleIter it a i) where
 mem:=by simp
 obj:=fun i h st b hb=>by
  have e:b=it:=by simpa using hb
  subst e
  obtain ⟨o,e,c,d⟩:=st
  exact ⟨o,e,fun v z=>by rw [d] at z;cases z⟩
 keep:=fun i h h' st k=>st.at fun o e=>k it (by simp) o e
 item:=by
  intro X hP hw hK hc i pins s σ H E I hf st hg
  subst hP hw hK
  obtain ⟨xs,x,hq,hx⟩:=hg
  obtain ⟨its,rv,p,hz⟩:=I.tuple hq
  obtain ⟨u,hu,ru⟩:=rv.get hx
  obtain ⟨f0,f1,f2,f3,f4,f5⟩:=hf it (by simp)
  refine wpAny_pyNext_tuple_item st (show s.heap.IsTuple a its.toArray from p) (x:=u) (by simpa using hu) fun h' st' sb=>?_
  have I1:Inv X pins σ H { s with heap:=h' }:=I.turned (t':=s.toks) (fun b o hb e=>(sb.2 b hb).trans e) f0 f1 f3 f4 f5
  obtain ⟨o,e,c,d⟩:=id st'
  exact ⟨u,rfl,bO (s:={ s with heap:=h' }) e c d (by decide) ⟨x,H,I1,ru,⟨rfl,fun ys hy=>by rw [I.tuple_inj hy hq];exact hx⟩,st',fun b hb=>(hf b hb).1⟩⟩
 done:=by
  intro X hP hw hK hc i pins s σ H E I hf st hg
  subst hP hw hK
  obtain ⟨xs,hq,hx⟩:=hg
  obtain ⟨its,rv,p,hz⟩:=I.tuple hq
  obtain ⟨f0,f1,f2,f3,f4,f5⟩:=hf it (by simp)
  have hl:=rv.length
  exact wpAny_pyNext_tuple_end (I.ok.hd hc) st (show s.heap.IsTuple a its.toArray from p) (by simp;omega) fun h' eb=>⟨rfl,I.turned (t':=s.toks) (fun b o hb e=>eb b o hb e) f0 f1 f3 f4 f5⟩
 self:=fun _ _ _ _ _ st h=>wpAny_pyIter_tupleiter st h
theorem BM {P:Program} {w:World} {K:PySem.W.Frag} {tg:Expr} (it:Addr) (lo:Int) (n:Nat):N3 P w K tg (J8 lo n) [it] it (fun i h=>IsRangeIter h it (lo+(i:Nat)*1) ((n:Int) - (i:Nat)) 1) where
 mem:=by simp
 obj:=fun i h st b hb=>by
  have e:b=it:=by simpa using hb
  subst e
  exact ⟨_,st,fun v z=>by
   have z':Data.fields _=Data.cell v:=z
   cases z'⟩
 keep:=fun i h h' st k=>k it (by simp) _ st
 item:=by
  intro X hP hw hK hc i pins s σ H E I hf st hg
  subst hP hw hK
  obtain ⟨f0,f1,f2,f3,f4,f5⟩:=hf it (by simp)
  have W:=Walks.range (prog:=X.prog) (w:=X.w) (I.ok.hd hc) it lo 1 n
  refine W.item i s _ _ hg st fun v h' tk hv st' kk=>?_
  obtain ⟨t,rfl⟩:=hv
  have I1:Inv X pins σ H { s with heap:=h',toks:=tk }:=I.turned (fun b o hb e=>kk b o (by simpa using hb) e) f0 f1 f3 f4 f5
  refine ⟨_,rfl,bO (s:={ s with heap:=h',toks:=tk }) (n:="range_iterator") st' rfl rfl (by decide) ⟨.int (lo+i),H,I1,⟨t,?_⟩,⟨rfl,rfl⟩,st',fun b hb=>(hf b hb).1⟩⟩
  rw [Int.mul_one]
 done:=by
  intro X hP hw hK hc i pins s σ H E I hf st hg
  subst hP hw hK
  obtain ⟨f0,f1,f2,f3,f4,f5⟩:=hf it (by simp)
  exact wpAny_pyNext_range_end (I.ok.hd hc) st (by have:n≤i:=hg;omega) fun h' eb=>⟨rfl,I.turned (t':=s.toks) (fun b o hb e=>eb b o hb e) f0 f1 f3 f4 f5⟩
 self:=fun _ _ _ _ _ st h=>wpAny_pyIter_rangeiter st h
section
variable {X:Cx} {tg:Expr}
def xG (K:PySem.W.Frag) (tl:TE):TI:=fun σ H R=>tl σ H fun x H1=>∃a,x=.ref a∧(∃xs,SqL K H1 a xs)∧R (J5 K a) H1
def BU (K:PySem.W.Frag) (tl:TE):TI:=fun σ H R=>tl σ H fun x H1=>∃a,x=.ref a∧(∃xs,SqT K H1 a xs)∧R (I0 K a) H1
theorem F2 {l:Expr} {tl:TE} (hl:PE X l tl):PI X tg l (xG X.K tl):=by
 intro pins s σ H R I h
 refine g6 (hl pins s σ H _ I h) fun v s1 ⟨x,H1,I1,r1,q1⟩=>?_
 obtain ⟨a,e,⟨xs,hq⟩,q⟩:=q1
 subst e
 cases r1
 obtain ⟨its,rv,p,hz⟩:=I1.list hq
 refine wpAny_pyIter_list p.isList ?_
 refine ⟨s1.heap.objs.size,[s1.heap.objs.size],_,_,H1,rfl,I1.kept (t':=s1.toks) fun b o e=>Heap.get?_push_of_some _ e,pK a _,⟨_,Heap.get?_push_size _ rfl,rfl,rfl⟩,fun b hb=>?_,q⟩
 have e:b=s1.heap.objs.size:=by simpa using hb
 subst e
 exact I1.fpOk (Nat.le_refl _) (I1.hok.fresh (Nat.le_refl _))
theorem aA {l:Expr} {tl:TE} (hl:PE X l tl):PI X tg l (BU X.K tl):=by
 intro pins s σ H R I h
 refine g6 (hl pins s σ H _ I h) fun v s1 ⟨x,H1,I1,r1,q1⟩=>?_
 obtain ⟨a,e,⟨xs,hq⟩,q⟩:=q1
 subst e
 cases r1
 obtain ⟨its,rv,p,hz⟩:=I1.tuple hq
 refine wpAny_pyIter_tuple (show s1.heap.IsTuple a its.toArray from p) ?_
 refine ⟨s1.heap.objs.size,[s1.heap.objs.size],_,_,H1,rfl,I1.kept (t':=s1.toks) fun b o e=>Heap.get?_push_of_some _ e,jP a _,⟨_,Heap.get?_push_size _ rfl,rfl,rfl⟩,fun b hb=>?_,q⟩
 have e:b=s1.heap.objs.size:=by simpa using hb
 subst e
 exact I1.fpOk (Nat.le_refl _) (I1.hok.fresh (Nat.le_refl _))
theorem AE {pins:List (Addr×Obj)} {σ:St} {H:Hp} {s:Shared} {R:It→Hp→Prop} {E:Value→Shared→Prop} {lo hi:Int} {t u v:Tok} {tk:Nat} (I:Inv X pins σ H s) (h1:-(2 ^ 62)≤lo) (h2:lo < 2 ^ 62) (h3:-(2 ^ 62)≤hi) (h4:hi < 2 ^ 62)
  (q:R (J8 lo (hi - lo).toNat) H):wpAny (model X.prog X.w) X.A (pyIter (.ref s.heap.objs.size)) (cS X pins σ tg R) E { s with heap:=s.heap.push { cls:=.type "range",data:=.fields #[.int lo t,.int hi u,.int 1 v] },toks:=tk }:=by
 refine wpAny_pyIter_range (IsRange.new ..) (small_one h1 h2 h3 h4) ?_
 have I1:Inv X pins σ H { s with heap:=s.heap.push { cls:=.type "range",data:=.fields #[.int lo t,.int hi u,.int 1 v] },toks:=tk }:=I.kept fun b o e=>Heap.get?_push_of_some _ e
 refine ⟨(s.heap.push { cls:=.type "range",data:=.fields #[.int lo t,.int hi u,.int 1 v] }).objs.size,[(s.heap.push { cls:=.type "range",data:=.fields #[.int lo t,.int hi u,.int 1 v] }).objs.size],_,_,H,rfl,
  I1.kept (t':=tk) fun b o e=>Heap.get?_push_of_some _ e,BM _ lo (hi - lo).toNat,?_,fun b hb=>?_,q⟩
 ·have e1:lo+((0:Nat):Int)*1=lo:=by simp
  have e2:(((hi - lo).toNat:Nat):Int) - ((0:Nat):Int)=Builtin.Range.rangeSize lo hi 1:=by rw [rangeSize_one];split<;>omega
  show IsRangeIter _ _ (lo+((0:Nat):Int)*1) ((((hi - lo).toNat:Nat):Int) - ((0:Nat):Int)) 1
  rw [e1,e2]
  exact Heap.get?_push_size _ rfl
 ·have e:b=(s.heap.push { cls:=.type "range",data:=.fields #[.int lo t,.int hi u,.int 1 v] }).objs.size:=by simpa using hb
  subst e
  exact I1.fpOk (Nat.le_refl _) (I1.hok.fresh (Nat.le_refl _))
def wR (ta:TA):TI:=fun σ H R=>ta σ H fun vs H1=>∃j:Int,vs=[.int j]∧-(2 ^ 62)≤j∧j < 2 ^ 62∧R (J8 0 j.toNat) H1
theorem fE {a:Expr} {ta:TA} {p pos:Pos} (hg:Gl X "range") (hm:X.mg "range"=none) (ha:PA X [a] ta) (hs:starEach [a] X.env=[(false,eval a X.env)]:=by rfl):PI X tg (.Call (.Name "range" p) [a] [] pos) (wR ta):=by
 intro pins s σ H R I h
 refine Call_ (R8 I hg hm boot_range (PyProof.Rows.callWith_type1 (g6 (ha pos pins s σ H _ I h) fun us s1 ⟨vs,H1,I1,r1,q1⟩=>?_) hs rfl))
 obtain ⟨j,e,q1,q2,q⟩:=q1
 subst e
 cases r1 with
 | cons r rr=>
  cases rr
  obtain ⟨t,rfl⟩:=r
  exact call_range_1 (AE I1 (by omega) (by omega) q1 q2 (by simpa using q))
def mE (wi:TI) (g:TG) (tb:TS):TS:=fun D σ H=>wi σ H fun J H1=>∃W:Nat→Nat→St→Hp→Prop,(∃m,W 0 m σ H1)∧∀i m σ H,W i m σ H→
 (J.stop i H∧D.nx σ H)∨(J.go i H∧∃N:St→Hp→Prop,(∀σ' H',N σ' H'→∃m',m' < m∧W (i+1) m' σ' H')∧∀x H',J.yld i H x H'→g x σ H' fun σ2 H2=>tb { D with nx:=N,ct:=N,bk:=D.nx } σ2 H2)
def U5 (fp:List Addr) (h:Heap):List (Addr×Obj):=fp.filterMap fun b=>(h.get? b).map fun o=>(b,o)
theorem dJ {fp:List Addr} {h:Heap} {b:Addr} {o:Obj} (hb:b∈fp) (e:h.get? b=some o):(b,o)∈U5 fp h:=List.mem_filterMap.mpr ⟨b,hb,by rw [e];rfl⟩
theorem EG {fp:List Addr} {h:Heap} {p:Addr×Obj} (hp:p∈U5 fp h):p.1∈fp∧h.get? p.1=some p.2:=by
 obtain ⟨b,hb,e⟩:=List.mem_filterMap.mp hp
 cases q:h.get? b with
 | none=>rw [q] at e;cases e
 | some o=>
  rw [q] at e
  have e':(b,o)=p:=Option.some.inj e
  subst e'
  exact ⟨hb,q⟩
theorem Inv.pinned {pins:List (Addr×Obj)} {σ:St} {H:Hp} {s:Shared} {fp:List Addr} (I:Inv X pins σ H s) (hf:∀b∈fp,J2 X pins H b) (ho:∀b∈fp,∃o,s.heap.get? b=some o∧∀v,o.data≠.cell v):Inv X (pins++U5 fp s.heap) σ H s:=
 I.pins_of fun p hp=>(List.mem_append.mp hp).elim (fun z=>I.pin p (List.mem_append_right _ z)) fun z=>by
  obtain ⟨hb,e⟩:=EG z
  obtain ⟨f0,f1,f2,_⟩:=hf p.1 hb
  obtain ⟨o,e',d⟩:=ho p.1 hb
  rw [e] at e';cases e'
  exact ⟨e,f0,f1,f2,d⟩
theorem Inv.unpinned {pins pl:List (Addr×Obj)} {σ:St} {H:Hp} {s:Shared} (I:Inv X (pins++pl) σ H s):Inv X pins σ H s:=I.pins_of fun p hp=>I.pin p (List.mem_append_right _ (List.mem_append_left _ hp))
theorem B9 {iter:Expr} {body:List Stmt} {wi:TI} {g:TG} {tb:TS} {pos:Pos} (hp:PassesOwn (model X.prog X.w) X.A X.env X.xe) (hc:X.calm=true) (hi:PI X tg iter wi) (hg:PG X tg g) (hb:PSs X body tb)
  (hs:∀x,foldedSetIterable iter X.env x=pure x:=by intro _;rfl):PS X (.For tg iter body [] pos) (mE wi g tb):=by
 intro pins s σ H D I h
 refine wpAny_For (g6 (hi pins s σ H _ I h) fun v s1 h1=>g6 h1 fun itv s2 h2=>?_) hs
 obtain ⟨it,fp,tn,J,H2,e,I2,T,st2,f2,W,⟨m0,w0⟩,turn⟩:=h2
 subst e
 have stat:∀{H':Hp},(∀b∈fp,H' b=none)→∀b∈fp,J2 X pins H' b:=fun hn b hb=>⟨hn b hb,(f2 b hb).2⟩
 refine codeAny_forLoop_any (fun n s'=>∃i σ' H',Inv X pins σ' H' s'∧tn i s'.heap∧(∀b∈fp,H' b=none)∧W i n σ' H') ?_ m0 ⟨0,σ,H2,I2,st2,fun b hb=>(f2 b hb).1,w0⟩
 rintro n s3 ⟨i,σ3,H3,I3,st3,fr3,w3⟩
 rcases turn i n σ3 H3 w3 with ⟨stop,qn⟩|⟨go,N,hN,step⟩
 ·refine wpAny_passesOwn hp (g6 (T.done X rfl rfl rfl hc i pins s3 σ3 H3 X.xe I3 (stat fr3) st3 stop) fun r s4 ⟨hr,I4⟩=>?_)
  subst hr
  exact wpAny_execs_nil ⟨σ3,H3,I4,qn⟩
 ·refine wpAny_passesOwn hp (g6 (T.item X rfl rfl rfl hc i pins s3 σ3 H3 X.xe I3 (stat fr3) st3 go) fun r s4 ⟨u,hr,h4⟩=>?_)
  subst hr
  refine wpAny_passesOwn hp (g6 h4 fun _ s5 ⟨x,H5,I5,r5,y5,st5,fr5⟩=>?_)
  have I5':=I5.pinned (stat fr5) (T.obj _ _ st5)
  refine wpAny_passesOwn hp (g6 (hg _ s5 σ3 H5 x u _ I5' r5 (step x H5 y5)) fun _ s6 ⟨σ6,H6,I6,q6⟩=>?_)
  refine wpAny_passesOwn hp (g6 (hb _ s6 σ6 H6 _ I6 q6) fun f s7 q7=>?_)
  have again:∀{σ7:St} {H7:Hp},Inv X (pins++U5 fp s5.heap) σ7 H7 s7→N σ7 H7→∃m,m < n∧∃i σ' H',Inv X pins σ' H' s7∧tn i s7.heap∧(∀b∈fp,H' b=none)∧W i m σ' H':=fun {σ7 H7} I7 n7=>by
   obtain ⟨m',hm,w7⟩:=hN σ7 H7 n7
   refine ⟨m',hm,i+1,σ7,H7,I7.unpinned,T.keep _ _ _ st5 fun b hb o e=>(I7.pin (b,o) (List.mem_append_right _ (List.mem_append_right _ (dJ hb e)))).1,fun b hb=>?_,w7⟩
   obtain ⟨o,e,d⟩:=T.obj _ _ st5 b hb
   exact (I7.pin (b,o) (List.mem_append_right _ (List.mem_append_right _ (dJ hb e)))).2.1
  cases f with
  | next=>obtain ⟨σ7,H7,I7,n7⟩:=q7;exact again I7 n7
  | cont=>obtain ⟨σ7,H7,I7,n7⟩:=q7;exact again I7 n7
  | brk=>obtain ⟨σ7,H7,I7,q7⟩:=q7;exact ⟨σ7,H7,I7.unpinned,q7⟩
  | ret v=>obtain ⟨x7,σ7,H7,I7,r7,q7⟩:=q7;exact ⟨x7,σ7,H7,I7.unpinned,r7,q7⟩
end
theorem K4 {K:PySem.W.Frag} {a:Addr} {xs:List V} {g:TG} {tb:TS} {D:G7} {σ:St} {H:Hp} (Pv:Nat→St→Hp→Prop) (h0:Pv 0 σ H) (hl:∀i σ H,i≤xs.length→Pv i σ H→SqL K H a xs)
  (hs:∀i x σ H,xs[i]?=some x→Pv i σ H→g x σ H fun σ2 H2=>tb { D with nx:=Pv (i+1),ct:=Pv (i+1),bk:=D.nx } σ2 H2) (hd:∀σ H,Pv xs.length σ H→D.nx σ H) :
  ∃W:Nat→Nat→St→Hp→Prop,(∃m,W 0 m σ H)∧∀i m σ H,W i m σ H→
   ((J5 K a).stop i H∧D.nx σ H)∨((J5 K a).go i H∧∃N:St→Hp→Prop,(∀σ' H',N σ' H'→∃m',m' < m∧W (i+1) m' σ' H')∧∀x H',(J5 K a).yld i H x H'→g x σ H' fun σ2 H2=>tb { D with nx:=N,ct:=N,bk:=D.nx } σ2 H2):=by
 refine ⟨fun i m σ H=>m=xs.length - i∧i≤xs.length∧Pv i σ H,⟨xs.length,by simp,Nat.zero_le _,h0⟩,?_⟩
 rintro i m σ H ⟨rfl,hi,p⟩
 have q:=hl i σ H hi p
 by_cases hlt:i < xs.length
 ·refine .inr ⟨⟨xs,xs[i],q,by simp [hlt]⟩,Pv (i+1),fun σ' H' p'=>⟨xs.length - (i+1),by omega,rfl,hlt,p'⟩,fun x H' y=>?_⟩
  obtain ⟨e,y⟩:=y
  subst e
  exact hs i x σ _ (y xs q) p
 ·have e:i=xs.length:=by omega
  subst e
  exact .inl ⟨⟨xs,q,Nat.le_refl _⟩,hd σ H p⟩
theorem aX {K:PySem.W.Frag} {a:Addr} {xs:List V} {g:TG} {tb:TS} {D:G7} {σ:St} {H:Hp} (Pv:Nat→St→Hp→Prop) (h0:Pv 0 σ H) (hl:∀i σ H,i≤xs.length→Pv i σ H→SqT K H a xs)
  (hs:∀i x σ H,xs[i]?=some x→Pv i σ H→g x σ H fun σ2 H2=>tb { D with nx:=Pv (i+1),ct:=Pv (i+1),bk:=D.nx } σ2 H2) (hd:∀σ H,Pv xs.length σ H→D.nx σ H) :
  ∃W:Nat→Nat→St→Hp→Prop,(∃m,W 0 m σ H)∧∀i m σ H,W i m σ H→
   ((I0 K a).stop i H∧D.nx σ H)∨((I0 K a).go i H∧∃N:St→Hp→Prop,(∀σ' H',N σ' H'→∃m',m' < m∧W (i+1) m' σ' H')∧∀x H',(I0 K a).yld i H x H'→g x σ H' fun σ2 H2=>tb { D with nx:=N,ct:=N,bk:=D.nx } σ2 H2):=by
 refine ⟨fun i m σ H=>m=xs.length - i∧i≤xs.length∧Pv i σ H,⟨xs.length,by simp,Nat.zero_le _,h0⟩,?_⟩
 rintro i m σ H ⟨rfl,hi,p⟩
 have q:=hl i σ H hi p
 by_cases hlt:i < xs.length
 ·refine .inr ⟨⟨xs,xs[i],q,by simp [hlt]⟩,Pv (i+1),fun σ' H' p'=>⟨xs.length - (i+1),by omega,rfl,hlt,p'⟩,fun x H' y=>?_⟩
  obtain ⟨e,y⟩:=y
  subst e
  exact hs i x σ _ (y xs q) p
 ·have e:i=xs.length:=by omega
  subst e
  exact .inl ⟨⟨xs,q,Nat.le_refl _⟩,hd σ H p⟩
theorem Ee {lo:Int} {n:Nat} {g:TG} {tb:TS} {D:G7} {σ:St} {H:Hp} (Pv:Nat→St→Hp→Prop) (h0:Pv 0 σ H)
  (hs:∀i σ H,i < n→Pv i σ H→g (.int (lo+i)) σ H fun σ2 H2=>tb { D with nx:=Pv (i+1),ct:=Pv (i+1),bk:=D.nx } σ2 H2) (hd:∀σ H,Pv n σ H→D.nx σ H) :
  ∃W:Nat→Nat→St→Hp→Prop,(∃m,W 0 m σ H)∧∀i m σ H,W i m σ H→
   ((J8 lo n).stop i H∧D.nx σ H)∨((J8 lo n).go i H∧∃N:St→Hp→Prop,(∀σ' H',N σ' H'→∃m',m' < m∧W (i+1) m' σ' H')∧∀x H',(J8 lo n).yld i H x H'→g x σ H' fun σ2 H2=>tb { D with nx:=N,ct:=N,bk:=D.nx } σ2 H2):=by
 refine ⟨fun i m σ H=>m=n - i∧i≤n∧Pv i σ H,⟨n,by simp,Nat.zero_le _,h0⟩,?_⟩
 rintro i m σ H ⟨rfl,hi,p⟩
 by_cases hlt:i < n
 ·refine .inr ⟨hlt,Pv (i+1),fun σ' H' p'=>⟨n - (i+1),by omega,rfl,hlt,p'⟩,fun x H' y=>?_⟩
  obtain ⟨e,y⟩:=y
  subst e y
  exact hs i σ _ hlt p
 ·have e:i=n:=by omega
  subst e
  exact .inl ⟨Nat.le_refl _,hd σ H p⟩
abbrev R2:=V→V→Hp→VK→Prop
def o9 (X:Cx) (f:Value→Value→Sem Value) (r:R2):Prop:=
 ∀(pins:List (Addr×Obj)) (s:Shared) (σ:St) (H:Hp) (x y:V) (v u:Value) (Q:VK),Inv X pins σ H s→RelV x v→RelV y u→r x y H Q→
  wpAny (model X.prog X.w) X.A (f v u) (EP X pins σ Q) X.xe s
def dR (X:Cx) (f:Value→Sem Value) (r:V→Hp→VK→Prop):Prop:=
 ∀(pins:List (Addr×Obj)) (s:Shared) (σ:St) (H:Hp) (x:V) (v:Value) (Q:VK),Inv X pins σ H s→RelV x v→r x H Q→
  wpAny (model X.prog X.w) X.A (f v) (EP X pins σ Q) X.xe s
def N4 (X:Cx) (f:Value) (r:List V→Hp→VK→Prop):Prop:=
 ∀(pins:List (Addr×Obj)) (s:Shared) (σ:St) (H:Hp) (xs:List V) (us:List Value) (Q:VK),Inv X pins σ H s→Vals xs us→r xs H Q→
  wpAny (model X.prog X.w) X.A (call f us) (EP X pins σ Q) X.xe s
def CB (X:Cx) (r:V→Hp→(Bool→Hp→Prop)→Prop):Prop:=
 ∀(pins:List (Addr×Obj)) (s:Shared) (σ:St) (H:Hp) (x:V) (v:Value) (Q:Bool→Hp→Prop),Inv X pins σ H s→RelV x v→r x H Q→
  wpAny (model X.prog X.w) X.A (truthy v) (TP X pins σ Q) X.xe s
def F1 (r:R2) (ta tb:TE):TE:=fun σ H Q=>ta σ H fun x H1=>tb σ H1 fun y H2=>r x y H2 Q
def yD (r:V→Hp→VK→Prop) (ta:TE):TE:=fun σ H Q=>ta σ H fun x H1=>r x H1 Q
def rI (C:Int→Int→Prop) (g:Int→Int→V):R2:=fun x y H Q=>∃i j,x=.int i∧y=.int j∧C i j∧Q (g i j) H
def F5 (g:Int→Int→V):R2:=fun x y H Q=>∃i j,x=.int i∧y=.int j∧Q (g i j) H
def rU (g:Int→V):V→Hp→VK→Prop:=fun x H Q=>∃i,x=.int i∧Q (g i) H
section
variable {X:Cx} {a b c:Expr} {ta tb tc:TE} {pos:Pos}
theorem fL (ha:PE X a ta) (hb:PE X b tb) {pins:List (Addr×Obj)} {s:Shared} {σ:St} {H:Hp} {R:V→V→Hp→Prop} (I:Inv X pins σ H s)
  (h:ta σ H fun x H1=>tb σ H1 fun y H2=>R x y H2) {Q:Value→Shared→Prop} {f:Value→Value→Sem Value}
  (hf:∀v u s2 x y H2,Inv X pins σ H2 s2→RelV x v→RelV y u→R x y H2→wpAny (model X.prog X.w) X.A (f v u) Q X.xe s2) :
  wpAny (model X.prog X.w) X.A (eval a X.env) (fun v s₁=>wpAny (model X.prog X.w) X.A (eval b X.env) (fun u s₂=>wpAny (model X.prog X.w) X.A (f v u) Q X.xe s₂) X.xe s₁) X.xe s:=by
 refine g6 (ha pins s σ H _ I h) fun v s1 ⟨x,H1,I1,r1,q1⟩=>?_
 refine g6 (hb pins s1 σ H1 _ I1 q1) fun u s2 ⟨y,H2,I2,r2,q2⟩=>?_
 exact hf v u s2 x y H2 I2 r1 r2 q2
theorem j6 {op:Operator} {r:R2} (ho:o9 X (binaryOp op) r) (ha:PE X a ta) (hb:PE X b tb):PE X (.BinOp a op b pos) (F1 r ta tb):=by
 intro pins s σ H Q I h
 exact wpAny_BinOp (fL ha hb I h fun v u s2 x y H2 I2 rx ry q=>ho pins s2 σ H2 x y v u Q I2 rx ry q)
theorem Dk {op:UnaryOp} {r:V→Hp→VK→Prop} (ho:dR X (unaryOp op) r) (ha:PE X a ta):PE X (.UnaryOp op a pos) (yD r ta):=by
 intro pins s σ H Q I h
 exact UnaryOp_ (g6 (ha pins s σ H _ I h) fun v s1 ⟨x,H1,I1,r1,q1⟩=>ho pins s1 σ H1 x v Q I1 r1 q1)
theorem dD {f:Value→Value→Sem Value} {C:Int→Int→Prop} {g:Int→Int→Int}
  (rule:∀(i j:Int) (t u:Tok) (s:Shared) (Q:Value→Shared→Prop) (E:Value→Shared→Prop),C i j→Q (.int (g i j) s.toks) { s with toks:=s.toks+1 }→wpAny (model X.prog X.w) X.A (f (.int i t) (.int j u)) Q E s) :
  o9 X f (rI C fun i j=>.int (g i j)):=by
 intro pins s σ H x y v u Q I rx ry h
 obtain ⟨i,j,rfl,rfl,hc,q⟩:=h
 obtain ⟨t,rfl⟩:=rx
 obtain ⟨t',rfl⟩:=ry
 exact rule i j t t' s _ _ hc ⟨.int (g i j),H,I.tok _,⟨_,rfl⟩,q⟩
theorem Y6 {f:Value→Value→Sem Value} {g:Int→Int→Int}
  (rule:∀(i j:Int) (t u:Tok) (s:Shared) (Q:Value→Shared→Prop) (E:Value→Shared→Prop),Q (.int (g i j) s.toks) { s with toks:=s.toks+1 }→wpAny (model X.prog X.w) X.A (f (.int i t) (.int j u)) Q E s) :
  o9 X f (F5 fun i j=>.int (g i j)):=by
 intro pins s σ H x y v u Q I rx ry h
 obtain ⟨i,j,rfl,rfl,q⟩:=h
 obtain ⟨t,rfl⟩:=rx
 obtain ⟨t',rfl⟩:=ry
 exact rule i j t t' s _ _ ⟨.int (g i j),H,I.tok _,⟨_,rfl⟩,q⟩
theorem aK {f:Value→Value→Sem Value} {g:Int→Int→Bool}
  (rule:∀(i j:Int) (t u:Tok) (s:Shared) (Q:Value→Shared→Prop) (E:Value→Shared→Prop),Q (.bool (g i j)) s→wpAny (model X.prog X.w) X.A (f (.int i t) (.int j u)) Q E s) :
  o9 X f (F5 fun i j=>.bl (g i j)):=by
 intro pins s σ H x y v u Q I rx ry h
 obtain ⟨i,j,rfl,rfl,q⟩:=h
 obtain ⟨t,rfl⟩:=rx
 obtain ⟨t',rfl⟩:=ry
 exact rule i j t t' s _ _ ⟨.bl (g i j),H,I,rfl,q⟩
def sC (i j:Int):Prop:=0 < j∧j < 1073741824
def CMul (i j:Int):Prop:=(-(2 ^ 64) < i∧i < 2 ^ 64)∨(-(2 ^ 64) < j∧j < 2 ^ 64)
theorem CMul.ok {i j:Int} (h:CMul i j):IntMulOk i j:=by
 rcases h with ⟨h1,h2⟩|⟨h1,h2⟩
 ·exact .of_left (intBits_le_64 h1 h2)
 ·exact .of_right (intBits_le_64 h1 h2)
theorem L9:o9 X (binaryOp .Add) (F5 fun i j=>.int (i+j)):=Y6 fun _ _ _ _ _ _ _ q=>add_int q
theorem kJ:o9 X (binaryOp .Sub) (F5 fun i j=>.int (i - j)):=Y6 fun _ _ _ _ _ _ _ q=>sub_int q
theorem eS:o9 X (binaryOp .Mult) (rI CMul fun i j=>.int (i*j)):=dD fun _ _ _ _ _ _ _ hc q=>mul_int q hc.ok
theorem aZ:o9 X (binaryOp .FloorDiv) (rI sC fun i j=>.int (i / j)):=dD fun i j _ _ _ _ _ hc q=>by
 have h1:(0:Int) < j:=hc.1
 have h2:j < 1073741824:=hc.2
 exact floordiv_int (by omega) (by rw [Int.fdiv_eq_ediv_of_nonneg i (by omega)];exact q) (.inl (PyProof.noPylong_small (by omega)))
theorem T3:o9 X (binaryOp .Mod) (rI (fun _ j=>0 < j) fun i j=>.int (i % j)):=dD fun i j _ _ _ _ _ hc q=>by
 have h1:(0:Int) < j:=hc
 exact mod_int' (by omega) (by rw [Int.fmod_eq_emod_of_nonneg i (by omega)];exact q)
theorem R0:o9 X (binaryOp .BitAnd) (F5 fun i j=>.int (Builtin.bitAnd i j)):=Y6 fun _ _ _ _ _ _ _ q=>and_int q
theorem mL:o9 X (binaryOp .BitOr) (F5 fun i j=>.int (Builtin.bitOr i j)):=Y6 fun _ _ _ _ _ _ _ q=>or_int q
theorem yA:o9 X (binaryOp .BitXor) (F5 fun i j=>.int (Builtin.bitXor i j)):=Y6 fun _ _ _ _ _ _ _ q=>xor_int q
theorem BC {f:Value→Sem Value} {g:Int→Int}
  (rule:∀(i:Int) (t:Tok) (s:Shared) (Q:Value→Shared→Prop) (E:Value→Shared→Prop),Q (.int (g i) s.toks) { s with toks:=s.toks+1 }→wpAny (model X.prog X.w) X.A (f (.int i t)) Q E s) :
  dR X f (rU fun i=>.int (g i)):=by
 intro pins s σ H x v Q I rx h
 obtain ⟨i,rfl,q⟩:=h
 obtain ⟨t,rfl⟩:=rx
 exact rule i t s _ _ ⟨.int (g i),H,I.tok _,⟨_,rfl⟩,q⟩
theorem wU:dR X (unaryOp .USub) (rU fun i=>.int (-i)):=BC fun _ _ _ _ _ q=>neg_int q
end
def mR:V→V→Bool
 | .non,.non=>true | .non,.int _=>true | .int _,.non=>true | .non,.bl _=>true | .bl _,.non=>true | .non,.str _=>true | .str _,.non=>true
 | .int _,.int _=>true | .bl _,.bl _=>true | .str _,.str _=>true | .byt _,.byt _=>true
 | .int _,.str _=>true | .str _,.int _=>true | .bl _,.str _=>true | .str _,.bl _=>true
 | _,_=>false
def Az:R2:=fun x y H Q=>mR x y=true∧Q (.bl (decide (x=y))) H
def pB:R2:=fun x y H Q=>mR x y=true∧Q (.bl (!decide (x=y))) H
theorem dL {i j:Int}:decide (V.int i=V.int j)=(i==j):=by
 rw [Bool.eq_iff_iff]
 simp
theorem rL {i j:Bool}:decide (V.bl i=V.bl j)=(i==j):=by
 rw [Bool.eq_iff_iff]
 simp
theorem qQ {i j:Str}:decide (V.str i=V.str j)=(i==j):=by
 rw [Bool.eq_iff_iff]
 simp
theorem pT {i j:Array UInt8}:decide (V.byt i=V.byt j)=(i.toList==j.toList):=by
 rw [Bool.eq_iff_iff]
 cases i
 cases j
 simp
section
variable {X:Cx} {a b c:Expr} {ta tb tc:TE} {pos:Pos}
theorem p9 {pins:List (Addr×Obj)} {σ:St} {H:Hp} {s:Shared} {Q:VK} {k k':Bool} (I:Inv X pins σ H s) (q:Q (.bl k) H) (e:k=k'):EP X pins σ Q (.bool k') s:=by
 subst e
 exact ⟨.bl k,H,I,rfl,q⟩
theorem D4:o9 X (compareOp .Eq) Az:=by
 intro pins s σ H x y v u Q I rx ry h
 obtain ⟨hs,q⟩:=h
 cases x with
 | non=>
  cases rx
  cases y with
  | non=>cases ry;exact PySem.EqNone.eq_none_none (p9 I q (by simp))
  | bl j=>cases ry;exact PySem.EqNone.eq_none_bool (p9 I q (by simp))
  | int j=>obtain ⟨t',rfl⟩:=ry;exact PySem.EqNone.eq_none_int (p9 I q (by simp))
  | str j=>obtain ⟨t',rfl⟩:=ry;exact PySem.EqNone.eq_none_str (p9 I q (by simp))
  | _=>exact absurd (show false=true from hs) Bool.false_ne_true
 | bl i=>
  cases rx
  cases y with
  | non=>cases ry;exact PySem.EqNone.eq_bool_none (p9 I q (by simp))
  | bl j=>cases ry;exact eq_bool (p9 I q rL)
  | str j=>obtain ⟨t',rfl⟩:=ry;exact PySem.EqMixed.eq_bool_str (p9 I q (by simp))
  | _=>exact absurd (show false=true from hs) Bool.false_ne_true
 | int i=>
  obtain ⟨t,rfl⟩:=rx
  cases y with
  | non=>cases ry;exact PySem.EqNone.eq_int_none (p9 I q (by simp))
  | int j=>obtain ⟨t',rfl⟩:=ry;exact eq_int (p9 I q dL)
  | str j=>obtain ⟨t',rfl⟩:=ry;exact PySem.EqMixed.eq_int_str (p9 I q (by simp))
  | _=>exact absurd (show false=true from hs) Bool.false_ne_true
 | str i=>
  obtain ⟨t,rfl⟩:=rx
  cases y with
  | non=>cases ry;exact PySem.EqNone.eq_str_none (p9 I q (by simp))
  | bl j=>cases ry;exact PySem.EqMixed.eq_str_bool (p9 I q (by simp))
  | int j=>obtain ⟨t',rfl⟩:=ry;exact PySem.EqMixed.eq_str_int (p9 I q (by simp))
  | str j=>obtain ⟨t',rfl⟩:=ry;exact eq_str (p9 I q qQ)
  | _=>exact absurd (show false=true from hs) Bool.false_ne_true
 | byt i=>
  obtain ⟨t,rfl⟩:=rx
  cases y with
  | byt j=>obtain ⟨t',rfl⟩:=ry;exact PySem.W.eq_bytes (p9 I q pT)
  | _=>exact absurd (show false=true from hs) Bool.false_ne_true
 | _=>cases y<;>exact absurd (show false=true from hs) Bool.false_ne_true
theorem G8:o9 X (compareOp .NotEq) pB:=by
 intro pins s σ H x y v u Q I rx ry h
 obtain ⟨hs,q⟩:=h
 cases x with
 | non=>
  cases rx
  cases y with
  | non=>cases ry;exact PySem.EqNone.ne_none_none (p9 I q (by simp))
  | bl j=>cases ry;exact PySem.EqNone.ne_none_bool (p9 I q (by simp))
  | int j=>obtain ⟨t',rfl⟩:=ry;exact PySem.EqNone.ne_none_int (p9 I q (by simp))
  | str j=>obtain ⟨t',rfl⟩:=ry;exact PySem.EqNone.ne_none_str (p9 I q (by simp))
  | _=>exact absurd (show false=true from hs) Bool.false_ne_true
 | bl i=>
  cases rx
  cases y with
  | non=>cases ry;exact PySem.EqNone.ne_bool_none (p9 I q (by simp))
  | bl j=>cases ry;exact ne_bool (p9 I q (congrArg not rL))
  | str j=>obtain ⟨t',rfl⟩:=ry;exact PySem.EqMixed.ne_bool_str (p9 I q (by simp))
  | _=>exact absurd (show false=true from hs) Bool.false_ne_true
 | int i=>
  obtain ⟨t,rfl⟩:=rx
  cases y with
  | non=>cases ry;exact PySem.EqNone.ne_int_none (p9 I q (by simp))
  | int j=>obtain ⟨t',rfl⟩:=ry;exact ne_int (p9 I q (congrArg not dL))
  | str j=>obtain ⟨t',rfl⟩:=ry;exact PySem.EqMixed.ne_int_str (p9 I q (by simp))
  | _=>exact absurd (show false=true from hs) Bool.false_ne_true
 | str i=>
  obtain ⟨t,rfl⟩:=rx
  cases y with
  | non=>cases ry;exact PySem.EqNone.ne_str_none (p9 I q (by simp))
  | bl j=>cases ry;exact PySem.EqMixed.ne_str_bool (p9 I q (by simp))
  | int j=>obtain ⟨t',rfl⟩:=ry;exact PySem.EqMixed.ne_str_int (p9 I q (by simp))
  | str j=>obtain ⟨t',rfl⟩:=ry;exact ne_str (p9 I q (congrArg not qQ))
  | _=>exact absurd (show false=true from hs) Bool.false_ne_true
 | byt i=>
  obtain ⟨t,rfl⟩:=rx
  cases y with
  | byt j=>obtain ⟨t',rfl⟩:=ry;exact PySem.W.ne_bytes (p9 I q (congrArg not pT))
  | _=>exact absurd (show false=true from hs) Bool.false_ne_true
 | _=>cases y<;>exact absurd (show false=true from hs) Bool.false_ne_true
theorem gP:o9 X (compareOp .Lt) (F5 fun i j=>.bl (decide (i < j))):=aK fun _ _ _ _ _ _ _ q=>lt_int q
theorem cC:o9 X (compareOp .LtE) (F5 fun i j=>.bl (decide (i≤j))):=aK fun _ _ _ _ _ _ _ q=>le_int q
theorem eZ:o9 X (compareOp .Gt) (F5 fun i j=>.bl (decide (j < i))):=aK fun _ _ _ _ _ _ _ q=>gt_int q
theorem CH:o9 X (compareOp .GtE) (F5 fun i j=>.bl (decide (j≤i))):=aK fun _ _ _ _ _ _ _ q=>ge_int q
theorem o8 (b:Expr) {op:CmpOp} (h:op≠.In:=by decide) (h2:op≠.NotIn:=by decide):behindInMarks op b=false:=by
 have e1:(op==CmpOp.In)=false:=by cases op<;>first | rfl|exact absurd rfl h
 have e2:(op==CmpOp.NotIn)=false:=by cases op<;>first | rfl|exact absurd rfl h2
 cases b<;>simp [behindInMarks,e1,e2]
theorem G1 {op:CmpOp} {r:R2} (ho:o9 X (compareOp op) r) (ha:PE X a ta) (hb:PE X b tb) (hm:behindInMarks op b=false):PE X (.Compare a [op] [b] pos) (F1 r ta tb):=by
 intro pins s σ H Q I h
 exact wpAny_Compare1 (fL ha hb I h fun v u s2 x y H2 I2 rx ry q=>ho pins s2 σ H2 x y v u Q I2 rx ry q) hm
def bD (t:TE):TT:=fun σ H Q=>t σ H fun x H'=>∃k,x=.bl k∧Q k H'
theorem u5 {op:CmpOp} {r:R2} (ho:o9 X (compareOp op) r) (ha:PE X a ta) (hb:PE X b tb) (hm:behindInMarks op b=false):PT X (.Compare a [op] [b] pos) (bD (F1 r ta tb)):=by
 intro pins s σ H Q I h
 refine wpAny_isTrue_Compare1 (g6 (ha pins s σ H _ I h) fun v s1 ⟨x,H1,I1,r1,q1⟩=>g6 (hb pins s1 σ H1 _ I1 q1) fun u s2 ⟨y,H2,I2,r2,q2⟩=>
  g6 (ho pins s2 σ H2 x y v u _ I2 r1 r2 q2) fun c s3 ⟨z,H3,I3,r3,k,e,q3⟩=>?_) hm
 subst e
 cases r3
 exact wpAny_truthy_bool ⟨H3,I3,q3⟩
def kZ (r r':R2) (ta tb tc:TE):TE:=fun σ H Q=>ta σ H fun x H1=>tb σ H1 fun y H2=>r x y H2 fun z H3=>∃k,z=.bl k∧
 (if k=true then tc σ H3 fun w' H4=>r' y w' H4 Q else Q (.bl false) H3)
theorem uR {op op':CmpOp} {r r':R2} (ho:o9 X (compareOp op) r) (ho':o9 X (compareOp op') r') (ha:PE X a ta) (hb:PE X b tb) (hc:PE X c tc)
  (hm:lastMarks [op,op'] [b,c]=false:=by with_unfolding_all rfl):PE X (.Compare a [op,op'] [b,c] pos) (kZ r r' ta tb tc):=by
 intro pins s σ H Q I h
 refine Compare_chain (g6 (ha pins s σ H _ I h) fun v s1 ⟨x,H1,I1,r1,q1⟩=>chain_link (g6 (hb pins s1 σ H1 _ I1 q1) fun u s2 ⟨y,H2,I2,r2,q2⟩=>
  g6 (ho pins s2 σ H2 x y v u _ I2 r1 r2 q2) fun d s3 ⟨z,H3,I3,r3,k,e,q3⟩=>?_)) hm
 subst e
 cases r3
 refine wpAny_truthy_bool ?_
 cases k with
 | false=>exact ite_ff ⟨.bl false,H3,I3,rfl,q3⟩
 | true=>exact ite_tt (chain_last (g6 (hc pins s3 σ H3 _ I3 q3) fun w' s4 ⟨z',H4,I4,r4,q4⟩=>ho' pins s4 σ H4 y z' u w' Q I4 r2 r4 q4))
theorem rF {op op':CmpOp} {r r':R2} (ho:o9 X (compareOp op) r) (ho':o9 X (compareOp op') r') (ha:PE X a ta) (hb:PE X b tb) (hc:PE X c tc)
  (hm:lastMarks [op,op'] [b,c]=false:=by with_unfolding_all rfl):PT X (.Compare a [op,op'] [b,c] pos) (bD (kZ r r' ta tb tc)):=by
 intro pins s σ H Q I h
 refine isTrue_chain (g6 (ha pins s σ H _ I h) fun v s1 ⟨x,H1,I1,r1,q1⟩=>test_link (g6 (hb pins s1 σ H1 _ I1 q1) fun u s2 ⟨y,H2,I2,r2,q2⟩=>
  g6 (ho pins s2 σ H2 x y v u _ I2 r1 r2 q2) fun d s3 ⟨z,H3,I3,r3,k,e,q3⟩=>?_)) hm
 subst e
 cases r3
 refine wpAny_truthy_bool ?_
 cases k with
 | false=>
  obtain ⟨k',e',q'⟩:=q3
  cases e'
  exact ite_ff ⟨H3,I3,q'⟩
 | true=>
  refine ite_tt (test_last (g6 (hc pins s3 σ H3 _ I3 q3) fun w' s4 ⟨z',H4,I4,r4,q4⟩=>g6 (ho' pins s4 σ H4 y z' u w' _ I4 r2 r4 q4) fun d' s5 ⟨z2,H5,I5,r5,k2,e2,q5⟩=>?_))
  subst e2
  cases r5
  exact wpAny_truthy_bool ⟨H5,I5,q5⟩
def fP (K:PySem.W.Frag) (x:V) (H:Hp) (k:Bool):Prop:=
 match x with
 | .non=>k=false
 | .bl b=>k=b
 | .int i=>k=(i != 0)
 | .str y=>y.length≤sizeLine∧k=((y.length:Int) != 0)
 | .byt y=>y.size≤sizeLine∧k=((y.size:Int) != 0)
 | .ref p=>(∃xs,SqL K H p xs∧k=!xs.isEmpty)∨(∃xs,SqT K H p xs∧k=!xs.isEmpty)∨∃kvs,H p=some (.dK kvs)∧k=!kvs.isEmpty
 | _=>False
theorem sL {κ:Type} {kvs:List (κ×V)} {vs:List (κ×Value)} (r:KV kvs vs):(!vs.isEmpty)=!kvs.isEmpty:=by
 cases r<;>rfl
theorem lH {xs:List V} {its:List Value} (r:Vals xs its):(!its.toArray.isEmpty)=!xs.isEmpty:=by
 cases r<;>simp
theorem X6:(sizeLine:Nat) < 2 ^ 63:=by rw [sizeLine_eq];decide
theorem zH:CB X (fun x H Q=>∃k,fP X.K x H k∧Q k H):=by
 intro pins s σ H x v Q I rx h
 obtain ⟨k,e,q⟩:=h
 have hl:=X6
 have hs:sizeLine=16777216:=sizeLine_eq
 cases x with
 | non=>
  cases rx
  have e':k=false:=e
  subst e'
  exact truthy_none ⟨H,I,q⟩
 | bl b=>
  cases rx
  have e':k=b:=e
  subst e'
  exact wpAny_truthy_bool ⟨H,I,q⟩
 | int i=>
  obtain ⟨t,rfl⟩:=rx
  have e':k=(i != 0):=e
  subst e'
  exact PySem.P.truthy_int ⟨H,I,q⟩
 | str y=>
  obtain ⟨t,rfl⟩:=rx
  obtain ⟨hy,e'⟩:y.length≤sizeLine∧k=((y.length:Int) != 0):=e
  subst e'
  exact PySem.P.truthy_str (by omega) ⟨H,I.tok _,q⟩
 | byt y=>
  obtain ⟨t,rfl⟩:=rx
  obtain ⟨hy,e'⟩:y.size≤sizeLine∧k=((y.size:Int) != 0):=e
  subst e'
  exact PySem.W.truthy_bytes (by omega) ⟨H,I.tok _,q⟩
 | ref p=>
  cases rx
  have e':(∃xs,SqL X.K H p xs∧k=!xs.isEmpty)∨(∃xs,SqT X.K H p xs∧k=!xs.isEmpty)∨∃kvs,H p=some (.dK kvs)∧k=!kvs.isEmpty:=e
  rcases e' with ⟨xs,hx,e'⟩|⟨xs,hx,e'⟩|⟨kvs,hx,e'⟩
  ·subst e'
   obtain ⟨its,r,pl,hz⟩:=I.list hx
   have hlen:=r.length
   exact wpAny_truthy_list pl.isList (by simp only [List.size_toArray];omega) ⟨H,I.tok _,by rw [lH r];exact q⟩
  ·subst e'
   obtain ⟨its,r,pl,hz⟩:=I.tuple hx
   have hlen:=r.length
   exact truthy_tuple pl (by simp only [List.size_toArray];omega) ⟨H,I.tok _,by rw [lH r];exact q⟩
  ·subst e'
   obtain ⟨hz,hS,vs,r,m⟩:kvs.length≤sizeLine∧(p==sysModules)=false∧∃vs,KV kvs vs∧s.heap.DictOf (p6 X.prog X.w) p vs:=I.hok p _ hx
   have hlen:kvs.length=vs.length:=Paired.length r
   exact wpAny_truthy_dict hS m (by omega) ⟨H,I.tok _,by rw [sL r];exact q⟩
 | _=>exact (show False from e).elim
theorem Q7 (ha:PE X a ta) (he:∀whole,isTrue a X.env whole=(do let v ←whole;standAt a.pos;holding [v] (truthy v))) :
  PT X a (fun σ H Q=>ta σ H fun x H'=>∃k,fP X.K x H' k∧Q k H'):=by
 intro pins s σ H Q I h
 exact isTrue_plain (g6 (ha pins s σ H _ I h) fun v s1 ⟨x,H1,I1,r1,q1⟩=>zH pins s1 σ H1 x v Q I1 r1 q1) (he _)
theorem vals1 {x:V} {us:List Value} (r:Vals [x] us):∃u,us=[u]∧RelV x u:=by
 cases r with
 | cons r1 r2=>cases r2;exact ⟨_,rfl,r1⟩
end
structure ObjM (h:Heap) (x dx C:Addr) (mA:Str→Option Value):Prop where
 obj:h.get? x=some (PySem.W.instObj C dx)
 ns:h.Ns1 dx mA
 ne:dx≠x
theorem wG {h:Heap} {dx:Addr} {mA:Str→Option Value} (n:h.Ns1 dx mA):∃od,h.get? dx=some od∧∀name,PySem.W.lookIn name od=some (mA name):=by
 obtain ⟨o,es,ep,ho,hd,hk,_,hm⟩:=n
 refine ⟨o,ho,fun name=>?_⟩
 have e:=hm name
 unfold nsFind findBy at e
 rw [←Array.find?_toList] at e
 unfold PySem.W.lookIn
 rw [hd]
 dsimp only
 split
 ·rename_i y q
  rw [q] at e
  exact congrArg some e
 ·rename_i q
  rw [q] at e
  have a:es.toList.any (·.refKey)=false:=by
   rw [List.any_eq_false]
   intro y hy
   obtain ⟨z,t,hkey⟩:=hk y (Array.mem_toList_iff.mp hy)
   simp [DictEntry.refKey,hkey]
  have a':¬es.toList.any (·.refKey)=true:=by rw [a];exact Bool.false_ne_true
  rw [if_neg a']
  exact congrArg some e
theorem ObjM.look {h:Heap} {x dx C:Addr} {mA:Str→Option Value} (I:ObjM h x dx C mA):∃od,PySem.W.InstAt h x (PySem.W.instObj C dx) C (some od)∧∀name,PySem.W.lookIn name od=some (mA name):=
 let ⟨od,ho,hl⟩:=wG I.ns
 ⟨od,⟨I.obj,rfl,rfl,ho⟩,hl⟩
section
variable {prog:Program} {w:World} {A:Around} {E:Value→Shared→Prop} {s:Shared} {K:PySem.W.Frag} {x dx C f:Addr} {mA:Str→Option Value} {name:Str} {v:Value}
theorem tU {expr:Bool} {Q:Value→Shared→Prop} (X:K.In s.heap) (I:ObjM s.heap x dx C mA) (hg:PySem.W.plainGet K C name=true) (hh:PySem.W.hasDictIn K C=true)
  (ha:PySem.W.findIn K (.ref C) name=some none) (hv:mA name=some v) (hv':PySem.W.handedIn v=true) (h:Q v { s with toks:=s.toks+1 }) :
  wpAny (model prog w) A (getAttr (.ref x) name expr) Q E s:=by
 obtain ⟨od,J,hl⟩:=I.look
 exact PySem.W.get_value X J (PySem.W.plainGet_of hg).1 (PySem.W.findObj_own hh ha rfl (by rw [hl,hv])) hv' h
theorem vQ {pl:Sem Bool} {Q:Value×List Value→Shared→Prop} (X:K.In s.heap) (I:ObjM s.heap x dx C mA) (hg:PySem.W.plainGet K C name=true)
  (hf:PySem.W.findIn K (.ref C) name=some (some (.ref f))) (ht:PySem.W.isFn K (.ref f)=true) (hv:mA name=none) (h:Q (.ref f,[.ref x]) s) :
  wpAny (model prog w) A (getMethod (.ref x) name pl) Q E s:=by
 obtain ⟨od,J,hl⟩:=I.look
 exact PySem.W.method_fn X J (PySem.W.plainGet_of hg).1 (PySem.W.plainGet_of hg).2 hf (beq_iff_eq.mp ht) (by show (PySem.W.lookIn name od).map (·.isSome)=some false;rw [hl,hv];rfl) h
theorem zM {ns:List Str} {Q:Unit→Shared→Prop} (X:K.In s.heap) (I:ObjM s.heap x dx C mA)
  (hs:PySem.W.findIn K (.ref C) "__setattr__"=some (some (.builtin "object.__setattr__"))) (hp:PySem.W.plainOver K C=true) (ht:PySem.W.takerIn K C name=some none) (hh:PySem.W.hasDictIn K C=true)
  (hw:PySem.Within mA ns) (hsz:ns.length≤sizeLine)
  (h:∀h',ObjM h' x dx C (fun y=>if y=name then some v else mA y)→Heap.SameBut dx s.heap h'→Q () { s with heap:=h',toks:=s.toks+2 }) :
  wpAny (model prog w) A (setAttr (.ref x) name v) Q E s:=by
 obtain ⟨od,J,hl⟩:=I.look
 refine PySem.W.set_plain X J hs (PySem.W.osa_open (s:={ s with toks:=s.toks+1 }) (r:=none) X J hp ht fun b=>?_)
 obtain ⟨cd,hc,hd'⟩:=PySem.W.any_some hh
 have hx:s.heap.get? x=some ⟨.ref C,some dx,.plain,#[]⟩:=I.obj
 refine wpAny_bind (wpAny_pure (wpAny_bind (wpAny_bind (wpAny_loadPart hx (wpAny_bind (PySem.W.Looks.here (s:={ s with toks:=s.toks+1 }) (PySem.W.looks_clsIn X hc) ?_))))))
 rw [hd']
 refine wpAny_pure (a:=some dx) (wpAny_bind (wpAny_pure (wpAny_bind ?_)))
 refine wpAny_nsSet1 (s:={ s with toks:=s.toks+1 }) I.ns fun h' hn2 hs2=>?_
 obtain ⟨oD,esD,epD,hoD,hdD,hcD⟩:=hn2.count (PySem.Within.cons name v hw)
 refine wpAny_bind (wpAny_lookBehind hoD (by rw [hdD];exact pastItsLine_dict (Nat.le_trans hcD (by rw [List.length_cons];omega))) ?_)
 exact wpAny_pure (h _ ⟨(hs2.2 _ (Ne.symm I.ne)).trans I.obj,hn2,I.ne⟩ hs2)
theorem ER {R:Result→Shared→Prop} {vs:List Value} {kw:List (Str×Value)} (X:K.In s.heap) (hm:PySem.W.makesIn K C=true)
  (hi:PySem.W.findIn K (.ref C) "__init__"=some (some (.ref f))) (hf:PySem.W.typeIn K (.ref f)=some (.type "function"))
  (h:codeAny (model prog w) (A.under (.builtin "type.__call__" ⟨.ref C::vs,kw⟩)) (.call (.ref f) ⟨.ref (s.heap.objs.size+1)::vs,kw⟩) (PySem.W.InitBack (s.heap.objs.size+1) R)
   { s with heap:=(s.heap.push PySem.W.emptyDict).push (PySem.W.instObj C s.heap.objs.size) }) :
  codeAny (model prog w) A (.call (.ref C) ⟨vs,kw⟩) R s:=by
 obtain ⟨hh,g,d,t,os⟩:=s
 exact PySem.W.make_core (PySem.W.makes_of X hm) (PySem.W.looks_findIn X hi) (fun self=>PySem.W.bind_fn X self hf) (.inl rfl) h
end
def l9 (f:Str) (v:V):List (Str×V)→List (Str×V)
 | []=>[(f,v)]
 | (g,x)::r=>if g=f then (g,v)::r else (g,x)::l9 f v r
theorem pG (f g:Str) (v:V):∀fs:List (Str×V),(l9 f v fs).lookup g=if g=f then some v else fs.lookup g
 | []=>by
  show List.lookup g [(f,v)]=_
  by_cases h:g=f
  ·have hb:(g==f)=true:=beq_iff_eq.mpr h
   simp only [List.lookup,hb,if_pos h]
  ·have hb:(g==f)=false:=beq_eq_false_iff_ne.mpr h
   simp only [List.lookup,hb,if_neg h]
 | (k,x)::r=>by
  have ih:=pG f g v r
  rw [show l9 f v ((k,x)::r)=(if k=f then (k,v)::r else (k,x)::l9 f v r) from rfl]
  by_cases hk:k=f
  ·rw [if_pos hk]
   by_cases h:g=k
   ·have hb:(g==k)=true:=beq_iff_eq.mpr h
    simp only [List.lookup,hb,if_pos (h.trans hk)]
   ·have hb:(g==k)=false:=beq_eq_false_iff_ne.mpr h
    simp only [List.lookup,hb,if_neg (fun e:g=f=>h (e.trans hk.symm))]
  ·rw [if_neg hk]
   by_cases h:g=k
   ·have hb:(g==k)=true:=beq_iff_eq.mpr h
    simp only [List.lookup,hb,if_neg (fun e:g=f=>hk (h.symm.trans e))]
   ·have hb:(g==k)=false:=beq_eq_false_iff_ne.mpr h
    simp only [List.lookup,hb]
    exact ih
theorem gC (f:Str) (v:V):∀fs:List (Str×V),f∈(l9 f v fs).map (·.1)∧∀g,g∈fs.map (·.1)→g∈(l9 f v fs).map (·.1)
 | []=>⟨by simp [l9],fun g h=>by simp at h⟩
 | (k,x)::r=>by
  obtain ⟨i1,i2⟩:=gC f v r
  rw [show l9 f v ((k,x)::r)=(if k=f then (k,v)::r else (k,x)::l9 f v r) from rfl]
  by_cases hk:k=f
  ·rw [if_pos hk]
   subst hk
   exact ⟨by simp,fun g h=>by simpa using h⟩
  ·rw [if_neg hk]
   refine ⟨?_,fun g h=>?_⟩
   ·rw [List.map_cons]
    exact List.mem_cons_of_mem _ i1
   ·rw [List.map_cons] at h ⊢
    rcases List.mem_cons.mp h with e|e
    ·exact List.mem_cons.mpr (.inl e)
    ·exact List.mem_cons_of_mem _ (i2 g e)
theorem nF (f:Str) (v:V):∀fs:List (Str×V),(l9 f v fs).length≤fs.length+1
 | []=>by simp [l9]
 | (k,x)::r=>by
  have ih:=nF f v r
  rw [show l9 f v ((k,x)::r)=(if k=f then (k,v)::r else (k,x)::l9 f v r) from rfl]
  by_cases hk:k=f
  ·rw [if_pos hk,List.length_cons,List.length_cons];omega
  ·rw [if_neg hk,List.length_cons,List.length_cons];omega
theorem RelO.some_of {v:V} {o:Option Value} (r:RelO (some v) o):∃u,o=some u∧RelV v u:=by
 cases o with
 | none=>exact (show False from r).elim
 | some u=>exact ⟨u,rfl,r⟩
theorem RelO.none_of {o:Option Value} (r:RelO none o):o=none:=by
 cases o with
 | none=>rfl
 | some u=>exact (show False from r).elim
theorem sG {v:V} {u:Value} (r:RelV v u):PySem.W.handedIn u=true:=by
 cases v with
 | non=>cases (show u=Value.none from r);rfl
 | bl b=>cases (show u=Value.bool b from r);rfl
 | int i=>obtain ⟨t,e⟩:=(show ∃t,u=Value.int i t from r);cases e;rfl
 | str x=>obtain ⟨t,e⟩:=(show ∃t,u=Value.str x t from r);cases e;rfl
 | byt b=>obtain ⟨t,e⟩:=(show ∃t,u=Value.bytes b t from r);cases e;rfl
 | flt b=>obtain ⟨t,e⟩:=(show ∃t,u=Value.float b t from r);cases e;rfl
 | ref a=>cases (show u=Value.ref a from r);rfl
 | ty n=>cases (show u=Value.type n from r);rfl
section
variable {P:Program} {w:World} {H H':Hp} {h h':Heap} {a C dx:Addr} {fs fs':List (Str×V)}
theorem hX (hok:HOk P w H h) (e:H a=some (.ins C dx fs)):∃mA,ObjM h a dx C mA∧(∀f,RelO (fs.lookup f) (mA f))∧PySem.Within mA (fs.map (·.1))∧fs.length≤1000∧H dx=some (.own a):=by
 obtain ⟨d,z,ne,ob,mA,n,r,q⟩:=(show ObjOk P w H h a (.ins C dx fs) from hok a _ e)
 exact ⟨mA,⟨ob,n,ne⟩,r,q,z,d⟩
end
structure Cls (K:PySem.W.Frag) (C:Addr):Prop where
 pg:PySem.W.plainGet K C Str.empty=true
 hd:PySem.W.hasDictIn K C=true
 po:PySem.W.plainOver K C=true
 sa:PySem.W.findIn K (.ref C) "__setattr__"=some (some (.builtin "object.__setattr__"))
theorem Cls.get {K:PySem.W.Frag} {C:Addr} (c:Cls K C) (f:Str):PySem.W.plainGet K C f=true:=c.pg
def NoAttr (K:PySem.W.Frag) (C:Addr) (f:Str):Prop:=PySem.W.findIn K (.ref C) f=some none
theorem NoAttr.taker {K:PySem.W.Frag} {C:Addr} {f:Str} (n:NoAttr K C f):PySem.W.takerIn K C f=some none:=by
 unfold PySem.W.takerIn
 rw [show PySem.W.findIn K (.ref C) f=some none from n]
 rfl
structure U6 (K:PySem.W.Frag) (C:Addr) (m:Str) (f:Addr):Prop where
 at_:PySem.W.findIn K (.ref C) m=some (some (.ref f))
 fn:PySem.W.isFn K (.ref f)=true
 kp:PySem.W.keepIn K (.ref f)=true
section
variable {X:Cx} {pins:List (Addr×Obj)} {σ:St} {H:Hp} {s:Shared} {a C dx:Addr} {fs:List (Str×V)} {f:Str} {v:V} {A:Around} {E:Value→Shared→Prop}
theorem uN {b:Bool} {Q:Value→Shared→Prop} (I:Inv X pins σ H s) (e:H a=some (.ins C dx fs)) (c:Cls X.K C) (n:NoAttr X.K C f) (l:fs.lookup f=some v)
  (h:∀u s',Inv X pins σ H s'→RelV v u→Q u s'):wpAny (model X.prog X.w) A (getAttr (.ref a) f b) Q E s:=by
 obtain ⟨mA,O,r,_,_,_⟩:=hX I.hok e
 obtain ⟨u,hu,ru⟩:=RelO.some_of (v:=v) (o:=mA f) (by rw [←l];exact r f)
 exact tU I.kIn O (c.get f) c.hd n hu (sG ru) (h u _ (I.tok _) ru)
theorem kT {m:Str} {g:Addr} {pl:Sem Bool} {Q:Value×List Value→Shared→Prop} (I:Inv X pins σ H s) (e:H a=some (.ins C dx fs)) (c:Cls X.K C) (k:U6 X.K C m g) (l:fs.lookup m=none)
  (h:Q (.ref g,[.ref a]) s):wpAny (model X.prog X.w) A (getMethod (.ref a) m pl) Q E s:=by
 obtain ⟨mA,O,r,_,_,_⟩:=hX I.hok e
 have hn:mA m=none:=RelO.none_of (by rw [←l];exact r m)
 exact vQ I.kIn O (c.get m) k.at_ k.fn hn h
theorem BP {y:V} {u:Value} {Q:Unit→Shared→Prop} (I:Inv X pins σ H s) (e:H a=some (.ins C dx fs)) (c:Cls X.K C) (n:NoAttr X.K C f) (hl:fs.length < 1000) (ry:RelV y u)
  (h:∀s',Inv X pins σ (a8 H a (.ins C dx (l9 f y fs))) s'→Q () s'):wpAny (model X.prog X.w) A (setAttr (.ref a) f u) Q E s:=by
 obtain ⟨mA,O,r,wi,_,ho⟩:=hX I.hok e
 have hz:(fs.map (·.1)).length≤sizeLine:=by rw [List.length_map,sizeLine_eq];omega
 refine zM I.kIn O c.sa c.po n.taker c.hd wi hz fun h' O' sb=>h _ ?_
 have hd:∃o,h'.get? dx=some o:=let ⟨o,_,_,e',_⟩:=O'.ns;⟨o,e'⟩
 refine I.write (x:=a) (e:=dx) (by rw [e];exact True.intro) (.inr ho) (fun b q hb z=>(sb.2 b hb).trans z) hd ?_
 refine ⟨by rw [a9 O.ne];exact ho,?_,O.ne,O'.obj,_,O'.ns,fun g=>?_,fun g hg=>?_⟩
 ·have:=nF f y fs;omega
 ·show RelO ((l9 f y fs).lookup g) (if g=f then some u else mA g)
  rw [pG]
  by_cases q:g=f
  ·rw [if_pos q,if_pos q];exact ry
  ·rw [if_neg q,if_neg q];exact r g
 ·by_cases q:g=f
  ·rw [q];exact (gC f y fs).1
  ·refine (gC f y fs).2 g (wi g fun z=>hg ?_)
   show (if g=f then some u else mA g)=none
   rw [if_neg q];exact z
theorem Inv.made (I:Inv X pins σ H s):Inv X pins σ (a8 (a8 H s.heap.objs.size (.own (s.heap.objs.size+1))) (s.heap.objs.size+1) (.ins C s.heap.objs.size []))
  { s with heap:=(s.heap.push PySem.W.emptyDict).push (PySem.W.instObj C s.heap.objs.size) }:=by
 have e1:(s.heap.push PySem.W.emptyDict).get? s.heap.objs.size=some PySem.W.emptyDict:=Heap.get?_push_size s.heap rfl
 have e2:((s.heap.push PySem.W.emptyDict).push (PySem.W.instObj C s.heap.objs.size)).get? (s.heap.objs.size+1)=some (PySem.W.instObj C s.heap.objs.size):=by
  have:=Heap.get?_push_size (s.heap.push PySem.W.emptyDict) (o:=PySem.W.instObj C s.heap.objs.size) rfl
  rwa [Heap.size_push] at this
 have e3:(s.heap.push PySem.W.emptyDict).Ns s.heap.objs.size (fun _=>none):=⟨PySem.W.emptyDict,#[],_,e1,rfl,(fun e he=>absurd he (by simp)),fun _=>rfl⟩
 have I1:=I.laid (a:=s.heap.objs.size) (o:=.own (s.heap.objs.size+1)) (h':=s.heap.push PySem.W.emptyDict) (t':=s.toks) (fun b u q=>Heap.get?_push_of_some _ q) (Nat.le_refl _) ⟨_,e1⟩
 refine I1.laid (a:=s.heap.objs.size+1) (o:=.ins C s.heap.objs.size []) (t':=s.toks) (fun b u q=>Heap.get?_push_of_some _ q) (Nat.le_of_eq (Heap.size_push _ _)) ?_
 have ne:s.heap.objs.size≠s.heap.objs.size+1:=Nat.ne_of_lt (Nat.lt_succ_self _)
 refine ⟨by rw [a9 ne,c8],Nat.zero_le _,ne,e2,fun _=>none,(Heap.Ns1.of_empty e3).at fun o q=>Heap.get?_push_of_some _ q,fun _=>True.intro,fun y hy=>absurd rfl hy⟩
theorem EC {prog:Program} {w:World} {env:Env} {e:Expr} {f:Str} {pos:Pos} {s:Shared} {Q:Value→Shared→Prop} (hb:attributeBase e f env (eval e env)=eval e env)
  (h:wpAny (model prog w) A (eval e env) (fun o s₁=>wpAny (model prog w) A (getAttr o f true) Q E s₁) E s):wpAny (model prog w) A (eval (.Attribute e f pos) env) Q E s:=
 Attribute_any_ h (by rw [arm_eval_Attribute,hb])
end
def iE (K:PySem.W.Frag) (ta:TE) (f:Str):TE:=fun σ H Q=>ta σ H fun x H1=>∃a C dx fs v,x=.ref a∧H1 a=some (.ins C dx fs)∧Cls K C∧NoAttr K C f∧fs.lookup f=some v∧Q v H1
def ES (K:PySem.W.Frag) (ta tv:TE) (f:Str):TS:=fun D σ H=>tv σ H fun y H1=>ta σ H1 fun x H2=>∃a C dx fs,x=.ref a∧H2 a=some (.ins C dx fs)∧Cls K C∧NoAttr K C f∧fs.length < 1000∧
 D.nx σ (a8 H2 a (.ins C dx (l9 f y fs)))
def oN (X:Cx) (op:Operator) (rd:V→V→Hp→VK→Prop):Prop:=
 ∀(pins:List (Addr×Obj)) (s:Shared) (σ:St) (H:Hp) (x y:V) (u v:Value) (Q:VK),Inv X pins σ H s→RelV x u→RelV y v→rd x y H Q→wpAny (model X.prog X.w) X.A (inplaceOp op u v) (EP X pins σ Q) X.xe s
section
variable {X:Cx} {o e value:Expr} {f:Str} {pos pos' tpos:Pos} {ta tv:TE}
theorem g9 (he:PE X e ta) (hb:attributeBase e f X.env (eval e X.env)=eval e X.env):PE X (.Attribute e f pos) (iE X.K ta f):=by
 intro pins s σ H Q I h
 refine EC hb (g6 (he pins s σ H _ I h) fun u s1 ⟨x,H1,I1,rx,a,C,dx,fs,v,ex,ea,c,n,l,q⟩=>?_)
 subst ex
 obtain rfl:u=Value.ref a:=rx
 exact uN I1 ea c n l fun u' s2 I2 ru=>⟨v,H1,I2,ru,q⟩
theorem C3 (ha:PE X o ta) (hv:PE X value tv) (hs:swapsWith value (some (.Attribute o f pos')) pos.line X.env=pure false):PS X (.Assign [.Attribute o f pos'] value pos) (ES X.K ta tv f):=by
 intro pins s σ H D I h
 refine plainObj_wpAny_Assign_Attribute (g6 (hv pins s σ H _ I h) fun u s1 ⟨y,H1,I1,ry,q⟩=>g6 (ha pins s1 σ H1 _ I1 q) fun ov s2 ⟨x,H2,I2,rx,a,C,dx,fs,ex,ea,c,n,l,q2⟩=>?_) hs
 subst ex
 obtain rfl:ov=Value.ref a:=rx
 exact BP I2 ea c n l ry fun s3 I3=>⟨σ,_,I3,q2⟩
def vL:V→V→Hp→VK→Prop:=fun x y H Q=>∃i j,x=.int i∧y=.int j∧Q (.int (i+j)) H
theorem Ar:oN X .Add vL:=by
 rintro pins s σ H x y u v Q I rx ry ⟨i,j,rfl,rfl,q⟩
 obtain ⟨t,rfl⟩:=(show ∃t,u=Value.int i t from rx)
 obtain ⟨t',rfl⟩:=(show ∃t',v=Value.int j t' from ry)
 exact PyProof.Rows.iadd_int ⟨.int (i+j),H,I.tok _,⟨_,rfl⟩,q⟩
end
structure Room (k:Nat) (A:Around):Prop where
 hd:A.handled=none
 dp:A.depth+3*k+5 < recursionLimit
 un:A.units+16*k+200 < cLine
theorem Room.mono {j k:Nat} {A:Around} (r:Room k A) (h:j≤k):Room j A:=⟨r.hd,by have:=r.dp;omega,by have:=r.un;omega⟩
theorem Room.deeper {k:Nat} {A:Around} (r:Room (k+1) A) (env:Env):Room k (A.deeper env):=
 ⟨r.hd,by have:=r.dp;show A.depth+1+3*k+5 < _;omega,by have:=r.un;show A.units+3+16*k+200 < _;omega⟩
theorem Dr {A:Around} {C:Addr} {us:List Value} {kw:List (Str×Value)}:(A.under (.builtin "type.__call__" ⟨.ref C::us,kw⟩)).depth=A.depth+1:=by
 first | rfl|simp [Around.under,Code.weight,Code.isCreation,Code.isGuard,Code.isCaller,Code.frames,Code.isFrame,guardIds]
theorem tE {A:Around} {C:Addr} {us:List Value} {kw:List (Str×Value)}:(A.under (.builtin "type.__call__" ⟨.ref C::us,kw⟩)).units=A.units+1:=by
 first | rfl|simp [Around.under,Code.cUnits,Code.frames,Code.isFrame]
theorem Room.make {k:Nat} {A:Around} (r:Room (k+1) A) (C:Addr) (us:List Value) (kw:List (Str×Value)):Room k (A.under (.builtin "type.__call__" ⟨.ref C::us,kw⟩)):=
 ⟨r.hd,by have:=r.dp;rw [Dr];omega,by have:=r.un;rw [tE];omega⟩
theorem Room.depth {k:Nat} {A:Around} (r:Room k A):A.depth < recursionLimit:=by have:=r.dp;omega
theorem Room.units {k:Nat} {A:Around} (r:Room k A):A.units+64 < cLine:=by have:=r.un;omega
def R3:TA:=fun _ H Q=>Q [] H
def cE (ta:TE) (tr:TA):TA:=fun σ H Q=>ta σ H fun x H1=>tr σ H1 fun xs H2=>Q (x::xs) H2
section
variable {X:Cx} {e:Expr} {es:List Expr} {te:TE} {t:TA} {pos:Pos}
theorem c9:PA X [] R3:=fun _ _ _ _ H Q I h=>Calls.spliced_nil ⟨[],H,I,.nil,h⟩
theorem c7 (ha:PE X e te) (hr:PA X es t) (hs:starEach (e::es) X.env=(false,eval e X.env)::starEach es X.env:=by rfl):PA X (e::es) (cE te t):=by
 intro pos pins s σ H Q I h
 rw [hs]
 show wpAny _ _ (spliced ((false,eval e X.env)::backTo pos (starEach es X.env))) _ _ s
 refine Calls.spliced_cons (g6 (ha pins s σ H _ I h) fun u s1 ⟨x,H1,I1,r1,q1⟩=>?_)
 exact g6 (hr pos pins s1 σ H1 _ I1 q1) fun us s2 ⟨xs,H2,I2,r2,q2⟩=>⟨x::xs,H2,I2,.cons r1 r2,q2⟩
def uZ (t:TA):TE:=fun σ H Q=>t σ H fun xs H1=>xs.length≤sizeLine∧∀p,H1 p=none→Q (.ref p) (a8 H1 p (.tup xs))
def jI (t:TA):TE:=fun σ H Q=>t σ H fun xs H1=>xs.length≤sizeLine∧∀p,H1 p=none→Q (.ref p) (a8 H1 p (.lst xs))
theorem N9 {x1} (h:PA X es t):PE X (.Tuple es x1 pos) (uZ t):=by
 intro pins s σ H Q I hq
 refine wpAny_Tuple_spliced (g6 (h pos pins s σ H _ I hq) fun us s1 ⟨xs,H1,I1,r,z,q⟩=>⟨by rw [←r.length];exact z,?_⟩)
 have hf:H1 s1.heap.objs.size=none:=I1.hok.fresh (Nat.le_refl _)
 refine ⟨.ref s1.heap.objs.size,a8 H1 s1.heap.objs.size (.tup xs),I1.laid (t':=s1.toks) (fun b u e=>Heap.get?_push_of_some _ e) (Nat.le_refl _) ?_,rfl,q _ hf⟩
 exact ⟨z,us,r,⟨_,Heap.get?_push_size _ rfl,rfl,_,rfl⟩⟩
theorem l5 (h:PA X es t):PE X (.List es pos) (jI t):=by
 intro pins s σ H Q I hq
 refine wpAny_List_spliced (g6 (h pos pins s σ H _ I hq) fun us s1 ⟨xs,H1,I1,r,z,q⟩=>⟨by rw [←r.length];exact z,?_⟩)
 have hf:H1 s1.heap.objs.size=none:=I1.hok.fresh (Nat.le_refl _)
 refine ⟨.ref s1.heap.objs.size,a8 H1 s1.heap.objs.size (.lst xs),I1.laid (t':=s1.toks) (fun b u e=>Heap.get?_push_of_some _ e) (Nat.le_refl _) ?_,rfl,q _ hf⟩
 exact ⟨z,us,0,r,Heap.get?_push_size _ rfl⟩
end
abbrev Sp:=List V→Hp→VK→XK→Prop
abbrev K8:=List Env→Hp→Shared→XK→Value→Shared→Prop
structure Env0 (P:Program) (w:World) (K:PySem.W.Frag) (mg:Str→Option Value) (base:Heap) (A:Around) (outer:List Env) (s:Shared) (H:Hp):Prop where
 frames:A.frames=some outer
 mod:Mod K mg base
 bs:∀b o,base.get? b=some o→s.heap.get? b=some o∧H b=none
 bsz:base.objs.size≤s.heap.objs.size
 funs:s.heap.FunFrames base outer
 frf:∀b∈C4 outer,H b=none
 hok:HOk P w H s.heap
 bare:AllBare s.gens
def CE (outer:List Env) (P:Program) (w:World) (H:Hp) (s:Shared) (Q:VK) (u:Value) (s':Shared):Prop:=
 ∃v H',s'.os=s.os∧AllBare s'.gens∧Un (C4 outer) [] H H' s.heap s'.heap∧HOk P w H' s'.heap∧RelV v u∧Q v H'
def CR (CX:K8) (outer:List Env) (P:Program) (w:World) (H:Hp) (s:Shared) (Q:VK) (E:XK) (r:Result) (s':Shared):Prop:=
 match r with
 | .ok (.ret u)=>CE outer P w H s Q u s'
 | .ok _=>False
 | .error e=>CX outer H s E e s'
structure C9 (P:Program) (w:World) (K:PySem.W.Frag) (mg:Str→Option Value) (base:Heap) (CX:K8) (k:Nat) (f:Addr) (fd:FuncData) (ps:List Str) (sp:Sp):Prop where
 len:∀vs H Q E,sp vs H Q E→vs.length=ps.length
 run:∀(A:Around) (outer:List Env) (s:Shared) (H:Hp) (args:Args) (us:List Value) (vs:List V) (Q:VK) (E:XK),Room k A→Env0 P w K mg base A outer s H→BindsTo s fd args (ps.zip us)→Vals vs us→sp vs H Q E→
  codeAny (model P w) A (.call (.ref f) args) (CR CX outer P w H s Q E) s
theorem Env0.make {P:Program} {w:World} {K:PySem.W.Frag} {mg:Str→Option Value} {base:Heap} {A:Around} {outer:List Env} {s:Shared} {H:Hp} (e:Env0 P w K mg base A outer s H) (C:Addr) (us:List Value) (kw:List (Str×Value)) :
  Env0 P w K mg base (A.under (.builtin "type.__call__" ⟨.ref C::us,kw⟩)) outer s H:=⟨by first | exact e.frames|(simpa [Around.under,Code.envs,Code.isFrame,pushEnvs] using e.frames),e.mod,e.bs,e.bsz,e.funs,e.frf,e.hok,e.bare⟩
section
variable {X:Cx} {pins:List (Addr×Obj)} {σ:St} {H:Hp} {s s':Shared}
theorem Inv.env0 (I:Inv X pins σ H s):Env0 X.prog X.w X.K X.mg X.base X.A X.stack s H:=
 ⟨I.ok.frames,I.ok.mod,I.bs,Nat.le_trans I.ok.bsz I.sz,I.stack,I.stkFree,I.hok,I.bare⟩
theorem Inv.after {Q:VK} {u:Value} (I:Inv X pins σ H s) (h:CE X.stack X.prog X.w H s Q u s'):EP X pins σ Q u s':=by
 obtain ⟨v,H',os,bare,un,hok,r,q⟩:=h
 obtain ⟨hh,g,d,t,os'⟩:=s'
 obtain rfl:os'=s.os:=os
 exact ⟨v,H',I.call (h':=hh) (g':=g) (d':=d) (t':=t) (ch:=[]) un hok bare (fun b z=>absurd z (by simp)),r,q⟩
end
def iR (sp:Sp) (dvs:List V) (E:XK) (t:TA):TE:=fun σ H Q=>t σ H fun vs H1=>sp (vs++dvs) H1 Q E
def Z5 (C:Addr) (m:Str) (sp:Sp) (dvs:List V) (E:XK) (ta:TE) (t:TA):TE:=fun σ H Q=>ta σ H fun x H1=>∃a dx fs,x=.ref a∧H1 a=some (.ins C dx fs)∧fs.lookup m=none∧
 t σ H1 fun vs H2=>sp (x::(vs++dvs)) H2 Q E
def bL (C:Addr) (sp:Sp) (dvs:List V) (E:XK) (t:TA):TE:=fun σ H Q=>t σ H fun vs H1=>∀x dx,H1 x=none→H1 dx=none→dx≠x→
 sp (.ref x::(vs++dvs)) (a8 (a8 H1 dx (.own x)) x (.ins C dx [])) (fun v H2=>v=.non∧Q (.ref x) H2) E
def Binds (K:PySem.W.Frag) (fd:FuncData) (ps:List Str) (ds:List Value):Prop:=
 ∀(s:Shared) (us:List Value),K.In s.heap→(us++ds).length=ps.length→BindsTo s fd ⟨us,[]⟩ (ps.zip (us++ds))
theorem Binds.all {K:PySem.W.Frag} {fd:FuncData} {ps:List Str} (h:∀us:List Value,us.length=ps.length→bindArgs fd ⟨us,[]⟩=pure (ps.zip us)):Binds K fd ps []:=fun s us _ hl=>by
 rw [List.append_nil] at hl ⊢
 exact .of_eq (h us hl)
def O8 (CX:K8) (X:Cx) (E:XK):Prop:=∀(pins:List (Addr×Obj)) (σ:St) (H:Hp) (s:Shared) (e:Value) (s':Shared),Inv X pins σ H s→CX X.stack H s E e s'→X.xe e s'
section
variable {X:Cx} {CX:K8} {k:Nat} {f C:Addr} {fd:FuncData} {ps:List Str} {sp:Sp} {dvs:List V} {ds:List Value} {E:XK} {x m:Str} {p pos apos:Pos} {e o:Expr} {es:List Expr} {ta:TE} {t:TA}
theorem aJ {pins:List (Addr×Obj)} {σ:St} {H:Hp} {s:Shared} {Q:VK} {us:List Value} {vs:List V} (F:C9 X.prog X.w X.K X.mg X.base CX k f fd ps sp) (hr:Room k X.A) (hb:Binds X.K fd ps ds) (hd:Vals dvs ds) (hx:O8 CX X E)
  (I:Inv X pins σ H s) (r:Vals vs us) (h:sp (vs++dvs) H Q E):wpAny (model X.prog X.w) X.A (call (.ref f) us) (EP X pins σ Q) X.xe s:=by
 have r2:Vals (vs++dvs) (us++ds):=r.append hd
 have hl:(us++ds).length=ps.length:=by rw [←r2.length];exact F.len _ _ _ _ h
 refine wpAny_call (codeAny_mono (F.run X.A X.stack s H ⟨us,[]⟩ (us++ds) (vs++dvs) Q E hr I.env0 (hb s us I.kIn hl) r2 h) fun r s' hq=>?_)
 cases r with
 | error e=>exact hx pins σ H s e s' I hq
 | ok fl=>
  cases fl with
  | ret u=>exact I.after hq
  | next=>exact False.elim hq
  | brk=>exact False.elim hq
  | cont=>exact False.elim hq
theorem Dd (F:C9 X.prog X.w X.K X.mg X.base CX k f fd ps sp) (hr:Room k X.A) (hg:Gl X x) (hm:X.mg x=some (.ref f)) (hk:PySem.W.keepIn X.K (.ref f)=true) (hb:Binds X.K fd ps ds) (hd:Vals dvs ds) (hx:O8 CX X E)
  (ha:PA X (e::es) t) (hdb:(x==("__debug__":Str))=false:=by decide) (he:starEach (e::es) X.env=(false,eval e X.env)::starEach es X.env:=by rfl) (hpl:(backTo pos (starEach es X.env)).any (·.1)=false:=by rfl) :
  PE X (.Call (.Name x p) (e::es) [] pos) (iR sp dvs E t):=by
 intro pins s σ H Q I h
 refine wpAny_Call_Name_kw (X0 I hg hm ?_ hdb)
 refine PySem.W.callWith_K (h₀:=X.base) I.ok.mod.kin hk (g6 (ha pos pins s σ H _ I h) fun us s1 ⟨vs,H1,I1,r,q⟩=>⟨I1.kIn,?_⟩) he hpl
 exact aJ F hr hb hd hx I1 r q
theorem rQ {pl:Sem Bool} (he:PE X o ta) (c:Cls X.K C) (hm:U6 X.K C m f) (F:C9 X.prog X.w X.K X.mg X.base CX k f fd ps sp) (hr:Room k X.A) (hb:Binds X.K fd ps ds) (hd:Vals dvs ds) (hx:O8 CX X E) (ha:PA X (e::es) t)
  (hst:starEach (e::es) X.env=(false,eval e X.env)::starEach es X.env:=by rfl) (hpl:(backTo pos (starEach es X.env)).any (·.1)=false:=by rfl)
  (ht:eval (.Call (.Attribute o m apos) (e::es) [] pos) X.env=(do
   let ov ←eval o X.env
   standAt apos.atName
   let (f,first) ←holding [ov] (getMethod ov m pl)
   callWith pos f first (backTo pos (starEach (e::es) X.env)) (backToKw pos (keywordEach [] X.env))):=by rfl) :
  PE X (.Call (.Attribute o m apos) (e::es) [] pos) (Z5 C m sp dvs E ta t):=by
 intro pins s σ H Q I h
 refine PySem.W.methodCall_KW (pl:=pl) (g6 (he pins s σ H _ I h) fun u s1 ⟨x,H1,I1,rx,a,dx,fs,ex,ea,l,q⟩=>?_) ht
 subst ex
 obtain rfl:u=Value.ref a:=rx
 refine kT I1 ea c hm l ?_
 refine PySem.W.callWith_K (first:=[.ref a]) (h₀:=X.base) I.ok.mod.kin hm.kp (g6 (ha pos pins s1 σ H1 _ I1 q) fun us s2 ⟨vs,H2,I2,r,q2⟩=>⟨I2.kIn,?_⟩) hst hpl
 exact aJ (us:=.ref a::us) (vs:=.ref a::vs) F hr hb hd hx I2 (.cons rfl r) q2
theorem zL {pl:Sem Bool} (he:PE X o ta) (c:Cls X.K C) (hm:U6 X.K C m f) (F:C9 X.prog X.w X.K X.mg X.base CX k f fd ps sp) (hr:Room k X.A) (hb:Binds X.K fd ps ds) (hd:Vals dvs ds) (hx:O8 CX X E)
  (ht:eval (.Call (.Attribute o m apos) [] [] pos) X.env=(do
   let ov ←eval o X.env
   standAt apos.atName
   let (f,first) ←holding [ov] (getMethod ov m pl)
   callWith pos f first (backTo pos (starEach [] X.env)) (backToKw pos (keywordEach [] X.env))):=by rfl) :
  PE X (.Call (.Attribute o m apos) [] [] pos) (Z5 C m sp dvs E ta R3):=by
 intro pins s σ H Q I h
 refine PySem.W.methodCall_KW (pl:=pl) (g6 (he pins s σ H _ I h) fun u s1 ⟨x,H1,I1,rx,a,dx,fs,ex,ea,l,q⟩=>?_) ht
 subst ex
 obtain rfl:u=Value.ref a:=rx
 refine kT I1 ea c hm l ?_
 exact PySem.W.callWith_K0 (first:=[.ref a]) I1.kIn hm.kp (aJ (us:=[.ref a]) (vs:=[.ref a]) F hr hb hd hx I1 (.cons rfl .nil) q)
structure Mk (K:PySem.W.Frag) (C f:Addr):Prop where
 makes:PySem.W.makesIn K C=true
 init:PySem.W.findIn K (.ref C) "__init__"=some (some (.ref f))
 fn:PySem.W.isFn K (.ref f)=true
 kp:PySem.W.keepIn K (.ref C)=true
theorem qM {pins:List (Addr×Obj)} {σ:St} {H:Hp} {s:Shared} {Q:VK} {us:List Value} {vs:List V} (M:Mk X.K C f) (F:C9 X.prog X.w X.K X.mg X.base CX k f fd ps sp) (hr:Room (k+1) X.A) (hb:Binds X.K fd ps ds) (hd:Vals dvs ds)
  (hx:O8 CX X E) (I:Inv X pins σ H s) (r:Vals vs us)
  (h:∀x dx,H x=none→H dx=none→dx≠x→sp (.ref x::(vs++dvs)) (a8 (a8 H dx (.own x)) x (.ins C dx [])) (fun v H2=>v=.non∧Q (.ref x) H2) E) :
  wpAny (model X.prog X.w) X.A (call (.ref C) us) (EP X pins σ Q) X.xe s:=by
 have hq:=h (s.heap.objs.size+1) s.heap.objs.size (I.hok.fresh (Nat.le_succ _)) (I.hok.fresh (Nat.le_refl _)) (Nat.ne_of_lt (Nat.lt_succ_self _))
 have I2:=Inv.made (C:=C) I
 have r2:Vals (V.ref (s.heap.objs.size+1)::(vs++dvs)) (Value.ref (s.heap.objs.size+1)::(us++ds)):=.cons rfl (r.append hd)
 have hl:(Value.ref (s.heap.objs.size+1)::us++ds).length=ps.length:=by
  have e:=r2.length
  rw [F.len _ _ _ _ hq] at e
  exact e.symm
 refine wpAny_call (ER (f:=f) I.kIn M.makes M.init (beq_iff_eq.mp M.fn) (codeAny_mono (F.run _ X.stack _ _ ⟨Value.ref (s.heap.objs.size+1)::us,[]⟩ (Value.ref (s.heap.objs.size+1)::(us++ds)) _ _ E (hr.make C us [])
  (I2.env0.make C us []) (hb _ (Value.ref (s.heap.objs.size+1)::us) I2.kIn hl) r2 hq) fun r s' hq'=>?_))
 cases r with
 | error e=>exact hx pins σ _ _ e s' I2 hq'
 | ok fl=>
  cases fl with
  | ret u=>
   obtain ⟨v,H',I3,rv,ev,q3⟩:=I2.after hq'
   subst ev
   exact ⟨rv,⟨V.ref (s.heap.objs.size+1),H',I3,rfl,q3⟩⟩
  | next=>exact False.elim hq'
  | brk=>exact False.elim hq'
  | cont=>exact False.elim hq'
theorem ET (M:Mk X.K C f) (F:C9 X.prog X.w X.K X.mg X.base CX k f fd ps sp) (hr:Room (k+1) X.A) (hg:Gl X x) (hm:X.mg x=some (.ref C)) (hb:Binds X.K fd ps ds) (hd:Vals dvs ds) (hx:O8 CX X E)
  (ha:PA X (e::es) t) (hdb:(x==("__debug__":Str))=false:=by decide) (he:starEach (e::es) X.env=(false,eval e X.env)::starEach es X.env:=by rfl) (hpl:(backTo pos (starEach es X.env)).any (·.1)=false:=by rfl) :
  PE X (.Call (.Name x p) (e::es) [] pos) (bL C sp dvs E t):=by
 intro pins s σ H Q I h
 refine wpAny_Call_Name_kw (X0 I hg hm ?_ hdb)
 refine PySem.W.callWith_K (h₀:=X.base) I.ok.mod.kin M.kp (g6 (ha pos pins s σ H _ I h) fun us s1 ⟨vs,H1,I1,r,q⟩=>⟨I1.kIn,?_⟩) he hpl
 exact qM M F hr hb hd hx I1 r q
theorem vR (M:Mk X.K C f) (F:C9 X.prog X.w X.K X.mg X.base CX k f fd ps sp) (hr:Room (k+1) X.A) (hg:Gl X x) (hm:X.mg x=some (.ref C)) (hb:Binds X.K fd ps ds) (hd:Vals dvs ds) (hx:O8 CX X E)
  (hdb:(x==("__debug__":Str))=false:=by decide):PE X (.Call (.Name x p) [] [] pos) (bL C sp dvs E R3):=by
 intro pins s σ H Q I h
 refine wpAny_Call_Name_kw (X0 I hg hm ?_ hdb)
 exact PySem.W.callWith_K0 I.kIn M.kp (qM (us:=[]) M F hr hb hd hx I .nil h)
end
structure N0 (N P:List Str) (sc:Scope):Prop where
 kind:sc.kind=.function
 co:sc.isCoroutine=false
 gen:sc.isGenerator=false
 nd:N.Nodup
 pre:N.take P.length=P
 par:∀x∈P,sc.names.lookup x=some .local∨sc.names.lookup x=some .cell
 nofree:∀y∈sc.names,y.2≠.free
theorem oU {kindOf:Str→Option NameKind} {x:Str}:∀{binds:List (Str×Value)} {m:Str→Option Value},(∀v,(x,v)∉binds)→bindL kindOf binds m x=m x
 | [],_,_=>rfl
 | (n,v)::r,m,h=>by
  unfold bindL
  rw [oU fun w hw=>h w (List.mem_cons_of_mem _ hw)]
  split
  ·have:x≠n:=by rintro rfl;exact h v List.mem_cons_self
   simp [this]
  ·rfl
theorem mN {kindOf:Str→Option NameKind} {x:Str}:∀{binds:List (Str×Value)} {m:Str→Option Value},(∀v,(x,v)∉binds)→bindC kindOf binds m x=m x
 | [],_,_=>rfl
 | (n,v)::r,m,h=>by
  unfold bindC
  rw [mN fun w hw=>h w (List.mem_cons_of_mem _ hw)]
  split
  ·rfl
  ·have:x≠n:=by rintro rfl;exact h v List.mem_cons_self
   simp [this]
theorem qY {kindOf:Str→Option NameKind} {x:Str} {v:Value}:∀{P:List Str} {vs:List Value} {i:Nat} {m:Str→Option Value},P.Nodup→P[i]?=some x→vs[i]?=some v→kindOf x=some .local→
  bindL kindOf (P.zip vs) m x=some v
 | [],_,_,_,_,h,_,_=>by simp at h
 | _::_,[],_,_,_,_,h,_=>by simp at h
 | p::P,w::vs,0,m,nd,h1,h2,hk=>by
  simp at h1 h2;subst h1;subst h2
  show bindL kindOf ((p,w)::P.zip vs) m p=_
  unfold bindL
  rw [oU fun v hv=>(List.nodup_cons.mp nd).1 (List.of_mem_zip hv).1,if_pos hk]
  simp
 | p::P,w::vs,i+1,m,nd,h1,h2,hk=>by
  show bindL kindOf ((p,w)::P.zip vs) m x=_
  unfold bindL
  exact qY (i:=i) (List.nodup_cons.mp nd).2 (by simpa using h1) (by simpa using h2) hk
theorem iU {kindOf:Str→Option NameKind} {x:Str} {v:Value}:∀{P:List Str} {vs:List Value} {i:Nat} {m:Str→Option Value},P.Nodup→P[i]?=some x→vs[i]?=some v→kindOf x≠some .local→
  bindC kindOf (P.zip vs) m x=some v
 | [],_,_,_,_,h,_,_=>by simp at h
 | _::_,[],_,_,_,_,h,_=>by simp at h
 | p::P,w::vs,0,m,nd,h1,h2,hk=>by
  simp at h1 h2;subst h1;subst h2
  show bindC kindOf ((p,w)::P.zip vs) m p=_
  unfold bindC
  rw [mN fun v hv=>(List.nodup_cons.mp nd).1 (List.of_mem_zip hv).1,if_neg hk]
  simp
 | p::P,w::vs,i+1,m,nd,h1,h2,hk=>by
  show bindC kindOf ((p,w)::P.zip vs) m x=_
  unfold bindC
  exact iU (i:=i) (List.nodup_cons.mp nd).2 (by simpa using h1) (by simpa using h2) hk
def start (N:List Str) (vs:List V):St:=vs.map some++List.replicate (N.length - vs.length) none
def F7 (CX:K8) (P:Program) (w:World) (K:PySem.W.Frag) (mg:Str→Option Value) (base:Heap) (N:List Str) (qual:Str) (scope:Scope) (f:Addr) (cd:Value) (A:Around) (outer:List Env) (s:Shared) (H:Hp) (E:XK):Cx where
 prog:=P
 w:=w
 K:=K
 mg:=mg
 base:=base
 A:=A.deeper (envOfC qual scope s.heap.objs.size f cd)
 N:=N
 s_0:=s
 H_0:=H
 env:=envOfC qual scope s.heap.objs.size f cd
 outer:=outer
 stack:=envOfC qual scope s.heap.objs.size f cd::outer
 ex:=[]
 calm:=true
 fn:=fun _=>true
 pn:=[]
 xe:=fun e s'=>wpAny (model P w) (A.deeper (envOfC qual scope s.heap.objs.size f cd)) (leaving (envOfC qual scope s.heap.objs.size f cd) e) (fun _ s''=>CX outer H s E e s'') (fun e' s''=>CX outer H s E e' s'') s'
theorem iO {sc:Scope} {n:Nat} {x:Str} (h:sc.names.lookup x=some .cell):∃c,(cellsFrom n sc.names []).lookup x=some c:=by
 have q:=PySem.W.cellsFrom_some sc.names n [] (.inl h)
 exact Option.isSome_iff_exists.mp q
theorem pQ {CX:K8} {P:Program} {w:World} {K:PySem.W.Frag} {mg:Str→Option Value} {base:Heap} {N ps:List Str} {qual:Str} {scope:Scope} {f:Addr} {cd:Value} {A:Around} {outer:List Env} {s s1:Shared} {H:Hp} {E:XK} {us:List Value} {vs:List V}
  (S:N0 N ps scope) (hd:A.handled=none) (e0:Env0 P w K mg base A outer s H) (hl:vs.length=ps.length) (r:Vals vs us)
  (x:InCallC s s.heap.objs.size (bindL (envOfC qual scope s.heap.objs.size f cd).kindOf (ps.zip us) fun _=>none) (cellsFrom (s.heap.objs.size+1) scope.names []) (bindC (envOfC qual scope s.heap.objs.size f cd).kindOf (ps.zip us) fun _=>none) s1) :
  Inv (F7 CX P w K mg base N qual scope f cd A outer s H E) [] (start N vs) H s1:=by
 have hpl:ps.length≤N.length:=by have:=congrArg List.length S.pre;rw [List.length_take] at this;omega
 obtain ⟨h1,tk,rfl,hk⟩:=x.done
 have noA:∀b:Addr,b∉(F7 CX P w K mg base N qual scope f cd A outer s H E).ex:=fun b z=>absurd (show b∈([]:List Addr) from z) (by simp)
 refine ⟨⟨e0.mod,S.kind,rfl,rfl,Nat.le_refl _,fun y z c h1 h2=>?_,fun y hy=>?_,fun y c _ h=>?_,fun _=>hd,Around.frames_deeper e0.frames,.inr ⟨rfl,rfl⟩,fun b z=>absurd z (noA b),e0.bs,e0.bsz,fun b _ _=>noA b,fun b z=>absurd z (noA b),e0.funs,e0.frf⟩,
  rfl,e0.bare,Un.kept hk,⟨_,x.toInCall.ns,fun i y v h1 h2 h3=>?_⟩,fun y c h=>⟨_,x.cell y c h⟩,e0.hok.fresh (Nat.le_refl _),fun y c h=>?_,fun p hp=>absurd (show p∈([]:List (Addr×Obj)) from hp) (by simp),e0.hok.kept hk,?_⟩
 ·exact name_of_addr x.apart (PySem.mem_of_lookup h1) (PySem.mem_of_lookup h2)
 ·have hy:scope.names.lookup y=some .cell∨scope.names.lookup y=some .free:=hy
  rcases hy with hy|hy
  ·exact iO hy
  ·exact absurd rfl (S.nofree _ (PySem.mem_of_lookup hy))
 ·exact Nat.le_of_lt (x.above y c (PySem.mem_of_lookup h))
 ·have hi:i < vs.length:=by
   unfold start at h2
   by_cases hi:i < vs.length
   ·exact hi
   ·rw [List.getElem?_append_right (by simpa using hi)] at h2
    rw [List.getElem?_replicate] at h2
    split at h2<;>cases h2
  have ha:vs[i]?=some v:=by
   unfold start at h2
   rw [List.getElem?_append_left (by simpa using hi),List.getElem?_map] at h2
   cases e:vs[i]? with
   | none=>rw [e] at h2;cases h2
   | some a=>rw [e] at h2;cases h2;rfl
  obtain ⟨u,hu,rv⟩:=r.get ha
  have hp:ps[i]?=some y:=by
   rw [←S.pre,List.getElem?_take_of_lt (by omega)];exact h1
  have ndP:ps.Nodup:=by rw [←S.pre];exact S.nd.sublist (List.take_sublist _ _)
  refine ⟨u,rv,?_⟩
  rcases S.par y (List.mem_of_getElem? hp) with k|k
  ·exact .inl ⟨k,qY ndP hp hu k⟩
  ·obtain ⟨c,e⟩:=iO (n:=s.heap.objs.size+1) k
   refine .inr ⟨.inl k,c,e,?_⟩
   have q:=x.cell y c e
   rw [iU ndP hp hu (by show scope.names.lookup y≠_;rw [k];decide)] at q
   exact q
 ·exact e0.hok.fresh (Nat.le_of_lt (x.above y c (PySem.mem_of_lookup h)))
 ·unfold start
  show _=N.length
  rw [List.length_append,List.length_map,List.length_replicate]
  omega
theorem EI {CX:K8} {P:Program} {w:World} {K:PySem.W.Frag} {mg:Str→Option Value} {base:Heap} {k:Nat} {f:Addr} {name qual:Str} {params:Arguments} {body:List Stmt} {scope:Scope} {dV kV doc pm cdv ct oc:Value} {an od:Option Addr}
  {osl:Array (Option Value)} {N ps:List Str} {sp:Sp} (lk:K.lookup f=some ⟨oc,od,.func (PySem.W.fnOf name qual params body scope dV kV doc pm an cdv ct),osl⟩) (hcd:PySem.W.codeIn K cdv qual=true) (S:N0 N ps scope)
  (len:∀vs H Q E,sp vs H Q E→vs.length=ps.length)
  (hbody:∀(A:Around) (outer:List Env) (s:Shared) (H:Hp) (vs:List V) (Q:VK) (E:XK),Room k (A.deeper (envOfC qual scope s.heap.objs.size f cdv))→sp vs H Q E→
   ∃t,PSs (F7 CX P w K mg base N qual scope f cdv A outer s H E) body t∧t { nx:=fun _ H'=>Q .non H',rt:=Q } (start N vs) H) :
  C9 P w K mg base CX (k+1) f (PySem.W.fnOf name qual params body scope dV kV doc pm an cdv ct) ps sp:=by
 refine ⟨len,fun A outer s H args us vs Q E hr e0 hb r hsp=>?_⟩
 have hl:=len _ _ _ _ hsp
 have KX:K.In s.heap:=e0.mod.kin.keeps fun b o e=>(e0.bs b o e).1
 have lim:s.heap.NoLimit:=e0.mod.nolimit.keeps fun b o e=>(e0.bs b o e).1
 have hkind:∀y∈ps.zip us,scope.names.lookup y.1=some .local∨(scope.names.lookup y.1=some .cell∧((cellsFrom (s.heap.objs.size+1) scope.names []).lookup y.1).isSome=true):=fun ⟨n,v⟩ hy=>by
  rcases S.par n (List.of_mem_zip hy).1 with q|q
  ·exact .inl q
  ·exact .inr ⟨q,PySem.W.cellsFrom_some _ _ _ (.inl q)⟩
 refine codeAny_call_function hr.depth (KX _ _ lk) rfl S.co S.gen rfl (PySem.W.codeRec_of KX hcd) (hb _ _ _ _ ?_)
 refine wpAny_newFunctionEnv_cells S.kind hkind fun env he s1 x=>?_
 subst he
 refine ⟨lim.keeps x.toInCall.keep,codeAny_func ?_⟩
 obtain ⟨t,ht,hq⟩:=hbody A outer s H vs Q E (hr.deeper _) hsp
 have I:Inv (F7 CX P w K mg base N qual scope f cdv A outer s H E) [] (start N vs) H s1:=pQ S hr.hd e0 hl r x
 refine wpAny_mono (ht [] s1 (start N vs) H _ I hq) (fun fl s' hs=>?_) fun e s' hs=>hs
 have fin:∀{σ':St} {H':Hp} {v:V} {u:Value},Inv (F7 CX P w K mg base N qual scope f cdv A outer s H E) [] σ' H' s'→RelV v u→Q v H'→CE outer P w H s Q u s':=
  fun {σ' H' v u} J rv q=>⟨v,H',J.os,J.bare,J.base,J.hok,rv,q⟩
 cases fl with
 | ret u=>
  obtain ⟨v,σ',H',J,rv,q⟩:=hs
  exact fin J rv q
 | next=>
  obtain ⟨σ',H',J,q⟩:=hs
  exact fin (v:=V.non) (u:=Value.none) J rfl q
 | brk=>
  obtain ⟨_,_,_,q⟩:=hs
  exact False.elim q
 | cont=>
  obtain ⟨_,_,_,q⟩:=hs
  exact False.elim q
section
variable {X:Cx} {x:Str} {p pos:Pos} {e:Expr} {es:List Expr} {t:TA} {id T:String} {r:List V→Hp→VK→Prop}
def pA (r:List V→Hp→VK→Prop) (t:TA):TE:=fun σ H Q=>t σ H fun vs H1=>r vs H1 Q
theorem A2 (hc:N4 X (.builtin id) r) (hg:Gl X x) (hm:X.mg x=none) (hv:bootBuiltins x=some (.builtin id)) (ha:PA X (e::es) t) (hn:x≠"__name__":=by decide) (hdb:(x==("__debug__":Str))=false:=by decide)
  (he:starEach (e::es) X.env=(false,eval e X.env)::starEach es X.env:=by rfl) (hpl:(backTo pos (starEach es X.env)).any (·.1)=false:=by rfl):PE X (.Call (.Name x p) (e::es) [] pos) (pA r t):=by
 intro pins s σ H Q I h
 refine wpAny_Call_Name_kw (R8 I hg hm hv ?_ hn hdb)
 exact PyProof.Rows.callWith_builtin1 (g6 (ha pos pins s σ H _ I h) fun us s1 ⟨vs,H1,I1,r1,q1⟩=>hc pins s1 σ H1 vs us Q I1 r1 q1) he hpl
theorem eR (hc:N4 X (.type T) r) (hg:Gl X x) (hm:X.mg x=none) (hv:bootBuiltins x=some (.type T)) (ha:PA X (e::es) t) (hn:x≠"__name__":=by decide) (hdb:(x==("__debug__":Str))=false:=by decide)
  (he:starEach (e::es) X.env=(false,eval e X.env)::starEach es X.env:=by rfl) (hpl:(backTo pos (starEach es X.env)).any (·.1)=false:=by rfl):PE X (.Call (.Name x p) (e::es) [] pos) (pA r t):=by
 intro pins s σ H Q I h
 refine wpAny_Call_Name_kw (R8 I hg hm hv ?_ hn hdb)
 exact PyProof.Rows.callWith_type1 (g6 (ha pos pins s σ H _ I h) fun us s1 ⟨vs,H1,I1,r1,q1⟩=>hc pins s1 σ H1 vs us Q I1 r1 q1) he hpl
end
end L2
namespace HT
open PySem PyProof.Rows
section
variable {prog:Program} {w:World} {A:Around} {E:Value→Shared→Prop} {s:Shared}
def sIx (n d:Nat):Option Int→Nat
 | none=>d
 | some v=>if v < 0 then (v+(n:Int)).toNat else min v.toNat n
theorem sIx_none (n d:Nat):sIx n d none=d:=rfl
theorem sIx_nat (n d k:Nat):sIx n d (some (k:Int))=min k n:=by
 show (if (k:Int) < 0 then ((k:Int)+(n:Int)).toNat else min (k:Int).toNat n)=min k n
 rw [if_neg (by omega),Int.toNat_natCast]
theorem sP (n d:Nat) (hd:d≤n) (o:Option Int):sIx n d o≤n:=by
 cases o with
 | none=>exact hd
 | some v=>
  show (if v < 0 then (v+(n:Int)).toNat else min v.toNat n)≤n
  by_cases hv:v < 0
  ·rw [if_pos hv];omega
  ·rw [if_neg hv];exact Nat.min_le_right _ _
theorem jN (v:Int) (n d:Nat):(if v < 0 then max (v+(n:Int)) 0 else min v (n:Int))=((sIx n d (some v):Nat):Int):=by
 show (if v < 0 then max (v+(n:Int)) 0 else min v (n:Int))=(((if v < 0 then (v+(n:Int)).toNat else min v.toNat n):Nat):Int)
 by_cases hv:v < 0
 ·simp only [if_pos hv];omega
 ·simp only [if_neg hv];omega
theorem Al (lo hi:Option Int) (n:Nat):Builtin.Slice.sliceAdjust lo hi 1 (n:Int)=(((sIx n 0 lo:Nat):Int),((sIx n n hi:Nat):Int)):=by
 have h1:¬((1:Int) < 0):=by omega
 unfold Builtin.Slice.sliceAdjust
 simp only [h1,if_false]
 refine Prod.ext ?_ ?_
 ·cases lo with
  | none=>rfl
  | some v=>exact jN v n 0
 ·cases hi with
  | none=>rfl
  | some v=>exact jN v n n
theorem tH (i j:Nat):Builtin.Slice.slicePlaces (i:Int) (j:Int) 1=j - i:=by
 unfold Builtin.Slice.slicePlaces
 have h1:(1:Int) > 0:=by omega
 simp only [h1,if_true,Int.ediv_one]
 split<;>omega
theorem lV {v:Value} {o:Option Int} {Q:Option Int→Shared→Prop} (p:IsPart v o) (h:Q o s):wpAny (model prog w) A (Builtin.Slice.slicePartIndex v) Q E s:=by
 cases p with
 | none=>exact slicePart_none h
 | int i t=>exact slicePart_int h
theorem kU {sl:Addr} {vl vu:Value} {lo hi:Option Int} {n:Nat} {Q:Int×Int×Nat→Shared→Prop} (hs:s.heap.IsSliceOf sl vl vu .none) (pl:IsPart vl lo) (pu:IsPart vu hi)
  (h:Q (((sIx n 0 lo:Nat):Int),1,sIx n n hi - sIx n 0 lo) s):wpAny (model prog w) A (Builtin.Slice.sliceApplied (.ref sl) (pure (n:Int))) Q E s:=by
 obtain ⟨os,hos,hcs,hds⟩:=id hs
 unfold Builtin.Slice.sliceApplied Builtin.Slice.sliceFields
 refine wpAny_bind (wpAny_bind (wpAny_field hos hds (x:=vl) rfl (wpAny_bind (wpAny_field hos hds (x:=vu) rfl (wpAny_bind (wpAny_field hos hds (x:=.none) rfl (wpAny_pure ?_)))))))
 refine wpAny_bind (slicePart_none ?_)
 show wpAny _ _ (if ((1:Int)==0)=true then _ else _) _ _ s
 rw [if_neg (by decide)]
 refine wpAny_bind (lV pl (wpAny_bind (lV pu (wpAny_bind (wpAny_pure ?_)))))
 show wpAny _ _ (match Builtin.Slice.sliceAdjust lo hi 1 (n:Int) with | (lo,hi)=>pure (lo,(1:Int),Builtin.Slice.slicePlaces lo hi 1)) _ _ s
 rw [Al lo hi n]
 show wpAny _ _ (pure (((sIx n 0 lo:Nat):Int),(1:Int),Builtin.Slice.slicePlaces ((sIx n 0 lo:Nat):Int) ((sIx n n hi:Nat):Int) 1)) _ _ s
 rw [tH]
 exact wpAny_pure h
theorem vV (xs:Array Value) (i k:Nat):((List.range k).filterMap fun (m:Nat)=>xs[((i:Int)+(m:Int)*1).toNat]?).toArray=((xs.toList.drop i).take k).toArray:=by
 have e:(fun (m:Nat)=>xs[((i:Int)+(m:Int)*1).toNat]?)=fun m=>xs[i+m]?:=by
  funext m
  have:((i:Int)+(m:Int)*1).toNat=i+m:=by omega
  rw [this]
 rw [e]
 have:=pick_run xs i k
 rw [List.filterMap_map] at this
 have e2:((fun x=>xs[x]?)∘fun x=>i+x)=fun m=>xs[i+m]?:=rfl
 rw [e2] at this
 rw [this]
theorem getItem_tuple_cut {t sl:Addr} {items:Array Value} {vl vu:Value} {lo hi:Option Int} {Q:Value→Shared→Prop} (ht:IsTup s.heap t items) (hs:s.heap.IsSliceOf sl vl vu .none) (pl:IsPart vl lo) (pu:IsPart vu hi)
  (hw:¬(sIx items.size 0 lo=0∧sIx items.size items.size hi=items.size))
  (h:Q (.ref s.heap.objs.size) { s with heap:=s.heap.push { cls:=.type "tuple",data:=.seq ((items.toList.drop (sIx items.size 0 lo)).take (sIx items.size items.size hi - sIx items.size 0 lo)).toArray } })
  (hsz:items.size≤sizeLine):wpAny (model prog w) A (getItem (.ref t) (.ref sl)) Q E s:=by
 have htake:sizeOk (.seq ((items.toList.drop (sIx items.size 0 lo)).take (sIx items.size items.size hi - sIx items.size 0 lo)).toArray):=by
  show ((items.toList.drop (sIx items.size 0 lo)).take (sIx items.size items.size hi - sIx items.size 0 lo)).toArray.size≤sizeLine
  rw [List.size_toArray,List.length_take,List.length_drop,Array.length_toList]
  omega
 have hj:sIx items.size items.size hi≤items.size:=sP _ _ (Nat.le_refl _) hi
 obtain ⟨os,hos,hcs,hds⟩:=id hs
 have hTs:s.TypeIs (.ref sl) "slice":=⟨os,hos,hcs⟩
 unfold getItem
 try with_reducible refine wpAny_holding ?_
 first | refine wpAny_bind (wpAny_pure ?_)|skip
 refine wpAny_bind (wpAny_sequenceKey ht.typeIs (by decide) ?_)
 refine wpAny_bind (wpAny_callSpecial?_slot (name:=Str.ofString "__getitem__") ht.typeIs PyProof.Rows.slot_tuple_getitem
  (wpAny_call_entry PyProof.Rows.slot_tuple_getitem ht.typeIs entry_tuple_getitem ?_ (args_tuple_getitem _ _)))
 show wpAny _ _ (Builtin.Tuple.tupleItemsOf (.ref t) >>= _) _ _ s
 refine wpAny_bind (tupleItemsOf_ ht ?_)
 refine wpAny_bind (wpAny_typeOf hTs ?_)
 rw [if_pos (by decide)]
 refine wpAny_bind (kU hs pl pu ?_)
 have hno:¬((((sIx items.size 0 lo:Nat):Int)==0 && (1:Int)==1 && (sIx items.size items.size hi - sIx items.size 0 lo)==items.size)=true):=by
  intro q
  rw [Bool.and_eq_true,Bool.and_eq_true] at q
  have q1:((sIx items.size 0 lo:Nat):Int)=0:=eq_of_beq q.1.1
  have q2:sIx items.size items.size hi - sIx items.size 0 lo=items.size:=eq_of_beq q.2
  exact hw ⟨by omega,by omega⟩
 show wpAny _ _ (if (((sIx items.size 0 lo:Nat):Int)==0 && (1:Int)==1 && (sIx items.size items.size hi - sIx items.size 0 lo)==items.size)=true then _ else _) _ _ s
 rw [if_neg hno,vV]
 first
  | exact wpAny_bind (m:=Builtin.Tuple.tupleExact _) (wpAny_newObj_type (wpAny_pure ⟨_,rfl,wpAny_pure h⟩) htake)
  | exact wpAny_bind (m:=Builtin.Tuple.tupleExact _) (wpAny_newObj_type (wpAny_bind (wpAny_pure (wpAny_pure ⟨_,rfl,wpAny_pure h⟩))) htake)
  | exact wpAny_bind (wpAny_bind (m:=Builtin.Tuple.tupleExact _) (wpAny_newObj_type (wpAny_pure (wpAny_pure ⟨_,rfl,wpAny_pure h⟩)) htake))
  | exact wpAny_bind (wpAny_bind (m:=Builtin.Tuple.tupleExact _) (wpAny_newObj_type (wpAny_pure ⟨_,rfl,wpAny_pure h⟩) htake))
end
end HT
namespace L2
open PySem PySem.Spec PyProof.Rows
abbrev TO:=St→Hp→(Option Int→Hp→Prop)→Prop
def PO (X:Cx) (e:Option Expr) (t:TO):Prop:=
 ∀(pins:List (Addr×Obj)) (s:Shared) (σ:St) (H:Hp) (Q:Option Int→Hp→Prop),Inv X pins σ H s→t σ H Q→
  wpAny (model X.prog X.w) X.A (evalPart e X.env) (fun u s'=>∃o H',Inv X pins σ H' s'∧IsPart u o∧Q o H') X.xe s
def vA:TO:=fun _ H Q=>Q none H
def xY (t:TE):TO:=fun σ H Q=>t σ H fun x H1=>∃i,x=.int i∧Q (some i) H1
section
variable {X:Cx} {e:Expr} {te:TE} {lo hi:Option Expr} {tl th:TO} {pos p2:Pos}
theorem CV:PO X none vA:=by
 intro pins s σ H Q I h
 rw [evalPart_none]
 exact wpAny_pure ⟨none,H,I,.none,h⟩
theorem Y7 (h:PE X e te):PO X (some e) (xY te):=by
 intro pins s σ H Q I hw
 rw [evalPart_some]
 refine g6 (h pins s σ H _ I hw) fun u s1 ⟨x,H1,I1,r1,q1⟩=>?_
 obtain ⟨i,rfl,q⟩:=q1
 obtain ⟨t,rfl⟩:=r1
 exact ⟨some i,H1,I1,.int i t,q⟩
def SlR (X:Cx) (r:V→Option Int→Option Int→Hp→VK→Prop):Prop:=
 ∀(pins:List (Addr×Obj)) (s:Shared) (σ:St) (H:Hp) (x:V) (v vl vu:Value) (lo hi:Option Int) (sl:Addr) (Q:VK),Inv X pins σ H s→RelV x v→s.heap.IsSliceOf sl vl vu .none→IsPart vl lo→IsPart vu hi→r x lo hi H Q→
  ∃T id,typeLookup (.type T) "__getitem__"=pure (some (.builtin id))∧s.TypeIs v T∧wpAny (model X.prog X.w) X.A (getItem v (.ref sl)) (EP X pins σ Q) X.xe s
theorem SlR.or {r r':V→Option Int→Option Int→Hp→VK→Prop} (h:SlR X r) (h':SlR X r'):SlR X (fun x lo hi H Q=>r x lo hi H Q∨r' x lo hi H Q):=by
 intro pins s σ H x v vl vu lo hi sl Q I rx hs pl pu q
 rcases q with q|q
 ·exact h pins s σ H x v vl vu lo hi sl Q I rx hs pl pu q
 ·exact h' pins s σ H x v vl vu lo hi sl Q I rx hs pl pu q
def rV (r:V→Option Int→Option Int→Hp→VK→Prop) (te:TE) (tl th:TO):TE:=fun σ H Q=>te σ H fun x H1=>tl σ H1 fun l H2=>th σ H2 fun u H3=>r x l u H3 Q
theorem eC {r:V→Option Int→Option Int→Hp→VK→Prop} (hr:SlR X r) (he:PE X e te) (hl:PO X lo tl) (hu:PO X hi th):PE X (.Subscript e (.Slice lo hi none p2) pos) (rV r te tl th):=by
 intro pins s σ H Q I h
 refine Subscript_ (g6 (he pins s σ H _ I h) fun v s1 ⟨x,H1,I1,r1,q1⟩=>?_)
 refine wpAny_Slice (g6 (hl pins s1 σ H1 _ I1 q1) fun vl s2 ⟨l,H2,I2,pl,q2⟩=>g6 (hu pins s2 σ H2 _ I2 q2) fun vu s3 ⟨u,H3,I3,pu,q3⟩=>?_)
 rw [evalPart_none]
 refine wpAny_pure ?_
 have I4:Inv X pins σ H3 { s3 with heap:=s3.heap.push { cls:=.type "slice",data:=.fields #[vl,vu,.none] } }:=I3.kept (t':=s3.toks) fun b ob q=>Heap.get?_push_of_some _ q
 obtain ⟨T,id,hT,ht,hg⟩:=hr pins { s3 with heap:=s3.heap.push { cls:=.type "slice",data:=.fields #[vl,vu,.none] } } σ H3 x v vl vu l u s3.heap.objs.size Q I4 r1 (Heap.IsSliceOf.new ..) pl pu q3
 show wpAny (model X.prog X.w) X.A (subscriptTail e (.Slice lo hi none p2) v (.ref s3.heap.objs.size)) (EP X pins σ Q) X.xe { s3 with heap:=s3.heap.push { cls:=.type "slice",data:=.fields #[vl,vu,.none] } }
 exact tail_any (ops:=[.ref s3.heap.objs.size,v]) ht hT hg (by with_unfolding_all rfl)
def J0 (xs:List V) (lo hi:Option Int):List V:=(xs.drop (HT.sIx xs.length 0 lo)).take (HT.sIx xs.length xs.length hi - HT.sIx xs.length 0 lo)
theorem jM (xs:List V) (lo hi:Option Int):(J0 xs lo hi).length≤xs.length:=by
 unfold J0
 rw [List.length_take,List.length_drop]
 omega
def wS (K:PySem.W.Frag):V→Option Int→Option Int→Hp→VK→Prop:=fun x lo hi H Q=>∃a xs,x=.ref a∧SqT K H a xs∧
 ¬(HT.sIx xs.length 0 lo=0∧HT.sIx xs.length xs.length hi=xs.length)∧∀p,H p=none→Q (.ref p) (a8 H p (.tup (J0 xs lo hi)))
theorem sl_tup:SlR X (wS X.K):=by
 intro pins s σ H x v vl vu lo hi sl Q I rx hs pl pu h
 obtain ⟨a,xs,rfl,hx,hw,q⟩:=h
 cases rx
 obtain ⟨its,r,ht,hz⟩:=I.tuple hx
 have hlen:its.toArray.size=xs.length:=by rw [List.size_toArray];exact r.length.symm
 refine ⟨"tuple",_,PyProof.Rows.slot_tuple_getitem.lookup,ht.typeIs,?_⟩
 refine HT.getItem_tuple_cut ht hs pl pu (by rw [hlen];exact hw) ?_ (by rw [hlen];exact hz)
 rw [hlen]
 refine ⟨.ref s.heap.objs.size,_,I.laid (t':=s.toks) (o:=.tup (J0 xs lo hi)) (fun b ob q=>Heap.get?_push_of_some _ q) (Nat.le_refl _) ?_,rfl,q _ (I.hok.fresh (Nat.le_refl _))⟩
 exact ⟨Nat.le_trans (jM xs lo hi) hz,_,(r.drop (HT.sIx xs.length 0 lo)).take (HT.sIx xs.length xs.length hi - HT.sIx xs.length 0 lo),IsTup.new _ _⟩
end
def J6 (n:Nat) (i:Int):Option Nat:=if 0≤i then (if i < n then some i.toNat else none) else if -(n:Int)≤i then some (i+n).toNat else none
def D8 {α:Type} (xs:List α) (i:Int):Option α:=(J6 xs.length i).bind fun j=>xs[j]?
theorem pY {n:Nat} {i:Int} {j:Nat} (h:J6 n i=some j):seqIndex? i n=some j∧j < n∧-(n:Int)≤i∧i < n:=by
 unfold J6 at h
 by_cases h0:0≤i
 ·rw [if_pos h0] at h
  by_cases h1:i < n
  ·rw [if_pos h1] at h
   have e:i.toNat=j:=Option.some.inj h
   exact ⟨by rw [seqIndex_of h0 h1,e],by omega,by omega,h1⟩
  ·rw [if_neg h1] at h;cases h
 ·rw [if_neg h0] at h
  by_cases h1:-(n:Int)≤i
  ·rw [if_pos h1] at h
   have e:(i+n).toNat=j:=Option.some.inj h
   exact ⟨by rw [seqIndex_neg (by omega) h1,e],by omega,h1,by omega⟩
  ·rw [if_neg h1] at h;cases h
theorem kO {α:Type} {xs:List α} {i:Int} {v:α} (h:D8 xs i=some v):∃j,seqIndex? i xs.length=some j∧xs[j]?=some v∧j < xs.length∧-(xs.length:Int)≤i∧i < xs.length:=by
 unfold D8 at h
 cases e:J6 xs.length i with
 | none=>rw [e] at h;cases h
 | some j=>
  rw [e] at h
  obtain ⟨h1,h2,h3,h4⟩:=pY e
  exact ⟨j,h1,h,h2,h3,h4⟩
theorem l7 {α:Type} {xs:List α} {j:Nat} {v:α} (h:xs[j]?=some v):D8 xs (j:Int)=some v:=by
 have hj:j < xs.length:=(List.getElem?_eq_some_iff.mp h).1
 have e:J6 xs.length (j:Int)=some j:=by
  unfold J6
  rw [if_pos (by omega),if_pos (by omega)];simp
 unfold D8;rw [e];exact h
theorem Ak {α:Type} (xs:List α) (v:α):D8 (xs++[v]) (-1)=some v:=by
 have hl:(xs++[v]).length=xs.length+1:=by simp
 have e:J6 (xs++[v]).length (-1)=some xs.length:=by
  unfold J6
  rw [hl,if_neg (by decide),if_pos (by omega)]
  congr 1
  omega
 unfold D8
 rw [e]
 show (xs++[v])[xs.length]?=some v
 simp
def tF (b:Expr):Prop:=∀o i,subscripted b false o i=operate [o,i] (getItem o i)
def dB (X:Cx) (r:R2):Prop:=
 ∀(value slice:Expr) (pins:List (Addr×Obj)) (s:Shared) (σ:St) (H:Hp) (x y:V) (v u:Value) (Q:VK),Inv X pins σ H s→RelV x v→RelV y u→r x y H Q→
  subscripted slice false v u=operate [v,u] (getItem v u)→wpAny (model X.prog X.w) X.A (subscriptTail value slice v u) (EP X pins σ Q) X.xe s
def bG (X:Cx) (id:String) (r:V→List V→Hp→VK→Prop):Prop:=
 ∀(pins:List (Addr×Obj)) (s:Shared) (σ:St) (H:Hp) (x:V) (xs:List V) (v:Value) (us:List Value) (Q:VK),Inv X pins σ H s→RelV x v→Vals xs us→r x xs H Q→
  wpAny (model X.prog X.w) X.A (call (.builtin id) (v::us)) (EP X pins σ Q) X.xe s
section
variable {X:Cx} {a b:Expr} {ta tb:TE} {pos:Pos}
theorem j8 {r:R2} (hr:dB X r) (ha:PE X a ta) (hb:PE X b tb) (hs:tF b):PE X (.Subscript a b pos) (F1 r ta tb):=by
 intro pins s σ H Q I h
 exact Subscript_ (fL ha hb I h fun v u s2 x y H2 I2 rx ry q=>hr a b pins s2 σ H2 x y v u Q I2 rx ry q (hs _ _))
def nX (K:PySem.W.Frag):R2:=fun x y H Q=>∃p xs i v,x=.ref p∧y=.int i∧SqL K H p xs∧D8 xs i=some v∧Q v H
def tX (K:PySem.W.Frag):R2:=fun x y H Q=>∃p xs i v,x=.ref p∧y=.int i∧SqT K H p xs∧D8 xs i=some v∧Q v H
theorem p5:dB X (nX X.K):=by
 intro value slice pins s σ H x y v u Q I rx ry h hs
 obtain ⟨p,xs,i,z,rfl,rfl,hq,he,q⟩:=h
 cases rx
 obtain ⟨t,rfl⟩:=ry
 obtain ⟨its,r,pl,hz⟩:=I.list hq
 obtain ⟨j,h1,h2,h3,h4,h5⟩:=kO he
 obtain ⟨w,ew,rw'⟩:=r.get h2
 have hl:=r.length
 have hn:=X6
 have fin:EP X pins σ Q w s:=⟨z,H,I,rw',q⟩
 by_cases h0:0≤i
 ·have hj:i.toNat=j:=by
   rw [seqIndex_of h0 h5] at h1
   exact Option.some.inj h1
  exact item_listR pl.isList h0 (by omega) (by rw [hj];simpa using ew) fin hs
 ·have hj:(i+(its.toArray.size:Int)).toNat=j:=by
   rw [seqIndex_neg (by omega) h4] at h1
   rw [List.size_toArray,←hl]
   exact Option.some.inj h1
  exact subscriptTail_builtinR (x:=w) pl.isList.typeIs slot_list_getitem.lookup
   (wpAny_getItem_list_neg (Q:=fun r s'=>r=w∧EP X pins σ Q r s') pl.isList (by omega) (by rw [List.size_toArray]<;>omega) (by omega) (by rw [hj];simpa using ew) ⟨rfl,fin⟩) hs
theorem y4:dB X (tX X.K):=by
 intro value slice pins s σ H x y v u Q I rx ry h hs
 obtain ⟨p,xs,i,z,rfl,rfl,hq,he,q⟩:=h
 cases rx
 obtain ⟨t,rfl⟩:=ry
 obtain ⟨its,r,pl,hz⟩:=I.tuple hq
 obtain ⟨j,h1,h2,h3,h4,h5⟩:=kO he
 obtain ⟨w,ew,rw'⟩:=r.get h2
 have hl:=r.length
 have hn:=X6
 have fin:EP X pins σ Q w s:=⟨z,H,I,rw',q⟩
 exact subscriptTail_builtinR (x:=w) pl.typeIs slot_tuple_getitem.lookup
  (getItem_tuple (j:=j) (Q:=fun r s'=>r=w∧EP X pins σ Q r s') pl (by omega) (by omega) (by rw [List.size_toArray,←hl];exact h1) (by simpa using ew) ⟨rfl,fin⟩) hs
theorem BW (its:List Value) (n j:Nat) (u:Value):Obj.mapSeq (·.setIfInBounds j u) { cls:=.type "list",data:=.seq its.toArray n }={ cls:=.type "list",data:=.seq (its.set j u).toArray n }:=by
 simp [Obj.mapSeq]
theorem Inv.lst {pins:List (Addr×Obj)} {σ:St} {H:Hp} {s:Shared} {p:Addr} {xs:List V} (I:Inv X pins σ H s) (h:H p=some (.lst xs)) :
  ∃(its:List Value) (n:Nat),Vals xs its∧s.heap.get? p=some { cls:=.type "list",data:=.seq its.toArray n }∧xs.length≤sizeLine:=by
 obtain ⟨z,its,n,r,e⟩:=I.hok p _ h
 exact ⟨its,n,r,e,z⟩
theorem Inv.lstUpd {pins:List (Addr×Obj)} {σ:St} {H:Hp} {s:Shared} {p:Addr} {xs ys:List V} {its its':List Value} {n n':Nat} {f:Obj→Obj} (I:Inv X pins σ H s) (h:H p=some (.lst xs))
  (ho:s.heap.get? p=some { cls:=.type "list",data:=.seq its.toArray n }) (hf:f { cls:=.type "list",data:=.seq its.toArray n }={ cls:=.type "list",data:=.seq its'.toArray n' }) (r:Vals ys its') (hz:ys.length≤sizeLine) (t:Nat) :
  Inv X pins σ (a8 H p (.lst ys)) { s with heap:=s.heap.update p f,toks:=t }:=by
 have e:(s.heap.update p f).get? p=some { cls:=.type "list",data:=.seq its'.toArray n' }:=by
  rw [Heap.get?_update_self f ho (by rw [hf]<;>rfl),hf]
 refine I.write (x:=p) (e:=p) (by rw [h];trivial) (.inl rfl) (fun b u hb q=>(Heap.get?_update_other _ _ (Ne.symm hb)).trans q) ⟨_,e⟩ ?_
 exact ⟨hz,its',n',r,e⟩
def kK:V→V→V→Hp→(Hp→Prop)→Prop:=fun o i v H Q=>∃p xs k j,o=.ref p∧i=.int k∧H p=some (.lst xs)∧J6 xs.length k=some j∧Q (a8 H p (.lst (xs.set j v)))
theorem eN:pL X kK:=by
 intro pins s σ H o i v ov iv u Q I ro ri rv h
 obtain ⟨p,xs,k,j,rfl,rfl,hp,hj,q⟩:=h
 cases ro
 obtain ⟨t,rfl⟩:=ri
 obtain ⟨its,n,r,ho,hz⟩:=I.lst hp
 obtain ⟨h1,h2,h3,h4⟩:=pY hj
 have hl:=r.length
 have hn:=X6
 have I':Inv X pins σ (a8 H p (.lst (xs.set j v))) { s with heap:=s.heap.update p (Obj.mapSeq (·.setIfInBounds j u)) }:=
  I.lstUpd hp ho (BW its n j u) (r.set rv j) (by rw [List.length_set];exact hz) s.toks
 by_cases h0:0≤k
 ·have hk:k.toNat=j:=by
   rw [seqIndex_of h0 h4] at h1
   exact Option.some.inj h1
  exact PySem.W.ki_setAt ho h0 (by omega) (by rw [List.size_toArray,←hl];exact h4) (by rw [hk];exact ⟨_,I',q⟩)
 ·have hk:(k+(its.toArray.size:Int)).toNat=j:=by
   rw [seqIndex_neg (by omega) h3] at h1
   rw [List.size_toArray,←hl]
   exact Option.some.inj h1
  exact PySem.W.ki_setBack ho (by omega) (by rw [List.size_toArray,←hl];exact h3) (by omega) (by rw [hk];exact ⟨_,I',q⟩)
theorem Bg (lo hi:Option Int) (n:Nat):(sliceBounds lo hi none n).1=((HT.sIx n 0 lo:Nat):Int)∧(sliceBounds lo hi none n).2.1=((HT.sIx n n hi:Nat):Int)∧(sliceBounds lo hi none n).2.2=1:=by
 refine ⟨?_,?_,rfl⟩
 ·cases lo with
  | none=>simp [sliceBounds,HT.sIx]
  | some i=>
   simp only [sliceBounds,HT.sIx,Option.getD_none,show (1:Int) > 0 by decide,if_true]
   by_cases h:i < 0
   ·simp only [h,if_true]<;>omega
   ·simp only [h,if_false]<;>omega
 ·cases hi with
  | none=>simp [sliceBounds,HT.sIx]
  | some i=>
   simp only [sliceBounds,HT.sIx,Option.getD_none,show (1:Int) > 0 by decide,if_true]
   by_cases h:i < 0
   ·simp only [h,if_true]<;>omega
   ·simp only [h,if_false]<;>omega
theorem AC (its:List Value) (lo hi:Option Int):slicePick its.toArray lo hi none=((its.drop (HT.sIx its.length 0 lo)).take (HT.sIx its.length its.length hi - HT.sIx its.length 0 lo)).toArray:=by
 obtain ⟨h1,h2,h3⟩:=Bg lo hi its.toArray.size
 unfold slicePick
 rw [h1,h2,h3]
 simp only [sliceRange_one,pick_run,List.size_toArray]<;>rfl
def rS (K:PySem.W.Frag):V→Option Int→Option Int→Hp→VK→Prop:=fun x lo hi H Q=>∃a xs,x=.ref a∧SqL K H a xs∧∀p,H p=none→Q (.ref p) (a8 H p (.lst (J0 xs lo hi)))
theorem mO:SlR X (rS X.K):=by
 intro pins s σ H x v vl vu lo hi sl Q I rx hs pl pu h
 obtain ⟨a,xs,rfl,hx,q⟩:=h
 cases rx
 obtain ⟨its,r,ht,hz⟩:=I.list hx
 have hlen:=r.length
 refine ⟨"list",_,slot_list_getitem.lookup,ht.isList.typeIs,?_⟩
 refine wpAny_getItem_list_slice ht.isList hs pl pu .none (by simp) ?_ (by rw [List.size_toArray]<;>omega)
 rw [AC,←hlen]
 refine ⟨.ref s.heap.objs.size,_,I.laid (t':=s.toks) (o:=.lst (J0 xs lo hi)) (fun b ob q=>Heap.get?_push_of_some _ q) (Nat.le_refl _) ?_,rfl,q _ (I.hok.fresh (Nat.le_refl _))⟩
 exact ⟨Nat.le_trans (jM xs lo hi) hz,_,0,(r.drop (HT.sIx xs.length 0 lo)).take (HT.sIx xs.length xs.length hi - HT.sIx xs.length 0 lo),Heap.get?_push_size _ rfl⟩
def F8:V→Bool
 | .non=>true
 | .bl _=>true
 | .int _=>true
 | .str _=>true
 | _=>false
def l6:V→V→Bool
 | .non,.non=>true
 | .bl a,.bl b=>a==b
 | .bl a,.int b=>(if a then 1 else 0)==b
 | .int a,.bl b=>a==(if b then 1 else 0)
 | .int a,.int b=>a==b
 | .str a,.str b=>a==b
 | _,_=>false
theorem CY {A:Around} {s:Shared} {y x:V} {u v:Value} (ry:RelV y u) (rx:RelV x v) (fy:F8 y=true) (fx:F8 x=true):SeqAt.EqAt A s u v (l6 y x):=by
 cases y with
 | non=>
  cases ry
  cases x with
  | non=>cases rx;exact SeqAt.EqAt.same _
  | bl b=>cases rx;exact SeqAt.EqAt.none_bool b
  | int b=>obtain ⟨t,rfl⟩:=rx;exact SeqAt.EqAt.none_int b t
  | str b=>obtain ⟨t,rfl⟩:=rx;exact SeqAt.EqAt.none_str b t
  | _=>exact absurd (show false=true from fx) Bool.false_ne_true
 | bl a=>
  cases ry
  cases x with
  | non=>cases rx;exact SeqAt.EqAt.bool_none a
  | bl b=>cases rx;exact SeqAt.EqAt.bool_bool a b
  | int b=>obtain ⟨t,rfl⟩:=rx;exact SeqAt.EqAt.bool_int a b t
  | str b=>obtain ⟨t,rfl⟩:=rx;exact SeqAt.EqAt.bool_str a b t
  | _=>exact absurd (show false=true from fx) Bool.false_ne_true
 | int a=>
  obtain ⟨t',rfl⟩:=ry
  cases x with
  | non=>cases rx;exact SeqAt.EqAt.int_none a t'
  | bl b=>cases rx;exact SeqAt.EqAt.int_bool a t' b
  | int b=>obtain ⟨t,rfl⟩:=rx;exact SeqAt.EqAt.int_int a t' b t
  | str b=>obtain ⟨t,rfl⟩:=rx;exact SeqAt.EqAt.int_str a t' b t
  | _=>exact absurd (show false=true from fx) Bool.false_ne_true
 | str a=>
  obtain ⟨t',rfl⟩:=ry
  cases x with
  | non=>cases rx;exact SeqAt.EqAt.str_none a t'
  | bl b=>cases rx;exact SeqAt.EqAt.str_bool a t' b
  | int b=>obtain ⟨t,rfl⟩:=rx;exact SeqAt.EqAt.str_int a t' b t
  | str b=>obtain ⟨t,rfl⟩:=rx;exact SeqAt.EqAt.str_str a t' b t
  | _=>exact absurd (show false=true from fx) Bool.false_ne_true
 | _=>exact absurd (show false=true from fy) Bool.false_ne_true
def D2 (x:V) (u:Value):Bool:=match u with
 | .none=>l6 .non x
 | .bool b=>l6 (.bl b) x
 | .int i _=>l6 (.int i) x
 | .str z _=>l6 (.str z) x
 | _=>false
theorem cG {x y:V} {u:Value} (r:RelV y u) (f:F8 y=true):D2 x u=l6 y x:=by
 cases y with
 | non=>cases r;rfl
 | bl b=>cases r;rfl
 | int i=>obtain ⟨t,rfl⟩:=r;rfl
 | str z=>obtain ⟨t,rfl⟩:=r;rfl
 | _=>exact absurd (show false=true from f) Bool.false_ne_true
theorem Y2 {x:V}:∀{xs:List V} {us:List Value},Vals xs us→xs.all F8=true→us.any (D2 x)=xs.any fun y=>l6 y x
 | _,_,.nil,_=>rfl
 | y::xs,u::us,.cons r t,f=>by
  rw [List.all_cons,Bool.and_eq_true] at f
  rw [List.any_cons,List.any_cons,cG r f.1,Y2 t f.2]
theorem T0 {A:Around} {s:Shared} {x:V} {v:Value} (rx:RelV x v) (fx:F8 x=true):∀{xs:List V} {us:List Value},Vals xs us→xs.all F8=true→∀u∈us,SeqAt.EqAt A s u v (D2 x u)
 | _,_,.nil,_=>fun u hu=>by cases hu
 | y::xs,u::us,.cons r t,f=>fun u' hu=>by
  rw [List.all_cons,Bool.and_eq_true] at f
  rcases List.mem_cons.mp hu with rfl|hu
  ·rw [cG r f.1];exact CY r rx f.1 fx
  ·exact T0 rx fx t f.2 u' hu
def D6 (x:V) (xs:List V):Bool:=xs.any fun y=>l6 y x
def cU (K:PySem.W.Frag) (neg:Bool):R2:=fun x y H Q=>∃p xs,y=.ref p∧(SqL K H p xs∨SqT K H p xs)∧F8 x=true∧xs.all F8=true∧Q (.bl (if neg then !D6 x xs else D6 x xs)) H
theorem V7:o9 X (compareOp .In) (cU X.K false):=by
 intro pins s σ H x y v u Q I rx ry h
 obtain ⟨p,xs,rfl,hq,fx,fs,q⟩:=h
 cases ry
 rcases hq with hq|hq
 ·obtain ⟨its,r,pl,hz⟩:=I.list hq
  refine SeqAt.in_listAt (D2 x) pl.isList (fun w hw=>T0 rx fx r fs w (by simpa using hw)) ⟨.bl _,H,I,rfl,?_⟩
  rw [show its.toArray.any (D2 x)=its.any (D2 x) by simp,Y2 r fs]
  exact q
 ·obtain ⟨its,r,pl,hz⟩:=I.tuple hq
  refine SeqAt.in_tupleAt (D2 x) pl (fun w hw=>T0 rx fx r fs w (by simpa using hw)) ⟨.bl _,H,I,rfl,?_⟩
  rw [show its.toArray.any (D2 x)=its.any (D2 x) by simp,Y2 r fs]
  exact q
theorem mV:o9 X (compareOp .NotIn) (cU X.K true):=by
 intro pins s σ H x y v u Q I rx ry h
 obtain ⟨p,xs,rfl,hq,fx,fs,q⟩:=h
 cases ry
 rcases hq with hq|hq
 ·obtain ⟨its,r,pl,hz⟩:=I.list hq
  refine SeqAt.notIn_listAt (D2 x) pl.isList (fun w hw=>T0 rx fx r fs w (by simpa using hw)) ⟨.bl _,H,I,rfl,?_⟩
  rw [show its.toArray.any (D2 x)=its.any (D2 x) by simp,Y2 r fs]
  exact q
 ·obtain ⟨its,r,pl,hz⟩:=I.tuple hq
  refine SeqAt.notIn_tupleAt (D2 x) pl (fun w hw=>T0 rx fx r fs w (by simpa using hw)) ⟨.bl _,H,I,rfl,?_⟩
  rw [show its.toArray.any (D2 x)=its.any (D2 x) by simp,Y2 r fs]
  exact q
theorem C1:N4 X (.builtin "len") (fun xs H Q=>∃p ys,xs=[.ref p]∧(SqL X.K H p ys∨SqT X.K H p ys)∧Q (.int ys.length) H):=by
 intro pins s σ H xs us Q I r h
 obtain ⟨p,ys,rfl,hq,q⟩:=h
 obtain ⟨u,rfl,rx⟩:=vals1 r
 cases rx
 have hn:=X6
 rcases hq with hq|hq
 ·obtain ⟨its,r',pl,hz⟩:=I.list hq
  have hlen:=r'.length
  exact Calls.call_len_list pl.isList (by simp only [List.size_toArray]<;>omega) ⟨.int ys.length,H,I.tok _,⟨s.toks+1,by rw [List.size_toArray,hlen]⟩,q⟩
 ·obtain ⟨its,r',pl,hz⟩:=I.tuple hq
  have hlen:=r'.length
  exact len_tuple pl (by simp only [List.size_toArray]<;>omega) ⟨.int ys.length,H,I.tok _,⟨s.toks+1,by rw [List.size_toArray,hlen]⟩,q⟩
theorem Cq:N4 X (.type "list") (fun xs H Q=>∃p ys,xs=[.ref p]∧(SqL X.K H p ys∨SqT X.K H p ys)∧∀l,H l=none→Q (.ref l) (a8 H l (.lst ys))):=by
 intro pins s σ H xs us Q I r h
 obtain ⟨p,ys,rfl,hq,q⟩:=h
 obtain ⟨u,rfl,rx⟩:=vals1 r
 cases rx
 have fin:∀(its:List Value),Vals ys its→ys.length≤sizeLine→∀(h':Heap) (c':Nat),(∀b o',s.heap.get? b=some o'→h'.get? b=some o')→
   h'.get? s.heap.objs.size=some { cls:=.type "list",dict:=none,data:=.seq its.toArray c',slots:=#[] }→EP X pins σ Q (.ref s.heap.objs.size) { s with heap:=h' }:=fun its r' hz h' c' kp e=>
  ⟨.ref s.heap.objs.size,_,I.laid (t':=s.toks) kp (Nat.le_refl _) (show ObjOk X.prog X.w _ h' _ (.lst ys) from ⟨hz,its,c',r',e⟩),rfl,q _ (I.hok.fresh (Nat.le_refl _))⟩
 rcases hq with hq|hq
 ·obtain ⟨its,r',pl,hz⟩:=I.list hq
  have hlen:=r'.length
  obtain ⟨o,ho,hc,n,hd⟩:=pl.isList
  exact call_list_seq p (.inl rfl) ho hc hd (fun h' c' kp e=>fin its r' hz h' c' kp e) (by simp only [List.size_toArray]<;>omega)
 ·obtain ⟨its,r',pl,hz⟩:=I.tuple hq
  have hlen:=r'.length
  obtain ⟨o,ho,hc,n,hd⟩:=pl
  exact call_list_seq p (.inr rfl) ho hc hd (fun h' c' kp e=>fin its r' hz h' c' kp e) (by simp only [List.size_toArray]<;>omega)
def gU (K:PySem.W.Frag) (T:String) (x:V) (H:Hp):Prop:=match x with
 | .str _=>T="str"
 | .int _=>T="int"
 | .ref p=>(T="list"∧∃xs,SqL K H p xs)∨(T="tuple"∧∃o,K.lookup p=some o∧o.cls=.type "tuple"∧o.dict=none)∨
   (T="dict"∧((∃kvs,H p=some (.dK kvs))∨∃kvs,H p=some (.dT kvs)))∨(T="set"∧∃S n,H p=some (.set S n))
 | _=>False
theorem lO {pins:List (Addr×Obj)} {σ:St} {H:Hp} {s:Shared} {T:String} {x:V} {v:Value} (I:Inv X pins σ H s) (r:RelV x v) (ty:gU X.K T x H) :
  s.TypeIs v T∧∀a,v=.ref a→∃ob,s.heap.get? a=some ob∧ob.dict=none:=by
 cases x with
 | str z=>
  obtain ⟨t,rfl⟩:=r
  cases (show T="str" from ty)
  exact ⟨typeIs_str s z t,fun _ e=>nomatch e⟩
 | int i=>
  obtain ⟨t,rfl⟩:=r
  cases (show T="int" from ty)
  exact ⟨typeIs_int s i t,fun _ e=>nomatch e⟩
 | ref p=>
  cases r
  rcases ty with ⟨rfl,xs,hq⟩|⟨rfl,o,hk,hc,hd⟩|⟨rfl,hk⟩|⟨rfl,S,n,hk⟩
  ·obtain ⟨its,_,pl,_⟩:=I.list hq
   refine ⟨pl.isList.typeIs,fun a e=>?_⟩
   cases e
   obtain ⟨o,n,e,c,hd,_⟩:=pl
   exact ⟨o,e,hd⟩
  ·refine ⟨⟨o,I.kIn p o hk,hc⟩,fun a e=>?_⟩
   cases e
   exact ⟨o,I.kIn _ o hk,hd⟩
  ·have z:∃o,s.heap.get? p=some o∧o.ExactDict:=by
    rcases hk with ⟨kvs,hk⟩|⟨kvs,hk⟩
    ·obtain ⟨_,_,_,_,o,_,_,e,ex,_⟩:=I.hok p _ hk
     exact ⟨o,e,ex⟩
    ·obtain ⟨_,_,_,_,o,_,_,e,ex,_⟩:=I.hok p _ hk
     exact ⟨o,e,ex⟩
   obtain ⟨o,e,ex⟩:=z
   refine ⟨⟨o,e,ex.1⟩,fun a e2=>?_⟩
   cases e2
   exact ⟨o,e,ex.2.1⟩
  ·obtain ⟨o,_,_,_,e,ex,_⟩:=I.hok p _ hk
   refine ⟨⟨o,e,ex.1⟩,fun a e2=>?_⟩
   cases e2
   exact ⟨o,e,ex.2.1⟩
 | _=>exact False.elim ty
def uP (K:PySem.W.Frag) (T:String) (r:V→List V→Hp→VK→Prop) (to:TE):TE:=fun σ H Q=>to σ H fun x H1=>gU K T x H1∧r x [] H1 Q
def Ci (K:PySem.W.Frag) (T:String) (r:V→List V→Hp→VK→Prop) (to:TE) (t:TA):TE:=fun σ H Q=>to σ H fun x H1=>gU K T x H1∧t σ H1 fun xs H2=>r x xs H2 Q
variable {o e:Expr} {es:List Expr} {to:TE} {t:TA} {name:Str} {apos cpos:Pos} {T id:String} {r:V→List V→Hp→VK→Prop}
theorem pZ (pa:PlainAttrs T) (slot:Slot T name id) (hty:typeOf (.builtin id)=pure (.type "method_descriptor")) (hm:bG X id r) (ho:PE X o to)
  (hbase:attributeBase o name X.env (eval o X.env)=eval o X.env:=by rfl) (hline:(apos.endLine==cpos.line)=true:=by rfl):PE X (.Call (.Attribute o name apos) [] [] cpos) (uP X.K T r to):=by
 intro pins s σ H Q I h
 refine wpAny_Call_method0_late hbase hline (g6 (ho pins s σ H _ I h) fun v s1 ⟨x,H1,I1,r1,ty,q1⟩=>?_)
 obtain ⟨h1,h2⟩:=lO I1 r1 ty
 exact ⟨T,id,pa,slot,hty,h1,h2,Calls.callWith_builtin rfl (PySem.evalArgs_none (hm pins s1 σ H1 x [] v [] Q I1 r1 .nil q1))⟩
theorem F3 (pa:PlainAttrs T) (slot:Slot T name id) (hty:typeOf (.builtin id)=pure (.type "method_descriptor")) (hm:bG X id r) (ho:PE X o to) (ha:PA X (e::es) t)
  (hbase:attributeBase o name X.env (eval o X.env)=eval o X.env:=by rfl)
  (hfew:((backTo cpos (starEach (e::es) X.env)).all (fun x=>!x.1) && (backToKw cpos (keywordEach [] X.env)).all (fun x=>x.1.isSome)
   && decide ((e::es).length+([]:List Keyword).length+(if ([]:List Keyword).isEmpty then 0 else 1) < 30))=true:=by rfl)
  (hline:(apos.endLine==cpos.line)=true:=by rfl) (hs:starEach (e::es) X.env=(false,eval e X.env)::starEach es X.env:=by rfl) (hplain:(backTo cpos (starEach es X.env)).any (·.1)=false:=by rfl) :
  PE X (.Call (.Attribute o name apos) (e::es) [] cpos) (Ci X.K T r to t):=by
 intro pins s σ H Q I h
 refine wpAny_Call_method_late hbase hfew hline rfl (g6 (ho pins s σ H _ I h) fun v s1 ⟨x,H1,I1,r1,ty,q1⟩=>?_)
 obtain ⟨h1,h2⟩:=lO I1 r1 ty
 refine ⟨T,id,pa,slot,hty,h1,h2,?_⟩
 have hA:=ha cpos pins s1 σ H1 _ I1 q1
 rw [hs] at hA ⊢
 refine Calls.callWith_builtin (by show (false || (backTo cpos (starEach es X.env)).any (·.1))=false;rw [hplain]<;>rfl) (Calls.evalArgs_plain ?_)
 exact g6 hA fun us s2 ⟨vs,H2,I2,r2,q2⟩=>hm pins s2 σ H2 x vs v us Q I2 r1 r2 q2
end
def cA (X:Cx) (id:String) (r:V→List V→Hp→VK→Prop):Prop:=
 ∀(pins:List (Addr×Obj)) (s:Shared) (σ:St) (H:Hp) (x:V) (xs:List V) (v:Value) (us:List Value) (Q:VK),Inv X pins σ H s→RelV x v→Vals xs us→r x xs H Q→
  wpAny (model X.prog X.w) X.A (call (.builtin id) (v::us)) (EP X pins σ Q) X.xe s
theorem Vals.one:∀{x:V} {us:List Value},Vals [x] us→∃u,us=[u]∧RelV x u
 | _,_,.cons r .nil=>⟨_,rfl,r⟩
theorem Vals.zero:∀{us:List Value},Vals [] us→us=[]
 | _,.nil=>rfl
theorem Vals.dropLast {xs:List V} {us:List Value} (h:Vals xs us):Vals xs.dropLast us.dropLast:=by
 induction h with
 | nil=>exact .nil
 | cons r t ih=>
  cases t with
  | nil=>exact .nil
  | cons q t'=>exact .cons r ih
theorem Vals.reverse {xs:List V} {us:List Value} (h:Vals xs us):Vals xs.reverse us.reverse:=by
 induction h with
 | nil=>exact .nil
 | cons r t ih=>rw [List.reverse_cons,List.reverse_cons];exact Vals.append ih (.cons r .nil)
theorem Vals.rep {xs:List V} {us:List Value} (h:Vals xs us):∀k:Nat,Vals (List.replicate k xs).flatten (List.replicate k us).flatten
 | 0=>.nil
 | k+1=>by
  rw [List.replicate_succ,List.replicate_succ,List.flatten_cons,List.flatten_cons]
  exact Vals.append h (Vals.rep h k)
theorem tL {α:Type} (l:List α):l.eraseIdx (l.length - 1)=l.dropLast:=by
 induction l with
 | nil=>rfl
 | cons a r ih=>
  cases r with
  | nil=>rfl
  | cons b r=>
   have e:(a::b::r).length - 1=((b::r).length - 1)+1:=by
    have h1:(a::b::r).length=r.length+2:=rfl
    have h2:(b::r).length=r.length+1:=rfl
    omega
   rw [e,List.eraseIdx_cons_succ,ih]
   all_goals rfl
theorem foldl_rep (its:List Value):∀(k:Nat) (acc:List Value),
  List.foldl (fun x1 x2=>x1++x2) acc.toArray (List.replicate k its.toArray)=(acc++(List.replicate k its).flatten).toArray
 | 0,acc=>by simp
 | k+1,acc=>by
  have e:acc.toArray++its.toArray=(acc++its).toArray:=by simp
  have e2:(acc++its)++(List.replicate k its).flatten=acc++(List.replicate (k+1) its).flatten:=by
   rw [List.replicate_succ,List.flatten_cons,List.append_assoc]
  rw [←e2,←foldl_rep its k (acc++its),←e,List.replicate_succ,List.foldl_cons]
section
variable {X:Cx} {pins:List (Addr×Obj)} {σ:St} {H:Hp} {s:Shared} {l b:Addr} {xs ys zs:List V}
theorem Inv.lset {its its':List Value} {n:Nat} {f:Array Value→Array Value} {t':Nat} (I:Inv X pins σ H s) (hH:H l=some (.lst xs))
  (e:s.heap.get? l=some { cls:=.type "list",data:=.seq its.toArray n }) (hf:f its.toArray=its'.toArray) (hv:Vals ys its') (hz:ys.length≤sizeLine) :
  Inv X pins σ (a8 H l (.lst ys)) { s with heap:=s.heap.update l (Obj.mapSeq f),toks:=t' }:=by
 have q:=PySem.IsL.update e f
 rw [hf] at q
 refine I.write (x:=l) (e:=l) (by rw [hH];exact trivial) (.inl rfl) (fun b' u hb hu=>(Heap.get?_update_other s.heap (Obj.mapSeq f) (Ne.symm hb)).trans hu) ⟨_,q⟩ ?_
 exact ⟨hz,its',_,hv,q⟩
theorem Inv.lnew {its:List Value} {t':Nat} (I:Inv X pins σ H s) (hv:Vals ys its) (hz:ys.length≤sizeLine) :
  Inv X pins σ (a8 H s.heap.objs.size (.lst ys)) { s with heap:=s.heap.push { cls:=.type "list",data:=.seq its.toArray },toks:=t' }:=
 I.laid (fun _ _ q=>Heap.get?_push_of_some _ q) (Nat.le_refl _) ⟨hz,its,0,hv,Heap.get?_push_size _ rfl⟩
theorem Inv.fresh (I:Inv X pins σ H s):H s.heap.objs.size=none:=I.hok.fresh (Nat.le_refl _)
theorem Inv.lstM (I:Inv X pins σ H s) (hH:H l=some (.lst xs)):xs.length≤sizeLine∧∃(its:List Value) (n:Nat),Vals xs its∧xs.length=its.length∧s.heap.get? l=some { cls:=.type "list",data:=.seq its.toArray n }:=by
 obtain ⟨z,its,n,r,e⟩:=I.hok l _ hH
 exact ⟨z,its,n,r,r.length,e⟩
theorem pX {n:Nat} (h:n≤sizeLine):Builtin.List.listTooLong n=false:=by
 unfold Builtin.List.listTooLong
 exact decide_eq_false (by omega)
end
section
variable {X:Cx}
def Dx:V→List V→Hp→VK→Prop:=fun x vs H Q=>∃l xs y,x=.ref l∧vs=[y]∧H l=some (.lst xs)∧xs.length < sizeLine∧Q .non (a8 H l (.lst (xs++[y])))
theorem N2:cA X "list.append" Dx:=by
 intro pins s σ H x vs v us Q I rx rv h
 obtain ⟨l,xs,y,rfl,rfl,hH,hz,q⟩:=h
 cases rx
 obtain ⟨u,rfl,ru⟩:=rv.one
 obtain ⟨z,its,n,r,hl,e⟩:=I.lstM hH
 refine call_meets F.slot_list_append ⟨_,e,rfl⟩ F.entry_list_append (F.args_list_append_2 _ _) (PySem.list_append l its.toArray n u (by rw [List.size_toArray];omega)) ⟨e,?_⟩
 refine ⟨.non,_,I.lset (its':=its++[u]) hH e (by simp) (r.append (.cons ru .nil)) ?_,rfl,q⟩
 rw [List.length_append,List.length_singleton]
 omega
def uF:V→List V→Hp→VK→Prop:=fun x vs H Q=>∃l b xs zs,x=.ref l∧vs=[.ref b]∧H l=some (.lst xs)∧H b=some (.lst zs)∧xs.length+zs.length≤sizeLine∧Q .non (a8 H l (.lst (xs++zs)))
theorem eK:cA X "list.extend" uF:=by
 intro pins s σ H x vs v us Q I rx rv h
 obtain ⟨l,b,xs,zs,rfl,rfl,hH,hB,hz,q⟩:=h
 cases rx
 obtain ⟨u,rfl,ru⟩:=rv.one
 cases ru
 obtain ⟨z,its,n,r,hl,e⟩:=I.lstM hH
 obtain ⟨z2,its2,n2,r2,hl2,e2⟩:=I.lstM hB
 have hsz:its.toArray.size+its2.toArray.size≤sizeLine:=by rw [List.size_toArray,List.size_toArray];omega
 have hlong:¬(!its.toArray.isEmpty && Builtin.List.listTooLong (its.toArray.size+its2.toArray.size))=true:=by
  rw [pX hsz,Bool.and_false]
  exact Bool.false_ne_true
 refine call_meets F.slot_list_extend ⟨_,e,rfl⟩ F.entry_list_extend (F.args_list_extend_2 _ _)
  (AutoSeq1.list_extend_list_list_0 l its.toArray n b its2.toArray n2 hlong (by rw [List.size_toArray];omega) (by omega)) ⟨e,e2,?_⟩
 refine ⟨.non,_,I.lset (its':=its++its2) hH e (by simp) (r.append r2) ?_,rfl,q⟩
 rw [List.length_append]
 omega
def uI:V→List V→Hp→VK→Prop:=fun x vs H Q=>∃l xs y,x=.ref l∧vs=[]∧H l=some (.lst xs)∧xs[xs.length - 1]?=some y∧Q y (a8 H l (.lst xs.dropLast))
theorem Eo:cA X "list.pop" uI:=by
 intro pins s σ H x vs v us Q I rx rv h
 obtain ⟨l,xs,y,rfl,rfl,hH,hy,q⟩:=h
 cases rx
 have hus:=rv.zero
 subst hus
 obtain ⟨z,its,n,r,hl,e⟩:=I.lstM hH
 obtain ⟨u,hu,ru⟩:=r.get hy
 have hy':its.toArray[its.toArray.size - 1]?=some u:=by
  show its.toArray[its.length - 1]?=some u
  rw [←Array.getElem?_toList,←hl]
  exact hu
 refine call_meets F.slot_list_pop ⟨_,e,rfl⟩ F.entry_list_pop (F.args_list_pop_1 _) (MeetsSeq.list_pop_last l its.toArray n u hy' (by rw [List.size_toArray];omega)) ⟨e,?_⟩
 refine ⟨y,_,I.lset (its':=its.dropLast) hH e ?_ r.dropLast ?_,ru,q⟩
 ·show its.toArray.eraseIdxIfInBounds (its.toArray.size - 1)=its.dropLast.toArray
  rw [List.size_toArray,List.eraseIdxIfInBounds_toArray,tL]
 ·rw [List.length_dropLast]
  omega
def sS:V→List V→Hp→VK→Prop:=fun x vs H Q=>∃l xs,x=.ref l∧vs=[]∧H l=some (.lst xs)∧Q .non (a8 H l (.lst xs.reverse))
theorem wL:cA X "list.reverse" sS:=by
 intro pins s σ H x vs v us Q I rx rv h
 obtain ⟨l,xs,rfl,rfl,hH,q⟩:=h
 cases rx
 have hus:=rv.zero
 subst hus
 obtain ⟨z,its,n,r,hl,e⟩:=I.lstM hH
 refine call_meets F.slot_list_reverse ⟨_,e,rfl⟩ F.entry_list_reverse (F.args_list_reverse_1 _) (AutoSeq1.list_reverse_list_0 l its.toArray n (by rw [List.size_toArray];omega)) ⟨e,?_⟩
 refine ⟨.non,_,I.lset (its':=its.reverse) hH e (by simp) r.reverse ?_,rfl,q⟩
 rw [List.length_reverse]
 omega
def nE:R2:=fun x y H Q=>∃l b xs zs,x=.ref l∧y=.ref b∧H l=some (.lst xs)∧H b=some (.lst zs)∧xs.length+zs.length≤sizeLine∧∀p,H p=none→Q (.ref p) (a8 H p (.lst (xs++zs)))
theorem L7:o9 X (binaryOp .Add) nE:=by
 intro pins s σ H x y v u Q I rx ry h
 obtain ⟨l,b,xs,zs,rfl,rfl,hH,hB,hz,q⟩:=h
 cases rx
 cases ry
 obtain ⟨z,its,n,r,hl,e⟩:=I.lstM hH
 obtain ⟨z2,its2,n2,r2,hl2,e2⟩:=I.lstM hB
 refine PySem.P.add_list e e2 ?_ (by rw [List.size_toArray,List.size_toArray];omega)
 have ea:its.toArray++its2.toArray=(its++its2).toArray:=by simp
 rw [ea]
 exact ⟨.ref _,_,I.lnew (t':=s.toks) (r.append r2) (by rw [List.length_append];omega),rfl,q _ I.fresh⟩
def EJ:R2:=fun x y H Q=>∃l k xs,x=.ref l∧y=.int k∧H l=some (.lst xs)∧-(2 ^ 63)≤k∧k < 2 ^ 63∧xs.length*k.toNat≤sizeLine∧
 ∀p,H p=none→Q (.ref p) (a8 H p (.lst (List.replicate k.toNat xs).flatten))
theorem DM {α:Type} (xs:List α) (k:Nat):(List.replicate k xs).flatten.length=k*xs.length:=by
 induction k with
 | zero=>simp
 | succ k ih=>rw [List.replicate_succ,List.flatten_cons,List.length_append,ih,Nat.succ_mul,Nat.add_comm]
theorem Bx:o9 X (binaryOp .Mult) EJ:=by
 intro pins s σ H x y v u Q I rx ry h
 obtain ⟨l,k,xs,rfl,rfl,hH,h1,h2,hz,q⟩:=h
 cases rx
 obtain ⟨t,rfl⟩:=ry
 obtain ⟨z,its,n,r,hl,e⟩:=I.lstM hH
 have hlen:its.toArray.size*k.toNat≤sizeLine:=by rw [List.size_toArray,←hl];exact hz
 have hcap:¬its.toArray.size*k.toNat > (2 ^ 63 - 1) / 8:=by
  have:(sizeLine:Nat)≤(2 ^ 63 - 1) / 8:=by decide
  omega
 have hfit:¬(!Builtin.List.listFitsIndex k)=true:=by
  rw [fitsIndex_both h1 h2]
  exact Bool.false_ne_true
 have hlong:¬Builtin.List.listTooLong (its.toArray.size*k.toNat)=true:=by
  rw [pX hlen]
  exact Bool.false_ne_true
 have hnew:List.foldl (fun x1 x2=>x1++x2) #[] (List.replicate (if its.toArray.isEmpty=true then 0 else k.toNat) its.toArray)=(List.replicate k.toNat its).flatten.toArray:=by
  have f0:∀m:Nat,List.foldl (fun x1 x2=>x1++x2) #[] (List.replicate m its.toArray)=(List.replicate m its).flatten.toArray:=fun m=>by
   have:=foldl_rep its m []
   rw [List.nil_append] at this
   exact this
  rw [f0]
  cases its with
  | nil=>simp
  | cons a r'=>rw [if_neg (by simp)]
 refine wpAny_binaryOp_repeat_ref (T:="list") (U:="int") (by decide) ⟨_,e,rfl⟩ (fun s'=>typeIs_int s' k t) noFill_list_mul F.fills_int_mul F.slot_int_rmul repeat_list F.slot_int_index.lookup
  (call_meets F.slot_int_rmul (typeIs_int s k t) F.entry_int_rmul (F.args_int_rmul_2 _ _) (int___rmul___int_list k t l its.toArray n)
   ⟨e,rfl,⟨_,e,rfl⟩,call_meets F.slot_list_mul ⟨_,e,rfl⟩ F.entry_list_mul (F.args_list_mul_2 _ _) (AutoListH.list___mul___list_int_3 l its.toArray n k t hfit hcap hlong) ⟨e,?_⟩⟩)
 rw [hnew]
 exact ⟨.ref _,_,I.lnew (t':=s.toks) (r.rep k.toNat) (by rw [DM,Nat.mul_comm];exact hz),rfl,q _ I.fresh⟩
end
theorem Vals.ints:∀{ns:List Int} {us:List Value},Vals (ns.map V.int) us→IntsAre us ns
 | [],us,h=>by
  rw [List.map_nil] at h
  cases h
  exact IntsAre.nil
 | n::ns,us,h=>by
  rw [List.map_cons] at h
  cases h with
  | cons r t=>
   obtain ⟨k,rfl⟩:=r
   exact IntsAre.cons n k (Vals.ints t)
theorem Vals.bls:∀{bs:List Bool} {us:List Value},Vals (bs.map V.bl) us→us=bs.map Value.bool
 | [],us,h=>by
  rw [List.map_nil] at h
  cases h
  rfl
 | b::bs,us,h=>by
  rw [List.map_cons] at h
  cases h with
  | cons r t=>
   cases r
   rw [Vals.bls t,List.map_cons]
theorem Vals.ref1 {a:Addr} {us:List Value} (r:Vals [V.ref a] us):us=[Value.ref a]:=by
 cases r with
 | cons r t=>
  cases t
  cases r
  rfl
section
variable {prog:Program} {w:World} {A:Around} {E:Value→Shared→Prop} {s:Shared} {l:Addr} {its:List Value} {ns:List Int} {Q:Value→Shared→Prop}
theorem yK (hh:A.handled=none) (hl:s.heap.IsList l its.toArray) (hi:IntsAre its ns)
  (h:∀h' tk t',(∀b o,s.heap.get? b=some o→h'.get? b=some o)→Q (.int ns.sum t') { s with heap:=h',toks:=tk }):wpAny (model prog w) A (call (.builtin "sum") [.ref l]) Q E s:=by
 obtain ⟨xs,e⟩:=hi.allInts.items
 have hn:numsOf (intItems xs).toList=ns:=by rw [←e];exact hi.numsOf
 rw [nums_intItems] at hn
 rw [e] at hl
 refine PySem.sum_intListG hh hl fun h' tk t' hk=>?_
 have:=h h' tk t' hk
 rw [preSum_eq,List.take_of_length_le (by simp),hn];exact this
end
section
variable {X:Cx}
def CK (K:PySem.W.Frag):List V→Hp→VK→Prop:=fun vs H Q=>∃(a:Addr) (ns:List Int),vs=[V.ref a]∧SqL K H a (ns.map V.int)∧Q (.int ns.sum) H
theorem EE (hc:X.calm=true):N4 X (.builtin "sum") (CK X.K):=by
 intro pins s σ H vs us Q I r h
 obtain ⟨a,ns,rfl,hs,q⟩:=h
 obtain ⟨its,rv,hl,_⟩:=I.list hs
 rw [Vals.ref1 r]
 exact yK (I.ok.hd hc) hl.isList rv.ints fun h' tk t' hk=>⟨.int _,H,I.kept hk,⟨_,rfl⟩,q⟩
end
section
variable {X:Cx}
def wD (K:PySem.W.Frag):V→List V→Hp→VK→Prop:=fun x xs H Q=>∃(a:Addr) (ys:List V) (y:V) (j:Nat) (z:V),x=V.ref a∧xs=[y]∧SqL K H a ys∧F8 y=true∧ys.all F8=true∧ys[j]?=some z∧l6 z y=true∧
 (∀(m:Nat) (z':V),m < j→ys[m]?=some z'→l6 z' y=false)∧Q (.int (j:Nat)) H
theorem mU {ys:List V} (f:ys.all F8=true) {j:Nat} {z:V} (h:ys[j]?=some z):F8 z=true:=List.all_eq_true.mp f z (List.mem_of_getElem? h)
theorem AA:bG X "list.index" (wD X.K):=by
 intro pins s σ H x xs v us Q I rx rxs h
 obtain ⟨a,ys,y,j,z,rfl,rfl,hs,fy,fys,hz,hzj,hno,q⟩:=h
 cases rx
 cases rxs with
 | cons ry rt=>
  rename_i uy ut
  cases rt
  obtain ⟨its,rv,⟨⟨cls,dd,data,sl⟩,n,ho,hc,hdn,hd⟩,hlen⟩:=I.list hs
  simp only at hc hd
  subst hc hd
  obtain ⟨u,hu,ru⟩:=rv.get hz
  obtain ⟨hjl,hje⟩:=List.getElem?_eq_some_iff.mp hu
  have hvl:=rv.length
  have hj:j < its.toArray.size:=by simpa using hjl
  have hsl:=sizeLine_eq
  refine call_meets PySem.F.slot_list_index ⟨_,ho,rfl⟩ PySem.F.entry_list_index (PySem.F.args_list_index_2 _ _)
   (SeqAt.list_indexAt a its.toArray n dd sl uy (D2 y) j hj (by omega) ?_ ?_) ⟨ho,fun u' hu'=>T0 ry fy rv fys u' (by simpa using hu'),?_⟩
  ·have e1:its.toArray[j]=u:=by simpa using hje
   rw [e1,cG ru (mU fys hz)]
   exact hzj
  ·intro m hm hmj
   have hml:m < its.length:=by simpa using hm
   have hmy:m < ys.length:=by omega
   have hy':ys[m]?=some ys[m]:=List.getElem?_eq_getElem hmy
   obtain ⟨u2,hu2,ru2⟩:=rv.get hy'
   obtain ⟨_,hme⟩:=List.getElem?_eq_some_iff.mp hu2
   have e1:its.toArray[m]=u2:=by simpa using hme
   rw [e1,cG ru2 (mU fys hy')]
   exact hno m _ hmj hy'
  ·exact ⟨.int (j:Nat),H,I.tok _,⟨_,rfl⟩,q⟩
end
theorem Db {prog:Program} {w:World} {A:Around} {E:Value→Shared→Prop} {s:Shared} {l:Addr} {items:Array Value} {Q:Value→Shared→Prop} (hl:s.heap.IsList l items)
  (h:∀s₂:Shared,s₂={ s with heap:=s.heap.push { cls:=.type "list_iterator",data:=.fields #[.ref l,.int 0 0] } }→
   (s₂.heap.IsListIter s.heap.objs.size l 0∧s₂.heap.IsList l items)→l≠s.heap.objs.size→Q (.ref s.heap.objs.size) s₂):wpAny (model prog w) A (pyIter (.ref l)) Q E s:=by
 have hlt:l < s.heap.objs.size:=by obtain ⟨_,e,_⟩:=hl;exact Heap.lt_size e
 exact wpAny_pyIter_list hl (h _ rfl ⟨⟨_,Heap.get?_push_size _ rfl,rfl,rfl⟩,hl.push _⟩ (Nat.ne_of_lt hlt))
theorem Ck {prog:Program} {w:World} {A:Around} {bs:List Bool} {its:List Value} (e:its=bs.map Value.bool) :
  TruthOf prog w A (fun i v=>its.toArray[i]?=some v) (fun i=>bs.getD i false):=fun i v s Q E hv hq=>by
 have hv':its[i]?=some v:=by simpa using hv
 rw [e,List.getElem?_map] at hv'
 obtain ⟨b,hb,rfl⟩:=Option.map_eq_some_iff.mp hv'
 have hg:bs.getD i false=b:=by rw [List.getD_eq_getElem?_getD,hb]<;>rfl
 have hq':Q (bs.getD i false) s:=hq
 rw [hg] at hq'
 exact wpAny_truthy_bool hq'
theorem any_range:∀bs:List Bool,(List.range bs.length).any (fun i=>bs.getD i false)=bs.any id
 | []=>rfl
 | b::bs=>by
  rw [List.length_cons,List.range_succ_eq_map,List.any_cons,List.any_map,List.any_cons,←any_range bs]
  all_goals rfl
section
variable {X:Cx}
def wW (K:PySem.W.Frag):List V→Hp→VK→Prop:=fun vs H Q=>∃(a:Addr) (bs:List Bool),vs=[V.ref a]∧SqL K H a (bs.map V.bl)∧Q (.bl (bs.any id)) H
theorem sQ (hc:X.calm=true):N4 X (.builtin "any") (wW X.K):=by
 intro pins s σ H vs us Q I r h
 obtain ⟨a,bs,rfl,hs,q⟩:=h
 obtain ⟨its,rv,hl,_⟩:=I.list hs
 rw [Vals.ref1 r]
 have hb:=rv.bls
 refine call_any_walk (Db hl.isList fun s₂ e2 st hne=>?_)
 subst e2
 refine ⟨_,_,_,_,_,_,_,rfl,Walks.list (A:=X.A.in1) (I.ok.hd hc) _ a hne its.toArray,st,Ck hb,fun h' tk hk=>?_⟩
 refine ⟨.bl _,H,I.kept fun b o eo=>hk b o (fun hmem=>?_) (Heap.get?_push_of_some _ eo),?_,q⟩
 ·rcases List.mem_cons.mp hmem with e1|hmem
  ·exact absurd (e1▸Heap.lt_size eo) (Nat.lt_irrefl _)
  ·cases hmem
 ·show Value.bool _=Value.bool _
  rw [←any_range,hb,List.size_toArray,List.length_map]
end
abbrev lI (h:Heap) (c:Addr) (v:Option Value):Prop:=h.IsCell c v
def zX (scope sc:Scope):Scope:=
 { scope with names:=scope.names.map fun (n,k)=>if (k==.free && sc.kind==.function && sc.names.lookup n==some .cell) then (n,.cell) else (n,k) }
def A4 (cells:List (Str×Addr)):List (Str×NameKind)→List (Str×Addr)→List (Str×Addr)
 | [],acc=>acc
 | (n,k)::r,acc=>if k==.free then A4 cells r ((n,(cells.lookup n).getD 0)::acc) else A4 cells r acc
theorem pM (env:Env) (f:Str×NameKind→List (Str×Addr)→Sem (ForInStep (List (Str×Addr))))
  (hf:∀n k c,f (n,k) c=if k==.free then (do let a ←cellOf env n;pure (.yield ((n,a)::c))) else pure (.yield c)) :
  ∀(names:List (Str×NameKind)) (acc:List (Str×Addr)),(∀y∈names,y.2=.free→∃c,env.cells.lookup y.1=some c)→forIn names acc f=pure (A4 env.cells names acc)
 | [],acc,_=>by rw [List.forIn_nil];rfl
 | (n,k)::r,acc,h=>by
  rw [List.forIn_cons,hf]
  have ih:=fun acc=>pM env f hf r acc fun y hy=>h y (List.mem_cons_of_mem _ hy)
  unfold A4
  by_cases hk:(k==NameKind.free)=true
  ·rw [if_pos hk,if_pos hk]
   obtain ⟨c,hc⟩:=h (n,k) List.mem_cons_self (by simpa using hk)
   have e:cellOf env n=pure c:=by unfold cellOf;rw [hc]
   rw [e]
   have e2:(env.cells.lookup n).getD 0=c:=by rw [hc];rfl
   rw [e2]
   exact ih _
  ·rw [if_neg hk,if_neg hk]
   exact ih _
theorem wA {scope:Scope} {env:Env} (h:∀y∈scope.names,y.2=.free→∃c,env.cells.lookup y.1=some c):closureFor scope env=pure (A4 env.cells scope.names []):=by
 simp only [closureFor]
 rw [pM env _ (fun n k c=>rfl) scope.names [] h]
 rfl
theorem mem_lookup {α:Type}:∀{l:List (Str×α)} {n:Str} {c:α},(n,c)∈l→∃c',l.lookup n=some c'
 | (k,v)::r,n,c,h=>by
  rw [List.lookup_cons]
  cases hb:n==k with
  | true=>exact ⟨_,rfl⟩
  | false=>
   rcases List.mem_cons.mp h with e|h
   ·cases e;simp at hb
   ·exact mem_lookup h
theorem aU {cells:List (Str×Addr)}:∀{names:List (Str×NameKind)} {acc:List (Str×Addr)} {n:Str} {c:Addr},(n,c)∈A4 cells names acc→(n,c)∈acc∨((n,.free)∈names∧c=(cells.lookup n).getD 0)
 | [],_,_,_,h=>.inl h
 | (m,k)::r,acc,n,c,h=>by
  unfold A4 at h
  split at h
  ·rename_i hk
   have hk:k=.free:=by simpa using hk
   rcases aU h with h|⟨h1,h2⟩
   ·rcases List.mem_cons.mp h with e|h
    ·cases e;exact .inr ⟨hk▸List.mem_cons_self,rfl⟩
    ·exact .inl h
   ·exact .inr ⟨List.mem_cons_of_mem _ h1,h2⟩
  ·rcases aU h with h|⟨h1,h2⟩
   ·exact .inl h
   ·exact .inr ⟨List.mem_cons_of_mem _ h1,h2⟩
theorem gD {cells:List (Str×Addr)}:∀{names:List (Str×NameKind)} {acc:List (Str×Addr)} {p:Str×Addr},p∈acc→p∈A4 cells names acc
 | [],_,_,h=>h
 | (m,k)::r,acc,p,h=>by
  unfold A4
  split
  ·exact gD (List.mem_cons_of_mem _ h)
  ·exact gD h
theorem eF {cells:List (Str×Addr)}:∀{names:List (Str×NameKind)} {acc:List (Str×Addr)} {n:Str},(n,.free)∈names→(n,(cells.lookup n).getD 0)∈A4 cells names acc
 | (m,k)::r,acc,n,h=>by
  unfold A4
  rcases List.mem_cons.mp h with e|h
  ·cases e
   exact gD List.mem_cons_self
  ·split
   ·exact eF h
   ·exact eF h
theorem Z7:∀{names:List (Str×NameKind)} {h:Heap} {acc:List (Str×Addr)} {x:Str} {c:Addr},(x,c)∈cellsFrom h.objs.size names acc→
  (x,c)∈acc∨((x,.cell)∈names∧h.objs.size≤c∧lI (pushCells h names) c none)
 | [],_,_,_,_,h=>.inl h
 | (n,k)::r,h,acc,x,c,hm=>by
  unfold cellsFrom at hm
  unfold pushCells
  split at hm
  ·rename_i hk
   rw [if_pos hk]
   have hk:k=.cell:=by simpa using hk
   rw [←Heap.size_push h { cls:=.type "cell",data:=.cell none }] at hm
   rcases Z7 hm with hm|⟨h1,h2,h3⟩
   ·rcases List.mem_cons.mp hm with e|hm
    ·cases e
     exact .inr ⟨hk▸List.mem_cons_self,Nat.le_refl _,_,pushCells_keeps r _ _ _ (Heap.get?_push_size _ rfl),rfl⟩
    ·exact .inl hm
   ·rw [Heap.size_push] at h2
    exact .inr ⟨List.mem_cons_of_mem _ h1,Nat.le_of_succ_le h2,h3⟩
  ·rename_i hk
   rw [if_neg hk]
   rcases Z7 hm with hm|⟨h1,h2,h3⟩
   ·exact .inl hm
   ·exact .inr ⟨List.mem_cons_of_mem _ h1,h2,h3⟩
theorem bY:∀{names:List (Str×NameKind)} {n:Nat} {acc:List (Str×Addr)} {p:Str×Addr},p∈acc→p∈cellsFrom n names acc
 | [],_,_,_,h=>h
 | (m,k)::r,n,acc,p,h=>by
  unfold cellsFrom
  split
  ·exact bY (List.mem_cons_of_mem _ h)
  ·exact bY h
theorem dA:∀{names:List (Str×NameKind)} {n:Nat} {acc:List (Str×Addr)} {x:Str},(x,.cell)∈names→∃c,(x,c)∈cellsFrom n names acc
 | (m,k)::r,n,acc,x,h=>by
  unfold cellsFrom
  rcases List.mem_cons.mp h with e|h
  ·cases e
   exact ⟨n,bY List.mem_cons_self⟩
  ·split
   ·exact dA h
   ·exact dA h
theorem eY:∀{names:List (Str×NameKind)} {h:Heap} {acc:List (Str×Addr)} {x y:Str} {c:Addr},(∀p∈acc,p.2 < h.objs.size)→(∀x y c,(x,c)∈acc→(y,c)∈acc→x=y)→
  (x,c)∈cellsFrom h.objs.size names acc→(y,c)∈cellsFrom h.objs.size names acc→x=y
 | [],_,_,_,_,_,_,hi,h1,h2=>hi _ _ _ h1 h2
 | (n,k)::r,h,acc,x,y,c,hl,hi,h1,h2=>by
  unfold cellsFrom at h1 h2
  split at h1
  ·rename_i hk
   rw [if_pos hk] at h2
   rw [←Heap.size_push h { cls:=.type "cell",data:=.cell none }] at h1 h2
   refine eY (h:=h.push _) (fun p hp=>?_) (fun x y c a b=>?_) h1 h2
   ·rw [Heap.size_push]
    rcases List.mem_cons.mp hp with rfl|hp
    ·exact Nat.lt_succ_self _
    ·exact Nat.lt_succ_of_lt (hl p hp)
   ·rcases List.mem_cons.mp a with e|a<;>rcases List.mem_cons.mp b with e'|b
    ·cases e;cases e';rfl
    ·cases e;exact absurd (hl _ b) (Nat.lt_irrefl _)
    ·cases e';exact absurd (hl _ a) (Nat.lt_irrefl _)
    ·exact hi _ _ _ a b
  ·rename_i hk
   rw [if_neg hk] at h2
   exact eY hl hi h1 h2
theorem xD {M:Model} {A:Around} {E:Value→Shared→Prop} {s:Shared} {scope:Scope} {globals:Addr} {closure:List (Str×Addr)} {qual:Str} {func:Option Addr} {code:Value} {around:Env} {builtins:Addr} {Q:Env→Shared→Prop}
  (h:Q (newEnv scope s.heap.objs.size globals (cellsFrom (s.heap.objs.size+1) scope.names closure) qual func code (some around) builtins)
   { s with heap:=pushCells (s.heap.push { cls:=.type "dict",data:=.dict #[] }) scope.names }) :
  wpAny M A (newFunctionEnv scope globals closure [] qual func code (some around) builtins) Q E s:=by
 simp only [newFunctionEnv,Option.isSome_some,if_true]
 refine wpAny_bind (wpAny_alloc ?_)
 refine wpAny_bind (wpAny_layCells _ (fun n k c=>rfl) scope.names closure _ _ ?_)
 rw [show ({ s with heap:=s.heap.push { cls:=.type "dict",data:=.dict #[] } }:Shared).heap.objs.size=s.heap.objs.size+1 from Heap.size_push ..]
 rw [List.forIn_nil]
 exact wpAny_bind (wpAny_pure (wpAny_pure h))
theorem eE {sc:Scope}:∀{names:List (Str×NameKind)} {x:Str} {k:NameKind},
  (names.map fun (n,k)=>if (k==NameKind.free && sc.kind==.function && sc.names.lookup n==some .cell) then (n,NameKind.cell) else (n,k)).lookup x=some k→
  ∃k',names.lookup x=some k'∧(k=k'∨(k'=.free∧k=.cell))
 | [],_,_,h=>by simp at h
 | (n,k₀)::r,x,k,h=>by
  have ih:=@eE sc r x k
  have h':List.lookup x ((if (k₀==NameKind.free && sc.kind==.function && sc.names.lookup n==some .cell)=true then (n,NameKind.cell) else (n,k₀))::(r.map _))=some k:=h
  cases hx:x==n with
  | true=>
   simp only [List.lookup_cons,hx]
   by_cases hc:(k₀==NameKind.free && sc.kind==.function && sc.names.lookup n==some .cell)=true
   ·rw [if_pos hc] at h'
    simp only [List.lookup_cons,hx] at h'
    cases h'
    simp only [Bool.and_eq_true,beq_iff_eq] at hc
    exact ⟨k₀,rfl,.inr ⟨hc.1.1,rfl⟩⟩
   ·rw [if_neg hc] at h'
    simp only [List.lookup_cons,hx] at h'
    cases h'
    exact ⟨_,rfl,.inl rfl⟩
  | false=>
   simp only [List.lookup_cons,hx]
   by_cases hc:(k₀==NameKind.free && sc.kind==.function && sc.names.lookup n==some .cell)=true
   ·rw [if_pos hc] at h'
    simp only [List.lookup_cons,hx] at h'
    exact ih h'
   ·rw [if_neg hc] at h'
    simp only [List.lookup_cons,hx] at h'
    exact ih h'
structure Z3 (N:List Str) (sc scope:Scope) (own:List (Str×Nat)):Prop where
 kind:scope.kind=.function
 uniq:∀y∈scope.names,scope.names.lookup y.1=some y.2
 ix:∀p∈own,N[p.2]?=some p.1
 free:∀y∈scope.names,y.2=.free→sc.names.lookup y.1=some .cell∨sc.names.lookup y.1=some .free
 own:∀y∈scope.names,y.2=.local∨y.2=.cell→y.1∈own.map (·.1)∨y.1∉N
def j9 (σ:St):List Nat→St
 | []=>σ
 | v::vs=>(j9 σ vs).set v none
theorem eD (σ:St):∀vs:List Nat,(j9 σ vs).length=σ.length
 | []=>rfl
 | v::vs=>by unfold j9;rw [List.length_set,eD σ vs]
theorem gH {σ:St} {i:Nat} {x:V}:∀{vs:List Nat},(j9 σ vs)[i]?=some (some x)→σ[i]?=some (some x)∧i∉vs
 | [],h=>⟨h,by simp⟩
 | v::vs,h=>by
  unfold j9 at h
  by_cases hi:v=i
  ·subst hi
   by_cases hv:v < (j9 σ vs).length
   ·rw [List.getElem?_set_self hv] at h;cases h
   ·rw [List.getElem?_eq_none (by simpa using hv)] at h;cases h
  ·rw [List.getElem?_set_ne hi] at h
   obtain ⟨h1,h2⟩:=gH h
   exact ⟨h1,by simp only [List.mem_cons,not_or];exact ⟨fun e=>hi e.symm,h2⟩⟩
abbrev Cx.blk (X:Cx) (s:Shared) (H:Hp) (scope:Scope) (cenv:Env) (fp:List Addr):Cx:={ X with s_0:=s,H_0:=H,env:=cenv,outer:=X.stack,ex:=fp,fn:=fun x=>scope.names.lookup x==some .cell,pn:=[],xe:=fun _ _=>False }
section
variable {X:Cx} {pins:List (Addr×Obj)} {σ:St} {H:Hp} {s:Shared}
theorem CG {scope:Scope} {own:List (Str×Nat)} {fp:List Addr} (I:Inv X pins σ H s) (ok:Z3 X.N X.env.scope scope own) (hN:X.N.Nodup) (hfp:∀b∈fp,J2 X pins H b∧b < s.heap.objs.size) :
  Inv (X.blk s H scope (compEnvC scope (cellsFrom (s.heap.objs.size+1) scope.names (A4 X.env.cells scope.names [])) s.heap.objs.size X.env) fp) [] (j9 σ (own.map (·.2))) H { s with heap:=pushCells (s.heap.push { cls:=.type "dict",data:=.dict #[] }) scope.names }:=by
 have hfree:∀y∈scope.names,y.2=.free→∃c,X.env.cells.lookup y.1=some c:=fun y hy e=>by
  rcases ok.free y hy e with k|k
  ·exact I.ok.has _ (.inl k)
  ·exact I.ok.has _ (.inr k)
 generalize hcenv:compEnvC scope (cellsFrom (s.heap.objs.size+1) scope.names (A4 X.env.cells scope.names [])) s.heap.objs.size X.env=cenv
 have kp:∀b o,s.heap.get? b=some o→(pushCells (s.heap.push { cls:=.type "dict",data:=.dict #[] }) scope.names).get? b=some o:=fun b o e=>pushCells_keeps _ _ _ _ (Heap.get?_push_of_some _ e)
 have hL:cenv.locals=s.heap.objs.size:=by rw [←hcenv];rfl
 have hcl:cenv.cells=cellsFrom (s.heap.objs.size+1) scope.names (A4 X.env.cells scope.names []):=by rw [←hcenv];rfl
 have hsc:cenv.scope=zX scope X.env.scope:=by rw [←hcenv];rfl
 rw [←Heap.size_push s.heap { cls:=.type "dict",data:=.dict #[] }] at hcl
 have cm:∀{y c},(y,c)∈A4 X.env.cells scope.names []→X.env.cells.lookup y=some c∧c < s.heap.objs.size:=fun {y c} hm=>by
  rcases aU hm with hm|⟨h1,rfl⟩
  ·cases hm
  ·obtain ⟨c,hc⟩:=hfree _ h1 rfl
   rw [hc]
   obtain ⟨w,z⟩:=I.cell _ _ hc
   exact ⟨rfl,z.lt⟩
 have mem:∀{y c},cenv.cells.lookup y=some c→(X.env.cells.lookup y=some c∧c < s.heap.objs.size)∨(s.heap.objs.size+1≤c∧lI (pushCells (s.heap.push { cls:=.type "dict",data:=.dict #[] }) scope.names) c none):=fun {y c} e=>by
  rw [hcl] at e
  rcases Z7 (PySem.mem_of_lookup e) with hm|⟨_,h2,h3⟩
  ·exact .inl (cm hm)
  ·rw [Heap.size_push] at h2;exact .inr ⟨h2,h3⟩
 have look:∀{y},scope.names.lookup y=some .free→∃c,cenv.cells.lookup y=some c∧X.env.cells.lookup y=some c:=fun {y} hl=>by
  have hy:(y,NameKind.free)∈scope.names:=PySem.mem_of_lookup hl
  obtain ⟨c',e'⟩:=mem_lookup (bY (names:=scope.names) (n:=(s.heap.push { cls:=.type "dict",data:=.dict #[] }).objs.size) (eF (cells:=X.env.cells) (acc:=[]) hy))
  rw [←hcl] at e'
  refine ⟨c',e',?_⟩
  rw [hcl] at e'
  rcases Z7 (PySem.mem_of_lookup e') with hm|⟨h1,_,_⟩
  ·exact (cm hm).1
  ·have:=ok.uniq _ h1
   rw [hl] at this;cases this
 have okB:(X.blk s H scope cenv fp).Ok:=by
  refine ⟨I.ok.mod,by show cenv.scope.kind=_;rw [hsc];exact ok.kind,by show cenv.globals=_;rw [←hcenv];exact I.ok.glob,by show cenv.builtins=_;rw [←hcenv];exact I.ok.blt,by show s.heap.objs.size≤cenv.locals;rw [hL];exact Nat.le_refl _,
   fun y z c e1 e2=>?_,fun y hy=>?_,fun y c z e=>?_,I.ok.hd,I.ok.frames,.inl rfl,fun b hb=>⟨?_,fun y c e z=>?_⟩,I.bs,Nat.le_trans I.ok.bsz I.sz,fun b o e hb=>?_,fun b hb z=>?_,I.stack,I.stkFree⟩
  ·have e1:cenv.cells.lookup y=some c:=e1
   have e2:cenv.cells.lookup z=some c:=e2
   rw [hcl] at e1 e2
   refine eY (fun p hp=>?_) (fun y z c a b=>I.ok.inj y z c (cm a).1 (cm b).1) (PySem.mem_of_lookup e1) (PySem.mem_of_lookup e2)
   rw [Heap.size_push]
   exact Nat.lt_succ_of_lt (cm (y:=p.1) (c:=p.2) hp).2
  ·show ∃c,cenv.cells.lookup y=some c
   have key:∀k,cenv.kindOf y=some k→(k=.cell∨k=.free)→∃c,cenv.cells.lookup y=some c:=fun k hk hk'=>by
    unfold Env.kindOf at hk
    rw [hsc] at hk
    obtain ⟨k',e,r⟩:=eE hk
    have:k'=.cell∨k'=.free:=by
     rcases r with rfl|⟨rfl,_⟩
     ·exact hk'
     ·exact .inr rfl
    rcases this with rfl|rfl
    ·obtain ⟨c,hm⟩:=dA (n:=(s.heap.push { cls:=.type "dict",data:=.dict #[] }).objs.size) (acc:=A4 X.env.cells scope.names []) (PySem.mem_of_lookup e)
     obtain ⟨c',e'⟩:=mem_lookup hm
     exact ⟨c',by rw [hcl];exact e'⟩
    ·obtain ⟨c,h1,_⟩:=look e
     exact ⟨c,h1⟩
   rcases hy with hy|hy
   ·exact key _ hy (.inl rfl)
   ·exact key _ hy (.inr rfl)
  ·have z:(scope.names.lookup y==some NameKind.cell)=true:=z
   have z:scope.names.lookup y=some .cell:=by simpa using z
   have e:cenv.cells.lookup y=some c:=e
   rw [hcl] at e
   rcases Z7 (PySem.mem_of_lookup e) with hm|⟨_,h2,_⟩
   ·rcases aU hm with hm|⟨h1,_⟩
    ·cases hm
    ·have q:=ok.uniq _ h1
     rw [z] at q;cases q
   ·rw [Heap.size_push] at h2
    exact Nat.le_of_succ_le h2
  ·show b≠cenv.locals
   rw [hL];exact Nat.ne_of_lt (hfp b hb).2
  ·have e:cenv.cells.lookup y=some c:=e
   rcases mem e with ⟨h1,_⟩|⟨h1,_⟩
   ·exact (hfp b hb).1.2.2.2.2.1 y c h1 z
   ·have h2:s.heap.objs.size+1≤b:=by rw [←z];exact h1
    exact absurd (Nat.lt_of_lt_of_le (hfp b hb).2 (Nat.le_of_succ_le h2)) (Nat.lt_irrefl _)
  ·rcases (hfp b hb).1.2.2.2.1 with z|z
   ·exact I.ok.noex b o e z
   ·exact absurd (Nat.lt_of_lt_of_le (Heap.lt_size e) (Nat.le_trans I.ok.bsz z)) (Nat.lt_irrefl _)
  ·rcases List.mem_cons.mp (I.stkSub b z) with z|z
   ·exact (hfp b hb).1.2.1 z
   ·exact (hfp b hb).1.2.2.1 z
 refine ⟨okB,rfl,I.bare,Un.kept kp,⟨fun _=>none,?_,fun i y av e1 e2 e3=>?_⟩,fun y c e=>?_,?_,fun y c e=>?_,fun p hp=>?_,I.hok.kept kp,by rw [eD];exact I.len⟩
 ·show Heap.Ns _ cenv.locals _
  rw [hL]
  exact Heap.Ns.keeps (Heap.Ns.new ..) fun b o e=>pushCells_keeps _ _ _ _ e
 ·obtain ⟨e2,hne⟩:=gH e2
  have hfr:scope.names.lookup y=some .free∧(cenv.kindOf y=some .cell∨cenv.kindOf y=some .free):=by
   have key:∀k,cenv.scope.names.lookup y=some k→k=.local∨k=.cell∨k=.free→scope.names.lookup y=some .free∧(cenv.kindOf y=some .cell∨cenv.kindOf y=some .free):=fun k hk hk'=>by
    have hk0:=hk
    rw [hsc] at hk
    obtain ⟨k',e,r⟩:=eE hk
    have no:¬(k'=.local∨k'=.cell):=fun hh=>by
     rcases ok.own _ (PySem.mem_of_lookup e) hh with e'|e'
     ·obtain ⟨p,hp,hpy⟩:=List.mem_map.mp e'
      have e3:=ok.ix p hp
      have:p.1=y:=hpy
      rw [this] at e3
      exact hne (List.mem_map.mpr ⟨p,hp,eJ hN e3 e1⟩)
     ·exact e' (List.mem_of_getElem? e1)
    rcases r with rfl|⟨rfl,rfl⟩
    ·rcases hk' with rfl|rfl|rfl
     ·exact absurd (.inl rfl) no
     ·exact absurd (.inr rfl) no
     ·exact ⟨e,.inr hk0⟩
    ·exact ⟨e,.inl hk0⟩
   have e3:T6 cenv.scope y:=e3
   rcases e3 with e3|e3|e3
   ·exact key _ e3 (.inl rfl)
   ·exact key _ e3 (.inr (.inl rfl))
   ·exact key _ e3 (.inr (.inr rfl))
  obtain ⟨m,hn,hl⟩:=I.loc
  have hvis:T6 X.env.scope y:=(ok.free _ (PySem.mem_of_lookup hfr.1) rfl).elim (fun k=>.inr (.inl k)) (fun k=>.inr (.inr k))
  obtain ⟨w,r,q⟩:=hl i y av e1 e2 hvis
  refine ⟨w,r,.inr ⟨hfr.2,?_⟩⟩
  obtain ⟨c,h1,h2⟩:=look hfr.1
  rcases q with ⟨k,_⟩|⟨_,c',e',z⟩
  ·have k:X.env.scope.names.lookup y=some .local:=k
   rcases ok.free _ (PySem.mem_of_lookup hfr.1) rfl with k'|k'<;>rw [show X.env.scope.names.lookup y=_ from k'] at k<;>cases k
  ·rw [h2] at e';cases e'
   exact ⟨c,h1,z.keeps kp⟩
 ·have e:cenv.cells.lookup y=some c:=e
  rcases mem e with ⟨h1,_⟩|⟨_,z⟩
  ·obtain ⟨w,z⟩:=I.cell y c h1
   exact ⟨w,z.keeps kp⟩
  ·exact ⟨_,z⟩
 ·show H cenv.locals=none
  rw [hL];exact I.hok.fresh (Nat.le_refl _)
 ·have e:cenv.cells.lookup y=some c:=e
  rcases mem e with ⟨h1,_⟩|⟨h1,_⟩
  ·exact I.freeC y c h1
  ·exact I.hok.fresh (Nat.le_of_succ_le h1)
 ·exact absurd (show p∈([]:List (Addr×Obj))++[] from hp) (by simp)
theorem AS {E:Value→Shared→Prop} {D:Addr} {xs:List V} {y:V} {v:Value} {Q:Value→Shared→Prop} (I:Inv X pins σ H s) (hD:H D=some (.lst xs)) (hz:xs.length < sizeLine) (r:RelV y v)
  (h:∀s',Inv X pins σ (a8 H D (.lst (xs++[y]))) s'→Q .none s'):wpAny (model X.prog X.w) X.A (call (.builtin "list.append") [.ref D,v]) Q E s:=by
 obtain ⟨hz',its,n,ri,e⟩:=I.hok D _ hD
 have hl:=ri.length
 refine append_at (hsz:=by rw [List.size_toArray];omega) e fun h' sb ho'=>?_
 refine h { s with heap:=h' } (I.write (t':=s.toks) (by rw [hD];trivial) (.inl rfl) (fun b u hb q=>(sb.2 b hb).trans q) ⟨_,ho'⟩ ⟨by rw [List.length_append];exact hz,its++[v],n+1,ri.append (.cons r .nil),?_⟩)
 rw [ho']
 simp
def X5 (X:Cx) (ifs:List Expr) (t:TT):Prop:=
 ∀(pins:List (Addr×Obj)) (s:Shared) (σ:St) (H:Hp) (Q:Bool→Hp→Prop),Inv X pins σ H s→t σ H Q→
  wpAny (model X.prog X.w) X.A (forIn ifs true fun c r=>if r=true then do let ok ←isTrue c X.env (eval c X.env);pure (ForInStep.yield ok) else pure (ForInStep.yield r)) (TP X pins σ Q) X.xe s
def N6:TT:=fun _ H Q=>Q true H
theorem Z6:X5 X [] N6:=fun _ _ _ H _ I h=>wpAny_tests_nil ⟨H,I,h⟩
theorem aV {c:Expr} {t:TT} (h:PT X c t):X5 X [c] t:=fun pins s σ H Q I hw=>wpAny_tests_one (h pins s σ H Q I hw)
end
theorem T9 {α:Type} {t:Sem α} {Q Q':α→Shared→Prop} {M:Model} {A:Around} {E:Value→Shared→Prop} {s:Shared} (h:wpAny M A t Q (fun _ _=>False) s) (hQ:∀a s,Q a s→Q' a s):wpAny M A t Q' E s:=wpAny_mono h hQ fun _ _ z=>False.elim z
theorem uD {prog:Program} {w:World} {A:Around} {R:Result→Shared→Prop} {s:Shared} {elt target iter:Expr} {ifs:List Expr} {scope:Scope} {pos:Pos} {it acc:Value} {env:Env} (I:Nat→Shared→Prop)
  (turn:∀n s,I n s→wpAny (model prog w) A (pyNext it) (fun r s₁=>match r with
   | none=>R (.ok .next) s₁
   | some v=>wpAny (model prog w) A (letOwnedTupleGo target it v) (fun _ s₁'=>wpAny (model prog w) A (assign target env v) (fun _ s₂=>
     wpAny (model prog w) A (forIn ifs true fun c r=>if r=true then do let ok ←isTrue c env (eval c env);pure (ForInStep.yield ok) else pure (ForInStep.yield r)) (fun ok s₃=>
      if ok=true then wpAny (model prog w) A (eval elt env) (fun x s₄=>
       wpAny (model prog w) A (call (.builtin "list.append") [acc,x]) (fun _ s₅=>∃m,m < n∧I m s₅) (notedBy (model prog w) A env fun e s'=>R (.error e) s') s₄) (notedBy (model prog w) A env fun e s'=>R (.error e) s') s₃
      else ∃m,m < n∧I m s₃) (notedBy (model prog w) A env fun e s'=>R (.error e) s') s₂) (notedBy (model prog w) A env fun e s'=>R (.error e) s') s₁') (notedBy (model prog w) A env fun e s'=>R (.error e) s') s₁) (notedBy (model prog w) A env fun e s'=>R (.error e) s') s)
  (n:Nat) (h:I n s) :
  codeAny (model prog w) A (.compLoop (.ListComp elt [⟨target,iter,ifs,0⟩] scope pos) 0 it acc env) R s:=by
 refine codeAny_loop rfl I (fun n s hI=>?_) n h
 show wpAny _ A ((compTurn (.ListComp elt [⟨target,iter,ifs,0⟩] scope pos) 0 it acc env).onRaise (fun x=>do noteFrame x env;theTreesLotGoes x)) _ _ s
 refine wpAny_noted ?_
 rw [compTurn_list]
 refine wpAny_bind (wpAny_standAt (wpAny_bind (wpAny_mono (turn n s hI) (fun r s₁ h₁=>?_) fun _ _ h'=>h')))
 cases r with
 | none=>exact wpAny_pure h₁
 | some v=>
  refine wpAny_bind (wpAny_mono h₁ (fun _ s₁' h₁'=>?_) fun _ _ h'=>h')
  refine wpAny_bind (wpAny_mono h₁' (fun _ s₂ h₂=>wpAny_bind (wpAny_mono h₂ (fun ok s₃ h₃=>?_) fun _ _ h'=>h')) fun _ _ h'=>h')
  cases ok with
  | false=>exact wpAny_pure ⟨rfl,h₃⟩
  | true=>
   exact wpAny_bind (wpAny_bind (wpAny_mono h₃ (fun x s₄ h₄=>wpAny_bind (wpAny_mono h₄ (fun _ s₅ h₅=>wpAny_pure (wpAny_pure ⟨rfl,h₅⟩)) fun _ _ h'=>h')) fun _ _ h'=>h'))
section
variable {X:Cx}
def aP (wi:TI) (g:TG) (tt:TT) (te:TE) (vs:List Nat):TE:=fun σ H Q=>wi σ H fun J H1=>∀D,H1 D=none→∃W:Nat→Nat→Hp→Prop,(∃m,W 0 m (a8 H1 D (.lst [])))∧∀i m H,W i m H→
 (J.stop i H∧Q (.ref D) H)∨(J.go i H∧∃Nx:Hp→Prop,(∀H',Nx H'→∃m',m' < m∧W (i+1) m' H')∧∀x H',J.yld i H x H'→g x (j9 σ vs) H' fun σ2 H2=>j9 σ2 vs=j9 σ vs∧tt σ2 H2 fun b H3=>
  if b=true then te σ2 H3 fun y H4=>∃acc,H4 D=some (.lst acc)∧acc.length < sizeLine∧Nx (a8 H4 D (.lst (acc++[y]))) else Nx H3)
theorem lP {pins:List (Addr×Obj)} {s:Shared} {σ:St} {H:Hp} {Q:VK} {elt tg iter:Expr} {ifs:List Expr} {scope:Scope} {own:List (Str×Nat)} {pos pos':Pos} {wi:TI} {g:TG} {tt:TT} {te:TE} {use:Option (Value→Sem Unit)} {Qf:Value→Shared→Prop}
  (hc:X.calm=true) (hN:X.N.Nodup) (I:Inv X pins σ H s) (hi:PI X tg iter wi) (ok:Z3 X.N X.env.scope scope own)
  (hg:∀(s:Shared) (H:Hp) (C:Addr) (cl:List (Str×Addr)) (fp:List Addr),PG (X.blk s H scope (compEnvC scope cl C X.env) fp) tg g) (ht:∀(s:Shared) (H:Hp) (C:Addr) (cl:List (Str×Addr)) (fp:List Addr),X5 (X.blk s H scope (compEnvC scope cl C X.env) fp) ifs tt)
  (he:∀(s:Shared) (H:Hp) (C:Addr) (cl:List (Str×Addr)) (fp:List Addr),PE (X.blk s H scope (compEnvC scope cl C X.env) fp) elt te) (hs:∀x,foldedSetIterable iter X.env x=pure x)
  (h:aP wi g tt te (own.map (·.2)) σ H Q)
  (hRR:∀D C s' m H',Inv X pins σ H' s'→Q (.ref D) H'→s'.heap.Ns C m→J2 X pins H' C→compPost (model X.prog X.w) X.A X.xe use Qf (.ref D) C (.ok .next) s') :
  wpAny (model X.prog X.w) X.A (comprehension (.ListComp elt [⟨tg,iter,ifs,0⟩] scope pos) scope X.env pos' (newList []) false (eval iter X.env) use) Qf X.xe s:=by
 have hfree:∀y∈scope.names,y.2=.free→∃c,X.env.cells.lookup y.1=some c:=fun y hy e=>by
  rcases ok.free y hy e with k|k
  ·exact I.ok.has _ (.inl k)
  ·exact I.ok.has _ (.inr k)
 refine wpAny_comprehension_free (use:=use) rfl hs (wA hfree) ok.kind (fun y hy e=>by rw [ok.uniq y hy,e])
  (g6 (hi pins s σ H _ I h) fun xv s1 hx=>g6 hx fun itv s2 h2=>?_)
 obtain ⟨it,fp,tn,J,H2,e,I2,T,st2,f2,q⟩:=h2
 subst e
 refine wpAny_newObj_type (xD ?_) (by show 0≤sizeLine;decide)
 generalize hD:s2.heap.objs.size=D
 have hDn:H2 D=none:=I2.hok.fresh (Nat.le_of_eq hD)
 obtain ⟨W,⟨m0,w0⟩,turn⟩:=q D hDn
 generalize hs3:({ s2 with heap:=s2.heap.push { cls:=.type "list",data:=.seq ([]:List Value).toArray } }:Shared)=s3
 have I3:Inv X pins σ (a8 H2 D (.lst [])) s3:=by
  rw [←hs3]
  refine I2.laid (t':=s2.toks) (fun b o e=>Heap.get?_push_of_some _ e) (Nat.le_of_eq hD) ⟨Nat.zero_le _,[],0,.nil,?_⟩
  rw [←hD]
  exact Heap.get?_push_size _ rfl
 have h3:s3.heap=s2.heap.push { cls:=.type "list",data:=.seq ([]:List Value).toArray }:=by rw [←hs3]
 have sz:∀b∈fp,b < s2.heap.objs.size:=fun b hb=>by
  obtain ⟨o,e,_⟩:=T.obj _ _ st2 b hb
  exact Heap.lt_size e
 have f3:∀b∈fp,J2 X pins (a8 H2 D (.lst [])) b∧b < s3.heap.objs.size:=fun b hb=>by
  have hlt:=sz b hb
  refine ⟨⟨?_,(f2 b hb).2⟩,by rw [h3,Heap.size_push];exact Nat.lt_succ_of_lt hlt⟩
  rw [a9 (by rw [←hD];exact Nat.ne_of_lt hlt)]
  exact (f2 b hb).1
 have st3:tn 0 s3.heap:=T.keep _ _ _ st2 fun b _ o e=>by rw [h3];exact Heap.get?_push_of_some _ e
 have I4:=CG I3 ok hN f3
 have pg:=hg s3 (a8 H2 D (.lst [])) s3.heap.objs.size (cellsFrom (s3.heap.objs.size+1) scope.names (A4 X.env.cells scope.names [])) fp
 have pt:=ht s3 (a8 H2 D (.lst [])) s3.heap.objs.size (cellsFrom (s3.heap.objs.size+1) scope.names (A4 X.env.cells scope.names [])) fp
 have pe:=he s3 (a8 H2 D (.lst [])) s3.heap.objs.size (cellsFrom (s3.heap.objs.size+1) scope.names (A4 X.env.cells scope.names [])) fp
 show codeAny _ _ (.compStart (.ListComp elt [⟨tg,iter,ifs,0⟩] scope pos) 0 (.ref it) (.ref D) (compEnvC scope (cellsFrom (s3.heap.objs.size+1) scope.names (A4 X.env.cells scope.names [])) s3.heap.objs.size X.env)) (compPost (model X.prog X.w) X.A X.xe use Qf (.ref D) s3.heap.objs.size) { s3 with heap:=pushCells (s3.heap.push { cls:=.type "dict",data:=.dict #[] }) scope.names }
 have nfp:∀b∈fp,(a8 H2 D (.lst [])) b=none:=fun b hb=>(f3 b hb).1.1
 generalize hce:compEnvC scope (cellsFrom (s3.heap.objs.size+1) scope.names (A4 X.env.cells scope.names [])) s3.heap.objs.size X.env=ce at I4 pg pt pe ⊢
 have cL:ce.locals=s3.heap.objs.size:=by subst hce;rfl
 generalize hH3:a8 H2 D (.lst [])=H3 at I3 I4 pg pt pe w0 nfp f3
 generalize hs4:({ s3 with heap:=pushCells (s3.heap.push { cls:=.type "dict",data:=.dict #[] }) scope.names }:Shared)=s4 at I4 ⊢
 have st4:tn 0 s4.heap:=T.keep _ _ _ st3 fun b _ o e=>by rw [←hs4];exact pushCells_keeps _ _ _ _ (Heap.get?_push_of_some _ e)
 have stat:∀{σ':St} {H':Hp} {s':Shared},Inv (X.blk s3 H3 scope ce fp) [] σ' H' s'→(∀b∈fp,H' b=none)→∀b∈fp,J2 (X.blk s3 H3 scope ce fp) [] H' b:=fun {σ' H' s'} I' hn b hb=>
  ⟨hn b hb,(I'.ok.exf b hb).1,I'.ok.exfs b hb,.inl hb,fun x c e=>(I'.ok.exf b hb).2 x c e,fun p hp=>absurd (show p∈([]:List (Addr×Obj))++[] from hp) (by simp)⟩
 have loop:codeAny (model X.prog X.w) X.A (.compLoop (.ListComp elt [⟨tg,iter,ifs,0⟩] scope pos) 0 (.ref it) (.ref D) ce) (compPost (model X.prog X.w) X.A X.xe use Qf (.ref D) s3.heap.objs.size) s4:=by
  refine uD (fun n s'=>∃i H',Inv (X.blk s3 H3 scope ce fp) [] (j9 σ (own.map (·.2))) H' s'∧tn i s'.heap∧(∀b∈fp,H' b=none)∧W i n H') ?_ m0 ⟨0,H3,I4,st4,nfp,w0⟩
  rintro n s5 ⟨i,H5,I5,st5,n5,w5⟩
  rcases turn i n H5 w5 with ⟨stop,qq⟩|⟨go,Nx,hNx,step⟩
  ·have td:=T.done (X.blk s3 H3 scope ce fp) rfl rfl rfl hc i [] s5 _ H5 (fun _ _=>False) I5 (stat I5 n5) st5 stop
   refine T9 td fun r s6 ⟨hr,I6⟩=>?_
   subst hr
   have I7:Inv X pins σ H5 s6:=I3.call' (ch:=fp) I6.os I6.base I6.hok I6.bare fun b hb=>⟨(f3 b hb).1.2.2.2.1,(f3 b hb).1.2.1,(f3 b hb).1.2.2.2.2.1,(f3 b hb).1.2.2.2.2.2⟩
   have nC:H5 s3.heap.objs.size=none:=by
    have z:H5 ce.locals=none:=I6.free
    rw [cL] at z
    exact z
   obtain ⟨m,hn,_⟩:=I6.loc
   have hn:s6.heap.Ns ce.locals m:=hn
   rw [cL] at hn
   exact hRR D s3.heap.objs.size s6 m H5 I7 qq hn (I3.fpOk (Nat.le_refl _) nC)
  ·have ti:=T.item (X.blk s3 H3 scope ce fp) rfl rfl rfl hc i [] s5 _ H5 (fun _ _=>False) I5 (stat I5 n5) st5 go
   refine T9 ti fun r s6 ⟨u,hr,h6⟩=>?_
   subst hr
   refine T9 h6 fun _ s7 ⟨x,H7,I7,r7,y7,st7,n7⟩=>?_
   have I7':=I7.pinned (stat I7 n7) (T.obj _ _ st7)
   refine T9 (pg _ s7 _ H7 x u _ I7' r7 (step x H7 y7)) fun _ s8 ⟨σ8,H8,I8,hw8,q8⟩=>?_
   refine T9 (pt _ s8 σ8 H8 _ I8 q8) fun b s9 ⟨H9,I9,q9⟩=>?_
   have fin:∀{s':Shared} {H':Hp},Inv (X.blk s3 H3 scope ce fp) ([]++U5 fp s7.heap) σ8 H' s'→Nx H'→∃m,m < n∧∃i H',Inv (X.blk s3 H3 scope ce fp) [] (j9 σ (own.map (·.2))) H' s'∧tn i s'.heap∧(∀b∈fp,H' b=none)∧W i m H':=fun {s' H'} I' nx=>by
    obtain ⟨m',hm,w'⟩:=hNx H' nx
    have pin':∀b∈fp,∀o,s7.heap.get? b=some o→s'.heap.get? b=some o∧H' b=none:=fun b hb o e=>
     let z:=I'.pin (b,o) (List.mem_append_right _ (List.mem_append_right _ (dJ hb e)))
     ⟨z.1,z.2.1⟩
    have hl:(j9 σ (own.map (·.2))).length=σ8.length:=by rw [←hw8,eD]
    refine ⟨m',hm,i+1,H',(I'.unpinned (pins:=[])).weak hl (fun j v e=>?_),T.keep _ _ _ st7 fun b hb o e=>(pin' b hb o e).1,fun b hb=>?_,w'⟩
    ·rw [←hw8] at e
     exact (gH e).1
    ·obtain ⟨o,e,_⟩:=T.obj _ _ st7 b hb
     exact (pin' b hb o e).2
   cases b with
   | false=>
    simp only [Bool.false_eq_true,if_false] at q9 ⊢
    exact fin I9 q9
   | true=>
    simp only [if_true] at q9 ⊢
    refine T9 (pe _ s9 σ8 H9 _ I9 q9) fun z s10 ⟨yv,H10,I10,r10,acc,hD10,hz10,nx⟩=>?_
    exact AS (X:=X.blk s3 H3 scope ce fp) I10 hD10 hz10 r10 fun s11 I11=>fin I11 nx
 exact codeAny_compStart_list loop (T.self X.A 0 _ _ _ st4 loop)
theorem Q8 {elt tg iter:Expr} {ifs:List Expr} {scope:Scope} {own:List (Str×Nat)} {pos:Pos} {wi:TI} {g:TG} {tt:TT} {te:TE} (hc:X.calm=true) (hN:X.N.Nodup) (hi:PI X tg iter wi) (ok:Z3 X.N X.env.scope scope own)
  (hg:∀(s:Shared) (H:Hp) (C:Addr) (cl:List (Str×Addr)) (fp:List Addr),PG (X.blk s H scope (compEnvC scope cl C X.env) fp) tg g) (ht:∀(s:Shared) (H:Hp) (C:Addr) (cl:List (Str×Addr)) (fp:List Addr),X5 (X.blk s H scope (compEnvC scope cl C X.env) fp) ifs tt)
  (he:∀(s:Shared) (H:Hp) (C:Addr) (cl:List (Str×Addr)) (fp:List Addr),PE (X.blk s H scope (compEnvC scope cl C X.env) fp) elt te) (hs:∀x,foldedSetIterable iter X.env x=pure x:=by intro _;rfl) :
  PE X (.ListComp elt [⟨tg,iter,ifs,0⟩] scope pos) (aP wi g tt te (own.map (·.2))):=by
 intro pins s σ H Q I h
 rw [eval_ListComp]
 refine lP hc hN I hi ok hg ht he hs h fun D C s' m H' I' q hn f=>⟨m,hn,fun h'' sb=>?_⟩
 obtain ⟨f0,f1,f2,f3,f4,f5⟩:=f
 exact ⟨.ref D,H',I'.turned (t':=s'.toks) (fun b o hb e=>(sb.2 b hb).trans e) f0 f1 f3 f4 f5,rfl,q⟩
theorem oA {i:Nat} {y:Str} {py:Pos} {elt tg iter:Expr} {ifs:List Expr} {scope:Scope} {own:List (Str×Nat)} {pos spos:Pos} {wi:TI} {g:TG} {tt:TT} {te:TE} (hc:X.calm=true) (hN:X.N.Nodup) (hy:X.N[i]?=some y) (hyl:X.env.scope.names.lookup y=some .local)
  (hsw:swapsWith (.ListComp elt [⟨tg,iter,ifs,0⟩] scope pos) (some (.Name y py)) spos.line X.env=pure true) (hi:PI X tg iter wi) (ok:Z3 X.N X.env.scope scope own)
  (hg:∀(s:Shared) (H:Hp) (C:Addr) (cl:List (Str×Addr)) (fp:List Addr),PG (X.blk s H scope (compEnvC scope cl C X.env) fp) tg g) (ht:∀(s:Shared) (H:Hp) (C:Addr) (cl:List (Str×Addr)) (fp:List Addr),X5 (X.blk s H scope (compEnvC scope cl C X.env) fp) ifs tt)
  (he:∀(s:Shared) (H:Hp) (C:Addr) (cl:List (Str×Addr)) (fp:List Addr),PE (X.blk s H scope (compEnvC scope cl C X.env) fp) elt te) (hs:∀x,foldedSetIterable iter X.env x=pure x:=by intro _;rfl) :
  PS X (.Assign [.Name y py] (.ListComp elt [⟨tg,iter,ifs,0⟩] scope pos) spos) (bR (aP wi g tt te (own.map (·.2))) (P6 i)):=by
 intro pins s σ H D I h
 rw [exec_Assign_Name_used _ _ _ _ hsw]
 refine wpAny_bind (wpAny_standAt (wpAny_bind ?_))
 show wpAny _ X.A (do let _ ←comprehension (.ListComp elt [⟨tg,iter,ifs,0⟩] scope pos) scope X.env (firstIterPos [⟨tg,iter,ifs,0⟩] pos) (newList []) false (eval iter X.env) (some (assign (.Name y py) X.env))) _ _ s
 have h:aP wi g tt te (own.map (·.2)) σ H (fun x H1=>P6 i x σ H1 D.nx):=h
 refine wpAny_bind (g6 (lP (Qf:=fun _ s'=>SP X pins D .next s') hc hN I hi ok hg ht he hs h fun L C s' m H' I' q hn f=>?_) fun _ s' hq=>wpAny_pure (wpAny_pure hq))
 show wpAny _ _ (assign (.Name y py) X.env (.ref L)) _ _ _
 refine wpAny_assign_Name (jY (v:=V.ref L) I' hN hy (.inl hyl) rfl (fun s2 I2 ⟨a,sb,ha⟩=>?_) (.inr hyl))
 obtain ⟨f0,f1,f2,f3,f4,f5⟩:=f
 have haC:C≠a:=by
  rcases ha with z|z
  ·rw [z];exact f1
  ·exact fun e=>f4 y a z e.symm
 refine ⟨m,hn.sameBut sb haC,fun h3 sb3=>?_⟩
 exact ⟨_,H',I2.turned (t':=s2.toks) (fun b o hb e=>(sb3.2 b hb).trans e) f0 f1 f3 f4 f5,q⟩
theorem oT {elt:Expr} {gs:List Comprehension} {scope:Scope} {pos py:Pos} {y:Str} {l:Nat} {env:Env} (hk:env.scope.kind=.function) (hy:env.scope.names.lookup y=some .local) (hl:(py.line==pos.line)=true)
  (ha:(scope.names.any fun (n,k)=>n==y && (k==.local || k==.cell))=false):swapsWith (.ListComp elt gs scope pos) (some (.Name y py)) l env=pure true:=by
 have ky:env.kindOf y=some .local:=hy
 have hb:env.blockKind=.function:=by unfold Env.blockKind;rw [hk];rfl
 unfold swapsWith
 simp only [hb,ky,ha,Expr.pos,hl]
 rfl
end
theorem kY {lo:Int} {n:Nat} {g:TG} {tt:TT} {te:TE} {vs:List Nat} {σ:St} {H1:Hp} {D:Addr} {Qd:Hp→Prop} (Pv:Nat→Hp→Prop) (h0:Pv 0 (a8 H1 D (.lst [])))
  (hs:∀i H,i < n→Pv i H→g (.int (lo+i)) (j9 σ vs) H fun σ2 H2=>j9 σ2 vs=j9 σ vs∧tt σ2 H2 fun b H3=>
   if b=true then te σ2 H3 fun y H4=>∃acc,H4 D=some (.lst acc)∧acc.length < sizeLine∧Pv (i+1) (a8 H4 D (.lst (acc++[y]))) else Pv (i+1) H3) (hd:∀H,Pv n H→Qd H) :
  ∃W:Nat→Nat→Hp→Prop,(∃m,W 0 m (a8 H1 D (.lst [])))∧∀i m H,W i m H→
   ((J8 lo n).stop i H∧Qd H)∨((J8 lo n).go i H∧∃Nx:Hp→Prop,(∀H',Nx H'→∃m',m' < m∧W (i+1) m' H')∧∀x H',(J8 lo n).yld i H x H'→g x (j9 σ vs) H' fun σ2 H2=>j9 σ2 vs=j9 σ vs∧tt σ2 H2 fun b H3=>
    if b=true then te σ2 H3 fun y H4=>∃acc,H4 D=some (.lst acc)∧acc.length < sizeLine∧Nx (a8 H4 D (.lst (acc++[y]))) else Nx H3):=by
 refine ⟨fun i m H=>m=n - i∧i≤n∧Pv i H,⟨n,by simp,Nat.zero_le _,h0⟩,?_⟩
 rintro i m H ⟨rfl,hi,p⟩
 by_cases hlt:i < n
 ·refine .inr ⟨hlt,Pv (i+1),fun H' p'=>⟨n - (i+1),by omega,rfl,hlt,p'⟩,fun x H' y=>?_⟩
  obtain ⟨e,y⟩:=y
  subst e y
  exact hs i _ hlt p
 ·have e:i=n:=by omega
  subst e
  exact .inl ⟨Nat.le_refl _,hd H p⟩
theorem uQ {K:PySem.W.Frag} {a:Addr} {xs:List V} {g:TG} {tt:TT} {te:TE} {vs:List Nat} {σ:St} {H1:Hp} {D:Addr} {Qd:Hp→Prop} (Pv:Nat→Hp→Prop) (h0:Pv 0 (a8 H1 D (.lst []))) (hl:∀i H,i≤xs.length→Pv i H→SqL K H a xs)
  (hs:∀i x H,xs[i]?=some x→Pv i H→g x (j9 σ vs) H fun σ2 H2=>j9 σ2 vs=j9 σ vs∧tt σ2 H2 fun b H3=>
   if b=true then te σ2 H3 fun y H4=>∃acc,H4 D=some (.lst acc)∧acc.length < sizeLine∧Pv (i+1) (a8 H4 D (.lst (acc++[y]))) else Pv (i+1) H3) (hd:∀H,Pv xs.length H→Qd H) :
  ∃W:Nat→Nat→Hp→Prop,(∃m,W 0 m (a8 H1 D (.lst [])))∧∀i m H,W i m H→
   ((J5 K a).stop i H∧Qd H)∨((J5 K a).go i H∧∃Nx:Hp→Prop,(∀H',Nx H'→∃m',m' < m∧W (i+1) m' H')∧∀x H',(J5 K a).yld i H x H'→g x (j9 σ vs) H' fun σ2 H2=>j9 σ2 vs=j9 σ vs∧tt σ2 H2 fun b H3=>
    if b=true then te σ2 H3 fun y H4=>∃acc,H4 D=some (.lst acc)∧acc.length < sizeLine∧Nx (a8 H4 D (.lst (acc++[y]))) else Nx H3):=by
 refine ⟨fun i m H=>m=xs.length - i∧i≤xs.length∧Pv i H,⟨xs.length,by simp,Nat.zero_le _,h0⟩,?_⟩
 rintro i m H ⟨rfl,hi,p⟩
 have q:=hl i H hi p
 by_cases hlt:i < xs.length
 ·refine .inr ⟨⟨xs,xs[i],q,by simp [hlt]⟩,Pv (i+1),fun H' p'=>⟨xs.length - (i+1),by omega,rfl,hlt,p'⟩,fun x H' y=>?_⟩
  obtain ⟨e,y⟩:=y
  subst e
  exact hs i x _ (y xs q) p
 ·have e:i=xs.length:=by omega
  subst e
  exact .inl ⟨⟨xs,q,Nat.le_refl _⟩,hd H p⟩
theorem BH {K:PySem.W.Frag} {a:Addr} {xs:List V} {g:TG} {tt:TT} {te:TE} {vs:List Nat} {σ:St} {H1:Hp} {D:Addr} {Qd:Hp→Prop} (Pv:Nat→Hp→Prop) (h0:Pv 0 (a8 H1 D (.lst []))) (hl:∀i H,i≤xs.length→Pv i H→SqT K H a xs)
  (hs:∀i x H,xs[i]?=some x→Pv i H→g x (j9 σ vs) H fun σ2 H2=>j9 σ2 vs=j9 σ vs∧tt σ2 H2 fun b H3=>
   if b=true then te σ2 H3 fun y H4=>∃acc,H4 D=some (.lst acc)∧acc.length < sizeLine∧Pv (i+1) (a8 H4 D (.lst (acc++[y]))) else Pv (i+1) H3) (hd:∀H,Pv xs.length H→Qd H) :
  ∃W:Nat→Nat→Hp→Prop,(∃m,W 0 m (a8 H1 D (.lst [])))∧∀i m H,W i m H→
   ((I0 K a).stop i H∧Qd H)∨((I0 K a).go i H∧∃Nx:Hp→Prop,(∀H',Nx H'→∃m',m' < m∧W (i+1) m' H')∧∀x H',(I0 K a).yld i H x H'→g x (j9 σ vs) H' fun σ2 H2=>j9 σ2 vs=j9 σ vs∧tt σ2 H2 fun b H3=>
    if b=true then te σ2 H3 fun y H4=>∃acc,H4 D=some (.lst acc)∧acc.length < sizeLine∧Nx (a8 H4 D (.lst (acc++[y]))) else Nx H3):=by
 refine ⟨fun i m H=>m=xs.length - i∧i≤xs.length∧Pv i H,⟨xs.length,by simp,Nat.zero_le _,h0⟩,?_⟩
 rintro i m H ⟨rfl,hi,p⟩
 have q:=hl i H hi p
 by_cases hlt:i < xs.length
 ·refine .inr ⟨⟨xs,xs[i],q,by simp [hlt]⟩,Pv (i+1),fun H' p'=>⟨xs.length - (i+1),by omega,rfl,hlt,p'⟩,fun x H' y=>?_⟩
  obtain ⟨e,y⟩:=y
  subst e
  exact hs i x _ (y xs q) p
 ·have e:i=xs.length:=by omega
  subst e
  exact .inl ⟨⟨xs,q,Nat.le_refl _⟩,hd H p⟩
def rK (N:List Str) (sc scope:Scope) (own:List (Str×Nat)):Bool:=
 (match scope.kind with | .function=>true | _=>false) && (scope.names.all fun y=>decide (scope.names.lookup y.1=some y.2)) && (own.all fun p=>decide (N[p.2]?=some p.1)) &&
  (scope.names.all fun y=>match y.2 with
   | .free=>(match sc.names.lookup y.1 with | some .cell=>true|some .free=>true | _=>false)
   | .local=>decide (y.1∈own.map (·.1)) || decide (y.1∉N)
   | .cell=>decide (y.1∈own.map (·.1)) || decide (y.1∉N)
   | _=>true)
theorem M3 {N:List Str} {sc scope:Scope} {own:List (Str×Nat)} (h:rK N sc scope own=true):Z3 N sc scope own:=by
 unfold rK at h
 simp only [Bool.and_eq_true,List.all_eq_true,decide_eq_true_eq] at h
 obtain ⟨⟨⟨h1,h2⟩,h3⟩,h4⟩:=h
 refine ⟨?_,h2,h3,fun y hy e=>?_,fun y hy e=>?_⟩
 ·split at h1
  ·assumption
  ·cases h1
 ·have q:=h4 y hy
  simp only [e] at q
  split at q<;>first | exact .inl (by assumption)|exact .inr (by assumption)|cases q
 ·have q:=h4 y hy
  rcases e with e|e<;>(simp only [e,Bool.or_eq_true,decide_eq_true_eq] at q;exact q)
section
variable {κ:Type} [DecidableEq κ]
def i7 (kvs:List (κ×V)) (k:κ):Option V:=(kvs.find? fun kv=>decide (kv.1=k)).map (·.2)
def j7 (kvs:List (κ×V)) (k:κ) (v:V):List (κ×V):=
 if (kvs.any fun kv=>decide (kv.1=k))=true then kvs.map (fun kv=>if kv.1=k then (kv.1,v) else kv) else kvs++[(k,v)]
theorem D9 {p:κ×V} {r:List (κ×V)} {k:κ} (e:p.1=k):i7 (p::r) k=some p.2:=by simp [i7,List.find?_cons,e]
theorem A9 {p:κ×V} {r:List (κ×V)} {k:κ} (e:¬p.1=k):i7 (p::r) k=i7 r k:=by simp [i7,List.find?_cons,e]
theorem P8 (k:κ):∀kvs:List (κ×V),(kvs.any fun kv=>decide (kv.1=k))=(i7 kvs k).isSome
 | []=>rfl
 | p::r=>by
  rw [List.any_cons]
  by_cases e:p.1=k
  ·simp only [D9 e,decide_eq_true e,Bool.true_or,Option.isSome_some]
  ·rw [A9 e,decide_eq_false e,Bool.false_or];exact P8 k r
theorem rA (k j:κ) (y:V):∀kvs:List (κ×V),i7 (kvs.map fun kv=>if kv.1=k then (kv.1,y) else kv) j=(i7 kvs j).map fun x=>if j=k then y else x
 | []=>rfl
 | p::r=>by
  have ih:=rA k j y r
  rw [List.map_cons]
  by_cases h:p.1=k
  ·rw [if_pos h]
   by_cases e:p.1=j
   ·rw [D9 (p:=(p.1,y)) e,D9 e,Option.map_some,if_pos (e.symm.trans h)]
   ·rw [A9 (p:=(p.1,y)) e,A9 e,ih]
  ·rw [if_neg h]
   by_cases e:p.1=j
   ·rw [D9 (p:=p) e,D9 e,Option.map_some,if_neg (fun z=>h (e.trans z))]
   ·rw [A9 (p:=p) e,A9 e,ih]
theorem pU (k j:κ) (y:V):∀kvs:List (κ×V),i7 kvs k=none→i7 (kvs++[(k,y)]) j=if j=k then some y else i7 kvs j
 | [],_=>by
  by_cases e:k=j
  ·rw [if_pos e.symm];exact D9 (p:=(k,y)) e
  ·rw [if_neg (fun z=>e z.symm)];exact A9 (p:=(k,y)) e
 | p::r,hn=>by
  rw [List.cons_append]
  have hk:¬p.1=k:=fun z=>by rw [D9 z] at hn;cases hn
  rw [A9 hk] at hn
  have ih:=pU k j y r hn
  by_cases e:p.1=j
  ·rw [D9 e,D9 e,if_neg (fun z=>hk (e.trans z))]
  ·rw [A9 e,A9 e,ih]
theorem N8 (kvs:List (κ×V)) (k j:κ) (y:V):i7 (j7 kvs k y) j=if j=k then some y else i7 kvs j:=by
 unfold j7
 by_cases a:(kvs.any fun kv=>decide (kv.1=k))=true
 ·rw [if_pos a,rA]
  rw [P8] at a
  by_cases e:j=k
  ·obtain ⟨x,hx⟩:=Option.isSome_iff_exists.mp a
   rw [if_pos e,e,hx,Option.map_some,if_pos rfl]
  ·rw [if_neg e]
   cases i7 kvs j with
   | none=>rfl
   | some x=>rw [Option.map_some,if_neg e]
 ·rw [if_neg a]
  refine pU k j y kvs ?_
  rw [P8] at a
  cases q:i7 kvs k with
  | none=>rfl
  | some x=>rw [q] at a;exact (a rfl).elim
theorem V5 (kvs:List (κ×V)) (k:κ) (v:V):(j7 kvs k v).length≤kvs.length+1:=by
 unfold j7
 split
 ·rw [List.length_map];omega
 ·rw [List.length_append,List.length_cons,List.length_nil];omega
theorem X1 {kvs:List (κ×V)} {k:κ} (v:V) (h:i7 kvs k=none):j7 kvs k v=kvs++[(k,v)]:=by
 unfold j7
 rw [P8,h]
 exact if_neg (by decide)
theorem RelO.isSome_eq {o:Option V} {u:Option Value} (r:RelO o u):o.isSome=u.isSome:=by
 cases o with
 | none=>cases u with
  | none=>rfl
  | some _=>exact (show False from r).elim
 | some _=>cases u with
  | none=>exact (show False from r).elim
  | some _=>rfl
theorem RelO.getD {o:Option V} {u:Option Value} {d:V} {d':Value} (r:RelO o u) (rd:RelV d d'):RelV (o.getD d) (u.getD d'):=by
 cases o with
 | none=>cases u with
  | none=>exact rd
  | some _=>exact (show False from r).elim
 | some _=>cases u with
  | none=>exact (show False from r).elim
  | some _=>exact r
theorem KV.val {kvs:List (κ×V)} {vs:List (κ×Value)} (r:KV kvs vs) (k:κ):RelO (i7 kvs k) (valueAt vs k):=by
 unfold KV at r
 induction r with
 | nil=>exact True.intro
 | @cons p q ps qs h t ih=>
  obtain ⟨h1,h2⟩:=h
  by_cases e:p.1=k
  ·have e':q.1=k:=h1.symm.trans e
   have b:valueAt (q::qs) k=some q.2:=by simp [valueAt,List.find?_cons,e']
   rw [D9 e,b];exact h2
  ·have e':¬q.1=k:=fun z=>e (h1.trans z)
   have b:valueAt (q::qs) k=valueAt qs k:=by simp [valueAt,List.find?_cons,e']
   rw [A9 e,b];exact ih
theorem KV.any {kvs:List (κ×V)} {vs:List (κ×Value)} (r:KV kvs vs) (k:κ):(kvs.any fun kv=>decide (kv.1=k))=vs.any fun kv=>decide (kv.1=k):=by
 unfold KV at r
 induction r with
 | nil=>rfl
 | cons h t ih=>rw [List.any_cons,List.any_cons,ih,h.1]
theorem KV.repl {kvs:List (κ×V)} {vs:List (κ×Value)} (r:KV kvs vs) (k:κ) {y:V} {u:Value} (ry:RelV y u) :
  KV (kvs.map fun kv=>if kv.1=k then (kv.1,y) else kv) (vs.map fun kv=>if kv.1=k then (kv.1,u) else kv):=by
 unfold KV at r ⊢
 induction r with
 | nil=>exact .nil
 | @cons p q ps qs h t ih=>
  rw [List.map_cons,List.map_cons]
  refine .cons ?_ ih
  obtain ⟨h1,h2⟩:=h
  by_cases e:p.1=k
  ·rw [if_pos e,if_pos (h1.symm.trans e)];exact ⟨h1,ry⟩
  ·rw [if_neg e,if_neg (fun z=>e (h1.trans z))];exact ⟨h1,h2⟩
theorem KV.put {kvs:List (κ×V)} {vs:List (κ×Value)} (r:KV kvs vs) (k:κ) {y:V} {u:Value} (ry:RelV y u):KV (j7 kvs k y) (stored vs k u):=by
 unfold j7 stored
 rw [r.any k]
 by_cases e:(vs.any fun kv=>decide (kv.1=k))=true
 ·rw [if_pos e,if_pos e];exact r.repl k ry
 ·rw [if_neg e,if_neg e];exact Paired.snoc r ⟨rfl,ry⟩
theorem KV.length {kvs:List (κ×V)} {vs:List (κ×Value)} (r:KV kvs vs):kvs.length=vs.length:=Paired.length r
end
theorem K3 {P:Program} {w:World} {k:d9} {u:Value} (r:RelV (kV k) u):(p6 P w).is k u=true:=by
 cases k with
 | inl i=>obtain ⟨t,e⟩:=(show ∃t,u=Value.int i t from r);subst e;exact gK P w i t
 | inr x=>obtain ⟨t,e⟩:=(show ∃t,u=Value.str x t from r);subst e;exact Ay P w x t
theorem jG {P:Program} {w:World}:∀{ks:List d9} {us:List Value},Vals (ks.map kV) us→ItemsAre (p6 P w) ks us
 | [],_,r=>by rw [List.map_nil] at r;cases r;exact .nil
 | k::ks,_,r=>by
  rw [List.map_cons] at r
  cases r with
  | cons h t=>exact .cons (K3 h) (jG t)
abbrev KT (H:Hp):List (List d9×V)→List (List d9×Addr×Value)→Prop:=Paired fun p q=>p.1=q.1∧H q.2.1=some (.tup (p.1.map kV))∧RelV p.2 q.2.2
theorem KT.val {H:Hp} {kvs:List (List d9×V)} {xs:List (List d9×Addr×Value)} (r:KT H kvs xs) (k:List d9):RelO (i7 kvs k) ((atKey xs k).map (·.2)):=by
 induction r with
 | nil=>exact True.intro
 | @cons p q ps qs h t ih=>
  obtain ⟨h1,_,h2⟩:=h
  by_cases e:p.1=k
  ·have e':q.1=k:=h1.symm.trans e
   have b:atKey (q::qs) k=some q.2:=by simp [atKey,List.find?_cons,e']
   rw [D9 e,b];exact h2
  ·have e':¬q.1=k:=fun z=>e (h1.trans z)
   have b:atKey (q::qs) k=atKey qs k:=by simp [atKey,List.find?_cons,e']
   rw [A9 e,b];exact ih
theorem KT.repl {H:Hp} {kvs:List (List d9×V)} {xs:List (List d9×Addr×Value)} (r:KT H kvs xs) (k:List d9) {y:V} {u:Value} (ry:RelV y u) :
  KT H (kvs.map fun kv=>if kv.1=k then (kv.1,y) else kv) (xs.map (putAt k u)):=by
 induction r with
 | nil=>exact .nil
 | @cons p q ps qs h t ih=>
  rw [List.map_cons,List.map_cons]
  refine .cons ?_ ih
  obtain ⟨h1,h2,h3⟩:=h
  unfold putAt
  by_cases e:p.1=k
  ·rw [if_pos e,if_pos (h1.symm.trans e)];exact ⟨h1,h2,ry⟩
  ·rw [if_neg e,if_neg (fun z=>e (h1.trans z))];exact ⟨h1,h2,h3⟩
theorem KT.put {H:Hp} {kvs:List (List d9×V)} {xs:List (List d9×Addr×Value)} (r:KT H kvs xs) (k:List d9) {b:Addr} {y:V} {u:Value} (hb:H b=some (.tup (k.map kV))) (ry:RelV y u) :
  KT H (j7 kvs k y) (storedH xs k b u):=by
 have e:(kvs.any fun kv=>decide (kv.1=k))=(atKey xs k).isSome:=by
  rw [P8,(r.val k).isSome_eq,Option.isSome_map]
 unfold j7 storedH
 rw [e]
 by_cases q:(atKey xs k).isSome=true
 ·rw [if_pos q,if_pos q];exact r.repl k ry
 ·rw [if_neg q,if_neg q];exact Paired.snoc r ⟨rfl,hb,ry⟩
theorem KT.keeps {H H':Hp} {kvs:List (List d9×V)} {xs:List (List d9×Addr×Value)} (r:KT H kvs xs) (ht:∀b ys,H b=some (.tup ys)→H' b=some (.tup ys)):KT H' kvs xs:=
 Paired.mapP r fun _ _ z=>⟨z.1,ht _ _ z.2.1,z.2.2⟩
section
variable {P:Program} {w:World} {H:Hp} {h:Heap} {a:Addr}
theorem qT {u:HO} (ok:HOk P w H h) (e:Rd H a u):ObjOk P w H h a u:=e.ok ok
theorem Q1 {kvs:List (d9×V)} (ok:HOk P w H h) (e:Rd H a (.dK kvs)):kvs.length≤sizeLine∧(a==sysModules)=false∧∃vs,KV kvs vs∧h.DictOf (p6 P w) a vs:=
 show ObjOk P w H h a (.dK kvs) from qT ok e
theorem T5 {kvs:List (d9×V)} (ok:HOk P w H h) (e:H a=some (.dK kvs)):kvs.length≤sizeLine∧(a==sysModules)=false∧∃vs,KV kvs vs∧h.DictOf (p6 P w) a vs:=Q1 ok (.inl e)
theorem S9 {ks:List d9} (ok:HOk P w H h) (e:H a=some (.tup (ks.map kV))):(tupleKind (p6 P w)).is h ks a:=by
 obtain ⟨_,its,r,o,h1,h2,n,h3⟩:=(show ObjOk P w H h a (.tup (ks.map kV)) from ok a _ e)
 exact ⟨o,its.toArray,n,h1,h2,h3,by simpa using jG r⟩
theorem Q4 {kvs:List (List d9×V)} (ok:HOk P w H h) (e:Rd H a (.dT kvs)):kvs.length≤sizeLine∧(a==sysModules)=false∧
  ∃xs,KT H kvs xs∧h.DictOfH (tupleKind (p6 P w)) a xs:=by
 obtain ⟨z,y,xs,r,o,es,ep,h1,h2,h3,h4,h5⟩:=(show ObjOk P w H h a (.dT kvs) from qT ok e)
 refine ⟨z,y,xs,r,o,es,ep,h1,h2,h3,h4,fun x hx=>?_,h5⟩
 have all:∀{l:List (List d9×V)} {m:List (List d9×Addr×Value)},KT H l m→∀x∈m,(tupleKind (p6 P w)).is h x.1 x.2.1:=by
  intro l m q
  induction q with
  | nil=>intro x hx;exact nomatch hx
  | @cons p q ps qs hq t ih=>
   intro x hx
   rcases List.mem_cons.mp hx with e|hx
   ·subst e
    exact S9 ok (by rw [←hq.1];exact hq.2.1)
   ·exact ih x hx
 exact all r x hx
theorem Bl {kvs:List (List d9×V)} (ok:HOk P w H h) (e:H a=some (.dT kvs)):kvs.length≤sizeLine∧(a==sysModules)=false∧
  ∃xs,KT H kvs xs∧h.DictOfH (tupleKind (p6 P w)) a xs:=Q4 ok (.inl e)
end
def DGet (H:Hp) (a:Addr) (y:V) (r:Option V):Prop:=
 (∃kvs k,Rd H a (.dK kvs)∧y=kV k∧r=i7 kvs k)∨∃kvs k b,Rd H a (.dT kvs)∧y=.ref b∧H b=some (.tup (k.map kV))∧r=i7 kvs k
def DPut (H:Hp) (a:Addr) (y v:V) (H':Hp):Prop:=
 (∃kvs k,H a=some (.dK kvs)∧y=kV k∧kvs.length < sizeLine∧H'=a8 H a (.dK (j7 kvs k v)))∨
 ∃kvs k b,H a=some (.dT kvs)∧y=.ref b∧H b=some (.tup (k.map kV))∧kvs.length < sizeLine∧H'=a8 H a (.dT (j7 kvs k v))
theorem DGet.k {H:Hp} {a:Addr} {kvs:List (d9×V)} {k:d9} (e:H a=some (.dK kvs)):DGet H a (kV k) (i7 kvs k):=.inl ⟨kvs,k,.inl e,rfl,rfl⟩
theorem DPut.k {H:Hp} {a:Addr} {kvs:List (d9×V)} {k:d9} {v:V} (e:H a=some (.dK kvs)) (hl:kvs.length < sizeLine):DPut H a (kV k) v (a8 H a (.dK (j7 kvs k v))):=.inl ⟨kvs,k,e,rfl,hl,rfl⟩
section
variable {X:Cx} {pins:List (Addr×Obj)} {σ:St} {H:Hp} {s:Shared} {a:Addr} {y v:V} {u r:Value} {o:Option V} {A:Around} {E:Value→Shared→Prop}
theorem Inv.big (I:Inv X pins σ H s):sysModules < s.heap.objs.size:=by
 have h:mainGlobals < s.heap.objs.size:=(I.mod.glob.keeps I.bk).lt
 exact Nat.lt_trans (by decide) h
theorem kW {Q:Value→Shared→Prop} (hu:A.units+1 < cLine) (I:Inv X pins σ H s) (g:DGet H a y (some v)) (ry:RelV y u) (h:∀w' s',Inv X pins σ H s'→RelV v w'→Q w' s') :
  wpAny (model X.prog X.w) A (getItem (.ref a) u) Q E s:=by
 rcases g with ⟨kvs,k,e,ey,l⟩|⟨kvs,k,b,e,ey,eb,l⟩
 ·subst ey
  obtain ⟨z,hd,vs,rel,dd⟩:=Q1 I.hok e
  obtain ⟨w',hw,rw'⟩:=RelO.some_of (v:=v) (o:=valueAt vs k) (by rw [l];exact rel.val k)
  exact wpAny_getItem_of (K3 ry) dd.mapOf hw (h w' _ (I.tok _) rw')
 ·subst ey
  cases (show u=Value.ref b from ry)
  obtain ⟨z,hd,xs,rel,dd⟩:=Q4 I.hok e
  obtain ⟨w',hw,rw'⟩:=RelO.some_of (v:=v) (o:=(atKey xs k).map (·.2)) (by rw [l];exact rel.val k)
  obtain ⟨p,hp,hp2⟩:=Option.map_eq_some_iff.mp hw
  refine wpAny_getItem_heap (tupleKind_room_in1 hu) (S9 I.hok eb) dd hp ?_
  rw [hp2]
  exact h w' _ (I.tok _) rw'
theorem Aw {Q:Value→Shared→Prop} (hu:A.units+1 < cLine) (I:Inv X pins σ H s) (g:DGet H a y o) (ry:RelV y u) (h:∀s',Inv X pins σ H s'→Q (.bool o.isSome) s') :
  wpAny (model X.prog X.w) A (compareOp .In u (.ref a)) Q E s:=by
 rcases g with ⟨kvs,k,e,ey,l⟩|⟨kvs,k,b,e,ey,eb,l⟩
 ·subst ey
  obtain ⟨z,hd,vs,rel,dd⟩:=Q1 I.hok e
  refine wpAny_in_of (K3 ry) hd dd.mapOf ?_
  rw [←(rel.val k).isSome_eq,←l]
  exact h _ (I.tok _)
 ·subst ey
  cases (show u=Value.ref b from ry)
  obtain ⟨z,hd,xs,rel,dd⟩:=Q4 I.hok e
  refine wpAny_in_heap (tupleKind_room_in1 hu) (S9 I.hok eb) hd dd ?_
  have q:=(rel.val k).isSome_eq
  rw [Option.isSome_map] at q
  rw [←q,←l]
  exact h _ (I.tok _)
theorem Dc {Q:Value→Shared→Prop} (hu:A.units+1 < cLine) (I:Inv X pins σ H s) (g:DGet H a y o) (ry:RelV y u) (h:∀s',Inv X pins σ H s'→Q (.bool (!o.isSome)) s') :
  wpAny (model X.prog X.w) A (compareOp .NotIn u (.ref a)) Q E s:=by
 rcases g with ⟨kvs,k,e,ey,l⟩|⟨kvs,k,b,e,ey,eb,l⟩
 ·subst ey
  obtain ⟨z,hd,vs,rel,dd⟩:=Q1 I.hok e
  refine wpAny_notIn_of (K3 ry) hd dd.mapOf ?_
  rw [←(rel.val k).isSome_eq,←l]
  exact h _ (I.tok _)
 ·subst ey
  cases (show u=Value.ref b from ry)
  obtain ⟨z,hd,xs,rel,dd⟩:=Q4 I.hok e
  refine wpAny_notIn_heap (tupleKind_room_in1 hu) (S9 I.hok eb) hd dd ?_
  have q:=(rel.val k).isSome_eq
  rw [Option.isSome_map] at q
  rw [←q,←l]
  exact h _ (I.tok _)
theorem W6 {h':Heap} {t':Nat} {ob:HO} (I:Inv X pins σ H s) (mu:O5 (H a)) (hs:Heap.SameBut a s.heap h') (he:∃q,h'.get? a=some q) (new:ObjOk X.prog X.w (a8 H a ob) h' a ob) :
  Inv X pins σ (a8 H a ob) { s with heap:=h',toks:=t' }:=
 I.write (x:=a) (e:=a) mu (.inl rfl) (fun b q hb z=>(hs.2 b hb).trans z) he new
theorem cP {P:Program} {w:World} {H':Hp} {h':Heap} {kvs:List (d9×V)} {vs:List (d9×Value)} (z:kvs.length≤sizeLine) (hd:(a==sysModules)=false) (rel:KV kvs vs) (dd:h'.DictOf (p6 P w) a vs) :
  ObjOk P w H' h' a (.dK kvs):=⟨z,hd,vs,rel,dd⟩
theorem lQ {H':Hp} {Q:Unit→Shared→Prop} (hu:A.units+1 < cLine) (I:Inv X pins σ H s) (g:DPut H a y v H') (ry:RelV y u) (rv:RelV v r) (h:∀s',Inv X pins σ H' s'→Q () s') :
  wpAny (model X.prog X.w) A (setItem (.ref a) u r) Q E s:=by
 rcases g with ⟨kvs,k,e,ey,l,eH⟩|⟨kvs,k,b,e,ey,eb,l,eH⟩
 ·subst ey eH
  obtain ⟨z,hd,vs,rel,dd⟩:=T5 I.hok e
  have hz:vs.length≤sizeLine:=by rw [←rel.length];exact z
  have hl:(j7 kvs k v).length≤sizeLine:=by have:=V5 kvs k v;omega
  refine wpAny_setItem_pairs (hsz:=hz) (K3 ry) dd fun h' dd' hs=>h _ ?_
  have he:∃q,h'.get? a=some q:=let ⟨q,_,_,hq,_⟩:=dd';⟨q,hq⟩
  exact W6 I (by rw [e];exact True.intro) hs he (cP hl hd (rel.put k rv) dd')
 ·subst ey eH
  cases (show u=Value.ref b from ry)
  obtain ⟨z,hd,xs,rel,dd⟩:=Bl I.hok e
  have hz:xs.length≤sizeLine:=by rw [←Paired.length rel];exact z
  have hl:(j7 kvs k v).length≤sizeLine:=by have:=V5 kvs k v;omega
  refine wpAny_setItem_heap (hsz:=hz) (tupleKind_room_in1 hu) (S9 I.hok eb) dd fun h' dd' hs=>h _ ?_
  obtain ⟨q,es,ep,hq,h2,h3,h4,_,h5⟩:=dd'
  refine W6 I (by rw [e];exact True.intro) hs ⟨q,hq⟩ ⟨hl,hd,_,(rel.put k eb rv).keeps fun c ys ec=>?_,q,es,ep,hq,h2,h3,h4,h5⟩
  rw [a9 (f8 ec e (fun z=>nomatch z))]
  exact ec
end
def fM (i:Expr):Prop:=∀ov iv,subscripted i false ov iv=operate [ov,iv] (getItem ov iv)
theorem nW {prog:Program} {w:World} {A:Around} {E:Value→Shared→Prop} {s:Shared} {env:Env} {value slice:Expr} {pos:Pos} {T id:String} {Q:Value→Shared→Prop}
  (hl:typeLookup (.type T) "__getitem__"=pure (some (.builtin id))) (hs:fM slice)
  (h:wpAny (model prog w) A (eval value env) (fun o s₁=>wpAny (model prog w) A (eval slice env) (fun i s₂=>s₂.TypeIs o T∧wpAny (model prog w) A (getItem o i) Q E s₂) E s₁) E s) :
  wpAny (model prog w) A (eval (.Subscript value slice pos) env) Q E s:=by
 refine Subscript_ (wpAny_mono h (fun o s₁ h₁=>wpAny_mono h₁ (fun i s₂ h₂=>?_) fun _ _ x=>x) fun _ _ x=>x)
 obtain ⟨hT,h₂⟩:=h₂
 unfold subscriptTail
 refine wpAny_bind ?_
 rw [getitemInPython_of_ne hT.not_modules]
 refine wpAny_bind (wpAny_specialOf hT hl ?_)
 have fin:wpAny (model prog w) A (subscripted slice false o i) (fun r s₃=>wpAny (model prog w) A (letTemporaryGo value o r >>= fun _=>pure r) Q E s₃) E s₂:=by
  rw [hs o i]
  exact wpAny_operating (wpAny_mono h₂ (fun r s₃ h₃=>wpAny_bind (wpAny_letTemporaryGo (wpAny_pure h₃))) fun _ _ x=>x)
 first
  | exact wpAny_pure (wpAny_bind fin)
  | exact wpAny_bind (wpAny_pure (wpAny_bind fin))
  | exact wpAny_bind fin
theorem EA {X:Cx} {pins:List (Addr×Obj)} {σ:St} {H:Hp} {s:Shared} {a:Addr} {y:V} {o:Option V} (I:Inv X pins σ H s) (g:DGet H a y o):s.TypeIs (.ref a) "dict":=by
 rcases g with ⟨kvs,k,e,_,_⟩|⟨kvs,k,b,e,_,_,_⟩
 ·obtain ⟨_,_,vs,_,dd⟩:=Q1 I.hok e
  exact dd.typeIs
 ·obtain ⟨_,_,xs,_,dd⟩:=Q4 I.hok e
  exact dd.typeIs
def zD (td ty:TE):TE:=fun σ H Q=>td σ H fun x H1=>ty σ H1 fun y H2=>∃a v,x=.ref a∧DGet H2 a y (some v)∧Q v H2
def DK (ty td:TE):TE:=fun σ H Q=>ty σ H fun y H1=>td σ H1 fun x H2=>∃a o,x=.ref a∧DGet H2 a y o∧Q (.bl o.isSome) H2
def vF (ty td:TE):TE:=fun σ H Q=>ty σ H fun y H1=>td σ H1 fun x H2=>∃a o,x=.ref a∧DGet H2 a y o∧Q (.bl (!o.isSome)) H2
def xO (td ty tv:TE):TS:=fun D σ H=>tv σ H fun v H1=>td σ H1 fun x H2=>ty σ H2 fun y H3=>∃a H4,x=.ref a∧DPut H3 a y v H4∧D.nx σ H4
def Cz (td ty tv:TE) (rd:V→V→Hp→VK→Prop):TS:=fun D σ H=>td σ H fun x H1=>ty σ H1 fun y H2=>∃a v,x=.ref a∧DGet H2 a y (some v)∧
 tv σ H2 fun y2 H3=>rd v y2 H3 fun z H4=>∃H5,DPut H4 a y z H5∧D.nx σ H5
section
variable {X:Cx} {o i e value:Expr} {pos pos' tpos:Pos} {td ty tv:TE}
theorem L3 (hu:X.A.units+1 < cLine) (ho:PE X o td) (hi:PE X i ty) (hs:fM i):PE X (.Subscript o i pos) (zD td ty):=by
 intro pins s σ H Q I h
 refine nW PySem.F.slot_dict_getitem.lookup hs (g6 (ho pins s σ H _ I h) fun u s1 ⟨x,H1,I1,rx,q1⟩=>g6 (hi pins s1 σ H1 _ I1 q1) fun iv s2 ⟨y,H2,I2,ry,a,v,ex,g,q2⟩=>?_)
 subst ex
 obtain rfl:u=Value.ref a:=rx
 exact ⟨EA I2 g,kW hu I2 g ry fun w' s3 I3 rw'=>⟨v,H2,I3,rw',q2⟩⟩
theorem yJ (hu:X.A.units+1 < cLine) (hi:PE X i ty) (ho:PE X o td):PC X .In i o (DK ty td):=by
 intro pins s σ H Q I h
 refine g6 (hi pins s σ H _ I h) fun iv s1 ⟨y,H1,I1,ry,q1⟩=>g6 (ho pins s1 σ H1 _ I1 q1) fun u s2 ⟨x,H2,I2,rx,a,ov,ex,g,q2⟩=>?_
 subst ex
 obtain rfl:u=Value.ref a:=rx
 exact Aw hu I2 g ry fun s3 I3=>⟨.bl ov.isSome,H2,I3,rfl,q2⟩
theorem bE (hu:X.A.units+1 < cLine) (hi:PE X i ty) (ho:PE X o td):PC X .NotIn i o (vF ty td):=by
 intro pins s σ H Q I h
 refine g6 (hi pins s σ H _ I h) fun iv s1 ⟨y,H1,I1,ry,q1⟩=>g6 (ho pins s1 σ H1 _ I1 q1) fun u s2 ⟨x,H2,I2,rx,a,ov,ex,g,q2⟩=>?_
 subst ex
 obtain rfl:u=Value.ref a:=rx
 exact Dc hu I2 g ry fun s3 I3=>⟨.bl (!ov.isSome),H2,I3,rfl,q2⟩
theorem M9 (hu:X.A.units+1 < cLine) (ho:PE X o td) (hi:PE X i ty) (hv:PE X value tv) (hs:swapsWith value (some (.Subscript o i pos')) pos.line X.env=pure false) :
  PS X (.Assign [.Subscript o i pos'] value pos) (xO td ty tv):=by
 intro pins s σ H D I h
 refine wpAny_Assign_Subscript (g6 (hv pins s σ H _ I h) fun r s1 ⟨v,H1,I1,rv,q1⟩=>g6 (ho pins s1 σ H1 _ I1 q1) fun u s2 ⟨x,H2,I2,rx,q2⟩=>g6 (hi pins s2 σ H2 _ I2 q2) fun iv s3 ⟨y,H3,I3,ry,a,H4,ex,g,q3⟩=>?_) hs
 subst ex
 obtain rfl:u=Value.ref a:=rx
 exact lQ hu I3 g ry rv fun s4 I4=>⟨σ,H4,I4,q3⟩
theorem vC {op:Operator} {rd:V→V→Hp→VK→Prop} (hu:X.A.units+1 < cLine) (ho:PE X o td) (hi:PE X i ty) (hv:PE X value tv) (hop:oN X op rd)
  (ha:∀ov iv new,augStore i ov iv new=(do holding [new,ov,iv] (setItem ov iv new);release [new,ov,iv] [];pure .next)):PS X (.AugAssign (.Subscript o i tpos) op value pos) (Cz td ty tv rd):=by
 intro pins s σ H D I h
 refine wpAny_AugAssign_SubscriptAny (g6 (ho pins s σ H _ I h) fun u s1 ⟨x,H1,I1,rx,q1⟩=>g6 (hi pins s1 σ H1 _ I1 q1) fun iv s2 ⟨y,H2,I2,ry,a,v,ex,g,q2⟩=>?_) ha
 subst ex
 obtain rfl:u=Value.ref a:=rx
 refine kW hu I2 g ry fun w' s3 I3 rw'=>g6 (hv pins s3 σ H2 _ I3 q2) fun w2 s4 ⟨y2,H3,I4,ry2,q3⟩=>g6 (hop pins s4 σ H3 v y2 w' w2 _ I4 rw' ry2 q3) fun w3 s5 ⟨z,H4,I5,rz,H5,g5,q4⟩=>?_
 exact lQ hu I5 g5 ry rz fun s6 I6=>⟨σ,H5,I6,q4⟩
end
theorem qI {P:Program} {w:World} {H:Hp} (h:Heap) (hb:sysModules < h.objs.size):ObjOk P w H (h.push { cls:=.type "dict",data:=.dict #[] }) h.objs.size (.dK []):=
 ⟨Nat.zero_le _,beq_eq_false_iff_ne.mpr (Ne.symm (Nat.ne_of_lt hb)),[],.nil,Heap.DictOf.new h⟩
def DR:TE:=fun _ H Q=>∀p,H p=none→Q (.ref p) (a8 H p (.dK []))
section
variable {X:Cx} {pos:Pos}
theorem R4:PE X (.Dict [] [] pos) DR:=fun pins s σ H Q I h=>
 wpAny_Dict_empty ⟨.ref s.heap.objs.size,_,I.laid (a:=s.heap.objs.size) (o:=.dK []) (t':=s.toks) (fun _ _ q=>Heap.get?_push_of_some _ q) (Nat.le_refl _) (qI s.heap I.big),rfl,h _ (I.hok.fresh (Nat.le_refl _))⟩
end
def dU:List (TE×TE)→St→Hp→(List (V×V)→Hp→Prop)→Prop
 | [],_,H,Q=>Q [] H
 | (tk,tv)::r,σ,H,Q=>tk σ H fun x H1=>tv σ H1 fun y H2=>dU r σ H2 fun ps H3=>Q ((x,y)::ps) H3
abbrev VV:List (V×V)→List (Value×Value)→Prop:=Paired fun p q=>RelV p.1 q.1∧RelV p.2 q.2
def aY (X:Cx) (pos:Pos) (keys:List (Option Expr)) (values:List Expr) (trs:List (TE×TE)):Prop:=
 ∀(pins:List (Addr×Obj)) (s:Shared) (σ:St) (H:Hp) (Q:List (V×V)→Hp→Prop),Inv X pins σ H s→dU trs σ H Q→
  wpAny (model X.prog X.w) X.A (evalPairs (pairTrees keys values X.env pos)) (fun vs s'=>∃ps H',Inv X pins σ H' s'∧VV ps vs∧Q ps H') X.xe s
theorem gV {X:Cx} {pos:Pos}:aY X pos [] [] []:=fun pins s σ H Q I h=>pairTrees_nil_walk ⟨[],H,I,.nil,h⟩
theorem fG {X:Cx} {pos:Pos} {k v:Expr} {ks:List (Option Expr)} {vs:List Expr} {tk tv:TE} {trs:List (TE×TE)} (hk:PE X k tk) (hv:PE X v tv) (hr:aY X pos ks vs trs) :
  aY X pos (some k::ks) (v::vs) ((tk,tv)::trs):=fun pins s σ H Q I h=>
 pairTrees_cons_walk (g6 (hk pins s σ H _ I h) fun u s1 ⟨x,H1,I1,rx,q1⟩=>g6 (hv pins s1 σ H1 _ I1 q1) fun w2 s2 ⟨y,H2,I2,ry,q2⟩=>
  g6 (hr pins s2 σ H2 _ I2 q2) fun ws s3 ⟨ps,H3,I3,rel,q3⟩=>⟨(x,y)::ps,H3,I3,.cons ⟨rx,ry⟩ rel,q3⟩)
def G5 (kvs more:List (d9×V)):List (d9×V):=more.foldl (fun acc kv=>j7 acc kv.1 kv.2) kvs
theorem KV.merge:∀{more:List (d9×V)} {rs:List (d9×Value)} {kvs:List (d9×V)} {vs:List (d9×Value)},KV more rs→KV kvs vs→KV (G5 kvs more) (merged vs rs):=by
 intro more rs kvs vs r
 unfold KV at r
 induction r generalizing kvs vs with
 | nil=>intro q;exact q
 | @cons p q ps qs h t ih=>
  intro r0
  have e:KV (j7 kvs p.1 p.2) (stored vs q.1 q.2):=by
   have:=r0.put p.1 h.2
   rw [←h.1];exact this
  exact ih e
theorem dP:∀(more kvs:List (d9×V)),(G5 kvs more).length≤kvs.length+more.length
 | [],kvs=>by show kvs.length≤kvs.length+0;omega
 | p::r,kvs=>by
  have h1:=dP r (j7 kvs p.1 p.2)
  have h2:=V5 kvs p.1 p.2
  show (G5 (j7 kvs p.1 p.2) r).length≤_
  rw [List.length_cons];omega
theorem jF {P:Program} {w:World}:∀{kvs:List (d9×V)} {ws:List (Value×Value)},VV (kvs.map fun kv=>(kV kv.1,kv.2)) ws→∃rs,Carries (p6 P w) ws rs∧KV kvs rs
 | [],_,r=>by rw [List.map_nil] at r;cases r;exact ⟨[],True.intro,.nil⟩
 | p::kvs,_,r=>by
  rw [List.map_cons] at r
  cases r with
  | @cons a b as bs h t=>
   obtain ⟨rs,c,q⟩:=jF (P:=P) (w:=w) t
   obtain ⟨b1,b2⟩:=b
   exact ⟨(p.1,b2)::rs,⟨K3 h.1,rfl,c⟩,.cons ⟨rfl,h.2⟩ q⟩
def zS (trs:List (TE×TE)):TE:=fun σ H Q=>∀p,H p=none→dU trs σ (a8 H p (.dK [])) fun ps H2=>H2 p=some (.dK [])∧∃kvs:List (d9×V),ps=kvs.map (fun kv=>(kV kv.1,kv.2))∧kvs.length≤15∧Q (.ref p) (a8 H2 p (.dK (G5 [] kvs)))
theorem eQ {X:Cx} {pos:Pos} {keys:List (Option Expr)} {values:List Expr} {trs:List (TE×TE)} (h:aY X pos keys values trs) (hall:keys.all (·.isSome)=true) (hl:keys.length=values.length) (h0:keys≠[])
  (h15:keys.length≤15):PE X (.Dict keys values pos) (zS trs):=by
 intro pins s σ H Q I q
 have hn:=I.hok.fresh (Nat.le_refl s.heap.objs.size)
 have I1:=I.laid (a:=s.heap.objs.size) (o:=.dK []) (h':=s.heap.push { cls:=.type "dict",data:=.dict #[] }) (t':=s.toks) (fun _ _ q=>Heap.get?_push_of_some _ q) (Nat.le_refl _) (qI s.heap I.big)
 refine wpAny_Dict_walk (knd:=p6 X.prog X.w) hall hl h0 h15 (g6 (h pins _ σ _ _ I1 (q _ hn)) fun ws s2 ⟨ps,H2,I2,rel,e,kvs,ep,lk,q2⟩=>?_)
 subst ep
 obtain ⟨rs,c,rk⟩:=jF (P:=X.prog) (w:=X.w) rel
 obtain ⟨z,hd,vs0,r0,dd⟩:=T5 I2.hok e
 cases r0
 refine ⟨rs,c,dd,fun h' dd' hs=>⟨.ref s.heap.objs.size,_,?_,rfl,q2⟩⟩
 have hz:(G5 [] kvs).length≤sizeLine:=by
  have h1:=dP kvs []
  rw [List.length_nil] at h1
  rw [sizeLine_eq];omega
 have he:∃q,h'.get? s.heap.objs.size=some q:=let ⟨q,_,_,hq,_⟩:=dd';⟨q,hq⟩
 exact W6 I2 (by rw [e];exact True.intro) hs he (cP hz hd (rk.merge .nil) dd')
structure M1 (X:Cx) (o:Expr) (m:Str) (apos:Pos) (e:Expr) (cpos:Pos):Prop where
 base:attributeBase o m X.env (eval o X.env)=eval o X.env
 few:((backTo cpos (starEach [e] X.env)).all (fun x=>!x.1) && (backToKw cpos (keywordEach [] X.env)).all (fun x=>x.1.isSome)
  && decide (([e]:List Expr).length+([]:List Keyword).length+(if ([]:List Keyword).isEmpty then 0 else 1) < 30))=true
 line:(apos.endLine==cpos.line)=true
 trees:backTo cpos (starEach [e] X.env)=[(false,eval e X.env)]
structure M2 (X:Cx) (o:Expr) (m:Str) (apos:Pos) (e f:Expr) (cpos:Pos):Prop where
 base:attributeBase o m X.env (eval o X.env)=eval o X.env
 few:((backTo cpos (starEach [e,f] X.env)).all (fun x=>!x.1) && (backToKw cpos (keywordEach [] X.env)).all (fun x=>x.1.isSome)
  && decide (([e,f]:List Expr).length+([]:List Keyword).length+(if ([]:List Keyword).isEmpty then 0 else 1) < 30))=true
 line:(apos.endLine==cpos.line)=true
 trees:backTo cpos (starEach [e,f] X.env)=[(false,eval e X.env),(false,eval f X.env)]
def cJ (H:Hp) (a:Addr):Prop:=(∃kvs,Rd H a (.dK kvs))∨∃kvs,Rd H a (.dT kvs)
theorem eL {X:Cx} {pins:List (Addr×Obj)} {σ:St} {H:Hp} {s:Shared} {a:Addr} (I:Inv X pins σ H s) (d:cJ H a) :
  s.TypeIs (.ref a) "dict"∧(∀b,Value.ref a=.ref b→∃ob,s.heap.get? b=some ob∧ob.dict=none)∧(a==sysModules)=false:=by
 rcases d with ⟨kvs,e⟩|⟨kvs,e⟩
 ·obtain ⟨_,hd,vs,_,dd⟩:=Q1 I.hok e
  refine ⟨dd.typeIs,fun b q=>?_,hd⟩
  cases q
  obtain ⟨ob,_,_,h1,h2,_⟩:=dd
  exact ⟨ob,h1,h2.2.1⟩
 ·obtain ⟨_,hd,xs,_,dd⟩:=Q4 I.hok e
  refine ⟨dd.typeIs,fun b q=>?_,hd⟩
  cases q
  obtain ⟨ob,_,_,h1,h2,_⟩:=dd
  exact ⟨ob,h1,h2.2.1⟩
section
variable {X:Cx} {pins:List (Addr×Obj)} {σ:St} {H:Hp} {s:Shared} {a:Addr} {y d:V} {u r:Value} {o:Option V} {A:Around} {E:Value→Shared→Prop}
theorem Da {Q:Value→Shared→Prop} (hu:A.units+1 < cLine) (I:Inv X pins σ H s) (g:DGet H a y o) (ry:RelV y u) (rd:RelV d r) (h:∀w' s',Inv X pins σ H s'→RelV (o.getD d) w'→Q w' s') :
  wpAny (model X.prog X.w) A (call (.builtin "dict.get") [.ref a,u,r]) Q E s:=by
 rcases g with ⟨kvs,k,e,ey,l⟩|⟨kvs,k,b,e,ey,eb,l⟩
 ·subst ey
  obtain ⟨z,hd,vs,rel,dd⟩:=Q1 I.hok e
  refine call_meetsIn PySem.F.slot_dict_get dd.typeIs PySem.F.entry_dict_get (PySem.F.args_dict_get_3 _ _ _) (meets_dict_get_default (p6 X.prog X.w) a (K3 ry) hd r) ⟨_,dd.mapOf,h _ _ (I.tok _) ?_⟩
  rw [l]
  exact (rel.val k).getD rd
 ·subst ey
  cases (show u=Value.ref b from ry)
  obtain ⟨z,hd,xs,rel,dd⟩:=Q4 I.hok e
  refine call_meetsIn PySem.F.slot_dict_get dd.typeIs PySem.F.entry_dict_get (PySem.F.args_dict_get_3 _ _ _) (meetsH_dict_get_default (tupleKind (p6 X.prog X.w)) a b hd r) ⟨tupleKind_room_in1 hu,k,xs,S9 I.hok eb,dd,h _ _ (I.tok _) ?_⟩
  rw [l]
  exact (rel.val k).getD rd
end
def rW (td ty tx:TE):TE:=fun σ H Q=>td σ H fun x H1=>∃a,x=.ref a∧cJ H1 a∧ty σ H1 fun y H2=>tx σ H2 fun z H3=>∃o,DGet H3 a y o∧Q (o.getD z) H3
section
variable {X:Cx} {o e f:Expr} {apos cpos:Pos} {td ty tx:TE}
theorem iN (hu:X.A.units+1 < cLine) (ho:PE X o td) (he:PE X e ty) (hf:PE X f tx) (m:M2 X o "get" apos e f cpos):PE X (.Call (.Attribute o "get" apos) [e,f] [] cpos) (rW td ty tx):=by
 intro pins s σ H Q I h
 refine wpAny_Call_method m.base m.few m.line PySem.F.plainAttrs_dict PySem.F.slot_dict_get PySem.F.type_dict_get (g6 (ho pins s σ H _ I h) fun u s1 ⟨x,H1,I1,rx,a,ex,d,q1⟩=>?_)
 subst ex
 obtain rfl:u=Value.ref a:=rx
 obtain ⟨t1,t2,_⟩:=eL I1 d
 refine ⟨t1,t2,?_⟩
 rw [m.trees]
 refine Calls.callWith_builtin rfl (Calls.evalArgs_plain (Calls.spliced_cons (g6 (he pins s1 σ H1 _ I1 q1) fun iv s2 ⟨y,H2,I2,ry,q2⟩=>
  Calls.spliced_cons (g6 (hf pins s2 σ H2 _ I2 q2) fun fv s3 ⟨z,H3,I3,rz,ov,g,q3⟩=>Calls.spliced_nil ?_))))
 exact Da hu I3 g ry rz fun w' s4 I4 rw'=>⟨_,H3,I4,rw',q3⟩
end
theorem xC:bootBuiltins "reversed"=some (.type "reversed"):=by rfl'
section
variable {X:Cx} {pins:List (Addr×Obj)} {σ:St} {H:Hp} {s:Shared} {h':Heap}
theorem Inv.turnedL {t':Nat} {ch:List Addr} (I:Inv X pins σ H s) (k:∀b o,b∉ch→s.heap.get? b=some o→h'.get? b=some o) (hf:∀b∈ch,J2 X pins H b):Inv X pins σ H { s with heap:=h',toks:=t' }:=by
 have nit:∀b u,H b=some u→b∉ch:=fun b u e z=>by
  have q:=(hf b z).1
  rw [q] at e;cases e
 refine I.step (g':=s.gens) (d':=s.drawn) (ch:=ch) (fun b hb=>⟨(hf b hb).2.2.2.1,(hf b hb).2.1,(hf b hb).2.2.2.2.1,(hf b hb).2.2.2.2.2⟩) (fun b o _ _ hc e _=>k b o hc e) (fun b o _ _ hc e _=>⟨o.slots,k b o hc e⟩)
  (fun _ _ _ _ n=>n) (fun b o hc e=>⟨o,k b o hc e⟩) (fun _ _ e=>e) (fun _ _ _ e=>e) (fun b ps e=>⟨#[],by rw [e];simp⟩) (fun m hm=>?_) (fun b u e=>?_) I.bare
 ·obtain ⟨o,es,ep,ho,r⟩:=hm
  exact ⟨o,es,ep,k _ o (fun z=>(hf _ z).2.1 rfl) ho,r⟩
 ·refine (I.hok b u e).stay (fun c v hc q=>k c v ?_ q) (fun _ q=>q) fun _ _ q=>q
  rcases hc with z|z
  ·rw [z];exact nit b u e
  ·exact nit c _ z
theorem Inv.turnedNew {t':Nat} {ch:List Addr} {T:Addr} {ob:HO} (I:Inv X pins σ H s) (k:∀b o,b∉ch→s.heap.get? b=some o→h'.get? b=some o) (hf:∀b∈ch,J2 X pins H b) (hT:s.heap.objs.size≤T)
  (new:ObjOk X.prog X.w (a8 H T ob) h' T ob):Inv X pins σ (a8 H T ob) { s with heap:=h',toks:=t' }:=by
 have hn:H T=none:=I.hok.fresh hT
 have nit:∀b u,H b=some u→b∉ch:=fun b u e z=>by
  have q:=(hf b z).1
  rw [q] at e;cases e
 refine I.step (g':=s.gens) (d':=s.drawn) (ch:=ch) (fun b hb=>⟨(hf b hb).2.2.2.1,(hf b hb).2.1,(hf b hb).2.2.2.2.1,(hf b hb).2.2.2.2.2⟩) (fun b o _ _ hc e _=>k b o hc e) (fun b o _ _ hc e _=>⟨o.slots,k b o hc e⟩)
  (fun b o _ e n=>?_) (fun b o hc e=>⟨o,k b o hc e⟩) (fun b xs e=>?_) (fun b o u e=>?_) (fun b ps e=>⟨#[],?_⟩) (fun m hm=>?_) (fun b u e=>?_) I.bare
 ·rw [a9 (Nat.ne_of_lt (Nat.lt_of_lt_of_le (Heap.lt_size e) hT))];exact n
 ·rw [a9 (d8 e hn)];exact e
 ·rw [a9 (d8 e hn)];exact e
 ·rw [a9 (d8 e hn),e];simp
 ·obtain ⟨o,es,ep,ho,r⟩:=hm
  exact ⟨o,es,ep,k _ o (fun z=>(hf _ z).2.1 rfl) ho,r⟩
 ·by_cases hb:b=T
  ·subst hb
   rw [c8] at e
   cases e
   exact new
  ·rw [a9 hb] at e
   refine (I.hok b u e).stay (fun c v hc q=>k c v ?_ q) (fun c q=>by rw [a9 (d8 q hn)];exact q) fun c xs q=>by rw [a9 (d8 q hn)];exact q
   rcases hc with z|z
   ·rw [z];exact nit b u e
   ·exact nit c _ z
theorem Inv.lock {d:Addr} {u:HO} (I:Inv X pins σ H s) (h:H d=some u) (mu:O5 (some u)):∃od,Inv X pins σ (a8 H d (.frz od u)) s:=by
 have x:=I.hok d u h
 have ex:∃od,s.heap.get? d=some od:=by
  cases u with
  | lst xs=>obtain ⟨_,_,_,_,e⟩:=x;exact ⟨_,e⟩
  | dK kvs=>obtain ⟨_,_,_,_,o,_,_,e,_⟩:=x;exact ⟨o,e⟩
  | dT kvs=>obtain ⟨_,_,_,_,o,_,_,e,_⟩:=x;exact ⟨o,e⟩
  | set S n=>obtain ⟨o,_,_,_,e,_⟩:=x;exact ⟨o,e⟩
  | ins C dx fs=>obtain ⟨_,_,_,e,_⟩:=x;exact ⟨_,e⟩
  | ext φ=>obtain ⟨_,⟨_,e⟩,_⟩:=x;exact ⟨_,e⟩
  | _=>exact False.elim mu
 obtain ⟨od,e⟩:=ex
 have new:ObjOk X.prog X.w (a8 H d (.frz od u)) s.heap d (.frz od u):=by
  refine ⟨e,x.stay (fun b v _ q=>q) (fun b q=>?_) fun b xs q=>?_⟩
  ·rw [a9 (fun z=>by rw [z,h] at q;cases q;exact mu)];exact q
  ·rw [a9 (fun z=>by rw [z,h] at q;cases q;exact mu)];exact q
 exact ⟨od,I.write (x:=d) (e:=d) (t':=s.toks) (h':=s.heap) (by rw [h];exact mu) (.inl rfl) (fun b v _ q=>q) ⟨od,e⟩ new⟩
theorem Inv.nofrz {d:Addr} {u:HO} (I:Inv X pins σ H s) (h:H d=some u) (mu:O5 (some u)):∀o' u',X.H_0 d≠some (.frz o' u'):=fun o' u' e=>by
 have q:=I.base.frzs d o' u' e
 rw [h] at q
 cases q
 exact mu
theorem Inv.unlock {d:Addr} {od:Obj} {u:HO} (I:Inv X pins σ H s) (h:H d=some (.frz od u)) (hn:∀o' u',X.H_0 d≠some (.frz o' u')):Inv X pins σ (a8 H d u) s:=by
 have neH:∀b o,H b=some o→(∀o' u',o≠.frz o' u')→b≠d:=fun b o e hne z=>by
  rw [z,h] at e
  cases e
  exact hne _ _ rfl
 have neN:∀b,H b=none→b≠d:=fun b e z=>by rw [z,h] at e;cases e
 refine ⟨I.ok,I.os,I.bare,⟨I.base.keep,I.base.slot,fun b o e n hx=>?_,I.base.there,fun b xs e=>?_,fun b o x e=>?_,fun b ps e=>?_⟩,I.loc,I.cell,?_,fun x c e=>?_,fun p hp=>?_,fun b o e=>?_,I.len⟩
 ·rw [a9 (neN b (I.base.free b o e n hx))];exact I.base.free b o e n hx
 ·have q:=I.base.tups b xs e
  rw [a9 (neH b _ q (fun _ _ z=>nomatch z))];exact q
 ·have q:=I.base.frzs b o x e
  rw [a9 (fun z=>by rw [z] at e;exact hn _ _ e)];exact q
 ·obtain ⟨m,q⟩:=I.base.tbls b ps e
  exact ⟨m,by rw [a9 (neH b _ q (fun _ _ z=>nomatch z))];exact q⟩
 ·rw [a9 (neN _ I.free)];exact I.free
 ·rw [a9 (neN c (I.freeC x c e))];exact I.freeC x c e
 ·obtain ⟨e,n,r⟩:=I.pin p hp
  exact ⟨e,by rw [a9 (neN _ n)];exact n,r⟩
 ·by_cases hb:b=d
  ·rw [hb,c8] at e
   cases e
   rw [hb]
   obtain ⟨_,x⟩:=I.hok d _ h
   exact x.stay (fun c v _ q=>q) (fun c q=>by rw [a9 (neH c _ q (fun _ _ z=>nomatch z))];exact q) fun c xs q=>by rw [a9 (neH c _ q (fun _ _ z=>nomatch z))];exact q
  ·rw [a9 hb] at e
   exact (I.hok b o e).stay (fun c v _ q=>q) (fun c q=>by rw [a9 (neH c _ q (fun _ _ z=>nomatch z))];exact q) fun c xs q=>by rw [a9 (neH c _ q (fun _ _ z=>nomatch z))];exact q
end
def xT (t:TS):TS:=fun D σ H=>∃d u,H d=some u∧O5 (some u)∧∀od,t ⟨fun σ' H'=>H' d=some (.frz od u)∧D.nx σ' (a8 H' d u),fun v H'=>H' d=some (.frz od u)∧D.rt v (a8 H' d u),fun σ' H'=>H' d=some (.frz od u)∧D.bk σ' (a8 H' d u),fun σ' H'=>H' d=some (.frz od u)∧D.ct σ' (a8 H' d u)⟩ σ (a8 H d (.frz od u))
section
variable {X:Cx}
theorem mW {st:Stmt} {t:TS} (h:PS X st t):PS X st (xT t):=by
 intro pins s σ H D I hw
 obtain ⟨d,u,hd,mu,hw⟩:=hw
 obtain ⟨od,I1⟩:=I.lock hd mu
 refine g6 (h pins s σ _ _ I1 (hw od)) fun f s1 q=>?_
 cases f with
 | next=>obtain ⟨σ',H',I2,e,q⟩:=q;exact ⟨σ',_,I2.unlock e (I.nofrz hd mu),q⟩
 | brk=>obtain ⟨σ',H',I2,e,q⟩:=q;exact ⟨σ',_,I2.unlock e (I.nofrz hd mu),q⟩
 | cont=>obtain ⟨σ',H',I2,e,q⟩:=q;exact ⟨σ',_,I2.unlock e (I.nofrz hd mu),q⟩
 | ret v=>obtain ⟨x,σ',H',I2,r,e,q⟩:=q;exact ⟨x,σ',_,I2.unlock e (I.nofrz hd mu),r,q⟩
theorem nQ {tg:Expr} {pins:List (Addr×Obj)} {σ:St} {H:Hp} {s:Shared} {R:It→Hp→Prop} {J:It} {tn:Nat→Heap→Prop} {tk:Nat} (I:Inv X pins σ H s) (o:Obj)
  (T:N3 X.prog X.w X.K tg J [s.heap.objs.size] s.heap.objs.size tn) (st:tn 0 (s.heap.push o)) (q:R J H):cS X pins σ tg R (.ref s.heap.objs.size) { s with heap:=s.heap.push o,toks:=tk }:=by
 refine ⟨s.heap.objs.size,[s.heap.objs.size],tn,J,H,rfl,I.kept fun b ob e=>Heap.get?_push_of_some _ e,T,st,fun b hb=>?_,q⟩
 have e:b=s.heap.objs.size:=by simpa using hb
 subst e
 exact I.fpOk (Nat.le_refl _) (I.hok.fresh (Nat.le_refl _))
end
def V3 (K:PySem.W.Frag) (a:Addr) (n:Nat):It:=
 ⟨fun i H=>i < n∧∃(xs:List V) (x:V),SqL K H a xs∧xs[n - 1 - i]?=some x,fun i H x H'=>H'=H∧∀xs,SqL K H a xs→xs[n - 1 - i]?=some x,fun i _=>n≤i⟩
theorem Ab {P:Program} {w:World} {K:PySem.W.Frag} {tg:Expr} (a it:Addr) (n:Nat):N3 P w K tg (V3 K a n) [it] it (fun i h=>i≤n∧h.IsRevIter it a ((n:Int) - 1 - (i:Nat))) where
 mem:=by simp
 obj:=fun i h st b hb=>by
  have e:b=it:=by simpa using hb
  subst e
  obtain ⟨_,o,e,c,d⟩:=st
  exact ⟨o,e,fun v z=>by rw [d] at z;cases z⟩
 keep:=fun i h h' st k=>⟨st.1,st.2.at fun o e=>k it (by simp) o e⟩
 item:=by
  intro X hP hw hK hc i pins s σ H E I hf st hg
  subst hP hw hK
  obtain ⟨hin,xs,x,hq,hx⟩:=hg
  obtain ⟨its,rv,p,hz⟩:=I.list hq
  obtain ⟨u,hu,ru⟩:=rv.get hx
  obtain ⟨f0,f1,f2,f3,f4,f5⟩:=hf it (by simp)
  obtain ⟨_,hit⟩:=st
  have e1:(n:Int) - 1 - ((i:Nat):Int)=((n - 1 - i:Nat):Int):=by omega
  rw [e1] at hit
  refine wpAny_pyNext_rev_item hit p.isList (x:=u) (by simpa using hu) fun h' st' sb=>?_
  have e2:((n - 1 - i:Nat):Int) - 1=(n:Int) - 1 - ((i+1:Nat):Int):=by omega
  rw [e2] at st'
  have I1:Inv X pins σ H { s with heap:=h' }:=I.turned (t':=s.toks) (fun b o hb e=>(sb.2 b hb).trans e) f0 f1 f3 f4 f5
  obtain ⟨o,e,c,d⟩:=id st'
  exact ⟨u,rfl,bO (s:={ s with heap:=h' }) e c d (by decide) ⟨x,H,I1,ru,⟨rfl,fun ys hy=>by rw [I.list_inj hy hq];exact hx⟩,⟨hin,st'⟩,fun b hb=>(hf b hb).1⟩⟩
 done:=by
  intro X hP hw hK hc i pins s σ H E I hf st hg
  subst hP hw hK
  obtain ⟨f0,f1,f2,f3,f4,f5⟩:=hf it (by simp)
  obtain ⟨hin,hit⟩:=st
  have hge:n≤i:=hg
  have e1:(n:Int) - 1 - ((i:Nat):Int)=-1:=by omega
  rw [e1] at hit
  exact wpAny_pyNext_rev_end (I.ok.hd hc) hit fun h' eb=>⟨rfl,I.turned (t':=s.toks) (fun b o hb e=>eb b o hb e) f0 f1 f3 f4 f5⟩
 self:=fun A i s Q E st h=>wpAny_pyIter_revIter st.2 h
def vW (K:PySem.W.Frag) (ta:TA):TI:=fun σ H R=>ta σ H fun vs H1=>∃(a:Addr) (xs:List V),vs=[.ref a]∧SqL K H1 a xs∧R (V3 K a xs.length) H1
section
variable {X:Cx} {tg:Expr}
theorem EL {e:Expr} {ta:TA} {p pos:Pos} (hg:Gl X "reversed") (hm:X.mg "reversed"=none) (ha:PA X [e] ta) (hs:starEach [e] X.env=[(false,eval e X.env)]:=by rfl):PI X tg (.Call (.Name "reversed" p) [e] [] pos) (vW X.K ta):=by
 intro pins s σ H R I h
 refine Call_ (R8 I hg hm xC (PyProof.Rows.callWith_type1 (g6 (ha pos pins s σ H _ I h) fun us s1 ⟨vs,H1,I1,r1,q1⟩=>?_) hs rfl))
 obtain ⟨a,xs,e,hq,q⟩:=q1
 subst e
 cases r1 with
 | cons r rr=>
  cases rr
  cases r
  obtain ⟨its,rv,p',hz⟩:=I1.list hq
  have hl:=rv.length
  have e1:((its.toArray.size:Nat):Int) - 1=(xs.length:Int) - 1 - ((0:Nat):Int):=by simp only [List.size_toArray];omega
  refine call_reversed_list p'.isList (wpAny_pyIter_revIter (l:=a) (i:=((its.toArray.size:Nat):Int) - 1) ⟨_,Heap.get?_push_size _ rfl,rfl,rfl⟩ ?_)
  refine nQ (tk:=s1.toks) I1 _ (Ab a _ xs.length) ⟨Nat.zero_le _,?_⟩ q
  rw [←e1]
  exact ⟨_,Heap.get?_push_size _ rfl,rfl,rfl⟩
end
theorem DU {κ:Type} {kvs:List (κ×V)} {vs:List (κ×Value)} (h:KV kvs vs):∀{i:Nat} {k:κ} {v:V},kvs[i]?=some (k,v)→∃u,vs[i]?=some (k,u)∧RelV v u:=by
 unfold KV at h
 induction h with
 | nil=>intro i k v e;simp at e
 | @cons a b l₁ l₂ r t ih=>
  intro i k v e
  cases i with
  | zero=>
   simp only [List.getElem?_cons_zero,Option.some.injEq] at e
   subst e
   refine ⟨b.2,?_,r.2⟩
   simp only [List.getElem?_cons_zero]
   exact congrArg some (Prod.ext r.1.symm rfl)
  | succ j=>
   simp only [List.getElem?_cons_succ] at e ⊢
   exact ih e
theorem relV_key {k:d9} {u:Value} (h:O7 k u=true):RelV (kV k) u:=by
 rcases K7 h with ⟨i,t,rfl,rfl⟩|⟨x,t,rfl,rfl⟩
 ·exact ⟨t,rfl⟩
 ·exact ⟨t,rfl⟩
section
variable {X:Cx} {pins:List (Addr×Obj)} {σ:St} {H:Hp} {s:Shared} {d:Addr} {o:Obj}
theorem Inv.frzK {kvs:List (d9×V)} (I:Inv X pins σ H s) (h:H d=some (.frz o (.dK kvs))) :
  (d==sysModules)=false∧s.heap.get? d=some o∧o.ExactDict∧∃(es:Array DictEntry) (ep:Nat) (vs:List (d9×Value)),o.data=.dict es ep∧es.size=kvs.length∧KV kvs vs∧s.heap.DictAt (p6 X.prog X.w) d vs ep:=by
 obtain ⟨hd,z,hs,vs,kv,o',es,ep,ho,hx,hdt,r⟩:=I.hok d _ h
 rw [hd] at ho
 cases ho
 refine ⟨hs,hd,hx,es,ep,vs,hdt,?_,kv,o,es,hd,hx,hdt,r⟩
 have l1:=r.2.1.length
 have l2:kvs.length=vs.length:=Paired.length kv
 rw [Array.length_toList] at l1
 omega
end
def V2 (d:Addr) (o:Obj) (kvs:List (d9×V)):It:=
 ⟨fun i H=>H d=some (.frz o (.dK kvs))∧i < kvs.length,fun i H x H'=>∃T k v,kvs[i]?=some (k,v)∧x=.ref T∧H T=none∧H'=a8 H T (.tup [kV k,v]),fun i H=>H d=some (.frz o (.dK kvs))∧kvs.length≤i⟩
theorem nO {o:Obj} {es es':Array DictEntry} {ep ep':Nat} (h:o.data=.dict es ep) (h':o.data=.dict es' ep'):es'=es∧ep'=ep:=by
 rw [h] at h'
 cases h'
 exact ⟨rfl,rfl⟩
section
variable {P:Program} {w:World} {K:PySem.W.Frag} {tg:Expr} {d:Addr} {o:Obj} {es:Array DictEntry} {ep:Nat}
theorem xM {kvs:List (d9×V)} {elts:List Expr} {kk:Nat} {tpos:Pos} (it:Addr) (hod:o.data=.dict es ep) :
  N3 P w K (.Tuple elts kk tpos) (V2 d o kvs) [it] it (fun i h=>∃ok ov,IsItemIter h it d i kvs.length ep ok ov) where
 mem:=by simp
 obj:=fun i h st b hb=>by
  have e:b=it:=by simpa using hb
  subst e
  obtain ⟨ok,ov,e⟩:=st
  exact ⟨_,e,fun v z=>nomatch z⟩
 keep:=fun i h h' st k=>let ⟨ok,ov,e⟩:=st;⟨ok,ov,k it (by simp) _ e⟩
 item:=by
  intro X hP hw hK hc i pins s σ H E I hf st hg
  subst hP hw hK
  obtain ⟨hd,hi⟩:=hg
  obtain ⟨hs,hgd,hx,es',ep',vs,hdt,hsz,kv,hm⟩:=I.frzK hd
  obtain ⟨rfl,rfl⟩:=nO hod hdt
  obtain ⟨⟨k,v⟩,hkv⟩:∃p,kvs[i]?=some p:=⟨kvs[i],List.getElem?_eq_getElem hi⟩
  obtain ⟨u,hu,ru⟩:=DU kv hkv
  have hl:kvs.length=vs.length:=Paired.length kv
  obtain ⟨ok,ov,he⟩:=st
  rw [hl] at he
  have hlt:it < s.heap.objs.size:=Heap.lt_size he
  refine wpAny_pyNext_items_item he hm hu fun key h' hkey ho hT hz hk=>?_
  refine ⟨_,rfl,wpAny_letOwnedTupleGo_items (s:={ s with heap:=h' }) ho fun h'' he' sb=>?_⟩
  have hT2:h''.get? s.heap.objs.size=some { cls:=.type "tuple",data:=.seq #[key,u] }:=(sb.2 _ (Nat.ne_of_gt hlt)).trans hT
  have new:ObjOk X.prog X.w (a8 H s.heap.objs.size (.tup [kV k,v])) h'' s.heap.objs.size (.tup [kV k,v]):=
   ⟨by show 2≤sizeLine;decide,[key,u],.cons (relV_key (show O7 k key=true from hkey)) (.cons ru .nil),⟨_,hT2,rfl,_,rfl⟩⟩
  have I1:Inv X pins σ (a8 H s.heap.objs.size (.tup [kV k,v])) { s with heap:=h'' }:=
   I.turnedNew (t':=s.toks) (ch:=[it]) (fun b ob hb e=>(sb.2 b (by simpa using hb)).trans (hk b ob (by simpa using hb) e)) hf (Nat.le_refl _) new
  refine ⟨.ref s.heap.objs.size,_,I1,rfl,⟨_,k,v,hkv,rfl,I.hok.fresh (Nat.le_refl _),rfl⟩,⟨key,u,?_⟩,fun b hb=>?_⟩
  ·rw [hl];exact he'
  ·have e:b=it:=by simpa using hb
   rw [e,a9 (Nat.ne_of_lt hlt)]
   exact (hf it (by simp)).1
 done:=by
  intro X hP hw hK hc i pins s σ H E I hf st hg
  subst hP hw hK
  obtain ⟨hd,hi⟩:=hg
  obtain ⟨f0,f1,f2,f3,f4,f5⟩:=hf it (by simp)
  obtain ⟨hs,hgd,hx,es',ep',vs,hdt,hsz,kv,hm⟩:=I.frzK hd
  obtain ⟨rfl,rfl⟩:=nO hod hdt
  have hl:kvs.length=vs.length:=Paired.length kv
  obtain ⟨ok,ov,he⟩:=st
  rw [hl] at he
  exact wpAny_pyNext_items_end (I.ok.hd hc) he hm (List.getElem?_eq_none (by omega)) fun h' eb=>⟨rfl,I.turned (t':=s.toks) (fun b ob hb e=>eb b ob hb e) f0 f1 f3 f4 f5⟩
 self:=fun A i s Q E st h=>let ⟨_,_,e⟩:=st;PySem.W.kcp_self e h
end
def zR (td:TE):TI:=fun σ H R=>td σ H fun x H1=>∃d o kvs,x=.ref d∧H1 d=some (.frz o (.dK kvs))∧R (V2 d o kvs) H1
section
variable {X:Cx} {tg e:Expr} {td:TE} {apos cpos:Pos}
theorem nS {elts:List Expr} {kk:Nat} {tpos:Pos} (he:PE X e td) (hbase:attributeBase e "items" X.env (eval e X.env)=eval e X.env:=by rfl) (hline:(apos.endLine==cpos.line)=true:=by rfl) :
  PI X (.Tuple elts kk tpos) (.Call (.Attribute e "items" apos) [] [] cpos) (zR td):=by
 intro pins s σ H R I h
 refine wpAny_Call_method (T:="dict") (id:="dict.items") hbase rfl hline F.plainAttrs_dict F.slot_dict_items F.type_dict_items (g6 (he pins s σ H _ I h) fun u s1 ⟨x,H1,I1,rx,d,o,kvs,ex,hd,q⟩=>?_)
 subst ex
 obtain rfl:u=Value.ref d:=rx
 obtain ⟨hs,hgd,hx,es,ep,vs,hdt,hsz,kv,hm⟩:=I1.frzK hd
 have hl:kvs.length=vs.length:=Paired.length kv
 refine ⟨hm.dictOf.typeIs,hm.dictOf.mapOf.noDict,?_⟩
 have I2:Inv X pins σ H1 { s1 with heap:=s1.heap.push { cls:=.type "dict_items",data:=.fields #[.ref d] } }:=I1.kept (t':=s1.toks) fun b ob q=>Heap.get?_push_of_some _ q
 have fin:wpAny (model X.prog X.w) X.A (pyIter (.ref s1.heap.objs.size)) (cS X pins σ (.Tuple elts kk tpos) R) X.xe { s1 with heap:=s1.heap.push { cls:=.type "dict_items",data:=.fields #[.ref d] } }:=by
  refine wpAny_pyIter_items (d:=d) (knd:=p6 X.prog X.w) ⟨_,Heap.get?_push_size _ rfl,rfl,rfl⟩ (hm.push _) (nQ (tk:=s1.toks) I2 _ (xM _ hdt) ⟨.none,.none,?_⟩ q)
  rw [hl]
  exact Heap.get?_push_size _ rfl
 show wpAny _ _ (callWith cpos (.builtin "dict.items") [.ref d] [] []) _ X.xe s1
 exact method_meetsIn F.slot_dict_items F.entry_dict_items rfl (PySem.evalArgs_none ⟨rfl,hm.dictOf.typeIs,F.args_dict_items_1 _,_,meets_dict_items (p6 X.prog X.w) d hs,⟨vs,hm.dictOf⟩,fin⟩)
end
def Z1 (K:PySem.W.Frag) (a:Addr):It:=
 ⟨fun i H=>∃(xs:List V) (x:V),SqL K H a xs∧xs[i]?=some x,fun i H v H'=>∃T x,v=.ref T∧H T=none∧H'=a8 H T (.tup [.int (i:Nat),x])∧∀xs,SqL K H a xs→xs[i]?=some x,fun i H=>∃xs:List V,SqL K H a xs∧xs.length≤i⟩
theorem BZ {P:Program} {w:World} {K:PySem.W.Frag} {elts:List Expr} {kk:Nat} {tpos:Pos} (a e it:Addr) :
  N3 P w K (.Tuple elts kk tpos) (Z1 K a) [e,it] e (fun i h=>(∃old,IsEnum h e it ((i:Nat):Int) old)∧h.IsListIter it a i∧e≠it) where
 mem:=by simp
 obj:=fun i h st b hb=>by
  obtain ⟨⟨old,he⟩,⟨o,ho,hc,hd⟩,_⟩:=st
  have e':b=e∨b=it:=by simpa using hb
  rcases e' with z|z
  ·rw [z];exact ⟨_,he,fun v q=>nomatch q⟩
  ·rw [z];exact ⟨o,ho,fun v q=>by rw [hd] at q;cases q⟩
 keep:=fun i h h' st k=>let ⟨⟨old,he⟩,hi,hne⟩:=st;⟨⟨old,k e (by simp) _ he⟩,hi.at fun o q=>k it (by simp) o q,hne⟩
 item:=by
  intro X hP hw hK hc i pins s σ H E I hf st hg
  subst hP hw hK
  obtain ⟨⟨old,he⟩,hit,hne⟩:=st
  obtain ⟨xs,x,hq,hx⟩:=hg
  obtain ⟨its,rv,p,hz⟩:=I.list hq
  obtain ⟨u,hu,ru⟩:=rv.get hx
  have hel:e < s.heap.objs.size:=Heap.lt_size he
  have hil:it < s.heap.objs.size:=by obtain ⟨_,q,_⟩:=hit;exact Heap.lt_size q
  refine wpAny_pyNext_enum_item he hit p.isList (x:=u) (by simpa using hu) hne fun h' ho hit' hT hsz hk=>?_
  refine ⟨_,rfl,wpAny_letOwnedTupleGo_enum (s:={ s with heap:=h',toks:=s.toks+1 }) ho fun h'' he' sb=>?_⟩
  have hT2:h''.get? s.heap.objs.size=some { cls:=.type "tuple",data:=.seq #[.int i s.toks,u] }:=(sb.2 _ (Nat.ne_of_gt hel)).trans hT
  have new:ObjOk X.prog X.w (a8 H s.heap.objs.size (.tup [.int (i:Nat),x])) h'' s.heap.objs.size (.tup [.int (i:Nat),x]):=
   ⟨by show 2≤sizeLine;decide,[.int i s.toks,u],.cons ⟨_,rfl⟩ (.cons ru .nil),⟨_,hT2,rfl,_,rfl⟩⟩
  have I1:Inv X pins σ (a8 H s.heap.objs.size (.tup [.int (i:Nat),x])) { s with heap:=h'',toks:=s.toks+1 }:=
   I.turnedNew (ch:=[e,it]) (fun b ob hb q=>(sb.2 b (fun z=>hb (by simp [z]))).trans (hk b ob (fun z=>hb (by simp [z])) (fun z=>hb (by simp [z])) q)) hf (Nat.le_refl _) new
  refine ⟨.ref s.heap.objs.size,_,I1,rfl,⟨_,x,rfl,I.hok.fresh (Nat.le_refl _),rfl,fun ys hy=>by rw [I.list_inj hy hq];exact hx⟩,⟨⟨u,?_⟩,hit'.at fun o q=>(sb.2 it (Ne.symm hne)).trans q,hne⟩,fun b hb=>?_⟩
  ·have e1:((i+1:Nat):Int)=(i:Int)+1:=by omega
   rw [e1];exact he'
  ·have hb':b < s.heap.objs.size:=by
    have e':b=e∨b=it:=by simpa using hb
    rcases e' with z|z
    ·rw [z];exact hel
    ·rw [z];exact hil
   rw [a9 (Nat.ne_of_lt hb')]
   exact (hf b hb).1
 done:=by
  intro X hP hw hK hc i pins s σ H E I hf st hg
  subst hP hw hK
  obtain ⟨⟨old,he⟩,hit,hne⟩:=st
  obtain ⟨xs,hq,hx⟩:=hg
  obtain ⟨its,rv,p,hz⟩:=I.list hq
  obtain ⟨f0,f1,f2,f3,f4,f5⟩:=hf it (by simp)
  have hl:=rv.length
  exact wpAny_pyNext_enum_end (I.ok.hd hc) he hit p.isList (by simp;omega) fun h' eb=>⟨rfl,I.turned (t':=s.toks) (fun b o hb q=>eb b o hb q) f0 f1 f3 f4 f5⟩
 self:=fun A i s Q E st h=>let ⟨⟨_,he⟩,_⟩:=st;wpAny_pyIter_enum he h
def DQ (K:PySem.W.Frag) (ta:TA):TI:=fun σ H R=>ta σ H fun vs H1=>∃a xs,vs=[.ref a]∧SqL K H1 a xs∧R (Z1 K a) H1
theorem mH {X:Cx} {e:Expr} {ta:TA} {p pos tpos:Pos} {elts:List Expr} {kk:Nat} (hg:Gl X "enumerate") (hm:X.mg "enumerate"=none) (ha:PA X [e] ta) (hs:starEach [e] X.env=[(false,eval e X.env)]:=by rfl) :
  PI X (.Tuple elts kk tpos) (.Call (.Name "enumerate" p) [e] [] pos) (DQ X.K ta):=by
 intro pins s σ H R I h
 refine Call_ (R8 I hg hm boot_enumerate (PyProof.Rows.callWith_type1 (g6 (ha pos pins s σ H _ I h) fun us s1 ⟨vs,H1,I1,r1,q1⟩=>?_) hs rfl))
 obtain ⟨a,xs,ex,hq,q⟩:=q1
 subst ex
 cases r1 with
 | cons r rr=>
  cases rr
  cases r
  obtain ⟨its,rv,p',hz⟩:=I1.list hq
  refine call_enumerate_list p'.isList fun h' he hit hsz hk=>wpAny_pyIter_enum he ?_
  have I2:Inv X pins σ H1 { s1 with heap:=h' }:=I1.kept (t':=s1.toks) hk
  refine ⟨s1.heap.objs.size+1,[s1.heap.objs.size+1,s1.heap.objs.size],_,_,H1,rfl,I2,BZ a (s1.heap.objs.size+1) s1.heap.objs.size,⟨⟨.none,he⟩,hit,Nat.succ_ne_self _⟩,fun b hb=>?_,q⟩
  have e':b=s1.heap.objs.size+1∨b=s1.heap.objs.size:=by simpa using hb
  have hle:s1.heap.objs.size≤b:=by
   rcases e' with z|z
   ·rw [z];exact Nat.le_add_right _ _
   ·rw [z];exact Nat.le_refl _
  exact I1.fpOk hle (I1.hok.fresh hle)
theorem uA:bootBuiltins "zip"=some (.type "zip"):=by rfl'
end L2
section
namespace Bits
open PySem PyProof.Rows
theorem nat_xor_add_and (m:Nat):∀n:Nat,(m ^^^ n)+2*(m &&& n)=m+n:=by
 induction m using Nat.strongRecOn with
 | _ m ih=>
  intro n
  by_cases h0:m=0
  ·subst h0
   simp
  ·have ih':=ih (m / 2) (by omega) (n / 2)
   rw [←Nat.xor_div_two,←Nat.and_div_two] at ih'
   have o1:=@Nat.xor_mod_two_eq_one m n
   have a1:=@Nat.and_mod_two_eq_one m n
   rcases Nat.mod_two_eq_zero_or_one m with p|p<;>rcases Nat.mod_two_eq_zero_or_one n with q|q<;>rw [p,q] at o1 a1<;>omega
theorem bitXor_pp {x y:Int} (hx:0≤x) (hy:0≤y):Builtin.bitXor x y=((x.toNat ^^^ y.toNat:Nat):Int):=by
 have e:=nat_xor_add_and x.toNat y.toNat
 rw [bitXor_and,bitAnd_pp hx hy]
 omega
theorem bitOr_pp {x y:Int} (hx:0≤x) (hy:0≤y):Builtin.bitOr x y=((x.toNat ||| y.toNat:Nat):Int):=by
 have e:=nat_or_add_and x.toNat y.toNat
 rw [bitOr_and,bitAnd_pp hx hy]
 omega
end Bits
end
namespace L2
open PySem PySem.Spec PyProof.Rows
def y9 (s:Stmt) (j:Nat):Stmt:=match s with
 | .ClassDef _ _ _ body _ _ _ _ _ _ _=>body.getD j (.Pass ⟨0,0,0,0⟩)
 | _=>.Pass ⟨0,0,0,0⟩
def L8 (s:Stmt):Arguments:=match s with
 | .FunctionDef _ a _ _ _ _ _ _ _ _=>a
 | _=>{ posonlyargs:=[],args:=[],vararg:=none,kwonlyargs:=[],kw_defaults:=[],kwarg:=none,defaults:=[] }
def E2 (s:Stmt):List Stmt:=match s with
 | .FunctionDef _ _ b _ _ _ _ _ _ _=>b
 | _=>[]
def k9 (s:Stmt):Scope:=match s with
 | .FunctionDef _ _ _ _ _ _ sc _ _ _=>sc
 | _=>{ kind:=.function,names:=[],isGenerator:=false,isCoroutine:=false }
abbrev x8:K8:=fun _ _ _ _ _ _=>False
abbrev E0:XK:=fun _ _ _=>False
theorem X2 {X:Cx}:O8 x8 X E0:=fun _ _ _ _ _ _ _ h=>h.elim
structure Fun (K:PySem.W.Frag) (x qual:Str) (st:Stmt) (f:Addr) (fd:FuncData):Prop where
 ex:∃(oc:Value) (od:Option Addr) (kV doc pm:Value) (an:Option Addr) (cdv ct:Value) (osl:Array (Option Value)),
  fd=PySem.W.fnOf x qual (L8 st) (E2 st) (k9 st) .none kV doc pm an cdv ct∧K.lookup f=some ⟨oc,od,.func fd,osl⟩∧PySem.W.codeIn K cdv qual=true
 kp:PySem.W.keepIn K (.ref f)=true
section
variable {P:Program} {w:World} {K:PySem.W.Frag} {mg:Str→Option Value} {base:Heap}
theorem Fun.ok {x qual:Str} {st:Stmt} {f:Addr} {fd:FuncData} {N ps:List Str} {k:Nat} {sp:Sp} (F:Fun K x qual st f fd) (S:N0 N ps (k9 st)) (len:∀vs H Q E,sp vs H Q E→vs.length=ps.length)
  (hbody:∀(cdv:Value) (A:Around) (outer:List Env) (s:Shared) (H:Hp) (vs:List V) (Q:VK) (E:XK),Room k (A.deeper (envOfC qual (k9 st) s.heap.objs.size f cdv))→sp vs H Q E→
   ∃t,PSs (F7 x8 P w K mg base N qual (k9 st) f cdv A outer s H E).nox (E2 st) t∧t { nx:=fun _ H'=>Q .non H',rt:=Q } (start N vs) H):C9 P w K mg base x8 (k+1) f fd ps sp:=by
 obtain ⟨oc,od,kV,doc,pm,an,cdv,ct,osl,rfl,lk,hcd⟩:=F.ex
 refine EI lk hcd S len fun A outer s H vs Q E hr hsp=>?_
 obtain ⟨t,h,q⟩:=hbody cdv A outer s H vs Q E hr hsp
 exact ⟨t,h.nox,q⟩
theorem Fun.binds {x qual:Str} {st:Stmt} {f:Addr} {fd:FuncData} {ps:List Str} (F:Fun K x qual st f fd)
  (h:∀(kV doc pm:Value) (an:Option Addr) (cdv ct:Value) (us:List Value),us.length=ps.length→bindArgs (PySem.W.fnOf x qual (L8 st) (E2 st) (k9 st) .none kV doc pm an cdv ct) ⟨us,[]⟩=pure (ps.zip us)):Binds K fd ps []:=by
 obtain ⟨oc,od,kV,doc,pm,an,cdv,ct,osl,rfl,lk,hcd⟩:=F.ex
 exact .all (h kV doc pm an cdv ct)
theorem M5 {x qual:Str} {st:Stmt} {f:Addr} {oc:Value} {od an:Option Addr} {osl:Array (Option Value)} {kV doc pm cdv ct:Value} (l:K.lookup f=some ⟨oc,od,.func (PySem.W.fnOf x qual (L8 st) (E2 st) (k9 st) .none kV doc pm an cdv ct),osl⟩)
  (c:PySem.W.codeIn K cdv qual=true) (k:PySem.W.keepIn K (.ref f)=true):Fun K x qual st f (PySem.W.fnOf x qual (L8 st) (E2 st) (k9 st) .none kV doc pm an cdv ct):=⟨⟨oc,od,kV,doc,pm,an,cdv,ct,osl,rfl,l,c⟩,k⟩
end
theorem p7 {A:Around} {k:Nat} (hr:Room k A):A.units+1 < cLine:=Nat.lt_of_le_of_lt (Nat.add_le_add_left (by decide:1≤64) _) hr.units
section
variable {X:Cx}
theorem pv (i:Nat) {x:Str} {pos:Pos} (hN:X.N[i]?=some x:=by rfl) (hv:T6 X.env.scope x:=by first | exact Or.inl rfl|exact Or.inr (Or.inl rfl)|exact Or.inr (Or.inr rfl)) (hd:(x==("__debug__":Str))=false:=by decide)
  (hcd:(x==("__classdict__":Str))=false:=by decide):PE X (.Name x pos) (z9 i):=wE hN hv hd hcd
end
theorem k4 {A B:Prop} (h:B):if false=true then A else B:=by
 rw [if_neg Bool.false_ne_true]
 exact h
theorem k8 {A B:Prop} (h:A):if true=true then A else B:=by
 rw [if_pos rfl]
 exact h
theorem t0 {c A B:Prop} [Decidable c] (h1:c→A) (h2:¬c→B):if c then A else B:=by
 by_cases h:c
 ·rw [if_pos h]
  exact h1 h
 ·rw [if_neg h]
  exact h2 h
theorem rM {c A B:Prop} [Decidable c] (hc:c) (h:B):if (!decide c)=true then A else B:=by
 rw [decide_eq_true hc]
 exact k4 h
def Same (H H':Hp):Prop:=∀b o,H b=some o→H' b=some o
theorem Same.refl (H:Hp):Same H H:=fun _ _ h=>h
theorem Same.trans {H H1 H2:Hp} (a:Same H H1) (b:Same H1 H2):Same H H2:=fun c o h=>b c o (a c o h)
theorem Same.free {H H':Hp} (e:Same H H') {l:Addr} (h:H' l=Option.none):H l=Option.none:=by
 cases q:H l with
 | none=>rfl
 | some o=>
  rw [e l o q] at h
  cases h
theorem Same.seq {K:PySem.W.Frag} {H H':Hp} {a:Addr} {xs:List V} (e:Same H H') (h:SqL K H a xs):SqL K H' a xs:=by
 rcases h with (h|⟨o,h⟩)|h
 ·exact .inl (.inl (e _ _ h))
 ·exact .inl (.inr ⟨o,e _ _ h⟩)
 ·exact .inr h
section
variable {κ:Type} [DecidableEq κ]
theorem oK {kvs:List (κ×V)} {k:κ} (h:i7 kvs k=none):¬k∈kvs.map (·.1):=by
 intro m
 obtain ⟨p,hp,e⟩:=List.mem_map.mp m
 have q:(kvs.any fun kv=>decide (kv.1=k))=true:=List.any_eq_true.mpr ⟨p,hp,decide_eq_true e⟩
 rw [P8,h] at q
 exact absurd q (by simp)
theorem hU {kvs:List (κ×V)} {k:κ} {v:V} (h:i7 kvs k=some v):k∈kvs.map (·.1):=by
 have q:(kvs.any fun kv=>decide (kv.1=k))=true:=by
  rw [P8,h]
  all_goals rfl
 obtain ⟨p,hp,e⟩:=List.any_eq_true.mp q
 exact List.mem_map.mpr ⟨p,hp,of_decide_eq_true e⟩
end
end L2
section
namespace L2
open PySem PySem.Spec PyProof.Rows
open PySem.W (WData Codec OpenSpec Well WellAll ReadsW ReadsAllW)
mutual
inductive Dw (K:PySem.W.Frag) (H:Hp):V→WData→Prop
 | non:Dw K H .non .none
 | bl (b:Bool):Dw K H (.bl b) (.bool b)
 | int (i:Int):Dw K H (.int i) (.int i)
 | str (x:Str):Dw K H (.str x) (.str x)
 | byt (b:Array UInt8):Dw K H (.byt b) (.bytes b.toList)
 | lst {a:Addr} {xs:List V} {ds:List WData}:SqL K H a xs→DwAll K H xs ds→Dw K H (.ref a) (.list ds)
 | tup {a:Addr} {xs:List V} {ds:List WData}:SqT K H a xs→DwAll K H xs ds→Dw K H (.ref a) (.tuple ds)
inductive DwAll (K:PySem.W.Frag) (H:Hp):List V→List WData→Prop
 | nil:DwAll K H [] []
 | cons {v:V} {vs:List V} {d:WData} {ds:List WData}:Dw K H v d→DwAll K H vs ds→DwAll K H (v::vs) (d::ds)
end
theorem dw_ints {K:PySem.W.Frag} {H:Hp}:∀ns:List Int,DwAll K H (ns.map V.int) (ns.map WData.int)
 | []=>.nil
 | n::r=>.cons (.int n) (dw_ints r)
theorem ints_dw {K:PySem.W.Frag} {H:Hp}:∀(ns:List Int) (xs:List V),DwAll K H xs (ns.map WData.int)→xs=ns.map V.int
 | [],xs,h=>by
  cases h
  rfl
 | n::r,xs,h=>by
  cases h with
  | cons h1 h2=>
   cases h1
   rw [ints_dw r _ h2]<;>rfl
section
variable {P:Program} {w:World} {K:PySem.W.Frag} {H:Hp} {h:Heap} {R:PySem.W.WRecords} {cl:Str→Option Addr}
theorem CI {a:Addr} {xs:List V} (hok:HOk P w H h) (KX:K.In h) (q:SqL K H a xs):∃(its:List Value) (o:Obj) (n:Nat),Vals xs its∧h.get? a=some o∧o.cls=.type "list"∧o.data=.seq its.toArray n:=by
 rcases q with q|⟨o,its,n,e,hc,_,hd,_,hv⟩
 ·obtain ⟨_,its,n,hv,e⟩:=(show ObjOk P w H h a (.lst xs) from q.ok hok)
  exact ⟨its,_,n,hv,e,rfl,rfl⟩
 ·exact ⟨its.toList,o,n,hv,KX _ _ e,hc,by simp [hd]⟩
theorem Di {a:Addr} {xs:List V} (hok:HOk P w H h) (KX:K.In h) (q:SqT K H a xs):∃(its:List Value) (o:Obj) (n:Nat),Vals xs its∧h.get? a=some o∧o.cls=.type "tuple"∧o.data=.seq its.toArray n:=by
 rcases q with q|⟨o,its,n,e,hc,hd,_,hv⟩
 ·obtain ⟨_,its,hv,o,e,hc,n,hd⟩:=(show ObjOk P w H h a (.tup xs) from q.ok hok)
  exact ⟨its,o,n,hv,e,hc,hd⟩
 ·exact ⟨its.toList,o,n,hv,KX _ _ e,hc,by simp [hd]⟩
mutual
theorem Dw.reads (hok:HOk P w H h) (KX:K.In h):∀(d:WData) (v:V) (u:Value),Dw K H v d→RelV v u→∃as,ReadsW R cl h u d as
 | .none,_,_,x,r=>by
  cases x
  cases r
  exact ⟨_,ReadsW.none⟩
 | .bool b,_,_,x,r=>by
  cases x
  cases r
  exact ⟨_,ReadsW.bool b⟩
 | .int i,_,_,x,r=>by
  cases x
  obtain ⟨t,rfl⟩:=r
  exact ⟨_,ReadsW.int i t⟩
 | .str s,_,_,x,r=>by
  cases x
  obtain ⟨t,rfl⟩:=r
  exact ⟨_,ReadsW.str s t⟩
 | .bytes b,_,_,x,r=>by
  cases x
  obtain ⟨t,rfl⟩:=r
  exact ⟨_,ReadsW.bytes _ t⟩
 | .list ds,_,_,x,r=>by
  cases x with
  | lst hs ha=>
   cases r
   obtain ⟨its,o,n,rv,ho,hc,hd⟩:=CI hok KX hs
   obtain ⟨as,hr⟩:=Dw.readsAll hok KX ds _ its ha rv
   exact ⟨_,ReadsW.list ho hc hd hr⟩
 | .tuple ds,_,_,x,r=>by
  cases x with
  | tup hs ha=>
   cases r
   obtain ⟨its,o,n,rv,ho,hc,hd⟩:=Di hok KX hs
   obtain ⟨as,hr⟩:=Dw.readsAll hok KX ds _ its ha rv
   exact ⟨_,ReadsW.tuple ho hc hd hr⟩
 | .float _,_,_,x,_=>by cases x
 | .dict _,_,_,x,_=>by cases x
 | .bytearray _,_,_,x,_=>by cases x
 | .set _,_,_,x,_=>by cases x
 | .frozenset _,_,_,x,_=>by cases x
 | .obj _ _,_,_,x,_=>by cases x
theorem Dw.readsAll (hok:HOk P w H h) (KX:K.In h):∀(ds:List WData) (vs:List V) (us:List Value),DwAll K H vs ds→Vals vs us→∃as,ReadsAllW R cl h us ds as
 | [],_,_,x,r=>by
  cases x
  cases r
  exact ⟨_,ReadsAllW.nil⟩
 | d::ds,_,_,x,r=>by
  cases x with
  | cons h1 h2=>
   cases r with
   | cons r1 r2=>
    obtain ⟨as,q1⟩:=Dw.reads hok KX d _ _ h1 r1
    obtain ⟨bs,q2⟩:=Dw.readsAll hok KX ds _ _ h2 r2
    exact ⟨_,ReadsAllW.cons q1 q2⟩
end
end
mutual
def F9:WData→Bool
 | .none=>true
 | .bool _=>true
 | .int _=>true
 | .str _=>true
 | .bytes _=>true
 | .list xs=>G9 xs
 | .tuple xs=>G9 xs
 | _=>false
def G9:List WData→Bool
 | []=>true
 | x::r=>F9 x && G9 r
end
theorem lT {α:Type} {f:α→WData} (h:∀a,F9 (f a)=true):∀l:List α,G9 (l.map f)=true
 | []=>rfl
 | x::r=>by
  show (F9 (f x) && G9 (r.map f))=true
  rw [h x,lT h r]<;>rfl
theorem O4:∀(c:Codec) (a:c.denote),F9 (c.enc a)=true
 | .unit,_=>rfl
 | .bool,_=>rfl
 | .int _ _,_=>rfl
 | .nat _ _,_=>rfl
 | .u8,_=>rfl
 | .bytes _ _,_=>rfl
 | .text _ _ _ _,_=>rfl
 | .list _ _ c,a=>lT (fun x=>O4 c x) a
 | .pair c d,a=>by
  show (F9 (c.enc a.1) && (F9 (d.enc a.2) && true))=true
  rw [O4 c a.1,O4 d a.2]<;>rfl
 | .triple c d e,a=>by
  show (F9 (c.enc a.1) && (F9 (d.enc a.2.1) && (F9 (e.enc a.2.2) && true)))=true
  rw [O4 c a.1,O4 d a.2.1,O4 e a.2.2]<;>rfl
 | .option c,none=>rfl
 | .option c,some x=>O4 c x
theorem oG:∀(cs:List Codec) (a:Codec.denoteAll cs),G9 (Codec.encAll cs a)=true
 | [],_=>rfl
 | c::cs,a=>by
  show (F9 (c.enc a.1) && G9 (Codec.encAll cs a.2))=true
  rw [O4 c a.1,oG cs a.2]<;>rfl
theorem fI:∀{xs:List WData} {d:WData},d∈xs→d.weight≤WData.weightAll xs
 | [],d,h=>absurd h (by simp)
 | x::r,d,h=>by
  show d.weight≤x.weight+1+WData.weightAll r
  rcases List.mem_cons.mp h with e|m
  ·rw [e]
   omega
  ·have z:=fI m
   omega
def u4:Value→V
 | .none=>.non
 | .bool b=>.bl b
 | .int i _=>.int i
 | .str x _=>.str x
 | .bytes b _=>.byt b
 | .ref a=>.ref a
 | _=>.non
def OkU (A:List Addr):Value→Prop
 | .none=>True
 | .bool _=>True
 | .int _ _=>True
 | .str _ _=>True
 | .bytes _ _=>True
 | .ref a=>a∈A
 | _=>False
theorem OkU.mono {A B:List Addr} (h:∀a∈A,a∈B):∀{u:Value},OkU A u→OkU B u:=fun {u} x=>by
 cases u with
 | ref a=>exact h a x
 | none=>trivial
 | bool b=>trivial
 | int i t=>trivial
 | str s t=>trivial
 | bytes b t=>trivial
 | _=>exact False.elim x
theorem CU {A:List Addr} {u:Value} (x:OkU A u):RelV (u4 u) u:=by
 cases u with
 | ref a=>rfl
 | none=>rfl
 | bool b=>rfl
 | int i t=>exact ⟨t,rfl⟩
 | str s t=>exact ⟨t,rfl⟩
 | bytes b t=>exact ⟨t,rfl⟩
 | _=>exact False.elim x
theorem S7 {A:List Addr}:∀{vs:List Value},(∀u∈vs,OkU A u)→Vals (vs.map u4) vs
 | [],_=>.nil
 | u::r,h=>.cons (CU (h u (List.mem_cons_self ..))) (S7 fun x hx=>h x (List.mem_cons_of_mem _ hx))
def ArgOb (h:Heap) (A:List Addr) (a:Addr):Prop:=∃vs:List Value,vs.length≤sizeLine∧(∀u∈vs,OkU A u)∧
 (h.get? a=some { cls:=.type "list",data:=.seq vs.toArray }∨h.get? a=some { cls:=.type "tuple",data:=.seq vs.toArray })
theorem ArgOb.mono {h:Heap} {A B:List Addr} {a:Addr} (k:∀a∈A,a∈B) (x:ArgOb h A a):ArgOb h B a:=by
 obtain ⟨vs,h1,h2,h3⟩:=x
 exact ⟨vs,h1,fun u hu=>(h2 u hu).mono k,h3⟩
theorem cB {P:Params} {h:Heap}:∀{vs:List Value} {ds:List WData},WellAll P h vs ds→vs.length=ds.length
 | _,_,.nil=>rfl
 | _,_,.cons _ b=>by
  show _+1=_+1
  rw [cB b]
theorem nA {P:Params} {h:Heap} {v:Value} {ds:List WData} (x:Well P h v (.list ds)):∃(a:Addr) (vs:List Value),v=.ref a∧h.get? a=some { cls:=.type "list",data:=.seq vs.toArray }∧WellAll P h vs ds:=by
 cases x with
 | list ho hall=>exact ⟨_,_,rfl,ho,hall⟩
theorem kC {P:Params} {h:Heap} {v:Value} {ds:List WData} (x:Well P h v (.tuple ds)):∃(a:Addr) (vs:List Value),v=.ref a∧h.get? a=some { cls:=.type "tuple",data:=.seq vs.toArray }∧WellAll P h vs ds:=by
 cases x with
 | tuple ho hall=>exact ⟨_,_,rfl,ho,hall⟩
theorem oJ {P:Params} {h:Heap} {us:List Value} {d:WData} {ds:List WData} (x:WellAll P h us (d::ds)):∃(v:Value) (vs:List Value),us=v::vs∧Well P h v d∧WellAll P h vs ds:=by
 cases x with
 | cons a b=>exact ⟨_,_,rfl,a,b⟩
theorem lG {n:Nat} (h:n≤1048576):n≤sizeLine:=Nat.le_trans h (by decide)
section
variable {P:Params} {h:Heap}
mutual
theorem area_one:∀(d:WData) (v:Value),Well P h v d→F9 d=true→d.weight≤1048576→∃A:List Addr,OkU A v∧∀a∈A,ArgOb h A a
 | .none,_,x,_,_=>by
  cases x
  exact ⟨[],trivial,fun a m=>absurd m (by simp)⟩
 | .bool b,_,x,_,_=>by
  cases x
  exact ⟨[],trivial,fun a m=>absurd m (by simp)⟩
 | .int i,_,x,_,_=>by
  cases x
  exact ⟨[],trivial,fun a m=>absurd m (by simp)⟩
 | .str s,_,x,_,_=>by
  cases x
  exact ⟨[],trivial,fun a m=>absurd m (by simp)⟩
 | .bytes b,_,x,_,_=>by
  cases x
  exact ⟨[],trivial,fun a m=>absurd m (by simp)⟩
 | .list ds,_,x,p,z=>by
  obtain ⟨a,vs,rfl,ho,hall⟩:=nA x
  have z2:WData.weightAll ds≤1048576:=z
  obtain ⟨A,h1,h2⟩:=aD ds _ hall p fun d hd=>Nat.le_trans (fI hd) z2
  have k:∀b∈A,b∈a::A:=fun b hb=>List.mem_cons_of_mem _ hb
  refine ⟨a::A,List.mem_cons_self ..,fun b hb=>?_⟩
  rcases List.mem_cons.mp hb with e|m
  ·rw [e]
   exact ⟨vs,lG (by rw [cB hall];exact Nat.le_trans (PySem.W.length_le_weightAllW ds) z2),fun u hu=>(h1 u hu).mono k,.inl ho⟩
  ·exact (h2 b m).mono k
 | .tuple ds,_,x,p,z=>by
  obtain ⟨a,vs,rfl,ho,hall⟩:=kC x
  have z2:WData.weightAll ds≤1048576:=z
  obtain ⟨A,h1,h2⟩:=aD ds _ hall p fun d hd=>Nat.le_trans (fI hd) z2
  have k:∀b∈A,b∈a::A:=fun b hb=>List.mem_cons_of_mem _ hb
  refine ⟨a::A,List.mem_cons_self ..,fun b hb=>?_⟩
  rcases List.mem_cons.mp hb with e|m
  ·rw [e]
   exact ⟨vs,lG (by rw [cB hall];exact Nat.le_trans (PySem.W.length_le_weightAllW ds) z2),fun u hu=>(h1 u hu).mono k,.inr ho⟩
  ·exact (h2 b m).mono k
 | .float _,_,_,p,_=>Bool.noConfusion (show false=true from p)
 | .dict _,_,_,p,_=>Bool.noConfusion (show false=true from p)
 | .bytearray _,_,_,p,_=>Bool.noConfusion (show false=true from p)
 | .set _,_,_,p,_=>Bool.noConfusion (show false=true from p)
 | .frozenset _,_,_,p,_=>Bool.noConfusion (show false=true from p)
 | .obj _ _,_,_,p,_=>Bool.noConfusion (show false=true from p)
theorem aD:∀(ds:List WData) (vs:List Value),WellAll P h vs ds→G9 ds=true→(∀d∈ds,d.weight≤1048576)→∃A:List Addr,(∀u∈vs,OkU A u)∧∀a∈A,ArgOb h A a
 | [],_,x,_,_=>by
  cases x
  exact ⟨[],fun u m=>absurd m (by simp),fun a m=>absurd m (by simp)⟩
 | d::ds,_,x,p,z=>by
  obtain ⟨v,vs,rfl,x1,x2⟩:=oJ x
  have q:F9 d=true∧G9 ds=true:=Bool.and_eq_true_iff.mp p
  obtain ⟨A,a1,a2⟩:=area_one d v x1 q.1 (z d (List.mem_cons_self ..))
  obtain ⟨B,b1,b2⟩:=aD ds vs x2 q.2 fun e he=>z e (List.mem_cons_of_mem _ he)
  have kA:∀b∈A,b∈A++B:=fun b hb=>List.mem_append.mpr (.inl hb)
  have kB:∀b∈B,b∈A++B:=fun b hb=>List.mem_append.mpr (.inr hb)
  refine ⟨A++B,fun u hu=>?_,fun b hb=>?_⟩
  ·rcases List.mem_cons.mp hu with e|m
   ·rw [e]
    exact a1.mono kA
   ·exact (b1 u m).mono kB
  ·rcases List.mem_append.mp hb with m|m
   ·exact (a2 b m).mono kA
   ·exact (b2 b m).mono kB
end
end
def bC (o:Obj):Option HO:=match o.data with
 | .seq vs _=>if (o.cls==Value.type "list")=true then some (.frz o (.lst (vs.toList.map u4))) else some (.frz o (.tup (vs.toList.map u4)))
 | _=>none
def p8 (K:PySem.W.Frag) (h:Heap) (A:List Addr):Hp:=fun b=>if b∈A then (if (K.lookup b).isNone=true then (h.get? b).bind bC else none) else none
def Ax (H:Hp):Prop:=∀b,H b=none∨∃o u,H b=some (.frz o u)
theorem nY (vs:List Value):bC { cls:=.type "list",data:=.seq vs.toArray }=some (.frz { cls:=.type "list",data:=.seq vs.toArray } (.lst (vs.map u4))):=by
 show (if (Value.type "list"==Value.type "list")=true then some (HO.frz { cls:=.type "list",data:=.seq vs.toArray } (.lst (vs.toArray.toList.map u4))) else some (HO.frz { cls:=.type "list",data:=.seq vs.toArray } (.tup (vs.toArray.toList.map u4))))=_
 rw [if_pos (beq_self_eq_true _)]
theorem iS (vs:List Value):bC { cls:=.type "tuple",data:=.seq vs.toArray }=some (.frz { cls:=.type "tuple",data:=.seq vs.toArray } (.tup (vs.map u4))):=by
 show (if (Value.type "tuple"==Value.type "list")=true then some (HO.frz { cls:=.type "tuple",data:=.seq vs.toArray } (.lst (vs.toArray.toList.map u4))) else some (HO.frz { cls:=.type "tuple",data:=.seq vs.toArray } (.tup (vs.toArray.toList.map u4))))=_
 rw [if_neg (by decide)]
section
variable {P:Program} {w:World} {K:PySem.W.Frag} {h:Heap} {A:List Addr}
theorem bT {b:Addr} {o:Obj} (hb:b∈A) (hk:K.lookup b=none) (e:h.get? b=some o):p8 K h A b=bC o:=by
 unfold p8
 rw [if_pos hb,hk,if_pos (show (none:Option Obj).isNone=true from rfl),e]<;>rfl
theorem CS {b:Addr} {u:HO} (q:p8 K h A b=some u):b∈A∧K.lookup b=none:=by
 unfold p8 at q
 by_cases hb:b∈A
 ·rw [if_pos hb] at q
  cases hk:K.lookup b with
  | none=>exact ⟨hb,rfl⟩
  | some o=>
   rw [hk,if_neg (by simp)] at q
   cases q
 ·rw [if_neg hb] at q
  cases q
theorem U2 (ar:∀a∈A,ArgOb h A a) {b:Addr} {u:HO} (q:p8 K h A b=some u):K.lookup b=none∧∃vs:List Value,vs.length≤sizeLine∧(∀u∈vs,OkU A u)∧
  ((h.get? b=some { cls:=.type "list",data:=.seq vs.toArray }∧u=.frz { cls:=.type "list",data:=.seq vs.toArray } (.lst (vs.map u4)))∨
   (h.get? b=some { cls:=.type "tuple",data:=.seq vs.toArray }∧u=.frz { cls:=.type "tuple",data:=.seq vs.toArray } (.tup (vs.map u4)))):=by
 obtain ⟨hb,hk⟩:=CS q
 obtain ⟨vs,h1,h2,h3⟩:=ar b hb
 refine ⟨hk,vs,h1,h2,?_⟩
 rcases h3 with e|e
 ·rw [bT hb hk e,nY] at q
  exact .inl ⟨e,(Option.some.inj q).symm⟩
 ·rw [bT hb hk e,iS] at q
  exact .inr ⟨e,(Option.some.inj q).symm⟩
theorem AZ (ar:∀a∈A,ArgOb h A a):Ax (p8 K h A):=fun b=>by
 cases q:p8 K h A b with
 | none=>exact .inl rfl
 | some u=>
  obtain ⟨_,vs,_,_,⟨_,e⟩|⟨_,e⟩⟩:=U2 ar q
  ·exact .inr ⟨_,_,by rw [e]⟩
  ·exact .inr ⟨_,_,by rw [e]⟩
theorem Dh (ar:∀a∈A,ArgOb h A a):HOk P w (p8 K h A) h:=fun b u q=>by
 obtain ⟨_,vs,h1,h2,⟨e,rfl⟩|⟨e,rfl⟩⟩:=U2 ar q
 ·exact ⟨e,by rw [List.length_map];exact h1,vs,_,S7 h2,e⟩
 ·exact ⟨e,by rw [List.length_map];exact h1,vs,S7 h2,_,e,rfl,_,rfl⟩
theorem cO {c c':Value} {vs us:List Value} (e:(some { cls:=c,data:=.seq vs.toArray }:Option Obj)=some { cls:=c',data:=.seq us.toArray }):c=c'∧vs=us:=by
 have e1:=Option.some.inj e
 have e2:c=c':=congrArg Obj.cls e1
 have e3:Data.seq vs.toArray=Data.seq us.toArray:=congrArg Obj.data e1
 injection e3 with e4
 refine ⟨e2,?_⟩
 have e5:=congrArg Array.toList e4
 simpa using e5
theorem EQ (KX:K.In h) (ar:∀a∈A,ArgOb h A a) {a:Addr} {vs:List Value} (ha:a∈A) (e:h.get? a=some { cls:=.type "list",data:=.seq vs.toArray }):(∀u∈vs,OkU A u)∧SqL K (p8 K h A) a (vs.map u4):=by
 obtain ⟨us,h1,h2,h3⟩:=ar a ha
 have hu:us=vs:=by
  rcases h3 with q|q
  ·rw [e] at q
   exact (cO q).2.symm
  ·rw [e] at q
   exact absurd (Value.type.inj (cO q).1) (by decide)
 subst hu
 refine ⟨h2,?_⟩
 cases hk:K.lookup a with
 | none=>exact .inl (.inr ⟨_,by rw [bT ha hk e,nY]⟩)
 | some o=>
  have e2:=KX a o hk
  rw [e] at e2
  obtain rfl:=Option.some.inj e2
  exact .inr ⟨_,us.toArray,_,hk,rfl,rfl,rfl,by rw [List.size_toArray];exact h1,by simpa using S7 h2⟩
theorem vZ (KX:K.In h) (ar:∀a∈A,ArgOb h A a) {a:Addr} {vs:List Value} (ha:a∈A) (e:h.get? a=some { cls:=.type "tuple",data:=.seq vs.toArray }):(∀u∈vs,OkU A u)∧SqT K (p8 K h A) a (vs.map u4):=by
 obtain ⟨us,h1,h2,h3⟩:=ar a ha
 have hu:us=vs:=by
  rcases h3 with q|q
  ·rw [e] at q
   exact absurd (Value.type.inj (cO q).1) (by decide)
  ·rw [e] at q
   exact (cO q).2.symm
 subst hu
 refine ⟨h2,?_⟩
 cases hk:K.lookup a with
 | none=>exact .inl (.inr ⟨_,by rw [bT ha hk e,iS]⟩)
 | some o=>
  have e2:=KX a o hk
  rw [e] at e2
  obtain rfl:=Option.some.inj e2
  exact .inr ⟨_,us.toArray,_,hk,rfl,rfl,by rw [List.size_toArray];exact h1,by simpa using S7 h2⟩
mutual
theorem dw_one {Pm:Params} (KX:K.In h) (ar:∀a∈A,ArgOb h A a):∀(d:WData) (v:Value),Well Pm h v d→F9 d=true→OkU A v→Dw K (p8 K h A) (u4 v) d
 | .none,_,x,_,_=>by
  cases x
  exact .non
 | .bool b,_,x,_,_=>by
  cases x
  exact .bl b
 | .int i,_,x,_,_=>by
  cases x
  exact .int i
 | .str s,_,x,_,_=>by
  cases x
  exact .str s
 | .bytes b,_,x,_,_=>by
  cases x
  have z:=Dw.byt (K:=K) (H:=p8 K h A) b.toArray
  exact z
 | .list ds,_,x,p,hu=>by
  obtain ⟨a,vs,rfl,ho,hall⟩:=nA x
  obtain ⟨h2,hs⟩:=EQ KX ar hu ho
  exact .lst hs (bZ KX ar ds _ hall p h2)
 | .tuple ds,_,x,p,hu=>by
  obtain ⟨a,vs,rfl,ho,hall⟩:=kC x
  obtain ⟨h2,hs⟩:=vZ KX ar hu ho
  exact .tup hs (bZ KX ar ds _ hall p h2)
 | .float _,_,_,p,_=>Bool.noConfusion (show false=true from p)
 | .dict _,_,_,p,_=>Bool.noConfusion (show false=true from p)
 | .bytearray _,_,_,p,_=>Bool.noConfusion (show false=true from p)
 | .set _,_,_,p,_=>Bool.noConfusion (show false=true from p)
 | .frozenset _,_,_,p,_=>Bool.noConfusion (show false=true from p)
 | .obj _ _,_,_,p,_=>Bool.noConfusion (show false=true from p)
theorem bZ {Pm:Params} (KX:K.In h) (ar:∀a∈A,ArgOb h A a):∀(ds:List WData) (vs:List Value),WellAll Pm h vs ds→G9 ds=true→(∀u∈vs,OkU A u)→DwAll K (p8 K h A) (vs.map u4) ds
 | [],_,x,_,_=>by
  cases x
  exact .nil
 | d::ds,_,x,p,hu=>by
  obtain ⟨v,vs,rfl,x1,x2⟩:=oJ x
  have q:F9 d=true∧G9 ds=true:=Bool.and_eq_true_iff.mp p
  exact .cons (dw_one KX ar d v x1 q.1 (hu _ (List.mem_cons_self ..))) (bZ KX ar ds vs x2 q.2 fun u m=>hu u (List.mem_cons_of_mem _ m))
end
end
theorem wO {ds:List WData} (h:WData.layableAll ds=true):∀d∈ds,d.weight≤1048576:=fun d hd=>
 (PySem.W.layableW_iff.mp (List.all_eq_true.mp h d hd)).2.2
theorem lF:∀(cs:List Codec) (a:Codec.denoteAll cs),(Codec.encAll cs a).length=cs.length
 | [],_=>rfl
 | c::cs,a=>by
  show (Codec.encAll cs a.2).length+1=cs.length+1
  rw [lF cs a.2]
end L2
end
namespace L2
open PySem PySem.Spec PyProof.Rows
open PySem.W (CodeHd tabObj TabsAt noTabs kla_obj kla_fn Looks WData Codec OpenSpec Well WellAll ReadsW ReadsAllW)
def J4 (a:Addr) (o:Obj):HO:=.ext fun h=>h.get? a=some o
def A6 (c:Addr) (q:Str):HO:=.ext fun h=>h.CodeRec (.ref c) q
section
variable {P:Program} {w:World} {H:Hp} {h:Heap} {a c:Addr} {o:Obj} {q:Str}
theorem qB (e:h.get? a=some o):ObjOk P w H h a (J4 a o):=⟨e,⟨o,e⟩,fun _ _ p k=>k _ p⟩
theorem Du (x:h.CodeRec (.ref c) q):ObjOk P w H h c (A6 c q):=by
 refine ⟨x,?_,fun h1 h2 p k=>?_⟩
 ·obtain ⟨c',o,vs,t,e,g,r⟩:=x
  cases e
  exact ⟨o,g⟩
 ·obtain ⟨c',o,vs,t,e,g,r⟩:=p
  cases e
  exact ⟨c,o,vs,t,rfl,k o g,r⟩
theorem qC (x:HOk P w H h) (e:H a=some (J4 a o)):h.get? a=some o:=(x a _ e).1
theorem BN (x:HOk P w H h) (e:H c=some (A6 c q)):h.CodeRec (.ref c) q:=(x c _ e).1
theorem pI {ps:Array Value} (x:HOk P w H h) (e:H a=some (.tbl ps)):h.get? a=some (tabObj ps):=x a _ e
end
structure Bm (mg:Str→Option Value) (base:Heap):Prop where
 ex:∃bm ob,mg "__builtins__"=some (.ref bm)∧bm≠builtinsNs∧base.get? bm=some ob∧ob.cls=.type "module"∧ob.dict=some builtinsNs∧ob.data=.plain
def nU (P:Addr) (pos:Pos) (q:Str) (mk:Addr→Value→Obj):TE:=fun _ H Q=>∃ps,H P=some (.tbl ps)∧TriplesOk ps.toList∧
 ((codeAmong pos ps.toList=none∧∀(c' f:Addr) (ctv:Value),H c'=none→H f=none→c'≠f→
   Q (.ref f) (a8 (a8 (a8 H P (.tbl (ps++#[rawInt pos.line,rawInt pos.col,.ref c']))) c' (A6 c' q)) f (J4 f (mk c' ctv))))∨
  (∃c',codeAmong pos ps.toList=some (.ref c')∧∀(f:Addr) (ctv:Value),H f=none→Q (.ref f) (a8 H f (J4 f (mk c' ctv)))))
theorem aB {X:Cx} {params:Arguments} {body:Expr} {scope:Scope} {pos:Pos} {c P:Addr} {clos:List (Str×Addr)} {q:Str}
  (hcode:X.env.code=.ref c) (C:CodeHd X.base c P) (B:Bm X.mg X.base) (hq:X.env.qual++"<lambda>"=q) (hcl:closureFor scope X.env=pure clos) (hdef:defaultsOf params X.env=([],[]):=by rfl) :
  PE X (.Lambda params body scope pos) (nU P pos q fun c' ctv=>kla_obj "<lambda>" q params body scope clos ((X.mg "__name__").getD .none) c' ctv):=by
 subst hq
 intro pins s σ H Q I h
 obtain ⟨ps,hP,ht,h⟩:=h
 have eP:=pI I.hok hP
 have hg:s.heap.Ns mainGlobals X.mg:=I.mod.glob.keeps I.bk
 have neP:∀b o,X.base.get? b=some o→b≠P:=fun b o e z=>by
  have:=(I.bs b o e).2
  rw [z,hP] at this
  cases this
 have hgP:mainGlobals≠P:=by
  obtain ⟨o,es,ep,e,_⟩:=I.mod.glob
  exact neP _ o e
 obtain ⟨bm,ob,b1,b2,b3,b4,b5,b6⟩:=B.ex
 have hbP:bm≠P:=neP _ _ b3
 have hbG:bm≠mainGlobals:=fun z=>by
  obtain ⟨o,es,ep,e,hd,_⟩:=I.mod.glob
  rw [z,e] at b3
  cases b3
  rw [hd] at b6
  cases b6
 have BA:s.heap.BuiltinsAt X.mg P:=⟨bm,ob,b1,b2,hbG,hbP,I.bk _ _ b3,b4,b5,b6⟩
 refine PySem.W.kla_eval hdef ?_
 rcases h with ⟨hn,h⟩|⟨c',hf,h⟩
 ·refine PySem.W.kla_makeFunction (mg:=X.mg) hcl I.ok.glob hg hcode (C.keeps I.bk) eP ht hn hgP BA fun c' ctv h' tk hx hge hlt hrec htb=>?_
  have hsz:s.heap.objs.size≤h'.objs.size:=Nat.le_of_lt (Nat.lt_of_le_of_lt hge hlt)
  have nc:H c'=none:=I.hok.fresh hge
  have nf:H h'.objs.size=none:=I.hok.fresh hsz
  have ncf:c'≠h'.objs.size:=Nat.ne_of_lt hlt
  have nPc:P≠c':=d8 hP nc
  have nPf:P≠h'.objs.size:=d8 hP nf
  generalize hL:kla_obj "<lambda>" (X.env.qual++"<lambda>") params body scope clos ((X.mg "__name__").getD .none) c' ctv=lam at *
  have keep:∀b o,b≠P→s.heap.get? b=some o→(h'.push lam).get? b=some o:=fun b o hb e=>Heap.get?_push_of_some _ (hx b o hb e)
  have kP:(h'.push lam).get? P=some (tabObj (ps++#[rawInt pos.line,rawInt pos.col,.ref c'])):=Heap.get?_push_of_some _ htb
  have upn:∀b,b≠P→b≠c'→b≠h'.objs.size→a8 (a8 (a8 H P (.tbl (ps++#[rawInt pos.line,rawInt pos.col,.ref c']))) c' (A6 c' (X.env.qual++"<lambda>"))) h'.objs.size (J4 h'.objs.size lam) b=H b:=fun b z1 z2 z3=>by
   rw [a9 z3,a9 z2,a9 z1]
  have upP:a8 (a8 (a8 H P (.tbl (ps++#[rawInt pos.line,rawInt pos.col,.ref c']))) c' (A6 c' (X.env.qual++"<lambda>"))) h'.objs.size (J4 h'.objs.size lam) P=some (.tbl (ps++#[rawInt pos.line,rawInt pos.col,.ref c'])):=by
   rw [a9 nPf,a9 nPc,c8]
  have q:=h c' h'.objs.size ctv nc nf ncf
  dsimp only at q
  rw [hL] at q
  have old:∀b o,s.heap.get? b=some o→b≠c'∧b≠h'.objs.size:=fun b o e=>⟨Nat.ne_of_lt (Nat.lt_of_lt_of_le (Heap.lt_size e) hge),Nat.ne_of_lt (Nat.lt_of_lt_of_le (Heap.lt_size e) hsz)⟩
  refine ⟨.ref h'.objs.size,_,I.un (h':=h'.push lam) (t':=tk) ⟨fun b o e n _ _=>keep b o (fun z=>by rw [z,hP] at n;cases n) e,fun b o e n _ _=>⟨o.slots,keep b o (fun z=>by rw [z,hP] at n;cases n) e⟩,
   fun b o e n _=>?_,fun b o e _=>?_,fun b xs e=>?_,fun b o u e=>?_,fun b qs e=>?_⟩ (fun b u e=>?_),rfl,q⟩
  ·rw [upn b (fun z=>by rw [z,hP] at n;cases n) (old b o e).1 (old b o e).2]
   exact n
  ·by_cases hb:b=P
   ·exact ⟨_,hb▸kP⟩
   ·exact ⟨o,keep b o hb e⟩
  ·rw [upn b (f8 e hP (by intro z;cases z)) (d8 e nc) (d8 e nf)]
   exact e
  ·rw [upn b (f8 e hP (by intro z;cases z)) (d8 e nc) (d8 e nf)]
   exact e
  ·by_cases hb:b=P
   ·subst hb
    rw [hP] at e
    cases e
    exact ⟨_,upP⟩
   ·refine ⟨#[],?_⟩
    rw [upn b hb (d8 e nc) (d8 e nf),e]
    simp
  ·by_cases h1:b=h'.objs.size
   ·subst h1
    rw [c8] at e
    cases e
    exact qB (Heap.get?_push_size _ (by rw [←hL];rfl))
   ·by_cases h2:b=c'
    ·subst h2
     rw [a9 h1,c8] at e
     cases e
     exact Du (hrec.push _)
    ·by_cases h3:b=P
     ·subst h3
      rw [upP] at e
      cases e
      exact kP
     ·rw [upn b h3 h2 h1] at e
      refine (I.hok b u e).stay (fun d v hd q=>keep d v ?_ q) (fun d q=>?_) fun d xs q=>?_
      ·rcases hd with hd|hd
       ·rw [hd]
        exact h3
       ·exact f8 hd hP (by intro z;cases z)
      ·rw [upn d (f8 q hP (by intro z;cases z)) (d8 q nc) (d8 q nf)]
       exact q
      ·rw [upn d (f8 q hP (by intro z;cases z)) (d8 q nc) (d8 q nf)]
       exact q
 ·refine PySem.W.kla_makeFunctionHit (mg:=X.mg) hcl I.ok.glob hg hcode (C.keeps I.bk) eP ht hf BA fun ctv h' tk hx hsz=>?_
  have nf:H h'.objs.size=none:=I.hok.fresh hsz
  refine ⟨.ref h'.objs.size,_,I.laid (h':=h'.push _) (t':=tk) (fun b o e=>Heap.get?_push_of_some _ (hx b o e)) hsz ?_,rfl,h h'.objs.size ctv nf⟩
  exact qB (Heap.get?_push_size _ rfl)
def CellsAt (zs:List (Addr×V)) (h:Heap) (H:Hp) (fs:List Addr):Prop:=∀q∈zs,(∃u,RelV q.2 u∧h.IsCell q.1 (some u))∧H q.1=none∧q.1∉fs
theorem CellsAt.nil {h:Heap} {H:Hp} {fs:List Addr}:CellsAt [] h H fs:=fun _ m=>nomatch m
structure FnOkZ (P:Program) (w:World) (K:PySem.W.Frag) (mg:Str→Option Value) (base:Heap) (CX:K8) (k:Nat) (f:Addr) (fd:FuncData) (ps:List Str) (zs:List (Addr×V)) (sp:Sp):Prop where
 len:∀vs H Q E,sp vs H Q E→vs.length=ps.length
 run:∀(A:Around) (outer:List Env) (s:Shared) (H:Hp) (args:Args) (us:List Value) (vs:List V) (Q:VK) (E:XK),Room k A→Env0 P w K mg base A outer s H→CellsAt zs s.heap H (C4 outer)→BindsTo s fd args (ps.zip us)→Vals vs us→sp vs H Q E→
  codeAny (model P w) A (.call (.ref f) args) (CR CX outer P w H s Q E) s
theorem FnOkZ.mono {P:Program} {w:World} {K:PySem.W.Frag} {mg:Str→Option Value} {base:Heap} {CX:K8} {j k:Nat} {f:Addr} {fd:FuncData} {ps:List Str} {zs:List (Addr×V)} {sp:Sp} (F:FnOkZ P w K mg base CX j f fd ps zs sp) (h:j≤k) :
  FnOkZ P w K mg base CX k f fd ps zs sp:=⟨F.len,fun A outer s H args us vs Q E hr=>F.run A outer s H args us vs Q E (hr.mono h)⟩
theorem Inv.cells {X:Cx} {pins:List (Addr×Obj)} {σ:St} {H:Hp} {s:Shared} {zs:List (Addr×V)} (I:Inv X pins σ H s) (z:CellsAt zs X.s_0.heap X.H_0 X.fs) (hx:X.ex=[]):CellsAt zs s.heap H (C4 X.stack):=fun q hq=>by
 obtain ⟨⟨u,r,o,ho,hd⟩,n,nf⟩:=z q hq
 have nx:q.1∉X.ex:=by rw [hx];simp
 refine ⟨⟨u,r,o,I.base.keep _ _ ho n nf nx,hd⟩,I.base.free _ _ ho n nx,fun m=>?_⟩
 rcases List.mem_cons.mp (I.stkSub _ m) with e|m
 ·exact absurd (Nat.lt_of_lt_of_le (Heap.lt_size ho) I.ok.above) (by rw [e];exact Nat.lt_irrefl _)
 ·exact nf m
theorem Inv.ownCells {X:Cx} {pins:List (Addr×Obj)} {σ:St} {H:Hp} {s:Shared} {zs:List (Addr×V)} (I:Inv X pins σ H s)
  (h:∀q∈zs,∃(i:Nat) (x:Str),X.N[i]?=some x∧σ[i]?=some (some q.2)∧X.env.kindOf x=some .cell∧X.env.cells.lookup x=some q.1∧X.fn x=true):CellsAt zs s.heap H (C4 X.stack):=fun q hq=>by
 obtain ⟨i,x,h1,h2,h3,h4,h5⟩:=h q hq
 obtain ⟨m,hn,hl⟩:=I.loc
 obtain ⟨u,r,l⟩:=hl i x q.2 h1 h2 (.inr (.inl h3))
 have nl:q.1≠X.env.locals:=I.cne x q.1 h4
 refine ⟨⟨u,r,?_⟩,I.freeC x q.1 h4,fun m=>?_⟩
 ·rcases l with ⟨k,_⟩|⟨_,c,e,z⟩
  ·rw [h3] at k
   cases k
  ·rw [h4] at e
   cases e
   exact z
 ·rcases List.mem_cons.mp (I.stkSub _ m) with e|m
  ·exact nl e
  ·obtain ⟨_,o,ho,_⟩:=I.ok.funs.mem m
   exact absurd (Nat.lt_of_lt_of_le (Heap.lt_size ho) (I.ok.cab x q.1 h5 h4)) (Nat.lt_irrefl _)
theorem Fun.okZ {P:Program} {w:World} {K:PySem.W.Frag} {mg:Str→Option Value} {base:Heap} {x qual:Str} {st:Stmt} {f:Addr} {fd:FuncData} {N ps:List Str} {k:Nat} {zs:List (Addr×V)} {sp:Sp} (F:Fun K x qual st f fd) (S:N0 N ps (k9 st))
  (len:∀vs H Q E,sp vs H Q E→vs.length=ps.length)
  (hbody:∀(cdv:Value) (A:Around) (outer:List Env) (s:Shared) (H:Hp) (vs:List V) (Q:VK) (E:XK),fd.code=cdv→Room k (A.deeper (envOfC qual (k9 st) s.heap.objs.size f cdv))→CellsAt zs s.heap H (C4 outer)→sp vs H Q E→
   ∃t,PSs (F7 x8 P w K mg base N qual (k9 st) f cdv A outer s H E).nox (E2 st) t∧t { nx:=fun _ H'=>Q .non H',rt:=Q } (start N vs) H):FnOkZ P w K mg base x8 (k+1) f fd ps zs sp:=by
 obtain ⟨oc,od,kV,doc,pm,an,cdv,ct,osl,rfl,lk,hcd⟩:=F.ex
 refine ⟨len,fun A outer s H args us vs Q E hr e0 hz hb r hsp=>?_⟩
 have hl:=len _ _ _ _ hsp
 have KX:K.In s.heap:=e0.mod.kin.keeps fun b o e=>(e0.bs b o e).1
 have lim:s.heap.NoLimit:=e0.mod.nolimit.keeps fun b o e=>(e0.bs b o e).1
 have hkind:∀y∈ps.zip us,(k9 st).names.lookup y.1=some .local∨((k9 st).names.lookup y.1=some .cell∧((cellsFrom (s.heap.objs.size+1) (k9 st).names []).lookup y.1).isSome=true):=fun ⟨n,v⟩ hy=>by
  rcases S.par n (List.of_mem_zip hy).1 with q|q
  ·exact .inl q
  ·exact .inr ⟨q,PySem.W.cellsFrom_some _ _ _ (.inl q)⟩
 refine codeAny_call_function hr.depth (KX _ _ lk) rfl S.co S.gen rfl (PySem.W.codeRec_of KX hcd) (hb _ _ _ _ ?_)
 refine wpAny_newFunctionEnv_cells S.kind hkind fun env he s1 x=>?_
 subst he
 refine ⟨lim.keeps x.toInCall.keep,codeAny_func ?_⟩
 obtain ⟨t,ht,hq⟩:=hbody cdv A outer s H vs Q E rfl (hr.deeper _) hz hsp
 have I:Inv (F7 x8 P w K mg base N qual (k9 st) f cdv A outer s H E) [] (start N vs) H s1:=pQ S hr.hd e0 hl r x
 refine wpAny_mono (ht.nox [] s1 (start N vs) H _ I hq) (fun fl s' hs=>?_) fun e s' hs=>hs
 have fin:∀{σ':St} {H':Hp} {v:V} {u:Value},Inv (F7 x8 P w K mg base N qual (k9 st) f cdv A outer s H E) [] σ' H' s'→RelV v u→Q v H'→CE outer P w H s Q u s':=
  fun {σ' H' v u} J rv q=>⟨v,H',J.os,J.bare,J.base,J.hok,rv,q⟩
 cases fl with
 | ret u=>
  obtain ⟨v,σ',H',J,rv,q⟩:=hs
  exact fin J rv q
 | next=>
  obtain ⟨σ',H',J,q⟩:=hs
  exact fin (v:=V.non) (u:=Value.none) J rfl q
 | brk=>
  obtain ⟨_,_,_,q⟩:=hs
  exact False.elim q
 | cont=>
  obtain ⟨_,_,_,q⟩:=hs
  exact False.elim q
def CallV (X:Cx) (f:Addr) (vs:List V) (H:Hp) (σ:St) (Q:VK):Prop:=∀(pins:List (Addr×Obj)) (s:Shared) (us:List Value),Inv X pins σ H s→Vals vs us→
 (∃k,(k=Keeper.frame∨k=Keeper.machine∨k=Keeper.boundFrame)∧Looks (model X.prog X.w) s.heap (keeperOf (.ref f)) k)∧wpAny (model X.prog X.w) X.A (call (.ref f) us) (EP X pins σ Q) X.xe s
def Bz (X:Cx) (tf:TE) (t:TA):TE:=fun σ H Q=>tf σ H fun fv H1=>∃f,fv=.ref f∧t σ H1 fun vs H2=>CallV X f vs H2 σ Q
theorem eV {X:Cx} {fe e:Expr} {es:List Expr} {pos:Pos} {tf:TE} {t:TA} (hf:PE X fe tf) (ha:PA X (e::es) t)
  (ht:eval (.Call fe (e::es) [] pos) X.env=(do callWith pos (←eval fe X.env) [] (backTo pos (starEach (e::es) X.env)) (backToKw pos (keywordEach [] X.env))):=by rfl)
  (he:starEach (e::es) X.env=(false,eval e X.env)::starEach es X.env:=by rfl) (hpl:(backTo pos (starEach es X.env)).any (·.1)=false:=by rfl) :
  PE X (.Call fe (e::es) [] pos) (Bz X tf t):=by
 intro pins s σ H Q I h
 rw [ht]
 refine wpAny_bind (g6 (hf pins s σ H _ I h) fun u s1 ⟨fv,H1,I1,rf,f,ef,q⟩=>?_)
 subst ef
 obtain rfl:u=Value.ref f:=rf
 have z:=g6 (ha pos pins s1 σ H1 _ I1 q) (Q':=fun us s2=>(∃k,(k=Keeper.frame∨k=Keeper.machine∨k=Keeper.boundFrame)∧Looks (model X.prog X.w) s2.heap (keeperOf (.ref f)) k)∧wpAny (model X.prog X.w) X.A (call (.ref f) ([]++us)) (EP X pins σ Q) X.xe s2)
  fun us s2 ⟨vs,H2,I2,r,q2⟩=>q2 pins s2 us I2 r
 rw [he] at z ⊢
 exact PySem.W.callWith_of (P:=fun h=>∃k,(k=Keeper.frame∨k=Keeper.machine∨k=Keeper.boundFrame)∧Looks (model X.prog X.w) h (keeperOf (.ref f)) k)
  (by show ((false || (backTo pos (starEach es X.env)).any (·.1)) || false)=false;rw [hpl];rfl) (fun _ p=>p) (PySem.Calls.evalArgs_plain z)
theorem yL {X:Cx} {k:Nat} {f:Addr} {fd:FuncData} {ps:List Str} {zs:List (Addr×V)} {sp:Sp} {pins:List (Addr×Obj)} {σ:St} {H:Hp} {s:Shared} {Q:VK} {us:List Value} {vs:List V} (F:FnOkZ X.prog X.w X.K X.mg X.base x8 k f fd ps zs sp) (hr:Room k X.A)
  (hb:∀(s:Shared) (us:List Value),us.length=ps.length→BindsTo s fd ⟨us,[]⟩ (ps.zip us)) (hz:CellsAt zs s.heap H (C4 X.stack)) (I:Inv X pins σ H s) (r:Vals vs us) (h:sp vs H Q E0):wpAny (model X.prog X.w) X.A (call (.ref f) us) (EP X pins σ Q) X.xe s:=by
 have hl:us.length=ps.length:=by rw [←r.length];exact F.len _ _ _ _ h
 refine wpAny_call (codeAny_mono (F.run X.A X.stack s H ⟨us,[]⟩ us vs Q E0 hr I.env0 hz (hb s us hl) r h) fun r s' hq=>?_)
 cases r with
 | error e=>exact False.elim hq
 | ok fl=>
  cases fl with
  | ret u=>exact I.after hq
  | next=>exact False.elim hq
  | brk=>exact False.elim hq
  | cont=>exact False.elim hq
theorem Binds.at {K:PySem.W.Frag} {fd:FuncData} {ps:List Str} (h:Binds K fd ps []) {s:Shared} {us:List Value} (KX:K.In s.heap) (hl:us.length=ps.length):BindsTo s fd ⟨us,[]⟩ (ps.zip us):=by
 have q:=h s us KX (by simpa using hl)
 rw [List.append_nil] at q
 exact q
theorem CallV.fn {X:Cx} {k:Nat} {f:Addr} {fd:FuncData} {ps:List Str} {sp:Sp} {H:Hp} {σ:St} {Q:VK} {vs:List V} (F:C9 X.prog X.w X.K X.mg X.base x8 k f fd ps sp) (hr:Room k X.A) (hk:PySem.W.keepIn X.K (.ref f)=true) (hb:Binds X.K fd ps []) (h:sp vs H Q E0) :
  CallV X f vs H σ Q:=fun pins s us I r=>
 ⟨PySem.W.keeps_K hk _ I.kIn,aJ (dvs:=[]) (ds:=[]) (E:=E0) F hr hb .nil (fun _ _ _ _ _ _ _ z=>z.elim) I r (by rw [List.append_nil];exact h)⟩
theorem CallV.lam {X:Cx} {k:Nat} {f:Addr} {fd:FuncData} {ps:List Str} {zs:List (Addr×V)} {sp:Sp} {H:Hp} {σ:St} {Q:VK} {vs:List V} {o:Obj} (F:FnOkZ X.prog X.w X.K X.mg X.base x8 k f fd ps zs sp) (hr:Room k X.A) (ho:H f=some (J4 f o)) (hd:o.data=.func fd)
  (hb:∀(s:Shared) (us:List Value),us.length=ps.length→BindsTo s fd ⟨us,[]⟩ (ps.zip us)) (hz:CellsAt zs X.s_0.heap X.H_0 X.fs) (hx:X.ex=[]) (h:sp vs H Q E0):CallV X f vs H σ Q:=fun pins s us I r=>by
 refine ⟨⟨.frame,.inl rfl,(Looks.ld (part:=none) (qC I.hok ho)).andThen ?_⟩,yL F hr hb (I.cells hz hx) I r h⟩
 rw [hd]
 exact .now
def Z2 (P:Program) (w:World) (K:PySem.W.Frag) (mg:Str→Option Value) (base:Heap) (N:List Str) (qual:Str) (scope:Scope) (f:Addr) (cd:Value) (clos:List (Str×Addr)) (A:Around) (outer:List Env) (s:Shared) (H:Hp):Cx where
 prog:=P
 w:=w
 K:=K
 mg:=mg
 base:=base
 A:=A.deeper (PySem.W.envX qual scope s.heap.objs.size f cd clos)
 N:=N
 s_0:=s
 H_0:=H
 env:=PySem.W.envX qual scope s.heap.objs.size f cd clos
 outer:=outer
 stack:=PySem.W.envX qual scope s.heap.objs.size f cd clos::outer
 ex:=[]
 calm:=true
 fn:=fun _=>false
 pn:=[]
 xe:=fun _ _=>False
structure Q9 (x:Str) (sc:Scope) (clos:List (Str×Addr)) (zs:List (Addr×V)):Prop where
 kind:sc.kind=.function
 co:sc.isCoroutine=false
 gen:sc.isGenerator=false
 par:sc.names.lookup x=some .local
 nocell:∀y∈sc.names,y.2≠.cell
 has:∀y,sc.names.lookup y=some .free→∃c,clos.lookup y=some c
 inj:∀y z c,clos.lookup y=some c→clos.lookup z=some c→y=z
 cells:clos.map (·.2)=zs.map (·.1)
 fre:∀(i:Nat) (y:Str) (c:Addr),clos[i]?=some (y,c)→sc.names.lookup y=some .free∧clos.lookup y=some c
theorem oV {P:Program} {w:World} {K:PySem.W.Frag} {mg:Str→Option Value} {base:Heap} {x q:Str} {params:Arguments} {body:Expr} {scope:Scope} {clos:List (Str×Addr)} {pm ctv:Value} {c' f:Addr} {zs:List (Addr×V)} {k:Nat} {sp:Sp}
  (S:Q9 x scope clos zs) (len:∀vs H Q E,sp vs H Q E→vs.length=1)
  (hH:∀vs H Q E,sp vs H Q E→H f=some (J4 f (kla_obj "<lambda>" q params body scope clos pm c' ctv))∧H c'=some (A6 c' q))
  (hbody:∀(A:Around) (outer:List Env) (s:Shared) (H:Hp) (v:V) (Q:VK) (E:XK),Room k (A.deeper (PySem.W.envX q scope s.heap.objs.size f (.ref c') clos))→sp [v] H Q E→
   ∃t,PE (Z2 P w K mg base (x::clos.map (·.1)) q scope f (.ref c') clos A outer s H) body t∧t (some v::zs.map fun z=>some z.2) H Q) :
  FnOkZ P w K mg base x8 (k+1) f (kla_fn "<lambda>" q params body scope clos pm (.ref c') ctv) [x] zs sp:=by
 refine ⟨len,fun A outer s H args us vs Q E hr e0 hz hb r hsp=>?_⟩
 have hl:=len _ _ _ _ hsp
 obtain ⟨h1,h2⟩:=hH _ _ _ _ hsp
 have lim:s.heap.NoLimit:=e0.mod.nolimit.keeps fun b o e=>(e0.bs b o e).1
 obtain ⟨v,rfl⟩:∃v,vs=[v]:=by
  match vs,hl with
  | [v],_=>exact ⟨v,rfl⟩
 obtain ⟨u,rfl,ru⟩:=vals1 r
 refine PySem.W.kla_callFunE hr.depth (qC e0.hok h1) rfl S.co S.gen rfl (BN e0.hok h2) (hb _ _ _ _ ?_)
 refine wpAny_newFunctionEnv S.nocell (fun y hy=>?_) (fun h₁ hns hsb=>⟨lim.fresh _ hsb,?_⟩) S.kind
 ·have e:y=(x,u):=by simpa using hy
  rw [e]
  exact S.par
 show codeAny _ _ (.expr body (PySem.W.envX q scope s.heap.objs.size f (.ref c') clos)) _ _
 have hk₁:∀b o,s.heap.get? b=some o→h₁.get? b=some o:=fun b o e=>hsb.extBut b o (Nat.ne_of_lt (Heap.lt_size e)) (Heap.get?_push_of_some _ e)
 obtain ⟨t,ht,hq⟩:=hbody A outer s H v Q E (hr.deeper _) hsp
 have hzl:∀y c,clos.lookup y=some c→∃z,(c,z)∈zs:=fun y c e=>by
  have m:c∈clos.map (·.2):=List.mem_map.mpr ⟨(y,c),PySem.mem_of_lookup e,rfl⟩
  rw [S.cells] at m
  obtain ⟨z,hz,e⟩:=List.mem_map.mp m
  exact ⟨z.2,by rw [←e];exact hz⟩
 have noA:∀b:Addr,b∉(Z2 P w K mg base (x::clos.map (·.1)) q scope f (.ref c') clos A outer s H).ex:=fun b z=>absurd (show b∈([]:List Addr) from z) (by simp)
 have I:Inv (Z2 P w K mg base (x::clos.map (·.1)) q scope f (.ref c') clos A outer s H) [] (some v::zs.map fun z=>some z.2) H { s with heap:=h₁,toks:=s.toks+([x].zip [u]).length }:=by
  refine ⟨⟨e0.mod,S.kind,rfl,rfl,Nat.le_refl _,S.inj,fun y hy=>?_,fun y c z=>Bool.noConfusion (show false=true from z),fun _=>hr.hd,Around.frames_deeper e0.frames,.inr ⟨rfl,rfl⟩,fun b z=>(noA b z).elim,e0.bs,e0.bsz,fun b _ _=>noA b,fun b z=>(noA b z).elim,e0.funs,e0.frf⟩,
   rfl,e0.bare,Un.kept hk₁,⟨_,hns,fun i y z h1 h2 h3=>?_⟩,fun y c e=>?_,e0.hok.fresh (Nat.le_refl _),fun y c e=>?_,fun p hp=>absurd (show p∈([]:List (Addr×Obj)) from hp) (by simp),e0.hok.kept hk₁,?_⟩
  ·rcases hy with hy|hy
   ·exact absurd rfl (S.nocell _ (PySem.mem_of_lookup (show scope.names.lookup y=some .cell from hy)))
   ·exact S.has y hy
  ·match i,h1,h2 with
   | 0,h1,h2=>
    have e1:x=y:=Option.some.inj h1
    have e2:v=z:=Option.some.inj (Option.some.inj h2)
    subst e1 e2
    exact ⟨u,ru,.inl ⟨S.par,by simp⟩⟩
   | i+1,h1,h2=>
    have h1:(clos.map (·.1))[i]?=some y:=h1
    have h2:(zs.map fun z=>some z.2)[i]?=some (some z):=h2
    rw [List.getElem?_map] at h1 h2
    cases e1:clos[i]? with
    | none=>rw [e1] at h1;cases h1
    | some yc=>
     rw [e1] at h1
     obtain ⟨y',c⟩:=yc
     have e3:y'=y:=Option.some.inj h1
     subst e3
     cases e2:zs[i]? with
     | none=>rw [e2] at h2;cases h2
     | some cz=>
      rw [e2] at h2
      have e4:cz.2=z:=Option.some.inj (Option.some.inj h2)
      have e5:cz.1=c:=by
       have:=congrArg (fun l=>l[i]?) S.cells
       simp only [List.getElem?_map,e1,e2,Option.map_some] at this
       exact (Option.some.inj this).symm
      obtain ⟨⟨u',r',z'⟩,_⟩:=hz cz (List.mem_of_getElem? e2)
      rw [e4] at r'
      rw [e5] at z'
      exact ⟨u',r',.inr ⟨.inr (S.fre i y' c e1).1,c,(S.fre i y' c e1).2,z'.keeps hk₁⟩⟩
  ·obtain ⟨z,m⟩:=hzl y c e
   obtain ⟨⟨u',_,z'⟩,_⟩:=hz _ m
   exact ⟨_,z'.keeps hk₁⟩
  ·obtain ⟨z,m⟩:=hzl y c e
   exact (hz _ m).2.1
  ·show (zs.map _).length+1=(clos.map (·.1)).length+1
   rw [List.length_map,List.length_map,←List.length_map (f:=(·.2)) (as:=clos),S.cells,List.length_map]
 refine PySem.W.kla_codeExpr (wpAny_mono (ht [] _ _ _ Q I hq) (fun u' s' hs=>?_) fun _ _ z=>False.elim z)
 obtain ⟨v',H',J,rv,q'⟩:=hs
 exact ⟨v',H',J.os,J.bare,J.base,J.hok,rv,q'⟩
theorem Same.seqT {K:PySem.W.Frag} {H H':Hp} {a:Addr} {xs:List V} (e:Same H H') (h:SqT K H a xs):SqT K H' a xs:=by
 rcases h with (h|⟨o,h⟩)|h
 ·exact .inl (.inl (e _ _ h))
 ·exact .inl (.inr ⟨o,e _ _ h⟩)
 ·exact .inr h
mutual
theorem Dw.same {K:PySem.W.Frag} {H H':Hp} (k:Same H H'):∀{v:V} {d:WData},Dw K H v d→Dw K H' v d
 | _,_,.non=>.non
 | _,_,.bl b=>.bl b
 | _,_,.int i=>.int i
 | _,_,.str x=>.str x
 | _,_,.byt b=>.byt b
 | _,_,.lst hs ha=>.lst (k.seq hs) (DwAll.same k ha)
 | _,_,.tup hs ha=>.tup (k.seqT hs) (DwAll.same k ha)
theorem DwAll.same {K:PySem.W.Frag} {H H':Hp} (k:Same H H'):∀{vs:List V} {ds:List WData},DwAll K H vs ds→DwAll K H' vs ds
 | _,_,.nil=>.nil
 | _,_,.cons a b=>.cons (Dw.same k a) (DwAll.same k b)
end
def B7 (tabs:List (Addr×Addr)) (H:Hp):Hp:=fun b=>if b∈tabs.map (·.2) then some (.tbl #[]) else H b
theorem AJ {P:Program} {w:World} {K:PySem.W.Frag} {mg mb:Str→Option Value} {CX:K8} {k:Nat} {fa:Addr} {fd:FuncData} {ps:List Str} {sp:Sp} {s₁:Shared} {vals:List Value} {ds:List WData} {R:PySem.W.WRecords} {cl:Str→Option Addr} {d0:WData} {tabs:List (Addr×Addr)}
  (KX:K.In s₁.heap) (hT:TabsAt tabs s₁.heap) (nT:noTabs K=true) (hbm:∃bm ob,mg "__builtins__"=some (.ref bm)∧bm≠builtinsNs∧s₁.heap.get? bm=some ob∧ob.cls=.type "module"∧ob.dict=some builtinsNs∧ob.data=.plain)
  (hns:s₁.heap.Ns mainGlobals mg) (hb:s₁.heap.Ns builtinsNs mb) (hbb:∀x:Str,x≠"__name__"→mb x=bootBuiltins x) (hlim:s₁.heap.NoLimit) (hg:s₁.gens=#[])
  (hwl:WellAll w.params s₁.heap vals ds) (hpl:G9 ds=true) (hwt:∀d∈ds,d.weight≤1048576) (hr:Room k callerA)
  (F:∀base:Heap,K.In base→base.Ns mainGlobals mg→(∀q∈tabs,CodeHd base q.1 q.2)→Bm mg base→C9 P w K mg base CX k fa fd ps sp) (hbind:∀(s:Shared) (us:List Value),us.length=ps.length→BindsTo s fd ⟨us,[]⟩ (ps.zip us)) (hlen:ds.length=ps.length)
  (hsp:∀(H:Hp) (xs:List V),(∀q∈tabs,H q.2=some (.tbl #[]))→(∀b ys,H b≠some (.lst ys))→DwAll K H xs ds→sp xs H (fun v H'=>Dw K H' v d0) fun _ _ _=>False)
  (hCX:∀H e s',CX [] H s₁ (fun _ _ _=>False) e s'→False) :
  codeAny (model P w) callerA (.call (.ref fa) ⟨vals,[]⟩) (fun r s'=>∃u as,r=.ok (.ret u)∧ReadsW R cl s'.heap u d0 as∧OldK s₁.heap s'.heap∧s'.os=s₁.os∧AllBare s'.gens) s₁:=by
 obtain ⟨A,ho,ar⟩:=aD ds vals hwl hpl hwt
 have tabAt:∀b,b∈tabs.map (·.2)→s₁.heap.get? b=some (tabObj #[]):=fun b hb=>by
  obtain ⟨q,hq,rfl⟩:=List.mem_map.mp hb
  exact (hT q hq).2
 have argNo:∀b u,p8 K s₁.heap A b=some u→b∉tabs.map (·.2):=fun b u q m=>by
  have e:=tabAt b m
  obtain ⟨_,vs,_,_,⟨e2,_⟩|⟨e2,_⟩⟩:=U2 ar q
  ·rw [e] at e2
   have:=congrArg Obj.cls (Option.some.inj e2)
   cases this
  ·rw [e] at e2
   have:=congrArg Obj.cls (Option.some.inj e2)
   cases this
 have hSame:Same (p8 K s₁.heap A) (B7 tabs (p8 K s₁.heap A)):=fun b o e=>by
  unfold B7
  rw [if_neg (argNo b o e)]
  exact e
 have hS:=DwAll.same hSame (bZ KX ar ds vals hwl hpl ho)
 have hV:=S7 ho
 have hTb:∀q∈tabs,B7 tabs (p8 K s₁.heap A) q.2=some (.tbl #[]):=fun q hq=>by
  unfold B7
  rw [if_pos (List.mem_map.mpr ⟨q,hq,rfl⟩)]
 have hO:∀b,B7 tabs (p8 K s₁.heap A) b=none∨(∃o u,B7 tabs (p8 K s₁.heap A) b=some (.frz o u))∨(b∈tabs.map (·.2)∧B7 tabs (p8 K s₁.heap A) b=some (.tbl #[])):=fun b=>by
  by_cases m:b∈tabs.map (·.2)
  ·exact .inr (.inr ⟨m,by unfold B7;rw [if_pos m]⟩)
  ·have e:B7 tabs (p8 K s₁.heap A) b=p8 K s₁.heap A b:=by unfold B7;rw [if_neg m]
   rw [e]
   rcases AZ ar b with z|z
   ·exact .inl z
   ·exact .inr (.inl z)
 have hok:HOk P w (B7 tabs (p8 K s₁.heap A)) s₁.heap:=fun b u e=>by
  by_cases m:b∈tabs.map (·.2)
  ·unfold B7 at e
   rw [if_pos m] at e
   cases e
   exact tabAt b m
  ·unfold B7 at e
   rw [if_neg m] at e
   exact (Dh ar b u e).stay (fun c v _ q=>q) (fun c q=>hSame _ _ q) fun c xs q=>hSame _ _ q
 have kNo:∀b o,K.lookup b=some o→b∉tabs.map (·.2):=fun b o e m=>by
  have e1:=tabAt b m
  rw [KX b o e] at e1
  have h2:=List.all_eq_true.mp nT (b,o) (PySem.W.mem_of_lookupK e)
  rw [Option.some.inj e1] at h2
  exact absurd (show false=true from h2) Bool.false_ne_true
 have nK:∀b o,K.lookup b=some o→B7 tabs (p8 K s₁.heap A) b=none:=fun b o e=>by
  unfold B7
  rw [if_neg (kNo b o e)]
  cases q:p8 K s₁.heap A b with
  | none=>rfl
  | some u=>
   rw [(U2 ar q).1] at e
   cases e
 have noA:∀{b:Addr} {o:Obj},s₁.heap.get? b=some o→o.cls≠.none→(∀vs n,o.data≠.seq vs n)→B7 tabs (p8 K s₁.heap A) b=none:=fun {b o} e hc d=>by
  unfold B7
  rw [if_neg (fun m=>by rw [tabAt b m] at e;exact hc (congrArg Obj.cls (Option.some.inj e)).symm)]
  cases q:p8 K s₁.heap A b with
  | none=>rfl
  | some u=>
   obtain ⟨_,vs,_,_,⟨e2,_⟩|⟨e2,_⟩⟩:=U2 ar q
   ·rw [e2] at e
    cases e
    exact absurd rfl (d _ _)
   ·rw [e2] at e
    cases e
    exact absurd rfl (d _ _)
 have noD:∀{b:Addr} {o:Obj} {es:Array DictEntry} {ep:Nat},s₁.heap.get? b=some o→o.data=.dict es ep→B7 tabs (p8 K s₁.heap A) b=none:=fun {b o es ep} e d=>by
  unfold B7
  rw [if_neg (fun m=>by rw [tabAt b m] at e;cases e;cases d)]
  cases q:p8 K s₁.heap A b with
  | none=>rfl
  | some u=>
   obtain ⟨_,vs,_,_,⟨e2,_⟩|⟨e2,_⟩⟩:=U2 ar q
   ·rw [e2] at e
    cases e
    cases d
   ·rw [e2] at e
    cases e
    cases d
 generalize B7 tabs (p8 K s₁.heap A)=H at hO hok hS nK noA noD hTb
 have noL:∀b ys,H b≠some (.lst ys):=fun b ys e=>by
  rcases hO b with z|⟨_,_,z⟩|⟨_,z⟩
  ·rw [e] at z
   cases z
  ·rw [e] at z
   cases z
  ·rw [e] at z
   cases z
 have base_of:∀{b:Addr} {o:Obj},s₁.heap.get? b=some o→H b=none→(L4 s₁.heap H).get? b=some o:=fun e n=>wC e n
 have nsK:∀{b:Addr} {m:Str→Option Value},s₁.heap.Ns b m→(L4 s₁.heap H).Ns b m:=fun {b m} ⟨o,es,ep,e,d,r⟩=>⟨o,es,ep,base_of e (noD e d),d,r⟩
 have hKb:K.In (L4 s₁.heap H):=fun b o e=>base_of (KX b o e) (nK b o e)
 have hM:Mod K mg (L4 s₁.heap H):=⟨hKb,nsK hns,⟨mb,nsK hb,hbb⟩,let ⟨mc,h1,h2⟩:=hlim;⟨mc,nsK h1,h2⟩⟩
 have e0:Env0 P w K mg (L4 s₁.heap H) callerA [] s₁ H:=⟨rfl,hM,fun b o e=>zK e,Nat.le_of_eq (DC _ _),trivial,fun b hb=>absurd (show b∈([]:List Addr) from hb) (by simp),hok,.of_eq hg⟩
 have hl:vals.length=ps.length:=by rw [cB hwl];exact hlen
 have hC:∀q∈tabs,CodeHd (L4 s₁.heap H) q.1 q.2:=fun q hq=>by
  obtain ⟨o,vs,file,tf,flags,tg,inF,text,tt,e1,r1,r2,r⟩:=(hT q hq).1
  refine ⟨o,vs,file,tf,flags,tg,inF,text,tt,base_of e1 (noA e1 (by rw [r1];intro z;cases z) fun vs n z=>by rw [r2] at z;cases z),r1,r2,r⟩
 have hB:Bm mg (L4 s₁.heap H):=by
  obtain ⟨bm,ob,b1,b2,b3,b4,b5,b6⟩:=hbm
  exact ⟨bm,ob,b1,b2,base_of b3 (noA b3 (by rw [b4];intro z;cases z) fun vs n z=>by rw [b6] at z;cases z),b4,b5,b6⟩
 refine codeAny_mono ((F _ hKb (nsK hns) hC hB).run callerA [] s₁ H ⟨vals,[]⟩ vals (vals.map u4) _ _ hr e0 (hbind s₁ vals hl) hV (hsp H _ hTb noL hS)) fun r s' x=>?_
 cases r with
 | error e=>exact (hCX H e s' x).elim
 | ok fl=>
  cases fl with
  | next=>exact False.elim x
  | brk=>exact False.elim x
  | cont=>exact False.elim x
  | ret u=>
   obtain ⟨v,H',os,bare,un,hok',r',q⟩:=x
   have kept:∀b o,b∉tabs.map (·.2)→s₁.heap.get? b=some o→s'.heap.get? b=some o:=fun b o nm e=>by
    rcases hO b with z|⟨ob,u3,z⟩|⟨m,_⟩
    ·exact un.keep b o e z (by intro z;exact absurd (show b∈([]:List Addr) from z) (by simp)) (by simp)
    ·have z2:=un.frzs b ob _ z
     obtain ⟨e1,_⟩:=hok b _ z
     obtain ⟨e2,_⟩:=hok' b _ z2
     rw [e] at e1
     cases e1
     exact e2
    ·exact absurd m nm
   have grown:∀b,b∈tabs.map (·.2)→∃more,s'.heap.get? b=some (tabObj more):=fun b m=>by
    obtain ⟨q,hq,rfl⟩:=List.mem_map.mp m
    obtain ⟨more,e⟩:=un.tbls _ _ (hTb q hq)
    exact ⟨_,pI hok' e⟩
   have KX':K.In s'.heap:=fun b o e=>kept b o (kNo b o e) (KX b o e)
   obtain ⟨as,hrd⟩:=Dw.reads (R:=R) (cl:=cl) hok' KX' d0 v u q r'
   refine ⟨u,as,rfl,hrd,⟨fun b o e=>?_,fun b o e=>?_⟩,os,bare⟩
   ·by_cases m:b∈tabs.map (·.2)
    ·have e2:=tabAt b m
     rw [e] at e2
     obtain rfl:=Option.some.inj e2
     obtain ⟨q2,hq,eb⟩:=List.mem_map.mp m
     obtain ⟨more,e3⟩:=grown b m
     refine .inr (.inl ⟨?_,rfl,#[],more,rfl,by rw [Array.empty_append];exact e3⟩)
     rw [←eb]
     exact ((hT q2 hq).1.tab (hT q2 hq).2).isCodeTable
    ·exact .inl (kept b o m e)
   ·by_cases m:b∈tabs.map (·.2)
    ·obtain ⟨more,e3⟩:=grown b m
     exact ⟨_,e3⟩
    ·exact ⟨o,kept b o m e⟩
theorem walk_specT {r:OpenSpec} {k:Nat} {q:Program} {loose:List Str} {XP:(Str→Option Value)→Heap→Prop} {YP:World→Heap→Prop} {d:DefRec} {K:Params→PySem.W.Frag} {ps:List Str} {tabs:Params→List (Addr×Addr)} {sp:PySem.W.Frag→List (Addr×Addr)→Sp}
  (hwell:r.wellSaid=true) (hdf:d.params.defaults=[]) (hlen:r.args.length=ps.length) (hr:Room k callerA)
  (hY:∀(w:World) (h:Heap),YP w h→(K w.params).In h) (nT:∀p,noTabs (K p)=true)
  (hT:∀(w:World) (mean:ExcName→Option Value) (mg mb:Str→Option Value) (h:Heap),(K w.params).In h→Top q (PySem.W.looseW q loose) mean mg mb h→TabsAt (tabs w.params) h)
  (F:∀(w:World) (mg:Str→Option Value) (fa:Addr) (h:Heap),YP w h→(K w.params).In h→h.Ns mainGlobals mg→mg d.name=some (.ref fa)→
   ∃fd:FuncData,(∀(s:Shared) (us:List Value),us.length=ps.length→BindsTo s fd ⟨us,[]⟩ (ps.zip us))∧
    ∀base:Heap,(K w.params).In base→base.Ns mainGlobals mg→(∀q∈tabs w.params,CodeHd base q.1 q.2)→Bm mg base→C9 r.prog w (K w.params) mg base x8 k fa fd ps (sp (K w.params) (tabs w.params)))
  (hsp:∀(K:PySem.W.Frag) (tabs:List (Addr×Addr)) (H:Hp) (xs:List V) (a:Codec.denoteAll r.args),(∀q∈tabs,H q.2=some (.tbl #[]))→(∀b ys,H b≠some (.lst ys))→Codec.withinAll r.args a=true→Codec.app r.args r.asked a=true→DwAll K H xs (Codec.encAll r.args a)→
   sp K tabs xs H (fun v H'=>Dw K H' v (r.ret.enc (Codec.app r.args r.f a))) fun _ _ _=>False) :
  PySem.W.WalkOS q loose XP YP r d [] (fun f vs=>PySem.call f vs):=by
 intro w s_0 s₁ mg mb G Y fa o pm cd doc dV kV ho hd hcd hD hmg hg args vals as hpre hlay hrd hwl hlo
 obtain ⟨a,e1,e2⟩:=PySem.W.os_pre_some hpre
 obtain ⟨e3,hwi⟩:=Codec.encAll_of_decAll r.args args a e1
 subst e3
 have KX:=hY w _ Y
 obtain ⟨fd,hb,hF⟩:=F w mg fa _ Y KX G.T.g hmg
 refine PySem.W.enter_call (codeAny_mono (AJ (R:=[]) (cl:=classAt s_0.heap) (d0:=r.ret.enc (Codec.app r.args r.f a)) KX (hT w _ mg mb _ KX G.T) (nT _) G.T.bmain G.T.g G.T.b G.T.builtins G.T.nolimit hg hwl (oG _ _) (wO hlay) hr hF hb (by rw [lF];exact hlen)
  (fun H xs hO hN hS=>hsp (K w.params) (tabs w.params) H xs a hO hN hwi e2 hS) fun H e s' z=>z) fun r' s' hq=>?_)
 obtain ⟨u,as',rfl,h1,h2,h3,h4⟩:=hq
 exact ⟨.inl ⟨u,_,as',rfl,fun _=>rfl,h1,(OpenSpec.post_iff hwell hwi _ _).mpr rfl,fun z=>Bool.noConfusion (show false=true from z)⟩,h2,h3,h4⟩
structure GI (mg:Str→Option Value) (x:Str) (i:Int):Prop where
 ex:∃t,mg x=some (.int i t)
theorem i8 {X:Cx} {x:Str} {i:Int} {pos:Pos} (G:GI X.mg x i) (hg:Gl X x:=by rfl) (hd:(x==("__debug__":Str))=false:=by decide):PE X (.Name x pos) (tC (.int i)):=by
 obtain ⟨t,e⟩:=G.ex
 exact oM (v:=V.int i) hg e ⟨t,rfl⟩ hd
theorem fQ {X:Cx} {x:Str} {a:Addr} {pos:Pos} (e:X.mg x=some (.ref a)) (hg:Gl X x:=by rfl) (hd:(x==("__debug__":Str))=false:=by decide):PE X (.Name x pos) (tC (.ref a)):=
 oM (v:=V.ref a) hg e rfl hd
def R1:Value→Bool
 | .none=>true
 | .bool _=>true
 | .int _ _=>true
 | .str _ _=>true
 | .ref _=>true
 | _=>false
theorem nZ {u:Value} (h:R1 u=true):RelV (u4 u) u:=by
 cases u with
 | none=>rfl
 | bool b=>rfl
 | int i t=>exact ⟨t,rfl⟩
 | str s t=>exact ⟨t,rfl⟩
 | ref a=>rfl
 | _=>exact Bool.noConfusion (show false=true from h)
theorem iT:∀{us:List Value},us.all R1=true→Vals (us.map u4) us
 | [],_=>.nil
 | u::r,h=>by
  rw [List.all_cons,Bool.and_eq_true] at h
  exact .cons (nZ h.1) (iT h.2)
theorem zP {K:PySem.W.Frag} {a:Addr} {cls:Value} {dd:Option Addr} {its:Array Value} {n:Nat} {sl:Array (Option Value)} {xs:List V} (h:K.lookup a=some ⟨cls,dd,.seq its n,sl⟩) (hc:cls=.type "tuple") (hs:its.size≤1000) (hp:its.toList.all R1=true) (hx:its.toList.map u4=xs) (H:Hp) :
  SqT K H a xs:=.inr ⟨_,its,n,h,hc,rfl,Nat.le_trans hs (by decide),by rw [←hx];exact iT hp⟩
structure KD (P:Program) (w:World) (K:PySem.W.Frag) (a:Addr) (kvs:List (d9×V)):Prop where
 ns:(a==sysModules)=false
 at_:∀h,K.In h→∃vs,KV kvs vs∧h.DictOf (p6 P w) a vs
def bM:DictEntry→Option (Int×Value)
 | ⟨hs,.int k _,v⟩=>if hs=hashInt k∧R1 v=true then some (k,v) else none
 | _=>none
theorem kH {P:Program} {w:World}:∀{es:List DictEntry} {kvs:List (Int×Value)},es.map bM=kvs.map some→Pairs (p6 P w) es (kvs.map fun p=>(Sum.inl p.1,p.2))∧(∀e∈es,∃k,(p6 P w).is k e.key=true∧e.hash=(p6 P w).hash k)∧kvs.all (fun p=>R1 p.2)=true
 | [],[],_=>⟨.nil,(fun e m=>nomatch m),rfl⟩
 | [],_::_,h=>nomatch h
 | _::_,[],h=>nomatch h
 | e::es,p::kvs,h=>by
  rw [List.map_cons,List.map_cons] at h
  obtain ⟨h1,h2⟩:=List.cons.inj h
  obtain ⟨r1,r2,r3⟩:=kH (P:=P) (w:=w) h2
  obtain ⟨hs,k,v⟩:=e
  cases k with
  | int k t=>
   unfold bM at h1
   dsimp only at h1
   split at h1
   ·rename_i q
    have e:=Option.some.inj h1
    subst e
    refine ⟨.cons (gK P w k t) rfl r1,fun e' m=>?_,by rw [List.all_cons,r3,q.2];rfl⟩
    rcases List.mem_cons.mp m with z|z
    ·subst z
     exact ⟨.inl k,gK P w k t,q.1⟩
    ·exact r2 e' z
   ·cases h1
  | _=>cases h1
theorem DV {P:Program} {w:World} {K:PySem.W.Frag} {a:Addr} {cls:Value} {dd:Option Addr} {es:Array DictEntry} {n:Nat} {sl:Array (Option Value)} {kvs:List (Int×Value)} (h:K.lookup a=some ⟨cls,dd,.dict es n,sl⟩) (hc:cls=.type "dict") (hd:dd=none) (hsl:sl=#[])
  (he:es.toList.map bM=kvs.map some) (hn:(kvs.map (·.1)).Nodup) (ns:(a==sysModules)=false):KD P w K a (kvs.map fun p=>(Sum.inl p.1,u4 p.2)):=by
 obtain ⟨h1,h2,h3⟩:=kH (P:=P) (w:=w) he
 refine ⟨ns,fun hp KX=>⟨kvs.map fun p=>(Sum.inl p.1,p.2),?_,_,es,n,KX _ _ h,⟨hc,hd,hsl⟩,rfl,fun e m=>h2 e (by simpa using m),h1,?_⟩⟩
 ·clear he hn h1 h2
  unfold KV
  induction kvs with
  | nil=>exact .nil
  | cons p r ih=>
   rw [List.all_cons,Bool.and_eq_true] at h3
   exact .cons ⟨rfl,nZ h3.1⟩ (ih h3.2)
 ·rw [List.map_map]
  have e:((fun x:d9×Value=>x.1)∘fun p:Int×Value=>((Sum.inl p.1:d9),p.2))=(Sum.inl:Int→d9)∘fun p:Int×Value=>p.1:=rfl
  rw [e,←List.map_map]
  exact List.Pairwise.map _ (fun a b q z=>q (Sum.inl.inj z)) hn
section
variable {X:Cx} {o i:Expr} {pos:Pos} {td ty:TE}
def vN (P:Program) (w:World) (K:PySem.W.Frag) (td ty:TE):TE:=fun σ H Q=>td σ H fun x H1=>ty σ H1 fun y H2=>∃a kvs k v,x=.ref a∧KD P w K a kvs∧y=kV k∧i7 kvs k=some v∧Q v H2
def iG (P:Program) (w:World) (K:PySem.W.Frag) (neg:Bool) (ty td:TE):TE:=fun σ H Q=>ty σ H fun y H1=>td σ H1 fun x H2=>∃a kvs k,x=.ref a∧KD P w K a kvs∧y=kV k∧Q (.bl (if neg then !(i7 kvs k).isSome else (i7 kvs k).isSome)) H2
theorem fR (ho:PE X o td) (hi:PE X i ty) (hs:fM i):PE X (.Subscript o i pos) (vN X.prog X.w X.K td ty):=by
 intro pins s σ H Q I h
 refine nW PySem.F.slot_dict_getitem.lookup hs (g6 (ho pins s σ H _ I h) fun u s1 ⟨x,H1,I1,rx,q1⟩=>g6 (hi pins s1 σ H1 _ I1 q1) fun iv s2 ⟨y,H2,I2,ry,a,kvs,k,v,ex,g,ey,l,q2⟩=>?_)
 subst ex ey
 obtain rfl:u=Value.ref a:=rx
 obtain ⟨vs,rel,dd⟩:=g.at_ _ I2.kIn
 obtain ⟨w',hw,rw'⟩:=RelO.some_of (v:=v) (o:=valueAt vs k) (by rw [←l];exact rel.val k)
 refine ⟨?_,wpAny_getItem_of (K3 ry) dd.mapOf hw ⟨v,H2,I2.tok _,rw',q2⟩⟩
 obtain ⟨ob,_,_,h1,h2,_⟩:=dd
 exact ⟨ob,h1,h2.1⟩
theorem jW (hi:PE X i ty) (ho:PE X o td):PC X .In i o (iG X.prog X.w X.K false ty td):=by
 intro pins s σ H Q I h
 refine g6 (hi pins s σ H _ I h) fun iv s1 ⟨y,H1,I1,ry,q1⟩=>g6 (ho pins s1 σ H1 _ I1 q1) fun u s2 ⟨x,H2,I2,rx,a,kvs,k,ex,g,ey,q2⟩=>?_
 subst ex ey
 obtain rfl:u=Value.ref a:=rx
 obtain ⟨vs,rel,dd⟩:=g.at_ _ I2.kIn
 refine wpAny_in_of (K3 ry) g.ns dd.mapOf ?_
 rw [←(rel.val k).isSome_eq]
 exact ⟨.bl _,H2,I2.tok _,rfl,q2⟩
theorem CL (hi:PE X i ty) (ho:PE X o td):PC X .NotIn i o (iG X.prog X.w X.K true ty td):=by
 intro pins s σ H Q I h
 refine g6 (hi pins s σ H _ I h) fun iv s1 ⟨y,H1,I1,ry,q1⟩=>g6 (ho pins s1 σ H1 _ I1 q1) fun u s2 ⟨x,H2,I2,rx,a,kvs,k,ex,g,ey,q2⟩=>?_
 subst ex ey
 obtain rfl:u=Value.ref a:=rx
 obtain ⟨vs,rel,dd⟩:=g.at_ _ I2.kIn
 refine wpAny_notIn_of (K3 ry) g.ns dd.mapOf ?_
 rw [←(rel.val k).isSome_eq]
 exact ⟨.bl _,H2,I2.tok _,rfl,q2⟩
end
theorem uX {X:Cx}:bG X "list.count" (fun x xs H Q=>∃(a:Addr) (ns:List Int) (k:Int),x=.ref a∧xs=[.int k]∧SqL X.K H a (ns.map V.int)∧Q (.int (ns.count k:Nat)) H):=by
 intro pins s σ H x xs v us Q I rx rxs h
 obtain ⟨a,ns,k,rfl,rfl,hs,q⟩:=h
 cases rx
 obtain ⟨u,rfl,t,rfl⟩:=vals1 rxs
 obtain ⟨its,rv,hl,_⟩:=I.list hs
 exact count_list_ints hl.isList rv.ints ⟨.int (ns.count k:Nat),H,I.tok _,⟨_,rfl⟩,q⟩
end L2
namespace Mt
open Vbrgae
theorem V6 {l:List Nat} {i d:Nat} (h:i < l.length):l[i]?=some (l.getD i d):=by
 rw [List.getD_eq_getElem?_getD,List.getElem?_eq_getElem h]
 rfl
theorem pV {p:Nat→Bool} {n:Nat}:∀(k:Nat),(∀j,n≤j→p j=false)→(List.range (n+k)).filter p=(List.range n).filter p
 | 0,_=>rfl
 | k+1,h=>by
  rw [←Nat.add_assoc,List.range_succ,List.filter_append,pV k h]
  simp [h (n+k) (by omega)]
theorem mI (l:List Nat):l.zipIdx=(List.range l.length).map fun i=>(l.getD i 0,i):=by
 apply List.ext_getElem?
 intro i
 rw [List.getElem?_zipIdx,List.getElem?_map]
 by_cases h:i < l.length
 ·rw [V6 (d:=0) h,List.getElem?_range h]
  simp
 ·rw [List.getElem?_eq_none (by omega),List.getElem?_eq_none (by rw [List.length_range];omega)]
  rfl
theorem Ap (n j:Nat):(List.range n).countP (fun i=>i==j)≤1:=by
 induction n with
 | zero=>simp
 | succ n ih=>
  rw [List.range_succ,List.countP_append]
  by_cases h:n=j
  ·subst h
   have:(List.range n).countP (fun i=>i==n)=0:=by
    rw [List.countP_eq_zero]
    intro a ha
    have:=List.mem_range.mp ha
    simp;omega
   rw [this];simp
  ·have e:[n].countP (fun i=>i==j)=0:=by simp [h]
   omega
theorem iK {p q:Nat→Bool}:∀l:List Nat,l.countP (fun i=>p i || q i)≤l.countP p+l.countP q
 | []=>by simp
 | a::l=>by
  have ih:=iK (p:=p) (q:=q) l
  rw [List.countP_cons,List.countP_cons,List.countP_cons]
  cases p a<;>cases q a<;>simp<;>omega
theorem X8:∀{N:Nat} {l:List Nat},l.Nodup→(∀x∈l,x < N)→l.length≤N
 | 0,l,_,h=>by
  cases l with
  | nil=>simp
  | cons a r=>exact absurd (h a (by simp)) (by omega)
 | N+1,l,hn,h=>by
  have h1:=X8 (N:=N) (l:=l.erase N) (hn.erase N) fun x hx=>by
   have h2:=h x (List.mem_of_mem_erase hx)
   have h3:x≠N:=fun e=>by subst e;exact (List.Nodup.not_mem_erase hn) hx
   omega
  rw [List.length_erase] at h1
  split at h1<;>omega
theorem gG (cells:List Nat):thingsIn cells=(List.range cells.length).filter fun i=>isThing (cells.getD i 0):=by
 unfold thingsIn
 rw [mI,List.filter_map,List.map_map]
 conv=>rhs;rw [←List.map_id ((List.range cells.length).filter fun i=>isThing (cells.getD i 0))]
 rfl
theorem things_mem {cells:List Nat} {i:Nat}:i∈thingsIn cells↔i < cells.length∧isThing (cells.getD i 0)=true:=by
 rw [gG,List.mem_filter,List.mem_range]
theorem DA (cells:List Nat):(thingsIn cells).Nodup:=by
 rw [gG]
 exact List.Pairwise.filter _ List.nodup_range
structure Rt (L:Level):Prop where
 w2:2≤L.w
 w10:L.w≤10
 h2:2≤L.h
 h10:L.h≤10
 len:L.cells.length=L.w*L.h
 codes:∀c∈L.cells,c≤21
 ft:fault L.cells=0
def nT (L:Level):Nat:=(thingsIn L.cells).length
theorem fY {cells:List Nat} (h:fault cells=0):(cells.filter fun k=>k==2).length=1∧cells.contains 3=true∧(thingsIn cells).length≤6:=by
 unfold fault at h
 split at h
 ·exact absurd h (by decide)
 ·rename_i h1
  split at h
  ·exact absurd h (by decide)
  ·rename_i h2
   have h2':(thingsIn cells).length≤6:=by unfold THINGS at h2;omega
   refine ⟨?_,?_,h2'⟩
   ·exact Decidable.of_not_not fun z=>h1 (.inl z)
   ·cases e:cells.contains 3 with
    | true=>rfl
    | false=>exact absurd (.inr e) h1
theorem tR (cells:List Nat):fault cells=-4∨fault cells=-5∨fault cells=0:=by
 unfold fault
 split
 ·exact .inl rfl
 ·split
  ·exact .inr (.inl rfl)
  ·exact .inr (.inr rfl)
theorem Rt.nT_le {L:Level} (h:Rt L):nT L≤6:=(fY h.ft).2.2
theorem Rt.size_le {L:Level} (h:Rt L):L.w*L.h≤100:=by
 have:=Nat.mul_le_mul h.w10 h.h10
 omega
theorem Rt.size_pos {L:Level} (h:Rt L):4≤L.w*L.h:=by
 have:=Nat.mul_le_mul h.w2 h.h2
 omega
theorem Rt.code_le {L:Level} (h:Rt L) (i:Nat):codeAt L i≤21:=by
 unfold codeAt
 rw [List.getD_eq_getElem?_getD]
 cases e:L.cells[i]? with
 | none=>simp
 | some c=>exact h.codes c (List.mem_of_getElem? e)
theorem Z4 (L:Level):(boardOf L).things=thingsIn L.cells:=rfl
theorem Y0 (L:Level):(boardOf L).level=L:=rfl
theorem kM {L:Level} {i:Nat} (h:i∈thingsIn L.cells):bitOf (boardOf L) i < nT L:=by
 unfold bitOf nT
 exact List.findIdx_lt_length_of_exists ⟨i,h,by simp⟩
theorem wM {L:Level} {i:Nat} (h:i∈thingsIn L.cells):(thingsIn L.cells)[bitOf (boardOf L) i]?=some i:=by
 have h1:=kM h
 unfold bitOf at h1 ⊢
 rw [List.getElem?_eq_getElem h1]
 have:=List.findIdx_getElem (xs:=(boardOf L).things) (p:=fun t=>t==i) (w:=h1)
 simp at this
 exact congrArg some this
def val:List Bool→Nat
 | []=>0
 | b::r=>b.toNat+2*val r
theorem jC:∀(bs:List Bool) (j:Nat),(val bs).testBit j=bs.getD j false
 | [],j=>by simp [val]
 | b::r,0=>by
  rw [Nat.testBit_zero]
  cases b<;>simp [val]<;>omega
 | b::r,j+1=>by
  rw [Nat.testBit_succ]
  have:val (b::r) / 2=val r:=by
   cases b<;>simp [val]<;>omega
  rw [this,jC r j]
  simp
theorem jE:∀(bs:List Bool) (b:Bool),val (bs++[b])=val bs+b.toNat*2 ^ bs.length
 | [],b=>by cases b<;>rfl
 | a::r,b=>by
  show a.toNat+2*val (r++[b])=(a.toNat+2*val r)+b.toNat*2 ^ (r.length+1)
  rw [jE r b,Nat.pow_succ,Nat.mul_add]
  have:2*(b.toNat*2 ^ r.length)=b.toNat*(2 ^ r.length*2):=by
   rw [Nat.mul_comm 2,Nat.mul_assoc]
  omega
def K5 (L:Level) (c:Nat):Nat:=val ((thingsIn L.cells).map fun i=>codeAt L i==c)
def J1 (L:Level) (m c j:Nat):Bool:=m.testBit j && (codeAt L ((thingsIn L.cells).getD j 0)==c)
theorem aF (L:Level) (m c j:Nat):(m &&& K5 L c).testBit j=(decide (j < nT L) && J1 L m c j):=by
 rw [Nat.testBit_and]
 unfold K5 J1
 rw [jC,List.getD_eq_getElem?_getD,List.getElem?_map]
 by_cases h:j < nT L
 ·rw [V6 (d:=0) h]
  simp [h]
 ·rw [List.getElem?_eq_none (by unfold nT at h;omega)]
  simp [h]
theorem K1 (L:Level) (m c:Nat):marked (boardOf L) m c=(List.range (nT L)).countP (J1 L m c):=by
 unfold marked
 rw [Z4,mI,List.filter_map,List.length_map,List.countP_eq_length_filter]
 rfl
def cnt (x:Nat):Nat:=((List.range 8).filter fun j=>x.testBit j).length
theorem iQ {L:Level} (h:Rt L) (m c:Nat):cnt (m &&& K5 L c)=marked (boardOf L) m c:=by
 rw [K1,List.countP_eq_length_filter]
 unfold cnt
 have hn:=h.nT_le
 obtain ⟨k,hk⟩:∃k,8=nT L+k:=⟨8 - nT L,by omega⟩
 rw [hk,pV k fun j hj=>by rw [aF];simp;intro;omega]
 congr 1
 apply List.filter_congr
 intro j hj
 rw [aF]
 simp [List.mem_range.mp hj]
theorem mZ {L:Level} (m c:Nat):(m &&& K5 L c≠0)↔0 < marked (boardOf L) m c:=by
 rw [K1,List.countP_pos_iff]
 constructor
 ·intro h
  obtain ⟨j,hj⟩:=Nat.exists_testBit_of_ne_zero h
  rw [aF] at hj
  simp at hj
  exact ⟨j,List.mem_range.mpr hj.1,hj.2⟩
 ·rintro ⟨j,hj,e⟩ z
  have:=aF L m c j
  rw [z] at this
  simp [List.mem_range.mp hj,e] at this
theorem sN (m j:Nat):(m &&& 2 ^ j≠0)↔m.testBit j=true:=by
 constructor
 ·intro h
  obtain ⟨i,hi⟩:=Nat.exists_testBit_of_ne_zero h
  rw [Nat.testBit_and,Nat.testBit_two_pow] at hi
  simp at hi
  rw [hi.2]
  exact hi.1
 ·intro h z
  have e:(m &&& 2 ^ j).testBit j=true:=by
   rw [Nat.testBit_and,Nat.testBit_two_pow,h]
   simp
  rw [z] at e
  simp at e
structure Good (L:Level) (s:Spot):Prop where
 lt:s.at_ < L.w*L.h
 mks:s.marks < 2 ^ (nT L+2)
 kl:marked (boardOf L) s.marks 5≤marked (boardOf L) s.marks 4
theorem yH {L:Level} {m m' c:Nat} (h:∀j,j < nT L→m.testBit j=m'.testBit j):marked (boardOf L) m c=marked (boardOf L) m' c:=by
 rw [K1,K1]
 apply List.countP_congr
 intro j hj
 unfold J1
 rw [h j (List.mem_range.mp hj)]
theorem aC (m i j:Nat):(m ||| 2 ^ i).testBit j=(m.testBit j || decide (i=j)):=by
 rw [Nat.testBit_or,Nat.testBit_two_pow]
theorem pF {L:Level} {m i c:Nat} (h:i∈thingsIn L.cells) (hc:codeAt L i≠c):marked (boardOf L) (m ||| 2 ^ bitOf (boardOf L) i) c=marked (boardOf L) m c:=by
 rw [K1,K1]
 apply List.countP_congr
 intro j hj
 unfold J1
 rw [aC]
 by_cases e:bitOf (boardOf L) i=j
 ·have h1:=wM h
  rw [e] at h1
  have:(thingsIn L.cells).getD j 0=i:=by rw [List.getD_eq_getElem?_getD,h1];rfl
  rw [this]
  simp [hc]
 ·simp [e]
theorem CZ {L:Level} {m i c:Nat}:marked (boardOf L) m c≤marked (boardOf L) (m ||| 2 ^ i) c:=by
 rw [K1,K1]
 apply List.countP_mono_left
 intro j hj e
 unfold J1 at e ⊢
 rw [aC]
 simp at e ⊢
 exact ⟨.inl e.1,e.2⟩
theorem Aq {L:Level} {m i c:Nat}:marked (boardOf L) (m ||| 2 ^ i) c≤marked (boardOf L) m c+1:=by
 rw [K1,K1]
 have h1:=iK (p:=J1 L m c) (q:=fun j=>j==i) (List.range (nT L))
 have h2:=Ap (nT L) i
 have h3:(List.range (nT L)).countP (J1 L (m ||| 2 ^ i) c)≤(List.range (nT L)).countP (fun j=>J1 L m c j || j==i):=by
  apply List.countP_mono_left
  intro j hj e
  unfold J1 at e ⊢
  rw [aC] at e
  simp at e ⊢
  rcases e with ⟨e1|e1,e2⟩
  ·exact .inl ⟨e1,e2⟩
  ·exact .inr e1.symm
 omega
theorem jB {L:Level} (b:Bool):2 ^ leverBit (boardOf L) b < 2 ^ (nT L+2):=by
 apply Nat.pow_lt_pow_right (by decide)
 unfold leverBit
 rw [Z4]
 show (thingsIn L.cells).length+_ < (thingsIn L.cells).length+2
 cases b<;>simp
theorem aS {L:Level} {m c:Nat} (b:Bool):marked (boardOf L) (m ^^^ 2 ^ leverBit (boardOf L) b) c=marked (boardOf L) m c:=by
 apply yH
 intro j hj
 rw [Nat.testBit_xor,Nat.testBit_two_pow]
 have:leverBit (boardOf L) b≠j:=by
  unfold leverBit
  rw [Z4]
  unfold nT at hj
  omega
 simp [this]
theorem bV {L:Level} {i:Nat} (hi:i < L.cells.length) (h:isThing (codeAt L i)=true):i∈thingsIn L.cells:=things_mem.mpr ⟨hi,h⟩
theorem EX {L:Level} (R:Rt L) {m d i m':Nat} (hi:i < L.w*L.h) (hm:m < 2 ^ (nT L+2)) (hk:marked (boardOf L) m 5≤marked (boardOf L) m 4) (h:enter (boardOf L) m d i=some m'):m' < 2 ^ (nT L+2)∧marked (boardOf L) m' 5≤marked (boardOf L) m' 4:=by
 have hi':i < L.cells.length:=by rw [R.len];exact hi
 have orlt:i∈thingsIn L.cells→m ||| 2 ^ bitOf (boardOf L) i < 2 ^ (nT L+2):=fun z=>by
  apply Nat.or_lt_two_pow hm
  apply Nat.pow_lt_pow_right (by decide)
  have:=kM z
  omega
 unfold enter at h
 dsimp only at h
 rw [Y0] at h
 split at h
 ·cases h
 split at h
 ·rename_i h1
  have z:i∈thingsIn L.cells:=bV hi' (by
   unfold isThing
   rcases h1 with h1|⟨h1,h2⟩
   ·simp [h1]
   ·have:codeAt L i=12∨codeAt L i=13∨codeAt L i=14:=by omega
    rcases this with e|e|e<;>simp [e])
  cases h
  refine ⟨orlt z,?_⟩
  rw [pF (c:=5) z (by omega)]
  exact Nat.le_trans hk CZ
 split at h
 ·rename_i h1
  have z:i∈thingsIn L.cells:=bV hi' (by unfold isThing;simp [h1])
  split at h
  ·cases h;exact ⟨hm,hk⟩
  ·split at h
   ·rename_i h3
    cases h
    refine ⟨orlt z,?_⟩
    rw [pF (c:=4) z (by omega)]
    have:=Aq (L:=L) (m:=m) (i:=bitOf (boardOf L) i) (c:=5)
    unfold inHand at h3
    omega
   ·cases h
 all_goals
  repeat' (split at h)
  all_goals first
   | (cases h;exact ⟨hm,hk⟩)
   | cases h
theorem fU {L:Level} (R:Rt L) {i d j:Nat} (hi:i < L.w*L.h) (h:toward L i d=some j):j < L.w*L.h:=by
 have hw:=R.w2
 unfold toward at h
 split at h
 ·split at h
  ·cases h
  ·cases h;omega
 split at h
 ·split at h
  ·cases h
  ·cases h
   rename_i h1
   have hh:=R.h2
   have h2:i % L.w < L.w:=Nat.mod_lt _ (by omega)
   have h3:=Nat.div_add_mod i L.w
   have h4:i / L.w < L.h:=by
    apply Nat.div_lt_of_lt_mul
    exact hi
   have h5:L.w*(i / L.w)+L.w≤L.w*L.h:=by
    have:=Nat.mul_le_mul_left L.w (Nat.succ_le_of_lt h4)
    rwa [Nat.mul_succ] at this
   omega
 split at h
 ·split at h
  ·cases h
  ·cases h;omega
 split at h
 ·split at h
  ·cases h
  ·cases h;omega
 ·cases h
theorem M7 {L:Level} (R:Rt L) {s t:Spot} {d:Nat} (g:Good L s) (h:act (boardOf L) s d=some t):Good L t:=by
 unfold act at h
 dsimp only at h
 rw [Y0] at h
 split at h
 ·cases h
 split at h
 ·split at h
  ·cases h
   exact ⟨g.lt,Nat.xor_lt_two_pow g.mks (jB _),by show marked _ (_ ^^^ _) 5≤marked _ (_ ^^^ _) 4;rw [aS,aS];exact g.kl⟩
  ·split at h
   ·cases h
    exact ⟨g.lt,Nat.xor_lt_two_pow g.mks (jB _),by show marked _ (_ ^^^ _) 5≤marked _ (_ ^^^ _) 4;rw [aS,aS];exact g.kl⟩
   ·cases h
 split at h
 ·cases h
 split at h
 ·cases h
 ·rename_i i hi
  split at h
  ·cases h
  ·rename_i m hm
   cases h
   have h1:=fU R g.lt hi
   obtain ⟨h2,h3⟩:=EX R h1 g.mks g.kl hm
   exact ⟨h1,h2,h3⟩
theorem bQ (L:Level):size (boardOf L)=L.w*L.h:=rfl
theorem P9 {L:Level} (R:Rt L) {s:Spot} (g:Good L s):numberOf (boardOf L) s < spots (boardOf L):=by
 unfold numberOf spots marksMost
 rw [bQ,Z4]
 have h1:=g.lt
 have h2:=g.mks
 unfold nT at h2
 have h3:(s.marks+1)*(L.w*L.h)≤2 ^ ((thingsIn L.cells).length+2)*(L.w*L.h):=Nat.mul_le_mul_right _ h2
 rw [Nat.succ_mul] at h3
 rw [Nat.mul_comm (L.w*L.h)]
 omega
theorem N7 {L:Level} {s:Spot} (g:Good L s):numberOf (boardOf L) s % (L.w*L.h)=s.at_:=by
 unfold numberOf
 rw [bQ,Nat.mul_comm,Nat.mul_add_mod,Nat.mod_eq_of_lt g.lt]
theorem W0 {L:Level} {s:Spot} (g:Good L s):numberOf (boardOf L) s / (L.w*L.h)=s.marks:=by
 have h:=g.lt
 unfold numberOf
 rw [bQ,Nat.mul_comm,Nat.mul_add_div (by omega),Nat.div_eq_of_lt g.lt]
 rfl
theorem P7 {L:Level} {s t:Spot} (g:Good L s) (g':Good L t) (h:numberOf (boardOf L) s=numberOf (boardOf L) t):s=t:=by
 have h1:=N7 g
 have h2:=W0 g
 rw [h,N7 g'] at h1
 rw [h,W0 g'] at h2
 cases s;cases t
 simp at h1 h2
 simp [h1,h2]
theorem X9 {L:Level} (R:Rt L):spots (boardOf L)≤25600:=by
 unfold spots marksMost
 rw [bQ,Z4]
 have h1:=R.size_le
 have h2:=R.nT_le
 unfold nT at h2
 have h3:2 ^ ((thingsIn L.cells).length+2)≤2 ^ 8:=Nat.pow_le_pow_right (by decide) (by omega)
 have:=Nat.mul_le_mul h1 h3
 omega
theorem V9 {L:Level} (R:Rt L):Good L (beginning L):=by
 have h1:=(fY R.ft).1
 refine ⟨?_,by show 0 < _;exact Nat.two_pow_pos _,?_⟩
 ·show (L.cells.findIdx fun k=>k==2) < L.w*L.h
  rw [←R.len]
  apply List.findIdx_lt_length_of_exists
  have:(L.cells.filter fun k=>k==2)≠[]:=by intro z;rw [z] at h1;cases h1
  obtain ⟨x,hx⟩:=List.exists_mem_of_ne_nil _ this
  rw [List.mem_filter] at hx
  exact ⟨x,hx.1,hx.2⟩
 ·show marked (boardOf L) 0 5≤marked (boardOf L) 0 4
  rw [K1,K1]
  have:∀c,(List.range (nT L)).countP (J1 L 0 c)=0:=fun c=>by
   rw [List.countP_eq_zero]
   intro a _
   unfold J1
   simp
  rw [this,this]
  exact Nat.le_refl _
def Z9 (L:Level) (i d:Nat):Int:=match toward L i d with
 | some j=>(j:Int)
 | none=>-1
def M6 (L:Level) (x y:Int):Int:=if 0≤x∧x < L.w∧0≤y∧y < L.h then y*L.w+x else -1
def sr (d:Nat):Int:=([0,1,0,-1]:List Int).getD d 0
def sd (d:Nat):Int:=([-1,0,1,0]:List Int).getD d 0
theorem vT {L:Level} (R:Rt L) {i d:Nat} (hi:i < L.w*L.h) (hd:d < 4):M6 L ((i % L.w:Nat)+sr d) ((i / L.w:Nat)+sd d)=Z9 L i d:=by
 have hw:=R.w2
 have hh:=R.h2
 have h1:=Nat.div_add_mod i L.w
 have h2:i % L.w < L.w:=Nat.mod_lt _ (by omega)
 have h3:i / L.w < L.h:=Nat.div_lt_of_lt_mul hi
 have e1:((i / L.w:Nat):Int)*(L.w:Int)+((i % L.w:Nat):Int)=(i:Int):=by
  rw [←Int.natCast_mul,←Int.natCast_add,Nat.mul_comm,h1]
 have e2:((i / L.w:Nat):Int)+1≤(L.h:Int):=by omega
 unfold Z9 toward M6
 generalize hq:i / L.w=q at *
 generalize hr:i % L.w=r at *
 have hmul:L.w*q=q*L.w:=Nat.mul_comm _ _
 match d,hd with
 | 0,_=>
  show (if 0≤(r:Int)+0∧(r:Int)+0 < L.w∧0≤(q:Int)+-1∧(q:Int)+-1 < L.h then ((q:Int)+-1)*L.w+((r:Int)+0) else -1)=_
  rw [if_pos (rfl:(0:Nat)=0)]
  by_cases h:i < L.w
  ·have hq0:q=0:=by rw [←hq];exact Nat.div_eq_of_lt h
   rw [if_pos h,if_neg (by omega)]
  ·have hq0:0 < q:=by rw [←hq];exact Nat.div_pos (by omega) (by omega)
   rw [if_neg h,if_pos (by omega)]
   show _=((i - L.w:Nat):Int)
   rw [Int.add_mul]
   omega
 | 1,_=>
  show (if 0≤(r:Int)+1∧(r:Int)+1 < L.w∧0≤(q:Int)+0∧(q:Int)+0 < L.h then ((q:Int)+0)*L.w+((r:Int)+1) else -1)=_
  rw [if_neg (show ¬(1:Nat)=0 by decide),if_pos (rfl:(1:Nat)=1)]
  by_cases h:r+1=L.w
  ·rw [if_pos h,if_neg (by omega)]
  ·rw [if_neg h,if_pos (by omega)]
   show _=((i+1:Nat):Int)
   rw [Int.add_zero]
   omega
 | 2,_=>
  show (if 0≤(r:Int)+0∧(r:Int)+0 < L.w∧0≤(q:Int)+1∧(q:Int)+1 < L.h then ((q:Int)+1)*L.w+((r:Int)+0) else -1)=_
  rw [if_neg (show ¬(2:Nat)=0 by decide),if_neg (show ¬(2:Nat)=1 by decide),if_pos (rfl:(2:Nat)=2)]
  by_cases h:L.w*L.h≤i+L.w
  ·rw [if_pos h,if_neg]
   intro z
   have h5:q+1+1≤L.h:=by omega
   have h6:=Nat.mul_le_mul_left L.w h5
   rw [Nat.mul_add,Nat.mul_add] at h6
   omega
  ·rw [if_neg h,if_pos]
   ·show _=((i+L.w:Nat):Int)
    rw [Int.add_mul]
    omega
   ·refine ⟨by omega,by omega,by omega,?_⟩
    apply Decidable.byContradiction
    intro z
    have h5:L.h≤q+1:=by omega
    have h6:=Nat.mul_le_mul_left L.w h5
    rw [Nat.mul_add] at h6
    omega
 | 3,_=>
  show (if 0≤(r:Int)+-1∧(r:Int)+-1 < L.w∧0≤(q:Int)+0∧(q:Int)+0 < L.h then ((q:Int)+0)*L.w+((r:Int)+-1) else -1)=_
  rw [if_neg (show ¬(3:Nat)=0 by decide),if_neg (show ¬(3:Nat)=1 by decide),if_neg (show ¬(3:Nat)=2 by decide),if_pos (rfl:(3:Nat)=3)]
  by_cases h:r=0
  ·rw [if_pos h,if_neg (by omega)]
  ·rw [if_neg h,if_pos (by omega)]
   show _=((i - 1:Nat):Int)
   rw [Int.add_zero]
   omega
def J3 (c:Nat):Bool:=decide (18≤c) && decide (c≤21)
def P0 (c d:Nat):Bool:=!J3 c || c - 18==d
def Q0 (c d:Nat):Bool:=if J3 c=true then !(c - 18==(d+2) % 4) else !(c==0)
def M4 (c:Nat):Bool:=c==4 || c==5 || (decide (8≤c) && decide (c≤17))
def L5 (c:Nat):Bool:=c==4 || (decide (12≤c) && decide (c≤14))
def G4 (c:Nat):Bool:=decide (8≤c) && decide (c≤11)
def K9 (c:Nat):Bool:=decide (15≤c) && decide (c≤17)
def bJ (L:Level) (c:Nat):Nat:=leverBit (boardOf L) (decide (10≤c))
def Y3 (L:Level) (c m:Nat):Bool:=m.testBit (bJ L c)==(c==8 || c==10)
def Q6 (L:Level) (j m:Nat):Bool:=m.testBit (bitOf (boardOf L) j) || decide (0 < inHand (boardOf L) m)
def L0 (L:Level) (j m:Nat):Option Nat:=
 let c:=codeAt L j
 if L5 c=true then some (m ||| 2 ^ bitOf (boardOf L) j)
 else if c=5 then (if Q6 L j m=true then some (m ||| 2 ^ bitOf (boardOf L) j) else none)
 else if G4 c=true then (if Y3 L c m=true then some m else none)
 else if K9 c=true then (if 0 < marked (boardOf L) m (c - 3) then some m else none)
 else some m
theorem CT {m j:Nat} (h:m.testBit j=true):m ||| 2 ^ j=m:=by
 apply Nat.eq_of_testBit_eq
 intro i
 rw [aC]
 by_cases e:j=i
 ·subst e;simp [h]
 ·simp [e]
theorem Aj {L:Level} (R:Rt L) {m d j:Nat} (hd:d < 4):enter (boardOf L) m d j=if Q0 (codeAt L j) d=true then L0 L j m else none:=by
 have hc:=R.code_le j
 have e1:leverBit (boardOf L) false=bJ L 8:=rfl
 unfold enter L0
 dsimp only
 rw [Y0]
 generalize hk:codeAt L j=k at *
 have cases22:k=0∨k=1∨k=2∨k=3∨k=4∨k=5∨k=6∨k=7∨k=8∨k=9∨k=10∨k=11∨k=12∨k=13∨k=14∨k=15∨k=16∨k=17∨k=18∨k=19∨k=20∨k=21:=by clear hk;revert k;rfl'
 rcases cases22 with e|e|e|e|e|e|e|e|e|e|e|e|e|e|e|e|e|e|e|e|e|e<;>subst e
 case inr.inr.inr.inr.inr.inl=>
  simp only [Q0,J3,L5,G4,K9]
  simp
  unfold Q6
  by_cases h1:m.testBit (bitOf (boardOf L) j)=true
  ·simp [h1,CT h1]
  ·simp [h1]
 all_goals try rfl
 all_goals try (rcases d with _ | _ | _ | _|d;rfl;rfl;rfl;rfl;omega)
 all_goals
  simp only [Q0,J3,L5,G4,K9,Y3,bJ]
  simp
 all_goals
  first
   | (match d,hd with
    | 0,_=>simp
    | 1,_=>simp
    | 2,_=>simp
    | 3,_=>simp)
   | (split<;>simp_all)
theorem yE {L:Level} {j m:Nat} (h:M4 (codeAt L j)=false):L0 L j m=some m:=by
 unfold L0
 unfold M4 at h
 simp at h
 have h1:L5 (codeAt L j)=false:=by unfold L5;simp;omega
 have h2:G4 (codeAt L j)=false:=by unfold G4;simp;omega
 have h3:K9 (codeAt L j)=false:=by unfold K9;simp;omega
 simp [h1,h2,h3,h.1.2]
def B8 (L:Level) (i d:Nat):Option Nat:=if codeAt L i=3 then none else match toward L i d with
 | none=>none
 | some j=>if P0 (codeAt L i) d=true∧Q0 (codeAt L j) d=true then some j else none
def C2 (L:Level) (i:Nat):List (Nat×Nat):=(List.range 4).filterMap fun d=>(B8 L i d).map fun j=>(d,j)
theorem xH {L:Level} (R:Rt L) {i d j:Nat} (hi:i < L.w*L.h) (h:B8 L i d=some j):j < L.w*L.h:=by
 unfold B8 at h
 split at h
 ·cases h
 split at h
 ·cases h
 ·rename_i j' e
  split at h
  ·cases h;exact fU R hi e
  ·cases h
theorem sW {L:Level} (R:Rt L) {i:Nat} (hi:i < L.w*L.h) {e:Nat×Nat} (h:e∈C2 L i):e.1 < 4∧e.2 < L.w*L.h:=by
 unfold C2 at h
 rw [List.mem_filterMap] at h
 obtain ⟨d,hd,q⟩:=h
 cases e1:B8 L i d with
 | none=>rw [e1] at q;cases q
 | some j=>
  rw [e1] at q
  cases q
  exact ⟨List.mem_range.mp hd,xH R hi e1⟩
theorem vJ {L:Level} (R:Rt L) {s:Spot} {d:Nat} (hd:d < 4):act (boardOf L) s d=(B8 L s.at_ d).bind fun j=>(L0 L j s.marks).map fun m=>⟨j,m⟩:=by
 have hc:=R.code_le s.at_
 unfold act B8
 dsimp only
 rw [Y0]
 by_cases h3:codeAt L s.at_=3
 ·rw [if_pos h3,if_pos h3];rfl
 rw [if_neg h3,if_neg h3,if_neg (by omega)]
 have hl:(18≤codeAt L s.at_∧d≠codeAt L s.at_ - 18)↔P0 (codeAt L s.at_) d=false:=by
  unfold P0 J3
  simp
  omega
 by_cases h4:P0 (codeAt L s.at_) d=true
 ·rw [if_neg (fun z=>by rw [hl.mp z] at h4;cases h4)]
  cases toward L s.at_ d with
  | none=>rfl
  | some j=>
   dsimp only
   rw [Aj R hd]
   by_cases h5:Q0 (codeAt L j) d=true
   ·rw [if_pos h5,if_pos ⟨h4,h5⟩]
    dsimp only [Option.bind]
    cases L0 L j s.marks<;>rfl
   ·rw [if_neg h5,if_neg (fun z=>h5 z.2)]
    rfl
 ·have h4':P0 (codeAt L s.at_) d=false:=by simpa using h4
  rw [if_pos (hl.mpr h4')]
  cases toward L s.at_ d with
  | none=>rfl
  | some j=>
   dsimp only
   rw [if_neg (fun z=>h4 z.1)]
   rfl
def y6 (L:Level) (s:Spot) (d:Nat):Int:=match act (boardOf L) s d with
 | none=>-1
 | some t=>(numberOf (boardOf L) t:Int)
def A5 (L:Level) (s:Spot):List Int:=ACTS.map (y6 L s)
def R5 (L:Level) (m:Nat) (j:Nat):Option Int:=(L0 L j m).map fun m'=>((m'*(L.w*L.h)+j:Nat):Int)
def F0 (L:Level) (m:Nat) (l:List Int) (e:Nat×Nat):List Int:=match R5 L m e.2 with
 | none=>l
 | some v=>l.set e.1 v
def dO (L:Level) (s:Spot) (l:List Int):List Int:=
 if codeAt L s.at_=6∨codeAt L s.at_=7 then l.set 4 (((s.marks ^^^ 2 ^ leverBit (boardOf L) (codeAt L s.at_==7))*(L.w*L.h)+s.at_:Nat):Int) else l
theorem xZ (r:Nat→Option Int):([0,1,2,3]:List Nat).foldl (fun l d=>match r d with | none=>l|some v=>l.set d v) ([-1,-1,-1,-1,-1]:List Int)=[(r 0).getD (-1),(r 1).getD (-1),(r 2).getD (-1),(r 3).getD (-1),-1]:=by
 simp only [List.foldl]
 cases r 0<;>cases r 1<;>cases r 2<;>cases r 3<;>rfl
theorem tP {L:Level} (R:Rt L) {s:Spot}:dO L s ((C2 L s.at_).foldl (F0 L s.marks) ([-1,-1,-1,-1,-1]:List Int))=A5 L s:=by
 have e1:(C2 L s.at_).foldl (F0 L s.marks) ([-1,-1,-1,-1,-1]:List Int)=([0,1,2,3]:List Nat).foldl (fun l d=>match (B8 L s.at_ d).bind (R5 L s.marks) with | none=>l|some v=>l.set d v) ([-1,-1,-1,-1,-1]:List Int):=by
  unfold C2
  rw [List.foldl_filterMap]
  show ([0,1,2,3]:List Nat).foldl _ _=_
  congr 1
  funext l d
  cases B8 L s.at_ d with
  | none=>rfl
  | some j=>rfl
 rw [e1,xZ]
 have e2:∀d,d < 4→((B8 L s.at_ d).bind (R5 L s.marks)).getD (-1)=y6 L s d:=fun d hd=>by
  unfold y6
  rw [vJ R hd]
  cases B8 L s.at_ d with
  | none=>rfl
  | some j=>
   dsimp only [Option.bind]
   unfold R5
   cases L0 L j s.marks with
   | none=>rfl
   | some m=>rfl
 rw [e2 0 (by decide),e2 1 (by decide),e2 2 (by decide),e2 3 (by decide)]
 unfold A5 ACTS dO
 have e4:y6 L s 4=if codeAt L s.at_=6∨codeAt L s.at_=7 then (((s.marks ^^^ 2 ^ leverBit (boardOf L) (codeAt L s.at_==7))*(L.w*L.h)+s.at_:Nat):Int) else -1:=by
  unfold y6 act
  dsimp only
  rw [Y0]
  by_cases h6:codeAt L s.at_=6
  ·rw [h6];rfl
  ·by_cases h7:codeAt L s.at_=7
   ·rw [h7];rfl
   ·rw [if_neg (by omega:¬(codeAt L s.at_=6∨codeAt L s.at_=7))]
    by_cases h3:codeAt L s.at_=3
    ·rw [if_pos h3]
    ·rw [if_neg h3,if_pos rfl,if_neg h6,if_neg h7]
 show _=[y6 L s 0,y6 L s 1,y6 L s 2,y6 L s 3,y6 L s 4]
 rw [e4]
 split<;>rfl
theorem Z8 {L:Level} {s:Spot} {d:Nat} (h:d < 5):(A5 L s)[d]?=some (y6 L s d):=by
 match d,h with
 | 0,_=>rfl
 | 1,_=>rfl
 | 2,_=>rfl
 | 3,_=>rfl
 | 4,_=>rfl
section
abbrev c0 (L:Level) (s:Spot):Nat:=numberOf (boardOf L) s
inductive Lead (L:Level) (s:Spot):Spot→Prop
 | refl:Lead L s s
 | tail {t u:Spot} {d:Nat}:Lead L s t→act (boardOf L) t d=some u→Lead L s u
inductive Hope (L:Level):Spot→Prop
 | here {s:Spot}:over (boardOf L) s=true→Hope L s
 | step {s t:Spot} {d:Nat}:act (boardOf L) s d=some t→Hope L t→Hope L s
variable {L:Level}
theorem Lead.good (R:Rt L) {s t:Spot} (g:Good L s) (h:Lead L s t):Good L t:=by
 induction h with
 | refl=>exact g
 | tail _ e ih=>exact M7 R ih e
theorem Lead.head {s t u:Spot} {d:Nat} (e:act (boardOf L) s d=some t) (h:Lead L t u):Lead L s u:=by
 induction h with
 | refl=>exact .tail .refl e
 | tail _ e' ih=>exact .tail ih e'
theorem Lead.trans {s t u:Spot} (h:Lead L s t) (h':Lead L t u):Lead L s u:=by
 induction h' with
 | refl=>exact h
 | tail _ e' ih=>exact .tail ih e'
theorem Hope.of_lead {s t:Spot} (h:Lead L s t) (k:Hope L t):Hope L s:=by
 induction h with
 | refl=>exact k
 | tail _ e ih=>exact ih (.step e k)
theorem Hope.lead {s:Spot} (h:Hope L s):∃t,Lead L s t∧over (boardOf L) t=true:=by
 induction h with
 | here e=>exact ⟨_,.refl,e⟩
 | step e _ ih=>
  obtain ⟨t,h1,h2⟩:=ih
  exact ⟨t,.head e h1,h2⟩
theorem fT {s t:Spot} {d:Nat} (h:act (boardOf L) s d=some t):d∈ACTS:=by
 have:d < 5:=by
  unfold act at h
  dsimp only at h
  split at h
  ·cases h
  split at h
  ·omega
  split at h
  ·cases h
  split at h
  ·cases h
  ·rename_i i hi
   unfold toward at hi
   repeat (split at hi;omega)
   cases hi
 unfold ACTS
 match d,this with
 | 0,_=>simp
 | 1,_=>simp
 | 2,_=>simp
 | 3,_=>simp
 | 4,_=>simp
structure Sn (L:Level) (seen:Array Bool) (ks:List Nat):Prop where
 sz:seen.size=spots (boardOf L)
 nd:ks.Nodup
 lt:∀n∈ks,n < spots (boardOf L)
 iff:∀n,n < spots (boardOf L)→(seen.getD n true=true↔n∈ks)
theorem Sn.len {seen:Array Bool} {ks:List Nat} (h:Sn L seen ks):ks.length≤spots (boardOf L):=X8 h.nd h.lt
theorem W8 {a:Array Bool} {i j:Nat} {v d:Bool} (h:i < a.size):(a.setIfInBounds i v).getD j d=if i=j then v else a.getD j d:=by
 rw [Array.getD_eq_getD_getElem?,Array.getD_eq_getD_getElem?,Array.getElem?_setIfInBounds]
 by_cases e:i=j
 ·subst e;simp [h]
 ·simp [e]
theorem fB {l:List Nat} {x:Nat} (h:l.Nodup) (hx:x∉l):(l++[x]).Nodup:=by
 rw [List.nodup_append]
 refine ⟨h,by simp,fun a ha b hb=>?_⟩
 simp at hb
 subst hb
 intro e
 subst e
 exact hx ha
theorem Sn.add {seen:Array Bool} {ks:List Nat} {n:Nat} (h:Sn L seen ks) (hn:n < spots (boardOf L)) (hk:n∉ks):Sn L (seen.setIfInBounds n true) (ks++[n]):=by
 refine ⟨by rw [Array.size_setIfInBounds];exact h.sz,fB h.nd hk,fun m hm=>?_,fun m hm=>?_⟩
 ·rw [List.mem_append] at hm
  rcases hm with hm|hm
  ·exact h.lt m hm
  ·simp at hm;omega
 ·rw [W8 (by rw [h.sz];exact hn),List.mem_append]
  by_cases e:n=m
  ·subst e;simp
  ·rw [if_neg e,h.iff m hm]
   simp [Ne.symm e]
def m5 (L:Level) (f:Found) (y:List Found×Array Bool) (d:Nat):List Found×Array Bool:=match act (boardOf L) f.spot d with
 | none=>y
 | some t=>if y.2.getD (c0 L t) true=true then y else (⟨t,d::f.acts⟩::y.1,y.2.setIfInBounds (c0 L t) true)
def C5 (L:Level) (y:List Found×Array Bool) (f:Found):List Found×Array Bool:=ACTS.foldl (m5 L f) y
theorem cD (ring:List Found) (seen:Array Bool):widen (boardOf L) ring seen=ring.foldl (C5 L) ([],seen):=rfl
def p4 (L:Level) (f:Found):Nat:=c0 L f.spot
def wk (L:Level) (ks:List Nat) (y:List Found×Array Bool):List Nat:=ks++y.1.reverse.map (p4 L)
structure Wd (L:Level) (s:Spot) (ks:List Nat) (y:List Found×Array Bool):Prop where
 sn:Sn L y.2 (wk L ks y)
 good:∀f∈y.1,Good L f.spot
 lead:∀f∈y.1,Lead L s f.spot
theorem gT (R:Rt L) {s:Spot} {ks:List Nat} {y:List Found×Array Bool} {f:Found} (W:Wd L s ks y) (g:Good L f.spot) (l:Lead L s f.spot) (d:Nat) :
  (y6 L f.spot d=-1∧act (boardOf L) f.spot d=none∧m5 L f y d=y)∨
  ∃t,act (boardOf L) f.spot d=some t∧Good L t∧Lead L s t∧y6 L f.spot d=(c0 L t:Int)∧
   ((c0 L t∈wk L ks y∧m5 L f y d=y)∨
    (c0 L t∉wk L ks y∧(m5 L f y d).1=⟨t,d::f.acts⟩::y.1∧wk L ks (m5 L f y d)=wk L ks y++[c0 L t]∧Wd L s ks (m5 L f y d))):=by
 unfold y6
 cases e:act (boardOf L) f.spot d with
 | none=>exact .inl ⟨rfl,rfl,by unfold m5;rw [e]⟩
 | some t=>
  refine .inr ⟨t,rfl,M7 R g e,.tail l e,rfl,?_⟩
  have gt:=M7 R g e
  have hn:=P9 R gt
  have hi:=W.sn.iff _ hn
  by_cases h:c0 L t∈wk L ks y
  ·refine .inl ⟨h,?_⟩
   unfold m5
   rw [e]
   dsimp only
   rw [if_pos (hi.mpr h)]
  ·have e2:m5 L f y d=(⟨t,d::f.acts⟩::y.1,y.2.setIfInBounds (c0 L t) true):=by
    unfold m5
    rw [e]
    dsimp only
    rw [if_neg (fun z=>h (hi.mp z))]
   have e3:wk L ks (m5 L f y d)=wk L ks y++[c0 L t]:=by
    rw [e2]
    unfold wk
    simp [p4]
   refine .inr ⟨h,by rw [e2],e3,?_,fun f' hf=>?_,fun f' hf=>?_⟩
   ·rw [e3,e2]
    exact W.sn.add hn h
   ·rw [e2] at hf
    rcases List.mem_cons.mp hf with z|z
    ·rw [z];exact gt
    ·exact W.good f' z
   ·rw [e2] at hf
    rcases List.mem_cons.mp hf with z|z
    ·rw [z];exact .tail l e
    ·exact W.lead f' z
structure WdTo (L:Level) (s:Spot) (ks:List Nat) (y y':List Found×Array Bool):Prop where
 wd:Wd L s ks y'
 more:∃m,y'.1=m++y.1
theorem WdTo.sub {s:Spot} {ks:List Nat} {y y':List Found×Array Bool} (h:WdTo L s ks y y') {n:Nat} (m:n∈wk L ks y):n∈wk L ks y':=by
 obtain ⟨a,e⟩:=h.more
 unfold wk at m ⊢
 rw [e,List.reverse_append,List.map_append,←List.append_assoc]
 exact List.mem_append_left _ m
theorem AU (R:Rt L) {s:Spot} {ks:List Nat} {y:List Found×Array Bool} {f:Found} (W:Wd L s ks y) (g:Good L f.spot) (l:Lead L s f.spot) (d:Nat) :
  WdTo L s ks y (m5 L f y d)∧∀u,act (boardOf L) f.spot d=some u→c0 L u∈wk L ks (m5 L f y d):=by
 rcases gT R W g l d with ⟨_,e,h⟩|⟨t,e,gt,lt,_,⟨h1,h2⟩|⟨h1,h2,h3,h4⟩⟩
 ·rw [h]
  exact ⟨⟨W,[],rfl⟩,fun u z=>by rw [e] at z;cases z⟩
 ·rw [h2]
  exact ⟨⟨W,[],rfl⟩,fun u z=>by rw [e] at z;cases z;exact h1⟩
 ·refine ⟨⟨h4,[_],h2⟩,fun u z=>?_⟩
  rw [e] at z
  cases z
  rw [h3]
  simp
theorem kF (R:Rt L) {s:Spot} {ks:List Nat} {f:Found} (g:Good L f.spot) (l:Lead L s f.spot):∀(ds:List Nat) {y:List Found×Array Bool},Wd L s ks y→
  WdTo L s ks y (ds.foldl (m5 L f) y)∧∀d∈ds,∀u,act (boardOf L) f.spot d=some u→c0 L u∈wk L ks (ds.foldl (m5 L f) y)
 | [],y,W=>⟨⟨W,[],rfl⟩,fun d hd=>by simp at hd⟩
 | d::ds,y,W=>by
  obtain ⟨h1,h2⟩:=AU R W g l d
  obtain ⟨h3,h4⟩:=kF R g l ds h1.wd
  refine ⟨⟨h3.wd,?_⟩,fun d' hd u e=>?_⟩
  ·obtain ⟨a,ea⟩:=h1.more
   obtain ⟨b,eb⟩:=h3.more
   exact ⟨b++a,by rw [List.append_assoc,←ea];exact eb⟩
  ·rcases List.mem_cons.mp hd with z|z
   ·subst z
    exact h3.sub (h2 u e)
   ·exact h4 d' z u e
theorem xW (R:Rt L) {s:Spot} {ks:List Nat} {f:Found} (g:Good L f.spot) (l:Lead L s f.spot) {y:List Found×Array Bool} (W:Wd L s ks y) :
  WdTo L s ks y (C5 L y f)∧∀d u,act (boardOf L) f.spot d=some u→c0 L u∈wk L ks (C5 L y f):=by
 obtain ⟨h1,h2⟩:=kF R g l ACTS W
 exact ⟨h1,fun d u e=>h2 d (fT e) u e⟩
theorem qG (R:Rt L) {s:Spot} {ks:List Nat}:∀(ring:List Found) {y:List Found×Array Bool},(∀f∈ring,Good L f.spot)→(∀f∈ring,Lead L s f.spot)→Wd L s ks y→
  WdTo L s ks y (ring.foldl (C5 L) y)∧∀f∈ring,∀d u,act (boardOf L) f.spot d=some u→c0 L u∈wk L ks (ring.foldl (C5 L) y)
 | [],y,_,_,W=>⟨⟨W,[],rfl⟩,fun f hf=>by simp at hf⟩
 | f::ring,y,hg,hl,W=>by
  obtain ⟨h1,h2⟩:=xW R (hg f (by simp)) (hl f (by simp)) W
  obtain ⟨h3,h4⟩:=qG R ring (fun f' z=>hg f' (List.mem_cons_of_mem _ z)) (fun f' z=>hl f' (List.mem_cons_of_mem _ z)) h1.wd
  refine ⟨⟨h3.wd,?_⟩,fun f' hf d u e=>?_⟩
  ·obtain ⟨a,ea⟩:=h1.more
   obtain ⟨b,eb⟩:=h3.more
   exact ⟨b++a,by rw [List.append_assoc,←ea];exact eb⟩
  ·rcases List.mem_cons.mp hf with z|z
   ·subst z
    exact h3.sub (h2 d u e)
   ·exact h4 f' z d u e
def keys (L:Level) (ring:List Found) (got:List Spot):List Nat:=(got.map (c0 L)).reverse++ring.map (p4 L)
structure Bs (L:Level) (s:Spot) (k:Nat) (ring:List Found) (seen:Array Bool) (got:List Spot):Prop where
 good:∀f∈ring,Good L f.spot
 gotg:∀t∈got,Good L t
 leadr:∀f∈ring,Lead L s f.spot
 leadg:∀t∈got,Lead L s t
 sn:Sn L seen (keys L ring got)
 clo:∀t∈got,∀d u,act (boardOf L) t d=some u→c0 L u∈keys L ring got
 st:c0 L s∈keys L ring got
 fuel:spots (boardOf L)+1+(if ring=[] then 0 else 1)≤(keys L ring got).length+k
theorem Bs.wd0 {s:Spot} {k:Nat} {ring:List Found} {seen:Array Bool} {got:List Spot} (b:Bs L s k ring seen got):Wd L s (keys L ring got) ([],seen):=
 ⟨by unfold wk;simp;exact b.sn,fun f hf=>by simp at hf,fun f hf=>by simp at hf⟩
theorem Bs.pos {s:Spot} {k:Nat} {ring:List Found} {seen:Array Bool} {got:List Spot} (b:Bs L s k ring seen got):1≤k∧(ring≠[]→2≤k):=by
 have h1:=b.sn.len
 have h2:=b.fuel
 constructor
 ·split at h2<;>omega
 ·intro h
  rw [if_neg h] at h2
  omega
theorem fN (ring new:List Found) (got:List Spot):keys L new ((ring.map (·.spot)).reverse++got)=keys L ring got++new.map (p4 L):=by
 unfold keys
 rw [List.map_append,List.reverse_append,List.map_reverse,List.reverse_reverse,List.map_map]
 rfl
theorem Bs.start (R:Rt L) {s:Spot} (g:Good L s):Bs L s (spots (boardOf L)+1) [⟨s,[]⟩] (fresh (boardOf L) s) []:=by
 have hk:keys L [⟨s,[]⟩] []=[c0 L s]:=rfl
 refine ⟨fun f hf=>?_,fun t ht=>by simp at ht,fun f hf=>?_,fun t ht=>by simp at ht,?_,fun t ht=>by simp at ht,by rw [hk];simp,by rw [hk];simp;omega⟩
 ·simp at hf;subst hf;exact g
 ·simp at hf;subst hf;exact .refl
 ·rw [hk]
  have h0:Sn L (Array.replicate (spots (boardOf L)) false) []:=⟨by simp,by simp,fun n hn=>by simp at hn,fun n hn=>by
   rw [Array.getD_eq_getD_getElem?,Array.getElem?_replicate]
   simp [hn]⟩
  exact h0.add (P9 R g) (by simp)
theorem Bs.step (R:Rt L) {s:Spot} {k:Nat} {ring:List Found} {seen:Array Bool} {got:List Spot} (b:Bs L s (k+1) ring seen got) (h:ring≠[]) :
  Bs L s k (widen (boardOf L) ring seen).1.reverse (widen (boardOf L) ring seen).2 ((ring.map (·.spot)).reverse++got):=by
 obtain ⟨⟨W,_⟩,h2⟩:=qG R ring b.good b.leadr b.wd0
 rw [←cD] at W h2
 generalize widen (boardOf L) ring seen=x at *
 have hk:keys L x.1.reverse ((ring.map (·.spot)).reverse++got)=wk L (keys L ring got) x:=fN _ _ _
 refine ⟨fun f hf=>W.good f (List.mem_reverse.mp hf),fun t ht=>?_,fun f hf=>W.lead f (List.mem_reverse.mp hf),fun t ht=>?_,by rw [hk];exact W.sn,fun t ht d u e=>?_,by rw [hk];exact List.mem_append_left _ b.st,?_⟩
 ·rcases List.mem_append.mp ht with z|z
  ·obtain ⟨f,hf,rfl⟩:=List.mem_map.mp (List.mem_reverse.mp z)
   exact b.good f hf
  ·exact b.gotg t z
 ·rcases List.mem_append.mp ht with z|z
  ·obtain ⟨f,hf,rfl⟩:=List.mem_map.mp (List.mem_reverse.mp z)
   exact b.leadr f hf
  ·exact b.leadg t z
 ·rw [hk]
  rcases List.mem_append.mp ht with z|z
  ·obtain ⟨f,hf,rfl⟩:=List.mem_map.mp (List.mem_reverse.mp z)
   exact h2 f hf d u e
  ·exact List.mem_append_left _ (b.clo t z d u e)
 ·have h3:=b.fuel
  rw [if_neg h] at h3
  rw [hk]
  unfold wk
  rw [List.length_append,List.length_map,List.length_reverse]
  split
  ·omega
  ·rename_i z
   have:0 < x.1.length:=by
    cases e:x.1 with
    | nil=>rw [e] at z;exact absurd rfl z
    | cons a l=>simp
   omega
theorem Bs.mem (R:Rt L) {s t:Spot} {k:Nat} {seen:Array Bool} {got:List Spot} (g:Good L s) (b:Bs L s k [] seen got) (h:Lead L s t):t∈got:=by
 have back:∀{u:Spot},Good L u→c0 L u∈keys L [] got→u∈got:=fun {u} gu hu=>by
  unfold keys at hu
  simp at hu
  obtain ⟨v,hv,e⟩:=hu
  rw [←P7 (b.gotg v hv) gu e]
  exact hv
 induction h with
 | refl=>exact back g b.st
 | tail h e ih=>exact back (M7 R (b.gotg _ ih) e) (b.clo _ ih _ _ e)
theorem dW {p:Spot→Bool} {k:Nat} {ring:List Found} {seen:Array Bool} (h:ring.find? (fun f=>p f.spot)=none) (hn:ring≠[]) :
  search (boardOf L) p (k+1) ring seen=search (boardOf L) p k (widen (boardOf L) ring seen).1.reverse (widen (boardOf L) ring seen).2:=by
 conv=>lhs;unfold search
 rw [h]
 dsimp only
 rw [if_neg (by simpa using hn)]
theorem qK {p:Spot→Bool} {k:Nat} {seen:Array Bool}:search (boardOf L) p k [] seen=none:=by
 cases k<;>rfl
theorem iX {k:Nat} {ring:List Found} {seen:Array Bool} {got:List Spot} (hn:ring≠[]) :
  gather (boardOf L) (k+1) ring seen got=gather (boardOf L) k (widen (boardOf L) ring seen).1.reverse (widen (boardOf L) ring seen).2 ((ring.map fun f=>f.spot).reverse++got):=by
 conv=>lhs;unfold gather
 rw [if_neg (by simpa using hn)]
theorem mC {k:Nat} {seen:Array Bool} {got:List Spot}:gather (boardOf L) k [] seen got=got:=by
 cases k<;>rfl
theorem gL (R:Rt L) {s:Spot} (g:Good L s) {p:Spot→Bool}:∀{k:Nat} {ring:List Found} {seen:Array Bool} {got:List Spot},Bs L s k ring seen got→(∀t∈got,p t=false)→
  (search (boardOf L) p k ring seen=none↔∀t,Lead L s t→p t=false)
 | 0,ring,seen,got,b,_=>absurd b.pos.1 (by omega)
 | k+1,ring,seen,got,b,hp=>by
  by_cases hr:ring=[]
  ·subst hr
   rw [qK]
   exact ⟨fun _ t h=>hp t (b.mem R g h),fun _=>rfl⟩
  ·cases hf:ring.find? (fun f=>p f.spot) with
   | some f=>
    have h1:=List.find?_some hf
    have h2:=List.mem_of_find?_eq_some hf
    have e:search (boardOf L) p (k+1) ring seen=some f:=by
     conv=>lhs;unfold search
     rw [hf]
    rw [e]
    refine ⟨fun z=>(by cases z),fun z=>?_⟩
    have:=z f.spot (b.leadr f h2)
    rw [this] at h1
    cases h1
   | none=>
    rw [dW hf hr]
    refine gL R g (b.step R hr) fun t ht=>?_
    rcases List.mem_append.mp ht with z|z
    ·obtain ⟨f,hf',rfl⟩:=List.mem_map.mp (List.mem_reverse.mp z)
     have:=List.find?_eq_none.mp hf f hf'
     simpa using this
    ·exact hp t z
theorem fA (R:Rt L) {s:Spot} (g:Good L s):∀{k:Nat} {ring:List Found} {seen:Array Bool} {got:List Spot},Bs L s k ring seen got→
  (∀t,t∈gather (boardOf L) k ring seen got↔Lead L s t)∧((gather (boardOf L) k ring seen got).map (c0 L)).Nodup
 | 0,ring,seen,got,b=>absurd b.pos.1 (by omega)
 | k+1,ring,seen,got,b=>by
  by_cases hr:ring=[]
  ·subst hr
   rw [mC]
   refine ⟨fun t=>⟨b.leadg t,b.mem R g⟩,?_⟩
   have:=b.sn.nd
   unfold keys at this
   simp only [List.map_nil,List.append_nil] at this
   rw [List.Nodup,List.pairwise_reverse] at this
   exact this.imp fun h=>Ne.symm h
  ·rw [iX hr]
   exact fA R g (b.step R hr)
theorem R6 (R:Rt L) {s t:Spot} (g:Good L s):t∈reached (boardOf L) s↔Lead L s t:=(fA R g (Bs.start R g)).1 t
theorem jQ (R:Rt L) {s:Spot} (g:Good L s):((reached (boardOf L) s).map (c0 L)).Nodup:=(fA R g (Bs.start R g)).2
theorem BY (R:Rt L) {s:Spot} (g:Good L s) {p:Spot→Bool}:(Vbrgae.least (boardOf L) p s=none)↔∀t,Lead L s t→p t=false:=by
 unfold Vbrgae.least
 rw [Option.map_eq_none_iff]
 exact gL R g (Bs.start R g) fun t ht=>by simp at ht
theorem yS (R:Rt L) {s:Spot} (g:Good L s):(Vbrgae.least (boardOf L) (over (boardOf L)) s).isNone=true↔¬Hope L s:=by
 rw [Option.isNone_iff_eq_none,BY R g]
 constructor
 ·intro h k
  obtain ⟨t,h1,h2⟩:=k.lead
  rw [h t h1] at h2
  cases h2
 ·intro h t l
  cases e:over (boardOf L) t with
  | false=>rfl
  | true=>exact absurd (Hope.of_lead l (.here e)) h
def P5 (L:Level) (g:Array Bool) (s:Spot):Bool:=!(g.getD (c0 L s) false) && ACTS.any fun d=>match act (boardOf L) s d with
 | none=>false
 | some t=>g.getD (c0 L t) false
def t9 (L:Level) (x:Array Bool×Nat) (s:Spot):Array Bool×Nat:=if P5 L x.1 s=true then (x.1.setIfInBounds (c0 L s) true,x.2+1) else x
theorem sU (l:List Spot) (g:Array Bool):pass (boardOf L) l g=l.foldl (t9 L) (g,0):=rfl
theorem Af {a:Array Bool} {i n:Nat} (h:a.getD n false=true):(a.setIfInBounds i true).getD n false=true:=by
 by_cases hi:i < a.size
 ·rw [W8 hi]
  split
  ·rfl
  ·exact h
 ·rw [Array.setIfInBounds_eq_of_size_le (by omega)]
  exact h
theorem Ct {x:Array Bool×Nat} {s:Spot} {n:Nat} (h:x.1.getD n false=true):(t9 L x s).1.getD n false=true:=by
 unfold t9
 split
 ·exact Af h
 ·exact h
theorem aL:∀(l:List Spot) {x:Array Bool×Nat} {n:Nat},x.1.getD n false=true→(l.foldl (t9 L) x).1.getD n false=true
 | [],x,n,h=>h
 | s::l,x,n,h=>aL l (Ct h)
theorem Cr {x:Array Bool×Nat} {s:Spot}:(t9 L x s).1.size=x.1.size:=by
 unfold t9
 split
 ·exact Array.size_setIfInBounds
 ·rfl
theorem nH:∀(l:List Spot) {x:Array Bool×Nat},(l.foldl (t9 L) x).1.size=x.1.size
 | [],x=>rfl
 | s::l,x=>by
  rw [List.foldl_cons,nH l,Cr]
theorem jZ:∀(l:List Spot) {x:Array Bool×Nat},x.2≤(l.foldl (t9 L) x).2
 | [],x=>Nat.le_refl _
 | s::l,x=>by
  refine Nat.le_trans ?_ (jZ l)
  unfold t9
  split
  ·exact Nat.le_succ _
  ·exact Nat.le_refl _
theorem lU:∀(l:List Spot) {x:Array Bool×Nat},(l.foldl (t9 L) x).2=x.2→(l.foldl (t9 L) x)=x∧∀s∈l,P5 L x.1 s=false
 | [],x,_=>⟨rfl,fun s hs=>by simp at hs⟩
 | s::l,x,h=>by
  rw [List.foldl_cons] at h ⊢
  by_cases c:P5 L x.1 s=true
  ·have e:t9 L x s=(x.1.setIfInBounds (c0 L s) true,x.2+1):=by unfold t9;rw [if_pos c]
   have:=jZ (L:=L) l (x:=t9 L x s)
   rw [h,e] at this
   exact absurd this (by simp)
  ·have e:t9 L x s=x:=by unfold t9;rw [if_neg c]
   rw [e] at h ⊢
   obtain ⟨h1,h2⟩:=lU l h
   refine ⟨h1,fun t ht=>?_⟩
   rcases List.mem_cons.mp ht with z|z
   ·subst z;simpa using c
   ·exact h2 t z
theorem jK:∀(l:List Spot) {x:Array Bool×Nat},(∀s∈l,c0 L s < x.1.size)→(l.foldl (t9 L) x).2≠x.2→∃s∈l,x.1.getD (c0 L s) false=false∧(l.foldl (t9 L) x).1.getD (c0 L s) false=true
 | [],x,_,h=>absurd rfl h
 | s::l,x,hs,h=>by
  rw [List.foldl_cons] at h ⊢
  by_cases c:P5 L x.1 s=true
  ·have e:t9 L x s=(x.1.setIfInBounds (c0 L s) true,x.2+1):=by unfold t9;rw [if_pos c]
   refine ⟨s,by simp,?_,?_⟩
   ·unfold P5 at c
    rw [Bool.and_eq_true,Bool.not_eq_true'] at c
    exact c.1
   ·apply aL
    rw [e]
    dsimp only
    rw [W8 (hs s (by simp)),if_pos rfl]
  ·have e:t9 L x s=x:=by unfold t9;rw [if_neg c]
   rw [e] at h ⊢
   obtain ⟨t,h1,h2⟩:=jK l (fun t ht=>hs t (List.mem_cons_of_mem _ ht)) h
   exact ⟨t,List.mem_cons_of_mem _ h1,h2⟩
theorem oB {p q:Spot→Bool}:∀(l:List Spot),(∀t∈l,p t=true→q t=true)→∀{s:Spot},s∈l→p s=false→q s=true→l.countP p+1≤l.countP q
 | [],_,s,hs,_,_=>by simp at hs
 | a::l,hm,s,hs,hp,hq=>by
  rw [List.countP_cons,List.countP_cons]
  have h1:l.countP p≤l.countP q:=List.countP_mono_left fun t ht=>hm t (List.mem_cons_of_mem _ ht)
  rcases List.mem_cons.mp hs with z|z
  ·subst z
   rw [hp,hq]
   simp
   omega
  ·have h2:=oB l (fun t ht=>hm t (List.mem_cons_of_mem _ ht)) z hp hq
   have h3:=hm a (by simp)
   cases e:p a with
   | false=>simp;split<;>omega
   | true=>rw [h3 e];simp;omega
def PS (L:Level) (l:List Spot) (g:Array Bool):Prop:=∀t,Good L t→g.getD (c0 L t) false=true→t∈l∧Hope L t
theorem tV (R:Rt L) {l:List Spot} {x:Array Bool×Nat} {s:Spot} (hl:∀t∈l,Good L t) (hs:s∈l) (h:PS L l x.1):PS L l (t9 L x s).1:=by
 unfold t9
 split
 ·rename_i c
  intro t gt e
  by_cases hz:c0 L s < x.1.size
  ·dsimp only at e
   rw [W8 hz] at e
   by_cases z:c0 L s=c0 L t
   ·have:=P7 (hl s hs) gt z
    subst this
    refine ⟨hs,?_⟩
    unfold P5 at c
    simp only [Bool.and_eq_true,List.any_eq_true] at c
    obtain ⟨_,d,_,e2⟩:=c
    cases e3:act (boardOf L) s d with
    | none=>rw [e3] at e2;cases e2
    | some u=>
     rw [e3] at e2
     exact .step e3 (h u (M7 R gt e3) e2).2
   ·rw [if_neg z] at e
    exact h t gt e
  ·dsimp only at e
   rw [Array.setIfInBounds_eq_of_size_le (by omega)] at e
   exact h t gt e
 ·exact h
theorem oQ (R:Rt L) {l:List Spot} (hl:∀t∈l,Good L t):∀(l':List Spot) {x:Array Bool×Nat},(∀s∈l',s∈l)→PS L l x.1→PS L l (l'.foldl (t9 L) x).1
 | [],x,_,h=>h
 | s::l',x,hs,h=>oQ R hl l' (fun t ht=>hs t (List.mem_cons_of_mem _ ht)) (tV R hl (hs s (by simp)) h)
theorem lD (R:Rt L) {l:List Spot} (hl:∀t∈l,Good L t) (hc:∀t∈l,∀d u,act (boardOf L) t d=some u→u∈l):∀(k:Nat) {g:Array Bool},g.size=spots (boardOf L)→PS L l g→(∀t∈l,over (boardOf L) t=true→g.getD (c0 L t) false=true)→
  l.length+1≤l.countP (fun t=>g.getD (c0 L t) false)+k→∀t,Good L t→((passes (boardOf L) l k g).getD (c0 L t) false=true↔t∈l∧Hope L t)
 | 0,g,_,_,_,hf,t,_=>by
  have:=List.countP_le_length (p:=fun t=>g.getD (c0 L t) false) (l:=l)
  omega
 | k+1,g,hz,hp,ho,hf,t,gt=>by
  have hlt:∀s∈l,c0 L s < g.size:=fun s hs=>by rw [hz];exact P9 R (hl s hs)
  unfold passes
  dsimp only
  rw [sU]
  by_cases e:(l.foldl (t9 L) (g,0)).2=0
  ·rw [if_pos e]
   obtain ⟨h1,h2⟩:=lU l (x:=(g,0)) e
   rw [h1]
   refine ⟨hp t gt,fun ⟨ht,h⟩=>?_⟩
   clear hf e h1
   induction h with
   | here e=>exact ho _ ht e
   | @step s u d e hu ih=>
    have h3:=ih (M7 R (hl s ht) e) ⟨hc s ht _ _ e,hu⟩ (hc s ht _ _ e)
    have h4:=h2 s ht
    unfold P5 at h4
    cases h5:g.getD (c0 L s) false with
    | true=>rfl
    | false=>
     rw [show (g,0).1=g from rfl,h5] at h4
     have h6:(ACTS.any fun d=>match act (boardOf L) s d with | none=>false|some t=>g.getD (c0 L t) false)=true:=List.any_eq_true.mpr ⟨d,fT e,by rw [e];exact h3⟩
     rw [h6] at h4
     cases h4
  ·rw [if_neg e]
   refine lD R hl hc k ?_ ?_ ?_ ?_ t gt
   ·rw [nH];exact hz
   ·exact oQ R hl l (fun _ h=>h) hp
   ·exact fun t ht h=>aL l (ho t ht h)
   ·obtain ⟨s,hs,h3,h4⟩:=jK l (x:=(g,0)) hlt e
    have h5:=oB (p:=fun t=>g.getD (c0 L t) false) (q:=fun t=>(l.foldl (t9 L) (g,0)).1.getD (c0 L t) false) l (fun t _ h=>aL l h) hs h3 h4
    omega
theorem gX (R:Rt L):∀(l:List Spot) {g:Array Bool},g.size=spots (boardOf L)→(∀t∈l,Good L t)→
  (l.foldl (fun g t=>if over (boardOf L) t=true then g.setIfInBounds (c0 L t) true else g) g).size=spots (boardOf L)∧
  ∀n,((l.foldl (fun g t=>if over (boardOf L) t=true then g.setIfInBounds (c0 L t) true else g) g).getD n false=true↔g.getD n false=true∨∃t∈l,over (boardOf L) t=true∧c0 L t=n)
 | [],g,hz,_=>⟨hz,fun n=>by simp⟩
 | t::l,g,hz,hg=>by
  rw [List.foldl_cons]
  by_cases h:over (boardOf L) t=true
  ·rw [if_pos h]
   obtain ⟨h1,h2⟩:=gX R l (g:=g.setIfInBounds (c0 L t) true) (by rw [Array.size_setIfInBounds];exact hz) fun u hu=>hg u (List.mem_cons_of_mem _ hu)
   refine ⟨h1,fun n=>?_⟩
   rw [h2 n,W8 (by rw [hz];exact P9 R (hg t (by simp)))]
   constructor
   ·rintro (z|⟨u,hu,z1,z2⟩)
    ·by_cases e:c0 L t=n
     ·exact .inr ⟨t,by simp,h,e⟩
     ·rw [if_neg e] at z
      exact .inl z
    ·exact .inr ⟨u,List.mem_cons_of_mem _ hu,z1,z2⟩
   ·rintro (z|⟨u,hu,z1,z2⟩)
    ·left
     split
     ·rfl
     ·exact z
    ·rcases List.mem_cons.mp hu with e|e
     ·subst e
      left
      rw [if_pos z2]
     ·exact .inr ⟨u,e,z1,z2⟩
  ·rw [if_neg h]
   obtain ⟨h1,h2⟩:=gX R l hz fun u hu=>hg u (List.mem_cons_of_mem _ hu)
   refine ⟨h1,fun n=>?_⟩
   rw [h2 n]
   constructor
   ·rintro (z|⟨u,hu,z1,z2⟩)
    ·exact .inl z
    ·exact .inr ⟨u,List.mem_cons_of_mem _ hu,z1,z2⟩
   ·rintro (z|⟨u,hu,z1,z2⟩)
    ·exact .inl z
    ·rcases List.mem_cons.mp hu with e|e
     ·subst e
      exact absurd z1 h
     ·exact .inr ⟨u,e,z1,z2⟩
theorem DI (R:Rt L) {s t:Spot} (g:Good L s) (gt:Good L t):(hopeful (boardOf L) s).getD (c0 L t) false=true↔Lead L s t∧Hope L t:=by
 have hg:∀t∈reached (boardOf L) s,Good L t:=fun t ht=>((R6 R g).mp ht).good R g
 obtain ⟨h1,h2⟩:=gX R (reached (boardOf L) s) (g:=Array.replicate (spots (boardOf L)) false) (by simp) hg
 have z0:∀n,(Array.replicate (spots (boardOf L)) false).getD n false=true→False:=fun n z=>by
  rw [Array.getD_eq_getD_getElem?,Array.getElem?_replicate] at z
  split at z<;>simp at z
 rw [←R6 R g]
 unfold hopeful
 refine lD R hg (fun t ht d u e=>(R6 R g).mpr (.tail ((R6 R g).mp ht) e)) _ h1 (fun t gt e=>?_) (fun t ht e=>(h2 _).mpr (.inr ⟨t,ht,e,rfl⟩)) (by omega) t gt
 rcases (h2 _).mp e with z|⟨u,hu,z1,z2⟩
 ·exact (z0 _ z).elim
 ·have:=P7 (hg u hu) gt z2
  subst this
  exact ⟨hu,.here z1⟩
end
section
variable {L:Level}
def x5 (fs:List (Nat×Nat)) (n:Nat):Option Nat:=(fs.find? fun p=>decide (p.1=n)).map (·.2)
def D7 (fs:List (Nat×Nat)) (n v:Nat):List (Nat×Nat):=
 if (fs.any fun p=>decide (p.1=n))=true then fs.map (fun p=>if p.1=n then (p.1,v) else p) else fs++[(n,v)]
theorem O6 (p:Nat×Nat) (r:List (Nat×Nat)) (n:Nat):x5 (p::r) n=if p.1=n then some p.2 else x5 r n:=by
 unfold x5
 rw [List.find?_cons]
 by_cases h:p.1=n<;>simp [h]
theorem bB (fs:List (Nat×Nat)) (n:Nat):(fs.any fun p=>decide (p.1=n))=true↔n∈fs.map (·.1):=by
 rw [List.any_eq_true,List.mem_map]
 constructor
 ·rintro ⟨p,h1,h2⟩;exact ⟨p,h1,of_decide_eq_true h2⟩
 ·rintro ⟨p,h1,h2⟩;exact ⟨p,h1,decide_eq_true h2⟩
theorem lK:∀{fs:List (Nat×Nat)} {n:Nat},n∈fs.map (·.1)→∃v,x5 fs n=some v
 | [],n,h=>by simp at h
 | p::r,n,h=>by
  rw [O6]
  by_cases e:p.1=n
  ·exact ⟨p.2,if_pos e⟩
  ·rw [if_neg e]
   rw [List.map_cons,List.mem_cons] at h
   exact lK (h.resolve_left fun z=>e z.symm)
theorem oP (n v m:Nat):∀fs:List (Nat×Nat),x5 (fs.map fun p=>if p.1=n then (p.1,v) else p) m=(x5 fs m).map fun x=>if m=n then v else x
 | []=>rfl
 | p::r=>by
  rw [List.map_cons,O6,O6,oP n v m r]
  by_cases h:p.1=n
  ·rw [if_pos h]
   by_cases e:p.1=m
   ·rw [if_pos e,if_pos e,Option.map_some,if_pos (e.symm.trans h)]
   ·rw [if_neg e,if_neg e]
  ·rw [if_neg h]
   by_cases e:p.1=m
   ·rw [if_pos e,if_pos e,Option.map_some,if_neg (fun z=>h (e.trans z))]
   ·rw [if_neg e,if_neg e]
theorem jA (n v m:Nat):∀fs:List (Nat×Nat),n∉fs.map (·.1)→x5 (fs++[(n,v)]) m=if m=n then some v else x5 fs m
 | [],_=>by
  rw [List.nil_append,O6]
  by_cases e:n=m
  ·rw [if_pos e,if_pos e.symm]
  ·rw [if_neg e,if_neg (fun z=>e z.symm)]
 | p::r,h=>by
  rw [List.map_cons,List.mem_cons] at h
  rw [List.cons_append,O6,O6,jA n v m r fun z=>h (.inr z)]
  by_cases e:p.1=m
  ·rw [if_pos e,if_pos e,if_neg (fun z=>h (.inl (z.symm.trans e.symm)))]
  ·rw [if_neg e,if_neg e]
theorem Cu (fs:List (Nat×Nat)) (n v m:Nat):x5 (D7 fs n v) m=if m=n then some v else x5 fs m:=by
 unfold D7
 by_cases a:(fs.any fun p=>decide (p.1=n))=true
 ·rw [if_pos a,oP]
  by_cases e:m=n
  ·subst e
   obtain ⟨x,hx⟩:=lK ((bB _ _).mp a)
   rw [hx];simp
  ·rw [if_neg e]
   cases x5 fs m<;>simp [e]
 ·rw [if_neg a,jA _ _ _ _ fun z=>a ((bB _ _).mpr z)]
theorem iP (fs:List (Nat×Nat)) (n v:Nat):(D7 fs n v).map (·.1)=if n∈fs.map (·.1) then fs.map (·.1) else fs.map (·.1)++[n]:=by
 unfold D7
 by_cases a:(fs.any fun p=>decide (p.1=n))=true
 ·rw [if_pos a,if_pos ((bB _ _).mp a),List.map_map]
  apply List.map_congr_left
  intro p _
  dsimp only [Function.comp]
  split<;>rfl
 ·rw [if_neg a,if_neg fun z=>a ((bB _ _).mpr z),List.map_append]
  rfl
theorem lY:∀{fs:List (Nat×Nat)},(fs.map (·.1)).Nodup→fs=(fs.map (·.1)).map fun n=>(n,(x5 fs n).getD 0)
 | [],_=>rfl
 | p::r,h=>by
  rw [List.map_cons,List.nodup_cons] at h
  have ih:=lY h.2
  rw [List.map_cons,List.map_cons,O6,if_pos rfl]
  congr 1
  conv=>lhs;rw [ih]
  apply List.map_congr_left
  intro n hn
  rw [O6,if_neg (show ¬p.1=n from fun z=>h.1 (by rw [z];exact hn))]
def D1 (a b:Nat):Nat:=(a+b) % PRIME
def K6 (L:Level) (c:Counted) (t:Spot) (d:Nat):Nat:=match act (boardOf L) c.spot d with
 | none=>0
 | some u=>if u.at_=t.at_∧u.marks=t.marks then c.ways else 0
def lM (L:Level) (t:Spot) (a:Nat) (c:Counted):Nat:=ACTS.foldl (fun a d=>D1 a (K6 L c t d)) a
theorem iY {α β γ:Type} (f:γ→β→γ) (g:α→List β):∀(l:List α) (a:γ),(l.flatMap g).foldl f a=l.foldl (fun a x=>(g x).foldl f a) a
 | [],a=>rfl
 | x::l,a=>by
  rw [List.flatMap_cons,List.foldl_append,List.foldl_cons,iY f g l]
theorem AB (ring:List Counted) (t:Spot):waysInto (boardOf L) ring t=ring.foldl (lM L t) 0:=by
 unfold waysInto
 rw [iY]
 simp only [List.foldl_map]
 rfl
def A3 (L:Level) (known:List Nat) (c:Counted) (fs:List (Nat×Nat)) (d:Nat):List (Nat×Nat):=match act (boardOf L) c.spot d with
 | none=>fs
 | some t=>if c0 L t∈known then fs else D7 fs (c0 L t) (D1 ((x5 fs (c0 L t)).getD 0) c.ways)
def G3 (L:Level) (known:List Nat) (fs:List (Nat×Nat)) (c:Counted):List (Nat×Nat):=ACTS.foldl (A3 L known c) fs
def x6 (c:Counted):Found:=⟨c.spot,[]⟩
structure Cn (L:Level) (s:Spot) (known:List Nat) (y:List Found×Array Bool) (fs:List (Nat×Nat)) (a:Spot→Nat):Prop where
 wd:Wd L s known y
 ks:fs.map (·.1)=y.1.reverse.map (p4 L)
 val:∀t,Good L t→c0 L t∉known→(x5 fs (c0 L t)).getD 0=a t
 lt:∀t,a t < PRIME
theorem fD {a:Nat} (h:a < PRIME):D1 a 0=a:=Nat.mod_eq_of_lt h
theorem rB (a b:Nat):D1 a b < PRIME:=Nat.mod_lt _ (by decide)
theorem Cn.step (R:Rt L) {s:Spot} {known:List Nat} {y:List Found×Array Bool} {fs:List (Nat×Nat)} {a:Spot→Nat} {c:Counted} (h:Cn L s known y fs a) (g:Good L c.spot) (l:Lead L s c.spot) (d:Nat) :
  Cn L s known (m5 L (x6 c) y d) (A3 L known c fs d) fun t=>D1 (a t) (K6 L c t d):=by
 have hlt:∀t,D1 (a t) (K6 L c t d) < PRIME:=fun t=>rB _ _
 rcases gT R (f:=x6 c) h.wd g l d with ⟨_,e,h1⟩|⟨u,e,gu,lu,_,hh⟩
 ·have e:act (boardOf L) c.spot d=none:=e
  have e2:A3 L known c fs d=fs:=by unfold A3;rw [e]
  rw [h1,e2]
  refine ⟨h.wd,h.ks,fun t gt ht=>?_,hlt⟩
  have:K6 L c t d=0:=by unfold K6;rw [e]
  rw [this,fD (h.lt t)]
  exact h.val t gt ht
 ·have e:act (boardOf L) c.spot d=some u:=e
  have other:∀t,Good L t→t≠u→K6 L c t d=0:=fun t gt ht=>by
   unfold K6
   rw [e]
   dsimp only
   rw [if_neg]
   rintro ⟨z1,z2⟩
   exact ht (by cases t;cases u;simp at z1 z2;simp [z1,z2])
  have self:K6 L c u d=c.ways:=by
   unfold K6
   rw [e]
   dsimp only
   rw [if_pos ⟨rfl,rfl⟩]
  by_cases hk:c0 L u∈known
  ·have e2:A3 L known c fs d=fs:=by unfold A3;rw [e];dsimp only;rw [if_pos hk]
   have hw:m5 L (x6 c) y d=y:=by
    rcases hh with ⟨_,z⟩|⟨z,_⟩
    ·exact z
    ·exact absurd (List.mem_append_left _ hk) z
   rw [hw,e2]
   refine ⟨h.wd,h.ks,fun t gt ht=>?_,hlt⟩
   rw [other t gt (fun z=>ht (z▸hk)),fD (h.lt t)]
   exact h.val t gt ht
  ·have e2:A3 L known c fs d=D7 fs (c0 L u) (D1 ((x5 fs (c0 L u)).getD 0) c.ways):=by unfold A3;rw [e];dsimp only;rw [if_neg hk]
   rw [e2]
   have hv:∀t,Good L t→c0 L t∉known→(x5 (D7 fs (c0 L u) (D1 ((x5 fs (c0 L u)).getD 0) c.ways)) (c0 L t)).getD 0=D1 (a t) (K6 L c t d):=fun t gt ht=>by
    rw [Cu]
    by_cases z:c0 L t=c0 L u
    ·have:=P7 gt gu z
     subst this
     rw [if_pos rfl,self,h.val t gt ht]
     rfl
    ·rw [if_neg z,other t gt (fun q=>z (by rw [q])),fD (h.lt t)]
     exact h.val t gt ht
   rcases hh with ⟨z,hw⟩|⟨z,hw,hk2,W⟩
   ·rw [hw]
    refine ⟨h.wd,?_,hv,hlt⟩
    have:c0 L u∈fs.map (·.1):=by
     rw [h.ks]
     exact (List.mem_append.mp z).resolve_left hk
    rw [iP,if_pos this]
    exact h.ks
   ·refine ⟨W,?_,hv,hlt⟩
    have:c0 L u∉fs.map (·.1):=by
     rw [h.ks]
     exact fun q=>z (List.mem_append_right _ q)
    rw [iP,if_neg this,hw,h.ks]
    simp [p4]
theorem Cn.steps (R:Rt L) {s:Spot} {known:List Nat} {c:Counted} (g:Good L c.spot) (l:Lead L s c.spot):∀(ds:List Nat) {y:List Found×Array Bool} {fs:List (Nat×Nat)} {a:Spot→Nat},Cn L s known y fs a→
  Cn L s known (ds.foldl (m5 L (x6 c)) y) (ds.foldl (A3 L known c) fs) fun t=>ds.foldl (fun a d=>D1 a (K6 L c t d)) (a t)
 | [],y,fs,a,h=>h
 | d::ds,y,fs,a,h=>Cn.steps R g l ds (h.step R g l d)
theorem Cn.rows (R:Rt L) {s:Spot} {known:List Nat}:∀(ring:List Counted) {y:List Found×Array Bool} {fs:List (Nat×Nat)} {a:Spot→Nat},(∀c∈ring,Good L c.spot)→(∀c∈ring,Lead L s c.spot)→Cn L s known y fs a→
  Cn L s known ((ring.map x6).foldl (C5 L) y) (ring.foldl (G3 L known) fs) fun t=>ring.foldl (lM L t) (a t)
 | [],y,fs,a,_,_,h=>h
 | c::ring,y,fs,a,hg,hl,h=>Cn.rows R ring (fun c' z=>hg c' (List.mem_cons_of_mem _ z)) (fun c' z=>hl c' (List.mem_cons_of_mem _ z)) (h.steps R (hg c (by simp)) (hl c (by simp)) ACTS)
def nextC (L:Level) (ring:List Counted) (seen:Array Bool):List Counted:=(widen (boardOf L) (ring.map fun c=>⟨c.spot,[]⟩) seen).1.reverse.map fun f=>⟨f.spot,waysInto (boardOf L) ring f.spot⟩
def ctab (L:Level) (ring:List Counted):List (Nat×Nat):=ring.map fun c=>(c0 L c.spot,c.ways)
theorem xF (R:Rt L) {s:Spot} {k:Nat} {ring:List Counted} {seen:Array Bool} {got:List Spot} (b:Bs L s k (ring.map x6) seen got) :
  ring.foldl (G3 L (keys L (ring.map x6) got)) []=ctab L (nextC L ring seen):=by
 have hg:∀c∈ring,Good L c.spot:=fun c hc=>b.good (x6 c) (List.mem_map.mpr ⟨c,hc,rfl⟩)
 have hl:∀c∈ring,Lead L s c.spot:=fun c hc=>b.leadr (x6 c) (List.mem_map.mpr ⟨c,hc,rfl⟩)
 have h:=Cn.rows R ring (fs:=[]) (a:=fun _=>0) hg hl ⟨b.wd0,rfl,fun t _ _=>rfl,fun _=>by decide⟩
 rw [←cD] at h
 have hnd:=h.wd.sn.nd
 unfold wk at hnd
 have hnd2:=(List.nodup_append.mp hnd)
 have e:=lY (fs:=ring.foldl (G3 L (keys L (ring.map x6) got)) []) (by rw [h.ks];exact hnd2.2.1)
 rw [e,h.ks]
 unfold ctab nextC
 rw [List.map_map,List.map_map]
 apply List.map_congr_left
 intro f hf
 have hf':=List.mem_reverse.mp hf
 dsimp only [Function.comp]
 show (c0 L f.spot,_)=(c0 L f.spot,_)
 rw [AB]
 refine congrArg (fun z=>(c0 L f.spot,z)) (h.val f.spot (h.wd.good f hf') fun z=>?_)
 exact hnd2.2.2 _ z _ (List.mem_map.mpr ⟨f,hf,rfl⟩) rfl
theorem zG (ring:List Counted):(ring.map fun c=>(⟨c.spot,[]⟩:Found))=ring.map x6:=rfl
theorem Bs.congr {s:Spot} {k:Nat} {ring ring':List Found} {seen:Array Bool} {got:List Spot} (e:ring.map (·.spot)=ring'.map (·.spot)) (b:Bs L s k ring seen got):Bs L s k ring' seen got:=by
 have hk:keys L ring got=keys L ring' got:=by
  unfold keys
  congr 1
  have:∀r:List Found,r.map (p4 L)=(r.map (·.spot)).map (c0 L):=fun r=>by rw [List.map_map];rfl
  rw [this,this,e]
 have hm:∀f∈ring',∃f'∈ring,f'.spot=f.spot:=fun f hf=>by
  have:f.spot∈ring.map (·.spot):=by rw [e];exact List.mem_map.mpr ⟨f,hf,rfl⟩
  obtain ⟨f',h1,h2⟩:=List.mem_map.mp this
  exact ⟨f',h1,h2⟩
 have hn:ring=[]↔ring'=[]:=by
  have:=congrArg List.length e
  rw [List.length_map,List.length_map] at this
  rw [←List.length_eq_zero_iff,←List.length_eq_zero_iff,this]
 refine ⟨fun f hf=>?_,b.gotg,fun f hf=>?_,b.leadg,hk▸b.sn,hk▸b.clo,hk▸b.st,?_⟩
 ·obtain ⟨f',h1,h2⟩:=hm f hf
  rw [←h2];exact b.good f' h1
 ·obtain ⟨f',h1,h2⟩:=hm f hf
  rw [←h2];exact b.leadr f' h1
 ·have:=b.fuel
  rw [hk] at this
  by_cases h:ring=[]
  ·rw [if_pos h] at this
   rw [if_pos (hn.mp h)]
   exact this
  ·rw [if_neg h] at this
   rw [if_neg (fun z=>h (hn.mpr z))]
   exact this
theorem Bs.nextC (R:Rt L) {s:Spot} {k:Nat} {ring:List Counted} {seen:Array Bool} {got:List Spot} (b:Bs L s (k+1) (ring.map x6) seen got) (h:ring≠[]) :
  Bs L s k ((Mt.nextC L ring seen).map x6) (widen (boardOf L) (ring.map x6) seen).2 (((ring.map x6).map (·.spot)).reverse++got):=by
 refine (b.step R (by simpa using h)).congr ?_
 unfold Mt.nextC
 rw [List.map_map,List.map_map,zG]
 rfl
theorem Dj {k:Nat} {ring:List Counted} {seen:Array Bool} (h:(ring.filter fun c=>over (boardOf L) c.spot)=[]) (hn:ring≠[]) :
  countIn (boardOf L) (k+1) ring seen=countIn (boardOf L) k (nextC L ring seen) (widen (boardOf L) (ring.map x6) seen).2:=by
 conv=>lhs;unfold countIn
 dsimp only
 rw [h]
 rw [if_neg (by simp),if_neg (by simpa using hn)]
 rfl
theorem AT {k:Nat} {seen:Array Bool}:countIn (boardOf L) k [] seen=0:=by
 cases k<;>rfl
theorem tG {k:Nat} {ring:List Counted} {seen:Array Bool} (h:(ring.filter fun c=>over (boardOf L) c.spot)≠[]) :
  countIn (boardOf L) (k+1) ring seen=((ring.filter fun c=>over (boardOf L) c.spot).map fun c=>c.ways).foldl D1 0:=by
 conv=>lhs;unfold countIn
 dsimp only
 rw [if_pos (by simpa using h)]
 rfl
theorem pR:∀(l:List Nat) (a:Nat),a < PRIME→l.foldl D1 a=(a+l.sum) % PRIME
 | [],a,h=>by rw [List.foldl_nil,List.sum_nil,Nat.add_zero,Nat.mod_eq_of_lt h]
 | x::l,a,h=>by
  rw [List.foldl_cons,pR l _ (rB _ _),List.sum_cons]
  unfold D1
  rw [Nat.mod_add_mod,Nat.add_assoc]
end
end Mt
namespace Pr
open PySem PySem.Spec PyProof.Rows L2
def i9 (i:Nat):Stmt:=PySem.Challenge.pw_locklevels_s01_answers.main.body.getD i (.Pass ⟨0,0,0,0⟩)
abbrev mK:Stmt:=i9 30
abbrev AQ:Stmt:=i9 31
abbrev wY:Stmt:=i9 32
abbrev xI:Stmt:=i9 33
abbrev oE:Stmt:=i9 34
abbrev EO:Stmt:=i9 35
abbrev Bh:Stmt:=i9 36
abbrev iA:Stmt:=y9 (i9 37) 0
abbrev BI:Stmt:=y9 (i9 37) 1
abbrev CQ:Stmt:=y9 (i9 37) 2
abbrev Dt:Stmt:=y9 (i9 37) 3
abbrev BB:Stmt:=y9 (i9 37) 4
abbrev Dz:Stmt:=y9 (i9 37) 5
abbrev yX:Stmt:=y9 (i9 37) 6
abbrev vE:Stmt:=y9 (i9 37) 7
abbrev tQ:Stmt:=y9 (i9 37) 8
abbrev zI:Stmt:=y9 (i9 37) 9
abbrev zA:Stmt:=y9 (i9 37) 10
abbrev xL:Stmt:=y9 (i9 37) 11
abbrev rE:Stmt:=y9 (i9 37) 12
abbrev xS:Stmt:=y9 (i9 37) 13
abbrev yM:Stmt:=y9 (i9 37) 14
abbrev yO:Stmt:=y9 (i9 37) 15
abbrev AI:Stmt:=y9 (i9 37) 16
abbrev Ei:Stmt:=y9 (i9 37) 17
abbrev uC:Stmt:=i9 40
abbrev lC:Stmt:=i9 41
abbrev xE:Stmt:=i9 42
abbrev bW:Stmt:=i9 43
abbrev V4:Stmt:=i9 44
abbrev yW:Stmt:=i9 45
abbrev oW:Stmt:=i9 46
abbrev uE:Stmt:=i9 47
abbrev oF:Stmt:=i9 48
abbrev sH:Stmt:=y9 (i9 58) 0
abbrev CP:Stmt:=y9 (i9 58) 1
abbrev As:Stmt:=y9 (i9 58) 2
abbrev rR:Stmt:=y9 (i9 58) 3
abbrev sR:Stmt:=y9 (i9 58) 4
abbrev yG:Stmt:=i9 59
abbrev Bb:Stmt:=i9 60
abbrev uU:Stmt:=i9 61
abbrev Ch:Stmt:=i9 62
abbrev Ca:Stmt:=i9 63
abbrev zZ:Stmt:=i9 64
abbrev EK:Stmt:=i9 65
abbrev BO:Stmt:=i9 66
abbrev xR:Stmt:=i9 67
abbrev fH:Stmt:=i9 68
abbrev gB:Stmt:=i9 69
abbrev wH:Stmt:=i9 70
abbrev eT:Stmt:=i9 71
abbrev yQ:Stmt:=i9 72
abbrev tW:Stmt:=i9 73
abbrev Dn:Stmt:=i9 74
abbrev xP:Stmt:=i9 75
abbrev yI:Stmt:=i9 76
abbrev Cw:Stmt:=i9 77
abbrev zY:Stmt:=i9 79
abbrev Cy:Stmt:=i9 80
abbrev Bj:Stmt:=i9 81
abbrev vP:Stmt:=i9 82
abbrev iJ:Stmt:=i9 83
abbrev S5:Stmt:=i9 85
structure GT (K:PySem.W.Frag) (mg:Str→Option Value) (x:Str) (xs:List V):Prop where
 ex:∃a,mg x=some (.ref a)∧∀H,SqT K H a xs
structure GD (P:Program) (w:World) (K:PySem.W.Frag) (mg:Str→Option Value) (x:Str) (kvs:List (d9×V)):Prop where
 ex:∃a,mg x=some (.ref a)∧KD P w K a kvs
def iv (l:List Int):List V:=l.map V.int
def Q2 (l:List (Int×Int)):List (d9×V):=l.map fun p=>(Sum.inl p.1,V.int p.2)
structure Df (K:PySem.W.Frag) (mg:Str→Option Value) (x qual:Str) (st:Stmt) (ps:List Str):Prop where
 ex:∃f fd,mg x=some (.ref f)∧Fun K x qual st f fd∧Binds K fd ps []
structure Mf (K:PySem.W.Frag) (C:Addr) (m qual:Str) (st:Stmt) (ps:List Str):Prop where
 ex:∃f fd,U6 K C m f∧Fun K m qual st f fd∧Binds K fd ps []
structure Mkf (K:PySem.W.Frag) (C:Addr) (qual:Str) (st:Stmt) (ps:List Str):Prop where
 ex:∃f fd,Mk K C f∧Fun K "__init__" qual st f fd∧Binds K fd ps []
structure i5 (P:Program) (w:World) (K:PySem.W.Frag) (mg:Str→Option Value) (Cb Cs:Addr):Prop where
 b_len:mg "len"=none
 b_range:mg "range"=none
 b_enumerate:mg "enumerate"=none
 b_zip:mg "zip"=none
 b_reversed:mg "reversed"=none
 b_list:mg "list"=none
 b_set:mg "set"=none
 b_any:mg "any"=none
 b_sum:mg "sum"=none
 g_WALL:GI mg "WALL" (0)
 g_FLOOR:GI mg "FLOOR" (1)
 g_START:GI mg "START" (2)
 g_STAIRS:GI mg "STAIRS" (3)
 g_SMALL_KEY:GI mg "SMALL_KEY" (4)
 g_LOCK:GI mg "LOCK" (5)
 g_LEVER_A:GI mg "LEVER_A" (6)
 g_LEVER_B:GI mg "LEVER_B" (7)
 g_GATE_A_ON:GI mg "GATE_A_ON" (8)
 g_GATE_A_OFF:GI mg "GATE_A_OFF" (9)
 g_GATE_B_ON:GI mg "GATE_B_ON" (10)
 g_GATE_B_OFF:GI mg "GATE_B_OFF" (11)
 g_PULL:GI mg "PULL" (4)
 g_ACTS:GI mg "ACTS" (5)
 g_MOST_THINGS:GI mg "MOST_THINGS" (6)
 g_CANNOT:GI mg "CANNOT" (-1)
 g_NO_START_OR_STAIRS:GI mg "NO_START_OR_STAIRS" (-4)
 g_TOO_MANY_THINGS:GI mg "TOO_MANY_THINGS" (-5)
 g_MODULUS:GI mg "MODULUS" (1000000007)
 g_DONE:GI mg "DONE" (0)
 g_OUTSIDE_RANGE:GI mg "OUTSIDE_RANGE" (-1)
 g_NO_LEVEL:GI mg "NO_LEVEL" (-2)
 g_NO_SUCH:GI mg "NO_SUCH" (-3)
 g_CANT_BE_DONE:GI mg "CANT_BE_DONE" (-6)
 g_GAME_OVER:GI mg "GAME_OVER" (-7)
 g_NOTHING_DONE:GI mg "NOTHING_DONE" (-8)
 g_OPEN_LEVEL:GI mg "OPEN_LEVEL" (0)
 g_KEYS:GT K mg "KEYS" (iv [4,12,13,14])
 g_THINGS:GT K mg "THINGS" (iv [4,5,12,13,14])
 g_LEVERS:GT K mg "LEVERS" (iv [6,7])
 g_GATES:GT K mg "GATES" (iv [8,9,10,11])
 g_GATES_OPEN_IF_ON:GT K mg "GATES_OPEN_IF_ON" (iv [8,10])
 g_GOES_BY_MARKS:GT K mg "GOES_BY_MARKS" (iv [4,5,8,9,10,11,12,13,14,15,16,17])
 g_STEP_RIGHT:GT K mg "STEP_RIGHT" (iv [0,1,0,-1])
 g_STEP_DOWN:GT K mg "STEP_DOWN" (iv [-1,0,1,0])
 g_BITS:GT K mg "BITS" (iv [1,2,4,8,16,32,64,128])
 g_KEY_OF_DOOR:GD P w K mg "KEY_OF_DOOR" (Q2 [(15,12),(16,13),(17,14)])
 g_DIRECTION_OF_DROP:GD P w K mg "DIRECTION_OF_DROP" (Q2 [(18,0),(19,1),(20,2),(21,3)])
 cl_Board:Cls K Cb
 mg_Board:mg "Board"=some (.ref Cb)
 nB_width:NoAttr K Cb "width"
 nB_height:NoAttr K Cb "height"
 nB_codes:NoAttr K Cb "codes"
 nB_size:NoAttr K Cb "size"
 nB_things:NoAttr K Cb "things"
 nB_thing_bits:NoAttr K Cb "thing_bits"
 nB_code_bits:NoAttr K Cb "code_bits"
 nB_lever_bits:NoAttr K Cb "lever_bits"
 nB_exits:NoAttr K Cb "exits"
 nB_is_free:NoAttr K Cb "is_free"
 nB_known_steps:NoAttr K Cb "known_steps"
 cl_Session:Cls K Cs
 mg_Session:mg "Session"=some (.ref Cs)
 nS_board:NoAttr K Cs "board"
 nS_spots:NoAttr K Cs "spots"
 nS_hopeful:NoAttr K Cs "hopeful"
 d_things_of:Df K mg "things_of" "things_of" mK ["codes"]
 d_refusal_of:Df K mg "refusal_of" "refusal_of" AQ ["codes"]
 d_changed_codes:Df K mg "changed_codes" "changed_codes" wY ["codes","cell","code"]
 d_codes_without:Df K mg "codes_without" "codes_without" xI ["codes","cell"]
 d_count_bits:Df K mg "count_bits" "count_bits" oE ["number"]
 d_may_leave:Df K mg "may_leave" "may_leave" EO ["code","act"]
 d_may_come:Df K mg "may_come" "may_come" Bh ["code","act"]
 d_acts_to:Df K mg "acts_to" "acts_to" uC ["spot","origins"]
 d_explore:Df K mg "explore" "explore" lC ["board","spot","is_goal"]
 d_first_list:Df K mg "first_list" "first_list" xE ["board","spot","is_goal"]
 d_list_to_stairs:Df K mg "list_to_stairs" "list_to_stairs" bW ["board","spot"]
 d_reached_spots:Df K mg "reached_spots" "reached_spots" V4 ["board","spot"]
 d_sources_of:Df K mg "sources_of" "sources_of" yW ["board","spots"]
 d_hopeful_spots:Df K mg "hopeful_spots" "hopeful_spots" oW ["board","spot"]
 d_next_counts:Df K mg "next_counts" "next_counts" uE ["board","layer","known"]
 d_count_ways:Df K mg "count_ways" "count_ways" oF ["board","spot"]
 d_told_row:Df K mg "told_row" "told_row" yG ["row"]
 d_told_list:Df K mg "told_list" "told_list" Bb ["acts"]
 d_begin_level:Df K mg "begin_level" "begin_level" uU ["session","width","height","codes"]
 d_open_level:Df K mg "open_level" "open_level" Ch ["session","numbers","row"]
 d_do_act:Df K mg "do_act" "do_act" Ca ["session","numbers","row"]
 d_take_back:Df K mg "take_back" "take_back" zZ ["session","numbers","row"]
 d_start_again:Df K mg "start_again" "start_again" EK ["session","numbers","row"]
 d_tell_here:Df K mg "tell_here" "tell_here" BO ["session","numbers","row"]
 d_least_list:Df K mg "least_list" "least_list" xR ["session","numbers","row"]
 d_far_list:Df K mg "far_list" "far_list" fH ["session","numbers","row"]
 d_tell_reach:Df K mg "tell_reach" "tell_reach" gB ["session","numbers","row"]
 d_tell_spoilt:Df K mg "tell_spoilt" "tell_spoilt" wH ["session","numbers","row"]
 d_spoil_list:Df K mg "spoil_list" "spoil_list" eT ["session","numbers","row"]
 d_tell_needed:Df K mg "tell_needed" "tell_needed" yQ ["session","numbers","row"]
 d_try_acts:Df K mg "try_acts" "try_acts" tW ["session","numbers","row"]
 d_edit_cell:Df K mg "edit_cell" "edit_cell" Dn ["session","numbers","row"]
 d_tell_ways:Df K mg "tell_ways" "tell_ways" xP ["session","numbers","row"]
 d_tell_things:Df K mg "tell_things" "tell_things" yI ["session","numbers","row"]
 d_tell_state:Df K mg "tell_state" "tell_state" Cw ["session","numbers","row"]
 d_count_numbers:Df K mg "count_numbers" "count_numbers" zY ["call"]
 d_has_row:Df K mg "has_row" "has_row" Cy ["call"]
 d_is_within:Df K mg "is_within" "is_within" Bj ["number","limits"]
 d_is_outside:Df K mg "is_outside" "is_outside" vP ["call","numbers","row"]
 d_answer:Df K mg "answer" "answer" iJ ["session","call","numbers","row"]
 d_answers:Df K mg "answers" "answers" S5 ["calls"]
 mB_set_thing_bits:Mf K Cb "set_thing_bits" "Board.set_thing_bits" BI ["self"]
 mB_set_lever_bits:Mf K Cb "set_lever_bits" "Board.set_lever_bits" CQ ["self"]
 mB_cell_at:Mf K Cb "cell_at" "Board.cell_at" Dt ["self","x","y"]
 mB_neighbour:Mf K Cb "neighbour" "Board.neighbour" BB ["self","cell","act"]
 mB_find_exits:Mf K Cb "find_exits" "Board.find_exits" Dz ["self","cell"]
 mB_first_spot:Mf K Cb "first_spot" "Board.first_spot" yX ["self"]
 mB_cell_of:Mf K Cb "cell_of" "Board.cell_of" vE ["self","spot"]
 mB_marks_of:Mf K Cb "marks_of" "Board.marks_of" tQ ["self","spot"]
 mB_is_over:Mf K Cb "is_over" "Board.is_over" zI ["self","spot"]
 mB_place:Mf K Cb "place" "Board.place" zA ["self","spot"]
 mB_small_keys:Mf K Cb "small_keys" "Board.small_keys" xL ["self","marks"]
 mB_mark_row:Mf K Cb "mark_row" "Board.mark_row" rE ["self","marks"]
 mB_gate_is_open:Mf K Cb "gate_is_open" "Board.gate_is_open" xS ["self","code","marks"]
 mB_lock_lets_in:Mf K Cb "lock_lets_in" "Board.lock_lets_in" yM ["self","cell","marks"]
 mB_marks_after:Mf K Cb "marks_after" "Board.marks_after" yO ["self","cell","marks"]
 mB_find_steps:Mf K Cb "find_steps" "Board.find_steps" AI ["self","spot"]
 mB_steps:Mf K Cb "steps" "Board.steps" Ei ["self","spot"]
 mS_begin:Mf K Cs "begin" "Session.begin" CP ["self","board"]
 mS_restart:Mf K Cs "restart" "Session.restart" As ["self"]
 mS_spot_here:Mf K Cs "spot_here" "Session.spot_here" rR ["self"]
 mS_is_spoilt:Mf K Cs "is_spoilt" "Session.is_spoilt" sR ["self","spot"]
 mk_Board:Mkf K Cb "Board.__init__" iA ["self","width","height","codes"]
 mk_Session:Mkf K Cs "Session.__init__" sH ["self"]
abbrev P1:=V→Hp→VK→Prop
abbrev P2:=V→V→Hp→VK→Prop
abbrev P3:=V→V→V→Hp→VK→Prop
abbrev P4:=V→V→V→V→Hp→VK→Prop
def sp1 (φ:P1):Sp:=fun vs H Q _=>∃a,vs=[a]∧φ a H Q
def x4 (φ:P2):Sp:=fun vs H Q _=>∃a b,vs=[a,b]∧φ a b H Q
def t7 (φ:P3):Sp:=fun vs H Q _=>∃a b c,vs=[a,b,c]∧φ a b c H Q
def bI (φ:P4):Sp:=fun vs H Q _=>∃a b c d,vs=[a,b,c,d]∧φ a b c d H Q
section
variable (P:Program) (w:World) (K:PySem.W.Frag) (mg:Str→Option Value) (base:Heap)
def k7 (k:Nat) (x:Str) (ps:List Str) (sp:Sp):Prop:=∃f fd,mg x=some (.ref f)∧PySem.W.keepIn K (.ref f)=true∧Binds K fd ps []∧C9 P w K mg base x8 k f fd ps sp
def x9 (C:Addr) (k:Nat) (m:Str) (ps:List Str) (sp:Sp):Prop:=∃f fd,U6 K C m f∧Binds K fd ps []∧C9 P w K mg base x8 k f fd ps sp
def W7 (C:Addr) (k:Nat) (ps:List Str) (sp:Sp):Prop:=∃f fd,Mk K C f∧Binds K fd ps []∧C9 P w K mg base x8 k f fd ps sp
end
section
variable {P:Program} {w:World} {K:PySem.W.Frag} {mg:Str→Option Value} {base:Heap}
abbrev dC (P:Program) (w:World) (K:PySem.W.Frag) (mg:Str→Option Value) (base:Heap) (k:Nat) (N:List Str) (qual:Str) (st:Stmt) (vs:List V) (H:Hp) (Q:VK):Prop:=
 ∀(f:Addr) (cdv:Value) (A:Around) (outer:List Env) (s:Shared) (E:XK),Room k (A.deeper (envOfC qual (k9 st) s.heap.objs.size f cdv))→
  ∃t,PSs (F7 x8 P w K mg base N qual (k9 st) f cdv A outer s H E).nox (E2 st) t∧t { nx:=fun _ H'=>Q .non H',rt:=Q } (start N vs) H
theorem Df.ok {x qual:Str} {st:Stmt} {N ps:List Str} {k:Nat} {sp:Sp} (D:Df K mg x qual st ps) (S:N0 N ps (k9 st)) (len:∀vs H Q E,sp vs H Q E→vs.length=ps.length)
  (hb:∀(vs:List V) (H:Hp) (Q:VK) (E:XK),sp vs H Q E→dC P w K mg base k N qual st vs H Q):k7 P w K mg base (k+1) x ps sp:=by
 obtain ⟨f,fd,h1,h2,h3⟩:=D.ex
 exact ⟨f,fd,h1,h2.kp,h3,h2.ok S len fun cdv A outer s H vs Q E hr hs=>hb vs H Q E hs f cdv A outer s E hr⟩
theorem Mf.ok {C:Addr} {m qual:Str} {st:Stmt} {N ps:List Str} {k:Nat} {sp:Sp} (D:Mf K C m qual st ps) (S:N0 N ps (k9 st)) (len:∀vs H Q E,sp vs H Q E→vs.length=ps.length)
  (hb:∀(vs:List V) (H:Hp) (Q:VK) (E:XK),sp vs H Q E→dC P w K mg base k N qual st vs H Q):x9 P w K mg base C (k+1) m ps sp:=by
 obtain ⟨f,fd,h1,h2,h3⟩:=D.ex
 exact ⟨f,fd,h1,h3,h2.ok S len fun cdv A outer s H vs Q E hr hs=>hb vs H Q E hs f cdv A outer s E hr⟩
theorem Mkf.ok {C:Addr} {qual:Str} {st:Stmt} {N ps:List Str} {k:Nat} {sp:Sp} (D:Mkf K C qual st ps) (S:N0 N ps (k9 st)) (len:∀vs H Q E,sp vs H Q E→vs.length=ps.length)
  (hb:∀(vs:List V) (H:Hp) (Q:VK) (E:XK),sp vs H Q E→dC P w K mg base k N qual st vs H Q):W7 P w K mg base C (k+1) ps sp:=by
 obtain ⟨f,fd,h1,h2,h3⟩:=D.ex
 exact ⟨f,fd,h1,h3,h2.ok S len fun cdv A outer s H vs Q E hr hs=>hb vs H Q E hs f cdv A outer s E hr⟩
theorem l1 {φ:P1} {vs:List V} {H:Hp} {Q:VK} {E:XK} (h:sp1 φ vs H Q E):vs.length=1:=by obtain ⟨a,rfl,_⟩:=h;rfl
theorem l2 {φ:P2} {vs:List V} {H:Hp} {Q:VK} {E:XK} (h:x4 φ vs H Q E):vs.length=2:=by obtain ⟨a,b,rfl,_⟩:=h;rfl
theorem l3 {φ:P3} {vs:List V} {H:Hp} {Q:VK} {E:XK} (h:t7 φ vs H Q E):vs.length=3:=by obtain ⟨a,b,c,rfl,_⟩:=h;rfl
theorem l4 {φ:P4} {vs:List V} {H:Hp} {Q:VK} {E:XK} (h:bI φ vs H Q E):vs.length=4:=by obtain ⟨a,b,c,d,rfl,_⟩:=h;rfl
end
section
variable {X:Cx} {k j:Nat} {x m:Str} {ps:List Str} {sp:Sp} {C:Addr} {e o:Expr} {es:List Expr} {t:TA} {ta:TE} {p pos apos:Pos}
theorem n9 (h:k7 X.prog X.w X.K X.mg X.base k x ps sp) (hr:Room j X.A) (hj:k≤j) (ha:PA X (e::es) t) (hg:Gl X x:=by rfl) (hdb:(x==("__debug__":Str))=false:=by decide)
  (he:starEach (e::es) X.env=(false,eval e X.env)::starEach es X.env:=by rfl) (hpl:(backTo pos (starEach es X.env)).any (·.1)=false:=by rfl) :
  PE X (.Call (.Name x p) (e::es) [] pos) (iR sp [] E0 t):=by
 obtain ⟨f,fd,h1,h2,h3,h4⟩:=h
 exact Dd h4 (hr.mono hj) hg h1 h2 h3 .nil X2 ha hdb he hpl
theorem m9 {pl:Sem Bool} (h:x9 X.prog X.w X.K X.mg X.base C k m ps sp) (hr:Room j X.A) (hj:k≤j) (c:Cls X.K C) (ho:PE X o ta) (ha:PA X (e::es) t)
  (hst:starEach (e::es) X.env=(false,eval e X.env)::starEach es X.env:=by rfl) (hpl:(backTo pos (starEach es X.env)).any (·.1)=false:=by rfl)
  (ht:eval (.Call (.Attribute o m apos) (e::es) [] pos) X.env=(do
   let ov ←eval o X.env
   standAt apos.atName
   let (f,first) ←holding [ov] (getMethod ov m pl)
   callWith pos f first (backTo pos (starEach (e::es) X.env)) (backToKw pos (keywordEach [] X.env))):=by rfl) :
  PE X (.Call (.Attribute o m apos) (e::es) [] pos) (Z5 C m sp [] E0 ta t):=by
 obtain ⟨f,fd,h1,h2,h3⟩:=h
 exact rQ ho c h1 h3 (hr.mono hj) h2 .nil X2 ha hst hpl ht
theorem C0 {pl:Sem Bool} (h:x9 X.prog X.w X.K X.mg X.base C k m ps sp) (hr:Room j X.A) (hj:k≤j) (c:Cls X.K C) (ho:PE X o ta)
  (ht:eval (.Call (.Attribute o m apos) [] [] pos) X.env=(do
   let ov ←eval o X.env
   standAt apos.atName
   let (f,first) ←holding [ov] (getMethod ov m pl)
   callWith pos f first (backTo pos (starEach [] X.env)) (backToKw pos (keywordEach [] X.env))):=by rfl) :
  PE X (.Call (.Attribute o m apos) [] [] pos) (Z5 C m sp [] E0 ta R3):=by
 obtain ⟨f,fd,h1,h2,h3⟩:=h
 exact zL ho c h1 h3 (hr.mono hj) h2 .nil X2 ht
theorem kX (h:W7 X.prog X.w X.K X.mg X.base C k ps sp) (hm:X.mg x=some (.ref C)) (hr:Room j X.A) (hj:k+1≤j) (ha:PA X (e::es) t) (hg:Gl X x:=by rfl) (hdb:(x==("__debug__":Str))=false:=by decide)
  (he:starEach (e::es) X.env=(false,eval e X.env)::starEach es X.env:=by rfl) (hpl:(backTo pos (starEach es X.env)).any (·.1)=false:=by rfl) :
  PE X (.Call (.Name x p) (e::es) [] pos) (bL C sp [] E0 t):=by
 obtain ⟨f,fd,h1,h2,h3⟩:=h
 exact ET h1 h3 (hr.mono hj) hg hm h2 .nil X2 ha hdb he hpl
theorem uM (h:W7 X.prog X.w X.K X.mg X.base C k ps sp) (hm:X.mg x=some (.ref C)) (hr:Room j X.A) (hj:k+1≤j) (hg:Gl X x:=by rfl) (hdb:(x==("__debug__":Str))=false:=by decide) :
  PE X (.Call (.Name x p) [] [] pos) (bL C sp [] E0 R3):=by
 obtain ⟨f,fd,h1,h2,h3⟩:=h
 exact vR h1 h3 (hr.mono hj) hg hm h2 .nil X2 hdb
def iC (K:PySem.W.Frag) (xs:List V):TE:=fun _ H Q=>∀a,(∀H',SqT K H' a xs)→Q (.ref a) H
theorem D3 {xs:List V} (G:GT X.K X.mg x xs) (hg:Gl X x:=by rfl) (hd:(x==("__debug__":Str))=false:=by decide):PE X (.Name x pos) (iC X.K xs):=by
 obtain ⟨a,h1,h2⟩:=G.ex
 intro pins s σ H Q I h
 exact fQ h1 hg hd pins s σ H Q I (h a h2)
def Ba (P:Program) (w:World) (K:PySem.W.Frag) (kvs:List (d9×V)):TE:=fun _ H Q=>∀a,KD P w K a kvs→Q (.ref a) H
theorem R9 {kvs:List (d9×V)} (G:GD X.prog X.w X.K X.mg x kvs) (hg:Gl X x:=by rfl) (hd:(x==("__debug__":Str))=false:=by decide):PE X (.Name x pos) (Ba X.prog X.w X.K kvs):=by
 obtain ⟨a,h1,h2⟩:=G.ex
 intro pins s σ H Q I h
 exact fQ h1 hg hd pins s σ H Q I (h a h2)
end
theorem j5 {K:PySem.W.Frag} {H:Hp} {p C dx:Addr} {fs:List (Str×V)} {f:Str} {v:V} {Q:V→Prop} (h:H p=some (.ins C dx fs)) (c:Cls K C) (n:NoAttr K C f) (l:fs.lookup f=some v) (q:Q v) :
  ∃a C' dx' fs' v',V.ref p=.ref a∧H a=some (.ins C' dx' fs')∧Cls K C'∧NoAttr K C' f∧fs'.lookup f=some v'∧Q v':=⟨_,_,_,_,_,rfl,h,c,n,l,q⟩
theorem dS {Ta:Type} {p:Ta→Prop} {G:Prop} (h:∃a,p a) (k:∀a,p a→G):G:=h.elim k
theorem eB {Ta Tb:Type} {p:Ta→Tb→Prop} {G:Prop} (h:∃a b,p a b) (k:∀a b,p a b→G):G:=h.elim fun a h=>h.elim fun b h=>k a b h
theorem dZ {Ta Tb Tc:Type} {p:Ta→Tb→Tc→Prop} {G:Prop} (h:∃a b c,p a b c) (k:∀a b c,p a b c→G):G:=h.elim fun a h=>h.elim fun b h=>h.elim fun c h=>k a b c h
theorem AM {Ta Tb Tc Td Te Tf:Type} {p:Ta→Tb→Tc→Td→Te→Tf→Prop} {G:Prop} (h:∃a b c d e f,p a b c d e f) (k:∀a b c d e f,p a b c d e f→G):G:=h.elim fun a h=>h.elim fun b h=>h.elim fun c h=>h.elim fun d h=>h.elim fun e h=>h.elim fun f h=>k a b c d e f h
theorem lR {Ta Tb Tc Td Te Tf Ti:Type} {p:Ta→Tb→Tc→Td→Te→Tf→Ti→Prop} {G:Prop} (h:∃a b c d e f i,p a b c d e f i) (k:∀a b c d e f i,p a b c d e f i→G):G:=h.elim fun a h=>h.elim fun b h=>h.elim fun c h=>h.elim fun d h=>h.elim fun e h=>h.elim fun f h=>h.elim fun i h=>k a b c d e f i h
theorem wZ {Ta Tb Tc Td Te Tf Ti Tl Tm:Type} {p:Ta→Tb→Tc→Td→Te→Tf→Ti→Tl→Tm→Prop} {G:Prop} (h:∃a b c d e f i l m,p a b c d e f i l m) (k:∀a b c d e f i l m,p a b c d e f i l m→G):G:=h.elim fun a h=>h.elim fun b h=>h.elim fun c h=>h.elim fun d h=>h.elim fun e h=>h.elim fun f h=>h.elim fun i h=>h.elim fun l h=>h.elim fun m h=>k a b c d e f i l m h
theorem rY {Ta Tb Tc Td Te Tf Ti Tl Tm Tn To:Type} {p:Ta→Tb→Tc→Td→Te→Tf→Ti→Tl→Tm→Tn→To→Prop} {G:Prop} (h:∃a b c d e f i l m n o,p a b c d e f i l m n o) (k:∀a b c d e f i l m n o,p a b c d e f i l m n o→G):G:=h.elim fun a h=>h.elim fun b h=>h.elim fun c h=>h.elim fun d h=>h.elim fun e h=>h.elim fun f h=>h.elim fun i h=>h.elim fun l h=>h.elim fun m h=>h.elim fun n h=>h.elim fun o h=>k a b c d e f i l m n o h
theorem kD {A B C D E F H G:Prop} (h:A∧B∧C∧D∧E∧F∧H) (g:A→B→C→D→E→F→H→G):G:=g h.1 h.2.1 h.2.2.1 h.2.2.2.1 h.2.2.2.2.1 h.2.2.2.2.2.1 h.2.2.2.2.2.2
theorem kI {A B C D E F H I G:Prop} (h:A∧B∧C∧D∧E∧F∧H∧I) (g:A→B→C→D→E→F→H→I→G):G:=kD h.2 (g h.1)
theorem gA {A B C D E F H I J K L G:Prop} (h:A∧B∧C∧D∧E∧F∧H∧I∧J∧K∧L) (g:A→B→C→D→E→F→H→I→J→K→L→G):G:=g h.1 h.2.1 h.2.2.1 h.2.2.2.1 h.2.2.2.2.1 h.2.2.2.2.2.1 h.2.2.2.2.2.2.1 h.2.2.2.2.2.2.2.1 h.2.2.2.2.2.2.2.2.1 h.2.2.2.2.2.2.2.2.2.1 h.2.2.2.2.2.2.2.2.2.2
theorem hZ {A B C D E F H I J K L M G:Prop} (h:A∧B∧C∧D∧E∧F∧H∧I∧J∧K∧L∧M) (g:A→B→C→D→E→F→H→I→J→K→L→M→G):G:=gA h.2 (g h.1)
theorem bH {A B C D E F H I J K L M N G:Prop} (h:A∧B∧C∧D∧E∧F∧H∧I∧J∧K∧L∧M∧N) (g:A→B→C→D→E→F→H→I→J→K→L→M→N→G):G:=hZ h.2 (g h.1)
theorem bF {α:Type} {P:List α→Prop} {n:Nat} {u:List α} (h:u.length=n+1) (k:∀a v,v.length=n→P (a::v)):P u:=by
 cases u with
 | nil=>cases h
 | cons a v=>exact k a v (Nat.succ.inj h)
@[elab_as_elim] theorem us1 {α:Type} {P:List α→Prop} {u:List α} (h:u.length=1) (k:∀a,P [a]):P u:=bF h fun a _ h=>List.eq_nil_of_length_eq_zero h▸k a
@[elab_as_elim] theorem us2 {α:Type} {P:List α→Prop} {u:List α} (h:u.length=2) (k:∀a b,P [a,b]):P u:=bF h fun a _ h=>us1 (P:=fun v=>P (a::v)) h (k a)
@[elab_as_elim] theorem us3 {α:Type} {P:List α→Prop} {u:List α} (h:u.length=3) (k:∀a b c,P [a,b,c]):P u:=bF h fun a _ h=>us2 (P:=fun v=>P (a::v)) h (k a)
@[elab_as_elim] theorem us4 {α:Type} {P:List α→Prop} {u:List α} (h:u.length=4) (k:∀a b c d,P [a,b,c,d]):P u:=bF h fun a _ h=>us3 (P:=fun v=>P (a::v)) h (k a)
end Pr
namespace HT
open PySem PyProof.Rows
section
open PySem.SeqAt
open PySem.AutoSeq1 (wpAny_loadPart')
open PySem.MeetsSeq PySem.MeetsSeq2 PySem.MeetsSeq3
variable {prog:Program} {w:World} {A:Around} {E:Value→Shared→Prop} {s:Shared}
theorem getItem_tuple_whole {t sl:Addr} {items:Array Value} {vl vu:Value} {lo hi:Option Int} {Q:Value→Shared→Prop} (ht:IsTup s.heap t items) (hs:s.heap.IsSliceOf sl vl vu .none) (pl:IsPart vl lo) (pu:IsPart vu hi)
  (hw:sIx items.size 0 lo=0∧sIx items.size items.size hi=items.size) (h:Q (.ref t) s):wpAny (model prog w) A (getItem (.ref t) (.ref sl)) Q E s:=by
 obtain ⟨os,hos,hcs,hds⟩:=id hs
 have hTs:s.TypeIs (.ref sl) "slice":=⟨os,hos,hcs⟩
 unfold getItem
 try with_reducible refine wpAny_holding ?_
 first | refine wpAny_bind (wpAny_pure ?_)|skip
 refine wpAny_bind (wpAny_sequenceKey ht.typeIs (by decide) ?_)
 refine wpAny_bind (wpAny_callSpecial?_slot (name:=Str.ofString "__getitem__") ht.typeIs PyProof.Rows.slot_tuple_getitem
  (wpAny_call_entry PyProof.Rows.slot_tuple_getitem ht.typeIs entry_tuple_getitem ?_ (args_tuple_getitem _ _)))
 show wpAny _ _ (Builtin.Tuple.tupleItemsOf (.ref t) >>= _) _ _ s
 refine wpAny_bind (tupleItemsOf_ ht ?_)
 refine wpAny_bind (wpAny_typeOf hTs ?_)
 rw [if_pos (by decide)]
 refine wpAny_bind (kU hs pl pu ?_)
 have hyes:(((sIx items.size 0 lo:Nat):Int)==0 && (1:Int)==1 && (sIx items.size items.size hi - sIx items.size 0 lo)==items.size)=true:=by
  rw [hw.1,hw.2]
  simp
 show wpAny _ _ (if (((sIx items.size 0 lo:Nat):Int)==0 && (1:Int)==1 && (sIx items.size items.size hi - sIx items.size 0 lo)==items.size)=true then _ else _) _ _ s
 rw [if_pos hyes]
 refine wpAny_bind (wpAny_bind (wpAny_typeOf ht.typeIs (wpAny_pure ?_)))
 rw [if_pos (by decide)]
 exact wpAny_bind (wpAny_rule (wpAny_pure ⟨_,rfl,wpAny_pure h⟩))
end
end HT
namespace L2
open PySem PySem.Spec PyProof.Rows
section
variable {X:Cx}
def vG (K:PySem.W.Frag):V→Option Int→Option Int→Hp→VK→Prop:=fun x lo hi H Q=>∃a xs,x=.ref a∧SqT K H a xs∧
 (HT.sIx xs.length 0 lo=0∧HT.sIx xs.length xs.length hi=xs.length)∧Q (.ref a) H
theorem Bn:SlR X (vG X.K):=by
 intro pins s σ H x v vl vu lo hi sl Q I rx hs pl pu h
 obtain ⟨a,xs,rfl,hx,hw,q⟩:=h
 cases rx
 obtain ⟨its,r,ht,hz⟩:=I.tuple hx
 have hlen:its.toArray.size=xs.length:=by rw [List.size_toArray];exact r.length.symm
 refine ⟨"tuple",_,PyProof.Rows.slot_tuple_getitem.lookup,ht.typeIs,?_⟩
 exact HT.getItem_tuple_whole ht hs pl pu (by rw [hlen];exact hw) ⟨.ref a,H,I,rfl,q⟩
end
theorem S8 {p:V→Bool} {f:V→V} {xs:List V} {i:Nat} {x:V} (h:xs[i]?=some x):((xs.take (i+1)).filter p).map f=((xs.take i).filter p).map f++(if p x=true then [f x] else []):=by
 rw [List.take_add_one,h]
 simp only [Option.toList,List.filter_append,List.map_append]
 congr 1
 by_cases e:p x=true
 ·simp [e]
 ·simp [e]
def cF (H1:Hp) (g:TG) (tt:TT) (te:TE) (vs:List Nat) (σ:St) (p:V→Bool) (f:V→V) (x:V):Prop:=
 ∀(H:Hp) (C:V→Hp→Prop) (N:Hp→Prop),Same H1 H→(∀H',Same H H'→p x=true→C (f x) H')→(∀H',Same H H'→p x=false→N H')→
  g x (j9 σ vs) H fun σ2 H2=>j9 σ2 vs=j9 σ vs∧tt σ2 H2 fun b H3=>if b=true then te σ2 H3 fun y H4=>C y H4 else N H3
theorem aH {K:PySem.W.Frag} {a:Addr} {xs:List V} {g:TG} {tt:TT} {te:TE} {vs:List Nat} {σ:St} {H1:Hp} {D:Addr} {Qd:Hp→Prop} (p:V→Bool) (f:V→V) (hD:H1 D=none) (hx:SqL K H1 a xs) (hz:xs.length < sizeLine)
  (hs:∀x∈xs,cF H1 g tt te vs σ p f x) (hd:∀H,Same H1 H→H D=some (.lst ((xs.filter p).map f))→Qd H) :
  ∃W:Nat→Nat→Hp→Prop,(∃m,W 0 m (a8 H1 D (.lst [])))∧∀i m H,W i m H→
   ((J5 K a).stop i H∧Qd H)∨((J5 K a).go i H∧∃Nx:Hp→Prop,(∀H',Nx H'→∃m',m' < m∧W (i+1) m' H')∧∀x H',(J5 K a).yld i H x H'→g x (j9 σ vs) H' fun σ2 H2=>j9 σ2 vs=j9 σ vs∧tt σ2 H2 fun b H3=>
    if b=true then te σ2 H3 fun y H4=>∃acc,H4 D=some (.lst acc)∧acc.length < sizeLine∧Nx (a8 H4 D (.lst (acc++[y]))) else Nx H3):=by
 refine uQ (xs:=xs) (fun i H=>Same H1 H∧H D=some (.lst (((xs.take i).filter p).map f))) ⟨fun b o e=>by rw [a9 (d8 e hD)];exact e,c8⟩ (fun i H _ q=>q.1.seq hx) (fun i x H hi q=>?_) (fun H q=>hd H q.1 (by rw [q.2,List.take_length]))
 obtain ⟨q1,q2⟩:=q
 refine hs x (List.mem_of_getElem? hi) H _ _ q1 (fun H' s e=>⟨_,s _ _ q2,?_,fun b o z=>?_,?_⟩) (fun H' s e=>⟨q1.trans s,?_⟩)
 ·rw [List.length_map]
  refine Nat.lt_of_le_of_lt (List.length_filter_le _ _) (Nat.lt_of_le_of_lt ?_ hz)
  rw [List.length_take]
  exact Nat.min_le_right _ _
 ·rw [a9 (d8 z hD)]
  exact s _ _ (q1 _ _ z)
 ·rw [c8,S8 hi,if_pos e]
 ·rw [s _ _ q2,S8 hi,if_neg (by rw [e];exact Bool.false_ne_true),List.append_nil]
theorem dI {K:PySem.W.Frag} {a:Addr} {xs:List V} {g:TG} {tt:TT} {te:TE} {vs:List Nat} {σ:St} {H1:Hp} {D:Addr} {Qd:Hp→Prop} (p:V→Bool) (f:V→V) (hD:H1 D=none) (hx:∀H,Same H1 H→SqT K H a xs) (hz:xs.length < sizeLine)
  (hs:∀x∈xs,cF H1 g tt te vs σ p f x) (hd:∀H,Same H1 H→H D=some (.lst ((xs.filter p).map f))→Qd H) :
  ∃W:Nat→Nat→Hp→Prop,(∃m,W 0 m (a8 H1 D (.lst [])))∧∀i m H,W i m H→
   ((I0 K a).stop i H∧Qd H)∨((I0 K a).go i H∧∃Nx:Hp→Prop,(∀H',Nx H'→∃m',m' < m∧W (i+1) m' H')∧∀x H',(I0 K a).yld i H x H'→g x (j9 σ vs) H' fun σ2 H2=>j9 σ2 vs=j9 σ vs∧tt σ2 H2 fun b H3=>
    if b=true then te σ2 H3 fun y H4=>∃acc,H4 D=some (.lst acc)∧acc.length < sizeLine∧Nx (a8 H4 D (.lst (acc++[y]))) else Nx H3):=by
 refine BH (xs:=xs) (fun i H=>Same H1 H∧H D=some (.lst (((xs.take i).filter p).map f))) ⟨fun b o e=>by rw [a9 (d8 e hD)];exact e,c8⟩ (fun i H _ q=>hx H q.1) (fun i x H hi q=>?_) (fun H q=>hd H q.1 (by rw [q.2,List.take_length]))
 obtain ⟨q1,q2⟩:=q
 refine hs x (List.mem_of_getElem? hi) H _ _ q1 (fun H' s e=>⟨_,s _ _ q2,?_,fun b o z=>?_,?_⟩) (fun H' s e=>⟨q1.trans s,?_⟩)
 ·rw [List.length_map]
  refine Nat.lt_of_le_of_lt (List.length_filter_le _ _) (Nat.lt_of_le_of_lt ?_ hz)
  rw [List.length_take]
  exact Nat.min_le_right _ _
 ·rw [a9 (d8 z hD)]
  exact s _ _ (q1 _ _ z)
 ·rw [c8,S8 hi,if_pos e]
 ·rw [s _ _ q2,S8 hi,if_neg (by rw [e];exact Bool.false_ne_true),List.append_nil]
theorem DS {n:Nat} {g:TG} {tt:TT} {te:TE} {vs:List Nat} {σ:St} {H1:Hp} {D:Addr} {Qd:Hp→Prop} (p:V→Bool) (f:V→V) (hD:H1 D=none) (hz:n < sizeLine)
  (hs:∀i:Nat,i < n→cF H1 g tt te vs σ p f (.int i)) (hd:∀H,Same H1 H→H D=some (.lst ((((List.range n).map fun i:Nat=>V.int (i:Int)).filter p).map f))→Qd H) :
  ∃W:Nat→Nat→Hp→Prop,(∃m,W 0 m (a8 H1 D (.lst [])))∧∀i m H,W i m H→
   ((J8 0 n).stop i H∧Qd H)∨((J8 0 n).go i H∧∃Nx:Hp→Prop,(∀H',Nx H'→∃m',m' < m∧W (i+1) m' H')∧∀x H',(J8 0 n).yld i H x H'→g x (j9 σ vs) H' fun σ2 H2=>j9 σ2 vs=j9 σ vs∧tt σ2 H2 fun b H3=>
    if b=true then te σ2 H3 fun y H4=>∃acc,H4 D=some (.lst acc)∧acc.length < sizeLine∧Nx (a8 H4 D (.lst (acc++[y]))) else Nx H3):=by
 have hlen:((List.range n).map fun i:Nat=>V.int (i:Int)).length=n:=by rw [List.length_map,List.length_range]
 refine kY (lo:=0) (fun i H=>Same H1 H∧H D=some (.lst (((((List.range n).map fun i:Nat=>V.int (i:Int)).take i).filter p).map f))) ⟨fun b o e=>by rw [a9 (d8 e hD)];exact e,c8⟩ (fun i H hi q=>?_) (fun H q=>hd H q.1 (by rw [q.2];rw [show n=((List.range n).map fun i:Nat=>V.int (i:Int)).length from hlen.symm];simp only [hlen,List.take_length];rw [show ((List.range n).map fun i:Nat=>V.int (i:Int)).take n=((List.range n).map fun i:Nat=>V.int (i:Int)) from List.take_of_length_le (by rw [hlen];exact Nat.le_refl _)]))
 obtain ⟨q1,q2⟩:=q
 have hi':((List.range n).map fun i:Nat=>V.int (i:Int))[i]?=some (V.int (i:Int)):=by
  rw [List.getElem?_map,List.getElem?_range hi]
  rfl
 rw [Int.zero_add]
 refine hs i hi H _ _ q1 (fun H' s e=>⟨_,s _ _ q2,?_,fun b o z=>?_,?_⟩) (fun H' s e=>⟨q1.trans s,?_⟩)
 ·rw [List.length_map]
  refine Nat.lt_of_le_of_lt (List.length_filter_le _ _) (Nat.lt_of_le_of_lt ?_ hz)
  rw [List.length_take,hlen]
  exact Nat.min_le_right _ _
 ·rw [a9 (d8 z hD)]
  exact s _ _ (q1 _ _ z)
 ·rw [c8,S8 hi',if_pos e]
 ·rw [s _ _ q2,S8 hi',if_neg (by rw [e];exact Bool.false_ne_true),List.append_nil]
theorem bP {J:It} {n:Nat} {g:TG} {tb:TS} {D:G7} {σ:St} {H:Hp} (Pv:Nat→St→Hp→Prop) (h0:Pv 0 σ H) (hgo:∀i σ H,i < n→Pv i σ H→J.go i H)
  (hs:∀i x σ H H',i < n→Pv i σ H→J.yld i H x H'→g x σ H' fun σ2 H2=>tb { D with nx:=Pv (i+1),ct:=Pv (i+1),bk:=D.nx } σ2 H2) (hd:∀σ H,Pv n σ H→J.stop n H∧D.nx σ H) :
  ∃W:Nat→Nat→St→Hp→Prop,(∃m,W 0 m σ H)∧∀i m σ H,W i m σ H→
   (J.stop i H∧D.nx σ H)∨(J.go i H∧∃N:St→Hp→Prop,(∀σ' H',N σ' H'→∃m',m' < m∧W (i+1) m' σ' H')∧∀x H',J.yld i H x H'→g x σ H' fun σ2 H2=>tb { D with nx:=N,ct:=N,bk:=D.nx } σ2 H2):=by
 refine ⟨fun i m σ H=>m=n - i∧i≤n∧Pv i σ H,⟨n,by simp,Nat.zero_le _,h0⟩,?_⟩
 rintro i m σ H ⟨rfl,hi,p⟩
 by_cases hlt:i < n
 ·exact .inr ⟨hgo i σ H hlt p,Pv (i+1),fun σ' H' p'=>⟨n - (i+1),by omega,rfl,hlt,p'⟩,fun x H' y=>hs i x σ H H' hlt p y⟩
 ·have e:i=n:=by omega
  subst e
  exact .inl (hd σ H p)
theorem mX {K:PySem.W.Frag} {a:Addr} {xs:List V} {g:TG} {tb:TS} {D:G7} {σ:St} {H:Hp} (Pv:Nat→St→Hp→Prop) (h0:Pv 0 σ H) (hl:∀i σ H,i≤xs.length→Pv i σ H→SqL K H a xs)
  (hs:∀i x T σ H,xs[i]?=some x→Pv i σ H→H T=none→g (.ref T) σ (a8 H T (.tup [.int (i:Nat),x])) fun σ2 H2=>tb { D with nx:=Pv (i+1),ct:=Pv (i+1),bk:=D.nx } σ2 H2) (hd:∀σ H,Pv xs.length σ H→D.nx σ H) :
  ∃W:Nat→Nat→St→Hp→Prop,(∃m,W 0 m σ H)∧∀i m σ H,W i m σ H→
   ((Z1 K a).stop i H∧D.nx σ H)∨((Z1 K a).go i H∧∃N:St→Hp→Prop,(∀σ' H',N σ' H'→∃m',m' < m∧W (i+1) m' σ' H')∧∀x H',(Z1 K a).yld i H x H'→g x σ H' fun σ2 H2=>tb { D with nx:=N,ct:=N,bk:=D.nx } σ2 H2):=by
 refine bP (n:=xs.length) Pv h0 (fun i σ H hi p=>⟨xs,xs[i],hl i σ H (Nat.le_of_lt hi) p,by simp [hi]⟩) (fun i x σ H H' hi p y=>?_) (fun σ H p=>⟨⟨xs,hl _ _ _ (Nat.le_refl _) p,Nat.le_refl _⟩,hd σ H p⟩)
 obtain ⟨T,y,rfl,hT,rfl,e⟩:=y
 exact hs i y T σ H (e xs (hl i σ H (Nat.le_of_lt hi) p)) p hT
theorem Am {K:PySem.W.Frag} {a:Addr} {xs:List V} {g:TG} {tb:TS} {D:G7} {σ:St} {H:Hp} (Pv:Nat→St→Hp→Prop) (h0:Pv 0 σ H) (hl:∀i σ H,i≤xs.length→Pv i σ H→SqL K H a xs)
  (hs:∀i x σ H,i < xs.length→xs[xs.length - 1 - i]?=some x→Pv i σ H→g x σ H fun σ2 H2=>tb { D with nx:=Pv (i+1),ct:=Pv (i+1),bk:=D.nx } σ2 H2) (hd:∀σ H,Pv xs.length σ H→D.nx σ H) :
  ∃W:Nat→Nat→St→Hp→Prop,(∃m,W 0 m σ H)∧∀i m σ H,W i m σ H→
   ((V3 K a xs.length).stop i H∧D.nx σ H)∨((V3 K a xs.length).go i H∧∃N:St→Hp→Prop,(∀σ' H',N σ' H'→∃m',m' < m∧W (i+1) m' σ' H')∧∀x H',(V3 K a xs.length).yld i H x H'→g x σ H' fun σ2 H2=>tb { D with nx:=N,ct:=N,bk:=D.nx } σ2 H2):=by
 refine bP (n:=xs.length) Pv h0 (fun i σ H hi p=>⟨hi,xs,xs[xs.length - 1 - i],hl i σ H (Nat.le_of_lt hi) p,List.getElem?_eq_getElem (by omega)⟩) (fun i x σ H H' hi p y=>?_) (fun σ H p=>⟨Nat.le_refl _,hd σ H p⟩)
 obtain ⟨rfl,e⟩:=y
 exact hs i x σ _ hi (e xs (hl i σ _ (Nat.le_of_lt hi) p)) p
theorem yY {d:Addr} {o:Obj} {kvs:List (d9×V)} {g:TG} {tb:TS} {D:G7} {σ:St} {H:Hp} (Pv:Nat→St→Hp→Prop) (h0:Pv 0 σ H) (hl:∀i σ H,i≤kvs.length→Pv i σ H→H d=some (.frz o (.dK kvs)))
  (hs:∀i k v T σ H,kvs[i]?=some (k,v)→Pv i σ H→H T=none→g (.ref T) σ (a8 H T (.tup [kV k,v])) fun σ2 H2=>tb { D with nx:=Pv (i+1),ct:=Pv (i+1),bk:=D.nx } σ2 H2) (hd:∀σ H,Pv kvs.length σ H→D.nx σ H) :
  ∃W:Nat→Nat→St→Hp→Prop,(∃m,W 0 m σ H)∧∀i m σ H,W i m σ H→
   ((V2 d o kvs).stop i H∧D.nx σ H)∨((V2 d o kvs).go i H∧∃N:St→Hp→Prop,(∀σ' H',N σ' H'→∃m',m' < m∧W (i+1) m' σ' H')∧∀x H',(V2 d o kvs).yld i H x H'→g x σ H' fun σ2 H2=>tb { D with nx:=N,ct:=N,bk:=D.nx } σ2 H2):=by
 refine bP (n:=kvs.length) Pv h0 (fun i σ H hi p=>⟨hl i σ H (Nat.le_of_lt hi) p,hi⟩) (fun i x σ H H' hi p y=>?_) (fun σ H p=>⟨⟨hl _ _ _ (Nat.le_refl _) p,Nat.le_refl _⟩,hd σ H p⟩)
 obtain ⟨T,k,v,e,rfl,hT,rfl⟩:=y
 exact hs i k v T σ H e p hT
end L2
namespace Pr
open PySem PySem.Spec PyProof.Rows L2 Mt
open Vbrgae (Level Spot codeAt thingsIn boardOf numberOf spots act leverBit bitOf marked inHand over)
variable {P:Program} {w:World} {K:PySem.W.Frag} {mg:Str→Option Value} {base:Heap} {Cb Cs:Addr}
structure Ad where
 dx:Addr
 ca:Addr
 tg:Addr
 tb:Addr
 cb:Addr
 lb:Addr
 ex:Addr
 fr:Addr
 kd:Addr
abbrev nv (n:Nat):V:=.int (n:Int)
def G6 (L:Level) (a:Ad):List (Str×V):=[("width",nv L.w),("height",nv L.h),("codes",.ref a.ca),("size",nv (L.w*L.h)),("things",.ref a.tg),("thing_bits",.ref a.tb),("code_bits",.ref a.cb),("lever_bits",.ref a.lb),("exits",.ref a.ex),("is_free",.ref a.fr),("known_steps",.ref a.kd)]
theorem g8 {a b:Str} {v:V} {r:List (Str×V)} {o:Option V} (h:(a==b)=false) (q:r.lookup a=o):List.lookup a ((b,v)::r)=o:=by
 rw [List.lookup_cons,h]
 exact q
theorem y8 {a:Str} {v:V} {r:List (Str×V)}:List.lookup a ((a,v)::r)=some v:=by
 rw [List.lookup_cons,beq_self_eq_true]
theorem O2 {a:Str}:∀{r:List (Str×V)},(r.map (·.1)).all (fun b=>!(a==b))=true→r.lookup a=none
 | [],_=>rfl
 | (b,v)::r,h=>by
  rw [List.map_cons,List.all_cons,Bool.and_eq_true] at h
  exact g8 (by simpa using h.1) (O2 h.2)
section
variable (L:Level) (a:Ad)
theorem qW:(G6 L a).lookup ("width":Str)=some (nv L.w):=y8
theorem pS:(G6 L a).lookup ("height":Str)=some (nv L.h):=g8 (by rfl') y8
theorem nB:(G6 L a).lookup ("codes":Str)=some (.ref a.ca):=g8 (by rfl') (g8 (by rfl') y8)
theorem Bc:(G6 L a).lookup ("size":Str)=some (nv (L.w*L.h)):=g8 (by rfl') (g8 (by rfl') (g8 (by rfl') y8))
theorem wK:(G6 L a).lookup ("things":Str)=some (.ref a.tg):=g8 (by rfl') (g8 (by rfl') (g8 (by rfl') (g8 (by rfl') y8)))
theorem wX:(G6 L a).lookup ("thing_bits":Str)=some (.ref a.tb):=g8 (by rfl') (g8 (by rfl') (g8 (by rfl') (g8 (by rfl') (g8 (by rfl') y8))))
theorem vK:(G6 L a).lookup ("code_bits":Str)=some (.ref a.cb):=g8 (by rfl') (g8 (by rfl') (g8 (by rfl') (g8 (by rfl') (g8 (by rfl') (g8 (by rfl') y8)))))
theorem Cg:(G6 L a).lookup ("lever_bits":Str)=some (.ref a.lb):=g8 (by rfl') (g8 (by rfl') (g8 (by rfl') (g8 (by rfl') (g8 (by rfl') (g8 (by rfl') (g8 (by rfl') y8))))))
theorem EB:(G6 L a).lookup ("exits":Str)=some (.ref a.ex):=g8 (by rfl') (g8 (by rfl') (g8 (by rfl') (g8 (by rfl') (g8 (by rfl') (g8 (by rfl') (g8 (by rfl') (g8 (by rfl') y8)))))))
theorem EW:(G6 L a).lookup ("is_free":Str)=some (.ref a.fr):=g8 (by rfl') (g8 (by rfl') (g8 (by rfl') (g8 (by rfl') (g8 (by rfl') (g8 (by rfl') (g8 (by rfl') (g8 (by rfl') (g8 (by rfl') y8))))))))
theorem uH:(G6 L a).lookup ("known_steps":Str)=some (.ref a.kd):=g8 (by rfl') (g8 (by rfl') (g8 (by rfl') (g8 (by rfl') (g8 (by rfl') (g8 (by rfl') (g8 (by rfl') (g8 (by rfl') (g8 (by rfl') (g8 (by rfl') y8)))))))))
theorem o6 {m:Str} (h:(["width","height","codes","size","things","thing_bits","code_bits","lever_bits","exits","is_free","known_steps"]:List Str).all (fun b=>!(m==b))=true):(G6 L a).lookup m=none:=O2 h
end
def D5 (L:Level):List (d9×V):=(thingsIn L.cells).zipIdx.map fun q=>(Sum.inl (q.1:Int),nv (2 ^ q.2))
def cV (L:Level):List (d9×V):=([4,5,12,13,14]:List Nat).map fun (c:Nat)=>(Sum.inl (c:Int),nv (K5 L c))
def eI (L:Level):List (d9×V):=([6,8,9]:List Nat).map (fun (c:Nat)=>(Sum.inl (c:Int),nv (2 ^ nT L)))++([7,10,11]:List Nat).map (fun (c:Nat)=>(Sum.inl (c:Int),nv (2 ^ (nT L+1))))
def o7 (L:Level):List V:=L.cells.map nv
def ExAt (H:Hp) (l:Addr) (es:List (Nat×Nat)):Prop:=∃ts:List Addr,H l=some (.lst (ts.map V.ref))∧ts.length=es.length∧∀(j:Nat) (t:Addr) (e:Nat×Nat),ts[j]?=some t→es[j]?=some e→H t=some (.tup [nv e.1,nv e.2])
def iV (L:Level) (H:Hp) (l:Addr):Prop:=∃xs:List Addr,H l=some (.lst (xs.map V.ref))∧xs.length=L.w*L.h∧∀(i:Nat) (x:Addr),xs[i]?=some x→ExAt H x (C2 L i)
structure Kn (L:Level) (H:Hp) (kvs:List (d9×V)):Prop where
 ks:∃ns:List Nat,kvs.map (·.1)=ns.map (fun (n:Nat)=>(Sum.inl (n:Int):d9))∧ns.Nodup∧∀n∈ns,n < spots (boardOf L)
 all:∀(k:d9) (v:V),i7 kvs k=some v→∃s l,k=Sum.inl (c0 L s:Int)∧Good L s∧v=.ref l∧H l=some (.lst ((A5 L s).map V.int))
theorem Kn.at_ {L:Level} {H:Hp} {kvs:List (d9×V)} (k:Kn L H kvs) (s:Spot) (v:V) (g:Good L s) (e:i7 kvs (Sum.inl (c0 L s:Int))=some v):∃l,v=.ref l∧H l=some (.lst ((A5 L s).map V.int)):=by
 obtain ⟨t,l,e1,gt,e2,e3⟩:=k.all _ _ e
 have:=P7 g gt (Int.ofNat.inj (Sum.inl.inj e1))
 subst this
 exact ⟨l,e2,e3⟩
def Kv (H:Hp) (kd r:Addr):Prop:=∃kvs k,H kd=some (.dK kvs)∧i7 kvs k=some (.ref r)
structure Bs0 (Cb:Addr) (H:Hp) (p:Addr) (a:Ad) (L:Level):Prop where
 R:Rt L
 ins:H p=some (.ins Cb a.dx (G6 L a))
 codes:H a.ca=some (.lst (o7 L))
 things:H a.tg=some (.lst ((thingsIn L.cells).map nv))
 tb:H a.tb=some (.dK (D5 L))
 cb:H a.cb=some (.dK (cV L))
 lb:H a.lb=some (.dK (eI L))
 ex:iV L H a.ex
 fr:H a.fr=some (.lst (L.cells.map fun c=>V.bl (!M4 c)))
 n1:a.tb≠a.kd
 n2:a.cb≠a.kd
 n3:a.lb≠a.kd
structure Bd (Cb:Addr) (H:Hp) (p:Addr) (a:Ad) (L:Level):Prop extends Bs0 Cb H p a L where
 kn:∃kvs,H a.kd=some (.dK kvs)∧Kn L H kvs
def But (d:Addr) (H H':Hp):Prop:=∀b o,H b=some o→b≠d→H' b=some o
theorem Same.but {d:Addr} {H H':Hp} (h:Same H H'):But d H H':=fun b o e _=>h b o e
theorem But.trans {d:Addr} {H H1 H2:Hp} (h:But d H H1) (k:But d H1 H2):But d H H2:=fun b o e n=>k b o (h b o e n) n
theorem But.same {d:Addr} {H H1 H2:Hp} (h:But d H H1) (k:Same H1 H2):But d H H2:=fun b o e n=>k b o (h b o e n)
theorem Same.new {H:Hp} {p:Addr} {o:HO} (n:H p=none):Same H (a8 H p o):=fun b u e=>by rw [a9 (d8 e n)];exact e
theorem ExAt.keep {d:Addr} {H H':Hp} {l:Addr} {es:List (Nat×Nat)} (h:But d H H') (hd:∀kvs,H d=some (.dK kvs)∨H d=none→True) (hk:∃kvs,H d=some (.dK kvs)) (x:ExAt H l es):ExAt H' l es:=by
 obtain ⟨kvs,hk⟩:=hk
 obtain ⟨ts,h1,h2,h3⟩:=x
 exact ⟨ts,h _ _ h1 (f8 h1 hk (by intro z;cases z)),h2,fun j t e a b=>h _ _ (h3 j t e a b) (f8 (h3 j t e a b) hk (by intro z;cases z))⟩
theorem Bs0.keep {Cb:Addr} {H H':Hp} {p:Addr} {a:Ad} {L:Level} (B:Bs0 Cb H p a L) (hk:∃kvs,H a.kd=some (.dK kvs)) (h:But a.kd H H'):Bs0 Cb H' p a L:=by
 obtain ⟨kvs,hk⟩:=hk
 obtain ⟨xs,e1,e2,e3⟩:=B.ex
 exact ⟨B.R,h _ _ B.ins (f8 B.ins hk (by intro z;cases z)),h _ _ B.codes (f8 B.codes hk (by intro z;cases z)),h _ _ B.things (f8 B.things hk (by intro z;cases z)),h _ _ B.tb B.n1,h _ _ B.cb B.n2,h _ _ B.lb B.n3,
  ⟨xs,h _ _ e1 (f8 e1 hk (by intro z;cases z)),e2,fun i x q=>(e3 i x q).keep h (fun _ _=>trivial) ⟨kvs,hk⟩⟩,h _ _ B.fr (f8 B.fr hk (by intro z;cases z)),B.n1,B.n2,B.n3⟩
theorem Bs0.same {Cb:Addr} {H H':Hp} {p:Addr} {a:Ad} {L:Level} (B:Bs0 Cb H p a L) (h:Same H H'):Bs0 Cb H' p a L:=by
 obtain ⟨xs,e1,e2,e3⟩:=B.ex
 exact ⟨B.R,h _ _ B.ins,h _ _ B.codes,h _ _ B.things,h _ _ B.tb,h _ _ B.cb,h _ _ B.lb,⟨xs,h _ _ e1,e2,fun i x q=>by
  obtain ⟨ts,h1,h2,h3⟩:=e3 i x q
  exact ⟨ts,h _ _ h1,h2,fun j t e a b=>h _ _ (h3 j t e a b)⟩⟩,h _ _ B.fr,B.n1,B.n2,B.n3⟩
theorem Kn.same {L:Level} {H H':Hp} {kvs:List (d9×V)} (k:Kn L H kvs) (h:∀l xs,H l=some (.lst xs)→H' l=some (.lst xs)):Kn L H' kvs:=
 ⟨k.ks,fun key v e=>by
  obtain ⟨s,l,e1,g,e2,e3⟩:=k.all key v e
  exact ⟨s,l,e1,g,e2,h _ _ e3⟩⟩
theorem Bd.same {Cb:Addr} {H H':Hp} {p:Addr} {a:Ad} {L:Level} (B:Bd Cb H p a L) (h:Same H H'):Bd Cb H' p a L:=by
 obtain ⟨kvs,h1,h2⟩:=B.kn
 exact ⟨B.toBs0.same h,kvs,h _ _ h1,h2.same fun l xs e=>h _ _ e⟩
theorem Kn.len {L:Level} {H:Hp} {kvs:List (d9×V)} (R:Rt L) (k:Kn L H kvs):kvs.length≤25600:=by
 obtain ⟨ns,h1,h2,h3⟩:=k.ks
 have h4:=X8 h2 h3
 have h5:=X9 R
 have h6:=congrArg List.length h1
 rw [List.length_map,List.length_map] at h6
 omega
section
variable {P:Program} {w:World} {K:PySem.W.Frag} {mg:Str→Option Value} {base:Heap} {Cb Cs:Addr} {H:Hp} {p:Addr} {a:Ad} {L:Level} {Q:V→Prop}
theorem Bs0.f_width (B:Bs0 Cb H p a L) (T:i5 P w K mg Cb Cs) (q:Q (nv L.w)):∃a C' dx' fs' v',V.ref p=.ref a∧H a=some (.ins C' dx' fs')∧Cls K C'∧NoAttr K C' "width"∧fs'.lookup ("width":Str)=some v'∧Q v':=j5 B.ins T.cl_Board T.nB_width (qW _ _) q
theorem Bs0.f_height (B:Bs0 Cb H p a L) (T:i5 P w K mg Cb Cs) (q:Q (nv L.h)):∃a C' dx' fs' v',V.ref p=.ref a∧H a=some (.ins C' dx' fs')∧Cls K C'∧NoAttr K C' "height"∧fs'.lookup ("height":Str)=some v'∧Q v':=j5 B.ins T.cl_Board T.nB_height (pS _ _) q
theorem Bs0.f_codes (B:Bs0 Cb H p a L) (T:i5 P w K mg Cb Cs) (q:Q (.ref a.ca)):∃a C' dx' fs' v',V.ref p=.ref a∧H a=some (.ins C' dx' fs')∧Cls K C'∧NoAttr K C' "codes"∧fs'.lookup ("codes":Str)=some v'∧Q v':=j5 B.ins T.cl_Board T.nB_codes (nB _ _) q
theorem Bs0.f_size (B:Bs0 Cb H p a L) (T:i5 P w K mg Cb Cs) (q:Q (nv (L.w*L.h))):∃a C' dx' fs' v',V.ref p=.ref a∧H a=some (.ins C' dx' fs')∧Cls K C'∧NoAttr K C' "size"∧fs'.lookup ("size":Str)=some v'∧Q v':=j5 B.ins T.cl_Board T.nB_size (Bc _ _) q
theorem Bs0.f_things (B:Bs0 Cb H p a L) (T:i5 P w K mg Cb Cs) (q:Q (.ref a.tg)):∃a C' dx' fs' v',V.ref p=.ref a∧H a=some (.ins C' dx' fs')∧Cls K C'∧NoAttr K C' "things"∧fs'.lookup ("things":Str)=some v'∧Q v':=j5 B.ins T.cl_Board T.nB_things (wK _ _) q
theorem Bs0.f_thing_bits (B:Bs0 Cb H p a L) (T:i5 P w K mg Cb Cs) (q:Q (.ref a.tb)):∃a C' dx' fs' v',V.ref p=.ref a∧H a=some (.ins C' dx' fs')∧Cls K C'∧NoAttr K C' "thing_bits"∧fs'.lookup ("thing_bits":Str)=some v'∧Q v':=j5 B.ins T.cl_Board T.nB_thing_bits (wX _ _) q
theorem Bs0.f_code_bits (B:Bs0 Cb H p a L) (T:i5 P w K mg Cb Cs) (q:Q (.ref a.cb)):∃a C' dx' fs' v',V.ref p=.ref a∧H a=some (.ins C' dx' fs')∧Cls K C'∧NoAttr K C' "code_bits"∧fs'.lookup ("code_bits":Str)=some v'∧Q v':=j5 B.ins T.cl_Board T.nB_code_bits (vK _ _) q
theorem Bs0.f_lever_bits (B:Bs0 Cb H p a L) (T:i5 P w K mg Cb Cs) (q:Q (.ref a.lb)):∃a C' dx' fs' v',V.ref p=.ref a∧H a=some (.ins C' dx' fs')∧Cls K C'∧NoAttr K C' "lever_bits"∧fs'.lookup ("lever_bits":Str)=some v'∧Q v':=j5 B.ins T.cl_Board T.nB_lever_bits (Cg _ _) q
theorem Bs0.f_exits (B:Bs0 Cb H p a L) (T:i5 P w K mg Cb Cs) (q:Q (.ref a.ex)):∃a C' dx' fs' v',V.ref p=.ref a∧H a=some (.ins C' dx' fs')∧Cls K C'∧NoAttr K C' "exits"∧fs'.lookup ("exits":Str)=some v'∧Q v':=j5 B.ins T.cl_Board T.nB_exits (EB _ _) q
theorem Bs0.f_is_free (B:Bs0 Cb H p a L) (T:i5 P w K mg Cb Cs) (q:Q (.ref a.fr)):∃a C' dx' fs' v',V.ref p=.ref a∧H a=some (.ins C' dx' fs')∧Cls K C'∧NoAttr K C' "is_free"∧fs'.lookup ("is_free":Str)=some v'∧Q v':=j5 B.ins T.cl_Board T.nB_is_free (EW _ _) q
theorem Bs0.f_known_steps (B:Bs0 Cb H p a L) (T:i5 P w K mg Cb Cs) (q:Q (.ref a.kd)):∃a C' dx' fs' v',V.ref p=.ref a∧H a=some (.ins C' dx' fs')∧Cls K C'∧NoAttr K C' "known_steps"∧fs'.lookup ("known_steps":Str)=some v'∧Q v':=j5 B.ins T.cl_Board T.nB_known_steps (uH _ _) q
structure Bp (Cb:Addr) (H:Hp) (p:Addr) (L:Level):Prop where
 R:Rt L
 ex:∃dx fs ca,H p=some (.ins Cb dx fs)∧fs.lookup ("width":Str)=some (nv L.w)∧fs.lookup ("height":Str)=some (nv L.h)∧fs.lookup ("codes":Str)=some (.ref ca)∧H ca=some (.lst (o7 L))∧fs.lookup ("cell_at":Str)=none∧fs.lookup ("neighbour":Str)=none
theorem Bs0.bp (B:Bs0 Cb H p a L):Bp Cb H p L:=⟨B.R,_,_,_,B.ins,qW _ _,pS _ _,nB _ _,B.codes,o6 _ _ (by rfl'),o6 _ _ (by rfl')⟩
theorem Bp.same {H':Hp} (B:Bp Cb H p L) (s:Same H H'):Bp Cb H' p L:=by
 obtain ⟨dx,fs,ca,h1,h2,h3,h4,h5,h6⟩:=B.ex
 exact ⟨B.R,dx,fs,ca,s _ _ h1,h2,h3,h4,s _ _ h5,h6⟩
theorem M0 {L:Level} (R:Rt L) {i:Nat} (h:i < L.w*L.h):D8 (o7 L) (i:Int)=some (nv (codeAt L i)):=by
 refine l7 ?_
 unfold o7 Vbrgae.codeAt
 rw [List.getElem?_map,V6 (d:=0) (by rw [R.len];exact h)]
 rfl
theorem Y8 {n m:Nat}:((n:Int) % (m:Int))=((n % m:Nat):Int):=(Int.natCast_emod n m).symm
theorem bX {n m:Nat}:((n:Int) / (m:Int))=((n / m:Nat):Int):=(Int.natCast_ediv n m).symm
end
theorem nv_inj {a b:Nat}:nv a=nv b↔a=b:=⟨fun z=>by injection z with z;exact Int.ofNat.inj z,fun z=>by rw [z]⟩
theorem V0 {a b:Nat}:decide (nv a=nv b)=decide (a=b):=decide_eq_decide.mpr nv_inj
def wQ (Cb:Addr):P2:=fun self x H Q=>∃p a L n,self=.ref p∧x=nv n∧Bs0 Cb H p a L∧Q (nv (n % (L.w*L.h))) H
theorem aM (T:i5 P w K mg Cb Cs):x9 P w K mg base Cb 1 "cell_of" ["self","spot"] (x4 (wQ Cb)):=by
 refine T.mB_cell_of.ok (N:=["self","spot"]) ⟨rfl,rfl,rfl,by rfl',rfl,by rfl',by rfl'⟩ (fun _ _ _ _=>l2) (fun vs H Q E h f cdv A outer s E' hr=>?_)
 obtain ⟨_,_,rfl,p,a,L,n,rfl,rfl,B,k⟩:=h
 refine ⟨_,f7 (i0 (j6 T3 (pv 1) (g9 (pv 0) rfl))),?_⟩
 have hs:=B.R.size_pos
 refine ⟨_,rfl,_,rfl,B.f_size T ⟨_,_,rfl,rfl,(by show (0:Int) < ((L.w*L.h:Nat):Int);omega),?_⟩⟩
 show Q (.int ((n:Int) % ((L.w*L.h:Nat):Int))) H
 rw [Y8]
 exact k
def xX (Cb:Addr):P2:=fun self x H Q=>∃p a L n,self=.ref p∧x=nv n∧Bs0 Cb H p a L∧Q (nv (n / (L.w*L.h))) H
theorem qN (T:i5 P w K mg Cb Cs):x9 P w K mg base Cb 1 "marks_of" ["self","spot"] (x4 (xX Cb)):=by
 refine T.mB_marks_of.ok (N:=["self","spot"]) ⟨rfl,rfl,rfl,by rfl',rfl,by rfl',by rfl'⟩ (fun _ _ _ _=>l2) (fun vs H Q E h f cdv A outer s E' hr=>?_)
 obtain ⟨_,_,rfl,p,a,L,n,rfl,rfl,B,k⟩:=h
 refine ⟨_,f7 (i0 (j6 aZ (pv 1) (g9 (pv 0) rfl))),?_⟩
 have hs:=B.R.size_pos
 have hs2:=B.R.size_le
 refine ⟨_,rfl,_,rfl,B.f_size T ⟨_,_,rfl,rfl,⟨by omega,by omega⟩,?_⟩⟩
 show Q (.int ((n:Int) / ((L.w*L.h:Nat):Int))) H
 rw [bX]
 exact k
def wI (Cb:Addr):P2:=fun self x H Q=>∃p a L n,self=.ref p∧x=nv n∧Bs0 Cb H p a L∧Q (.bl (decide (codeAt L (n % (L.w*L.h))=3))) H
theorem U3 (T:i5 P w K mg Cb Cs):x9 P w K mg base Cb 1 "is_over" ["self","spot"] (x4 (wI Cb)):=by
 refine T.mB_is_over.ok (N:=["self","spot"]) ⟨rfl,rfl,rfl,by rfl',rfl,by rfl',by rfl'⟩ (fun _ _ _ _=>l2) (fun vs H Q E h f cdv A outer s E' hr=>?_)
 obtain ⟨_,_,rfl,p,a,L,n,rfl,rfl,B,k⟩:=h
 refine ⟨_,f7 (i0 (G1 D4 (j8 p5 (g9 (pv 0) rfl) (j6 T3 (pv 1) (g9 (pv 0) rfl)) (fun _ _=>rfl)) (i8 T.g_STAIRS) (o8 _))),?_⟩
 have hs:=B.R.size_pos
 have hl:n % (L.w*L.h) < L.w*L.h:=Nat.mod_lt _ (by omega)
 refine ⟨_,rfl,B.f_codes T ⟨_,rfl,_,rfl,B.f_size T ⟨_,_,rfl,rfl,(by show (0:Int) < ((L.w*L.h:Nat):Int);omega),_,_,_,_,rfl,rfl,SqL.of B.codes,(by rw [Y8];exact M0 B.R hl),rfl,?_⟩⟩⟩
 have e:decide (nv (codeAt L (n % (L.w*L.h)))=V.int 3)=decide (codeAt L (n % (L.w*L.h))=3):=V0
 rw [e]
 exact k
abbrev r6 (L:Level) (i:Nat):Nat:=Vbrgae.codeAt L i
def dQ (K:PySem.W.Frag) (t:TE):TT:=fun σ H Q=>t σ H fun x H'=>∃k,fP K x H' k∧Q k H'
theorem X3 (a b:Nat):Builtin.bitAnd (a:Int) (b:Int)=((a &&& b:Nat):Int):=by
 rw [bitAnd_pp (by omega) (by omega)]
 rfl
theorem sV (a b:Nat):Builtin.bitXor (a:Int) (b:Int)=((a ^^^ b:Nat):Int):=by
 rw [Bits.bitXor_pp (by omega) (by omega)]
 rfl
theorem qJ (a b:Nat):Builtin.bitOr (a:Int) (b:Int)=((a ||| b:Nat):Int):=by
 rw [Bits.bitOr_pp (by omega) (by omega)]
 rfl
theorem G2 {H:Hp} {a:Addr} {kvs:List (d9×V)} {n:Int} {v:V} (h:H a=some (.dK kvs)) (e:i7 kvs (Sum.inl n)=some v):DGet H a (.int n) (some v):=by
 rw [←e]
 exact DGet.k (k:=Sum.inl n) h
theorem dM (L:Level) {c:Nat} (h:Vbrgae.isThing c=true):i7 (cV L) (Sum.inl (c:Int))=some (nv (K5 L c)):=by
 have:c=4∨c=5∨c=12∨c=13∨c=14:=by
  unfold Vbrgae.isThing at h
  simpa using h
 rcases this with e|e|e|e|e<;>subst e<;>rfl
theorem oX (L:Level) {c:Nat} (h:c=6∨c=7∨G4 c=true):i7 (eI L) (Sum.inl (c:Int))=some (nv (2 ^ leverBit (boardOf L) (decide (c=7∨10≤c)))):=by
 have:c=6∨c=7∨c=8∨c=9∨c=10∨c=11:=by
  unfold G4 at h
  simp at h
  omega
 rcases this with e|e|e|e|e|e<;>subst e<;>rfl
theorem gF (L:Level) {i:Nat} (h:i∈thingsIn L.cells):i7 (D5 L) (Sum.inl (i:Int))=some (nv (2 ^ bitOf (boardOf L) i)):=by
 have aux:∀(l:List Nat) (o:Nat),i∈l→i7 ((l.zipIdx o).map fun q=>((Sum.inl (q.1:Int):d9),nv (2 ^ q.2))) (Sum.inl (i:Int))=some (nv (2 ^ (o+l.findIdx fun t=>t==i))):=by
  intro l
  induction l with
  | nil=>intro o h;simp at h
  | cons x l ih=>
   intro o h
   rw [List.zipIdx_cons,List.map_cons,List.findIdx_cons]
   by_cases e:x=i
   ·subst e
    rw [D9 rfl]
    simp
   ·have hb:(x==i)=false:=by simpa using e
    rw [A9 (by intro z;exact e (by have:=Sum.inl.inj z;omega)),ih (o+1) ((List.mem_cons.mp h).resolve_left fun z=>e z.symm),hb]
    show some (nv (2 ^ (o+1+_)))=some (nv (2 ^ (o+(_+1))))
    rw [Nat.add_assoc,Nat.add_comm 1]
 have:=aux (thingsIn L.cells) 0 h
 rw [Nat.zero_add] at this
 exact this
def AR:P1:=fun x H Q=>∃n:Nat,x=nv n∧∀H',Same H H'→Q (nv (Mt.cnt n)) H'
def pP (n:Nat):V→Bool
 | .int b=>Builtin.bitAnd (n:Int) b != 0
 | _=>false
theorem cM (n j:Nat):(Builtin.bitAnd (n:Int) ((2 ^ j:Nat):Int) != 0)=n.testBit j:=by
 rw [X3]
 have:=sN n j
 cases h:n.testBit j with
 | true=>
  have h1:=this.mpr h
  simp;omega
 | false=>
  have h1:n &&& 2 ^ j=0:=Decidable.of_not_not fun z=>by rw [this.mp z] at h;cases h
  rw [h1];rfl
theorem Dm (n:Nat):(((iv [1,2,4,8,16,32,64,128]).filter (pP n)).map id).length=Mt.cnt n:=by
 have e:iv [1,2,4,8,16,32,64,128]=(List.range 8).map fun j=>nv (2 ^ j):=rfl
 rw [e,List.map_id,List.filter_map,List.length_map]
 unfold Mt.cnt
 congr 1
 apply List.filter_congr
 intro j hj
 exact cM n j
theorem qH (T:i5 P w K mg Cb Cs):k7 P w K mg base 1 "count_bits" ["number"] (sp1 AR):=by
 refine T.d_count_bits.ok (N:=["number","bit"]) ⟨rfl,rfl,rfl,by rfl',rfl,by rfl',by rfl'⟩ (fun _ _ _ _=>l1) (fun vs H Q E h f cdv A outer s E' hr=>?_)
 obtain ⟨_,rfl,n,rfl,k⟩:=h
 have nd:(["number","bit"]:List Str).Nodup:=by rfl'
 refine ⟨_,f7 (i0 (A2 C1 (by rfl) T.b_len PySem.boot_len (c7 (Q8 (own:=[("bit",1)]) (tt:=dQ K (F1 (F5 fun i j=>.int (Builtin.bitAnd i j)) (z9 0) (z9 1))) rfl nd (aA (D3 T.g_BITS)) (M3 (N:=["number","bit"]) (sc:=k9 oE) (by rfl'))
  (by intro s H C cl fp;exact n8 (i:=1) nd rfl (Or.inl rfl)) (by intro s H C cl fp;exact aV (Q7 (j6 R0 (pv 0) (pv 1)) (by intro _;rfl))) (by intro s H C cl fp;exact pv 1)) c9))),?_⟩
 intro a ha
 refine ⟨_,rfl,⟨_,ha _⟩,fun D hD=>dI (pP n) id hD (fun H _=>ha H) (by decide) (fun x hx H C N s hc hn=>?_) (fun H' s hl=>?_)⟩
 ·obtain ⟨b,hb,rfl⟩:=List.mem_map.mp hx
  refine ⟨rfl,_,rfl,_,rfl,_,_,rfl,rfl,_,rfl,?_⟩
  refine t0 (fun z=>⟨_,rfl,hc _ (Same.refl _) z⟩) (fun z=>hn _ (Same.refl _) (Bool.eq_false_iff.mpr z))
 ·refine ⟨_,_,rfl,.inl (SqL.of hl),?_⟩
  rw [Dm]
  exact k _ s
def uB (Cb:Addr):P2:=fun self x H Q=>∃p a L m,self=.ref p∧x=nv m∧Bs0 Cb H p a L∧∀H',Same H H'→Q (.int ((marked (boardOf L) m 4:Int) - (marked (boardOf L) m 5:Int))) H'
theorem lL (T:i5 P w K mg Cb Cs):x9 P w K mg base Cb 2 "small_keys" ["self","marks"] (x4 (uB Cb)):=by
 refine T.mB_small_keys.ok (N:=["self","marks"]) ⟨rfl,rfl,rfl,by rfl',rfl,by rfl',by rfl'⟩ (fun _ _ _ _=>l2) (fun vs H Q E h f cdv A outer s E' hr=>?_)
 obtain ⟨_,_,rfl,p,a,L,m,rfl,rfl,B,k⟩:=h
 have nd:(["self","marks"]:List Str).Nodup:=by rfl'
 refine ⟨_,f7 (i0 (j6 kJ (n9 (qH T) hr (by decide) (c7 (j6 R0 (pv 1) (L3 (p7 hr) (g9 (pv 0) rfl) (i8 T.g_SMALL_KEY) (fun _ _=>rfl))) c9))
  (n9 (qH T) hr (by decide) (c7 (j6 R0 (pv 1) (L3 (p7 hr) (g9 (pv 0) rfl) (i8 T.g_LOCK) (fun _ _=>rfl))) c9)))),?_⟩
 refine ⟨_,rfl,_,rfl,B.f_code_bits T ⟨_,_,rfl,G2 B.cb (dM L (c:=4) rfl),_,_,rfl,rfl,_,rfl,m &&& K5 L 4,congrArg V.int (X3 _ _),fun H1 s1=>?_⟩⟩
 have B1:=B.same s1
 refine ⟨_,rfl,_,rfl,B1.f_code_bits T ⟨_,_,rfl,G2 B1.cb (dM L (c:=5) rfl),_,_,rfl,rfl,_,rfl,m &&& K5 L 5,congrArg V.int (X3 _ _),fun H2 s2=>?_⟩⟩
 refine ⟨_,_,rfl,rfl,?_⟩
 rw [iQ B.R,iQ B.R]
 exact k _ (s1.trans s2)
def yC (Cb:Addr):P3:=fun self x y H Q=>∃p L i j,self=.ref p∧x=.int i∧y=.int j∧Bp Cb H p L∧Q (.int (M6 L i j)) H
theorem eO (T:i5 P w K mg Cb Cs):x9 P w K mg base Cb 1 "cell_at" ["self","x","y"] (t7 (yC Cb)):=by
 refine T.mB_cell_at.ok (N:=["self","x","y"]) ⟨rfl,rfl,rfl,by rfl',rfl,by rfl',by rfl'⟩ (fun _ _ _ _=>l3) (fun vs H Q E h f cdv A outer s E' hr=>?_)
 obtain ⟨_,_,_,rfl,p,L,i,j,rfl,rfl,rfl,B,k⟩:=h
 have nd:(["self","x","y"]:List Str).Nodup:=by rfl'
 obtain ⟨dx,fs,ca,hp,lw,lh,lc,hc,n1,n2⟩:=B.ex
 refine ⟨_,d7 (m7 (W2 (rF cC gP j0 (pv 1) (g9 (pv 0) rfl)) (cK (rF cC gP j0 (pv 2) (g9 (pv 0) rfl)))).pt (f7 (i0 (j6 L9 (j6 eS (pv 2) (g9 (pv 0) rfl)) (pv 1)))) m8)
  (f7 (i0 (i8 T.g_CANNOT))),?_⟩
 have no:¬(0≤i∧i < L.w∧0≤j∧j < L.h)→Q (.int (-1)) H:=fun z=>by unfold M6 at k;rw [if_neg z] at k;exact k
 refine ⟨_,rfl,_,_,rfl,rfl,_,rfl,?_⟩
 refine t0 (fun z1=>⟨_,rfl,j5 hp T.cl_Board T.nB_width lw ⟨_,_,rfl,rfl,_,rfl,?_⟩⟩) (fun z1=>⟨_,rfl,k4 (k4 (no fun z=>z1 (by simpa using z.1)))⟩)
 refine t0 (fun z2=>⟨_,rfl,_,_,rfl,rfl,_,rfl,?_⟩) (fun z2=>k4 (no fun z=>z2 (by simpa using z.2.1)))
 refine t0 (fun z3=>⟨_,rfl,j5 hp T.cl_Board T.nB_height lh ⟨_,_,rfl,rfl,_,rfl,?_⟩⟩) (fun z3=>⟨_,rfl,k4 (no fun z=>z3 (by simpa using z.2.2.1))⟩)
 refine t0 (fun z4=>?_) (fun z4=>no fun z=>z4 (by simpa using z.2.2.2))
 have hw:=B.R.w10
 refine ⟨_,rfl,_,rfl,j5 hp T.cl_Board T.nB_width lw ⟨_,_,rfl,rfl,.inr ⟨by omega,by omega⟩,_,rfl,_,_,rfl,rfl,?_⟩⟩
 unfold M6 at k
 rw [if_pos ⟨by simpa using z1,by simpa using z2,by simpa using z3,by simpa using z4⟩] at k
 exact k
theorem Ac {d:Nat} (h:d < 4):D8 (iv [0,1,0,-1]) (d:Int)=some (.int (sr d)):=by
 match d,h with
 | 0,_=>rfl
 | 1,_=>rfl
 | 2,_=>rfl
 | 3,_=>rfl
theorem vU {d:Nat} (h:d < 4):D8 (iv [-1,0,1,0]) (d:Int)=some (.int (sd d)):=by
 match d,h with
 | 0,_=>rfl
 | 1,_=>rfl
 | 2,_=>rfl
 | 3,_=>rfl
def Cm (Cb:Addr):P3:=fun self x y H Q=>∃p L i d,self=.ref p∧x=nv i∧y=nv d∧Bp Cb H p L∧i < L.w*L.h∧d < 4∧Q (.int (Z9 L i d)) H
theorem yB (T:i5 P w K mg Cb Cs):x9 P w K mg base Cb 2 "neighbour" ["self","cell","act"] (t7 (Cm Cb)):=by
 refine T.mB_neighbour.ok (N:=["self","cell","act"]) ⟨rfl,rfl,rfl,by rfl',rfl,by rfl',by rfl'⟩ (fun _ _ _ _=>l3) (fun vs H Q E h f cdv A outer s E' hr=>?_)
 obtain ⟨_,_,_,rfl,p,L,i,d,rfl,rfl,rfl,B,hi,hd,k⟩:=h
 have nd:(["self","cell","act"]:List Str).Nodup:=by rfl'
 obtain ⟨dx,fs,ca,hp,lw,lh,lc,hc,n1,n2⟩:=B.ex
 refine ⟨_,f7 (i0 (m9 (eO T) hr (by decide) T.cl_Board (pv 0) (c7 (j6 L9 (j6 T3 (pv 1) (g9 (pv 0) rfl)) (j8 y4 (D3 T.g_STEP_RIGHT) (pv 2) (fun _ _=>rfl)))
  (c7 (j6 L9 (j6 aZ (pv 1) (g9 (pv 0) rfl)) (j8 y4 (D3 T.g_STEP_DOWN) (pv 2) (fun _ _=>rfl))) c9)))),?_⟩
 have hw:=B.R.w2
 have hw2:=B.R.w10
 refine ⟨_,rfl,p,dx,_,rfl,hp,n1,_,rfl,_,rfl,j5 hp T.cl_Board T.nB_width lw ⟨_,_,rfl,rfl,(by show (0:Int) < (L.w:Int);omega),fun a1 h1=>⟨_,rfl,_,_,_,_,rfl,rfl,h1 _,Ac hd,_,_,rfl,rfl,?_⟩⟩⟩
 refine ⟨_,rfl,_,rfl,j5 hp T.cl_Board T.nB_width lw ⟨_,_,rfl,rfl,⟨by omega,by omega⟩,fun a2 h2=>⟨_,rfl,_,_,_,_,rfl,rfl,h2 _,vU hd,_,_,rfl,rfl,?_⟩⟩⟩
 refine ⟨_,_,_,rfl,p,L,_,_,rfl,rfl,rfl,B,?_⟩
 rw [Y8,bX,vT B.R hi hd]
 exact k
def sY (Cb:Addr):P1:=fun self H Q=>∃p a L,self=.ref p∧Bs0 Cb H p a L∧Q (nv (c0 L (Vbrgae.beginning L))) H
theorem Ej (L:Level):c0 L (Vbrgae.beginning L)=L.cells.findIdx fun k=>k==2:=by
 show (0*_+_)=_
 rw [Nat.zero_mul,Nat.zero_add]
 rfl
theorem p0 (a b:Nat):l6 (nv a) (nv b)=(a==b):=by
 show ((a:Int)==(b:Int))=(a==b)
 by_cases h:a=b
 ·subst h;simp
 ·have:¬(a:Int)=(b:Int):=by omega
  rw [beq_eq_false_iff_ne.mpr h,beq_eq_false_iff_ne.mpr this]
theorem EM (L:Level):(o7 L).all F8=true:=by
 unfold o7
 rw [List.all_map,List.all_eq_true]
 intro x _
 rfl
theorem eX (T:i5 P w K mg Cb Cs):x9 P w K mg base Cb 1 "first_spot" ["self"] (sp1 (sY Cb)):=by
 refine T.mB_first_spot.ok (N:=["self"]) ⟨rfl,rfl,rfl,by rfl',rfl,by rfl',by rfl'⟩ (fun _ _ _ _=>l1) (fun vs H Q E h f cdv A outer s E' hr=>?_)
 obtain ⟨_,rfl,p,a,L,rfl,B,k⟩:=h
 have nd:(["self"]:List Str).Nodup:=by rfl'
 refine ⟨_,f7 (i0 (F3 PySem.F.plainAttrs_list PySem.F.slot_list_index PySem.F.type_list_index AA (g9 (pv 0) rfl) (c7 (i8 T.g_START) c9))),?_⟩
 have hl:=(V9 B.R).lt
 have hl2:(L.cells.findIdx fun k=>k==2) < L.cells.length:=by rw [B.R.len];exact hl
 refine ⟨_,rfl,B.f_codes T ⟨.inl ⟨rfl,_,SqL.of B.codes⟩,_,_,_,L.cells.findIdx (fun k=>k==2),nv (L.cells[L.cells.findIdx fun k=>k==2]),rfl,rfl,SqL.of B.codes,rfl,EM L,?_,?_,fun m z hm e=>?_,?_⟩⟩
 ·unfold o7
  rw [List.getElem?_map,List.getElem?_eq_getElem hl2]
  rfl
 ·have:=List.findIdx_getElem (xs:=L.cells) (p:=fun k=>k==2) (w:=hl2)
  exact (p0 _ 2).trans this
 ·unfold o7 at e
  rw [List.getElem?_map,List.getElem?_eq_getElem (Nat.lt_trans hm hl2)] at e
  cases e
  have:=List.not_of_lt_findIdx hm
  refine (p0 _ 2).trans ?_
  simpa using this
 ·rw [Ej] at k
  exact k
def qO (Cb:Addr):P2:=fun self x H Q=>∃p a L n,self=.ref p∧x=nv n∧Bs0 Cb H p a L∧∀H' l,Same H H'→H l=none→H' l=some (.lst ((Vbrgae.told (boardOf L) ⟨n % (L.w*L.h),0⟩).map V.int))→Q (.ref l) H'
theorem aW (T:i5 P w K mg Cb Cs):x9 P w K mg base Cb 2 "place" ["self","spot"] (x4 (qO Cb)):=by
 refine T.mB_place.ok (N:=["self","spot","cell"]) ⟨rfl,rfl,rfl,by rfl',rfl,by rfl',by rfl'⟩ (fun _ _ _ _=>l2) (fun vs H Q E h f cdv A outer s E' hr=>?_)
 obtain ⟨_,_,rfl,p,a,L,n,rfl,rfl,B,k⟩:=h
 have nd:(["self","spot","cell"]:List Str).Nodup:=by rfl'
 refine ⟨_,d7 (j4 (i:=2) nd rfl (Or.inl rfl) (m9 (aM T) hr (by decide) T.cl_Board (pv 0) (c7 (pv 1) c9)))
  (f7 (i0 (l5 (c7 (j6 T3 (pv 2) (g9 (pv 0) rfl)) (c7 (j6 aZ (pv 2) (g9 (pv 0) rfl)) (c7 (L6 (C8 (m9 (U3 T) hr (by decide) T.cl_Board (pv 0) (c7 (pv 1) c9))) j0 j0) c9)))))),?_⟩
 have hw:=B.R.w2
 have hw2:=B.R.w10
 refine ⟨_,rfl,p,a.dx,_,rfl,B.ins,o6 _ _ (by rfl'),_,rfl,_,_,rfl,p,a,L,n,rfl,rfl,B,?_⟩
 refine ⟨_,rfl,_,rfl,B.f_width T ⟨_,_,rfl,rfl,(by show (0:Int) < (L.w:Int);omega),_,rfl,_,rfl,B.f_width T ⟨_,_,rfl,rfl,⟨by omega,by omega⟩,?_⟩⟩⟩
 refine ⟨_,rfl,p,a.dx,_,rfl,B.ins,o6 _ _ (by rfl'),_,rfl,_,_,rfl,p,a,L,n,rfl,rfl,B,_,rfl,?_⟩
 have fin:∀v:Int,v=Vbrgae.bit (over (boardOf L) ⟨n % (L.w*L.h),0⟩)→∀l,H l=none→Q (.ref l) (a8 H l (.lst [.int (((n % (L.w*L.h):Nat):Int) % (L.w:Int)),.int (((n % (L.w*L.h):Nat):Int) / (L.w:Int)),.int v])):=fun v hv l hl=>by
  refine k _ l (Same.new hl) hl ?_
  rw [c8,Y8,bX,hv]
  rfl
 refine t0 (fun z=>⟨(by show 3≤sizeLine;decide),fin 1 ?_⟩) (fun z=>⟨(by show 3≤sizeLine;decide),fin 0 ?_⟩)
 ·have:over (boardOf L) ⟨n % (L.w*L.h),0⟩=true:=z
  rw [this];rfl
 ·have:over (boardOf L) ⟨n % (L.w*L.h),0⟩=false:=Bool.eq_false_iff.mpr z
  rw [this];rfl
def DF (Cb:Addr):P3:=fun self x y H Q=>∃p a L c m,self=.ref p∧x=nv c∧y=nv m∧Bs0 Cb H p a L∧G4 c=true∧Q (.bl (Y3 L c m)) H
theorem mP {x:Int}:(!decide (V.int x=V.int 0))=(x != 0):=by
 by_cases h:x=0
 ·subst h;rfl
 ·rw [decide_eq_false (fun z=>h (V.int.inj z))]
  simp [h]
theorem tN {c:Nat}:D6 (nv c) (iv [8,10])=(c==8 || c==10):=by
 show (l6 (nv 8) (nv c) || (l6 (nv 10) (nv c) || false))=_
 rw [p0,p0,Bool.eq_iff_iff]
 simp
 omega
theorem BF (T:i5 P w K mg Cb Cs):x9 P w K mg base Cb 1 "gate_is_open" ["self","code","marks"] (t7 (DF Cb)):=by
 refine T.mB_gate_is_open.ok (N:=["self","code","marks","is_on"]) ⟨rfl,rfl,rfl,by rfl',rfl,by rfl',by rfl'⟩ (fun _ _ _ _=>l3) (fun vs H Q E h f cdv A outer s E' hr=>?_)
 obtain ⟨_,_,_,rfl,p,a,L,c,m,rfl,rfl,rfl,B,hc,k⟩:=h
 have nd:(["self","code","marks","is_on"]:List Str).Nodup:=by rfl'
 refine ⟨_,d7 (j4 (i:=3) nd rfl (Or.inl rfl) (G1 G8 (j6 R0 (pv 2) (L3 (p7 hr) (g9 (pv 0) rfl) (pv 1) (fun _ _=>rfl))) j0 (o8 _)))
  (f7 (i0 (G1 D4 (pv 3) (G1 V7 (pv 1) (D3 T.g_GATES_OPEN_IF_ON) rfl) (o8 _)))),?_⟩
 have e7:decide (c=7∨10≤c)=decide (10≤c):=by
  unfold G4 at hc
  simp at hc
  congr 1
  exact propext ⟨fun z=>by omega,fun z=>by omega⟩
 refine ⟨_,rfl,_,rfl,B.f_lever_bits T ⟨_,rfl,_,_,rfl,G2 B.lb (oX L (.inr (.inr hc))),_,_,rfl,rfl,rfl,?_⟩⟩
 refine ⟨_,rfl,_,rfl,fun g hg=>⟨_,_,rfl,.inr (hg _),rfl,rfl,rfl,?_⟩⟩
 have e:decide (V.bl (!decide (V.int (Builtin.bitAnd (m:Int) ((2 ^ leverBit (boardOf L) (decide (c=7∨10≤c)):Nat):Int))=V.int 0))=V.bl (D6 (nv c) (iv [8,10])))=Y3 L c m:=by
  rw [mP,cM,tN,e7]
  unfold Y3 bJ
  cases m.testBit (leverBit (boardOf L) (decide (10≤c)))<;>cases (c==8 || c==10)<;>rfl
 show Q (.bl (decide (V.bl (!decide (V.int (Builtin.bitAnd (m:Int) ((2 ^ leverBit (boardOf L) (decide (c=7∨10≤c)):Nat):Int))=V.int 0))=V.bl (D6 (nv c) (iv [8,10]))))) H
 rw [e]
 exact k
def vI (Cb:Addr):P3:=fun self x y H Q=>∃p a L i m,self=.ref p∧x=nv i∧y=nv m∧Bs0 Cb H p a L∧i∈thingsIn L.cells∧∀H',Same H H'→Q (.bl (Q6 L i m)) H'
theorem DG (T:i5 P w K mg Cb Cs):x9 P w K mg base Cb 3 "lock_lets_in" ["self","cell","marks"] (t7 (vI Cb)):=by
 refine T.mB_lock_lets_in.ok (N:=["self","cell","marks"]) ⟨rfl,rfl,rfl,by rfl',rfl,by rfl',by rfl'⟩ (fun _ _ _ _=>l3) (fun vs H Q E h f cdv A outer s E' hr=>?_)
 obtain ⟨_,_,_,rfl,p,a,L,i,m,rfl,rfl,rfl,B,hi,k⟩:=h
 have nd:(["self","cell","marks"]:List Str).Nodup:=by rfl'
 refine ⟨_,f7 (i0 (lN (G1 G8 (j6 R0 (pv 2) (L3 (p7 hr) (g9 (pv 0) rfl) (pv 1) (fun _ _=>rfl))) j0 (o8 _))
  (fF (G1 eZ (m9 (lL T) hr (by decide) T.cl_Board (pv 0) (c7 (pv 2) c9)) j0 (o8 _))))),?_⟩
 refine ⟨_,rfl,_,rfl,B.f_thing_bits T ⟨_,rfl,_,_,rfl,G2 B.tb (gF L hi),_,_,rfl,rfl,rfl,_,rfl,?_⟩⟩
 have e:(!decide (V.int (Builtin.bitAnd (m:Int) ((2 ^ bitOf (boardOf L) i:Nat):Int))=V.int 0))=m.testBit (bitOf (boardOf L) i):=by rw [mP,cM]
 refine t0 (fun z=>?_) (fun z=>?_)
 ·have h1:Q6 L i m=true:=by unfold Q6;rw [←e,z];rfl
  rw [h1] at k
  exact k _ (Same.refl _)
 ·refine ⟨_,rfl,p,a.dx,_,rfl,B.ins,o6 _ _ (by rfl'),_,rfl,_,_,rfl,p,a,L,m,rfl,rfl,B,fun H' s'=>⟨_,_,rfl,rfl,?_⟩⟩
  have h1:Q6 L i m=decide ((0:Int) < (marked (boardOf L) m 4:Int) - (marked (boardOf L) m 5:Int)):=by
   unfold Q6
   rw [←e,Bool.eq_false_iff.mpr z,Bool.false_or]
   apply decide_eq_decide.mpr
   unfold Vbrgae.inHand
   omega
  rw [h1] at k
  exact k _ s'
theorem DE {c:Nat} (h:L5 c=true):Vbrgae.isThing c=true:=by
 unfold L5 at h
 unfold Vbrgae.isThing
 simp at h ⊢
 omega
theorem dH (a b:Nat):(a==b)=decide (a=b):=rfl
def eW:Option Nat→V
 | none=>.int (-1)
 | some m=>nv m
def Ea (Cb:Addr):P3:=fun self x y H Q=>∃p a L j m,self=.ref p∧x=nv j∧y=nv m∧Bs0 Cb H p a L∧j < L.w*L.h∧∀H',Same H H'→Q (eW (L0 L j m)) H'
theorem in_keys {c:Nat}:D6 (nv c) (iv [4,12,13,14])=L5 c:=by
 show (l6 (nv 4) (nv c) || (l6 (nv 12) (nv c) || (l6 (nv 13) (nv c) || (l6 (nv 14) (nv c) || false))))=_
 rw [p0,p0,p0,p0]
 unfold L5
 rw [Bool.eq_iff_iff]
 simp
 omega
theorem in_gate {c:Nat}:D6 (nv c) (iv [8,9,10,11])=G4 c:=by
 show (l6 (nv 8) (nv c) || (l6 (nv 9) (nv c) || (l6 (nv 10) (nv c) || (l6 (nv 11) (nv c) || false))))=_
 rw [p0,p0,p0,p0]
 unfold G4
 rw [Bool.eq_iff_iff]
 simp
 omega
theorem door_val {c:Nat}:i7 (Q2 [(15,12),(16,13),(17,14)]) (Sum.inl (c:Int))=if K9 c=true then some (nv (c - 3)) else none:=by
 by_cases h:K9 c=true
 ·rw [if_pos h]
  unfold K9 at h
  simp at h
  have:c=15∨c=16∨c=17:=by omega
  rcases this with e|e|e<;>subst e<;>rfl
 ·rw [if_neg h]
  unfold K9 at h
  simp at h
  have n1:¬(Sum.inl 15:d9)=Sum.inl (c:Int):=fun z=>by have:=Sum.inl.inj z;omega
  have n2:¬(Sum.inl 16:d9)=Sum.inl (c:Int):=fun z=>by have:=Sum.inl.inj z;omega
  have n3:¬(Sum.inl 17:d9)=Sum.inl (c:Int):=fun z=>by have:=Sum.inl.inj z;omega
  show i7 [(Sum.inl 15,V.int 12),(Sum.inl 16,V.int 13),(Sum.inl 17,V.int 14)] _=none
  rw [A9 n1,A9 n2,A9 n3]
  rfl
theorem wJ (T:i5 P w K mg Cb Cs):x9 P w K mg base Cb 4 "marks_after" ["self","cell","marks"] (t7 (Ea Cb)):=by
 refine T.mB_marks_after.ok (N:=["self","cell","marks","code"]) ⟨rfl,rfl,rfl,by rfl',rfl,by rfl',by rfl'⟩ (fun _ _ _ _=>l3) (fun vs H Q E h f cdv A outer s E' hr=>?_)
 obtain ⟨_,_,_,rfl,p,a,L,j,m,rfl,rfl,rfl,B,hj,k⟩:=h
 have nd:(["self","cell","marks","code"]:List Str).Nodup:=by rfl'
 refine ⟨_,d7 (j4 (i:=3) nd rfl (Or.inl rfl) (j8 p5 (g9 (pv 0) rfl) (pv 1) (fun _ _=>rfl)))
  (d7 (m7 (u5 V7 (pv 3) (D3 T.g_KEYS) rfl) (f7 (i0 (j6 mL (pv 2) (L3 (p7 hr) (g9 (pv 0) rfl) (pv 1) (fun _ _=>rfl))))) m8)
  (d7 (m7 (u5 D4 (pv 3) (i8 T.g_LOCK) (o8 _)) (f7 (i0 (L6 (C8 (m9 (DG T) hr (by decide) T.cl_Board (pv 0) (c7 (pv 1) (c7 (pv 2) c9)))) (j6 mL (pv 2) (L3 (p7 hr) (g9 (pv 0) rfl) (pv 1) (fun _ _=>rfl))) (i8 T.g_CANNOT)))) m8)
  (d7 (m7 (u5 V7 (pv 3) (D3 T.g_GATES) rfl) (f7 (i0 (L6 (C8 (m9 (BF T) hr (by decide) T.cl_Board (pv 0) (c7 (pv 3) (c7 (pv 2) c9)))) (pv 2) (i8 T.g_CANNOT)))) m8)
  (d7 (m7 (K2 (jW (pv 3) (R9 T.g_KEY_OF_DOOR)) rfl) (f7 (i0 (L6 (Q7 (j6 R0 (pv 2) (L3 (p7 hr) (g9 (pv 0) rfl) (fR (R9 T.g_KEY_OF_DOOR) (pv 3) (fun _ _=>rfl)) (fun _ _=>rfl))) (fun _=>rfl)) (pv 2) (i8 T.g_CANNOT)))) m8)
  (f7 (i0 (pv 2))))))),?_⟩
 have hj':j < L.cells.length:=by rw [B.R.len];exact hj
 refine ⟨_,rfl,B.f_codes T ⟨_,rfl,_,_,_,_,rfl,rfl,SqL.of B.codes,M0 B.R hj,?_⟩⟩
 refine ⟨_,rfl,fun g hg=>⟨_,_,rfl,.inr (hg _),rfl,rfl,_,rfl,?_⟩⟩
 unfold L0 at k
 dsimp only at k
 refine t0 (fun z1=>?_) (fun z1=>?_)
 ·have z1:L5 (r6 L j)=true:=in_keys▸z1
  have ht:j∈thingsIn L.cells:=bV hj' (DE z1)
  rw [if_pos z1] at k
  refine ⟨_,rfl,_,rfl,B.f_thing_bits T ⟨_,rfl,_,_,rfl,G2 B.tb (gF L ht),_,_,rfl,rfl,?_⟩⟩
  show Q (.int (Builtin.bitOr (m:Int) ((2 ^ bitOf (boardOf L) j:Nat):Int))) H
  rw [qJ]
  exact k _ (Same.refl _)
 have z1:¬L5 (r6 L j)=true:=fun z=>z1 (in_keys.trans z)
 rw [if_neg z1] at k
 refine ⟨_,rfl,rfl,_,rfl,?_⟩
 refine t0 (fun z2=>?_) (fun z2=>?_)
 ·have z2:r6 L j=5:=nv_inj.mp (of_decide_eq_true z2)
  rw [if_pos z2] at k
  have ht:j∈thingsIn L.cells:=bV hj' (by unfold Vbrgae.isThing;rw [show Vbrgae.codeAt L j=5 from z2];rfl)
  refine ⟨_,rfl,p,a.dx,_,rfl,B.ins,o6 _ _ (by rfl'),_,rfl,_,rfl,_,_,_,rfl,p,a,L,j,m,rfl,rfl,rfl,B,ht,fun H' s'=>⟨_,rfl,?_⟩⟩
  refine t0 (fun z3=>?_) (fun z3=>?_)
  ·rw [if_pos z3] at k
   have B':=B.same s'
   refine ⟨_,rfl,_,rfl,B'.f_thing_bits T ⟨_,rfl,_,_,rfl,G2 B'.tb (gF L ht),_,_,rfl,rfl,?_⟩⟩
   show Q (.int (Builtin.bitOr (m:Int) ((2 ^ bitOf (boardOf L) j:Nat):Int))) H'
   rw [qJ]
   exact k _ s'
  ·rw [if_neg z3] at k
   exact k _ s'
 have z2:¬r6 L j=5:=fun z=>z2 (decide_eq_true (nv_inj.mpr z))
 rw [if_neg z2] at k
 refine ⟨_,rfl,fun g2 hg2=>⟨_,_,rfl,.inr (hg2 _),rfl,rfl,_,rfl,?_⟩⟩
 refine t0 (fun z3=>?_) (fun z3=>?_)
 ·have z3:G4 (r6 L j)=true:=in_gate▸z3
  rw [if_pos z3] at k
  refine ⟨_,rfl,p,a.dx,_,rfl,B.ins,o6 _ _ (by rfl'),_,rfl,_,rfl,_,_,_,rfl,p,a,L,r6 L j,m,rfl,rfl,rfl,B,z3,_,rfl,?_⟩
  refine t0 (fun z4=>?_) (fun z4=>?_)
  ·rw [if_pos z4] at k
   exact ⟨_,rfl,k _ (Same.refl _)⟩
  ·rw [if_neg z4] at k
   exact k _ (Same.refl _)
 have z3:¬G4 (r6 L j)=true:=fun z=>z3 (in_gate.trans z)
 rw [if_neg z3] at k
 refine ⟨_,rfl,fun g3 hg3=>⟨_,_,Sum.inl ((r6 L j:Nat):Int),rfl,hg3,rfl,_,rfl,?_⟩⟩
 rw [door_val]
 by_cases z4:K9 (r6 L j)=true
 ·rw [if_pos z4] at k ⊢
  have h12:Vbrgae.isThing (r6 L j - 3)=true:=by
   unfold K9 at z4
   unfold Vbrgae.isThing
   simp at z4 ⊢
   omega
  refine k8 ⟨_,rfl,_,rfl,B.f_code_bits T (fun g4 hg4=>⟨_,rfl,_,_,Sum.inl ((r6 L j:Nat):Int),_,rfl,hg4,rfl,door_val.trans (if_pos z4),_,_,rfl,G2 B.cb (dM L h12),_,_,rfl,rfl,_,rfl,?_⟩)⟩
  refine t0 (fun z5=>?_) (fun z5=>?_)
  ·have:0 < marked (boardOf L) m (r6 L j - 3):=by
    apply mZ m (r6 L j - 3) |>.mp
    intro z
    have z5:(Builtin.bitAnd (m:Int) ((K5 L (r6 L j - 3):Nat):Int) != 0)=true:=z5
    rw [X3,z] at z5
    exact absurd z5 (by decide)
   rw [if_pos this] at k
   exact ⟨_,rfl,k _ (Same.refl _)⟩
  ·have:¬0 < marked (boardOf L) m (r6 L j - 3):=fun z=>by
    have h:=(mZ (L:=L) m (r6 L j - 3)).mpr z
    refine z5 ?_
    show (Builtin.bitAnd (m:Int) ((K5 L (r6 L j - 3):Nat):Int) != 0)=true
    rw [X3]
    simp;omega
   rw [if_neg this] at k
   exact k _ (Same.refl _)
 ·rw [if_neg z4] at k ⊢
  exact k4 ⟨_,rfl,k _ (Same.refl _)⟩
theorem drop_val {c:Nat}:i7 (Q2 [(18,0),(19,1),(20,2),(21,3)]) (Sum.inl (c:Int))=if J3 c=true then some (nv (c - 18)) else none:=by
 by_cases h:J3 c=true
 ·rw [if_pos h]
  unfold J3 at h
  simp at h
  have:c=18∨c=19∨c=20∨c=21:=by omega
  rcases this with e|e|e|e<;>subst e<;>rfl
 ·rw [if_neg h]
  unfold J3 at h
  simp at h
  have n1:¬(Sum.inl 18:d9)=Sum.inl (c:Int):=fun z=>by have:=Sum.inl.inj z;omega
  have n2:¬(Sum.inl 19:d9)=Sum.inl (c:Int):=fun z=>by have:=Sum.inl.inj z;omega
  have n3:¬(Sum.inl 20:d9)=Sum.inl (c:Int):=fun z=>by have:=Sum.inl.inj z;omega
  have n4:¬(Sum.inl 21:d9)=Sum.inl (c:Int):=fun z=>by have:=Sum.inl.inj z;omega
  show i7 [(Sum.inl 18,V.int 0),(Sum.inl 19,V.int 1),(Sum.inl 20,V.int 2),(Sum.inl 21,V.int 3)] _=none
  rw [A9 n1,A9 n2,A9 n3,A9 n4]
  rfl
def Ec:P2:=fun x y H Q=>∃c d:Nat,x=nv c∧y=nv d∧Q (.bl (P0 c d)) H
theorem yP (T:i5 P w K mg Cb Cs):k7 P w K mg base 1 "may_leave" ["code","act"] (x4 Ec):=by
 refine T.d_may_leave.ok (N:=["code","act"]) ⟨rfl,rfl,rfl,by rfl',rfl,by rfl',by rfl'⟩ (fun _ _ _ _=>l2) (fun vs H Q E h f cdv A outer s E' hr=>?_)
 obtain ⟨_,_,rfl,c,d,rfl,rfl,k⟩:=h
 have nd:(["code","act"]:List Str).Nodup:=by rfl'
 refine ⟨_,f7 (i0 (lN (lB (CL (pv 0) (R9 T.g_DIRECTION_OF_DROP)) rfl) (fF (G1 D4 (fR (R9 T.g_DIRECTION_OF_DROP) (pv 0) (fun _ _=>rfl)) (pv 1) (o8 _))))),?_⟩
 refine ⟨_,rfl,fun g hg=>⟨_,_,Sum.inl (c:Int),rfl,hg,rfl,_,rfl,?_⟩⟩
 unfold P0 at k
 rw [drop_val]
 by_cases h:J3 c=true
 ·rw [if_pos h]
  rw [h] at k
  refine k4 (fun g2 hg2=>⟨_,rfl,_,_,Sum.inl (c:Int),_,rfl,hg2,rfl,drop_val.trans (if_pos h),_,rfl,rfl,?_⟩)
  rw [V0]
  have:decide (c - 18=d)=(!true || c - 18==d):=rfl
  rw [this]
  exact k
 ·rw [if_neg h]
  have:J3 c=false:=by simpa using h
  rw [this] at k
  exact k8 k
def Bo:P2:=fun x y H Q=>∃c d:Nat,x=nv c∧y=nv d∧Q (.bl (Q0 c d)) H
theorem CN (T:i5 P w K mg Cb Cs):k7 P w K mg base 1 "may_come" ["code","act"] (x4 Bo):=by
 refine T.d_may_come.ok (N:=["code","act"]) ⟨rfl,rfl,rfl,by rfl',rfl,by rfl',by rfl'⟩ (fun _ _ _ _=>l2) (fun vs H Q E h f cdv A outer s E' hr=>?_)
 obtain ⟨_,_,rfl,c,d,rfl,rfl,k⟩:=h
 have nd:(["code","act"]:List Str).Nodup:=by rfl'
 refine ⟨_,d7 (m7 (K2 (jW (pv 0) (R9 T.g_DIRECTION_OF_DROP)) rfl) (f7 (i0 (G1 G8 (fR (R9 T.g_DIRECTION_OF_DROP) (pv 0) (fun _ _=>rfl)) (j6 T3 (j6 L9 (pv 1) j0) j0) (o8 _)))) m8)
  (f7 (i0 (G1 G8 (pv 0) (i8 T.g_WALL) (o8 _)))),?_⟩
 refine ⟨_,rfl,fun g hg=>⟨_,_,Sum.inl (c:Int),rfl,hg,rfl,_,rfl,?_⟩⟩
 unfold Q0 at k
 rw [drop_val]
 by_cases h:J3 c=true
 ·rw [if_pos h] at k ⊢
  refine k8 (fun g2 hg2=>⟨_,rfl,_,_,Sum.inl (c:Int),_,rfl,hg2,rfl,drop_val.trans (if_pos h),_,rfl,_,_,rfl,rfl,_,_,rfl,rfl,(by show (0:Int) < 4;decide),rfl,?_⟩)
  have e:V.int (((d:Int)+2) % 4)=nv ((d+2) % 4):=by
   congr 1
  have:(!decide (nv (c - 18)=V.int (((d:Int)+2) % 4)))=!(c - 18==(d+2) % 4):=by
   rw [e,V0,dH]
  show Q (.bl (!decide (nv (c - 18)=V.int (((d:Int)+2) % 4)))) H
  rw [this]
  exact k
 ·rw [if_neg h] at k ⊢
  refine k4 ⟨_,rfl,rfl,?_⟩
  have:(!decide (nv c=V.int 0))=!(c==0):=by
   rw [show V.int 0=nv 0 from rfl,V0,dH]
  rw [this]
  exact k
section
variable {X:Cx}
def rN (C:Nat→Nat→Prop) (g:Nat→Nat→Nat):R2:=fun x y H Q=>∃a b:Nat,x=nv a∧y=nv b∧C a b∧Q (nv (g a b)) H
theorem aG:o9 X (binaryOp .Mod) (rN (fun _ b=>0 < b) fun a b=>a % b):=by
 intro pins s σ H x y u v Q I rx ry h
 obtain ⟨a,b,rfl,rfl,hc,q⟩:=h
 exact T3 pins s σ H _ _ u v Q I rx ry ⟨_,_,rfl,rfl,(by show (0:Int) < (b:Int);omega),by dsimp only;rw [Y8];exact q⟩
theorem jH:o9 X (binaryOp .FloorDiv) (rN (fun _ b=>0 < b∧b < 1000000) fun a b=>a / b):=by
 intro pins s σ H x y u v Q I rx ry h
 obtain ⟨a,b,rfl,rfl,hc,q⟩:=h
 exact aZ pins s σ H _ _ u v Q I rx ry ⟨_,_,rfl,rfl,⟨by omega,by omega⟩,by dsimp only;rw [bX];exact q⟩
theorem AV:o9 X (binaryOp .BitXor) (rN (fun _ _=>True) fun a b=>a ^^^ b):=by
 intro pins s σ H x y u v Q I rx ry h
 obtain ⟨a,b,rfl,rfl,hc,q⟩:=h
 exact yA pins s σ H _ _ u v Q I rx ry ⟨_,_,rfl,rfl,by dsimp only;rw [sV];exact q⟩
theorem gZ:o9 X (binaryOp .Mult) (rN (fun _ b=>b < 1000000) fun a b=>a*b):=by
 intro pins s σ H x y u v Q I rx ry h
 obtain ⟨a,b,rfl,rfl,hc,q⟩:=h
 exact eS pins s σ H _ _ u v Q I rx ry ⟨_,_,rfl,rfl,.inr ⟨by omega,by omega⟩,by dsimp only;rw [←Int.natCast_mul];exact q⟩
theorem Y4:o9 X (binaryOp .Add) (rN (fun _ _=>True) fun a b=>a+b):=by
 intro pins s σ H x y u v Q I rx ry h
 obtain ⟨a,b,rfl,rfl,hc,q⟩:=h
 exact L9 pins s σ H _ _ u v Q I rx ry ⟨_,_,rfl,rfl,by dsimp only;rw [←Int.natCast_add];exact q⟩
theorem jV:∀{xs ys:List Addr},xs.map V.ref=ys.map V.ref→xs=ys
 | [],[],_=>rfl
 | [],_::_,h=>by cases h
 | _::_,[],h=>by cases h
 | x::xs,y::ys,h=>by
  rw [List.map_cons,List.map_cons] at h
  obtain ⟨h1,h2⟩:=List.cons.inj h
  rw [V.ref.inj h1,jV h2]
end
def M8 (L:Level) (i d:Nat):List (Nat×Nat):=(List.range d).filterMap fun d=>(B8 L i d).map fun j=>(d,j)
theorem rG (L:Level) (i d:Nat):M8 L i (d+1)=M8 L i d++(match B8 L i d with | none=>[]|some j=>[(d,j)]):=by
 unfold M8
 rw [List.range_succ,List.filterMap_append]
 congr 1
 cases h:B8 L i d<;>simp [h]
theorem xA (L:Level) (i d:Nat):(M8 L i d).length≤d:=by
 have:=List.length_filterMap_le (fun d=>(B8 L i d).map fun j=>(d,j)) (List.range d)
 rwa [List.length_range] at this
theorem ExAt.add {H H':Hp} {l t:Addr} {es:List (Nat×Nat)} {e:Nat×Nat} (x:ExAt H l es) (ht:H' t=some (.tup [nv e.1,nv e.2])) (hs:∀b o,H b=some o→b≠l→H' b=some o)
  (hl:∀ys,H l=some (.lst ys)→H' l=some (.lst (ys++[.ref t]))):ExAt H' l (es++[e]):=by
 obtain ⟨ts,h1,h2,h3⟩:=x
 refine ⟨ts++[t],by rw [hl _ h1,List.map_append];rfl,by rw [List.length_append,List.length_append,h2];rfl,fun j u f a b=>?_⟩
 by_cases hj:j < ts.length
 ·rw [List.getElem?_append_left hj] at a
  rw [List.getElem?_append_left (by omega)] at b
  have:=h3 j u f a b
  exact hs _ _ this (f8 this h1 (by intro z;cases z))
 ·rw [List.getElem?_append_right (by omega)] at a b
  rw [←h2] at b
  have e0:j - ts.length=0:=by
   cases q:j - ts.length with
   | zero=>rfl
   | succ n=>rw [q] at a;simp at a
  rw [e0] at a b
  cases a
  cases b
  exact ht
def El (Cb:Addr):P2:=fun self x H Q=>∃p L i,self=.ref p∧x=nv i∧Bp Cb H p L∧i < L.w*L.h∧∀H' l,Same H H'→H l=none→ExAt H' l (C2 L i)→Q (.ref l) H'
theorem Bv (T:i5 P w K mg Cb Cs):x9 P w K mg base Cb 3 "find_exits" ["self","cell"] (x4 (El Cb)):=by
 refine T.mB_find_exits.ok (N:=["self","cell","found","act","there"]) ⟨rfl,rfl,rfl,by rfl',rfl,by rfl',by rfl'⟩ (fun _ _ _ _=>l2) (fun vs H Q E h f cdv A outer s E' hr=>?_)
 obtain ⟨_,_,rfl,p,L,i,rfl,rfl,B,hi,k⟩:=h
 have nd:(["self","cell","found","act","there"]:List Str).Nodup:=by rfl'
 obtain ⟨dx,fs,ca,hp,lw,lh,lc,hc,n1,n2⟩:=B.ex
 refine ⟨_,d7 (j4 (i:=2) nd rfl (Or.inl rfl) (l5 c9))
  (d7 (m7 (u5 D4 (j8 p5 (g9 (pv 0) rfl) (pv 1) (fun _ _=>rfl)) (i8 T.g_STAIRS) (o8 _)) (f7 (i0 (pv 2))) m8)
  (d7 (B9 PassesOwn.never rfl (fE rfl T.b_range (c7 (i8 T.g_PULL) c9)) (n8 (i:=3) nd rfl (Or.inl rfl))
   (d7 (j4 (i:=4) nd rfl (Or.inl rfl) (m9 (yB T) hr (by decide) T.cl_Board (pv 0) (c7 (pv 1) (c7 (pv 3) c9))))
   (f7 (m7 (W2 (u5 G8 (pv 4) (i8 T.g_CANNOT) (o8 _)) (W2 (C8 (n9 (yP T) hr (by decide) (c7 (j8 p5 (g9 (pv 0) rfl) (pv 1) (fun _ _=>rfl)) (c7 (pv 3) c9))))
     (cK (C8 (n9 (CN T) hr (by decide) (c7 (j8 p5 (g9 (pv 0) rfl) (pv 4) (fun _ _=>rfl)) (c7 (pv 3) c9)))))) ).pt
    (f7 (A7 (F3 PySem.F.plainAttrs_list PySem.F.slot_list_append PySem.F.type_list_append N2 (pv 2) (c7 (N9 (c7 (pv 3) (c7 (pv 4) c9))) c9)))) m8))))
  (f7 (i0 (pv 2))))),?_⟩
 refine ⟨Nat.zero_le _,fun l hl=>?_⟩
 have s0:Same H (a8 H l (.lst [])):=Same.new hl
 have B0:=B.same s0
 have x0:ExAt (a8 H l (.lst [])) l (M8 L i 0):=⟨[],c8,rfl,fun j t e a=>by simp at a⟩
 refine ⟨_,rfl,j5 (s0 _ _ hp) T.cl_Board T.nB_codes lc ⟨_,rfl,_,_,_,_,rfl,rfl,SqL.of (s0 _ _ hc),M0 B.R hi,rfl,_,rfl,?_⟩⟩
 refine t0 (fun z=>⟨_,rfl,?_⟩) (fun z=>?_)
 ·have z:r6 L i=3:=nv_inj.mp (of_decide_eq_true z)
  refine k _ _ s0 hl ?_
  have:C2 L i=M8 L i 0:=by
   unfold C2 M8
   have:∀d,B8 L i d=none:=fun d=>by unfold B8;rw [if_pos z]
   simp [this]
  rw [this]
  exact x0
 have z:¬r6 L i=3:=fun q=>z (decide_eq_true (nv_inj.mpr q))
 refine ⟨4,rfl,by decide,by decide,Ee (n:=4) (fun d σ H'=>∃v3 v4,σ=[some (.ref p),some (nv i),some (.ref l),v3,v4]∧Same H H'∧ExAt H' l (M8 L i d)) ⟨none,none,rfl,s0,x0⟩ ?_ ?_⟩
 ·rintro d σ H' hd ⟨v3,v4,rfl,s1,x1⟩
  have B1:=B.same s1
  rw [Int.zero_add]
  refine ⟨_,rfl,p,dx,_,rfl,s1 _ _ hp,n2,_,rfl,_,rfl,_,_,_,rfl,p,L,i,d,rfl,rfl,rfl,B1,hi,hd,?_⟩
  refine ⟨_,rfl,rfl,_,rfl,?_⟩
  have skip:B8 L i d=none→∃v3 v4,([some (.ref p),some (nv i),some (.ref l),some (nv d),some (V.int (Z9 L i d))]:L2.St)=[some (.ref p),some (nv i),some (.ref l),v3,v4]∧Same H H'∧ExAt H' l (M8 L i (d+1)):=fun e=>by
   refine ⟨_,_,rfl,s1,?_⟩
   rw [rG,e,List.append_nil]
   exact x1
  unfold B8 at skip
  rw [if_neg z] at skip
  unfold Z9 at skip ⊢
  cases e1:Vbrgae.toward L i d with
  | none=>
   rw [e1] at skip
   exact k4 (k4 (skip rfl))
  | some j=>
   rw [e1] at skip
   dsimp only at skip ⊢
   have hj:=fU B.R hi e1
   have hne:(!decide (V.int (j:Int)=V.int (-1)))=true:=by
    rw [decide_eq_false (fun q=>by injection q with q;omega)]
    rfl
   rw [hne]
   refine k8 ⟨_,rfl,j5 (s1 _ _ hp) T.cl_Board T.nB_codes lc ⟨_,rfl,_,_,_,_,rfl,rfl,SqL.of (s1 _ _ hc),M0 B.R hi,_,rfl,_,_,rfl,_,d,rfl,rfl,_,rfl,?_⟩⟩
   refine t0 (fun m1=>?_) (fun m1=>k4 (skip (if_neg fun q=>m1 q.1)))
   refine ⟨_,rfl,j5 (s1 _ _ hp) T.cl_Board T.nB_codes lc ⟨_,rfl,_,_,_,_,rfl,rfl,SqL.of (s1 _ _ hc),M0 B.R hj,_,rfl,_,_,rfl,_,d,rfl,rfl,_,rfl,?_⟩⟩
   refine t0 (fun m2=>?_) (fun m2=>(skip (if_neg fun q=>m2 q.2)))
   obtain ⟨ts,h1,h2,h3⟩:=id x1
   refine ⟨_,rfl,.inl ⟨rfl,_,SqL.of h1⟩,_,rfl,_,rfl,(by show 2≤sizeLine;decide),fun t ht=>?_⟩
   have hlt:l≠t:=d8 h1 ht
   have h1':a8 H' t (.tup [nv d,nv j]) l=some (.lst (ts.map V.ref)):=by rw [a9 hlt];exact h1
   refine ⟨l,_,_,rfl,rfl,h1',?_,_,_,rfl,fun b o q=>?_,?_⟩
   ·rw [List.length_map,h2]
    exact Nat.lt_of_le_of_lt (xA L i d) (Nat.lt_of_lt_of_le hd (by decide))
   ·rw [a9 (d8 q hl),a9 (d8 (s1 _ _ q) ht)]
    exact s1 _ _ q
   ·have e2:B8 L i d=some j:=by
     unfold B8
     rw [if_neg z,e1]
     exact if_pos ⟨m1,m2⟩
    rw [rG,e2]
    refine x1.add (t:=t) (e:=(d,j)) ?_ (fun b o q hb=>?_) (fun ys q=>?_)
    ·rw [a9 (fun q=>hlt q.symm),c8]
    ·rw [a9 hb,a9 (d8 q ht)]
     exact q
    ·rw [c8]
     rw [h1] at q
     cases q
     rfl
 ·rintro σ H' ⟨v3,v4,rfl,s1,x1⟩
  exact ⟨_,rfl,k _ _ s1 hl x1⟩
def Ed (Cb:Addr):P2:=fun self x H Q=>∃p a L s,self=.ref p∧x=nv (c0 L s)∧Bs0 Cb H p a L∧Good L s∧∀H' l,Same H H'→H l=none→H' l=some (.lst ((A5 L s).map V.int))→Q (.ref l) H'
theorem in_levers {c:Nat}:D6 (nv c) (iv [6,7])=decide (c=6∨c=7):=by
 show (l6 (nv 6) (nv c) || (l6 (nv 7) (nv c) || false))=_
 rw [p0,p0,Bool.eq_iff_iff]
 simp
 omega
theorem kQ (l:List Int) (i:Nat) (v:Int):(l.map V.int).set i (.int v)=(l.set i v).map V.int:=by
 rw [List.map_set]
theorem oI {L:Level} {m:Nat} {es:List (Nat×Nat)} {i:Nat} {e:Nat×Nat} (h:es[i]?=some e) (l:List Int):(es.take (i+1)).foldl (F0 L m) l=F0 L m ((es.take i).foldl (F0 L m) l) e:=by
 rw [List.take_add_one,h,List.foldl_append]
 rfl
theorem gJ {L:Level} {m:Nat}:∀(es:List (Nat×Nat)) (l:List Int),(es.foldl (F0 L m) l).length=l.length
 | [],l=>rfl
 | e::es,l=>by
  rw [List.foldl_cons,gJ es]
  unfold F0
  split
  ·rfl
  ·rw [List.length_set]
theorem EV (T:i5 P w K mg Cb Cs):x9 P w K mg base Cb 5 "find_steps" ["self","spot"] (x4 (Ed Cb)):=by
 refine T.mB_find_steps.ok (N:=["self","spot","cell","marks","found","act","there","after"]) ⟨rfl,rfl,rfl,by rfl',rfl,by rfl',by rfl'⟩ (fun _ _ _ _=>l2) (fun vs H Q E h f cdv A outer s E' hr=>?_)
 obtain ⟨_,_,rfl,p,a,L,s0,rfl,rfl,B,g,k⟩:=h
 have nd:(["self","spot","cell","marks","found","act","there","after"]:List Str).Nodup:=by rfl'
 refine ⟨_,(d7 (j4 (i:=2) nd rfl (Or.inl rfl) (j6 aG (pv 1) (g9 (pv 0) rfl))) (d7 (j4 (i:=3) nd rfl (Or.inl rfl) (j6 jH (pv 1) (g9 (pv 0) rfl))) (d7 (j4 (i:=4) nd rfl (Or.inl rfl) (j6 Bx (l5 (c7 (i8 T.g_CANNOT) c9)) (i8 T.g_ACTS))) (d7 (B9 PassesOwn.never rfl (F2 (j8 p5 (g9 (pv 0) rfl) (pv 2) (fun _ _=>rfl))) (T2 rfl (J9 (n8 (i:=5) nd rfl (Or.inl rfl)) (J9 (n8 (i:=6) nd rfl (Or.inl rfl)) U0))) (d7 (j4 (i:=7) nd rfl (Or.inl rfl) (L6 (C8 (j8 p5 (g9 (pv 0) rfl) (pv 6) (fun _ _=>rfl))) (pv 3) (m9 (wJ T) hr (by decide) T.cl_Board (pv 0) (c7 (pv 6) (c7 (pv 3) c9))))) (f7 (m7 (u5 G8 (pv 7) (i8 T.g_CANNOT) (o8 _)) (f7 (eU (j6 Y4 (j6 gZ (pv 7) (g9 (pv 0) rfl)) (pv 6)) (iD (pv 4) (pv 5) eN))) m8)))) (d7 (m7 (u5 V7 (j8 p5 (g9 (pv 0) rfl) (pv 2) (fun _ _=>rfl)) (D3 T.g_LEVERS) rfl) (f7 (eU (j6 Y4 (j6 gZ (j6 AV (pv 3) (L3 (p7 hr) (g9 (pv 0) rfl) (j8 p5 (g9 (pv 0) rfl) (pv 2) (fun _ _=>rfl)) (fun _ _=>rfl))) (g9 (pv 0) rfl)) (pv 2)) (iD (pv 4) (i8 T.g_PULL) eN))) m8) (f7 (i0 (pv 4)))))))),?_⟩
 have hs:=B.R.size_pos
 have hs2:=B.R.size_le
 have emod:=N7 g
 have ediv:=W0 g
 refine ⟨_,rfl,_,rfl,B.f_size T ⟨_,_,rfl,rfl,(by show 0 < L.w*L.h;omega),?_⟩⟩
 dsimp only
 rw [emod]
 refine ⟨_,rfl,_,rfl,B.f_size T ⟨_,_,rfl,rfl,⟨by omega,by omega⟩,?_⟩⟩
 dsimp only
 rw [ediv]
 refine ⟨(by show 1≤sizeLine;decide),fun l0 hl0=>⟨l0,5,_,rfl,rfl,c8,by decide,by decide,(by show 5≤sizeLine;decide),fun l hl=>?_⟩⟩
 have hl':H l=none:=by
  have:l≠l0:=fun q=>by rw [q,c8] at hl;cases hl
  rw [a9 this] at hl
  exact hl
 have s1:Same H (a8 (a8 H l0 (.lst [V.int (-1)])) l (.lst (List.replicate (5:Int).toNat [V.int (-1)]).flatten)):=(Same.new hl0).trans (Same.new hl)
 have B1:=B.same s1
 obtain ⟨xs,e1,e2,e3⟩:=B1.ex
 obtain ⟨x,hx⟩:∃x,xs[s0.at_]?=some x:=⟨_,List.getElem?_eq_getElem (by rw [e2];exact g.lt)⟩
 obtain ⟨ts,t1,t2,t3⟩:=e3 _ _ hx
 have hxl:x≠l:=fun q=>by
  have hk:=B.ex
  obtain ⟨xs',e1',_,e3'⟩:=hk
  have h9:=s1 _ _ e1'
  rw [e1] at h9
  have h10:xs=xs':=jV (HO.lst.inj (Option.some.inj h9))
  subst h10
  obtain ⟨ts',t1',_,_⟩:=e3' _ _ hx
  exact d8 t1' hl' q
 refine ⟨_,rfl,B1.f_exits T ⟨_,rfl,_,_,_,_,rfl,rfl,SqL.of e1,l7 (by rw [List.getElem?_map,hx];rfl),x,rfl,⟨_,SqL.of t1⟩,K4 (xs:=ts.map V.ref) (fun i σ H'=>∃v5 v6 v7,σ=[some (.ref p),some (nv (c0 L s0)),some (nv s0.at_),some (nv s0.marks),some (.ref l),v5,v6,v7]∧Same H H'∧H' x=some (.lst (ts.map V.ref))∧
   (∀(j:Nat) (t:Addr) (e:Nat×Nat),ts[j]?=some t→(C2 L s0.at_)[j]?=some e→H' t=some (.tup [nv e.1,nv e.2]))∧H' l=some (.lst ((((C2 L s0.at_).take i).foldl (F0 L s0.marks) [-1,-1,-1,-1,-1]).map V.int)))
   ⟨none,none,none,rfl,s1,t1,t3,c8⟩ (fun i σ H' _ ⟨_,_,_,_,_,q,_⟩=>SqL.of q) ?_ ?_⟩⟩
 ·rintro i y σ H' hi ⟨v5,v6,v7,rfl,s2,q1,q2,q3⟩
  obtain ⟨t,ht,rfl⟩:∃t,ts[i]?=some t∧y=V.ref t:=by
   rw [List.getElem?_map] at hi
   cases q:ts[i]? with
   | none=>rw [q] at hi;cases hi
   | some t=>rw [q] at hi;exact ⟨t,rfl,(Option.some.inj hi).symm⟩
  have hil:i < ts.length:=(List.getElem?_eq_some_iff.mp ht).1
  obtain ⟨e,he⟩:∃e,(C2 L s0.at_)[i]?=some e:=⟨_,List.getElem?_eq_getElem (by omega)⟩
  obtain ⟨h4,hlt⟩:=sW B.R g.lt (List.mem_of_getElem? he)
  have htt:=q2 i t e ht he
  have B2:=B.same s2
  refine ⟨t,_,rfl,SqT.of htt,rfl,_,_,rfl,_,_,rfl,rfl,?_⟩
  have hfr:D8 (L.cells.map fun c=>V.bl (!M4 c)) ((e.2:Nat):Int)=some (V.bl (!M4 (r6 L e.2))):=by
   refine l7 ?_
   rw [List.getElem?_map,V6 (d:=0) (by rw [B.R.len];exact hlt)]
   rfl
  refine ⟨_,rfl,B2.f_is_free T ⟨_,rfl,_,_,_,_,rfl,rfl,SqL.of B2.fr,hfr,_,rfl,?_⟩⟩
  have hnl:∀{H'':Hp},Same H' H''→H'' l=some (.lst ((((C2 L s0.at_).take i).foldl (F0 L s0.marks) [-1,-1,-1,-1,-1]).map V.int)):=fun z=>z _ _ q3
  have go:∀(D:G7) H'' (o:Option Nat),Same H' H''→o=L0 L e.2 s0.marks→(∀H3,Same H H3→H3 x=some (.lst (ts.map V.ref))→(∀(j:Nat) (t:Addr) (e:Nat×Nat),ts[j]?=some t→(C2 L s0.at_)[j]?=some e→H3 t=some (.tup [nv e.1,nv e.2]))→
    H3 l=some (.lst ((((C2 L s0.at_).take (i+1)).foldl (F0 L s0.marks) [-1,-1,-1,-1,-1]).map V.int))→D.nx [some (.ref p),some (nv (c0 L s0)),some (nv s0.at_),some (nv s0.marks),some (.ref l),some (nv e.1),some (nv e.2),some (eW o)] H3)→
    pO (bD (F1 pB (z9 7) (tC (.int (-1))))) (bR (F1 (rN (fun _ _=>True) fun a b=>a+b) (F1 (rN (fun _ b=>b < 1000000) fun a b=>a*b) (z9 7) (iE K (z9 0) "size")) (z9 6)) (jD (z9 4) (z9 5) kK)) kR D
    [some (.ref p),some (nv (c0 L s0)),some (nv s0.at_),some (nv s0.marks),some (.ref l),some (nv e.1),some (nv e.2),some (eW o)] H'':=fun D H'' o z ho kk=>by
   have z1:=hnl z
   have B3:=B2.same z
   cases o with
   | none=>
    refine ⟨_,rfl,rfl,_,rfl,k4 (kk _ (s2.trans z) (z _ _ q1) (fun j t e a b=>z _ _ (q2 j t e a b)) ?_)⟩
    rw [oI he]
    unfold F0 R5
    rw [←ho]
    exact z1
   | some m'=>
    have hne:(!decide (nv m'=V.int (-1)))=true:=by
     rw [decide_eq_false (fun q=>by injection q with q;omega)]
     rfl
    refine ⟨_,rfl,rfl,_,rfl,?_⟩
    show if (!decide (nv m'=V.int (-1)))=true then _ else _
    rw [hne]
    refine k8 ⟨_,rfl,_,rfl,B3.f_size T ⟨_,_,rfl,rfl,by omega,_,rfl,_,_,rfl,rfl,trivial,_,rfl,_,rfl,l,_,_,e.1,rfl,rfl,z1,?_,kk _ (fun b o q=>?_) ?_ (fun j t e a b=>?_) ?_⟩⟩
    ·unfold J6
     rw [List.length_map,gJ]
     rw [if_pos (by omega),if_pos (by show ((e.1:Nat):Int) < ((5:Nat):Int);omega)]
     rfl
    ·rw [a9 (d8 q hl')]
     exact z _ _ (s2 _ _ q)
    ·rw [a9 hxl]
     exact z _ _ q1
    ·rw [a9 (f8 (z _ _ (q2 j t e a b)) z1 (by intro q;cases q))]
     exact z _ _ (q2 j t e a b)
    ·rw [c8,oI he]
     unfold F0 R5
     rw [←ho]
     show some (HO.lst (((((C2 L s0.at_).take i).foldl (F0 L s0.marks) [-1,-1,-1,-1,-1]).map V.int).set e.1 (nv (m'*(L.w*L.h)+e.2))))=_
     rw [kQ]
     rfl
  refine t0 (fun z=>⟨_,rfl,?_⟩) (fun z=>?_)
  ·have hf:M4 (r6 L e.2)=false:=by simpa using z
   exact go _ _ (some s0.marks) (Same.refl _) (yE hf).symm fun H3 a b c d=>⟨_,_,_,rfl,a,b,c,d⟩
  ·refine ⟨_,rfl,p,a.dx,_,rfl,B2.ins,o6 _ _ (by rfl'),_,rfl,_,rfl,_,_,_,rfl,p,a,L,e.2,s0.marks,rfl,rfl,rfl,B2,hlt,fun H'' z'=>?_⟩
   exact go _ _ _ z' rfl fun H3 a b c d=>⟨_,_,_,rfl,a,b,c,d⟩
 ·rintro σ H' ⟨v5,v6,v7,rfl,s2,q1,q2,q3⟩
  rw [List.length_map,t2,List.take_length] at q3
  have B2:=B.same s2
  refine ⟨_,rfl,B2.f_codes T ⟨_,rfl,_,_,_,_,rfl,rfl,SqL.of B2.codes,M0 B.R g.lt,fun tl htl=>⟨_,_,rfl,.inr (htl _),rfl,rfl,_,rfl,?_⟩⟩⟩
  have e5:=tP B.R (s:=s0)
  unfold dO at e5
  refine t0 (fun z=>?_) (fun z=>⟨_,rfl,?_⟩)
  ·have z:r6 L s0.at_=6∨r6 L s0.at_=7:=of_decide_eq_true (in_levers▸z)
   rw [if_pos z] at e5
   refine ⟨_,rfl,_,rfl,B2.f_lever_bits T ⟨_,rfl,B2.f_codes T ⟨_,rfl,_,_,_,_,rfl,rfl,SqL.of B2.codes,M0 B.R g.lt,_,_,rfl,G2 B2.lb (oX L (z.imp id .inl)),_,_,rfl,rfl,trivial,_,rfl,B2.f_size T ⟨_,_,rfl,rfl,by omega,_,rfl,_,_,rfl,rfl,trivial,_,rfl,l,_,_,4,rfl,rfl,q3,?_,_,rfl,?_⟩⟩⟩⟩
   ·unfold J6
    rw [List.length_map,gJ]
    rfl
   ·refine k _ l (fun b o q=>?_) hl' ?_
    ·rw [a9 (d8 q hl')]
     exact s2 _ _ q
    ·rw [c8,←e5]
     show some (HO.lst ((((C2 L s0.at_).foldl (F0 L s0.marks) [-1,-1,-1,-1,-1]).map V.int).set 4 (nv ((s0.marks ^^^ 2 ^ leverBit (boardOf L) (decide (r6 L s0.at_=7∨10≤r6 L s0.at_)))*(L.w*L.h)+s0.at_))))=_
     have e7:decide (r6 L s0.at_=7∨10≤r6 L s0.at_)=(r6 L s0.at_==7):=by
      rw [dH]
      exact decide_eq_decide.mpr ⟨fun q=>by omega,fun q=>by omega⟩
     rw [kQ,e7]
  ·have z:¬(r6 L s0.at_=6∨r6 L s0.at_=7):=fun q=>z (in_levers.trans (decide_eq_true q))
   rw [if_neg z] at e5
   rw [e5] at q3
   exact k _ l s2 hl' q3
def dX (Cb:Addr) (H:Hp) (p:Addr) (a:Ad) (L:Level) (s:Spot) (H':Hp) (l:Addr):Prop:=Bd Cb H' p a L∧But a.kd H H'∧H' l=some (.lst ((A5 L s).map V.int))∧(∀r,H r≠none→¬Kv H a.kd r→¬Kv H' a.kd r)∧Kv H' a.kd l
def yF (Cb:Addr):P2:=fun self x H Q=>∃p a L s,self=.ref p∧x=nv (c0 L s)∧Bd Cb H p a L∧Good L s∧∀H' l,dX Cb H p a L s H' l→Q (.ref l) H'
theorem Kn.put {L:Level} {H H':Hp} {kvs:List (d9×V)} {s:Spot} {l:Addr} (R:Rt L) (k:Kn L H kvs) (g:Good L s) (hn:i7 kvs (Sum.inl (c0 L s:Int))=none) (hs:∀l xs,H l=some (.lst xs)→H' l=some (.lst xs)) (hl:H' l=some (.lst ((A5 L s).map V.int))) :
  Kn L H' (j7 kvs (Sum.inl (c0 L s:Int)) (.ref l)):=by
 refine ⟨?_,fun key v e=>?_⟩
 ·obtain ⟨ns,h1,h2,h3⟩:=k.ks
  have hnot:=oK hn
  refine ⟨ns++[c0 L s],by rw [X1 _ hn,List.map_append,h1,List.map_append];rfl,fB h2 fun z=>hnot ?_,fun n hm=>?_⟩
  ·rw [h1]
   exact List.mem_map.mpr ⟨_,z,rfl⟩
  ·rcases List.mem_append.mp hm with z|z
   ·exact h3 n z
   ·simp at z
    rw [z]
    exact P9 R g
 ·rw [N8] at e
  by_cases z:key=Sum.inl (c0 L s:Int)
  ·rw [if_pos z] at e
   cases e
   exact ⟨s,l,z,g,rfl,hl⟩
  ·rw [if_neg z] at e
   obtain ⟨t,l',e1,gt,e2,e3⟩:=k.all key v e
   exact ⟨t,l',e1,gt,e2,hs _ _ e3⟩
theorem U7 (T:i5 P w K mg Cb Cs):x9 P w K mg base Cb 6 "steps" ["self","spot"] (x4 (yF Cb)):=by
 refine T.mB_steps.ok (N:=["self","spot"]) ⟨rfl,rfl,rfl,by rfl',rfl,by rfl',by rfl'⟩ (fun _ _ _ _=>l2) (fun vs H Q E h f cdv A outer s E' hr=>?_)
 obtain ⟨_,_,rfl,p,a,L,s0,rfl,rfl,B,g,k⟩:=h
 have nd:(["self","spot"]:List Str).Nodup:=by rfl'
 refine ⟨_,(d7 (m7 (K2 (bE (p7 hr) (pv 1) (g9 (pv 0) rfl)) rfl) (f7 (M9 (p7 hr) (g9 (pv 0) rfl) (pv 1) (m9 (EV T) hr (by decide) T.cl_Board (pv 0) (c7 (pv 1) c9)) rfl)) m8) (f7 (i0 (L3 (p7 hr) (g9 (pv 0) rfl) (pv 1) (fun _ _=>rfl))))),?_⟩
 obtain ⟨kvs,h1,h2⟩:=B.kn
 refine ⟨_,rfl,_,rfl,B.f_known_steps T ⟨_,_,rfl,DGet.k (k:=Sum.inl (c0 L s0:Int)) h1,_,rfl,?_⟩⟩
 cases e:i7 kvs (Sum.inl (c0 L s0:Int)) with
 | some v=>
  obtain ⟨l,rfl,hl⟩:=h2.at_ s0 v g e
  refine k4 ⟨_,rfl,B.f_known_steps T ⟨_,rfl,_,_,rfl,G2 h1 e,?_⟩⟩
  exact k _ _ ⟨B,fun b o q _=>q,hl,fun r _ q=>q,kvs,_,h1,e⟩
 | none=>
  refine k8 ⟨_,rfl,p,a.dx,_,rfl,B.ins,o6 _ _ (by rfl'),_,rfl,_,_,rfl,p,a,L,s0,rfl,rfl,B.toBs0,g,fun H1 l s1 hl hs=>?_⟩
  have B1:=B.same s1
  have h1':=s1 _ _ h1
  have hlk:l≠a.kd:=fun z=>by rw [z,h1] at hl;cases hl
  have hlen:=h2.len B.R
  have kn':Kn L (a8 H1 a.kd (.dK (j7 kvs (Sum.inl (c0 L s0:Int)) (.ref l)))) (j7 kvs (Sum.inl (c0 L s0:Int)) (.ref l)):=by
   refine Kn.put B.R h2 g e (fun l' xs z=>?_) ?_
   ·rw [a9 (f8 z h1 (by intro q;cases q))]
    exact s1 _ _ z
   ·rw [a9 hlk]
    exact hs
  have bt:But a.kd H (a8 H1 a.kd (.dK (j7 kvs (Sum.inl (c0 L s0:Int)) (.ref l)))):=fun b o q n=>by
   rw [a9 n]
   exact s1 _ _ q
  have B2:Bd Cb (a8 H1 a.kd (.dK (j7 kvs (Sum.inl (c0 L s0:Int)) (.ref l)))) p a L:=⟨B.toBs0.keep ⟨kvs,h1⟩ bt,_,c8,kn'⟩
  refine ⟨_,rfl,B1.f_known_steps T ⟨_,rfl,_,_,rfl,DPut.k (k:=Sum.inl (c0 L s0:Int)) h1' (Nat.lt_of_le_of_lt hlen (by decide)),?_⟩⟩
  refine ⟨_,rfl,B2.f_known_steps T ⟨_,rfl,_,_,rfl,G2 c8 (by rw [N8,if_pos rfl]),?_⟩⟩
  refine k _ _ ⟨B2,bt,by rw [a9 hlk];exact hs,fun r hr' q=>?_,_,_,c8,by rw [N8,if_pos rfl]⟩
  rintro ⟨kvs',key,z1,z2⟩
  rw [c8] at z1
  cases z1
  rw [N8] at z2
  by_cases z:key=Sum.inl (c0 L s0:Int)
  ·rw [if_pos z] at z2
   cases z2
   exact hr' hl
  ·rw [if_neg z] at z2
   exact q ⟨kvs,key,h1,z2⟩
theorem U8 {σ:L2.St} {H:Hp} {A B:Hp→Prop} (h:A H):N6 σ H (fun b H3=>if b=true then A H3 else B H3):=by
 show if true=true then A H else B H
 exact k8 h
def BD (Cb:Addr):P2:=fun self x H Q=>∃p a L m,self=.ref p∧x=nv m∧Bs0 Cb H p a L∧∀H' l,Same H H'→H l=none→H' l=some (.lst ((Vbrgae.marksRow (boardOf L) m).map V.int))→Q (.ref l) H'
def W5 (m:Nat):V→V
 | .int b=>.int (if Builtin.bitAnd (m:Int) b != 0 then 1 else 0)
 | _=>.non
theorem AX (L:Level) (R:Rt L) (m:Nat):((((iv [1,2,4,8,16,32,64,128]).take (nT L+2)).filter fun _=>true).map (W5 m))=(Vbrgae.marksRow (boardOf L) m).map V.int:=by
 have e:iv [1,2,4,8,16,32,64,128]=(List.range 8).map fun j=>nv (2 ^ j):=rfl
 have hn:=R.nT_le
 rw [List.filter_eq_self.mpr (fun _ _=>rfl),e,←List.map_take,List.take_range,Nat.min_eq_left (by omega)]
 unfold Vbrgae.marksRow
 rw [List.map_map,List.map_map]
 apply List.map_congr_left
 intro j _
 show V.int (if (Builtin.bitAnd (m:Int) ((2 ^ j:Nat):Int) != 0)=true then 1 else 0)=V.int (Vbrgae.bit (m.testBit j))
 rw [cM]
 rfl
theorem zJ (T:i5 P w K mg Cb Cs):x9 P w K mg base Cb 1 "mark_row" ["self","marks"] (x4 (BD Cb)):=by
 refine T.mB_mark_row.ok (N:=["self","marks","bit"]) ⟨rfl,rfl,rfl,by rfl',rfl,by rfl',by rfl'⟩ (fun _ _ _ _=>l2) (fun vs H Q E h f cdv A outer s E' hr=>?_)
 obtain ⟨_,_,rfl,p,a,L,m,rfl,rfl,B,k⟩:=h
 have nd:(["self","marks","bit"]:List Str).Nodup:=by rfl'
 refine ⟨_,(f7 (i0 (Q8 (own:=[("bit",2)]) (tt:=N6) (te:=dY (dQ K (F1 (F5 fun i j=>.int (Builtin.bitAnd i j)) (z9 1) (z9 2))) (tC (.int 1)) (tC (.int 0))) rfl nd (aA (eC (sl_tup.or Bn) (D3 T.g_BITS) CV (Y7 (j6 Y4 (A2 C1 (by rfl) T.b_len PySem.boot_len (c7 (g9 (pv 0) rfl) c9)) j0)))) (M3 (N:=["self","marks","bit"]) (sc:=k9 rE) (by rfl')) (by intro s H C cl fp;exact n8 (i:=2) nd rfl (Or.inl rfl)) (by intro s H C cl fp;exact Z6) (by intro s H C cl fp;exact L6 (Q7 (j6 R0 (pv 1) (pv 2)) (by intro _;rfl)) j0 j0)))),?_⟩
 intro g hg
 have hn:=B.R.nT_le
 have go:∀H1 b,Same H H1→SqT K H1 b ((iv [1,2,4,8,16,32,64,128]).take (nT L+2))→(∀H2,Same H1 H2→SqT K H2 b ((iv [1,2,4,8,16,32,64,128]).take (nT L+2)))→∀D,H1 D=none→∀H2,Same H1 H2→H2 D=some (.lst ((((iv [1,2,4,8,16,32,64,128]).take (nT L+2)).filter fun _=>true).map (W5 m)))→Q (.ref D) H2:=fun H1 b s1 h1 h2 D hD H2 s2 q=>by
  rw [AX L B.R] at q
  exact k _ D (s1.trans s2) (s1.free hD) q
 have turn:∀H1 x,x∈(iv [1,2,4,8,16,32,64,128]).take (nT L+2)→cF H1 (P6 2) N6 (dY (dQ K (F1 (F5 fun i j=>.int (Builtin.bitAnd i j)) (z9 1) (z9 2))) (tC (.int 1)) (tC (.int 0))) [2] [some (.ref p),some (nv m),none] (fun _=>true) (W5 m) x:=fun H1 x hx H2 C N s1 hc hn=>by
  obtain ⟨b,hb,rfl⟩:=List.mem_map.mp (List.mem_of_mem_take hx)
  refine ⟨rfl,U8 ⟨_,rfl,_,rfl,_,_,rfl,rfl,_,rfl,?_⟩⟩
  have q:C (.int (if (Builtin.bitAnd (m:Int) b != 0)=true then 1 else 0)) H2:=hc _ (Same.refl _) rfl
  refine t0 (fun z=>?_) (fun z=>?_)
  ·rw [if_pos z] at q
   exact q
  ·rw [if_neg z] at q
   exact q
 refine ⟨_,rfl,B.f_things T ⟨_,_,rfl,.inl (SqL.of B.things),_,2,rfl,rfl,trivial,_,rfl,?_⟩⟩
 rw [List.length_map]
 have e8:(iv [1,2,4,8,16,32,64,128]).length=8:=rfl
 by_cases h6:nT L=6
 ·refine .inr ⟨g,_,rfl,hg _,⟨rfl,?_⟩,_,rfl,⟨_,hg _⟩,fun D hD=>dI (fun _=>true) (W5 m) hD (fun H2 _=>?_) (Nat.lt_of_le_of_lt (List.length_take_le' _ _) (by rw [e8];decide)) (fun x hx=>turn H x hx) (fun H2 s2 q=>go H g (Same.refl _) ?_ (fun H2 _=>?_) D hD H2 s2 q)⟩
  ·show HT.sIx 8 8 (some (((thingsIn L.cells).length+2:Nat):Int))=8
   rw [HT.sIx_nat]
   show min (nT L+2) 8=8
   omega
  all_goals
   have:(iv [1,2,4,8,16,32,64,128]).take (nT L+2)=iv [1,2,4,8,16,32,64,128]:=List.take_of_length_le (by rw [e8];omega)
   rw [this]
   exact hg _
 ·have ec:J0 (iv [1,2,4,8,16,32,64,128]) none (some ((nT L+2:Nat):Int))=(iv [1,2,4,8,16,32,64,128]).take (nT L+2):=by
   unfold J0
   rw [HT.sIx_nat,HT.sIx_none,List.drop_zero,e8,Nat.min_eq_left (by omega),Nat.sub_zero]
  refine .inl ⟨g,_,rfl,hg _,fun z=>?_,fun b hb=>?_⟩
  ·have z2:HT.sIx 8 8 (some ((nT L+2:Nat):Int))=8:=z.2
   rw [HT.sIx_nat] at z2
   omega
  ·have eb:a8 H b (.tup (J0 (iv [1,2,4,8,16,32,64,128]) none (some (((thingsIn L.cells).length+2:Nat):Int)))) b=some (.tup ((iv [1,2,4,8,16,32,64,128]).take (nT L+2))):=by
    rw [c8]
    exact congrArg (fun z=>some (HO.tup z)) ec
   refine ⟨_,rfl,⟨_,SqT.of eb⟩,fun D hD=>dI (fun _=>true) (W5 m) hD (fun H2 s2=>SqT.of (s2 _ _ eb)) (Nat.lt_of_le_of_lt (List.length_take_le' _ _) (by rw [e8];decide)) (fun x hx=>turn _ x hx) (fun H2 s2 q=>go _ b (Same.new hb) (SqT.of eb) (fun H2 s2=>SqT.of (s2 _ _ eb)) D hD H2 s2 q)⟩
theorem yV {c:Nat}:D6 (nv c) (iv [4,5,12,13,14])=Vbrgae.isThing c:=by
 show (l6 (nv 4) (nv c) || (l6 (nv 5) (nv c) || (l6 (nv 12) (nv c) || (l6 (nv 13) (nv c) || (l6 (nv 14) (nv c) || false)))))=_
 rw [p0,p0,p0,p0,p0]
 unfold Vbrgae.isThing
 rw [Bool.eq_iff_iff]
 simp
 omega
def cH (K:PySem.W.Frag) (H:Hp) (ca:Addr) (cs:List Nat):Prop:=H ca=some (.lst (cs.map nv))∧cs.length≤200
theorem rJ {cs:List Nat} {i:Nat} (h:i < cs.length):D8 (cs.map nv) (i:Int)=some (nv (cs.getD i 0)):=by
 refine l7 ?_
 rw [List.getElem?_map,V6 (d:=0) h]
 rfl
theorem rX (cs:List Nat):(cs.map nv).all F8=true:=by
 rw [List.all_map,List.all_eq_true]
 intro x _
 rfl
def EF (K:PySem.W.Frag):P1:=fun x H Q=>∃ca cs,x=.ref ca∧cH K H ca cs∧∀H' l,Same H H'→H l=none→H' l=some (.lst ((thingsIn cs).map nv))→Q (.ref l) H'
def vO (cs:List Nat):V→Bool
 | .int i=>Vbrgae.isThing (cs.getD i.toNat 0)
 | _=>false
theorem kS (T:i5 P w K mg Cb Cs):k7 P w K mg base 1 "things_of" ["codes"] (sp1 (EF K)):=by
 refine T.d_things_of.ok (N:=["codes","cell"]) ⟨rfl,rfl,rfl,by rfl',rfl,by rfl',by rfl'⟩ (fun _ _ _ _=>l1) (fun vs H Q E h f cdv A outer s E' hr=>?_)
 obtain ⟨_,rfl,ca,cs,rfl,hc,k⟩:=h
 have nd:(["codes","cell"]:List Str).Nodup:=by rfl'
 refine ⟨_,(f7 (i0 (Q8 (own:=[("cell",1)]) (tt:=bD (F1 (cU K false) (F1 (nX K) (z9 0) (z9 1)) (iC K (iv [4,5,12,13,14])))) rfl nd (fE rfl T.b_range (c7 (A2 C1 (by rfl) T.b_len PySem.boot_len (c7 (pv 0) c9)) c9)) (M3 (N:=["codes","cell"]) (sc:=k9 mK) (by rfl')) (by intro s H C cl fp;exact n8 (i:=1) nd rfl (Or.inl rfl)) (by intro s H C cl fp;exact aV (u5 V7 (j8 p5 (pv 0) (pv 1) (fun _ _=>rfl)) (D3 T.g_THINGS) rfl)) (by intro s H C cl fp;exact pv 1)))),?_⟩
 obtain ⟨h1,h2⟩:=hc
 refine ⟨_,rfl,_,_,rfl,.inl (SqL.of h1),_,rfl,by omega,?_,?_⟩
 ·rw [List.length_map];omega
 intro D hD
 rw [List.length_map]
 refine DS (n:=cs.length) (vO cs) id hD (Nat.lt_of_le_of_lt h2 (by decide)) (fun i hi H1 C N s1 hc hn=>?_) (fun H' s1 hl=>k _ _ s1 hD ?_)
 ·refine ⟨rfl,_,rfl,_,rfl,_,_,_,_,rfl,rfl,SqL.of (s1 _ _ h1),rJ hi,fun g hg=>⟨_,_,rfl,.inr (hg _),rfl,rfl,_,rfl,?_⟩⟩
  show if D6 (nv (cs.getD i 0)) (iv [4,5,12,13,14])=true then _ else _
  rw [yV]
  exact t0 (fun z=>⟨_,rfl,hc _ (Same.refl _) z⟩) (fun z=>hn _ (Same.refl _) (Bool.eq_false_iff.mpr z))
 ·rw [hl,List.map_id,List.filter_map,gG]
  rfl
def EN (K:PySem.W.Frag):P1:=fun x H Q=>∃ca cs,x=.ref ca∧cH K H ca cs∧∀H',Same H H'→Q (.int (Vbrgae.fault cs)) H'
theorem uW (cs:List Nat):((cs.map fun n:Nat=>(n:Int)).count 2)=(cs.filter fun k=>k==2).length:=by
 rw [List.count_eq_countP,List.countP_map,List.countP_eq_length_filter]
 congr 1
 apply List.filter_congr
 intro n _
 show ((n:Int)==2)=(n==2)
 rw [Bool.eq_iff_iff]
 simp
 omega
theorem EY (cs:List Nat):D6 (V.int 3) (cs.map nv)=cs.contains 3:=by
 unfold D6
 rw [List.any_map,List.contains_eq_any_beq]
 congr 1
 funext n
 show l6 (nv n) (nv 3)=(3==n)
 rw [p0,Bool.eq_iff_iff]
 simp
 omega
theorem CA (T:i5 P w K mg Cb Cs):k7 P w K mg base 2 "refusal_of" ["codes"] (sp1 (EN K)):=by
 refine T.d_refusal_of.ok (N:=["codes"]) ⟨rfl,rfl,rfl,by rfl',rfl,by rfl',by rfl'⟩ (fun _ _ _ _=>l1) (fun vs H Q E h f cdv A outer s E' hr=>?_)
 obtain ⟨_,rfl,ca,cs,rfl,hc,k⟩:=h
 have nd:(["codes"]:List Str).Nodup:=by rfl'
 refine ⟨_,(d7 (m7 (jR (u5 G8 (F3 PySem.F.plainAttrs_list PySem.F.slot_list_count PySem.F.type_list_count uX (pv 0) (c7 (i8 T.g_START) c9)) j0 (o8 _)) (mJ (u5 mV (i8 T.g_STAIRS) (pv 0) rfl))).pt (f7 (i0 (i8 T.g_NO_START_OR_STAIRS))) m8) (d7 (m7 (u5 eZ (A2 C1 (by rfl) T.b_len PySem.boot_len (c7 (n9 (kS T) hr (by decide) (c7 (pv 0) c9)) c9)) (i8 T.g_MOST_THINGS) (o8 _)) (f7 (i0 (i8 T.g_TOO_MANY_THINGS))) m8) (f7 (i0 j0)))),?_⟩
 obtain ⟨h1,h2⟩:=id hc
 have e1:cs.map nv=(cs.map fun n:Nat=>(n:Int)).map V.int:=by rw [List.map_map];rfl
 have h1':H ca=some (.lst ((cs.map fun n:Nat=>(n:Int)).map V.int)):=by rw [←e1];exact h1
 refine ⟨_,rfl,.inl ⟨rfl,_,SqL.of h1⟩,_,_,2,rfl,rfl,SqL.of h1',rfl,_,rfl,?_⟩
 rw [uW]
 unfold Vbrgae.fault at k
 have bad:(cs.filter fun k=>k==2).length≠1∨cs.contains 3=false→Q (.int (-4)) H:=fun z=>by
  have:=k _ (Same.refl _)
  rw [if_pos z] at this
  exact this
 refine t0 (fun z=>k8 (bad (.inl fun q=>?_))) (fun z=>⟨_,rfl,_,_,rfl,.inl (SqL.of h1),rfl,rX cs,_,rfl,?_⟩)
 ·rw [q] at z
  exact absurd z (by decide)
 have hone:(cs.filter fun k=>k==2).length=1:=by
  apply Decidable.byContradiction
  intro q
  refine z ?_
  rw [decide_eq_false (fun y=>q (by injection y with y;omega))]
  rfl
 show if (!D6 (V.int 3) (cs.map nv))=true then _ else _
 rw [EY]
 refine t0 (fun z3=>bad (.inr (by simpa using z3))) (fun z3=>?_)
 refine ⟨_,rfl,_,rfl,ca,cs,rfl,hc,fun H' l s' hl hx=>⟨_,_,rfl,.inl (SqL.of hx),_,_,rfl,rfl,_,rfl,?_⟩⟩
 have hno:¬((cs.filter fun k=>k==2).length≠1∨cs.contains 3=false):=fun q=>by
  rcases q with q|q
  ·exact q hone
  ·rw [q] at z3
   exact z3 rfl
 have k:=k _ s'
 rw [if_neg hno] at k
 rw [List.length_map]
 unfold Vbrgae.THINGS at k
 refine t0 (fun z=>?_) (fun z=>?_)
 ·have z:=of_decide_eq_true z
  rw [if_pos (by omega)] at k
  exact k
 ·rw [if_neg (fun q=>z (decide_eq_true (by omega)))] at k
  exact k
def Au (K:PySem.W.Frag):P3:=fun x y z H Q=>∃ca cs i c,x=.ref ca∧y=nv i∧z=nv c∧cH K H ca cs∧i < cs.length∧∀H' l,Same H H'→H l=none→H' l=some (.lst ((cs.set i c).map nv))→Q (.ref l) H'
theorem nR (T:i5 P w K mg Cb Cs):k7 P w K mg base 1 "changed_codes" ["codes","cell","code"] (t7 (Au K)):=by
 refine T.d_changed_codes.ok (N:=["codes","cell","code","changed"]) ⟨rfl,rfl,rfl,by rfl',rfl,by rfl',by rfl'⟩ (fun _ _ _ _=>l3) (fun vs H Q E h f cdv A outer s E' hr=>?_)
 obtain ⟨_,_,_,rfl,ca,cs,i,c,rfl,rfl,rfl,hc,hi,k⟩:=h
 have nd:(["codes","cell","code","changed"]:List Str).Nodup:=by rfl'
 refine ⟨_,(d7 (j4 (i:=3) nd rfl (Or.inl rfl) (eR Cq (by rfl) T.b_list (by rfl') (c7 (pv 0) c9))) (d7 (eU (pv 2) (iD (pv 3) (pv 1) eN)) (f7 (i0 (pv 3))))),?_⟩
 obtain ⟨h1,h2⟩:=hc
 refine ⟨_,rfl,_,_,rfl,.inl (SqL.of h1),fun l hl=>?_⟩
 refine ⟨_,rfl,_,rfl,_,rfl,l,_,_,i,rfl,rfl,c8,?_,_,rfl,k _ l (fun b o q=>?_) hl ?_⟩
 ·unfold J6
  rw [List.length_map,if_pos (by omega),if_pos (by omega)]
  rfl
 ·rw [a9 (d8 q hl),a9 (d8 q hl)]
  exact q
 ·rw [c8,List.map_set]
def tS (K:PySem.W.Frag):P2:=fun x y H Q=>∃ca cs i,x=.ref ca∧y=nv i∧cH K H ca cs∧i < cs.length∧∀H' l,Same H H'→H l=none→H' l=some (.lst ((cs.set i (if cs.getD i 0=5 then 0 else 1)).map nv))→Q (.ref l) H'
theorem Bf (T:i5 P w K mg Cb Cs):k7 P w K mg base 2 "codes_without" ["codes","cell"] (x4 (tS K)):=by
 refine T.d_codes_without.ok (N:=["codes","cell"]) ⟨rfl,rfl,rfl,by rfl',rfl,by rfl',by rfl'⟩ (fun _ _ _ _=>l2) (fun vs H Q E h f cdv A outer s E' hr=>?_)
 obtain ⟨_,_,rfl,ca,cs,i,rfl,rfl,hc,hi,k⟩:=h
 have nd:(["codes","cell"]:List Str).Nodup:=by rfl'
 refine ⟨_,(f7 (i0 (n9 (nR T) hr (by decide) (c7 (pv 0) (c7 (pv 1) (c7 (L6 (u5 D4 (j8 p5 (pv 0) (pv 1) (fun _ _=>rfl)) (i8 T.g_LOCK) (o8 _)) (i8 T.g_WALL) (i8 T.g_FLOOR)) c9)))))),?_⟩
 refine ⟨_,rfl,_,rfl,_,rfl,_,rfl,_,_,_,_,rfl,rfl,SqL.of hc.1,rJ hi,rfl,_,rfl,?_⟩
 show if decide (nv (cs.getD i 0)=nv 5)=true then _ else _
 rw [V0]
 refine t0 (fun z=>⟨_,_,_,rfl,ca,cs,i,0,rfl,rfl,rfl,hc,hi,?_⟩) (fun z=>⟨_,_,_,rfl,ca,cs,i,1,rfl,rfl,rfl,hc,hi,?_⟩)
 ·rw [if_pos (of_decide_eq_true z)] at k
  exact k
 ·rw [if_neg (fun q=>z (decide_eq_true q))] at k
  exact k
theorem cY {j:Nat} (h:j < 8):D8 (iv [1,2,4,8,16,32,64,128]) (j:Int)=some (nv (2 ^ j)):=by
 match j,h with
 | 0,_=>rfl
 | 1,_=>rfl
 | 2,_=>rfl
 | 3,_=>rfl
 | 4,_=>rfl
 | 5,_=>rfl
 | 6,_=>rfl
 | 7,_=>rfl
def Y5 (i:Nat):List (d9×V):=(([4,5,12,13,14]:List Nat).take i).map fun (c:Nat)=>(Sum.inl (c:Int),nv 0)
theorem Co {i:Nat} {x:V} (h:(iv [4,5,12,13,14])[i]?=some x):∃k:Int,x=.int k∧j7 (Y5 i) (Sum.inl k) (V.int 0)=Y5 (i+1)∧i < 5:=by
 have hi:i < 5:=(List.getElem?_eq_some_iff.mp h).1
 match i,hi,h with
 | 0,_,h=>cases h;exact ⟨4,rfl,rfl,by decide⟩
 | 1,_,h=>cases h;exact ⟨5,rfl,rfl,by decide⟩
 | 2,_,h=>cases h;exact ⟨12,rfl,rfl,by decide⟩
 | 3,_,h=>cases h;exact ⟨13,rfl,rfl,by decide⟩
 | 4,_,h=>cases h;exact ⟨14,rfl,rfl,by decide⟩
def N1 (L:Level) (i:Nat):List (d9×V):=([4,5,12,13,14]:List Nat).map fun (c:Nat)=>(Sum.inl (c:Int),nv (val (((thingsIn L.cells).take i).map fun j=>Vbrgae.codeAt L j==c)))
theorem Ef (l:List Nat) (f:Nat→V) (c:Nat) (v:V) (h:c∈l):j7 (l.map fun (c:Nat)=>((Sum.inl (c:Int):d9),f c)) (Sum.inl (c:Int)) v=l.map fun (c':Nat)=>((Sum.inl (c':Int):d9),if c'=c then v else f c'):=by
 unfold j7
 rw [if_pos,List.map_map]
 ·apply List.map_congr_left
  intro c' _
  show (if (Sum.inl (c':Int):d9)=Sum.inl (c:Int) then ((Sum.inl (c':Int):d9),v) else (Sum.inl (c':Int),f c'))=_
  by_cases e:c'=c
  ·subst e;rw [if_pos rfl,if_pos rfl]
  ·rw [if_neg (fun z=>e (by have:=Sum.inl.inj z;omega)),if_neg e]
 ·rw [List.any_eq_true]
  exact ⟨_,List.mem_map.mpr ⟨c,h,rfl⟩,by simp⟩
theorem sJ (l:List Nat) (f:Nat→V) (c:Nat) (h:c∈l):i7 (l.map fun (c:Nat)=>((Sum.inl (c:Int):d9),f c)) (Sum.inl (c:Int))=some (f c):=by
 induction l with
 | nil=>simp at h
 | cons x l ih=>
  rw [List.map_cons]
  by_cases e:x=c
  ·subst e;rw [D9 rfl]
  ·rw [A9 (by intro z;exact e (by have:=Sum.inl.inj z;omega)),ih ((List.mem_cons.mp h).resolve_left fun z=>e z.symm)]
theorem lA {c:Nat} (h:Vbrgae.isThing c=true):c∈([4,5,12,13,14]:List Nat):=by
 unfold Vbrgae.isThing at h
 simp at h ⊢
 exact h
theorem BS {L:Level} {i j:Nat} (h:(thingsIn L.cells)[i]?=some j) (hc:Vbrgae.isThing (Vbrgae.codeAt L j)=true) :
  j7 (N1 L i) (Sum.inl ((Vbrgae.codeAt L j:Nat):Int)) (nv (val (((thingsIn L.cells).take i).map fun j'=>Vbrgae.codeAt L j'==Vbrgae.codeAt L j)+2 ^ i))=N1 L (i+1):=by
 have hi:i < (thingsIn L.cells).length:=(List.getElem?_eq_some_iff.mp h).1
 unfold N1
 rw [Ef _ _ _ _ (lA hc)]
 apply List.map_congr_left
 intro c _
 rw [List.take_add_one,h]
 show _=((Sum.inl (c:Int):d9),nv (val (((thingsIn L.cells).take i++[j]).map fun j=>Vbrgae.codeAt L j==c)))
 rw [List.map_append,List.map_cons,List.map_nil,jE,List.length_map,List.length_take,Nat.min_eq_left (Nat.le_of_lt hi)]
 by_cases e:c=Vbrgae.codeAt L j
 ·subst e
  rw [if_pos rfl,beq_self_eq_true]
  show _=((Sum.inl _:d9),nv (_+1*2 ^ i))
  rw [Nat.one_mul]
 ·rw [if_neg e,beq_eq_false_iff_ne.mpr (Ne.symm e)]
  show _=((Sum.inl _:d9),nv (_+0*2 ^ i))
  rw [Nat.zero_mul,Nat.add_zero]
theorem Ai {L:Level} {i j:Nat} (h:(thingsIn L.cells)[i]?=some j):j7 ((D5 L).take i) (Sum.inl (j:Int)) (nv (2 ^ i))=(D5 L).take (i+1):=by
 have e:(D5 L)[i]?=some (Sum.inl (j:Int),nv (2 ^ i)):=by
  unfold D5
  rw [List.getElem?_map,List.getElem?_zipIdx,h]
  simp
 have hn:i7 ((D5 L).take i) (Sum.inl (j:Int))=none:=by
  cases q:i7 ((D5 L).take i) (Sum.inl (j:Int)) with
  | none=>rfl
  | some v=>
   have hm:=hU q
   rw [List.map_take] at hm
   unfold D5 at hm
   rw [List.map_map] at hm
   obtain ⟨m,hm1,hm2⟩:=List.mem_take_iff_getElem.mp hm
   rw [List.getElem_map,List.getElem_zipIdx] at hm2
   have hml:m < (thingsIn L.cells).length:=by
    rw [List.length_map,List.length_zipIdx] at hm1
    omega
   have hj:(thingsIn L.cells)[m]'hml=j:=by
    have:=Sum.inl.inj hm2
    exact Int.ofNat.inj this
   obtain ⟨a1,e1⟩:=List.getElem?_eq_some_iff.mp h
   have:=(List.getElem_inj (DA L.cells)).mp (hj.trans e1.symm)
   omega
 rw [X1 _ hn,List.take_add_one,e]
 rfl
structure Sb (Cb:Addr) (H:Hp) (p:Addr) (L:Level) (dx ca tg tb cb:Addr) (fs:List (Str×V)):Prop where
 R:Rt L
 ins:H p=some (.ins Cb dx fs)
 lt:fs.lookup ("thing_bits":Str)=some (.ref tb)
 lc:fs.lookup ("code_bits":Str)=some (.ref cb)
 lg:fs.lookup ("things":Str)=some (.ref tg)
 ld:fs.lookup ("codes":Str)=some (.ref ca)
 codes:H ca=some (.lst (o7 L))
 things:H tg=some (.lst ((thingsIn L.cells).map nv))
 ne:tb≠cb
def cQ (d e:Addr) (H H':Hp):Prop:=∀b o,H b=some o→b≠d→b≠e→H' b=some o
theorem Sb.keep {H H':Hp} {p dx ca tg tb cb:Addr} {L:Level} {fs:List (Str×V)} {k1 k2:List (d9×V)} (S:Sb Cb H p L dx ca tg tb cb fs) (h1:H tb=some (.dK k1)) (h2:H cb=some (.dK k2)) (h:cQ tb cb H H'):Sb Cb H' p L dx ca tg tb cb fs:=
 ⟨S.R,h _ _ S.ins (f8 S.ins h1 (by intro z;cases z)) (f8 S.ins h2 (by intro z;cases z)),S.lt,S.lc,S.lg,S.ld,h _ _ S.codes (f8 S.codes h1 (by intro z;cases z)) (f8 S.codes h2 (by intro z;cases z)),h _ _ S.things (f8 S.things h1 (by intro z;cases z)) (f8 S.things h2 (by intro z;cases z)),S.ne⟩
def sF (Cb:Addr):P1:=fun self H Q=>∃p L dx ca tg tb cb fs,self=.ref p∧Sb Cb H p L dx ca tg tb cb fs∧H tb=some (.dK [])∧H cb=some (.dK [])∧∀H',cQ tb cb H H'→H' tb=some (.dK (D5 L))→H' cb=some (.dK (cV L))→Q .non H'
theorem tD (T:i5 P w K mg Cb Cs):x9 P w K mg base Cb 1 "set_thing_bits" ["self"] (sp1 (sF Cb)):=by
 refine T.mB_set_thing_bits.ok (N:=["self","code","number","cell"]) ⟨rfl,rfl,rfl,by rfl',rfl,by rfl',by rfl'⟩ (fun _ _ _ _=>l1) (fun vs H Q E h f cdv A outer s E' hr=>?_)
 obtain ⟨_,rfl,p,L,dx,ca,tg,tb,cb,fs,rfl,S,h1,h2,k⟩:=h
 have nd:(["self","code","number","cell"]:List Str).Nodup:=by rfl'
 refine ⟨_,(d7 (B9 PassesOwn.never rfl (aA (D3 T.g_THINGS)) (n8 (i:=1) nd rfl (Or.inl rfl)) (f7 (M9 (p7 hr) (g9 (pv 0) rfl) (pv 1) j0 rfl))) (f7 (B9 PassesOwn.never rfl (mH rfl T.b_enumerate (c7 (g9 (pv 0) rfl) c9)) (T2 rfl (J9 (n8 (i:=2) nd rfl (Or.inl rfl)) (J9 (n8 (i:=3) nd rfl (Or.inl rfl)) U0))) (d7 (M9 (p7 hr) (g9 (pv 0) rfl) (pv 3) (j8 y4 (D3 T.g_BITS) (pv 2) (fun _ _=>rfl)) rfl) (f7 (vC (p7 hr) (g9 (pv 0) rfl) (j8 p5 (g9 (pv 0) rfl) (pv 3) (fun _ _=>rfl)) (j8 y4 (D3 T.g_BITS) (pv 2) (fun _ _=>rfl)) Ar (fun _ _ _=>rfl))))))),?_⟩
 intro g hg
 have hlen:(thingsIn L.cells).length≤6:=S.R.nT_le
 refine ⟨_,rfl,⟨_,hg _⟩,aX (xs:=iv [4,5,12,13,14]) (fun i σ H'=>∃v1,σ=[some (.ref p),v1,none,none]∧cQ tb cb H H'∧H' tb=some (.dK [])∧H' cb=some (.dK (Y5 i))) ⟨none,rfl,fun b o q _ _=>q,h1,h2⟩ (fun i σ H' _ _=>hg _) ?_ ?_⟩
 ·rintro i x σ H' hi ⟨v1,rfl,s1,q1,q2⟩
  obtain ⟨c,rfl,e1,e2⟩:=Co hi
  have S1:=S.keep h1 h2 s1
  refine ⟨_,rfl,j5 S1.ins T.cl_Board T.nB_code_bits S1.lc ⟨_,rfl,_,_,rfl,DPut.k (k:=Sum.inl c) q2 ?_,_,rfl,fun b o q n1 n2=>?_,?_,?_⟩⟩
  ·unfold Y5
   rw [List.length_map]
   exact Nat.lt_of_le_of_lt (List.length_take_le _ _) (Nat.lt_of_lt_of_le e2 (by decide))
  ·rw [a9 n2]
   exact s1 _ _ q n1 n2
  ·rw [a9 S.ne]
   exact q1
  ·rw [c8,e1]
 ·rintro σ H1 ⟨v1,rfl,s1,q1,q2⟩
  have S1:=S.keep h1 h2 s1
  have z5:Y5 (iv [4,5,12,13,14]).length=N1 L 0:=rfl
  rw [z5] at q2
  refine ⟨_,rfl,j5 S1.ins T.cl_Board T.nB_things S1.lg ⟨_,_,rfl,SqL.of S1.things,mX (xs:=(thingsIn L.cells).map nv) (fun i σ H'=>∃v2 v3,σ=[some (.ref p),v1,v2,v3]∧cQ tb cb H H'∧H' tb=some (.dK ((D5 L).take i))∧H' cb=some (.dK (N1 L i))) ⟨none,none,rfl,s1,q1,q2⟩ (fun i σ H' _ ⟨_,_,_,s2,_⟩=>SqL.of (S.keep h1 h2 s2).things) ?_ ?_⟩⟩
  ·rintro i x t σ H' hi ⟨v2,v3,rfl,s2,r1,r2⟩ ht
   obtain ⟨j,hj,rfl⟩:∃j,(thingsIn L.cells)[i]?=some j∧x=nv j:=by
    rw [List.getElem?_map] at hi
    cases q:(thingsIn L.cells)[i]? with
    | none=>rw [q] at hi;cases hi
    | some t=>rw [q] at hi;exact ⟨t,rfl,(Option.some.inj hi).symm⟩
   have hil:i < (thingsIn L.cells).length:=(List.getElem?_eq_some_iff.mp hj).1
   obtain ⟨hjl,hjt⟩:=things_mem.mp (List.mem_of_getElem? hj)
   have S2:=S.keep h1 h2 s2
   have s3:Same H' (a8 H' t (.tup [nv i,nv j])):=Same.new ht
   have i3:=s3 _ _ S2.ins
   have r1':=s3 _ _ r1
   have r2':=s3 _ _ r2
   refine ⟨_,_,rfl,SqT.of c8,rfl,_,_,rfl,_,_,rfl,rfl,?_⟩
   refine fun g2 hg2=>⟨_,rfl,_,_,_,_,rfl,rfl,hg2 _,cY (by omega),_,rfl,j5 i3 T.cl_Board T.nB_thing_bits S2.lt ⟨_,rfl,_,_,rfl,DPut.k (k:=Sum.inl (j:Int)) r1' ?_,?_⟩⟩
   ·rw [List.length_take]
    exact Nat.lt_of_le_of_lt (Nat.min_le_left _ _) (Nat.lt_of_lt_of_le hil (Nat.le_trans hlen (by decide)))
   rw [Ai hj]
   have hpt:p≠tb:=f8 S2.ins r1 (by intro z;cases z)
   have hct:ca≠tb:=f8 S2.codes r1 (by intro z;cases z)
   have i4:a8 (a8 H' t (.tup [nv i,nv j])) tb (.dK ((D5 L).take (i+1))) p=some (.ins Cb dx fs):=by rw [a9 hpt];exact i3
   have c4:a8 (a8 H' t (.tup [nv i,nv j])) tb (.dK ((D5 L).take (i+1))) ca=some (.lst (o7 L)):=by rw [a9 hct];exact s3 _ _ S2.codes
   have r4:a8 (a8 H' t (.tup [nv i,nv j])) tb (.dK ((D5 L).take (i+1))) cb=some (.dK (N1 L i)):=by rw [a9 S.ne.symm];exact r2'
   have hjl':j < L.w*L.h:=by rw [←S.R.len];exact hjl
   refine ⟨_,rfl,j5 i4 T.cl_Board T.nB_code_bits S2.lc ⟨_,rfl,j5 i4 T.cl_Board T.nB_codes S2.ld ⟨_,rfl,_,_,_,_,rfl,rfl,SqL.of c4,M0 S.R hjl',_,_,rfl,G2 r4 (sJ _ _ _ (lA hjt)),fun g3 hg3=>⟨_,rfl,_,_,_,_,rfl,rfl,hg3 _,cY (by omega),_,_,rfl,rfl,_,DPut.k (k:=Sum.inl ((Vbrgae.codeAt L j:Nat):Int)) r4 (by show 5 < sizeLine;decide),?_⟩⟩⟩⟩
   have e9:j7 (N1 L i) (Sum.inl ((Vbrgae.codeAt L j:Nat):Int)) (V.int (((val (((thingsIn L.cells).take i).map fun j'=>Vbrgae.codeAt L j'==Vbrgae.codeAt L j):Nat):Int)+((2 ^ i:Nat):Int)))=N1 L (i+1):=by
    rw [←Int.natCast_add]
    exact BS hj hjt
   refine ⟨_,_,rfl,fun b o q n1 n2=>?_,?_,?_⟩
   ·rw [a9 n2,a9 n1]
    exact s3 _ _ (s2 _ _ q n1 n2)
   ·rw [a9 S.ne,c8]
   ·rw [c8,←e9]
  ·rintro σ H' ⟨v2,v3,rfl,s2,r1,r2⟩
   rw [List.length_map] at r1 r2
   refine k _ s2 ?_ ?_
   ·rw [r1,List.take_of_length_le]
    unfold D5
    rw [List.length_map,List.length_zipIdx]
    exact Nat.le_refl _
   ·rw [r2]
    unfold N1 cV K5
    rw [List.take_length]
structure Sl (Cb:Addr) (H:Hp) (p:Addr) (L:Level) (dx tg lb:Addr) (fs:List (Str×V)):Prop where
 R:Rt L
 ins:H p=some (.ins Cb dx fs)
 ll:fs.lookup ("lever_bits":Str)=some (.ref lb)
 lg:fs.lookup ("things":Str)=some (.ref tg)
 things:H tg=some (.lst ((thingsIn L.cells).map nv))
theorem Sl.keep {H H':Hp} {p dx tg lb:Addr} {L:Level} {fs:List (Str×V)} {k1:List (d9×V)} (S:Sl Cb H p L dx tg lb fs) (h1:H lb=some (.dK k1)) (h:But lb H H'):Sl Cb H' p L dx tg lb fs:=
 ⟨S.R,h _ _ S.ins (f8 S.ins h1 (by intro z;cases z)),S.ll,S.lg,h _ _ S.things (f8 S.things h1 (by intro z;cases z))⟩
def T8 (L:Level) (i:Nat):List (d9×V):=(([6,8,9]:List Nat).take i).map fun (c:Nat)=>(Sum.inl (c:Int),nv (2 ^ nT L))
def cI (L:Level) (i:Nat):List (d9×V):=T8 L 3++(([7,10,11]:List Nat).take i).map fun (c:Nat)=>(Sum.inl (c:Int),nv (2 ^ (nT L+1)))
theorem BK (L:Level) {i:Nat} {x:V} (h:([V.int 6,V.int 8,V.int 9]:List V)[i]?=some x):∃k:Int,x=.int k∧j7 (T8 L i) (Sum.inl k) (nv (2 ^ nT L))=T8 L (i+1)∧i < 3:=by
 have hi:i < 3:=(List.getElem?_eq_some_iff.mp h).1
 match i,hi,h with
 | 0,_,h=>cases h;exact ⟨6,rfl,rfl,by decide⟩
 | 1,_,h=>cases h;exact ⟨8,rfl,rfl,by decide⟩
 | 2,_,h=>cases h;exact ⟨9,rfl,rfl,by decide⟩
theorem zV (L:Level) {i:Nat} {x:V} (h:([V.int 7,V.int 10,V.int 11]:List V)[i]?=some x):∃k:Int,x=.int k∧j7 (cI L i) (Sum.inl k) (nv (2 ^ (nT L+1)))=cI L (i+1)∧i < 3:=by
 have hi:i < 3:=(List.getElem?_eq_some_iff.mp h).1
 match i,hi,h with
 | 0,_,h=>cases h;exact ⟨7,rfl,rfl,by decide⟩
 | 1,_,h=>cases h;exact ⟨10,rfl,rfl,by decide⟩
 | 2,_,h=>cases h;exact ⟨11,rfl,rfl,by decide⟩
def vD (Cb:Addr):P1:=fun self H Q=>∃p L dx tg lb fs,self=.ref p∧Sl Cb H p L dx tg lb fs∧H lb=some (.dK [])∧∀H',But lb H H'→H' lb=some (.dK (eI L))→Q .non H'
theorem Dq (T:i5 P w K mg Cb Cs):x9 P w K mg base Cb 1 "set_lever_bits" ["self"] (sp1 (vD Cb)):=by
 refine T.mB_set_lever_bits.ok (N:=["self","code"]) ⟨rfl,rfl,rfl,by rfl',rfl,by rfl',by rfl'⟩ (fun _ _ _ _=>l1) (fun vs H Q E h f cdv A outer s E' hr=>?_)
 obtain ⟨_,rfl,p,L,dx,tg,lb,fs,rfl,S,h1,k⟩:=h
 have nd:(["self","code"]:List Str).Nodup:=by rfl'
 refine ⟨_,(d7 (B9 PassesOwn.never rfl (aA (N9 (c7 (i8 T.g_LEVER_A) (c7 (i8 T.g_GATE_A_ON) (c7 (i8 T.g_GATE_A_OFF) c9))))) (n8 (i:=1) nd rfl (Or.inl rfl)) (f7 (M9 (p7 hr) (g9 (pv 0) rfl) (pv 1) (j8 y4 (D3 T.g_BITS) (A2 C1 (by rfl) T.b_len PySem.boot_len (c7 (g9 (pv 0) rfl) c9)) (fun _ _=>rfl)) rfl))) (f7 (B9 PassesOwn.never rfl (aA (N9 (c7 (i8 T.g_LEVER_B) (c7 (i8 T.g_GATE_B_ON) (c7 (i8 T.g_GATE_B_OFF) c9))))) (n8 (i:=1) nd rfl (Or.inl rfl)) (f7 (M9 (p7 hr) (g9 (pv 0) rfl) (pv 1) (j8 y4 (D3 T.g_BITS) (j6 Y4 (A2 C1 (by rfl) T.b_len PySem.boot_len (c7 (g9 (pv 0) rfl) c9)) j0) (fun _ _=>rfl)) rfl))))),?_⟩
 have hlen:(thingsIn L.cells).length≤6:=S.R.nT_le
 refine ⟨(by show 3≤sizeLine;decide),fun t ht=>?_⟩
 have s0:Same H (a8 H t (.tup [V.int 6,V.int 8,V.int 9])):=Same.new ht
 have ntl:t≠lb:=fun z=>by rw [z,h1] at ht;cases ht
 refine ⟨_,rfl,⟨_,SqT.of c8⟩,aX (xs:=[V.int 6,V.int 8,V.int 9]) (fun i σ H'=>∃v1,σ=[some (.ref p),v1]∧But lb H H'∧H' t=some (.tup [V.int 6,V.int 8,V.int 9])∧H' lb=some (.dK (T8 L i))) ⟨none,rfl,Same.but s0,c8,s0 _ _ h1⟩ (fun i σ H' _ ⟨_,_,_,q,_⟩=>SqT.of q) ?_ ?_⟩
 ·rintro i x σ H' hi ⟨v1,rfl,s1,q0,q1⟩
  obtain ⟨c,rfl,e1,e2⟩:=BK L hi
  have S1:=S.keep h1 s1
  refine fun g hg=>⟨_,rfl,j5 S1.ins T.cl_Board T.nB_things S1.lg ⟨_,_,rfl,.inl (SqL.of S1.things),_,_,_,_,rfl,rfl,hg _,cY (by rw [List.length_map];omega),_,rfl,j5 S1.ins T.cl_Board T.nB_lever_bits S1.ll ⟨_,rfl,_,_,rfl,DPut.k (k:=Sum.inl c) q1 ?_,_,rfl,fun b o q n=>?_,?_,?_⟩⟩⟩
  ·unfold T8
   rw [List.length_map]
   exact Nat.lt_of_le_of_lt (List.length_take_le _ _) (Nat.lt_of_lt_of_le e2 (by decide))
  ·rw [a9 n]
   exact s1 _ _ q n
  ·rw [a9 ntl]
   exact q0
  ·rw [c8,List.length_map]
   exact congrArg (fun z=>some (HO.dK z)) e1
 ·rintro σ H1 ⟨v1,rfl,s1,q0,q1⟩
  have S1:=S.keep h1 s1
  refine ⟨(by show 3≤sizeLine;decide),fun t2 ht2=>?_⟩
  have s2:Same H1 (a8 H1 t2 (.tup [V.int 7,V.int 10,V.int 11])):=Same.new ht2
  have ntl2:t2≠lb:=fun z=>by rw [z,q1] at ht2;cases ht2
  refine ⟨_,rfl,⟨_,SqT.of c8⟩,aX (xs:=[V.int 7,V.int 10,V.int 11]) (fun i σ H'=>∃v1,σ=[some (.ref p),v1]∧But lb H H'∧H' t2=some (.tup [V.int 7,V.int 10,V.int 11])∧H' lb=some (.dK (cI L i))) ⟨_,rfl,s1.same s2,c8,s2 _ _ q1⟩ (fun i σ H' _ ⟨_,_,_,q,_⟩=>SqT.of q) ?_ ?_⟩
  ·rintro i x σ H' hi ⟨v1,rfl,s3,q2,q3⟩
   obtain ⟨c,rfl,e1,e2⟩:=zV L hi
   have S3:=S.keep h1 s3
   refine fun g hg=>⟨_,rfl,j5 S3.ins T.cl_Board T.nB_things S3.lg ⟨_,_,rfl,.inl (SqL.of S3.things),_,1,rfl,rfl,trivial,_,_,_,_,rfl,rfl,hg _,cY (by rw [List.length_map];show (thingsIn L.cells).length+1 < 8;omega),_,rfl,j5 S3.ins T.cl_Board T.nB_lever_bits S3.ll ⟨_,rfl,_,_,rfl,DPut.k (k:=Sum.inl c) q3 ?_,_,rfl,fun b o q n=>?_,?_,?_⟩⟩⟩
   ·unfold cI T8
    rw [List.length_append,List.length_map,List.length_map]
    exact Nat.lt_of_le_of_lt (Nat.add_le_add (List.length_take_le _ _) (List.length_take_le _ _)) (Nat.lt_of_lt_of_le (Nat.add_lt_add_left e2 3) (by decide))
   ·rw [a9 n]
    exact s3 _ _ q n
   ·rw [a9 ntl2]
    exact q2
   ·rw [c8,List.length_map]
    exact congrArg (fun z=>some (HO.dK z)) e1
  ·rintro σ H2 ⟨v2,rfl,s3,q2,q3⟩
   exact k _ s3 q3
theorem F4 {f:Str} {v:V}:∀{fs:List (Str×V)} (ks:List Str),fs.map (·.1)=ks→ks.all (fun b=>!(b==f))=true→l9 f v fs=fs++[(f,v)]
 | [],ks,_,_=>rfl
 | (g,x)::r,ks,hk,h=>by
  subst hk
  rw [List.map_cons,List.all_cons,Bool.and_eq_true] at h
  have hg:¬g=f:=by simpa using h.1
  show (if g=f then (g,v)::r else (g,x)::l9 f v r)=_
  rw [if_neg hg,F4 _ rfl h.2]
  rfl
def qU:V→V
 | .int c=>.bl (!M4 c.toNat)
 | _=>.non
theorem Ao {c:Nat}:D6 (nv c) (iv [4,5,8,9,10,11,12,13,14,15,16,17])=M4 c:=by
 show (l6 (nv 4) (nv c) || (l6 (nv 5) (nv c) || (l6 (nv 8) (nv c) || (l6 (nv 9) (nv c) || (l6 (nv 10) (nv c) || (l6 (nv 11) (nv c) || (l6 (nv 12) (nv c) || (l6 (nv 13) (nv c) || (l6 (nv 14) (nv c) || (l6 (nv 15) (nv c) || (l6 (nv 16) (nv c) || (l6 (nv 17) (nv c) || false))))))))))))=_
 rw [p0,p0,p0,p0,p0,p0,p0,p0,p0,p0,p0,p0]
 iterate 18
  rcases c with _|c
  ·rfl
 rfl
def BL (L:Level) (H0 H:Hp) (l:Addr) (i:Nat):Prop:=∃xs:List Addr,H l=some (.lst (xs.map V.ref))∧xs.length=i∧∀(j:Nat) (x:Addr),xs[j]?=some x→ExAt H x (C2 L j)∧x≠l∧H0 x=none
theorem ExAt.sameN {H H':Hp} {x l:Addr} {es:List (Nat×Nat)} (e:ExAt H x es) (hx:x≠l) (hl:∃ys,H l=some (.lst ys)) (h:∀b o,H b=some o→b≠l→H' b=some o):ExAt H' x es:=by
 obtain ⟨ys,hl⟩:=hl
 obtain ⟨ts,h1,h2,h3⟩:=e
 exact ⟨ts,h _ _ h1 hx,h2,fun j t e a b=>h _ _ (h3 j t e a b) (f8 (h3 j t e a b) hl (by intro z;cases z))⟩
def Eh (Cb:Addr):P4:=fun self x y z H Q=>∃p dx L ca,self=.ref p∧x=nv L.w∧y=nv L.h∧z=.ref ca∧Rt L∧H p=some (.ins Cb dx [])∧H ca=some (.lst (o7 L))∧
 ∀H' a,Bd Cb H' p a L→But p H H'→H a.kd=none→a.ca=ca→(∀r,H r≠none→r≠p→r≠a.tg∧r≠a.ex∧r≠a.fr∧(∀xs,H' a.ex=some (.lst xs)→V.ref r∉xs)∧¬Kv H' a.kd r)→Q .non H'
theorem nL (T:i5 P w K mg Cb Cs):W7 P w K mg base Cb 4 ["self","width","height","codes"] (bI (Eh Cb)):=by
 refine T.mk_Board.ok (N:=["self","width","height","codes","cell","code"]) ⟨rfl,rfl,rfl,by rfl',rfl,by rfl',by rfl'⟩ (fun _ _ _ _=>l4) (fun vs H Q E h f cdv A outer s E' hr=>?_)
 obtain ⟨_,_,_,_,rfl,p,dx,L,ca,rfl,rfl,rfl,rfl,R,hp,hc,k⟩:=h
 have nd:(["self","width","height","codes","cell","code"]:List Str).Nodup:=by rfl'
 refine ⟨_,(d7 (C3 (pv 0) (pv 1) rfl) (d7 (C3 (pv 0) (pv 2) rfl) (d7 (C3 (pv 0) (pv 3) rfl) (d7 (C3 (pv 0) (j6 gZ (pv 1) (pv 2)) rfl) (d7 (C3 (pv 0) (n9 (kS T) hr (by decide) (c7 (pv 3) c9)) rfl) (d7 (C3 (pv 0) R4 rfl) (d7 (C3 (pv 0) R4 rfl) (d7 (A7 (C0 (tD T) hr (by decide) T.cl_Board (pv 0))) (d7 (C3 (pv 0) R4 rfl) (d7 (A7 (C0 (Dq T) hr (by decide) T.cl_Board (pv 0))) (d7 (C3 (pv 0) (Q8 (own:=[("cell",4)]) (tt:=N6) rfl nd (fE rfl T.b_range (c7 (g9 (pv 0) rfl) c9)) (M3 (N:=["self","width","height","codes","cell","code"]) (sc:=k9 iA) (by rfl')) (by intro s H C cl fp;exact n8 (i:=4) nd rfl (Or.inl rfl)) (by intro s H C cl fp;exact Z6) (by intro s H C cl fp;exact m9 (Bv T) hr (by decide) T.cl_Board (pv 0) (c7 (pv 4) c9))) rfl) (d7 (C3 (pv 0) (Q8 (own:=[("code",5)]) (tt:=N6) (te:=F1 (cU K true) (z9 5) (iC K (iv [4,5,8,9,10,11,12,13,14,15,16,17]))) rfl nd (F2 (pv 3)) (M3 (N:=["self","width","height","codes","cell","code"]) (sc:=k9 iA) (by rfl')) (by intro s H C cl fp;exact n8 (i:=5) nd rfl (Or.inl rfl)) (by intro s H C cl fp;exact Z6) (by intro s H C cl fp;exact G1 mV (pv 5) (D3 T.g_GOES_BY_MARKS) rfl)) rfl) (f7 (C3 (pv 0) R4 rfl)))))))))))))),?_⟩
 have hpc:ca≠p:=f8 hc hp (by intro z;cases z)
 have hle:=R.size_le
 have hlw:=R.h10
 have small:∀{n:Nat},n < 12→n < 1000:=fun h=>by omega
 refine ⟨_,rfl,_,rfl,p,Cb,dx,_,rfl,hp,T.cl_Board,T.nB_width,small (by show 0 < 12;decide),?_⟩
 rw [show l9 "width" (nv L.w) ([]:List (Str×V))=([("width",nv L.w)]:List (Str×V)) from F4 [] rfl (by rfl')]
 refine ⟨_,rfl,_,rfl,p,Cb,dx,_,rfl,c8,T.cl_Board,T.nB_height,small (by show 1 < 12;decide),?_⟩
 rw [show l9 "height" (nv L.h) ([("width",nv L.w)]:List (Str×V))=([("width",nv L.w),("height",nv L.h)]:List (Str×V)) from F4 ["width"] rfl (by rfl')]
 refine ⟨_,rfl,_,rfl,p,Cb,dx,_,rfl,c8,T.cl_Board,T.nB_codes,small (by show 2 < 12;decide),?_⟩
 rw [show l9 "codes" (.ref ca) ([("width",nv L.w),("height",nv L.h)]:List (Str×V))=([("width",nv L.w),("height",nv L.h),("codes",.ref ca)]:List (Str×V)) from F4 ["width","height"] rfl (by rfl')]
 refine ⟨_,rfl,_,rfl,_,_,rfl,rfl,by omega,_,rfl,p,Cb,dx,_,rfl,c8,T.cl_Board,T.nB_size,small (by show 3 < 12;decide),?_⟩
 rw [show l9 "size" (nv (L.w*L.h)) ([("width",nv L.w),("height",nv L.h),("codes",.ref ca)]:List (Str×V))=([("width",nv L.w),("height",nv L.h),("codes",.ref ca),("size",nv (L.w*L.h))]:List (Str×V)) from F4 ["width","height","codes"] rfl (by rfl')]
 rw [N5,N5,N5]
 refine ⟨_,rfl,_,rfl,ca,L.cells,rfl,⟨by rw [a9 hpc];exact hc,by rw [R.len];omega⟩,fun H1 tg s1 htg hx1=>?_⟩
 have hp1:=s1 _ _ (c8 (H:=H) (a:=p))
 have hc1:=s1 _ _ ((a9 (H:=H) hpc).trans hc)
 have htgp:tg≠p:=fun q=>by rw [q,c8] at htg;cases htg
 have f1:But p H H1:=fun b o e n=>s1 _ _ ((a9 (H:=H) n).trans e)
 refine ⟨_,rfl,p,Cb,dx,_,rfl,hp1,T.cl_Board,T.nB_things,small (by show 4 < 12;decide),?_⟩
 rw [show l9 "things" (.ref tg) ([("width",nv L.w),("height",nv L.h),("codes",.ref ca),("size",nv (L.w*L.h))]:List (Str×V))=([("width",nv L.w),("height",nv L.h),("codes",.ref ca),("size",nv (L.w*L.h)),("things",.ref tg)]:List (Str×V)) from F4 ["width","height","codes","size"] rfl (by rfl')]
 refine fun tb htb=>⟨_,rfl,p,Cb,dx,_,rfl,((a9 (fun q=>by rw [←q,c8] at htb;cases htb)).trans c8),T.cl_Board,T.nB_thing_bits,small (by show 5 < 12;decide),?_⟩
 have ntb:tb≠p:=fun q=>by rw [q,c8] at htb;cases htb
 have htb1:H1 tb=none:=(a9 ntb).symm.trans htb
 rw [show l9 "thing_bits" (.ref tb) ([("width",nv L.w),("height",nv L.h),("codes",.ref ca),("size",nv (L.w*L.h)),("things",.ref tg)]:List (Str×V))=([("width",nv L.w),("height",nv L.h),("codes",.ref ca),("size",nv (L.w*L.h)),("things",.ref tg),("thing_bits",.ref tb)]:List (Str×V)) from F4 ["width","height","codes","size","things"] rfl (by rfl')]
 refine fun cb hcb=>⟨_,rfl,p,Cb,dx,_,rfl,((a9 (fun q=>by rw [←q,c8] at hcb;cases hcb)).trans c8),T.cl_Board,T.nB_code_bits,small (by show 6 < 12;decide),?_⟩
 have ncp:cb≠p:=fun q=>by rw [q,c8] at hcb;cases hcb
 have ncb:cb≠tb:=fun q=>by rw [q,a9 ntb,c8] at hcb;cases hcb
 have hcb1:H1 cb=none:=by rw [a9 ncp,a9 ncb,a9 ncp] at hcb;exact hcb
 rw [show l9 "code_bits" (.ref cb) ([("width",nv L.w),("height",nv L.h),("codes",.ref ca),("size",nv (L.w*L.h)),("things",.ref tg),("thing_bits",.ref tb)]:List (Str×V))=([("width",nv L.w),("height",nv L.h),("codes",.ref ca),("size",nv (L.w*L.h)),("things",.ref tg),("thing_bits",.ref tb),("code_bits",.ref cb)]:List (Str×V)) from F4 ["width","height","codes","size","things","thing_bits"] rfl (by rfl')]
 generalize eH2:a8 (a8 (a8 (a8 (a8 H1 p _) tb _) p _) cb _) p _=H2
 have hp2:H2 p=some (.ins Cb dx [("width",nv L.w),("height",nv L.h),("codes",.ref ca),("size",nv (L.w*L.h)),("things",.ref tg),("thing_bits",.ref tb),("code_bits",.ref cb)]):=by rw [←eH2,c8]
 have htb2:H2 tb=some (.dK []):=by rw [←eH2,a9 ntb,a9 (Ne.symm ncb),a9 ntb,c8]
 have hcb2:H2 cb=some (.dK []):=by rw [←eH2,a9 ncp,c8]
 have f2:∀b o,H1 b=some o→b≠p→H2 b=some o:=fun b o e n=>by
  rw [←eH2,a9 n,a9 (d8 e hcb1),a9 n,a9 (d8 e htb1),a9 n]
  exact e
 have hc2:=f2 _ _ hc1 hpc
 have hg2:=f2 _ _ hx1 htgp
 clear eH2
 have S2:Sb Cb H2 p L dx ca tg tb cb [("width",nv L.w),("height",nv L.h),("codes",.ref ca),("size",nv (L.w*L.h)),("things",.ref tg),("thing_bits",.ref tb),("code_bits",.ref cb)]:=⟨R,hp2,g8 (by rfl') (g8 (by rfl') (g8 (by rfl') (g8 (by rfl') (g8 (by rfl') y8)))),g8 (by rfl') (g8 (by rfl') (g8 (by rfl') (g8 (by rfl') (g8 (by rfl') (g8 (by rfl') y8))))),g8 (by rfl') (g8 (by rfl') (g8 (by rfl') (g8 (by rfl') y8))),g8 (by rfl') (g8 (by rfl') y8),hc2,hg2,Ne.symm ncb⟩
 have nosetA:(([("width",nv L.w),("height",nv L.h),("codes",.ref ca),("size",nv (L.w*L.h)),("things",.ref tg),("thing_bits",.ref tb),("code_bits",.ref cb)]:List (Str×V))).lookup ("set_thing_bits":Str)=none:=O2 (by show (["width","height","codes","size","things","thing_bits","code_bits"]:List Str).all _=true;rfl')
 refine ⟨_,rfl,p,dx,_,rfl,hp2,nosetA,_,rfl,p,L,dx,ca,tg,tb,cb,_,rfl,S2,htb2,hcb2,fun H3 f3 htb3 hcb3=>?_⟩
 have hp3:=f3 _ _ hp2 ntb.symm ncp.symm
 have hc3:=f3 _ _ hc2 (f8 hc2 htb2 (by intro z;cases z)) (f8 hc2 hcb2 (by intro z;cases z))
 have hg3:=f3 _ _ hg2 (f8 hg2 htb2 (by intro z;cases z)) (f8 hg2 hcb2 (by intro z;cases z))
 refine fun lb hlb=>⟨_,rfl,p,Cb,dx,_,rfl,((a9 (d8 hp3 hlb)).trans hp3),T.cl_Board,T.nB_lever_bits,small (by show 7 < 12;decide),?_⟩
 have nlb:p≠lb:=d8 hp3 hlb
 rw [show l9 "lever_bits" (.ref lb) ([("width",nv L.w),("height",nv L.h),("codes",.ref ca),("size",nv (L.w*L.h)),("things",.ref tg),("thing_bits",.ref tb),("code_bits",.ref cb)]:List (Str×V))=([("width",nv L.w),("height",nv L.h),("codes",.ref ca),("size",nv (L.w*L.h)),("things",.ref tg),("thing_bits",.ref tb),("code_bits",.ref cb),("lever_bits",.ref lb)]:List (Str×V)) from F4 ["width","height","codes","size","things","thing_bits","code_bits"] rfl (by rfl')]
 generalize eH4:a8 (a8 H3 lb _) p _=H4
 have hp4:H4 p=some (.ins Cb dx [("width",nv L.w),("height",nv L.h),("codes",.ref ca),("size",nv (L.w*L.h)),("things",.ref tg),("thing_bits",.ref tb),("code_bits",.ref cb),("lever_bits",.ref lb)]):=by rw [←eH4,c8]
 have hlb4:H4 lb=some (.dK []):=by rw [←eH4,a9 nlb.symm,c8]
 have f4:∀b o,H3 b=some o→b≠p→H4 b=some o:=fun b o e n=>by
  rw [←eH4,a9 n,a9 (d8 e hlb)]
  exact e
 clear eH4
 have hc4:=f4 _ _ hc3 hpc
 have hg4:=f4 _ _ hg3 htgp
 have htb4:=f4 _ _ htb3 ntb
 have hcb4:=f4 _ _ hcb3 ncp
 have ntl:tb≠lb:=d8 htb3 hlb
 have ncl:cb≠lb:=d8 hcb3 hlb
 have S4:Sl Cb H4 p L dx tg lb [("width",nv L.w),("height",nv L.h),("codes",.ref ca),("size",nv (L.w*L.h)),("things",.ref tg),("thing_bits",.ref tb),("code_bits",.ref cb),("lever_bits",.ref lb)]:=⟨R,hp4,g8 (by rfl') (g8 (by rfl') (g8 (by rfl') (g8 (by rfl') (g8 (by rfl') (g8 (by rfl') (g8 (by rfl') y8)))))),g8 (by rfl') (g8 (by rfl') (g8 (by rfl') (g8 (by rfl') y8))),hg4⟩
 have nosetB:(([("width",nv L.w),("height",nv L.h),("codes",.ref ca),("size",nv (L.w*L.h)),("things",.ref tg),("thing_bits",.ref tb),("code_bits",.ref cb),("lever_bits",.ref lb)]:List (Str×V))).lookup ("set_lever_bits":Str)=none:=O2 (by show (["width","height","codes","size","things","thing_bits","code_bits","lever_bits"]:List Str).all _=true;rfl')
 refine ⟨_,rfl,p,dx,_,rfl,hp4,nosetB,_,rfl,p,L,dx,tg,lb,_,rfl,S4,hlb4,fun H5 f5 hlb5=>?_⟩
 have hp5:=f5 _ _ hp4 nlb
 have hc5:=f5 _ _ hc4 (f8 hc4 hlb4 (by intro z;cases z))
 have hg5:=f5 _ _ hg4 (f8 hg4 hlb4 (by intro z;cases z))
 have htb5:=f5 _ _ htb4 ntl
 have hcb5:=f5 _ _ hcb4 ncl
 have tot:But p H H5:=fun b o e n=>by
  have h1:=f1 b o e n
  have h3:=f3 b o (f2 b o h1 n) (d8 h1 htb1) (d8 h1 hcb1)
  exact f5 b o (f4 b o h3 n) (d8 h3 hlb)
 have Bp5:Bp Cb H5 p L:=⟨R,dx,_,ca,hp5,y8,g8 (by rfl') y8,g8 (by rfl') (g8 (by rfl') y8),hc5,O2 (by show (["width","height","codes","size","things","thing_bits","code_bits","lever_bits"]:List Str).all _=true;rfl'),O2 (by show (["width","height","codes","size","things","thing_bits","code_bits","lever_bits"]:List Str).all _=true;rfl')⟩
 have noex:(([("width",nv L.w),("height",nv L.h),("codes",.ref ca),("size",nv (L.w*L.h)),("things",.ref tg),("thing_bits",.ref tb),("code_bits",.ref cb),("lever_bits",.ref lb)]:List (Str×V))).lookup ("find_exits":Str)=none:=O2 (by show (["width","height","codes","size","things","thing_bits","code_bits","lever_bits"]:List Str).all _=true;rfl')
 have lsz:(([("width",nv L.w),("height",nv L.h),("codes",.ref ca),("size",nv (L.w*L.h)),("things",.ref tg),("thing_bits",.ref tb),("code_bits",.ref cb),("lever_bits",.ref lb)]:List (Str×V))).lookup ("size":Str)=some (nv (L.w*L.h)):=g8 (by rfl') (g8 (by rfl') (g8 (by rfl') y8))
 refine ⟨_,rfl,j5 hp5 T.cl_Board T.nB_size lsz ⟨_,rfl,by omega,by omega,fun ex hex=>?_⟩⟩
 refine kY (n:=L.w*L.h) (lo:=0) (fun i H'=>Same H5 H'∧BL L H5 H' ex i) ⟨Same.new hex,[],c8,rfl,fun j x z=>by simp at z⟩ (fun i H' hi q=>?_) (fun H6 q6=>?_)
 ·obtain ⟨q1,xs,q2,q3,q4⟩:=q
  rw [Int.zero_add]
  refine ⟨rfl,U8 ⟨_,rfl,p,dx,_,rfl,q1 _ _ hp5,noex,_,rfl,_,_,rfl,p,L,i,rfl,rfl,Bp5.same q1,hi,fun H'' l sl hl hx=>⟨_,sl _ _ q2,?_,fun b o e=>?_,xs++[l],?_,?_,fun j x hj=>?_⟩⟩⟩
  ·rw [List.length_map,q3]
   exact Nat.lt_of_lt_of_le (Nat.lt_of_lt_of_le hi hle) (by decide)
  ·rw [a9 (d8 e hex)]
   exact sl _ _ (q1 _ _ e)
  ·rw [c8,List.map_append]
   rfl
  ·rw [List.length_append,q3]
   rfl
  ·have nle:l≠ex:=fun z=>by rw [z,q2] at hl;cases hl
   have fr:∀b o,H'' b=some o→b≠ex→a8 H'' ex (.lst (xs.map V.ref++[.ref l])) b=some o:=fun b o e n=>by rw [a9 n];exact e
   by_cases hjl:j < xs.length
   ·rw [List.getElem?_append_left hjl] at hj
    obtain ⟨h1,h2,h3⟩:=q4 j x hj
    obtain ⟨ts,t1,t2,t3⟩:=h1
    exact ⟨ExAt.sameN (H:=H'') ⟨ts,sl _ _ t1,t2,fun j t e a b=>sl _ _ (t3 j t e a b)⟩ h2 ⟨_,sl _ _ q2⟩ fr,h2,h3⟩
   ·rw [List.getElem?_append_right (by omega)] at hj
    have e0:j - xs.length=0:=by
     cases q:j - xs.length with
     | zero=>rfl
     | succ n=>rw [q] at hj;simp at hj
    rw [e0] at hj
    cases hj
    have:j=i:=by omega
    subst this
    exact ⟨hx.sameN nle ⟨_,sl _ _ q2⟩ fr,nle,q1.free hl⟩
 obtain ⟨s6,xs6,x1,x2,x3⟩:=q6
 have hp6:=s6 _ _ hp5
 have nep:ex≠p:=f8 x1 hp6 (by intro z;cases z)
 refine ⟨_,rfl,p,Cb,dx,_,rfl,hp6,T.cl_Board,T.nB_exits,small (by show 8 < 12;decide),?_⟩
 rw [show l9 "exits" (.ref ex) ([("width",nv L.w),("height",nv L.h),("codes",.ref ca),("size",nv (L.w*L.h)),("things",.ref tg),("thing_bits",.ref tb),("code_bits",.ref cb),("lever_bits",.ref lb)]:List (Str×V))=([("width",nv L.w),("height",nv L.h),("codes",.ref ca),("size",nv (L.w*L.h)),("things",.ref tg),("thing_bits",.ref tb),("code_bits",.ref cb),("lever_bits",.ref lb),("exits",.ref ex)]:List (Str×V)) from F4 ["width","height","codes","size","things","thing_bits","code_bits","lever_bits"] rfl (by rfl')]
 have f6:∀b o,H5 b=some o→b≠p→a8 H6 p (.ins Cb dx [("width",nv L.w),("height",nv L.h),("codes",.ref ca),("size",nv (L.w*L.h)),("things",.ref tg),("thing_bits",.ref tb),("code_bits",.ref cb),("lever_bits",.ref lb),("exits",.ref ex)]) b=some o:=fun b o e n=>by rw [a9 n];exact s6 _ _ e
 have X7:iV L (a8 H6 p (.ins Cb dx [("width",nv L.w),("height",nv L.h),("codes",.ref ca),("size",nv (L.w*L.h)),("things",.ref tg),("thing_bits",.ref tb),("code_bits",.ref cb),("lever_bits",.ref lb),("exits",.ref ex)])) ex:=by
  refine ⟨xs6,by rw [a9 nep];exact x1,x2,fun i x hi=>?_⟩
  obtain ⟨ts,t1,t2,t3⟩:=(x3 i x hi).1
  exact ⟨ts,by rw [a9 (f8 t1 hp6 (by intro z;cases z))];exact t1,t2,fun j t e a b=>by
   have h9:=t3 j t e a b
   rw [a9 (f8 h9 hp6 (by intro z;cases z))]
   exact h9⟩
 have hx7:a8 H6 p (.ins Cb dx [("width",nv L.w),("height",nv L.h),("codes",.ref ca),("size",nv (L.w*L.h)),("things",.ref tg),("thing_bits",.ref tb),("code_bits",.ref cb),("lever_bits",.ref lb),("exits",.ref ex)]) ex=some (.lst (xs6.map V.ref)):=(a9 nep).trans x1
 have hp7:a8 H6 p (.ins Cb dx [("width",nv L.w),("height",nv L.h),("codes",.ref ca),("size",nv (L.w*L.h)),("things",.ref tg),("thing_bits",.ref tb),("code_bits",.ref cb),("lever_bits",.ref lb),("exits",.ref ex)]) p=some (.ins Cb dx [("width",nv L.w),("height",nv L.h),("codes",.ref ca),("size",nv (L.w*L.h)),("things",.ref tg),("thing_bits",.ref tb),("code_bits",.ref cb),("lever_bits",.ref lb),("exits",.ref ex)]):=c8
 generalize a8 H6 p (.ins Cb dx [("width",nv L.w),("height",nv L.h),("codes",.ref ca),("size",nv (L.w*L.h)),("things",.ref tg),("thing_bits",.ref tb),("code_bits",.ref cb),("lever_bits",.ref lb),("exits",.ref ex)])=H7 at f6 X7 hp7 hx7 ⊢
 have hc7:=f6 _ _ hc5 hpc
 refine ⟨_,rfl,ca,rfl,⟨_,SqL.of hc7⟩,fun fr hfr=>?_⟩
 refine aH (xs:=o7 L) (fun _=>true) qU hfr (SqL.of hc7) ?_ (fun x hx H' C N s' hcc hn=>?_) (fun H8 s8 hf8=>?_)
 ·unfold o7
  rw [List.length_map,R.len]
  exact Nat.lt_of_le_of_lt hle (by decide)
 ·obtain ⟨c,_,rfl⟩:=List.mem_map.mp hx
  refine ⟨rfl,U8 ⟨_,rfl,fun g hg=>⟨_,_,rfl,.inr (hg _),rfl,rfl,?_⟩⟩⟩
  have q:=hcc _ (Same.refl _) rfl
  show C (.bl (!D6 (nv c) (iv [4,5,8,9,10,11,12,13,14,15,16,17]))) H'
  rw [Ao]
  exact q
 have hp8:=s8 _ _ hp7
 have hff:((o7 L).filter fun _=>true).map qU=L.cells.map fun c=>V.bl (!M4 c):=by
  rw [List.filter_eq_self.mpr (fun _ _=>rfl)]
  unfold o7
  rw [List.map_map]
  rfl
 rw [hff] at hf8
 refine ⟨_,rfl,p,Cb,dx,_,rfl,hp8,T.cl_Board,T.nB_is_free,small (by show 9 < 12;decide),?_⟩
 rw [show l9 "is_free" (.ref fr) ([("width",nv L.w),("height",nv L.h),("codes",.ref ca),("size",nv (L.w*L.h)),("things",.ref tg),("thing_bits",.ref tb),("code_bits",.ref cb),("lever_bits",.ref lb),("exits",.ref ex)]:List (Str×V))=([("width",nv L.w),("height",nv L.h),("codes",.ref ca),("size",nv (L.w*L.h)),("things",.ref tg),("thing_bits",.ref tb),("code_bits",.ref cb),("lever_bits",.ref lb),("exits",.ref ex),("is_free",.ref fr)]:List (Str×V)) from F4 ["width","height","codes","size","things","thing_bits","code_bits","lever_bits","exits"] rfl (by rfl')]
 have nfp:fr≠p:=f8 hf8 hp8 (by intro z;cases z)
 refine fun kd hkd=>⟨_,rfl,p,Cb,dx,_,rfl,((a9 (fun q=>by rw [←q,c8] at hkd;cases hkd)).trans c8),T.cl_Board,T.nB_known_steps,small (by show 10 < 12;decide),?_⟩
 have nkp:kd≠p:=fun q=>by rw [q,c8] at hkd;cases hkd
 have hkd8:H8 kd=none:=(a9 nkp).symm.trans hkd
 rw [show l9 "known_steps" (.ref kd) ([("width",nv L.w),("height",nv L.h),("codes",.ref ca),("size",nv (L.w*L.h)),("things",.ref tg),("thing_bits",.ref tb),("code_bits",.ref cb),("lever_bits",.ref lb),("exits",.ref ex),("is_free",.ref fr)]:List (Str×V))=([("width",nv L.w),("height",nv L.h),("codes",.ref ca),("size",nv (L.w*L.h)),("things",.ref tg),("thing_bits",.ref tb),("code_bits",.ref cb),("lever_bits",.ref lb),("exits",.ref ex),("is_free",.ref fr),("known_steps",.ref kd)]:List (Str×V)) from F4 ["width","height","codes","size","things","thing_bits","code_bits","lever_bits","exits","is_free"] rfl (by rfl')]
 have f9:∀b o,H8 b=some o→b≠p→a8 (a8 (a8 H8 p (.ins Cb dx [("width",nv L.w),("height",nv L.h),("codes",.ref ca),("size",nv (L.w*L.h)),("things",.ref tg),("thing_bits",.ref tb),("code_bits",.ref cb),("lever_bits",.ref lb),("exits",.ref ex),("is_free",.ref fr)])) kd (.dK [])) p (.ins Cb dx [("width",nv L.w),("height",nv L.h),("codes",.ref ca),("size",nv (L.w*L.h)),("things",.ref tg),("thing_bits",.ref tb),("code_bits",.ref cb),("lever_bits",.ref lb),("exits",.ref ex),("is_free",.ref fr),("known_steps",.ref kd)]) b=some o:=fun b o e n=>by
  rw [a9 n,a9 (d8 e hkd8),a9 n]
  exact e
 have hk9:a8 (a8 (a8 H8 p (.ins Cb dx [("width",nv L.w),("height",nv L.h),("codes",.ref ca),("size",nv (L.w*L.h)),("things",.ref tg),("thing_bits",.ref tb),("code_bits",.ref cb),("lever_bits",.ref lb),("exits",.ref ex),("is_free",.ref fr)])) kd (.dK [])) p (.ins Cb dx [("width",nv L.w),("height",nv L.h),("codes",.ref ca),("size",nv (L.w*L.h)),("things",.ref tg),("thing_bits",.ref tb),("code_bits",.ref cb),("lever_bits",.ref lb),("exits",.ref ex),("is_free",.ref fr),("known_steps",.ref kd)]) kd=some (.dK []):=by rw [a9 nkp,c8]
 have hp9:a8 (a8 (a8 H8 p (.ins Cb dx [("width",nv L.w),("height",nv L.h),("codes",.ref ca),("size",nv (L.w*L.h)),("things",.ref tg),("thing_bits",.ref tb),("code_bits",.ref cb),("lever_bits",.ref lb),("exits",.ref ex),("is_free",.ref fr)])) kd (.dK [])) p (.ins Cb dx [("width",nv L.w),("height",nv L.h),("codes",.ref ca),("size",nv (L.w*L.h)),("things",.ref tg),("thing_bits",.ref tb),("code_bits",.ref cb),("lever_bits",.ref lb),("exits",.ref ex),("is_free",.ref fr),("known_steps",.ref kd)]) p=some (.ins Cb dx [("width",nv L.w),("height",nv L.h),("codes",.ref ca),("size",nv (L.w*L.h)),("things",.ref tg),("thing_bits",.ref tb),("code_bits",.ref cb),("lever_bits",.ref lb),("exits",.ref ex),("is_free",.ref fr),("known_steps",.ref kd)]):=c8
 generalize a8 (a8 (a8 H8 p (.ins Cb dx [("width",nv L.w),("height",nv L.h),("codes",.ref ca),("size",nv (L.w*L.h)),("things",.ref tg),("thing_bits",.ref tb),("code_bits",.ref cb),("lever_bits",.ref lb),("exits",.ref ex),("is_free",.ref fr)])) kd (.dK [])) p (.ins Cb dx [("width",nv L.w),("height",nv L.h),("codes",.ref ca),("size",nv (L.w*L.h)),("things",.ref tg),("thing_bits",.ref tb),("code_bits",.ref cb),("lever_bits",.ref lb),("exits",.ref ex),("is_free",.ref fr),("known_steps",.ref kd)])=H9 at f9 hk9 hp9 ⊢
 have go:∀b o,H5 b=some o→b≠p→H9 b=some o:=fun b o e n=>f9 _ _ (s8 _ _ (f6 _ _ e n)) n
 refine k H9 ⟨dx,ca,tg,tb,cb,lb,ex,fr,kd⟩ ⟨⟨R,hp9,go _ _ hc5 hpc,go _ _ hg5 htgp,go _ _ htb5 ntb,go _ _ hcb5 ncp,go _ _ hlb5 nlb.symm,?_,f9 _ _ hf8 nfp,?_,?_,?_⟩,[],hk9,⟨[],rfl,by simp,fun n hn=>by simp at hn⟩,fun key v e=>by cases e⟩ (fun b o e n=>go _ _ (tot _ _ e n) n) ?_ ?_ ?_
 ·obtain ⟨xs,y1,y2,y3⟩:=X7
  refine ⟨xs,f9 _ _ (s8 _ _ y1) (f8 y1 hp7 (by intro z;cases z)),y2,fun i x hi=>?_⟩
  obtain ⟨ts,t1,t2,t3⟩:=y3 i x hi
  exact ⟨ts,f9 _ _ (s8 _ _ t1) (f8 t1 hp7 (by intro z;cases z)),t2,fun j t e a b=>f9 _ _ (s8 _ _ (t3 j t e a b)) (f8 (t3 j t e a b) hp7 (by intro z;cases z))⟩
 ·exact d8 (s8 _ _ (f6 _ _ htb5 ntb)) hkd8
 ·exact d8 (s8 _ _ (f6 _ _ hcb5 ncp)) hkd8
 ·exact d8 (s8 _ _ (f6 _ _ hlb5 nlb.symm)) hkd8
 ·cases q:H kd with
  | none=>rfl
  | some o=>
   have:=s8 _ _ (f6 _ _ (tot _ _ q nkp) nkp)
   rw [hkd8] at this
   cases this
 ·rfl
 ·intro r e n1
  obtain ⟨o,eo⟩:∃o,H r=some o:=by
   cases q:H r with
   | none=>exact absurd q e
   | some o=>exact ⟨o,rfl⟩
  have e5:=tot r o eo n1
  have e7:=f6 r o e5 n1
  refine ⟨fun z=>?_,(fun z=>by rw [z,hex] at e5;cases e5),(fun z=>by rw [z,hfr] at e7;cases e7),fun xs ex' m=>?_,?_⟩
  ·rw [a9 htgp] at htg
   rw [z,htg] at eo
   cases eo
  ·have h9:=f9 _ _ (s8 _ _ hx7) nep
   have ex2:H9 ex=some (.lst xs):=ex'
   rw [h9] at ex2
   cases ex2
   obtain ⟨x,hx,e2⟩:=List.mem_map.mp m
   cases e2
   obtain ⟨i,hi⟩:=List.getElem?_of_mem hx
   rw [(x3 i _ hi).2.2] at e5
   cases e5
  ·rintro ⟨kvs,key,h1,h2⟩
   have h3:H9 kd=some (.dK kvs):=h1
   rw [hk9] at h3
   cases h3
   cases h2
section
variable {X:Cx} {o e f:Expr} {td ty tx:TE} {apos cpos:Pos}
def xK (td ty tx:TE):TE:=fun σ H Q=>td σ H fun x H1=>∃a,x=.ref a∧cJ H1 a∧ty σ H1 fun y H2=>tx σ H2 fun z H3=>∃kvs k,H3 a=some (.dK kvs)∧y=kV k∧kvs.length < sizeLine∧
 (∀v,i7 kvs k=some v→Q v H3)∧(i7 kvs k=none→Q z (a8 H3 a (.dK (j7 kvs k z))))
theorem De (hu:X.A.units+1 < cLine) (ho:PE X o td) (he:PE X e ty) (hf:PE X f tx) (m:M2 X o "setdefault" apos e f cpos):PE X (.Call (.Attribute o "setdefault" apos) [e,f] [] cpos) (xK td ty tx):=by
 intro pins s σ H Q I h
 refine wpAny_Call_method m.base m.few m.line PySem.F.plainAttrs_dict PySem.F.slot_dict_setdefault PySem.F.type_dict_setdefault (g6 (ho pins s σ H _ I h) fun u s1 ⟨x,H1,I1,rx,a,ex,d,q1⟩=>?_)
 subst ex
 obtain rfl:u=Value.ref a:=rx
 obtain ⟨t1,t2,_⟩:=eL I1 d
 refine ⟨t1,t2,?_⟩
 rw [m.trees]
 refine Calls.callWith_builtin rfl (Calls.evalArgs_plain (Calls.spliced_cons (g6 (he pins s1 σ H1 _ I1 q1) fun iv s2 ⟨y,H2,I2,ry,q2⟩=>
  Calls.spliced_cons (g6 (hf pins s2 σ H2 _ I2 q2) fun fv s3 ⟨z,H3,I3,rz,kvs,k,e3,ey,hl,g1,g2⟩=>Calls.spliced_nil ?_))))
 subst ey
 obtain ⟨hz,hd,vs,rel,dd⟩:=T5 I3.hok e3
 refine call_meetsIn PySem.F.slot_dict_setdefault dd.typeIs PySem.F.entry_dict_setdefault (PySem.F.args_dict_setdefault_3 _ _ _) (kt_meets_setdefault (p6 X.prog X.w) a (K3 ry) hd fv) ⟨vs,dd,by rw [←rel.length];exact hz,fun v hv=>?_,fun hn h' dd' hs=>?_⟩
 ·have r:=rel.val k
  rw [hv] at r
  cases q:i7 kvs k with
  | none=>rw [q] at r;exact r.elim
  | some v'=>
   rw [q] at r
   exact ⟨v',H3,I3.tok _,r,g1 v' q⟩
 ·have r:=rel.val k
  rw [hn] at r
  cases q:i7 kvs k with
  | some v'=>rw [q] at r;exact r.elim
  | none=>
   have he':∃q,h'.get? a=some q:=let ⟨q,_,_,hq,_⟩:=dd';⟨q,hq⟩
   have hl2:(j7 kvs k z).length≤sizeLine:=by have:=V5 kvs k z;omega
   exact ⟨z,_,W6 I3 (by rw [e3];exact True.intro) hs he' (cP hl2 hd (rel.put k rz) dd'),rz,g2 q⟩
def CC (td ty:TE):TE:=fun σ H Q=>td σ H fun x H1=>∃a,x=.ref a∧cJ H1 a∧ty σ H1 fun y H2=>∃b kvs more,y=.ref b∧a≠b∧H2 a=some (.dK kvs)∧H2 b=some (.dK more)∧kvs.length+more.length≤sizeLine∧Q .non (a8 H2 a (.dK (G5 kvs more)))
theorem zB (hu:X.A.units+1 < cLine) (ho:PE X o td) (he:PE X e ty) (m:M1 X o "update" apos e cpos):PE X (.Call (.Attribute o "update" apos) [e] [] cpos) (CC td ty):=by
 intro pins s σ H Q I h
 refine wpAny_Call_method m.base m.few m.line PySem.F.plainAttrs_dict PySem.F.slot_dict_update PySem.F.type_dict_update (g6 (ho pins s σ H _ I h) fun u s1 ⟨x,H1,I1,rx,a,ex,d,q1⟩=>?_)
 subst ex
 obtain rfl:u=Value.ref a:=rx
 obtain ⟨t1,t2,_⟩:=eL I1 d
 refine ⟨t1,t2,?_⟩
 rw [m.trees]
 refine Calls.callWith_builtin rfl (Calls.evalArgs_plain (Calls.spliced_cons (g6 (he pins s1 σ H1 _ I1 q1) fun iv s2 ⟨y,H2,I2,ry,b,kvs,more,ey,hne,ea,eb,hl,q2⟩=>Calls.spliced_nil ?_)))
 subst ey
 obtain rfl:iv=Value.ref b:=ry
 obtain ⟨hz,hd,vs,rel,dd⟩:=T5 I2.hok ea
 obtain ⟨hz2,hd2,ws,rel2,dd2⟩:=T5 I2.hok eb
 refine call_meetsIn PySem.F.slot_dict_update dd.typeIs PySem.F.entry_dict_update (PySem.F.args_dict_update_2 _ _) (meets_dict_update (p6 X.prog X.w) a b hne hd2) ⟨vs,ws,dd,dd2,by rw [←rel.length,←rel2.length];exact hl,fun h' dd' _ hs=>?_⟩
 have he':∃q,h'.get? a=some q:=let ⟨q,_,_,hq,_⟩:=dd';⟨q,hq⟩
 have hl2:(G5 kvs more).length≤sizeLine:=Nat.le_trans (dP more kvs) hl
 exact ⟨.non,_,W6 (t':=s2.toks) I2 (by rw [ea];exact True.intro) hs he' (cP hl2 hd (rel2.merge rel) dd'),rfl,q2⟩
theorem relV_key {P:Program} {w:World} {k:d9} {u:Value} (h:(p6 P w).is k u=true):RelV (kV k) u:=by
 rcases K7 (k:=k) (v:=u) h with ⟨i,t,rfl,rfl⟩|⟨x,t,rfl,rfl⟩
 ·exact ⟨t,rfl⟩
 ·exact ⟨t,rfl⟩
theorem oY {P:Program} {w:World}:∀{ks:List d9} {us:List Value},us.length=ks.length→(∀(j:Nat) (v:Value),us[j]?=some v→∃k,ks[j]?=some k∧(p6 P w).is k v=true)→Vals (ks.map kV) us
 | [],[],_,_=>.nil
 | [],_::_,h,_=>by cases h
 | _::_,[],h,_=>by cases h
 | p::ks,u::us,h,k=>by
  obtain ⟨p',e,q⟩:=k 0 u rfl
  cases e
  exact .cons (relV_key q) (oY (by simpa using h) fun j v e=>k (j+1) v e)
theorem mB:∀{kvs:List (d9×V)} {vs:List (d9×Value)},KV kvs vs→kvs.map (·.1)=vs.map (·.1)
 | [],[],_=>rfl
 | [],_::_,h=>by cases h
 | _::_,[],h=>by cases h
 | p::kvs,q::vs,.cons h t=>by
  rw [List.map_cons,List.map_cons,h.1,mB t]
theorem uT (hc:X.calm=true):N4 X (.type "list") (fun xs H Q=>∃a kvs,xs=[.ref a]∧H a=some (.dK kvs)∧∀l,H l=none→Q (.ref l) (a8 H l (.lst ((kvs.map (·.1)).map kV)))):=by
 intro pins s σ H xs us Q I r h
 obtain ⟨a,kvs,rfl,ha,q⟩:=h
 obtain ⟨u,rfl,ru⟩:=vals1 r
 cases ru
 obtain ⟨hz,hd,vs,rel,dd⟩:=T5 I.hok ha
 obtain ⟨ob,es,ep,d1,d2,d3,d4,d5,d6⟩:=dd
 have dat:s.heap.DictAt (p6 X.prog X.w) a vs ep:=⟨ob,es,d1,d2,d3,d4,d5,d6⟩
 refine PySem.W.kdl_call (PySem.W.kdl_dict (knd:=p6 X.prog X.w) (kvs:=vs) (ep:=ep) hd) (I.ok.hd hc) dat (by rw [←rel.length];exact hz) fun h' tk acc c hk hD hacc=>?_
 have hp:H s.heap.objs.size=none:=I.hok.fresh (Nat.le_refl _)
 refine ⟨.ref s.heap.objs.size,_,I.laid (t':=tk) (o:=.lst ((kvs.map (·.1)).map kV)) hk (Nat.le_refl _) ?_,rfl,q _ hp⟩
 refine ⟨by rw [List.length_map,List.length_map];exact hz,acc.toList,c,oY (P:=X.prog) (w:=X.w) (by rw [Array.length_toList,hacc.1,List.length_map,rel.length]) fun j v e=>?_,by rw [Array.toArray_toList];exact hD⟩
 obtain ⟨k,x,e1,e2⟩:=hacc.2 j v (by rw [←Array.getElem?_toList];exact e)
 exact ⟨k,by rw [mB rel,List.getElem?_map,e1];rfl,e2⟩
def zT (K:PySem.W.Frag) (tl:TE):TI:=fun σ H R=>tl σ H fun x H1=>∃a,x=.ref a∧(((∃xs,SqL K H1 a xs)∧R (J5 K a) H1)∨((∃xs,SqT K H1 a xs)∧R (I0 K a) H1))
theorem AG {tg l:Expr} {tl:TE} (hl:PE X l tl):PI X tg l (zT X.K tl):=by
 intro pins s σ H R I h
 refine g6 (hl pins s σ H _ I h) fun v s1 ⟨x,H1,I1,r1,q1⟩=>?_
 obtain ⟨a,e,⟨⟨xs,hq⟩,q⟩|⟨⟨xs,hq⟩,q⟩⟩:=q1
 ·subst e
  cases r1
  obtain ⟨its,rv,p,hz⟩:=I1.list hq
  refine wpAny_pyIter_list p.isList ?_
  refine ⟨s1.heap.objs.size,[s1.heap.objs.size],_,_,H1,rfl,I1.kept (t':=s1.toks) fun b o e=>Heap.get?_push_of_some _ e,pK a _,⟨_,Heap.get?_push_size _ rfl,rfl,rfl⟩,fun b hb=>?_,q⟩
  have e:b=s1.heap.objs.size:=by simpa using hb
  subst e
  exact I1.fpOk (Nat.le_refl _) (I1.hok.fresh (Nat.le_refl _))
 ·subst e
  cases r1
  obtain ⟨its,rv,p,hz⟩:=I1.tuple hq
  refine wpAny_pyIter_tuple (show s1.heap.IsTuple a its.toArray from p) ?_
  refine ⟨s1.heap.objs.size,[s1.heap.objs.size],_,_,H1,rfl,I1.kept (t':=s1.toks) fun b o e=>Heap.get?_push_of_some _ e,jP a _,⟨_,Heap.get?_push_size _ rfl,rfl,rfl⟩,fun b hb=>?_,q⟩
  have e:b=s1.heap.objs.size:=by simpa using hb
  subst e
  exact I1.fpOk (Nat.le_refl _) (I1.hok.fresh (Nat.le_refl _))
end
end Pr
namespace PySem
section
variable {prog:Program} {w:World} {A:Around} {E:Value→Shared→Prop} {s:Shared}
theorem nextTup {j t:Addr} {i:Nat} {us:Array Value} {x:Value} {Q:Value→Shared→Prop} (m:s.heap.IsTupleIter j t i) (ht:s.heap.IsTuple t us) (e:us[i]?=some x) (q:∀h',h'.IsTupleIter j t (i+1)→Heap.SameBut j s.heap h'→Q x { s with heap:=h' }):wpAny (model prog w) A (Builtin.SmallTypes.nextOf (.ref j)) Q E s:=by
 obtain ⟨o,o1,o2,o3⟩:=id m
 obtain ⟨p,p1,_,n,p2⟩:=ht
 unfold Builtin.SmallTypes.nextOf
 refine wpAny_bind (wpAny_callSpecial?_slot (name:=Str.ofString "__next__") m.typeIs F.slot_tuple_iterator_next (wpAny_call_entry F.slot_tuple_iterator_next m.typeIs F.entry_tuple_iterator_next ?_ (F.args_tuple_iterator_next_1 _)))
 show wpAny _ _ (field (.ref j) 0 >>= _) _ _ s
 refine wpAny_bind (wpAny_field o1 o3 (x:=.ref t) rfl ?_)
 show wpAny _ _ (if (Value.ref t==Value.none)=true then _ else _) _ _ s;rw [if_neg (show ¬((Value.ref t==Value.none)=true) from Bool.false_ne_true)]
 show wpAny _ _ (field (.ref j) 1 >>= _) _ _ s
 refine wpAny_bind (wpAny_field o1 o3 (x:=.int i 0) rfl ?_)
 show wpAny _ _ (seqItems? (.ref t) >>= _) _ _ s;refine wpAny_bind (wpAny_seqItems p1 p2 ?_)
 simp only [Int.toNat_natCast,e]
 refine wpAny_bind (wpAny_setField o1 o3 (by simp) (wpAny_pure ⟨x,rfl,wpAny_pure (q _ ⟨_,Heap.get?_update_self _ o1 (Obj.isFreed_of_fields (Obj.data_mapFields o3 _)),(Obj.cls_mapFields ..).trans o2,by rw [Obj.data_mapFields o3];simp [rawInt]⟩ (Heap.SameBut.update ..))⟩))
theorem IsTupleIter_at {h h':Heap} {a t:Addr} {i:Nat} (x:h.IsTupleIter a t i) (k:∀o,h.get? a=some o→h'.get? a=some o):h'.IsTupleIter a t i:=let ⟨o,e,r⟩:=x;⟨o,k o e,r⟩
theorem zlt_item {q U V' j1 j2 l t:Addr} {k:Nat} {xs ys:Array Value} {x y a b:Value} {Q:Value→Shared→Prop} (D:ZipApart q U V' j1 j2 l t) (z0:IsZip s.heap q U V' .none) (u0:IsPair s.heap U (.ref j1) (.ref j2)) (v0:IsPair s.heap V' a b)
  (n1:s.heap.IsListIter j1 l k) (n2:s.heap.IsTupleIter j2 t k) (g1:s.heap.IsList l xs) (g2:s.heap.IsTuple t ys) (hx:xs[k]?=some x) (hy:ys[k]?=some y)
  (hQ:∀h',IsZip h' q U V' (rawInt s.heap.objs.size)→IsPair h' V' x y→h'.IsListIter j1 l (k+1)→h'.IsTupleIter j2 t (k+1)→IsPair h' s.heap.objs.size x y→h'.objs.size=s.heap.objs.size+1→(∀c o,c≠q→c≠V'→c≠j1→c≠j2→s.heap.get? c=some o→h'.get? c=some o)→Q (.ref s.heap.objs.size) { s with heap:=h' }) :
  wpAny (model prog w) A (Builtin.«zip.__next__» ⟨[.ref q],[]⟩) (fun fin s'=>∃v,fin=.done (.ret v)∧Q v s') E s:=by
 show wpAny _ _ (field (.ref q) 2 >>= _) _ _ _
 refine wpAny_bind (wpAny_field z0 rfl (x:=.bool false) rfl ?_)
 show wpAny _ _ (field (.ref q) 3 >>= _) _ _ _
 refine wpAny_bind (wpAny_field z0 rfl (x:=.ref U) rfl (wpAny_bind (wpAny_seqItems u0 rfl ?_)))
 show wpAny _ _ (Builtin.SmallTypes.ownedTupleIsFree (.ref q) >>= _) _ _ _
 refine wpAny_bind ?_;unfold Builtin.SmallTypes.ownedTupleIsFree
 refine wpAny_bind (wpAny_field z0 rfl (x:=.none) rfl (wpAny_pure ?_));simp only [if_true]
 refine wpAny_bind (wpAny_rule (wpAny_bind (wpAny_field z0 rfl (x:=.ref V') rfl ?_)))
 refine wpAny_bind (wpAny_setField_rec z0 (by simp) fun h1 z1 s1=>?_)
 replace z1:IsZip h1 q U V' .ellipsis:=z1
 refine wpAny_bind ?_;simp only [List.zipIdx_cons,List.zipIdx_nil,List.forIn_cons,List.forIn_nil]
 refine wpAny_bind (wpAny_bind (wpAny_onRaise ?_));show wpAny _ _ (Builtin.SmallTypes.nextOf (.ref j1) >>= _) _ _ _
 refine wpAny_bind (wpAny_nextOf_list_item (n1.extBut s1.extBut D.i1z) (g1.extBut s1.extBut D.l1z) hx fun h2 n3 s2=>wpAny_pure ?_)
 have v2:IsPair h2 V' a b:=s2.extBut _ _ D.TOi1 (s1.extBut _ _ D.TOz v0)
 refine wpAny_bind (wpAny_seqItems v2 rfl (wpAny_bind (wpAny_updateSeq_pair v2 fun h3 v3 s3=>?_)))
 replace v3:IsPair h3 V' x b:=v3
 refine wpAny_bind (wpAny_letGo (wpAny_pure (wpAny_bind (wpAny_bind (wpAny_onRaise ?_)))));show wpAny _ _ (Builtin.SmallTypes.nextOf (.ref j2) >>= _) _ _ _
 refine wpAny_bind (nextTup (((n2.extBut s1.extBut D.i2z).extBut s2.extBut D.i12.symm).extBut s3.extBut D.TOi2.symm) (((g2.extBut s1.extBut D.l2z).extBut s2.extBut D.l2i1).extBut s3.extBut D.l2TO) hy fun h4 n4 s4=>wpAny_pure ?_)
 have v4:IsPair h4 V' x b:=s4.extBut _ _ D.TOi2 v3
 refine wpAny_bind (wpAny_seqItems v4 rfl (wpAny_bind (wpAny_updateSeq_pair v4 fun h5 v5 s5=>?_)))
 replace v5:IsPair h5 V' x y:=v5
 refine wpAny_bind (wpAny_letGo (wpAny_pure (wpAny_pure (wpAny_bind (wpAny_seqItems v5 rfl (wpAny_bind (wpAny_newTuple ?_)))))))
 have sz:h5.objs.size=s.heap.objs.size:=by rw [s5.1,s4.1,s3.1,s2.1,s1.1]
 have z5:IsZip h5 q U V' .ellipsis:=s5.extBut _ _ D.TOz.symm (s4.extBut _ _ D.i2z.symm (s3.extBut _ _ D.TOz.symm (s2.extBut _ _ D.i1z.symm z1)))
 have k5:∀c o,c≠q→c≠V'→c≠j1→c≠j2→s.heap.get? c=some o→h5.get? c=some o:=fun c o c1 c2 c3 c4 e=>s5.extBut _ _ c2 (s4.extBut _ _ c4 (s3.extBut _ _ c2 (s2.extBut _ _ c3 (s1.extBut _ _ c1 e))))
 have m1:h5.IsListIter j1 l (k+1):=((n3.extBut s3.extBut D.TOi1.symm).extBut s4.extBut D.i12).extBut s5.extBut D.TOi1.symm
 have m2:h5.IsTupleIter j2 t (k+1):=n4.extBut s5.extBut D.TOi2.symm
 have lq:q < h5.objs.size:=Heap.lt_size z5
 show wpAny _ _ (Builtin.SmallTypes.ownedTupleHandOut (.ref q) (.ref h5.objs.size) >>= _) _ _ _
 refine wpAny_bind ?_;unfold Builtin.SmallTypes.ownedTupleHandOut
 have z6:IsZip (h5.push { cls:=.type "tuple",data:=.seq #[x,y] }) q U V' .ellipsis:=Heap.get?_push_of_some _ z5
 refine wpAny_bind (wpAny_setField_rec z6 (by simp) fun h7 z7 s7=>?_)
 replace z7:IsZip h7 q U V' (rawInt h5.objs.size):=z7
 refine wpAny_setField_rec z7 (by simp) fun h8 z8 s8=>?_
 replace z8:IsZip h8 q U V' (rawInt h5.objs.size):=z8
 have up:∀c o,c≠q→h5.get? c=some o→h8.get? c=some o:=fun c o c1 e=>s8.extBut _ _ c1 (s7.extBut _ _ c1 (Heap.get?_push_of_some _ e))
 have t8:IsPair h8 h5.objs.size x y:=s8.extBut _ _ (Nat.ne_of_gt lq) (s7.extBut _ _ (Nat.ne_of_gt lq) (Heap.get?_push_size _ rfl))
 have e8:h8.objs.size=h5.objs.size+1:=by rw [s8.1,s7.1,Heap.size_push]
 rw [sz] at z8 t8 e8
 refine wpAny_pure ⟨_,rfl,?_⟩;show Q (.ref h5.objs.size) _
 rw [sz]
 exact hQ h8 z8 (up _ _ D.TOz v5) (m1.at fun o e=>up _ o D.i1z e) (IsTupleIter_at m2 fun o e=>up _ o D.i2z e) t8 e8 fun c o c1 c2 c3 c4 e=>up c o c1 (k5 c o c1 c2 c3 c4 e)
theorem zlt_end {q U V' j1 j2 l t:Addr} {k:Nat} {xs:Array Value} {a b:Value} {Q:Fin→Shared→Prop} (hh:A.handled=none) (D:ZipApart q U V' j1 j2 l t) (z0:IsZip s.heap q U V' .none) (u0:IsPair s.heap U (.ref j1) (.ref j2)) (v0:IsPair s.heap V' a b)
  (n1:s.heap.IsListIter j1 l k) (g1:s.heap.IsList l xs) (hx:xs[k]?=none)
  (hE:∀h' e,(∀c o,c≠q→c≠V'→c≠j1→c≠j2→s.heap.get? c=some o→h'.get? c=some o)→(∃o,h'.get? e=some o∧o.cls=.type "StopIteration")→E (.ref e) { s with heap:=h' }):wpAny (model prog w) A (Builtin.«zip.__next__» ⟨[.ref q],[]⟩) Q E s:=by
 show wpAny _ _ (field (.ref q) 2 >>= _) _ _ _
 refine wpAny_bind (wpAny_field z0 rfl (x:=.bool false) rfl ?_)
 show wpAny _ _ (field (.ref q) 3 >>= _) _ _ _
 refine wpAny_bind (wpAny_field z0 rfl (x:=.ref U) rfl (wpAny_bind (wpAny_seqItems u0 rfl ?_)))
 show wpAny _ _ (Builtin.SmallTypes.ownedTupleIsFree (.ref q) >>= _) _ _ _
 refine wpAny_bind ?_;unfold Builtin.SmallTypes.ownedTupleIsFree
 refine wpAny_bind (wpAny_field z0 rfl (x:=.none) rfl (wpAny_pure ?_));simp only [if_true]
 refine wpAny_bind (wpAny_rule (wpAny_bind (wpAny_field z0 rfl (x:=.ref V') rfl ?_)))
 refine wpAny_bind (wpAny_setField_rec z0 (by simp) fun h1 z1 s1=>?_)
 replace z1:IsZip h1 q U V' .ellipsis:=z1
 refine wpAny_bind ?_;simp only [List.zipIdx_cons,List.zipIdx_nil,List.forIn_cons,List.forIn_nil]
 refine wpAny_bind (wpAny_bind (wpAny_onRaise ?_));show wpAny _ _ (Builtin.SmallTypes.nextOf (.ref j1) >>= _) _ _ _
 refine wpAny_bind (wpAny_nextOf_list_end hh (n1.extBut s1.extBut D.i1z) (g1.extBut s1.extBut D.l1z) hx fun h2 e s2 he=>?_)
 obtain ⟨oe,e1,e2⟩:=he
 have z2:IsZip h2 q U V' .ellipsis:=s2 _ _ D.i1z.symm z1
 have ne:e≠q:=fun x=>by subst x;rw [z2] at e1;cases e1;simp at e2
 refine wpAny_setField_rec z2 (by simp) fun h3 _ s3=>hE h3 e (fun c o c1 _ c3 _ x=>s3.extBut _ _ c1 (s2 _ _ c3 (s1.extBut _ _ c1 x))) ⟨oe,s3.extBut _ _ ne e1,e2⟩
theorem zlt_next {q U V' j1 j2 l t:Addr} {k:Nat} {xs ys:Array Value} {x y a b:Value} {Q:Option Value→Shared→Prop} (D:ZipApart q U V' j1 j2 l t) (z0:IsZip s.heap q U V' .none) (u0:IsPair s.heap U (.ref j1) (.ref j2)) (v0:IsPair s.heap V' a b)
  (n1:s.heap.IsListIter j1 l k) (n2:s.heap.IsTupleIter j2 t k) (g1:s.heap.IsList l xs) (g2:s.heap.IsTuple t ys) (hx:xs[k]?=some x) (hy:ys[k]?=some y)
  (hQ:∀h',IsZip h' q U V' (rawInt s.heap.objs.size)→IsPair h' V' x y→h'.IsListIter j1 l (k+1)→h'.IsTupleIter j2 t (k+1)→IsPair h' s.heap.objs.size x y→h'.objs.size=s.heap.objs.size+1→(∀c o,c≠q→c≠V'→c≠j1→c≠j2→s.heap.get? c=some o→h'.get? c=some o)→Q (some (.ref s.heap.objs.size)) { s with heap:=h' }) :
  wpAny (model prog w) A (pyNext (.ref q)) Q E s:=by
 have ty:s.TypeIs (.ref q) "zip":=⟨_,z0,rfl⟩
 unfold pyNext
 exact wpAny_bind (wpAny_attempt (wpAny_callSpecial?_slot (name:=Str.ofString "__next__") ty F.slot_zip_next (wpAny_call_entry F.slot_zip_next ty F.entry_zip_next (zlt_item D z0 u0 v0 n1 n2 g1 g2 hx hy fun h' a1 a2 a3 a4 a5 a6 a7=>wpAny_pure (hQ h' a1 a2 a3 a4 a5 a6 a7)) (F.args_zip_next_1 _))))
theorem zlt_stop {q U V' j1 j2 l t:Addr} {k:Nat} {xs:Array Value} {a b:Value} {Q:Option Value→Shared→Prop} (hh:A.handled=none) (D:ZipApart q U V' j1 j2 l t) (z0:IsZip s.heap q U V' .none) (u0:IsPair s.heap U (.ref j1) (.ref j2)) (v0:IsPair s.heap V' a b)
  (n1:s.heap.IsListIter j1 l k) (g1:s.heap.IsList l xs) (hx:xs[k]?=none) (hQ:∀h',(∀c o,c≠q→c≠V'→c≠j1→c≠j2→s.heap.get? c=some o→h'.get? c=some o)→Q none { s with heap:=h' }):wpAny (model prog w) A (pyNext (.ref q)) Q E s:=by
 have ty:s.TypeIs (.ref q) "zip":=⟨_,z0,rfl⟩
 unfold pyNext
 refine wpAny_bind (wpAny_attempt (wpAny_callSpecial?_slot (name:=Str.ofString "__next__") ty F.slot_zip_next (wpAny_call_entry F.slot_zip_next ty F.entry_zip_next (zlt_end hh D z0 u0 v0 n1 g1 hx fun h' e hk he=>?_) (F.args_zip_next_1 _))))
 obtain ⟨o,e1,e2⟩:=he
 exact wpAny_bind (wpAny_isInstance (T:="StopIteration") (b:=true) ⟨o,e1,e2⟩ isSubtype_stop (wpAny_pure (hQ _ hk)))
end
abbrev zlt1 (h:Heap) (l:Addr):Heap:=h.push { cls:=.type "list_iterator",data:=.fields #[.ref l,.int 0 0] }
abbrev zlt2 (h:Heap) (l t:Addr):Heap:=(zlt1 h l).push { cls:=.type "tuple_iterator",data:=.fields #[.ref t,.int 0 0] }
abbrev zlt3 (h:Heap) (l t:Addr):Heap:=(zlt2 h l t).push { cls:=.type "tuple",data:=.seq #[.ref h.objs.size,.ref (zlt1 h l).objs.size] }
abbrev zlt4 (h:Heap) (l t:Addr):Heap:=(zlt3 h l t).push { cls:=.type "tuple",data:=.seq #[.none,.none] }
abbrev zlt5 (h:Heap) (l t:Addr):Heap:=(zlt4 h l t).push { cls:=.type "zip",data:=.fields #[.none,.bool false,.bool false,.ref (zlt2 h l t).objs.size,.ref (zlt3 h l t).objs.size] }
theorem zlt_new (l t:Addr) (xs ys:Array Value):Meets (Builtin.«zip.__new__» ⟨[.type "zip",.ref l,.ref t],[]⟩) (fun _ R s=>s.heap.IsList l xs∧s.heap.IsTuple t ys∧R (.ok (.ret (.ref (zlt4 s.heap l t).objs.size))) { s with heap:=zlt5 s.heap l t }):=
 .of_wp fun prog w A R s h=>by
  obtain ⟨hp,g,d,tk,os⟩:=s
  obtain ⟨g1,g2,h⟩:=h
  have hsub:=sub_zip
  have L1:Heap.IsList (Shared.heap ⟨hp,g,d,tk,os⟩) l xs:=g1
  have L2:Heap.IsTuple (Shared.heap ⟨hp.push { cls:=.type "list_iterator",data:=.fields #[.ref l,.int 0 0] },g,d,tk,os⟩) t ys:=Heap.IsTuple.push g2 _
  wp_walk using wpAny_pyIter_list L1,wpAny_pyIter_tuple L2
  exact ⟨_,rfl,h⟩
section
variable {prog:Program} {w:World} {A:Around} {E:Value→Shared→Prop} {s:Shared}
theorem call_zlt {l t:Addr} {xs ys:Array Value} {Q:Value→Shared→Prop} (g1:s.heap.IsList l xs) (g2:s.heap.IsTuple t ys)
  (h:∀h',IsZip h' (s.heap.objs.size+4) (s.heap.objs.size+2) (s.heap.objs.size+3) .none→IsPair h' (s.heap.objs.size+2) (.ref s.heap.objs.size) (.ref (s.heap.objs.size+1))→IsPair h' (s.heap.objs.size+3) .none .none→h'.IsListIter s.heap.objs.size l 0→h'.IsTupleIter (s.heap.objs.size+1) t 0→(∀c o,s.heap.get? c=some o→h'.get? c=some o)→Q (.ref (s.heap.objs.size+4)) { s with heap:=h' }) :
  wpAny (model prog w) A (call (.type "zip") [.ref l,.ref t]) Q E s:=by
 refine callType_new F.called_zip (by decide) (F.typeCall_zip_2 _ _) (F.newCall_zip_2 _ _) (fun obj=>F.args_object_init_3 obj _ _) F.entry_zip_new (zlt_new l t xs ys) ⟨g1,g2,?_⟩
 have e1:(zlt1 s.heap l).objs.size=s.heap.objs.size+1:=Heap.size_push ..
 have e2:(zlt2 s.heap l t).objs.size=s.heap.objs.size+2:=by rw [Heap.size_push,e1]
 have e3:(zlt3 s.heap l t).objs.size=s.heap.objs.size+3:=by rw [Heap.size_push,e2]
 have e4:(zlt4 s.heap l t).objs.size=s.heap.objs.size+4:=by rw [Heap.size_push,e3]
 have b5:(zlt5 s.heap l t).get? (zlt4 s.heap l t).objs.size=some _:=Heap.get?_push_size _ rfl
 have b4:(zlt5 s.heap l t).get? (zlt3 s.heap l t).objs.size=some _:=Heap.get?_push_of_some _ (Heap.get?_push_size _ rfl)
 have b3:(zlt5 s.heap l t).get? (zlt2 s.heap l t).objs.size=some _:=Heap.get?_push_of_some _ (Heap.get?_push_of_some _ (Heap.get?_push_size _ rfl))
 have b2:(zlt5 s.heap l t).get? (zlt1 s.heap l).objs.size=some _:=Heap.get?_push_of_some _ (Heap.get?_push_of_some _ (Heap.get?_push_of_some _ (Heap.get?_push_size _ rfl)))
 have b1:(zlt5 s.heap l t).get? s.heap.objs.size=some _:=Heap.get?_push_of_some _ (Heap.get?_push_of_some _ (Heap.get?_push_of_some _ (Heap.get?_push_of_some _ (Heap.get?_push_size _ rfl))))
 show _∧_
 rw [e2,e3,e4] at b5;rw [e1,e2] at b3;rw [e3] at b4;rw [e1] at b2;rw [e4]
 exact ⟨⟨_,b5,rfl⟩,h _ b5 b3 b4 ⟨_,b1,rfl,rfl⟩ ⟨_,b2,rfl,rfl⟩ fun c o x=>Heap.get?_push_of_some _ (Heap.get?_push_of_some _ (Heap.get?_push_of_some _ (Heap.get?_push_of_some _ (Heap.get?_push_of_some _ x))))⟩
end
end PySem
namespace Pr
open PySem PySem.Spec PyProof.Rows L2 Mt
open Vbrgae (Level Spot thingsIn boardOf numberOf spots act leverBit bitOf marked inHand over Found ACTS search fresh reached gather widen)
open PySem.W (CodeHd kla_obj kla_fn)
variable {P:Program} {w:World} {K:PySem.W.Frag} {mg:Str→Option Value} {base:Heap} {Cb Cs:Addr}
def mQ (K:PySem.W.Frag) (a b:Addr):It:=
 ⟨fun i H=>∃(xs ys:List V) (x y:V),SqL K H a xs∧SqT K H b ys∧xs[i]?=some x∧ys[i]?=some y,
  fun i H v H'=>∃T x y,v=.ref T∧H T=none∧H'=a8 H T (.tup [x,y])∧(∀xs,SqL K H a xs→xs[i]?=some x)∧∀ys,SqT K H b ys→ys[i]?=some y,
  fun i H=>∃xs:List V,SqL K H a xs∧xs.length≤i⟩
theorem Bq {P:Program} {w:World} {K:PySem.W.Frag} {elts:List Expr} {kk:Nat} {tpos:Pos} {a b q U V' j1 j2:Addr} (D:ZipApart q U V' j1 j2 a b) :
  N3 P w K (.Tuple elts kk tpos) (mQ K a b) [q,U,V',j1,j2] q (fun i h=>IsZip h q U V' .none∧IsPair h U (.ref j1) (.ref j2)∧(∃x y,IsPair h V' x y)∧h.IsListIter j1 a i∧h.IsTupleIter j2 b i) where
 mem:=by simp
 obj:=fun i h st c hc=>by
  obtain ⟨z0,u0,⟨x,y,v0⟩,⟨o1,e1,_,d1⟩,⟨o2,e2,_,d2⟩⟩:=st
  have e':c=q∨c=U∨c=V'∨c=j1∨c=j2:=by simpa using hc
  rcases e' with rfl|rfl|rfl|rfl|rfl
  ·exact ⟨_,z0,fun v q=>nomatch q⟩
  ·exact ⟨_,u0,fun v q=>nomatch q⟩
  ·exact ⟨_,v0,fun v q=>nomatch q⟩
  ·exact ⟨o1,e1,fun v q=>by rw [d1] at q;cases q⟩
  ·exact ⟨o2,e2,fun v q=>by rw [d2] at q;cases q⟩
 keep:=fun i h h' st k=>by
  obtain ⟨z0,u0,⟨x,y,v0⟩,n1,n2⟩:=st
  exact ⟨k q (by simp) _ z0,k U (by simp) _ u0,⟨x,y,k V' (by simp) _ v0⟩,n1.at fun o e=>k j1 (by simp) o e,IsTupleIter_at n2 fun o e=>k j2 (by simp) o e⟩
 item:=by
  intro X hP hw hK hc i pins s σ H E I hf st hg
  subst hP hw hK
  obtain ⟨z0,u0,⟨x0,y0,v0⟩,n1,n2⟩:=st
  obtain ⟨xs,ys,x,y,hqx,hqy,hx,hy⟩:=hg
  obtain ⟨its,rv,p,_⟩:=I.list hqx
  obtain ⟨its2,rv2,p2,_⟩:=I.tuple hqy
  obtain ⟨u,hu,ru⟩:=rv.get hx
  obtain ⟨u2,hu2,ru2⟩:=rv2.get hy
  have lq:q < s.heap.objs.size:=Heap.lt_size z0
  refine zlt_next D z0 u0 v0 n1 n2 p.isList (show s.heap.IsTuple b its2.toArray from p2) (x:=u) (y:=u2) (by simpa using hu) (by simpa using hu2) fun h' z1 v1 m1 m2 hT hsz hk=>?_
  refine ⟨_,rfl,wpAny_letOwnedTupleGo_zip (s:={ s with heap:=h' }) z1 fun h2 z2 sb=>?_⟩
  have t2:h2.get? s.heap.objs.size=some { cls:=.type "tuple",data:=.seq #[u,u2] }:=(sb.2 _ (Nat.ne_of_gt lq)).trans hT
  have new:ObjOk X.prog X.w (a8 H s.heap.objs.size (.tup [x,y])) h2 s.heap.objs.size (.tup [x,y]):=⟨by show 2≤sizeLine;decide,[u,u2],.cons ru (.cons ru2 .nil),⟨_,t2,rfl,_,rfl⟩⟩
  have I1:Inv X pins σ (a8 H s.heap.objs.size (.tup [x,y])) { s with heap:=h2 }:=I.turnedNew (t':=s.toks) (ch:=[q,U,V',j1,j2]) (fun c o hb e=>(sb.2 c (fun z=>hb (by simp [z]))).trans (hk c o (fun z=>hb (by simp [z])) (fun z=>hb (by simp [z])) (fun z=>hb (by simp [z])) (fun z=>hb (by simp [z])) e)) hf (Nat.le_refl _) new
  refine ⟨.ref s.heap.objs.size,_,I1,rfl,⟨_,x,y,rfl,I.hok.fresh (Nat.le_refl _),rfl,fun l hl=>by rw [I.list_inj hl hqx];exact hx,fun l hl=>by rw [I.tuple_inj hl hqy];exact hy⟩,⟨z2,(sb.2 _ D.TIz).trans (hk _ _ D.TIz D.TITO D.TIi1 D.TIi2 u0),⟨u,u2,(sb.2 _ D.TOz).trans v1⟩,m1.at fun o e=>(sb.2 _ D.i1z).trans e,IsTupleIter_at m2 fun o e=>(sb.2 _ D.i2z).trans e⟩,fun c hcm=>?_⟩
  have hlt:c < s.heap.objs.size:=by
   have e':c=q∨c=U∨c=V'∨c=j1∨c=j2:=by simpa using hcm
   rcases e' with rfl|rfl|rfl|rfl|rfl
   ·exact lq
   ·exact Heap.lt_size u0
   ·exact Heap.lt_size v0
   ·obtain ⟨_,e1,_⟩:=n1;exact Heap.lt_size e1
   ·obtain ⟨_,e2,_⟩:=n2;exact Heap.lt_size e2
  rw [a9 (Nat.ne_of_lt hlt)]
  exact (hf c hcm).1
 done:=by
  intro X hP hw hK hc i pins s σ H E I hf st hg
  subst hP hw hK
  obtain ⟨z0,u0,⟨x0,y0,v0⟩,n1,n2⟩:=st
  obtain ⟨xs,hqx,hend⟩:=hg
  obtain ⟨its,rv,p,_⟩:=I.list hqx
  have l1:=rv.length
  exact zlt_stop (I.ok.hd hc) D z0 u0 v0 n1 p.isList (by simp;omega) fun h' hk=>⟨rfl,I.turnedL (t':=s.toks) (ch:=[q,U,V',j1,j2]) (fun c o hb e=>hk c o (fun z=>hb (by simp [z])) (fun z=>hb (by simp [z])) (fun z=>hb (by simp [z])) (fun z=>hb (by simp [z])) e) hf⟩
 self:=fun A i s Q E st h=>wpAny_pyIter_zip st.1 h
def uS (K:PySem.W.Frag) (ta:TA):TI:=fun σ H R=>ta σ H fun vs H1=>∃a b xs ys,vs=[.ref a,.ref b]∧SqL K H1 a xs∧SqT K H1 b ys∧R (mQ K a b) H1
theorem xJ {X:Cx} {e e2:Expr} {ta:TA} {p pos tpos:Pos} {elts:List Expr} {kk:Nat} (hg:Gl X "zip") (hm:X.mg "zip"=none) (ha:PA X [e,e2] ta) (hs:starEach [e,e2] X.env=(false,eval e X.env)::starEach [e2] X.env:=by rfl) (hpl:(backTo pos (starEach [e2] X.env)).any (·.1)=false:=by rfl) :
  PI X (.Tuple elts kk tpos) (.Call (.Name "zip" p) [e,e2] [] pos) (uS X.K ta):=by
 intro pins s σ H R I h
 refine Call_ (R8 I hg hm uA (PyProof.Rows.callWith_type1 (g6 (ha pos pins s σ H _ I h) fun us s1 ⟨vs,H1,I1,r1,q1⟩=>?_) hs hpl))
 obtain ⟨a,b,xs,ys,ex,hqx,hqy,q⟩:=q1
 subst ex
 obtain ⟨u1,u2,rfl,ra,rb⟩:∃u1 u2,us=[u1,u2]∧RelV (.ref a) u1∧RelV (.ref b) u2:=by
  cases r1 with
  | cons r rr=>
   cases rr with
   | cons r' rr=>
    cases rr
    exact ⟨_,_,rfl,r,r'⟩
 cases ra
 cases rb
 obtain ⟨its,rv,p1,_⟩:=I1.list hqx
 obtain ⟨its2,rv2,p2,_⟩:=I1.tuple hqy
 have la:a < s1.heap.objs.size:=p1.lt
 have lb:b < s1.heap.objs.size:=by obtain ⟨o,e,_⟩:=p2;exact Heap.lt_size e
 refine call_zlt p1.isList (show s1.heap.IsTuple b its2.toArray from p2) fun h' z0 u0 v0 n1 n2 hk=>wpAny_pyIter_zip z0 ?_
 have I2:Inv X pins σ H1 { s1 with heap:=h' }:=I1.kept (t':=s1.toks) hk
 refine ⟨s1.heap.objs.size+4,[s1.heap.objs.size+4,s1.heap.objs.size+2,s1.heap.objs.size+3,s1.heap.objs.size,s1.heap.objs.size+1],_,_,H1,rfl,I2,Bq (PySem.W.ktu_apart s1.heap.objs.size a b la lb),⟨z0,u0,⟨_,_,v0⟩,n1,n2⟩,fun c hcm=>?_,q⟩
 have hle:s1.heap.objs.size≤c:=by
  have e':c=s1.heap.objs.size+4∨c=s1.heap.objs.size+2∨c=s1.heap.objs.size+3∨c=s1.heap.objs.size∨c=s1.heap.objs.size+1:=by simpa using hcm
  rcases e' with rfl|rfl|rfl|rfl|rfl
  ·exact Nat.le_add_right _ _
  ·exact Nat.le_add_right _ _
  ·exact Nat.le_add_right _ _
  ·exact Nat.le_refl _
  ·exact Nat.le_add_right _ _
 exact I1.fpOk hle (I1.hok.fresh hle)
inductive Chain (H:Hp) (kvs:List (d9×V)):Nat→List Nat→Prop
 | root {n:Nat}:i7 kvs (Sum.inl (n:Int))=some .non→Chain H kvs n []
 | step {n b a:Nat} {t:Addr} {l:List Nat}:i7 kvs (Sum.inl (n:Int))=some (.ref t)→H t=some (.tup [nv b,nv a])→Chain H kvs b l→Chain H kvs n (a::l)
theorem Chain.mono {H H':Hp} {kvs kvs':List (d9×V)} {n:Nat} {l:List Nat} (c:Chain H kvs n l) (h:∀t xs,H t=some (.tup xs)→H' t=some (.tup xs)) (hk:∀k v,i7 kvs k=some v→i7 kvs' k=some v):Chain H' kvs' n l:=by
 induction c with
 | root e=>exact .root (hk _ _ e)
 | step e q _ ih=>exact .step (hk _ _ e) (h _ _ q) ih
def wP:P2:=fun x y H Q=>∃n od kvs l,x=nv n∧y=.ref od∧H od=some (.dK kvs)∧Chain H kvs n l∧l.length≤100000∧∀H' r,Same H H'→H r=none→H' r=some (.lst (l.reverse.map nv))→Q (.ref r) H'
def iB (H:Hp) (kvs:List (d9×V)) (o:V) (rest:List Nat):Prop:=(rest=[]∧o=.non)∨∃t b a r,o=.ref t∧rest=a::r∧H t=some (.tup [nv b,nv a])∧Chain H kvs b r
theorem Chain.org {H:Hp} {kvs:List (d9×V)} {n:Nat} {l:List Nat} (c:Chain H kvs n l):∃o,i7 kvs (Sum.inl (n:Int))=some o∧iB H kvs o l:=by
 cases c with
 | root e=>exact ⟨_,e,.inl ⟨rfl,rfl⟩⟩
 | step e q c=>exact ⟨_,e,.inr ⟨_,_,_,_,rfl,rfl,q,c⟩⟩
theorem tT (T:i5 P w K mg Cb Cs):k7 P w K mg base 1 "acts_to" ["spot","origins"] (x4 wP):=by
 refine T.d_acts_to.ok (N:=["spot","origins","acts","origin"]) ⟨rfl,rfl,rfl,by rfl',rfl,by rfl',by rfl'⟩ (fun _ _ _ _=>l2) (fun vs H Q E h f cdv A outer s E' hr=>?_)
 obtain ⟨_,_,rfl,n,od,kvs,l,rfl,rfl,ho,hc,hl,k⟩:=h
 have nd:(["spot","origins","acts","origin"]:List Str).Nodup:=by rfl'
 refine ⟨_,(d7 (j4 (i:=2) nd rfl (Or.inl rfl) (l5 c9)) (d7 (j4 (i:=3) nd rfl (Or.inl rfl) (L3 (p7 hr) (pv 1) (pv 0) (fun _ _=>rfl))) (d7 (Z0 PassesOwn.never (K2 (Dp (pv 3))) (d7 (A7 (F3 PySem.F.plainAttrs_list PySem.F.slot_list_append PySem.F.type_list_append N2 (pv 2) (c7 (j8 y4 (pv 3) j0 (fun _ _=>rfl)) c9))) (f7 (j4 (i:=3) nd rfl (Or.inl rfl) (L3 (p7 hr) (pv 1) (j8 y4 (pv 3) j0 (fun _ _=>rfl)) (fun _ _=>rfl)))))) (d7 (A7 (pZ PySem.F.plainAttrs_list PySem.F.slot_list_reverse PySem.F.type_list_reverse wL (pv 2))) (f7 (i0 (pv 2))))))),?_⟩
 refine ⟨Nat.zero_le _,fun r hr0=>?_⟩
 have s0:Same H (a8 H r (.lst [])):=Same.new hr0
 obtain ⟨o,e0,h0⟩:=hc.org
 refine ⟨_,rfl,_,rfl,_,_,rfl,G2 (s0 _ _ ho) e0,?_⟩
 refine ⟨fun m σ H'=>∃o done rest,σ=[some (nv n),some (.ref od),some (.ref r),some o]∧Same H H'∧H' r=some (.lst (done.map nv))∧l=done++rest∧iB H kvs o rest∧m=rest.length,⟨_,o,[],l,rfl,s0,c8,rfl,h0,rfl⟩,?_⟩
 rintro m σ H' ⟨o,done,rest,rfl,s1,q1,q2,q3,rfl⟩
 refine ⟨_,rfl,_,rfl,?_⟩
 rcases q3 with ⟨rfl,rfl⟩|⟨t,b,a,rest',rfl,rfl,q4,q5⟩
 ·refine rM rfl ⟨_,rfl,.inl ⟨rfl,_,SqL.of q1⟩,r,_,rfl,rfl,q1,_,rfl,k _ r (fun b o q=>?_) hr0 ?_⟩
  ·rw [a9 (d8 q hr0)]
   exact s1 _ _ q
  ·rw [List.append_nil] at q2
   rw [c8,q2,List.map_reverse]
 ·have hne:(!decide (V.ref t=V.non))=true:=by
   rw [decide_eq_false (by intro z;cases z)]
   rfl
  have hlen:done.length < 100000:=by
   rw [q2,List.length_append,List.length_cons] at hl
   omega
  rw [hne]
  refine k8 ⟨fun σ H2=>∃o done rest,σ=[some (nv n),some (.ref od),some (.ref r),some o]∧Same H H2∧H2 r=some (.lst (done.map nv))∧l=done++rest∧iB H kvs o rest∧rest.length=rest'.length,fun σ' H2 ⟨o,done,rest,a1,a2,a3,a4,a5,a6⟩=>⟨rest.length,by rw [List.length_cons];omega,o,done,rest,a1,a2,a3,a4,a5,rfl⟩,?_⟩
  obtain ⟨o',e1,h1⟩:=q5.org
  have q4':=s1 _ _ q4
  refine ⟨_,rfl,.inl ⟨rfl,_,SqL.of q1⟩,_,rfl,_,_,_,_,rfl,rfl,SqT.of q4',l7 (j:=1) rfl,r,_,_,rfl,rfl,q1,(by rw [List.length_map];exact Nat.lt_of_lt_of_le hlen (by decide)),?_⟩
  have hrt:t≠r:=f8 q4' q1 (by intro z;cases z)
  have hro:od≠r:=f8 (s1 _ _ ho) q1 (by intro z;cases z)
  refine ⟨_,rfl,_,rfl,_,_,_,_,rfl,rfl,SqT.of (by rw [a9 hrt];exact q4'),l7 (j:=0) rfl,_,_,rfl,G2 (by rw [a9 hro];exact s1 _ _ ho) e1,?_⟩
  refine ⟨o',done++[a],rest',rfl,fun b o q=>?_,?_,?_,h1,rfl⟩
  ·rw [a9 (d8 q hr0)]
   exact s1 _ _ q
  ·rw [c8,List.map_append]
   rfl
  ·rw [q2,List.append_assoc]
   rfl
section
variable (P:Program) (w:World) (K:PySem.W.Frag) (mg:Str→Option Value) (base:Heap)
def cR (k:Nat) (x:Str) (ps:List Str) (sp:List (Addr×V)→Sp):Prop:=∃f fd,mg x=some (.ref f)∧PySem.W.keepIn K (.ref f)=true∧Binds K fd ps []∧∀zs,FnOkZ P w K mg base x8 k f fd ps zs (sp zs)
end
section
variable {P:Program} {w:World} {K:PySem.W.Frag} {mg:Str→Option Value} {base:Heap}
theorem Df.okZ {x qual:Str} {st:Stmt} {N ps:List Str} {k:Nat} {sp:List (Addr×V)→Sp} (D:Df K mg x qual st ps) (S:N0 N ps (k9 st)) (len:∀zs vs H Q E,sp zs vs H Q E→vs.length=ps.length)
  (hb:∀(zs:List (Addr×V)) (vs:List V) (H:Hp) (Q:VK) (E:XK),sp zs vs H Q E→∀(f:Addr) (cdv:Value) (A:Around) (outer:List Env) (s:Shared) (E':XK),Room k (A.deeper (envOfC qual (k9 st) s.heap.objs.size f cdv))→CellsAt zs s.heap H (C4 outer)→
   ∃t,PSs (F7 x8 P w K mg base N qual (k9 st) f cdv A outer s H E').nox (E2 st) t∧t { nx:=fun _ H'=>Q .non H',rt:=Q } (start N vs) H):cR P w K mg base (k+1) x ps sp:=by
 obtain ⟨f,fd,h1,h2,h3⟩:=D.ex
 exact ⟨f,fd,h1,h2.kp,h3,fun zs=>Fun.okZ h2 S (len zs) fun cdv A outer s H vs Q E _ hr hz hs=>hb zs vs H Q E hs f cdv A outer s E hr hz⟩
end
def Ce (X:Cx) (sp:List (Addr×V)→Sp) (t:TA):TE:=fun σ H Q=>t σ H fun vs H1=>∃zs,(∀pins s,L2.Inv X pins σ H1 s→CellsAt zs s.heap H1 (C4 X.stack))∧sp zs vs H1 Q E0
theorem X4 {X:Cx} {k j:Nat} {x:Str} {ps:List Str} {sp:List (Addr×V)→Sp} {e:Expr} {es:List Expr} {t:TA} {p pos:Pos} (h:cR X.prog X.w X.K X.mg X.base k x ps sp) (hr:Room j X.A) (hj:k≤j) (ha:PA X (e::es) t) (hg:Gl X x:=by rfl) (hdb:(x==("__debug__":Str))=false:=by decide)
  (he:starEach (e::es) X.env=(false,eval e X.env)::starEach es X.env:=by rfl) (hpl:(backTo pos (starEach es X.env)).any (·.1)=false:=by rfl) :
  PE X (.Call (.Name x p) (e::es) [] pos) (Ce X sp t):=by
 obtain ⟨f,fd,hm,hk,hb,F⟩:=h
 intro pins s σ H Q I h
 refine wpAny_Call_Name_kw (X0 I hg hm ?_ hdb)
 refine PySem.W.callWith_K (h₀:=X.base) I.ok.mod.kin hk (g6 (ha pos pins s σ H _ I h) fun us s1 ⟨vs,H1,I1,r,zs,hz,q⟩=>⟨I1.kIn,?_⟩) he hpl
 have hl:us.length=ps.length:=by rw [←r.length];exact (F zs).len _ _ _ _ q
 refine wpAny_call (codeAny_mono ((F zs).run X.A X.stack s1 H1 ⟨us,[]⟩ us vs Q E0 (hr.mono hj) I1.env0 (hz pins s1 I1) (hb.at I1.kIn hl) r q) fun r s' hq=>?_)
 cases r with
 | error e=>exact False.elim hq
 | ok fl=>
  cases fl with
  | ret u=>exact I1.after hq
  | next=>exact False.elim hq
  | brk=>exact False.elim hq
  | cont=>exact False.elim hq
structure Goal (P:Program) (w:World) (K:PySem.W.Frag) (mg:Str→Option Value) (base:Heap) (k:Nat) (zs:List (Addr×V)) (Cb p:Addr) (a:Ad) (L:Level) (s0:Spot) (gf:Addr) (M:Addr→Prop) (I:Hp→Prop) (Fp:Hp→Addr→Prop) (H0:Hp) (pg:Spot→Bool):Prop where
 bd:∀H,I H→Bd Cb H p a L
 mkd:M a.kd
 mthere:∀H b,I H→M b→∃o,H b=some o∧(∀xs,o≠.lst xs)∧∀xs,o≠.tup xs
 fresh:∀H r,I H→H r=none→¬Fp H r
 kv:∀H r,Kv H a.kd r→Fp H r
 step:∀H H',I H→Bd Cb H' p a L→But a.kd H H'→(∀r,H r≠none→¬Kv H a.kd r→¬Kv H' a.kd r)→I H'∧∀r,H r≠none→¬Fp H r→¬Fp H' r
 own:∀H r o,I H→H0 r=none→¬Fp H r→(∀c q,o≠A6 c q)→I (a8 H r o)∧∀q,¬Fp H q→¬Fp (a8 H r o) q
 same:∀H H',I H→Same H H'→I H'∧∀r,H r≠none→¬Fp H r→¬Fp H' r
 call:∃(fd:FuncData) (x:Str) (sp:Sp) (o:Obj),FnOkZ P w K mg base x8 k gf fd [x] zs sp∧(∀(s:Shared) (us:List Value),us.length=([x]:List Str).length→BindsTo s fd ⟨us,[]⟩ (([x]:List Str).zip us))∧(∀H,I H→H gf=some (J4 gf o))∧o.data=.func fd∧
  ∀(H:Hp) (s:Spot) (Q:VK),I H→Good L s→Lead L s0 s→(∀H',I H'→(∀b o,H b=some o→¬M b→H' b=some o)→(∀r,H r≠none→¬Fp H r→¬Fp H' r)→Q (.bl (pg s)) H')→sp [nv (c0 L s)] H Q E0
abbrev g7 (n:Nat):d9:=Sum.inl (n:Int)
structure Ex (I:Hp→Prop) (Fp:Hp→Addr→Prop) (M:Addr→Prop) (pg:Spot→Bool) (L:Level) (s0:Spot) (N:Nat) (H:Hp) (od lay fr:Addr) (ring:List Found) (ks:List Nat) (fl:List Found) (y:List Found×Array Bool) (H':Hp) (kvs:List (d9×V)):Prop where
 inv:I H'
 frm:∀b o,H b=some o→¬M b→H' b=some o
 fpk:∀r,H r≠none→¬Fp H r→¬Fp H' r
 odv:H' od=some (.dK kvs)
 odf:¬Fp H' od
 layv:H' lay=some (.lst (ring.map fun f=>nv (p4 L f)))
 layf:¬Fp H' lay
 frv:H' fr=some (.lst (fl.reverse.map fun f=>nv (p4 L f)))
 frf:¬Fp H' fr
 wd:Wd L s0 ks y
 keys:kvs.map (·.1)=(wk L ks y).map g7
 chr:∀f∈ring,Chain H' kvs (p4 L f) f.acts∧f.acts.length < N
 chy:∀f∈y.1,Chain H' kvs (p4 L f) f.acts∧f.acts.length≤N
 nog:∀f∈fl,pg f.spot=false
theorem dE {ks:List Nat} {n:Nat}:g7 n∈ks.map g7↔n∈ks:=by
 rw [List.mem_map]
 constructor
 ·rintro ⟨m,h1,h2⟩
  have:m=n:=Int.ofNat.inj (Sum.inl.inj h2)
  subst this
  exact h1
 ·exact fun h=>⟨n,h,rfl⟩
theorem V8 {kvs:List (d9×V)} {ks:List Nat} {n:Nat} (h:kvs.map (·.1)=ks.map g7):(i7 kvs (g7 n)).isSome=decide (n∈ks):=by
 cases e:i7 kvs (g7 n) with
 | none=>
  have:=oK e
  rw [h,dE] at this
  rw [decide_eq_false this]
  rfl
 | some v=>
  have:=hU e
  rw [h,dE] at this
  rw [decide_eq_true this]
  rfl
section
variable {P:Program} {w:World} {K:PySem.W.Frag} {mg:Str→Option Value} {base:Heap} {Cb Cs:Addr}
 {k:Nat} {zs:List (Addr×V)} {p:Addr} {a:Ad} {L:Level} {s0:Spot} {gf:Addr} {M:Addr→Prop} {I:Hp→Prop} {Fp:Hp→Addr→Prop} {H:Hp} {pg:Spot→Bool}
 {N:Nat} {od lay fr:Addr} {ring fl:List Found} {ks:List Nat} {y:List Found×Array Bool} {H' H'':Hp} {kvs:List (d9×V)}
theorem Goal.mno (G:Goal P w K mg base k zs Cb p a L s0 gf M I Fp H pg) (hI:I H) {b:Addr} (h:H b=none):¬M b:=fun m=>by
 obtain ⟨o,e,_⟩:=G.mthere H b hI m
 rw [h] at e
 cases e
theorem Goal.mlst (G:Goal P w K mg base k zs Cb p a L s0 gf M I Fp H pg) (hI:I H') {b:Addr} {xs:List V} (h:H' b=some (.lst xs)):¬M b:=fun m=>by
 obtain ⟨o,e,n,_⟩:=G.mthere H' b hI m
 rw [h] at e
 exact n xs (Option.some.inj e).symm
theorem Goal.mtup (G:Goal P w K mg base k zs Cb p a L s0 gf M I Fp H pg) (hI:I H') {b:Addr} {xs:List V} (h:H' b=some (.tup xs)):¬M b:=fun m=>by
 obtain ⟨o,e,_,n⟩:=G.mthere H' b hI m
 rw [h] at e
 exact n xs (Option.some.inj e).symm
theorem Ex.new (G:Goal P w K mg base k zs Cb p a L s0 gf M I Fp H pg) (hI:I H) (E:Ex I Fp M pg L s0 N H od lay fr ring ks fl y H' kvs) {r:Addr} (h:H' r=none):H r=none:=by
 cases q:H r with
 | none=>rfl
 | some o=>
  by_cases m:M r
  ·obtain ⟨o',e,_⟩:=G.mthere H' r E.inv m
   rw [h] at e
   cases e
  ·rw [E.frm r o q m] at h
   cases h
theorem Ex.keep (G:Goal P w K mg base k zs Cb p a L s0 gf M I Fp H pg) (hI:I H) (odn:H od=none) (layn:H lay=none) (frn:H fr=none) (E:Ex I Fp M pg L s0 N H od lay fr ring ks fl y H' kvs)
  (hi:I H'') (hf:∀b o,H' b=some o→¬M b→H'' b=some o) (hp:∀r,H' r≠none→¬Fp H' r→¬Fp H'' r):Ex I Fp M pg L s0 N H od lay fr ring ks fl y H'' kvs:=by
 have mo:=G.mno hI odn
 have ml:=G.mno hI layn
 have mf:=G.mno hI frn
 have ch:∀{n l},Chain H' kvs n l→Chain H'' kvs n l:=fun c=>c.mono (fun t xs e=>hf _ _ e (G.mtup E.inv e)) fun _ _ e=>e
 refine ⟨hi,fun b o e n=>hf _ _ (E.frm b o e n) n,fun r e q=>?_,hf _ _ E.odv mo,hp _ (by rw [E.odv];intro z;cases z) E.odf,hf _ _ E.layv ml,hp _ (by rw [E.layv];intro z;cases z) E.layf,hf _ _ E.frv mf,hp _ (by rw [E.frv];intro z;cases z) E.frf,E.wd,E.keys,fun f hf=>⟨ch (E.chr f hf).1,(E.chr f hf).2⟩,fun f hf=>⟨ch (E.chy f hf).1,(E.chy f hf).2⟩,E.nog⟩
 refine hp r ?_ (E.fpk r e q)
 cases z:H r with
 | none=>exact absurd z e
 | some o=>
  by_cases m:M r
  ·obtain ⟨o',e',_⟩:=G.mthere H' r E.inv m
   rw [e']
   intro z'
   cases z'
  ·rw [E.frm r o z m]
   intro z'
   cases z'
theorem Ex.alloc (G:Goal P w K mg base k zs Cb p a L s0 gf M I Fp H pg) (hI:I H) (odn:H od=none) (layn:H lay=none) (frn:H fr=none) (E:Ex I Fp M pg L s0 N H od lay fr ring ks fl y H' kvs) {r:Addr} {o:HO} (h:H' r=none) (no:∀c q,o≠A6 c q:=by intro _ _ z;cases z) :
  Ex I Fp M pg L s0 N H od lay fr ring ks fl y (a8 H' r o) kvs:=by
 obtain ⟨h1,h2⟩:=G.own H' r o E.inv (E.new G hI h) (G.fresh H' r E.inv h) no
 exact E.keep G hI odn layn frn h1 (fun b u e _=>by rw [a9 (d8 e h)];exact e) fun q _ z=>h2 q z
theorem Ex.put (G:Goal P w K mg base k zs Cb p a L s0 gf M I Fp H pg) (odn:H od=none) (E:Ex I Fp M pg L s0 N H od lay fr ring ks fl y H' kvs) {f:Found} {t:Spot} {d:Nat} {tt:Addr} (hf:f∈ring) (htt:H' tt=some (.tup [nv (p4 L f),nv d])) (hn:c0 L t∉wk L ks y)
  (h1:(m5 L f y d).1=⟨t,d::f.acts⟩::y.1) (h2:wk L ks (m5 L f y d)=wk L ks y++[c0 L t]) (h3:Wd L s0 ks (m5 L f y d)) :
  Ex I Fp M pg L s0 N H od lay fr ring ks fl (m5 L f y d) (a8 H' od (.dK (j7 kvs (g7 (c0 L t)) (.ref tt)))) (j7 kvs (g7 (c0 L t)) (.ref tt))∧Chain (a8 H' od (.dK (j7 kvs (g7 (c0 L t)) (.ref tt)))) (j7 kvs (g7 (c0 L t)) (.ref tt)) (c0 L t) (d::f.acts):=by
 have hv:i7 kvs (g7 (c0 L t))=none:=by
  have:=V8 (n:=c0 L t) E.keys
  rw [decide_eq_false hn] at this
  cases e:i7 kvs (g7 (c0 L t)) with
  | none=>rfl
  | some v=>rw [e] at this;cases this
 obtain ⟨i1,i2⟩:=G.own H' od (.dK (j7 kvs (g7 (c0 L t)) (.ref tt))) E.inv odn E.odf (by intro _ _ z;cases z)
 have ns:∀{b o},H' b=some o→(∀kvs,o≠.dK kvs)→a8 H' od (.dK (j7 kvs (g7 (c0 L t)) (.ref tt))) b=some o:=fun {b o} e q=>by
  rw [a9 (f8 e E.odv (q _))]
  exact e
 have ch:∀{n l},Chain H' kvs n l→Chain (a8 H' od (.dK (j7 kvs (g7 (c0 L t)) (.ref tt)))) (j7 kvs (g7 (c0 L t)) (.ref tt)) n l:=fun c=>c.mono (fun t xs e=>ns e (by intro _ z;cases z)) fun k' v e=>by
  rw [N8,if_neg]
  ·exact e
  ·intro z
   rw [z,hv] at e
   cases e
 have c1:Chain (a8 H' od (.dK (j7 kvs (g7 (c0 L t)) (.ref tt)))) (j7 kvs (g7 (c0 L t)) (.ref tt)) (c0 L t) (d::f.acts):=.step (by rw [N8,if_pos rfl]) (ns htt (by intro _ z;cases z)) (ch (E.chr f hf).1)
 refine ⟨⟨i1,fun b o e n=>?_,fun r e q=>i2 r (E.fpk r e q),c8,i2 _ E.odf,ns E.layv (by intro _ z;cases z),i2 _ E.layf,ns E.frv (by intro _ z;cases z),i2 _ E.frf,h3,?_,fun g hg=>⟨ch (E.chr g hg).1,(E.chr g hg).2⟩,fun g hg=>?_,E.nog⟩,c1⟩
 ·rw [a9 (d8 e odn)]
  exact E.frm b o e n
 ·rw [X1 _ hv,List.map_append,E.keys,h2,List.map_append]
  rfl
 ·rw [h1] at hg
  rcases List.mem_cons.mp hg with z|z
  ·rw [z]
   exact ⟨c1,(E.chr f hf).2⟩
  ·exact ⟨ch (E.chy g z).1,(E.chy g z).2⟩
theorem Ex.push (G:Goal P w K mg base k zs Cb p a L s0 gf M I Fp H pg) (frn:H fr=none) (hne:fr≠lay) (E:Ex I Fp M pg L s0 N H od lay fr ring ks fl y H' kvs) {g:Found} (hg:pg g.spot=false) :
  Ex I Fp M pg L s0 N H od lay fr ring ks (g::fl) y (a8 H' fr (.lst ((fl.reverse.map fun f=>nv (p4 L f))++[nv (p4 L g)]))) kvs:=by
 obtain ⟨i1,i2⟩:=G.own H' fr (.lst ((fl.reverse.map fun f=>nv (p4 L f))++[nv (p4 L g)])) E.inv frn E.frf (by intro _ _ z;cases z)
 have ch:∀{n l},Chain H' kvs n l→Chain (a8 H' fr (.lst ((fl.reverse.map fun f=>nv (p4 L f))++[nv (p4 L g)]))) kvs n l:=fun c=>c.mono (fun t xs e=>by
  rw [a9 (f8 e E.frv (by intro z;cases z))]
  exact e) fun _ _ e=>e
 refine ⟨i1,fun b o e n=>?_,fun r e q=>i2 r (E.fpk r e q),?_,i2 _ E.odf,?_,i2 _ E.layf,?_,i2 _ E.frf,E.wd,E.keys,fun g hg=>⟨ch (E.chr g hg).1,(E.chr g hg).2⟩,fun g hg=>⟨ch (E.chy g hg).1,(E.chy g hg).2⟩,fun f hf=>?_⟩
 ·rw [a9 (d8 e frn)]
  exact E.frm b o e n
 ·rw [a9 (f8 E.odv E.frv (by intro z;cases z))]
  exact E.odv
 ·rw [a9 (Ne.symm hne)]
  exact E.layv
 ·rw [c8,List.reverse_cons,List.map_append]
  rfl
 ·rcases List.mem_cons.mp hf with z|z
  ·rw [z]
   exact hg
  ·exact E.nog f z
end
theorem Av (L:Level) (f:Found) (y:List Found×Array Bool) (d:Nat):∃m,(m5 L f y d).1=m++y.1:=by
 unfold m5
 split
 ·exact ⟨[],rfl⟩
 ·split
  ·exact ⟨[],rfl⟩
  ·exact ⟨[_],rfl⟩
theorem dG (L:Level) (f:Found):∀(ds:List Nat) (y:List Found×Array Bool),∃m,(ds.foldl (m5 L f) y).1=m++y.1
 | [],y=>⟨[],rfl⟩
 | d::ds,y=>by
  obtain ⟨m1,e1⟩:=Av L f y d
  obtain ⟨m2,e2⟩:=dG L f ds (m5 L f y d)
  exact ⟨m2++m1,by rw [List.foldl_cons,e2,e1,List.append_assoc]⟩
theorem oS (L:Level):∀(r:List Found) (y:List Found×Array Bool),∃m,(r.foldl (C5 L) y).1=m++y.1
 | [],y=>⟨[],rfl⟩
 | f::r,y=>by
  obtain ⟨m1,e1⟩:=dG L f ACTS y
  obtain ⟨m2,e2⟩:=oS L r (C5 L y f)
  exact ⟨m2++m1,by rw [List.foldl_cons,e2,show (C5 L y f).1=m1++y.1 from e1,List.append_assoc]⟩
theorem pH {α:Type} {l:List α} {i:Nat} {x:α} (h:l[i]?=some x):l=l.take i++x::l.drop (i+1):=by
 obtain ⟨h1,h2⟩:=List.getElem?_eq_some_iff.mp h
 conv=>lhs;rw [←List.take_append_drop i l]
 rw [List.drop_eq_getElem_cons h1,h2]
theorem CM {L:Level} {pg:Spot→Bool} {ring:List Found} {seen:Array Bool} {i j d:Nat} {f g:Found} (hi:ring[i]?=some f) (hj:ACTS[j]?=some d) (y:List Found×Array Bool)
  (hy:y=(ACTS.take j).foldl (m5 L f) ((ring.take i).foldl (C5 L) ([],seen))) (h1:(m5 L f y d).1=g::y.1) (h2:∀h∈y.1,pg h.spot=false) (h3:pg g.spot=true) :
  (widen (boardOf L) ring seen).1.reverse.find? (fun f=>pg f.spot)=some g:=by
 have e1:widen (boardOf L) ring seen=(ring.drop (i+1)).foldl (C5 L) ((ACTS.drop (j+1)).foldl (m5 L f) (m5 L f y d)):=by
  rw [cD]
  conv=>lhs;rw [pH hi]
  rw [List.foldl_append,List.foldl_cons]
  congr 1
  show ACTS.foldl (m5 L f) _=_
  conv=>lhs;rw [pH hj]
  rw [List.foldl_append,List.foldl_cons,←hy]
 obtain ⟨m1,e2⟩:=dG L f (ACTS.drop (j+1)) (m5 L f y d)
 obtain ⟨m2,e3⟩:=oS L (ring.drop (i+1)) ((ACTS.drop (j+1)).foldl (m5 L f) (m5 L f y d))
 rw [e1,e3,e2,h1,List.reverse_append,List.reverse_append,List.reverse_cons,List.append_assoc,List.append_assoc,List.find?_append]
 have:y.1.reverse.find? (fun f=>pg f.spot)=none:=by
  rw [List.find?_eq_none]
  intro h hh
  rw [h2 h (List.mem_reverse.mp hh)]
  exact Bool.false_ne_true
 rw [this,Option.none_or,List.singleton_append,List.find?_cons,h3]
theorem oO {L:Level} {pg:Spot→Bool} {k:Nat} {ring:List Found} {seen:Array Bool} {g:Found} (h:ring.find? (fun f=>pg f.spot)=some g):search (boardOf L) pg (k+1) ring seen=some g:=by
 conv=>lhs;unfold search
 rw [h]
def Ah (M:Addr→Prop) (I:Hp→Prop) (Fp:Hp→Addr→Prop) (L:Level) (s0:Spot) (pg:Spot→Bool) (H H':Hp) (t od:Addr) (kvs:List (d9×V)) (r:V):Prop:=
 I H'∧(∀b o,H b=some o→¬M b→H' b=some o)∧(∀r,H r≠none→¬Fp H r→¬Fp H' r)∧H' t=some (.tup [r,.ref od])∧H' od=some (.dK kvs)∧H od=none∧¬Fp H' od∧
 (match search (boardOf L) pg (spots (boardOf L)+1) [⟨s0,[]⟩] (fresh (boardOf L) s0) with
  | none=>r=.int (-1)∧kvs.map (·.1)=(((reached (boardOf L) s0).map (c0 L)).reverse).map g7
  | some f=>r=nv (p4 L f)∧Chain H' kvs (p4 L f) f.acts∧f.acts.length≤25600)
def BG (P:Program) (w:World) (K:PySem.W.Frag) (mg:Str→Option Value) (base:Heap) (k:Nat) (Cb:Addr) (zs:List (Addr×V)):P3:=fun x y z H Q=>∃p a L s0 gf M I Fp pg,x=.ref p∧y=nv (c0 L s0)∧z=.ref gf∧
 Goal P w K mg base k zs Cb p a L s0 gf M I Fp H pg∧I H∧Good L s0∧∀H' t od kvs r,Ah M I Fp L s0 pg H H' t od kvs r→Q (.ref t) H'
theorem fX {j:Nat} (h:j < 5):ACTS[j]?=some j:=by
 match j,h with
 | 0,_=>rfl
 | 1,_=>rfl
 | 2,_=>rfl
 | 3,_=>rfl
 | 4,_=>rfl
theorem jT {α:Type} (g:α→Nat→α) (y:α) {j:Nat} (h:j < 5):(ACTS.take (j+1)).foldl g y=g ((ACTS.take j).foldl g y) j:=by
 rw [List.take_add_one,fX h,List.foldl_append]
 rfl
theorem iZ {α β:Type} (g:α→β→α) (y:α) {l:List β} {i:Nat} {x:β} (h:l[i]?=some x):(l.take (i+1)).foldl g y=g ((l.take i).foldl g y) x:=by
 rw [List.take_add_one,h,List.foldl_append]
 rfl
theorem Ex.refr {k N:Nat} {zs:List (Addr×V)} {p gf od lay fr:Addr} {a:Ad} {L:Level} {s0:Spot} {M:Addr→Prop} {I:Hp→Prop} {Fp:Hp→Addr→Prop} {H H':Hp} {pg:Spot→Bool} {ring fl:List Found} {ks:List Nat} {y:List Found×Array Bool} {kvs:List (d9×V)}
  (G:Goal P w K mg base k zs Cb p a L s0 gf M I Fp H pg) (hI:I H) (odn:H od=none) (layn:H lay=none) (E:Ex I Fp M pg L s0 N H od lay lay ring ks fl y H' kvs) (h:H' fr=none):Ex I Fp M pg L s0 N H od lay fr ring ks [] y (a8 H' fr (.lst [])) kvs:=by
 have E1:=E.alloc G hI odn layn layn (o:=.lst []) h
 have hn:=E.new G hI h
 obtain ⟨h1,h2⟩:=G.own H' fr (.lst []) E.inv hn (G.fresh H' fr E.inv h) (by intro _ _ z;cases z)
 exact ⟨E1.inv,E1.frm,E1.fpk,E1.odv,E1.odf,E1.layv,E1.layf,c8,h2 _ (G.fresh H' fr E.inv h),E1.wd,E1.keys,E1.chr,E1.chy,fun f hf=>by simp at hf⟩
theorem jS (T:i5 P w K mg Cb Cs) {kg:Nat} (h6:6≤kg):cR P w K mg base (kg+1) "explore" ["board","spot","is_goal"] (fun zs=>t7 (BG P w K mg base kg Cb zs)):=by
 refine T.d_explore.okZ (N:=["board","spot","is_goal","origins","layer","further","before","act","after"]) ⟨rfl,rfl,rfl,by rfl',rfl,by rfl',by rfl'⟩ (fun zs _ _ _ _=>l3) (fun zs vs H Q E h f cdv A outer s E' hr hz=>?_)
 obtain ⟨_,_,_,rfl,p,a,L,s0,gf,M,I,Fp,pg,rfl,rfl,rfl,G,hI,g0,k⟩:=h
 have nd:(["board","spot","is_goal","origins","layer","further","before","act","after"]:List Str).Nodup:=by rfl'
 refine ⟨_,(d7 (j4 (i:=3) nd rfl (Or.inl rfl) (eQ (fG (pv 1) V1 gV) rfl rfl (by simp) (by decide))) (d7 (m7 (C8 (eV (pv 2) (c7 (pv 1) c9))) (f7 (i0 (N9 (c7 (pv 1) (c7 (pv 3) c9))))) m8) (d7 (j4 (i:=4) nd rfl (Or.inl rfl) (l5 (c7 (pv 1) c9))) (d7 (Z0 PassesOwn.never (Q7 (pv 4) (fun _=>rfl)) (d7 (j4 (i:=5) nd rfl (Or.inl rfl) (l5 c9)) (d7 (B9 PassesOwn.never rfl (F2 (pv 4)) (n8 (i:=6) nd rfl (Or.inl rfl)) (f7 (B9 PassesOwn.never rfl (mH rfl T.b_enumerate (c7 (m9 (U7 T) hr h6 T.cl_Board (pv 0) (c7 (pv 6) c9)) c9)) (T2 rfl (J9 (n8 (i:=7) nd rfl (Or.inl rfl)) (J9 (n8 (i:=8) nd rfl (Or.inl rfl)) U0))) (d7 (m7 (jR (u5 D4 (pv 8) (i8 T.g_CANNOT) (o8 _)) (mJ (K2 (yJ (p7 hr) (pv 8) (pv 3)) rfl))).pt (f7 DO) m8) (d7 (M9 (p7 hr) (pv 3) (pv 8) (N9 (c7 (pv 6) (c7 (pv 7) c9))) rfl) (d7 (m7 (C8 (eV (pv 2) (c7 (pv 8) c9))) (f7 (i0 (N9 (c7 (pv 8) (c7 (pv 3) c9))))) m8) (f7 (A7 (F3 PySem.F.plainAttrs_list PySem.F.slot_list_append PySem.F.type_list_append N2 (pv 5) (c7 (pv 8) c9)))))))))) (f7 (j4 (i:=4) nd rfl (Or.inl rfl) (pv 5)))))) (f7 (i0 (N9 (c7 (i8 T.g_CANNOT) (c7 (pv 3) c9))))))))),?_⟩
 obtain ⟨gfd,gx,gsp,go,GF,Gb,Go,Gd,Gc⟩:=G.call
 have B0:=G.bd H hI
 have R:=B0.R
 have hsp:=X9 R
 refine fun od hod=>⟨_,rfl,c8,[(g7 (c0 L s0),.non)],rfl,by show 1≤15;decide,?_⟩
 rw [N5,show G5 [] [(g7 (c0 L s0),V.non)]=[(g7 (c0 L s0),V.non)] from rfl]
 obtain ⟨i1,i2⟩:=G.own H od (.dK [(g7 (c0 L s0),V.non)]) hI hod (G.fresh H od hI hod) (by intro _ _ z;cases z)
 have gl:∀{σ:L2.St} {H1:Hp} {t:Spot} {Qb:VK},I H1→Good L t→Lead L s0 t→(∀H',I H'→(∀b o,H1 b=some o→¬M b→H' b=some o)→(∀r,H1 r≠none→¬Fp H1 r→¬Fp H' r)→Qb (.bl (pg t)) H')→
   CallV (F7 x8 P w K mg base ["board","spot","is_goal","origins","layer","further","before","act","after"] "explore" (k9 lC) f cdv A outer s H E').nox gf [nv (c0 L t)] H1 σ Qb:=fun {σ H1 t Qb} a1 a2 a3 a4=>
  CallV.lam GF hr (Go H1 a1) Gd Gb hz rfl (Gc H1 t Qb a1 a2 a3 a4)
 refine ⟨_,rfl,gf,rfl,_,rfl,gl i1 g0 .refl fun H2 j1 j2 j3=>⟨_,rfl,?_⟩⟩
 have mo:¬M od:=G.mno hI hod
 have od2:H2 od=some (.dK [(g7 (c0 L s0),V.non)]):=j2 _ _ c8 mo
 have odf2:¬Fp H2 od:=j3 _ (by rw [c8];intro z;cases z) (i2 _ (G.fresh H od hI hod))
 have frm2:∀b o,H b=some o→¬M b→H2 b=some o:=fun b o e n=>j2 _ _ (by rw [a9 (d8 e hod)];exact e) n
 have fpk2:∀r,H r≠none→¬Fp H r→¬Fp H2 r:=fun r e q=>j3 r (by
  cases z:H r with
  | none=>exact absurd z e
  | some o=>
   rw [a9 (d8 z hod),z]
   intro z'
   cases z') (i2 r q)
 refine t0 (fun z=>?_) (fun z=>?_)
 ·
  refine ⟨_,rfl,_,rfl,by show 2≤sizeLine;decide,fun t ht=>?_⟩
  have hn:H t=none:=by
   cases q:H t with
   | none=>rfl
   | some o=>
    by_cases m:M t
    ·obtain ⟨o',e',_⟩:=G.mthere H2 t j1 m
     rw [ht] at e'
     cases e'
    ·rw [frm2 t o q m] at ht
     cases ht
  obtain ⟨k1,k2⟩:=G.own H2 t (.tup [nv (c0 L s0),.ref od]) j1 hn (G.fresh H2 t j1 ht) (by intro _ _ z;cases z)
  have hto:od≠t:=d8 od2 ht
  refine k _ t od _ _ ⟨k1,fun b o e n=>by rw [a9 (d8 (frm2 b o e n) ht)];exact frm2 b o e n,fun r e q=>k2 r (fpk2 r e q),c8,by rw [a9 hto];exact od2,hod,k2 _ odf2,?_⟩
  rw [oO (g:=⟨s0,[]⟩) (by rw [List.find?_cons,z])]
  exact ⟨rfl,.root (D9 rfl),by show 0≤25600;decide⟩
 refine ⟨_,rfl,by show 1≤sizeLine;decide,fun l0 hl0=>?_⟩
 have hpg0:pg s0=false:=Bool.eq_false_iff.mpr z
 have l0n:H l0=none:=by
  cases q:H l0 with
  | none=>rfl
  | some o=>
   by_cases m:M l0
   ·obtain ⟨o',e',_⟩:=G.mthere H2 l0 j1 m
    rw [hl0] at e'
    cases e'
   ·rw [frm2 l0 o q m] at hl0
    cases hl0
 obtain ⟨m1,m2⟩:=G.own H2 l0 (.lst [nv (c0 L s0)]) j1 l0n (G.fresh H2 l0 j1 hl0) (by intro _ _ z;cases z)
 have Bs0:=Bs.start R g0
 have E0':Ex I Fp M pg L s0 1 H od l0 l0 [⟨s0,[]⟩] (Mt.keys L [⟨s0,[]⟩] []) [⟨s0,[]⟩] ([],fresh (boardOf L) s0) (a8 H2 l0 (.lst [nv (c0 L s0)])) [(g7 (c0 L s0),V.non)]:=by
  refine ⟨m1,fun b o e n=>by rw [a9 (d8 (frm2 b o e n) hl0)];exact frm2 b o e n,fun r e q=>m2 r (fpk2 r e q),by rw [a9 (d8 od2 hl0)];exact od2,m2 _ odf2,c8,m2 _ (G.fresh H2 l0 j1 hl0),c8,m2 _ (G.fresh H2 l0 j1 hl0),Bs0.wd0,rfl,fun f hf=>?_,fun f hf=>by simp at hf,fun f hf=>?_⟩
  ·simp at hf
   subst hf
   exact ⟨.root (D9 rfl),by show 0 < 1;decide⟩
  ·simp at hf
   subst hf
   exact hpg0
 refine ⟨fun m σ H'=>∃ring seen got lay v5 v6 v7 v8 kvs,σ=[some (.ref p),some (nv (c0 L s0)),some (.ref gf),some (.ref od),some (.ref lay),v5,v6,v7,v8]∧H lay=none∧Bs L s0 m ring seen got∧m≤spots (boardOf L)+1∧
   Ex I Fp M pg L s0 (spots (boardOf L)+2 - m) H od lay lay ring (Mt.keys L ring got) ring.reverse ([],seen) H' kvs∧search (boardOf L) pg (spots (boardOf L)+1) [⟨s0,[]⟩] (fresh (boardOf L) s0)=search (boardOf L) pg m ring seen∧reached (boardOf L) s0=gather (boardOf L) m ring seen got,
  ⟨spots (boardOf L)+1,[⟨s0,[]⟩],_,[],l0,none,none,none,none,_,rfl,l0n,Bs0,Nat.le_refl _,by rw [show spots (boardOf L)+2 - (spots (boardOf L)+1)=1 by omega];exact E0',rfl,rfl⟩,?_⟩
 refine fun m σ H3 zz=>wZ zz fun ring seen got lay v5 v6 v7 v8 kvs zz=>kD zz fun zq0 layn bs hm E3 es eg=>?_
 subst zq0
 refine ⟨_,rfl,_,.inl ⟨_,SqL.of E3.layv,rfl⟩,?_⟩
 have hpos:=bs.pos
 by_cases hring:ring=[]
 ·
  subst hring
  refine k4 ⟨_,rfl,by show 2≤sizeLine;decide,fun t ht=>?_⟩
  have E4:=E3.alloc G hI hod layn layn (o:=.tup [.int (-1),.ref od]) ht
  refine k _ t od kvs _ ⟨E4.inv,E4.frm,E4.fpk,c8,E4.odv,hod,E4.odf,?_⟩
  rw [es,qK]
  refine ⟨rfl,?_⟩
  rw [E4.keys,eg,mC]
  unfold wk Mt.keys
  simp
 obtain ⟨m',rfl⟩:∃m',m=m'+1:=⟨m - 1,by omega⟩
 have hne:(!(ring.map fun f=>nv (p4 L f)).isEmpty)=true:=by
  cases ring with
  | nil=>exact absurd rfl hring
  | cons a l=>rfl
 rw [hne]
 have nogo:ring.find? (fun f=>pg f.spot)=none:=by
  rw [List.find?_eq_none]
  intro g hg
  rw [E3.nog g (List.mem_reverse.mpr hg)]
  exact Bool.false_ne_true
 refine k8 ⟨fun σ H'=>∃ring seen got lay v5 v6 v7 v8 kvs,σ=[some (.ref p),some (nv (c0 L s0)),some (.ref gf),some (.ref od),some (.ref lay),v5,v6,v7,v8]∧H lay=none∧Bs L s0 m' ring seen got∧m'≤spots (boardOf L)+1∧
   Ex I Fp M pg L s0 (spots (boardOf L)+2 - m') H od lay lay ring (Mt.keys L ring got) ring.reverse ([],seen) H' kvs∧search (boardOf L) pg (spots (boardOf L)+1) [⟨s0,[]⟩] (fresh (boardOf L) s0)=search (boardOf L) pg m' ring seen∧reached (boardOf L) s0=gather (boardOf L) m' ring seen got,
  fun σ' H' q=>⟨m',Nat.lt_succ_self _,q⟩,?_⟩
 refine ⟨Nat.zero_le _,fun fr hfr=>?_⟩
 have frn:=E3.new G hI hfr
 have E4:=E3.refr G hI hod layn hfr
 have hfl:fr≠lay:=fun q=>by
  rw [q,E3.layv] at hfr
  cases hfr
 have bs':=bs.step R hring
 refine ⟨_,rfl,lay,rfl,⟨_,SqL.of E4.layv⟩,K4 (xs:=ring.map fun f=>nv (p4 L f)) (fun i σ H'=>∃v6 v7 v8 kvs,σ=[some (.ref p),some (nv (c0 L s0)),some (.ref gf),some (.ref od),some (.ref lay),some (.ref fr),v6,v7,v8]∧
   Ex I Fp M pg L s0 (spots (boardOf L)+2 - (m'+1)) H od lay fr ring (Mt.keys L ring got) ((ring.take i).foldl (C5 L) ([],seen)).1 ((ring.take i).foldl (C5 L) ([],seen)) H' kvs)
  ⟨v6,v7,v8,kvs,rfl,E4⟩ (fun i σ H' _ ⟨_,_,_,_,_,q⟩=>SqL.of q.layv) ?_ ?_⟩
 ·rintro i x σ H5 hi ⟨u6,u7,u8,kvs5,rfl,E5⟩
  obtain ⟨f0,hf0,rfl⟩:∃f0,ring[i]?=some f0∧x=nv (p4 L f0):=by
   rw [List.getElem?_map] at hi
   cases q:ring[i]? with
   | none=>rw [q] at hi;cases hi
   | some t=>rw [q] at hi;exact ⟨t,rfl,(Option.some.inj hi).symm⟩
  have f0m:=List.mem_of_getElem? hf0
  have gf0:=bs.good f0 f0m
  have lf0:=bs.leadr f0 f0m
  have B5:=G.bd _ E5.inv
  refine ⟨_,rfl,p,a.dx,_,rfl,B5.ins,o6 _ _ (by rfl'),_,rfl,_,_,rfl,p,a,L,f0.spot,rfl,rfl,B5,gf0,fun H6 st ⟨B6,bt,hst,kv6,kvst⟩=>⟨st,_,rfl,SqL.of hst,?_⟩⟩
  obtain ⟨i6,f6⟩:=G.step H5 H6 E5.inv B6 bt kv6
  have E6:=E5.keep G hI hod layn frn i6 (fun b o e n=>bt b o e (fun q=>n (q▸G.mkd))) f6
  have hsf:st≠fr:=fun q=>E6.frf (q▸G.kv H6 st kvst)
  refine mX (xs:=(A5 L f0.spot).map V.int) (fun j σ H'=>∃v7 v8 kvs,σ=[some (.ref p),some (nv (c0 L s0)),some (.ref gf),some (.ref od),some (.ref lay),some (.ref fr),some (nv (p4 L f0)),v7,v8]∧H' st=some (.lst ((A5 L f0.spot).map V.int))∧
   Ex I Fp M pg L s0 (spots (boardOf L)+2 - (m'+1)) H od lay fr ring (Mt.keys L ring got) ((ACTS.take j).foldl (m5 L f0) ((ring.take i).foldl (C5 L) ([],seen))).1 ((ACTS.take j).foldl (m5 L f0) ((ring.take i).foldl (C5 L) ([],seen))) H' kvs)
   ⟨u7,u8,kvs5,rfl,hst,E6⟩ (fun j σ H' _ ⟨_,_,_,_,q,_⟩=>SqL.of q) ?_ ?_
  ·rintro j x T1 σ H7 hj ⟨w7,w8,kvs7,rfl,hst7,E7⟩ hT1
   have hj5:j < 5:=by
    have:=(List.getElem?_eq_some_iff.mp hj).1
    rwa [List.length_map] at this
   obtain rfl:x=.int (y6 L f0.spot j):=by
    rw [List.getElem?_map,Z8 hj5] at hj
    exact (Option.some.inj hj).symm
   have E8:=E7.alloc G hI hod layn frn (o:=.tup [.int (j:Nat),.int (y6 L f0.spot j)]) hT1
   have hst8:a8 H7 T1 (.tup [.int (j:Nat),.int (y6 L f0.spot j)]) st=some (.lst ((A5 L f0.spot).map V.int)):=by rw [a9 (d8 hst7 hT1)];exact hst7
   refine ⟨T1,_,rfl,SqT.of c8,rfl,_,_,rfl,_,_,rfl,rfl,?_⟩
   generalize a8 H7 T1 (.tup [.int (j:Nat),.int (y6 L f0.spot j)])=H8 at E8 hst8 ⊢
   have hyy:=jT (m5 L f0) ((ring.take i).foldl (C5 L) ([],seen)) hj5
   rw [hyy]
   generalize hy:(ACTS.take j).foldl (m5 L f0) ((ring.take i).foldl (C5 L) ([],seen))=y at E7 E8 ⊢
   refine ⟨_,rfl,rfl,_,rfl,?_⟩
   rcases gT R E8.wd gf0 lf0 j with ⟨c1,_,c2⟩|⟨t,c1,gt,lt,c2,⟨c3,c4⟩|⟨c3,c4,c5,c6⟩⟩
   ·rw [c1]
    refine k8 (k8 ⟨_,_,kvs7,rfl,hst8,?_⟩)
    rw [c2]
    exact E8
   ·rw [c2]
    have hno:decide (V.int (c0 L t:Int)=V.int (-1))=false:=decide_eq_false (fun q=>by injection q with q;omega)
    rw [hno]
    refine k4 ⟨_,rfl,_,rfl,od,_,rfl,DGet.k (k:=g7 (c0 L t)) E8.odv,_,rfl,?_⟩
    rw [V8 E8.keys,decide_eq_true c3]
    refine k8 ⟨_,_,kvs7,rfl,hst8,?_⟩
    rw [c4]
    exact E8
   ·rw [c2]
    have hno:decide (V.int (c0 L t:Int)=V.int (-1))=false:=decide_eq_false (fun q=>by injection q with q;omega)
    rw [hno]
    refine k4 ⟨_,rfl,_,rfl,od,_,rfl,DGet.k (k:=g7 (c0 L t)) E8.odv,_,rfl,?_⟩
    rw [V8 E8.keys,decide_eq_false c3]
    refine k4 ⟨_,rfl,_,rfl,by show 2≤sizeLine;decide,fun tt htt=>?_⟩
    have E9:=E8.alloc G hI hod layn frn (o:=.tup [nv (p4 L f0),.int (j:Nat)]) htt
    have hst9:a8 H8 tt (.tup [nv (p4 L f0),.int (j:Nat)]) st=some (.lst ((A5 L f0.spot).map V.int)):=by rw [a9 (d8 hst8 htt)];exact hst8
    have htt9:a8 H8 tt (.tup [nv (p4 L f0),.int (j:Nat)]) tt=some (.tup [nv (p4 L f0),nv j]):=c8
    have hkl:kvs7.length < sizeLine:=by
     have q1:=congrArg List.length E8.keys
     rw [List.length_map,List.length_map] at q1
     have q2:=E8.wd.sn.len
     rw [q1]
     exact Nat.lt_of_le_of_lt (Nat.le_trans q2 hsp) (by decide)
    refine ⟨_,rfl,_,rfl,od,_,rfl,DPut.k (k:=g7 (c0 L t)) E9.odv hkl,?_⟩
    obtain ⟨E10,ch10⟩:=E9.put G hod f0m htt9 c3 c4 c5 c6
    have hst10:a8 (a8 H8 tt (.tup [nv (p4 L f0),.int (j:Nat)])) od (.dK (j7 kvs7 (g7 (c0 L t)) (.ref tt))) st=some (.lst ((A5 L f0.spot).map V.int)):=by rw [a9 (f8 hst9 E9.odv (by intro q;cases q))];exact hst9
    generalize a8 (a8 H8 tt (.tup [nv (p4 L f0),.int (j:Nat)])) od (.dK (j7 kvs7 (g7 (c0 L t)) (.ref tt)))=H10 at E10 ch10 hst10 ⊢
    refine ⟨_,rfl,gf,rfl,_,rfl,gl E10.inv gt lt fun H11 j1 j2 j3=>⟨_,rfl,?_⟩⟩
    have E11:=E10.keep G hI hod layn frn j1 j2 j3
    have hst11:=j2 _ _ hst10 (G.mlst E10.inv hst10)
    have ch11:Chain H11 (j7 kvs7 (g7 (c0 L t)) (.ref tt)) (c0 L t) (j::f0.acts):=ch10.mono (fun t xs e=>j2 _ _ e (G.mtup E10.inv e)) fun _ _ e=>e
    refine t0 (fun zg=>?_) (fun zg=>?_)
    ·
     refine ⟨_,rfl,_,rfl,by show 2≤sizeLine;decide,fun t2 ht2=>?_⟩
     have E12:=E11.alloc G hI hod layn frn (o:=.tup [nv (c0 L t),.ref od]) ht2
     refine k _ t2 od _ _ ⟨E12.inv,E12.frm,E12.fpk,c8,E12.odv,hod,E12.odf,?_⟩
     have e1:=CM (pg:=pg) (g:=⟨t,j::f0.acts⟩) hf0 (fX hj5) y hy.symm c4 (fun h hh=>E8.nog h hh) zg
     obtain ⟨m2,rfl⟩:∃m2,m'=m2+1:=⟨m' - 1,by have:=bs'.pos.1;omega⟩
     rw [es,dW nogo hring,oO e1]
     refine ⟨rfl,ch11.mono (fun t xs e=>by rw [a9 (d8 e ht2)];exact e) fun _ _ e=>e,?_⟩
     have:=(E8.chr f0 f0m).2
     show (j::f0.acts).length≤25600
     rw [List.length_cons]
     omega
    ·refine ⟨_,rfl,.inl ⟨rfl,_,SqL.of E11.frv⟩,_,rfl,fr,_,_,rfl,rfl,E11.frv,?_,_,_,j7 kvs7 (g7 (c0 L t)) (.ref tt),rfl,?_,?_⟩
     ·rw [List.length_map,List.length_reverse]
      have q2:=E8.wd.sn.len
      unfold wk at q2
      rw [List.length_append,List.length_map,List.length_reverse] at q2
      exact Nat.lt_of_le_of_lt (Nat.le_trans (Nat.le_trans (Nat.le_add_left _ _) q2) hsp) (by decide)
     ·rw [a9 hsf]
      exact hst11
     ·have E12:=E11.push G frn hfl (g:=⟨t,j::f0.acts⟩) (Bool.eq_false_iff.mpr zg)
      rw [←c4] at E12
      exact E12
  ·rintro σ H7 ⟨w7,w8,kvs7,rfl,hst7,E7⟩
   refine ⟨_,_,_,kvs7,rfl,?_⟩
   rw [iZ (C5 L) _ hf0]
   exact E7
 ·rintro σ H5 ⟨u6,u7,u8,kvs5,rfl,E5⟩
  rw [List.length_map,List.take_length,←cD] at E5
  refine ⟨_,rfl,_,_,_,fr,_,_,_,_,kvs5,rfl,frn,bs',by omega,?_,?_,?_⟩
  ·have hks:=fN (L:=L) ring (widen (boardOf L) ring seen).1.reverse got
   refine ⟨E5.inv,E5.frm,E5.fpk,E5.odv,E5.odf,E5.frv,E5.frf,?_,E5.frf,bs'.wd0,?_,fun f hf=>?_,fun f hf=>by simp at hf,fun f hf=>?_⟩
   ·rw [List.reverse_reverse]
    exact E5.frv
   ·rw [E5.keys]
    unfold wk
    rw [hks]
    simp
   ·obtain ⟨q1,q2⟩:=E5.chy f (List.mem_reverse.mp hf)
    exact ⟨q1,by omega⟩
   ·rw [List.reverse_reverse] at hf
    exact E5.nog f hf
  ·rw [es,dW nogo hring]
  ·rw [eg,iX hring]
structure DfL (K:PySem.W.Frag) (mg:Str→Option Value) (x qual:Str) (st:Stmt) (ps:List Str) (c:Addr):Prop where
 ex:∃f fd,mg x=some (.ref f)∧Fun K x qual st f fd∧Binds K fd ps []∧fd.code=.ref c
section
variable {P:Program} {w:World} {K:PySem.W.Frag} {mg:Str→Option Value} {base:Heap}
theorem DfL.ok {x qual:Str} {st:Stmt} {N ps:List Str} {k:Nat} {sp:Sp} {c:Addr} (D:DfL K mg x qual st ps c) (S:N0 N ps (k9 st)) (len:∀vs H Q E,sp vs H Q E→vs.length=ps.length)
  (hb:∀(vs:List V) (H:Hp) (Q:VK) (E:XK),sp vs H Q E→∀(f:Addr) (A:Around) (outer:List Env) (s:Shared) (E':XK),Room k (A.deeper (envOfC qual (k9 st) s.heap.objs.size f (.ref c)))→
   ∃t,PSs (F7 x8 P w K mg base N qual (k9 st) f (.ref c) A outer s H E').nox (E2 st) t∧t { nx:=fun _ H'=>Q .non H',rt:=Q } (start N vs) H):k7 P w K mg base (k+1) x ps sp:=by
 obtain ⟨f,fd,h1,h2,h3,h4⟩:=D.ex
 have F:=Fun.okZ (P:=P) (w:=w) (mg:=mg) (base:=base) (zs:=[]) h2 S len fun cdv A outer s H vs Q E hc hr _ hs=>by
  obtain rfl:cdv=.ref c:=hc.symm.trans h4
  exact hb vs H Q E hs f A outer s E hr
 exact ⟨f,fd,h1,h2.kp,h3,F.len,fun A outer s H args us vs Q E hr e0 hb r hs=>F.run A outer s H args us vs Q E hr e0 CellsAt.nil hb r hs⟩
end
def Tab (H:Hp) (t:Addr) (pos:Pos) (q:Str):Prop:=∃ps,H t=some (.tbl ps)∧(ps=#[]∨∃c',ps=#[rawInt pos.line,rawInt pos.col,.ref c']∧H c'=some (A6 c' q))
theorem Tab.keep {H H':Hp} {t:Addr} {pos:Pos} {q:Str} (h:Tab H t pos q) (ht:∀ps,H t=some (.tbl ps)→H' t=some (.tbl ps)) (hc:∀c,H c=some (A6 c q)→H' c=some (A6 c q)):Tab H' t pos q:=by
 obtain ⟨ps,h1,h2⟩:=h
 exact ⟨ps,ht _ h1,h2.imp id fun ⟨c,e,z⟩=>⟨c,e,hc _ z⟩⟩
theorem cZ {H:Hp} {t:Addr} {pos:Pos} {q:Str} {mk:Addr→Value→Obj} {σ:L2.St} {Q:VK} (h:Tab H t pos q)
  (k:∀(H':Hp) (c' f:Addr) (ctv:Value),H' f=some (J4 f (mk c' ctv))→H' c'=some (A6 c' q)→Tab H' t pos q→(∀b o,H b=some o→b≠t→H' b=some o)→H f=none→(∀b,b≠f→b≠c'→b≠t→H' b=H b)→(H c'=none∨H c'=some (A6 c' q))→f≠c'→Q (.ref f) H'):nU t pos q mk σ H Q:=by
 obtain ⟨ps,h1,rfl|⟨c,rfl,h2⟩⟩:=h
 ·refine ⟨#[],h1,True.intro,.inl ⟨rfl,fun c' f ctv hc hf hcf=>?_⟩⟩
  have ntc:t≠c':=d8 h1 hc
  have ntf:t≠f:=d8 h1 hf
  refine k _ c' f ctv c8 (by rw [a9 hcf,c8]) ⟨_,by rw [a9 ntf,a9 ntc,c8,Array.empty_append],.inr ⟨c',rfl,by rw [a9 hcf,c8]⟩⟩ (fun b o e n=>?_) hf (fun b n1 n2 n3=>?_) (.inl hc) (Ne.symm hcf)
  ·rw [a9 (d8 e hf),a9 (d8 e hc),a9 n]
   exact e
  ·rw [a9 n1,a9 n2,a9 n3]
 ·refine ⟨_,h1,?_,.inr ⟨c,?_,fun f ctv hf=>?_⟩⟩
  ·exact True.intro
  ·show (if _ then _ else _)=_
   rw [if_pos (by simp)]
  ·have ncf:c≠f:=d8 h2 hf
   have ntf:t≠f:=d8 h1 hf
   refine k _ c f ctv c8 (by rw [a9 ncf];exact h2) ⟨_,by rw [a9 ntf];exact h1,.inr ⟨c,rfl,by rw [a9 ncf];exact h2⟩⟩ (fun b o e n=>?_) hf (fun b n1 n2 n3=>?_) (.inr h2) (Ne.symm ncf)
   ·rw [a9 (d8 e hf)]
    exact e
   ·rw [a9 n1]
structure Bk (kd:Addr) (L:Level) (H0 H:Hp):Prop where
 but:But kd H0 H
 kn:∃kvs,H kd=some (.dK kvs)∧Kn L H kvs
theorem Bk.bd {H0 H:Hp} {p:Addr} {a:Ad} {L:Level} (B:Bd Cb H0 p a L) (k:Bk a.kd L H0 H):Bd Cb H p a L:=by
 obtain ⟨kvs,h1,_⟩:=B.kn
 exact ⟨B.toBs0.keep ⟨kvs,h1⟩ k.but,k.kn⟩
theorem Kn.nokv {H:Hp} {kd r:Addr} {L:Level} {kvs:List (d9×V)} (h:H kd=some (.dK kvs)) (k:Kn L H kvs) (hr:H r=none):¬Kv H kd r:=by
 rintro ⟨kvs',key,e1,e2⟩
 rw [h] at e1
 cases e1
 obtain ⟨s,l,_,_,e3,e4⟩:=k.all _ _ e2
 cases e3
 rw [hr] at e4
 cases e4
theorem Bk.own {H0 H:Hp} {p:Addr} {a:Ad} {L:Level} {r:Addr} {o:HO} (B:Bd Cb H0 p a L) (k:Bk a.kd L H0 H) (hr:H0 r=none) (hk:¬Kv H a.kd r):Bk a.kd L H0 (a8 H r o)∧∀q,¬Kv H a.kd q→¬Kv (a8 H r o) a.kd q:=by
 obtain ⟨kvs0,h0,_⟩:=B.kn
 obtain ⟨kvs,h1,h2⟩:=k.kn
 have nk:a.kd≠r:=d8 h0 hr
 have h1':a8 H r o a.kd=some (.dK kvs):=by rw [a9 nk];exact h1
 refine ⟨⟨fun b u e n=>?_,kvs,h1',h2.ks,fun key v e=>?_⟩,fun q hq=>?_⟩
 ·rw [a9 (d8 e hr)]
  exact k.but b u e n
 ·obtain ⟨s,l,e1,g,e2,e3⟩:=h2.all key v e
  refine ⟨s,l,e1,g,e2,?_⟩
  rw [a9 (fun z=>hk ⟨kvs,key,h1,by rw [e,e2,z]⟩)]
  exact e3
 ·rintro ⟨kvs',key,e1,e2⟩
  rw [h1'] at e1
  cases e1
  exact hq ⟨kvs,key,h1,e2⟩
theorem Kv.congr {H H':Hp} {kd r:Addr} (e:H' kd=H kd) (h:¬Kv H kd r):¬Kv H' kd r:=by
 rintro ⟨kvs,key,e1,e2⟩
 exact h ⟨kvs,key,e▸e1,e2⟩
theorem fZ {H0:Hp} {p:Addr} {a:Ad} {L:Level} {s0:Spot} {gf c':Addr} {k:Nat} {zs:List (Addr×V)} {pg:Spot→Bool} {x q:Str} {params:Arguments} {body:Expr} {scope:Scope} {clos:List (Str×Addr)} {pm ctv:Value} (B:Bd Cb H0 p a L)
  (ho:H0 gf=some (J4 gf (kla_obj "<lambda>" q params body scope clos pm c' ctv))) (hc:H0 c'=some (A6 c' q)) (S:Q9 x scope clos zs)
  (hbi:∀(s:Shared) (us:List Value),us.length=([x]:List Str).length→BindsTo s (kla_fn "<lambda>" q params body scope clos pm (.ref c') ctv) ⟨us,[]⟩ (([x]:List Str).zip us))
  (hb:∀(A:Around) (outer:List Env) (s:Shared) (H:Hp) (t:Spot) (Q:VK),Room k (A.deeper (PySem.W.envX q scope s.heap.objs.size gf (.ref c') clos))→Bd Cb H p a L→Good L t→Q (.bl (pg t)) H→
   ∃te,PE (Z2 P w K mg base (x::clos.map (·.1)) q scope gf (.ref c') clos A outer s H) body te∧te (some (nv (c0 L t))::zs.map fun z=>some z.2) H Q) {kg:Nat} (hk:k+1≤kg) :
  Goal P w K mg base kg zs Cb p a L s0 gf (fun b=>b=a.kd) (fun H=>Bk a.kd L H0 H) (fun H r=>Kv H a.kd r) H0 pg:=by
 obtain ⟨kvs0,h0,k0⟩:=B.kn
 have ngk:gf≠a.kd:=f8 ho h0 (by intro z;cases z)
 have nck:c'≠a.kd:=f8 hc h0 (by intro z;cases z)
 refine ⟨fun H i=>i.bd B,rfl,fun H b i e=>?_,fun H r i e=>?_,fun H r e=>e,fun H H' i b' bt kv=>⟨⟨i.but.trans bt,b'.kn⟩,kv⟩,fun H r o i e n _=>i.own B e n,fun H H' i sm=>?_,?_⟩
 ·obtain ⟨kvs,h1,_⟩:=i.kn
  rw [e]
  exact ⟨_,h1,(by intro _ z;cases z),(by intro _ z;cases z)⟩
 ·obtain ⟨kvs,h1,h2⟩:=i.kn
  exact h2.nokv h1 e
 ·obtain ⟨kvs,h1,h2⟩:=i.kn
  exact ⟨⟨i.but.same sm,kvs,sm _ _ h1,h2.same fun l xs e=>sm _ _ e⟩,fun r _ q=>Kv.congr ((sm _ _ h1).trans h1.symm) q⟩
 ·refine ⟨_,x,fun vs H Q _=>∃t,vs=[nv (c0 L t)]∧Bk a.kd L H0 H∧Good L t∧Q (.bl (pg t)) H,_,FnOkZ.mono (oV (k:=k) S (fun vs H Q E h=>?_) (fun vs H Q E h=>?_) fun A outer s H v Q E hr h=>?_) hk,hbi,fun H i=>i.but _ _ ho ngk,rfl,fun H t Q i g _ q=>?_⟩
  ·obtain ⟨t,rfl,_⟩:=h
   rfl
  ·obtain ⟨t,rfl,i,_⟩:=h
   exact ⟨i.but _ _ ho ngk,i.but _ _ hc nck⟩
  ·obtain ⟨t,e,i,g,q⟩:=h
   cases e
   exact hb A outer s H t Q hr (i.bd B) g q
  ·exact ⟨t,rfl,i,g,q H i (fun b o e _=>e) fun r _ z=>z⟩
theorem Bd.butG {Cb:Addr} {H H':Hp} {p d:Addr} {a:Ad} {L:Level} (B:Bd Cb H p a L) (h:But d H H') (hp:p≠d) (hl:∀xs,H d≠some (.lst xs)) (hk:∀kvs,H d≠some (.dK kvs)) (ht:∀xs,H d≠some (.tup xs)):Bd Cb H' p a L:=by
 have l1:∀{b xs},H b=some (.lst xs)→H' b=some (.lst xs):=fun {b xs} e=>h _ _ e fun z=>hl xs (z▸e)
 have d1:∀{b xs},H b=some (.dK xs)→H' b=some (.dK xs):=fun {b xs} e=>h _ _ e fun z=>hk xs (z▸e)
 have t1:∀{b xs},H b=some (.tup xs)→H' b=some (.tup xs):=fun {b xs} e=>h _ _ e fun z=>ht xs (z▸e)
 obtain ⟨xs,e1,e2,e3⟩:=B.ex
 obtain ⟨kvs,k1,k2⟩:=B.kn
 exact ⟨⟨B.R,h _ _ B.ins hp,l1 B.codes,l1 B.things,d1 B.tb,d1 B.cb,d1 B.lb,⟨xs,l1 e1,e2,fun i x q=>by
  obtain ⟨ts,h1,h2,h3⟩:=e3 i x q
  exact ⟨ts,l1 h1,h2,fun j t e a b=>t1 (h3 j t e a b)⟩⟩,l1 B.fr,B.n1,B.n2,B.n3⟩,kvs,d1 k1,k2.same fun l xs e=>l1 e⟩
theorem Bd.butT {Cb:Addr} {H H':Hp} {p d:Addr} {a:Ad} {L:Level} {ps:Array Value} (B:Bd Cb H p a L) (hd:H d=some (.tbl ps)) (h:But d H H'):Bd Cb H' p a L:=
 B.butG h (f8 B.ins hd (by intro z;cases z)) (by intro _ z;rw [hd] at z;cases z) (by intro _ z;rw [hd] at z;cases z) (by intro _ z;rw [hd] at z;cases z)
structure Sb1 (Cb:Addr) (H:Hp) (p:Addr) (a:Ad) (L:Level) (t:Addr) (pos:Pos) (q:Str) (H':Hp):Prop where
 bd:Bd Cb H' p a L
 tab:Tab H' t pos q
 frm:∀b o,H b=some o→b≠a.kd→b≠t→H' b=some o
 kv:∀r,H r≠none→¬Kv H a.kd r→¬Kv H' a.kd r
def J7:Pos:=⟨193,37,193,56⟩
def qR:Str:="reached_spots.<locals>.<lambda>"
def jX (Cb t2:Addr):P2:=fun x y H Q=>∃p a L s0,x=.ref p∧y=nv (c0 L s0)∧Bd Cb H p a L∧Good L s0∧Tab H t2 J7 qR∧∀H' r,Sb1 Cb H p a L t2 J7 qR H'→H r=none→¬Kv H' a.kd r→H' r=some (.lst ((((reached (boardOf L) s0).map (c0 L)).reverse).map nv))→Q (.ref r) H'
theorem iM (T:i5 P w K mg Cb Cs) {c2 t2:Addr} (C:CodeHd base c2 t2) (Bm0:Bm mg base) (D:DfL K mg "reached_spots" "reached_spots" V4 ["board","spot"] c2):k7 P w K mg base 8 "reached_spots" ["board","spot"] (x4 (jX Cb t2)):=by
 refine D.ok (N:=["board","spot"]) ⟨rfl,rfl,rfl,by rfl',rfl,by rfl',by rfl'⟩ (fun _ _ _ _=>l2) (fun vs H Q E h f A outer s E' hr=>?_)
 obtain ⟨_,_,rfl,p,a,L,s0,rfl,rfl,B,g0,tb,k⟩:=h
 refine ⟨_,(f7 (i0 (eR (uT rfl) (by rfl) T.b_list (by rfl') (c7 (j8 y4 (X4 (jS T (kg:=6) (by decide)) hr (by decide) (c7 (pv 0) (c7 (pv 1) (c7 (aB (P:=t2) (c:=c2) (q:=qR) (clos:=[]) rfl C Bm0 rfl rfl) c9)))) j0 (fun _ _=>rfl)) c9)))),?_⟩
 refine ⟨_,rfl,_,rfl,cZ tb fun H1 c' gf ctv ho hc tb1 frm hgf oth hcc hfc=>?_⟩
 obtain ⟨ps,tps,_⟩:=id tb
 have B1:=B.butT tps frm
 obtain ⟨kvs0,kd0,kn0⟩:=B.kn
 have kd1:H1 a.kd=some (.dK kvs0):=frm _ _ kd0 (f8 kd0 tps (by intro z;cases z))
 have S1:Q9 "other" { kind:=.function,names:=[("other",.local)],isGenerator:=false,isCoroutine:=false,more:=[] } [] []:=by
  refine ⟨rfl,rfl,rfl,rfl,by rfl',fun y e=>?_,(fun y z c e _=>by cases e),rfl,(fun i y c e=>by simp at e)⟩
  rw [List.lookup_cons] at e
  split at e<;>cases e
 have G:Goal P w K mg base 6 [] Cb p a L s0 gf (fun b=>b=a.kd) (fun H=>Bk a.kd L H1 H) (fun H r=>Kv H a.kd r) H1 (fun _=>false):=
  fZ (k:=0) B1 ho hc S1 (fun s us hl=>match us,hl with | [_],_=>.of_eq rfl) (fun A outer s H t Q _ _ _ q=>⟨_,R7,q⟩) (by decide)
 refine ⟨[],fun _ _ _=>CellsAt.nil,_,_,_,rfl,p,a,L,s0,gf,_,_,_,_,rfl,rfl,rfl,G,⟨fun b o e _=>e,kvs0,kd1,(by obtain ⟨k1,k2,k3⟩:=B1.kn;rw [kd1] at k2;cases k2;exact k3)⟩,g0,fun H2 t od kvs r ⟨i2,f2,v2,t2',o2,on,of',z⟩=>?_⟩
 have hs:search (boardOf L) (fun _=>false) (spots (boardOf L)+1) [⟨s0,[]⟩] (fresh (boardOf L) s0)=none:=(gL B.R g0 (Bs.start B.R g0) (fun _ h=>by simp at h)).mpr fun _ _=>rfl
 rw [hs] at z
 obtain ⟨rfl,z⟩:=z
 refine ⟨_,_,_,_,rfl,rfl,SqT.of t2',l7 (j:=1) rfl,od,kvs,rfl,o2,fun l hl=>?_⟩
 have B2:=i2.bd B1
 have hl1:H l=none:=by
  cases q:H l with
  | none=>rfl
  | some o=>
   by_cases e1:l=t2
   ·obtain ⟨ps1,tp1,_⟩:=tb1
    have:=f2 _ _ tp1 (fun z=>by rw [←z,tp1] at kd1;cases kd1)
    rw [←e1,hl] at this
    cases this
   ·have h1:=frm l o q e1
    by_cases e2:l=a.kd
    ·obtain ⟨k1,k2,_⟩:=B2.kn
     rw [←e2,hl] at k2
     cases k2
    ·rw [f2 l o h1 e2] at hl
     cases hl
 obtain ⟨kvs2,kd2,kn2⟩:=B2.kn
 have nlk:¬Kv H2 a.kd l:=kn2.nokv kd2 hl
 have ekd:a8 H2 l (.lst ((kvs.map (·.1)).map kV)) a.kd=H2 a.kd:=a9 (d8 kd2 hl)
 refine k _ l ⟨B2.same (Same.new hl),?_,fun b o e n1 n2=>?_,fun r e q=>?_⟩ hl1 (Kv.congr ekd nlk) ?_
 ·refine tb1.keep (fun ps e=>?_) fun c e=>?_
  ·have:=f2 _ _ e (fun z=>by rw [z,kd1] at e;cases e)
   rw [a9 (d8 this hl)]
   exact this
  ·have:=f2 _ _ e (fun z=>by rw [z,kd1] at e;cases e)
   rw [a9 (d8 this hl)]
   exact this
 ·have:=f2 _ _ (frm b o e n2) n1
  rw [a9 (d8 this hl)]
  exact this
 ·refine Kv.congr ekd (v2 r ?_ (Kv.congr (kd1.trans kd0.symm) q))
  cases z:H r with
  | none=>exact absurd z e
  | some o=>
   by_cases e1:r=t2
   ·obtain ⟨ps1,tp1,_⟩:=tb1
    rw [e1,tp1]
    intro z
    cases z
   ·rw [frm r o z e1]
    intro z
    cases z
 ·rw [c8,z,List.map_map]
  rfl
def ListV (H H':Hp) (v:V) (o:Option (List Nat)):Prop:=match o with
 | none=>v=.non
 | some l=>∃r,v=.ref r∧H r=none∧H' r=some (.lst (l.map nv))∧l.length≤25600
theorem BQ (L:Level) (pg:Spot→Bool) (s0:Spot):(Vbrgae.least (boardOf L) pg s0).map (·.1)=(search (boardOf L) pg (spots (boardOf L)+1) [⟨s0,[]⟩] (fresh (boardOf L) s0)).map fun f=>f.acts.reverse:=by
 unfold Vbrgae.least
 rw [Option.map_map]
 rfl
def vS (P:Program) (w:World) (K:PySem.W.Frag) (mg:Str→Option Value) (base:Heap) (k:Nat) (Cb:Addr) (zs:List (Addr×V)):P3:=fun x y z H Q=>∃p a L s0 gf M I Fp pg,x=.ref p∧y=nv (c0 L s0)∧z=.ref gf∧
 Goal P w K mg base k zs Cb p a L s0 gf M I Fp H pg∧I H∧Good L s0∧∀H' v,I H'→(∀b o,H b=some o→¬M b→H' b=some o)→(∀r,H r≠none→¬Fp H r→¬Fp H' r)→ListV H H' v ((Vbrgae.least (boardOf L) pg s0).map (·.1))→Q v H'
theorem fK (T:i5 P w K mg Cb Cs) {kg:Nat} (h6:6≤kg):cR P w K mg base (kg+2) "first_list" ["board","spot","is_goal"] (fun zs=>t7 (vS P w K mg base kg Cb zs)):=by
 refine T.d_first_list.okZ (N:=["board","spot","is_goal","found"]) ⟨rfl,rfl,rfl,by rfl',rfl,by rfl',by rfl'⟩ (fun zs _ _ _ _=>l3) (fun zs vs H Q E h f cdv A outer s E' hr hz=>?_)
 obtain ⟨_,_,_,rfl,p,a,L,s0,gf,M,I,Fp,pg,rfl,rfl,rfl,G,hI,g0,k⟩:=h
 have nd:(["board","spot","is_goal","found"]:List Str).Nodup:=by rfl'
 refine ⟨_,(d7 (j4 (i:=3) nd rfl (Or.inl rfl) (X4 (jS T h6) hr (Nat.le_refl _) (c7 (pv 0) (c7 (pv 1) (c7 (pv 2) c9)))))
  (d7 (m7 (u5 D4 (j8 y4 (pv 3) j0 (fun _ _=>rfl)) (i8 T.g_CANNOT) (o8 _)) (f7 (i0 V1)) m8)
  (f7 (i0 (n9 (tT T) hr (by omega) (c7 (j8 y4 (pv 3) j0 (fun _ _=>rfl)) (c7 (j8 y4 (pv 3) j0 (fun _ _=>rfl)) c9))))))),?_⟩
 refine ⟨_,rfl,_,rfl,_,rfl,zs,fun pins s I=>I.cells hz rfl,_,_,_,rfl,p,a,L,s0,gf,M,I,Fp,pg,rfl,rfl,rfl,G,hI,g0,fun H1 t od kvs r ⟨i1,f1,v1,ht,ho,hon,_,hz⟩=>?_⟩
 rw [BQ] at k
 refine ⟨_,rfl,_,_,_,_,rfl,rfl,SqT.of ht,l7 (j:=0) rfl,?_⟩
 cases e:search (boardOf L) pg (spots (boardOf L)+1) [⟨s0,[]⟩] (fresh (boardOf L) s0) with
 | none=>
  rw [e] at hz k
  obtain ⟨rfl,hz⟩:=hz
  exact ⟨rfl,_,rfl,k8 (k _ _ i1 f1 v1 rfl)⟩
 | some g=>
  rw [e] at hz k
  obtain ⟨rfl,hc,hl⟩:=hz
  have hno:decide (nv (p4 L g)=V.int (-1))=false:=decide_eq_false (fun q=>by injection q with q;omega)
  refine ⟨rfl,_,rfl,?_⟩
  rw [hno]
  refine k4 ⟨_,rfl,_,_,_,_,rfl,rfl,SqT.of ht,l7 (j:=0) rfl,_,rfl,_,_,_,_,rfl,rfl,SqT.of ht,l7 (j:=1) rfl,_,_,rfl,p4 L g,od,kvs,g.acts,rfl,rfl,ho,hc,Nat.le_trans hl (by decide),fun H2 r s2 hr2 hx=>?_⟩
  obtain ⟨i2,v2⟩:=G.same H1 H2 i1 s2
  have hrn:H r=none:=by
   cases q:H r with
   | none=>rfl
   | some o=>
    by_cases m:M r
    ·obtain ⟨o',e',_⟩:=G.mthere H1 r i1 m
     rw [hr2] at e'
     cases e'
    ·rw [f1 r o q m] at hr2
     cases hr2
  refine k H2 _ i2 (fun b o e n=>s2 _ _ (f1 b o e n)) (fun q e z=>v2 q ?_ (v1 q e z)) ⟨r,rfl,hrn,hx,by rw [List.length_reverse];exact hl⟩
  cases z':H q with
  | none=>exact absurd z' e
  | some o=>
   by_cases m:M q
   ·obtain ⟨o',e',_⟩:=G.mthere H1 q i1 m
    rw [e']
    intro z
    cases z
   ·rw [f1 q o z' m]
    intro z
    cases z
def cN:Pos:=⟨191,35,191,69⟩
def qS:Str:="list_to_stairs.<locals>.<lambda>"
def oZ (Cb t1:Addr):P2:=fun x y H Q=>∃p a L s0,x=.ref p∧y=nv (c0 L s0)∧Bd Cb H p a L∧Good L s0∧Tab H t1 cN qS∧∀H' v,Sb1 Cb H p a L t1 cN qS H'→ListV H H' v ((Vbrgae.least (boardOf L) (over (boardOf L)) s0).map (·.1))→Q v H'
theorem qL {H H1 H2:Hp} {p t c':Addr} {a:Ad} {L:Level} {pos:Pos} {q:Str} (B:Bd Cb H p a L) (tb:Tab H t pos q) (tb1:Tab H1 t pos q) (frm:∀b o,H b=some o→b≠t→H1 b=some o)
  (i2:Bk a.kd L H1 H2) (v2:∀r,H1 r≠none→¬Kv H1 a.kd r→¬Kv H2 a.kd r):Sb1 Cb H p a L t pos q H2:=by
 obtain ⟨ps,tps,_⟩:=id tb
 have B1:=B.butT tps frm
 obtain ⟨kvs0,kd0,kn0⟩:=B.kn
 have kd1:H1 a.kd=some (.dK kvs0):=frm _ _ kd0 (f8 kd0 tps (by intro z;cases z))
 refine ⟨i2.bd B1,tb1.keep (fun ps e=>i2.but _ _ e (fun z=>by rw [z,kd1] at e;cases e)) (fun c e=>i2.but _ _ e (fun z=>by rw [z,kd1] at e;cases e)),fun b o e n1 n2=>i2.but _ _ (frm b o e n2) n1,fun r e q=>v2 r ?_ (Kv.congr (kd1.trans kd0.symm) q)⟩
 cases z:H r with
 | none=>exact absurd z e
 | some o=>
  by_cases e1:r=t
  ·obtain ⟨ps1,tp1,_⟩:=tb1
   rw [e1,tp1]
   intro z
   cases z
  ·rw [frm r o z e1]
   intro z
   cases z
theorem ListV.old {H H1 H2:Hp} {v:V} {o:Option (List Nat)} (hn:∀r,H1 r=none→H r=none) (h:ListV H1 H2 v o):ListV H H2 v o:=by
 unfold ListV at h ⊢
 cases o with
 | none=>exact h
 | some l=>
  obtain ⟨r,e1,e2,e3⟩:=h
  exact ⟨r,e1,hn _ e2,e3⟩
theorem BR {H H1:Hp} {t:Addr} {pos:Pos} {q:Str} (tb1:Tab H1 t pos q) (frm:∀b o,H b=some o→b≠t→H1 b=some o) (r:Addr) (h:H1 r=none):H r=none:=by
 cases z:H r with
 | none=>rfl
 | some o=>
  by_cases e1:r=t
  ·obtain ⟨ps1,tp1,_⟩:=tb1
   rw [e1,tp1] at h
   cases h
  ·rw [frm r o z e1] at h
   cases h
theorem Bk.refl {H:Hp} {p:Addr} {a:Ad} {L:Level} (B:Bd Cb H p a L):Bk a.kd L H H:=⟨fun b o e _=>e,B.kn⟩
theorem W1 {L:Level} {t:Spot} (g:Good L t):decide (Vbrgae.codeAt L (c0 L t % (L.w*L.h))=3)=over (boardOf L) t:=by
 rw [N7 g]
 rfl
theorem Ae (T:i5 P w K mg Cb Cs) {c1 t1:Addr} (C:CodeHd base c1 t1) (Bm0:Bm mg base) (D:DfL K mg "list_to_stairs" "list_to_stairs" bW ["board","spot"] c1):k7 P w K mg base 9 "list_to_stairs" ["board","spot"] (x4 (oZ Cb t1)):=by
 refine D.ok (N:=["board","spot"]) ⟨rfl,rfl,rfl,by rfl',rfl,by rfl',by rfl'⟩ (fun _ _ _ _=>l2) (fun vs H Q E h f A outer s E' hr=>?_)
 obtain ⟨_,_,rfl,p,a,L,s0,rfl,rfl,B,g0,tb,k⟩:=h
 refine ⟨_,(f7 (i0 (X4 (fK T (kg:=6) (by decide)) hr (by decide) (c7 (pv 0) (c7 (pv 1) (c7 (aB (P:=t1) (c:=c1) (q:=qS) (clos:=[("board",s.heap.objs.size+1)]) rfl C Bm0 rfl rfl) c9)))))),?_⟩
 refine ⟨_,rfl,_,rfl,cZ tb fun H1 c' gf ctv ho hc tb1 frm hgf oth hcc hfc=>?_⟩
 obtain ⟨ps,tps,_⟩:=id tb
 have B1:=B.butT tps frm
 have S1:Q9 "other" { kind:=.function,names:=[("other",.local),("board",.free)],isGenerator:=false,isCoroutine:=false,more:=[] } [("board",s.heap.objs.size+1)] [(s.heap.objs.size+1,V.ref p)]:=by
  refine ⟨rfl,rfl,rfl,rfl,by rfl',fun y e=>?_,fun y z c e1 e2=>?_,rfl,fun i y c e=>?_⟩
  ·rw [List.lookup_cons] at e
   split at e
   ·cases e
   ·rw [List.lookup_cons] at e
    split at e
    ·rename_i h1
     exact ⟨_,by rw [List.lookup_cons,h1]⟩
    ·cases e
  ·rw [List.lookup_cons] at e1 e2
   split at e1
   ·rename_i h1
    split at e2
    ·rename_i h2
     exact (eq_of_beq h1).trans (eq_of_beq h2).symm
    ·cases e2
   ·cases e1
  ·match i,e with
   | 0,e=>
    cases e
    exact ⟨by rfl',by rw [List.lookup_cons,beq_self_eq_true]⟩
   | i+1,e=>simp at e
 have G:Goal P w K mg base 6 [(s.heap.objs.size+1,V.ref p)] Cb p a L s0 gf (fun b=>b=a.kd) (fun H=>Bk a.kd L H1 H) (fun H r=>Kv H a.kd r) H1 (over (boardOf L)):=
  fZ (k:=1) B1 ho hc S1 (fun s us hl=>match us,hl with | [_],_=>.of_eq rfl) (fun A outer s H t Q hr' B' gt q=>⟨_,m9 (U3 T) hr' (by decide) T.cl_Board (pv 1) (c7 (pv 0) c9),_,rfl,p,a.dx,_,rfl,B'.ins,o6 _ _ (by rfl'),_,rfl,_,_,rfl,p,a,L,c0 L t,rfl,rfl,B'.toBs0,by rw [W1 gt];exact q⟩) (by decide)
 refine ⟨[(s.heap.objs.size+1,V.ref p)],fun pins s' I=>I.ownCells fun q hq=>?_,_,_,_,rfl,p,a,L,s0,gf,_,_,_,_,rfl,rfl,rfl,G,Bk.refl B1,g0,fun H2 v i2 f2 v2 hv=>?_⟩
 ·simp at hq
  subst hq
  exact ⟨0,"board",rfl,rfl,rfl,rfl,rfl⟩
 ·exact k H2 v (qL (c':=c') B tb tb1 frm i2 v2) (hv.old (BR tb1 frm))
structure Bw (kd:Addr) (L:Level) (H0 H:Hp):Prop extends Bk kd L H0 H where
 kv:∀r,H0 r≠none→¬Kv H0 kd r→¬Kv H kd r
theorem Bw.refl {H:Hp} {p:Addr} {a:Ad} {L:Level} (B:Bd Cb H p a L):Bw a.kd L H H:=⟨Bk.refl B,fun r _ q=>q⟩
theorem Bw.there {H0 H:Hp} {kd:Addr} {L:Level} (k:Bw kd L H0 H) {r:Addr} (h:H0 r≠none):H r≠none:=by
 cases z:H0 r with
 | none=>exact absurd z h
 | some o=>
  by_cases e:r=kd
  ·obtain ⟨kvs,h1,_⟩:=k.kn
   rw [e,h1]
   intro q
   cases q
  ·rw [k.but r o z e]
   intro q
   cases q
theorem Bw.new {H0 H:Hp} {kd:Addr} {L:Level} (k:Bw kd L H0 H) {r:Addr} (h:H r=none):H0 r=none:=by
 cases z:H0 r with
 | none=>rfl
 | some o=>exact absurd h (k.there (by rw [z];intro q;cases q))
theorem Bw.nokv {H0 H:Hp} {kd:Addr} {L:Level} (k:Bw kd L H0 H) {r:Addr} (h:H r=none):¬Kv H kd r:=by
 obtain ⟨kvs,h1,h2⟩:=k.kn
 exact h2.nokv h1 h
theorem Bw.step {H0 H H':Hp} {p:Addr} {a:Ad} {L:Level} {s:Spot} {l:Addr} (k:Bw a.kd L H0 H) (h:dX Cb H p a L s H' l):Bw a.kd L H0 H':=by
 obtain ⟨b,bt,_,kv,_⟩:=h
 exact ⟨⟨k.but.trans bt,b.kn⟩,fun r e q=>kv r (k.there e) (k.kv r e q)⟩
theorem Bw.own {H0 H:Hp} {p:Addr} {a:Ad} {L:Level} {r:Addr} {o:HO} (B:Bd Cb H0 p a L) (k:Bw a.kd L H0 H) (hr:H0 r=none) (hk:¬Kv H a.kd r):Bw a.kd L H0 (a8 H r o)∧∀q,¬Kv H a.kd q→¬Kv (a8 H r o) a.kd q:=by
 obtain ⟨h1,h2⟩:=k.toBk.own B (o:=o) hr hk
 exact ⟨⟨h1,fun r e q=>h2 r (k.kv r e q)⟩,h2⟩
theorem Bw.alloc {H0 H:Hp} {p:Addr} {a:Ad} {L:Level} {r:Addr} {o:HO} (B:Bd Cb H0 p a L) (k:Bw a.kd L H0 H) (h:H r=none):Bw a.kd L H0 (a8 H r o)∧∀q,¬Kv H a.kd q→¬Kv (a8 H r o) a.kd q:=k.own B (k.new h) (k.nokv h)
theorem Bw.same {H0 H H':Hp} {kd:Addr} {L:Level} (k:Bw kd L H0 H) (sm:Same H H'):Bw kd L H0 H'∧∀q,¬Kv H kd q→¬Kv H' kd q:=by
 obtain ⟨kvs,h1,h2⟩:=k.kn
 have c:∀q,¬Kv H kd q→¬Kv H' kd q:=fun q z=>Kv.congr ((sm _ _ h1).trans h1.symm) z
 exact ⟨⟨⟨k.but.same sm,kvs,sm _ _ h1,h2.same fun l xs e=>sm _ _ e⟩,fun r e q=>c r (k.kv r e q)⟩,c⟩
def A8 (L:Level) (t:Spot) (d:Nat):Option (Nat×Nat):=(act (boardOf L) t d).map fun u=>(c0 L u,c0 L t)
def aO (L:Level) (t:Spot):List (Nat×Nat):=ACTS.filterMap (A8 L t)
def m6 (L:Level) (ss:List Spot):List (Nat×Nat):=ss.flatMap (aO L)
theorem edges_mem {L:Level} {ss:List Spot} {n b:Nat}:(n,b)∈m6 L ss↔∃t∈ss,c0 L t=b∧∃d u,act (boardOf L) t d=some u∧c0 L u=n:=by
 unfold m6 aO
 rw [List.mem_flatMap]
 constructor
 ·rintro ⟨t,ht,h⟩
  rw [List.mem_filterMap] at h
  obtain ⟨d,_,e⟩:=h
  unfold A8 at e
  cases q:act (boardOf L) t d with
  | none=>rw [q] at e;cases e
  | some u=>rw [q] at e;cases e;exact ⟨t,ht,rfl,d,u,q,rfl⟩
 ·rintro ⟨t,ht,rfl,d,u,e,rfl⟩
  refine ⟨t,ht,?_⟩
  rw [List.mem_filterMap]
  exact ⟨d,fT e,by unfold A8;rw [e];rfl⟩
structure Src (kd:Addr) (H0 H:Hp) (d:Addr) (ed:List (Nat×Nat)) (kvs:List (d9×V)):Prop where
 at_:H d=some (.dK kvs)
 len:kvs.length≤ed.length
 non:∀n:Nat,i7 kvs (g7 n)=none→∀e∈ed,e.1≠n
 som:∀(n:Nat) (v:V),i7 kvs (g7 n)=some v→∃l,v=.ref l∧H l=some (.lst (((ed.filter fun e=>e.1==n).map (·.2)).map nv))∧H0 l=none∧¬Kv H kd l
 inj:∀(n m:Nat) (l:Addr),i7 kvs (g7 n)=some (.ref l)→i7 kvs (g7 m)=some (.ref l)→n=m
theorem Src.keep {kd:Addr} {H0 H H':Hp} {d:Addr} {ed:List (Nat×Nat)} {kvs:List (d9×V)} (h:Src kd H0 H d ed kvs) (hd:H' d=some (.dK kvs)) (hl:∀l xs,H l=some (.lst xs)→H' l=some (.lst xs)) (hk:∀q,H q≠none→¬Kv H kd q→¬Kv H' kd q):Src kd H0 H' d ed kvs:=
 ⟨hd,h.len,h.non,fun n v e=>by
  obtain ⟨l,e1,e2,e3,e4⟩:=h.som n v e
  exact ⟨l,e1,hl _ _ e2,e3,hk _ (by rw [e2];intro z;cases z) e4⟩,h.inj⟩
theorem DD (ed:List (Nat×Nat)) (n m b:Nat):((ed++[(n,b)]).filter fun e=>e.1==m).map (·.2)=((ed.filter fun e=>e.1==m).map (·.2))++(if n=m then [b] else []):=by
 rw [List.filter_append,List.map_append]
 congr 1
 by_cases e:n=m
 ·simp [e]
 ·simp [e]
def AD (Cb:Addr):P2:=fun x y H Q=>∃p a L r ss,x=.ref p∧y=.ref r∧Bd Cb H p a L∧H r=some (.lst (ss.map fun t=>nv (c0 L t)))∧(∀t∈ss,Good L t)∧ss.length≤25600∧
 ∀H' d kvs,Bw a.kd L H H'→Src a.kd H H' d (m6 L ss) kvs→H d=none→¬Kv H' a.kd d→Q (.ref d) H'
theorem gS (L:Level):∀ss:List Spot,(m6 L ss).length≤5*ss.length
 | []=>by simp [m6]
 | t::ss=>by
  have h1:=gS L ss
  have h2:=List.length_filterMap_le (A8 L t) ACTS
  have h3:ACTS.length=5:=rfl
  unfold m6 at h1 ⊢
  rw [List.flatMap_cons,List.length_append,List.length_cons]
  unfold aO at *
  omega
theorem Cf {L:Level} {ss:List Spot} {i:Nat} {t:Spot} (h:ss[i]?=some t):m6 L (ss.take (i+1))=m6 L (ss.take i)++aO L t:=by
 unfold m6
 rw [List.take_add_one,h,List.flatMap_append]
 simp
theorem CF {L:Level} {t:Spot} {j:Nat} (h:j < 5):(ACTS.take (j+1)).filterMap (A8 L t)=(ACTS.take j).filterMap (A8 L t)++(match A8 L t j with | none=>[]|some e=>[e]):=by
 rw [List.take_add_one,fX h,List.filterMap_append]
 congr 1
 cases q:A8 L t j<;>simp [q]
theorem yU (T:i5 P w K mg Cb Cs):k7 P w K mg base 7 "sources_of" ["board","spots"] (x4 (AD Cb)):=by
 refine T.d_sources_of.ok (N:=["board","spots","sources","before","after"]) ⟨rfl,rfl,rfl,by rfl',rfl,by rfl',by rfl'⟩ (fun _ _ _ _=>l2) (fun vs H Q E h f cdv A outer s E' hr=>?_)
 obtain ⟨_,_,rfl,p,a,L,r,ss,rfl,rfl,B,hr0,hg,hlen,k⟩:=h
 have nd:(["board","spots","sources","before","after"]:List Str).Nodup:=by rfl'
 refine ⟨_,(d7 (j4 (i:=2) nd rfl (Or.inl rfl) R4) (d7 (B9 PassesOwn.never rfl (F2 (pv 1)) (n8 (i:=3) nd rfl (Or.inl rfl)) (f7 (B9 PassesOwn.never rfl (F2 (m9 (U7 T) hr (by decide) T.cl_Board (pv 0) (c7 (pv 3) c9))) (n8 (i:=4) nd rfl (Or.inl rfl)) (f7 (m7 (u5 G8 (pv 4) (i8 T.g_CANNOT) (o8 _)) (f7 (A7 (F3 PySem.F.plainAttrs_list PySem.F.slot_list_append PySem.F.type_list_append N2 (De (p7 hr) (pv 2) (pv 4) (l5 c9) ⟨rfl,rfl,rfl,rfl⟩) (c7 (pv 3) c9)))) m8))))) (f7 (i0 (pv 2))))),?_⟩
 refine fun d hd=>?_
 obtain ⟨b0,v0⟩:=(Bw.refl B).alloc B (o:=.dK []) hd
 have nrd:r≠d:=d8 hr0 hd
 have nkd:¬Kv (a8 H d (.dK [])) a.kd d:=v0 _ ((Bw.refl B).nokv hd)
 refine ⟨_,rfl,r,rfl,⟨_,SqL.of ((a9 nrd).trans hr0)⟩,K4 (xs:=ss.map fun t=>nv (c0 L t)) (fun i σ H'=>∃v3 v4 kvs,σ=[some (.ref p),some (.ref r),some (.ref d),v3,v4]∧Bw a.kd L H H'∧¬Kv H' a.kd d∧Src a.kd H H' d (m6 L (ss.take i)) kvs)
  ⟨none,none,[],rfl,b0,nkd,⟨c8,Nat.zero_le _,(fun n _ e he=>by simp [m6] at he),(fun n v e=>by cases e),(fun n m l e _=>by cases e)⟩⟩ (fun i σ H' _ ⟨_,_,_,_,q,_⟩=>SqL.of (q.but _ _ hr0 (fun z=>by obtain ⟨kv,h1,_⟩:=B.kn;rw [z,h1] at hr0;cases hr0))) ?_ ?_⟩
 ·rintro i x σ H1 hi ⟨v3,v4,kvs1,rfl,b1,nk1,s1⟩
  obtain ⟨t,ht,rfl⟩:∃t,ss[i]?=some t∧x=nv (c0 L t):=by
   rw [List.getElem?_map] at hi
   cases q:ss[i]? with
   | none=>rw [q] at hi;cases hi
   | some t=>rw [q] at hi;exact ⟨t,rfl,(Option.some.inj hi).symm⟩
  have hil:i < ss.length:=(List.getElem?_eq_some_iff.mp ht).1
  have gt:=hg t (List.mem_of_getElem? ht)
  have B1:=b1.toBk.bd B
  refine ⟨_,rfl,p,a.dx,_,rfl,B1.ins,o6 _ _ (by rfl'),_,rfl,_,_,rfl,p,a,L,t,rfl,rfl,B1,gt,fun H2 st hst=>⟨st,rfl,⟨_,SqL.of hst.2.2.1⟩,?_⟩⟩
  have b2:=b1.step hst
  have ndk:d≠a.kd:=fun z=>by obtain ⟨kv,h1,_⟩:=B.kn;rw [z,h1] at hd;cases hd
  have s2:Src a.kd H H2 d (m6 L (ss.take i)) kvs1:=s1.keep (hst.2.1 _ _ s1.at_ ndk) (fun l xs e=>hst.2.1 _ _ e (fun z=>by obtain ⟨kv,h1,_⟩:=B1.kn;rw [z,h1] at e;cases e)) hst.2.2.2.1
  have nk2:¬Kv H2 a.kd d:=hst.2.2.2.1 _ (by rw [s1.at_];intro z;cases z) nk1
  refine K4 (xs:=(A5 L t).map V.int) (fun j σ H'=>∃v4 kvs,σ=[some (.ref p),some (.ref r),some (.ref d),some (nv (c0 L t)),v4]∧Bw a.kd L H H'∧¬Kv H' a.kd d∧H' st=some (.lst ((A5 L t).map V.int))∧Kv H' a.kd st∧Src a.kd H H' d (m6 L (ss.take i)++(ACTS.take j).filterMap (A8 L t)) kvs)
   ⟨v4,kvs1,rfl,b2,nk2,hst.2.2.1,hst.2.2.2.2,by rw [show (ACTS.take 0).filterMap (A8 L t)=[] from rfl,List.append_nil];exact s2⟩ (fun j σ H' _ ⟨_,_,_,_,_,q,_⟩=>SqL.of q) ?_ ?_
  ·rintro j x σ H3 hj ⟨w4,kvs3,rfl,b3,nk3,hst3,kst3,s3⟩
   have hj5:j < 5:=by
    have:=(List.getElem?_eq_some_iff.mp hj).1
    rwa [List.length_map] at this
   obtain rfl:x=.int (y6 L t j):=by
    rw [List.getElem?_map,Z8 hj5] at hj
    exact (Option.some.inj hj).symm
   rw [CF hj5]
   refine ⟨_,rfl,rfl,_,rfl,?_⟩
   unfold y6 A8
   cases q:act (boardOf L) t j with
   | none=>
    refine k4 ⟨_,kvs3,rfl,b3,nk3,hst3,kst3,?_⟩
    rw [show (match Option.map (fun u=>(c0 L u,c0 L t)) (none:Option Spot) with | none=>([]:List (Nat×Nat))|some e=>[e])=[] from rfl,List.append_nil]
    exact s3
   | some u=>
    have hne:(!decide (V.int (c0 L u:Int)=V.int (-1)))=true:=by
     rw [decide_eq_false (fun q=>by injection q with q;omega)]
     rfl
    show if (!decide (V.int (c0 L u:Int)=V.int (-1)))=true then _ else _
    rw [hne]
    refine k8 ⟨_,rfl,d,rfl,.inl ⟨kvs3,.inl s3.at_⟩,_,rfl,Nat.zero_le _,fun l hl=>?_⟩
    obtain ⟨b4,v4'⟩:=b3.alloc B (o:=.lst []) hl
    have ndl:d≠l:=d8 s3.at_ hl
    have nsl:st≠l:=d8 hst3 hl
    have s4:Src a.kd H (a8 H3 l (.lst [])) d (m6 L (ss.take i)++(ACTS.take j).filterMap (A8 L t)) kvs3:=s3.keep (by rw [a9 ndl];exact s3.at_) (fun l' xs e=>by rw [a9 (d8 e hl)];exact e) fun q _ z=>v4' q z
    have nk4:=v4' _ nk3
    have nkl:¬Kv (a8 H3 l (.lst [])) a.kd l:=v4' _ (b3.nokv hl)
    have hst4:a8 H3 l (.lst []) st=some (.lst ((A5 L t).map V.int)):=by rw [a9 nsl];exact hst3
    have hl0:=b3.new hl
    have kst4:Kv (a8 H3 l (.lst [])) a.kd st:=by
     obtain ⟨kv,ky,e1,e2⟩:=kst3
     exact ⟨kv,ky,by rw [a9 (d8 e1 hl)];exact e1,e2⟩
    have hl4:a8 H3 l (.lst []) l=some (.lst []):=c8
    generalize a8 H3 l (.lst [])=H4 at b4 v4' s4 nk4 nkl hst4 kst4 hl4 ⊢
    have hlen3:kvs3.length < sizeLine:=by
     have q1:=s3.len
     have q2:=gS L (ss.take i)
     have q3:=List.length_filterMap_le (A8 L t) (ACTS.take j)
     have q4:(ss.take i).length≤ss.length:=by rw [List.length_take];exact Nat.min_le_right _ _
     have q5:(ACTS.take j).length≤5:=by rw [List.length_take];exact Nat.min_le_right _ _
     rw [List.length_append] at q1
     exact Nat.lt_of_le_of_lt (show kvs3.length≤200000 by omega) (by decide)
    have add:∀(H5:Hp) (kvs5:List (d9×V)) (l':Addr) (bs:List Nat),Bw a.kd L H H5→¬Kv H5 a.kd d→H5 st=some (.lst ((A5 L t).map V.int))→Kv H5 a.kd st→H5 d=some (.dK kvs5)→i7 kvs5 (g7 (c0 L u))=some (.ref l')→H5 l'=some (.lst (bs.map nv))→H l'=none→¬Kv H5 a.kd l'→bs.length≤200000→
      bs=((m6 L (ss.take i)++(ACTS.take j).filterMap (A8 L t)).filter fun e=>e.1==c0 L u).map (·.2)→
      (∀n:Nat,n≠c0 L u→i7 kvs5 (g7 n)=i7 kvs3 (g7 n))→(∀n v,n≠c0 L u→i7 kvs3 (g7 n)=some v→∃l,v=.ref l∧H5 l=some (.lst ((((m6 L (ss.take i)++(ACTS.take j).filterMap (A8 L t)).filter fun e=>e.1==n).map (·.2)).map nv))∧H l=none∧¬Kv H5 a.kd l∧l≠l')→kvs5.length≤(m6 L (ss.take i)++(ACTS.take j).filterMap (A8 L t)).length+1→
      ∃v4 kvs,([some (.ref p),some (.ref r),some (.ref d),some (nv (c0 L t)),some (V.int (c0 L u:Int))]:L2.St)=[some (.ref p),some (.ref r),some (.ref d),some (nv (c0 L t)),v4]∧Bw a.kd L H (a8 H5 l' (.lst (bs.map nv++[nv (c0 L t)])))∧¬Kv (a8 H5 l' (.lst (bs.map nv++[nv (c0 L t)]))) a.kd d∧a8 H5 l' (.lst (bs.map nv++[nv (c0 L t)])) st=some (.lst ((A5 L t).map V.int))∧Kv (a8 H5 l' (.lst (bs.map nv++[nv (c0 L t)]))) a.kd st∧
       Src a.kd H (a8 H5 l' (.lst (bs.map nv++[nv (c0 L t)]))) d (m6 L (ss.take i)++((ACTS.take j).filterMap (A8 L t)++[(c0 L u,c0 L t)])) kvs:=fun H5 kvs5 l' bs b5 nk5 hst5 kst5 hd5 hv5 hl5 hl0' nkl5 hbl hbs ho hall hlen5=>by
     obtain ⟨b6,v6⟩:=b5.own B (o:=.lst (bs.map nv++[nv (c0 L t)])) hl0' nkl5
     have A3:st≠l':=fun z=>nkl5 (z▸kst5)
     have ndl':d≠l':=f8 hd5 hl5 (by intro z;cases z)
     obtain ⟨kv,ky,k1,k2⟩:=kst5
     refine ⟨_,kvs5,rfl,b6,v6 _ nk5,by rw [a9 A3];exact hst5,⟨kv,ky,by rw [a9 (f8 k1 hl5 (by intro z;cases z))];exact k1,k2⟩,by rw [a9 ndl'];exact hd5,?_,fun n hn e he=>?_,fun n v hv=>?_,fun n m l'' e1 e2=>?_⟩
     ·rw [←List.append_assoc,List.length_append]
      exact hlen5
     ·rw [←List.append_assoc] at he
      have nn:n≠c0 L u:=fun z=>by rw [z,hv5] at hn;cases hn
      rcases List.mem_append.mp he with he|he
      ·exact s3.non n (by rw [←ho n nn];exact hn) e he
      ·simp at he
       rw [he]
       exact Ne.symm nn
     ·rw [←List.append_assoc,DD]
      by_cases nn:n=c0 L u
      ·subst nn
       rw [hv5] at hv
       cases hv
       refine ⟨l',rfl,?_,hl0',v6 _ nkl5⟩
       rw [c8,if_pos rfl,List.map_append,←hbs]
       rfl
      ·rw [ho n nn] at hv
       obtain ⟨l2,e1,e2,e3,e4,e5⟩:=hall n v nn hv
       refine ⟨l2,e1,?_,e3,v6 _ e4⟩
       rw [a9 e5,if_neg (fun z=>nn z.symm),List.append_nil]
       exact e2
     ·by_cases n1:n=c0 L u
      ·by_cases n2:m=c0 L u
       ·rw [n1,n2]
       ·rw [n1,hv5] at e1
        cases e1
        rw [ho m n2] at e2
        obtain ⟨l2,z1,_,_,_,z2⟩:=hall m _ n2 e2
        cases z1
        exact absurd rfl z2
      ·by_cases n2:m=c0 L u
       ·rw [n2,hv5] at e2
        cases e2
        rw [ho n n1] at e1
        obtain ⟨l2,z1,_,_,_,z2⟩:=hall n _ n1 e1
        cases z1
        exact absurd rfl z2
       ·rw [ho n n1] at e1
        rw [ho m n2] at e2
        exact s3.inj n m l'' e1 e2
    have hbl:(((m6 L (ss.take i)++(ACTS.take j).filterMap (A8 L t)).filter fun e=>e.1==c0 L u).map (·.2)).length≤200000:=by
     rw [List.length_map]
     refine Nat.le_trans (List.length_filter_le _ _) ?_
     have q2:=gS L (ss.take i)
     have q3:=List.length_filterMap_le (A8 L t) (ACTS.take j)
     have q4:(ss.take i).length≤ss.length:=by rw [List.length_take];exact Nat.min_le_right _ _
     have q5:(ACTS.take j).length≤5:=by rw [List.length_take];exact Nat.min_le_right _ _
     rw [List.length_append]
     omega
    refine ⟨kvs3,g7 (c0 L u),s4.at_,rfl,hlen3,fun v hv=>?_,fun hv=>?_⟩
    ·obtain ⟨l',rfl,e2,e3,e4⟩:=s4.som _ _ hv
     refine ⟨.inl ⟨rfl,_,SqL.of e2⟩,_,rfl,l',_,_,rfl,rfl,e2,?_,?_⟩
     ·rw [List.length_map]
      exact Nat.lt_of_le_of_lt hbl (by decide)
     ·refine add H4 kvs3 l' _ b4 nk4 hst4 kst4 s4.at_ hv e2 e3 e4 hbl rfl (fun n _=>rfl) (fun n v nn e=>?_) ?_
      ·obtain ⟨l2,z1,z2,z3,z4⟩:=s4.som n v e
       exact ⟨l2,z1,z2,z3,z4,fun z=>nn (s3.inj n _ l' (by rw [e,z1,z]) hv)⟩
      ·exact Nat.le_trans s3.len (Nat.le_succ _)
    ·have ndl4:d≠l:=f8 s4.at_ hl4 (by intro z;cases z)
     have hd0:H d=none:=hd
     obtain ⟨b5,v5'⟩:=b4.own B (o:=.dK (j7 kvs3 (g7 (c0 L u)) (.ref l))) hd0 nk4
     have hl5:a8 H4 d (.dK (j7 kvs3 (g7 (c0 L u)) (.ref l))) l=some (.lst []):=by rw [a9 (Ne.symm ndl4)];exact hl4
     have hst5:a8 H4 d (.dK (j7 kvs3 (g7 (c0 L u)) (.ref l))) st=some (.lst ((A5 L t).map V.int)):=by rw [a9 (f8 hst4 s4.at_ (by intro z;cases z))];exact hst4
     have kst5:Kv (a8 H4 d (.dK (j7 kvs3 (g7 (c0 L u)) (.ref l)))) a.kd st:=by
      obtain ⟨kv,ky,e1,e2⟩:=kst4
      exact ⟨kv,ky,by rw [a9 (Ne.symm ndk)];exact e1,e2⟩
     have hno:((m6 L (ss.take i)++(ACTS.take j).filterMap (A8 L t)).filter fun e=>e.1==c0 L u)=[]:=by
      rw [List.filter_eq_nil_iff]
      intro e he
      have:=s3.non _ hv e he
      simpa using this
     refine ⟨.inl ⟨rfl,_,SqL.of hl5⟩,_,rfl,l,_,_,rfl,rfl,hl5,by decide,?_⟩
     refine add _ _ l [] b5 (v5' _ nk4) hst5 kst5 c8 (by rw [N8,if_pos rfl]) hl5 hl0 (v5' _ nkl) (by decide) (by rw [hno];rfl) (fun n nn=>?_) (fun n v nn e=>?_) ?_
     ·rw [N8,if_neg (show ¬g7 n=g7 (c0 L u) from fun z=>nn (Int.ofNat.inj (Sum.inl.inj z)))]
     ·obtain ⟨l2,z1,z2,z3,z4⟩:=s4.som n v e
      refine ⟨l2,z1,by rw [a9 (f8 z2 s4.at_ (by intro z;cases z))];exact z2,z3,v5' _ z4,fun z=>?_⟩
      obtain ⟨l3,y1,y2,_⟩:=s3.som n v e
      rw [y1] at z1
      cases z1
      rw [z,hl] at y2
      cases y2
     ·refine Nat.le_trans (V5 _ _ _) (Nat.succ_le_succ s3.len)
  ·rintro σ H3 ⟨w4,kvs3,rfl,b3,nk3,_,_,s3⟩
   refine ⟨_,_,kvs3,rfl,b3,nk3,?_⟩
   rw [Cf ht]
   exact s3
 ·rintro σ H1 ⟨v3,v4,kvs1,rfl,b1,nk1,s1⟩
  rw [List.length_map,List.take_length] at s1
  exact ⟨_,rfl,k _ d kvs1 b1 s1 hd nk1⟩
def A1 (l:List Nat):List (d9×V):=l.map fun n=>(g7 n,V.bl true)
theorem Bi (l:List Nat):(A1 l).map (·.1)=l.map g7:=by
 unfold A1
 rw [List.map_map]
 rfl
theorem fS (l:List Nat) (n:Nat):(i7 (A1 l) (g7 n)).isSome=decide (n∈l):=V8 (Bi l)
theorem mT {l:List Nat} {n:Nat} (h:n∉l):j7 (A1 l) (g7 n) (V.bl true)=A1 (l++[n]):=by
 have hv:i7 (A1 l) (g7 n)=none:=by
  have:=fS l n
  rw [decide_eq_false h] at this
  cases e:i7 (A1 l) (g7 n) with
  | none=>rfl
  | some v=>rw [e] at this;cases this
 rw [X1 _ hv]
 unfold A1
 rw [List.map_append]
 rfl
theorem kG (l:List Nat):(A1 l).length=l.length:=by unfold A1;rw [List.length_map]
def U1 (L:Level) (ss:List Spot) (n:Nat):List Nat:=((m6 L ss).filter fun e=>e.1==n).map (·.2)
theorem srcs_mem {L:Level} {ss:List Spot} {n b:Nat}:b∈U1 L ss n↔(n,b)∈m6 L ss:=by
 unfold U1
 rw [List.mem_map]
 constructor
 ·rintro ⟨e,h1,rfl⟩
  rw [List.mem_filter] at h1
  have:e.1=n:=by simpa using h1.2
  rw [←this]
  exact h1.1
 ·intro h
  exact ⟨(n,b),List.mem_filter.mpr ⟨h,by simp⟩,rfl⟩
structure Hf (L:Level) (ss:List Spot) (hk:List Nat):Prop where
 sub:∀n∈hk,∃t∈ss,c0 L t=n∧Hope L t
 nd:hk.Nodup
 ov:∀t∈ss,over (boardOf L) t=true→c0 L t∈hk
theorem Hf.src {L:Level} {ss:List Spot} {hk:List Nat} (R:Rt L) (hg:∀t∈ss,Good L t) (h:Hf L ss hk) {n b:Nat} (hn:n∈hk) (hb:(n,b)∈m6 L ss):∃t∈ss,c0 L t=b∧Hope L t:=by
 obtain ⟨t,ht,e1,d,u,e2,e3⟩:=edges_mem.mp hb
 obtain ⟨v,hv,e4,e5⟩:=h.sub n hn
 have:u=v:=P7 (M7 R (hg t ht) e2) (hg v hv) (e3.trans e4.symm)
 subst this
 exact ⟨t,ht,e1,.step e2 e5⟩
theorem Hf.len {L:Level} {ss:List Spot} {hk:List Nat} (h:Hf L ss hk):hk.length≤ss.length:=by
 have:∀(l:List Nat) (m:List Nat),l.Nodup→(∀n∈l,n∈m)→l.length≤m.length:=by
  intro l
  induction l with
  | nil=>intro m _ _;exact Nat.zero_le _
  | cons x l ih=>
   intro m hn hm
   rw [List.nodup_cons] at hn
   have h1:=ih (m.erase x) hn.2 fun n h2=>(List.mem_erase_of_ne (show n≠x from fun z=>hn.1 (by rw [←z];exact h2))).mpr (hm n (List.mem_cons_of_mem _ h2))
   have h3:x∈m:=hm x (by simp)
   rw [List.length_erase_of_mem h3] at h1
   have:=List.length_pos_of_mem h3
   rw [List.length_cons]
   omega
 have:=this hk (ss.map (c0 L)) h.nd fun n hn=>by
  obtain ⟨t,ht,e,_⟩:=h.sub n hn
  exact List.mem_map.mpr ⟨t,ht,e⟩
 rwa [List.length_map] at this
theorem Hf.all {L:Level} {ss:List Spot} {hk:List Nat} (hc:∀t∈ss,∀d u,act (boardOf L) t d=some u→u∈ss) (h:Hf L ss hk) (cl:∀n∈hk,∀b,(n,b)∈m6 L ss→b∈hk) {t:Spot} (ht:t∈ss) (hp:Hope L t):c0 L t∈hk:=by
 induction hp with
 | here e=>exact h.ov _ ht e
 | step e _ ih=>exact cl _ (ih (hc _ ht _ _ e)) _ (edges_mem.mpr ⟨_,ht,rfl,_,_,e,rfl⟩)
def S0 (L:Level):V→Bool
 | .int n=>decide (Vbrgae.codeAt L (n.toNat % (L.w*L.h))=3)
 | _=>false
def mG (Cb t2:Addr):P2:=fun x y H Q=>∃p a L s0,x=.ref p∧y=nv (c0 L s0)∧Bd Cb H p a L∧Good L s0∧Tab H t2 J7 qR∧∀H' d kvs,Sb1 Cb H p a L t2 J7 qR H'→H d=none→¬Kv H' a.kd d→H' d=some (.dK kvs)→(∀t,Lead L s0 t→((i7 kvs (g7 (c0 L t))).isSome=true↔Hope L t))→Q (.ref d) H'
theorem zW (T:i5 P w K mg Cb Cs) {c2 t2:Addr} (C:CodeHd base c2 t2) (Bm0:Bm mg base) (D:DfL K mg "reached_spots" "reached_spots" V4 ["board","spot"] c2):k7 P w K mg base 9 "hopeful_spots" ["board","spot"] (x4 (mG Cb t2)):=by
 refine T.d_hopeful_spots.ok (N:=["board","spot","spots","sources","layer","other","hopeful","stairs","further","after","before"]) ⟨rfl,rfl,rfl,by rfl',rfl,by rfl',by rfl'⟩ (fun _ _ _ _=>l2) (fun vs H Q E h f cdv A outer s E' hr=>?_)
 obtain ⟨_,_,rfl,p,a,L,s0,rfl,rfl,B,g0,tb,k⟩:=h
 have nd:(["board","spot","spots","sources","layer","other","hopeful","stairs","further","after","before"]:List Str).Nodup:=by rfl'
 refine ⟨_,(d7 (j4 (i:=2) nd rfl (Or.inl rfl) (n9 (iM T C Bm0 D) hr (by decide) (c7 (pv 0) (c7 (pv 1) c9)))) (d7 (j4 (i:=3) nd rfl (Or.inl rfl) (n9 (yU T) hr (by decide) (c7 (pv 0) (c7 (pv 2) c9)))) (d7 (oA (i:=4) (own:=[("other",5)]) (te:=z9 5) rfl nd rfl rfl (oT rfl rfl rfl (by rfl')) (F2 (pv 2)) (M3 (N:=["board","spot","spots","sources","layer","other","hopeful","stairs","further","after","before"]) (sc:=k9 oW) (by rfl')) (by intro s H C cl fp;exact n8 (i:=5) nd rfl (Or.inl rfl)) (by intro s H C cl fp;exact aV (C8 (m9 (U3 T) hr (by decide) T.cl_Board (pv 0) (c7 (pv 5) c9)))) (by intro s H C cl fp;exact pv 5)) (d7 (j4 (i:=6) nd rfl (Or.inl rfl) R4) (d7 (B9 PassesOwn.never rfl (F2 (pv 4)) (n8 (i:=7) nd rfl (Or.inl rfl)) (f7 (M9 (p7 hr) (pv 6) (pv 7) R7 rfl))) (d7 (Z0 PassesOwn.never (Q7 (pv 4) (fun _=>rfl)) (d7 (j4 (i:=8) nd rfl (Or.inl rfl) (l5 c9)) (d7 (B9 PassesOwn.never rfl (F2 (pv 4)) (n8 (i:=9) nd rfl (Or.inl rfl)) (f7 (B9 PassesOwn.never rfl (AG (iN (p7 hr) (pv 3) (pv 9) (N9 c9) ⟨rfl,rfl,rfl,rfl⟩)) (n8 (i:=10) nd rfl (Or.inl rfl)) (f7 (m7 (K2 (bE (p7 hr) (pv 10) (pv 6)) rfl) (d7 (M9 (p7 hr) (pv 6) (pv 10) R7 rfl) (f7 (A7 (F3 PySem.F.plainAttrs_list PySem.F.slot_list_append PySem.F.type_list_append N2 (pv 8) (c7 (pv 10) c9))))) m8))))) (f7 (j4 (i:=4) nd rfl (Or.inl rfl) (pv 8)))))) (f7 (i0 (pv 6))))))))),?_⟩
 refine ⟨_,rfl,_,rfl,_,_,rfl,p,a,L,s0,rfl,rfl,B,g0,tb,fun H1 r1 sb1 hr1 nk1 hx1=>?_⟩
 have R:=B.R
 obtain ⟨ss,hss⟩:∃ss,ss=(reached (boardOf L) s0).reverse:=⟨_,rfl⟩
 have hx1':H1 r1=some (.lst (ss.map fun t=>nv (c0 L t))):=by rw [hx1,hss,List.map_reverse,List.map_reverse,List.map_map];rfl
 have hl:∀t,t∈ss↔Lead L s0 t:=fun t=>by rw [hss,List.mem_reverse];exact R6 R g0
 have hg:∀t∈ss,Good L t:=fun t ht=>((hl t).mp ht).good R g0
 have hc:∀t∈ss,∀d u,act (boardOf L) t d=some u→u∈ss:=fun t ht d u e=>(hl u).mpr (.tail ((hl t).mp ht) e)
 have hnd:(ss.map (c0 L)).Nodup:=by
  rw [hss,List.map_reverse,List.Nodup,List.pairwise_reverse]
  exact (jQ R g0).imp fun h=>Ne.symm h
 have hslen:ss.length≤25600:=by
  have h1:=X8 hnd fun n hn=>by
   obtain ⟨t,ht,rfl⟩:=List.mem_map.mp hn
   exact P9 R (hg t ht)
  rw [List.length_map] at h1
  exact Nat.le_trans h1 (X9 R)
 have B1:=sb1.bd
 refine ⟨_,rfl,_,rfl,_,_,rfl,p,a,L,r1,ss,rfl,rfl,B1,hx1',hg,hslen,fun H2 d2 kvs2 b2 sr2 hd2 nk2=>?_⟩
 have nkd1:r1≠a.kd:=fun z=>by obtain ⟨kv,e1,_⟩:=B1.kn;rw [z,e1] at hx1';cases hx1'
 have hx2:=b2.but _ _ hx1' nkd1
 have B2:=b2.toBk.bd B1
 refine ⟨_,rfl,r1,rfl,⟨_,SqL.of hx2⟩,fun lay0 hlay0=>?_⟩
 refine aH (xs:=ss.map fun t=>nv (c0 L t)) (S0 L) id hlay0 (SqL.of hx2) (by rw [List.length_map];exact Nat.lt_of_le_of_lt hslen (by decide)) (fun x hx H' C N s' hcc hn=>?_) (fun H3 s3 hl3=>?_)
 ·obtain ⟨t,ht,rfl⟩:=List.mem_map.mp hx
  have B':=B2.same s'
  refine ⟨rfl,_,rfl,p,a.dx,_,rfl,B'.ins,o6 _ _ (by rfl'),_,rfl,_,_,rfl,p,a,L,c0 L t,rfl,rfl,B'.toBs0,_,rfl,?_⟩
  exact t0 (fun z=>⟨_,rfl,hcc _ (Same.refl _) z⟩) (fun z=>hn _ (Same.refl _) (Bool.eq_false_iff.mpr z))
 obtain ⟨b3,v3⟩:=b2.same s3
 have hly:(((ss.map fun t=>nv (c0 L t)).filter (S0 L)).map id)=(((ss.filter (over (boardOf L))).map (c0 L)).map nv):=by
  rw [List.map_id,List.filter_map,List.map_map]
  have:ss.filter (S0 L∘fun t=>nv (c0 L t))=ss.filter (over (boardOf L)):=by
   apply List.filter_congr
   intro t ht
   exact W1 (hg t ht)
  rw [this]
  rfl
 rw [hly] at hl3
 obtain ⟨ly0,ely⟩:∃ly0,ly0=(ss.filter (over (boardOf L))).map (c0 L):=⟨_,rfl⟩
 rw [←ely] at hl3
 have nlay0:H1 lay0=none:=b2.new hlay0
 have sr3:Src a.kd H1 H3 d2 (m6 L ss) kvs2:=sr2.keep (s3 _ _ sr2.at_) (fun l xs e=>s3 _ _ e) fun q _ z=>v3 q z
 have nlk0:¬Kv H3 a.kd lay0:=v3 _ (b2.nokv hlay0)
 have nk3:¬Kv H3 a.kd d2:=v3 _ nk2
 have hlyn:ly0.Nodup:=by
  rw [ely]
  exact List.Sublist.nodup (List.Sublist.map _ List.filter_sublist) hnd
 refine fun hd hhd=>?_
 obtain ⟨b4,v4⟩:=b3.alloc B1 (o:=.dK []) hhd
 have nhd:H1 hd=none:=b3.new hhd
 have hl4:a8 H3 hd (.dK []) lay0=some (.lst (ly0.map nv)):=by rw [a9 (d8 hl3 hhd)];exact hl3
 have nhk4:=v4 _ (b3.nokv hhd)
 have sr4:Src a.kd H1 (a8 H3 hd (.dK [])) d2 (m6 L ss) kvs2:=sr3.keep (by rw [a9 (d8 sr3.at_ hhd)];exact sr3.at_) (fun l xs e=>by rw [a9 (d8 e hhd)];exact e) fun q _ z=>v4 q z
 have ndh:d2≠hd:=d8 sr3.at_ hhd
 have hlylen:ly0.length≤25600:=by
  rw [ely,List.length_map]
  exact Nat.le_trans (List.length_filter_le _ _) hslen
 have nlk4:=v4 _ nlk0
 have hd4:a8 H3 hd (.dK []) hd=some (.dK (A1 [])):=c8
 have nd4:=v4 _ nk3
 generalize a8 H3 hd (.dK [])=H4 at b4 v4 hl4 nhk4 sr4 nlk4 hd4 nd4 ⊢
 refine ⟨_,rfl,lay0,rfl,⟨_,SqL.of hl4⟩,K4 (xs:=ly0.map nv) (fun i σ H'=>∃v7,σ=[some (.ref p),some (nv (c0 L s0)),some (.ref r1),some (.ref d2),some (.ref lay0),none,some (.ref hd),v7,none,none,none]∧Bw a.kd L H1 H'∧H' lay0=some (.lst (ly0.map nv))∧¬Kv H' a.kd lay0∧¬Kv H' a.kd hd∧¬Kv H' a.kd d2∧Src a.kd H1 H' d2 (m6 L ss) kvs2∧H' hd=some (.dK (A1 (ly0.take i))))
  ⟨none,rfl,b4,hl4,nlk4,nhk4,nd4,sr4,hd4⟩ (fun i σ H' _ z=>dS z fun _ z=>SqL.of z.2.2.1) ?_ ?_⟩
 ·refine fun i x σ H5 hi zz=>dS zz fun v7 zz=>kI zz fun zq0 b5 hl5 nlk5 nhk5 nd5 sr5 hd5=>?_
  subst zq0
  obtain ⟨n,hn,rfl⟩:∃n,ly0[i]?=some n∧x=nv n:=by
   rw [List.getElem?_map] at hi
   cases q:ly0[i]? with
   | none=>rw [q] at hi;cases hi
   | some t=>rw [q] at hi;exact ⟨t,rfl,(Option.some.inj hi).symm⟩
  have hnn:n∉ly0.take i:=fun z=>by
   obtain ⟨m,hm1,hm2⟩:=List.mem_take_iff_getElem.mp z
   obtain ⟨a1,e1⟩:=List.getElem?_eq_some_iff.mp hn
   have:=(List.getElem_inj hlyn).mp (hm2.trans e1.symm)
   omega
  have hil:i < ly0.length:=(List.getElem?_eq_some_iff.mp hn).1
  obtain ⟨b6,v6⟩:=b5.own B1 (o:=.dK (A1 (ly0.take i++[n]))) nhd nhk5
  refine ⟨_,rfl,_,rfl,hd,_,rfl,DPut.k (k:=g7 n) hd5 ?_,?_⟩
  ·rw [kG,List.length_take]
   exact Nat.lt_of_le_of_lt (Nat.min_le_right _ _) (Nat.lt_of_le_of_lt hlylen (by decide))
  ·rw [mT hnn]
   refine ⟨_,rfl,b6,?_,v6 _ nlk5,v6 _ nhk5,v6 _ nd5,sr5.keep ?_ (fun l xs e=>?_) (fun q _ z=>v6 q z),?_⟩
   ·rw [a9 (f8 hl5 hd5 (by intro z;cases z))]
    exact hl5
   ·rw [a9 ndh]
    exact sr5.at_
   ·rw [a9 (f8 e hd5 (by intro z;cases z))]
    exact e
   ·rw [c8,List.take_add_one,hn]
    rfl
 refine fun σ H5 zz=>dS zz fun v7 zz=>kI zz fun zq1 b5 hl5 nlk5 nhk5 nd5 sr5 hd5=>?_
 subst zq1
 rw [List.length_map,List.take_length] at hd5
 have hf0:Hf L ss ly0:=by
  refine ⟨fun n hn=>?_,hlyn,fun t ht e=>?_⟩
  ·rw [ely] at hn
   obtain ⟨t,ht,rfl⟩:=List.mem_map.mp hn
   rw [List.mem_filter] at ht
   exact ⟨t,ht.1,rfl,.here ht.2⟩
  ·rw [ely]
   exact List.mem_map.mpr ⟨t,List.mem_filter.mpr ⟨ht,e⟩,rfl⟩
 refine ⟨fun m σ H'=>∃ly hk lay u7 u8 u9 u10,σ=[some (.ref p),some (nv (c0 L s0)),some (.ref r1),some (.ref d2),some (.ref lay),none,some (.ref hd),u7,u8,u9,u10]∧Bw a.kd L H1 H'∧H1 lay=none∧H' lay=some (.lst (ly.map nv))∧¬Kv H' a.kd lay∧¬Kv H' a.kd hd∧¬Kv H' a.kd d2∧Src a.kd H1 H' d2 (m6 L ss) kvs2∧H' hd=some (.dK (A1 hk))∧
   Hf L ss hk∧(∀n∈ly,n∈hk)∧(∀n∈hk,n∈ly∨∀b,(n,b)∈m6 L ss→b∈hk)∧m=(ss.length - hk.length)+(if ly=[] then 0 else 1),
  ⟨_,ly0,ly0,lay0,v7,none,none,none,rfl,b5,nlay0,hl5,nlk5,nhk5,nd5,sr5,hd5,hf0,fun n h=>h,fun n h=>.inl h,rfl⟩,?_⟩
 refine fun m σ H6 zz=>lR zz fun ly hk lay u7 u8 u9 u10 zz=>bH zz fun zq2 b6 layn hl6 nlk6 nhk6 nd6 sr6 hd6 hf6 sub6 cl6 zq3=>?_
 subst zq2
 subst zq3
 refine ⟨_,rfl,_,.inl ⟨_,SqL.of hl6,rfl⟩,?_⟩
 have fin:Bw a.kd L H1 H6→True:=fun _=>trivial
 by_cases hly6:ly=[]
 ·subst hly6
  refine k4 ⟨_,rfl,?_⟩
  obtain ⟨kv1,kd1,_⟩:=B1.kn
  refine k H6 hd (A1 hk) ⟨b6.toBk.bd B1,sb1.tab.keep (fun ps e=>b6.but _ _ e (fun z=>by rw [z,kd1] at e;cases e)) (fun c e=>b6.but _ _ e (fun z=>by rw [z,kd1] at e;cases e)),fun b o e n1 n2=>b6.but _ _ (sb1.frm b o e n1 n2) n1,fun r e q=>b6.kv r ?_ (sb1.kv r e q)⟩ ?_ nhk6 hd6 fun t ht=>?_
  ·cases z:H r with
   | none=>exact absurd z e
   | some o=>
    by_cases e1:r=a.kd
    ·rw [e1,kd1]
     intro q
     cases q
    ·by_cases e2:r=t2
     ·obtain ⟨ps,q,_⟩:=sb1.tab
      rw [e2,q]
      intro q
      cases q
     ·rw [sb1.frm r o z e1 e2]
      intro q
      cases q
  ·cases z:H hd with
   | none=>rfl
   | some o=>
    by_cases e1:hd=a.kd
    ·rw [e1,kd1] at nhd
     cases nhd
    ·by_cases e2:hd=t2
     ·obtain ⟨ps,q,_⟩:=sb1.tab
      rw [e2,q] at nhd
      cases nhd
     ·rw [sb1.frm hd o z e1 e2] at nhd
      cases nhd
  ·rw [fS,decide_eq_true_iff]
   have hts:=(hl t).mpr ht
   constructor
   ·intro z
    obtain ⟨u,hu,e1,e2⟩:=hf6.sub _ z
    have:=P7 (hg u hu) (hg t hts) e1
    subst this
    exact e2
   ·intro z
    exact hf6.all hc (fun n hn b hb=>(cl6 n hn).resolve_left (by simp) b hb) hts z
 have hne:(!(ly.map nv).isEmpty)=true:=by
  cases ly with
  | nil=>exact absurd rfl hly6
  | cons a l=>rfl
 rw [hne,if_neg hly6]
 refine k8 ⟨fun σ H'=>∃ly' hk' lay u7 u8 u9 u10,σ=[some (.ref p),some (nv (c0 L s0)),some (.ref r1),some (.ref d2),some (.ref lay),none,some (.ref hd),u7,u8,u9,u10]∧Bw a.kd L H1 H'∧H1 lay=none∧H' lay=some (.lst (ly'.map nv))∧¬Kv H' a.kd lay∧¬Kv H' a.kd hd∧¬Kv H' a.kd d2∧Src a.kd H1 H' d2 (m6 L ss) kvs2∧H' hd=some (.dK (A1 hk'))∧
   Hf L ss hk'∧(∀n∈ly',n∈hk')∧(∀n∈hk',n∈ly'∨∀b,(n,b)∈m6 L ss→b∈hk')∧hk'.length=hk.length+ly'.length,
  fun σ' H' z=>lR z fun ly' hk' lay u7 u8 u9 u10 z=>bH z fun q1 q2 q3 q4 q5 q6 q7 q8 q9 q10 q11 q12 q13=>⟨_,?_,ly',hk',lay,u7,u8,u9,u10,q1,q2,q3,q4,q5,q6,q7,q8,q9,q10,q11,q12,rfl⟩,?_⟩
 ·have h1:=q10.len
  cases ly' with
  | nil=>rw [if_pos rfl];rw [List.length_nil] at q13;omega
  | cons x l=>rw [if_neg (by intro z;cases z)];rw [List.length_cons] at q13;omega
 refine ⟨Nat.zero_le _,fun fr hfr=>?_⟩
 obtain ⟨b7,v7'⟩:=b6.alloc B1 (o:=.lst []) hfr
 have frn:H1 fr=none:=b6.new hfr
 have nfl:lay≠fr:=d8 hl6 hfr
 have hl7:a8 H6 fr (.lst []) lay=some (.lst (ly.map nv)):=by rw [a9 nfl];exact hl6
 have hd7:a8 H6 fr (.lst []) hd=some (.dK (A1 hk)):=by rw [a9 (d8 hd6 hfr)];exact hd6
 have sr7:Src a.kd H1 (a8 H6 fr (.lst [])) d2 (m6 L ss) kvs2:=sr6.keep (by rw [a9 (d8 sr6.at_ hfr)];exact sr6.at_) (fun l xs e=>by rw [a9 (d8 e hfr)];exact e) fun q _ z=>v7' q z
 have hfr7:a8 H6 fr (.lst []) fr=some (.lst (([]:List Nat).map nv)):=c8
 have nfr:∀n l,i7 kvs2 (g7 n)=some (.ref l)→l≠fr:=fun n l e z=>by
  obtain ⟨l',e1,e2,_⟩:=sr6.som n _ e
  cases e1
  rw [z,hfr] at e2
  cases e2
 have nlk7:=v7' _ nlk6
 have nhk7:=v7' _ nhk6
 have nd7:=v7' _ nd6
 have nfk7:=v7' _ (b6.nokv hfr)
 generalize a8 H6 fr (.lst [])=H7 at b7 v7' hl7 hd7 sr7 hfr7 nlk7 nhk7 nd7 nfk7 ⊢
 refine ⟨_,rfl,lay,rfl,⟨_,SqL.of hl7⟩,K4 (xs:=ly.map nv) (fun i σ H'=>∃fu u9 u10,σ=[some (.ref p),some (nv (c0 L s0)),some (.ref r1),some (.ref d2),some (.ref lay),none,some (.ref hd),u7,some (.ref fr),u9,u10]∧Bw a.kd L H1 H'∧H' lay=some (.lst (ly.map nv))∧¬Kv H' a.kd lay∧¬Kv H' a.kd hd∧¬Kv H' a.kd d2∧¬Kv H' a.kd fr∧Src a.kd H1 H' d2 (m6 L ss) kvs2∧H' hd=some (.dK (A1 (hk++fu)))∧H' fr=some (.lst (fu.map nv))∧
   Hf L ss (hk++fu)∧(∀n∈ly.take i,∀b,(n,b)∈m6 L ss→b∈hk++fu))
  ⟨[],u9,u10,rfl,b7,hl7,nlk7,nhk7,nd7,nfk7,sr7,by rw [List.append_nil];exact hd7,hfr7,by rw [List.append_nil];exact hf6,fun n hn=>by simp at hn⟩ (fun i σ H' _ z=>dZ z fun _ _ _ z=>SqL.of z.2.2.1) ?_ ?_⟩
 ·refine fun i x σ H8 hi zz=>dZ zz fun fu w9 w10 zz=>hZ zz fun zq4 b8 hl8 nlk8 nhk8 nd8 nfk8 sr8 hd8 hfr8 hf8 pr8=>?_
  subst zq4
  obtain ⟨n,hn,rfl⟩:∃n,ly[i]?=some n∧x=nv n:=by
   rw [List.getElem?_map] at hi
   cases q:ly[i]? with
   | none=>rw [q] at hi;cases hi
   | some t=>rw [q] at hi;exact ⟨t,rfl,(Option.some.inj hi).symm⟩
  have nhk:n∈hk:=sub6 n (List.mem_of_getElem? hn)
  refine ⟨_,rfl,d2,rfl,.inl ⟨kvs2,.inl sr8.at_⟩,_,rfl,Nat.zero_le _,fun tp htp=>⟨_,DGet.k (k:=g7 n) (by rw [a9 (d8 sr8.at_ htp)];exact sr8.at_),?_⟩⟩
  obtain ⟨b9,v9⟩:=b8.alloc B1 (o:=.tup []) htp
  have hl9:a8 H8 tp (.tup []) lay=some (.lst (ly.map nv)):=by rw [a9 (d8 hl8 htp)];exact hl8
  have hd9:a8 H8 tp (.tup []) hd=some (.dK (A1 (hk++fu))):=by rw [a9 (d8 hd8 htp)];exact hd8
  have hfr9:a8 H8 tp (.tup []) fr=some (.lst (fu.map nv)):=by rw [a9 (d8 hfr8 htp)];exact hfr8
  have sr9:Src a.kd H1 (a8 H8 tp (.tup [])) d2 (m6 L ss) kvs2:=sr8.keep (by rw [a9 (d8 sr8.at_ htp)];exact sr8.at_) (fun l xs e=>by rw [a9 (d8 e htp)];exact e) fun q _ z=>v9 q z
  have tp9:a8 H8 tp (.tup []) tp=some (.tup []):=c8
  have nlk9:=v9 _ nlk8
  have nhk9:=v9 _ nhk8
  have nd9:=v9 _ nd8
  have nfk9:=v9 _ nfk8
  generalize a8 H8 tp (.tup [])=H9 at b9 v9 hl9 hd9 hfr9 sr9 tp9 nlk9 nhk9 nd9 nfk9 ⊢
  cases e:i7 kvs2 (g7 n) with
  | none=>
   refine ⟨tp,rfl,.inr ⟨⟨_,SqT.of tp9⟩,aX (xs:=[]) (fun _ σ H'=>σ=[some (.ref p),some (nv (c0 L s0)),some (.ref r1),some (.ref d2),some (.ref lay),none,some (.ref hd),u7,some (.ref fr),some (nv n),w10]∧H'=H9) ⟨rfl,rfl⟩ (fun _ _ _ _ q=>by rw [q.2];exact SqT.of tp9) (fun i x _ _ hx=>by simp at hx) ?_⟩⟩
   rintro σ H' ⟨rfl,rfl⟩
   refine ⟨fu,_,_,rfl,b9,hl9,nlk9,nhk9,nd9,nfk9,sr9,hd9,hfr9,hf8,fun n' hn' b hb=>?_⟩
   rw [List.take_add_one,hn] at hn'
   rcases List.mem_append.mp hn' with q|q
   ·exact pr8 n' q b hb
   ·simp at q
    subst q
    exact absurd rfl (sr8.non n' e _ hb)
  | some v=>
   obtain ⟨l,rfl,el,el0,elk⟩:=sr9.som n v e
   have nlf:=nfr n l e
   refine ⟨l,rfl,.inl ⟨⟨_,SqL.of el⟩,K4 (xs:=(U1 L ss n).map nv) (fun j σ H'=>∃fu u10,σ=[some (.ref p),some (nv (c0 L s0)),some (.ref r1),some (.ref d2),some (.ref lay),none,some (.ref hd),u7,some (.ref fr),some (nv n),u10]∧Bw a.kd L H1 H'∧H' lay=some (.lst (ly.map nv))∧¬Kv H' a.kd lay∧¬Kv H' a.kd hd∧¬Kv H' a.kd d2∧¬Kv H' a.kd fr∧Src a.kd H1 H' d2 (m6 L ss) kvs2∧H' hd=some (.dK (A1 (hk++fu)))∧H' fr=some (.lst (fu.map nv))∧
     Hf L ss (hk++fu)∧(∀n∈ly.take i,∀b,(n,b)∈m6 L ss→b∈hk++fu)∧(∀b∈(U1 L ss n).take j,b∈hk++fu))
    ⟨fu,w10,rfl,b9,hl9,nlk9,nhk9,nd9,nfk9,sr9,hd9,hfr9,hf8,pr8,fun b hb=>by simp at hb⟩ (fun j σ H' _ z=>eB z fun _ _ z=>by
     obtain ⟨l',e1,e2,_⟩:=z.2.2.2.2.2.2.2.1.som n _ e
     cases e1
     exact SqL.of e2) ?_ ?_⟩⟩
   ·refine fun j x σ H10 hj zz=>eB zz fun fu w10 zz=>bH zz fun zq5 b10 hl10 nlk10 nhk10 nd10 nfk10 sr10 hd10 hfr10 hf10 pr10 pb10=>?_
    subst zq5
    obtain ⟨b,hb,rfl⟩:∃b,(U1 L ss n)[j]?=some b∧x=nv b:=by
     rw [List.getElem?_map] at hj
     cases q:(U1 L ss n)[j]? with
     | none=>rw [q] at hj;cases hj
     | some t=>rw [q] at hj;exact ⟨t,rfl,(Option.some.inj hj).symm⟩
    have hbe:(n,b)∈m6 L ss:=srcs_mem.mp (List.mem_of_getElem? hb)
    refine ⟨_,rfl,_,rfl,hd,_,rfl,DGet.k (k:=g7 b) hd10,_,rfl,?_⟩
    rw [fS]
    by_cases hin:b∈hk++fu
    ·rw [decide_eq_true hin]
     refine k4 ⟨fu,_,rfl,b10,hl10,nlk10,nhk10,nd10,nfk10,sr10,hd10,hfr10,hf10,pr10,fun b' hb'=>?_⟩
     rw [List.take_add_one,hb] at hb'
     rcases List.mem_append.mp hb' with q|q
     ·exact pb10 b' q
     ·simp at q
      rw [q]
      exact hin
    ·rw [decide_eq_false hin]
     obtain ⟨t,ht,et,hpt⟩:=hf10.src R hg (List.mem_append_left _ nhk) hbe
     have hf11:Hf L ss (hk++(fu++[b])):=by
      rw [←List.append_assoc]
      refine ⟨fun m hm=>?_,fB hf10.nd hin,fun t ht e=>List.mem_append_left _ (hf10.ov t ht e)⟩
      rcases List.mem_append.mp hm with q|q
      ·exact hf10.sub m q
      ·simp at q
       rw [q]
       exact ⟨t,ht,et,hpt⟩
     have hlen11:=hf11.len
     rw [←List.append_assoc,List.length_append,List.length_append,List.length_singleton] at hlen11
     obtain ⟨b11,v11⟩:=b10.own B1 (o:=.dK (A1 (hk++fu++[b]))) nhd nhk10
     refine k8 ⟨_,rfl,_,rfl,hd,_,rfl,DPut.k (k:=g7 b) hd10 ?_,?_⟩
     ·rw [kG,List.length_append]
      exact Nat.lt_of_le_of_lt (show hk.length+fu.length≤25600 by omega) (by decide)
     rw [mT hin]
     have nfh:fr≠hd:=f8 hfr10 hd10 (by intro z;cases z)
     have hfr11:a8 H10 hd (.dK (A1 (hk++fu++[b]))) fr=some (.lst (fu.map nv)):=by rw [a9 nfh];exact hfr10
     have nfk11:=v11 _ nfk10
     obtain ⟨b12,v12⟩:=b11.own B1 (o:=.lst (fu.map nv++[nv b])) frn nfk11
     refine ⟨_,rfl,.inl ⟨rfl,_,SqL.of hfr11⟩,_,rfl,fr,_,_,rfl,rfl,hfr11,?_,?_⟩
     ·rw [List.length_map]
      exact Nat.lt_of_le_of_lt (show fu.length≤25600 by omega) (by decide)
     refine ⟨fu++[b],_,rfl,b12,?_,v12 _ (v11 _ nlk10),v12 _ (v11 _ nhk10),v12 _ (v11 _ nd10),v12 _ nfk11,?_,?_,?_,hf11,fun n' hn' b' hb'=>?_,fun b' hb'=>?_⟩
     ·rw [a9 nfl,a9 (f8 hl10 hd10 (by intro z;cases z))]
      exact hl10
     ·refine ⟨?_,sr10.len,sr10.non,fun n'' v' e'=>?_,sr10.inj⟩
      ·rw [a9 (f8 sr10.at_ hfr10 (by intro z;cases z)),a9 ndh]
       exact sr10.at_
      ·obtain ⟨l',z1,z2,z3,z4⟩:=sr10.som n'' v' e'
       refine ⟨l',z1,?_,z3,v12 _ (v11 _ z4)⟩
       rw [a9 (nfr n'' l' (by rw [e',z1])),a9 (f8 z2 hd10 (by intro z;cases z))]
       exact z2
     ·rw [a9 (Ne.symm nfh),c8,List.append_assoc]
     ·rw [c8,List.map_append]
      rfl
     ·have:=pr10 n' hn' b' hb'
      rw [←List.append_assoc]
      exact List.mem_append_left _ this
     ·rw [List.take_add_one,hb] at hb'
      rw [←List.append_assoc]
      rcases List.mem_append.mp hb' with q|q
      ·exact List.mem_append_left _ (pb10 b' q)
      ·simp at q
       rw [q]
       simp
   ·refine fun σ H10 zz=>eB zz fun fu w10 zz=>bH zz fun zq6 b10 hl10 nlk10 nhk10 nd10 nfk10 sr10 hd10 hfr10 hf10 pr10 pb10=>?_
    subst zq6
    rw [List.length_map,List.take_length] at pb10
    refine ⟨fu,_,_,rfl,b10,hl10,nlk10,nhk10,nd10,nfk10,sr10,hd10,hfr10,hf10,fun n' hn' b hb=>?_⟩
    rw [List.take_add_one,hn] at hn'
    rcases List.mem_append.mp hn' with q|q
    ·exact pr10 n' q b hb
    ·simp at q
     subst q
     exact pb10 b (srcs_mem.mpr hb)
 ·refine fun σ H8 zz=>dZ zz fun fu w9 w10 zz=>hZ zz fun zq7 b8 hl8 nlk8 nhk8 nd8 nfk8 sr8 hd8 hfr8 hf8 pr8=>?_
  subst zq7
  rw [List.length_map,List.take_length] at pr8
  refine ⟨_,rfl,fu,hk++fu,fr,_,_,_,_,rfl,b8,frn,hfr8,nfk8,nhk8,nd8,sr8,hd8,hf8,fun n hn=>List.mem_append_right _ hn,fun n hn=>?_,List.length_append⟩
  rcases List.mem_append.mp hn with q|q
  ·right
   intro b hb
   rcases cl6 n q with z|z
   ·exact pr8 n z b hb
   ·exact List.mem_append_left _ (z b hb)
  ·exact .inl q
end Pr
namespace L2
open PySem PySem.Spec PyProof.Rows
theorem vM {J:It} {n:Nat} {g:TG} {tt:TT} {te:TE} {vs:List Nat} {σ:St} {H1:Hp} {D:Addr} {Qd:Hp→Prop} (Pv:Nat→Hp→Prop) (h0:Pv 0 (a8 H1 D (.lst []))) (hgo:∀i H,i < n→Pv i H→J.go i H)
  (hs:∀i x H H',i < n→Pv i H→J.yld i H x H'→g x (j9 σ vs) H' fun σ2 H2=>j9 σ2 vs=j9 σ vs∧tt σ2 H2 fun b H3=>
   if b=true then te σ2 H3 fun y H4=>∃acc,H4 D=some (.lst acc)∧acc.length < sizeLine∧Pv (i+1) (a8 H4 D (.lst (acc++[y]))) else Pv (i+1) H3) (hd:∀H,Pv n H→J.stop n H∧Qd H) :
  ∃W:Nat→Nat→Hp→Prop,(∃m,W 0 m (a8 H1 D (.lst [])))∧∀i m H,W i m H→
   (J.stop i H∧Qd H)∨(J.go i H∧∃Nx:Hp→Prop,(∀H',Nx H'→∃m',m' < m∧W (i+1) m' H')∧∀x H',J.yld i H x H'→g x (j9 σ vs) H' fun σ2 H2=>j9 σ2 vs=j9 σ vs∧tt σ2 H2 fun b H3=>
    if b=true then te σ2 H3 fun y H4=>∃acc,H4 D=some (.lst acc)∧acc.length < sizeLine∧Nx (a8 H4 D (.lst (acc++[y]))) else Nx H3):=by
 refine ⟨fun i m H=>m=n - i∧i≤n∧Pv i H,⟨n,by simp,Nat.zero_le _,h0⟩,?_⟩
 rintro i m H ⟨rfl,hi,p⟩
 by_cases hlt:i < n
 ·exact .inr ⟨hgo i H hlt p,Pv (i+1),fun H' p'=>⟨n - (i+1),by omega,rfl,hlt,p'⟩,fun x H' y=>hs i x H H' hlt p y⟩
 ·have e:i=n:=by omega
  subst e
  exact .inl (hd H p)
end L2
namespace Pr
open PySem PySem.Spec PyProof.Rows L2 Mt
open Vbrgae (Level Spot Found Counted thingsIn boardOf numberOf spots act leverBit bitOf marked inHand over ACTS search fresh reached gather widen PRIME countIn countWays waysInto Game beginning Call within isPlace when_)
open PySem.W (CodeHd kla_obj kla_fn)
variable {P:Program} {w:World} {K:PySem.W.Frag} {mg:Str→Option Value} {base:Heap} {Cb Cs:Addr}
def k6 (fs:List (Nat×Nat)):List (d9×V):=fs.map fun q=>(g7 q.1,nv q.2)
theorem keyN_inj {a b:Nat}:g7 a=g7 b↔a=b:=⟨fun z=>Int.ofNat.inj (Sum.inl.inj z),fun z=>by rw [z]⟩
theorem tY (fs:List (Nat×Nat)) (n:Nat):i7 (k6 fs) (g7 n)=(x5 fs n).map nv:=by
 unfold i7 x5 k6
 rw [List.find?_map,Option.map_map,Option.map_map]
 have:((fun kv:d9×V=>decide (kv.1=g7 n))∘fun q:Nat×Nat=>(g7 q.1,nv q.2))=fun p:Nat×Nat=>decide (p.1=n):=by
  funext p
  exact decide_eq_decide.mpr keyN_inj
 rw [this]
 rfl
theorem Cj (fs:List (Nat×Nat)) (n v:Nat):j7 (k6 fs) (g7 n) (nv v)=k6 (D7 fs n v):=by
 unfold j7 D7 k6
 rw [List.any_map]
 have:((fun kv:d9×V=>decide (kv.1=g7 n))∘fun q:Nat×Nat=>(g7 q.1,nv q.2))=fun p:Nat×Nat=>decide (p.1=n):=by
  funext p
  exact decide_eq_decide.mpr keyN_inj
 rw [this]
 split
 ·rw [List.map_map,List.map_map]
  apply List.map_congr_left
  intro p _
  show (if g7 p.1=g7 n then (g7 p.1,nv v) else (g7 p.1,nv p.2))=(fun q:Nat×Nat=>(g7 q.1,nv q.2)) (if p.1=n then (p.1,v) else p)
  by_cases e:p.1=n
  ·rw [if_pos e,if_pos (keyN_inj.mpr e)]
  ·rw [if_neg e,if_neg (fun z=>e (keyN_inj.mp z))]
 ·rw [List.map_append]
  rfl
theorem hW (fs:List (Nat×Nat)):(k6 fs).map (·.1)=(fs.map (·.1)).map g7:=by
 unfold k6
 rw [List.map_map,List.map_map]
 rfl
theorem AH (fs:List (Nat×Nat)) (n v:Nat):(D7 fs n v).length≤fs.length+1:=by
 unfold D7
 split
 ·rw [List.length_map];omega
 ·rw [List.length_append];exact Nat.le_refl _
theorem Bu (L:Level) (known:List Nat) (c:Counted) (fs:List (Nat×Nat)) (d:Nat):(A3 L known c fs d).length≤fs.length+1:=by
 unfold A3
 split
 ·omega
 ·split
  ·omega
  ·exact AH _ _ _
theorem hJ (L:Level) (known:List Nat) (c:Counted):∀(ds:List Nat) (fs:List (Nat×Nat)),(ds.foldl (A3 L known c) fs).length≤fs.length+ds.length
 | [],fs=>Nat.le_refl _
 | d::ds,fs=>by
  have h1:=hJ L known c ds (A3 L known c fs d)
  have h2:=Bu L known c fs d
  rw [List.foldl_cons,List.length_cons]
  omega
theorem iL (L:Level) (known:List Nat):∀(r:List Counted) (fs:List (Nat×Nat)),(r.foldl (G3 L known) fs).length≤fs.length+5*r.length
 | [],fs=>by simp
 | c::r,fs=>by
  have h1:=iL L known r (G3 L known fs c)
  have h2:=hJ L known c ACTS fs
  have h3:ACTS.length=5:=rfl
  have h4:(G3 L known fs c).length≤fs.length+5:=by rw [←h3];exact h2
  rw [List.foldl_cons,List.length_cons]
  omega
theorem Bd.dict {H:Hp} {p d:Addr} {a:Ad} {L:Level} {u:List (d9×V)} {o:HO} (B:Bd Cb H p a L) (hd:H d=some (.dK u)) (n1:d≠a.tb) (n2:d≠a.cb) (n3:d≠a.lb) (n4:d≠a.kd):Bd Cb (a8 H d o) p a L:=by
 have l1:∀{b xs},H b=some (.lst xs)→a8 H d o b=some (.lst xs):=fun {b xs} e=>by rw [a9 (f8 e hd (by intro z;cases z))];exact e
 have t1:∀{b xs},H b=some (.tup xs)→a8 H d o b=some (.tup xs):=fun {b xs} e=>by rw [a9 (f8 e hd (by intro z;cases z))];exact e
 have i1:∀{b C dx fs},H b=some (.ins C dx fs)→a8 H d o b=some (.ins C dx fs):=fun {b C dx fs} e=>by rw [a9 (f8 e hd (by intro z;cases z))];exact e
 obtain ⟨xs,e1,e2,e3⟩:=B.ex
 obtain ⟨kvs,k1,k2⟩:=B.kn
 exact ⟨⟨B.R,i1 B.ins,l1 B.codes,l1 B.things,(a9 (Ne.symm n1)).trans B.tb,(a9 (Ne.symm n2)).trans B.cb,(a9 (Ne.symm n3)).trans B.lb,⟨xs,l1 e1,e2,fun i x q=>by
  obtain ⟨ts,h1,h2,h3⟩:=e3 i x q
  exact ⟨ts,l1 h1,h2,fun j t e a b=>t1 (h3 j t e a b)⟩⟩,l1 B.fr,B.n1,B.n2,B.n3⟩,kvs,(a9 (Ne.symm n4)).trans k1,k2.same fun l xs e=>l1 e⟩
theorem Be {H:Hp} {a b:Addr} {o u:HO} (h:a≠b):a8 (a8 H a o) b u=a8 (a8 H b u) a o:=by
 funext x
 unfold a8
 by_cases e1:x=b
 ·rw [if_pos e1,if_neg (fun z=>h (z.symm.trans e1)),if_pos e1]
 ·rw [if_neg e1]
  by_cases e2:x=a
  ·rw [if_pos e2,if_pos e2]
  ·rw [if_neg e2,if_neg e2,if_neg e1]
theorem Bw.unlock {H H':Hp} {kd d:Addr} {L:Level} {u:List (d9×V)} {ob:Obj} (hd:H d=some (.dK u)) (hk:d≠kd) (b:Bw kd L (a8 H d (.frz ob (.dK u))) H') (hd':H' d=some (.frz ob (.dK u))):Bw kd L H (a8 H' d (.dK u))∧(∀q,¬Kv H' kd q→¬Kv (a8 H' d (.dK u)) kd q):=by
 obtain ⟨kvs,k1,k2⟩:=b.kn
 have ek:a8 H' d (.dK u) kd=H' kd:=a9 (Ne.symm hk)
 have c:∀q,¬Kv H' kd q→¬Kv (a8 H' d (.dK u)) kd q:=fun q z=>Kv.congr ek z
 refine ⟨⟨⟨fun b' o e n=>?_,kvs,ek.trans k1,k2.same fun l xs e=>by rw [a9 (f8 e hd' (by intro z;cases z))];exact e⟩,fun r e q=>c r (b.kv r ?_ (Kv.congr (a9 (Ne.symm hk)) q))⟩,c⟩
 ·by_cases z:b'=d
  ·rw [z,hd] at e
   cases e
   rw [z,c8]
  ·rw [a9 z]
   exact b.but b' o (by rw [a9 z];exact e) n
 ·by_cases z:r=d
  ·rw [z,c8]
   intro q
   cases q
  ·rw [a9 z]
   exact e
def AO (Cb:Addr):P3:=fun x y z H Q=>∃p a L ld kn ring ks kvs,x=.ref p∧y=.ref ld∧z=.ref kn∧Bd Cb H p a L∧H ld=some (.dK (k6 (ctab L ring)))∧H kn=some (.dK kvs)∧kvs.map (·.1)=ks.map g7∧ld≠kn∧(∀c∈ring,Good L c.spot)∧ring.length≤25600∧ld≠a.tb∧ld≠a.cb∧ld≠a.lb∧ld≠a.kd∧kn≠a.kd∧
 ∀H' d,Bw a.kd L H H'→H d=none→¬Kv H' a.kd d→H' d=some (.dK (k6 (ring.foldl (G3 L ks) [])))→Q (.ref d) H'
theorem rZ (T:i5 P w K mg Cb Cs):k7 P w K mg base 7 "next_counts" ["board","layer","known"] (t7 (AO Cb)):=by
 refine T.d_next_counts.ok (N:=["board","layer","known","further","before","count","after"]) ⟨rfl,rfl,rfl,by rfl',rfl,by rfl',by rfl'⟩ (fun _ _ _ _=>l3) (fun vs H Q E h f cdv A outer s E' hr=>?_)
 obtain ⟨_,_,_,rfl,p,a,L,ld,kn,ring,ks,kvs,rfl,rfl,rfl,B,hld,hkn,hks,nlk,hg,hrl,n1,n2,n3,n4,n5,k⟩:=h
 have nd:(["board","layer","known","further","before","count","after"]:List Str).Nodup:=by rfl'
 refine ⟨_,(d7 (j4 (i:=3) nd rfl (Or.inl rfl) R4) (d7 (mW (B9 PassesOwn.never rfl (nS (pv 1)) (T2 rfl (J9 (n8 (i:=4) nd rfl (Or.inl rfl)) (J9 (n8 (i:=5) nd rfl (Or.inl rfl)) U0))) (f7 (B9 PassesOwn.never rfl (F2 (m9 (U7 T) hr (by decide) T.cl_Board (pv 0) (c7 (pv 4) c9))) (n8 (i:=6) nd rfl (Or.inl rfl)) (f7 (m7 (W2 (u5 G8 (pv 6) (i8 T.g_CANNOT) (o8 _)) (cK (K2 (bE (p7 hr) (pv 6) (pv 2)) rfl))).pt (f7 (M9 (p7 hr) (pv 3) (pv 6) (j6 aG (j6 Y4 (iN (p7 hr) (pv 3) (pv 6) j0 ⟨rfl,rfl,rfl,rfl⟩) (pv 5)) (i8 T.g_MODULUS)) rfl)) m8)))))) (f7 (i0 (pv 3))))),?_⟩
 refine fun d hd=>⟨ld,.dK (k6 (ctab L ring)),(a9 (d8 hld hd)).trans hld,trivial,fun ob=>?_⟩
 have ndl:d≠ld:=fun z=>by rw [z,hld] at hd;cases hd
 have ndn:d≠kn:=fun z=>by rw [z,hkn] at hd;cases hd
 have B2:Bd Cb (a8 H ld (.frz ob (.dK (k6 (ctab L ring))))) p a L:=B.dict hld n1 n2 n3 n4
 rw [Be ndl]
 obtain ⟨H2,eH2⟩:∃H2,H2=a8 H ld (.frz ob (.dK (k6 (ctab L ring)))):=⟨_,rfl⟩
 rw [←eH2] at B2 ⊢
 have hdn:H2 d=none:=by rw [eH2,a9 ndl];exact hd
 obtain ⟨b2,v2⟩:=(Bw.refl B2).alloc B2 (o:=.dK []) hdn
 have hl2:a8 H2 d (.dK []) ld=some (.frz ob (.dK (k6 (ctab L ring)))):=by rw [a9 (Ne.symm ndl),eH2,c8]
 have hd2:a8 H2 d (.dK []) d=some (.dK (k6 [])):=c8
 have hk2:a8 H2 d (.dK []) kn=some (.dK kvs):=by rw [a9 (Ne.symm ndn),eH2,a9 (Ne.symm nlk)];exact hkn
 obtain ⟨kv0,kd0,kn0⟩:=B.kn
 have nkd:d≠a.kd:=fun z=>by rw [z,kd0] at hd;cases hd
 have nk2:¬Kv (a8 H2 d (.dK [])) a.kd d:=v2 _ ((Bw.refl B2).nokv hdn)
 refine ⟨_,rfl,ld,ob,_,rfl,hl2,yY (kvs:=k6 (ctab L ring)) (fun i σ H'=>∃v4 v5 v6,σ=[some (.ref p),some (.ref ld),some (.ref kn),some (.ref d),v4,v5,v6]∧Bw a.kd L H2 H'∧¬Kv H' a.kd d∧H' d=some (.dK (k6 ((ring.take i).foldl (G3 L ks) [])))∧H' ld=some (.frz ob (.dK (k6 (ctab L ring))))∧H' kn=some (.dK kvs))
  ⟨none,none,none,rfl,b2,nk2,hd2,hl2,hk2⟩ (fun i σ H' _ ⟨_,_,_,_,_,_,_,q,_⟩=>q) ?_ ?_⟩
 ·rintro i key v T1 σ H3 hi ⟨v4,v5,v6,rfl,b3,nk3,hd3,hl3,hk3⟩ hT1
  obtain ⟨c,hc,rfl,rfl⟩:∃c,ring[i]?=some c∧key=g7 (c0 L c.spot)∧v=nv c.ways:=by
   unfold k6 ctab at hi
   rw [List.getElem?_map,List.getElem?_map] at hi
   cases q:ring[i]? with
   | none=>rw [q] at hi;cases hi
   | some c=>rw [q] at hi;cases hi;exact ⟨c,rfl,rfl,rfl⟩
  have gc:=hg c (List.mem_of_getElem? hc)
  have hil:i < ring.length:=(List.getElem?_eq_some_iff.mp hc).1
  obtain ⟨b4,v4'⟩:Bw a.kd L H2 (a8 H3 T1 (.tup [nv (c0 L c.spot),nv c.ways]))∧∀q,¬Kv H3 a.kd q→¬Kv (a8 H3 T1 (.tup [nv (c0 L c.spot),nv c.ways])) a.kd q:=b3.alloc B2 hT1
  have hd4:a8 H3 T1 (.tup [nv (c0 L c.spot),nv c.ways]) d=some (.dK (k6 ((ring.take i).foldl (G3 L ks) []))):=by rw [a9 (d8 hd3 hT1)];exact hd3
  have hl4:a8 H3 T1 (.tup [nv (c0 L c.spot),nv c.ways]) ld=some (.frz ob (.dK (k6 (ctab L ring)))):=by rw [a9 (d8 hl3 hT1)];exact hl3
  have hk4:a8 H3 T1 (.tup [nv (c0 L c.spot),nv c.ways]) kn=some (.dK kvs):=by rw [a9 (d8 hk3 hT1)];exact hk3
  have nk4:=v4' _ nk3
  refine ⟨T1,[nv (c0 L c.spot),nv c.ways],rfl,SqT.of c8,rfl,_,_,rfl,_,_,rfl,rfl,?_⟩
  show mE _ _ _ _ _ (a8 H3 T1 (.tup [nv (c0 L c.spot),nv c.ways]))
  generalize a8 H3 T1 (.tup [nv (c0 L c.spot),nv c.ways])=H4 at b4 v4' hd4 hl4 hk4 nk4 ⊢
  have B4:=b4.toBk.bd B2
  refine ⟨_,rfl,p,a.dx,_,rfl,B4.ins,o6 _ _ (by rfl'),_,rfl,_,_,rfl,p,a,L,c.spot,rfl,rfl,B4,gc,fun H5 st hst=>⟨st,rfl,⟨_,SqL.of hst.2.2.1⟩,?_⟩⟩
  have b5:=b4.step hst
  have hd5:=hst.2.1 _ _ hd4 nkd
  have hl5:=hst.2.1 _ _ hl4 n4
  have hk5:=hst.2.1 _ _ hk4 n5
  have nk5:¬Kv H5 a.kd d:=hst.2.2.2.1 _ (by rw [hd4];intro z;cases z) nk4
  have hsl:=hst.2.2.1
  have hkst:=hst.2.2.2.2
  refine K4 (xs:=(A5 L c.spot).map V.int) (fun j σ H'=>∃v6,σ=[some (.ref p),some (.ref ld),some (.ref kn),some (.ref d),some (nv (c0 L c.spot)),some (nv c.ways),v6]∧Bw a.kd L H2 H'∧¬Kv H' a.kd d∧H' d=some (.dK (k6 ((ACTS.take j).foldl (A3 L ks c) ((ring.take i).foldl (G3 L ks) []))))∧H' ld=some (.frz ob (.dK (k6 (ctab L ring))))∧H' kn=some (.dK kvs)∧H' st=some (.lst ((A5 L c.spot).map V.int)))
   ⟨v6,rfl,b5,nk5,hd5,hl5,hk5,hsl⟩ (fun j σ H' _ ⟨_,_,_,_,_,_,_,q⟩=>SqL.of q) ?_ ?_
  ·rintro j x σ H6 hj ⟨w6,rfl,b6,nk6,hd6,hl6,hk6,hs6⟩
   have hj5:j < 5:=by
    have:=(List.getElem?_eq_some_iff.mp hj).1
    rwa [List.length_map] at this
   obtain rfl:x=.int (y6 L c.spot j):=by
    rw [List.getElem?_map,Z8 hj5] at hj
    exact (Option.some.inj hj).symm
   rw [jT (A3 L ks c) _ hj5]
   obtain ⟨fs,efs⟩:∃fs,fs=(ACTS.take j).foldl (A3 L ks c) ((ring.take i).foldl (G3 L ks) []):=⟨_,rfl⟩
   have flen:fs.length≤200000:=by
    have q1:=hJ L ks c (ACTS.take j) ((ring.take i).foldl (G3 L ks) [])
    have q2:=iL L ks (ring.take i) []
    have q3:(ring.take i).length≤ring.length:=by rw [List.length_take];exact Nat.min_le_right _ _
    have q4:(ACTS.take j).length≤5:=by rw [List.length_take];exact Nat.min_le_right _ _
    rw [←efs] at q1
    rw [List.length_nil] at q2
    omega
   rw [←efs] at hd6 ⊢
   refine ⟨_,rfl,rfl,_,rfl,?_⟩
   unfold y6 A3
   cases q:act (boardOf L) c.spot j with
   | none=>exact k4 (k4 ⟨_,rfl,b6,nk6,hd6,hl6,hk6,hs6⟩)
   | some u=>
    have hne:(!decide (V.int (c0 L u:Int)=V.int (-1)))=true:=by
     rw [decide_eq_false (fun q=>by injection q with q;omega)]
     rfl
    show if (!decide (V.int (c0 L u:Int)=V.int (-1)))=true then _ else _
    rw [hne]
    refine k8 ⟨_,rfl,_,rfl,kn,_,rfl,DGet.k (k:=g7 (c0 L u)) hk6,_,rfl,?_⟩
    rw [V8 hks]
    by_cases hin:c0 L u∈ks
    ·rw [decide_eq_true hin]
     refine k4 ?_
     dsimp only
     rw [if_pos hin]
     exact ⟨_,rfl,b6,nk6,hd6,hl6,hk6,hs6⟩
    ·rw [decide_eq_false hin]
     refine k8 ?_
     dsimp only
     rw [if_neg hin]
     refine ⟨_,rfl,d,rfl,.inl ⟨_,.inl hd6⟩,_,rfl,_,DGet.k (k:=g7 (c0 L u)) hd6,_,rfl,(x5 fs (c0 L u)).getD 0,c.ways,?_,rfl,trivial,_,1000000007,rfl,rfl,(by show 0 < 1000000007;decide),_,rfl,_,rfl,d,_,rfl,DPut.k (k:=g7 (c0 L u)) hd6 ?_,?_⟩
     ·rw [tY]
      cases x5 fs (c0 L u)<;>rfl
     ·unfold k6
      rw [List.length_map]
      exact Nat.lt_of_le_of_lt flen (by decide)
     ·rw [Cj]
      obtain ⟨b7,v7⟩:=b6.own B2 (o:=.dK (k6 (D7 fs (c0 L u) (D1 ((x5 fs (c0 L u)).getD 0) c.ways)))) hdn nk6
      refine ⟨_,rfl,b7,v7 _ nk6,c8,?_,?_,?_⟩
      ·show a8 H6 d (.dK (k6 (D7 fs (c0 L u) (D1 ((x5 fs (c0 L u)).getD 0) c.ways)))) ld=_
       rw [a9 (Ne.symm ndl)]
       exact hl6
      ·show a8 H6 d (.dK (k6 (D7 fs (c0 L u) (D1 ((x5 fs (c0 L u)).getD 0) c.ways)))) kn=_
       rw [a9 (Ne.symm ndn)]
       exact hk6
      ·show a8 H6 d (.dK (k6 (D7 fs (c0 L u) (D1 ((x5 fs (c0 L u)).getD 0) c.ways)))) st=_
       rw [a9 (f8 hs6 hd6 (by intro z;cases z))]
       exact hs6
  ·rintro σ H6 ⟨w6,rfl,b6,nk6,hd6,hl6,hk6,hs6⟩
   refine ⟨_,_,_,rfl,b6,nk6,?_,hl6,hk6⟩
   rw [iZ (G3 L ks) _ hc]
   exact hd6
 ·rintro σ H3 ⟨v4,v5,v6,rfl,b3,nk3,hd3,hl3,hk3⟩
  refine ⟨hl3,?_⟩
  have hlen:(k6 (ctab L ring)).length=ring.length:=by unfold k6 ctab;rw [List.length_map,List.length_map]
  rw [hlen,List.take_length] at hd3
  rw [eH2] at b3
  obtain ⟨b4,v4'⟩:=b3.unlock hld n4 hl3
  refine ⟨_,rfl,k _ d b4 hd (v4' _ nk3) ?_⟩
  rw [a9 ndl]
  exact hd3
theorem qD:∀(more kvs:List (d9×V)),(more.map (·.1)).Nodup→(∀k∈more.map (·.1),k∉kvs.map (·.1))→G5 kvs more=kvs++more
 | [],kvs,_,_=>by rw [List.append_nil];rfl
 | p::more,kvs,hn,hd=>by
  rw [List.map_cons,List.nodup_cons] at hn
  have hv:i7 kvs p.1=none:=by
   cases e:i7 kvs p.1 with
   | none=>rfl
   | some v=>exact absurd (hU e) (hd p.1 (by simp))
  show G5 (j7 kvs p.1 p.2) more=_
  rw [X1 _ hv,qD more _ hn.2,List.append_assoc]
  ·rfl
  ·intro k hk
   rw [List.map_append,List.mem_append]
   rintro (z|z)
   ·exact hd k (List.mem_cons_of_mem _ hk) z
   ·simp at z
    exact hn.1 (z▸hk)
theorem kL:∀l:List Nat,(l.map fun n:Nat=>(n:Int)).sum=((l.sum:Nat):Int)
 | []=>rfl
 | x::l=>by
  rw [List.map_cons,List.sum_cons,List.sum_cons,kL l,Int.natCast_add]
def DX (Cb:Addr):P2:=fun x y H Q=>∃p a L s0,x=.ref p∧y=nv (c0 L s0)∧Bd Cb H p a L∧Good L s0∧∀H',Bw a.kd L H H'→Q (nv (countWays (boardOf L) s0)) H'
theorem tM (T:i5 P w K mg Cb Cs):k7 P w K mg base 8 "count_ways" ["board","spot"] (x4 (DX Cb)):=by
 refine T.d_count_ways.ok (N:=["board","spot","layer","known","at_stairs","other","count"]) ⟨rfl,rfl,rfl,by rfl',rfl,by rfl',by rfl'⟩ (fun _ _ _ _=>l2) (fun vs H Q E h f cdv A outer s E' hr=>?_)
 obtain ⟨_,_,rfl,p,a,L,s0,rfl,rfl,B,g0,k⟩:=h
 have nd:(["board","spot","layer","known","at_stairs","other","count"]:List Str).Nodup:=by rfl'
 refine ⟨_,(d7 (j4 (i:=2) nd rfl (Or.inl rfl) (eQ (fG (pv 1) j0 gV) rfl rfl (by simp) (by decide))) (d7 (j4 (i:=3) nd rfl (Or.inl rfl) (eQ (fG (pv 1) R7 gV) rfl rfl (by simp) (by decide))) (d7 (Z0 PassesOwn.never (Q7 (pv 2) (fun _=>rfl)) (d7 (mW (oA (i:=4) (own:=[("other",5),("count",6)]) (te:=z9 6) (g:=jO K 2 (gE (P6 5) (gE (P6 6) pJ))) rfl nd rfl rfl (oT rfl rfl rfl (by rfl')) (nS (pv 2)) (M3 (N:=["board","spot","layer","known","at_stairs","other","count"]) (sc:=k9 oF) (by rfl')) (by intro s H C cl fp;exact T2 rfl (J9 (n8 (i:=5) nd rfl (Or.inl rfl)) (J9 (n8 (i:=6) nd rfl (Or.inl rfl)) U0))) (by intro s H C cl fp;exact aV (C8 (m9 (U3 T) hr (by decide) T.cl_Board (pv 0) (c7 (pv 5) c9)))) (by intro s H C cl fp;exact pv 6))) (d7 (m7 (Q7 (pv 4) (fun _=>rfl)) (f7 (i0 (j6 aG (A2 (EE rfl) (by rfl) T.b_sum (by rfl') (c7 (pv 4) c9)) (i8 T.g_MODULUS)))) m8) (d7 (j4 (i:=2) nd rfl (Or.inl rfl) (n9 (rZ T) hr (by decide) (c7 (pv 0) (c7 (pv 2) (c7 (pv 3) c9))))) (f7 (A7 (zB (p7 hr) (pv 3) (pv 2) ⟨rfl,rfl,rfl,rfl⟩))))))) (f7 (i0 j0))))),?_⟩
 have R:=B.R
 have hsp:=X9 R
 refine fun ld0 hld0=>⟨_,rfl,c8,[(g7 (c0 L s0),.int 1)],rfl,by show 1≤15;decide,?_⟩
 rw [N5,show G5 [] [(g7 (c0 L s0),V.int 1)]=[(g7 (c0 L s0),V.int 1)] from rfl]
 obtain ⟨b1,v1⟩:=(Bw.refl B).alloc B (o:=.dK [(g7 (c0 L s0),V.int 1)]) hld0
 refine fun kn hkn=>⟨_,rfl,c8,[(g7 (c0 L s0),.bl true)],rfl,by show 1≤15;decide,?_⟩
 rw [N5,show G5 [] [(g7 (c0 L s0),V.bl true)]=[(g7 (c0 L s0),V.bl true)] from rfl]
 obtain ⟨b2,v2⟩:=b1.alloc B (o:=.dK [(g7 (c0 L s0),V.bl true)]) hkn
 have knn:H kn=none:=b1.new hkn
 have nlk:ld0≠kn:=fun z=>by rw [←z,c8] at hkn;cases hkn
 have nk2:=v2 _ (b1.nokv hkn)
 have nl2:=v2 _ (v1 _ ((Bw.refl B).nokv hld0))
 have hl2:a8 (a8 H ld0 (.dK [(g7 (c0 L s0),V.int 1)])) kn (.dK [(g7 (c0 L s0),V.bl true)]) ld0=some (.dK (k6 (ctab L [⟨s0,1⟩]))):=by rw [a9 nlk,c8];rfl
 have hk2:a8 (a8 H ld0 (.dK [(g7 (c0 L s0),V.int 1)])) kn (.dK [(g7 (c0 L s0),V.bl true)]) kn=some (.dK [(g7 (c0 L s0),V.bl true)]):=c8
 generalize a8 (a8 H ld0 (.dK [(g7 (c0 L s0),V.int 1)])) kn (.dK [(g7 (c0 L s0),V.bl true)])=H2 at b2 v2 nk2 nl2 hl2 hk2 ⊢
 obtain ⟨kv0,kd0,kn0⟩:=B.kn
 have ntr:∀{d},H d=none→d≠a.tb∧d≠a.cb∧d≠a.lb∧d≠a.kd:=fun {d} e=>⟨(fun z=>by rw [z,B.tb] at e;cases e),(fun z=>by rw [z,B.cb] at e;cases e),(fun z=>by rw [z,B.lb] at e;cases e),(fun z=>by rw [z,kd0] at e;cases e)⟩
 have nkk:=(ntr knn).2.2.2
 refine ⟨fun m σ H'=>∃ring seen got ld kvs v4,σ=[some (.ref p),some (nv (c0 L s0)),some (.ref ld),some (.ref kn),v4,none,none]∧Bw a.kd L H H'∧H ld=none∧ld≠kn∧¬Kv H' a.kd ld∧¬Kv H' a.kd kn∧H' ld=some (.dK (k6 (ctab L ring)))∧H' kn=some (.dK kvs)∧
   kvs.map (·.1)=(Mt.keys L (ring.map x6) got).map g7∧Bs L s0 m (ring.map x6) seen got∧countWays (boardOf L) s0=countIn (boardOf L) m ring seen,
  ⟨spots (boardOf L)+1,[⟨s0,1⟩],_,[],ld0,_,none,rfl,b2,hld0,nlk,nl2,nk2,hl2,hk2,rfl,Bs.start R g0,rfl⟩,?_⟩
 refine fun m σ H3 zz=>AM zz fun ring seen got ld kvs v4 zz=>gA zz fun zq0 b3 ldn nlk3 nl3 nk3 hl3 hk3 hks bs ec=>?_
 subst zq0
 refine ⟨_,rfl,_,.inr (.inr ⟨_,hl3,rfl⟩),?_⟩
 by_cases hring:ring=[]
 ·subst hring
  refine k4 ?_
  have q:=k _ b3
  rw [ec,AT] at q
  exact q
 obtain ⟨m',rfl⟩:∃m',m=m'+1:=⟨m - 1,by have:=bs.pos.1;omega⟩
 have hne:(!(k6 (ctab L ring)).isEmpty)=true:=by
  cases ring with
  | nil=>exact absurd rfl hring
  | cons a l=>rfl
 rw [hne]
 refine k8 ⟨fun σ H'=>∃ring seen got ld kvs v4,σ=[some (.ref p),some (nv (c0 L s0)),some (.ref ld),some (.ref kn),v4,none,none]∧Bw a.kd L H H'∧H ld=none∧ld≠kn∧¬Kv H' a.kd ld∧¬Kv H' a.kd kn∧H' ld=some (.dK (k6 (ctab L ring)))∧H' kn=some (.dK kvs)∧
   kvs.map (·.1)=(Mt.keys L (ring.map x6) got).map g7∧Bs L s0 m' (ring.map x6) seen got∧countWays (boardOf L) s0=countIn (boardOf L) m' ring seen,fun σ' H' q=>⟨m',Nat.lt_succ_self _,q⟩,?_⟩
 have hg:∀c∈ring,Good L c.spot:=fun c hc=>bs.good (x6 c) (List.mem_map.mpr ⟨c,hc,rfl⟩)
 have hklen:=bs.sn.len
 have hrl:ring.length≤25600:=by
  unfold Mt.keys at hklen
  rw [List.length_append,List.length_map,List.length_map] at hklen
  omega
 have B3:=b3.toBk.bd B
 obtain ⟨nt1,nt2,nt3,nt4⟩:=ntr ldn
 refine ⟨ld,.dK (k6 (ctab L ring)),hl3,trivial,fun ob=>?_⟩
 have B3L:Bd Cb (a8 H3 ld (.frz ob (.dK (k6 (ctab L ring))))) p a L:=B3.dict hl3 nt1 nt2 nt3 nt4
 have hlL:a8 H3 ld (.frz ob (.dK (k6 (ctab L ring)))) ld=some (.frz ob (.dK (k6 (ctab L ring)))):=c8
 have flen:(k6 (ctab L ring)).length=ring.length:=by unfold k6 ctab;rw [List.length_map,List.length_map]
 refine ⟨_,rfl,ld,ob,_,rfl,hlL,fun D hD=>?_⟩
 refine vM (n:=ring.length) (fun i H'=>Same (a8 H3 ld (.frz ob (.dK (k6 (ctab L ring))))) H'∧H' D=some (.lst ((((ring.take i).filter fun c=>over (boardOf L) c.spot).map fun c=>c.ways).map nv))) ⟨Same.new hD,c8⟩ (fun i H' hi q=>⟨q.1 _ _ hlL,by rw [flen];exact hi⟩) (fun i x H' H'' hi q y=>?_) (fun H4 q4=>?_)
 ·obtain ⟨q1,q2⟩:=q
  obtain ⟨T1,key,v,e1,rfl,hT1,rfl⟩:=y
  obtain ⟨c,hc,rfl,rfl⟩:∃c,ring[i]?=some c∧key=g7 (c0 L c.spot)∧v=nv c.ways:=by
   unfold k6 ctab at e1
   rw [List.getElem?_map,List.getElem?_map] at e1
   cases q:ring[i]? with
   | none=>rw [q] at e1;cases e1
   | some c=>rw [q] at e1;cases e1;exact ⟨c,rfl,rfl,rfl⟩
  have gc:=hg c (List.mem_of_getElem? hc)
  have s5:Same H' (a8 H' T1 (.tup [kV (g7 (c0 L c.spot)),nv c.ways])):=Same.new hT1
  have B5:=B3L.same (q1.trans s5)
  refine ⟨T1,[nv (c0 L c.spot),nv c.ways],rfl,SqT.of c8,rfl,_,_,rfl,_,_,rfl,rfl,rfl,?_⟩
  refine ⟨_,rfl,p,a.dx,_,rfl,B5.ins,o6 _ _ (by rfl'),_,rfl,_,_,rfl,p,a,L,c0 L c.spot,rfl,rfl,B5.toBs0,_,rfl,?_⟩
  rw [W1 gc]
  have tk:((ring.take (i+1)).filter fun c=>over (boardOf L) c.spot)=((ring.take i).filter fun c=>over (boardOf L) c.spot)++(if over (boardOf L) c.spot=true then [c] else []):=by
   rw [List.take_add_one,hc,List.filter_append]
   congr 1
   by_cases z:over (boardOf L) c.spot=true
   ·simp [z]
   ·simp [z]
  refine t0 (fun z=>⟨_,rfl,_,s5 _ _ q2,?_,fun b o e=>?_,?_⟩) (fun z=>⟨q1.trans s5,?_⟩)
  ·rw [List.length_map,List.length_map]
   refine Nat.lt_of_le_of_lt (List.length_filter_le _ _) ?_
   rw [List.length_take]
   exact Nat.lt_of_le_of_lt (Nat.min_le_right _ _) (Nat.lt_of_le_of_lt hrl (by decide))
  ·rw [a9 (d8 e hD)]
   exact s5 _ _ (q1 _ _ e)
  ·rw [c8,tk,if_pos z,List.map_append,List.map_append]
   rfl
  ·rw [s5 _ _ q2,tk,if_neg z,List.append_nil]
 obtain ⟨s4,hD4⟩:=q4
 rw [List.take_length] at hD4
 have hl4:=s4 _ _ hlL
 refine ⟨⟨hl4,by rw [flen];exact Nat.le_refl _⟩,hl4,?_⟩
 have ndl:D≠ld:=fun z=>by rw [z,hlL] at hD;cases hD
 have s5:Same H3 (a8 H4 ld (.dK (k6 (ctab L ring)))):=fun b o e=>by
  by_cases z:b=ld
  ·rw [z,hl3] at e
   rw [z,c8]
   exact e
  ·rw [a9 z]
   exact s4 _ _ (by rw [a9 z];exact e)
 have hD5:a8 H4 ld (.dK (k6 (ctab L ring))) D=some (.lst (((ring.filter fun c=>over (boardOf L) c.spot).map fun c=>c.ways).map nv)):=by rw [a9 ndl];exact hD4
 obtain ⟨b5,v5⟩:=b3.same s5
 generalize a8 H4 ld (.dK (k6 (ctab L ring)))=H5 at s5 hD5 b5 v5 ⊢
 refine ⟨_,rfl,_,.inl ⟨_,SqL.of hD5,rfl⟩,?_⟩
 by_cases hst:(ring.filter fun c=>over (boardOf L) c.spot)=[]
 ·rw [hst]
  refine k4 ?_
  have hl5:=s5 _ _ hl3
  have hk5:=s5 _ _ hk3
  have B5:=b5.toBk.bd B
  refine ⟨_,rfl,_,rfl,_,rfl,_,_,_,rfl,p,a,L,ld,kn,ring,Mt.keys L (ring.map x6) got,kvs,rfl,rfl,rfl,B5,hl5,hk5,hks,nlk3,hg,hrl,nt1,nt2,nt3,nt4,nkk,fun H6 d b6 hdn nkd6 hd6=>?_⟩
  rw [xF R bs] at hd6
  have bs':=bs.nextC R hring
  have hd0:H d=none:=b5.new hdn
  have hk6:=b6.but _ _ hk5 nkk
  have ndk:kn≠d:=fun z=>by rw [←z,hk5] at hdn;cases hdn
  have b06:Bw a.kd L H H6:=⟨⟨b5.but.trans b6.but,b6.kn⟩,fun r e q=>b6.kv r (b5.there e) (b5.kv r e q)⟩
  have nkn6:¬Kv H6 a.kd kn:=b6.kv kn (by rw [hk5];intro z;cases z) (v5 _ nk3)
  have ekeys:Mt.keys L ((nextC L ring seen).map x6) (((ring.map x6).map (·.spot)).reverse++got)=Mt.keys L (ring.map x6) got++(ctab L (nextC L ring seen)).map (·.1):=by
   rw [fN]
   congr 1
   unfold ctab
   rw [List.map_map,List.map_map]
   rfl
  have hnd:=bs'.sn.nd
  rw [ekeys] at hnd
  have hnd3:=List.nodup_append.mp hnd
  have hmk:G5 kvs (k6 (ctab L (nextC L ring seen)))=kvs++k6 (ctab L (nextC L ring seen)):=by
   refine qD _ _ ?_ fun k' hk' z=>?_
   ·rw [hW]
    exact List.Pairwise.map _ (fun x y h z=>h (keyN_inj.mp z)) hnd3.2.1
   ·rw [hW] at hk'
    obtain ⟨n,hn,rfl⟩:=List.mem_map.mp hk'
    rw [hks,dE] at z
    exact hnd3.2.2 _ z _ hn rfl
  have hl6:(kvs++k6 (ctab L (nextC L ring seen))).length≤25600:=by
   have q1:=bs'.sn.len
   rw [ekeys,List.length_append] at q1
   have q2:=congrArg List.length hks
   rw [List.length_map,List.length_map] at q2
   rw [List.length_append]
   unfold k6
   rw [List.length_map]
   rw [List.length_map] at q1
   omega
  obtain ⟨b7,v7⟩:=b06.own B (o:=.dK (kvs++k6 (ctab L (nextC L ring seen)))) knn nkn6
  refine ⟨_,rfl,kn,rfl,.inl ⟨kvs,.inl hk6⟩,_,rfl,d,kvs,_,rfl,ndk,hk6,hd6,?_,?_⟩
  ·rw [List.length_append] at hl6
   exact Nat.le_trans hl6 (by decide)
  rw [hmk]
  refine ⟨nextC L ring seen,_,_,d,_,_,rfl,b7,hd0,Ne.symm ndk,v7 _ nkd6,v7 _ nkn6,?_,c8,?_,bs',?_⟩
  ·rw [a9 (Ne.symm ndk)]
   exact hd6
  ·rw [List.map_append,hks,hW,ekeys,List.map_append]
  ·rw [ec,Dj hst hring]
 ·have hne2:(!(((ring.filter fun c=>over (boardOf L) c.spot).map fun c=>c.ways).map nv).isEmpty)=true:=by
   cases e:(ring.filter fun c=>over (boardOf L) c.spot) with
   | nil=>exact absurd e hst
   | cons a l=>rfl
  rw [hne2]
  have hD5':H5 D=some (.lst ((((ring.filter fun c=>over (boardOf L) c.spot).map fun c=>c.ways).map fun n:Nat=>(n:Int)).map V.int)):=by
   rw [hD5,List.map_map,List.map_map,List.map_map]
   rfl
  refine k8 ⟨_,rfl,D,_,rfl,SqL.of hD5',((ring.filter fun c=>over (boardOf L) c.spot).map fun c=>c.ways).sum,1000000007,by rw [kL],rfl,(by show 0 < 1000000007;decide),?_⟩
  have q:=k _ b5
  rw [ec,tG hst,pR _ _ (by decide),Nat.zero_add] at q
  exact q
def l8 (b sp ho:V):List (Str×V):=[("board",b),("spots",sp),("hopeful",ho)]
section
variable (b sp ho:V)
theorem A0:(l8 b sp ho).lookup ("board":Str)=some b:=y8
theorem U4:(l8 b sp ho).lookup ("spots":Str)=some sp:=g8 (by rfl') y8
theorem W4:(l8 b sp ho).lookup ("hopeful":Str)=some ho:=g8 (by rfl') (g8 (by rfl') y8)
theorem D0 {m:Str} (h:(["board","spots","hopeful"]:List Str).all (fun b=>!(m==b))=true):(l8 b sp ho).lookup m=none:=O2 h
theorem yZ (v:V):l9 "board" v (l8 b sp ho)=l8 v sp ho:=by
 show (if ("board":Str)="board" then _ else _)=_
 rw [if_pos rfl]
 rfl
theorem zN (v:V):l9 "spots" v (l8 b sp ho)=l8 b v ho:=by
 show (if ("board":Str)="spots" then _ else _::(if ("spots":Str)="spots" then _ else _))=_
 rw [if_neg (by rfl'),if_pos rfl]
 rfl
theorem rC (v:V):l9 "hopeful" v (l8 b sp ho)=l8 b sp v:=by
 show (if ("board":Str)="hopeful" then _ else _::(if ("spots":Str)="hopeful" then _ else _::(if ("hopeful":Str)="hopeful" then _ else _)))=_
 rw [if_neg (by rfl'),if_neg (by rfl'),if_pos rfl]
 rfl
end
def HopV (H:Hp) (a:Ad) (L:Level) (hv:V):Prop:=hv=.non∨∃hd kvs,hv=.ref hd∧H hd=some (.dK kvs)∧hd≠a.kd∧∀t,Lead L (beginning L) t→((i7 kvs (g7 (c0 L t))).isSome=true↔Hope L t)
structure Fb (H:Hp) (a:Ad) (r:Addr):Prop where
 n2:r≠a.ca
 n3:r≠a.tg
 n4:r≠a.ex
 n5:r≠a.fr
 n6:∀xs,H a.ex=some (.lst xs)→V.ref r∉xs
 n7:¬Kv H a.kd r
structure Op (Cb Cs:Addr) (H:Hp) (s dx sp p:Addr) (a:Ad) (L:Level) (now:Spot) (past:List Spot) (hv:V) (tl:Addr):Prop where
 ins:H s=some (.ins Cs dx (l8 (.ref p) (.ref sp) hv))
 bd:Bd Cb H p a L
 spv:H sp=some (.lst ((now::past).reverse.map fun t=>nv (c0 L t)))
 good:∀t∈now::past,Good L t∧Lead L (beginning L) t
 last:(now::past).getLast?=some (beginning L)
 hop:HopV H a L hv
 fsp:Fb H a sp
 ns:s≠p
 nts:tl≠sp
 ftl:Fb H a tl
 tlv:∃xs,H tl=some (.lst xs)
section
variable {P:Program} {w:World} {K:PySem.W.Frag} {mg:Str→Option Value} {base:Heap} {Cb Cs:Addr} {H H':Hp} {s dx sp p:Addr} {a:Ad} {L:Level} {now:Spot} {past:List Spot} {hv:V} {tl:Addr}
theorem Fb.keep {r:Addr} (h:Fb H a r) (hex:H' a.ex=H a.ex) (kv:¬Kv H a.kd r→¬Kv H' a.kd r):Fb H' a r:=⟨h.n2,h.n3,h.n4,h.n5,fun xs e=>h.n6 xs (hex▸e),kv h.n7⟩
theorem Bd.list {r:Addr} {xs:List V} {u:HO} (B:Bd Cb H p a L) (f:Fb H a r) (hr:H r=some (.lst xs)):Bd Cb (a8 H r u) p a L:=by
 have o1:∀{b v},H b=some v→(∀ys,v≠.lst ys)→a8 H r u b=some v:=fun {b v} e q=>by rw [a9 (f8 e hr (q _))];exact e
 obtain ⟨ys,e1,e2,e3⟩:=B.ex
 obtain ⟨kvs,k1,k2⟩:=B.kn
 refine ⟨⟨B.R,o1 B.ins (by intro _ z;cases z),(a9 (Ne.symm f.n2)).trans B.codes,(a9 (Ne.symm f.n3)).trans B.things,o1 B.tb (by intro _ z;cases z),o1 B.cb (by intro _ z;cases z),o1 B.lb (by intro _ z;cases z),⟨ys,(a9 (Ne.symm f.n4)).trans e1,e2,fun i x q=>?_⟩,(a9 (Ne.symm f.n5)).trans B.fr,B.n1,B.n2,B.n3⟩,kvs,o1 k1 (by intro _ z;cases z),k2.ks,fun key v e=>?_⟩
 ·obtain ⟨ts,h1,h2,h3⟩:=e3 i x q
  refine ⟨ts,(a9 (fun z=>f.n6 _ e1 (List.mem_map.mpr ⟨x,List.mem_of_getElem? q,by rw [z]⟩))).trans h1,h2,fun j t e c d=>o1 (h3 j t e c d) (by intro _ z;cases z)⟩
 ·obtain ⟨t,l,z1,z2,z3,z4⟩:=k2.all key v e
  exact ⟨t,l,z1,z2,z3,(a9 (fun z=>f.n7 ⟨kvs,key,k1,by rw [e,z3,z]⟩)).trans z4⟩
theorem HopV.keep (h:HopV H a L hv) (k:∀d u,H d=some (.dK u)→d≠a.kd→H' d=some (.dK u)):HopV H' a L hv:=h.imp id fun ⟨hd,kvs,e1,e2,e3,e4⟩=>⟨hd,kvs,e1,k _ _ e2 e3,e3,e4⟩
theorem Op.keep (o:Op Cb Cs H s dx sp p a L now past hv tl) (b:Bd Cb H' p a L) (hs:H' s=H s) (hsp:H' sp=H sp) (hd:∀d u,H d=some (.dK u)→d≠a.kd→H' d=some (.dK u)) (hex:H' a.ex=H a.ex) (htl:H' tl=H tl) (kv:∀r,H r≠none→¬Kv H a.kd r→¬Kv H' a.kd r):Op Cb Cs H' s dx sp p a L now past hv tl:=by
 obtain ⟨xs,ex⟩:=o.tlv
 exact ⟨hs.trans o.ins,b,hsp.trans o.spv,o.good,o.last,o.hop.keep hd,o.fsp.keep hex (kv sp (by rw [o.spv];intro z;cases z)),o.ns,o.nts,o.ftl.keep hex (kv tl (by rw [ex];intro z;cases z)),xs,htl.trans ex⟩
theorem Op.frame (o:Op Cb Cs H s dx sp p a L now past hv tl) (b:Bd Cb H' p a L) (T:Addr→Prop) (hT:∀b,T b→∃ps,H b=some (.tbl ps)) (frm:∀b u,H b=some u→b≠a.kd→¬T b→H' b=some u) (kv:∀r,H r≠none→¬Kv H a.kd r→¬Kv H' a.kd r):Op Cb Cs H' s dx sp p a L now past hv tl:=by
 obtain ⟨kvs,kd,_⟩:=o.bd.kn
 obtain ⟨xs,ex⟩:=o.tlv
 obtain ⟨ys,ey,_⟩:=o.bd.ex
 have f:∀{b u},H b=some u→(∀k,u≠.dK k)→(∀ps,u≠.tbl ps)→H' b=H b:=fun {b u} e n1 n2=>(frm b u e (f8 e kd (n1 _)) (fun z=>by obtain ⟨ps,q⟩:=hT b z;rw [e] at q;exact n2 _ (Option.some.inj q))).trans e.symm
 refine o.keep b (f o.ins (by intro _ z;cases z) (by intro _ z;cases z)) (f o.spv (by intro _ z;cases z) (by intro _ z;cases z)) (fun d u e n=>frm d _ e n fun z=>?_) (f ey (by intro _ z;cases z) (by intro _ z;cases z)) (f ex (by intro _ z;cases z) (by intro _ z;cases z)) kv
 obtain ⟨ps,q⟩:=hT d z
 rw [e] at q
 cases q
theorem Op.same (o:Op Cb Cs H s dx sp p a L now past hv tl) (sm:Same H H'):Op Cb Cs H' s dx sp p a L now past hv tl:=by
 obtain ⟨kvs,kd,_⟩:=o.bd.kn
 exact o.frame (o.bd.same sm) (fun _=>False) (fun _ z=>z.elim) (fun b u e _ _=>sm _ _ e) fun r _ q=>Kv.congr ((sm _ _ kd).trans kd.symm) q
def zU:P1:=fun x H Q=>∃l xs,x=.ref l∧H l=some (.lst xs)∧xs.length≤1000000∧∀H' r,Same H H'→H r=none→H' r=some (.lst (nv xs.length::xs))→Q (.ref r) H'
theorem U9 (T:i5 P w K mg Cb Cs):k7 P w K mg base 1 "told_row" ["row"] (sp1 zU):=by
 refine T.d_told_row.ok (N:=["row"]) ⟨rfl,rfl,rfl,by rfl',rfl,by rfl',by rfl'⟩ (fun _ _ _ _=>l1) (fun vs H Q E h f cdv A outer s E' hr=>?_)
 obtain ⟨_,rfl,l,xs,rfl,hl,hz,k⟩:=h
 have nd:(["row"]:List Str).Nodup:=by rfl'
 refine ⟨_,(f7 (i0 (j6 L7 (l5 (c7 (A2 C1 (by rfl) T.b_len PySem.boot_len (c7 (pv 0) c9)) c9)) (pv 0)))),?_⟩
 refine ⟨_,rfl,_,_,rfl,.inl (SqL.of hl),(by show 1≤sizeLine;decide),fun r1 h1=>⟨_,rfl,r1,l,_,xs,rfl,rfl,c8,?_,?_,fun r2 h2=>k _ r2 ((Same.new h1).trans (Same.new h2)) ?_ ?_⟩⟩
 ·rw [a9 (d8 hl h1)]
  exact hl
 ·show 1+xs.length≤sizeLine
  exact Nat.le_trans (Nat.add_le_add_left hz 1) (by decide)
 ·exact (Same.new h1).free h2
 ·rw [c8]
  rfl
def Q3 (o:Option (List Nat)):List Int:=match o with
 | some l=>0::1::Vbrgae.row (Vbrgae.nats l)
 | none=>[0,0]
def eG (H:Hp) (x:V) (o:Option (List Nat)):Prop:=match o with
 | none=>x=.non
 | some l=>∃r,x=.ref r∧H r=some (.lst (l.map nv))∧l.length≤25600
def Bt:P1:=fun x H Q=>∃o,eG H x o∧∀H' r,Same H H'→H r=none→H' r=some (.lst ((Q3 o).map V.int))→Q (.ref r) H'
theorem iF (T:i5 P w K mg Cb Cs):k7 P w K mg base 2 "told_list" ["acts"] (sp1 Bt):=by
 refine T.d_told_list.ok (N:=["acts"]) ⟨rfl,rfl,rfl,by rfl',rfl,by rfl',by rfl'⟩ (fun _ _ _ _=>l1) (fun vs H Q E h f cdv A outer s E' hr=>?_)
 obtain ⟨_,rfl,o,ho,k⟩:=h
 have nd:(["acts"]:List Str).Nodup:=by rfl'
 refine ⟨_,(d7 (m7 (K2 (bA (pv 0))) (f7 (i0 (l5 (c7 (i8 T.g_DONE) (c7 j0 c9))))) m8) (f7 (i0 (j6 L7 (l5 (c7 (i8 T.g_DONE) (c7 j0 c9))) (n9 (U9 T) hr (by decide) (c7 (pv 0) c9)))))),?_⟩
 cases o with
 | none=>
  subst ho
  exact ⟨_,rfl,_,rfl,k8 ⟨(by show 2≤sizeLine;decide),fun r h=>k _ r (Same.new h) h c8⟩⟩
 | some l=>
  obtain ⟨r,rfl,hr1,hl⟩:=ho
  have hno:decide (V.ref r=V.non)=false:=decide_eq_false (by intro z;cases z)
  refine ⟨_,rfl,_,rfl,?_⟩
  rw [hno]
  refine k4 ⟨(by show 2≤sizeLine;decide),fun r1 h1=>?_⟩
  refine ⟨_,rfl,_,rfl,r,l.map nv,rfl,(by rw [a9 (d8 hr1 h1)];exact hr1),(by rw [List.length_map];omega),fun H2 r2 s2 h2 hx=>⟨r1,r2,_,_,rfl,rfl,s2 _ _ c8,hx,?_,fun r3 h3=>k _ r3 (((Same.new h1).trans s2).trans (Same.new h3)) ?_ ?_⟩⟩
  ·have q:(nv (l.map nv).length::l.map nv).length=l.length+1:=by rw [List.length_cons,List.length_map]
   rw [q]
   show 2+(l.length+1)≤sizeLine
   exact Nat.le_trans (show 2+(l.length+1)≤30000 by omega) (by decide)
  ·exact ((Same.new h1).trans s2).free h3
  ·rw [c8]
   unfold Q3 Vbrgae.row Vbrgae.nats
   rw [List.length_map]
   show _=some (HO.lst (V.int 0::V.int 1::V.int ((l.map Int.ofNat).length:Int)::(l.map Int.ofNat).map V.int))
   rw [List.length_map,List.map_map]
   rfl
def DL (Cb Cs:Addr):P1:=fun self H Q=>∃s dx sp p a L now past hv tl,self=.ref s∧Op Cb Cs H s dx sp p a L now past hv tl∧Q (nv (c0 L now)) H
theorem K0 (T:i5 P w K mg Cb Cs):x9 P w K mg base Cs 1 "spot_here" ["self"] (sp1 (DL Cb Cs)):=by
 refine T.mS_spot_here.ok (N:=["self"]) ⟨rfl,rfl,rfl,by rfl',rfl,by rfl',by rfl'⟩ (fun _ _ _ _=>l1) (fun vs H Q E h f cdv A outer s E' hr=>?_)
 obtain ⟨_,rfl,s0,dx,sp,p,a,L,now,past,hv,tl,rfl,o,k⟩:=h
 have nd:(["self"]:List Str).Nodup:=by rfl'
 refine ⟨_,(f7 (i0 (j8 p5 (g9 (pv 0) rfl) (Dk wU j0) (fun _ _=>rfl)))),?_⟩
 refine ⟨_,rfl,j5 o.ins T.cl_Session T.nS_spots (U4 _ _ _) ⟨_,rfl,sp,_,_,_,rfl,rfl,SqL.of o.spv,?_,k⟩⟩
 rw [List.reverse_cons,List.map_append]
 exact Ak _ _
def DN (Cb Cs:Addr):P1:=fun self H Q=>∃s dx p a L spv hv,self=.ref s∧H s=some (.ins Cs dx (l8 (.ref p) spv hv))∧Bs0 Cb H p a L∧s≠p∧∀H' sp,(∀b u,H b=some u→b≠s→H' b=some u)→H sp=none→H' s=some (.ins Cs dx (l8 (.ref p) (.ref sp) hv))→H' sp=some (.lst [nv (c0 L (beginning L))])→(∀b,b≠s→b≠sp→H' b=H b)→Q .non H'
theorem mY (T:i5 P w K mg Cb Cs):x9 P w K mg base Cs 2 "restart" ["self"] (sp1 (DN Cb Cs)):=by
 refine T.mS_restart.ok (N:=["self"]) ⟨rfl,rfl,rfl,by rfl',rfl,by rfl',by rfl'⟩ (fun _ _ _ _=>l1) (fun vs H Q E h f cdv A outer s E' hr=>?_)
 obtain ⟨_,rfl,s0,dx,p,a,L,spv,hv,rfl,hi,B,ns,k⟩:=h
 have nd:(["self"]:List Str).Nodup:=by rfl'
 refine ⟨_,(f7 (C3 (pv 0) (l5 (c7 (C0 (eX T) hr (by decide) T.cl_Board (g9 (pv 0) rfl)) c9)) rfl)),?_⟩
 refine ⟨_,rfl,j5 hi T.cl_Session T.nS_board (A0 _ _ _) ⟨p,a.dx,_,rfl,B.ins,o6 _ _ (by rfl'),_,rfl,p,a,L,rfl,B,(by show 1≤sizeLine;decide),fun sp hsp=>⟨_,rfl,s0,Cs,dx,_,rfl,(by rw [a9 (d8 hi hsp)];exact hi),T.cl_Session,T.nS_spots,(by show 3 < 1000;decide),?_⟩⟩⟩
 rw [zN]
 have nss:sp≠s0:=fun z=>by rw [z,hi] at hsp;cases hsp
 refine k _ sp (fun b u e n=>?_) hsp c8 ?_ (fun b n1 n2=>?_)
 ·rw [a9 n,a9 (d8 e hsp)]
  exact e
 ·rw [a9 nss,c8]
 ·rw [a9 n1,a9 n2]
def Ag (Cb Cs:Addr):P2:=fun self x H Q=>∃s dx p a L bv spv hv,self=.ref s∧x=.ref p∧H s=some (.ins Cs dx (l8 bv spv hv))∧Bs0 Cb H p a L∧s≠p∧∀H' sp,(∀b u,H b=some u→b≠s→H' b=some u)→H sp=none→H' s=some (.ins Cs dx (l8 (.ref p) (.ref sp) .non))→H' sp=some (.lst [nv (c0 L (beginning L))])→(∀b,b≠s→b≠sp→H' b=H b)→Q .non H'
theorem Bs0.other {H:Hp} {p d C dx:Addr} {a:Ad} {L:Level} {fs:List (Str×V)} {o:HO} (B:Bs0 Cb H p a L) (hd:H d=some (.ins C dx fs)) (n:p≠d):Bs0 Cb (a8 H d o) p a L:=by
 have f:∀{b u},H b=some u→(∀C dx fs,u≠.ins C dx fs)→a8 H d o b=some u:=fun {b u} e q=>by rw [a9 (f8 e hd (q _ _ _))];exact e
 obtain ⟨xs,e1,e2,e3⟩:=B.ex
 exact ⟨B.R,(a9 n).trans B.ins,f B.codes (by intro _ _ _ z;cases z),f B.things (by intro _ _ _ z;cases z),f B.tb (by intro _ _ _ z;cases z),f B.cb (by intro _ _ _ z;cases z),f B.lb (by intro _ _ _ z;cases z),⟨xs,f e1 (by intro _ _ _ z;cases z),e2,fun i x q=>by
  obtain ⟨ts,h1,h2,h3⟩:=e3 i x q
  exact ⟨ts,f h1 (by intro _ _ _ z;cases z),h2,fun j t e a b=>f (h3 j t e a b) (by intro _ _ _ z;cases z)⟩⟩,f B.fr (by intro _ _ _ z;cases z),B.n1,B.n2,B.n3⟩
theorem Br (T:i5 P w K mg Cb Cs):x9 P w K mg base Cs 3 "begin" ["self","board"] (x4 (Ag Cb Cs)):=by
 refine T.mS_begin.ok (N:=["self","board"]) ⟨rfl,rfl,rfl,by rfl',rfl,by rfl',by rfl'⟩ (fun _ _ _ _=>l2) (fun vs H Q E h f cdv A outer s E' hr=>?_)
 obtain ⟨_,_,rfl,s0,dx,p,a,L,bv,spv,hv,rfl,rfl,hi,B,ns,k⟩:=h
 have nd:(["self","board"]:List Str).Nodup:=by rfl'
 refine ⟨_,(d7 (C3 (pv 0) (pv 1) rfl) (d7 (C3 (pv 0) V1 rfl) (f7 (A7 (C0 (mY T) hr (by decide) T.cl_Session (pv 0)))))),?_⟩
 refine ⟨_,rfl,_,rfl,s0,Cs,dx,_,rfl,hi,T.cl_Session,T.nS_board,(by show 3 < 1000;decide),?_⟩
 rw [yZ]
 refine ⟨_,rfl,s0,Cs,dx,_,rfl,c8,T.cl_Session,T.nS_hopeful,(by show 3 < 1000;decide),?_⟩
 rw [rC,N5]
 have B1:Bs0 Cb (a8 H s0 (.ins Cs dx (l8 (.ref p) spv .non))) p a L:=B.other hi (Ne.symm ns)
 refine ⟨_,rfl,s0,dx,_,rfl,c8,D0 _ _ _ (by rfl'),_,rfl,s0,dx,p,a,L,spv,.non,rfl,c8,B1,ns,fun H' sp f hsp h1 h2 h3=>?_⟩
 have nss:sp≠s0:=fun z=>by rw [z,c8] at hsp;cases hsp
 refine k H' sp (fun b u e n=>f b u (by rw [a9 n];exact e) n) (by rw [a9 nss] at hsp;exact hsp) h1 h2 (fun b n1 n2=>by rw [h3 b n1 n2,a9 n1])
theorem AW (T:i5 P w K mg Cb Cs):W7 P w K mg base Cs 1 ["self"] (sp1 (fun self H Q=>∃s dx,self=.ref s∧H s=some (.ins Cs dx [])∧∀H' sp,(∀b u,H b=some u→b≠s→H' b=some u)→H' s=some (.ins Cs dx (l8 .non (.ref sp) .non))→Q .non H')):=by
 refine T.mk_Session.ok (N:=["self"]) ⟨rfl,rfl,rfl,by rfl',rfl,by rfl',by rfl'⟩ (fun _ _ _ _=>l1) (fun vs H Q E h f cdv A outer s E' hr=>?_)
 obtain ⟨_,rfl,s0,dx,rfl,hi,k⟩:=h
 have nd:(["self"]:List Str).Nodup:=by rfl'
 refine ⟨_,(d7 (C3 (pv 0) V1 rfl) (d7 (C3 (pv 0) (l5 c9) rfl) (f7 (C3 (pv 0) V1 rfl)))),?_⟩
 refine ⟨_,rfl,s0,Cs,dx,_,rfl,hi,T.cl_Session,T.nS_board,(by show 0 < 1000;decide),?_⟩
 refine ⟨Nat.zero_le _,fun sp hsp=>⟨_,rfl,s0,Cs,dx,_,rfl,((a9 (fun q=>by rw [←q,c8] at hsp;cases hsp)).trans c8),T.cl_Session,T.nS_spots,(by show 1 < 1000;decide),?_⟩⟩
 have nss:sp≠s0:=fun z=>by rw [z,c8] at hsp;cases hsp
 refine ⟨_,rfl,s0,Cs,dx,_,rfl,c8,T.cl_Session,T.nS_hopeful,(by show 2 < 1000;decide),?_⟩
 have e1:l9 "hopeful" V.non (l9 "spots" (V.ref sp) (l9 "board" V.non []))=l8 .non (.ref sp) .non:=by
  rw [show l9 "board" V.non []=[(("board":Str),V.non)] from rfl,show l9 "spots" (V.ref sp) ([(("board":Str),V.non)]:List (Str×V))=([("board",V.non),("spots",V.ref sp)]:List (Str×V)) from F4 ["board"] rfl (by rfl'),show l9 "hopeful" V.non ([("board",V.non),("spots",V.ref sp)]:List (Str×V))=([("board",V.non),("spots",V.ref sp),("hopeful",V.non)]:List (Str×V)) from F4 ["board","spots"] rfl (by rfl')]
  rfl
 refine k _ sp (fun b u e n=>?_) (by rw [c8,e1])
 have hsp':H sp=none:=by rw [a9 nss] at hsp;exact hsp
 rw [a9 n,a9 n,a9 (d8 e hsp'),a9 n]
 exact e
end
def pC:Pos:=⟨312,60,312,100⟩
def qF:Str:="far_list.<locals>.<lambda>"
def zO:Pos:=⟨322,68,322,104⟩
def qP:Str:="spoil_list.<locals>.<lambda>"
structure Tn where
 t1:Addr
 t2:Addr
 t3:Addr
 t4:Addr
def Tn.has (t:Tn) (b:Addr):Prop:=b=t.t1∨b=t.t2∨b=t.t3∨b=t.t4
structure Td (t:Tn):Prop where
 n12:t.t1≠t.t2
 n13:t.t1≠t.t3
 n14:t.t1≠t.t4
 n23:t.t2≠t.t3
 n24:t.t2≠t.t4
 n34:t.t3≠t.t4
structure Tbs (H:Hp) (t:Tn):Prop where
 a1:Tab H t.t1 cN qS
 a2:Tab H t.t2 J7 qR
 a3:Tab H t.t3 pC qF
 a4:Tab H t.t4 zO qP
theorem Tbs.tbl {H:Hp} {t:Tn} (h:Tbs H t) {b:Addr} (hb:t.has b):∃ps,H b=some (.tbl ps):=by
 rcases hb with rfl|rfl|rfl|rfl
 ·obtain ⟨ps,e,_⟩:=h.a1;exact ⟨ps,e⟩
 ·obtain ⟨ps,e,_⟩:=h.a2;exact ⟨ps,e⟩
 ·obtain ⟨ps,e,_⟩:=h.a3;exact ⟨ps,e⟩
 ·obtain ⟨ps,e,_⟩:=h.a4;exact ⟨ps,e⟩
theorem Tbs.keep {H H':Hp} {t:Tn} (h:Tbs H t) (ht:∀b ps,H b=some (.tbl ps)→H' b=some (.tbl ps)) (hc:∀c q,H c=some (A6 c q)→H' c=some (A6 c q)):Tbs H' t:=
 ⟨h.a1.keep (ht _) fun c=>hc c _,h.a2.keep (ht _) fun c=>hc c _,h.a3.keep (ht _) fun c=>hc c _,h.a4.keep (ht _) fun c=>hc c _⟩
structure Lm (K:PySem.W.Frag) (mg:Str→Option Value) (base:Heap) (ts:Tn):Prop where
 bm:Bm mg base
 d:Td ts
 l1:∃c,CodeHd base c ts.t1∧DfL K mg "list_to_stairs" "list_to_stairs" bW ["board","spot"] c
 l2:∃c,CodeHd base c ts.t2∧DfL K mg "reached_spots" "reached_spots" V4 ["board","spot"] c
 l3:∃c,CodeHd base c ts.t3∧DfL K mg "far_list" "far_list" fH ["session","numbers","row"] c
 l4:∃c,CodeHd base c ts.t4∧DfL K mg "spoil_list" "spoil_list" eT ["session","numbers","row"] c
section
variable {P:Program} {w:World} {K:PySem.W.Frag} {mg:Str→Option Value} {base:Heap} {Cb Cs:Addr} {ts:Tn}
theorem rD (T:i5 P w K mg Cb Cs) (Z:Lm K mg base ts):k7 P w K mg base 9 "list_to_stairs" ["board","spot"] (x4 (oZ Cb ts.t1)):=by
 obtain ⟨c,h1,h2⟩:=Z.l1
 exact Ae T h1 Z.bm h2
theorem BE (T:i5 P w K mg Cb Cs) (Z:Lm K mg base ts):k7 P w K mg base 8 "reached_spots" ["board","spot"] (x4 (jX Cb ts.t2)):=by
 obtain ⟨c,h1,h2⟩:=Z.l2
 exact iM T h1 Z.bm h2
theorem Eg (T:i5 P w K mg Cb Cs) (Z:Lm K mg base ts):k7 P w K mg base 9 "hopeful_spots" ["board","spot"] (x4 (mG Cb ts.t2)):=by
 obtain ⟨c,h1,h2⟩:=Z.l2
 exact zW T h1 Z.bm h2
end
def Ss (Cb Cs:Addr) (ts:Tn) (H:Hp) (s:Addr) (g:Option Game) (n:Nat) (tl:Addr):Prop:=Tbs H ts∧(∃xs,H tl=some (.lst xs))∧match g with
 | none=>∃dx spv,H s=some (.ins Cs dx (l8 .non spv .non))
 | some G=>∃dx sp p a L now past hv,G=⟨boardOf L,beginning L,now,past⟩∧Op Cb Cs H s dx sp p a L now past hv tl∧past.length≤n
structure Res (Cb Cs:Addr) (ts:Tn) (H:Hp) (s:Addr) (n:Nat) (tl:Addr) (r:Vbrgae.State×List Int) (H':Hp) (v:V):Prop where
 ss:Ss Cb Cs ts H' s r.1.game (n+1) tl
 tlk:H' tl=H tl
 frz:∀b o u,H b=some (.frz o u)→H' b=some (.frz o u)
 ans:∃l,v=.ref l∧H l=none∧H' l=some (.lst (r.2.map V.int))∧r.2.length≤60000
def t6 (k:Nat) (ns rs:List Int):Option Call:=Vbrgae.callOf (((k:Int)::ns)::(if k=0∨k=11 then [rs] else []))
def C7 (Cb Cs:Addr) (ts:Tn) (k:Nat):P3:=fun x y z H Q=>∃s g n tl nu ro ns rs c,x=.ref s∧y=.ref nu∧z=.ref ro∧Ss Cb Cs ts H s g n tl∧n≤60∧H nu=some (.lst (ns.map V.int))∧H ro=some (.lst (rs.map V.int))∧ro≠tl∧t6 k ns rs=some c∧(k≠0→g≠none)∧
 ∀H' v,Res Cb Cs ts H s n tl (Vbrgae.step ⟨g⟩ c) H' v→Q v H'
theorem Ss.open_ {Cb Cs:Addr} {ts:Tn} {H:Hp} {s:Addr} {g:Option Game} {n:Nat} {tl:Addr} (h:Ss Cb Cs ts H s g n tl) (hg:g≠none):∃dx sp p a L now past hv,g=some ⟨boardOf L,beginning L,now,past⟩∧Op Cb Cs H s dx sp p a L now past hv tl∧past.length≤n:=by
 cases g with
 | none=>exact absurd rfl hg
 | some G=>
  obtain ⟨_,_,dx,sp,p,a,L,now,past,hv,e,o,l⟩:=h
  exact ⟨dx,sp,p,a,L,now,past,hv,by rw [e],o,l⟩
structure Kp (Cb:Addr) (ts:Tn) (H:Hp) (p:Addr) (a:Ad) (L:Level) (H':Hp):Prop where
 bd:Bd Cb H' p a L
 tb:Tbs H' ts
 frm:∀b u,H b=some u→b≠a.kd→¬ts.has b→H' b=some u
 kv:∀r,H r≠none→¬Kv H a.kd r→¬Kv H' a.kd r
section
variable {Cb Cs:Addr} {ts:Tn} {H H' H'':Hp} {s dx sp p:Addr} {a:Ad} {L:Level} {now:Spot} {past:List Spot} {hv:V} {tl:Addr} {n:Nat}
theorem Kp.refl (B:Bd Cb H p a L) (t:Tbs H ts):Kp Cb ts H p a L H:=⟨B,t,fun _ _ e _ _=>e,fun _ _ q=>q⟩
theorem Kp.there (k:Kp Cb ts H p a L H') {r:Addr} (h:H r≠none):H' r≠none:=by
 cases z:H r with
 | none=>exact absurd z h
 | some u=>
  by_cases e:r=a.kd
  ·obtain ⟨kvs,h1,_⟩:=k.bd.kn
   rw [e,h1]
   intro q
   cases q
  ·by_cases t:ts.has r
   ·obtain ⟨ps,q⟩:=k.tb.tbl t
    rw [q]
    intro q
    cases q
   ·rw [k.frm r u z e t]
    intro q
    cases q
theorem Kp.new (k:Kp Cb ts H p a L H') {r:Addr} (h:H' r=none):H r=none:=by
 cases z:H r with
 | none=>rfl
 | some u=>exact absurd h (k.there (by rw [z];intro q;cases q))
theorem Kp.trans (k:Kp Cb ts H p a L H') (k':Kp Cb ts H' p a L H''):Kp Cb ts H p a L H'':=⟨k'.bd,k'.tb,fun b u e n1 n2=>k'.frm b u (k.frm b u e n1 n2) n1 n2,fun r e q=>k'.kv r (k.there e) (k.kv r e q)⟩
theorem Kp.same (k:Kp Cb ts H p a L H') (sm:Same H' H''):Kp Cb ts H p a L H'':=by
 obtain ⟨kvs,kd,_⟩:=k.bd.kn
 exact ⟨k.bd.same sm,k.tb.keep (fun b ps e=>sm _ _ e) fun c q e=>sm _ _ e,fun b u e n1 n2=>sm _ _ (k.frm b u e n1 n2),fun r e q=>Kv.congr ((sm _ _ kd).trans kd.symm) (k.kv r e q)⟩
theorem Kp.ofBw (B:Bd Cb H p a L) (t:Tbs H ts) (b:Bw a.kd L H H'):Kp Cb ts H p a L H':=by
 obtain ⟨kvs,kd,_⟩:=B.kn
 refine ⟨b.toBk.bd B,t.keep (fun x ps e=>b.but _ _ e fun z=>?_) (fun c q e=>b.but _ _ e fun z=>?_),fun x u e n1 _=>b.but _ _ e n1,b.kv⟩
 ·rw [z,kd] at e
  cases e
 ·rw [z,kd] at e
  cases e
theorem Kp.ofStep {l:Addr} {t:Spot} (B:Bd Cb H p a L) (tb:Tbs H ts) (h:dX Cb H p a L t H' l):Kp Cb ts H p a L H':=.ofBw B tb ((Bw.refl B).step h)
theorem Kp.ofSb {t:Addr} {pos:Pos} {q:Str} (B:Bd Cb H p a L) (tb:Tbs H ts) (ht:ts.has t) (h:Sb1 Cb H p a L t pos q H') (htb:Tbs H' ts):Kp Cb ts H p a L H':=⟨h.bd,htb,fun b u e n1 n2=>h.frm b u e n1 fun z=>n2 (z▸ht),h.kv⟩
theorem Sb1.tbs {pos:Pos} {q:Str} {t:Addr} (B:Bd Cb H p a L) (tb:Tbs H ts) (h:Sb1 Cb H p a L t pos q H') {t':Addr} {pos':Pos} {q':Str} (n:t'≠t) (x:Tab H t' pos' q') (ht:∃ps,H t=some (.tbl ps)):Tab H' t' pos' q':=by
 obtain ⟨kvs,kd,_⟩:=B.kn
 obtain ⟨ps0,e0⟩:=ht
 obtain ⟨ps,e1,e2⟩:=x
 refine ⟨ps,h.frm _ _ e1 (fun z=>by rw [z,kd] at e1;cases e1) n,e2.imp id fun ⟨c,e3,e4⟩=>⟨c,e3,h.frm _ _ e4 (fun z=>by rw [z,kd] at e4;cases e4) (fun z=>by rw [z,e0] at e4;cases e4)⟩⟩
theorem Kp.ofSb1 (d:Td ts) (B:Bd Cb H p a L) (tb:Tbs H ts) (h:Sb1 Cb H p a L ts.t1 cN qS H'):Kp Cb ts H p a L H':=
 .ofSb B tb (.inl rfl) h ⟨h.tab,h.tbs B tb d.n12.symm tb.a2 (tb.tbl (.inl rfl)),h.tbs B tb d.n13.symm tb.a3 (tb.tbl (.inl rfl)),h.tbs B tb d.n14.symm tb.a4 (tb.tbl (.inl rfl))⟩
theorem Kp.ofSb2 (d:Td ts) (B:Bd Cb H p a L) (tb:Tbs H ts) (h:Sb1 Cb H p a L ts.t2 J7 qR H'):Kp Cb ts H p a L H':=
 .ofSb B tb (.inr (.inl rfl)) h ⟨h.tbs B tb d.n12 tb.a1 (tb.tbl (.inr (.inl rfl))),h.tab,h.tbs B tb d.n23.symm tb.a3 (tb.tbl (.inr (.inl rfl))),h.tbs B tb d.n24.symm tb.a4 (tb.tbl (.inr (.inl rfl)))⟩
theorem Kp.ofSb3 (d:Td ts) (B:Bd Cb H p a L) (tb:Tbs H ts) (h:Sb1 Cb H p a L ts.t3 pC qF H'):Kp Cb ts H p a L H':=
 .ofSb B tb (.inr (.inr (.inl rfl))) h ⟨h.tbs B tb d.n13 tb.a1 (tb.tbl (.inr (.inr (.inl rfl)))),h.tbs B tb d.n23 tb.a2 (tb.tbl (.inr (.inr (.inl rfl)))),h.tab,h.tbs B tb d.n34.symm tb.a4 (tb.tbl (.inr (.inr (.inl rfl))))⟩
theorem Op.kp (o:Op Cb Cs H s dx sp p a L now past hv tl) (tb:Tbs H ts) (k:Kp Cb ts H p a L H'):Op Cb Cs H' s dx sp p a L now past hv tl:=o.frame k.bd ts.has (fun b hb=>tb.tbl hb) k.frm k.kv
theorem Res.keep {G:Game} {ans:List Int} {l:Addr} (o:Op Cb Cs H s dx sp p a L now past hv tl) (tb:Tbs H ts) (k:Kp Cb ts H p a L H') (hn:past.length≤n) (hG:G=⟨boardOf L,beginning L,now,past⟩) (hl:H l=none) (h:H' l=some (.lst (ans.map V.int))) (hz:ans.length≤60000) :
  Res Cb Cs ts H s n tl (⟨some G⟩,ans) H' (.ref l):=by
 have o':=o.kp tb k
 obtain ⟨xs,ex⟩:=o.tlv
 obtain ⟨kvs,kd,_⟩:=o.bd.kn
 refine ⟨⟨k.tb,o'.tlv,dx,sp,p,a,L,now,past,hv,hG,o',Nat.le_succ_of_le hn⟩,?_,fun b ob u e=>k.frm _ _ e (fun z=>by rw [z,kd] at e;cases e) (fun z=>by obtain ⟨ps,q⟩:=tb.tbl z;rw [e] at q;cases q),l,rfl,hl,h,hz⟩
 exact (k.frm tl _ ex (fun z=>by rw [z,kd] at ex;cases ex) (fun z=>by obtain ⟨ps,q⟩:=tb.tbl z;rw [ex] at q;cases q)).trans ex.symm
end
theorem within_iff {x lo hi:Int}:within x lo hi=true↔lo≤x∧x≤hi:=by
 unfold within
 rw [Bool.and_eq_true,decide_eq_true_iff,decide_eq_true_iff]
theorem T4 {b:Bool} {c d:Call} (h:when_ b c=some d):b=true∧c=d:=by
 unfold when_ at h
 split at h
 ·exact ⟨by assumption,Option.some.inj h⟩
 ·cases h
theorem bN {ns rs:List Int} {c:Call} (h:t6 0 ns rs=some c):∃w h':Nat,ns=[(w:Int),(h':Int)]∧2≤w∧w≤10∧2≤h'∧h'≤10∧rs.length=w*h'∧(∀t∈rs,0≤t∧t≤21)∧c=.open_ w h' (rs.map Int.toNat):=by
 match ns,h with
 | [w,h'],h=>
  obtain ⟨h1,h2⟩:=T4 h
  rw [Bool.and_eq_true,Bool.and_eq_true,Bool.and_eq_true,within_iff,within_iff,decide_eq_true_iff,List.all_eq_true] at h1
  obtain ⟨⟨a1,a2⟩,⟨a3,a4⟩,a5,a6⟩:=h1
  refine ⟨w.toNat,h'.toNat,by rw [Int.toNat_of_nonneg (by omega),Int.toNat_of_nonneg (by omega)],by omega,by omega,by omega,by omega,?_,fun t ht=>within_iff.mp (a6 t ht),h2.symm⟩
  have:((w.toNat*h'.toNat:Nat):Int)=w*h':=by rw [Int.natCast_mul,Int.toNat_of_nonneg (by omega),Int.toNat_of_nonneg (by omega)]
  omega
 | [],h=>cases h
 | [_],h=>cases h
 | _::_::_::_,h=>cases h
theorem fO {ns rs:List Int} {c:Call} (h:t6 1 ns rs=some c):∃d:Nat,ns=[(d:Int)]∧d≤4∧c=.do_ d:=by
 match ns,h with
 | [d],h=>
  obtain ⟨h1,h2⟩:=T4 h
  rw [within_iff] at h1
  exact ⟨d.toNat,by rw [Int.toNat_of_nonneg h1.1],by omega,h2.symm⟩
 | [],h=>cases h
 | _::_::_,h=>cases h
theorem oC {ns rs:List Int} {c:Call} (h:t6 2 ns rs=some c):c=.back:=by
 match ns,h with
 | [],h=>cases h;rfl
 | _::_,h=>cases h
theorem qZ {ns rs:List Int} {c:Call} (h:t6 3 ns rs=some c):c=.again:=by
 match ns,h with
 | [],h=>cases h;rfl
 | _::_,h=>cases h
theorem kN {ns rs:List Int} {c:Call} (h:t6 4 ns rs=some c):c=.here:=by
 match ns,h with
 | [],h=>cases h;rfl
 | _::_,h=>cases h
theorem nG {ns rs:List Int} {c:Call} (h:t6 5 ns rs=some c):c=.least:=by
 match ns,h with
 | [],h=>cases h;rfl
 | _::_,h=>cases h
theorem eM {ns rs:List Int} {c:Call} (h:t6 6 ns rs=some c):∃x y:Nat,ns=[(x:Int),(y:Int)]∧x≤9∧y≤9∧c=.far (x:Int) (y:Int):=by
 match ns,h with
 | [x,y],h=>
  obtain ⟨h1,h2⟩:=T4 h
  unfold isPlace at h1
  rw [Bool.and_eq_true,within_iff,within_iff] at h1
  obtain ⟨⟨a1,a2⟩,a3,a4⟩:=h1
  refine ⟨x.toNat,y.toNat,by rw [Int.toNat_of_nonneg a1,Int.toNat_of_nonneg a3],by omega,by omega,?_⟩
  rw [←h2,Int.toNat_of_nonneg a1,Int.toNat_of_nonneg a3]
 | [],h=>cases h
 | [_],h=>cases h
 | _::_::_::_,h=>cases h
theorem nJ {ns rs:List Int} {c:Call} (h:t6 7 ns rs=some c):c=.reach:=by
 match ns,h with
 | [],h=>cases h;rfl
 | _::_,h=>cases h
theorem qA {ns rs:List Int} {c:Call} (h:t6 8 ns rs=some c):c=.spoilt:=by
 match ns,h with
 | [],h=>cases h;rfl
 | _::_,h=>cases h
theorem lZ {ns rs:List Int} {c:Call} (h:t6 9 ns rs=some c):c=.spoil:=by
 match ns,h with
 | [],h=>cases h;rfl
 | _::_,h=>cases h
theorem gO {ns rs:List Int} {c:Call} (h:t6 10 ns rs=some c):∃j:Nat,ns=[(j:Int)]∧j≤5∧c=.needed (j:Int):=by
 match ns,h with
 | [j],h=>
  obtain ⟨h1,h2⟩:=T4 h
  rw [within_iff] at h1
  refine ⟨j.toNat,by rw [Int.toNat_of_nonneg h1.1],by omega,?_⟩
  rw [←h2,Int.toNat_of_nonneg h1.1]
 | [],h=>cases h
 | _::_::_,h=>cases h
theorem gQ {ns rs:List Int} {c:Call} (h:t6 11 ns rs=some c):∃l:List Nat,rs=l.map (fun n:Nat=>(n:Int))∧(∀d∈l,d≤4)∧l.length≤200∧c=.try_ l:=by
 match ns,h with
 | [],h=>
  obtain ⟨h1,h2⟩:=T4 h
  rw [Bool.and_eq_true,decide_eq_true_iff,List.all_eq_true] at h1
  obtain ⟨a1,a2⟩:=h1
  refine ⟨rs.map Int.toNat,?_,fun d hd=>?_,by rw [List.length_map];exact a1,h2.symm⟩
  ·rw [List.map_map]
   conv=>lhs;rw [←List.map_id rs]
   apply List.map_congr_left
   intro x hx
   have:=within_iff.mp (a2 x hx)
   show x=((x.toNat:Nat):Int)
   rw [Int.toNat_of_nonneg this.1]
  ·obtain ⟨x,hx,rfl⟩:=List.mem_map.mp hd
   have:=within_iff.mp (a2 x hx)
   omega
 | _::_,h=>cases h
theorem gN {ns rs:List Int} {c:Call} (h:t6 12 ns rs=some c):∃x y t:Nat,ns=[(x:Int),(y:Int),(t:Int)]∧x≤9∧y≤9∧t≤21∧c=.edit (x:Int) (y:Int) t:=by
 match ns,h with
 | [x,y,t],h=>
  obtain ⟨h1,h2⟩:=T4 h
  unfold isPlace at h1
  rw [Bool.and_eq_true,Bool.and_eq_true,within_iff,within_iff,within_iff] at h1
  obtain ⟨⟨a1,a2⟩,⟨a3,a4⟩,a5,a6⟩:=h1
  refine ⟨x.toNat,y.toNat,t.toNat,by rw [Int.toNat_of_nonneg a1,Int.toNat_of_nonneg a3,Int.toNat_of_nonneg a5],by omega,by omega,by omega,?_⟩
  rw [←h2,Int.toNat_of_nonneg a1,Int.toNat_of_nonneg a3]
 | [],h=>cases h
 | [_],h=>cases h
 | [_,_],h=>cases h
 | _::_::_::_::_,h=>cases h
theorem mS {ns rs:List Int} {c:Call} (h:t6 13 ns rs=some c):c=.ways:=by
 match ns,h with
 | [],h=>cases h;rfl
 | _::_,h=>cases h
theorem iI {ns rs:List Int} {c:Call} (h:t6 14 ns rs=some c):c=.things:=by
 match ns,h with
 | [],h=>cases h;rfl
 | _::_,h=>cases h
theorem nP {ns rs:List Int} {c:Call} (h:t6 15 ns rs=some c):c=.state:=by
 match ns,h with
 | [],h=>cases h;rfl
 | _::_,h=>cases h
variable {ts:Tn}
section
variable {P:Program} {w:World} {K:PySem.W.Frag} {mg:Str→Option Value} {base:Heap} {Cb Cs:Addr} {ts:Tn}
variable {H H':Hp} {s dx sp p:Addr} {a:Ad} {L:Level} {now:Spot} {past:List Spot} {hv:V} {tl:Addr} {n:Nat}
theorem Op.move {now':Spot} {past':List Spot} (o:Op Cb Cs H s dx sp p a L now past hv tl) (hg:∀t∈now'::past',Good L t∧Lead L (beginning L) t) (hl:(now'::past').getLast?=some (beginning L)) :
  Op Cb Cs (a8 H sp (.lst ((now'::past').reverse.map fun t=>nv (c0 L t)))) s dx sp p a L now' past' hv tl:=by
 obtain ⟨xs,ex⟩:=o.tlv
 obtain ⟨kvs,kd,_⟩:=o.bd.kn
 have ek:a8 H sp (.lst ((now'::past').reverse.map fun t=>nv (c0 L t))) a.kd=H a.kd:=a9 (f8 kd o.spv (by intro z;cases z))
 have ee:a8 H sp (.lst ((now'::past').reverse.map fun t=>nv (c0 L t))) a.ex=H a.ex:=a9 (Ne.symm o.fsp.n4)
 exact ⟨(a9 (f8 o.ins o.spv (by intro z;cases z))).trans o.ins,o.bd.list o.fsp o.spv,c8,hg,hl,o.hop.keep (fun d u e _=>by rw [a9 (f8 e o.spv (by intro z;cases z))];exact e),o.fsp.keep ee (Kv.congr ek),o.ns,o.nts,o.ftl.keep ee (Kv.congr ek),xs,(a9 o.nts).trans ex⟩
theorem aN (L:Level) {t:Spot} (g:Good L t):Vbrgae.told (boardOf L) ⟨c0 L t % (L.w*L.h),0⟩=Vbrgae.told (boardOf L) t:=by
 rw [N7 g]
 rfl
theorem lE {ns:List Int} {j:Nat} {x:Int} (h:ns[j]?=some x):D8 (ns.map V.int) (j:Int)=some (.int x):=l7 (by rw [List.getElem?_map,h];rfl)
theorem Res.move {now':Spot} {past':List Spot} {ans:List Int} {l:Addr} {H0 H1 H2:Hp} (o:Op Cb Cs H0 s dx sp p a L now past hv tl) (tb:Tbs H0 ts) (k:Kp Cb ts H0 p a L H1) (hg:∀t∈now'::past',Good L t∧Lead L (beginning L) t) (hll:(now'::past').getLast?=some (beginning L)) (hn:past'.length≤n+1)
  (sm:Same (a8 H1 sp (.lst ((now'::past').reverse.map fun t=>nv (c0 L t)))) H2) (hl:H0 l=none) (h:H2 l=some (.lst (ans.map V.int))) (hz:ans.length≤60000) :
  Res Cb Cs ts H0 s n tl (⟨some ⟨boardOf L,beginning L,now',past'⟩⟩,ans) H2 (.ref l):=by
 have o1:=o.kp tb k
 have o2:=(o1.move hg hll).same sm
 obtain ⟨xs,ex⟩:=o.tlv
 obtain ⟨kvs,kd,_⟩:=o.bd.kn
 have f:∀{b u},H0 b=some u→(∀k,u≠.dK k)→(∀ps,u≠.tbl ps)→b≠sp→H2 b=some u:=fun {b u} e n1 n2 n3=>sm _ _ (by
  rw [a9 n3]
  exact k.frm b u e (f8 e kd (n1 _)) (fun z=>by obtain ⟨ps,q⟩:=tb.tbl z;rw [e] at q;exact n2 _ (Option.some.inj q)))
 refine ⟨⟨k.tb.keep (fun b ps e=>sm _ _ ?_) (fun c q e=>sm _ _ ?_),o2.tlv,dx,sp,p,a,L,now',past',hv,rfl,o2,hn⟩,(f ex (by intro _ z;cases z) (by intro _ z;cases z) o.nts).trans ex.symm,fun b ob u e=>f e (by intro _ z;cases z) (by intro _ z;cases z) (fun z=>by rw [z,o.spv] at e;cases e),l,rfl,hl,h,hz⟩
 ·rw [a9 (f8 e o1.spv (by intro z;cases z))]
  exact e
 ·rw [a9 (f8 e o1.spv (by intro z;cases z))]
  exact e
theorem BJ (T:i5 P w K mg Cb Cs):k7 P w K mg base 7 "do_act" ["session","numbers","row"] (t7 (C7 Cb Cs ts 1)):=by
 refine T.d_do_act.ok (N:=["session","numbers","row","after"]) ⟨rfl,rfl,rfl,by rfl',rfl,by rfl',by rfl'⟩ (fun _ _ _ _=>l3) (fun vs H Q E h f cdv A outer s E' hr=>?_)
 obtain ⟨_,_,_,rfl,s0,g,n,tl,nu,ro,ns,rs,c,rfl,rfl,rfl,ss,hn,hnu,hro,hrt,hc,hg,k⟩:=h
 have nd:(["session","numbers","row","after"]:List Str).Nodup:=by rfl'
 refine ⟨_,(d7 (m7 (C8 (m9 (U3 T) hr (by decide) T.cl_Board (g9 (pv 0) rfl) (c7 (C0 (K0 T) hr (by decide) T.cl_Session (pv 0)) c9))) (f7 (i0 (l5 (c7 (i8 T.g_GAME_OVER) c9)))) m8) (d7 (j4 (i:=3) nd rfl (Or.inl rfl) (j8 p5 (m9 (U7 T) hr (by decide) T.cl_Board (g9 (pv 0) rfl) (c7 (C0 (K0 T) hr (by decide) T.cl_Session (pv 0)) c9)) (j8 p5 (pv 1) j0 (fun _ _=>rfl)) (fun _ _=>rfl))) (d7 (m7 (u5 D4 (pv 3) (i8 T.g_CANNOT) (o8 _)) (f7 (i0 (l5 (c7 (i8 T.g_CANT_BE_DONE) c9)))) m8) (d7 (A7 (F3 PySem.F.plainAttrs_list PySem.F.slot_list_append PySem.F.type_list_append N2 (g9 (pv 0) rfl) (c7 (pv 3) c9))) (f7 (i0 (j6 L7 (l5 (c7 (i8 T.g_DONE) c9)) (m9 (aW T) hr (by decide) T.cl_Board (g9 (pv 0) rfl) (c7 (pv 3) c9))))))))),?_⟩
 obtain ⟨dx,sp,p,a,L,now,past,hv,rfl,o,hpl⟩:=ss.open_ (hg (by decide))
 have tb:=ss.1
 obtain ⟨d,rfl,hd,rfl⟩:=fO hc
 have gn:=(o.good now (by simp)).1
 have ln:=(o.good now (by simp)).2
 refine ⟨_,rfl,j5 o.ins T.cl_Session T.nS_board (A0 _ _ _) ⟨p,a.dx,_,rfl,o.bd.ins,o6 _ _ (by rfl'),_,rfl,s0,dx,_,rfl,o.ins,D0 _ _ _ (by rfl'),_,rfl,s0,dx,sp,p,a,L,now,past,hv,tl,rfl,o,_,_,rfl,p,a,L,c0 L now,rfl,rfl,o.bd.toBs0,_,rfl,?_⟩⟩
 rw [W1 gn]
 have est:Vbrgae.step ⟨some ⟨boardOf L,beginning L,now,past⟩⟩ (.do_ d)=if over (boardOf L) now=true then (⟨some ⟨boardOf L,beginning L,now,past⟩⟩,[-7]) else match act (boardOf L) now d with
   | none=>(⟨some ⟨boardOf L,beginning L,now,past⟩⟩,[-6])
   | some t=>(⟨some ⟨boardOf L,beginning L,t,now::past⟩⟩,0::Vbrgae.told (boardOf L) t):=by
  show (Vbrgae.State.mk (some (Vbrgae.onGame _ _).1),(Vbrgae.onGame _ _).2)=_
  unfold Vbrgae.onGame
  dsimp only
  split
  ·rfl
  ·cases act (boardOf L) now d<;>rfl
 rw [est] at k
 refine t0 (fun z=>?_) (fun z=>?_)
 ·rw [if_pos z] at k
  exact ⟨(by show 1≤sizeLine;decide),fun l hl=>k _ _ (Res.keep (l:=l) o tb ((Kp.refl o.bd tb).same (Same.new hl)) hpl rfl hl c8 (by show 1≤60000;decide))⟩
 rw [if_neg z] at k
 refine ⟨_,rfl,j5 o.ins T.cl_Session T.nS_board (A0 _ _ _) ⟨p,a.dx,_,rfl,o.bd.ins,o6 _ _ (by rfl'),_,rfl,s0,dx,_,rfl,o.ins,D0 _ _ _ (by rfl'),_,rfl,s0,dx,sp,p,a,L,now,past,hv,tl,rfl,o,_,_,rfl,p,a,L,now,rfl,rfl,o.bd,gn,fun H1 st hst=>?_⟩⟩
 have kp:=Kp.ofStep o.bd tb hst
 have o1:=o.kp tb kp
 obtain ⟨kvs,kd,_⟩:=o.bd.kn
 have hnu1:=hst.2.1 _ _ hnu (f8 hnu kd (by intro z;cases z))
 refine ⟨_,rfl,nu,_,_,_,rfl,rfl,SqL.of hnu1,l7 (j:=0) rfl,st,_,_,_,rfl,rfl,SqL.of hst.2.2.1,lE (Z8 (by omega)),?_⟩
 refine ⟨_,rfl,rfl,_,rfl,?_⟩
 unfold y6
 cases e:act (boardOf L) now d with
 | none=>
  rw [e] at k
  exact k8 ⟨(by show 1≤sizeLine;decide),fun l hl=>k _ _ (Res.keep (l:=l) o tb (kp.same (Same.new hl)) hpl rfl (kp.new hl) c8 (by show 1≤60000;decide))⟩
 | some t=>
  rw [e] at k
  have gt:=M7 o.bd.R gn e
  have hno:decide (V.int (c0 L t:Int)=V.int (-1))=false:=decide_eq_false (fun q=>by injection q with q;omega)
  show if decide (V.int (c0 L t:Int)=V.int (-1))=true then _ else _
  rw [hno]
  have hall:∀u∈t::now::past,Good L u∧Lead L (beginning L) u:=fun u hu=>by
   rcases List.mem_cons.mp hu with q|q
   ·rw [q]
    exact ⟨gt,.tail ln e⟩
   ·exact o.good u q
  have hlast:(t::now::past).getLast?=some (beginning L):=by
   rw [List.getLast?_cons_cons]
   exact o.last
  refine k4 ⟨_,rfl,j5 o1.ins T.cl_Session T.nS_spots (U4 _ _ _) ⟨.inl ⟨rfl,_,SqL.of o1.spv⟩,_,rfl,sp,_,_,rfl,rfl,o1.spv,?_,?_⟩⟩
  ·rw [List.length_map,List.length_reverse,List.length_cons]
   exact Nat.lt_of_le_of_lt (show past.length+1≤100 by omega) (by decide)
  have ehist:((now::past).reverse.map fun t=>nv (c0 L t))++[V.int (c0 L t:Int)]=(t::now::past).reverse.map fun t=>nv (c0 L t):=by
   rw [List.reverse_cons (a:=t),List.map_append]
   rfl
  rw [ehist]
  have o2:=o1.move hall hlast
  refine ⟨(by show 1≤sizeLine;decide),fun r1 h1=>?_⟩
  have o3:=o2.same (Same.new (o:=.lst [.int 0]) h1)
  refine ⟨_,rfl,j5 o3.ins T.cl_Session T.nS_board (A0 _ _ _) ⟨p,a.dx,_,rfl,o3.bd.ins,o6 _ _ (by rfl'),_,rfl,_,_,rfl,p,a,L,c0 L t,rfl,rfl,o3.bd.toBs0,fun H4 r2 s4 h2 hx=>⟨r1,r2,_,_,rfl,rfl,s4 _ _ c8,hx,(by show 1+3≤sizeLine;decide),fun r3 h3=>?_⟩⟩⟩
  have sm:=(Same.new (o:=.lst [.int 0]) h1).trans (s4.trans (Same.new (o:=.lst ([V.int 0]++(Vbrgae.told (boardOf L) ⟨c0 L t % (L.w*L.h),0⟩).map V.int)) h3))
  refine k _ _ (Res.move o tb kp hall hlast (by rw [List.length_cons];omega) sm ?_ ?_ (by show 4≤60000;decide))
  ·refine kp.new ?_
   have q:=((Same.new (o:=.lst [.int 0]) h1).trans s4).free h3
   exact (a9 (fun z=>by rw [z,c8] at q;cases q)).symm.trans q
  ·rw [c8,aN L gt]
   rfl
theorem Em (T:i5 P w K mg Cb Cs):k7 P w K mg base 3 "take_back" ["session","numbers","row"] (t7 (C7 Cb Cs ts 2)):=by
 refine T.d_take_back.ok (N:=["session","numbers","row"]) ⟨rfl,rfl,rfl,by rfl',rfl,by rfl',by rfl'⟩ (fun _ _ _ _=>l3) (fun vs H Q E h f cdv A outer s E' hr=>?_)
 obtain ⟨_,_,_,rfl,s0,g,n,tl,nu,ro,ns,rs,c,rfl,rfl,rfl,ss,hn,hnu,hro,hrt,hc,hg,k⟩:=h
 have nd:(["session","numbers","row"]:List Str).Nodup:=by rfl'
 refine ⟨_,(d7 (m7 (u5 D4 (A2 C1 (by rfl) T.b_len PySem.boot_len (c7 (g9 (pv 0) rfl) c9)) j0 (o8 _)) (f7 (i0 (l5 (c7 (i8 T.g_NOTHING_DONE) c9)))) m8) (d7 (A7 (pZ PySem.F.plainAttrs_list PySem.F.slot_list_pop PySem.F.type_list_pop Eo (g9 (pv 0) rfl))) (f7 (i0 (j6 L7 (l5 (c7 (i8 T.g_DONE) c9)) (m9 (aW T) hr (by decide) T.cl_Board (g9 (pv 0) rfl) (c7 (C0 (K0 T) hr (by decide) T.cl_Session (pv 0)) c9))))))),?_⟩
 obtain ⟨dx,sp,p,a,L,now,past,hv,rfl,o,hpl⟩:=ss.open_ (hg (by decide))
 have tb:=ss.1
 obtain rfl:=oC hc
 refine ⟨_,rfl,j5 o.ins T.cl_Session T.nS_spots (U4 _ _ _) ⟨_,_,rfl,.inl (SqL.of o.spv),rfl,_,rfl,?_⟩⟩
 rw [List.length_map,List.length_reverse,List.length_cons]
 cases past with
 | nil=>
  refine k8 ⟨(by show 1≤sizeLine;decide),fun l hl=>k _ _ ?_⟩
  exact Res.keep (l:=l) o tb ((Kp.refl o.bd tb).same (Same.new hl)) hpl rfl hl c8 (by show 1≤60000;decide)
 | cons b past=>
  have hno:decide (V.int (((b::past).length+1:Nat):Int)=V.int 1)=false:=decide_eq_false (fun q=>by injection q with q;rw [List.length_cons] at q;omega)
  rw [hno]
  have hall:∀u∈b::past,Good L u∧Lead L (beginning L) u:=fun u hu=>o.good u (List.mem_cons_of_mem _ hu)
  have hlast:(b::past).getLast?=some (beginning L):=by rw [←o.last,List.getLast?_cons_cons]
  have gb:=(hall b (by simp)).1
  have e1:((now::b::past).reverse.map fun t=>nv (c0 L t))=((b::past).reverse.map fun t=>nv (c0 L t))++[nv (c0 L now)]:=by
   rw [List.reverse_cons (a:=now),List.map_append]
   rfl
  refine k4 ⟨_,rfl,j5 o.ins T.cl_Session T.nS_spots (U4 _ _ _) ⟨.inl ⟨rfl,_,SqL.of o.spv⟩,sp,_,nv (c0 L now),rfl,rfl,o.spv,?_,?_⟩⟩
  ·rw [e1,List.length_append,List.length_singleton,Nat.add_sub_cancel,List.getElem?_append_right (Nat.le_refl _),Nat.sub_self]
   rfl
  rw [e1,List.dropLast_concat]
  have o2:=o.move hall hlast
  refine ⟨(by show 1≤sizeLine;decide),fun r1 h1=>?_⟩
  have o3:=o2.same (Same.new (o:=.lst [.int 0]) h1)
  refine ⟨_,rfl,j5 o3.ins T.cl_Session T.nS_board (A0 _ _ _) ⟨p,a.dx,_,rfl,o3.bd.ins,o6 _ _ (by rfl'),_,rfl,s0,dx,_,rfl,o3.ins,D0 _ _ _ (by rfl'),_,rfl,s0,dx,sp,p,a,L,b,past,hv,tl,rfl,o3,_,_,rfl,p,a,L,c0 L b,rfl,rfl,o3.bd.toBs0,fun H4 r2 s4 h2 hx=>⟨r1,r2,_,_,rfl,rfl,s4 _ _ c8,hx,(by show 1+3≤sizeLine;decide),fun r3 h3=>?_⟩⟩⟩
  have sm:=(Same.new (o:=.lst [.int 0]) h1).trans (s4.trans (Same.new (o:=.lst ([V.int 0]++(Vbrgae.told (boardOf L) ⟨c0 L b % (L.w*L.h),0⟩).map V.int)) h3))
  refine k _ _ (Res.move o tb (Kp.refl o.bd tb) hall hlast (by rw [List.length_cons] at hpl;omega) sm ?_ ?_ (by show 4≤60000;decide))
  ·have q:=((Same.new (o:=.lst [.int 0]) h1).trans s4).free h3
   exact (a9 (fun z=>by rw [z,c8] at q;cases q)).symm.trans q
  ·rw [c8,aN L gb]
   rfl
end
theorem Op.again {H H':Hp} {s dx sp p:Addr} {a:Ad} {L:Level} {now:Spot} {past:List Spot} {hv:V} {tl sp':Addr} (o:Op Cb Cs H s dx sp p a L now past hv tl) (f:∀b u,H b=some u→b≠s→H' b=some u) (hsp:H sp'=none) (h1:H' s=some (.ins Cs dx (l8 (.ref p) (.ref sp') hv))) (h2:H' sp'=some (.lst [nv (c0 L (beginning L))])):Op Cb Cs H' s dx sp' p a L (beginning L) [] hv tl:=by
 obtain ⟨xs,ex⟩:=o.tlv
 obtain ⟨kvs,kd,kn⟩:=o.bd.kn
 obtain ⟨ys,ey,ez,ew⟩:=o.bd.ex
 have l1:∀{b u},H b=some u→(∀C dx fs,u≠.ins C dx fs)→H' b=some u:=fun {b u} e q=>f b u e (f8 e o.ins (q _ _ _))
 have hk:H' a.kd=H a.kd:=(l1 kd (by intro _ _ _ z;cases z)).trans kd.symm
 have he:H' a.ex=H a.ex:=(l1 ey (by intro _ _ _ z;cases z)).trans ey.symm
 have b':Bd Cb H' p a L:=o.bd.butG (d:=s) f (Ne.symm o.ns) (by intro _ z;rw [o.ins] at z;cases z) (by intro _ z;rw [o.ins] at z;cases z) (by intro _ z;rw [o.ins] at z;cases z)
 refine ⟨h1,b',h2,fun t ht=>?_,rfl,o.hop.keep fun d u e _=>l1 e (by intro _ _ _ z;cases z),?_,o.ns,(fun z=>by rw [←z,ex] at hsp;cases hsp),o.ftl.keep he (Kv.congr hk),xs,l1 ex (by intro _ _ _ z;cases z)⟩
 ·simp at ht
  rw [ht]
  exact ⟨V9 o.bd.R,.refl⟩
 ·refine ⟨(fun z=>by rw [z,o.bd.codes] at hsp;cases hsp),(fun z=>by rw [z,o.bd.things] at hsp;cases hsp),(fun z=>by rw [z,ey] at hsp;cases hsp),(fun z=>by rw [z,o.bd.fr] at hsp;cases hsp),fun zs e m=>?_,Kv.congr hk (kn.nokv kd hsp)⟩
  rw [he,ey] at e
  cases e
  obtain ⟨x,hx,e2⟩:=List.mem_map.mp m
  cases e2
  obtain ⟨i,hi⟩:=List.getElem?_of_mem hx
  obtain ⟨tt,h3,_⟩:=ew i _ hi
  rw [hsp] at h3
  cases h3
theorem sX (T:i5 P w K mg Cb Cs):k7 P w K mg base 3 "start_again" ["session","numbers","row"] (t7 (C7 Cb Cs ts 3)):=by
 refine T.d_start_again.ok (N:=["session","numbers","row"]) ⟨rfl,rfl,rfl,by rfl',rfl,by rfl',by rfl'⟩ (fun _ _ _ _=>l3) (fun vs H Q E h f cdv A outer s E' hr=>?_)
 obtain ⟨_,_,_,rfl,s0,g,n,tl,nu,ro,ns,rs,c,rfl,rfl,rfl,ss,hn,hnu,hro,hrt,hc,hg,k⟩:=h
 have nd:(["session","numbers","row"]:List Str).Nodup:=by rfl'
 refine ⟨_,(d7 (A7 (C0 (mY T) hr (by decide) T.cl_Session (pv 0))) (f7 (i0 (l5 (c7 (i8 T.g_DONE) c9))))),?_⟩
 obtain ⟨dx,sp,p,a,L,now,past,hv,rfl,o,hpl⟩:=ss.open_ (hg (by decide))
 have tb:=ss.1
 obtain rfl:=qZ hc
 refine ⟨_,rfl,s0,dx,_,rfl,o.ins,D0 _ _ _ (by rfl'),_,rfl,s0,dx,p,a,L,_,hv,rfl,o.ins,o.bd.toBs0,o.ns,fun H1 sp' f1 hsp h1 h2 _=>?_⟩
 have o1:=o.again f1 hsp h1 h2
 refine ⟨(by show 1≤sizeLine;decide),fun l hl=>k _ _ ?_⟩
 have o2:=o1.same (Same.new (o:=.lst [.int 0]) hl)
 obtain ⟨xs,ex⟩:=o.tlv
 have sm:Same H1 (a8 H1 l (.lst [.int 0])):=Same.new hl
 have l1:∀{b u},H b=some u→(∀C dx fs,u≠.ins C dx fs)→a8 H1 l (.lst [.int 0]) b=some u:=fun {b u} e q=>sm _ _ (f1 b u e (f8 e o.ins (q _ _ _)))
 refine ⟨⟨tb.keep (fun b ps e=>l1 e (by intro _ _ _ z;cases z)) (fun c q e=>l1 e (by intro _ _ _ z;cases z)),o2.tlv,dx,sp',p,a,L,_,[],hv,rfl,o2,Nat.zero_le _⟩,(l1 ex (by intro _ _ _ z;cases z)).trans ex.symm,fun b ob u e=>l1 e (by intro _ _ _ z;cases z),l,rfl,?_,c8,by show 1≤60000;decide⟩
 cases q:H l with
 | none=>rfl
 | some u=>
  by_cases e:l=s0
  ·rw [e,h1] at hl
   cases hl
  ·rw [f1 l u q e] at hl
   cases hl
theorem BX (T:i5 P w K mg Cb Cs):k7 P w K mg base 3 "tell_here" ["session","numbers","row"] (t7 (C7 Cb Cs ts 4)):=by
 refine T.d_tell_here.ok (N:=["session","numbers","row","board","marks","told"]) ⟨rfl,rfl,rfl,by rfl',rfl,by rfl',by rfl'⟩ (fun _ _ _ _=>l3) (fun vs H Q E h f cdv A outer s E' hr=>?_)
 obtain ⟨_,_,_,rfl,s0,g,n,tl,nu,ro,ns,rs,c,rfl,rfl,rfl,ss,hn,hnu,hro,hrt,hc,hg,k⟩:=h
 have nd:(["session","numbers","row","board","marks","told"]:List Str).Nodup:=by rfl'
 refine ⟨_,(d7 (j4 (i:=3) nd rfl (Or.inl rfl) (g9 (pv 0) rfl)) (d7 (j4 (i:=4) nd rfl (Or.inl rfl) (m9 (qN T) hr (by decide) T.cl_Board (pv 3) (c7 (C0 (K0 T) hr (by decide) T.cl_Session (pv 0)) c9))) (d7 (j4 (i:=5) nd rfl (Or.inl rfl) (j6 L7 (l5 (c7 (i8 T.g_DONE) c9)) (m9 (aW T) hr (by decide) T.cl_Board (pv 3) (c7 (C0 (K0 T) hr (by decide) T.cl_Session (pv 0)) c9)))) (d7 (A7 (F3 PySem.F.plainAttrs_list PySem.F.slot_list_append PySem.F.type_list_append N2 (pv 5) (c7 (j6 kJ (A2 C1 (by rfl) T.b_len PySem.boot_len (c7 (g9 (pv 0) rfl) c9)) j0) c9))) (d7 (A7 (F3 PySem.F.plainAttrs_list PySem.F.slot_list_append PySem.F.type_list_append N2 (pv 5) (c7 (m9 (lL T) hr (by decide) T.cl_Board (pv 3) (c7 (pv 4) c9)) c9))) (f7 (i0 (j6 L7 (pv 5) (n9 (U9 T) hr (by decide) (c7 (m9 (zJ T) hr (by decide) T.cl_Board (pv 3) (c7 (pv 4) c9)) c9)))))))))),?_⟩
 obtain ⟨dx,sp,p,a,L,now,past,hv,rfl,o,hpl⟩:=ss.open_ (hg (by decide))
 have tb:=ss.1
 obtain rfl:=kN hc
 have gn:=(o.good now (by simp)).1
 refine ⟨_,rfl,j5 o.ins T.cl_Session T.nS_board (A0 _ _ _) ?_⟩
 refine ⟨_,rfl,p,a.dx,_,rfl,o.bd.ins,o6 _ _ (by rfl'),_,rfl,s0,dx,_,rfl,o.ins,D0 _ _ _ (by rfl'),_,rfl,s0,dx,sp,p,a,L,now,past,hv,tl,rfl,o,_,_,rfl,p,a,L,c0 L now,rfl,rfl,o.bd.toBs0,?_⟩
 rw [W0 gn]
 refine ⟨(by show 1≤sizeLine;decide),fun r1 h1=>?_⟩
 have o1:=o.same (Same.new (o:=.lst [.int 0]) h1)
 refine ⟨_,rfl,p,a.dx,_,rfl,o1.bd.ins,o6 _ _ (by rfl'),_,rfl,s0,dx,_,rfl,o1.ins,D0 _ _ _ (by rfl'),_,rfl,s0,dx,sp,p,a,L,now,past,hv,tl,rfl,o1,_,_,rfl,p,a,L,c0 L now,rfl,rfl,o1.bd.toBs0,fun H2 r2 s2 h2 hx2=>⟨r1,r2,_,_,rfl,rfl,s2 _ _ c8,hx2,(by show 1+3≤sizeLine;decide),fun r3 h3=>?_⟩⟩
 have sm3:=((Same.new (o:=.lst [.int 0]) h1).trans s2).trans (Same.new (o:=.lst ([V.int 0]++(Vbrgae.told (boardOf L) ⟨c0 L now % (L.w*L.h),0⟩).map V.int)) h3)
 have hr3:a8 H2 r3 (.lst ([V.int 0]++(Vbrgae.told (boardOf L) ⟨c0 L now % (L.w*L.h),0⟩).map V.int)) r3=some (.lst ((0::Vbrgae.told (boardOf L) now).map V.int)):=by
  rw [c8,aN L gn]
  rfl
 have r3n:H r3=none:=((Same.new (o:=.lst [.int 0]) h1).trans s2).free h3
 generalize a8 H2 r3 (.lst ([V.int 0]++(Vbrgae.told (boardOf L) ⟨c0 L now % (L.w*L.h),0⟩).map V.int))=H3 at sm3 hr3 ⊢
 have o3:=o.same sm3
 refine ⟨_,rfl,.inl ⟨rfl,_,SqL.of hr3⟩,_,rfl,j5 o3.ins T.cl_Session T.nS_spots (U4 _ _ _) ⟨_,_,rfl,.inl (SqL.of o3.spv),_,_,rfl,rfl,r3,_,_,rfl,rfl,hr3,(by show 4 < sizeLine;decide),?_⟩⟩
 rw [List.length_map,List.length_reverse,List.length_cons]
 have sm4:Same H (a8 H3 r3 (.lst ((0::Vbrgae.told (boardOf L) now).map V.int++[.int (((past.length+1:Nat):Int) - 1)]))):=fun b u e=>by rw [a9 (d8 e r3n)];exact sm3 _ _ e
 have o4:=o.same sm4
 have hr4:a8 H3 r3 (.lst ((0::Vbrgae.told (boardOf L) now).map V.int++[.int (((past.length+1:Nat):Int) - 1)])) r3=some (.lst ((0::Vbrgae.told (boardOf L) now++[(past.length:Int)]).map V.int)):=by
  rw [c8,List.map_append]
  have:((past.length+1:Nat):Int) - 1=(past.length:Int):=by omega
  rw [this]
  rfl
 generalize a8 H3 r3 (.lst ((0::Vbrgae.told (boardOf L) now).map V.int++[.int (((past.length+1:Nat):Int) - 1)]))=H4 at sm4 o4 hr4 ⊢
 refine ⟨_,rfl,.inl ⟨rfl,_,SqL.of hr4⟩,_,rfl,p,a.dx,_,rfl,o4.bd.ins,o6 _ _ (by rfl'),_,rfl,_,_,rfl,p,a,L,now.marks,rfl,rfl,o4.bd.toBs0,fun H5 s5=>⟨r3,_,_,rfl,rfl,s5 _ _ hr4,(by show 5 < sizeLine;decide),?_⟩⟩
 have ekeys:(marked (boardOf L) now.marks 4:Int) - (marked (boardOf L) now.marks 5:Int)=(inHand (boardOf L) now.marks:Int):=by
  have:=gn.kl
  unfold Vbrgae.inHand
  omega
 rw [ekeys]
 have sm5:Same H (a8 H5 r3 (.lst ((0::Vbrgae.told (boardOf L) now++[(past.length:Int)]).map V.int++[.int (inHand (boardOf L) now.marks:Int)]))):=fun b u e=>by rw [a9 (d8 e r3n)];exact s5 _ _ (sm4 _ _ e)
 have o5:=o.same sm5
 have hr5:a8 H5 r3 (.lst ((0::Vbrgae.told (boardOf L) now++[(past.length:Int)]).map V.int++[.int (inHand (boardOf L) now.marks:Int)])) r3=some (.lst ((0::Vbrgae.told (boardOf L) now++[(past.length:Int),(inHand (boardOf L) now.marks:Int)]).map V.int)):=by
  rw [c8,List.map_append,List.map_append,List.append_assoc]
  rfl
 generalize a8 H5 r3 (.lst ((0::Vbrgae.told (boardOf L) now++[(past.length:Int)]).map V.int++[.int (inHand (boardOf L) now.marks:Int)]))=H6 at sm5 o5 hr5 ⊢
 have hn6:=o.bd.R.nT_le
 have hrl:(Vbrgae.marksRow (boardOf L) now.marks).length=nT L+2:=by unfold Vbrgae.marksRow;rw [List.length_map,List.length_range];rfl
 refine ⟨_,rfl,_,rfl,p,a.dx,_,rfl,o5.bd.ins,o6 _ _ (by rfl'),_,rfl,_,_,rfl,p,a,L,now.marks,rfl,rfl,o5.bd.toBs0,fun H7 r7 s7 h7 hx7=>⟨_,rfl,r7,_,rfl,hx7,(by rw [List.length_map,hrl];omega),fun H8 r8 s8 h8 hx8=>⟨r3,r8,_,_,rfl,rfl,s8 _ _ (s7 _ _ hr5),hx8,?_,fun r9 h9=>k _ _ (Res.keep o tb ((Kp.refl o.bd tb).same ((sm5.trans (s7.trans s8)).trans (Same.new h9))) hpl rfl ((sm5.trans (s7.trans s8)).free h9) ?_ ?_)⟩⟩⟩
 ·have q:(nv ((Vbrgae.marksRow (boardOf L) now.marks).map V.int).length::(Vbrgae.marksRow (boardOf L) now.marks).map V.int).length=nT L+3:=by rw [List.length_cons,List.length_map,hrl]
  rw [q]
  show 6+(nT L+3)≤sizeLine
  exact Nat.le_trans (show 6+(nT L+3)≤100 by omega) (by decide)
 ·rw [c8,List.length_map]
  show some (HO.lst _)=some (HO.lst ((0::(Vbrgae.told (boardOf L) now++((past.length:Int)::(inHand (boardOf L) now.marks:Int)::((Vbrgae.marksRow (boardOf L) now.marks).length:Int)::Vbrgae.marksRow (boardOf L) now.marks))).map V.int))
  rw [List.map_cons (f:=V.int),List.map_append (f:=V.int)]
  rfl
 ·show (0::(Vbrgae.told (boardOf L) now++((past.length:Int)::(inHand (boardOf L) now.marks:Int)::Vbrgae.row (Vbrgae.marksRow (boardOf L) now.marks)))).length≤60000
  unfold Vbrgae.row
  rw [List.length_cons,List.length_append,List.length_cons,List.length_cons,List.length_cons,hrl]
  show (3+(nT L+2+1+1+1))+1≤60000
  omega
theorem dF {H H':Hp} {v:V} {o:Option (List Nat)} (h:ListV H H' v o):eG H' v o:=by
 unfold ListV at h
 unfold eG
 cases o with
 | none=>exact h
 | some l=>
  obtain ⟨r,e1,_,e2,e3⟩:=h
  exact ⟨r,e1,e2,e3⟩
theorem fJ {o:Option (List Nat)} (h:∀l,o=some l→l.length≤25600):(Q3 o).length≤60000:=by
 unfold Q3
 cases o with
 | none=>show 2≤60000;decide
 | some l=>
  have:=h l rfl
  show (0::1::Vbrgae.row (Vbrgae.nats l)).length≤60000
  unfold Vbrgae.row Vbrgae.nats
  rw [List.length_cons,List.length_cons,List.length_cons,List.length_map]
  omega
theorem fV {H H':Hp} {v:V} {o:Option (List Nat)} (h:ListV H H' v o):∀l,o=some l→l.length≤25600:=fun l e=>by
 subst e
 obtain ⟨r,_,_,_,e3⟩:=h
 exact e3
theorem rT (L:Level) (t:Spot) (d:Nat) (l:List Nat):Vbrgae.play (boardOf L) t (d::l)=match act (boardOf L) t d with
  | none=>(0,t)
  | some u=>((Vbrgae.play (boardOf L) u l).1+1,(Vbrgae.play (boardOf L) u l).2):=rfl
theorem xN (L:Level) (t:Spot):Vbrgae.play (boardOf L) t []=(0,t):=rfl
theorem tO (T:i5 P w K mg Cb Cs)(Z:Lm K mg base ts):k7 P w K mg base 10 "least_list" ["session","numbers","row"] (t7 (C7 Cb Cs ts 5)):=by
 refine T.d_least_list.ok (N:=["session","numbers","row"]) ⟨rfl,rfl,rfl,by rfl',rfl,by rfl',by rfl'⟩ (fun _ _ _ _=>l3) (fun vs H Q E h f cdv A outer s E' hr=>?_)
 obtain ⟨_,_,_,rfl,s0,g,n,tl,nu,ro,ns,rs,c,rfl,rfl,rfl,ss,hn,hnu,hro,hrt,hc,hg,k⟩:=h
 have nd:(["session","numbers","row"]:List Str).Nodup:=by rfl'
 refine ⟨_,(f7 (i0 (n9 (iF T) hr (by decide) (c7 (n9 (rD T Z) hr (by decide) (c7 (g9 (pv 0) rfl) (c7 (C0 (K0 T) hr (by decide) T.cl_Session (pv 0)) c9))) c9)))),?_⟩
 obtain ⟨dx,sp,p,a,L,now,past,hv,rfl,o,hpl⟩:=ss.open_ (hg (by decide))
 have tb:=ss.1
 obtain rfl:=nG hc
 have gn:=(o.good now (by simp)).1
 refine ⟨_,rfl,j5 o.ins T.cl_Session T.nS_board (A0 _ _ _) ⟨_,rfl,s0,dx,_,rfl,o.ins,D0 _ _ _ (by rfl'),_,rfl,s0,dx,sp,p,a,L,now,past,hv,tl,rfl,o,_,_,rfl,p,a,L,now,rfl,rfl,o.bd,gn,tb.a1,fun H1 v sb hv1=>?_⟩⟩
 have kp:=Kp.ofSb1 Z.d o.bd tb sb
 refine ⟨_,rfl,_,dF hv1,fun H2 r s2 hr2 hx=>k _ _ ?_⟩
 have e:Vbrgae.step ⟨some ⟨boardOf L,beginning L,now,past⟩⟩ .least=(⟨some ⟨boardOf L,beginning L,now,past⟩⟩,Q3 ((Vbrgae.least (boardOf L) (over (boardOf L)) now).map (·.1))):=by
  show (Vbrgae.State.mk (some (Vbrgae.onGame _ _).1),(Vbrgae.onGame _ _).2)=_
  unfold Vbrgae.onGame
  dsimp only
  cases Vbrgae.least (boardOf L) (over (boardOf L)) now<;>rfl
 rw [e]
 exact Res.keep (l:=r) o tb (kp.same s2) hpl rfl (kp.new hr2) hx (fJ (fV hv1))
theorem vX (T:i5 P w K mg Cb Cs):k7 P w K mg base 7 "try_acts" ["session","numbers","row"] (t7 (C7 Cb Cs ts 11)):=by
 refine T.d_try_acts.ok (N:=["session","numbers","row","spot","done","act","after"]) ⟨rfl,rfl,rfl,by rfl',rfl,by rfl',by rfl'⟩ (fun _ _ _ _=>l3) (fun vs H Q E h f cdv A outer s E' hr=>?_)
 obtain ⟨_,_,_,rfl,s0,g,n,tl,nu,ro,ns,rs,c,rfl,rfl,rfl,ss,hn,hnu,hro,hrt,hc,hg,k⟩:=h
 have nd:(["session","numbers","row","spot","done","act","after"]:List Str).Nodup:=by rfl'
 refine ⟨_,(d7 (j4 (i:=3) nd rfl (Or.inl rfl) (C0 (K0 T) hr (by decide) T.cl_Session (pv 0))) (d7 (j4 (i:=4) nd rfl (Or.inl rfl) j0) (d7 (B9 PassesOwn.never rfl (F2 (pv 2)) (n8 (i:=5) nd rfl (Or.inl rfl)) (d7 (j4 (i:=6) nd rfl (Or.inl rfl) (j8 p5 (m9 (U7 T) hr (by decide) T.cl_Board (g9 (pv 0) rfl) (c7 (pv 3) c9)) (pv 5) (fun _ _=>rfl))) (d7 (m7 (u5 D4 (pv 6) (i8 T.g_CANNOT) (o8 _)) (f7 AK) m8) (d7 (j4 (i:=3) nd rfl (Or.inl rfl) (pv 6)) (f7 (bU (i:=4) nd rfl (Or.inl rfl) j0 aE)))))) (f7 (i0 (j6 L7 (l5 (c7 (i8 T.g_DONE) (c7 (pv 4) c9))) (m9 (aW T) hr (by decide) T.cl_Board (g9 (pv 0) rfl) (c7 (pv 3) c9)))))))),?_⟩
 obtain ⟨dx,sp,p,a,L,now,past,hv,rfl,o,hpl⟩:=ss.open_ (hg (by decide))
 have tb:=ss.1
 obtain ⟨l,rfl,hl4,hl200,rfl⟩:=gQ hc
 have gn:=(o.good now (by simp)).1
 obtain ⟨kvs,kd,_⟩:=o.bd.kn
 have nrk:ro≠a.kd:=f8 hro kd (by intro z;cases z)
 have nrt:¬ts.has ro:=fun z=>by obtain ⟨ps,q⟩:=tb.tbl z;rw [hro] at q;cases q
 have fin:∀(H1:Hp) (t:Spot) (m:Nat),Kp Cb ts H p a L H1→Good L t→Vbrgae.play (boardOf L) now l=(m,t)→m≤200→∀(v4:Option V) (v5:V) (w6:Option V),
   nM (F1 nE (jI (cE (tC (.int 0)) (cE (z9 4) R3))) (Z5 Cb "place" (x4 (qO Cb)) [] E0 (iE K (z9 0) "board") (cE (z9 3) R3))) { nx:=fun _ H'=>Q .non H',rt:=Q } [some (.ref s0),some (.ref nu),some (.ref ro),some (nv (c0 L t)),some (nv m),v4,w6] H1:=fun H1 t m kp gt hp hm v4 v5 w6=>by
  have o1:=o.kp tb kp
  refine ⟨_,rfl,(by show 2≤sizeLine;decide),fun r1 h1=>?_⟩
  have o2:=o1.same (Same.new (o:=.lst [.int 0,nv m]) h1)
  refine ⟨_,rfl,j5 o2.ins T.cl_Session T.nS_board (A0 _ _ _) ⟨p,a.dx,_,rfl,o2.bd.ins,o6 _ _ (by rfl'),_,rfl,_,_,rfl,p,a,L,c0 L t,rfl,rfl,o2.bd.toBs0,fun H2 r2 s2 h2 hx=>⟨r1,r2,_,_,rfl,rfl,s2 _ _ c8,hx,(by show 2+3≤sizeLine;decide),fun r3 h3=>k _ _ ?_⟩⟩⟩
  have e:Vbrgae.step ⟨some ⟨boardOf L,beginning L,now,past⟩⟩ (.try_ l)=(⟨some ⟨boardOf L,beginning L,now,past⟩⟩,0::(m:Int)::Vbrgae.told (boardOf L) t):=by
   show (Vbrgae.State.mk (some (Vbrgae.onGame _ _).1),(Vbrgae.onGame _ _).2)=_
   unfold Vbrgae.onGame
   dsimp only
   rw [hp]
  rw [e]
  refine Res.keep (l:=r3) o tb (kp.same (((Same.new h1).trans s2).trans (Same.new h3))) hpl rfl (kp.new (((Same.new h1).trans s2).free h3)) ?_ (by show 5≤60000;decide)
  rw [c8,aN L gt]
  rfl
 refine ⟨_,rfl,s0,dx,_,rfl,o.ins,D0 _ _ _ (by rfl'),_,rfl,s0,dx,sp,p,a,L,now,past,hv,tl,rfl,o,?_⟩
 refine ⟨_,rfl,ro,rfl,⟨_,SqL.of hro⟩,K4 (xs:=(l.map fun n:Nat=>(n:Int)).map V.int) (fun i σ H'=>∃t v5 v6,σ=[some (.ref s0),some (.ref nu),some (.ref ro),some (nv (c0 L t)),some (nv i),v5,v6]∧Kp Cb ts H p a L H'∧Good L t∧Vbrgae.play (boardOf L) now l=((Vbrgae.play (boardOf L) t (l.drop i)).1+i,(Vbrgae.play (boardOf L) t (l.drop i)).2))
  ⟨now,none,none,rfl,Kp.refl o.bd tb,gn,rfl⟩ (fun i σ H' _ ⟨_,_,_,_,q,_⟩=>SqL.of (q.frm _ _ hro nrk nrt)) ?_ ?_⟩
 ·rintro i x σ H1 hi ⟨t,v5,v6,rfl,kp,gt,hp⟩
  obtain ⟨d,hd,rfl⟩:∃d:Nat,l[i]?=some d∧x=nv d:=by
   rw [List.getElem?_map,List.getElem?_map] at hi
   cases q:l[i]? with
   | none=>rw [q] at hi;cases hi
   | some t=>rw [q] at hi;exact ⟨t,rfl,(Option.some.inj hi).symm⟩
  have hil:i < l.length:=(List.getElem?_eq_some_iff.mp hd).1
  have hd4:=hl4 d (List.mem_of_getElem? hd)
  have o1:=o.kp tb kp
  have edrop:l.drop i=d::l.drop (i+1):=by
   rw [List.drop_eq_getElem_cons hil,(List.getElem?_eq_some_iff.mp hd).2]
  refine ⟨_,rfl,j5 o1.ins T.cl_Session T.nS_board (A0 _ _ _) ⟨p,a.dx,_,rfl,o1.bd.ins,o6 _ _ (by rfl'),_,rfl,_,_,rfl,p,a,L,t,rfl,rfl,o1.bd,gt,fun H2 st hst=>?_⟩⟩
  have kp2:=kp.trans (Kp.ofStep o1.bd kp.tb hst)
  refine ⟨_,rfl,st,_,_,_,rfl,rfl,SqL.of hst.2.2.1,lE (Z8 (by omega)),_,rfl,rfl,_,rfl,?_⟩
  unfold y6
  rw [edrop] at hp
  rw [rT] at hp
  cases e:act (boardOf L) t d with
  | none=>
   rw [e] at hp
   dsimp only at hp
   rw [Nat.zero_add] at hp
   exact k8 (fin H2 t i kp2 gt hp (by omega) (nv d) .non _)
  | some u=>
   rw [e] at hp
   dsimp only at hp
   have hno:decide (V.int (c0 L u:Int)=V.int (-1))=false:=decide_eq_false (fun q=>by injection q with q;omega)
   show if decide (V.int (c0 L u:Int)=V.int (-1))=true then _ else _
   rw [hno]
   refine k4 ⟨_,rfl,_,rfl,_,_,rfl,rfl,u,_,_,rfl,kp2,M7 o.bd.R gt e,?_⟩
   rw [hp,Nat.add_assoc,Nat.add_comm 1]
 ·rintro σ H1 ⟨t,v5,v6,rfl,kp,gt,hp⟩
  rw [List.length_map,List.length_map] at hp ⊢
  rw [List.drop_length,xN] at hp
  dsimp only at hp
  rw [Nat.zero_add] at hp
  exact fin H1 t l.length kp gt hp hl200 v5 .non v6
theorem Er (T:i5 P w K mg Cb Cs):k7 P w K mg base 9 "tell_ways" ["session","numbers","row"] (t7 (C7 Cb Cs ts 13)):=by
 refine T.d_tell_ways.ok (N:=["session","numbers","row"]) ⟨rfl,rfl,rfl,by rfl',rfl,by rfl',by rfl'⟩ (fun _ _ _ _=>l3) (fun vs H Q E h f cdv A outer s E' hr=>?_)
 obtain ⟨_,_,_,rfl,s0,g,n,tl,nu,ro,ns,rs,c,rfl,rfl,rfl,ss,hn,hnu,hro,hrt,hc,hg,k⟩:=h
 have nd:(["session","numbers","row"]:List Str).Nodup:=by rfl'
 refine ⟨_,(f7 (i0 (l5 (c7 (i8 T.g_DONE) (c7 (n9 (tM T) hr (by decide) (c7 (g9 (pv 0) rfl) (c7 (C0 (K0 T) hr (by decide) T.cl_Session (pv 0)) c9))) c9))))),?_⟩
 obtain ⟨dx,sp,p,a,L,now,past,hv,rfl,o,hpl⟩:=ss.open_ (hg (by decide))
 have tb:=ss.1
 obtain rfl:=mS hc
 have gn:=(o.good now (by simp)).1
 refine ⟨_,rfl,j5 o.ins T.cl_Session T.nS_board (A0 _ _ _) ⟨_,rfl,s0,dx,_,rfl,o.ins,D0 _ _ _ (by rfl'),_,rfl,s0,dx,sp,p,a,L,now,past,hv,tl,rfl,o,_,_,rfl,p,a,L,now,rfl,rfl,o.bd,gn,fun H1 bw=>⟨(by show 2≤sizeLine;decide),fun l hl=>k _ _ ?_⟩⟩⟩
 have kp:=Kp.ofBw o.bd tb bw
 exact Res.keep (l:=l) o tb (kp.same (Same.new hl)) hpl rfl (kp.new hl) c8 (by show 2≤60000;decide)
def O9 (L:Level) (i:Nat):List Int:=[Vbrgae.xOf L i,Vbrgae.yOf L i,(Vbrgae.codeAt L i:Int)]
theorem nN {α:Type} {f:α→List Int} {l:List α} {i:Nat} {x:α} (h:l[i]?=some x):(l.take (i+1)).flatMap f=(l.take i).flatMap f++f x:=by
 rw [List.take_add_one,h,List.flatMap_append]
 simp
theorem Y1 {α:Type} {f:α→List Int} {m:Nat} (hf:∀x,(f x).length=m):∀l:List α,(l.flatMap f).length=m*l.length
 | []=>by simp
 | x::l=>by rw [List.flatMap_cons,List.length_append,hf,Y1 hf l,List.length_cons,Nat.mul_succ,Nat.add_comm]
theorem wF (T:i5 P w K mg Cb Cs):k7 P w K mg base 3 "tell_things" ["session","numbers","row"] (t7 (C7 Cb Cs ts 14)):=by
 refine T.d_tell_things.ok (N:=["session","numbers","row","board","told","cell"]) ⟨rfl,rfl,rfl,by rfl',rfl,by rfl',by rfl'⟩ (fun _ _ _ _=>l3) (fun vs H Q E h f cdv A outer s E' hr=>?_)
 obtain ⟨_,_,_,rfl,s0,g,n,tl,nu,ro,ns,rs,c,rfl,rfl,rfl,ss,hn,hnu,hro,hrt,hc,hg,k⟩:=h
 have nd:(["session","numbers","row","board","told","cell"]:List Str).Nodup:=by rfl'
 refine ⟨_,(d7 (j4 (i:=3) nd rfl (Or.inl rfl) (g9 (pv 0) rfl)) (d7 (j4 (i:=4) nd rfl (Or.inl rfl) (l5 c9)) (d7 (B9 PassesOwn.never rfl (F2 (g9 (pv 3) rfl)) (n8 (i:=5) nd rfl (Or.inl rfl)) (f7 (A7 (F3 PySem.F.plainAttrs_list PySem.F.slot_list_extend PySem.F.type_list_extend eK (pv 4) (c7 (l5 (c7 (j6 aG (pv 5) (g9 (pv 3) rfl)) (c7 (j6 jH (pv 5) (g9 (pv 3) rfl)) (c7 (j8 p5 (g9 (pv 3) rfl) (pv 5) (fun _ _=>rfl)) c9)))) c9))))) (f7 (i0 (j6 L7 (l5 (c7 (i8 T.g_DONE) c9)) (n9 (U9 T) hr (by decide) (c7 (pv 4) c9)))))))),?_⟩
 obtain ⟨dx,sp,p,a,L,now,past,hv,rfl,o,hpl⟩:=ss.open_ (hg (by decide))
 have tb:=ss.1
 obtain rfl:=iI hc
 have hn6:=o.bd.R.nT_le
 have hw:=o.bd.R.w2
 have hw2:=o.bd.R.w10
 refine ⟨_,rfl,j5 o.ins T.cl_Session T.nS_board (A0 _ _ _) ?_⟩
 refine ⟨Nat.zero_le _,fun r hr0=>?_⟩
 have s0':Same H (a8 H r (.lst [])):=Same.new hr0
 have o0:=o.same s0'
 have f0:(([]:List Nat).flatMap (O9 L)).map V.int=[]:=rfl
 refine ⟨_,rfl,o0.bd.f_things T ⟨a.tg,rfl,⟨_,SqL.of o0.bd.things⟩,K4 (xs:=(thingsIn L.cells).map nv) (fun i σ H'=>∃v5,σ=[some (.ref s0),some (.ref nu),some (.ref ro),some (.ref p),some (.ref r),v5]∧Same H H'∧H' r=some (.lst ((((thingsIn L.cells).take i).flatMap (O9 L)).map V.int)))
  ⟨none,rfl,s0',c8⟩ (fun i σ H' _ ⟨_,_,q,_⟩=>SqL.of (q _ _ o.bd.things)) ?_ ?_⟩⟩
 ·rintro i x σ H1 hi ⟨v5,rfl,s1,hr1⟩
  obtain ⟨j,hj,rfl⟩:∃j,(thingsIn L.cells)[i]?=some j∧x=nv j:=by
   rw [List.getElem?_map] at hi
   cases q:(thingsIn L.cells)[i]? with
   | none=>rw [q] at hi;cases hi
   | some t=>rw [q] at hi;exact ⟨t,rfl,(Option.some.inj hi).symm⟩
  have o1:=o.same s1
  obtain ⟨hjl,_⟩:=things_mem.mp (List.mem_of_getElem? hj)
  have hil:i < (thingsIn L.cells).length:=(List.getElem?_eq_some_iff.mp hj).1
  refine ⟨_,rfl,.inl ⟨rfl,_,SqL.of hr1⟩,_,rfl,_,rfl,o1.bd.f_width T ⟨_,_,rfl,rfl,(by show 0 < L.w;omega),_,rfl,_,rfl,o1.bd.f_width T ⟨_,_,rfl,rfl,⟨by omega,by omega⟩,_,rfl,o1.bd.f_codes T ⟨_,rfl,_,_,_,_,rfl,rfl,SqL.of o1.bd.codes,M0 o.bd.R (by rw [←o.bd.R.len];exact hjl),(by show 3≤sizeLine;decide),fun r2 h2=>?_⟩⟩⟩⟩
  have nr:r≠r2:=d8 hr1 h2
  refine ⟨r,r2,_,_,rfl,rfl,(a9 nr).trans hr1,c8,?_,_,rfl,fun b u e=>?_,?_⟩
  ·rw [List.length_map,Y1 (m:=3) (fun _=>rfl),List.length_take]
   have:min i (thingsIn L.cells).length≤6:=Nat.le_trans (Nat.min_le_right _ _) hn6
   show 3*min i (thingsIn L.cells).length+3≤sizeLine
   exact Nat.le_trans (show 3*min i (thingsIn L.cells).length+3≤100 by omega) (by decide)
  ·rw [a9 (d8 e hr0),a9 (d8 (s1 _ _ e) h2)]
   exact s1 _ _ e
  ·rw [c8,nN hj,List.map_append]
   rfl
 ·rintro σ H1 ⟨v5,rfl,s1,hr1⟩
  rw [List.length_map,List.take_length] at hr1
  have hlen:((thingsIn L.cells).flatMap (O9 L)).length≤18:=by
   rw [Y1 (m:=3) (fun _=>rfl)]
   have:(thingsIn L.cells).length≤6:=hn6
   omega
  refine ⟨(by show 1≤sizeLine;decide),fun r1 h1=>⟨_,rfl,_,rfl,r,_,rfl,(by rw [a9 (d8 hr1 h1)];exact hr1),(by rw [List.length_map];omega),fun H2 r2 s2 h2 hx=>⟨r1,r2,_,_,rfl,rfl,s2 _ _ c8,hx,?_,fun r3 h3=>k _ _ (Res.keep (l:=r3) o tb ((Kp.refl o.bd tb).same (((s1.trans (Same.new h1)).trans s2).trans (Same.new h3))) hpl rfl (((s1.trans (Same.new h1)).trans s2).free h3) ?_ ?_)⟩⟩⟩
  ·have q:(nv (((thingsIn L.cells).flatMap (O9 L)).map V.int).length::((thingsIn L.cells).flatMap (O9 L)).map V.int).length=((thingsIn L.cells).flatMap (O9 L)).length+1:=by rw [List.length_cons,List.length_map]
   rw [q]
   exact Nat.le_trans (show 1+(((thingsIn L.cells).flatMap (O9 L)).length+1)≤100 by omega) (by decide)
  ·rw [c8,List.length_map]
   rfl
  ·show (0::Vbrgae.row ((thingsIn L.cells).flatMap (O9 L))).length≤60000
   unfold Vbrgae.row
   rw [List.length_cons,List.length_cons]
   omega
def O1 (L:Level) (t:Spot):List Int:=[(t.at_:Int),(t.marks:Int)]
theorem tI (T:i5 P w K mg Cb Cs):k7 P w K mg base 3 "tell_state" ["session","numbers","row"] (t7 (C7 Cb Cs ts 15)):=by
 refine T.d_tell_state.ok (N:=["session","numbers","row","board","back","spot"]) ⟨rfl,rfl,rfl,by rfl',rfl,by rfl',by rfl'⟩ (fun _ _ _ _=>l3) (fun vs H Q E h f cdv A outer s E' hr=>?_)
 obtain ⟨_,_,_,rfl,s0,g,n,tl,nu,ro,ns,rs,c,rfl,rfl,rfl,ss,hn,hnu,hro,hrt,hc,hg,k⟩:=h
 have nd:(["session","numbers","row","board","back","spot"]:List Str).Nodup:=by rfl'
 refine ⟨_,(d7 (j4 (i:=3) nd rfl (Or.inl rfl) (g9 (pv 0) rfl)) (d7 (j4 (i:=4) nd rfl (Or.inl rfl) (l5 c9)) (d7 (B9 PassesOwn.never rfl (EL rfl T.b_reversed (c7 (g9 (pv 0) rfl) c9)) (n8 (i:=5) nd rfl (Or.inl rfl)) (f7 (A7 (F3 PySem.F.plainAttrs_list PySem.F.slot_list_extend PySem.F.type_list_extend eK (pv 4) (c7 (l5 (c7 (m9 (aM T) hr (by decide) T.cl_Board (pv 3) (c7 (pv 5) c9)) (c7 (m9 (qN T) hr (by decide) T.cl_Board (pv 3) (c7 (pv 5) c9)) c9))) c9))))) (f7 (i0 (j6 L7 (j6 L7 (l5 (c7 (i8 T.g_DONE) (c7 (g9 (pv 3) rfl) (c7 (g9 (pv 3) rfl) c9)))) (n9 (U9 T) hr (by decide) (c7 (g9 (pv 3) rfl) c9))) (n9 (U9 T) hr (by decide) (c7 (pv 4) c9)))))))),?_⟩
 obtain ⟨dx,sp,p,a,L,now,past,hv,rfl,o,hpl⟩:=ss.open_ (hg (by decide))
 have tb:=ss.1
 obtain rfl:=nP hc
 have hsz:=o.bd.R.size_le
 refine ⟨_,rfl,j5 o.ins T.cl_Session T.nS_board (A0 _ _ _) ?_⟩
 refine ⟨Nat.zero_le _,fun r hr0=>?_⟩
 have s0':Same H (a8 H r (.lst [])):=Same.new hr0
 have o0:=o.same s0'
 have hlen0:((now::past).reverse.map fun t=>nv (c0 L t)).length=past.length+1:=by rw [List.length_map,List.length_reverse,List.length_cons]
 refine ⟨_,rfl,j5 o0.ins T.cl_Session T.nS_spots (U4 _ _ _) ⟨sp,_,rfl,SqL.of o0.spv,Am (xs:=(now::past).reverse.map fun t=>nv (c0 L t)) (fun i σ H'=>∃v5,σ=[some (.ref s0),some (.ref nu),some (.ref ro),some (.ref p),some (.ref r),v5]∧Same H H'∧H' r=some (.lst ((((now::past).take i).flatMap (O1 L)).map V.int)))
  ⟨none,rfl,s0',c8⟩ (fun i σ H' _ ⟨_,_,q,_⟩=>SqL.of (q _ _ o.spv)) ?_ ?_⟩⟩
 ·rintro i x σ H1 hi hx ⟨v5,rfl,s1,hr1⟩
  rw [hlen0] at hi hx
  have hit:i < (now::past).length:=by rw [List.length_cons];omega
  obtain ⟨t,ht⟩:∃t,(now::past)[i]?=some t:=⟨_,List.getElem?_eq_getElem hit⟩
  obtain rfl:x=nv (c0 L t):=by
   rw [List.getElem?_map,List.getElem?_reverse (by rw [List.length_cons];omega),List.length_cons] at hx
   have:past.length+1 - 1 - (past.length+1 - 1 - i)=i:=by omega
   rw [this,ht] at hx
   exact (Option.some.inj hx).symm
  have gt:=(o.good t (List.mem_of_getElem? ht)).1
  have o1:=o.same s1
  refine ⟨_,rfl,.inl ⟨rfl,_,SqL.of hr1⟩,_,rfl,p,a.dx,_,rfl,o1.bd.ins,o6 _ _ (by rfl'),_,rfl,_,_,rfl,p,a,L,c0 L t,rfl,rfl,o1.bd.toBs0,?_⟩
  rw [N7 gt]
  refine ⟨_,rfl,p,a.dx,_,rfl,o1.bd.ins,o6 _ _ (by rfl'),_,rfl,_,_,rfl,p,a,L,c0 L t,rfl,rfl,o1.bd.toBs0,?_⟩
  rw [W0 gt]
  refine ⟨(by show 2≤sizeLine;decide),fun r2 h2=>?_⟩
  have nr:r≠r2:=d8 hr1 h2
  refine ⟨r,r2,_,_,rfl,rfl,(a9 nr).trans hr1,c8,?_,_,rfl,fun b u e=>?_,?_⟩
  ·rw [List.length_map,Y1 (m:=2) (fun _=>rfl),List.length_take]
   have:min i (now::past).length≤61:=Nat.le_trans (Nat.min_le_right _ _) (by rw [List.length_cons];omega)
   show 2*min i (now::past).length+2≤sizeLine
   exact Nat.le_trans (show 2*min i (now::past).length+2≤1000 by omega) (by decide)
  ·rw [a9 (d8 e hr0),a9 (d8 (s1 _ _ e) h2)]
   exact s1 _ _ e
  ·rw [c8,nN ht,List.map_append]
   rfl
 ·rintro σ H1 ⟨v5,rfl,s1,hr1⟩
  rw [hlen0,show past.length+1=(now::past).length from rfl,List.take_length] at hr1
  have o1:=o.same s1
  have hlen:((now::past).flatMap (O1 L)).length≤130:=by
   rw [Y1 (m:=2) (fun _=>rfl),List.length_cons]
   omega
  have hcl:(o7 L).length≤100:=by unfold o7;rw [List.length_map,o.bd.R.len];exact hsz
  refine ⟨_,rfl,o1.bd.f_width T ⟨_,rfl,o1.bd.f_height T ⟨(by show 3≤sizeLine;decide),fun r1 h1=>?_⟩⟩⟩
  have o2:=o1.same (Same.new (o:=.lst [.int 0,nv L.w,nv L.h]) h1)
  refine ⟨_,rfl,o2.bd.f_codes T ⟨_,rfl,a.ca,o7 L,rfl,o2.bd.codes,by omega,fun H2 r2 s2 h2 hx2=>⟨r1,r2,_,nv (o7 L).length::o7 L,rfl,rfl,s2 _ _ c8,hx2,?_,fun r3 h3=>?_⟩⟩⟩
  ·rw [List.length_cons]
   exact Nat.le_trans (show 3+((o7 L).length+1)≤1000 by omega) (by decide)
  have sm3:=((s1.trans (Same.new (o:=.lst [.int 0,nv L.w,nv L.h]) h1)).trans s2).trans (Same.new (o:=.lst ([.int 0,nv L.w,nv L.h]++(nv (o7 L).length::o7 L))) h3)
  have hr3:a8 H2 r3 (.lst ([.int 0,nv L.w,nv L.h]++(nv (o7 L).length::o7 L))) r=some (.lst (((now::past).flatMap (O1 L)).map V.int)):=by
   have q1:=s2 _ _ (show a8 H1 r1 (.lst [.int 0,nv L.w,nv L.h]) r=some _ by rw [a9 (d8 hr1 h1)];exact hr1)
   rw [a9 (d8 q1 h3)]
   exact q1
  refine ⟨_,rfl,_,rfl,r,_,rfl,hr3,(by rw [List.length_map];omega),fun H4 r4 s4 h4 hx4=>⟨r3,r4,[.int 0,nv L.w,nv L.h]++(nv (o7 L).length::o7 L),_,rfl,rfl,s4 _ _ c8,hx4,?_,fun r5 h5=>k _ _ (Res.keep (l:=r5) o tb ((Kp.refl o.bd tb).same ((sm3.trans s4).trans (Same.new h5))) hpl rfl ((sm3.trans s4).free h5) ?_ ?_)⟩⟩
  ·rw [List.length_append,List.length_cons (as:=o7 L),List.length_cons (as:=((now::past).flatMap (O1 L)).map V.int),List.length_map]
   exact Nat.le_trans (show 3+((o7 L).length+1)+(((now::past).flatMap (O1 L)).length+1)≤1000 by omega) (by decide)
  ·rw [c8,List.length_map]
   show _=some (HO.lst ((0::(L.w:Int)::(L.h:Int)::(((Vbrgae.nats L.cells).length:Int)::Vbrgae.nats L.cells++(((now::past).flatMap (O1 L)).length:Int)::(now::past).flatMap (O1 L))).map V.int))
   have ec:(Vbrgae.nats L.cells).map V.int=o7 L:=by
    unfold Vbrgae.nats o7
    rw [List.map_map]
    rfl
   have el:(Vbrgae.nats L.cells).length=(o7 L).length:=by
    unfold Vbrgae.nats o7
    rw [List.length_map,List.length_map]
   simp only [List.map_cons,List.map_append,List.cons_append,List.nil_append,ec,el]
  ·show (0::(L.w:Int)::(L.h:Int)::(Vbrgae.row (Vbrgae.nats L.cells)++Vbrgae.row ((now::past).flatMap (O1 L)))).length≤60000
   unfold Vbrgae.row Vbrgae.nats
   rw [List.length_cons,List.length_cons,List.length_cons,List.length_append,List.length_cons,List.length_cons,List.length_map,o.bd.R.len]
   omega
structure Spo (Cb Cs t2:Addr) (H:Hp) (s dx p:Addr) (spv:V) (a:Ad) (L:Level) (hv:V) (H':Hp) (hv':V):Prop where
 ins:H' s=some (.ins Cs dx (l8 (.ref p) spv hv'))
 bd:Bd Cb H' p a L
 hop:HopV H' a L hv'
 tab:Tab H' t2 J7 qR
 frm:∀b o,H b=some o→b≠a.kd→b≠t2→b≠s→H' b=some o
 kv:∀r,H r≠none→¬Kv H a.kd r→¬Kv H' a.kd r
 hvn:∀r,H r≠none→hv≠.ref r→hv'≠.ref r
def nI (Cb Cs t2:Addr):P2:=fun self x H Q=>∃s dx p spv a L hv t,self=.ref s∧x=nv (c0 L t)∧H s=some (.ins Cs dx (l8 (.ref p) spv hv))∧Bd Cb H p a L∧s≠p∧HopV H a L hv∧Tab H t2 J7 qR∧Lead L (beginning L) t∧∀H' hv' b,Spo Cb Cs t2 H s dx p spv a L hv H' hv'→(b=true↔¬Hope L t)→Q (.bl b) H'
theorem rH {o:Option V} {p:Prop} (h:o.isSome=true↔p):(!o.isSome)=true↔¬p:=by
 rw [←h]
 cases o<;>simp
theorem Bd.ins_ {H:Hp} {p d C dx:Addr} {a:Ad} {L:Level} {fs:List (Str×V)} {o:HO} (B:Bd Cb H p a L) (hd:H d=some (.ins C dx fs)) (n:p≠d):Bd Cb (a8 H d o) p a L:=
 B.butG (d:=d) (fun b u e n=>by rw [a9 n];exact e) n (by intro _ z;rw [hd] at z;cases z) (by intro _ z;rw [hd] at z;cases z) (by intro _ z;rw [hd] at z;cases z)
theorem pN (T:i5 P w K mg Cb Cs)(Z:Lm K mg base ts):x9 P w K mg base Cs 10 "is_spoilt" ["self","spot"] (x4 (nI Cb Cs ts.t2)):=by
 refine T.mS_is_spoilt.ok (N:=["self","spot"]) ⟨rfl,rfl,rfl,by rfl',rfl,by rfl',by rfl'⟩ (fun _ _ _ _=>l2) (fun vs H Q E h f cdv A outer s E' hr=>?_)
 obtain ⟨_,_,rfl,s0,dx,p,spv,a,L,hv,t,rfl,rfl,hi,B,ns,hop,tab,ld,k⟩:=h
 have nd:(["self","spot"]:List Str).Nodup:=by rfl'
 refine ⟨_,(d7 (m7 (K2 (bA (g9 (pv 0) rfl))) (f7 (C3 (pv 0) (n9 (Eg T Z) hr (by decide) (c7 (g9 (pv 0) rfl) (c7 (C0 (eX T) hr (by decide) T.cl_Board (g9 (pv 0) rfl)) c9))) rfl)) m8) (f7 (i0 (lB (bE (p7 hr) (pv 1) (g9 (pv 0) rfl)) rfl)))),?_⟩
 refine ⟨_,rfl,j5 hi T.cl_Session T.nS_hopeful (W4 _ _ _) ⟨_,rfl,?_⟩⟩
 rcases hop with rfl|⟨hd,kvs,rfl,h1,h2,h3⟩
 ·refine k8 ⟨_,rfl,j5 hi T.cl_Session T.nS_board (A0 _ _ _) ⟨_,rfl,j5 hi T.cl_Session T.nS_board (A0 _ _ _) ⟨p,a.dx,_,rfl,B.ins,o6 _ _ (by rfl'),_,rfl,p,a,L,rfl,B.toBs0,_,_,rfl,p,a,L,beginning L,rfl,rfl,B,V9 B.R,tab,fun H1 d kvs sb hd nk hx hh=>?_⟩⟩⟩
  obtain ⟨ps,tps,_⟩:=id tab
  obtain ⟨kvs0,kd0,_⟩:=B.kn
  have hi1:=sb.frm _ _ hi (f8 hi kd0 (by intro z;cases z)) (f8 hi tps (by intro z;cases z))
  refine ⟨_,rfl,s0,Cs,dx,_,rfl,hi1,T.cl_Session,T.nS_hopeful,(by show 3 < 1000;decide),?_⟩
  rw [rC]
  have nds:d≠s0:=fun z=>by rw [z,hi] at hd;cases hd
  have ndk:d≠a.kd:=fun z=>by rw [z,kd0] at hd;cases hd
  have hx':a8 H1 s0 (.ins Cs dx (l8 (.ref p) spv (.ref d))) d=some (.dK kvs):=by rw [a9 nds];exact hx
  refine ⟨_,rfl,_,rfl,j5 c8 T.cl_Session T.nS_hopeful (W4 _ _ _) ⟨d,_,rfl,DGet.k (k:=g7 (c0 L t)) hx',k _ (.ref d) _ ⟨c8,sb.bd.ins_ hi1 (Ne.symm ns),.inr ⟨d,kvs,rfl,hx',ndk,hh⟩,?_,fun b o e n1 n2 n3=>?_,fun r e q=>?_,fun r e _ z=>?_⟩ (rH (hh t ld))⟩⟩
  ·refine sb.tab.keep (fun ps e=>?_) fun c e=>?_
   ·rw [a9 (f8 e hi1 (by intro z;cases z))]
    exact e
   ·rw [a9 (f8 e hi1 (by intro z;cases z))]
    exact e
  ·rw [a9 n3]
   exact sb.frm b o e n1 n2
  ·refine Kv.congr (a9 ?_) (sb.kv r e q)
   exact fun z=>by rw [←z,kd0] at hi;cases hi
  ·cases z
   exact e hd
 ·have hno:decide (V.ref hd=V.non)=false:=decide_eq_false (by intro z;cases z)
  show if decide (V.ref hd=V.non)=true then _ else _
  rw [hno]
  exact k4 ⟨_,rfl,_,rfl,j5 hi T.cl_Session T.nS_hopeful (W4 _ _ _) ⟨hd,_,rfl,DGet.k (k:=g7 (c0 L t)) h1,k _ (.ref hd) _ ⟨hi,B,.inr ⟨hd,kvs,rfl,h1,h2,h3⟩,tab,fun b o e _ _ _=>e,fun r _ q=>q,fun r _ q=>q⟩ (rH (h3 t ld))⟩⟩
structure W9 (Cb Cs t2:Addr) (H:Hp) (s dx p:Addr) (spv:V) (a:Ad) (L:Level) (H':Hp) (hv':V):Prop where
 ins:H' s=some (.ins Cs dx (l8 (.ref p) spv hv'))
 bd:Bd Cb H' p a L
 hop:HopV H' a L hv'
 tab:Tab H' t2 J7 qR
 frm:∀b o,H b=some o→b≠a.kd→b≠t2→b≠s→H' b=some o
 kv:∀r xs,H r=some (.lst xs)→¬Kv H a.kd r→¬Kv H' a.kd r
theorem Spo.l {t2:Addr} {H H':Hp} {s dx p:Addr} {spv:V} {a:Ad} {L:Level} {hv hv':V} (h:Spo Cb Cs t2 H s dx p spv a L hv H' hv'):W9 Cb Cs t2 H s dx p spv a L H' hv':=⟨h.ins,h.bd,h.hop,h.tab,h.frm,fun r xs e q=>h.kv r (by rw [e];intro z;cases z) q⟩
theorem Op.spl {H H':Hp} {s dx sp p:Addr} {a:Ad} {L:Level} {now:Spot} {past:List Spot} {hv hv':V} {tl:Addr} (o:Op Cb Cs H s dx sp p a L now past hv tl) (tb:Tbs H ts) (h:W9 Cb Cs ts.t2 H s dx p (.ref sp) a L H' hv'):Op Cb Cs H' s dx sp p a L now past hv' tl:=by
 obtain ⟨xs,ex⟩:=o.tlv
 obtain ⟨kvs,kd,_⟩:=o.bd.kn
 obtain ⟨ys,ey,_⟩:=o.bd.ex
 obtain ⟨ps,tps⟩:=tb.tbl (.inr (.inl rfl))
 have f:∀{b xs},H b=some (.lst xs)→H' b=H b:=fun {b xs} e=>(h.frm b _ e (f8 e kd (by intro z;cases z)) (f8 e tps (by intro z;cases z)) (f8 e o.ins (by intro z;cases z))).trans e.symm
 exact ⟨h.ins,h.bd,(f o.spv).trans o.spv,o.good,o.last,h.hop,o.fsp.keep (f ey) (h.kv sp _ o.spv),o.ns,o.nts,o.ftl.keep (f ey) (h.kv tl _ ex),xs,(f ex).trans ex⟩
theorem Tbs.spl {H H':Hp} {s dx sp p:Addr} {a:Ad} {L:Level} {now:Spot} {past:List Spot} {hv hv':V} {tl:Addr} (d:Td ts) (o:Op Cb Cs H s dx sp p a L now past hv tl) (tb:Tbs H ts) (h:W9 Cb Cs ts.t2 H s dx p (.ref sp) a L H' hv'):Tbs H' ts:=by
 obtain ⟨kvs,kd,_⟩:=o.bd.kn
 obtain ⟨ps,tps⟩:=tb.tbl (.inr (.inl rfl))
 have g:∀{t pos q},t≠ts.t2→Tab H t pos q→Tab H' t pos q:=fun {t pos q} n x=>x.keep (fun ps e=>h.frm _ _ e (f8 e kd (by intro z;cases z)) n (f8 e o.ins (by intro z;cases z))) fun c e=>h.frm _ _ e (f8 e kd (by intro z;cases z)) (f8 e tps (by intro z;cases z)) (f8 e o.ins (by intro z;cases z))
 exact ⟨g d.n12 tb.a1,h.tab,g d.n23.symm tb.a3,g d.n24.symm tb.a4⟩
theorem Res.spl {H H1 H2 H3:Hp} {s dx sp p:Addr} {a:Ad} {L:Level} {now:Spot} {past:List Spot} {hv hv':V} {tl l:Addr} {n:Nat} {ans:List Int} (d:Td ts) (o:Op Cb Cs H s dx sp p a L now past hv tl) (tb:Tbs H ts) (k:Kp Cb ts H p a L H1) (h:W9 Cb Cs ts.t2 H1 s dx p (.ref sp) a L H2 hv') (sm:Same H2 H3) (hpl:past.length≤n)
  (hl:H2 l=none) (hx:H3 l=some (.lst (ans.map V.int))) (hz:ans.length≤60000):Res Cb Cs ts H s n tl (⟨some ⟨boardOf L,beginning L,now,past⟩⟩,ans) H3 (.ref l):=by
 have o1:=o.kp tb k
 have o2:=o1.spl k.tb h
 have tb2:=k.tb.spl d o1 h
 have o3:=o2.same sm
 obtain ⟨xs,ex⟩:=o.tlv
 obtain ⟨kvs,kd,_⟩:=o.bd.kn
 have f:∀{b u},H b=some u→(∀k,u≠.dK k)→(∀ps,u≠.tbl ps)→(∀C dx fs,u≠.ins C dx fs)→H3 b=some u:=fun {b u} e n1 n2 n3=>by
  have ht:¬ts.has b:=fun z=>by obtain ⟨ps,q⟩:=tb.tbl z;rw [e] at q;exact n2 _ (Option.some.inj q)
  exact sm _ _ (h.frm b u (k.frm b u e (f8 e kd (n1 _)) ht) (f8 e kd (n1 _)) (fun z=>ht (.inr (.inl z))) (f8 e o.ins (n3 _ _ _)))
 refine ⟨⟨tb2.keep (fun b ps e=>sm _ _ e) (fun c q e=>sm _ _ e),o3.tlv,dx,sp,p,a,L,now,past,hv',rfl,o3,Nat.le_succ_of_le hpl⟩,(f ex (by intro _ z;cases z) (by intro _ z;cases z) (by intro _ _ _ z;cases z)).trans ex.symm,fun b ob u e=>f e (by intro _ z;cases z) (by intro _ z;cases z) (by intro _ _ _ z;cases z),l,rfl,k.new ?_,hx,hz⟩
 cases q:H1 l with
 | none=>rfl
 | some u=>
  by_cases e1:l=s
  ·rw [e1,h.ins] at hl
   cases hl
  by_cases e2:l=a.kd
  ·obtain ⟨kvs1,kd1,_⟩:=o2.bd.kn
   rw [e2,kd1] at hl
   cases hl
  by_cases e3:l=ts.t2
  ·obtain ⟨ps1,tps1,_⟩:=h.tab
   rw [e3,tps1] at hl
   cases hl
  rw [h.frm l u q e2 e3 e1] at hl
  cases hl
theorem Dy (T:i5 P w K mg Cb Cs)(Z:Lm K mg base ts):k7 P w K mg base 11 "tell_spoilt" ["session","numbers","row"] (t7 (C7 Cb Cs ts 8)):=by
 refine T.d_tell_spoilt.ok (N:=["session","numbers","row"]) ⟨rfl,rfl,rfl,by rfl',rfl,by rfl',by rfl'⟩ (fun _ _ _ _=>l3) (fun vs H Q E h f cdv A outer s E' hr=>?_)
 obtain ⟨_,_,_,rfl,s0,g,n,tl,nu,ro,ns,rs,c,rfl,rfl,rfl,ss,hn,hnu,hro,hrt,hc,hg,k⟩:=h
 have nd:(["session","numbers","row"]:List Str).Nodup:=by rfl'
 refine ⟨_,(f7 (i0 (l5 (c7 (i8 T.g_DONE) (c7 (L6 (C8 (m9 (pN T Z) hr (by decide) T.cl_Session (pv 0) (c7 (C0 (K0 T) hr (by decide) T.cl_Session (pv 0)) c9))) j0 j0) c9))))),?_⟩
 obtain ⟨dx,sp,p,a,L,now,past,hv,rfl,o,hpl⟩:=ss.open_ (hg (by decide))
 have tb:=ss.1
 obtain rfl:=qA hc
 have gn:=(o.good now (by simp)).1
 have ln:=(o.good now (by simp)).2
 refine ⟨_,rfl,s0,dx,_,rfl,o.ins,D0 _ _ _ (by rfl'),_,rfl,s0,dx,_,rfl,o.ins,D0 _ _ _ (by rfl'),_,rfl,s0,dx,sp,p,a,L,now,past,hv,tl,rfl,o,_,_,rfl,s0,dx,p,.ref sp,a,L,hv,now,rfl,rfl,o.ins,o.bd,o.ns,o.hop,tb.a2,ln,fun H1 hv' b sp1 hb=>?_⟩
 have fin:∀(x:Int),x=Vbrgae.bit (Vbrgae.least (boardOf L) (over (boardOf L)) now).isNone→∀l,H1 l=none→Res Cb Cs ts H s0 n tl (Vbrgae.step ⟨some ⟨boardOf L,beginning L,now,past⟩⟩ .spoilt) (a8 H1 l (.lst [.int 0,.int x])) (.ref l):=by
  intro x hx l hl
  refine Res.spl Z.d o tb (Kp.refl o.bd tb) sp1.l (Same.new hl) hpl hl ?_ (by show 2≤60000;decide)
  rw [c8,hx]
  rfl
 have hl2:([.int 0,.int 0]:List V).length≤sizeLine:=by show 2≤sizeLine;decide
 have e:(Vbrgae.least (boardOf L) (over (boardOf L)) now).isNone=b:=by
  have:=yS o.bd.R gn
  rw [←hb] at this
  cases b<;>cases q:(Vbrgae.least (boardOf L) (over (boardOf L)) now).isNone<;>simp_all
 rw [e] at fin
 cases b with
 | true=>exact ⟨_,rfl,k8 ⟨hl2,fun l hl=>k _ _ (fin 1 rfl l hl)⟩⟩
 | false=>exact ⟨_,rfl,k4 ⟨hl2,fun l hl=>k _ _ (fin 0 rfl l hl)⟩⟩
structure Gs (Cb Cs t2:Addr) (H0:Hp) (s dx p:Addr) (spv:V) (a:Ad) (L:Level) (H:Hp):Prop where
 hv:∃hv,H s=some (.ins Cs dx (l8 (.ref p) spv hv))∧HopV H a L hv
 bd:Bd Cb H p a L
 tab:Tab H t2 J7 qR
 frm:∀b o,H0 b=some o→b≠a.kd→b≠t2→b≠s→H b=some o
def FpS (a:Ad) (s:Addr) (H:Hp) (r:Addr):Prop:=Kv H a.kd r∨(∃C dx b sp,H s=some (.ins C dx (l8 b sp (.ref r))))∨H r=some (A6 r qR)
theorem DH {b x:Bool} (h:b=true↔¬x=true):b=!x:=by
 cases b<;>cases x<;>simp_all
theorem dN {b sp hv b' sp' hv':V} (h:l8 b sp hv=l8 b' sp' hv'):hv=hv':=by
 have:(l8 b sp hv).lookup ("hopeful":Str)=(l8 b' sp' hv').lookup ("hopeful":Str):=by rw [h]
 rw [W4,W4] at this
 exact Option.some.inj this
theorem FpS.frm {a:Ad} {s t2:Addr} {H H':Hp} (kd:∃k,H' a.kd=some (.dK k)) (hs:∃C dx fs,H' s=some (.ins C dx fs)) (tb:∃ps,H' t2=some (.tbl ps)) (f:∀b o,H b=some o→b≠a.kd→b≠t2→b≠s→H' b=some o) {r:Addr} (e:H r≠none) (q:H r≠some (A6 r qR)):H' r≠some (A6 r qR):=fun z=>by
 have n1:r≠a.kd:=fun e=>by obtain ⟨k,h⟩:=kd;rw [←e,z] at h;cases h
 have n2:r≠t2:=fun e=>by obtain ⟨k,h⟩:=tb;rw [←e,z] at h;cases h
 have n3:r≠s:=fun e=>by obtain ⟨_,_,k,h⟩:=hs;rw [←e,z] at h;cases h
 cases x:H r with
 | none=>exact e x
 | some u=>
  have:=f r u x n1 n2 n3
  rw [z] at this
  cases this
  exact q x
theorem sB (T:i5 P w K mg Cb Cs) (Z:Lm K mg base ts) {H0:Hp} {s dx p:Addr} {spv hv0:V} {a:Ad} {L:Level} {now:Spot} {gf c' cc:Addr} {q:Str} {params:Arguments} {pm ctv:Value} {body:Expr} {scope:Scope} (B0:Bd Cb H0 p a L) (hs0:H0 s=some (.ins Cs dx (l8 (.ref p) spv hv0))) (ns:s≠p) (tb0:Tab H0 ts.t2 J7 qR) (gn:Good L now) (ln:Lead L (beginning L) now)
  (ho:H0 gf=some (J4 gf (kla_obj "<lambda>" q params body scope [("session",cc)] pm c' ctv))) (hc:H0 c'=some (A6 c' q))
  (S:Q9 "spot" scope [("session",cc)] [(cc,V.ref s)])
  (hbi:∀(s:Shared) (us:List Value),us.length=(["spot"]:List Str).length→BindsTo s (kla_fn "<lambda>" q params body scope [("session",cc)] pm (.ref c') ctv) ⟨us,[]⟩ ((["spot"]:List Str).zip us))
  (hb:∀(A:Around) (outer:List Env) (s':Shared) (H:Hp) (v:V) (Q:VK),Room 10 (A.deeper (PySem.W.envX q scope s'.heap.objs.size gf (.ref c') [("session",cc)]))→(∃hv,H s=some (.ins Cs dx (l8 (.ref p) spv hv)))→nI Cb Cs ts.t2 (.ref s) v H Q→∃te,PE (Z2 P w K mg base ["spot","session"] q scope gf (.ref c') [("session",cc)] A outer s' H) body te∧te [some v,some (.ref s)] H Q) :
  Goal P w K mg base 11 [(cc,V.ref s)] Cb p a L now gf (fun b=>b=a.kd∨b=ts.t2∨b=s) (fun H=>Gs Cb Cs ts.t2 H0 s dx p spv a L H) (FpS a s) H0 (fun t=>!((Vbrgae.hopeful (boardOf L) now).getD (numberOf (boardOf L) t) false)):=by
 obtain ⟨kvs0,kd0,k0⟩:=B0.kn
 obtain ⟨ps0,tp0,_⟩:=id tb0
 have ngk:gf≠a.kd:=f8 ho kd0 (by intro z;cases z)
 have nck:c'≠a.kd:=f8 hc kd0 (by intro z;cases z)
 have ngt:gf≠ts.t2:=f8 ho tp0 (by intro z;cases z)
 have nct:c'≠ts.t2:=f8 hc tp0 (by intro z;cases z)
 have ngs:gf≠s:=f8 ho hs0 (by intro z;cases z)
 have ncs:c'≠s:=f8 hc hs0 (by intro z;cases z)
 have nsk:s≠a.kd:=f8 hs0 kd0 (by intro z;cases z)
 have A3:s≠ts.t2:=f8 hs0 tp0 (by intro z;cases z)
 have ntk:ts.t2≠a.kd:=f8 tp0 kd0 (by intro z;cases z)
 refine ⟨fun H i=>i.bd,.inl rfl,fun H b i e=>?_,fun H r i e f=>?_,fun H r e=>.inl e,fun H H' i b' bt kv=>?_,fun H r o i e n no=>?_,fun H H' i sm=>?_,?_⟩
 ·obtain ⟨kvs,h1,_⟩:=i.bd.kn
  obtain ⟨ps,h2,_⟩:=i.tab
  obtain ⟨hv,h3,_⟩:=i.hv
  rcases e with rfl|rfl|rfl
  ·exact ⟨_,h1,(by intro _ z;cases z),(by intro _ z;cases z)⟩
  ·exact ⟨_,h2,(by intro _ z;cases z),(by intro _ z;cases z)⟩
  ·exact ⟨_,h3,(by intro _ z;cases z),(by intro _ z;cases z)⟩
 ·obtain ⟨kvs,h1,h2⟩:=i.bd.kn
  obtain ⟨hv,h3,h4⟩:=i.hv
  rcases f with f|⟨C,dx',b,sp,f⟩|f
  ·exact h2.nokv h1 e f
  ·rw [h3] at f
   injection f with f
   injection f with _ _ f
   have:=dN f
   rcases h4 with h4|⟨hd,kvs,e1,e2,_⟩
   ·rw [h4] at this
    cases this
   ·rw [e1] at this
    cases this
    rw [e] at e2
    cases e2
  ·rw [e] at f
   cases f
 ·obtain ⟨hv,h3,h4⟩:=i.hv
  have hs':H' s=some _:=bt _ _ h3 nsk
  obtain ⟨ps,tp,_⟩:=id i.tab
  have tb':Tab H' ts.t2 J7 qR:=i.tab.keep (fun ps e=>bt _ _ e ntk) fun c e=>bt _ _ e (fun z=>by obtain ⟨k,h,_⟩:=i.bd.kn;rw [←z,e] at h;cases h)
  refine ⟨⟨⟨hv,hs',h4.keep fun d u e n=>bt _ _ e n⟩,b',tb',fun b o e n1 n2 n3=>bt _ _ (i.frm b o e n1 n2 n3) n1⟩,fun r e n f=>?_⟩
  rcases f with f|⟨C,dx',b,sp,f⟩|f
  ·exact kv r e (fun z=>n (.inl z)) f
  ·rw [hs'] at f
   exact n (.inr (.inl ⟨C,dx',b,sp,by rw [h3];exact f⟩))
  ·obtain ⟨kvs',kd',_⟩:=b'.kn
   exact FpS.frm (H:=H) (t2:=ts.t2) (s:=s) ⟨_,kd'⟩ ⟨_,_,_,hs'⟩ (by obtain ⟨p,h,_⟩:=tb';exact ⟨p,h⟩) (fun b o e n1 _ _=>bt _ _ e n1) e (fun z=>n (.inr (.inr z))) f
 ·obtain ⟨hv,h3,h4⟩:=i.hv
  obtain ⟨ps,tp,tq⟩:=id i.tab
  have nr:∀{b u},H0 b=some u→b≠r:=fun e' z=>by rw [z,e] at e';cases e'
  have Bm1:Bd Cb (a8 H0 s (.ins Cs dx (l8 (.ref p) spv hv))) p a L:=B0.ins_ hs0 (Ne.symm ns)
  have Bm2:Bd Cb (a8 (a8 H0 s (.ins Cs dx (l8 (.ref p) spv hv))) ts.t2 (.tbl ps)) p a L:=Bm1.butT (d:=ts.t2) (ps:=ps0) (by rw [a9 (Ne.symm A3)];exact tp0) fun b u e n=>by rw [a9 n];exact e
  have Bk1:Bk a.kd L (a8 (a8 H0 s (.ins Cs dx (l8 (.ref p) spv hv))) ts.t2 (.tbl ps)) H:=⟨fun b u e n=>by
   by_cases e1:b=ts.t2
   ·rw [e1,c8] at e
    rw [e1,tp]
    exact e
   ·rw [a9 e1] at e
    by_cases e2:b=s
    ·rw [e2,c8] at e
     rw [e2,h3]
     exact e
    ·rw [a9 e2] at e
     exact i.frm b u e n e1 e2,i.bd.kn⟩
  have hr0:a8 (a8 H0 s (.ins Cs dx (l8 (.ref p) spv hv))) ts.t2 (.tbl ps) r=none:=by
   rw [a9 (Ne.symm (nr tp0)),a9 (Ne.symm (nr hs0))]
   exact e
  obtain ⟨Bk2,kv2⟩:=Bk1.own (o:=o) Bm2 hr0 (fun z=>n (.inl z))
  have hs':a8 H r o s=some (.ins Cs dx (l8 (.ref p) spv hv)):=by rw [a9 (nr hs0)];exact h3
  refine ⟨⟨⟨hv,hs',?_⟩,Bk2.bd Bm2,?_,fun b u e' n1 n2 n3=>by rw [a9 (nr e')];exact i.frm b u e' n1 n2 n3⟩,fun x nx f=>?_⟩
  ·rcases h4 with h4|⟨hd,kvs,e1,e2,e3,e4⟩
   ·exact .inl h4
   ·refine .inr ⟨hd,kvs,e1,?_,e3,e4⟩
    rw [a9 (fun z=>n (.inr (.inl ⟨_,_,_,_,by rw [h3,e1,z]⟩)))]
    exact e2
  ·refine i.tab.keep (fun ps' e'=>by rw [a9 (nr tp0)];exact e') fun c e'=>?_
   rw [a9 (fun z=>n (.inr (.inr (by rw [←z];exact e'))))]
   exact e'
  ·rcases f with f|⟨C,dx',b,sp,f⟩|f
   ·exact kv2 x (fun z=>nx (.inl z)) f
   ·rw [hs'] at f
    exact nx (.inr (.inl ⟨C,dx',b,sp,by rw [h3];exact f⟩))
   ·by_cases z:x=r
    ·rw [z,c8] at f
     exact no _ _ (Option.some.inj f)
    ·rw [a9 z] at f
     exact nx (.inr (.inr f))
 ·obtain ⟨hv,h3,h4⟩:=i.hv
  obtain ⟨kvs,kd,_⟩:=i.bd.kn
  refine ⟨⟨⟨hv,sm _ _ h3,h4.keep fun d u e _=>sm _ _ e⟩,i.bd.same sm,i.tab.keep (fun ps e=>sm _ _ e) fun c e=>sm _ _ e,fun b o e n1 n2 n3=>sm _ _ (i.frm b o e n1 n2 n3)⟩,fun r e n f=>?_⟩
  rcases f with f|⟨C,dx',b,sp,f⟩|f
  ·exact Kv.congr ((sm _ _ kd).trans kd.symm) (fun z=>n (.inl z)) f
  ·rw [sm _ _ h3] at f
   exact n (.inr (.inl ⟨C,dx',b,sp,by rw [h3];exact f⟩))
  ·cases x:H r with
   | none=>exact e x
   | some u=>
    rw [sm _ _ x] at f
    exact n (.inr (.inr (x.trans f)))
 ·refine ⟨_,"spot",fun vs H Q _=>∃t,vs=[nv (c0 L t)]∧Gs Cb Cs ts.t2 H0 s dx p spv a L H∧Good L t∧Lead L now t∧∀H',Gs Cb Cs ts.t2 H0 s dx p spv a L H'→(∀b o,H b=some o→¬(b=a.kd∨b=ts.t2∨b=s)→H' b=some o)→(∀r,H r≠none→¬FpS a s H r→¬FpS a s H' r)→Q (.bl (!((Vbrgae.hopeful (boardOf L) now).getD (numberOf (boardOf L) t) false))) H',_,FnOkZ.mono (oV (k:=10) S (fun vs H Q E h=>?_) (fun vs H Q E h=>?_) fun A outer s' H v Q E hr h=>?_) (Nat.le_refl 11),hbi,fun H i=>i.frm _ _ ho ngk ngt ngs,rfl,fun H t Q i g l q=>⟨t,rfl,i,g,l,q⟩⟩
  ·obtain ⟨t,rfl,_⟩:=h
   rfl
  ·obtain ⟨t,rfl,i,_⟩:=h
   exact ⟨i.frm _ _ ho ngk ngt ngs,i.frm _ _ hc nck nct ncs⟩
  ·obtain ⟨t,e,i,g,l,q⟩:=h
   cases e
   obtain ⟨hv,h3,h4⟩:=i.hv
   refine hb A outer s' H _ Q hr ⟨hv,h3⟩ ⟨s,dx,p,spv,a,L,hv,t,rfl,rfl,h3,i.bd,ns,h4,i.tab,ln.trans l,fun H' hv' b spo hb=>?_⟩
   have eb:b=!((Vbrgae.hopeful (boardOf L) now).getD (numberOf (boardOf L) t) false):=by
    have h5:=DI B0.R gn g
    have h6:(Vbrgae.hopeful (boardOf L) now).getD (c0 L t) false=true↔Hope L t:=h5.trans ⟨fun z=>z.2,fun z=>⟨l,z⟩⟩
    show b=!((Vbrgae.hopeful (boardOf L) now).getD (c0 L t) false)
    rw [←h6] at hb
    exact DH hb
   rw [eb]
   refine q H' ⟨⟨hv',spo.ins,spo.hop⟩,spo.bd,spo.tab,fun b o e n1 n2 n3=>spo.frm b o (i.frm b o e n1 n2 n3) n1 n2 n3⟩ (fun b o e n=>spo.frm b o e (fun z=>n (.inl z)) (fun z=>n (.inr (.inl z))) fun z=>n (.inr (.inr z))) (fun r e n f=>?_)
   rcases f with f|⟨C,dx',b,sp,f⟩|f
   ·exact spo.kv r e (fun z=>n (.inl z)) f
   ·rw [spo.ins] at f
    injection f with f
    injection f with _ _ f
    exact spo.hvn r e (fun z=>n (.inr (.inl ⟨_,_,_,_,by rw [h3,z]⟩))) (dN f)
   ·obtain ⟨kvs',kd',_⟩:=spo.bd.kn
    exact FpS.frm (H:=H) (t2:=ts.t2) (s:=s) ⟨_,kd'⟩ ⟨_,_,_,spo.ins⟩ (by obtain ⟨p,h,_⟩:=spo.tab;exact ⟨p,h⟩) spo.frm e (fun z=>n (.inr (.inr z))) f
theorem vH {x y:Str} {c:Addr} {v:V} (hxy:(y==x)=false):Q9 x { kind:=.function,names:=[(x,.local),(y,.free)],isGenerator:=false,isCoroutine:=false,more:=[] } [(y,c)] [(c,v)]:=by
 refine ⟨rfl,rfl,rfl,by rw [List.lookup_cons,beq_self_eq_true],(fun z hz=>by simp at hz;rcases hz with rfl|rfl<;>(intro q;cases q)),fun z e=>?_,fun z z' c' e1 e2=>?_,rfl,fun i z c' e=>?_⟩
 ·rw [List.lookup_cons] at e
  split at e
  ·cases e
  ·rw [List.lookup_cons] at e
   split at e
   ·rename_i h1
    exact ⟨_,by rw [List.lookup_cons,h1]⟩
   ·cases e
 ·rw [List.lookup_cons] at e1 e2
  split at e1
  ·rename_i h1
   split at e2
   ·rename_i h2
    exact (eq_of_beq h1).trans (eq_of_beq h2).symm
   ·cases e2
  ·cases e1
 ·match i,e with
  | 0,e=>
   cases e
   exact ⟨by rw [List.lookup_cons,hxy,List.lookup_cons,beq_self_eq_true],by rw [List.lookup_cons,beq_self_eq_true]⟩
  | i+1,e=>simp at e
theorem sO {x y z:Str} {c d:Addr} {v u:V} (hyx:(y==x)=false) (hzx:(z==x)=false) (hzy:(z==y)=false) (hyz:(y==z)=false) (hcd:c≠d):Q9 x { kind:=.function,names:=[(x,.local),(y,.free),(z,.free)],isGenerator:=false,isCoroutine:=false,more:=[] } [(z,d),(y,c)] [(d,u),(c,v)]:=by
 have lk:∀{t e},([(z,d),(y,c)]:List (Str×Addr)).lookup t=some e→(t=z∧e=d)∨(t=y∧e=c):=fun {t e} h=>by
  rw [List.lookup_cons] at h
  split at h
  ·rename_i h1
   cases h
   exact .inl ⟨eq_of_beq h1,rfl⟩
  ·rw [List.lookup_cons] at h
   split at h
   ·rename_i h1
    cases h
    exact .inr ⟨eq_of_beq h1,rfl⟩
   ·cases h
 refine ⟨rfl,rfl,rfl,by rw [List.lookup_cons,beq_self_eq_true],(fun z hz=>by simp at hz;rcases hz with rfl|rfl|rfl<;>(intro q;cases q)),fun t e=>?_,fun t t' c' e1 e2=>?_,rfl,fun i t c' e=>?_⟩
 ·rw [List.lookup_cons] at e
  split at e
  ·cases e
  ·rw [List.lookup_cons] at e
   split at e
   ·rename_i h1
    obtain rfl:=eq_of_beq h1
    exact ⟨c,by rw [List.lookup_cons,hyz,List.lookup_cons,beq_self_eq_true]⟩
   ·rw [List.lookup_cons] at e
    split at e
    ·rename_i h1
     exact ⟨d,by rw [List.lookup_cons,h1]⟩
    ·cases e
 ·rcases lk e1 with ⟨rfl,rfl⟩|⟨rfl,rfl⟩<;>rcases lk e2 with ⟨rfl,h⟩|⟨rfl,h⟩
  ·rfl
  ·exact absurd h.symm hcd
  ·exact absurd h hcd
  ·rfl
 ·match i,e with
  | 0,e=>
   cases e
   exact ⟨by rw [List.lookup_cons,hzx,List.lookup_cons,hzy,List.lookup_cons,beq_self_eq_true],by rw [List.lookup_cons,beq_self_eq_true]⟩
  | 1,e=>
   cases e
   exact ⟨by rw [List.lookup_cons,hyx,List.lookup_cons,beq_self_eq_true],by rw [List.lookup_cons,hyz,List.lookup_cons,beq_self_eq_true]⟩
  | i+2,e=>simp at e
theorem Kp.lam {H H1:Hp} {p t:Addr} {a:Ad} {L:Level} (B:Bd Cb H p a L) (tb:Tbs H ts) (ht:ts.has t) (frm:∀b o,H b=some o→b≠t→H1 b=some o) (tb1:Tbs H1 ts):Kp Cb ts H p a L H1:=by
 obtain ⟨ps,tps⟩:=tb.tbl ht
 obtain ⟨kvs,kd,_⟩:=B.kn
 exact ⟨B.butT tps frm,tb1,fun b u e n1 n2=>frm b u e fun z=>n2 (z▸ht),fun r e n=>Kv.congr ((frm _ _ kd (f8 kd tps (by intro z;cases z))).trans kd.symm) n⟩
theorem cell_out {L:Level} {x y:Nat} (h:Vbrgae.inside L x y=false):M6 L x y=-1:=by
 unfold M6
 rw [if_neg]
 rintro ⟨h1,h2,h3,h4⟩
 have:Vbrgae.inside L x y=true:=by
  unfold Vbrgae.inside
  rw [Bool.and_eq_true,within_iff,within_iff]
  omega
 rw [h] at this
 cases this
theorem cell_in {L:Level} {x y:Nat} (h:¬Vbrgae.inside L x y=false):M6 L x y=(Vbrgae.cellOf L x y:Int):=by
 have:Vbrgae.inside L x y=true:=by
  cases q:Vbrgae.inside L x y with
  | true=>rfl
  | false=>exact absurd q h
 unfold Vbrgae.inside at this
 rw [Bool.and_eq_true,within_iff,within_iff] at this
 unfold M6 Vbrgae.cellOf
 rw [if_pos (by omega),←Int.natCast_mul,←Int.natCast_add]
 rfl
theorem xU {i j:Nat}:((i:Int)==(j:Int))=(i==j):=by
 by_cases h:i=j
 ·rw [h,beq_self_eq_true,beq_self_eq_true]
 ·rw [beq_eq_false_iff_ne.mpr h,beq_eq_false_iff_ne.mpr (show (i:Int)≠(j:Int) by omega)]
theorem Ep (T:i5 P w K mg Cb Cs) (Z:Lm K mg base ts):k7 P w K mg base 14 "spoil_list" ["session","numbers","row"] (t7 (C7 Cb Cs ts 9)):=by
 obtain ⟨c4,C,D⟩:=Z.l4
 refine D.ok (N:=["session","numbers","row"]) ⟨rfl,rfl,rfl,by rfl',rfl,by rfl',by rfl'⟩ (fun _ _ _ _=>l3) (fun vs H Q E h f A outer s E' hr=>?_)
 obtain ⟨_,_,_,rfl,s0,g,n,tl,nu,ro,ns,rs,c,rfl,rfl,rfl,ss,hn,hnu,hro,hrt,hc,hg,k⟩:=h
 refine ⟨_,(f7 (i0 (n9 (iF T) hr (by decide) (c7 (X4 (fK T (kg:=11) (by decide)) hr (by decide) (c7 (g9 (pv 0) rfl) (c7 (C0 (K0 T) hr (by decide) T.cl_Session (pv 0)) (c7 (aB (P:=ts.t4) (c:=c4) (q:=qP) (clos:=[("session",s.heap.objs.size+1)]) rfl C Z.bm rfl rfl) c9)))) c9)))),?_⟩
 obtain ⟨dx,sp,p,a,L,now,past,hv,rfl,o,hpl⟩:=ss.open_ (hg (by decide))
 have tb:=ss.1
 obtain rfl:=lZ hc
 have gn:=(o.good now (by simp)).1
 have ln:=(o.good now (by simp)).2
 refine ⟨_,rfl,j5 o.ins T.cl_Session T.nS_board (A0 _ _ _) ⟨_,rfl,s0,dx,_,rfl,o.ins,D0 _ _ _ (by rfl'),_,rfl,s0,dx,sp,p,a,L,now,past,hv,tl,rfl,o,cZ tb.a4 fun H1 c' gf ctv ho hc' tb4 frm hgf oth hcc hfc=>?_⟩⟩
 obtain ⟨ps4,tps4⟩:=tb.tbl (.inr (.inr (.inr rfl)))
 have tb1:Tbs H1 ts:=⟨tb.a1.keep (fun ps e=>frm _ _ e Z.d.n14) (fun c e=>frm _ _ e (f8 e tps4 (by intro z;cases z))),tb.a2.keep (fun ps e=>frm _ _ e Z.d.n24) (fun c e=>frm _ _ e (f8 e tps4 (by intro z;cases z))),tb.a3.keep (fun ps e=>frm _ _ e Z.d.n34) (fun c e=>frm _ _ e (f8 e tps4 (by intro z;cases z))),tb4⟩
 have kp:=Kp.lam (t:=ts.t4) o.bd tb (.inr (.inr (.inr rfl))) frm tb1
 have o1:=o.kp tb kp
 have G:=sB T Z o1.bd o1.ins o1.ns tb1.a2 gn ln ho hc' (vH (by rfl')) (fun s us hl=>match us,hl with | [_],_=>.of_eq rfl)
  (fun A outer s' H v Q hr' ⟨hv,e⟩ hp=>⟨_,m9 (pN T Z) hr' (by decide) T.cl_Session (pv 1) (c7 (pv 0) c9),_,rfl,s0,dx,_,rfl,e,D0 _ _ _ (by rfl'),_,rfl,_,_,rfl,hp⟩)
 refine ⟨[(s.heap.objs.size+1,V.ref s0)],fun pins s' I=>I.ownCells fun q hq=>?_,_,_,_,rfl,p,a,L,now,gf,_,_,_,_,rfl,rfl,rfl,G,⟨⟨hv,o1.ins,o1.hop⟩,o1.bd,tb1.a2,fun b u e _ _ _=>e⟩,gn,fun H2 v i2 f2 v2 hv2=>?_⟩
 ·simp at hq
  subst hq
  exact ⟨0,"session",rfl,rfl,rfl,rfl,rfl⟩
 obtain ⟨hv',e1,e2⟩:=i2.hv
 have spl:W9 Cb Cs ts.t2 H1 s0 dx p (.ref sp) a L H2 hv':=⟨e1,i2.bd,e2,i2.tab,i2.frm,fun r xs e q z=>v2 r (by rw [e];intro z;cases z) (fun z=>by
  rcases z with z|⟨_,_,_,_,z⟩|z
  ·exact q z
  ·rw [o1.ins] at z
   injection z with z
   injection z with _ _ z
   have e3:=dN z
   rcases o1.hop with h4|⟨hd,kvs,h4,h5,_⟩
   ·rw [h4] at e3
    cases e3
   ·rw [h4] at e3
    cases e3
    rw [e] at h5
    cases h5
  ·rw [e] at z
   cases z) (.inl z)⟩
 refine ⟨_,rfl,_,dF hv2,fun H3 r s3 hr3 hx=>k _ _ ?_⟩
 have e:Vbrgae.step ⟨some ⟨boardOf L,beginning L,now,past⟩⟩ .spoil=(⟨some ⟨boardOf L,beginning L,now,past⟩⟩,Q3 ((Vbrgae.least (boardOf L) (fun t=>!((Vbrgae.hopeful (boardOf L) now).getD (numberOf (boardOf L) t) false)) now).map (·.1))):=by
  show (Vbrgae.State.mk (some (Vbrgae.onGame _ _).1),(Vbrgae.onGame _ _).2)=_
  unfold Vbrgae.onGame
  dsimp only
  cases Vbrgae.least (boardOf L) (fun t=>!((Vbrgae.hopeful (boardOf L) now).getD (numberOf (boardOf L) t) false)) now<;>rfl
 rw [e]
 exact Res.spl Z.d o tb kp spl s3 hpl hr3 hx (fJ (fV hv2))
theorem uV (T:i5 P w K mg Cb Cs) (Z:Lm K mg base ts):k7 P w K mg base 9 "far_list" ["session","numbers","row"] (t7 (C7 Cb Cs ts 6)):=by
 obtain ⟨c3,C,D⟩:=Z.l3
 refine D.ok (N:=["session","numbers","row","board","cell"]) ⟨rfl,rfl,rfl,by rfl',rfl,by rfl',by rfl'⟩ (fun _ _ _ _=>l3) (fun vs H Q E h f A outer s E' hr=>?_)
 obtain ⟨_,_,_,rfl,s0,g,n,tl,nu,ro,ns,rs,c,rfl,rfl,rfl,ss,hn,hnu,hro,hrt,hc,hg,k⟩:=h
 have nd:(["session","numbers","row","board","cell"]:List Str).Nodup:=by rfl'
 refine ⟨_,(d7 (j4 (i:=3) nd rfl (Or.inr rfl) (g9 (pv 0) rfl)) (d7 (j4 (i:=4) nd rfl (Or.inr rfl) (m9 (eO T) hr (by decide) T.cl_Board (pv 3) (c7 (j8 p5 (pv 1) j0 (fun _ _=>rfl)) (c7 (j8 p5 (pv 1) j0 (fun _ _=>rfl)) c9)))) (d7 (m7 (u5 D4 (pv 4) (i8 T.g_CANNOT) (o8 _)) (f7 (i0 (l5 (c7 (i8 T.g_NO_SUCH) c9)))) m8)
  (f7 (i0 (n9 (iF T) hr (by decide) (c7 (X4 (fK T (kg:=6) (by decide)) hr (by decide) (c7 (pv 3) (c7 (C0 (K0 T) hr (by decide) T.cl_Session (pv 0)) (c7 (aB (P:=ts.t3) (c:=c3) (q:=qF) (clos:=[("cell",s.heap.objs.size+2),("board",s.heap.objs.size+1)]) rfl C Z.bm rfl rfl) c9)))) c9))))))),?_⟩
 obtain ⟨dx,sp,p,a,L,now,past,hv,rfl,o,hpl⟩:=ss.open_ (hg (by decide))
 have tb:=ss.1
 obtain ⟨x,y,rfl,hx9,hy9,rfl⟩:=eM hc
 have gn:=(o.good now (by simp)).1
 refine ⟨_,rfl,j5 o.ins T.cl_Session T.nS_board (A0 _ _ _) ?_⟩
 refine ⟨_,rfl,p,a.dx,_,rfl,o.bd.ins,o6 _ _ (by rfl'),_,rfl,nu,_,_,_,rfl,rfl,SqL.of hnu,l7 (j:=0) rfl,_,rfl,nu,_,_,_,rfl,rfl,SqL.of hnu,l7 (j:=1) rfl,_,_,_,rfl,p,L,(x:Int),(y:Int),rfl,rfl,rfl,o.bd.toBs0.bp,?_⟩
 have est:Vbrgae.step ⟨some ⟨boardOf L,beginning L,now,past⟩⟩ (.far (x:Int) (y:Int))=if Vbrgae.inside L x y=false then (⟨some ⟨boardOf L,beginning L,now,past⟩⟩,[-3]) else (⟨some ⟨boardOf L,beginning L,now,past⟩⟩,Q3 ((Vbrgae.least (boardOf L) (fun s=>s.at_==Vbrgae.cellOf L x y) now).map (·.1))):=by
  show (Vbrgae.State.mk (some (Vbrgae.onGame _ _).1),(Vbrgae.onGame _ _).2)=_
  unfold Vbrgae.onGame
  dsimp only
  show (Vbrgae.State.mk (some (if Vbrgae.inside L x y=false then _ else _:Game×List Int).1),(if Vbrgae.inside L x y=false then _ else _:Game×List Int).2)=_
  by_cases h:Vbrgae.inside L x y=false
  ·rw [if_pos h,if_pos h]
  ·rw [if_neg h,if_neg h]
   show (_,(match Vbrgae.least (boardOf L) (fun s=>s.at_==Vbrgae.cellOf L x y) now with
    | some z=>0::1::Vbrgae.row (Vbrgae.nats z.1)
    | none=>[0,0]))=_
   cases Vbrgae.least (boardOf L) (fun s=>s.at_==Vbrgae.cellOf L x y) now<;>rfl
 rw [est] at k
 refine ⟨_,rfl,rfl,_,rfl,?_⟩
 by_cases hin:Vbrgae.inside L x y=false
 ·rw [if_pos hin] at k
  rw [cell_out hin]
  exact k8 ⟨(by show 1≤sizeLine;decide),fun l hl=>k _ _ (Res.keep (l:=l) o tb ((Kp.refl o.bd tb).same (Same.new hl)) hpl rfl hl c8 (by show 1≤60000;decide))⟩
 rw [if_neg hin] at k
 have ec:=cell_in hin
 rw [ec]
 have hno:decide (V.int (Vbrgae.cellOf L x y:Int)=V.int (-1))=false:=decide_eq_false (fun q=>by injection q with q;omega)
 rw [hno]
 refine k4 ⟨_,rfl,_,rfl,s0,dx,_,rfl,o.ins,D0 _ _ _ (by rfl'),_,rfl,s0,dx,sp,p,a,L,now,past,hv,tl,rfl,o,cZ tb.a3 fun H1 c' gf ctv ho hc' tb3 frm hgf oth hcc hfc=>?_⟩
 obtain ⟨ps,tps,_⟩:=id tb.a3
 have B1:=o.bd.butT tps frm
 have G:Goal P w K mg base 6 [(s.heap.objs.size+2,nv (Vbrgae.cellOf L x y)),(s.heap.objs.size+1,V.ref p)] Cb p a L now gf (fun b=>b=a.kd) (fun H=>Bk a.kd L H1 H) (fun H r=>Kv H a.kd r) H1 (fun s=>s.at_==Vbrgae.cellOf L x y):=
  fZ (k:=1) B1 ho hc' (sO (by rfl') (by rfl') (by rfl') (by rfl') (show s.heap.objs.size+1≠s.heap.objs.size+2 by omega)) (fun s us hl=>match us,hl with | [_],_=>.of_eq rfl) (fun A outer s H t Q hr' B' gt q=>⟨_,G1 D4 (m9 (aM T) hr' (by decide) T.cl_Board (pv 2) (c7 (pv 0) c9)) (pv 1) (o8 _),_,rfl,p,a.dx,_,rfl,B'.ins,o6 _ _ (by rfl'),_,rfl,_,_,rfl,p,a,L,c0 L t,rfl,rfl,B'.toBs0,_,rfl,rfl,by
   rw [N7 gt,dL,xU]
   exact q⟩) (by decide)
 refine ⟨[(s.heap.objs.size+2,nv (Vbrgae.cellOf L x y)),(s.heap.objs.size+1,V.ref p)],fun pins s' I=>I.ownCells fun q hq=>?_,_,_,_,rfl,p,a,L,now,gf,_,_,_,_,rfl,rfl,rfl,G,Bk.refl B1,gn,fun H2 v i2 f2 v2 hv2=>?_⟩
 ·simp at hq
  rcases hq with rfl|rfl
  ·exact ⟨4,"cell",rfl,rfl,rfl,rfl,rfl⟩
  ·exact ⟨3,"board",rfl,rfl,rfl,rfl,rfl⟩
 have kp:=Kp.ofSb3 Z.d o.bd tb (qL (c':=c') o.bd tb.a3 tb3 frm i2 v2)
 refine ⟨_,rfl,_,dF hv2,fun H3 r s3 hr3 hx=>k _ _ ?_⟩
 exact Res.keep (l:=r) o tb (kp.same s3) hpl rfl (kp.new hr3) hx (fJ (fV hv2))
theorem qX (f:Nat→Int) {i:Nat}:∀{j:Nat},i≤j→(firstMet f i).length≤(firstMet f j).length
 | 0,h=>by rw [Nat.le_zero.mp h];exact Nat.le_refl _
 | j+1,h=>by
  by_cases e:i=j+1
  ·rw [e];exact Nat.le_refl _
  ·refine Nat.le_trans (qX f (j:=j) (by omega)) ?_
   rw [firstMet_succ,step_length]
   split<;>omega
section
variable {prog:Program} {w:World} {A:Around} {R:Result→Shared→Prop} {I:Addr} {fp wr:List Addr} {G:Array GenState→Array GenState→Prop} {n:Nat} {P:Nat→Value→Prop} {St:Nat→Shared→Prop}
abbrev Met (prog:Program) (w:World) (h:Heap) (d:Addr) (f:Nat→Int) (i:Nat):Prop:=h.SetOf (intKind prog w) d (fun x=>(firstMet f i).any fun y=>y==x) (firstMet f i).length
theorem Met.keep {f:Nat→Int} {d:Addr} {h h':Heap} {i:Nat} (m:Met prog w h d f i) (k:∀o,h.get? d=some o→h'.get? d=some o):Met prog w h' d f i:=by
 obtain ⟨o,es,ep,t,e,z⟩:=m
 exact ⟨o,es,ep,t,k _ e,z⟩
theorem setLoop (W:WalksS prog w A.in1 I fp wr G n P St) (d:Addr) (nd:d∉fp) (f:Nat→Int) (hf:∀i v,P i v→∃t,v=.int (f i) t) (hz:(firstMet f n).length+1 < scanBound):∀(k i:Nat) (s:Shared),n - i=k→i≤n→St i s→Met prog w s.heap d f i→
  (∀s',Moved (d::wr) G s s'→Met prog w s'.heap d f n→R (.ok (.ret .none)) s')→codeAny (model prog w) A (.builtin "set.update.loop" ⟨[.ref d,.ref I],[]⟩) R s:=by
 have nw:d∉wr:=fun h=>nd (W.sub _ h)
 have sub:∀b∈wr,b∈d::wr:=fun b hb=>List.mem_cons_of_mem _ hb
 intro k
 induction k with
 | zero=>
  intro i s e0 hi st m q
  obtain rfl:i=n:=by omega
  refine codeAny_builtin F.entry_set_update_loop ?_
  rw [Around.under_plainId F.plain_set_update_loop _];show wpAny _ A.in1 (pyNext (.ref I) >>= _) _ _ s
  refine wpAny_bind (W.done s _ _ st fun s' mv=>?_);show wpAny _ A.in1 (ret Value.none) _ _ s'
  exact wpAny_pure (q s' (mv.mono sub) (m.keep fun o e=>mv.heap d _ nw e))
 | succ k ih=>
  intro i s e0 hi st m q
  have lt:i < n:=by omega
  refine codeAny_builtin F.entry_set_update_loop ?_
  rw [Around.under_plainId F.plain_set_update_loop _];show wpAny _ A.in1 (pyNext (.ref I) >>= _) _ _ s
  refine wpAny_bind (W.item i s _ _ lt st fun v s1 hp st1 mv=>?_)
  obtain ⟨t,rfl⟩:=hf i v hp
  have m1:=m.keep (h':=s1.heap) fun o e=>mv.heap d _ nw e
  show wpAny _ A.in1 (holding [Value.int (f i) t] (setAdd d (.int (f i) t)) >>= _) _ _ s1
  refine wpAny_bind (wpAny_holding ?_);unfold setAdd
  refine wpAny_holding (wpAny_bind ((intKind prog w).pyHash (k:=f i) (intKind_is _ _ _ _) ?_))
  have room:(firstMet f i).length+1 < scanBound:=by have:=qX f (i:=i) (j:=n) hi;omega
  refine wpAny_setAddHashed_of (knd:=intKind prog w) (s:={ s1 with toks:=s1.toks+1 }) (intKind_is _ _ _ _) rfl m1 room fun h2 sb m2=>?_
  have m3:Met prog w h2 d f (i+1):=SetOf_congr m2 (fun x=>by rw [firstMet_succ,step_any]) (by rw [firstMet_succ,step_length])
  refine wpAny_pure ⟨plainId_quiet F.plain_set_update_loop _,ih (i+1) _ (by omega) lt (W.frame _ s1 _ _ st1 (Nat.le_succ _) fun b hb o e=>(sb.2 b (fun z:b=d=>nd (z▸hb))).trans e) m3 fun s2 mv2 m4=>?_⟩
  exact q s2 (Moved.trans W.gtrans ((mv.mono sub).then_heap (Nat.le_succ _) fun b o hb e=>(sb.2 b (fun z:b=d=>hb (by rw [z];exact List.mem_cons_self))).trans e) mv2) m4
end
end Pr
namespace PySem
section
variable {prog:Program} {w:World} {A:Around} {E:Value→Shared→Prop} {s:Shared}
abbrev nset (led:Bool):Obj:={ cls:=.type "set",dict:=none,data:=.set #[] 0 (.fresh 0 0 led) }
theorem setOfL {l:Addr} {items:Array Value} {ns:List Int} {Q:Value→Shared→Prop} (hh:A.handled=none) (hl:s.heap.IsList l items) (hi:PyProof.Rows.IntsAre items.toList ns) (hz:(PyProof.Rows.firstMet (fun i=>ns.getD i 0) items.size).length+1 < scanBound)
  (h:∀(h':Heap) (tk:Nat),Pr.Met prog w h' s.heap.objs.size (fun i=>ns.getD i 0) items.size→(∀b o,b < s.heap.objs.size→s.heap.get? b=some o→h'.get? b=some o)→Q (.ref s.heap.objs.size) { s with heap:=h',toks:=tk }):wpAny (model prog w) A (call (.type "set") [.ref l]) Q E s:=by
 obtain ⟨c,tl,hmro⟩:=F.called_set.mro
 have made:=F.called_set.made;have hsub:=F.called_set.sub
 refine wpAny_call (codeAny_of_tree ?_);show wpAny _ _ (callAny (.type "set") _) _ _ _
 refine wpAny_pure ⟨Code.quiet_builtin _ (by rfl'),codeAny_builtin F.entry_type_call ?_⟩;rw [Around.under_plain (weight_type_call_type "set" [.ref l] []) rfl]
 have t1:=F.called_set.notType;have t2:=F.called_set.canCreate;have t3:=F.typeCall_set_1 (.ref l)
 repeat (any_goals (first | assumption|wp_step))
 refine codeAny_mono (code_set_new_1 (.ref l) (E:=E) (Q₁:=fun x s1=>∃led:Bool,x=.ref s.heap.objs.size∧s1={ s with heap:=s.heap.push (nset led) }) fun led=>⟨led,rfl,rfl⟩) fun r s1 hr=>?_
 cases r with
 | error e=>exact hr
 | ok fl=>
  cases fl with
  | ret obj=>
   obtain ⟨led,rfl,rfl⟩:=hr
   have hS:(s.heap.push (nset led)).get? s.heap.objs.size=some (nset led):=Heap.get?_push_size _ rfl
   have hT:Shared.TypeIs { s with heap:=s.heap.push (nset led) } (.ref s.heap.objs.size) "set":=⟨_,hS,rfl⟩
   have i1:=F.called_set.init.lookup;have i2:=F.called_set.init.bind (.ref s.heap.objs.size)
   repeat (any_goals (first | assumption|wp_step))
   refine codeAny_mono (codeAny_call_builtin (R:=wants (fun r s2=>r=.none∧∃h' tk,s2={ s with heap:=h',toks:=tk }∧Pr.Met prog w h' s.heap.objs.size (fun i=>ns.getD i 0) items.size∧(∀b o,b < s.heap.objs.size→s.heap.get? b=some o→h'.get? b=some o)) E) F.called_set.init.plain F.entry_set_init (check_set_init_1 hT ?_)) fun r2 s2 hr2=>?_
   ·obtain ⟨ol,hol,hcl,nl,hdl⟩:=hl
    obtain ⟨ocls,odict,odata,oslots⟩:=ol
    simp only at hcl hdl
    subst hcl;subst hdl
    have hol':(s.heap.push (nset led)).get? l=some { cls:=.type "list",dict:=odict,data:=.seq items nl,slots:=oslots }:=Heap.get?_push_of_some _ hol
    have u1:=F.sub_list_set;have u2:=F.sub_list_frozenset
    have hne:(Value.type "list"==Value.type "dict")=false:=by decide
    have hl1:(s.heap.push (nset led)).IsList l items:=⟨_,hol',rfl,nl,rfl⟩
    unfold Builtin.«set.__init__» noKeywords Builtin.Frozenset.updateFrom
    generalize hPI:pyIter=PI
    wp_walk
    subst hPI
    refine wpAny_pyIter_list hl1 (wpAny_bind (wpAny_runValue ?_))
    have lS:l < s.heap.objs.size:=Heap.lt_size hol
    have n1:l≠(s.heap.push (nset led)).objs.size:=by rw [Heap.size_push];exact Nat.ne_of_lt (Nat.lt_succ_of_lt lS)
    have n2:s.heap.objs.size∉[(s.heap.push (nset led)).objs.size,l]:=by
     rw [Heap.size_push];intro z
     rcases List.mem_cons.mp z with z|z
     ·omega
     ·rw [List.mem_singleton] at z;exact absurd z (Nat.ne_of_gt lS)
    refine Pr.setLoop ((Walks.list (by simp [hh]) _ l n1 items).toS) s.heap.objs.size n2 (fun i=>ns.getD i 0) (fun i v hv=>PyProof.Rows.IntsAre.int_at hi i v (by rw [Array.getElem?_toList];exact hv)) hz (items.size - 0) 0 _ (by omega) (Nat.zero_le _) ⟨⟨_,Heap.get?_push_size _ rfl,rfl,rfl⟩,(hl1.push _)⟩ ?hS0 ?hR
    case hS0=>exact PyProof.Rows.SetOf_congr ((PyProof.Rows.setObjOf_fresh (knd:=intKind prog w) led).setOf (Heap.get?_push_of_some _ hS) (by unfold scanBound;omega)) (fun _=>rfl) rfl
    case hR=>
     intro s3 mv hS3
     obtain ⟨h3,g3,d3,tk3,os3⟩:=s3
     obtain rfl:g3=s.gens:=mv.gens
     obtain rfl:d3=s.drawn:=mv.drawn
     obtain rfl:os3=s.os:=mv.os
     show wpAny _ _ _ _ _ _
     refine wpAny_pure ?_;show wpAny _ _ (ret Value.none) _ _ _
     refine wpAny_pure ⟨rfl,h3,tk3,rfl,hS3,fun b o hb e=>mv.heap b o (fun z=>?_) (Heap.get?_push_of_some _ (Heap.get?_push_of_some _ e))⟩
     rcases List.mem_cons.mp z with z|z
     ·exact absurd z (Nat.ne_of_lt hb)
     ·rw [List.mem_singleton,Heap.size_push] at z;exact absurd z (Nat.ne_of_lt (Nat.lt_succ_of_lt hb))
   ·cases r2 with
    | error e=>exact hr2
    | ok fl2=>
     cases fl2 with
     | ret r=>
      obtain ⟨rfl,h',tk,rfl,hS',hk'⟩:=hr2
      repeat (any_goals (first | assumption|wp_step))
      exact h _ _ hS' hk'
     | _=>exact hr2.elim
  | _=>exact hr.elim
end
end PySem
namespace Pr
open PySem PySem.Spec PyProof.Rows L2 Mt
open Vbrgae (Level Spot Found Counted Game Call thingsIn boardOf numberOf spots act leverBit bitOf marked inHand over ACTS search fresh reached gather widen beginning within isPlace when_ fault gameOf codeAt isThing without)
open PySem.W (CodeHd nsIn)
variable {P:Program} {w:World} {K:PySem.W.Frag} {mg:Str→Option Value} {base:Heap} {Cb Cs:Addr} {ts:Tn}
section
variable {X:Cx}
theorem lJ:∀{ns:List Int} {us:List Value},Vals (ns.map V.int) us→IntsAre us ns
 | [],_,.nil=>.nil
 | n::ns,_,.cons h t=>by
  obtain ⟨k,rfl⟩:=h
  exact .cons n k (lJ t)
theorem DY (hc:X.calm=true):N4 X (.type "set") (fun xs H Q=>∃(a:Addr) (ns:List Int),xs=[.ref a]∧SqL X.K H a (ns.map V.int)∧(firstMet (fun i=>ns.getD i 0) ns.length).length+1 < scanBound∧∀d,H d=none→Q (.ref d) (a8 H d (.set (fun x=>(firstMet (fun i=>ns.getD i 0) ns.length).any fun y=>y==x) (firstMet (fun i=>ns.getD i 0) ns.length).length))):=by
 intro pins s σ H xs us Q I r h
 obtain ⟨a,ns,rfl,ha,hz,q⟩:=h
 obtain ⟨u,rfl,ru⟩:=vals1 r
 cases ru
 obtain ⟨its,rv,pl,_⟩:=I.list ha
 have el:its.toArray.size=ns.length:=by rw [List.size_toArray,←rv.length,List.length_map]
 refine setOfL (I.ok.hd hc) pl.isList (by rw [List.toList_toArray];exact lJ rv) (by rw [el];exact hz) fun h' tk m hk=>?_
 rw [el] at m
 have hp:H s.heap.objs.size=none:=I.hok.fresh (Nat.le_refl _)
 exact ⟨.ref s.heap.objs.size,_,I.laid (t':=tk) (o:=.set (fun x=>(firstMet (fun i=>ns.getD i 0) ns.length).any fun y=>y==x) (firstMet (fun i=>ns.getD i 0) ns.length).length) (fun b u e=>hk b u (Heap.lt_size e) e) (Nat.le_refl _) m,rfl,q _ hp⟩
theorem sE:N4 X (.builtin "len") (fun xs H Q=>∃p S n,xs=[.ref p]∧H p=some (.set S n)∧Q (.int (n:Int)) H):=by
 intro pins s σ H xs us Q I r h
 obtain ⟨p,S,n,rfl,hp,q⟩:=h
 obtain ⟨u,rfl,ru⟩:=vals1 r
 cases ru
 obtain ⟨o,es,ep,t,e1,e2,e3,e4,e5,e6,e7,rfl⟩:s.heap.SetOf (intKind X.prog X.w) p S n:=I.hok p _ hp
 refine call_len_set e1 e2 e3 e7 ?_ ⟨.int es.size,H,I.tok _,⟨s.toks+1,rfl⟩,q⟩
 unfold scanBound at e6
 omega
end
theorem fW (f:Nat→Int):∀i,(firstMet f i).Nodup
 | 0=>by rw [firstMet_zero];exact List.nodup_nil
 | i+1=>by
  rw [firstMet_succ]
  unfold step_dedup
  split
  ·exact fW f i
  ·rename_i h
   rw [List.nodup_append]
   refine ⟨fW f i,List.nodup_cons.mpr ⟨by simp,List.nodup_nil⟩,fun a ha b hb e=>h ?_⟩
   rw [List.mem_singleton] at hb
   rw [List.any_eq_true]
   exact ⟨a,ha,by rw [e,hb,beq_self_eq_true]⟩
theorem range_getD (ns:List Int):(List.range ns.length).map (fun i=>ns.getD i 0)=ns:=by
 apply List.ext_getElem
 ·rw [List.length_map,List.length_range]
 ·intro i h1 h2
  rw [List.getElem_map,List.getElem_range,List.getD_eq_getElem?_getD,List.getElem?_eq_getElem h2]
  rfl
theorem wT (ns:List Int) (k:Int):k∈firstMet (fun i=>ns.getD i 0) ns.length↔k∈ns:=by
 have h:=firstMet_any (fun i=>ns.getD i 0) ns.length k
 rw [range_getD] at h
 have g:∀l:List Int,l.any (fun x=>x==k)=true↔k∈l:=fun l=>by
  rw [List.any_eq_true]
  exact ⟨fun ⟨x,h1,h2⟩=>eq_of_beq h2▸h1,fun h=>⟨k,h,beq_self_eq_true k⟩⟩
 rw [←g,←g,h]
theorem vY {ss l:List Spot} {m:Nat} (hs:∀t,t∈ss↔t∈l) (h:∀t∈l,t.at_ < m) :
  (firstMet (fun i=>(ss.map fun t=>(t.at_:Int)).getD i 0) (ss.map fun t=>(t.at_:Int)).length).length=((List.range m).filter fun i=>l.any fun s=>s.at_==i).length:=by
 have hp:(firstMet (fun i=>(ss.map fun t=>(t.at_:Int)).getD i 0) (ss.map fun t=>(t.at_:Int)).length).Perm (((List.range m).filter fun i=>l.any fun s=>s.at_==i).map fun n:Nat=>(n:Int)):=by
  rw [List.perm_ext_iff_of_nodup (fW _ _) ?_]
  ·intro k
   rw [wT,List.mem_map,List.mem_map]
   constructor
   ·rintro ⟨t,h1,rfl⟩
    refine ⟨t.at_,List.mem_filter.mpr ⟨List.mem_range.mpr (h t ((hs t).mp h1)),List.any_eq_true.mpr ⟨t,(hs t).mp h1,beq_self_eq_true _⟩⟩,rfl⟩
   ·rintro ⟨i,h1,rfl⟩
    obtain ⟨_,h2⟩:=List.mem_filter.mp h1
    obtain ⟨t,h3,h4⟩:=List.any_eq_true.mp h2
    exact ⟨t,(hs t).mpr h3,by rw [eq_of_beq h4]⟩
  ·rw [List.Nodup,List.pairwise_map]
   exact (List.Pairwise.filter _ List.nodup_range).imp fun h z=>h (Int.ofNat.inj z)
 rw [hp.length_eq,List.length_map]
def jU (L:Level):V→V
 | .int i=>nv (i.toNat % (L.w*L.h))
 | v=>v
theorem zF (T:i5 P w K mg Cb Cs)(Z:Lm K mg base ts):k7 P w K mg base 9 "tell_reach" ["session","numbers","row"] (t7 (C7 Cb Cs ts 7)):=by
 refine T.d_tell_reach.ok (N:=["session","numbers","row","board","spots","cells","spot","stairs"]) ⟨rfl,rfl,rfl,by rfl',rfl,by rfl',by rfl'⟩ (fun _ _ _ _=>l3) (fun vs H Q E h f cdv A outer s E' hr=>?_)
 obtain ⟨_,_,_,rfl,s0,g,n,tl,nu,ro,ns,rs,c,rfl,rfl,rfl,ss,hn,hnu,hro,hrt,hc,hg,k⟩:=h
 have nd:(["session","numbers","row","board","spots","cells","spot","stairs"]:List Str).Nodup:=by rfl'
 refine ⟨_,(d7 (j4 (i:=3) nd rfl (Or.inr rfl) (g9 (pv 0) rfl)) (d7 (j4 (i:=4) nd rfl (Or.inl rfl) (n9 (BE T Z) hr (by decide) (c7 (pv 3) (c7 (C0 (K0 T) hr (by decide) T.cl_Session (pv 0)) c9)))) (d7 (j4 (i:=5) nd rfl (Or.inl rfl) (A2 sE (by rfl) T.b_len PySem.boot_len (c7 (eR (DY rfl) (by rfl) T.b_set (by rfl') (c7 (Q8 (own:=[("spot",6)]) (tt:=N6) rfl nd (F2 (pv 4)) (M3 (N:=["session","numbers","row","board","spots","cells","spot","stairs"]) (sc:=k9 gB) (by rfl')) (by intro s H C cl fp;exact n8 (i:=6) nd rfl (Or.inl rfl)) (by intro s H C cl fp;exact Z6) (by intro s H C cl fp;exact m9 (aM T) hr (by decide) T.cl_Board (pv 3) (c7 (pv 6) c9))) c9)) c9))) (d7 (j4 (i:=7) nd rfl (Or.inl rfl) (L6 (C8 (A2 (sQ rfl) (by rfl) T.b_any (by rfl') (c7 (Q8 (own:=[("spot",6)]) (tt:=N6) rfl nd (F2 (pv 4)) (M3 (N:=["session","numbers","row","board","spots","cells","spot","stairs"]) (sc:=k9 gB) (by rfl')) (by intro s H C cl fp;exact n8 (i:=6) nd rfl (Or.inl rfl)) (by intro s H C cl fp;exact Z6) (by intro s H C cl fp;exact m9 (U3 T) hr (by decide) T.cl_Board (pv 3) (c7 (pv 6) c9))) c9))) j0 j0)) (f7 (i0 (l5 (c7 (i8 T.g_DONE) (c7 (A2 C1 (by rfl) T.b_len PySem.boot_len (c7 (pv 4) c9)) (c7 (pv 5) (c7 (pv 7) c9))))))))))),?_⟩
 obtain ⟨dx,sp,p,a,L,now,past,hv,rfl,o,hpl⟩:=ss.open_ (hg (by decide))
 have tb:=ss.1
 obtain rfl:=nJ hc
 have gn:=(o.good now (by simp)).1
 have R:=o.bd.R
 refine ⟨_,rfl,j5 o.ins T.cl_Session T.nS_board (A0 _ _ _) ⟨_,rfl,_,rfl,s0,dx,_,rfl,o.ins,D0 _ _ _ (by rfl'),_,rfl,s0,dx,sp,p,a,L,now,past,hv,tl,rfl,o,_,_,rfl,p,a,L,now,rfl,rfl,o.bd,gn,tb.a2,fun H1 r1 sb hr1 nk1 hx1=>?_⟩⟩
 have kp:=Kp.ofSb2 Z.d o.bd tb sb
 have o1:=o.kp tb kp
 obtain ⟨l,el⟩:∃l,l=reached (boardOf L) now:=⟨_,rfl⟩
 obtain ⟨q,eq⟩:∃q,q=l.reverse:=⟨_,rfl⟩
 have hml:∀t,t∈q↔t∈l:=fun t=>by rw [eq,List.mem_reverse]
 have hgl:∀t∈l,Good L t:=fun t ht=>((R6 R gn).mp (el▸ht)).good R gn
 have hgq:∀t∈q,Good L t:=fun t ht=>hgl t ((hml t).mp ht)
 have hx1':H1 r1=some (.lst (q.map fun t=>nv (c0 L t))):=by
  rw [hx1,eq,el,←List.map_reverse,List.map_map]
  rfl
 have hlen:q.length≤25600:=by
  rw [eq,List.length_reverse,el]
  have h1:=X8 (jQ R gn) fun m hm=>by
   obtain ⟨t,ht,rfl⟩:=List.mem_map.mp hm
   exact P9 R (hgl t (el▸ht))
  rw [List.length_map] at h1
  exact Nat.le_trans h1 (X9 R)
 have hlz:(q.map fun t=>nv (c0 L t)).length < sizeLine:=by rw [List.length_map];exact Nat.lt_of_le_of_lt hlen (by decide)
 refine ⟨_,rfl,r1,rfl,⟨_,SqL.of hx1'⟩,fun d1 hd1=>?_⟩
 refine aH (xs:=q.map fun t=>nv (c0 L t)) (fun _=>true) (jU L) hd1 (SqL.of hx1') hlz (fun x hx H' C N s' hcc hn=>?_) (fun H2 s2 hl2=>?_)
 ·obtain ⟨t,ht,rfl⟩:=List.mem_map.mp hx
  have B':=o1.bd.same s'
  exact ⟨rfl,U8 ⟨_,rfl,p,a.dx,_,rfl,B'.ins,o6 _ _ (by rfl'),_,rfl,_,_,rfl,p,a,L,c0 L t,rfl,rfl,B'.toBs0,hcc _ (Same.refl _) rfl⟩⟩
 have hcl:((q.map fun t=>nv (c0 L t)).filter fun _=>true).map (jU L)=(q.map fun t=>(t.at_:Int)).map V.int:=by
  rw [List.filter_eq_self.mpr fun _ _=>rfl,List.map_map,List.map_map]
  apply List.map_congr_left
  intro t ht
  show nv (((c0 L t:Nat):Int).toNat % (L.w*L.h))=nv t.at_
  rw [Int.toNat_natCast,N7 (hgq t ht)]
 rw [hcl] at hl2
 have hcnt:=vY (m:=L.w*L.h) hml fun t ht=>(hgl t ht).1
 have hsm:((List.range (L.w*L.h)).filter fun i=>l.any fun s=>s.at_==i).length≤100:=by
  refine Nat.le_trans (List.length_filter_le _ _) ?_
  rw [List.length_range]
  exact R.size_le
 refine ⟨d1,_,rfl,SqL.of hl2,?_,fun d2 hd2=>⟨d2,_,_,rfl,c8,?_⟩⟩
 ·rw [hcnt]
  unfold scanBound
  omega
 rw [hcnt]
 have s3:=s2.trans (Same.new (o:=.set (fun x=>(firstMet (fun i=>(q.map fun t=>(t.at_:Int)).getD i 0) (q.map fun t=>(t.at_:Int)).length).any fun y=>y==x) ((List.range (L.w*L.h)).filter fun i=>l.any fun s=>s.at_==i).length) hd2)
 have hx3:=s3 _ _ hx1'
 refine ⟨_,rfl,r1,rfl,⟨_,SqL.of hx3⟩,fun d3 hd3=>?_⟩
 refine aH (xs:=q.map fun t=>nv (c0 L t)) (fun _=>true) (fun x=>V.bl (S0 L x)) hd3 (SqL.of hx3) hlz (fun x hx H' C N s' hcc hn=>?_) (fun H4 s4 hl4=>?_)
 ·obtain ⟨t,ht,rfl⟩:=List.mem_map.mp hx
  have B':=o1.bd.same (s3.trans s')
  exact ⟨rfl,U8 ⟨_,rfl,p,a.dx,_,rfl,B'.ins,o6 _ _ (by rfl'),_,rfl,_,_,rfl,p,a,L,c0 L t,rfl,rfl,B'.toBs0,hcc _ (Same.refl _) rfl⟩⟩
 have hol:((q.map fun t=>nv (c0 L t)).filter fun _=>true).map (fun x=>V.bl (S0 L x))=(q.map (over (boardOf L))).map V.bl:=by
  rw [List.filter_eq_self.mpr fun _ _=>rfl,List.map_map,List.map_map]
  apply List.map_congr_left
  intro t ht
  show V.bl (S0 L (nv (c0 L t)))=V.bl (over (boardOf L) t)
  exact congrArg V.bl (W1 (hgq t ht))
 rw [hol] at hl4
 have hany:(q.map (over (boardOf L))).any id=l.any (over (boardOf L)):=by
  rw [List.any_map,eq,List.any_reverse]
  rfl
 have hx4:=s4 _ _ hx3
 have fin:∀x:Int,x=Vbrgae.bit (l.any (over (boardOf L)))→∀r,H4 r=none→Res Cb Cs ts H s0 n tl (Vbrgae.step ⟨some ⟨boardOf L,beginning L,now,past⟩⟩ .reach) (a8 H4 r (.lst [.int 0,nv q.length,nv ((List.range (L.w*L.h)).filter fun i=>l.any fun s=>s.at_==i).length,.int x])) (.ref r):=by
  intro x hx r hr4
  refine Res.keep (l:=r) o tb (kp.same ((s3.trans s4).trans (Same.new hr4))) hpl rfl (kp.new ((s3.trans s4).free hr4)) ?_ (by show 4≤60000;decide)
  rw [c8,hx,eq,List.length_reverse,el]
  rfl
 have l4:∀x y z u:V,[x,y,z,u].length≤sizeLine:=fun x y z u=>by show 4≤sizeLine;decide
 refine ⟨d3,_,rfl,SqL.of hl4,_,rfl,?_⟩
 rw [hany]
 cases e:l.any (over (boardOf L)) with
 | true=>
  rw [e] at fin
  refine k8 ⟨_,rfl,_,_,rfl,.inl (SqL.of hx4),?_⟩
  rw [List.length_map]
  exact ⟨_,rfl,_,rfl,l4 _ _ _ _,fun r hr=>k _ _ (fin 1 rfl r hr)⟩
 | false=>
  rw [e] at fin
  refine k4 ⟨_,rfl,_,_,rfl,.inl (SqL.of hx4),?_⟩
  rw [List.length_map]
  exact ⟨_,rfl,_,rfl,l4 _ _ _ _,fun r hr=>k _ _ (fin 0 rfl r hr)⟩
def DB (Cb Cs:Addr):P4:=fun x y z u H Q=>∃s dx bv spv hv w h ca cs,x=.ref s∧y=nv w∧z=nv h∧u=.ref ca∧H s=some (.ins Cs dx (l8 bv spv hv))∧H ca=some (.lst (cs.map nv))∧2≤w∧w≤10∧2≤h∧h≤10∧cs.length=w*h∧(∀c∈cs,c≤21)∧
 (fault cs < 0→∀H',Same H H'→Q (.int (fault cs)) H')∧
 (fault cs=0→∀H' p a sp,(∀b o,H b=some o→b≠s→H' b=some o)→H' s≠none→(∀tl xs,H tl=some (.lst xs)→tl≠ca→Op Cb Cs H' s dx sp p a ⟨w,h,cs⟩ (beginning ⟨w,h,cs⟩) [] .non tl)→Q (.int 0) H')
theorem mD (T:i5 P w K mg Cb Cs):k7 P w K mg base 6 "begin_level" ["session","width","height","codes"] (bI (DB Cb Cs)):=by
 refine T.d_begin_level.ok (N:=["session","width","height","codes","refusal"]) ⟨rfl,rfl,rfl,by rfl',rfl,by rfl',by rfl'⟩ (fun _ _ _ _=>l4) (fun vs H Q E h f cdv A outer s E' hr=>?_)
 obtain ⟨_,_,_,_,rfl,s0,dx,bv,spv,hv,w,h,ca,cs,rfl,rfl,rfl,rfl,hi,hc,w2,w10,h2,h10,len,cd,kf,ks⟩:=h
 have nd:(["session","width","height","codes","refusal"]:List Str).Nodup:=by rfl'
 refine ⟨_,(d7 (j4 (i:=4) nd rfl (Or.inl rfl) (n9 (CA T) hr (by decide) (c7 (pv 3) c9))) (d7 (m7 (u5 G8 (pv 4) j0 (o8 _)) (f7 (i0 (pv 4))) m8) (d7 (A7 (m9 (Br T) hr (by decide) T.cl_Session (pv 0) (c7 (kX (nL T) T.mg_Board hr (by decide) (c7 (pv 1) (c7 (pv 2) (c7 (pv 3) c9)))) c9))) (f7 (i0 (i8 T.g_DONE)))))),?_⟩
 have hsz:w*h≤100:=Nat.mul_le_mul w10 h10
 refine ⟨_,rfl,_,rfl,ca,cs,rfl,⟨hc,by omega⟩,fun H1 s1=>?_⟩
 refine ⟨_,rfl,rfl,_,rfl,?_⟩
 by_cases hf:¬fault cs=0
 ·have hlt:fault cs < 0:=by
   rcases tR cs with e|e|e
   ·omega
   ·omega
   ·exact absurd e hf
  have hno:(!decide (V.int (fault cs)=V.int 0))=true:=by
   rw [Bool.not_eq_true',decide_eq_false_iff_not]
   intro z
   injection z with z
   exact hf z
  rw [hno]
  exact k8 ⟨_,rfl,kf hlt _ s1⟩
 have hf:fault cs=0:=Decidable.of_not_not hf
 have hyes:(!decide (V.int (fault cs)=V.int 0))=false:=by rw [hf];rfl
 rw [hyes]
 have R:Rt ⟨w,h,cs⟩:=⟨w2,w10,h2,h10,len,cd,hf⟩
 have hi1:=s1 _ _ hi
 refine k4 ⟨_,rfl,s0,dx,_,rfl,hi1,D0 _ _ _ (by rfl'),_,rfl,_,rfl,_,rfl,fun p pdx hp hpd npd=>?_⟩
 have hc1:=s1 _ _ hc
 have f2:∀b o,H1 b=some o→a8 (a8 H1 pdx (.own p)) p (.ins Cb pdx []) b=some o:=fun b o e=>by
  rw [a9 (d8 e hp),a9 (d8 e hpd)]
  exact e
 have nsp:s0≠p:=d8 hi1 hp
 refine ⟨_,_,_,_,rfl,p,pdx,⟨w,h,cs⟩,ca,rfl,rfl,rfl,rfl,R,c8,f2 _ _ hc1,fun H3 a B3 bt3 hk3 eca fr3=>⟨rfl,?_⟩⟩
 have f3:∀b o,H b=some o→H3 b=some o:=fun b o e=>bt3 b o (f2 _ _ (s1 _ _ e)) (d8 (s1 _ _ e) hp)
 have hi3:=f3 _ _ hi
 refine ⟨_,_,rfl,s0,dx,p,a,⟨w,h,cs⟩,bv,spv,hv,rfl,rfl,hi3,B3.toBs0,nsp,fun H4 sp f4 hsp h41 h42 h43=>?_⟩
 refine ks hf H4 p a sp (fun b o e n=>f4 _ _ (f3 _ _ e) n) (by rw [h41];intro z;cases z) (fun tl xs etl ntl=>?_)
 obtain ⟨kvs,kd,kn⟩:=B3.kn
 obtain ⟨ys,ey,ez,ew⟩:=B3.ex
 have l1:∀{b u},H3 b=some u→(∀C dx fs,u≠.ins C dx fs)→H4 b=some u:=fun {b u} e q=>f4 b u e (f8 e hi3 (q _ _ _))
 have hkk:H4 a.kd=H3 a.kd:=(l1 kd (by intro _ _ _ z;cases z)).trans kd.symm
 have he:H4 a.ex=H3 a.ex:=(l1 ey (by intro _ _ _ z;cases z)).trans ey.symm
 have b':Bd Cb H4 p a ⟨w,h,cs⟩:=B3.butG (d:=s0) f4 (Ne.symm nsp) (by intro _ z;rw [hi3] at z;cases z) (by intro _ z;rw [hi3] at z;cases z) (by intro _ z;rw [hi3] at z;cases z)
 have etl3:=f3 _ _ etl
 obtain ⟨t1,t2,t3,t4,t5⟩:=fr3 tl (by rw [f2 _ _ (s1 _ _ etl)];intro z;cases z) (d8 (s1 _ _ etl) hp)
 refine ⟨h41,b',h42,fun t ht=>?_,rfl,.inl rfl,?_,nsp,(fun z=>by rw [←z,etl3] at hsp;cases hsp),⟨(fun z=>ntl (z.trans eca)),t1,t2,t3,fun xs e=>t4 xs (he▸e),Kv.congr hkk t5⟩,xs,l1 etl3 (by intro _ _ _ z;cases z)⟩
 ·simp at ht
  rw [ht]
  exact ⟨V9 R,.refl⟩
 ·refine ⟨(fun z=>by rw [z,B3.codes] at hsp;cases hsp),(fun z=>by rw [z,B3.things] at hsp;cases hsp),(fun z=>by rw [z,ey] at hsp;cases hsp),(fun z=>by rw [z,B3.fr] at hsp;cases hsp),fun zs e m=>?_,Kv.congr hkk (kn.nokv kd hsp)⟩
  rw [he,ey] at e
  cases e
  obtain ⟨x,hx,e2⟩:=List.mem_map.mp m
  cases e2
  obtain ⟨i,hi⟩:=List.getElem?_of_mem hx
  obtain ⟨tt,h3,_⟩:=ew i _ hi
  rw [hsp] at h3
  cases h3
theorem Ss.ins {H:Hp} {s:Addr} {g:Option Game} {n:Nat} {tl:Addr} (h:Ss Cb Cs ts H s g n tl):∃dx bv spv hv,H s=some (.ins Cs dx (l8 bv spv hv)):=by
 obtain ⟨_,_,h⟩:=h
 cases g with
 | none=>
  obtain ⟨dx,spv,e⟩:=h
  exact ⟨dx,_,_,_,e⟩
 | some G=>
  obtain ⟨dx,sp,p,a,L,now,past,hv,_,o,_⟩:=h
  exact ⟨dx,_,_,_,o.ins⟩
theorem Ss.same {H H':Hp} {s:Addr} {g:Option Game} {n:Nat} {tl:Addr} (h:Ss Cb Cs ts H s g n tl) (sm:Same H H'):Ss Cb Cs ts H' s g (n+1) tl:=by
 obtain ⟨t,⟨xs,ex⟩,h⟩:=h
 refine ⟨t.keep (fun b ps e=>sm _ _ e) (fun c q e=>sm _ _ e),⟨xs,sm _ _ ex⟩,?_⟩
 cases g with
 | none=>
  obtain ⟨dx,spv,e⟩:=h
  exact ⟨dx,spv,sm _ _ e⟩
 | some G=>
  obtain ⟨dx,sp,p,a,L,now,past,hv,e,o,l⟩:=h
  exact ⟨dx,sp,p,a,L,now,past,hv,e,o.same sm,Nat.le_succ_of_le l⟩
theorem Res.refuse {H H':Hp} {s:Addr} {g:Option Game} {n:Nat} {tl l:Addr} {ans:List Int} (h:Ss Cb Cs ts H s g n tl) (sm:Same H H') (hl:H l=none) (hx:H' l=some (.lst (ans.map V.int))) (hz:ans.length≤60000):Res Cb Cs ts H s n tl (⟨g⟩,ans) H' (.ref l):=by
 obtain ⟨_,⟨xs,ex⟩,_⟩:=id h
 exact ⟨h.same sm,(sm _ _ ex).trans ex.symm,fun b o u e=>sm _ _ e,l,rfl,hl,hx,hz⟩
theorem Res.fresh {H H1 H2:Hp} {s dx sp p:Addr} {a:Ad} {L:Level} {g:Option Game} {n:Nat} {tl l:Addr} {ans:List Int} (h:Ss Cb Cs ts H s g n tl) (f:∀b o,H b=some o→b≠s→H1 b=some o) (hs:H1 s≠none) (o:Op Cb Cs H1 s dx sp p a L (beginning L) [] .non tl) (sm:Same H1 H2) (hl:H1 l=none) (hx:H2 l=some (.lst (ans.map V.int))) (hz:ans.length≤60000):Res Cb Cs ts H s n tl (⟨some (gameOf L)⟩,ans) H2 (.ref l):=by
 obtain ⟨dx0,bv,spv,hv,hi⟩:=h.ins
 obtain ⟨t,⟨xs,ex⟩,_⟩:=id h
 have l1:∀{b u},H b=some u→(∀C dx fs,u≠.ins C dx fs)→H2 b=some u:=fun {b u} e q=>sm _ _ (f b u e (f8 e hi (q _ _ _)))
 have o2:=o.same sm
 refine ⟨⟨t.keep (fun b ps e=>l1 e (by intro _ _ _ z;cases z)) (fun c q e=>l1 e (by intro _ _ _ z;cases z)),o2.tlv,dx,sp,p,a,L,_,[],.non,rfl,o2,Nat.zero_le _⟩,(l1 ex (by intro _ _ _ z;cases z)).trans ex.symm,fun b ob u e=>l1 e (by intro _ _ _ z;cases z),l,rfl,?_,hx,hz⟩
 cases q:H l with
 | none=>rfl
 | some u=>
  by_cases e:l=s
  ·exact absurd (e▸hl) hs
  ·rw [f l u q e] at hl
   cases hl
theorem sZ {rs:List Int} (h:∀t∈rs,0≤t):rs.map V.int=(rs.map Int.toNat).map nv:=by
 rw [List.map_map]
 apply List.map_congr_left
 intro t ht
 show V.int t=V.int ((t.toNat:Nat):Int)
 rw [Int.toNat_of_nonneg (h t ht)]
theorem wB (T:i5 P w K mg Cb Cs):k7 P w K mg base 7 "open_level" ["session","numbers","row"] (t7 (C7 Cb Cs ts 0)):=by
 refine T.d_open_level.ok (N:=["session","numbers","row","begun"]) ⟨rfl,rfl,rfl,by rfl',rfl,by rfl',by rfl'⟩ (fun _ _ _ _=>l3) (fun vs H Q E h f cdv A outer s E' hr=>?_)
 obtain ⟨_,_,_,rfl,s0,g,n,tl,nu,ro,ns,rs,c,rfl,rfl,rfl,ss,hn,hnu,hro,hrt,hc,hg,k⟩:=h
 have nd:(["session","numbers","row","begun"]:List Str).Nodup:=by rfl'
 refine ⟨_,(d7 (j4 (i:=3) nd rfl (Or.inl rfl) (n9 (mD T) hr (by decide) (c7 (pv 0) (c7 (j8 p5 (pv 1) j0 (fun _ _=>rfl)) (c7 (j8 p5 (pv 1) j0 (fun _ _=>rfl)) (c7 (pv 2) c9)))))) (d7 (m7 (u5 G8 (pv 3) (i8 T.g_DONE) (o8 _)) (f7 (i0 (l5 (c7 (pv 3) c9)))) m8) (f7 (i0 (l5 (c7 (i8 T.g_DONE) (c7 (A2 C1 (by rfl) T.b_len PySem.boot_len (c7 (g9 (g9 (pv 0) rfl) rfl) c9)) c9))))))),?_⟩
 obtain ⟨dx,bv,spv,hv,hi⟩:=ss.ins
 obtain ⟨w,h,rfl,w2,w10,h2,h10,len,cd,rfl⟩:=bN hc
 have ero:=sZ fun t ht=>(cd t ht).1
 rw [ero] at hro
 have est:Vbrgae.step ⟨g⟩ (.open_ w h (rs.map Int.toNat))=if fault (rs.map Int.toNat) < 0 then (⟨g⟩,[fault (rs.map Int.toNat)]) else (⟨some (gameOf ⟨w,h,rs.map Int.toNat⟩)⟩,[0,((thingsIn (rs.map Int.toNat)).length:Int)]):=by cases g<;>rfl
 rw [est] at k
 refine ⟨_,rfl,_,rfl,nu,_,_,_,rfl,rfl,SqL.of hnu,l7 (j:=0) rfl,_,rfl,nu,_,_,_,rfl,rfl,SqL.of hnu,l7 (j:=1) rfl,_,rfl,_,_,_,_,rfl,s0,dx,bv,spv,hv,w,h,ro,rs.map Int.toNat,rfl,rfl,rfl,rfl,hi,hro,w2,w10,h2,h10,by rw [List.length_map];exact len,fun c hc=>?_,fun hf H1 s1=>?_,fun hf H1 p a sp f1 hs1 hop=>?_⟩
 ·obtain ⟨t,ht,rfl⟩:=List.mem_map.mp hc
  have:=cd t ht
  omega
 ·rw [if_pos hf] at k
  have hno:(!decide (V.int (fault (rs.map Int.toNat))=V.int 0))=true:=by
   rw [Bool.not_eq_true',decide_eq_false_iff_not]
   intro z
   injection z with z
   omega
  refine ⟨_,rfl,rfl,_,rfl,?_⟩
  rw [hno]
  exact k8 ⟨_,rfl,(by show 1≤sizeLine;decide),fun l hl=>k _ _ (Res.refuse (l:=l) ss (s1.trans (Same.new hl)) (s1.free hl) c8 (by show 1≤60000;decide))⟩
 ·rw [if_neg (by omega)] at k
  obtain ⟨_,⟨xs,ex⟩,_⟩:=id ss
  have o:=hop tl xs ex (Ne.symm hrt)
  refine ⟨_,rfl,rfl,_,rfl,k4 ⟨_,rfl,j5 o.ins T.cl_Session T.nS_board (A0 _ _ _) (o.bd.f_things T ⟨_,_,rfl,.inl (SqL.of o.bd.things),(by show 2≤sizeLine;decide),fun l hl=>k _ _ (Res.fresh (l:=l) ss f1 hs1 o (Same.new hl) hl ?_ (by show 2≤60000;decide))⟩)⟩⟩
  rw [c8,List.length_map]
  rfl
theorem EZ {L:Level} {x y:Nat} (h:¬Vbrgae.inside L x y=false):Vbrgae.cellOf L x y < L.w*L.h:=by
 have:Vbrgae.inside L x y=true:=by
  cases q:Vbrgae.inside L x y with
  | true=>rfl
  | false=>exact absurd q h
 unfold Vbrgae.inside at this
 rw [Bool.and_eq_true,within_iff,within_iff] at this
 unfold Vbrgae.cellOf
 rw [←Int.natCast_mul,←Int.natCast_add,Int.toNat_natCast]
 have hx:x < L.w:=by omega
 have hy:y+1≤L.h:=by omega
 have h2:(y+1)*L.w≤L.h*L.w:=Nat.mul_le_mul_right _ hy
 rw [Nat.succ_mul] at h2
 rw [Nat.mul_comm L.w L.h]
 omega
theorem DP (T:i5 P w K mg Cb Cs):k7 P w K mg base 7 "edit_cell" ["session","numbers","row"] (t7 (C7 Cb Cs ts 12)):=by
 refine T.d_edit_cell.ok (N:=["session","numbers","row","board","cell","codes"]) ⟨rfl,rfl,rfl,by rfl',rfl,by rfl',by rfl'⟩ (fun _ _ _ _=>l3) (fun vs H Q E h f cdv A outer s E' hr=>?_)
 obtain ⟨_,_,_,rfl,s0,g,n,tl,nu,ro,ns,rs,c,rfl,rfl,rfl,ss,hn,hnu,hro,hrt,hc,hg,k⟩:=h
 have nd:(["session","numbers","row","board","cell","codes"]:List Str).Nodup:=by rfl'
 refine ⟨_,(d7 (j4 (i:=3) nd rfl (Or.inl rfl) (g9 (pv 0) rfl)) (d7 (j4 (i:=4) nd rfl (Or.inl rfl) (m9 (eO T) hr (by decide) T.cl_Board (pv 3) (c7 (j8 p5 (pv 1) j0 (fun _ _=>rfl)) (c7 (j8 p5 (pv 1) j0 (fun _ _=>rfl)) c9)))) (d7 (m7 (u5 D4 (pv 4) (i8 T.g_CANNOT) (o8 _)) (f7 (i0 (l5 (c7 (i8 T.g_NO_SUCH) c9)))) m8) (d7 (j4 (i:=5) nd rfl (Or.inl rfl) (n9 (nR T) hr (by decide) (c7 (g9 (pv 3) rfl) (c7 (pv 4) (c7 (j8 p5 (pv 1) j0 (fun _ _=>rfl)) c9))))) (f7 (i0 (l5 (c7 (n9 (mD T) hr (by decide) (c7 (pv 0) (c7 (g9 (pv 3) rfl) (c7 (g9 (pv 3) rfl) (c7 (pv 5) c9))))) c9)))))))),?_⟩
 obtain ⟨dx,sp,p,a,L,now,past,hv,rfl,o,hpl⟩:=ss.open_ (hg (by decide))
 have tb:=ss.1
 obtain ⟨x,y,t,rfl,hx9,hy9,ht21,rfl⟩:=gN hc
 have R:=o.bd.R
 refine ⟨_,rfl,j5 o.ins T.cl_Session T.nS_board (A0 _ _ _) ?_⟩
 refine ⟨_,rfl,p,a.dx,_,rfl,o.bd.ins,o6 _ _ (by rfl'),_,rfl,nu,_,_,_,rfl,rfl,SqL.of hnu,l7 (j:=0) rfl,_,rfl,nu,_,_,_,rfl,rfl,SqL.of hnu,l7 (j:=1) rfl,_,_,_,rfl,p,L,(x:Int),(y:Int),rfl,rfl,rfl,o.bd.toBs0.bp,?_⟩
 have est:Vbrgae.step ⟨some ⟨boardOf L,beginning L,now,past⟩⟩ (.edit (x:Int) (y:Int) t)=if Vbrgae.inside L x y=false then (⟨some ⟨boardOf L,beginning L,now,past⟩⟩,[-3]) else if fault (L.cells.set (Vbrgae.cellOf L x y) t) < 0 then (⟨some ⟨boardOf L,beginning L,now,past⟩⟩,[fault (L.cells.set (Vbrgae.cellOf L x y) t)]) else (⟨some (gameOf ⟨L.w,L.h,L.cells.set (Vbrgae.cellOf L x y) t⟩)⟩,[0]):=by
  show (Vbrgae.State.mk (some (Vbrgae.onGame _ _).1),(Vbrgae.onGame _ _).2)=_
  unfold Vbrgae.onGame
  dsimp only
  show (Vbrgae.State.mk (some (if Vbrgae.inside L x y=false then _ else if fault (L.cells.set (Vbrgae.cellOf L x y) t) < 0 then _ else _:Game×List Int).1),(if Vbrgae.inside L x y=false then _ else if fault (L.cells.set (Vbrgae.cellOf L x y) t) < 0 then _ else _:Game×List Int).2)=_
  by_cases h:Vbrgae.inside L x y=false
  ·rw [if_pos h,if_pos h]
  ·rw [if_neg h,if_neg h]
   by_cases h':fault (L.cells.set (Vbrgae.cellOf L x y) t) < 0
   ·rw [if_pos h',if_pos h']
    rfl
   ·rw [if_neg h',if_neg h']
    rfl
 rw [est] at k
 refine ⟨_,rfl,rfl,_,rfl,?_⟩
 by_cases hin:Vbrgae.inside L x y=false
 ·rw [if_pos hin] at k
  rw [cell_out hin]
  exact k8 ⟨(by show 1≤sizeLine;decide),fun l hl=>k _ _ (Res.keep (l:=l) o tb ((Kp.refl o.bd tb).same (Same.new hl)) hpl rfl hl c8 (by show 1≤60000;decide))⟩
 rw [if_neg hin] at k
 rw [cell_in hin]
 have hno:decide (V.int (Vbrgae.cellOf L x y:Int)=V.int (-1))=false:=decide_eq_false (fun q=>by injection q with q;omega)
 rw [hno]
 have hlt:=EZ hin
 generalize Vbrgae.cellOf L x y=i at k hlt ⊢
 have hsz:=R.size_le
 refine k4 ⟨_,rfl,o.bd.f_codes T ⟨_,rfl,_,rfl,nu,_,_,_,rfl,rfl,SqL.of hnu,l7 (j:=2) rfl,_,_,_,rfl,a.ca,L.cells,i,t,rfl,rfl,rfl,⟨o.bd.codes,by rw [R.len];omega⟩,by rw [R.len];exact hlt,fun H1 l1 s1 hl1 hx1=>?_⟩⟩
 have o1:=o.same s1
 obtain ⟨_,⟨xs,ex⟩,_⟩:=id ss
 refine ⟨_,rfl,_,rfl,o1.bd.f_width T ⟨_,rfl,o1.bd.f_height T ⟨_,rfl,_,_,_,_,rfl,s0,dx,_,_,_,L.w,L.h,l1,L.cells.set i t,rfl,rfl,rfl,rfl,o1.ins,hx1,R.w2,R.w10,R.h2,R.h10,by rw [List.length_set];exact R.len,fun c hc=>?_,fun hf H2 s2=>?_,fun hf H2 p' a' sp' f2 hs2 hop=>?_⟩⟩⟩
 ·rcases List.mem_or_eq_of_mem_set hc with z|z
  ·exact R.codes c z
  ·omega
 ·rw [if_pos hf] at k
  exact ⟨(by show 1≤sizeLine;decide),fun l hl=>k _ _ (Res.refuse (l:=l) ss ((s1.trans s2).trans (Same.new hl)) ((s1.trans s2).free hl) c8 (by show 1≤60000;decide))⟩
 ·rw [if_neg (by omega)] at k
  have o2:=hop tl xs (s1 _ _ ex) (fun z=>by rw [←z,ex] at hl1;cases hl1)
  exact ⟨(by show 1≤sizeLine;decide),fun l hl=>k _ _ (Res.fresh (l:=l) ss (fun b u e n=>f2 _ _ (s1 _ _ e) n) hs2 o2 (Same.new hl) hl c8 (by show 1≤60000;decide))⟩
theorem gY {p:Nat→Bool} {v:Nat} (hv:p v=false):∀(l:List Nat) (i:Nat),(∀x,l[i]?=some x→p x=false)→(l.set i v).filter p=l.filter p∧(l.set i v).findIdx p=l.findIdx p∧(l.set i v).any p=l.any p
 | [],_,_=>⟨rfl,rfl,rfl⟩
 | x::l,0,h=>by
  have hx:=h x rfl
  rw [List.set_cons_zero]
  refine ⟨?_,?_,?_⟩
  ·rw [List.filter_cons_of_neg (by rw [hv];exact Bool.false_ne_true),List.filter_cons_of_neg (by rw [hx];exact Bool.false_ne_true)]
  ·rw [List.findIdx_cons,List.findIdx_cons,hv,hx]
  ·rw [List.any_cons,List.any_cons,hv,hx]
 | x::l,i+1,h=>by
  obtain ⟨h1,h2,h3⟩:=gY hv l i fun y e=>h y e
  rw [List.set_cons_succ]
  refine ⟨?_,?_,?_⟩
  ·rw [List.filter_cons,List.filter_cons,h1]
  ·rw [List.findIdx_cons,List.findIdx_cons,h2]
  ·rw [List.any_cons,List.any_cons,h3]
theorem xB (cells:List Nat):(thingsIn cells).length=cells.countP isThing:=by
 unfold thingsIn
 rw [List.length_map,←List.countP_eq_length_filter]
 have:cells.zipIdx.map (·.1)=cells:=List.zipIdx_map_fst _ _
 conv=>rhs;rw [←this]
 rw [List.countP_map]
 rfl
theorem Cd (L:Level) (i:Nat):(if codeAt L i=5 then 0 else 1)≤1:=by split<;>omega
theorem ED {L:Level} (R:Rt L) {i:Nat} (h:i∈thingsIn L.cells):Rt (without L i)∧beginning (without L i)=beginning L:=by
 obtain ⟨hl,ht⟩:=things_mem.mp h
 have hv:=Cd L i
 generalize ev:(if codeAt L i=5 then 0 else 1)=v at hv
 have ew:without L i=⟨L.w,L.h,L.cells.set i v⟩:=by unfold Vbrgae.without;rw [ev]
 rw [ew]
 have hc:∀x,L.cells[i]?=some x→isThing x=true:=fun x e=>by
  rw [List.getD_eq_getElem?_getD,e] at ht
  exact ht
 have h2:=gY (p:=fun k=>k==2) (v:=v) (by simp;omega) L.cells i fun x e=>by
  have:=hc x e
  unfold isThing at this
  simp at this ⊢
  omega
 have h3:=gY (p:=fun k=>k==3) (v:=v) (by simp;omega) L.cells i fun x e=>by
  have:=hc x e
  unfold isThing at this
  simp at this ⊢
  omega
 obtain ⟨f1,f2,f3⟩:=fY R.ft
 refine ⟨⟨R.w2,R.w10,R.h2,R.h10,by show (L.cells.set i v).length=_;rw [List.length_set];exact R.len,fun c hc=>?_,?_⟩,?_⟩
 ·rcases List.mem_or_eq_of_mem_set hc with z|z
  ·exact R.codes c z
  ·omega
 ·show fault (L.cells.set i v)=0
  have g1:((L.cells.set i v).filter fun k=>k==2).length=1:=by rw [h2.1];exact f1
  have g2:(L.cells.set i v).contains 3=true:=by
   have e:∀l:List Nat,l.contains 3=l.any fun k=>k==3:=fun l=>by
    rw [List.contains_eq_any_beq]
    congr 1
    funext k
    rw [Bool.eq_iff_iff,beq_iff_eq,beq_iff_eq]
    exact ⟨Eq.symm,Eq.symm⟩
   rw [e,h3.2.2,←e]
   exact f2
  have g3:(thingsIn (L.cells.set i v)).length≤6:=by
   rw [xB] at f3 ⊢
   rw [List.countP_set (h:=hl)]
   have:isThing v=false:=by
    unfold isThing
    simp
    omega
   rw [this]
   simp
   omega
  unfold fault
  rw [if_neg (by rw [g1,g2];simp),if_neg (by unfold Vbrgae.THINGS;omega)]
 ·unfold beginning
  rw [h2.2.1]
theorem CW (T:i5 P w K mg Cb Cs)(Z:Lm K mg base ts):k7 P w K mg base 10 "tell_needed" ["session","numbers","row"] (t7 (C7 Cb Cs ts 10)):=by
 refine T.d_tell_needed.ok (N:=["session","numbers","row","board","codes","without","acts"]) ⟨rfl,rfl,rfl,by rfl',rfl,by rfl',by rfl'⟩ (fun _ _ _ _=>l3) (fun vs H Q E h f cdv A outer s E' hr=>?_)
 obtain ⟨_,_,_,rfl,s0,g,n,tl,nu,ro,ns,rs,c,rfl,rfl,rfl,ss,hn,hnu,hro,hrt,hc,hg,k⟩:=h
 have nd:(["session","numbers","row","board","codes","without","acts"]:List Str).Nodup:=by rfl'
 refine ⟨_,(d7 (j4 (i:=3) nd rfl (Or.inl rfl) (g9 (pv 0) rfl)) (d7 (m7 (u5 CH (j8 p5 (pv 1) j0 (fun _ _=>rfl)) (A2 C1 (by rfl) T.b_len PySem.boot_len (c7 (g9 (pv 3) rfl) c9)) (o8 _)) (f7 (i0 (l5 (c7 (i8 T.g_NO_SUCH) c9)))) m8) (d7 (j4 (i:=4) nd rfl (Or.inl rfl) (n9 (Bf T) hr (by decide) (c7 (g9 (pv 3) rfl) (c7 (j8 p5 (g9 (pv 3) rfl) (j8 p5 (pv 1) j0 (fun _ _=>rfl)) (fun _ _=>rfl)) c9)))) (d7 (j4 (i:=5) nd rfl (Or.inl rfl) (kX (nL T) T.mg_Board hr (by decide) (c7 (g9 (pv 3) rfl) (c7 (g9 (pv 3) rfl) (c7 (pv 4) c9))))) (d7 (j4 (i:=6) nd rfl (Or.inl rfl) (n9 (rD T Z) hr (by decide) (c7 (pv 5) (c7 (C0 (eX T) hr (by decide) T.cl_Board (pv 5)) c9)))) (f7 (i0 (l5 (c7 (i8 T.g_DONE) (c7 (L6 (K2 (bA (pv 6))) j0 j0) c9)))))))))),?_⟩
 obtain ⟨dx,sp,p,a,L,now,past,hv,rfl,o,hpl⟩:=ss.open_ (hg (by decide))
 have tb:=ss.1
 obtain ⟨j,rfl,hj5,rfl⟩:=gO hc
 have R:=o.bd.R
 have hsz:=R.size_le
 have est:Vbrgae.step ⟨some ⟨boardOf L,beginning L,now,past⟩⟩ (.needed (j:Int))=if within (j:Int) 0 (((thingsIn L.cells).length:Int) - 1)=false then (⟨some ⟨boardOf L,beginning L,now,past⟩⟩,[-3]) else (⟨some ⟨boardOf L,beginning L,now,past⟩⟩,[0,Vbrgae.bit (Vbrgae.least (boardOf (without L ((thingsIn L.cells).getD j 0))) (over (boardOf (without L ((thingsIn L.cells).getD j 0)))) (beginning L)).isNone]):=by
  show (Vbrgae.State.mk (some (Vbrgae.onGame _ _).1),(Vbrgae.onGame _ _).2)=_
  unfold Vbrgae.onGame
  dsimp only
  show (Vbrgae.State.mk (some (if within (j:Int) 0 (((thingsIn L.cells).length:Int) - 1)=false then _ else _:Game×List Int).1),(if within (j:Int) 0 (((thingsIn L.cells).length:Int) - 1)=false then _ else _:Game×List Int).2)=_
  by_cases h:within (j:Int) 0 (((thingsIn L.cells).length:Int) - 1)=false
  ·rw [if_pos h,if_pos h]
  ·rw [if_neg h,if_neg h]
   rfl
 rw [est] at k
 refine ⟨_,rfl,j5 o.ins T.cl_Session T.nS_board (A0 _ _ _) ?_⟩
 refine ⟨_,rfl,nu,_,_,_,rfl,rfl,SqL.of hnu,l7 (j:=0) rfl,_,rfl,o.bd.f_things T ⟨_,_,rfl,.inl (SqL.of o.bd.things),_,_,rfl,rfl,_,rfl,?_⟩⟩
 rw [List.length_map]
 by_cases hj:¬j < (thingsIn L.cells).length
 ·have hw:within (j:Int) 0 (((thingsIn L.cells).length:Int) - 1)=false:=by
   rw [←Bool.not_eq_true,within_iff]
   omega
  rw [if_pos hw] at k
  have hge:decide (((thingsIn L.cells).length:Int)≤(j:Int))=true:=decide_eq_true (by omega)
  rw [hge]
  exact k8 ⟨(by show 1≤sizeLine;decide),fun l hl=>k _ _ (Res.keep (l:=l) o tb ((Kp.refl o.bd tb).same (Same.new hl)) hpl rfl hl c8 (by show 1≤60000;decide))⟩
 have hj:j < (thingsIn L.cells).length:=Decidable.of_not_not hj
 have hw:¬within (j:Int) 0 (((thingsIn L.cells).length:Int) - 1)=false:=by
  rw [Bool.not_eq_false,within_iff]
  omega
 rw [if_neg hw] at k
 have hge:decide (((thingsIn L.cells).length:Int)≤(j:Int))=false:=decide_eq_false (by omega)
 rw [hge]
 obtain ⟨i,hi⟩:∃i,(thingsIn L.cells)[j]?=some i:=⟨_,List.getElem?_eq_getElem hj⟩
 have egd:(thingsIn L.cells).getD j 0=i:=by rw [List.getD_eq_getElem?_getD,hi];rfl
 rw [egd] at k
 have him:=List.mem_of_getElem? hi
 obtain ⟨R',eb⟩:=ED R him
 obtain ⟨hil,_⟩:=things_mem.mp him
 refine k4 ⟨_,rfl,o.bd.f_codes T ⟨_,rfl,o.bd.f_things T ⟨_,rfl,nu,_,_,_,rfl,rfl,SqL.of hnu,l7 (j:=0) rfl,_,_,_,_,rfl,rfl,SqL.of o.bd.things,l7 (j:=j) (by rw [List.getElem?_map,hi];rfl),_,_,rfl,a.ca,L.cells,i,rfl,rfl,⟨o.bd.codes,by rw [R.len];omega⟩,hil,fun H1 l1 s1 hl1 hx1=>?_⟩⟩⟩
 have o1:=o.same s1
 refine ⟨_,rfl,o1.bd.f_width T ⟨_,rfl,o1.bd.f_height T ⟨_,rfl,fun p' pdx hp hpd npd=>?_⟩⟩⟩
 have f2:∀b u,H1 b=some u→a8 (a8 H1 pdx (.own p')) p' (.ins Cb pdx []) b=some u:=fun b u e=>by
  rw [a9 (d8 e hp),a9 (d8 e hpd)]
  exact e
 refine ⟨_,_,_,_,rfl,p',pdx,without L i,l1,rfl,rfl,rfl,rfl,R',c8,f2 _ _ hx1,fun H3 a' B3 bt3 hk3 _ _=>⟨rfl,?_⟩⟩
 have f3:∀b u,H b=some u→H3 b=some u:=fun b u e=>bt3 b u (f2 _ _ (s1 _ _ e)) (d8 (s1 _ _ e) hp)
 have tb3:Tbs H3 ts:=tb.keep (fun b ps e=>f3 _ _ e) (fun c q e=>f3 _ _ e)
 refine ⟨_,rfl,_,rfl,p',a'.dx,_,rfl,B3.ins,o6 _ _ (by rfl'),_,rfl,p',a',without L i,rfl,B3.toBs0,_,_,rfl,p',a',without L i,beginning (without L i),rfl,rfl,B3,V9 R',tb3.a1,fun H4 v sb hv4=>?_⟩
 have hkn:H a'.kd=none:=by
  cases q:H a'.kd with
  | none=>rfl
  | some u=>
   rw [f2 _ _ (s1 _ _ q)] at hk3
   cases hk3
 have f4:∀b u,H b=some u→b≠ts.t1→H4 b=some u:=fun b u e n=>sb.frm b u (f3 _ _ e) (fun z=>by rw [z,hkn] at e;cases e) n
 obtain ⟨ps,tps⟩:=tb.tbl (.inl rfl)
 have tb4:Tbs H4 ts:=⟨sb.tab,tb.a2.keep (fun ps e=>f4 _ _ e Z.d.n12.symm) (fun c e=>f4 _ _ e (f8 e tps (by intro z;cases z))),tb.a3.keep (fun ps e=>f4 _ _ e Z.d.n13.symm) (fun c e=>f4 _ _ e (f8 e tps (by intro z;cases z))),tb.a4.keep (fun ps e=>f4 _ _ e Z.d.n14.symm) (fun c e=>f4 _ _ e (f8 e tps (by intro z;cases z)))⟩
 have kp:=Kp.lam (t:=ts.t1) o.bd tb (.inl rfl) f4 tb4
 rw [←eb] at k
 have l2:([.int 0,.int 0]:List V).length≤sizeLine:=by show 2≤sizeLine;decide
 cases e:Vbrgae.least (boardOf (without L i)) (over (boardOf (without L i))) (beginning (without L i)) with
 | none=>
  rw [e] at hv4 k
  obtain rfl:v=.non:=hv4
  exact ⟨_,rfl,_,rfl,k8 ⟨l2,fun l hl=>k _ _ (Res.keep (l:=l) o tb (kp.same (Same.new hl)) hpl (by rw [eb]) (kp.new hl) c8 (by show 2≤60000;decide))⟩⟩
 | some z=>
  rw [e] at hv4 k
  obtain ⟨r,rfl,_⟩:=hv4
  have hno:decide (V.ref r=V.non)=false:=decide_eq_false (by intro z;cases z)
  refine ⟨_,rfl,_,rfl,?_⟩
  rw [hno]
  exact k4 ⟨l2,fun l hl=>k _ _ (Res.keep (l:=l) o tb (kp.same (Same.new hl)) hpl (by rw [eb]) (kp.new hl) c8 (by show 2≤60000;decide))⟩
abbrev C6:=Str×List (Int×Int)×List Int
def ctab:List C6:=[(("open_level":Str),[(2,10),(2,10)],[0,21]),(("do_act":Str),[(0,4)],[]),(("take_back":Str),[],[]),(("start_again":Str),[],[]),(("tell_here":Str),[],[]),(("least_list":Str),[],[]),(("far_list":Str),[(0,9),(0,9)],[]),(("tell_reach":Str),[],[]),(("tell_spoilt":Str),[],[]),(("spoil_list":Str),[],[]),(("tell_needed":Str),[(0,5)],[]),(("try_acts":Str),[],[0,4]),(("edit_cell":Str),[(0,9),(0,9),(0,21)],[]),(("tell_ways":Str),[],[]),(("tell_things":Str),[],[]),(("tell_state":Str),[],[])]
theorem in1 {k i:Nat} {ns rs:List Int} {c:Call} {row:C6} {x:Int} {l:Int×Int} (h:t6 k ns rs=some c) (hk:ctab[k]?=some row) (hx:ns[i]?=some x) (hl:row.2.1[i]?=some l):within x l.1 l.2=true:=by
 match k,hk,h with
 | 0,hk,h=>
  obtain rfl:=Option.some.inj hk
  obtain ⟨w,h',rfl,a1,a2,a3,a4,a5,a6,rfl⟩:=bN h
  match i,hx,hl with
  | 0,hx,hl=>
   cases hx
   cases hl
   rw [within_iff]
   omega
  | 1,hx,hl=>
   cases hx
   cases hl
   rw [within_iff]
   omega
  | i+2,hx,hl=>simp at hl
 | 1,hk,h=>
  obtain rfl:=Option.some.inj hk
  obtain ⟨d,rfl,a1,rfl⟩:=fO h
  match i,hx,hl with
  | 0,hx,hl=>
   cases hx
   cases hl
   rw [within_iff]
   omega
  | i+1,hx,hl=>simp at hl
 | 2,hk,h=>
  obtain rfl:=Option.some.inj hk
  simp at hl
 | 3,hk,h=>
  obtain rfl:=Option.some.inj hk
  simp at hl
 | 4,hk,h=>
  obtain rfl:=Option.some.inj hk
  simp at hl
 | 5,hk,h=>
  obtain rfl:=Option.some.inj hk
  simp at hl
 | 6,hk,h=>
  obtain rfl:=Option.some.inj hk
  obtain ⟨x1,y1,rfl,a1,a2,rfl⟩:=eM h
  match i,hx,hl with
  | 0,hx,hl=>
   cases hx
   cases hl
   rw [within_iff]
   omega
  | 1,hx,hl=>
   cases hx
   cases hl
   rw [within_iff]
   omega
  | i+2,hx,hl=>simp at hl
 | 7,hk,h=>
  obtain rfl:=Option.some.inj hk
  simp at hl
 | 8,hk,h=>
  obtain rfl:=Option.some.inj hk
  simp at hl
 | 9,hk,h=>
  obtain rfl:=Option.some.inj hk
  simp at hl
 | 10,hk,h=>
  obtain rfl:=Option.some.inj hk
  obtain ⟨j,rfl,a1,rfl⟩:=gO h
  match i,hx,hl with
  | 0,hx,hl=>
   cases hx
   cases hl
   rw [within_iff]
   omega
  | i+1,hx,hl=>simp at hl
 | 11,hk,h=>
  obtain rfl:=Option.some.inj hk
  simp at hl
 | 12,hk,h=>
  obtain rfl:=Option.some.inj hk
  obtain ⟨x1,y1,t1,rfl,a1,a2,a3,rfl⟩:=gN h
  match i,hx,hl with
  | 0,hx,hl=>
   cases hx
   cases hl
   rw [within_iff]
   omega
  | 1,hx,hl=>
   cases hx
   cases hl
   rw [within_iff]
   omega
  | 2,hx,hl=>
   cases hx
   cases hl
   rw [within_iff]
   omega
  | i+3,hx,hl=>simp at hl
 | 13,hk,h=>
  obtain rfl:=Option.some.inj hk
  simp at hl
 | 14,hk,h=>
  obtain rfl:=Option.some.inj hk
  simp at hl
 | 15,hk,h=>
  obtain rfl:=Option.some.inj hk
  simp at hl
 | k+16,hk,h=>simp [ctab] at hk
theorem uJ {k:Nat} {ns rs:List Int} {c:Call} {row:C6} {x lo hi:Int} (h:t6 k ns rs=some c) (hk:ctab[k]?=some row) (hx:x∈rs) (hr:row.2.2=[lo,hi]):within x lo hi=true:=by
 match k,hk,h with
 | 0,hk,h=>
  obtain rfl:=Option.some.inj hk
  cases hr
  obtain ⟨w,h',rfl,a1,a2,a3,a4,a5,a6,rfl⟩:=bN h
  exact within_iff.mpr (a6 x hx)
 | 1,hk,h=>
  obtain rfl:=Option.some.inj hk
  cases hr
 | 2,hk,h=>
  obtain rfl:=Option.some.inj hk
  cases hr
 | 3,hk,h=>
  obtain rfl:=Option.some.inj hk
  cases hr
 | 4,hk,h=>
  obtain rfl:=Option.some.inj hk
  cases hr
 | 5,hk,h=>
  obtain rfl:=Option.some.inj hk
  cases hr
 | 6,hk,h=>
  obtain rfl:=Option.some.inj hk
  cases hr
 | 7,hk,h=>
  obtain rfl:=Option.some.inj hk
  cases hr
 | 8,hk,h=>
  obtain rfl:=Option.some.inj hk
  cases hr
 | 9,hk,h=>
  obtain rfl:=Option.some.inj hk
  cases hr
 | 10,hk,h=>
  obtain rfl:=Option.some.inj hk
  cases hr
 | 11,hk,h=>
  obtain rfl:=Option.some.inj hk
  cases hr
  obtain ⟨l1,rfl,a1,a2,rfl⟩:=gQ h
  obtain ⟨d,hd,rfl⟩:=List.mem_map.mp hx
  have:=a1 d hd
  rw [within_iff]
  omega
 | 12,hk,h=>
  obtain rfl:=Option.some.inj hk
  cases hr
 | 13,hk,h=>
  obtain rfl:=Option.some.inj hk
  cases hr
 | 14,hk,h=>
  obtain rfl:=Option.some.inj hk
  cases hr
 | 15,hk,h=>
  obtain rfl:=Option.some.inj hk
  cases hr
 | k+16,hk,h=>simp [ctab] at hk
theorem T7 {b:Bool} {c:Call} (h:b=true):∃d,when_ b c=some d:=⟨c,by rw [h];rfl⟩
theorem iH {k:Nat} {ns rs:List Int} {row:C6} (hk:ctab[k]?=some row) (hn:ns.length=row.2.1.length) (h1:∀(i:Nat) (x:Int) (l:Int×Int),ns[i]?=some x→row.2.1[i]?=some l→within x l.1 l.2=true) (h2:∀x∈rs,∀lo hi,row.2.2=[lo,hi]→within x lo hi=true) (hz:rs.length≤200) (h0:k=0→∀w h,ns=[w,h]→(rs.length:Int)=w*h):∃c,t6 k ns rs=some c:=by
 match k,hk with
 | 0,hk=>
  obtain rfl:=Option.some.inj hk
  obtain ⟨x0,x1,rfl⟩:∃x0 x1,ns=[x0,x1]:=by
   match ns,hn with
   | [x0,x1],_=>exact ⟨x0,x1,rfl⟩
  exact T7 (by rw [Bool.and_eq_true,Bool.and_eq_true,Bool.and_eq_true,decide_eq_true_iff,List.all_eq_true];exact ⟨h1 0 x0 (2,10) rfl rfl,h1 1 x1 (2,10) rfl rfl,h0 rfl x0 x1 rfl,fun t ht=>h2 t ht 0 21 rfl⟩)
 | 1,hk=>
  obtain rfl:=Option.some.inj hk
  obtain ⟨x0,rfl⟩:∃x0,ns=[x0]:=by
   match ns,hn with
   | [x0],_=>exact ⟨x0,rfl⟩
  exact T7 (h1 0 x0 (0,4) rfl rfl)
 | 2,hk=>
  obtain rfl:=Option.some.inj hk
  obtain rfl:ns=[]:=by
   match ns,hn with
   | [],_=>exact rfl
  exact ⟨_,rfl⟩
 | 3,hk=>
  obtain rfl:=Option.some.inj hk
  obtain rfl:ns=[]:=by
   match ns,hn with
   | [],_=>exact rfl
  exact ⟨_,rfl⟩
 | 4,hk=>
  obtain rfl:=Option.some.inj hk
  obtain rfl:ns=[]:=by
   match ns,hn with
   | [],_=>exact rfl
  exact ⟨_,rfl⟩
 | 5,hk=>
  obtain rfl:=Option.some.inj hk
  obtain rfl:ns=[]:=by
   match ns,hn with
   | [],_=>exact rfl
  exact ⟨_,rfl⟩
 | 6,hk=>
  obtain rfl:=Option.some.inj hk
  obtain ⟨x0,x1,rfl⟩:∃x0 x1,ns=[x0,x1]:=by
   match ns,hn with
   | [x0,x1],_=>exact ⟨x0,x1,rfl⟩
  exact T7 (by rw [Bool.and_eq_true];exact ⟨h1 0 x0 (0,9) rfl rfl,h1 1 x1 (0,9) rfl rfl⟩)
 | 7,hk=>
  obtain rfl:=Option.some.inj hk
  obtain rfl:ns=[]:=by
   match ns,hn with
   | [],_=>exact rfl
  exact ⟨_,rfl⟩
 | 8,hk=>
  obtain rfl:=Option.some.inj hk
  obtain rfl:ns=[]:=by
   match ns,hn with
   | [],_=>exact rfl
  exact ⟨_,rfl⟩
 | 9,hk=>
  obtain rfl:=Option.some.inj hk
  obtain rfl:ns=[]:=by
   match ns,hn with
   | [],_=>exact rfl
  exact ⟨_,rfl⟩
 | 10,hk=>
  obtain rfl:=Option.some.inj hk
  obtain ⟨x0,rfl⟩:∃x0,ns=[x0]:=by
   match ns,hn with
   | [x0],_=>exact ⟨x0,rfl⟩
  exact T7 (h1 0 x0 (0,5) rfl rfl)
 | 11,hk=>
  obtain rfl:=Option.some.inj hk
  obtain rfl:ns=[]:=by
   match ns,hn with
   | [],_=>exact rfl
  exact T7 (by rw [Bool.and_eq_true,decide_eq_true_iff,List.all_eq_true];exact ⟨hz,fun t ht=>h2 t ht 0 4 rfl⟩)
 | 12,hk=>
  obtain rfl:=Option.some.inj hk
  obtain ⟨x0,x1,x2,rfl⟩:∃x0 x1 x2,ns=[x0,x1,x2]:=by
   match ns,hn with
   | [x0,x1,x2],_=>exact ⟨x0,x1,x2,rfl⟩
  exact T7 (by rw [Bool.and_eq_true,Bool.and_eq_true];exact ⟨h1 0 x0 (0,9) rfl rfl,h1 1 x1 (0,9) rfl rfl,h1 2 x2 (0,21) rfl rfl⟩)
 | 13,hk=>
  obtain rfl:=Option.some.inj hk
  obtain rfl:ns=[]:=by
   match ns,hn with
   | [],_=>exact rfl
  exact ⟨_,rfl⟩
 | 14,hk=>
  obtain rfl:=Option.some.inj hk
  obtain rfl:ns=[]:=by
   match ns,hn with
   | [],_=>exact rfl
  exact ⟨_,rfl⟩
 | 15,hk=>
  obtain rfl:=Option.some.inj hk
  obtain rfl:ns=[]:=by
   match ns,hn with
   | [],_=>exact rfl
  exact ⟨_,rfl⟩
 | k+16,hk=>simp [ctab] at hk
theorem zE {k:Nat} {ns rs:List Int} {c:Call} {row:C6} (h:t6 k ns rs=some c) (hk:ctab[k]?=some row) (k0:k≠0):Vbrgae.step ⟨none⟩ c=(⟨none⟩,[-2]):=by
 match k,hk,h with
 | 0,hk,h=>exact absurd rfl k0
 | 1,hk,h=>
  obtain ⟨d,rfl,a1,rfl⟩:=fO h
  rfl
 | 2,hk,h=>
  obtain rfl:=oC h
  rfl
 | 3,hk,h=>
  obtain rfl:=qZ h
  rfl
 | 4,hk,h=>
  obtain rfl:=kN h
  rfl
 | 5,hk,h=>
  obtain rfl:=nG h
  rfl
 | 6,hk,h=>
  obtain ⟨x1,y1,rfl,a1,a2,rfl⟩:=eM h
  rfl
 | 7,hk,h=>
  obtain rfl:=nJ h
  rfl
 | 8,hk,h=>
  obtain rfl:=qA h
  rfl
 | 9,hk,h=>
  obtain rfl:=lZ h
  rfl
 | 10,hk,h=>
  obtain ⟨j,rfl,a1,rfl⟩:=gO h
  rfl
 | 11,hk,h=>
  obtain ⟨l1,rfl,a1,a2,rfl⟩:=gQ h
  rfl
 | 12,hk,h=>
  obtain ⟨x1,y1,t1,rfl,a1,a2,a3,rfl⟩:=gN h
  rfl
 | 13,hk,h=>
  obtain rfl:=mS h
  rfl
 | 14,hk,h=>
  obtain rfl:=iI h
  rfl
 | 15,hk,h=>
  obtain rfl:=nP h
  rfl
 | k+16,hk,h=>simp [ctab] at hk
def anyC (P:Program) (w:World) (K:PySem.W.Frag) (mg:Str→Option Value) (base:Heap) (Cb Cs:Addr) (ts:Tn) (k:Nat) (x:Str):Prop:=∃j,j≤14∧k7 P w K mg base j x ["session","numbers","row"] (t7 (C7 Cb Cs ts k))
theorem tK {P:Program} {w:World} {K:PySem.W.Frag} {mg:Str→Option Value} {base:Heap} {Cb Cs:Addr} {ts:Tn} (T:i5 P w K mg Cb Cs) (Z:Lm K mg base ts) {k:Nat} {row:C6} (hk:ctab[k]?=some row):anyC P w K mg base Cb Cs ts k row.1:=by
 match k,hk with
 | 0,hk=>
  obtain rfl:=Option.some.inj hk
  exact ⟨_,by decide,wB T⟩
 | 1,hk=>
  obtain rfl:=Option.some.inj hk
  exact ⟨_,by decide,BJ T⟩
 | 2,hk=>
  obtain rfl:=Option.some.inj hk
  exact ⟨_,by decide,Em T⟩
 | 3,hk=>
  obtain rfl:=Option.some.inj hk
  exact ⟨_,by decide,sX T⟩
 | 4,hk=>
  obtain rfl:=Option.some.inj hk
  exact ⟨_,by decide,BX T⟩
 | 5,hk=>
  obtain rfl:=Option.some.inj hk
  exact ⟨_,by decide,tO T Z⟩
 | 6,hk=>
  obtain rfl:=Option.some.inj hk
  exact ⟨_,by decide,uV T Z⟩
 | 7,hk=>
  obtain rfl:=Option.some.inj hk
  exact ⟨_,by decide,zF T Z⟩
 | 8,hk=>
  obtain rfl:=Option.some.inj hk
  exact ⟨_,by decide,Dy T Z⟩
 | 9,hk=>
  obtain rfl:=Option.some.inj hk
  exact ⟨_,by decide,Ep T Z⟩
 | 10,hk=>
  obtain rfl:=Option.some.inj hk
  exact ⟨_,by decide,CW T Z⟩
 | 11,hk=>
  obtain rfl:=Option.some.inj hk
  exact ⟨_,by decide,vX T⟩
 | 12,hk=>
  obtain rfl:=Option.some.inj hk
  exact ⟨_,by decide,DP T⟩
 | 13,hk=>
  obtain rfl:=Option.some.inj hk
  exact ⟨_,by decide,Er T⟩
 | 14,hk=>
  obtain rfl:=Option.some.inj hk
  exact ⟨_,by decide,wF T⟩
 | 15,hk=>
  obtain rfl:=Option.some.inj hk
  exact ⟨_,by decide,tI T⟩
 | k+16,hk=>simp [ctab] at hk
structure aR (K:PySem.W.Frag) (mg:Str→Option Value) (e:Addr) (row:C6) (f n r:Addr) (ps:List Addr):Prop where
 fn:mg row.1=some (.ref f)
 at_:∀H,SqT K H e [.ref f,.ref n,.ref r]
 lims:∀H,SqT K H n (ps.map V.ref)
 len:ps.length=row.2.1.length
 lim:∀(j:Nat) (p:Addr) (l:Int×Int),ps[j]?=some p→row.2.1[j]?=some l→∀H,SqT K H p [.int l.1,.int l.2]
 row_:∀H,SqT K H r (row.2.2.map V.int)
def gI (K:PySem.W.Frag) (mg:Str→Option Value) (a:Addr) (es:List Addr):Prop:=(∀H,SqT K H a (es.map V.ref))∧∀(k:Nat) (row:C6),ctab[k]?=some row→∃e f n r ps,es[k]?=some e∧aR K mg e row f n r ps
structure GC (K:PySem.W.Frag) (mg:Str→Option Value):Prop where
 ex:∃a es,mg "CALLS"=some (.ref a)∧gI K mg a es
def Dl (K:PySem.W.Frag) (mg:Str→Option Value):TE:=fun _ H Q=>∀a es,gI K mg a es→Q (.ref a) H
theorem W3 {X:Cx} {pos:Pos} (G:GC X.K X.mg) (hg:Gl X "CALLS":=by rfl):PE X (.Name "CALLS" pos) (Dl X.K X.mg):=by
 obtain ⟨a,es,h1,h2⟩:=G.ex
 intro pins s σ H Q I h
 exact fQ h1 hg (by decide) pins s σ H Q I (h a es h2)
def xQ:P1:=fun x H Q=>∃k row,x=nv k∧ctab[k]?=some row∧Q (nv row.2.1.length) H
theorem tZ (T:i5 P w K mg Cb Cs)(G:GC K mg):k7 P w K mg base 1 "count_numbers" ["call"] (sp1 xQ):=by
 refine T.d_count_numbers.ok (N:=["call"]) ⟨rfl,rfl,rfl,by rfl',rfl,by rfl',by rfl'⟩ (fun _ _ _ _=>l1) (fun vs H Q E h f cdv A outer s E' hr=>?_)
 obtain ⟨_,rfl,k,row,rfl,hk,q⟩:=h
 have nd:(["call"]:List Str).Nodup:=by rfl'
 refine ⟨_,(f7 (i0 (A2 C1 (by rfl) T.b_len PySem.boot_len (c7 (j8 y4 (j8 y4 (W3 G) (pv 0) (fun _ _=>rfl)) j0 (fun _ _=>rfl)) c9)))),?_⟩
 intro a es h
 obtain ⟨e,f1,n1,r1,ps,he,ro⟩:=h.2 k row hk
 refine ⟨_,rfl,a,_,_,_,rfl,rfl,h.1 _,l7 (by rw [List.getElem?_map,he];rfl),e,_,_,_,rfl,rfl,ro.at_ _,l7 (j:=1) rfl,n1,_,rfl,.inr (ro.lims _),?_⟩
 rw [List.length_map,ro.len]
 exact q
def BV:P1:=fun x H Q=>∃k row,x=nv k∧ctab[k]?=some row∧Q (.bl (decide (0 < row.2.2.length))) H
theorem sA (T:i5 P w K mg Cb Cs)(G:GC K mg):k7 P w K mg base 1 "has_row" ["call"] (sp1 BV):=by
 refine T.d_has_row.ok (N:=["call"]) ⟨rfl,rfl,rfl,by rfl',rfl,by rfl',by rfl'⟩ (fun _ _ _ _=>l1) (fun vs H Q E h f cdv A outer s E' hr=>?_)
 obtain ⟨_,rfl,k,row,rfl,hk,q⟩:=h
 have nd:(["call"]:List Str).Nodup:=by rfl'
 refine ⟨_,(f7 (i0 (G1 eZ (A2 C1 (by rfl) T.b_len PySem.boot_len (c7 (j8 y4 (j8 y4 (W3 G) (pv 0) (fun _ _=>rfl)) j0 (fun _ _=>rfl)) c9)) j0 (o8 _)))),?_⟩
 intro a es h
 obtain ⟨e,f1,n1,r1,ps,he,ro⟩:=h.2 k row hk
 refine ⟨_,rfl,a,_,_,_,rfl,rfl,h.1 _,l7 (by rw [List.getElem?_map,he];rfl),e,_,_,_,rfl,rfl,ro.at_ _,l7 (j:=2) rfl,r1,_,rfl,.inr (ro.row_ _),?_⟩
 rw [List.length_map]
 refine ⟨_,_,rfl,rfl,?_⟩
 have e:decide ((0:Int) < (row.2.2.length:Int))=decide (0 < row.2.2.length):=by
  by_cases z:0 < row.2.2.length
  ·rw [decide_eq_true z,decide_eq_true (by omega)]
  ·rw [decide_eq_false z,decide_eq_false (by omega)]
 rw [←e] at q
 exact q
def DZ (K:PySem.W.Frag):P2:=fun x y H Q=>∃i a lo hi,x=.int i∧y=.ref a∧SqT K H a [.int lo,.int hi]∧Q (.bl (within i lo hi)) H
theorem qV (T:i5 P w K mg Cb Cs):k7 P w K mg base 1 "is_within" ["number","limits"] (x4 (DZ K)):=by
 refine T.d_is_within.ok (N:=["number","limits"]) ⟨rfl,rfl,rfl,by rfl',rfl,by rfl',by rfl'⟩ (fun _ _ _ _=>l2) (fun vs H Q E h f cdv A outer s E' hr=>?_)
 obtain ⟨_,_,rfl,i,a,lo,hi,rfl,rfl,hs,q⟩:=h
 have nd:(["number","limits"]:List Str).Nodup:=by rfl'
 refine ⟨_,(f7 (i0 (uR cC cC (j8 y4 (pv 1) j0 (fun _ _=>rfl)) (pv 0) (j8 y4 (pv 1) j0 (fun _ _=>rfl))))),?_⟩
 refine ⟨_,rfl,a,_,_,_,rfl,rfl,hs,l7 (j:=0) rfl,_,rfl,_,_,rfl,rfl,_,rfl,?_⟩
 unfold Vbrgae.within at q
 cases e:decide (lo≤i) with
 | false=>
  rw [e] at q
  exact k4 q
 | true=>
  rw [e] at q
  exact k8 ⟨_,rfl,a,_,_,_,rfl,rfl,hs,l7 (j:=1) rfl,_,_,rfl,rfl,q⟩
def wN:P3:=fun x y z H Q=>∃k row nu ro ns rs,x=nv k∧y=.ref nu∧z=.ref ro∧ctab[k]?=some row∧H nu=some (.lst (ns.map V.int))∧H ro=some (.lst (rs.map V.int))∧ns.length=row.2.1.length∧(row.2.2=[]→rs=[])∧rs.length≤200∧∀H',Same H H'→Q (.bl (t6 k ns rs).isNone) H'
theorem gM {k:Nat} {ns rs:List Int} {p:Prop} (h:∀c,t6 k ns rs=some c→p) (n:¬p):(t6 k ns rs).isNone=true:=by
 cases e:t6 k ns rs with
 | none=>rfl
 | some c=>exact absurd (h c e) n
theorem uG {k:Nat} {row:C6} (hk:ctab[k]?=some row) (h:row.2.2≠[]):∃lo hi,row.2.2=[lo,hi]:=by
 have:∀r∈ctab,r.2.2≠[]→∃lo hi,r.2.2=[lo,hi]:=by
  intro r hr
  simp [ctab] at hr
  rcases hr with rfl|rfl|rfl|rfl|rfl|rfl|rfl|rfl|rfl|rfl|rfl|rfl|rfl|rfl|rfl|rfl<;>intro h<;>first | exact absurd rfl h|exact ⟨_,_,rfl⟩
 exact this row (List.mem_of_getElem? hk) h
theorem Ek (T:i5 P w K mg Cb Cs)(G:GC K mg):k7 P w K mg base 2 "is_outside" ["call","numbers","row"] (t7 wN):=by
 refine T.d_is_outside.ok (N:=["call","numbers","row","number","limits"]) ⟨rfl,rfl,rfl,by rfl',rfl,by rfl',by rfl'⟩ (fun _ _ _ _=>l3) (fun vs H Q E h f cdv A outer s E' hr=>?_)
 obtain ⟨_,_,_,rfl,k,row,nu,ro,ns,rs,rfl,rfl,rfl,hk,hnu,hro,hlen,hrow,hz,q⟩:=h
 have nd:(["call","numbers","row","number","limits"]:List Str).Nodup:=by rfl'
 refine ⟨_,(d7 (B9 PassesOwn.never rfl (xJ rfl T.b_zip (c7 (pv 1) (c7 (j8 y4 (j8 y4 (W3 G) (pv 0) (fun _ _=>rfl)) j0 (fun _ _=>rfl)) c9))) (T2 rfl (J9 (n8 (i:=3) nd rfl (Or.inl rfl)) (J9 (n8 (i:=4) nd rfl (Or.inl rfl)) U0))) (f7 (m7 (nV (C8 (n9 (qV T) hr (by decide) (c7 (pv 3) (c7 (pv 4) c9))))) (f7 (i0 R7)) m8))) (d7 (B9 PassesOwn.never rfl (F2 (pv 2)) (n8 (i:=3) nd rfl (Or.inl rfl)) (f7 (m7 (nV (C8 (n9 (qV T) hr (by decide) (c7 (pv 3) (c7 (j8 y4 (j8 y4 (W3 G) (pv 0) (fun _ _=>rfl)) j0 (fun _ _=>rfl)) c9))))) (f7 (i0 R7)) m8))) (f7 (i0 (EH (G1 D4 (pv 0) (i8 T.g_OPEN_LEVEL) (o8 _)) (fF (G1 G8 (A2 C1 (by rfl) T.b_len PySem.boot_len (c7 (pv 2) c9)) (j6 eS (j8 p5 (pv 1) j0 (fun _ _=>rfl)) (j8 p5 (pv 1) j0 (fun _ _=>rfl))) (o8 _)))))))),?_⟩
 refine ⟨_,rfl,fun a es h=>?_⟩
 obtain ⟨e,f1,n1,r1,ps,he,ra⟩:=h.2 k row hk
 refine ⟨_,rfl,a,_,_,_,rfl,rfl,h.1 _,l7 (by rw [List.getElem?_map,he];rfl),e,_,_,_,rfl,rfl,ra.at_ _,l7 (j:=1) rfl,nu,n1,_,_,rfl,SqL.of hnu,ra.lims _,?_⟩
 refine bP (n:=ns.length) (fun i σ H'=>∃v3 v4,σ=[some (nv k),some (.ref nu),some (.ref ro),v3,v4]∧Same H H'∧∀(j:Nat) (x:Int) (l:Int×Int),j < i→ns[j]?=some x→row.2.1[j]?=some l→within x l.1 l.2=true)
  ⟨none,none,rfl,Same.refl _,fun j _ _ z=>absurd z (Nat.not_lt_zero _)⟩ (fun i σ H' hi ⟨_,_,_,sm,_⟩=>?_) ?_ ?_
 ·have hi2:i < ps.length:=by rw [ra.len,←hlen];exact hi
  exact ⟨_,_,_,_,SqL.of (sm _ _ hnu),ra.lims _,by rw [List.getElem?_map,List.getElem?_eq_getElem hi];rfl,by rw [List.getElem?_map,List.getElem?_eq_getElem hi2];rfl⟩
 ·rintro i x σ H1 H2 hi ⟨v3,v4,rfl,sm,hall⟩ ⟨tt,x0,y0,rfl,htt,rfl,hx0,hy0⟩
  have hi2:i < ps.length:=by rw [ra.len,←hlen];exact hi
  have hi3:i < row.2.1.length:=by rw [←hlen];exact hi
  obtain ⟨x,hx⟩:∃x,ns[i]?=some x:=⟨_,List.getElem?_eq_getElem hi⟩
  obtain ⟨p,hp⟩:∃p,ps[i]?=some p:=⟨_,List.getElem?_eq_getElem hi2⟩
  obtain ⟨l,hl⟩:∃l,row.2.1[i]?=some l:=⟨_,List.getElem?_eq_getElem hi3⟩
  obtain rfl:x0=.int x:=by
   have:=hx0 _ (SqL.of (sm _ _ hnu))
   rw [List.getElem?_map,hx] at this
   exact (Option.some.inj this).symm
  obtain rfl:y0=.ref p:=by
   have:=hy0 _ (ra.lims _)
   rw [List.getElem?_map,hp] at this
   exact (Option.some.inj this).symm
  have s2:=sm.trans (Same.new (o:=.tup [.int x,.ref p]) htt)
  refine ⟨tt,_,rfl,SqT.of c8,rfl,?_⟩
  refine ⟨_,_,rfl,_,_,rfl,rfl,_,rfl,_,rfl,_,_,rfl,x,p,l.1,l.2,rfl,rfl,ra.lim i p l hp hl _,_,rfl,?_⟩
  cases ew:within x l.1 l.2 with
  | false=>
   refine k8 ?_
   have:=q _ s2
   rw [gM (fun c h=>in1 h hk hx hl) (by rw [ew];exact Bool.false_ne_true)] at this
   exact this
  | true=>
   refine k4 ⟨_,_,rfl,s2,fun j x' l' hj hx' hl'=>?_⟩
   by_cases z:j < i
   ·exact hall j x' l' z hx' hl'
   ·have:j=i:=by omega
    subst this
    rw [hx] at hx'
    rw [hl] at hl'
    cases hx'
    cases hl'
    exact ew
 ·rintro σ H1 ⟨v3,v4,rfl,sm,hall⟩
  refine ⟨⟨_,SqL.of (sm _ _ hnu),by rw [List.length_map];exact Nat.le_refl _⟩,?_⟩
  have hall1:∀(i:Nat) (x:Int) (l:Int×Int),ns[i]?=some x→row.2.1[i]?=some l→within x l.1 l.2=true:=fun i x l hx hl=>hall i x l (List.getElem?_eq_some_iff.mp hx).1 hx hl
  refine ⟨_,rfl,ro,rfl,⟨_,SqL.of (sm _ _ hro)⟩,K4 (xs:=rs.map V.int) (fun i σ H'=>∃v3 v4,σ=[some (nv k),some (.ref nu),some (.ref ro),v3,v4]∧Same H H'∧∀(j:Nat) (x:Int),j < i→rs[j]?=some x→∀lo hi,row.2.2=[lo,hi]→within x lo hi=true)
   ⟨v3,v4,rfl,sm,fun j _ z=>absurd z (Nat.not_lt_zero _)⟩ (fun i σ H' _ ⟨_,_,_,s1,_⟩=>SqL.of (s1 _ _ hro)) ?_ ?_⟩
  ·rintro i x σ H2 hi ⟨v3,v4,rfl,s2,hr2⟩
   obtain ⟨x,hx,rfl⟩:∃y,rs[i]?=some y∧x=.int y:=by
    rw [List.getElem?_map] at hi
    cases z:rs[i]? with
    | none=>rw [z] at hi;cases hi
    | some y=>rw [z] at hi;exact ⟨y,rfl,(Option.some.inj hi).symm⟩
   have hmem:=List.mem_of_getElem? hx
   obtain ⟨lo,hi',erow⟩:=uG hk (fun z=>by rw [hrow z] at hmem;cases hmem)
   refine ⟨_,rfl,fun a' es' h'=>?_⟩
   obtain ⟨e',f2,n2,r2,ps2,he',ra'⟩:=h'.2 k row hk
   refine ⟨_,rfl,a',_,_,_,rfl,rfl,h'.1 _,l7 (by rw [List.getElem?_map,he'];rfl),e',_,_,_,rfl,rfl,ra'.at_ _,l7 (j:=2) rfl,_,_,rfl,x,r2,lo,hi',rfl,rfl,(by have:=ra'.row_ H2;rw [erow] at this;exact this),_,rfl,?_⟩
   cases ew:within x lo hi' with
   | false=>
    refine k8 ?_
    have:=q _ s2
    rw [gM (fun c h=>uJ h hk hmem erow) (by rw [ew];exact Bool.false_ne_true)] at this
    exact this
   | true=>
    refine k4 ⟨_,_,rfl,s2,fun j x' hj hx' lo' hi'' er=>?_⟩
    by_cases z:j < i
    ·exact hr2 j x' z hx' lo' hi'' er
    ·have:j=i:=by omega
     subst this
     rw [hx] at hx'
     cases hx'
     rw [erow] at er
     cases er
     exact ew
  ·rintro σ H2 ⟨v3,v4,rfl,s2,hr2⟩
   rw [List.length_map] at hr2
   have hall2:∀x∈rs,∀lo hi,row.2.2=[lo,hi]→within x lo hi=true:=fun x hx=>by
    obtain ⟨j,hj⟩:=List.getElem?_of_mem hx
    exact hr2 j x (List.getElem?_eq_some_iff.mp hj).1 hj
   have q2:=q _ s2
   refine ⟨_,rfl,rfl,_,rfl,?_⟩
   by_cases k0:k=0
   ·subst k0
    obtain rfl:row=(((("open_level":Str),[(2,10),(2,10)],[0,21])):C6):=(Option.some.inj hk).symm
    obtain ⟨x0,x1,rfl⟩:∃x0 x1,ns=[x0,x1]:=by
     match ns,hlen with
     | [x0,x1],_=>exact ⟨x0,x1,rfl⟩
    have hw:=within_iff.mp (hall1 0 x0 (2,10) rfl rfl)
    dsimp only at hw
    refine k8 ⟨_,rfl,_,_,rfl,.inl (SqL.of (s2 _ _ hro)),_,rfl,nu,_,_,_,rfl,rfl,SqL.of (s2 _ _ hnu),l7 (j:=0) rfl,_,rfl,nu,_,_,_,rfl,rfl,SqL.of (s2 _ _ hnu),l7 (j:=1) rfl,_,_,rfl,rfl,.inl ⟨by omega,by omega⟩,rfl,?_⟩
    rw [List.length_map]
    have e:(t6 0 [x0,x1] rs).isNone=!decide (V.int (rs.length:Int)=V.int (x0*x1)):=by
     by_cases z:(rs.length:Int)=x0*x1
     ·obtain ⟨c,hc⟩:=iH hk hlen hall1 hall2 hz fun _ w h e=>by cases e;exact z
      rw [hc,decide_eq_true (by rw [z])]
      rfl
     ·have hd:decide (V.int (rs.length:Int)=V.int (x0*x1))=false:=decide_eq_false fun h=>by injection h with h;exact z h
      rw [hd]
      refine gM (p:=(rs.length:Int)=x0*x1) (fun c h=>?_) z
      obtain ⟨w,h',e1,_,_,_,_,e2,_⟩:=bN h
      cases e1
      rw [e2,Int.natCast_mul]
    rw [e] at q2
    exact q2
   ·have hno:decide (nv k=V.int 0)=false:=decide_eq_false fun h=>by injection h with h;omega
    rw [hno]
    refine k4 ?_
    obtain ⟨c,hc⟩:=iH hk hlen hall1 hall2 hz fun z=>absurd z k0
    rw [hc] at q2
    exact q2
def O3 (g:Option Game) (k:Nat) (ns rs:List Int):Vbrgae.State×List Int:=match t6 k ns rs with
 | some c=>Vbrgae.step ⟨g⟩ c
 | none=>(⟨g⟩,[-1])
def CD (Cb Cs:Addr) (ts:Tn):P4:=fun x y z u H Q=>∃s g n tl k nu ro ns rs row,x=.ref s∧y=nv k∧z=.ref nu∧u=.ref ro∧Ss Cb Cs ts H s g n tl∧n≤60∧H nu=some (.lst (ns.map V.int))∧H ro=some (.lst (rs.map V.int))∧ro≠tl∧ctab[k]?=some row∧ns.length=row.2.1.length∧(row.2.2=[]→rs=[])∧rs.length≤200∧
 ∀H' v,Res Cb Cs ts H s n tl (O3 g k ns rs) H' v→Q v H'
theorem Res.old {H0 H H':Hp} {s:Addr} {n:Nat} {tl:Addr} {r:Vbrgae.State×List Int} {v:V} (sm:Same H0 H) (ht:∃xs,H0 tl=some (.lst xs)) (h:Res Cb Cs ts H s n tl r H' v):Res Cb Cs ts H0 s n tl r H' v:=by
 obtain ⟨xs,ex⟩:=ht
 obtain ⟨l,e1,e2,e3⟩:=h.ans
 exact ⟨h.ss,h.tlk.trans ((sm _ _ ex).trans ex.symm),fun b o u e=>h.frz b o u (sm _ _ e),l,e1,sm.free e2,e3⟩
theorem Ss.sameN {H H':Hp} {s:Addr} {g:Option Game} {n:Nat} {tl:Addr} (h:Ss Cb Cs ts H s g n tl) (sm:Same H H'):Ss Cb Cs ts H' s g n tl:=by
 obtain ⟨t,⟨xs,ex⟩,h⟩:=h
 refine ⟨t.keep (fun b ps e=>sm _ _ e) (fun c q e=>sm _ _ e),⟨xs,sm _ _ ex⟩,?_⟩
 cases g with
 | none=>
  obtain ⟨dx,spv,e⟩:=h
  exact ⟨dx,spv,sm _ _ e⟩
 | some G=>
  obtain ⟨dx,sp,p,a,L,now,past,hv,e,o,l⟩:=h
  exact ⟨dx,sp,p,a,L,now,past,hv,e,o.same sm,l⟩
theorem uO (T:i5 P w K mg Cb Cs)(Z:Lm K mg base ts) (G:GC K mg):k7 P w K mg base 15 "answer" ["session","call","numbers","row"] (bI (CD Cb Cs ts)):=by
 refine T.d_answer.ok (N:=["session","call","numbers","row"]) ⟨rfl,rfl,rfl,by rfl',rfl,by rfl',by rfl'⟩ (fun _ _ _ _=>l4) (fun vs H Q E h f cdv A outer s E' hr=>?_)
 obtain ⟨_,_,_,_,rfl,s0,g,n,tl,k,nu,ro,ns,rs,row,rfl,rfl,rfl,rfl,ss,hn,hnu,hro,hrt,hk,hlen,hrow,hz,q⟩:=h
 have nd:(["session","call","numbers","row"]:List Str).Nodup:=by rfl'
 refine ⟨_,(d7 (m7 (C8 (n9 (Ek T G) hr (by decide) (c7 (pv 1) (c7 (pv 2) (c7 (pv 3) c9))))) (f7 (i0 (l5 (c7 (i8 T.g_OUTSIDE_RANGE) c9)))) m8) (d7 (m7 (W2 (u5 G8 (pv 1) (i8 T.g_OPEN_LEVEL) (o8 _)) (cK (K2 (bA (g9 (pv 0) rfl))))).pt (f7 (i0 (l5 (c7 (i8 T.g_NO_LEVEL) c9)))) m8) (f7 (i0 (eV (j8 y4 (j8 y4 (W3 G) (pv 1) (fun _ _=>rfl)) j0 (fun _ _=>rfl)) (c7 (pv 0) (c7 (pv 2) (c7 (pv 3) c9)))))))),?_⟩
 have htl:=ss.2.1
 refine ⟨_,rfl,_,rfl,_,rfl,_,_,_,rfl,k,row,nu,ro,ns,rs,rfl,rfl,rfl,hk,hnu,hro,hlen,hrow,hz,fun H1 s1=>⟨_,rfl,?_⟩⟩
 have ss1:=ss.sameN s1
 unfold O3 at q
 cases ec:t6 k ns rs with
 | none=>
  rw [ec] at q
  exact k8 ⟨(by show 1≤sizeLine;decide),fun l hl=>q _ _ (Res.refuse (l:=l) ss (s1.trans (Same.new hl)) (s1.free hl) c8 (by show 1≤60000;decide))⟩
 | some c=>
  rw [ec] at q
  refine k4 ?_
  obtain ⟨jl,hjl,fp⟩:=tK T Z hk
  obtain ⟨dx,bv,spv,hv,hi⟩:=ss1.ins
  have fin:(k≠0→g≠none)→∀a es,gI K mg a es→∃e f2 n1 r1 ps,es[k]?=some e∧aR K mg e row f2 n1 r1 ps∧CallV (F7 x8 P w K mg base ["session","call","numbers","row"] "answer" (k9 iJ) f cdv A outer s H E').nox f2 [.ref s0,.ref nu,.ref ro] H1 (L2.start ["session","call","numbers","row"] [.ref s0,nv k,.ref nu,.ref ro]) Q:=by
   intro hg a es h
   obtain ⟨e,f,n1,r1,ps,he,ra⟩:=h.2 k row hk
   obtain ⟨f2,fd,h1,h2,h3,h4⟩:=fp
   have ef:Value.ref f2=.ref f:=Option.some.inj (h1.symm.trans ra.fn)
   injection ef with ef
   subst ef
   refine ⟨e,f2,n1,r1,ps,he,ra,CallV.fn h4 (hr.mono hjl) h2 h3 ⟨_,_,_,rfl,s0,g,n,tl,nu,ro,ns,rs,c,rfl,rfl,rfl,ss1,hn,s1 _ _ hnu,s1 _ _ hro,hrt,ec,hg,fun H' v rr=>q _ _ (rr.old s1 htl)⟩⟩
  by_cases k0:k=0
  ·subst k0
   refine ⟨_,rfl,rfl,_,rfl,k4 (k4 fun a es h=>?_)⟩
   obtain ⟨e,f2,n1,r1,ps,he,ra,cv⟩:=fin (fun z=>absurd rfl z) a es h
   exact ⟨_,rfl,a,_,_,_,rfl,rfl,h.1 _,l7 (by rw [List.getElem?_map,he];rfl),_,_,_,_,rfl,rfl,ra.at_ _,l7 (j:=0) rfl,f2,rfl,_,rfl,_,rfl,_,rfl,cv⟩
  ·have hne:(!decide (nv k=V.int 0))=true:=by
    rw [Bool.not_eq_true',decide_eq_false_iff_not]
    intro z
    injection z with z
    omega
   refine ⟨_,rfl,rfl,_,rfl,?_⟩
   rw [hne]
   cases g with
   | none=>
    obtain ⟨dx,spv,hi⟩:=ss1.2.2
    have q:∀H' v,Res Cb Cs ts H s0 n tl (Vbrgae.step ⟨none⟩ c) H' v→Q v H':=q
    rw [zE ec hk k0] at q
    exact k8 ⟨_,rfl,j5 hi T.cl_Session T.nS_board (A0 _ _ _) ⟨_,rfl,k8 ⟨(by show 1≤sizeLine;decide),fun l hl=>q _ _ (Res.refuse (l:=l) ss (s1.trans (Same.new hl)) (s1.free hl) c8 (by show 1≤60000;decide))⟩⟩⟩
   | some G0=>
    obtain ⟨dx,sp,p,a0,L,now,past,hv,e0,o,_⟩:=ss1.2.2
    have hno:decide (V.ref p=V.non)=false:=decide_eq_false (by intro z;cases z)
    refine k8 ⟨_,rfl,j5 o.ins T.cl_Session T.nS_board (A0 _ _ _) ⟨_,rfl,?_⟩⟩
    show if decide (V.ref p=V.non)=true then _ else _
    rw [hno]
    refine k4 fun a es h=>?_
    obtain ⟨e,f2,n1,r1,ps,he,ra,cv⟩:=fin (fun _ z=>by cases z) a es h
    exact ⟨_,rfl,a,_,_,_,rfl,rfl,h.1 _,l7 (by rw [List.getElem?_map,he];rfl),_,_,_,_,rfl,rfl,ra.at_ _,l7 (j:=0) rfl,f2,rfl,_,rfl,_,rfl,_,rfl,cv⟩
theorem rP (n:Nat) (a:List Int) (l:List (List Int)):n < 16→PyVbrgae.whole (((n:Int)::a)::l)=((n:Int)::a)::l:=by
 intro h
 iterate 16
  rcases n with _|n
  ·rcases a with _|⟨_,_|⟨_,_|⟨_,_|⟨_,_⟩⟩⟩⟩<;>rcases l with _|⟨_,_|⟨_,_⟩⟩<;>rfl
 omega
theorem uY (c:List (List Int)):PyVbrgae.whole c=c:=by
 rcases c with _|⟨_|⟨p,a⟩,l⟩
 ·rfl
 ·rfl
 by_cases h:0≤p∧p < 16
 ·obtain ⟨n,rfl⟩:=Int.eq_ofNat_of_zero_le h.1
  exact rP n a l (by omega)
 delta PyVbrgae.whole PyVbrgae.whole.match_1 PyVbrgae.whole._sparseCasesOn_1
 dsimp only
 iterate 16 refine (dif_neg fun e=>h (by rw [e];decide)).trans ?_
 rfl
theorem sM (k:Nat) {n j:Nat} (h:PyVbrgae.shape (k:Int)=some (n,j)) (q:k < 16):∃row,ctab[k]?=some row∧n=row.2.1.length∧((row.2.2=[]∧j=0∧¬(k=0∨k=11))∨(row.2.2≠[]∧j=1∧(k=0∨k=11))):=by
 iterate 16
  rcases k with _|k
  ·cases h
   exact ⟨_,rfl,rfl,by first | exact .inl ⟨rfl,rfl,by decide⟩|exact .inr ⟨List.cons_ne_nil _ _,rfl,by decide⟩⟩
 omega
theorem yT {p:Int} {n j:Nat} (h:PyVbrgae.shape p=some (n,j)):∃k row,p=((k:Nat):Int)∧ctab[k]?=some row∧n=row.2.1.length∧((row.2.2=[]∧j=0∧¬(k=0∨k=11))∨(row.2.2≠[]∧j=1∧(k=0∨k=11))):=by
 by_cases q:0≤p∧p < 16
 ·obtain ⟨k,rfl⟩:=Int.eq_ofNat_of_zero_le q.1
  exact (sM k h (by omega)).elim fun row a=>⟨k,row,rfl,a⟩
 have e:PyVbrgae.shape p=none:=by
  delta PyVbrgae.shape
  iterate 16 refine (if_neg fun e=>q (by rw [e];decide)).trans ?_
  rfl
 rw [e] at h
 cases h
theorem vB {r:List Int} {xs:List (List Int)} {t:List Int} (h:PyFlat.rows 1 r=some (xs,t)):∃rs,xs=[rs]∧r=(rs.length:Int)::(rs++t):=by
 unfold PyFlat.rows at h
 cases r with
 | nil=>cases h
 | cons m r=>
  unfold PyFlat.row at h
  dsimp only at h
  by_cases hm:0≤m∧m.toNat≤r.length
  ·rw [if_pos hm] at h
   dsimp only at h
   unfold PyFlat.rows at h
   dsimp only at h
   cases h
   refine ⟨_,rfl,?_⟩
   rw [List.take_append_drop,List.length_take,Nat.min_eq_left hm.2,Int.toNat_of_nonneg hm.1]
  ·rw [if_neg hm] at h
   cases h
theorem zQ {p:Int} {r:List Int} {c:List (List Int)} {t:List Int} (h:PyFlat.call PyVbrgae.shape (p::r)=some (c,t)):∃k row ns rs,p=((k:Nat):Int)∧ctab[k]?=some row∧ns.length=row.2.1.length∧(row.2.2=[]→rs=[])∧c=((k:Int)::ns)::(if k=0∨k=11 then [rs] else [])∧
  ((row.2.2=[]∧r=ns++t)∨(row.2.2≠[]∧r=ns++((rs.length:Int)::(rs++t)))):=by
 unfold PyFlat.call at h
 dsimp only at h
 cases e:PyVbrgae.shape p with
 | none=>rw [e] at h;cases h
 | some q=>
  obtain ⟨n,j⟩:=q
  rw [e] at h
  dsimp only at h
  by_cases hn:r.length < n
  ·rw [if_pos hn] at h;cases h
  rw [if_neg hn] at h
  obtain ⟨k,row,rfl,hk,rfl,hj⟩:=yT e
  have hl:(r.take row.2.1.length).length=row.2.1.length:=by rw [List.length_take];omega
  rcases hj with ⟨h1,rfl,h3⟩|⟨h1,rfl,h3⟩
  ·unfold PyFlat.rows at h
   dsimp only at h
   cases h
   refine ⟨k,row,r.take row.2.1.length,[],rfl,hk,hl,fun _=>rfl,by rw [if_neg h3],.inl ⟨h1,(List.take_append_drop _ _).symm⟩⟩
  ·cases er:PyFlat.rows 1 (r.drop row.2.1.length) with
   | none=>rw [er] at h;cases h
   | some q=>
    obtain ⟨xs,t'⟩:=q
    rw [er] at h
    dsimp only at h
    cases h
    obtain ⟨rs,rfl,e2⟩:=vB er
    refine ⟨k,row,r.take row.2.1.length,rs,rfl,hk,hl,fun z=>absurd z h1,by rw [if_pos h3],.inr ⟨h1,?_⟩⟩
    rw [←e2,List.take_append_drop]
theorem AF {f:Nat} {p:Int} {r:List Int} {cs:List (List (List Int))} (h:PyFlat.calls PyVbrgae.shape f (p::r)=some cs):∃f' c t cs',PyFlat.call PyVbrgae.shape (p::r)=some (c,t)∧PyFlat.calls PyVbrgae.shape f' t=some cs'∧cs=c::cs':=by
 cases f with
 | zero=>cases h
 | succ f=>
  unfold PyFlat.calls at h
  cases e:PyFlat.call PyVbrgae.shape (p::r) with
  | none=>rw [e] at h;cases h
  | some q=>
   obtain ⟨c,t⟩:=q
   rw [e] at h
   dsimp only at h
   cases e2:PyFlat.calls PyVbrgae.shape f t with
   | none=>rw [e2] at h;cases h
   | some cs'=>
    rw [e2] at h
    cases h
    exact ⟨f,c,t,cs',rfl,e2,rfl⟩
theorem CJ {f:Nat} {cs:List (List (List Int))} (h:PyFlat.calls PyVbrgae.shape f []=some cs):cs=[]:=by
 cases f<;>(cases h;rfl)
theorem sK {k:Nat} {row:C6} {ns rs:List Int} (hk:ctab[k]?=some row) (hn:ns.length=row.2.1.length) (hr:row.2.2=[]→rs=[]) (h:VbrgaeNeutral.asked1 (((k:Int)::ns)::(if k=0∨k=11 then [rs] else []))=true):rs.length≤200:=by
 by_cases e0:k=0
 ·subst e0
  obtain rfl:row=((("open_level":Str),[(2,10),(2,10)],[0,21]):C6):=(Option.some.inj hk).symm
  match ns,hn with
  | [x0,x1],_=>
   have h:(VbrgaeNeutral.whole60 x0 && (VbrgaeNeutral.whole60 x1 && ((decide (rs.length≤200) && rs.all (fun (z:Int)=>VbrgaeNeutral.whole60 z)))))=true:=h
   rw [Bool.and_eq_true,Bool.and_eq_true,Bool.and_eq_true,decide_eq_true_iff] at h
   exact h.2.2.1
 ·by_cases e1:k=11
  ·subst e1
   obtain rfl:row=((("try_acts":Str),[],[0,4]):C6):=(Option.some.inj hk).symm
   match ns,hn with
   | [],_=>
    have h:(decide (rs.length≤200) && rs.all (fun (z:Int)=>VbrgaeNeutral.whole60 z))=true:=h
    rw [Bool.and_eq_true,decide_eq_true_iff] at h
    exact h.1
  ·have:∀k' row',ctab[k']?=some row'→k'≠0→k'≠11→row'.2.2=[]:=by
    intro k' row' hk' n0 n1
    match k',hk' with
    | 0,_=>exact absurd rfl n0
    | 11,_=>exact absurd rfl n1
    | 1,hk'=>cases hk';rfl
    | 2,hk'=>cases hk';rfl
    | 3,hk'=>cases hk';rfl
    | 4,hk'=>cases hk';rfl
    | 5,hk'=>cases hk';rfl
    | 6,hk'=>cases hk';rfl
    | 7,hk'=>cases hk';rfl
    | 8,hk'=>cases hk';rfl
    | 9,hk'=>cases hk';rfl
    | 10,hk'=>cases hk';rfl
    | 12,hk'=>cases hk';rfl
    | 13,hk'=>cases hk';rfl
    | 14,hk'=>cases hk';rfl
    | 15,hk'=>cases hk';rfl
    | k'+16,hk'=>simp [ctab] at hk'
   rw [hr (this k row hk e0 e1)]
   exact Nat.zero_le _
theorem AY (pre mid suf:List V):J0 (pre++(mid++suf)) (some (pre.length:Int)) (some ((pre.length+mid.length:Nat):Int))=mid:=by
 unfold J0
 rw [HT.sIx_nat,HT.sIx_nat,List.length_append,List.length_append,Nat.min_eq_left (by omega),Nat.min_eq_left (by omega),List.drop_left,Nat.add_sub_cancel_left,List.take_left]
theorem Op.told {H:Hp} {s dx sp p:Addr} {a:Ad} {L:Level} {now:Spot} {past:List Spot} {hv:V} {tl:Addr} {ys:List V} (o:Op Cb Cs H s dx sp p a L now past hv tl):Op Cb Cs (a8 H tl (.lst ys)) s dx sp p a L now past hv tl:=by
 obtain ⟨xs,ex⟩:=o.tlv
 obtain ⟨kvs,kd,_⟩:=o.bd.kn
 have ek:a8 H tl (.lst ys) a.kd=H a.kd:=a9 (f8 kd ex (by intro z;cases z))
 have ee:a8 H tl (.lst ys) a.ex=H a.ex:=a9 (Ne.symm o.ftl.n4)
 exact ⟨(a9 (f8 o.ins ex (by intro z;cases z))).trans o.ins,o.bd.list o.ftl ex,(a9 (Ne.symm o.nts)).trans o.spv,o.good,o.last,o.hop.keep (fun d u e _=>by rw [a9 (f8 e ex (by intro z;cases z))];exact e),o.fsp.keep ee (Kv.congr ek),o.ns,o.nts,o.ftl.keep ee (Kv.congr ek),ys,c8⟩
theorem Ss.told {H:Hp} {s:Addr} {g:Option Game} {n:Nat} {tl:Addr} {ys:List V} (h:Ss Cb Cs ts H s g n tl):Ss Cb Cs ts (a8 H tl (.lst ys)) s g n tl:=by
 obtain ⟨t,⟨xs,ex⟩,h⟩:=h
 refine ⟨t.keep (fun b ps e=>(a9 (f8 e ex (by intro z;cases z))).trans e) (fun c q e=>(a9 (f8 e ex (by intro z;cases z))).trans e),⟨ys,c8⟩,?_⟩
 cases g with
 | none=>
  obtain ⟨dx,spv,e⟩:=h
  exact ⟨dx,spv,(a9 (f8 e ex (by intro z;cases z))).trans e⟩
 | some G=>
  obtain ⟨dx,sp,p,a,L,now,past,hv,e,o,l⟩:=h
  exact ⟨dx,sp,p,a,L,now,past,hv,e,o.told,l⟩
def pE (K:PySem.W.Frag) (ts:Tn):P1:=fun x H Q=>∃cl l,x=.ref cl∧SqL K H cl (l.map V.int)∧(∀b ys,H b≠some (.lst ys))∧H ts.t1=some (.tbl #[])∧H ts.t2=some (.tbl #[])∧H ts.t3=some (.tbl #[])∧H ts.t4=some (.tbl #[])∧PyVbrgae.answers_asked l=true∧l.length≤17000∧∀H' r,H' r=some (.lst ((PyVbrgae.answers l).map V.int))→Q (.ref r) H'
theorem Tab.empty {H:Hp} {t:Addr} {pos:Pos} {q:Str} (h:H t=some (.tbl #[])):Tab H t pos q:=⟨#[],h,.inl rfl⟩
def Wl (Cb Cs:Addr) (ts:Tn) (l:List Int) (cl s0 tl:Addr) (H:Hp) (m:Nat) (σ:L2.St) (H':Hp):Prop:=∃pre rest f cs2 g n told v4 v5 v6 v7,σ=[some (.ref cl),some (.ref s0),some (.ref tl),some (nv (List.length pre)),v4,v5,v6,v7]∧l=pre++rest∧m=rest.length∧PyFlat.calls PyVbrgae.shape f rest=some cs2∧(∀c∈cs2,VbrgaeNeutral.asked1 c=true)∧Ss Cb Cs ts H' s0 g n tl∧n+cs2.length≤60∧
 H' tl=some (.lst (told.map V.int))∧told.length≤n*60001∧told++PyFlat.told (PyFlat.played VbrgaeNeutral.step ⟨g⟩ cs2)=PyVbrgae.answers l∧∀b o u,H b=some (.frz o u)→H' b=some (.frz o u)
theorem An {l:List Int} (h:PyVbrgae.answers_asked l=true):∃cs,PyFlat.calls PyVbrgae.shape l.length l=some cs∧(∀c∈cs,VbrgaeNeutral.asked1 c=true)∧cs.length≤60∧PyVbrgae.answers l=PyFlat.told (PyFlat.played VbrgaeNeutral.step ⟨none⟩ cs):=by
 unfold PyVbrgae.answers_asked PyVbrgae.calls at h
 unfold PyVbrgae.answers PyVbrgae.calls
 cases e:PyFlat.calls PyVbrgae.shape l.length l with
 | none=>rw [e] at h;cases h
 | some cs=>
  rw [e] at h
  dsimp only at h ⊢
  have hw:cs.map PyVbrgae.whole=cs:=by
   conv=>rhs;rw [←List.map_id cs]
   exact List.map_congr_left fun c _=>uY c
  rw [hw] at h ⊢
  unfold VbrgaeNeutral.asked PyFlat.atMost at h
  rw [Bool.and_eq_true,Bool.and_eq_true,List.all_eq_true,decide_eq_true_iff] at h
  exact ⟨cs,rfl,h.2.1,h.1,rfl⟩
theorem zC (T:i5 P w K mg Cb Cs)(Z:Lm K mg base ts) (G:GC K mg) {f:Addr} {fd:FuncData} (D:Fun K "answers" "answers" S5 f fd):C9 P w K mg base x8 16 f fd ["calls"] (sp1 (pE K ts)):=by
 refine D.ok (N:=["calls","session","told","at","call","numbers","row","answered"]) ⟨rfl,rfl,rfl,by rfl',rfl,by rfl',by rfl'⟩ (fun _ _ _ _=>l1) (fun cdv A outer s H vs Q E' hr h=>?_)
 obtain ⟨_,rfl,cl,l,rfl,hcl,hno,ht1,ht2,ht3,ht4,hask,hl17,k⟩:=h
 have nd:(["calls","session","told","at","call","numbers","row","answered"]:List Str).Nodup:=by rfl'
 refine ⟨_,(d7 (j4 (i:=1) nd rfl (Or.inl rfl) (uM (AW T) T.mg_Session hr (by decide))) (d7 (j4 (i:=2) nd rfl (Or.inl rfl) (l5 c9)) (d7 (j4 (i:=3) nd rfl (Or.inl rfl) j0) (d7 (Z0 PassesOwn.never (u5 gP (pv 3) (A2 C1 (by rfl) T.b_len PySem.boot_len (c7 (pv 0) c9)) (o8 _)) (d7 (j4 (i:=4) nd rfl (Or.inl rfl) (j8 p5 (pv 0) (pv 3) (fun _ _=>rfl))) (d7 (bU (i:=3) nd rfl (Or.inl rfl) j0 aE) (d7 (j4 (i:=5) nd rfl (Or.inl rfl) (eC mO (pv 0) (Y7 (pv 3)) (Y7 (j6 L9 (pv 3) (n9 (tZ T G) hr (by decide) (c7 (pv 4) c9)))))) (d7 (bU (i:=3) nd rfl (Or.inl rfl) (A2 C1 (by rfl) T.b_len PySem.boot_len (c7 (pv 5) c9)) aE) (d7 (j4 (i:=6) nd rfl (Or.inl rfl) (l5 c9)) (d7 (m7 (C8 (n9 (sA T G) hr (by decide) (c7 (pv 4) c9))) (d7 (j4 (i:=6) nd rfl (Or.inl rfl) (eC mO (pv 0) (Y7 (j6 L9 (pv 3) j0)) (Y7 (j6 L9 (j6 L9 (pv 3) j0) (j8 p5 (pv 0) (pv 3) (fun _ _=>rfl)))))) (f7 (bU (i:=3) nd rfl (Or.inl rfl) (j6 L9 j0 (A2 C1 (by rfl) T.b_len PySem.boot_len (c7 (pv 6) c9))) aE))) m8) (d7 (j4 (i:=7) nd rfl (Or.inl rfl) (n9 (uO T Z G) hr (by decide) (c7 (pv 1) (c7 (pv 4) (c7 (pv 5) (c7 (pv 6) c9)))))) (d7 (A7 (F3 PySem.F.plainAttrs_list PySem.F.slot_list_append PySem.F.type_list_append N2 (pv 2) (c7 (A2 C1 (by rfl) T.b_len PySem.boot_len (c7 (pv 7) c9)) c9))) (f7 (A7 (F3 PySem.F.plainAttrs_list PySem.F.slot_list_extend PySem.F.type_list_extend eK (pv 2) (c7 (pv 7) c9))))))))))))) (f7 (i0 (pv 2))))))),?_⟩
 have hcl':∀H',(∀b o u,H b=some (.frz o u)→H' b=some (.frz o u))→SqL K H' cl (l.map V.int):=fun H' f=>by
  rcases hcl with (h|⟨o,h⟩)|h
  ·exact absurd h (hno _ _)
  ·exact .inl (.inr ⟨o,f _ _ _ h⟩)
  ·exact .inr h
 obtain ⟨cs,hcs,hasked,hcs60,hans⟩:=An hask
 refine fun s0 dx hs hdx nds=>⟨_,rfl,s0,dx,rfl,c8,fun H1 sp f1 hi1=>⟨rfl,?_⟩⟩
 have g1:∀b u,H b=some u→H1 b=some u:=fun b u e=>f1 b u (by rw [a9 (d8 e hs),a9 (d8 e hdx)];exact e) (d8 e hs)
 refine ⟨Nat.zero_le _,fun tl htl=>?_⟩
 have g2:∀b u,H b=some u→a8 H1 tl (.lst []) b=some u:=fun b u e=>Same.new htl _ _ (g1 b u e)
 have ss0:Ss Cb Cs ts (a8 H1 tl (.lst [])) s0 none 0 tl:=⟨⟨.empty (g2 _ _ ht1),.empty (g2 _ _ ht2),.empty (g2 _ _ ht3),.empty (g2 _ _ ht4)⟩,⟨[],c8⟩,dx,_,Same.new htl _ _ hi1⟩
 refine ⟨Wl Cb Cs ts l cl s0 tl H,⟨l.length,[],l,l.length,cs,none,0,[],none,none,none,none,rfl,rfl,rfl,hcs,hasked,ss0,by omega,c8,Nat.zero_le _,hans.symm,fun b o u e=>g2 _ _ e⟩,?_⟩
 refine fun m σ H2 zz=>rY zz fun pre rest fu cs2 g n told v4 v5 v6 v7 zz=>gA zz fun zq0 el em hc2 ha2 ss hn htd hz heq frz=>?_
 subst zq0
 have hsl:=hcl' H2 frz
 refine ⟨_,rfl,_,rfl,cl,_,rfl,.inl hsl,_,_,rfl,rfl,_,rfl,?_⟩
 rw [List.length_map]
 cases rest with
 | nil=>
  obtain rfl:=CJ hc2
  have:decide ((pre.length:Int) < (l.length:Int))=false:=decide_eq_false (by rw [el,List.append_nil];omega)
  rw [this]
  refine k4 ⟨_,rfl,k H2 tl ?_⟩
  rw [htd,←heq]
  show _=some (HO.lst ((told++[]).map V.int))
  rw [List.append_nil]
 | cons p r=>
  have:decide ((pre.length:Int) < (l.length:Int))=true:=decide_eq_true (by rw [el,List.length_append,List.length_cons];omega)
  rw [this]
  obtain ⟨f',c,t,cs',hcall,hcs',rfl⟩:=AF hc2
  obtain ⟨kk,row,ns,rs,rfl,hk,hnl,hrow,rfl,hr⟩:=zQ hcall
  have hask1:=ha2 _ (List.mem_cons_self ..)
  have hz200:=sK hk hnl hrow hask1
  refine k8 ⟨fun σ' H'=>∃m',m' < m∧Wl Cb Cs ts l cl s0 tl H m' σ' H',fun _ _ z=>z,?_⟩
  have e0:(l.map V.int)[pre.length]?=some (nv kk):=by
   rw [el,List.map_append,List.getElem?_append_right (by rw [List.length_map];exact Nat.le_refl _),List.length_map,Nat.sub_self]
   rfl
  refine ⟨_,rfl,_,rfl,cl,_,_,_,rfl,rfl,hsl,l7 e0,_,rfl,_,_,rfl,rfl,?_⟩
  have hcut:∀(a b d:List Int),l=a++(b++d)→∀(x y:Int),x=(a.length:Int)→y=((a.length+b.length:Nat):Int)→J0 (l.map V.int) (some x) (some y)=b.map V.int:=by
   intro a b d e x y ex ey
   have h1:=AY (a.map V.int) (b.map V.int) (d.map V.int)
   rw [List.length_map,List.length_map] at h1
   rw [ex,ey,e,List.map_append,List.map_append]
   exact h1
  obtain ⟨suf,hsuf⟩:∃suf,r=ns++suf:=by
   rcases hr with ⟨_,e⟩|⟨_,e⟩
   ·exact ⟨_,e⟩
   ·exact ⟨_,e⟩
  refine ⟨_,rfl,_,rfl,_,rfl,_,rfl,_,rfl,_,rfl,kk,row,rfl,hk,_,_,rfl,rfl,_,rfl,cl,_,rfl,hsl,fun nu hnu=>?_⟩
  rw [hcut (pre++[(kk:Int)]) ns suf (by rw [el,hsuf,List.append_assoc];rfl) _ _ (by rw [List.length_append];rfl) (by rw [List.length_append,hnl];rfl)]
  refine ⟨_,rfl,_,rfl,nu,_,rfl,.inl (SqL.of c8),_,_,rfl,rfl,?_⟩
  rw [List.length_map]
  have eP:V.int ((pre.length:Int)+1+(ns.length:Int))=nv (pre++((kk:Int)::ns)).length:=by
   rw [List.length_append,List.length_cons]
   show V.int _=V.int _
   congr 1
   omega
  rw [eP]
  have elP:∀suf',r=ns++suf'→l=(pre++((kk:Int)::ns))++suf':=fun suf' e=>by rw [el,e,List.append_assoc];rfl
  obtain ⟨P1,eP1⟩:∃P1,P1=pre++((kk:Int)::ns):=⟨_,rfl⟩
  rw [←eP1] at elP ⊢
  have s1:Same H2 (a8 H2 nu (.lst (ns.map V.int))):=Same.new hnu
  refine ⟨Nat.zero_le _,fun ro hro=>?_⟩
  have s2:=s1.trans (Same.new (o:=.lst []) hro)
  refine ⟨_,rfl,_,rfl,kk,row,rfl,hk,_,rfl,?_⟩
  have nnr:nu≠ro:=fun z=>by rw [←z,c8] at hro;cases hro
  rcases hr with ⟨hr1,hr2⟩|⟨hr1,hr2⟩
  ·have e0:decide (0 < row.2.2.length)=false:=by rw [hr1];rfl
   rw [e0]
   have ers:=hrow hr1
   refine k4 ?_
   have s3:=s2
   have hnu3:a8 (a8 H2 nu (.lst (ns.map V.int))) ro (.lst []) nu=some (.lst (ns.map V.int)):=by rw [a9 nnr,c8]
   have hro3:a8 (a8 H2 nu (.lst (ns.map V.int))) ro (.lst []) ro=some (.lst (rs.map V.int)):=by rw [ers];exact c8
   have nro:ro≠tl:=fun z=>by rw [z,s1 _ _ htd] at hro;cases hro
   obtain ⟨pre',ep'⟩:∃pre',pre'=P1:=⟨_,rfl⟩
   have el':l=pre'++t:=by rw [ep'];exact elP t hr2
   rw [←ep']
   refine ⟨_,rfl,_,rfl,_,rfl,_,rfl,_,_,_,_,rfl,s0,g,n,tl,kk,nu,ro,ns,rs,row,rfl,rfl,rfl,rfl,ss.sameN s3,by rw [List.length_cons] at hn;omega,hnu3,hro3,nro,hk,hnl,hrow,hz200,fun H4 v res=>?_⟩
   obtain ⟨l4,rfl,hl4,hx4,hz4⟩:=res.ans
   have htd4:H4 tl=some (.lst (told.map V.int)):=res.tlk.trans (s3 _ _ htd)
   have nl4:l4≠tl:=fun z=>by rw [z,s3 _ _ htd] at hl4;cases hl4
   have hb1:told.length+60001≤60*60001:=by
    rw [List.length_cons] at hn
    have:(n+1)*60001≤60*60001:=Nat.mul_le_mul_right _ (by omega)
    omega
   have hb2:60*60001 < sizeLine:=by decide
   refine ⟨_,rfl,.inl ⟨rfl,_,SqL.of htd4⟩,_,rfl,l4,_,rfl,.inl (SqL.of hx4),tl,_,_,rfl,rfl,htd4,(by rw [List.length_map];omega),?_⟩
   refine ⟨_,rfl,.inl ⟨rfl,_,SqL.of c8⟩,_,rfl,tl,l4,_,_,rfl,rfl,c8,(a9 nl4).trans hx4,(by rw [List.length_append,List.length_map,List.length_map,List.length_singleton];omega),?_⟩
   rw [N5,List.length_map]
   refine ⟨t.length,by rw [em,hr2,List.length_cons,List.length_append];omega,pre',t,f',cs',(O3 g kk ns rs).1.game,n+1,told++(((O3 g kk ns rs).2.length:Int)::(O3 g kk ns rs).2),_,_,_,_,rfl,el',rfl,hcs',fun c hc=>ha2 c (List.mem_cons_of_mem _ hc),res.ss.told,by rw [List.length_cons] at hn;omega,?_,?_,?_,fun b o u e=>?_⟩
   ·rw [c8,List.map_append,List.append_assoc]
    rfl
   ·rw [List.length_append,List.length_cons]
    have:(n+1)*60001=n*60001+60001:=Nat.succ_mul _ _
    omega
   ·rw [←heq,List.append_assoc]
    congr 1
   ·rw [a9 (f8 (res.frz _ _ _ (s3 _ _ (frz _ _ _ e))) htd4 (by intro z;cases z))]
    exact res.frz _ _ _ (s3 _ _ (frz _ _ _ e))
  ·have e0:decide (0 < row.2.2.length)=true:=by
    cases q:row.2.2 with
    | nil=>exact absurd q hr1
    | cons _ _=>rfl
   rw [e0]
   have hsl3:=hcl' _ (fun b o u e=>s2 _ _ (frz b o u e))
   have elR:=elP _ hr2
   have e1:(l.map V.int)[P1.length]?=some (nv rs.length):=by
    rw [elR,List.map_append,List.getElem?_append_right (by rw [List.length_map];exact Nat.le_refl _),List.length_map,Nat.sub_self]
    rfl
   refine k8 ⟨_,rfl,_,rfl,_,_,rfl,rfl,_,rfl,_,rfl,_,_,rfl,rfl,_,rfl,_,rfl,cl,_,_,_,rfl,rfl,hsl3,l7 e1,_,_,rfl,rfl,_,rfl,cl,_,rfl,hsl3,fun r1 hr1'=>?_⟩
   rw [hcut (P1++[(rs.length:Int)]) rs t (by rw [elR,List.append_assoc];rfl) _ _ (by rw [List.length_append];rfl) (by rw [List.length_append];rfl)]
   have s3:=s2.trans (Same.new (o:=.lst (rs.map V.int)) hr1')
   refine ⟨_,rfl,_,rfl,r1,_,rfl,.inl (SqL.of c8),_,_,rfl,rfl,_,_,rfl,rfl,?_⟩
   rw [List.length_map]
   obtain ⟨pre',ep'⟩:∃pre',pre'=P1++((rs.length:Int)::rs):=⟨_,rfl⟩
   have el':l=pre'++t:=by rw [ep',elR,List.append_assoc];rfl
   have eA:V.int ((P1.length:Int)+(1+(rs.length:Int)))=nv pre'.length:=by
    rw [ep',List.length_append,List.length_cons]
    show V.int _=V.int _
    congr 1
    omega
   rw [eA]
   have hnu3:a8 (a8 (a8 H2 nu (.lst (ns.map V.int))) ro (.lst [])) r1 (.lst (rs.map V.int)) nu=some (.lst (ns.map V.int)):=Same.new hr1' _ _ (by rw [a9 nnr,c8])
   have hro3:a8 (a8 (a8 H2 nu (.lst (ns.map V.int))) ro (.lst [])) r1 (.lst (rs.map V.int)) r1=some (.lst (rs.map V.int)):=c8
   have nro:r1≠tl:=fun z=>by rw [z,s2 _ _ htd] at hr1';cases hr1'
   refine ⟨_,rfl,_,rfl,_,rfl,_,rfl,_,_,_,_,rfl,s0,g,n,tl,kk,nu,r1,ns,rs,row,rfl,rfl,rfl,rfl,ss.sameN s3,by rw [List.length_cons] at hn;omega,hnu3,hro3,nro,hk,hnl,hrow,hz200,fun H4 v res=>?_⟩
   obtain ⟨l4,rfl,hl4,hx4,hz4⟩:=res.ans
   have htd4:H4 tl=some (.lst (told.map V.int)):=res.tlk.trans (s3 _ _ htd)
   have nl4:l4≠tl:=fun z=>by rw [z,s3 _ _ htd] at hl4;cases hl4
   have hb1:told.length+60001≤60*60001:=by
    rw [List.length_cons] at hn
    have:(n+1)*60001≤60*60001:=Nat.mul_le_mul_right _ (by omega)
    omega
   have hb2:60*60001 < sizeLine:=by decide
   refine ⟨_,rfl,.inl ⟨rfl,_,SqL.of htd4⟩,_,rfl,l4,_,rfl,.inl (SqL.of hx4),tl,_,_,rfl,rfl,htd4,(by rw [List.length_map];omega),?_⟩
   refine ⟨_,rfl,.inl ⟨rfl,_,SqL.of c8⟩,_,rfl,tl,l4,_,_,rfl,rfl,c8,(a9 nl4).trans hx4,(by rw [List.length_append,List.length_map,List.length_map,List.length_singleton];omega),?_⟩
   rw [N5,List.length_map]
   refine ⟨t.length,by rw [em,hr2,List.length_cons,List.length_append,List.length_cons,List.length_append];omega,pre',t,f',cs',(O3 g kk ns rs).1.game,n+1,told++(((O3 g kk ns rs).2.length:Int)::(O3 g kk ns rs).2),_,_,_,_,rfl,el',rfl,hcs',fun c hc=>ha2 c (List.mem_cons_of_mem _ hc),res.ss.told,by rw [List.length_cons] at hn;omega,?_,?_,?_,fun b o u e=>?_⟩
   ·rw [c8,List.map_append,List.append_assoc]
    rfl
   ·rw [List.length_append,List.length_cons]
    have:(n+1)*60001=n*60001+60001:=Nat.succ_mul _ _
    omega
   ·rw [←heq,List.append_assoc]
    congr 1
   ·rw [a9 (f8 (res.frz _ _ _ (s3 _ _ (frz _ _ _ e))) htd4 (by intro z;cases z))]
    exact res.frz _ _ _ (s3 _ _ (frz _ _ _ e))
def pW:Value→Bool
 | .type t=>t=="tuple"
 | _=>false
theorem sI {u:Value} (h:pW u=true):u=.type "tuple":=by
 cases u with
 | type t=>rw [eq_of_beq (show (t=="tuple")=true from h)]
 | _=>exact Bool.noConfusion (show false=true from h)
def F6 (K:PySem.W.Frag):Value→Option (List Value)
 | .ref a=>match K.lookup a with
  | some ⟨cls,_,.seq its _,_⟩=>if (pW cls && (decide (its.size≤1000) && its.toList.all R1))=true then some its.toList else none
  | _=>none
 | _=>none
theorem S6 {K:PySem.W.Frag} {u:Value} {us:List Value} (h:F6 K u=some us):∃a,u=.ref a∧∀H,SqT K H a (us.map u4):=by
 cases u with
 | ref a=>
  refine ⟨a,rfl,fun H=>?_⟩
  unfold F6 at h
  dsimp only at h
  split at h
  ·rename_i cls dd its n sl e
   split at h
   ·rename_i q
    rw [Bool.and_eq_true,Bool.and_eq_true,decide_eq_true_iff] at q
    cases h
    exact zP e (sI q.1) q.2.1 q.2.2 rfl H
   ·cases h
  ·cases h
 | _=>cases h
def O0:List Value→List Int→Bool
 | [],[]=>true
 | .int i _::us,j::js=>i==j && O0 us js
 | _,_=>false
theorem bS:∀{us:List Value} {js:List Int},O0 us js=true→us.map u4=js.map V.int
 | [],[],_=>rfl
 | .int i t::us,j::js,h=>by
  have h:(i==j && O0 us js)=true:=h
  rw [Bool.and_eq_true] at h
  rw [List.map_cons,List.map_cons,bS h.2,eq_of_beq h.1]
  rfl
 | [],_::_,h=>by cases h
 | _::_,[],h=>by
  unfold O0 at h
  split at h<;>simp_all
def aQ (K:PySem.W.Frag):List Value→List (Int×Int)→Bool
 | [],[]=>true
 | p::ps,l::ls=>(match F6 K p with
  | some us=>O0 us [l.1,l.2]
  | none=>false) && aQ K ps ls
 | _,_=>false
theorem qE {K:PySem.W.Frag}:∀{us:List Value} {ls:List (Int×Int)},aQ K us ls=true→∃ps:List Addr,us.map u4=ps.map V.ref∧ps.length=ls.length∧∀(j:Nat) (p:Addr) (l:Int×Int),ps[j]?=some p→ls[j]?=some l→∀H,SqT K H p [.int l.1,.int l.2]
 | [],[],_=>⟨[],rfl,rfl,fun j p l h=>by simp at h⟩
 | u::us,l::ls,h=>by
  have h:((match F6 K u with
   | some us=>O0 us [l.1,l.2]
   | none=>false) && aQ K us ls)=true:=h
  rw [Bool.and_eq_true] at h
  obtain ⟨h1,h2⟩:=h
  obtain ⟨ps,e1,e2,e3⟩:=qE h2
  cases e:F6 K u with
  | none=>rw [e] at h1;cases h1
  | some vs=>
   rw [e] at h1
   obtain ⟨a,rfl,ha⟩:=S6 e
   have hv:=bS h1
   refine ⟨a::ps,by rw [List.map_cons,List.map_cons,e1];rfl,by rw [List.length_cons,List.length_cons,e2],fun j p l' hp hl H=>?_⟩
   cases j with
   | zero=>
    cases hp
    cases hl
    have:=ha H
    rw [hv] at this
    exact this
   | succ j=>exact e3 j p l' hp hl H
 | [],_::_,h=>by cases h
 | _::_,[],h=>by cases h
def kE (K:PySem.W.Frag) (x:Str) (f:Addr):Bool:=match nsIn K mainGlobals x with
 | some (some (.ref f'))=>f'==f
 | _=>false
def cT (K:PySem.W.Frag) (u:Value) (row:C6):Bool:=match F6 K u with
 | some [.ref f,n,r]=>kE K row.1 f && ((match F6 K n with
  | some ps=>aQ K ps row.2.1
  | none=>false) && (match F6 K r with
  | some us=>O0 us row.2.2
  | none=>false))
 | _=>false
theorem yN {K:PySem.W.Frag} {h:Heap} {mg:Str→Option Value} (X:K.In h) (G:h.Ns mainGlobals mg) {u:Value} {row:C6} (hb:cT K u row=true):∃e f n r ps,u=.ref e∧aR K mg e row f n r ps:=by
 unfold cT at hb
 split at hb
 ·rename_i f n r e
  rw [Bool.and_eq_true,Bool.and_eq_true] at hb
  obtain ⟨h1,h2,h3⟩:=hb
  obtain ⟨a,rfl,ha⟩:=S6 e
  cases e2:F6 K n with
  | none=>rw [e2] at h2;cases h2
  | some ns=>
   cases e3:F6 K r with
   | none=>rw [e3] at h3;cases h3
   | some rs=>
    rw [e2] at h2
    rw [e3] at h3
    obtain ⟨an,rfl,hn⟩:=S6 e2
    obtain ⟨ar,rfl,hr⟩:=S6 e3
    obtain ⟨ps,p1,p2,p3⟩:=qE h2
    have hi:=bS h3
    refine ⟨a,f,an,ar,ps,rfl,?_,ha,fun H=>?_,p2,p3,fun H=>?_⟩
    ·unfold kE at h1
     split at h1
     ·rename_i f' e4
      rw [←eq_of_beq h1]
      exact PySem.W.mg_of X G e4
     ·cases h1
    ·have:=hn H
     rw [p1] at this
     exact this
    ·have:=hr H
     rw [hi] at this
     exact this
 ·cases hb
def cW (K:PySem.W.Frag):List Value→List C6→Bool
 | [],[]=>true
 | u::us,r::rs=>cT K u r && cW K us rs
 | _,_=>false
theorem pD {K:PySem.W.Frag} {h:Heap} {mg:Str→Option Value} (X:K.In h) (G:h.Ns mainGlobals mg):∀{us:List Value} {rs:List C6},cW K us rs=true→∃es:List Addr,us.map u4=es.map V.ref∧∀(k:Nat) (row:C6),rs[k]?=some row→∃e f n r ps,es[k]?=some e∧aR K mg e row f n r ps
 | [],[],_=>⟨[],rfl,fun k row h=>by simp at h⟩
 | u::us,r::rs,hb=>by
  have hb:(cT K u r && cW K us rs)=true:=hb
  rw [Bool.and_eq_true] at hb
  obtain ⟨es,e1,e2⟩:=pD X G hb.2
  obtain ⟨e,f,n,r',ps,rfl,ra⟩:=yN X G hb.1
  refine ⟨e::es,by rw [List.map_cons,List.map_cons,e1];rfl,fun k row hk=>?_⟩
  cases k with
  | zero=>
   cases hk
   exact ⟨e,f,n,r',ps,rfl,ra⟩
  | succ k=>exact e2 k row hk
 | [],_::_,h=>by cases h
 | _::_,[],h=>by cases h
def oR (K:PySem.W.Frag):Bool:=match nsIn K mainGlobals "CALLS" with
 | some (some u)=>(match F6 K u with
  | some us=>cW K us ctab
  | none=>false)
 | _=>false
theorem gc_mk {K:PySem.W.Frag} {h:Heap} {mg:Str→Option Value} (X:K.In h) (G:h.Ns mainGlobals mg) (hb:oR K=true):GC K mg:=by
 unfold oR at hb
 split at hb
 ·rename_i u e
  cases e2:F6 K u with
  | none=>rw [e2] at hb;cases hb
  | some us=>
   rw [e2] at hb
   obtain ⟨a,rfl,ha⟩:=S6 e2
   obtain ⟨es,e3,e4⟩:=pD X G hb
   refine ⟨a,es,PySem.W.mg_of X G e,fun H=>?_,e4⟩
   have:=ha H
   rw [e3] at this
   exact this
 ·cases hb
def oH (K:PySem.W.Frag) (x:Str) (i:Int):Bool:=match nsIn K mainGlobals x with
 | some (some (.int j _))=>j==i
 | _=>false
theorem gi_mk {K:PySem.W.Frag} {h:Heap} {mg:Str→Option Value} (X:K.In h) (G:h.Ns mainGlobals mg) {x:Str} {i:Int} (hb:oH K x i=true):GI mg x i:=by
 unfold oH at hb
 split at hb
 ·rename_i j t e
  rw [←eq_of_beq hb]
  exact ⟨t,PySem.W.mg_of X G e⟩
 ·cases hb
def lX (K:PySem.W.Frag) (x:Str) (is:List Int):Bool:=match nsIn K mainGlobals x with
 | some (some u)=>(match F6 K u with
  | some us=>O0 us is
  | none=>false)
 | _=>false
theorem gt_mk {K:PySem.W.Frag} {h:Heap} {mg:Str→Option Value} (X:K.In h) (G:h.Ns mainGlobals mg) {x:Str} {is:List Int} (hb:lX K x is=true):GT K mg x (iv is):=by
 unfold lX at hb
 split at hb
 ·rename_i u e
  cases e2:F6 K u with
  | none=>rw [e2] at hb;cases hb
  | some us=>
   rw [e2] at hb
   obtain ⟨a,rfl,ha⟩:=S6 e2
   refine ⟨a,PySem.W.mg_of X G e,fun H=>?_⟩
   have:=ha H
   rw [bS hb] at this
   exact this
 ·cases hb
def lW (K:PySem.W.Frag) (x:Str):Bool:=match nsIn K mainGlobals x with
 | some none=>true
 | _=>false
theorem mn_mk {K:PySem.W.Frag} {h:Heap} {mg:Str→Option Value} (X:K.In h) (G:h.Ns mainGlobals mg) {x:Str} (hb:lW K x=true):mg x=none:=by
 unfold lW at hb
 split at hb
 ·rename_i e
  exact PySem.W.mg_none_of X G e
 ·cases hb
def nD:Value→Bool
 | .type t=>t=="dict"
 | _=>false
theorem Cc {u:Value} (h:nD u=true):u=.type "dict":=by
 cases u with
 | type t=>rw [eq_of_beq (show (t=="dict")=true from h)]
 | _=>exact Bool.noConfusion (show false=true from h)
def Y9:List DictEntry→List (Int×Int)→Bool
 | [],[]=>true
 | ⟨hs,.int k _,.int v _⟩::es,q::qs=>(decide (hs=hashInt k) && (k==q.1 && v==q.2)) && Y9 es qs
 | _,_=>false
theorem iW:∀{es:List DictEntry} {qs:List (Int×Int)},Y9 es qs=true→∃kvs:List (Int×Value),es.map bM=kvs.map some∧kvs.map (fun p=>((Sum.inl p.1:d9),u4 p.2))=Q2 qs∧kvs.map (·.1)=qs.map (·.1)
 | [],[],_=>⟨[],rfl,rfl,rfl⟩
 | ⟨hs,.int k t,.int v t'⟩::es,q::qs,h=>by
  have h:((decide (hs=hashInt k) && (k==q.1 && v==q.2)) && Y9 es qs)=true:=h
  rw [Bool.and_eq_true,Bool.and_eq_true,Bool.and_eq_true,decide_eq_true_iff] at h
  obtain ⟨⟨h1,h2,h3⟩,h4⟩:=h
  obtain ⟨kvs,e1,e2,e3⟩:=iW h4
  have h2:=eq_of_beq h2
  have h3:=eq_of_beq h3
  refine ⟨(k,.int v t')::kvs,?_,?_,?_⟩
  ·rw [List.map_cons,List.map_cons,e1]
   congr 1
   show (if hs=hashInt k∧R1 (.int v t')=true then some (k,Value.int v t') else none)=_
   rw [if_pos ⟨h1,rfl⟩]
  ·rw [List.map_cons,e2,h2]
   show (Sum.inl q.1,V.int v)::Q2 qs=_
   rw [h3]
   rfl
  ·rw [List.map_cons,List.map_cons,e3,h2]
 | [],_::_,h=>by cases h
 | e::es,[],h=>by
  unfold Y9 at h
  split at h<;>simp_all
def jJ (K:PySem.W.Frag) (x:Str) (qs:List (Int×Int)):Bool:=match nsIn K mainGlobals x with
 | some (some (.ref a))=>(match K.lookup a with
  | some ⟨cls,none,.dict es _,sl⟩=>(nD cls && (decide (sl.size=0) && !(a==sysModules))) && Y9 es.toList qs
  | _=>false)
 | _=>false
theorem gd_mk {P:Program} {w:World} {K:PySem.W.Frag} {h:Heap} {mg:Str→Option Value} (X:K.In h) (G:h.Ns mainGlobals mg) {x:Str} {qs:List (Int×Int)} (hb:jJ K x qs=true) (hn:(qs.map (·.1)).Nodup):GD P w K mg x (Q2 qs):=by
 unfold jJ at hb
 split at hb
 ·rename_i a e
  split at hb
  ·rename_i cls es n sl e2
   rw [Bool.and_eq_true,Bool.and_eq_true,Bool.and_eq_true,decide_eq_true_iff,Bool.not_eq_true'] at hb
   obtain ⟨⟨h1,h2,h3⟩,h4⟩:=hb
   obtain ⟨kvs,e3,e4,e5⟩:=iW h4
   refine ⟨a,PySem.W.mg_of X G e,?_⟩
   rw [←e4]
   exact DV e2 (Cc h1) rfl (Array.eq_empty_of_size_eq_zero h2) e3 (by rw [e5];exact hn) h3
  ·cases hb
 ·cases hb
section
variable {K:PySem.W.Frag} {h:Heap} {mg:Str→Option Value} {x qual m:Str} {st:Stmt} {f C:Addr} {oc:Value} {od an:Option Addr} {osl:Array (Option Value)} {kV doc pm cdv ct:Value} {ps:List Str}
abbrev aI (x qual:Str) (st:Stmt) (ps:List Str):Prop:=∀(kV doc pm:Value) (an:Option Addr) (cdv ct:Value) (us:List Value),us.length=ps.length→bindArgs (PySem.W.fnOf x qual (L8 st) (E2 st) (k9 st) .none kV doc pm an cdv ct) ⟨us,[]⟩=pure (ps.zip us)
theorem df_mk (X:K.In h) (G:h.Ns mainGlobals mg) (hb:aI x qual st ps) (a:nsIn K mainGlobals x=some (some (.ref f))) (l:K.lookup f=some ⟨oc,od,.func (PySem.W.fnOf x qual (L8 st) (E2 st) (k9 st) .none kV doc pm an cdv ct),osl⟩) (c:PySem.W.codeIn K cdv qual=true) (k:PySem.W.keepIn K (.ref f)=true):Df K mg x qual st ps:=
 ⟨f,_,PySem.W.mg_of X G a,M5 (st:=st) l c k,(M5 (st:=st) l c k).binds hb⟩
theorem mf_mk (hb:aI m qual st ps) (a:PySem.W.findIn K (.ref C) m=some (some (.ref f))) (i:PySem.W.isFn K (.ref f)=true) (l:K.lookup f=some ⟨oc,od,.func (PySem.W.fnOf m qual (L8 st) (E2 st) (k9 st) .none kV doc pm an cdv ct),osl⟩) (c:PySem.W.codeIn K cdv qual=true) (k:PySem.W.keepIn K (.ref f)=true):Mf K C m qual st ps:=
 ⟨f,_,⟨a,i,k⟩,M5 (st:=st) l c k,(M5 (st:=st) l c k).binds hb⟩
theorem mkf_mk (hb:aI "__init__" qual st ps) (mk:PySem.W.makesIn K C=true) (kc:PySem.W.keepIn K (.ref C)=true) (a:PySem.W.findIn K (.ref C) "__init__"=some (some (.ref f))) (i:PySem.W.isFn K (.ref f)=true) (l:K.lookup f=some ⟨oc,od,.func (PySem.W.fnOf "__init__" qual (L8 st) (E2 st) (k9 st) .none kV doc pm an cdv ct),osl⟩) (c:PySem.W.codeIn K cdv qual=true) (k:PySem.W.keepIn K (.ref f)=true):Mkf K C qual st ps:=
 ⟨f,_,⟨mk,a,i,kc⟩,M5 (st:=st) l c k,(M5 (st:=st) l c k).binds hb⟩
theorem dfl_mk (X:K.In h) (G:h.Ns mainGlobals mg) (hb:aI x qual st ps) (a:nsIn K mainGlobals x=some (some (.ref f))) (l:K.lookup f=some ⟨oc,od,.func (PySem.W.fnOf x qual (L8 st) (E2 st) (k9 st) .none kV doc pm an cdv ct),osl⟩) (c:PySem.W.codeIn K cdv qual=true) (k:PySem.W.keepIn K (.ref f)=true) (t:(PySem.W.tabIn K x).isSome=true):DfL K mg x qual st ps ((PySem.W.tabIn K x).getD (0,0)).1:=by
 refine ⟨f,_,PySem.W.mg_of X G a,M5 (st:=st) l c k,(M5 (st:=st) l c k).binds hb,?_⟩
 show cdv=_
 unfold PySem.W.tabIn at t ⊢
 rw [a] at t ⊢
 dsimp only at t ⊢
 rw [l] at t ⊢
 dsimp only [PySem.W.fnOf] at t ⊢
 split at t
 ·split at t
  ·split at t
   ·rfl
   ·cases t
  ·cases t
 ·cases t
end
def tabN:List Str:=["list_to_stairs","reached_spots","far_list","spoil_list"]
def tabL (K:PySem.W.Frag):List (Addr×Addr):=tabN.map fun x=>(PySem.W.tabIn K x).getD (0,0)
def jL (tabs:List (Addr×Addr)):Tn:=⟨(tabs.getD 0 (0,0)).2,(tabs.getD 1 (0,0)).2,(tabs.getD 2 (0,0)).2,(tabs.getD 3 (0,0)).2⟩
def gR (t:Tn):Bool:=(!(t.t1==t.t2)) && ((!(t.t1==t.t3)) && ((!(t.t1==t.t4)) && ((!(t.t2==t.t3)) && ((!(t.t2==t.t4)) && (!(t.t3==t.t4))))))
theorem sT {t:Tn} (h:gR t=true):Td t:=by
 unfold gR at h
 rw [Bool.and_eq_true,Bool.and_eq_true,Bool.and_eq_true,Bool.and_eq_true,Bool.and_eq_true] at h
 obtain ⟨h1,h2,h3,h4,h5,h6⟩:=h
 have g:∀{a b:Addr},(!(a==b))=true→a≠b:=fun {a b} q z=>by rw [z,beq_self_eq_true] at q;cases q
 exact ⟨g h1,g h2,g h3,g h4,g h5,g h6⟩
def spAns (K:PySem.W.Frag) (tabs:List (Addr×Addr)):Sp:=match tabs with
 | [q1,q2,q3,q4]=>sp1 (pE K ⟨q1.2,q2.2,q3.2,q4.2⟩)
 | _=>fun vs _ _ _=>vs.length=1
theorem spAns_req {K:PySem.W.Frag} {tabs:List (Addr×Addr)} {H:Hp} {a:Addr} {l:List Int} {Q:VK} {E:XK} (hO:∀q∈tabs,H q.2=some (.tbl #[])) (hN:∀b ys,H b≠some (.lst ys)) (hs:SqL K H a (l.map V.int)) (hask:PyVbrgae.answers_asked l=true) (hl:l.length≤17000) (k:∀H' r,H' r=some (.lst ((PyVbrgae.answers l).map V.int))→Q (.ref r) H'):spAns K tabs [.ref a] H Q E:=by
 match tabs,hO with
 | [],_=>exact rfl
 | [_],_=>exact rfl
 | [_,_],_=>exact rfl
 | [_,_,_],_=>exact rfl
 | [q1,q2,q3,q4],hO=>exact ⟨_,rfl,a,l,rfl,hs,hN,hO q1 (by simp),hO q2 (by simp),hO q3 (by simp),hO q4 (by simp),hask,hl,k⟩
 | _::_::_::_::_::_,_=>exact rfl
theorem all_mk {P:Program} {w:World} {K:PySem.W.Frag} {h:Heap} {mg:Str→Option Value} {fa Cb Cs f:Addr} {oc:Value} {od an:Option Addr} {osl:Array (Option Value)} {kV doc pm cdv ct:Value} (X:K.In h) (G:h.Ns mainGlobals mg) (hfa:mg "answers"=some (.ref fa)) (T:i5 P w K mg Cb Cs) (gc:GC K mg)
  (td:gR (jL (tabL K))=true)
  (d1:DfL K mg "list_to_stairs" "list_to_stairs" bW ["board","spot"] ((PySem.W.tabIn K "list_to_stairs").getD (0,0)).1)
  (d2:DfL K mg "reached_spots" "reached_spots" V4 ["board","spot"] ((PySem.W.tabIn K "reached_spots").getD (0,0)).1)
  (d3:DfL K mg "far_list" "far_list" fH ["session","numbers","row"] ((PySem.W.tabIn K "far_list").getD (0,0)).1)
  (d4:DfL K mg "spoil_list" "spoil_list" eT ["session","numbers","row"] ((PySem.W.tabIn K "spoil_list").getD (0,0)).1)
  (a:nsIn K mainGlobals "answers"=some (some (.ref f))) (l:K.lookup f=some ⟨oc,od,.func (PySem.W.fnOf "answers" "answers" (L8 S5) (E2 S5) (k9 S5) .none kV doc pm an cdv ct),osl⟩) (c:PySem.W.codeIn K cdv "answers"=true) (k:PySem.W.keepIn K (.ref f)=true) :
  ∃fd:FuncData,(∀(s:Shared) (us:List Value),us.length=(["calls"]:List Str).length→BindsTo s fd ⟨us,[]⟩ ((["calls"]:List Str).zip us))∧∀base:Heap,K.In base→base.Ns mainGlobals mg→(∀q∈tabL K,CodeHd base q.1 q.2)→Bm mg base→C9 P w K mg base x8 16 fa fd ["calls"] (spAns K (tabL K)):=by
 have e:=hfa.symm.trans (PySem.W.mg_of X G a)
 cases e
 refine ⟨_,fun s us hu=>match us,hu with | [_],_=>.of_eq rfl,fun base _ _ hC hB=>zC T (ts:=jL (tabL K)) ⟨hB,sT td,⟨_,?_,d1⟩,⟨_,?_,d2⟩,⟨_,?_,d3⟩,⟨_,?_,d4⟩⟩ gc (M5 (st:=S5) l c k)⟩
 ·exact hC ((PySem.W.tabIn K "list_to_stairs").getD (0,0)) (by simp [tabL,tabN])
 ·exact hC ((PySem.W.tabIn K "reached_spots").getD (0,0)) (by simp [tabL,tabN])
 ·exact hC ((PySem.W.tabIn K "far_list").getD (0,0)) (by simp [tabL,tabN])
 ·exact hC ((PySem.W.tabIn K "spoil_list").getD (0,0)) (by simp [tabL,tabN])
end Pr
namespace PySem.W.Fast
def tw12674870840263139361:=0
def tw5157021040099452073:=0
def tw7595249657399598057:=0
def tw15980463886665058289:=0
def tw2982460928838665311:=0
def tw9375646515468375855:=0
def tw212173302248293734:=0
def tw6891890678019209173:=0
def tw9250318223992713717:=0
def tw16833028879906741287:=0
def tw4602292866001149580:=0
def tw16686214588669811693:=0
def tw5170102926257506870:=0
def tw3753475108770263208:=0
def tw7995429993855264740:=0
def tw752812242169223945:=0
def tw11918234055350681572:=0
def tw11700864522969561968:=0
def tw2695770880714863359:=0
def tw11077174565878814537:=0
def tw17662104367826919485:=0
def tw8828297030982884963:=0
def tw3220634458257934245:=0
def tw3374375718272447014:=0
def tw14670573707570234010:=0
def tw8539869781939645774:=0
def tw1943672647212745785:=0
def tw18189717559744744146:=0
def tw14579483185791165947:=0
def tw12158025988161070383:=0
def tw8116840375182587079:=0
def tw8948729912798724115:=0
def tw4635057662467724198:=0
def tw9670092478388960902:=0
def tw12482452295671393546:=0
def tw777276558791916147:=0
def tw5220578009618167800:=0
def tw9330814430781993744:=0
def tw12987680885171631088:=0
def tw10357935190752261065:=0
def tw16861132339056843739:=0
def tw514136261557093059:=0
def tw914898628341293846:=0
def tw9120997134693861047:=0
def tw9907049477799579985:=0
def tw4798515991629620299:=0
def tw6301564489496942417:=0
def tw7028412040806337441:=0
def tw2849011625684655937:=0
def tw5945269733906255773:=0
def tw12539590940154017413:=0
def tw6569506046562621233:=0
def tw16318210533029737411:=0
def tw12484518373593017742:=0
def tw6531572829941679466:=0
def tw3133288234920702796:=0
def tw14907506422294549010:=0
def tw14274594050971149948:=0
def tw13586890932812923696:=0
def tw17478977866893700088:=0
def tw3564212923102306290:=0
def tw8338734932574572039:=0
def tw17546213491805084245:=0
def tw468774398649393345:=0
def tw2594786320558972410:=0
def tw2484415540200292725:=0
def tw817796345866117960:=0
def tw9860449233808525156:=0
def tw2910365538343541613:=0
def tw3326868943960342228:=0
def tw553866580690433058:=0
def tw6784997921460727343:=0
def tw2965249627279099188:=0
def tw4356645789253342393:=0
def tw6118180909605864343:=0
def tw7603050182602820942:=0
def tw4971002493482795512:=0
def tw7588021087110294572:=0
def tw17827838675242700631:=0
def tw1118376249426104762:=0
def tw8035851718077629597:=0
def tw13970033635613641842:=0
def tw14651383364464275244:=0
def tw18132283705243280337:=0
def tw14718344246170146820:=0
def tw1289615120653177145:=0
def tw5769709185562886974:=0
def tw9030729546459512129:=0
def tw10206625379409061604:=0
def tw7120271067156830734:=0
def tw2573959097820828615:=0
def tw7781857128378917860:=0
def tw11975127543773361502:=0
def tw10633835882835815402:=0
def tw14729650397787239394:=0
def tw12490350953610350566:=0
def tw3201036573905020867:=0
def tw17957404588125461283:=0
def tw5156161612427276350:=0
def tw4403153368582120525:=0
def tw5911806883308630391:=0
def tw4080699952557876547:=0
def tw12986142118334283612:=0
def tw7725508845381554589:=0
def tw777976095024537759:=0
def tw11971118484137118425:=0
def tw6823967491738722156:=0
def tw3877929117931501457:=0
def tw4264051789185529588:=0
def tw2352335166248245083:=0
def tw11500438435955434948:=0
def tw15541319813215225925:=0
def tw6640246867720564849:=0
def tw11020423580880738799:=0
def tw15980525233098651023:=0
def tw804179274564305562:=0
def tw7453999043476513754:=0
def tw8273408856317839692:=0
def tw1138323796743886987:=0
def tw16801572701814958567:=0
def tw10136969476346552316:=0
def tw13066925753395851661:=0
def tw11951618643706544454:=0
def tw1934945031100008073:=0
def tw8402887971060598925:=0
def tw11360489762434854219:=0
def tw7484091401901317661:=0
def tw5487517087810544921:=0
def tw9584708321023354963:=0
def tw10320371648371187071:=0
def tw5176677999278705834:=0
def tw8890134174405555911:=0
def tw5147836118314581480:=0
def tw84375430193807644:=0
def tw7537852572074397245:=0
def tw12156671334886410720:=0
def tw11301992477749332825:=0
def tw11523986511296452657:=0
def tw7387575446252533057:=0
def tw12777617539650131008:=0
def tw3524491600752421375:=0
def tw5711874522277638976:=0
def tw1303375223383419127:=0
def tw9502959765212929354:=0
def tw18155119137705851404:=0
def tw9861000134797687827:=0
def tw5553192243969360084:=0
def tw12304025008976696583:=0
def tw16771280383041332363:=0
end PySem.W.Fast
open PySem PySem.W PyProof.Rows
set_option maxRecDepth 100000 in
set_option maxHeartbeats 0 in
theorem PySem.Challenge.cw_locklevels_s01_answers_holds : PySem.Challenge.rw_locklevels_s01_answers.Holds := by
 w_on;k_headS;(case hw=>exact ⟨[.list [.int 2]],by rfl',by rfl'⟩)
 k_fillS
 refine L2.walk_specT (r:=PySem.Challenge.rw_locklevels_s01_answers) (k:=16) (ps:=["calls"]) (tabs:=fun p=>Pr.tabL (PySem.Challenge.cw_locklevels_s01_answers_holds.heap_1 p)) (sp:=Pr.spAns) (by rfl') rfl rfl ⟨rfl,by decide,by decide⟩ (fun w h Y=>PySem.W.kIn_of Y) ?qNoTabs ?qTabs ?qFun ?qReq
 case qNoTabs=>intro p;kernel_rfl
 case qTabs=>
  intro w mean mg mb h KX T
  refine List.forall_mem_cons.mpr ⟨?_,List.forall_mem_cons.mpr ⟨?_,List.forall_mem_cons.mpr ⟨?_,List.forall_mem_cons.mpr ⟨?_,(fun _ z=>nomatch z)⟩⟩⟩⟩
  ·exact PySem.W.tab_of (x:="list_to_stairs") T KX rfl (by kernel_rfl)
  ·exact PySem.W.tab_of (x:="reached_spots") T KX rfl (by kernel_rfl)
  ·exact PySem.W.tab_of (x:="far_list") T KX rfl (by kernel_rfl)
  ·exact PySem.W.tab_of (x:="spoil_list") T KX rfl (by kernel_rfl)
 case qFun=>
  intro w mg fa h Y KX G hmg
  refine' Pr.all_mk KX G hmg ⟨?b_len,?b_range,?b_enumerate,?b_zip,?b_reversed,?b_list,?b_set,?b_any,?b_sum,?g_WALL,?g_FLOOR,?g_START,?g_STAIRS,?g_SMALL_KEY,?g_LOCK,?g_LEVER_A,?g_LEVER_B,?g_GATE_A_ON,?g_GATE_A_OFF,?g_GATE_B_ON,?g_GATE_B_OFF,?g_PULL,?g_ACTS,?g_MOST_THINGS,?g_CANNOT,?g_NO_START_OR_STAIRS,?g_TOO_MANY_THINGS,?g_MODULUS,?g_DONE,?g_OUTSIDE_RANGE,?g_NO_LEVEL,?g_NO_SUCH,?g_CANT_BE_DONE,?g_GAME_OVER,?g_NOTHING_DONE,?g_OPEN_LEVEL,?g_KEYS,?g_THINGS,?g_LEVERS,?g_GATES,?g_GATES_OPEN_IF_ON,?g_GOES_BY_MARKS,?g_STEP_RIGHT,?g_STEP_DOWN,?g_BITS,?g_KEY_OF_DOOR,?g_DIRECTION_OF_DROP,?cl_Board,?mg_Board,?nB_width,?nB_height,?nB_codes,?nB_size,?nB_things,?nB_thing_bits,?nB_code_bits,?nB_lever_bits,?nB_exits,?nB_is_free,?nB_known_steps,?cl_Session,?mg_Session,?nS_board,?nS_spots,?nS_hopeful,?d_things_of,?d_refusal_of,?d_changed_codes,?d_codes_without,?d_count_bits,?d_may_leave,?d_may_come,?d_acts_to,?d_explore,?d_first_list,?d_list_to_stairs,?d_reached_spots,?d_sources_of,?d_hopeful_spots,?d_next_counts,?d_count_ways,?d_told_row,?d_told_list,?d_begin_level,?d_open_level,?d_do_act,?d_take_back,?d_start_again,?d_tell_here,?d_least_list,?d_far_list,?d_tell_reach,?d_tell_spoilt,?d_spoil_list,?d_tell_needed,?d_try_acts,?d_edit_cell,?d_tell_ways,?d_tell_things,?d_tell_state,?d_count_numbers,?d_has_row,?d_is_within,?d_is_outside,?d_answer,?d_answers,?mB_set_thing_bits,?mB_set_lever_bits,?mB_cell_at,?mB_neighbour,?mB_find_exits,?mB_first_spot,?mB_cell_of,?mB_marks_of,?mB_is_over,?mB_place,?mB_small_keys,?mB_mark_row,?mB_gate_is_open,?mB_lock_lets_in,?mB_marks_after,?mB_find_steps,?mB_steps,?mS_begin,?mS_restart,?mS_spot_here,?mS_is_spoilt,?mk_Board,?mk_Session⟩ (Pr.gc_mk KX G (by kernel_rfl)) (by kernel_rfl) ?q1 ?q2 ?q3 ?q4 ?qa ?ql ?qc ?qk
  (case mg_Session=>refine' PySem.W.mg_of KX G ?a;(case a=>k_is))
  (case mg_Board=>refine' PySem.W.mg_of KX G ?a;(case a=>k_is))
  (case b_len=>exact Pr.mn_mk KX G (by kernel_rfl))
  (case b_range=>exact Pr.mn_mk KX G (by kernel_rfl))
  (case b_enumerate=>exact Pr.mn_mk KX G (by kernel_rfl))
  (case b_zip=>exact Pr.mn_mk KX G (by kernel_rfl))
  (case b_reversed=>exact Pr.mn_mk KX G (by kernel_rfl))
  (case b_list=>exact Pr.mn_mk KX G (by kernel_rfl))
  (case b_set=>exact Pr.mn_mk KX G (by kernel_rfl))
  (case b_any=>exact Pr.mn_mk KX G (by kernel_rfl))
  (case b_sum=>exact Pr.mn_mk KX G (by kernel_rfl))
  (case g_WALL=>exact Pr.gi_mk KX G (by kernel_rfl))
  (case g_FLOOR=>exact Pr.gi_mk KX G (by kernel_rfl))
  (case g_START=>exact Pr.gi_mk KX G (by kernel_rfl))
  (case g_STAIRS=>exact Pr.gi_mk KX G (by kernel_rfl))
  (case g_SMALL_KEY=>exact Pr.gi_mk KX G (by kernel_rfl))
  (case g_LOCK=>exact Pr.gi_mk KX G (by kernel_rfl))
  (case g_LEVER_A=>exact Pr.gi_mk KX G (by kernel_rfl))
  (case g_LEVER_B=>exact Pr.gi_mk KX G (by kernel_rfl))
  (case g_GATE_A_ON=>exact Pr.gi_mk KX G (by kernel_rfl))
  (case g_GATE_A_OFF=>exact Pr.gi_mk KX G (by kernel_rfl))
  (case g_GATE_B_ON=>exact Pr.gi_mk KX G (by kernel_rfl))
  (case g_GATE_B_OFF=>exact Pr.gi_mk KX G (by kernel_rfl))
  (case g_PULL=>exact Pr.gi_mk KX G (by kernel_rfl))
  (case g_ACTS=>exact Pr.gi_mk KX G (by kernel_rfl))
  (case g_MOST_THINGS=>exact Pr.gi_mk KX G (by kernel_rfl))
  (case g_CANNOT=>exact Pr.gi_mk KX G (by kernel_rfl))
  (case g_NO_START_OR_STAIRS=>exact Pr.gi_mk KX G (by kernel_rfl))
  (case g_TOO_MANY_THINGS=>exact Pr.gi_mk KX G (by kernel_rfl))
  (case g_MODULUS=>exact Pr.gi_mk KX G (by kernel_rfl))
  (case g_DONE=>exact Pr.gi_mk KX G (by kernel_rfl))
  (case g_OUTSIDE_RANGE=>exact Pr.gi_mk KX G (by kernel_rfl))
  (case g_NO_LEVEL=>exact Pr.gi_mk KX G (by kernel_rfl))
  (case g_NO_SUCH=>exact Pr.gi_mk KX G (by kernel_rfl))
  (case g_CANT_BE_DONE=>exact Pr.gi_mk KX G (by kernel_rfl))
  (case g_GAME_OVER=>exact Pr.gi_mk KX G (by kernel_rfl))
  (case g_NOTHING_DONE=>exact Pr.gi_mk KX G (by kernel_rfl))
  (case g_OPEN_LEVEL=>exact Pr.gi_mk KX G (by kernel_rfl))
  (case g_KEYS=>exact Pr.gt_mk KX G (by kernel_rfl))
  (case g_THINGS=>exact Pr.gt_mk KX G (by kernel_rfl))
  (case g_LEVERS=>exact Pr.gt_mk KX G (by kernel_rfl))
  (case g_GATES=>exact Pr.gt_mk KX G (by kernel_rfl))
  (case g_GATES_OPEN_IF_ON=>exact Pr.gt_mk KX G (by kernel_rfl))
  (case g_GOES_BY_MARKS=>exact Pr.gt_mk KX G (by kernel_rfl))
  (case g_STEP_RIGHT=>exact Pr.gt_mk KX G (by kernel_rfl))
  (case g_STEP_DOWN=>exact Pr.gt_mk KX G (by kernel_rfl))
  (case g_BITS=>exact Pr.gt_mk KX G (by kernel_rfl))
  (case g_KEY_OF_DOOR=>exact Pr.gd_mk KX G (by kernel_rfl) (by decide))
  (case g_DIRECTION_OF_DROP=>exact Pr.gd_mk KX G (by kernel_rfl) (by decide))
  (case cl_Board=>refine' ⟨?pg,?hd,?po,?sa⟩;(case pg=>k_is);(case hd=>k_is);(case po=>k_is);(case sa=>k_is))
  (case nB_width=>show PySem.W.findIn _ _ _=_;k_is)
  (case nB_height=>show PySem.W.findIn _ _ _=_;k_is)
  (case nB_codes=>show PySem.W.findIn _ _ _=_;k_is)
  (case nB_size=>show PySem.W.findIn _ _ _=_;k_is)
  (case nB_things=>show PySem.W.findIn _ _ _=_;k_is)
  (case nB_thing_bits=>show PySem.W.findIn _ _ _=_;k_is)
  (case nB_code_bits=>show PySem.W.findIn _ _ _=_;k_is)
  (case nB_lever_bits=>show PySem.W.findIn _ _ _=_;k_is)
  (case nB_exits=>show PySem.W.findIn _ _ _=_;k_is)
  (case nB_is_free=>show PySem.W.findIn _ _ _=_;k_is)
  (case nB_known_steps=>show PySem.W.findIn _ _ _=_;k_is)
  (case cl_Session=>refine' ⟨?pg,?hd,?po,?sa⟩;(case pg=>k_is);(case hd=>k_is);(case po=>k_is);(case sa=>k_is))
  (case nS_board=>show PySem.W.findIn _ _ _=_;k_is)
  (case nS_spots=>show PySem.W.findIn _ _ _=_;k_is)
  (case nS_hopeful=>show PySem.W.findIn _ _ _=_;k_is)
  (case d_things_of=>refine' Pr.df_mk KX G (fun _ _ _ _ _ _ _ h=>Pr.us1 h fun _=>rfl) ?a ?l ?c ?k;(case a=>k_is);(case l=>k_is);(case c=>k_is);(case k=>k_is))
  (case d_refusal_of=>refine' Pr.df_mk KX G (fun _ _ _ _ _ _ _ h=>Pr.us1 h fun _=>rfl) ?a ?l ?c ?k;(case a=>k_is);(case l=>k_is);(case c=>k_is);(case k=>k_is))
  (case d_changed_codes=>refine' Pr.df_mk KX G (fun _ _ _ _ _ _ _ h=>Pr.us3 h fun _ _ _=>rfl) ?a ?l ?c ?k;(case a=>k_is);(case l=>k_is);(case c=>k_is);(case k=>k_is))
  (case d_codes_without=>refine' Pr.df_mk KX G (fun _ _ _ _ _ _ _ h=>Pr.us2 h fun _ _=>rfl) ?a ?l ?c ?k;(case a=>k_is);(case l=>k_is);(case c=>k_is);(case k=>k_is))
  (case d_count_bits=>refine' Pr.df_mk KX G (fun _ _ _ _ _ _ _ h=>Pr.us1 h fun _=>rfl) ?a ?l ?c ?k;(case a=>k_is);(case l=>k_is);(case c=>k_is);(case k=>k_is))
  (case d_may_leave=>refine' Pr.df_mk KX G (fun _ _ _ _ _ _ _ h=>Pr.us2 h fun _ _=>rfl) ?a ?l ?c ?k;(case a=>k_is);(case l=>k_is);(case c=>k_is);(case k=>k_is))
  (case d_may_come=>refine' Pr.df_mk KX G (fun _ _ _ _ _ _ _ h=>Pr.us2 h fun _ _=>rfl) ?a ?l ?c ?k;(case a=>k_is);(case l=>k_is);(case c=>k_is);(case k=>k_is))
  (case d_acts_to=>refine' Pr.df_mk KX G (fun _ _ _ _ _ _ _ h=>Pr.us2 h fun _ _=>rfl) ?a ?l ?c ?k;(case a=>k_is);(case l=>k_is);(case c=>k_is);(case k=>k_is))
  (case d_explore=>refine' Pr.df_mk KX G (fun _ _ _ _ _ _ _ h=>Pr.us3 h fun _ _ _=>rfl) ?a ?l ?c ?k;(case a=>k_is);(case l=>k_is);(case c=>k_is);(case k=>k_is))
  (case d_first_list=>refine' Pr.df_mk KX G (fun _ _ _ _ _ _ _ h=>Pr.us3 h fun _ _ _=>rfl) ?a ?l ?c ?k;(case a=>k_is);(case l=>k_is);(case c=>k_is);(case k=>k_is))
  (case d_list_to_stairs=>refine' Pr.df_mk KX G (fun _ _ _ _ _ _ _ h=>Pr.us2 h fun _ _=>rfl) ?a ?l ?c ?k;(case a=>k_is);(case l=>k_is);(case c=>k_is);(case k=>k_is))
  (case d_reached_spots=>refine' Pr.df_mk KX G (fun _ _ _ _ _ _ _ h=>Pr.us2 h fun _ _=>rfl) ?a ?l ?c ?k;(case a=>k_is);(case l=>k_is);(case c=>k_is);(case k=>k_is))
  (case d_sources_of=>refine' Pr.df_mk KX G (fun _ _ _ _ _ _ _ h=>Pr.us2 h fun _ _=>rfl) ?a ?l ?c ?k;(case a=>k_is);(case l=>k_is);(case c=>k_is);(case k=>k_is))
  (case d_hopeful_spots=>refine' Pr.df_mk KX G (fun _ _ _ _ _ _ _ h=>Pr.us2 h fun _ _=>rfl) ?a ?l ?c ?k;(case a=>k_is);(case l=>k_is);(case c=>k_is);(case k=>k_is))
  (case d_next_counts=>refine' Pr.df_mk KX G (fun _ _ _ _ _ _ _ h=>Pr.us3 h fun _ _ _=>rfl) ?a ?l ?c ?k;(case a=>k_is);(case l=>k_is);(case c=>k_is);(case k=>k_is))
  (case d_count_ways=>refine' Pr.df_mk KX G (fun _ _ _ _ _ _ _ h=>Pr.us2 h fun _ _=>rfl) ?a ?l ?c ?k;(case a=>k_is);(case l=>k_is);(case c=>k_is);(case k=>k_is))
  (case d_told_row=>refine' Pr.df_mk KX G (fun _ _ _ _ _ _ _ h=>Pr.us1 h fun _=>rfl) ?a ?l ?c ?k;(case a=>k_is);(case l=>k_is);(case c=>k_is);(case k=>k_is))
  (case d_told_list=>refine' Pr.df_mk KX G (fun _ _ _ _ _ _ _ h=>Pr.us1 h fun _=>rfl) ?a ?l ?c ?k;(case a=>k_is);(case l=>k_is);(case c=>k_is);(case k=>k_is))
  (case d_begin_level=>refine' Pr.df_mk KX G (fun _ _ _ _ _ _ _ h=>Pr.us4 h fun _ _ _ _=>rfl) ?a ?l ?c ?k;(case a=>k_is);(case l=>k_is);(case c=>k_is);(case k=>k_is))
  (case d_open_level=>refine' Pr.df_mk KX G (fun _ _ _ _ _ _ _ h=>Pr.us3 h fun _ _ _=>rfl) ?a ?l ?c ?k;(case a=>k_is);(case l=>k_is);(case c=>k_is);(case k=>k_is))
  (case d_do_act=>refine' Pr.df_mk KX G (fun _ _ _ _ _ _ _ h=>Pr.us3 h fun _ _ _=>rfl) ?a ?l ?c ?k;(case a=>k_is);(case l=>k_is);(case c=>k_is);(case k=>k_is))
  (case d_take_back=>refine' Pr.df_mk KX G (fun _ _ _ _ _ _ _ h=>Pr.us3 h fun _ _ _=>rfl) ?a ?l ?c ?k;(case a=>k_is);(case l=>k_is);(case c=>k_is);(case k=>k_is))
  (case d_start_again=>refine' Pr.df_mk KX G (fun _ _ _ _ _ _ _ h=>Pr.us3 h fun _ _ _=>rfl) ?a ?l ?c ?k;(case a=>k_is);(case l=>k_is);(case c=>k_is);(case k=>k_is))
  (case d_tell_here=>refine' Pr.df_mk KX G (fun _ _ _ _ _ _ _ h=>Pr.us3 h fun _ _ _=>rfl) ?a ?l ?c ?k;(case a=>k_is);(case l=>k_is);(case c=>k_is);(case k=>k_is))
  (case d_least_list=>refine' Pr.df_mk KX G (fun _ _ _ _ _ _ _ h=>Pr.us3 h fun _ _ _=>rfl) ?a ?l ?c ?k;(case a=>k_is);(case l=>k_is);(case c=>k_is);(case k=>k_is))
  (case d_far_list=>refine' Pr.df_mk KX G (fun _ _ _ _ _ _ _ h=>Pr.us3 h fun _ _ _=>rfl) ?a ?l ?c ?k;(case a=>k_is);(case l=>k_is);(case c=>k_is);(case k=>k_is))
  (case d_tell_reach=>refine' Pr.df_mk KX G (fun _ _ _ _ _ _ _ h=>Pr.us3 h fun _ _ _=>rfl) ?a ?l ?c ?k;(case a=>k_is);(case l=>k_is);(case c=>k_is);(case k=>k_is))
  (case d_tell_spoilt=>refine' Pr.df_mk KX G (fun _ _ _ _ _ _ _ h=>Pr.us3 h fun _ _ _=>rfl) ?a ?l ?c ?k;(case a=>k_is);(case l=>k_is);(case c=>k_is);(case k=>k_is))
  (case d_spoil_list=>refine' Pr.df_mk KX G (fun _ _ _ _ _ _ _ h=>Pr.us3 h fun _ _ _=>rfl) ?a ?l ?c ?k;(case a=>k_is);(case l=>k_is);(case c=>k_is);(case k=>k_is))
  (case d_tell_needed=>refine' Pr.df_mk KX G (fun _ _ _ _ _ _ _ h=>Pr.us3 h fun _ _ _=>rfl) ?a ?l ?c ?k;(case a=>k_is);(case l=>k_is);(case c=>k_is);(case k=>k_is))
  (case d_try_acts=>refine' Pr.df_mk KX G (fun _ _ _ _ _ _ _ h=>Pr.us3 h fun _ _ _=>rfl) ?a ?l ?c ?k;(case a=>k_is);(case l=>k_is);(case c=>k_is);(case k=>k_is))
  (case d_edit_cell=>refine' Pr.df_mk KX G (fun _ _ _ _ _ _ _ h=>Pr.us3 h fun _ _ _=>rfl) ?a ?l ?c ?k;(case a=>k_is);(case l=>k_is);(case c=>k_is);(case k=>k_is))
  (case d_tell_ways=>refine' Pr.df_mk KX G (fun _ _ _ _ _ _ _ h=>Pr.us3 h fun _ _ _=>rfl) ?a ?l ?c ?k;(case a=>k_is);(case l=>k_is);(case c=>k_is);(case k=>k_is))
  (case d_tell_things=>refine' Pr.df_mk KX G (fun _ _ _ _ _ _ _ h=>Pr.us3 h fun _ _ _=>rfl) ?a ?l ?c ?k;(case a=>k_is);(case l=>k_is);(case c=>k_is);(case k=>k_is))
  (case d_tell_state=>refine' Pr.df_mk KX G (fun _ _ _ _ _ _ _ h=>Pr.us3 h fun _ _ _=>rfl) ?a ?l ?c ?k;(case a=>k_is);(case l=>k_is);(case c=>k_is);(case k=>k_is))
  (case d_count_numbers=>refine' Pr.df_mk KX G (fun _ _ _ _ _ _ _ h=>Pr.us1 h fun _=>rfl) ?a ?l ?c ?k;(case a=>k_is);(case l=>k_is);(case c=>k_is);(case k=>k_is))
  (case d_has_row=>refine' Pr.df_mk KX G (fun _ _ _ _ _ _ _ h=>Pr.us1 h fun _=>rfl) ?a ?l ?c ?k;(case a=>k_is);(case l=>k_is);(case c=>k_is);(case k=>k_is))
  (case d_is_within=>refine' Pr.df_mk KX G (fun _ _ _ _ _ _ _ h=>Pr.us2 h fun _ _=>rfl) ?a ?l ?c ?k;(case a=>k_is);(case l=>k_is);(case c=>k_is);(case k=>k_is))
  (case d_is_outside=>refine' Pr.df_mk KX G (fun _ _ _ _ _ _ _ h=>Pr.us3 h fun _ _ _=>rfl) ?a ?l ?c ?k;(case a=>k_is);(case l=>k_is);(case c=>k_is);(case k=>k_is))
  (case d_answer=>refine' Pr.df_mk KX G (fun _ _ _ _ _ _ _ h=>Pr.us4 h fun _ _ _ _=>rfl) ?a ?l ?c ?k;(case a=>k_is);(case l=>k_is);(case c=>k_is);(case k=>k_is))
  (case d_answers=>refine' Pr.df_mk KX G (fun _ _ _ _ _ _ _ h=>Pr.us1 h fun _=>rfl) ?a ?l ?c ?k;(case a=>k_is);(case l=>k_is);(case c=>k_is);(case k=>k_is))
  (case mB_set_thing_bits=>refine' Pr.mf_mk (fun _ _ _ _ _ _ _ h=>Pr.us1 h fun _=>rfl) ?a ?i ?l ?c ?k;(case a=>k_is);(case i=>k_is);(case l=>k_is);(case c=>k_is);(case k=>k_is))
  (case mB_set_lever_bits=>refine' Pr.mf_mk (fun _ _ _ _ _ _ _ h=>Pr.us1 h fun _=>rfl) ?a ?i ?l ?c ?k;(case a=>k_is);(case i=>k_is);(case l=>k_is);(case c=>k_is);(case k=>k_is))
  (case mB_cell_at=>refine' Pr.mf_mk (fun _ _ _ _ _ _ _ h=>Pr.us3 h fun _ _ _=>rfl) ?a ?i ?l ?c ?k;(case a=>k_is);(case i=>k_is);(case l=>k_is);(case c=>k_is);(case k=>k_is))
  (case mB_neighbour=>refine' Pr.mf_mk (fun _ _ _ _ _ _ _ h=>Pr.us3 h fun _ _ _=>rfl) ?a ?i ?l ?c ?k;(case a=>k_is);(case i=>k_is);(case l=>k_is);(case c=>k_is);(case k=>k_is))
  (case mB_find_exits=>refine' Pr.mf_mk (fun _ _ _ _ _ _ _ h=>Pr.us2 h fun _ _=>rfl) ?a ?i ?l ?c ?k;(case a=>k_is);(case i=>k_is);(case l=>k_is);(case c=>k_is);(case k=>k_is))
  (case mB_first_spot=>refine' Pr.mf_mk (fun _ _ _ _ _ _ _ h=>Pr.us1 h fun _=>rfl) ?a ?i ?l ?c ?k;(case a=>k_is);(case i=>k_is);(case l=>k_is);(case c=>k_is);(case k=>k_is))
  (case mB_cell_of=>refine' Pr.mf_mk (fun _ _ _ _ _ _ _ h=>Pr.us2 h fun _ _=>rfl) ?a ?i ?l ?c ?k;(case a=>k_is);(case i=>k_is);(case l=>k_is);(case c=>k_is);(case k=>k_is))
  (case mB_marks_of=>refine' Pr.mf_mk (fun _ _ _ _ _ _ _ h=>Pr.us2 h fun _ _=>rfl) ?a ?i ?l ?c ?k;(case a=>k_is);(case i=>k_is);(case l=>k_is);(case c=>k_is);(case k=>k_is))
  (case mB_is_over=>refine' Pr.mf_mk (fun _ _ _ _ _ _ _ h=>Pr.us2 h fun _ _=>rfl) ?a ?i ?l ?c ?k;(case a=>k_is);(case i=>k_is);(case l=>k_is);(case c=>k_is);(case k=>k_is))
  (case mB_place=>refine' Pr.mf_mk (fun _ _ _ _ _ _ _ h=>Pr.us2 h fun _ _=>rfl) ?a ?i ?l ?c ?k;(case a=>k_is);(case i=>k_is);(case l=>k_is);(case c=>k_is);(case k=>k_is))
  (case mB_small_keys=>refine' Pr.mf_mk (fun _ _ _ _ _ _ _ h=>Pr.us2 h fun _ _=>rfl) ?a ?i ?l ?c ?k;(case a=>k_is);(case i=>k_is);(case l=>k_is);(case c=>k_is);(case k=>k_is))
  (case mB_mark_row=>refine' Pr.mf_mk (fun _ _ _ _ _ _ _ h=>Pr.us2 h fun _ _=>rfl) ?a ?i ?l ?c ?k;(case a=>k_is);(case i=>k_is);(case l=>k_is);(case c=>k_is);(case k=>k_is))
  (case mB_gate_is_open=>refine' Pr.mf_mk (fun _ _ _ _ _ _ _ h=>Pr.us3 h fun _ _ _=>rfl) ?a ?i ?l ?c ?k;(case a=>k_is);(case i=>k_is);(case l=>k_is);(case c=>k_is);(case k=>k_is))
  (case mB_lock_lets_in=>refine' Pr.mf_mk (fun _ _ _ _ _ _ _ h=>Pr.us3 h fun _ _ _=>rfl) ?a ?i ?l ?c ?k;(case a=>k_is);(case i=>k_is);(case l=>k_is);(case c=>k_is);(case k=>k_is))
  (case mB_marks_after=>refine' Pr.mf_mk (fun _ _ _ _ _ _ _ h=>Pr.us3 h fun _ _ _=>rfl) ?a ?i ?l ?c ?k;(case a=>k_is);(case i=>k_is);(case l=>k_is);(case c=>k_is);(case k=>k_is))
  (case mB_find_steps=>refine' Pr.mf_mk (fun _ _ _ _ _ _ _ h=>Pr.us2 h fun _ _=>rfl) ?a ?i ?l ?c ?k;(case a=>k_is);(case i=>k_is);(case l=>k_is);(case c=>k_is);(case k=>k_is))
  (case mB_steps=>refine' Pr.mf_mk (fun _ _ _ _ _ _ _ h=>Pr.us2 h fun _ _=>rfl) ?a ?i ?l ?c ?k;(case a=>k_is);(case i=>k_is);(case l=>k_is);(case c=>k_is);(case k=>k_is))
  (case mS_begin=>refine' Pr.mf_mk (fun _ _ _ _ _ _ _ h=>Pr.us2 h fun _ _=>rfl) ?a ?i ?l ?c ?k;(case a=>k_is);(case i=>k_is);(case l=>k_is);(case c=>k_is);(case k=>k_is))
  (case mS_restart=>refine' Pr.mf_mk (fun _ _ _ _ _ _ _ h=>Pr.us1 h fun _=>rfl) ?a ?i ?l ?c ?k;(case a=>k_is);(case i=>k_is);(case l=>k_is);(case c=>k_is);(case k=>k_is))
  (case mS_spot_here=>refine' Pr.mf_mk (fun _ _ _ _ _ _ _ h=>Pr.us1 h fun _=>rfl) ?a ?i ?l ?c ?k;(case a=>k_is);(case i=>k_is);(case l=>k_is);(case c=>k_is);(case k=>k_is))
  (case mS_is_spoilt=>refine' Pr.mf_mk (fun _ _ _ _ _ _ _ h=>Pr.us2 h fun _ _=>rfl) ?a ?i ?l ?c ?k;(case a=>k_is);(case i=>k_is);(case l=>k_is);(case c=>k_is);(case k=>k_is))
  (case mk_Board=>refine' Pr.mkf_mk (fun _ _ _ _ _ _ _ h=>Pr.us4 h fun _ _ _ _=>rfl) ?mk ?kc ?a ?i ?l ?c ?k;(case mk=>k_is);(case kc=>k_is);(case a=>k_is);(case i=>k_is);(case l=>k_is);(case c=>k_is);(case k=>k_is))
  (case mk_Session=>refine' Pr.mkf_mk (fun _ _ _ _ _ _ _ h=>Pr.us1 h fun _=>rfl) ?mk ?kc ?a ?i ?l ?c ?k;(case mk=>k_is);(case kc=>k_is);(case a=>k_is);(case i=>k_is);(case l=>k_is);(case c=>k_is);(case k=>k_is))
  (case q1=>refine' Pr.dfl_mk KX G (fun _ _ _ _ _ _ _ h=>Pr.us2 h fun _ _=>rfl) ?a ?l ?c ?k ?t;(case a=>k_is);(case l=>k_is);(case c=>k_is);(case k=>k_is);(case t=>kernel_rfl))
  (case q2=>refine' Pr.dfl_mk KX G (fun _ _ _ _ _ _ _ h=>Pr.us2 h fun _ _=>rfl) ?a ?l ?c ?k ?t;(case a=>k_is);(case l=>k_is);(case c=>k_is);(case k=>k_is);(case t=>kernel_rfl))
  (case q3=>refine' Pr.dfl_mk KX G (fun _ _ _ _ _ _ _ h=>Pr.us3 h fun _ _ _=>rfl) ?a ?l ?c ?k ?t;(case a=>k_is);(case l=>k_is);(case c=>k_is);(case k=>k_is);(case t=>kernel_rfl))
  (case q4=>refine' Pr.dfl_mk KX G (fun _ _ _ _ _ _ _ h=>Pr.us3 h fun _ _ _=>rfl) ?a ?l ?c ?k ?t;(case a=>k_is);(case l=>k_is);(case c=>k_is);(case k=>k_is);(case t=>kernel_rfl))
  (case qa=>k_is);(case ql=>k_is);(case qc=>k_is);(case qk=>k_is)
 case qReq=>
  intro K tabs H xs a hO hN hwi hask hx
  cases hx with
  | cons h1 h2=>
   cases h2
   cases h1 with
   | lst hs ha=>
    have e:=L2.ints_dw a.1 _ ha
    subst e
    have q:((Codec.inLen 0 17000 a.1 && a.1.all (Codec.inInt (-1000000000000000000) 1000000000000000000)) && true)=true:=hwi
    rw [Bool.and_eq_true,Bool.and_eq_true] at q
    exact Pr.spAns_req hO hN hs hask (Codec.inNat_iff.mp q.1.1).2 (fun H' p hp=>.lst (L2.SqL.of hp) (L2.dw_ints _))
