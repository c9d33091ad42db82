import PyProof.Rows.All
import Wide.All
import OpenK.AllK
import Wide.FinOn
import Lean
import PyProof.EqAt
import PyProof.EqKinds
import PyProof.TupleCall
import PySem.Challenge.RW_joinedever_k61_papers_judged
import PyProof.Draws
import PyProof.ZipIter
import PyProof.TupleIter
import PyProof.ListRange
import PyProof.CollectWalk
import KE.KSortTup
import KE.KDictSum
import PyProof.Rows.Range3
import KE.KEqDict
import KE.KRevIter
import PyProof.EnumStmt
import PyProof.CallStr
import PyProof.ReprLen
import PyProof.StrLawsRepr
import Flt.Len
set_option Elab.async false
set_option linter.all false
set_option maxRecDepth 100000
set_option maxHeartbeats 4000000
namespace L2
open PySem PySem.Spec PyProof.Rows
abbrev Key:=Sum Int Str
def keyIs:Key→Value→Bool
 | .inl k,v=>Value.isInt k v
 | .inr x,v=>Value.isStrOf x v
def keyH (w:World):Key→Int
 | .inl k=>hashInt k
 | .inr x=>hashStr w x
theorem A7:∀{k:Key} {v:Value},keyIs k v=true→(∃i t,k=Sum.inl i∧v=Value.int i t)∨(∃x t,k=Sum.inr x∧v=Value.str x t)
 | .inl i,v,h=>by
  obtain ⟨t,e⟩:=Value.isInt_shape (k:=i) (v:=v) h
  exact .inl ⟨i,t,rfl,e⟩
 | .inr x,v,h=>by
  obtain ⟨t,e⟩:=Value.isStrOf_shape (x:=x) (v:=v) h
  exact .inr ⟨x,t,rfl,e⟩
theorem keyIs_int (i:Int) (t:Tok):keyIs (.inl i) (.int i t)=true:=by simp [keyIs,Value.isInt]
theorem keyIs_str (x:Str) (t:Tok):keyIs (.inr x) (.str x t)=true:=by simp [keyIs,Value.isStrOf]
theorem key_ll (a b:Int):decide ((Sum.inl a:Key)=Sum.inl b)=(a==b):=by
 by_cases e:a=b
 ·subst e;simp
 ·have h:¬(Sum.inl a:Key)=Sum.inl b:=fun q=>e (Sum.inl.inj q)
  rw [decide_eq_false h]
  exact (beq_eq_false_iff_ne.mpr e).symm
theorem key_rr (a b:Str):decide ((Sum.inr a:Key)=Sum.inr b)=decide (a=b):=by
 by_cases e:a=b
 ·subst e;simp
 ·have h:¬(Sum.inr a:Key)=Sum.inr b:=fun q=>e (Sum.inr.inj q)
  rw [decide_eq_false h,decide_eq_false e]
theorem key_lr (a:Int) (b:Str):decide ((Sum.inl a:Key)=Sum.inr b)=false:=decide_eq_false (fun q=>nomatch q)
theorem key_rl (a:Str) (b:Int):decide ((Sum.inr a:Key)=Sum.inl b)=false:=decide_eq_false (fun q=>nomatch q)
def A9 (prog:Program) (w:World):PySem.KeyKind prog w Key where
 is:=keyIs
 hash:=keyH w
 inj:=fun v a b ha hb=>by
  rcases A7 ha with ⟨i,t,rfl,rfl⟩|⟨x,t,rfl,rfl⟩
  ·rcases A7 hb with ⟨j,u,rfl,e⟩|⟨y,u,rfl,e⟩
   ·injection e with e1 _;rw [e1]
   ·exact nomatch e
  ·rcases A7 hb with ⟨j,u,rfl,e⟩|⟨y,u,rfl,e⟩
   ·exact nomatch e
   ·injection e with e1 _;rw [e1]
 byValue:=fun k v h=>by
  rcases A7 h with ⟨i,t,rfl,rfl⟩|⟨x,t,rfl,rfl⟩<;> rfl
 pyHash:=fun hv h=>by
  rcases A7 hv with ⟨i,t,rfl,rfl⟩|⟨x,t,rfl,rfl⟩
  ·exact wpAny_pyHash_int h
  ·exact wpAny_pyHash_str h
 eqBool:=fun hu hv h=>by
  rcases A7 hu with ⟨i,t,rfl,rfl⟩|⟨x,t,rfl,rfl⟩
  ·rcases A7 hv with ⟨j,u,rfl,rfl⟩|⟨y,u,rfl,rfl⟩
   ·rw [key_ll] at h;exact wpAny_eqBool_int h
   ·rw [key_lr] at h;exact SeqAt.EqAt.int_str i t y u _ _ _ _ h
  ·rcases A7 hv with ⟨j,u,rfl,rfl⟩|⟨y,u,rfl,rfl⟩
   ·rw [key_rl] at h;exact SeqAt.EqAt.str_int x t j u _ _ _ _ h
   ·rw [key_rr] at h;exact wpAny_eqBool_str h
 «strs» :=fun k x t v h=>by
  rcases A7 h with ⟨i,u,rfl,e⟩|⟨y,u,rfl,e⟩
  ·exact nomatch e
  ·injection e with e1 _
   subst e1
   cases v<;> rfl
theorem mixKind_int (prog:Program) (w:World) (i:Int) (t:Tok):(A9 prog w).is (.inl i) (.int i t)=true:=keyIs_int i t
theorem mixKind_str (prog:Program) (w:World) (x:Str) (t:Tok):(A9 prog w).is (.inr x) (.str x t)=true:=keyIs_str x t
end L2
namespace L2
open PySem PySem.Spec PyProof.Rows
inductive V where
 |non|bl (b:Bool)|int (i:Int)|str (x:Str)|byt (b:Array UInt8)|flt (b:UInt64)|ref (a:Addr)|ty (n:String)
 deriving DecidableEq
def RelV:V→Value→Prop
 | .non,u=>u=Value.none
 | .bl b,u=>u=Value.bool b
 | .int i,u=>∃t,u=Value.int i t
 | .str x,u=>∃t,u=Value.str x t
 | .byt b,u=>∃t,u=Value.bytes b t
 | .flt b,u=>∃t,u=Value.float b t
 | .ref a,u=>u=Value.ref a
 | .ty n,u=>u=Value.type n
abbrev Vals:List V→List Value→Prop:=Paired RelV
theorem Vals.length {xs:List V} {us:List Value} (r:Vals xs us):xs.length=us.length:=Paired.length r
theorem Vals.get:∀{xs:List V} {us:List Value} {i:Nat} {x:V},Vals xs us→xs[i]? =some x→∃u,us[i]? =some u∧RelV x u
 |_,_,_,_,.nil,e=>by simp at e
 |_,_,0,_,.cons r _,e=>by simp at e;subst e;exact ⟨_,rfl,r⟩
 |_,_,i+1,x,.cons _ t,e=>by
  obtain ⟨u,h1,h2⟩:=Vals.get (i:=i) (x:=x) t (by simpa using e)
  exact ⟨u,by simpa using h1,h2⟩
theorem Vals.set {x:V} {u:Value} (r:RelV x u):∀{xs:List V} {us:List Value} (i:Nat),Vals xs us→Vals (xs.set i x) (us.set i u)
 |_,_,_,.nil=> .nil
 |_,_,0,.cons _ t=> .cons r t
 |_,_,i+1,.cons q t=> .cons q (Vals.set r i t)
theorem Vals.append:∀{xs ys:List V} {us ws:List Value},Vals xs us→Vals ys ws→Vals (xs++ys) (us++ws)
 |_,_,_,_,.nil,s=>s
 |_,_,_,_,.cons r t,s=> .cons r (Vals.append t s)
theorem Vals.take:∀{xs:List V} {us:List Value} (n:Nat),Vals xs us→Vals (xs.take n) (us.take n)
 |_,_,0,_=> .nil
 |_,_,_+1,.nil=> .nil
 |_,_,n+1,.cons r t=> .cons r (Vals.take n t)
theorem Vals.drop:∀{xs:List V} {us:List Value} (n:Nat),Vals xs us→Vals (xs.drop n) (us.drop n)
 |_,_,0,r=>r
 |_,_,_+1,.nil=> .nil
 |_,_,n+1,.cons _ t=>Vals.drop n t
def RelO:Option V→Option Value→Prop
 |some v,some u=>RelV v u
 |none,none=>True
 |_,_=>False
def KV {κ:Type}:List (κ×V)→List (κ×Value)→Prop:=Paired fun (p:κ×V) (q:κ×Value)=>p.1=q.1∧RelV p.2 q.2
def kV:Key→V
 | .inl i=> .int i
 | .inr x=> .str x
inductive HO where
 |lst (xs:List V)
 |tup (xs:List V)
 |dK (kvs:List (Key×V))|dT (kvs:List (List Key×V))
 |set (S:Int→Bool) (n:Nat)
 |ins (C dx:Addr) (fs:List (Str×V))
 |own (x:Addr)
 |xd (fs:List (Str×V))
 |met (f x:Addr)
 |rng (lo hi:Int)
 |frz (o:Obj) (u:HO)
 |tbl (ps:Array Value)
 |ext (φ:Heap→Prop)
abbrev Hp:=Addr→Option HO
def upd (H:Hp) (a:Addr) (o:HO):Hp:=fun b=>if b=a then some o else H b
theorem Ab {H:Hp} {a:Addr} {o:HO}:upd H a o a=some o:=by unfold upd;rw [if_pos rfl]
theorem Ap {H:Hp} {a b:Addr} {o:HO} (h:b≠a):upd H a o b=H b:=by unfold upd;rw [if_neg h]
theorem upd_upd {H:Hp} {a:Addr} {o u:HO}:upd (upd H a o) a u=upd H a u:=by
 funext b;unfold upd;split<;> rfl
theorem Cd {H:Hp} {a b:Addr} {o u:HO} (h:H a=some o) (h':H b=some u) (d:o≠u):a≠b:=by
 intro e;subst e;rw [h] at h';exact d (Option.some.inj h')
theorem A0 {H:Hp} {a b:Addr} {o:HO} (h:H a=some o) (h':H b=none):a≠b:=by
 intro e;subst e;rw [h] at h';cases h'
def IsTupN (h:Heap) (a:Addr) (items:Array Value):Prop:=∃o,h.get? a=some o∧o.cls= .type "tuple"∧o.dict=none∧∃n,o.data= .seq items n
theorem IsTupN.new (h:Heap) (items:Array Value):IsTupN (h.push {cls:= .type "tuple",data:= .seq items}) h.objs.size items:=⟨_,Heap.get?_push_size _ rfl,rfl,rfl,_,rfl⟩
theorem IsTupN.tup {h:Heap} {a:Addr} {items:Array Value} (x:IsTupN h a items):IsTup h a items:=let ⟨o,e,c,_,n,d⟩:=x;⟨o,e,c,n,d⟩
section
variable (P:Program) (w:World)
def ObjOk (H:Hp) (h:Heap) (a:Addr):HO→Prop
 | .lst xs=>xs.length≤sizeLine∧∃(its:List Value) (n:Nat),Vals xs its∧h.get? a=some {cls:= .type "list",data:= .seq its.toArray n}
 | .tup xs=>xs.length≤sizeLine∧∃its:List Value,Vals xs its∧IsTupN h a its.toArray
 | .dK kvs=>kvs.length≤sizeLine∧(a==sysModules)=false∧∃vs,KV kvs vs∧h.DictOf (A9 P w) a vs
 | .dT kvs=>kvs.length≤sizeLine∧(a==sysModules)=false∧∃xs:List (List Key×Addr×Value),
   Paired (fun (p:List Key×V) (q:List Key×Addr×Value)=>p.1=q.1∧H q.2.1=some (.tup (p.1.map kV))∧RelV p.2 q.2.2) kvs xs∧
   ∃o es ep,h.get? a=some o∧o.ExactDict∧o.data= .dict es ep∧es.toList=xs.map (entryOfKey (tupleKind (A9 P w)))∧(xs.map (·.1)).Nodup
 | .set S n=>h.SetOf (intKind P w) a S n
 | .ins C dx fs=>H dx=some (.own a)∧fs.length≤1000∧dx≠a∧h.get? a=some (PySem.W.instObj C dx)∧
   ∃mA,h.Ns1 dx mA∧(∀f,RelO (fs.lookup f) (mA f))∧PySem.Within mA (fs.map (·.1))
 | .own _=>∃o,h.get? a=some o
 | .xd fs=>∃mA,h.Ns1 a mA∧∀f,RelO (fs.lookup f) (mA f)
 | .rng lo hi=>∃t u v,h.get? a=some {cls:= .type "range",data:= .fields #[.int lo t,.int hi u,.int 1 v]}
 | .frz o u=>h.get? a=some o∧ObjOk H h a u
 | .tbl ps=>h.get? a=some {cls:= .none,data:= .fields ps}
 | .met f x=>h.get? a=some (PySem.W.methodObj (.ref f) (.ref x))
 | .ext φ=>φ h∧(∃o,h.get? a=some o)∧∀h1 h2:Heap,φ h1→(∀o,h1.get? a=some o→h2.get? a=some o)→φ h2
def HOk (H:Hp) (h:Heap):Prop:=∀a o,H a=some o→ObjOk P w H h a o
end
section
variable {P:Program} {w:World} {H H':Hp} {h h':Heap} {a:Addr} {o:HO}
theorem ObjOk.lt (x:ObjOk P w H h a o):a<h.objs.size:=by
 cases o with
 |lst xs=>obtain ⟨_,_,_,_,e⟩:=x;exact Heap.lt_size e
 |tup xs=>obtain ⟨_,_,_,p⟩:=x;exact p.tup.lt
 |dK kvs=>obtain ⟨_,_,_,_,o,_,_,e,_⟩:=x;exact Heap.lt_size e
 |dT kvs=>obtain ⟨_,_,_,_,o,_,_,e,_⟩:=x;exact Heap.lt_size e
 |set S n=>obtain ⟨o,_,_,_,e,_⟩:=x;exact Heap.lt_size e
 |ins C dx fs=>obtain ⟨_,_,_,e,_⟩:=x;exact Heap.lt_size e
 |own y=>obtain ⟨_,e⟩:=x;exact Heap.lt_size e
 |xd fs=>obtain ⟨_,⟨_,_,_,e,_⟩,_⟩:=x;exact Heap.lt_size e
 |rng lo hi=>obtain ⟨_,_,_,e⟩:=x;exact Heap.lt_size e
 |frz ob u=>obtain ⟨e,_⟩:=x;exact Heap.lt_size e
 |tbl ps=>exact Heap.lt_size (show h.get? a=some _ from x)
 |met f y=>exact Heap.lt_size (show h.get? a=some _ from x)
 |ext φ=>obtain ⟨_,⟨_,e⟩,_⟩:=x;exact Heap.lt_size e
theorem Paired.mapP {α β:Type} {F G:α→β→Prop}:∀{l₁:List α} {l₂:List β},Paired F l₁ l₂→(∀a b,F a b→G a b)→Paired G l₁ l₂
 |_,_,.nil,_=> .nil
 |_,_,.cons r t,f=> .cons (f _ _ r) (Paired.mapP t f)
theorem ObjOk.stay (x:ObjOk P w H h a o) (k:∀b u,(b=a∨H b=some (.own a))→h.get? b=some u→h'.get? b=some u)
  (ho:∀b,H b=some (.own a)→H' b=some (.own a)) (ht:∀b xs,H b=some (.tup xs)→H' b=some (.tup xs)):ObjOk P w H' h' a o:=by
 induction o with
 |lst xs=>obtain ⟨z,its,n,r,e⟩:=x;exact ⟨z,its,n,r,k _ _ (.inl rfl) e⟩
 |tup xs=>obtain ⟨z,its,r,ob,e,c⟩:=x;exact ⟨z,its,r,ob,k _ _ (.inl rfl) e,c⟩
 |dK kvs=>obtain ⟨z,y,vs,r,ob,es,ep,e,c⟩:=x;exact ⟨z,y,vs,r,ob,es,ep,k _ _ (.inl rfl) e,c⟩
 |dT kvs=>
  obtain ⟨z,y,xs,r,ob,es,ep,e,c⟩:=x
  exact ⟨z,y,xs,Paired.mapP r fun p q z=>⟨z.1,ht _ _ z.2.1,z.2.2⟩,ob,es,ep,k _ _ (.inl rfl) e,c⟩
 |set S n=>obtain ⟨ob,es,ep,t,e,c⟩:=x;exact ⟨ob,es,ep,t,k _ _ (.inl rfl) e,c⟩
 |ins C dx fs=>
  obtain ⟨d,z,ne,e,mA,⟨od,es,ep,e2,c⟩,r⟩:=x
  exact ⟨ho _ d,z,ne,k _ _ (.inl rfl) e,mA,⟨od,es,ep,k _ _ (.inr d) e2,c⟩,r⟩
 |own y=>obtain ⟨ob,e⟩:=x;exact ⟨ob,k _ _ (.inl rfl) e⟩
 |xd fs=>obtain ⟨mA,⟨od,es,ep,e,c⟩,r⟩:=x;exact ⟨mA,⟨od,es,ep,k _ _ (.inl rfl) e,c⟩,r⟩
 |rng lo hi=>obtain ⟨t,u,v,e⟩:=x;exact ⟨t,u,v,k _ _ (.inl rfl) e⟩
 |frz ob u ih=>obtain ⟨e,q⟩:=x;exact ⟨k _ _ (.inl rfl) e,ih q⟩
 |tbl ps=>
  have e:h.get? a=some {cls:= .none,data:= .fields ps}:=x
  show h'.get? a=some {cls:= .none,data:= .fields ps}
  exact k a _ (.inl rfl) e
 |met f y=>
  have e:h.get? a=some (PySem.W.methodObj (.ref f) (.ref y)):=x
  show h'.get? a=some (PySem.W.methodObj (.ref f) (.ref y))
  exact k a _ (.inl rfl) e
 |ext φ=>obtain ⟨p,⟨o,e⟩,st⟩:=x;exact ⟨st _ _ p fun o q=>k _ _ (.inl rfl) q,⟨o,k _ _ (.inl rfl) e⟩,st⟩
theorem HOk.lt (x:HOk P w H h) (e:H a=some o):a<h.objs.size:=(x a o e).lt
theorem HOk.fresh (x:HOk P w H h) (e:h.objs.size≤a):H a=none:=by
 cases q:H a with
 |none=>rfl
 |some u=>exact absurd (Nat.lt_of_lt_of_le (x.lt q) e) (Nat.lt_irrefl _)
theorem HOk.kept (x:HOk P w H h) (k:∀b u,h.get? b=some u→h'.get? b=some u):HOk P w H h':=fun a o e=>
 (x a o e).stay (fun b u _ q=>k b u q) (fun _ q=>q) fun _ _ q=>q
theorem HOk.laid (x:HOk P w H h) (k:∀b u,h.get? b=some u→h'.get? b=some u) (hp:h.objs.size≤a) (new:ObjOk P w (upd H a o) h' a o):HOk P w (upd H a o) h':=fun b u e=>by
 have hn:=x.fresh hp
 by_cases hb:b=a
 ·subst hb;rw [Ab] at e;cases e;exact new
 ·rw [Ap hb] at e
  exact (x b u e).stay (fun c v _ q=>k c v q) (fun c q=>by rw [Ap (A0 q hn)];exact q) fun c xs q=>by rw [Ap (A0 q hn)];exact q
end
def Rd (H:Hp) (a:Addr) (u:HO):Prop:=H a=some u∨∃o,H a=some (.frz o u)
theorem Rd.ok {P:Program} {w:World} {H:Hp} {h:Heap} {a:Addr} {u:HO} (r:Rd H a u) (x:HOk P w H h):ObjOk P w H h a u:=by
 rcases r with r|⟨o,r⟩
 ·exact x a u r
 ·obtain ⟨_,q⟩:=x a _ r
  exact q
def Mut:Option HO→Prop
 |some (.lst _)=>True
 |some (.dK _)=>True
 |some (.dT _)=>True
 |some (.set _ _)=>True
 |some (.ins _ _ _)=>True
 |some (.ext _)=>True
 |_=>False
section
variable {P:Program} {w:World} {H:Hp} {h h':Heap} {x e:Addr} {o':HO}
theorem HOk.write (ok:HOk P w H h) (mu:Mut (H x)) (he:e=x∨H e=some (.own x)) (k:∀b u,b≠e→h.get? b=some u→h'.get? b=some u) (heo:∃u,h'.get? e=some u)
  (new:ObjOk P w (upd H x o') h' x o'):HOk P w (upd H x o') h':=fun b u q=>by
 have nown:∀c y,H c=some (.own y)→c≠x:=fun c y r z=>by subst z;rw [r] at mu;exact mu
 have ntup:∀c xs,H c=some (.tup xs)→c≠x:=fun c xs r z=>by subst z;rw [r] at mu;exact mu
 by_cases hb:b=x
 ·subst hb;rw [Ab] at q;cases q;exact new
 ·rw [Ap hb] at q
  by_cases hbe:b=e
  ·have q':H b=some (.own x):=by
    rcases he with z|z
    ·exact absurd (hbe.trans z) hb
    ·rw [hbe];exact z
   rw [q] at q';cases q'
   obtain ⟨v,hv⟩:=heo
   exact ⟨v,by rw [hbe];exact hv⟩
  ·refine (ok b u q).stay (fun c v hc r=>k c v ?_ r) (fun c r=>by rw [Ap (nown c b r)];exact r) fun c xs r=>by rw [Ap (ntup c xs r)];exact r
   rcases hc with rfl|hc
   ·exact hbe
   ·rintro rfl
    rcases he with z|z
    ·exact nown c b hc z
    ·rw [hc] at z;cases z;exact hb rfl
end
structure Un (fs ex:List Addr) (H H':Hp) (h h':Heap):Prop where
 keep:∀b o,h.get? b=some o→H b=none→b ∉ fs→b ∉ ex→h'.get? b=some o
 slot:∀b o,h.get? b=some o→H b=none→b∈fs→b ∉ ex→∃sl,h'.get? b=some {o with slots:=sl}
 free:∀b o,h.get? b=some o→H b=none→b ∉ ex→H' b=none
 there:∀b o,h.get? b=some o→b ∉ ex→∃o',h'.get? b=some o'
 tups:∀b xs,H b=some (.tup xs)→H' b=some (.tup xs)
 frzs:∀b o u,H b=some (.frz o u)→H' b=some (.frz o u)
 tbls:∀b ps,H b=some (.tbl ps)→∃more,H' b=some (.tbl (ps++more))
section
variable {fs fs' ex ex':List Addr} {H H1 H2:Hp} {h h1 h2 h':Heap} {a x e:Addr} {o:HO}
theorem Un.any (u:Un fs ex H H1 h h1) {b:Addr} {ob:Obj} (q:h.get? b=some ob) (n:H b=none) (hx:b ∉ ex):∃sl,h1.get? b=some {ob with slots:=sl}:=by
 by_cases hb:b∈fs
 ·exact u.slot b ob q n hb hx
 ·exact ⟨ob.slots,u.keep b ob q n hb hx⟩
theorem Un.kept (k:∀b u,h.get? b=some u→h'.get? b=some u):Un fs ex H H h h':=
 ⟨fun b ob q _ _ _=>k b ob q,fun b ob q _ _ _=>⟨ob.slots,k b ob q⟩,fun _ _ _ n _=>n,fun b ob q _=>⟨ob,k b ob q⟩,fun _ _ q=>q,fun _ _ _ q=>q,fun _ ps q=>⟨#[],by rw [q];simp⟩⟩
theorem Un.refl:Un fs ex H H h h:=Un.kept fun _ _ q=>q
theorem Un.laid (k:∀b u,h.get? b=some u→h'.get? b=some u) (hp:h.objs.size≤a) (hn:H a=none):Un fs ex H (upd H a o) h h' where
 keep:=fun b u q _ _ _=>k b u q
 slot:=fun b u q _ _ _=>⟨u.slots,k b u q⟩
 free:=fun b u q n _=>by rw [Ap (Nat.ne_of_lt (Nat.lt_of_lt_of_le (Heap.lt_size q) hp))];exact n
 there:=fun b u q _=>⟨u,k b u q⟩
 tups:=fun b xs q=>by rw [Ap (A0 q hn)];exact q
 frzs:=fun b u xs q=>by rw [Ap (A0 q hn)];exact q
 tbls:=fun b ps q=>⟨#[],by rw [Ap (A0 q hn),q];simp⟩
theorem Un.write (mu:Mut (H x)) (he:e=x∨H e=some (.own x)) (k:∀b u,b≠e→h.get? b=some u→h'.get? b=some u) (heo:∃u,h'.get? e=some u):Un fs ex H (upd H x o) h h':=by
 have hx:∀b,H b=none→b≠x:=fun b n z=>by subst z;rw [n] at mu;exact mu
 have hb:∀b,H b=none→b≠e:=fun b n z=>by
  subst z
  rcases he with r|r
  ·exact hx b n r
  ·rw [n] at r;cases r
 have hm:∀b u,H b=some u→¬Mut (some u)→b≠x:=fun b u q nm z=>by subst z;rw [q] at mu;exact nm mu
 refine ⟨fun b u q n _ _=>k b u (hb b n) q,fun b u q n _ _=>⟨u.slots,k b u (hb b n) q⟩,fun b u q n _=>by rw [Ap (hx b n)];exact n,fun b u q _=> ?_,
  fun b xs q=>by rw [Ap (hm b _ q fun z=>z)];exact q,fun b u xs q=>by rw [Ap (hm b _ q fun z=>z)];exact q,fun b ps q=>⟨#[],by rw [Ap (hm b _ q fun z=>z),q];simp⟩⟩
 by_cases hbe:b=e
 ·subst hbe;exact heo
 ·exact ⟨u,k b u hbe q⟩
end
def trk (h:Heap) (H:Hp):List Addr:=(List.range h.objs.size).filter fun a=>(H a).isSome
def hidT (h:Heap) (H:Hp):Heap:=PySem.W.hideAll h (trk h H)
theorem hidT_size (h:Heap) (H:Hp):(hidT h H).objs.size=h.objs.size:=PySem.W.hideAll_size _ _
theorem hidT_get {h:Heap} {H:Hp} {b:Addr} {o:Obj} (e:h.get? b=some o) (n:H b=none):(hidT h H).get? b=some o:=
 PySem.W.hideAll_get _ e fun hm=>by
  have q:(H b).isSome=true:=(List.mem_filter.mp hm).2
  rw [n] at q;simp at q
theorem of_hidT {h:Heap} {H:Hp} {b:Addr} {o:Obj} (e:(hidT h H).get? b=some o):h.get? b=some o∧H b=none:=by
 have e':h.get? b=some o:=PySem.W.of_hideAll (trk h H) e
 refine ⟨e',?_⟩
 cases q:H b with
 |none=>rfl
 |some x=>
  have hm:b∈trk h H:=List.mem_filter.mpr ⟨List.mem_range.mpr (Heap.lt_size e'),by simp [q]⟩
  have z:(hidT h H).get? b=none:=PySem.W.hideAll_none (trk h H) hm
  rw [z] at e;cases e
end L2
namespace L2
open PySem PySem.Spec PyProof.Rows
structure Mod (K:PySem.W.Frag) (mg:Str→Option Value) (base:Heap):Prop where
 kin:K.In base
 glob:base.Ns mainGlobals mg
 blt:∃mb,base.Ns builtinsNs mb∧∀x:Str,x≠"__name__"→mb x=bootBuiltins x
 nolimit:base.NoLimit
structure Cx where
 prog:Program
 w:World
 K:PySem.W.Frag
 mg:Str→Option Value
 base:Heap
 A:Around
 N:List Str
 s₀:Shared
 H₀:Hp
 env:Env
 outer:List Env
 stack:List Env
 ex:List Addr
 fn:Str→Bool
 calm:Bool
 pn:List (Addr×Obj)
 xe:Value→Shared→Prop
def frs (l:List Env):List Addr:=l.filterMap (·.frame)
abbrev Cx.fs (X:Cx):List Addr:=frs X.outer
def Vis (sc:Scope) (x:Str):Prop:=sc.names.lookup x=some .local∨sc.names.lookup x=some .cell∨sc.names.lookup x=some .free
def Loc (sc:Scope) (x:Str):Prop:=sc.names.lookup x=some .local∨sc.names.lookup x=some .cell
def Look (env:Env) (h:Heap) (m:Str→Option Value) (x:Str) (u:Value):Prop:=
 (env.kindOf x=some .local∧m x=some u)∨((env.kindOf x=some .cell∨env.kindOf x=some .free)∧∃c,env.cells.lookup x=some c∧h.IsCell c (some u))
structure Cx.Ok (X:Cx):Prop where
 mod:Mod X.K X.mg X.base
 kind:X.env.scope.kind= .function
 glob:X.env.globals=mainGlobals
 blt:X.env.builtins=builtinsNs
 above:X.s₀.heap.objs.size≤X.env.locals
 inj:∀x y c,X.env.cells.lookup x=some c→X.env.cells.lookup y=some c→x=y
 has:∀x,(X.env.kindOf x=some .cell∨X.env.kindOf x=some .free)→∃c,X.env.cells.lookup x=some c
 cab:∀x c,X.fn x=true→X.env.cells.lookup x=some c→X.s₀.heap.objs.size≤c
 hd:X.calm=true→X.A.handled=none
 frames:X.A.frames=some X.stack
 stk:X.stack=X.outer∨(X.stack=X.env::X.outer∧X.env.frame=some X.env.locals)
 exf:∀b∈X.ex,b≠X.env.locals∧∀x c,X.env.cells.lookup x=some c→c≠b
 bs:∀b o,X.base.get? b=some o→X.s₀.heap.get? b=some o∧X.H₀ b=none
 bsz:X.base.objs.size≤X.s₀.heap.objs.size
 noex:∀b o,X.base.get? b=some o→b ∉ X.ex
 exfs:∀b∈X.ex,b ∉ X.fs
 funs:X.s₀.heap.FunFrames X.base X.outer
 frf:∀b∈X.fs,X.H₀ b=none
structure Inv (X:Cx) (pins:List (Addr×Obj)) (σ:List (Option V)) (H:Hp) (s:Shared):Prop where
 ok:X.Ok
 os:s.os=X.s₀.os
 bare:AllBare s.gens
 base:Un X.fs X.ex X.H₀ H X.s₀.heap s.heap
 loc:∃m,s.heap.Ns X.env.locals m∧∀(i:Nat) (x:Str) (v:V),X.N[i]? =some x→σ[i]? =some (some v)→Vis X.env.scope x→∃u,RelV v u∧Look X.env s.heap m x u
 cell:∀x c,X.env.cells.lookup x=some c→∃v,s.heap.IsCell c v
 free:H X.env.locals=none
 freeC:∀x c,X.env.cells.lookup x=some c→H c=none
 pin:∀p∈X.pn++pins,s.heap.get? p.1=some p.2∧H p.1=none∧p.1≠X.env.locals∧p.1 ∉ X.fs∧∀v,p.2.data≠ .cell v
 hok:HOk X.prog X.w H s.heap
 len:σ.length=X.N.length
section
variable {X:Cx} {pins:List (Addr×Obj)} {σ:List (Option V)} {H H':Hp} {s:Shared} {h':Heap}
theorem Cx.Ok.nofr (ok:X.Ok) {b:Addr} {o:Obj} (e:X.base.get? b=some o):b ∉ X.fs:=fun hb=>by
 have:=(ok.funs.mem hb).1
 rw [e] at this;cases this
theorem Inv.bs (I:Inv X pins σ H s):∀b o,X.base.get? b=some o→s.heap.get? b=some o∧H b=none:=fun b o e=>
 ⟨I.base.keep b o (I.ok.bs b o e).1 (I.ok.bs b o e).2 (I.ok.nofr e) (I.ok.noex b o e),I.base.free b o (I.ok.bs b o e).1 (I.ok.bs b o e).2 (I.ok.noex b o e)⟩
theorem Inv.bk (I:Inv X pins σ H s):∀b o,X.base.get? b=some o→s.heap.get? b=some o:=fun b o e=>(I.bs b o e).1
theorem Inv.mod (I:Inv X pins σ H s):Mod X.K X.mg X.base:=I.ok.mod
theorem Inv.kIn (I:Inv X pins σ H s):X.K.In s.heap:=I.ok.mod.kin.keeps I.bk
theorem Inv.lt (I:Inv X pins σ H s):X.env.locals<s.heap.objs.size:=let ⟨_,hn,_⟩:=I.loc;hn.lt
theorem Inv.sz (I:Inv X pins σ H s):X.s₀.heap.objs.size≤s.heap.objs.size:=Nat.le_trans I.ok.above (Nat.le_of_lt I.lt)
theorem Inv.nofs (I:Inv X pins σ H s) {a:Addr} (h:s.heap.objs.size≤a):a ∉ X.fs:=fun hb=>by
 obtain ⟨_,o,ho,_⟩:=I.ok.funs.mem hb
 exact absurd (Nat.lt_of_lt_of_le (Heap.lt_size ho) (Nat.le_trans I.sz h)) (Nat.lt_irrefl _)
theorem Inv.cne (I:Inv X pins σ H s):∀x c,X.env.cells.lookup x=some c→c≠X.env.locals:=fun x c e z=>by
 obtain ⟨v,o,ho,hd⟩:=I.cell x c e
 obtain ⟨m,⟨o',es,ep,ho',hd',_⟩,_⟩:=I.loc
 rw [z,ho'] at ho;cases ho;rw [hd'] at hd;cases hd
theorem Inv.funs (I:Inv X pins σ H s):s.heap.FunFrames X.base X.outer:=by
 have all:∀(l:List Env),(∀b∈frs l,b∈X.fs)→X.s₀.heap.FunFrames X.base l→s.heap.FunFrames X.base l:=by
  intro l
  induction l with
  |nil=>intro _ _;trivial
  |cons env r ih=>
   intro hs hl
   obtain ⟨hk,⟨L,o,hf,hn,ho,hd⟩,hr⟩:=hl
   have hL:L∈X.fs:=hs L (by unfold frs;rw [List.filterMap_cons,hf];exact List.mem_cons_self)
   obtain ⟨sl,e⟩:=I.base.slot L o ho (I.ok.frf L hL) hL fun z=>I.ok.exfs L z hL
   exact ⟨hk,⟨L,_,hf,hn,e,hd⟩,ih (fun b hb=>hs b (by unfold frs;rw [List.filterMap_cons,hf];exact List.mem_cons_of_mem _ hb)) hr⟩
 exact all X.outer (fun _ hb=>hb) I.ok.funs
theorem Inv.stack (I:Inv X pins σ H s):s.heap.FunFrames X.base X.stack:=by
 rcases I.ok.stk with e|⟨e,hf⟩
 ·rw [e];exact I.funs
 ·rw [e]
  obtain ⟨m,hn,_⟩:=I.loc
  refine .cons (by rw [I.ok.kind];decide) hf hn ?_ I.funs
  exact Heap.get?_none_of_le (Nat.le_trans I.ok.bsz I.ok.above)
theorem Inv.stkSub (I:Inv X pins σ H s):∀b∈frs X.stack,b∈X.env.locals::X.fs:=fun b hb=>by
 rcases I.ok.stk with e|⟨e,hf⟩
 ·rw [e] at hb;exact List.mem_cons_of_mem _ hb
 ·rw [e] at hb
  unfold frs at hb
  rw [List.filterMap_cons,hf] at hb
  exact hb
theorem Inv.stkFree (I:Inv X pins σ H s):∀b∈frs X.stack,H b=none:=fun b hb=>by
 rcases List.mem_cons.mp (I.stkSub b hb) with e|hb
 ·rw [e];exact I.free
 ·obtain ⟨_,o,ho,_⟩:=I.ok.funs.mem hb
  exact I.base.free b o ho (I.ok.frf b hb) fun z=>I.ok.exfs b z hb
theorem Inv.step {g':Array GenState} {t':Nat} {d':Drawn} {ch:List Addr} (I:Inv X pins σ H s)
  (hch:∀b∈ch,(b∈X.ex∨X.s₀.heap.objs.size≤b)∧b≠X.env.locals∧(∀x c,X.env.cells.lookup x=some c→c≠b)∧∀p∈X.pn++pins,p.1≠b)
  (keep:∀b o,b≠X.env.locals→b ∉ X.fs→b ∉ ch→s.heap.get? b=some o→H b=none→h'.get? b=some o)
  (slot:∀b o,b≠X.env.locals→b∈X.fs→b ∉ ch→s.heap.get? b=some o→H b=none→∃sl,h'.get? b=some {o with slots:=sl}) (free:∀b o,b ∉ ch→s.heap.get? b=some o→H b=none→H' b=none)
  (there:∀b o,b ∉ ch→s.heap.get? b=some o→∃o',h'.get? b=some o')
  (tups:∀b xs,H b=some (.tup xs)→H' b=some (.tup xs)) (frzs:∀b o u,H b=some (.frz o u)→H' b=some (.frz o u)) (tbls:∀b ps,H b=some (.tbl ps)→∃more,H' b=some (.tbl (ps++more)))
  (ns:∀m,s.heap.Ns X.env.locals m→h'.Ns X.env.locals m) (hok:HOk X.prog X.w H' h') (hg:AllBare g'):
  Inv X pins σ H' {s with heap:=h',gens:=g',drawn:=d',toks:=t'}:=by
 have neL:∀b o,X.s₀.heap.get? b=some o→b≠X.env.locals:=fun b o e=>Nat.ne_of_lt (Nat.lt_of_lt_of_le (Heap.lt_size e) I.ok.above)
 have neC:∀b o,X.s₀.heap.get? b=some o→b ∉ X.ex→b ∉ ch:=fun b o e hx hb=>by
  rcases (hch b hb).1 with z|z
  ·exact hx z
  ·exact absurd (Nat.lt_of_lt_of_le (Heap.lt_size e) z) (Nat.lt_irrefl _)
 have cellK:∀x c,X.env.cells.lookup x=some c→∀v,s.heap.IsCell c v→h'.IsCell c v:=fun x c e v ⟨o,ho,hd⟩=>by
  have nch:c ∉ ch:=fun z=>(hch c z).2.2.1 x c e rfl
  by_cases hc:c∈X.fs
  ·obtain ⟨sl,q⟩:=slot c o (I.cne x c e) hc nch ho (I.freeC x c e)
   exact ⟨_,q,hd⟩
  ·exact ⟨o,keep c o (I.cne x c e) hc nch ho (I.freeC x c e),hd⟩
 refine ⟨I.ok,I.os,hg,⟨fun b o e n hb hx=> ?_,fun b o e n hb hx=> ?_,fun b o e n hx=> ?_,fun b o e hx=> ?_,fun b xs e=>tups b xs (I.base.tups b xs e),fun b o xs e=>frzs b o xs (I.base.frzs b o xs e),fun b ps e=> ?_⟩,?_,fun x c e=> ?_,?_,fun x c e=> ?_,fun p hp=> ?_,hok,I.len⟩
 ·exact keep b o (neL b o e) hb (neC b o e hx) (I.base.keep b o e n hb hx) (I.base.free b o e n hx)
 ·obtain ⟨sl,e1⟩:=I.base.slot b o e n hb hx
  obtain ⟨sl',e2⟩:=slot b _ (neL b o e) hb (neC b o e hx) e1 (I.base.free b o e n hx)
  exact ⟨sl',e2⟩
 ·obtain ⟨o',e1⟩:=I.base.there b o e hx
  exact free b o' (neC b o e hx) e1 (I.base.free b o e n hx)
 ·obtain ⟨o',e1⟩:=I.base.there b o e hx
  exact there b o' (neC b o e hx) e1
 ·obtain ⟨m1,e1⟩:=I.base.tbls b ps e
  obtain ⟨m2,e2⟩:=tbls b _ e1
  exact ⟨m1++m2,by rw [e2,Array.append_assoc]⟩
 ·obtain ⟨m,hn,hl⟩:=I.loc
  refine ⟨m,ns m hn,fun i x v e1 e2 e3=> ?_⟩
  obtain ⟨u,r,l⟩:=hl i x v e1 e2 e3
  refine ⟨u,r,?_⟩
  rcases l with l|⟨k,c,e,z⟩
  ·exact .inl l
  ·exact .inr ⟨k,c,e,cellK x c e _ z⟩
 ·obtain ⟨v,z⟩:=I.cell x c e
  exact ⟨v,cellK x c e v z⟩
 ·obtain ⟨m,⟨o,_,_,ho,_⟩,_⟩:=I.loc
  exact free _ o (fun z=>(hch _ z).2.1 rfl) ho I.free
 ·obtain ⟨v,o,ho,hd⟩:=I.cell x c e
  exact free c o (fun z=>(hch c z).2.2.1 x c e rfl) ho (I.freeC x c e)
 ·obtain ⟨e,n,ne,nf,d⟩:=I.pin p hp
  have nch:p.1 ∉ ch:=fun z=>(hch p.1 z).2.2.2 p hp rfl
  exact ⟨keep p.1 p.2 ne nf nch e n,free p.1 p.2 nch e n,ne,nf,d⟩
theorem Inv.un {t':Nat} (I:Inv X pins σ H s) (u:Un X.fs [] H H' s.heap h') (hok:HOk X.prog X.w H' h'):Inv X pins σ H' {s with heap:=h',toks:=t'}:=by
 obtain ⟨m,⟨o,es,ep,ho,r⟩,_⟩:=id I.loc
 obtain ⟨sl,hL⟩:=u.any ho I.free (by simp)
 exact I.step (g':=s.gens) (d':=s.drawn) (ch:=[]) (fun _ z=>nomatch z) (fun b o _ hb _ e n=>u.keep b o e n hb (by simp)) (fun b o _ hb _ e n=>u.slot b o e n hb (by simp)) (fun b o _ e n=>u.free b o e n (by simp)) (fun b o _ e=>u.there b o e (by simp)) u.tups u.frzs u.tbls (fun m' hm=>by
  obtain ⟨o',es',ep',ho',r'⟩:=hm
  rw [ho] at ho';cases ho'
  exact ⟨_,es',ep',hL,r'⟩) hok I.bare
theorem Inv.call {g':Array GenState} {t':Nat} {d':Drawn} {ch:List Addr} (I:Inv X pins σ H s) (u:Un (frs X.stack) ch H H' s.heap h') (hok:HOk X.prog X.w H' h') (hg:AllBare g')
  (hch:∀b∈ch,(b∈X.ex∨X.s₀.heap.objs.size≤b)∧b≠X.env.locals∧(∀x c,X.env.cells.lookup x=some c→c≠b)∧∀p∈X.pn++pins,p.1≠b):
  Inv X pins σ H' {s with heap:=h',gens:=g',drawn:=d',toks:=t'}:=by
 obtain ⟨m,⟨o,es,ep,ho,r⟩,_⟩:=id I.loc
 obtain ⟨sl,hL⟩:=u.any ho I.free fun z=>(hch _ z).2.1 rfl
 exact I.step (ch:=ch) hch (fun b o hL hb hc e n=>u.keep b o e n (fun z=>(List.mem_cons.mp (I.stkSub b z)).elim hL hb) hc) (fun b o _ _ hc e n=>u.any e n hc) (fun b o hc e n=>u.free b o e n hc) (fun b o hc e=>u.there b o e hc) u.tups u.frzs u.tbls (fun m' hm=>by
  obtain ⟨o',es',ep',ho',r'⟩:=hm
  rw [ho] at ho';cases ho'
  exact ⟨_,es',ep',hL,r'⟩) hok hg
theorem Inv.turned {t':Nat} {it:Addr} (I:Inv X pins σ H s) (k:∀b o,b≠it→s.heap.get? b=some o→h'.get? b=some o) (hn:H it=none) (hL:it≠X.env.locals)
  (h1:it∈X.ex∨X.s₀.heap.objs.size≤it) (h2:∀x c,X.env.cells.lookup x=some c→c≠it) (h3:∀p∈X.pn++pins,p.1≠it):Inv X pins σ H {s with heap:=h',toks:=t'}:=by
 have nit:∀b u,H b=some u→b≠it:=fun b u e z=>by rw [z,hn] at e;cases e
 refine I.step (g':=s.gens) (d':=s.drawn) (ch:=[it]) (fun b hb=> ?_) (fun b o _ _ hc e _=>k b o (fun z=>hc (by simp [z])) e) (fun b o _ _ hc e _=>⟨o.slots,k b o (fun z=>hc (by simp [z])) e⟩) (fun _ _ _ _ n=>n)
  (fun b o hc e=>⟨o,k b o (fun z=>hc (by simp [z])) e⟩) (fun _ _ e=>e) (fun _ _ _ e=>e) (fun b ps e=>⟨#[],by rw [e];simp⟩) (fun m hm=> ?_) (fun b u e=> ?_) I.bare
 ·have e:b=it:=by simpa using hb
  subst e
  exact ⟨h1,hL,h2,h3⟩
 ·obtain ⟨o,es,ep,ho,r⟩:=hm
  exact ⟨o,es,ep,k _ o (Ne.symm hL) ho,r⟩
 ·refine (I.hok b u e).stay (fun c v hc q=>k c v ?_ q) (fun _ q=>q) fun _ _ q=>q
  rcases hc with z|z
  ·rw [z];exact nit b u e
  ·exact nit c _ z
theorem Inv.tok (I:Inv X pins σ H s) (t:Nat):Inv X pins σ H {s with toks:=t}:=I.un (h':=s.heap) (t':=t) Un.refl I.hok
theorem Inv.kept {t':Nat} (I:Inv X pins σ H s) (k:∀b u,s.heap.get? b=some u→h'.get? b=some u):Inv X pins σ H {s with heap:=h',toks:=t'}:=I.un (Un.kept k) (I.hok.kept k)
theorem Inv.laid {a:Addr} {o:HO} {t':Nat} (I:Inv X pins σ H s) (k:∀b u,s.heap.get? b=some u→h'.get? b=some u) (hp:s.heap.objs.size≤a) (new:ObjOk X.prog X.w (upd H a o) h' a o):
  Inv X pins σ (upd H a o) {s with heap:=h',toks:=t'}:=I.un (Un.laid k hp (I.hok.fresh hp)) (I.hok.laid k hp new)
theorem Inv.write {x e:Addr} {o:HO} {t':Nat} (I:Inv X pins σ H s) (mu:Mut (H x)) (he:e=x∨H e=some (.own x)) (k:∀b u,b≠e→s.heap.get? b=some u→h'.get? b=some u) (heo:∃u,h'.get? e=some u)
  (new:ObjOk X.prog X.w (upd H x o) h' x o):Inv X pins σ (upd H x o) {s with heap:=h',toks:=t'}:=I.un (Un.write mu he k heo) (I.hok.write mu he k heo new)
theorem Inv.pins_of {pins':List (Addr×Obj)} (I:Inv X pins σ H s) (h:∀p∈pins',s.heap.get? p.1=some p.2∧H p.1=none∧p.1≠X.env.locals∧p.1 ∉ X.fs∧∀v,p.2.data≠ .cell v):Inv X pins' σ H s:=
 ⟨I.ok,I.os,I.bare,I.base,I.loc,I.cell,I.free,I.freeC,fun p hp=>(List.mem_append.mp hp).elim (fun z=>I.pin p (List.mem_append_left _ z)) (h p),I.hok,I.len⟩
theorem nodup_ix {N:List Str} (hN:N.Nodup) {i j:Nat} {x:Str} (a:N[i]? =some x) (b:N[j]? =some x):i=j:=by
 obtain ⟨h1,e1⟩:=List.getElem?_eq_some_iff.mp a
 obtain ⟨h2,e2⟩:=List.getElem?_eq_some_iff.mp b
 exact (List.getElem_inj hN).mp (e1.trans e2.symm)
theorem store_ok2 {M:Model} {A:Around} {E:Value→Shared→Prop} {i:Nat} {x:Str} {v:V} {u:Value} {Q:Unit→Shared→Prop} (I:Inv X pins σ H s) (hN:X.N.Nodup) (hi:X.N[i]? =some x) (hx:Loc X.env.scope x) (r:RelV v u)
  (h:∀s',Inv X pins (σ.set i (some v)) H s'→(∃a,Heap.SameBut a s.heap s'.heap∧(a=X.env.locals∨X.env.cells.lookup x=some a))→Q () s') (hf:X.fn x=true∨X.env.scope.names.lookup x=some .local:=by first|exact .inl rfl|exact .inr rfl|assumption):wpAny M A (storeName X.env x u) Q E s:=by
 obtain ⟨m,hn,hl⟩:=id I.loc
 have hcls:(X.env.scope.kind== .class||(X.env.scope.kind== .module && X.env.locals !=X.env.globals))=false:=by rw [I.ok.kind];rfl
 have hiσ:i<σ.length:=by rw [I.len];exact (List.getElem?_eq_some_iff.mp hi).1
 have cne:=I.cne
 have tracked:∀{a:Addr} {h':Heap},(∃o,s.heap.get? a=some o∧H a=none)→Heap.SameBut a s.heap h'→HOk X.prog X.w H h':=fun {a h'} ha hs b ob e=>by
  obtain ⟨_,_,hfree⟩:=ha
  refine (I.hok b ob e).stay (fun c w' hc q=>(hs.2 c ?_).trans q) (fun _ q=>q) fun _ _ q=>q
  rintro rfl
  rcases hc with rfl|hc
  ·rw [hfree] at e;cases e
  ·rw [hfree] at hc;cases hc
 rcases hx with hk|hk
 ·refine wpAny_storeName_local hk hn (fun h' hn' hs=> ?_) hcls
  obtain ⟨oL,_,_,hoL,_⟩:=id hn
  refine h _ ⟨I.ok,I.os,I.bare,⟨fun b o e n hb hx=> ?_,fun b o e n hb hx=> ?_,I.base.free,fun b o e hx=> ?_,I.base.tups,I.base.frzs,I.base.tbls⟩,⟨_,hn',fun j y v' e1 e2 e3=> ?_⟩,fun y c e=> ?_,I.free,I.freeC,fun p hp=> ?_,tracked ⟨oL,hoL,I.free⟩ hs,by simpa using I.len⟩ ⟨_,hs,.inl rfl⟩
  ·exact (hs.2 b (Nat.ne_of_lt (Nat.lt_of_lt_of_le (Heap.lt_size e) I.ok.above))).trans (I.base.keep b o e n hb hx)
  ·obtain ⟨sl,e1⟩:=I.base.slot b o e n hb hx
   exact ⟨sl,(hs.2 b (Nat.ne_of_lt (Nat.lt_of_lt_of_le (Heap.lt_size e) I.ok.above))).trans e1⟩
  ·obtain ⟨o',e1⟩:=I.base.there b o e hx
   exact ⟨o',(hs.2 b (Nat.ne_of_lt (Nat.lt_of_lt_of_le (Heap.lt_size e) I.ok.above))).trans e1⟩
  ·by_cases hj:j=i
   ·subst hj
    rw [hi] at e1;cases e1
    rw [List.getElem?_set_self hiσ] at e2
    cases e2
    exact ⟨u,r,.inl ⟨hk,by simp⟩⟩
   ·rw [List.getElem?_set_ne (Ne.symm hj)] at e2
    obtain ⟨u',r',q⟩:=hl j y v' e1 e2 e3
    refine ⟨u',r',?_⟩
    rcases q with ⟨k,e⟩|⟨k,c,e,z⟩
    ·refine .inl ⟨k,?_⟩
     have:y≠x:=fun e=>hj (nodup_ix hN e1 (e▸hi))
     simp [this,e]
    ·exact .inr ⟨k,c,e,z.sameBut hs (cne y c e)⟩
  ·obtain ⟨w',z⟩:=I.cell y c e
   exact ⟨w',z.sameBut hs (cne y c e)⟩
  ·obtain ⟨e,n,ne,nf,d⟩:=I.pin p hp
   exact ⟨(hs.2 p.1 ne).trans e,n,ne,nf,d⟩
 ·have hfn:X.fn x=true:=by
   rcases hf with z|z
   ·exact z
   ·rw [z] at hk;cases hk
  obtain ⟨c,hc⟩:=I.ok.has x (.inl hk)
  obtain ⟨w',z⟩:=I.cell x c hc
  refine wpAny_storeName_cell I.ok.kind hk hc z (fun h' hc' hs=> ?_)
  obtain ⟨oc,hoc,hocd⟩:=id z
  refine h {s with heap:=h'} ⟨I.ok,I.os,I.bare,⟨fun b o e n hb hx=> ?_,fun b o e n hb hx=> ?_,I.base.free,fun b o e hx=> ?_,I.base.tups,I.base.frzs,I.base.tbls⟩,⟨m,hn.sameBut hs (Ne.symm (cne x c hc)),fun j y v' e1 e2 e3=> ?_⟩,fun y c' e=> ?_,I.free,I.freeC,fun p hp=> ?_,tracked ⟨oc,hoc,I.freeC x c hc⟩ hs,by simpa using I.len⟩ ⟨c,hs,.inr hc⟩
  ·exact (hs.2 b (Nat.ne_of_lt (Nat.lt_of_lt_of_le (Heap.lt_size e) (I.ok.cab x c hfn hc)))).trans (I.base.keep b o e n hb hx)
  ·obtain ⟨sl,e1⟩:=I.base.slot b o e n hb hx
   exact ⟨sl,(hs.2 b (Nat.ne_of_lt (Nat.lt_of_lt_of_le (Heap.lt_size e) (I.ok.cab x c hfn hc)))).trans e1⟩
  ·obtain ⟨o',e1⟩:=I.base.there b o e hx
   exact ⟨o',(hs.2 b (Nat.ne_of_lt (Nat.lt_of_lt_of_le (Heap.lt_size e) (I.ok.cab x c hfn hc)))).trans e1⟩
  ·by_cases hj:j=i
   ·subst hj
    rw [hi] at e1;cases e1
    rw [List.getElem?_set_self hiσ] at e2
    cases e2
    exact ⟨u,r,.inr ⟨.inl hk,c,hc,hc'⟩⟩
   ·rw [List.getElem?_set_ne (Ne.symm hj)] at e2
    obtain ⟨u',r',q⟩:=hl j y v' e1 e2 e3
    refine ⟨u',r',?_⟩
    rcases q with q|⟨k,c',e,z'⟩
    ·exact .inl q
    ·refine .inr ⟨k,c',e,z'.sameBut hs ?_⟩
     rintro rfl
     exact hj (nodup_ix hN e1 (I.ok.inj _ _ _ e hc▸hi))
  ·by_cases hcc:c'=c
   ·subst hcc;exact ⟨_,hc'⟩
   ·obtain ⟨w2,z2⟩:=I.cell y c' e
    exact ⟨w2,z2.sameBut hs hcc⟩
  ·obtain ⟨e,n,ne,nf,d⟩:=I.pin p hp
   refine ⟨(hs.2 p.1 ?_).trans e,n,ne,nf,d⟩
   intro q
   rw [q,hoc] at e
   have q':oc=p.2:=Option.some.inj e
   exact d w' (by rw [←q'];exact hocd)
theorem store_ok {M:Model} {A:Around} {E:Value→Shared→Prop} {i:Nat} {x:Str} {v:V} {u:Value} {Q:Unit→Shared→Prop} (I:Inv X pins σ H s) (hN:X.N.Nodup) (hi:X.N[i]? =some x) (hx:Loc X.env.scope x) (r:RelV v u)
  (h:∀s',Inv X pins (σ.set i (some v)) H s'→Q () s') (hf:X.fn x=true∨X.env.scope.names.lookup x=some .local:=by first|exact .inl rfl|exact .inr rfl|assumption):wpAny M A (storeName X.env x u) Q E s:=
 store_ok2 I hN hi hx r (fun s' I' _=>h s' I') hf
theorem Inv.call' {s':Shared} {ch:List Addr} (I:Inv X pins σ H s) (ho:s'.os=s.os) (u:Un (frs X.stack) ch H H' s.heap s'.heap) (hok:HOk X.prog X.w H' s'.heap) (hg:AllBare s'.gens)
  (hch:∀b∈ch,(b∈X.ex∨X.s₀.heap.objs.size≤b)∧b≠X.env.locals∧(∀x c,X.env.cells.lookup x=some c→c≠b)∧∀p∈X.pn++pins,p.1≠b):Inv X pins σ H' s':=by
 obtain ⟨h',g',d',t',o'⟩:=s'
 have e:o'=s.os:=ho
 subst e
 exact I.call (g':=g') (t':=t') (d':=d') u hok hg hch
end
abbrev XK:=Value→Option Addr→Hp→Prop
abbrev St:=List (Option V)
abbrev VK:=V→Hp→Prop
abbrev TE:=St→Hp→VK→Prop
abbrev TT:=St→Hp→(Bool→Hp→Prop)→Prop
abbrev TA:=St→Hp→(List V→Hp→Prop)→Prop
structure Ends where
 nx:St→Hp→Prop
 rt:VK
 bk:St→Hp→Prop:=fun _ _=>False
 ct:St→Hp→Prop:=fun _ _=>False
abbrev TS:=Ends→St→Hp→Prop
def EP (X:Cx) (pins:List (Addr×Obj)) (σ:St) (Q:VK) (u:Value) (s':Shared):Prop:=∃v H',Inv X pins σ H' s'∧RelV v u∧Q v H'
def TP (X:Cx) (pins:List (Addr×Obj)) (σ:St) (Q:Bool→Hp→Prop) (b:Bool) (s':Shared):Prop:=∃H',Inv X pins σ H' s'∧Q b H'
def AP (X:Cx) (pins:List (Addr×Obj)) (σ:St) (Q:List V→Hp→Prop) (us:List Value) (s':Shared):Prop:=∃vs H',Inv X pins σ H' s'∧Vals vs us∧Q vs H'
def SP (X:Cx) (pins:List (Addr×Obj)) (D:Ends) (f:Flow) (s':Shared):Prop:=
 match f with
 | .next=>∃σ' H',Inv X pins σ' H' s'∧D.nx σ' H'
 | .brk=>∃σ' H',Inv X pins σ' H' s'∧D.bk σ' H'
 | .cont=>∃σ' H',Inv X pins σ' H' s'∧D.ct σ' H'
 | .ret u=>∃v σ' H',Inv X pins σ' H' s'∧RelV v u∧D.rt v H'
def PE (X:Cx) (e:Expr) (t:TE):Prop:=
 ∀(pins:List (Addr×Obj)) (s:Shared) (σ:St) (H:Hp) (Q:VK),Inv X pins σ H s→t σ H Q→wpAny (model X.prog X.w) X.A (eval e X.env) (EP X pins σ Q) X.xe s
def PT (X:Cx) (e:Expr) (t:TT):Prop:=
 ∀(pins:List (Addr×Obj)) (s:Shared) (σ:St) (H:Hp) (Q:Bool→Hp→Prop),Inv X pins σ H s→t σ H Q→wpAny (model X.prog X.w) X.A (isTrue e X.env (eval e X.env)) (TP X pins σ Q) X.xe s
def PW (X:Cx) (e:Expr) (t:TT):Prop:=
 ∀(whole:Sem Value) (pins:List (Addr×Obj)) (s:Shared) (σ:St) (H:Hp) (Q:Bool→Hp→Prop),Inv X pins σ H s→t σ H Q→wpAny (model X.prog X.w) X.A (isTrue e X.env whole) (TP X pins σ Q) X.xe s
theorem PW.pt {X:Cx} {e:Expr} {t:TT} (h:PW X e t):PT X e t:=h _
def PA (X:Cx) (es:List Expr) (t:TA):Prop:=
 ∀(pos:Pos) (pins:List (Addr×Obj)) (s:Shared) (σ:St) (H:Hp) (Q:List V→Hp→Prop),Inv X pins σ H s→t σ H Q→wpAny (model X.prog X.w) X.A (spliced (backTo pos (starEach es X.env))) (AP X pins σ Q) X.xe s
def PS (X:Cx) (st:Stmt) (t:TS):Prop:=
 ∀(pins:List (Addr×Obj)) (s:Shared) (σ:St) (H:Hp) (D:Ends),Inv X pins σ H s→t D σ H→wpAny (model X.prog X.w) X.A (exec st X.env) (SP X pins D) X.xe s
def PSs (X:Cx) (st:List Stmt) (t:TS):Prop:=
 ∀(pins:List (Addr×Obj)) (s:Shared) (σ:St) (H:Hp) (D:Ends),Inv X pins σ H s→t D σ H→wpAny (model X.prog X.w) X.A (execs st X.env) (SP X pins D) X.xe s
theorem thn {α:Type} {t:Sem α} {Q Q':α→Shared→Prop} {M:Model} {A:Around} {E:Value→Shared→Prop} {s:Shared} (h:wpAny M A t Q E s) (hQ:∀a s,Q a s→Q' a s):wpAny M A t Q' E s:=wpAny_mono h hQ fun _ _ x=>x
end L2
namespace L2
open PySem PySem.Spec PyProof.Rows
section
variable {X:Cx}
inductive TVarP (i:Nat) (σ:St) (H:Hp) (Q:VK):Prop
 |mk (v:_):(σ[i]? =some (some v))→(Q v H)→TVarP i σ H Q
def tVar (i:Nat):TE:=fun σ H Q=>TVarP i σ H Q
def tC (v:V):TE:=fun _ H Q=>Q v H
theorem pe_var {i:Nat} {x:Str} {pos:Pos} (hN:X.N[i]? =some x) (hv:Vis X.env.scope x) (hd:(x==("__debug__":Str))=false:=by decide) (hcd:(x==("__classdict__":Str))=false:=by decide):PE X (.Name x pos) (tVar i):=by
 intro pins s σ H Q I h
 obtain ⟨v,e,h⟩:=h
 obtain ⟨m,hn,hl⟩:=I.loc
 obtain ⟨u,r,l⟩:=hl i x v hN e hv
 have fin:EP X pins σ Q u s:=⟨v,H,I,r,h⟩
 rcases l with ⟨hk,hm⟩|⟨hk,c,hc,hcell⟩
 ·exact wpAny_Name (wpAny_loadName_local I.ok.kind hk hn hm fin) hd
 ·rcases hk with hk|hk
  ·exact wpAny_Name (wpAny_loadName_cell I.ok.kind hk hc hcell fin) hd
  ·exact wpAny_Name (wpAny_loadName_free I.ok.kind hk hc hcell fin hcd) hd
theorem Af {i j pos}:PE X (.Constant (.int i) j pos) (tC (.int i)):=fun _ _ _ H _ I h=>wpAny_Constant_int ⟨.int i,H,I.tok _,⟨_,rfl⟩,h⟩
theorem pe_bl {b j pos}:PE X (.Constant (.bool b) j pos) (tC (.bl b)):=fun _ _ _ H _ I h=>Constant_bool ⟨.bl b,H,I,rfl,h⟩
theorem pe_non {j pos}:PE X (.Constant .none j pos) (tC .non):=fun _ _ _ H _ I h=>Constant_none ⟨.non,H,I,rfl,h⟩
theorem Bg {x j pos}:PE X (.Constant (.str x) j pos) (tC (.str x)):=fun _ _ _ H _ I h=>Calls.Constant_str ⟨.str x,H,I.tok _,⟨_,rfl⟩,h⟩
def Gl (X:Cx) (x:Str):Prop:=X.env.kindOf x=some .globalImplicit
theorem ld_glob {E:Value→Shared→Prop} {pins:List (Addr×Obj)} {s:Shared} {σ:St} {H:Hp} {x:Str} {u:Value} {pos:Pos} {Q:Value→Shared→Prop} (I:Inv X pins σ H s) (hg:Gl X x) (hm:X.mg x=some u) (h:Q u s)
  (hd:(x==("__debug__":Str))=false:=by decide):wpAny (model X.prog X.w) X.A (eval (.Name x pos) X.env) Q E s:=
 Calls.Name_function_global I.ok.kind hg (Calls.loadGlobal_global (by rw [I.ok.glob];exact I.mod.glob.keeps I.bk) hm h) hd
theorem ld_blt {E:Value→Shared→Prop} {pins:List (Addr×Obj)} {s:Shared} {σ:St} {H:Hp} {x:Str} {u:Value} {pos:Pos} {Q:Value→Shared→Prop} (I:Inv X pins σ H s) (hg:Gl X x) (hm:X.mg x=none) (hv:bootBuiltins x=some u) (h:Q u s)
  (hn:x≠"__name__":=by decide) (hd:(x==("__debug__":Str))=false:=by decide):wpAny (model X.prog X.w) X.A (eval (.Name x pos) X.env) Q E s:=by
 obtain ⟨mb,h1,h2⟩:=I.mod.blt
 exact Calls.Name_function_global I.ok.kind hg (Calls.loadGlobal_builtin (by rw [I.ok.glob];exact I.mod.glob.keeps I.bk) hm (by rw [I.ok.blt];exact h1.keeps I.bk) ((h2 x hn).trans hv) h) hd
variable {a b:Expr} {ta tb:TE} {pos:Pos}
def PC (X:Cx) (op:CmpOp) (a b:Expr) (t:TE):Prop:=
 ∀(pins:List (Addr×Obj)) (s:Shared) (σ:St) (H:Hp) (Q:VK),Inv X pins σ H s→t σ H Q→
  wpAny (model X.prog X.w) X.A (eval a X.env) (fun v s₁=>wpAny (model X.prog X.w) X.A (eval b X.env) (fun u s₂=>wpAny (model X.prog X.w) X.A (compareOp op v u) (EP X pins σ Q) X.xe s₂) X.xe s₁) X.xe s
inductive BlP (x:V) (H:Hp) (Q:Bool→Hp→Prop):Prop
 |mk (c:Bool):(x= .bl c)→(Q c H)→BlP x H Q
def tB (t:TE):TT:=fun σ H Q=>t σ H fun x H1=>BlP x H1 Q
theorem pt_cmp {op:CmpOp} {t:TE} (h:PC X op a b t) (h1:behindInMarks op b=false:=by first|exact nobehind _ (by decide) (by decide)|rfl):PT X (.Compare a [op] [b] pos) (tB t):=by
 intro pins s σ H Q I hw
 refine wpAny_isTrue_Compare1 (thn (h pins s σ H _ I hw) fun v s1 h1=>thn h1 fun u s2 h2=>thn h2 fun c s3 ⟨x,H1,I1,r1,q1⟩=> ?_) h1
 obtain ⟨d,rfl,q⟩:=q1
 cases r1
 exact wpAny_truthy_bool ⟨H1,I1,q⟩
theorem Br {e:Expr} {t:TE} (h:PE X e t) (he:∀whole,isTrue e X.env whole=(do let v ←whole;standAt e.pos;holding [v] (truthy v)):=by intro _;rfl):PT X e (tB t):=by
 intro pins s σ H Q I hw
 refine isTrue_plain (thn (h pins s σ H _ I hw) fun v s1 ⟨x,H1,I1,r1,q1⟩=> ?_) (he _)
 obtain ⟨d,rfl,q⟩:=q1
 cases r1
 exact wpAny_truthy_bool ⟨H1,I1,q⟩
variable {tA tB':TT} {rest:List Expr}
def tAnd (t u:TT):TT:=fun σ H Q=>t σ H fun c H1=>if c=true then u σ H1 Q else Q false H1
def tOr (t u:TT):TT:=fun σ H Q=>t σ H fun c H1=>if c=true then Q true H1 else u σ H1 Q
def tNot (t:TT):TT:=fun σ H Q=>t σ H fun c H1=>Q (!c) H1
theorem pw_and1 (ha:PT X a tA):PW X (.BoolOp .And [a] pos) tA:=by
 intro wh pins s σ H Q I h
 refine isTrue_and (thn (ha pins s σ H Q I h) fun c s1 e=> ?_)
 cases c with
 |true=>exact isTrue_and_nil e
 |false=>exact e
theorem pw_or1 (ha:PT X a tA):PW X (.BoolOp .Or [a] pos) tA:=by
 intro wh pins s σ H Q I h
 refine isTrue_or (thn (ha pins s σ H Q I h) fun c s1 e=> ?_)
 cases c with
 |false=>exact isTrue_or_nil e
 |true=>exact e
theorem pw_and (ha:PT X a tA) (hb:PW X (.BoolOp .And (b::rest) pos) tB'):PW X (.BoolOp .And (a::b::rest) pos) (tAnd tA tB'):=by
 intro wh pins s σ H Q I h
 refine isTrue_and (thn (ha pins s σ H _ I h) fun c s1 ⟨H1,I1,q1⟩=> ?_)
 cases c with
 |true=>exact hb wh pins s1 σ H1 Q I1 q1
 |false=>exact ⟨H1,I1,q1⟩
theorem pw_or (ha:PT X a tA) (hb:PW X (.BoolOp .Or (b::rest) pos) tB'):PW X (.BoolOp .Or (a::b::rest) pos) (tOr tA tB'):=by
 intro wh pins s σ H Q I h
 refine isTrue_or (thn (ha pins s σ H _ I h) fun c s1 ⟨H1,I1,q1⟩=> ?_)
 cases c with
 |true=>exact ⟨H1,I1,q1⟩
 |false=>exact hb wh pins s1 σ H1 Q I1 q1
theorem pt_not (ha:PT X a tA):PT X (.UnaryOp .Not a pos) (tNot tA):=by
 intro pins s σ H Q I h
 exact isTrue_not (ha pins s σ H (fun c H1=>Q (!c) H1) I h)
def tAndV (ta tb:TE):TE:=fun σ H Q=>ta σ H fun x H1=>∃c,x= .bl c∧if c=true then tb σ H1 Q else Q (.bl false) H1
def tNotV (ta:TE):TE:=fun σ H Q=>ta σ H fun x H1=>∃c,x= .bl c∧Q (.bl (!c)) H1
theorem pe_one {op} {t:TE} (h:PE X a t):PE X (.BoolOp op [a] pos) t:=fun pins s σ H Q I hw=>BoolOp_one (h pins s σ H Q I hw)
theorem pe_and (ha:PE X a ta) (hb:PE X (.BoolOp .And (b::rest) pos) tb):PE X (.BoolOp .And (a::b::rest) pos) (tAndV ta tb):=by
 intro pins s σ H Q I h
 refine BoolOp_and (thn (ha pins s σ H _ I h) fun v s1 ⟨x,H1,I1,r1,q1⟩=> ?_)
 obtain ⟨c,rfl,q1⟩:=q1
 cases r1
 refine wpAny_truthy_bool ?_
 cases c with
 |true=>exact hb pins s1 σ H1 Q I1 q1
 |false=>exact ⟨.bl false,H1,I1,rfl,q1⟩
theorem pe_not (ha:PE X a ta):PE X (.UnaryOp .Not a pos) (tNotV ta):=by
 intro pins s σ H Q I h
 refine UnaryOp_ (thn (ha pins s σ H _ I h) fun v s1 ⟨x,H1,I1,r1,q1⟩=> ?_)
 obtain ⟨c,rfl,q1⟩:=q1
 cases r1
 exact not_of (wpAny_truthy_bool ⟨.bl (!c),H1,I1,rfl,q1⟩)
end
end L2
namespace L2
open PySem PySem.Spec PyProof.Rows
def SqL (K:PySem.W.Frag) (H:Hp) (a:Addr) (xs:List V):Prop:=
 Rd H a (.lst xs)∨
  ∃(o:Obj) (its:Array Value) (n:Nat),K.lookup a=some o∧o.cls= .type "list"∧o.dict=none∧o.data= .seq its n∧its.size≤sizeLine∧Vals xs its.toList
def SqT (K:PySem.W.Frag) (H:Hp) (a:Addr) (xs:List V):Prop:=
 Rd H a (.tup xs)∨
  ∃(o:Obj) (its:Array Value) (n:Nat),K.lookup a=some o∧o.cls= .type "tuple"∧o.data= .seq its n∧its.size≤sizeLine∧Vals xs its.toList
def absV:Value→Option V
 | .none=>some .non
 | .bool b=>some (.bl b)
 | .int i _=>some (.int i)
 | .str x _=>some (.str x)
 | .bytes b _=>some (.byt b)
 | .float b _=>some (.flt b)
 | .ref a=>some (.ref a)
 | .type n=>some (.ty n)
 |_=>none
theorem RelV.abs {x:V} {u:Value} (r:RelV x u):absV u=some x:=by
 cases x with
 |non=>cases r;rfl
 |bl _=>cases r;rfl
 |int _=>obtain ⟨t,rfl⟩:=r;rfl
 |str _=>obtain ⟨t,rfl⟩:=r;rfl
 |byt _=>obtain ⟨t,rfl⟩:=r;rfl
 |flt _=>obtain ⟨t,rfl⟩:=r;rfl
 |ref _=>cases r;rfl
 |ty _=>cases r;rfl
theorem RelV.inj {x y:V} {u:Value} (r:RelV x u) (q:RelV y u):x=y:=Option.some.inj (r.abs.symm.trans q.abs)
theorem Vals.inj:∀{xs ys:List V} {us:List Value},Vals xs us→Vals ys us→xs=ys
 |_,_,_,.nil,.nil=>rfl
 |_,_,_,.cons r t,.cons r' t'=>by rw [r.inj r',Vals.inj t t']
section
variable {X:Cx} {pins:List (Addr×Obj)} {σ:St} {H:Hp} {s:Shared} {a:Addr} {xs ys:List V}
theorem SqL.of {K:PySem.W.Frag} (h:H a=some (.lst xs)):SqL K H a xs:= .inl (.inl h)
theorem SqT.of {K:PySem.W.Frag} (h:H a=some (.tup xs)):SqT K H a xs:= .inl (.inl h)
theorem Inv.list (I:Inv X pins σ H s) (h:SqL X.K H a xs):∃its:List Value,Vals xs its∧PlainL s.heap a its.toArray∧xs.length≤sizeLine:=by
 rcases h with h|⟨o,its,n,hk,hc,hd,hs,hz,r⟩
 ·obtain ⟨z,its,n,r,e⟩:=h.ok I.hok
  exact ⟨its,r,⟨_,n,e,rfl,rfl,rfl⟩,z⟩
 ·refine ⟨its.toList,r,⟨o,n,I.kIn a o hk,hc,hd,by simpa using hs⟩,?_⟩
  have e:=r.length
  simp only [Array.length_toList] at e
  omega
theorem Inv.tuple (I:Inv X pins σ H s) (h:SqT X.K H a xs):∃its:List Value,Vals xs its∧IsTup s.heap a its.toArray∧xs.length≤sizeLine:=by
 rcases h with h|⟨o,its,n,hk,hc,hs,hz,r⟩
 ·obtain ⟨z,its,r,p⟩:=h.ok I.hok
  exact ⟨its,r,p.tup,z⟩
 ·refine ⟨its.toList,r,⟨o,I.kIn a o hk,hc,n,by simpa using hs⟩,?_⟩
  have e:=r.length
  simp only [Array.length_toList] at e
  omega
theorem Inv.list_inj (I:Inv X pins σ H s) (h:SqL X.K H a xs) (h':SqL X.K H a ys):xs=ys:=by
 obtain ⟨its,r,⟨o,n,e,_,_,d⟩,_⟩:=I.list h
 obtain ⟨its',r',⟨o',n',e',_,_,d'⟩,_⟩:=I.list h'
 rw [e] at e';cases e'
 rw [d] at d'
 injection d' with d1 _
 have:its=its':=by simpa using congrArg Array.toList d1
 subst this
 exact r.inj r'
theorem Inv.tuple_inj (I:Inv X pins σ H s) (h:SqT X.K H a xs) (h':SqT X.K H a ys):xs=ys:=by
 obtain ⟨its,r,⟨o,e,_,n,d⟩,_⟩:=I.tuple h
 obtain ⟨its',r',⟨o',e',_,n',d'⟩,_⟩:=I.tuple h'
 rw [e] at e';cases e'
 rw [d] at d'
 injection d' with d1 _
 have:its=its':=by simpa using congrArg Array.toList d1
 subst this
 exact r.inj r'
end
abbrev Cx.wish (X:Cx) (E:Value→Shared→Prop):Cx:={X with xe:=E}
abbrev Cx.nox (X:Cx):Cx:=X.wish fun _ _=>False
theorem Cx.Ok.wish {X:Cx} (ok:X.Ok) (E:Value→Shared→Prop):(X.wish E).Ok:=
 ⟨ok.mod,ok.kind,ok.glob,ok.blt,ok.above,ok.inj,ok.has,ok.cab,ok.hd,ok.frames,ok.stk,ok.exf,ok.bs,ok.bsz,ok.noex,ok.exfs,ok.funs,ok.frf⟩
theorem Cx.Ok.unwish {X:Cx} {E:Value→Shared→Prop} (ok:(X.wish E).Ok):X.Ok:=
 ⟨ok.mod,ok.kind,ok.glob,ok.blt,ok.above,ok.inj,ok.has,ok.cab,ok.hd,ok.frames,ok.stk,ok.exf,ok.bs,ok.bsz,ok.noex,ok.exfs,ok.funs,ok.frf⟩
section
variable {X:Cx} {pins:List (Addr×Obj)} {σ:St} {H:Hp} {s:Shared} {E:Value→Shared→Prop}
theorem Inv.wish (I:Inv X pins σ H s) (E:Value→Shared→Prop):Inv (X.wish E) pins σ H s:=⟨I.ok.wish E,I.os,I.bare,I.base,I.loc,I.cell,I.free,I.freeC,I.pin,I.hok,I.len⟩
theorem Inv.unwish (I:Inv (X.wish E) pins σ H s):Inv X pins σ H s:=⟨I.ok.unwish,I.os,I.bare,I.base,I.loc,I.cell,I.free,I.freeC,I.pin,I.hok,I.len⟩
theorem SP.unwish {D:Ends} {f:Flow} {s':Shared} (h:SP (X.wish E) pins D f s'):SP X pins D f s':=by
 cases f with
 |next=>obtain ⟨σ',H',I,q⟩:=h;exact ⟨σ',H',I.unwish,q⟩
 |brk=>obtain ⟨σ',H',I,q⟩:=h;exact ⟨σ',H',I.unwish,q⟩
 |cont=>obtain ⟨σ',H',I,q⟩:=h;exact ⟨σ',H',I.unwish,q⟩
 |ret u=>obtain ⟨v,σ',H',I,r,q⟩:=h;exact ⟨v,σ',H',I.unwish,r,q⟩
theorem PSs.nox {st:List Stmt} {t:TS} (h:PSs X.nox st t):PSs X st t:=fun pins s σ H D I hw=>
 wpAny_mono (h pins s σ H D (I.wish _) hw) (fun _ _ q=>q.unwish) fun _ _ z=>False.elim z
end
section
variable {X:Cx} {st:Stmt} {rest:List Stmt} {t u:TS} {e:Expr} {te:TE} {pos:Pos}
def Bu:TS:=fun D σ H=>D.nx σ H
def tSeq (t u:TS):TS:=fun D σ H=>t {D with nx:=u D} σ H
theorem Ax:PSs X [] Bu:=fun _ _ σ H _ I h=>wpAny_execs_nil ⟨σ,H,I,h⟩
theorem Ad (h1:PS X st t) (h2:PSs X rest u):PSs X (st::rest) (tSeq t u):=by
 intro pins s σ H D I h
 refine wpAny_execs_cons (thn (h1 pins s σ H {D with nx:=u D} I h) fun f s1 q=> ?_)
 cases f with
 |next=>
  obtain ⟨σ',H',I',q⟩:=q
  exact h2 pins s1 σ' H' D I' q
 |ret v=>exact q
 |brk=>exact q
 |cont=>exact q
theorem Ah (h1:PS X st t):PSs X [st] t:=by
 intro pins s σ H D I h
 refine wpAny_execs_cons (thn (h1 pins s σ H D I h) fun f s1 q=> ?_)
 cases f with
 |next=>exact wpAny_execs_nil q
 |ret v=>exact q
 |brk=>exact q
 |cont=>exact q
theorem Inv.quiet {pins:List (Addr×Obj)} {σ:St} {H:Hp} {s:Shared} (I:Inv X pins σ H s):interactive X.env=false:=by simp [interactive,I.ok.kind]
def tDrop (te:TE):TS:=fun D σ H=>te σ H fun _ H1=>D.nx σ H1
theorem ps_expr (he:PE X e te) (hs:swapsWith e none pos.line X.env=pure false:=by rfl):PS X (.Expr e pos) (tDrop te):=by
 intro pins s σ H D I h
 exact wpAny_Expr_any (thn (he pins s σ H _ I h) fun v s1 ⟨x,H1,I1,r1,q1⟩=>⟨σ,H1,I1,q1⟩) I.quiet hs
def tRet (te:TE):TS:=fun D σ H=>te σ H D.rt
theorem Ao (he:PE X e te):PS X (.Return (some e) pos) (tRet te):=by
 intro pins s σ H D I h
 exact wpAny_Return_some (thn (he pins s σ H _ I h) fun v s1 ⟨x,H1,I1,r1,q1⟩=>⟨x,σ,H1,I1,r1,q1⟩)
def tIfS (c:TT) (t u:TS):TS:=fun D σ H=>c σ H fun b H1=>if b=true then t D σ H1 else u D σ H1
theorem Ba {c:Expr} {a b:List Stmt} {tc:TT} (hc:PT X c tc) (ha:PSs X a t) (hb:PSs X b u):PS X (.If c a b pos) (tIfS tc t u):=by
 intro pins s σ H D I h
 refine wpAny_If (thn (hc pins s σ H _ I h) fun d s1 ⟨H1,I1,q1⟩=> ?_)
 cases d with
 |true=>exact ha pins s1 σ H1 D I1 q1
 |false=>exact hb pins s1 σ H1 D I1 q1
end
abbrev TG:=V→St→Hp→(St→Hp→Prop)→Prop
abbrev TGs:=List V→St→Hp→(St→Hp→Prop)→Prop
def PG (X:Cx) (target:Expr) (t:TG):Prop:=
 ∀(pins:List (Addr×Obj)) (s:Shared) (σ:St) (H:Hp) (v:V) (u:Value) (Q:St→Hp→Prop),Inv X pins σ H s→RelV v u→t v σ H Q→
  wpAny (model X.prog X.w) X.A (assign target X.env u) (fun _ s'=>∃σ' H',Inv X pins σ' H' s'∧Q σ' H') X.xe s
def PGs (X:Cx) (ts:List Expr) (t:TGs):Prop:=
 ∀(pins:List (Addr×Obj)) (s:Shared) (σ:St) (H:Hp) (vs:List V) (us:List Value) (Q:St→Hp→Prop),Inv X pins σ H s→Vals vs us→t vs σ H Q→
  wpAny (model X.prog X.w) X.A (assignInOrder ((assignEach ts X.env).map (·.2)) us) (fun _ s'=>∃σ' H',Inv X pins σ' H' s'∧Q σ' H') X.xe s
abbrev TSet:=V→V→V→Hp→(Hp→Prop)→Prop
def PSet (X:Cx) (t:TSet):Prop:=
 ∀(pins:List (Addr×Obj)) (s:Shared) (σ:St) (H:Hp) (o i v:V) (ov iv u:Value) (Q:Hp→Prop),Inv X pins σ H s→RelV o ov→RelV i iv→RelV v u→t o i v H Q→
  wpAny (model X.prog X.w) X.A (setItem ov iv u) (fun _ s'=>∃H',Inv X pins σ H' s'∧Q H') X.xe s
section
variable {X:Cx} {pos:Pos}
def gName (i:Nat):TG:=fun v σ H Q=>Q (σ.set i (some v)) H
theorem Az {i:Nat} {x:Str} (hN:X.N.Nodup) (hi:X.N[i]? =some x) (hx:Loc X.env.scope x) (hf:X.fn x=true∨X.env.scope.names.lookup x=some .local:=by first|exact .inl rfl|exact .inr rfl|assumption):PG X (.Name x pos) (gName i):=by
 intro pins s σ H v u Q I r h
 exact wpAny_assign_Name (store_ok I hN hi hx r (fun s' I'=>⟨_,H,I',h⟩) hf)
def gNil:TGs:=fun vs σ H Q=>vs=[]∧Q σ H
def gCons (t:TG) (u:TGs):TGs:=fun vs σ H Q=>∃v r,vs=v::r∧t v σ H fun σ' H'=>u r σ' H' Q
theorem pgs_nil:PGs X [] gNil:=by
 intro pins s σ H vs us Q I r h
 obtain ⟨e,h⟩:=h
 subst e
 cases r
 exact assignInOrder_nil ⟨σ,H,I,h⟩
theorem Bp {e:Expr} {es:List Expr} {t:TG} {u:TGs} (h1:PG X e t) (h2:PGs X es u)
  (hs:(assignEach (e::es) X.env).map (·.2)=assign e X.env::(assignEach es X.env).map (·.2):=by rfl):PGs X (e::es) (gCons t u):=by
 intro pins s σ H vs us Q I r h
 obtain ⟨v,vr,e1,h⟩:=h
 subst e1
 cases r with
 |cons r rr=>
  rw [hs]
  refine assignInOrder_cons (thn (h1 pins s σ H _ _ _ I r h) fun _ s1 ⟨σ1,H1,I1,q1⟩=> ?_)
  exact h2 pins s1 σ1 H1 _ _ Q I1 rr q1
def gTup (K:PySem.W.Frag) (n:Nat) (t:TGs):TG:=fun v σ H Q=>∃a xs,v= .ref a∧SqT K H a xs∧xs.length=n∧t xs σ H Q
theorem pg_tup {es:List Expr} {k:Nat} {t:TGs} {n:Nat} (hc:X.calm=true) (h:PGs X es t)
  (hn:(assignEach es X.env).length=n:=by rfl) (hst:(assignEach es X.env).findIdx? (·.1)=none:=by rfl):PG X (.Tuple es k pos) (gTup X.K n t):=by
 intro pins s σ H v u Q I r hw
 obtain ⟨a,xs,e1,hq,hl,hw⟩:=hw
 subst e1
 cases r
 obtain ⟨its,rv,ht,hz⟩:=I.tuple hq
 refine assign_Tuple_tuple (I.ok.hd hc) ht (by simp [hn,←hl,rv.length]) hst fun h' hx=> ?_
 have I1:Inv X pins σ H {s with heap:=h'}:=I.kept (t':=s.toks) fun b o e=>hx b o (Nat.ne_of_lt (Heap.lt_size e)) e
 exact h pins _ σ H xs _ Q I1 (by simpa using rv) hw
def gSub (to ti:TE) (t:TSet):TG:=fun v σ H Q=>to σ H fun o H1=>ti σ H1 fun i H2=>t o i v H2 fun H3=>Q σ H3
theorem pg_sub {o i:Expr} {to ti:TE} {t:TSet} (ho:PE X o to) (hi:PE X i ti) (hs:PSet X t)
  (ha:∀v,assign (.Subscript o i pos) X.env v=(do
   let ov ←holding [v] (eval o X.env)
   let iv ←holding [v,ov] (eval i X.env)
   standAt pos
   holding [v,ov,iv] (setItem ov iv v)
   release [v,ov,iv] []):=by intro _;rfl):PG X (.Subscript o i pos) (gSub to ti t):=by
 intro pins s σ H v u Q I r h
 rw [ha]
 refine wpAny_bind (wpAny_holding (thn (ho pins s σ H _ I h) fun ov s1 ⟨x,H1,I1,r1,q1⟩=> ?_))
 refine wpAny_bind (wpAny_holding (thn (hi pins s1 σ H1 _ I1 q1) fun iv s2 ⟨y,H2,I2,r2,q2⟩=> ?_))
 refine wpAny_bind (wpAny_standAt (wpAny_bind (wpAny_holding (thn (hs pins s2 σ H2 x y v ov iv u _ I2 r1 r2 r q2) fun _ s3 ⟨H3,I3,q3⟩=> ?_))))
 exact wpAny_release ⟨σ,H3,I3,q3⟩
def tAsg (te:TE) (g:TG):TS:=fun D σ H=>te σ H fun x H1=>g x σ H1 D.nx
theorem ps_asg {tg e:Expr} {te:TE} {g:TG} (he:PE X e te) (hg:PG X tg g) (hs:swapsWithSole [tg] e pos.line X.env=pure false:=by rfl) (hw:swappedStores [tg] e X.env=pure none:=by rfl)
  (h1:(assignEach [tg] X.env).map (·.2)=[assign tg X.env]:=by rfl):PS X (.Assign [tg] e pos) (tAsg te g):=by
 intro pins s σ H D I h
 refine wpAny_Assign_stores (thn (he pins s σ H _ I h) fun v s1 ⟨x,H1,I1,r1,q1⟩=> ?_) hs hw
 rw [h1]
 exact thn (hg pins s1 σ H1 x v _ I1 r1 q1) fun _ s2 q=>q
theorem Ak {i:Nat} {x:Str} {e:Expr} {te:TE} {pos':Pos} (hN:X.N.Nodup) (hi:X.N[i]? =some x) (hx:Loc X.env.scope x) (he:PE X e te) (hs:swapsWith e (some (.Name x pos')) pos.line X.env=pure false:=by rfl) (hf:X.fn x=true∨X.env.scope.names.lookup x=some .local:=by first|exact .inl rfl|exact .inr rfl|assumption):
  PS X (.Assign [.Name x pos'] e pos) (tAsg te (gName i)):=by
 intro pins s σ H D I h
 refine wpAny_Assign_Name (thn (he pins s σ H _ I h) fun v s1 ⟨y,H1,I1,r1,q1⟩=> ?_) hs
 exact store_ok I1 hN hi hx r1 (fun s2 I2=>⟨_,H1,I2,q1⟩) hf
def tPar (i j:Nat) (ta:TA):TS:=fun D σ H=>ta σ H fun vs H1=>∃v w,vs=[v,w]∧D.nx ((σ.set i (some v)).set j (some w)) H1
theorem ps_par {i j:Nat} {x y:Str} {a b:Expr} {ta:TA} {px py pt:Pos} {kt k2 pt2} (hc:X.calm=true) (hN:X.N.Nodup) (hi:X.N[i]? =some x) (hj:X.N[j]? =some y) (hij:i≠j)
  (hx:X.env.scope.names.lookup x=some .local) (hy:X.env.scope.names.lookup y=some .local) (ha:PA X [a,b] ta)
  (hw:swappedStores [.Tuple [.Name x px,.Name y py] kt pt] (.Tuple [a,b] k2 pt2) X.env=pure (some [x,y]))
  (hs:swapsWithSole [.Tuple [.Name x px,.Name y py] kt pt] (.Tuple [a,b] k2 pt2) pos.line X.env=pure false:=by rfl):
  PS X (.Assign [.Tuple [.Name x px,.Name y py] kt pt] (.Tuple [a,b] k2 pt2) pos) (tPar i j ta):=by
 intro pins s σ H D I h
 rw [exec_Assign_arm]
 refine wpAny_bind (wpAny_standAt ?_)
 rw [hs]
 refine wpAny_bind (wpAny_pure ?_)
 rw [if_neg (by decide)]
 refine wpAny_bind (Tuple_ (thn (ha _ pins s σ H _ I h) fun us s1 ⟨vs,H1,I1,r1,q1⟩=> ?_))
 obtain ⟨v,w,e1,q1⟩:=q1
 subst e1
 obtain ⟨u1,u2,rfl,rv,rw'⟩:∃u1 u2,us=[u1,u2]∧RelV v u1∧RelV w u2:=by
  cases r1 with
  |cons p q=>
   cases q with
   |cons p' q'=>
    cases q'
    exact ⟨_,_,rfl,p,p'⟩
 refine wpAny_newObj_type ?_ (by show 2≤sizeLine;decide)
 have I2:Inv X pins σ H1 {s1 with heap:=s1.heap.push {cls:= .type "tuple",data:= .seq [u1,u2].toArray}}:=I1.kept (t':=s1.toks) fun b o e=>Heap.get?_push_of_some _ e
 rw [hw]
 refine wpAny_bind (wpAny_pure ?_)
 show wpAny (model X.prog X.w) X.A (do rule "assign.swapped-stores";let items ←unpackItems (.ref s1.heap.objs.size) 2 none;assignInOrder [fun v=>bindName X.env y v,fun v=>bindName X.env x v] items.reverse;pure Flow.next) _ _ _
 refine wpAny_bind (wpAny_rule (wpAny_bind (unpackItems_tuple (items:= #[u1,u2]) (I.ok.hd hc) (IsTup.new s1.heap _) fun h' hx'=> ?_)))
 have I3:=I2.kept (h':=h') (t':=s1.toks) fun b o e=>hx' b o (Nat.ne_of_lt (Heap.lt_size e)) e
 show wpAny _ _ (assignInOrder [fun v=>bindName X.env y v,fun v=>bindName X.env x v] [u2,u1] >>=fun _=>pure Flow.next) _ _ _
 refine wpAny_bind (assignInOrder_cons (wpAny_bindName (store_ok I3 hN hj (.inl hy) rw' (fun s2 I4=> ?_) (.inr hy))))
 refine assignInOrder_cons (wpAny_bindName (store_ok I4 hN hi (.inl hx) rv (fun s3 I5=>assignInOrder_nil (wpAny_pure ?_)) (.inr hx)))
 rw [List.set_comm _ _ (Ne.symm hij)] at I5
 exact ⟨_,H1,I5,q1⟩
end
structure It where
 go:Nat→Hp→Prop
 yld:Nat→Hp→V→Hp→Prop
 stop:Nat→Hp→Prop
def FpOk (X:Cx) (pins:List (Addr×Obj)) (H:Hp) (b:Addr):Prop:=
 H b=none∧b≠X.env.locals∧b ∉ X.fs∧(b∈X.ex∨X.s₀.heap.objs.size≤b)∧(∀x c,X.env.cells.lookup x=some c→c≠b)∧∀p∈X.pn++pins,p.1≠b
theorem Inv.fpOk {X:Cx} {pins:List (Addr×Obj)} {σ:St} {H H':Hp} {s:Shared} {b:Addr} (I:Inv X pins σ H s) (hb:s.heap.objs.size≤b) (hn:H' b=none):FpOk X pins H' b:=by
 refine ⟨hn,Nat.ne_of_gt (Nat.lt_of_lt_of_le I.lt hb),I.nofs hb,.inr (Nat.le_trans I.sz hb),fun x c e z=> ?_,fun p hp z=> ?_⟩
 ·obtain ⟨v,q⟩:=I.cell x c e
  exact absurd (Nat.lt_of_lt_of_le q.lt (by rw [z];exact hb)) (Nat.lt_irrefl _)
 ·exact absurd (Nat.lt_of_lt_of_le (Heap.lt_size (I.pin p hp).1) (by rw [z];exact hb)) (Nat.lt_irrefl _)
structure Turn (P:Program) (w:World) (K:PySem.W.Frag) (tg:Expr) (J:It) (fp:List Addr) (it:Addr) (tn:Nat→Heap→Prop):Prop where
 mem:it∈fp
 obj:∀i h,tn i h→∀b∈fp,∃o,h.get? b=some o∧∀v,o.data≠ .cell v
 keep:∀i h h',tn i h→(∀b∈fp,∀o,h.get? b=some o→h'.get? b=some o)→tn i h'
 item:∀(X:Cx),X.prog=P→X.w=w→X.K=K→X.calm=true→∀(i:Nat) (pins:List (Addr×Obj)) (s:Shared) (σ:St) (H:Hp) (E:Value→Shared→Prop),Inv X pins σ H s→(∀b∈fp,FpOk X pins H b)→tn i s.heap→J.go i H→
  wpAny (model P w) X.A (pyNext (.ref it)) (fun r s1=>∃u,r=some u∧
   wpAny (model P w) X.A (letOwnedTupleGo tg (.ref it) u) (fun _ s2=>∃x H',Inv X pins σ H' s2∧RelV x u∧J.yld i H x H'∧tn (i+1) s2.heap∧∀b∈fp,H' b=none) E s1) E s
 done:∀(X:Cx),X.prog=P→X.w=w→X.K=K→X.calm=true→∀(i:Nat) (pins:List (Addr×Obj)) (s:Shared) (σ:St) (H:Hp) (E:Value→Shared→Prop),Inv X pins σ H s→(∀b∈fp,FpOk X pins H b)→tn i s.heap→J.stop i H→
  wpAny (model P w) X.A (pyNext (.ref it)) (fun r s1=>r=none∧Inv X pins σ H s1) E s
 self:∀(A:Around) (i:Nat) (s:Shared) (Q:Value→Shared→Prop) (E:Value→Shared→Prop),tn i s.heap→Q (.ref it) s→wpAny (model P w) A (pyIter (.ref it)) Q E s
abbrev TI:=St→Hp→(It→Hp→Prop)→Prop
def PIE (X:Cx) (pins:List (Addr×Obj)) (σ:St) (tg:Expr) (R:It→Hp→Prop) (itv:Value) (s2:Shared):Prop:=
 ∃(it:Addr) (fp:List Addr) (tn:Nat→Heap→Prop) (J:It) (H':Hp),itv= .ref it∧Inv X pins σ H' s2∧Turn X.prog X.w X.K tg J fp it tn∧tn 0 s2.heap∧(∀b∈fp,FpOk X pins H' b)∧R J H'
def PI (X:Cx) (tg iter:Expr) (wi:TI):Prop:=
 ∀(pins:List (Addr×Obj)) (s:Shared) (σ:St) (H:Hp) (R:It→Hp→Prop),Inv X pins σ H s→wi σ H R→
  wpAny (model X.prog X.w) X.A (eval iter X.env) (fun v s1=>wpAny (model X.prog X.w) X.A (pyIter v) (PIE X pins σ tg R) X.xe s1) X.xe s
theorem go_of {M:Model} {A:Around} {E:Value→Shared→Prop} {s:Shared} {tg:Expr} {it:Addr} {u:Value} {o:Obj} {n:String} {vs:Array Value} {Q:Unit→Shared→Prop} (ho:s.heap.get? it=some o) (hc:o.cls= .type n) (hd:o.data= .fields vs)
  (hn:["enumerate","zip","dict_itemiterator","dict_reverseitemiterator","odict_iterator","itertools.zip_longest","itertools.pairwise"].contains n=false) (hQ:Q () s):wpAny M A (letOwnedTupleGo tg (.ref it) u) Q E s:=by
 unfold letOwnedTupleGo
 cases tg<;> first
  |exact wpAny_pure hQ
  |(cases u<;> first
   |exact wpAny_pure hQ
   |(refine wpAny_bind (wpAny_load ho ?_)
     rw [hc,hd]
     show wpAny M A (if (["enumerate","zip","dict_itemiterator","dict_reverseitemiterator","odict_iterator","itertools.zip_longest","itertools.pairwise"].contains n && vs[0]? ==some (rawInt _))=true then _ else _) Q E s
     rw [if_neg (by intro h;rw [hn,Bool.false_and] at h;cases h)]
     exact wpAny_pure hQ))
def Itl (K:PySem.W.Frag) (a:Addr):It:=
 ⟨fun i H=>∃xs x,SqL K H a xs∧xs[i]? =some x,fun i H x H'=>H'=H∧∀xs,SqL K H a xs→xs[i]? =some x,fun i H=>∃xs,SqL K H a xs∧xs.length≤i⟩
def Itt (K:PySem.W.Frag) (a:Addr):It:=
 ⟨fun i H=>∃xs x,SqT K H a xs∧xs[i]? =some x,fun i H x H'=>H'=H∧∀xs,SqT K H a xs→xs[i]? =some x,fun i H=>∃xs,SqT K H a xs∧xs.length≤i⟩
def Itr (lo:Int) (n:Nat):It:=⟨fun i _=>i<n,fun i H x H'=>H'=H∧x= .int (lo+i),fun i _=>n≤i⟩
theorem turn_list {P:Program} {w:World} {K:PySem.W.Frag} {tg:Expr} (a it:Addr):Turn P w K tg (Itl K a) [it] it (fun i h=>h.IsListIter it a i) where
 mem:=by simp
 obj:=fun i h st b hb=>by
  have e:b=it:=by simpa using hb
  subst e
  obtain ⟨o,e,c,d⟩:=st
  exact ⟨o,e,fun v z=>by rw [d] at z;cases z⟩
 keep:=fun i h h' st k=>st.at fun o e=>k it (by simp) o e
 item:=by
  intro X hP hw hK hc i pins s σ H E I hf st hg
  subst hP hw hK
  obtain ⟨xs,x,hq,hx⟩:=hg
  obtain ⟨its,rv,p,hz⟩:=I.list hq
  obtain ⟨u,hu,ru⟩:=rv.get hx
  obtain ⟨f0,f1,f2,f3,f4,f5⟩:=hf it (by simp)
  refine wpAny_pyNext_list_item st p.isList (x:=u) (by simpa using hu) fun h' st' sb=> ?_
  have I1:Inv X pins σ H {s with heap:=h'}:=I.turned (t':=s.toks) (fun b o hb e=>(sb.2 b hb).trans e) f0 f1 f3 f4 f5
  obtain ⟨o,e,c,d⟩:=id st'
  exact ⟨u,rfl,go_of (s:={s with heap:=h'}) e c d (by decide) ⟨x,H,I1,ru,⟨rfl,fun ys hy=>by rw [I.list_inj hy hq];exact hx⟩,st',fun b hb=>(hf b hb).1⟩⟩
 done:=by
  intro X hP hw hK hc i pins s σ H E I hf st hg
  subst hP hw hK
  obtain ⟨xs,hq,hx⟩:=hg
  obtain ⟨its,rv,p,hz⟩:=I.list hq
  obtain ⟨f0,f1,f2,f3,f4,f5⟩:=hf it (by simp)
  have hl:=rv.length
  exact wpAny_pyNext_list_end (I.ok.hd hc) st p.isList (by simp;omega) fun h' eb=>⟨rfl,I.turned (t':=s.toks) (fun b o hb e=>eb b o hb e) f0 f1 f3 f4 f5⟩
 self:=fun _ _ _ _ _ st h=>wpAny_pyIter_listiter st h
theorem turn_tuple {P:Program} {w:World} {K:PySem.W.Frag} {tg:Expr} (a it:Addr):Turn P w K tg (Itt K a) [it] it (fun i h=>h.IsTupleIter it a i) where
 mem:=by simp
 obj:=fun i h st b hb=>by
  have e:b=it:=by simpa using hb
  subst e
  obtain ⟨o,e,c,d⟩:=st
  exact ⟨o,e,fun v z=>by rw [d] at z;cases z⟩
 keep:=fun i h h' st k=>st.at fun o e=>k it (by simp) o e
 item:=by
  intro X hP hw hK hc i pins s σ H E I hf st hg
  subst hP hw hK
  obtain ⟨xs,x,hq,hx⟩:=hg
  obtain ⟨its,rv,p,hz⟩:=I.tuple hq
  obtain ⟨u,hu,ru⟩:=rv.get hx
  obtain ⟨f0,f1,f2,f3,f4,f5⟩:=hf it (by simp)
  refine wpAny_pyNext_tuple_item st (show s.heap.IsTuple a its.toArray from p) (x:=u) (by simpa using hu) fun h' st' sb=> ?_
  have I1:Inv X pins σ H {s with heap:=h'}:=I.turned (t':=s.toks) (fun b o hb e=>(sb.2 b hb).trans e) f0 f1 f3 f4 f5
  obtain ⟨o,e,c,d⟩:=id st'
  exact ⟨u,rfl,go_of (s:={s with heap:=h'}) e c d (by decide) ⟨x,H,I1,ru,⟨rfl,fun ys hy=>by rw [I.tuple_inj hy hq];exact hx⟩,st',fun b hb=>(hf b hb).1⟩⟩
 done:=by
  intro X hP hw hK hc i pins s σ H E I hf st hg
  subst hP hw hK
  obtain ⟨xs,hq,hx⟩:=hg
  obtain ⟨its,rv,p,hz⟩:=I.tuple hq
  obtain ⟨f0,f1,f2,f3,f4,f5⟩:=hf it (by simp)
  have hl:=rv.length
  exact wpAny_pyNext_tuple_end (I.ok.hd hc) st (show s.heap.IsTuple a its.toArray from p) (by simp;omega) fun h' eb=>⟨rfl,I.turned (t':=s.toks) (fun b o hb e=>eb b o hb e) f0 f1 f3 f4 f5⟩
 self:=fun _ _ _ _ _ st h=>wpAny_pyIter_tupleiter st h
theorem turn_range {P:Program} {w:World} {K:PySem.W.Frag} {tg:Expr} (it:Addr) (lo:Int) (n:Nat):Turn P w K tg (Itr lo n) [it] it (fun i h=>IsRangeIter h it (lo+(i:Nat) * 1) ((n:Int) - (i:Nat)) 1) where
 mem:=by simp
 obj:=fun i h st b hb=>by
  have e:b=it:=by simpa using hb
  subst e
  exact ⟨_,st,fun v z=>by
   have z':Data.fields _=Data.cell v:=z
   cases z'⟩
 keep:=fun i h h' st k=>k it (by simp) _ st
 item:=by
  intro X hP hw hK hc i pins s σ H E I hf st hg
  subst hP hw hK
  obtain ⟨f0,f1,f2,f3,f4,f5⟩:=hf it (by simp)
  have W:=Walks.range (prog:=X.prog) (w:=X.w) (I.ok.hd hc) it lo 1 n
  refine W.item i s _ _ hg st fun v h' tk hv st' kk=> ?_
  obtain ⟨t,rfl⟩:=hv
  have I1:Inv X pins σ H {s with heap:=h',toks:=tk}:=I.turned (fun b o hb e=>kk b o (by simpa using hb) e) f0 f1 f3 f4 f5
  refine ⟨_,rfl,go_of (s:={s with heap:=h',toks:=tk}) (n:="range_iterator") st' rfl rfl (by decide) ⟨.int (lo+i),H,I1,⟨t,?_⟩,⟨rfl,rfl⟩,st',fun b hb=>(hf b hb).1⟩⟩
  rw [Int.mul_one]
 done:=by
  intro X hP hw hK hc i pins s σ H E I hf st hg
  subst hP hw hK
  obtain ⟨f0,f1,f2,f3,f4,f5⟩:=hf it (by simp)
  exact wpAny_pyNext_range_end (I.ok.hd hc) st (by have:n≤i:=hg;omega) fun h' eb=>⟨rfl,I.turned (t':=s.toks) (fun b o hb e=>eb b o hb e) f0 f1 f3 f4 f5⟩
 self:=fun _ _ _ _ _ st h=>wpAny_pyIter_rangeiter st h
end L2
namespace L2
open PySem PySem.Spec PyProof.Rows
section
variable {X:Cx} {tg:Expr}
def iList (K:PySem.W.Frag) (tl:TE):TI:=fun σ H R=>tl σ H fun x H1=>∃a,x= .ref a∧(∃xs,SqL K H1 a xs)∧R (Itl K a) H1
def iTup (K:PySem.W.Frag) (tl:TE):TI:=fun σ H R=>tl σ H fun x H1=>∃a,x= .ref a∧(∃xs,SqT K H1 a xs)∧R (Itt K a) H1
theorem pi_list {l:Expr} {tl:TE} (hl:PE X l tl):PI X tg l (iList X.K tl):=by
 intro pins s σ H R I h
 refine thn (hl pins s σ H _ I h) fun v s1 ⟨x,H1,I1,r1,q1⟩=> ?_
 obtain ⟨a,e,⟨xs,hq⟩,q⟩:=q1
 subst e
 cases r1
 obtain ⟨its,rv,p,hz⟩:=I1.list hq
 refine wpAny_pyIter_list p.isList ?_
 refine ⟨s1.heap.objs.size,[s1.heap.objs.size],_,_,H1,rfl,I1.kept (t':=s1.toks) fun b o e=>Heap.get?_push_of_some _ e,turn_list a _,⟨_,Heap.get?_push_size _ rfl,rfl,rfl⟩,fun b hb=> ?_,q⟩
 have e:b=s1.heap.objs.size:=by simpa using hb
 subst e
 exact I1.fpOk (Nat.le_refl _) (I1.hok.fresh (Nat.le_refl _))
theorem pi_tup {l:Expr} {tl:TE} (hl:PE X l tl):PI X tg l (iTup X.K tl):=by
 intro pins s σ H R I h
 refine thn (hl pins s σ H _ I h) fun v s1 ⟨x,H1,I1,r1,q1⟩=> ?_
 obtain ⟨a,e,⟨xs,hq⟩,q⟩:=q1
 subst e
 cases r1
 obtain ⟨its,rv,p,hz⟩:=I1.tuple hq
 refine wpAny_pyIter_tuple (show s1.heap.IsTuple a its.toArray from p) ?_
 refine ⟨s1.heap.objs.size,[s1.heap.objs.size],_,_,H1,rfl,I1.kept (t':=s1.toks) fun b o e=>Heap.get?_push_of_some _ e,turn_tuple a _,⟨_,Heap.get?_push_size _ rfl,rfl,rfl⟩,fun b hb=> ?_,q⟩
 have e:b=s1.heap.objs.size:=by simpa using hb
 subst e
 exact I1.fpOk (Nat.le_refl _) (I1.hok.fresh (Nat.le_refl _))
theorem range_it {pins:List (Addr×Obj)} {σ:St} {H:Hp} {s:Shared} {R:It→Hp→Prop} {E:Value→Shared→Prop} {lo hi:Int} {t u v:Tok} {tk:Nat} (I:Inv X pins σ H s) (h1: -(2 ^ 62)≤lo) (h2:lo<2 ^ 62) (h3: -(2 ^ 62)≤hi) (h4:hi<2 ^ 62)
  (q:R (Itr lo (hi - lo).toNat) H):wpAny (model X.prog X.w) X.A (pyIter (.ref s.heap.objs.size)) (PIE X pins σ tg R) E {s with heap:=s.heap.push {cls:= .type "range",data:= .fields #[.int lo t,.int hi u,.int 1 v]},toks:=tk}:=by
 refine wpAny_pyIter_range (IsRange.new ..) (small_one h1 h2 h3 h4) ?_
 have I1:Inv X pins σ H {s with heap:=s.heap.push {cls:= .type "range",data:= .fields #[.int lo t,.int hi u,.int 1 v]},toks:=tk}:=I.kept fun b o e=>Heap.get?_push_of_some _ e
 refine ⟨(s.heap.push {cls:= .type "range",data:= .fields #[.int lo t,.int hi u,.int 1 v]}).objs.size,[(s.heap.push {cls:= .type "range",data:= .fields #[.int lo t,.int hi u,.int 1 v]}).objs.size],_,_,H,rfl,
  I1.kept (t':=tk) fun b o e=>Heap.get?_push_of_some _ e,turn_range _ lo (hi - lo).toNat,?_,fun b hb=> ?_,q⟩
 ·have e1:lo+((0:Nat):Int) * 1=lo:=by simp
  have e2:(((hi - lo).toNat:Nat):Int) - ((0:Nat):Int)=Builtin.Range.rangeSize lo hi 1:=by rw [rangeSize_one];split<;> omega
  show IsRangeIter _ _ (lo+((0:Nat):Int) * 1) ((((hi - lo).toNat:Nat):Int) - ((0:Nat):Int)) 1
  rw [e1,e2]
  exact Heap.get?_push_size _ rfl
 ·have e:b=(s.heap.push {cls:= .type "range",data:= .fields #[.int lo t,.int hi u,.int 1 v]}).objs.size:=by simpa using hb
  subst e
  exact I1.fpOk (Nat.le_refl _) (I1.hok.fresh (Nat.le_refl _))
def iRng1 (ta:TA):TI:=fun σ H R=>ta σ H fun vs H1=>∃j:Int,vs=[.int j]∧ -(2 ^ 62)≤j∧j<2 ^ 62∧R (Itr 0 j.toNat) H1
theorem pi_range1 {a:Expr} {ta:TA} {p pos:Pos} (hg:Gl X "range") (hm:X.mg "range"=none) (ha:PA X [a] ta) (hs:starEach [a] X.env=[(false,eval a X.env)]:=by rfl):PI X tg (.Call (.Name "range" p) [a] [] pos) (iRng1 ta):=by
 intro pins s σ H R I h
 refine Call_ (ld_blt I hg hm boot_range (PyProof.Rows.callWith_type1 (thn (ha pos pins s σ H _ I h) fun us s1 ⟨vs,H1,I1,r1,q1⟩=> ?_) hs rfl))
 obtain ⟨j,e,q1,q2,q⟩:=q1
 subst e
 cases r1 with
 |cons r rr=>
  cases rr
  obtain ⟨t,rfl⟩:=r
  exact call_range_1 (range_it I1 (by decide) (by decide) q1 q2 (by simpa using q))
def tFor (wi:TI) (g:TG) (tb:TS):TS:=fun D σ H=>wi σ H fun J H1=>∃W:Nat→Nat→St→Hp→Prop,(∃m,W 0 m σ H1)∧∀i m σ H,W i m σ H→
 (J.stop i H∧D.nx σ H)∨(J.go i H∧∃N:St→Hp→Prop,(∀σ' H',N σ' H'→∃m',m'<m∧W (i+1) m' σ' H')∧∀x H',J.yld i H x H'→g x σ H' fun σ2 H2=>tb {D with nx:=N,ct:=N,bk:=D.nx} σ2 H2)
def pinsAt (fp:List Addr) (h:Heap):List (Addr×Obj):=fp.filterMap fun b=>(h.get? b).map fun o=>(b,o)
theorem mem_pinsAt {fp:List Addr} {h:Heap} {b:Addr} {o:Obj} (hb:b∈fp) (e:h.get? b=some o):(b,o)∈pinsAt fp h:=List.mem_filterMap.mpr ⟨b,hb,by rw [e];rfl⟩
theorem of_pinsAt {fp:List Addr} {h:Heap} {p:Addr×Obj} (hp:p∈pinsAt fp h):p.1∈fp∧h.get? p.1=some p.2:=by
 obtain ⟨b,hb,e⟩:=List.mem_filterMap.mp hp
 cases q:h.get? b with
 |none=>rw [q] at e;cases e
 |some o=>
  rw [q] at e
  have e':(b,o)=p:=Option.some.inj e
  subst e'
  exact ⟨hb,q⟩
theorem Inv.pinned {pins:List (Addr×Obj)} {σ:St} {H:Hp} {s:Shared} {fp:List Addr} (I:Inv X pins σ H s) (hf:∀b∈fp,FpOk X pins H b) (ho:∀b∈fp,∃o,s.heap.get? b=some o∧∀v,o.data≠ .cell v):Inv X (pins++pinsAt fp s.heap) σ H s:=
 I.pins_of fun p hp=>(List.mem_append.mp hp).elim (fun z=>I.pin p (List.mem_append_right _ z)) fun z=>by
  obtain ⟨hb,e⟩:=of_pinsAt z
  obtain ⟨f0,f1,f2,_⟩:=hf p.1 hb
  obtain ⟨o,e',d⟩:=ho p.1 hb
  rw [e] at e';cases e'
  exact ⟨e,f0,f1,f2,d⟩
theorem Inv.unpinned {pins pl:List (Addr×Obj)} {σ:St} {H:Hp} {s:Shared} (I:Inv X (pins++pl) σ H s):Inv X pins σ H s:=I.pins_of fun p hp=>I.pin p (List.mem_append_right _ (List.mem_append_left _ hp))
theorem Ca {iter:Expr} {body:List Stmt} {wi:TI} {g:TG} {tb:TS} {pos:Pos} (hp:PassesOwn (model X.prog X.w) X.A X.env X.xe) (hc:X.calm=true) (hi:PI X tg iter wi) (hg:PG X tg g) (hb:PSs X body tb)
  (hs:∀x,foldedSetIterable iter X.env x=pure x:=by intro _;rfl):PS X (.For tg iter body [] pos) (tFor wi g tb):=by
 intro pins s σ H D I h
 refine wpAny_For (thn (hi pins s σ H _ I h) fun v s1 h1=>thn h1 fun itv s2 h2=> ?_) hs
 obtain ⟨it,fp,tn,J,H2,e,I2,T,st2,f2,W,⟨m0,w0⟩,turn⟩:=h2
 subst e
 have stat:∀{H':Hp},(∀b∈fp,H' b=none)→∀b∈fp,FpOk X pins H' b:=fun hn b hb=>⟨hn b hb,(f2 b hb).2⟩
 refine codeAny_forLoop_any (fun n s'=>∃i σ' H',Inv X pins σ' H' s'∧tn i s'.heap∧(∀b∈fp,H' b=none)∧W i n σ' H') ?_ m0 ⟨0,σ,H2,I2,st2,fun b hb=>(f2 b hb).1,w0⟩
 rintro n s3 ⟨i,σ3,H3,I3,st3,fr3,w3⟩
 rcases turn i n σ3 H3 w3 with ⟨stop,qn⟩|⟨go,N,hN,step⟩
 ·refine wpAny_passesOwn hp (thn (T.done X rfl rfl rfl hc i pins s3 σ3 H3 X.xe I3 (stat fr3) st3 stop) fun r s4 ⟨hr,I4⟩=> ?_)
  subst hr
  exact wpAny_execs_nil ⟨σ3,H3,I4,qn⟩
 ·refine wpAny_passesOwn hp (thn (T.item X rfl rfl rfl hc i pins s3 σ3 H3 X.xe I3 (stat fr3) st3 go) fun r s4 ⟨u,hr,h4⟩=> ?_)
  subst hr
  refine wpAny_passesOwn hp (thn h4 fun _ s5 ⟨x,H5,I5,r5,y5,st5,fr5⟩=> ?_)
  have I5':=I5.pinned (stat fr5) (T.obj _ _ st5)
  refine wpAny_passesOwn hp (thn (hg _ s5 σ3 H5 x u _ I5' r5 (step x H5 y5)) fun _ s6 ⟨σ6,H6,I6,q6⟩=> ?_)
  refine wpAny_passesOwn hp (thn (hb _ s6 σ6 H6 _ I6 q6) fun f s7 q7=> ?_)
  have again:∀{σ7:St} {H7:Hp},Inv X (pins++pinsAt fp s5.heap) σ7 H7 s7→N σ7 H7→∃m,m<n∧∃i σ' H',Inv X pins σ' H' s7∧tn i s7.heap∧(∀b∈fp,H' b=none)∧W i m σ' H':=fun {σ7 H7} I7 n7=>by
   obtain ⟨m',hm,w7⟩:=hN σ7 H7 n7
   refine ⟨m',hm,i+1,σ7,H7,I7.unpinned,T.keep _ _ _ st5 fun b hb o e=>(I7.pin (b,o) (List.mem_append_right _ (List.mem_append_right _ (mem_pinsAt hb e)))).1,fun b hb=> ?_,w7⟩
   obtain ⟨o,e,d⟩:=T.obj _ _ st5 b hb
   exact (I7.pin (b,o) (List.mem_append_right _ (List.mem_append_right _ (mem_pinsAt hb e)))).2.1
  cases f with
  |next=>obtain ⟨σ7,H7,I7,n7⟩:=q7;exact again I7 n7
  |cont=>obtain ⟨σ7,H7,I7,n7⟩:=q7;exact again I7 n7
  |brk=>obtain ⟨σ7,H7,I7,q7⟩:=q7;exact ⟨σ7,H7,I7.unpinned,q7⟩
  |ret v=>obtain ⟨x7,σ7,H7,I7,r7,q7⟩:=q7;exact ⟨x7,σ7,H7,I7.unpinned,r7,q7⟩
end
theorem for_list {K:PySem.W.Frag} {a:Addr} {xs:List V} {g:TG} {tb:TS} {D:Ends} {σ:St} {H:Hp} (Pv:Nat→St→Hp→Prop) (h0:Pv 0 σ H) (hl:∀i σ H,i≤xs.length→Pv i σ H→SqL K H a xs)
  (hs:∀i x σ H,xs[i]? =some x→Pv i σ H→g x σ H fun σ2 H2=>tb {D with nx:=Pv (i+1),ct:=Pv (i+1),bk:=D.nx} σ2 H2) (hd:∀σ H,Pv xs.length σ H→D.nx σ H):
  ∃W:Nat→Nat→St→Hp→Prop,(∃m,W 0 m σ H)∧∀i m σ H,W i m σ H→
   ((Itl K a).stop i H∧D.nx σ H)∨((Itl K a).go i H∧∃N:St→Hp→Prop,(∀σ' H',N σ' H'→∃m',m'<m∧W (i+1) m' σ' H')∧∀x H',(Itl K a).yld i H x H'→g x σ H' fun σ2 H2=>tb {D with nx:=N,ct:=N,bk:=D.nx} σ2 H2):=by
 refine ⟨fun i m σ H=>m=xs.length - i∧i≤xs.length∧Pv i σ H,⟨xs.length,by simp,Nat.zero_le _,h0⟩,?_⟩
 rintro i m σ H ⟨rfl,hi,p⟩
 have q:=hl i σ H hi p
 by_cases hlt:i<xs.length
 ·refine .inr ⟨⟨xs,xs[i],q,by simp [hlt]⟩,Pv (i+1),fun σ' H' p'=>⟨xs.length - (i+1),by omega,rfl,hlt,p'⟩,fun x H' y=> ?_⟩
  obtain ⟨e,y⟩:=y
  subst e
  exact hs i x σ _ (y xs q) p
 ·have e:i=xs.length:=by omega
  subst e
  exact .inl ⟨⟨xs,q,Nat.le_refl _⟩,hd σ H p⟩
theorem for_tup {K:PySem.W.Frag} {a:Addr} {xs:List V} {g:TG} {tb:TS} {D:Ends} {σ:St} {H:Hp} (Pv:Nat→St→Hp→Prop) (h0:Pv 0 σ H) (hl:∀i σ H,i≤xs.length→Pv i σ H→SqT K H a xs)
  (hs:∀i x σ H,xs[i]? =some x→Pv i σ H→g x σ H fun σ2 H2=>tb {D with nx:=Pv (i+1),ct:=Pv (i+1),bk:=D.nx} σ2 H2) (hd:∀σ H,Pv xs.length σ H→D.nx σ H):
  ∃W:Nat→Nat→St→Hp→Prop,(∃m,W 0 m σ H)∧∀i m σ H,W i m σ H→
   ((Itt K a).stop i H∧D.nx σ H)∨((Itt K a).go i H∧∃N:St→Hp→Prop,(∀σ' H',N σ' H'→∃m',m'<m∧W (i+1) m' σ' H')∧∀x H',(Itt K a).yld i H x H'→g x σ H' fun σ2 H2=>tb {D with nx:=N,ct:=N,bk:=D.nx} σ2 H2):=by
 refine ⟨fun i m σ H=>m=xs.length - i∧i≤xs.length∧Pv i σ H,⟨xs.length,by simp,Nat.zero_le _,h0⟩,?_⟩
 rintro i m σ H ⟨rfl,hi,p⟩
 have q:=hl i σ H hi p
 by_cases hlt:i<xs.length
 ·refine .inr ⟨⟨xs,xs[i],q,by simp [hlt]⟩,Pv (i+1),fun σ' H' p'=>⟨xs.length - (i+1),by omega,rfl,hlt,p'⟩,fun x H' y=> ?_⟩
  obtain ⟨e,y⟩:=y
  subst e
  exact hs i x σ _ (y xs q) p
 ·have e:i=xs.length:=by omega
  subst e
  exact .inl ⟨⟨xs,q,Nat.le_refl _⟩,hd σ H p⟩
theorem for_range {lo:Int} {n:Nat} {g:TG} {tb:TS} {D:Ends} {σ:St} {H:Hp} (Pv:Nat→St→Hp→Prop) (h0:Pv 0 σ H)
  (hs:∀i σ H,i<n→Pv i σ H→g (.int (lo+i)) σ H fun σ2 H2=>tb {D with nx:=Pv (i+1),ct:=Pv (i+1),bk:=D.nx} σ2 H2) (hd:∀σ H,Pv n σ H→D.nx σ H):
  ∃W:Nat→Nat→St→Hp→Prop,(∃m,W 0 m σ H)∧∀i m σ H,W i m σ H→
   ((Itr lo n).stop i H∧D.nx σ H)∨((Itr lo n).go i H∧∃N:St→Hp→Prop,(∀σ' H',N σ' H'→∃m',m'<m∧W (i+1) m' σ' H')∧∀x H',(Itr lo n).yld i H x H'→g x σ H' fun σ2 H2=>tb {D with nx:=N,ct:=N,bk:=D.nx} σ2 H2):=by
 refine ⟨fun i m σ H=>m=n - i∧i≤n∧Pv i σ H,⟨n,by simp,Nat.zero_le _,h0⟩,?_⟩
 rintro i m σ H ⟨rfl,hi,p⟩
 by_cases hlt:i<n
 ·refine .inr ⟨hlt,Pv (i+1),fun σ' H' p'=>⟨n - (i+1),by omega,rfl,hlt,p'⟩,fun x H' y=> ?_⟩
  obtain ⟨e,y⟩:=y
  subst e y
  exact hs i σ _ hlt p
 ·have e:i=n:=by omega
  subst e
  exact .inl ⟨Nat.le_refl _,hd σ H p⟩
end L2
namespace L2
open PySem PySem.Spec PyProof.Rows
abbrev R2:=V→V→Hp→VK→Prop
def OpR (X:Cx) (f:Value→Value→Sem Value) (r:R2):Prop:=
 ∀(pins:List (Addr×Obj)) (s:Shared) (σ:St) (H:Hp) (x y:V) (v u:Value) (Q:VK),Inv X pins σ H s→RelV x v→RelV y u→r x y H Q→
  wpAny (model X.prog X.w) X.A (f v u) (EP X pins σ Q) X.xe s
def UnR (X:Cx) (f:Value→Sem Value) (r:V→Hp→VK→Prop):Prop:=
 ∀(pins:List (Addr×Obj)) (s:Shared) (σ:St) (H:Hp) (x:V) (v:Value) (Q:VK),Inv X pins σ H s→RelV x v→r x H Q→
  wpAny (model X.prog X.w) X.A (f v) (EP X pins σ Q) X.xe s
def By (X:Cx) (f:Value) (r:List V→Hp→VK→Prop):Prop:=
 ∀(pins:List (Addr×Obj)) (s:Shared) (σ:St) (H:Hp) (xs:List V) (us:List Value) (Q:VK),Inv X pins σ H s→Vals xs us→r xs H Q→
  wpAny (model X.prog X.w) X.A (call f us) (EP X pins σ Q) X.xe s
def tOp (r:R2) (ta tb:TE):TE:=fun σ H Q=>ta σ H fun x H1=>tb σ H1 fun y H2=>r x y H2 Q
def tUn (r:V→Hp→VK→Prop) (ta:TE):TE:=fun σ H Q=>ta σ H fun x H1=>r x H1 Q
inductive RIP (C:Int→Int→Prop) (g:Int→Int→V) (x:V) (y:V) (H:Hp) (Q:VK):Prop
 |mk (i j:_):(x= .int i)→(y= .int j)→(C i j)→(Q (g i j) H)→RIP C g x y H Q
def rI (C:Int→Int→Prop) (g:Int→Int→V):R2:=fun x y H Q=>RIP C g x y H Q
inductive RI0P (g:Int→Int→V) (x:V) (y:V) (H:Hp) (Q:VK):Prop
 |mk (i j:_):(x= .int i)→(y= .int j)→(Q (g i j) H)→RI0P g x y H Q
def rI0 (g:Int→Int→V):R2:=fun x y H Q=>RI0P g x y H Q
inductive RUP (g:Int→V) (x:V) (H:Hp) (Q:VK):Prop
 |mk (i:_):(x= .int i)→(Q (g i) H)→RUP g x H Q
def rU (g:Int→V):V→Hp→VK→Prop:=fun x H Q=>RUP g x H Q
section
variable {X:Cx} {a b c:Expr} {ta tb tc:TE} {pos:Pos}
theorem binT (ha:PE X a ta) (hb:PE X b tb) {pins:List (Addr×Obj)} {s:Shared} {σ:St} {H:Hp} {R:V→V→Hp→Prop} (I:Inv X pins σ H s)
  (h:ta σ H fun x H1=>tb σ H1 fun y H2=>R x y H2) {Q:Value→Shared→Prop} {f:Value→Value→Sem Value}
  (hf:∀v u s2 x y H2,Inv X pins σ H2 s2→RelV x v→RelV y u→R x y H2→wpAny (model X.prog X.w) X.A (f v u) Q X.xe s2):
  wpAny (model X.prog X.w) X.A (eval a X.env) (fun v s₁=>wpAny (model X.prog X.w) X.A (eval b X.env) (fun u s₂=>wpAny (model X.prog X.w) X.A (f v u) Q X.xe s₂) X.xe s₁) X.xe s:=by
 refine thn (ha pins s σ H _ I h) fun v s1 ⟨x,H1,I1,r1,q1⟩=> ?_
 refine thn (hb pins s1 σ H1 _ I1 q1) fun u s2 ⟨y,H2,I2,r2,q2⟩=> ?_
 exact hf v u s2 x y H2 I2 r1 r2 q2
theorem Am {op:Operator} {r:R2} (ho:OpR X (binaryOp op) r) (ha:PE X a ta) (hb:PE X b tb):PE X (.BinOp a op b pos) (tOp r ta tb):=by
 intro pins s σ H Q I h
 exact wpAny_BinOp (binT ha hb I h fun v u s2 x y H2 I2 rx ry q=>ho pins s2 σ H2 x y v u Q I2 rx ry q)
theorem pe_un {op:UnaryOp} {r:V→Hp→VK→Prop} (ho:UnR X (unaryOp op) r) (ha:PE X a ta):PE X (.UnaryOp op a pos) (tUn r ta):=by
 intro pins s σ H Q I h
 exact UnaryOp_ (thn (ha pins s σ H _ I h) fun v s1 ⟨x,H1,I1,r1,q1⟩=>ho pins s1 σ H1 x v Q I1 r1 q1)
theorem opI {f:Value→Value→Sem Value} {C:Int→Int→Prop} {g:Int→Int→Int}
  (rule:∀(i j:Int) (t u:Tok) (s:Shared) (Q:Value→Shared→Prop) (E:Value→Shared→Prop),C i j→Q (.int (g i j) s.toks) {s with toks:=s.toks+1}→wpAny (model X.prog X.w) X.A (f (.int i t) (.int j u)) Q E s):
  OpR X f (rI C fun i j=> .int (g i j)):=by
 intro pins s σ H x y v u Q I rx ry h
 obtain ⟨i,j,rfl,rfl,hc,q⟩:=h
 obtain ⟨t,rfl⟩:=rx
 obtain ⟨t',rfl⟩:=ry
 exact rule i j t t' s _ _ hc ⟨.int (g i j),H,I.tok _,⟨_,rfl⟩,q⟩
theorem opI0 {f:Value→Value→Sem Value} {g:Int→Int→Int}
  (rule:∀(i j:Int) (t u:Tok) (s:Shared) (Q:Value→Shared→Prop) (E:Value→Shared→Prop),Q (.int (g i j) s.toks) {s with toks:=s.toks+1}→wpAny (model X.prog X.w) X.A (f (.int i t) (.int j u)) Q E s):
  OpR X f (rI0 fun i j=> .int (g i j)):=by
 intro pins s σ H x y v u Q I rx ry h
 obtain ⟨i,j,rfl,rfl,q⟩:=h
 obtain ⟨t,rfl⟩:=rx
 obtain ⟨t',rfl⟩:=ry
 exact rule i j t t' s _ _ ⟨.int (g i j),H,I.tok _,⟨_,rfl⟩,q⟩
theorem opB0 {f:Value→Value→Sem Value} {g:Int→Int→Bool}
  (rule:∀(i j:Int) (t u:Tok) (s:Shared) (Q:Value→Shared→Prop) (E:Value→Shared→Prop),Q (.bool (g i j)) s→wpAny (model X.prog X.w) X.A (f (.int i t) (.int j u)) Q E s):
  OpR X f (rI0 fun i j=> .bl (g i j)):=by
 intro pins s σ H x y v u Q I rx ry h
 obtain ⟨i,j,rfl,rfl,q⟩:=h
 obtain ⟨t,rfl⟩:=rx
 obtain ⟨t',rfl⟩:=ry
 exact rule i j t t' s _ _ ⟨.bl (g i j),H,I,rfl,q⟩
def CDiv (i j:Int):Prop:=0<j∧j<1073741824
def CPow (i j:Int):Prop:=0≤j∧j≤1000000∧i.natAbs<2 ^ 64
def CMul (i j:Int):Prop:=(-(2 ^ 64)<i∧i<2 ^ 64)∨(-(2 ^ 64)<j∧j<2 ^ 64)
theorem CMul.ok {i j:Int} (h:CMul i j):IntMulOk i j:=by
 rcases h with ⟨h1,h2⟩|⟨h1,h2⟩
 ·exact .of_left (intBits_le_64 h1 h2)
 ·exact .of_right (intBits_le_64 h1 h2)
theorem Bc:OpR X (binaryOp .Add) (rI0 fun i j=> .int (i+j)):=opI0 fun _ _ _ _ _ _ _ q=>add_int q
theorem op_sub:OpR X (binaryOp .Sub) (rI0 fun i j=> .int (i - j)):=opI0 fun _ _ _ _ _ _ _ q=>sub_int q
theorem op_mul:OpR X (binaryOp .Mult) (rI CMul fun i j=> .int (i * j)):=opI fun _ _ _ _ _ _ _ hc q=>mul_int q hc.ok
theorem op_fdiv:OpR X (binaryOp .FloorDiv) (rI CDiv fun i j=> .int (i / j)):=opI fun i j _ _ _ _ _ hc q=>by
 have h1:(0:Int)<j:=hc.1
 have h2:j<1073741824:=hc.2
 exact floordiv_int (by omega) (by rw [Int.fdiv_eq_ediv_of_nonneg i (by omega)];exact q) (.inl (PyProof.noPylong_small (by omega)))
theorem op_mod:OpR X (binaryOp .Mod) (rI (fun _ j=>0<j) fun i j=> .int (i % j)):=opI fun i j _ _ _ _ _ hc q=>by
 have h1:(0:Int)<j:=hc
 exact mod_int' (by omega) (by rw [Int.fmod_eq_emod_of_nonneg i (by omega)];exact q)
theorem op_pow:OpR X (binaryOp .Pow) (rI CPow fun i j=> .int (i ^ j.toNat)):=opI fun _ _ _ _ _ _ _ hc q=>pow_int_small hc.1 hc.2.1 hc.2.2 q
theorem unI {f:Value→Sem Value} {g:Int→Int}
  (rule:∀(i:Int) (t:Tok) (s:Shared) (Q:Value→Shared→Prop) (E:Value→Shared→Prop),Q (.int (g i) s.toks) {s with toks:=s.toks+1}→wpAny (model X.prog X.w) X.A (f (.int i t)) Q E s):
  UnR X f (rU fun i=> .int (g i)):=by
 intro pins s σ H x v Q I rx h
 obtain ⟨i,rfl,q⟩:=h
 obtain ⟨t,rfl⟩:=rx
 exact rule i t s _ _ ⟨.int (g i),H,I.tok _,⟨_,rfl⟩,q⟩
theorem un_neg:UnR X (unaryOp .USub) (rU fun i=> .int (-i)):=unI fun _ _ _ _ _ q=>neg_int q
end
def scal:V→V→Bool
 | .non,.non=>true| .non,.int _=>true| .int _,.non=>true| .non,.bl _=>true| .bl _,.non=>true| .non,.str _=>true| .str _,.non=>true
 | .int _,.int _=>true| .bl _,.bl _=>true| .str _,.str _=>true| .byt _,.byt _=>true
 | .int _,.str _=>true| .str _,.int _=>true| .bl _,.str _=>true| .str _,.bl _=>true
 |_,_=>false
def rEq:R2:=fun x y H Q=>scal x y=true∧Q (.bl (decide (x=y))) H
def rNe:R2:=fun x y H Q=>scal x y=true∧Q (.bl (!decide (x=y))) H
theorem dec_int {i j:Int}:decide (V.int i=V.int j)=(i==j):=by
 rw [Bool.eq_iff_iff]
 simp
theorem dec_bl {i j:Bool}:decide (V.bl i=V.bl j)=(i==j):=by
 rw [Bool.eq_iff_iff]
 simp
theorem dec_str {i j:Str}:decide (V.str i=V.str j)=(i==j):=by
 rw [Bool.eq_iff_iff]
 simp
theorem dec_byt {i j:Array UInt8}:decide (V.byt i=V.byt j)=(i.toList==j.toList):=by
 rw [Bool.eq_iff_iff]
 cases i
 cases j
 simp
section
variable {X:Cx} {a b c:Expr} {ta tb tc:TE} {pos:Pos}
theorem A6 {pins:List (Addr×Obj)} {σ:St} {H:Hp} {s:Shared} {Q:VK} {k k':Bool} (I:Inv X pins σ H s) (q:Q (.bl k) H) (e:k=k'):EP X pins σ Q (.bool k') s:=by
 subst e
 exact ⟨.bl k,H,I,rfl,q⟩
theorem Cc:OpR X (compareOp .Eq) rEq:=by
 intro pins s σ H x y v u Q I rx ry h
 obtain ⟨hs,q⟩:=h
 cases x with
 |non=>
  cases rx
  cases y with
  |non=>cases ry;exact PySem.EqNone.eq_none_none (A6 I q (by simp))
  |bl j=>cases ry;exact PySem.EqNone.eq_none_bool (A6 I q (by simp))
  |int j=>obtain ⟨t',rfl⟩:=ry;exact PySem.EqNone.eq_none_int (A6 I q (by simp))
  |str j=>obtain ⟨t',rfl⟩:=ry;exact PySem.EqNone.eq_none_str (A6 I q (by simp))
  |_=>exact absurd (show false=true from hs) Bool.false_ne_true
 |bl i=>
  cases rx
  cases y with
  |non=>cases ry;exact PySem.EqNone.eq_bool_none (A6 I q (by simp))
  |bl j=>cases ry;exact eq_bool (A6 I q dec_bl)
  |str j=>obtain ⟨t',rfl⟩:=ry;exact PySem.EqMixed.eq_bool_str (A6 I q (by simp))
  |_=>exact absurd (show false=true from hs) Bool.false_ne_true
 |int i=>
  obtain ⟨t,rfl⟩:=rx
  cases y with
  |non=>cases ry;exact PySem.EqNone.eq_int_none (A6 I q (by simp))
  |int j=>obtain ⟨t',rfl⟩:=ry;exact eq_int (A6 I q dec_int)
  |str j=>obtain ⟨t',rfl⟩:=ry;exact PySem.EqMixed.eq_int_str (A6 I q (by simp))
  |_=>exact absurd (show false=true from hs) Bool.false_ne_true
 |str i=>
  obtain ⟨t,rfl⟩:=rx
  cases y with
  |non=>cases ry;exact PySem.EqNone.eq_str_none (A6 I q (by simp))
  |bl j=>cases ry;exact PySem.EqMixed.eq_str_bool (A6 I q (by simp))
  |int j=>obtain ⟨t',rfl⟩:=ry;exact PySem.EqMixed.eq_str_int (A6 I q (by simp))
  |str j=>obtain ⟨t',rfl⟩:=ry;exact eq_str (A6 I q dec_str)
  |_=>exact absurd (show false=true from hs) Bool.false_ne_true
 |byt i=>
  obtain ⟨t,rfl⟩:=rx
  cases y with
  |byt j=>obtain ⟨t',rfl⟩:=ry;exact PySem.W.eq_bytes (A6 I q dec_byt)
  |_=>exact absurd (show false=true from hs) Bool.false_ne_true
 |_=>cases y<;> exact absurd (show false=true from hs) Bool.false_ne_true
theorem op_ne:OpR X (compareOp .NotEq) rNe:=by
 intro pins s σ H x y v u Q I rx ry h
 obtain ⟨hs,q⟩:=h
 cases x with
 |non=>
  cases rx
  cases y with
  |non=>cases ry;exact PySem.EqNone.ne_none_none (A6 I q (by simp))
  |bl j=>cases ry;exact PySem.EqNone.ne_none_bool (A6 I q (by simp))
  |int j=>obtain ⟨t',rfl⟩:=ry;exact PySem.EqNone.ne_none_int (A6 I q (by simp))
  |str j=>obtain ⟨t',rfl⟩:=ry;exact PySem.EqNone.ne_none_str (A6 I q (by simp))
  |_=>exact absurd (show false=true from hs) Bool.false_ne_true
 |bl i=>
  cases rx
  cases y with
  |non=>cases ry;exact PySem.EqNone.ne_bool_none (A6 I q (by simp))
  |bl j=>cases ry;exact ne_bool (A6 I q (congrArg not dec_bl))
  |str j=>obtain ⟨t',rfl⟩:=ry;exact PySem.EqMixed.ne_bool_str (A6 I q (by simp))
  |_=>exact absurd (show false=true from hs) Bool.false_ne_true
 |int i=>
  obtain ⟨t,rfl⟩:=rx
  cases y with
  |non=>cases ry;exact PySem.EqNone.ne_int_none (A6 I q (by simp))
  |int j=>obtain ⟨t',rfl⟩:=ry;exact ne_int (A6 I q (congrArg not dec_int))
  |str j=>obtain ⟨t',rfl⟩:=ry;exact PySem.EqMixed.ne_int_str (A6 I q (by simp))
  |_=>exact absurd (show false=true from hs) Bool.false_ne_true
 |str i=>
  obtain ⟨t,rfl⟩:=rx
  cases y with
  |non=>cases ry;exact PySem.EqNone.ne_str_none (A6 I q (by simp))
  |bl j=>cases ry;exact PySem.EqMixed.ne_str_bool (A6 I q (by simp))
  |int j=>obtain ⟨t',rfl⟩:=ry;exact PySem.EqMixed.ne_str_int (A6 I q (by simp))
  |str j=>obtain ⟨t',rfl⟩:=ry;exact ne_str (A6 I q (congrArg not dec_str))
  |_=>exact absurd (show false=true from hs) Bool.false_ne_true
 |byt i=>
  obtain ⟨t,rfl⟩:=rx
  cases y with
  |byt j=>obtain ⟨t',rfl⟩:=ry;exact PySem.W.ne_bytes (A6 I q (congrArg not dec_byt))
  |_=>exact absurd (show false=true from hs) Bool.false_ne_true
 |_=>cases y<;> exact absurd (show false=true from hs) Bool.false_ne_true
theorem op_lt:OpR X (compareOp .Lt) (rI0 fun i j=> .bl (decide (i<j))):=opB0 fun _ _ _ _ _ _ _ q=>lt_int q
theorem op_le:OpR X (compareOp .LtE) (rI0 fun i j=> .bl (decide (i≤j))):=opB0 fun _ _ _ _ _ _ _ q=>le_int q
theorem op_gt:OpR X (compareOp .Gt) (rI0 fun i j=> .bl (decide (j<i))):=opB0 fun _ _ _ _ _ _ _ q=>gt_int q
theorem op_isN:OpR X (compareOp .Is) (fun x y H Q=>y= .non∧Q (.bl (decide (x= .non))) H):=by
 intro pins s σ H x y v u Q I rx ry h
 obtain ⟨rfl,q⟩:=h
 cases ry
 refine is_none_gen (A6 I q ?_)
 cases x<;> first
  |(cases rx;rfl)
  |(obtain ⟨t,rfl⟩:=rx;rfl)
theorem As (b:Expr) {op:CmpOp} (h:op≠ .In:=by decide) (h2:op≠ .NotIn:=by decide):behindInMarks op b=false:=by
 have e1:(op==CmpOp.In)=false:=by cases op<;> first|rfl|exact absurd rfl h
 have e2:(op==CmpOp.NotIn)=false:=by cases op<;> first|rfl|exact absurd rfl h2
 cases b<;> simp [behindInMarks,e1,e2]
theorem Bk {op:CmpOp} {r:R2} (ho:OpR X (compareOp op) r) (ha:PE X a ta) (hb:PE X b tb) (hm:behindInMarks op b=false):PE X (.Compare a [op] [b] pos) (tOp r ta tb):=by
 intro pins s σ H Q I h
 exact wpAny_Compare1 (binT ha hb I h fun v u s2 x y H2 I2 rx ry q=>ho pins s2 σ H2 x y v u Q I2 rx ry q) hm
def tTest (t:TE):TT:=fun σ H Q=>t σ H fun x H'=>BlP x H' Q
theorem Ar {op:CmpOp} {r:R2} (ho:OpR X (compareOp op) r) (ha:PE X a ta) (hb:PE X b tb) (hm:behindInMarks op b=false):PT X (.Compare a [op] [b] pos) (tTest (tOp r ta tb)):=by
 intro pins s σ H Q I h
 refine wpAny_isTrue_Compare1 (thn (ha pins s σ H _ I h) fun v s1 ⟨x,H1,I1,r1,q1⟩=>thn (hb pins s1 σ H1 _ I1 q1) fun u s2 ⟨y,H2,I2,r2,q2⟩=>
  thn (ho pins s2 σ H2 x y v u _ I2 r1 r2 q2) fun c s3 ⟨z,H3,I3,r3,k,e,q3⟩=> ?_) hm
 subst e
 cases r3
 exact wpAny_truthy_bool ⟨H3,I3,q3⟩
def tChain (r r':R2) (ta tb tc:TE):TE:=fun σ H Q=>ta σ H fun x H1=>tb σ H1 fun y H2=>r x y H2 fun z H3=>∃k,z= .bl k∧
 (if k=true then tc σ H3 fun w' H4=>r' y w' H4 Q else Q (.bl false) H3)
theorem pe_chain {op op':CmpOp} {r r':R2} (ho:OpR X (compareOp op) r) (ho':OpR X (compareOp op') r') (ha:PE X a ta) (hb:PE X b tb) (hc:PE X c tc)
  (hm:lastMarks [op,op'] [b,c]=false:=by with_unfolding_all rfl):PE X (.Compare a [op,op'] [b,c] pos) (tChain r r' ta tb tc):=by
 intro pins s σ H Q I h
 refine Compare_chain (thn (ha pins s σ H _ I h) fun v s1 ⟨x,H1,I1,r1,q1⟩=>chain_link (thn (hb pins s1 σ H1 _ I1 q1) fun u s2 ⟨y,H2,I2,r2,q2⟩=>
  thn (ho pins s2 σ H2 x y v u _ I2 r1 r2 q2) fun d s3 ⟨z,H3,I3,r3,k,e,q3⟩=> ?_)) hm
 subst e
 cases r3
 refine wpAny_truthy_bool ?_
 cases k with
 |false=>exact ite_ff ⟨.bl false,H3,I3,rfl,q3⟩
 |true=>exact ite_tt (chain_last (thn (hc pins s3 σ H3 _ I3 q3) fun w' s4 ⟨z',H4,I4,r4,q4⟩=>ho' pins s4 σ H4 y z' u w' Q I4 r2 r4 q4))
theorem pt_chain {op op':CmpOp} {r r':R2} (ho:OpR X (compareOp op) r) (ho':OpR X (compareOp op') r') (ha:PE X a ta) (hb:PE X b tb) (hc:PE X c tc)
  (hm:lastMarks [op,op'] [b,c]=false:=by with_unfolding_all rfl):PT X (.Compare a [op,op'] [b,c] pos) (tTest (tChain r r' ta tb tc)):=by
 intro pins s σ H Q I h
 refine isTrue_chain (thn (ha pins s σ H _ I h) fun v s1 ⟨x,H1,I1,r1,q1⟩=>test_link (thn (hb pins s1 σ H1 _ I1 q1) fun u s2 ⟨y,H2,I2,r2,q2⟩=>
  thn (ho pins s2 σ H2 x y v u _ I2 r1 r2 q2) fun d s3 ⟨z,H3,I3,r3,k,e,q3⟩=> ?_)) hm
 subst e
 cases r3
 refine wpAny_truthy_bool ?_
 cases k with
 |false=>
  obtain ⟨k',e',q'⟩:=q3
  cases e'
  exact ite_ff ⟨H3,I3,q'⟩
 |true=>
  refine ite_tt (test_last (thn (hc pins s3 σ H3 _ I3 q3) fun w' s4 ⟨z',H4,I4,r4,q4⟩=>thn (ho' pins s4 σ H4 y z' u w' _ I4 r2 r4 q4) fun d' s5 ⟨z2,H5,I5,r5,k2,e2,q5⟩=> ?_))
  subst e2
  cases r5
  exact wpAny_truthy_bool ⟨H5,I5,q5⟩
theorem line63:(sizeLine:Nat)<2 ^ 63:=by rw [sizeLine_eq];decide
theorem op_add_str:OpR X (binaryOp .Add) (fun x y H Q=>∃i j,x= .str i∧y= .str j∧i.length+j.length≤sizeLine∧Q (.str (i++j)) H):=by
 intro pins s σ H x y v u Q I rx ry h
 obtain ⟨i,j,rfl,rfl,hz,q⟩:=h
 obtain ⟨t,rfl⟩:=rx
 obtain ⟨t',rfl⟩:=ry
 exact add_str (fun t' tk=>⟨.str (i++j),H,I.tok _,⟨_,rfl⟩,q⟩) hz
theorem Ce {x:V} {us:List Value} (r:Vals [x] us):∃u,us=[u]∧RelV x u:=by
 cases r with
 |cons r1 r2=>cases r2;exact ⟨_,rfl,r1⟩
theorem vals2 {x y:V} {us:List Value} (r:Vals [x,y] us):∃u w',us=[u,w']∧RelV x u∧RelV y w':=by
 cases r with
 |cons r1 r2=>
  cases r2 with
  |cons r3 r4=>cases r4;exact ⟨_,_,rfl,r1,r3⟩
theorem call_max2 (hc:X.calm=true):By X (.builtin "max") (fun xs H Q=>∃i j,xs=[.int i,.int j]∧Q (.int (if j > i then j else i)) H):=by
 intro pins s σ H xs us Q I r h
 obtain ⟨i,j,rfl,q⟩:=h
 obtain ⟨u,w',rfl,⟨t,rfl⟩,⟨t',rfl⟩⟩:=vals2 r
 refine max_two_ints (I.ok.hd hc) fun h' tk k=>⟨_,H,I.kept k,?_,q⟩
 by_cases hj:j > i
 ·rw [if_pos hj,if_pos hj];exact ⟨_,rfl⟩
 ·rw [if_neg hj,if_neg hj];exact ⟨_,rfl⟩
theorem call_min2 (hc:X.calm=true):By X (.builtin "min") (fun xs H Q=>∃i j,xs=[.int i,.int j]∧Q (.int (if j<i then j else i)) H):=by
 intro pins s σ H xs us Q I r h
 obtain ⟨i,j,rfl,q⟩:=h
 obtain ⟨u,w',rfl,⟨t,rfl⟩,⟨t',rfl⟩⟩:=vals2 r
 refine min_two_ints (I.ok.hd hc) fun h' tk k=>⟨_,H,I.kept k,?_,q⟩
 by_cases hj:j<i
 ·rw [if_pos hj,if_pos hj];exact ⟨_,rfl⟩
 ·rw [if_neg hj,if_neg hj];exact ⟨_,rfl⟩
theorem call_int1:By X (.type "int") (fun xs H Q=>(∃i,xs=[.int i]∧Q (.int i) H)∨∃k,xs=[.bl k]∧Q (.int (if k then 1 else 0)) H):=by
 intro pins s σ H xs us Q I r h
 rcases h with ⟨i,rfl,q⟩|⟨k,rfl,q⟩
 ·obtain ⟨u,rfl,t,rfl⟩:=Ce r
  exact call_int_int ⟨.int i,H,I,⟨_,rfl⟩,q⟩
 ·obtain ⟨u,rfl,r1⟩:=Ce r
  cases r1
  exact call_int_bool ⟨.int (if k then 1 else 0),H,I.tok _,⟨_,rfl⟩,q⟩
end
end L2
namespace L2
open PySem PySem.Spec PyProof.Rows
structure ObjM (h:Heap) (x dx C:Addr) (mA:Str→Option Value):Prop where
 obj:h.get? x=some (PySem.W.instObj C dx)
 ns:h.Ns1 dx mA
 ne:dx≠x
theorem lookIn_ns {h:Heap} {dx:Addr} {mA:Str→Option Value} (n:h.Ns1 dx mA):∃od,h.get? dx=some od∧∀name,PySem.W.lookIn name od=some (mA name):=by
 obtain ⟨o,es,ep,ho,hd,hk,_,hm⟩:=n
 refine ⟨o,ho,fun name=> ?_⟩
 have e:=hm name
 unfold nsFind findBy at e
 rw [←Array.find?_toList] at e
 unfold PySem.W.lookIn
 rw [hd]
 dsimp only
 split
 ·rename_i y q
  rw [q] at e
  exact congrArg some e
 ·rename_i q
  rw [q] at e
  have a:es.toList.any (·.refKey)=false:=by
   rw [List.any_eq_false]
   intro y hy
   obtain ⟨z,t,hkey⟩:=hk y (Array.mem_toList_iff.mp hy)
   simp [DictEntry.refKey,hkey]
  have a':¬es.toList.any (·.refKey)=true:=by rw [a];exact Bool.false_ne_true
  rw [if_neg a']
  exact congrArg some e
theorem ObjM.look {h:Heap} {x dx C:Addr} {mA:Str→Option Value} (I:ObjM h x dx C mA):∃od,PySem.W.InstAt h x (PySem.W.instObj C dx) C (some od)∧∀name,PySem.W.lookIn name od=some (mA name):=
 let ⟨od,ho,hl⟩:=lookIn_ns I.ns
 ⟨od,⟨I.obj,rfl,rfl,ho⟩,hl⟩
theorem RelO.some_of {v:V} {o:Option Value} (r:RelO (some v) o):∃u,o=some u∧RelV v u:=by
 cases o with
 |none=>exact (show False from r).elim
 |some u=>exact ⟨u,rfl,r⟩
section
variable {P:Program} {w:World} {H H':Hp} {h h':Heap} {a C dx:Addr} {fs fs':List (Str×V)}
theorem ins_get (hok:HOk P w H h) (e:H a=some (.ins C dx fs)):∃mA,ObjM h a dx C mA∧(∀f,RelO (fs.lookup f) (mA f))∧PySem.Within mA (fs.map (·.1))∧fs.length≤1000∧H dx=some (.own a):=by
 obtain ⟨d,z,ne,ob,mA,n,r,q⟩:=(show ObjOk P w H h a (.ins C dx fs) from hok a _ e)
 exact ⟨mA,⟨ob,n,ne⟩,r,q,z,d⟩
end
structure Cls (K:PySem.W.Frag) (C:Addr):Prop where
 pg:PySem.W.plainGet K C Str.empty=true
 hd:PySem.W.hasDictIn K C=true
 po:PySem.W.plainOver K C=true
 sa:PySem.W.findIn K (.ref C) "__setattr__"=some (some (.builtin "object.__setattr__"))
theorem Cls.get {K:PySem.W.Frag} {C:Addr} (c:Cls K C) (f:Str):PySem.W.plainGet K C f=true:=c.pg
section
variable {X:Cx} {pins:List (Addr×Obj)} {σ:St} {H:Hp} {s:Shared} {A:Around} {E:Value→Shared→Prop} {Q:Value→Shared→Prop} {c:Value} {b:Bool}
inductive TyOf (K:PySem.W.Frag) (H:Hp):V→Value→Prop where
 |non:TyOf K H .non (.type "NoneType")
 |bl (x:Bool):TyOf K H (.bl x) (.type "bool")
 |int (i:Int):TyOf K H (.int i) (.type "int")
 |str (x:Str):TyOf K H (.str x) (.type "str")
 |flt (x:UInt64):TyOf K H (.flt x) (.type "float")
 |lst {a:Addr} {xs:List V} (e:H a=some (.lst xs)):TyOf K H (.ref a) (.type "list")
 |frz {a:Addr} {o:Obj} {xs:List V} (e:H a=some (.frz o (.lst xs))):TyOf K H (.ref a) (.type "list")
 |tup {a:Addr} {xs:List V} (e:H a=some (.tup xs)):TyOf K H (.ref a) (.type "tuple")
 |dK {a:Addr} {kvs:List (Key×V)} (e:H a=some (.dK kvs)):TyOf K H (.ref a) (.type "dict")
 |dT {a:Addr} {kvs:List (List Key×V)} (e:H a=some (.dT kvs)):TyOf K H (.ref a) (.type "dict")
 |ins {a C dx:Addr} {fs:List (Str×V)} (e:H a=some (.ins C dx fs)) (cl:Cls K C) (ha:PySem.W.findIn K (.ref C) "__class__"=some (some (.builtin "object.__class__")))
  (hn:PySem.W.specialIn K (.builtin "object.__class__") "__get__"=some (some (.builtin "getset_descriptor.__get__"))) (htk:PySem.W.takesIn K (.builtin "object.__class__")=some true)
  (hm:PySem.W.mroIn K C (.type "object")=some true):TyOf K H (.ref a) (.ref C)
theorem isinst_ok {x:V} {u t:Value} (I:Inv X pins σ H s) (rx:RelV x u) (ty:TyOf X.K H x t) (e:PySem.W.kitOne X.K t c=some b) (h:∀tk,Q (.bool b) {s with toks:=tk}):
  wpAny (model X.prog X.w) A (call (.builtin "isinstance") [u,c]) Q E s:=by
 cases ty with
 |non=>cases (show u=Value.none from rx);exact PySem.W.kia_one PySem.W.kitx_none I.kIn True.intro e (fun z=>nomatch z) h
 |bl y=>cases (show u=Value.bool y from rx);exact PySem.W.kia_one PySem.W.kitx_bool I.kIn True.intro e (fun z=>nomatch z) h
 |int i=>obtain ⟨t,q⟩:=(show ∃t,u=Value.int i t from rx);cases q;exact PySem.W.kia_one PySem.W.kitx_int I.kIn True.intro e (fun z=>nomatch z) h
 |str y=>obtain ⟨t,q⟩:=(show ∃t,u=Value.str y t from rx);cases q;exact PySem.W.kia_one PySem.W.kitx_str I.kIn True.intro e (fun z=>nomatch z) h
 |flt y=>obtain ⟨t,q⟩:=(show ∃t,u=Value.float y t from rx);cases q;exact PySem.W.kia_one PySem.W.kitx_float I.kIn True.intro e (fun z=>nomatch z) h
 | @lst a xs ea=>
  cases (show u=Value.ref a from rx)
  obtain ⟨_,_,n,_,h1⟩:=(show ObjOk X.prog X.w H s.heap a (.lst xs) from I.hok a _ ea)
  exact PySem.W.kia_one PySem.W.kitx_list I.kIn ⟨_,h1,rfl⟩ e (fun z=>nomatch z) h
 | @frz a ob xs ea=>
  cases (show u=Value.ref a from rx)
  obtain ⟨_,_,_,n,_,h1⟩:=(show ObjOk X.prog X.w H s.heap a (.frz ob (.lst xs)) from I.hok a _ ea)
  exact PySem.W.kia_one PySem.W.kitx_list I.kIn ⟨_,h1,rfl⟩ e (fun z=>nomatch z) h
 | @tup a xs ea=>
  cases (show u=Value.ref a from rx)
  obtain ⟨_,_,_,p⟩:=(show ObjOk X.prog X.w H s.heap a (.tup xs) from I.hok a _ ea)
  obtain ⟨o,h1,h2,_⟩:=p
  exact PySem.W.kia_one PySem.W.kitx_tuple I.kIn ⟨o,h1,h2⟩ e (fun z=>nomatch z) h
 | @dK a kvs ea=>
  cases (show u=Value.ref a from rx)
  obtain ⟨_,_,vs,_,p⟩:=(show ObjOk X.prog X.w H s.heap a (.dK kvs) from I.hok a _ ea)
  obtain ⟨o,es,ep,h1,h2,_⟩:=p
  exact PySem.W.kia_one PySem.W.kitx_dict I.kIn ⟨o,h1,h2.1⟩ e (fun z=>nomatch z) h
 | @dT a kvs ea=>
  cases (show u=Value.ref a from rx)
  obtain ⟨_,_,xs,_,o,es,ep,h1,h2,_⟩:=(show ObjOk X.prog X.w H s.heap a (.dT kvs) from I.hok a _ ea)
  exact PySem.W.kia_one PySem.W.kitx_dict I.kIn ⟨o,h1,h2.1⟩ e (fun z=>nomatch z) h
 | @ins a C dx fs ea cl ha hn htk hm=>
  cases (show u=Value.ref a from rx)
  obtain ⟨mA,O,_⟩:=ins_get I.hok ea
  obtain ⟨od,J,_⟩:=O.look
  exact PySem.W.kia_one (PySem.W.kitx_own (cl.get _) cl.hd ha hn htk hm) I.kIn J e (fun z=>nomatch z) h
end
end L2
namespace L2
open PySem PySem.Spec PyProof.Rows
structure Room (k:Nat) (A:Around):Prop where
 hd:A.handled=none
 dp:A.depth+3 * k+5<recursionLimit
 un:A.units+16 * k+200<cLine
 gd:A.guards=some []
theorem Room.mono {j k:Nat} {A:Around} (r:Room k A) (h:j≤k):Room j A:=⟨r.hd,by have:=r.dp;omega,by have:=r.un;omega,r.gd⟩
theorem Room.deeper {k:Nat} {A:Around} (r:Room (k+1) A) (env:Env):Room k (A.deeper env):=
 ⟨r.hd,by have:=r.dp;show A.depth+1+3 * k+5<_;omega,by have:=r.un;show A.units+3+16 * k+200<_;omega,by show pushGuards [] A.guards=some [];rw [r.gd];rfl⟩
theorem Room.depth {k:Nat} {A:Around} (r:Room k A):A.depth<recursionLimit:=by have:=r.dp;omega
theorem Room.units {k:Nat} {A:Around} (r:Room k A):A.units+64<cLine:=by have:=r.un;omega
theorem Room.units0 {k:Nat} {A:Around} (r:Room k A):A.units<cLine:=by have:=r.un;omega
def tNil:TA:=fun _ H Q=>Q [] H
def tCons (ta:TE) (tr:TA):TA:=fun σ H Q=>ta σ H fun x H1=>tr σ H1 fun xs H2=>Q (x::xs) H2
section
variable {X:Cx} {e:Expr} {es:List Expr} {te:TE} {t:TA} {pos:Pos}
theorem Ac:PA X [] tNil:=fun _ _ _ _ H Q I h=>Calls.spliced_nil ⟨[],H,I,.nil,h⟩
theorem Aa (ha:PE X e te) (hr:PA X es t) (hs:starEach (e::es) X.env=(false,eval e X.env)::starEach es X.env:=by rfl):PA X (e::es) (tCons te t):=by
 intro pos pins s σ H Q I h
 rw [hs]
 show wpAny _ _ (spliced ((false,eval e X.env)::backTo pos (starEach es X.env))) _ _ s
 refine Calls.spliced_cons (thn (ha pins s σ H _ I h) fun u s1 ⟨x,H1,I1,r1,q1⟩=> ?_)
 exact thn (hr pos pins s1 σ H1 _ I1 q1) fun us s2 ⟨xs,H2,I2,r2,q2⟩=>⟨x::xs,H2,I2,.cons r1 r2,q2⟩
def tTup (t:TA):TE:=fun σ H Q=>t σ H fun xs H1=>xs.length≤sizeLine∧∀p,H1 p=none→Q (.ref p) (upd H1 p (.tup xs))
def tLst (t:TA):TE:=fun σ H Q=>t σ H fun xs H1=>xs.length≤sizeLine∧∀p,H1 p=none→Q (.ref p) (upd H1 p (.lst xs))
theorem Bn {x1} (h:PA X es t):PE X (.Tuple es x1 pos) (tTup t):=by
 intro pins s σ H Q I hq
 refine wpAny_Tuple_spliced (thn (h pos pins s σ H _ I hq) fun us s1 ⟨xs,H1,I1,r,z,q⟩=>⟨by rw [←r.length];exact z,?_⟩)
 have hf:H1 s1.heap.objs.size=none:=I1.hok.fresh (Nat.le_refl _)
 refine ⟨.ref s1.heap.objs.size,upd H1 s1.heap.objs.size (.tup xs),I1.laid (t':=s1.toks) (fun b u e=>Heap.get?_push_of_some _ e) (Nat.le_refl _) ?_,rfl,q _ hf⟩
 exact ⟨z,us,r,IsTupN.new _ _⟩
theorem Bm (h:PA X es t):PE X (.List es pos) (tLst t):=by
 intro pins s σ H Q I hq
 refine wpAny_List_spliced (thn (h pos pins s σ H _ I hq) fun us s1 ⟨xs,H1,I1,r,z,q⟩=>⟨by rw [←r.length];exact z,?_⟩)
 have hf:H1 s1.heap.objs.size=none:=I1.hok.fresh (Nat.le_refl _)
 refine ⟨.ref s1.heap.objs.size,upd H1 s1.heap.objs.size (.lst xs),I1.laid (t':=s1.toks) (fun b u e=>Heap.get?_push_of_some _ e) (Nat.le_refl _) ?_,rfl,q _ hf⟩
 exact ⟨z,us,0,r,Heap.get?_push_size _ rfl⟩
end
abbrev Sp:=List V→Hp→VK→XK→Prop
abbrev CXT:=List Env→Hp→Shared→XK→Value→Shared→Prop
structure Env0 (P:Program) (w:World) (K:PySem.W.Frag) (mg:Str→Option Value) (base:Heap) (A:Around) (outer:List Env) (s:Shared) (H:Hp):Prop where
 frames:A.frames=some outer
 mod:Mod K mg base
 bs:∀b o,base.get? b=some o→s.heap.get? b=some o∧H b=none
 bsz:base.objs.size≤s.heap.objs.size
 funs:s.heap.FunFrames base outer
 frf:∀b∈frs outer,H b=none
 hok:HOk P w H s.heap
 bare:AllBare s.gens
def CE (outer:List Env) (P:Program) (w:World) (H:Hp) (s:Shared) (Q:VK) (u:Value) (s':Shared):Prop:=
 ∃v H',s'.os=s.os∧AllBare s'.gens∧Un (frs outer) [] H H' s.heap s'.heap∧HOk P w H' s'.heap∧RelV v u∧Q v H'
def CR (CX:CXT) (outer:List Env) (P:Program) (w:World) (H:Hp) (s:Shared) (Q:VK) (E:XK) (r:Result) (s':Shared):Prop:=
 match r with
 | .ok (.ret u)=>CE outer P w H s Q u s'
 | .ok _=>False
 | .error e=>CX outer H s E e s'
structure FnOk (P:Program) (w:World) (K:PySem.W.Frag) (mg:Str→Option Value) (base:Heap) (CX:CXT) (k:Nat) (f:Addr) (fd:FuncData) (ps:List Str) (sp:Sp):Prop where
 len:∀vs H Q E,sp vs H Q E→vs.length=ps.length
 run:∀(A:Around) (outer:List Env) (s:Shared) (H:Hp) (args:Args) (us:List Value) (vs:List V) (Q:VK) (E:XK),Room k A→Env0 P w K mg base A outer s H→BindsTo s fd args (ps.zip us)→Vals vs us→sp vs H Q E→
  codeAny (model P w) A (.call (.ref f) args) (CR CX outer P w H s Q E) s
theorem FnOk.mono {P:Program} {w:World} {K:PySem.W.Frag} {mg:Str→Option Value} {base:Heap} {CX:CXT} {j k:Nat} {f:Addr} {fd:FuncData} {ps:List Str} {sp:Sp} (F:FnOk P w K mg base CX j f fd ps sp) (h:j≤k):
  FnOk P w K mg base CX k f fd ps sp:=⟨F.len,fun A outer s H args us vs Q E hr=>F.run A outer s H args us vs Q E (hr.mono h)⟩
section
variable {X:Cx} {pins:List (Addr×Obj)} {σ:St} {H:Hp} {s s':Shared}
theorem Inv.env0 (I:Inv X pins σ H s):Env0 X.prog X.w X.K X.mg X.base X.A X.stack s H:=
 ⟨I.ok.frames,I.ok.mod,I.bs,Nat.le_trans I.ok.bsz I.sz,I.stack,I.stkFree,I.hok,I.bare⟩
theorem Inv.after {Q:VK} {u:Value} (I:Inv X pins σ H s) (h:CE X.stack X.prog X.w H s Q u s'):EP X pins σ Q u s':=by
 obtain ⟨v,H',os,bare,un,hok,r,q⟩:=h
 obtain ⟨hh,g,d,t,os'⟩:=s'
 obtain rfl:os'=s.os:=os
 exact ⟨v,H',I.call (h':=hh) (g':=g) (d':=d) (t':=t) (ch:=[]) un hok bare (fun b z=>absurd z (by simp)),r,q⟩
end
def tCall (sp:Sp) (dvs:List V) (E:XK) (t:TA):TE:=fun σ H Q=>t σ H fun vs H1=>sp (vs++dvs) H1 Q E
def Binds (K:PySem.W.Frag) (fd:FuncData) (ps:List Str) (ds:List Value):Prop:=
 ∀(s:Shared) (us:List Value),K.In s.heap→(us++ds).length=ps.length→BindsTo s fd ⟨us,[]⟩ (ps.zip (us++ds))
theorem Binds.all {K:PySem.W.Frag} {fd:FuncData} {ps:List Str} (h:∀us:List Value,us.length=ps.length→bindArgs fd ⟨us,[]⟩=pure (ps.zip us)):Binds K fd ps []:=fun s us _ hl=>by
 rw [List.append_nil] at hl ⊢
 exact .of_eq (h us hl)
def Passes (CX:CXT) (X:Cx) (E:XK):Prop:=∀(pins:List (Addr×Obj)) (σ:St) (H:Hp) (s:Shared) (e:Value) (s':Shared),Inv X pins σ H s→CX X.stack H s E e s'→X.xe e s'
section
variable {X:Cx} {CX:CXT} {k:Nat} {f C:Addr} {fd:FuncData} {ps:List Str} {sp:Sp} {dvs:List V} {ds:List Value} {E:XK} {x m:Str} {p pos apos:Pos} {e o:Expr} {es:List Expr} {ta:TE} {t:TA}
theorem run_fn {pins:List (Addr×Obj)} {σ:St} {H:Hp} {s:Shared} {Q:VK} {us:List Value} {vs:List V} (F:FnOk X.prog X.w X.K X.mg X.base CX k f fd ps sp) (hr:Room k X.A) (hb:Binds X.K fd ps ds) (hd:Vals dvs ds) (hx:Passes CX X E)
  (I:Inv X pins σ H s) (r:Vals vs us) (h:sp (vs++dvs) H Q E):wpAny (model X.prog X.w) X.A (call (.ref f) us) (EP X pins σ Q) X.xe s:=by
 have r2:Vals (vs++dvs) (us++ds):=r.append hd
 have hl:(us++ds).length=ps.length:=by rw [←r2.length];exact F.len _ _ _ _ h
 refine wpAny_call (codeAny_mono (F.run X.A X.stack s H ⟨us,[]⟩ (us++ds) (vs++dvs) Q E hr I.env0 (hb s us I.kIn hl) r2 h) fun r s' hq=> ?_)
 cases r with
 |error e=>exact hx pins σ H s e s' I hq
 |ok fl=>
  cases fl with
  |ret u=>exact I.after hq
  |next=>exact False.elim hq
  |brk=>exact False.elim hq
  |cont=>exact False.elim hq
theorem Ai (F:FnOk X.prog X.w X.K X.mg X.base CX k f fd ps sp) (hr:Room k X.A) (hg:Gl X x) (hm:X.mg x=some (.ref f)) (hk:PySem.W.keepIn X.K (.ref f)=true) (hb:Binds X.K fd ps ds) (hd:Vals dvs ds) (hx:Passes CX X E)
  (ha:PA X (e::es) t) (hdb:(x==("__debug__":Str))=false:=by decide) (he:starEach (e::es) X.env=(false,eval e X.env)::starEach es X.env:=by rfl) (hpl:(backTo pos (starEach es X.env)).any (·.1)=false:=by rfl):
  PE X (.Call (.Name x p) (e::es) [] pos) (tCall sp dvs E t):=by
 intro pins s σ H Q I h
 refine wpAny_Call_Name_kw (ld_glob I hg hm ?_ hdb)
 refine PySem.W.callWith_K (h₀:=X.base) I.ok.mod.kin hk (thn (ha pos pins s σ H _ I h) fun us s1 ⟨vs,H1,I1,r,q⟩=>⟨I1.kIn,?_⟩) he hpl
 exact run_fn F hr hb hd hx I1 r q
end
section
variable {X:Cx} {CX:CXT} {k:Nat} {f C:Addr} {fd:FuncData} {ps ks:List Str} {sp:Sp} {E:XK} {x m:Str} {p pos apos kpos:Pos} {e o:Expr} {es:List Expr} {kws:List Keyword} {te ta:TE} {t tk:TA} {nm:Option Str}
variable {g:List Value→List Value→List Value} {gV:List V→List V→List V}
end
structure Aw (N P:List Str) (sc:Scope):Prop where
 kind:sc.kind= .function
 co:sc.isCoroutine=false
 gen:sc.isGenerator=false
 nd:N.Nodup
 pre:N.take P.length=P
 par:∀x∈P,sc.names.lookup x=some .local∨sc.names.lookup x=some .cell
 nofree:∀y∈sc.names,y.2≠ .free
theorem bindL_out {kindOf:Str→Option NameKind} {x:Str}:∀{binds:List (Str×Value)} {m:Str→Option Value},(∀v,(x,v) ∉ binds)→bindL kindOf binds m x=m x
 |[],_,_=>rfl
 |(n,v)::r,m,h=>by
  unfold bindL
  rw [bindL_out fun w hw=>h w (List.mem_cons_of_mem _ hw)]
  split
  ·have:x≠n:=by rintro rfl;exact h v List.mem_cons_self
   simp [this]
  ·rfl
theorem bindC_out {kindOf:Str→Option NameKind} {x:Str}:∀{binds:List (Str×Value)} {m:Str→Option Value},(∀v,(x,v) ∉ binds)→bindC kindOf binds m x=m x
 |[],_,_=>rfl
 |(n,v)::r,m,h=>by
  unfold bindC
  rw [bindC_out fun w hw=>h w (List.mem_cons_of_mem _ hw)]
  split
  ·rfl
  ·have:x≠n:=by rintro rfl;exact h v List.mem_cons_self
   simp [this]
theorem bindL_get {kindOf:Str→Option NameKind} {x:Str} {v:Value}:∀{P:List Str} {vs:List Value} {i:Nat} {m:Str→Option Value},P.Nodup→P[i]? =some x→vs[i]? =some v→kindOf x=some .local→
  bindL kindOf (P.zip vs) m x=some v
 |[],_,_,_,_,h,_,_=>by simp at h
 |_::_,[],_,_,_,_,h,_=>by simp at h
 |p::P,w::vs,0,m,nd,h1,h2,hk=>by
  simp at h1 h2;subst h1;subst h2
  show bindL kindOf ((p,w)::P.zip vs) m p=_
  unfold bindL
  rw [bindL_out fun v hv=>(List.nodup_cons.mp nd).1 (List.of_mem_zip hv).1,if_pos hk]
  simp
 |p::P,w::vs,i+1,m,nd,h1,h2,hk=>by
  show bindL kindOf ((p,w)::P.zip vs) m x=_
  unfold bindL
  exact bindL_get (i:=i) (List.nodup_cons.mp nd).2 (by simpa using h1) (by simpa using h2) hk
theorem bindC_get {kindOf:Str→Option NameKind} {x:Str} {v:Value}:∀{P:List Str} {vs:List Value} {i:Nat} {m:Str→Option Value},P.Nodup→P[i]? =some x→vs[i]? =some v→kindOf x≠some .local→
  bindC kindOf (P.zip vs) m x=some v
 |[],_,_,_,_,h,_,_=>by simp at h
 |_::_,[],_,_,_,_,h,_=>by simp at h
 |p::P,w::vs,0,m,nd,h1,h2,hk=>by
  simp at h1 h2;subst h1;subst h2
  show bindC kindOf ((p,w)::P.zip vs) m p=_
  unfold bindC
  rw [bindC_out fun v hv=>(List.nodup_cons.mp nd).1 (List.of_mem_zip hv).1,if_neg hk]
  simp
 |p::P,w::vs,i+1,m,nd,h1,h2,hk=>by
  show bindC kindOf ((p,w)::P.zip vs) m x=_
  unfold bindC
  exact bindC_get (i:=i) (List.nodup_cons.mp nd).2 (by simpa using h1) (by simpa using h2) hk
def start (N:List Str) (vs:List V):St:=vs.map some++List.replicate (N.length - vs.length) none
def cxOf (CX:CXT) (P:Program) (w:World) (K:PySem.W.Frag) (mg:Str→Option Value) (base:Heap) (N:List Str) (qual:Str) (scope:Scope) (f:Addr) (cd:Value) (A:Around) (outer:List Env) (s:Shared) (H:Hp) (E:XK):Cx where
 prog:=P
 w:=w
 K:=K
 mg:=mg
 base:=base
 A:=A.deeper (envOfC qual scope s.heap.objs.size f cd)
 N:=N
 s₀:=s
 H₀:=H
 env:=envOfC qual scope s.heap.objs.size f cd
 outer:=outer
 stack:=envOfC qual scope s.heap.objs.size f cd::outer
 ex:=[]
 calm:=true
 fn:=fun _=>true
 pn:=[]
 xe:=fun e s'=>wpAny (model P w) (A.deeper (envOfC qual scope s.heap.objs.size f cd)) (leaving (envOfC qual scope s.heap.objs.size f cd) e) (fun _ s''=>CX outer H s E e s'') (fun e' s''=>CX outer H s E e' s'') s'
theorem cell_has {sc:Scope} {n:Nat} {x:Str} (h:sc.names.lookup x=some .cell):∃c,(cellsFrom n sc.names []).lookup x=some c:=by
 have q:=PySem.W.cellsFrom_some sc.names n [] (.inl h)
 exact Option.isSome_iff_exists.mp q
theorem inv_start {CX:CXT} {P:Program} {w:World} {K:PySem.W.Frag} {mg:Str→Option Value} {base:Heap} {N ps:List Str} {qual:Str} {scope:Scope} {f:Addr} {cd:Value} {A:Around} {outer:List Env} {s s1:Shared} {H:Hp} {E:XK} {us:List Value} {vs:List V}
  (S:Aw N ps scope) (hd:A.handled=none) (e0:Env0 P w K mg base A outer s H) (hl:vs.length=ps.length) (r:Vals vs us)
  (x:InCallC s s.heap.objs.size (bindL (envOfC qual scope s.heap.objs.size f cd).kindOf (ps.zip us) fun _=>none) (cellsFrom (s.heap.objs.size+1) scope.names []) (bindC (envOfC qual scope s.heap.objs.size f cd).kindOf (ps.zip us) fun _=>none) s1):
  Inv (cxOf CX P w K mg base N qual scope f cd A outer s H E) [] (start N vs) H s1:=by
 have hpl:ps.length≤N.length:=by have:=congrArg List.length S.pre;rw [List.length_take] at this;omega
 obtain ⟨h1,tk,rfl,hk⟩:=x.done
 have noA:∀b:Addr,b ∉ (cxOf CX P w K mg base N qual scope f cd A outer s H E).ex:=fun b z=>absurd (show b∈([]:List Addr) from z) (by simp)
 refine ⟨⟨e0.mod,S.kind,rfl,rfl,Nat.le_refl _,fun y z c h1 h2=> ?_,fun y hy=> ?_,fun y c _ h=> ?_,fun _=>hd,Around.frames_deeper e0.frames,.inr ⟨rfl,rfl⟩,fun b z=>absurd z (noA b),e0.bs,e0.bsz,fun b _ _=>noA b,fun b z=>absurd z (noA b),e0.funs,e0.frf⟩,
  rfl,e0.bare,Un.kept hk,⟨_,x.toInCall.ns,fun i y v h1 h2 h3=> ?_⟩,fun y c h=>⟨_,x.cell y c h⟩,e0.hok.fresh (Nat.le_refl _),fun y c h=> ?_,fun p hp=>absurd (show p∈([]:List (Addr×Obj)) from hp) (by simp),e0.hok.kept hk,?_⟩
 ·exact name_of_addr x.apart (PySem.mem_of_lookup h1) (PySem.mem_of_lookup h2)
 ·have hy:scope.names.lookup y=some .cell∨scope.names.lookup y=some .free:=hy
  rcases hy with hy|hy
  ·exact cell_has hy
  ·exact absurd rfl (S.nofree _ (PySem.mem_of_lookup hy))
 ·exact Nat.le_of_lt (x.above y c (PySem.mem_of_lookup h))
 ·have hi:i<vs.length:=by
   unfold start at h2
   by_cases hi:i<vs.length
   ·exact hi
   ·rw [List.getElem?_append_right (by simpa using hi)] at h2
    rw [List.getElem?_replicate] at h2
    split at h2<;> cases h2
  have ha:vs[i]? =some v:=by
   unfold start at h2
   rw [List.getElem?_append_left (by simpa using hi),List.getElem?_map] at h2
   cases e:vs[i]? with
   |none=>rw [e] at h2;cases h2
   |some a=>rw [e] at h2;cases h2;rfl
  obtain ⟨u,hu,rv⟩:=r.get ha
  have hp:ps[i]? =some y:=by
   rw [←S.pre,List.getElem?_take_of_lt (by omega)];exact h1
  have ndP:ps.Nodup:=by rw [←S.pre];exact S.nd.sublist (List.take_sublist _ _)
  refine ⟨u,rv,?_⟩
  rcases S.par y (List.mem_of_getElem? hp) with k|k
  ·exact .inl ⟨k,bindL_get ndP hp hu k⟩
  ·obtain ⟨c,e⟩:=cell_has (n:=s.heap.objs.size+1) k
   refine .inr ⟨.inl k,c,e,?_⟩
   have q:=x.cell y c e
   rw [bindC_get ndP hp hu (by show scope.names.lookup y≠_;rw [k];decide)] at q
   exact q
 ·exact e0.hok.fresh (Nat.le_of_lt (x.above y c (PySem.mem_of_lookup h)))
 ·unfold start
  show _=N.length
  rw [List.length_append,List.length_map,List.length_replicate]
  omega
theorem fn_of {CX:CXT} {P:Program} {w:World} {K:PySem.W.Frag} {mg:Str→Option Value} {base:Heap} {k:Nat} {f:Addr} {name qual:Str} {params:Arguments} {body:List Stmt} {scope:Scope} {dV kV doc pm cdv ct oc:Value} {an od:Option Addr}
  {osl:Array (Option Value)} {N ps:List Str} {sp:Sp} (lk:K.lookup f=some ⟨oc,od,.func (PySem.W.fnOf name qual params body scope dV kV doc pm an cdv ct),osl⟩) (hcd:PySem.W.codeIn K cdv qual=true) (S:Aw N ps scope)
  (len:∀vs H Q E,sp vs H Q E→vs.length=ps.length)
  (hbody:∀(A:Around) (outer:List Env) (s:Shared) (H:Hp) (vs:List V) (Q:VK) (E:XK),Room k (A.deeper (envOfC qual scope s.heap.objs.size f cdv))→sp vs H Q E→
   ∃t,PSs (cxOf CX P w K mg base N qual scope f cdv A outer s H E) body t∧t {nx:=fun _ H'=>Q .non H',rt:=Q} (start N vs) H):
  FnOk P w K mg base CX (k+1) f (PySem.W.fnOf name qual params body scope dV kV doc pm an cdv ct) ps sp:=by
 refine ⟨len,fun A outer s H args us vs Q E hr e0 hb r hsp=> ?_⟩
 have hl:=len _ _ _ _ hsp
 have KX:K.In s.heap:=e0.mod.kin.keeps fun b o e=>(e0.bs b o e).1
 have lim:s.heap.NoLimit:=e0.mod.nolimit.keeps fun b o e=>(e0.bs b o e).1
 have hkind:∀y∈ps.zip us,scope.names.lookup y.1=some .local∨(scope.names.lookup y.1=some .cell∧((cellsFrom (s.heap.objs.size+1) scope.names []).lookup y.1).isSome=true):=fun ⟨n,v⟩ hy=>by
  rcases S.par n (List.of_mem_zip hy).1 with q|q
  ·exact .inl q
  ·exact .inr ⟨q,PySem.W.cellsFrom_some _ _ _ (.inl q)⟩
 refine codeAny_call_function hr.depth (KX _ _ lk) rfl S.co S.gen rfl (PySem.W.codeRec_of KX hcd) (hb _ _ _ _ ?_)
 refine wpAny_newFunctionEnv_cells S.kind hkind fun env he s1 x=> ?_
 subst he
 refine ⟨lim.keeps x.toInCall.keep,codeAny_func ?_⟩
 obtain ⟨t,ht,hq⟩:=hbody A outer s H vs Q E (hr.deeper _) hsp
 have I:Inv (cxOf CX P w K mg base N qual scope f cdv A outer s H E) [] (start N vs) H s1:=inv_start S hr.hd e0 hl r x
 refine wpAny_mono (ht [] s1 (start N vs) H _ I hq) (fun fl s' hs=> ?_) fun e s' hs=>hs
 have fin:∀{σ':St} {H':Hp} {v:V} {u:Value},Inv (cxOf CX P w K mg base N qual scope f cdv A outer s H E) [] σ' H' s'→RelV v u→Q v H'→CE outer P w H s Q u s':=
  fun {σ' H' v u} J rv q=>⟨v,H',J.os,J.bare,J.base,J.hok,rv,q⟩
 cases fl with
 |ret u=>
  obtain ⟨v,σ',H',J,rv,q⟩:=hs
  exact fin J rv q
 |next=>
  obtain ⟨σ',H',J,q⟩:=hs
  exact fin (v:=V.non) (u:=Value.none) J rfl q
 |brk=>
  obtain ⟨_,_,_,q⟩:=hs
  exact False.elim q
 |cont=>
  obtain ⟨_,_,_,q⟩:=hs
  exact False.elim q
end L2
namespace L2
open PySem PySem.Spec PyProof.Rows
section
variable {X:Cx} {x:Str} {p pos:Pos} {e:Expr} {es:List Expr} {t:TA} {id T:String} {r:List V→Hp→VK→Prop}
def tCB (r:List V→Hp→VK→Prop) (t:TA):TE:=fun σ H Q=>t σ H fun vs H1=>r vs H1 Q
theorem Aj (hc:By X (.builtin id) r) (hg:Gl X x) (hm:X.mg x=none) (hv:bootBuiltins x=some (.builtin id)) (ha:PA X (e::es) t) (hn:x≠"__name__":=by decide) (hdb:(x==("__debug__":Str))=false:=by decide)
  (he:starEach (e::es) X.env=(false,eval e X.env)::starEach es X.env:=by rfl) (hpl:(backTo pos (starEach es X.env)).any (·.1)=false:=by rfl):PE X (.Call (.Name x p) (e::es) [] pos) (tCB r t):=by
 intro pins s σ H Q I h
 refine wpAny_Call_Name_kw (ld_blt I hg hm hv ?_ hn hdb)
 exact PyProof.Rows.callWith_builtin1 (thn (ha pos pins s σ H _ I h) fun us s1 ⟨vs,H1,I1,r1,q1⟩=>hc pins s1 σ H1 vs us Q I1 r1 q1) he hpl
theorem Be (hc:By X (.type T) r) (hg:Gl X x) (hm:X.mg x=none) (hv:bootBuiltins x=some (.type T)) (ha:PA X (e::es) t) (hn:x≠"__name__":=by decide) (hdb:(x==("__debug__":Str))=false:=by decide)
  (he:starEach (e::es) X.env=(false,eval e X.env)::starEach es X.env:=by rfl) (hpl:(backTo pos (starEach es X.env)).any (·.1)=false:=by rfl):PE X (.Call (.Name x p) (e::es) [] pos) (tCB r t):=by
 intro pins s σ H Q I h
 refine wpAny_Call_Name_kw (ld_blt I hg hm hv ?_ hn hdb)
 exact PyProof.Rows.callWith_type1 (thn (ha pos pins s σ H _ I h) fun us s1 ⟨vs,H1,I1,r1,q1⟩=>hc pins s1 σ H1 vs us Q I1 r1 q1) he hpl
end
end L2
namespace HT
open PySem PyProof.Rows
section
open PySem.SeqAt
open PySem.AutoSeq1 (wpAny_loadPart')
open PySem.MeetsSeq PySem.MeetsSeq2 PySem.MeetsSeq3
end
section
variable {prog:Program} {w:World} {A:Around} {E:Value→Shared→Prop} {s:Shared}
theorem cat_tup {t b:Addr} {vs ws:List Value} {Q:Value→Shared→Prop} (ht:IsTup s.heap t vs.toArray) (hb:IsTup s.heap b ws.toArray) (hv:vs≠[])
  (h1:ws=[]→Q (.ref t) s) (h2:ws≠[]→Q (.ref s.heap.objs.size) {s with heap:=s.heap.push {cls:= .type "tuple",data:= .seq (vs++ws).toArray}})
  (hsz:vs.length+ws.length≤sizeLine):wpAny (model prog w) A (binaryOp .Add (.ref t) (.ref b)) Q E s:=by
 obtain ⟨⟨cls,dd,data,sl⟩,ho,hc,n,hd⟩:=id ht
 obtain ⟨⟨cls2,dd2,data2,sl2⟩,ho2,hc2,n2,hd2⟩:=id hb
 simp only at hc hd hc2 hd2
 subst hc hd hc2 hd2
 have e:vs.toArray++ws.toArray=(vs++ws).toArray:=by simp
 by_cases hw:ws=[]
 ·exact concat_meets ⟨_,ho,rfl⟩ ⟨_,ho2,rfl⟩ noFill_tuple_add seq_tuple_add PySem.F.slot_tuple_add PySem.F.entry_tuple_add (PySem.F.args_tuple_add_2 _ _)
   (tuple_addW1 t b vs.toArray ws.toArray n n2 dd dd2 sl sl2 (by simpa using hv) (by simp [hw])) ⟨ho,ho2,h1 hw⟩
 ·refine concat_meets ⟨_,ho,rfl⟩ ⟨_,ho2,rfl⟩ noFill_tuple_add seq_tuple_add PySem.F.slot_tuple_add PySem.F.entry_tuple_add (PySem.F.args_tuple_add_2 _ _)
   (tuple_addW2 t b vs.toArray ws.toArray n n2 dd dd2 sl sl2 (by simpa using hv) (by simpa using hw) (by rw [List.size_toArray,List.size_toArray];exact hsz)) ⟨ho,ho2,?_⟩
  rw [e]
  exact h2 hw
def sIx (n d:Nat):Option Int→Nat
 |none=>d
 |some v=>if v<0 then (v+(n:Int)).toNat else min v.toNat n
theorem sIx_none (n d:Nat):sIx n d none=d:=rfl
theorem sIx_nat (n d k:Nat):sIx n d (some (k:Int))=min k n:=by
 show (if (k:Int)<0 then ((k:Int)+(n:Int)).toNat else min (k:Int).toNat n)=min k n
 rw [if_neg (by omega),Int.toNat_natCast]
theorem sIx_le (n d:Nat) (hd:d≤n) (o:Option Int):sIx n d o≤n:=by
 cases o with
 |none=>exact hd
 |some v=>
  show (if v<0 then (v+(n:Int)).toNat else min v.toNat n)≤n
  by_cases hv:v<0
  ·rw [if_pos hv];omega
  ·rw [if_neg hv];exact Nat.min_le_right _ _
theorem clip_eq (v:Int) (n d:Nat):(if v<0 then max (v+(n:Int)) 0 else min v (n:Int))=((sIx n d (some v):Nat):Int):=by
 show (if v<0 then max (v+(n:Int)) 0 else min v (n:Int))=(((if v<0 then (v+(n:Int)).toNat else min v.toNat n):Nat):Int)
 by_cases hv:v<0
 ·simp only [if_pos hv];omega
 ·simp only [if_neg hv];omega
theorem adjust_gen (lo hi:Option Int) (n:Nat):Builtin.Slice.sliceAdjust lo hi 1 (n:Int)=(((sIx n 0 lo:Nat):Int),((sIx n n hi:Nat):Int)):=by
 have h1:¬((1:Int)<0):=by decide
 unfold Builtin.Slice.sliceAdjust
 simp only [h1,if_false]
 refine Prod.ext ?_ ?_
 ·cases lo with
  |none=>rfl
  |some v=>exact clip_eq v n 0
 ·cases hi with
  |none=>rfl
  |some v=>exact clip_eq v n n
theorem places_gen (i j:Nat):Builtin.Slice.slicePlaces (i:Int) (j:Int) 1=j - i:=by
 unfold Builtin.Slice.slicePlaces
 have h1:(1:Int) > 0:=by decide
 simp only [h1,if_true,Int.ediv_one]
 split<;> omega
theorem slicePart_ {v:Value} {o:Option Int} {Q:Option Int→Shared→Prop} (p:IsPart v o) (h:Q o s):wpAny (model prog w) A (Builtin.Slice.slicePartIndex v) Q E s:=by
 cases p with
 |none=>exact slicePart_none h
 |int i t=>exact slicePart_int h
theorem sliceApplied_gen {sl:Addr} {vl vu:Value} {lo hi:Option Int} {n:Nat} {Q:Int×Int×Nat→Shared→Prop} (hs:s.heap.IsSliceOf sl vl vu .none) (pl:IsPart vl lo) (pu:IsPart vu hi)
  (h:Q (((sIx n 0 lo:Nat):Int),1,sIx n n hi - sIx n 0 lo) s):wpAny (model prog w) A (Builtin.Slice.sliceApplied (.ref sl) (pure (n:Int))) Q E s:=by
 obtain ⟨os,hos,hcs,hds⟩:=id hs
 unfold Builtin.Slice.sliceApplied Builtin.Slice.sliceFields
 refine wpAny_bind (wpAny_bind (wpAny_field hos hds (x:=vl) rfl (wpAny_bind (wpAny_field hos hds (x:=vu) rfl (wpAny_bind (wpAny_field hos hds (x:= .none) rfl (wpAny_pure ?_)))))))
 refine wpAny_bind (slicePart_none ?_)
 show wpAny _ _ (if ((1:Int)==0)=true then _ else _) _ _ s
 rw [if_neg (by decide)]
 refine wpAny_bind (slicePart_ pl (wpAny_bind (slicePart_ pu (wpAny_bind (wpAny_pure ?_)))))
 show wpAny _ _ (match Builtin.Slice.sliceAdjust lo hi 1 (n:Int) with|(lo,hi)=>pure (lo,(1:Int),Builtin.Slice.slicePlaces lo hi 1)) _ _ s
 rw [adjust_gen lo hi n]
 show wpAny _ _ (pure (((sIx n 0 lo:Nat):Int),(1:Int),Builtin.Slice.slicePlaces ((sIx n 0 lo:Nat):Int) ((sIx n n hi:Nat):Int) 1)) _ _ s
 rw [places_gen]
 exact wpAny_pure h
theorem pick_gen (xs:Array Value) (i k:Nat):((List.range k).filterMap fun (m:Nat)=>xs[((i:Int)+(m:Int) * 1).toNat]?).toArray=((xs.toList.drop i).take k).toArray:=by
 have e:(fun (m:Nat)=>xs[((i:Int)+(m:Int) * 1).toNat]?)=fun m=>xs[i+m]? :=by
  funext m
  have:((i:Int)+(m:Int) * 1).toNat=i+m:=by omega
  rw [this]
 rw [e]
 have:=pick_run xs i k
 rw [List.filterMap_map] at this
 have e2:((fun x=>xs[x]?)∘fun x=>i+x)=fun m=>xs[i+m]? :=rfl
 rw [e2] at this
 rw [this]
theorem getItem_tuple_cut {t sl:Addr} {items:Array Value} {vl vu:Value} {lo hi:Option Int} {Q:Value→Shared→Prop} (ht:IsTup s.heap t items) (hs:s.heap.IsSliceOf sl vl vu .none) (pl:IsPart vl lo) (pu:IsPart vu hi)
  (hw:¬(sIx items.size 0 lo=0∧sIx items.size items.size hi=items.size))
  (h:Q (.ref s.heap.objs.size) {s with heap:=s.heap.push {cls:= .type "tuple",data:= .seq ((items.toList.drop (sIx items.size 0 lo)).take (sIx items.size items.size hi - sIx items.size 0 lo)).toArray}})
  (hsz:items.size≤sizeLine):wpAny (model prog w) A (getItem (.ref t) (.ref sl)) Q E s:=by
 have htake:sizeOk (.seq ((items.toList.drop (sIx items.size 0 lo)).take (sIx items.size items.size hi - sIx items.size 0 lo)).toArray):=by
  show ((items.toList.drop (sIx items.size 0 lo)).take (sIx items.size items.size hi - sIx items.size 0 lo)).toArray.size≤sizeLine
  rw [List.size_toArray,List.length_take,List.length_drop,Array.length_toList]
  omega
 have hj:sIx items.size items.size hi≤items.size:=sIx_le _ _ (Nat.le_refl _) hi
 obtain ⟨os,hos,hcs,hds⟩:=id hs
 have hTs:s.TypeIs (.ref sl) "slice":=⟨os,hos,hcs⟩
 unfold getItem
 try with_reducible refine wpAny_holding ?_
 first|refine wpAny_bind (wpAny_pure ?_)|skip
 refine wpAny_bind (wpAny_sequenceKey ht.typeIs (by decide) ?_)
 refine wpAny_bind (wpAny_callSpecial?_slot (name:=Str.ofString "__getitem__") ht.typeIs PyProof.Rows.slot_tuple_getitem
  (wpAny_call_entry PyProof.Rows.slot_tuple_getitem ht.typeIs entry_tuple_getitem ?_ (args_tuple_getitem _ _)))
 show wpAny _ _ (Builtin.Tuple.tupleItemsOf (.ref t) >>=_) _ _ s
 refine wpAny_bind (tupleItemsOf_ ht ?_)
 refine wpAny_bind (wpAny_typeOf hTs ?_)
 rw [if_pos (by decide)]
 refine wpAny_bind (sliceApplied_gen hs pl pu ?_)
 have hno:¬((((sIx items.size 0 lo:Nat):Int)==0 && (1:Int)==1 && (sIx items.size items.size hi - sIx items.size 0 lo)==items.size)=true):=by
  intro q
  rw [Bool.and_eq_true,Bool.and_eq_true] at q
  have q1:((sIx items.size 0 lo:Nat):Int)=0:=eq_of_beq q.1.1
  have q2:sIx items.size items.size hi - sIx items.size 0 lo=items.size:=eq_of_beq q.2
  exact hw ⟨by omega,by omega⟩
 show wpAny _ _ (if (((sIx items.size 0 lo:Nat):Int)==0 && (1:Int)==1 && (sIx items.size items.size hi - sIx items.size 0 lo)==items.size)=true then _ else _) _ _ s
 rw [if_neg hno,pick_gen]
 first
  |exact wpAny_bind (m:=Builtin.Tuple.tupleExact _) (wpAny_newObj_type (wpAny_pure ⟨_,rfl,wpAny_pure h⟩) htake)
  |exact wpAny_bind (m:=Builtin.Tuple.tupleExact _) (wpAny_newObj_type (wpAny_bind (wpAny_pure (wpAny_pure ⟨_,rfl,wpAny_pure h⟩))) htake)
  |exact wpAny_bind (wpAny_bind (m:=Builtin.Tuple.tupleExact _) (wpAny_newObj_type (wpAny_pure (wpAny_pure ⟨_,rfl,wpAny_pure h⟩)) htake))
  |exact wpAny_bind (wpAny_bind (m:=Builtin.Tuple.tupleExact _) (wpAny_newObj_type (wpAny_pure ⟨_,rfl,wpAny_pure h⟩) htake))
end
end HT
namespace L2
open PySem PySem.Spec PyProof.Rows
abbrev TO:=St→Hp→(Option Int→Hp→Prop)→Prop
def PO (X:Cx) (e:Option Expr) (t:TO):Prop:=
 ∀(pins:List (Addr×Obj)) (s:Shared) (σ:St) (H:Hp) (Q:Option Int→Hp→Prop),Inv X pins σ H s→t σ H Q→
  wpAny (model X.prog X.w) X.A (evalPart e X.env) (fun u s'=>∃o H',Inv X pins σ H' s'∧IsPart u o∧Q o H') X.xe s
def tNoPart:TO:=fun _ H Q=>Q none H
def tPart (t:TE):TO:=fun σ H Q=>t σ H fun x H1=>∃i,x= .int i∧Q (some i) H1
theorem intsAre_of {ns:List Int}:∀{us:List Value},Vals (ns.map V.int) us→IntsAre us ns:=by
 induction ns with
 |nil=>intro us r;rw [List.map_nil] at r;cases r;exact .nil
 |cons n ns ih=>
  intro us r
  rw [List.map_cons] at r
  cases r with
  |cons r1 r2=>
   obtain ⟨t,e⟩:=r1
   subst e
   exact .cons n t (ih r2)
section
variable {X:Cx} {e:Expr} {te:TE} {lo hi:Option Expr} {tl th:TO} {pos p2:Pos}
theorem Bh:PO X none tNoPart:=by
 intro pins s σ H Q I h
 rw [evalPart_none]
 exact wpAny_pure ⟨none,H,I,.none,h⟩
theorem A4 (h:PE X e te):PO X (some e) (tPart te):=by
 intro pins s σ H Q I hw
 rw [evalPart_some]
 refine thn (h pins s σ H _ I hw) fun u s1 ⟨x,H1,I1,r1,q1⟩=> ?_
 obtain ⟨i,rfl,q⟩:=q1
 obtain ⟨t,rfl⟩:=r1
 exact ⟨some i,H1,I1,.int i t,q⟩
def SlR (X:Cx) (r:V→Option Int→Option Int→Hp→VK→Prop):Prop:=
 ∀(pins:List (Addr×Obj)) (s:Shared) (σ:St) (H:Hp) (x:V) (v vl vu:Value) (lo hi:Option Int) (sl:Addr) (Q:VK),Inv X pins σ H s→RelV x v→s.heap.IsSliceOf sl vl vu .none→IsPart vl lo→IsPart vu hi→r x lo hi H Q→
  ∃T id,typeLookup (.type T) "__getitem__"=pure (some (.builtin id))∧s.TypeIs v T∧wpAny (model X.prog X.w) X.A (getItem v (.ref sl)) (EP X pins σ Q) X.xe s
def tSl (r:V→Option Int→Option Int→Hp→VK→Prop) (te:TE) (tl th:TO):TE:=fun σ H Q=>te σ H fun x H1=>tl σ H1 fun l H2=>th σ H2 fun u H3=>r x l u H3 Q
theorem A3 {r:V→Option Int→Option Int→Hp→VK→Prop} (hr:SlR X r) (he:PE X e te) (hl:PO X lo tl) (hu:PO X hi th):PE X (.Subscript e (.Slice lo hi none p2) pos) (tSl r te tl th):=by
 intro pins s σ H Q I h
 refine Subscript_ (thn (he pins s σ H _ I h) fun v s1 ⟨x,H1,I1,r1,q1⟩=> ?_)
 refine wpAny_Slice (thn (hl pins s1 σ H1 _ I1 q1) fun vl s2 ⟨l,H2,I2,pl,q2⟩=>thn (hu pins s2 σ H2 _ I2 q2) fun vu s3 ⟨u,H3,I3,pu,q3⟩=> ?_)
 rw [evalPart_none]
 refine wpAny_pure ?_
 have I4:Inv X pins σ H3 {s3 with heap:=s3.heap.push {cls:= .type "slice",data:= .fields #[vl,vu,.none]}}:=I3.kept (t':=s3.toks) fun b ob q=>Heap.get?_push_of_some _ q
 obtain ⟨T,id,hT,ht,hg⟩:=hr pins {s3 with heap:=s3.heap.push {cls:= .type "slice",data:= .fields #[vl,vu,.none]}} σ H3 x v vl vu l u s3.heap.objs.size Q I4 r1 (Heap.IsSliceOf.new ..) pl pu q3
 show wpAny (model X.prog X.w) X.A (subscriptTail e (.Slice lo hi none p2) v (.ref s3.heap.objs.size)) (EP X pins σ Q) X.xe {s3 with heap:=s3.heap.push {cls:= .type "slice",data:= .fields #[vl,vu,.none]}}
 exact tail_any (ops:=[.ref s3.heap.objs.size,v]) ht hT hg (by with_unfolding_all rfl)
def Bx (xs:List V) (lo hi:Option Int):List V:=(xs.drop (HT.sIx xs.length 0 lo)).take (HT.sIx xs.length xs.length hi - HT.sIx xs.length 0 lo)
theorem cutV_length (xs:List V) (lo hi:Option Int):(Bx xs lo hi).length≤xs.length:=by
 unfold Bx
 rw [List.length_take,List.length_drop]
 omega
inductive RSlTP (K:PySem.W.Frag) (x:V) (lo:Option Int) (hi:Option Int) (H:Hp) (Q:VK):Prop
 |mk (a xs:_):(x= .ref a)→(SqT K H a xs)→(¬(HT.sIx xs.length 0 lo=0∧HT.sIx xs.length xs.length hi=xs.length))→(∀p,H p=none→Q (.ref p) (upd H p (.tup (Bx xs lo hi))))→RSlTP K x lo hi H Q
def rSlT (K:PySem.W.Frag):V→Option Int→Option Int→Hp→VK→Prop:=fun x lo hi H Q=>RSlTP K x lo hi H Q
theorem sl_tup:SlR X (rSlT X.K):=by
 intro pins s σ H x v vl vu lo hi sl Q I rx hs pl pu h
 obtain ⟨a,xs,rfl,hx,hw,q⟩:=h
 cases rx
 obtain ⟨its,r,ht,hz⟩:=I.tuple hx
 have hlen:its.toArray.size=xs.length:=by rw [List.size_toArray];exact r.length.symm
 refine ⟨"tuple",_,PyProof.Rows.slot_tuple_getitem.lookup,ht.typeIs,?_⟩
 refine HT.getItem_tuple_cut ht hs pl pu (by rw [hlen];exact hw) ?_ (by rw [hlen];exact hz)
 rw [hlen]
 refine ⟨.ref s.heap.objs.size,_,I.laid (t':=s.toks) (o:= .tup (Bx xs lo hi)) (fun b ob q=>Heap.get?_push_of_some _ q) (Nat.le_refl _) ?_,rfl,q _ (I.hok.fresh (Nat.le_refl _))⟩
 exact ⟨Nat.le_trans (cutV_length xs lo hi) hz,_,(r.drop (HT.sIx xs.length 0 lo)).take (HT.sIx xs.length xs.length hi - HT.sIx xs.length 0 lo),IsTupN.new _ _⟩
theorem Vals.nil_iff {xs:List V} {us:List Value} (r:Vals xs us):us=[]↔xs=[]:=by
 cases r with
 |nil=>simp
 |cons _ _=>simp
end
end L2
namespace L2
open PySem PySem.Spec PyProof.Rows
def ixN (n:Nat) (i:Int):Option Nat:=if 0≤i then (if i<n then some i.toNat else none) else if -(n:Int)≤i then some (i+n).toNat else none
def atI {α:Type} (xs:List α) (i:Int):Option α:=(ixN xs.length i).bind fun j=>xs[j]?
theorem ixN_seq {n:Nat} {i:Int} {j:Nat} (h:ixN n i=some j):seqIndex? i n=some j∧j<n∧ -(n:Int)≤i∧i<n:=by
 unfold ixN at h
 by_cases h0:0≤i
 ·rw [if_pos h0] at h
  by_cases h1:i<n
  ·rw [if_pos h1] at h
   have e:i.toNat=j:=Option.some.inj h
   exact ⟨by rw [seqIndex_of h0 h1,e],by omega,by omega,h1⟩
  ·rw [if_neg h1] at h;cases h
 ·rw [if_neg h0] at h
  by_cases h1: -(n:Int)≤i
  ·rw [if_pos h1] at h
   have e:(i+n).toNat=j:=Option.some.inj h
   exact ⟨by rw [seqIndex_neg (by omega) h1,e],by omega,h1,by omega⟩
  ·rw [if_neg h1] at h;cases h
theorem atI_get {α:Type} {xs:List α} {i:Int} {v:α} (h:atI xs i=some v):∃j,seqIndex? i xs.length=some j∧xs[j]? =some v∧j<xs.length∧ -(xs.length:Int)≤i∧i<xs.length:=by
 unfold atI at h
 cases e:ixN xs.length i with
 |none=>rw [e] at h;cases h
 |some j=>
  rw [e] at h
  obtain ⟨h1,h2,h3,h4⟩:=ixN_seq e
  exact ⟨j,h1,h,h2,h3,h4⟩
theorem Al {α:Type} {xs:List α} {j:Nat} {v:α} (h:xs[j]? =some v):atI xs (j:Int)=some v:=by
 have hj:j<xs.length:=(List.getElem?_eq_some_iff.mp h).1
 have e:ixN xs.length (j:Int)=some j:=by
  unfold ixN
  rw [if_pos (by exact Int.natCast_nonneg _),if_pos (by omega)];simp
 unfold atI;rw [e];exact h
def PlainIx (b:Expr):Prop:=∀o i,subscripted b false o i=operate [o,i] (getItem o i)
def IxR (X:Cx) (r:R2):Prop:=
 ∀(value slice:Expr) (pins:List (Addr×Obj)) (s:Shared) (σ:St) (H:Hp) (x y:V) (v u:Value) (Q:VK),Inv X pins σ H s→RelV x v→RelV y u→r x y H Q→
  subscripted slice false v u=operate [v,u] (getItem v u)→wpAny (model X.prog X.w) X.A (subscriptTail value slice v u) (EP X pins σ Q) X.xe s
def MtR (X:Cx) (id:String) (r:V→List V→Hp→VK→Prop):Prop:=
 ∀(pins:List (Addr×Obj)) (s:Shared) (σ:St) (H:Hp) (x:V) (xs:List V) (v:Value) (us:List Value) (Q:VK),Inv X pins σ H s→RelV x v→Vals xs us→r x xs H Q→
  wpAny (model X.prog X.w) X.A (call (.builtin id) (v::us)) (EP X pins σ Q) X.xe s
section
variable {X:Cx} {a b:Expr} {ta tb:TE} {pos:Pos}
theorem Av {r:R2} (hr:IxR X r) (ha:PE X a ta) (hb:PE X b tb) (hs:PlainIx b):PE X (.Subscript a b pos) (tOp r ta tb):=by
 intro pins s σ H Q I h
 exact Subscript_ (binT ha hb I h fun v u s2 x y H2 I2 rx ry q=>hr a b pins s2 σ H2 x y v u Q I2 rx ry q (hs _ _))
inductive RIxLP (K:PySem.W.Frag) (x:V) (y:V) (H:Hp) (Q:VK):Prop
 |mk (p xs i v:_):(x= .ref p)→(y= .int i)→(SqL K H p xs)→(atI xs i=some v)→(Q v H)→RIxLP K x y H Q
def rIxL (K:PySem.W.Frag):R2:=fun x y H Q=>RIxLP K x y H Q
inductive RIxTP (K:PySem.W.Frag) (x:V) (y:V) (H:Hp) (Q:VK):Prop
 |mk (p xs i v:_):(x= .ref p)→(y= .int i)→(SqT K H p xs)→(atI xs i=some v)→(Q v H)→RIxTP K x y H Q
def rIxT (K:PySem.W.Frag):R2:=fun x y H Q=>RIxTP K x y H Q
inductive RIxSP (x:V) (y:V) (H:Hp) (Q:VK):Prop
 |mk (z i c:_):(x= .str z)→(y= .int i)→(z.length≤sizeLine)→(atI z.cps.toList i=some c)→(Q (.str ⟨#[c]⟩) H)→RIxSP x y H Q
def rIxS:R2:=fun x y H Q=>RIxSP x y H Q
theorem Bf:IxR X (rIxL X.K):=by
 intro value slice pins s σ H x y v u Q I rx ry h hs
 obtain ⟨p,xs,i,z,rfl,rfl,hq,he,q⟩:=h
 cases rx
 obtain ⟨t,rfl⟩:=ry
 obtain ⟨its,r,pl,hz⟩:=I.list hq
 obtain ⟨j,h1,h2,h3,h4,h5⟩:=atI_get he
 obtain ⟨w,ew,rw'⟩:=r.get h2
 have hl:=r.length
 have hn:=line63
 have fin:EP X pins σ Q w s:=⟨z,H,I,rw',q⟩
 by_cases h0:0≤i
 ·have hj:i.toNat=j:=by
   rw [seqIndex_of h0 h5] at h1
   exact Option.some.inj h1
  exact item_listR pl.isList h0 (by omega) (by rw [hj];simpa using ew) fin hs
 ·have hj:(i+(its.toArray.size:Int)).toNat=j:=by
   rw [seqIndex_neg (by omega) h4] at h1
   rw [List.size_toArray,←hl]
   exact Option.some.inj h1
  exact subscriptTail_builtinR (x:=w) pl.isList.typeIs slot_list_getitem.lookup
   (wpAny_getItem_list_neg (Q:=fun r s'=>r=w∧EP X pins σ Q r s') pl.isList (by omega) (by rw [List.size_toArray]<;> omega) (by omega) (by rw [hj];simpa using ew) ⟨rfl,fin⟩) hs
theorem A2:IxR X (rIxT X.K):=by
 intro value slice pins s σ H x y v u Q I rx ry h hs
 obtain ⟨p,xs,i,z,rfl,rfl,hq,he,q⟩:=h
 cases rx
 obtain ⟨t,rfl⟩:=ry
 obtain ⟨its,r,pl,hz⟩:=I.tuple hq
 obtain ⟨j,h1,h2,h3,h4,h5⟩:=atI_get he
 obtain ⟨w,ew,rw'⟩:=r.get h2
 have hl:=r.length
 have hn:=line63
 have fin:EP X pins σ Q w s:=⟨z,H,I,rw',q⟩
 exact subscriptTail_builtinR (x:=w) pl.typeIs slot_tuple_getitem.lookup
  (getItem_tuple (j:=j) (Q:=fun r s'=>r=w∧EP X pins σ Q r s') pl (by omega) (by omega) (by rw [List.size_toArray,←hl];exact h1) (by simpa using ew) ⟨rfl,fin⟩) hs
theorem ix_str:IxR X rIxS:=by
 intro value slice pins s σ H x y v u Q I rx ry h hs
 obtain ⟨z,i,c,rfl,rfl,hz,he,q⟩:=h
 obtain ⟨t,rfl⟩:=rx
 obtain ⟨t',rfl⟩:=ry
 obtain ⟨j,h1,h2,h3,h4,h5⟩:=atI_get he
 have hl:z.cps.toList.length=z.length:=by simp [Str.length]
 rw [hl] at h1 h4 h5
 have hn:=line63
 exact tail_any (typeIs_str s z t) slot_str_getitem.lookup (getItem_str (c:=c) (by
  have e1:decide (i< -(2 ^ 63:Int))=false:=decide_eq_false (by omega)
  have e2:decide (i ≥ 2 ^ 63)=false:=decide_eq_false (by omega)
  rw [e1,e2,Bool.or_false]) (by rw [h1];simpa using h2) ⟨.str ⟨#[c]⟩,H,I.tok _,⟨_,rfl⟩,q⟩) hs
theorem mapSeq_set (its:List Value) (n j:Nat) (u:Value):Obj.mapSeq (·.setIfInBounds j u) {cls:= .type "list",data:= .seq its.toArray n}={cls:= .type "list",data:= .seq (its.set j u).toArray n}:=by
 simp [Obj.mapSeq]
theorem Inv.lst {pins:List (Addr×Obj)} {σ:St} {H:Hp} {s:Shared} {p:Addr} {xs:List V} (I:Inv X pins σ H s) (h:H p=some (.lst xs)):
  ∃(its:List Value) (n:Nat),Vals xs its∧s.heap.get? p=some {cls:= .type "list",data:= .seq its.toArray n}∧xs.length≤sizeLine:=by
 obtain ⟨z,its,n,r,e⟩:=I.hok p _ h
 exact ⟨its,n,r,e,z⟩
theorem Inv.lstUpd {pins:List (Addr×Obj)} {σ:St} {H:Hp} {s:Shared} {p:Addr} {xs ys:List V} {its its':List Value} {n n':Nat} {f:Obj→Obj} (I:Inv X pins σ H s) (h:H p=some (.lst xs))
  (ho:s.heap.get? p=some {cls:= .type "list",data:= .seq its.toArray n}) (hf:f {cls:= .type "list",data:= .seq its.toArray n}={cls:= .type "list",data:= .seq its'.toArray n'}) (r:Vals ys its') (hz:ys.length≤sizeLine) (t:Nat):
  Inv X pins σ (upd H p (.lst ys)) {s with heap:=s.heap.update p f,toks:=t}:=by
 have e:(s.heap.update p f).get? p=some {cls:= .type "list",data:= .seq its'.toArray n'}:=by
  rw [Heap.get?_update_self f ho (by rw [hf]<;> rfl),hf]
 refine I.write (x:=p) (e:=p) (by rw [h];trivial) (.inl rfl) (fun b u hb q=>(Heap.get?_update_other _ _ (Ne.symm hb)).trans q) ⟨_,e⟩ ?_
 exact ⟨hz,its',n',r,e⟩
inductive RSetLP (o:V) (i:V) (v:V) (H:Hp) (Q:(Hp→Prop)):Prop
 |mk (p xs k j:_):(o= .ref p)→(i= .int k)→(H p=some (.lst xs))→(ixN xs.length k=some j)→(Q (upd H p (.lst (xs.set j v))))→RSetLP o i v H Q
def rSetL:V→V→V→Hp→(Hp→Prop)→Prop:=fun o i v H Q=>RSetLP o i v H Q
theorem set_list:PSet X rSetL:=by
 intro pins s σ H o i v ov iv u Q I ro ri rv h
 obtain ⟨p,xs,k,j,rfl,rfl,hp,hj,q⟩:=h
 cases ro
 obtain ⟨t,rfl⟩:=ri
 obtain ⟨its,n,r,ho,hz⟩:=I.lst hp
 obtain ⟨h1,h2,h3,h4⟩:=ixN_seq hj
 have hl:=r.length
 have hn:=line63
 have I':Inv X pins σ (upd H p (.lst (xs.set j v))) {s with heap:=s.heap.update p (Obj.mapSeq (·.setIfInBounds j u))}:=
  I.lstUpd hp ho (mapSeq_set its n j u) (r.set rv j) (by rw [List.length_set];exact hz) s.toks
 by_cases h0:0≤k
 ·have hk:k.toNat=j:=by
   rw [seqIndex_of h0 h4] at h1
   exact Option.some.inj h1
  exact PySem.W.ki_setAt ho h0 (by omega) (by rw [List.size_toArray,←hl];exact h4) (by rw [hk];exact ⟨_,I',q⟩)
 ·have hk:(k+(its.toArray.size:Int)).toNat=j:=by
   rw [seqIndex_neg (by omega) h3] at h1
   rw [List.size_toArray,←hl]
   exact Option.some.inj h1
  exact PySem.W.ki_setBack ho (by omega) (by rw [List.size_toArray,←hl];exact h3) (by omega) (by rw [hk];exact ⟨_,I',q⟩)
theorem slice_bounds (lo hi:Option Int) (n:Nat):(sliceBounds lo hi none n).1=((HT.sIx n 0 lo:Nat):Int)∧(sliceBounds lo hi none n).2.1=((HT.sIx n n hi:Nat):Int)∧(sliceBounds lo hi none n).2.2=1:=by
 refine ⟨?_,?_,rfl⟩
 ·cases lo with
  |none=>simp [sliceBounds,HT.sIx]
  |some i=>
   simp only [sliceBounds,HT.sIx,Option.getD_none,show (1:Int) > 0 by decide,if_true]
   by_cases h:i<0
   ·simp only [h,if_true]<;> omega
   ·simp only [h,if_false]<;> omega
 ·cases hi with
  |none=>simp [sliceBounds,HT.sIx]
  |some i=>
   simp only [sliceBounds,HT.sIx,Option.getD_none,show (1:Int) > 0 by decide,if_true]
   by_cases h:i<0
   ·simp only [h,if_true]<;> omega
   ·simp only [h,if_false]<;> omega
theorem slicePick_cut (its:List Value) (lo hi:Option Int):slicePick its.toArray lo hi none=((its.drop (HT.sIx its.length 0 lo)).take (HT.sIx its.length its.length hi - HT.sIx its.length 0 lo)).toArray:=by
 obtain ⟨h1,h2,h3⟩:=slice_bounds lo hi its.toArray.size
 unfold slicePick
 rw [h1,h2,h3]
 simp only [sliceRange_one,pick_run,List.size_toArray]<;> rfl
inductive RSlLP (K:PySem.W.Frag) (x:V) (lo:Option Int) (hi:Option Int) (H:Hp) (Q:VK):Prop
 |mk (a xs:_):(x= .ref a)→(SqL K H a xs)→(∀p,H p=none→Q (.ref p) (upd H p (.lst (Bx xs lo hi))))→RSlLP K x lo hi H Q
def rSlL (K:PySem.W.Frag):V→Option Int→Option Int→Hp→VK→Prop:=fun x lo hi H Q=>RSlLP K x lo hi H Q
theorem sl_list:SlR X (rSlL X.K):=by
 intro pins s σ H x v vl vu lo hi sl Q I rx hs pl pu h
 obtain ⟨a,xs,rfl,hx,q⟩:=h
 cases rx
 obtain ⟨its,r,ht,hz⟩:=I.list hx
 have hlen:=r.length
 refine ⟨"list",_,slot_list_getitem.lookup,ht.isList.typeIs,?_⟩
 refine wpAny_getItem_list_slice ht.isList hs pl pu .none (by simp) ?_ (by rw [List.size_toArray]<;> omega)
 rw [slicePick_cut,←hlen]
 refine ⟨.ref s.heap.objs.size,_,I.laid (t':=s.toks) (o:= .lst (Bx xs lo hi)) (fun b ob q=>Heap.get?_push_of_some _ q) (Nat.le_refl _) ?_,rfl,q _ (I.hok.fresh (Nat.le_refl _))⟩
 exact ⟨Nat.le_trans (cutV_length xs lo hi) hz,_,0,(r.drop (HT.sIx xs.length 0 lo)).take (HT.sIx xs.length xs.length hi - HT.sIx xs.length 0 lo),Heap.get?_push_size _ rfl⟩
def flatV:V→Bool
 | .non=>true
 | .bl _=>true
 | .int _=>true
 | .str _=>true
 |_=>false
def eqV:V→V→Bool
 | .non,.non=>true
 | .bl a,.bl b=>a==b
 | .bl a,.int b=>(if a then 1 else 0)==b
 | .int a,.bl b=>a==(if b then 1 else 0)
 | .int a,.int b=>a==b
 | .str a,.str b=>a==b
 |_,_=>false
theorem eqAt_V {A:Around} {s:Shared} {y x:V} {u v:Value} (ry:RelV y u) (rx:RelV x v) (fy:flatV y=true) (fx:flatV x=true):SeqAt.EqAt A s u v (eqV y x):=by
 cases y with
 |non=>
  cases ry
  cases x with
  |non=>cases rx;exact SeqAt.EqAt.same _
  |bl b=>cases rx;exact SeqAt.EqAt.none_bool b
  |int b=>obtain ⟨t,rfl⟩:=rx;exact SeqAt.EqAt.none_int b t
  |str b=>obtain ⟨t,rfl⟩:=rx;exact SeqAt.EqAt.none_str b t
  |_=>exact absurd (show false=true from fx) Bool.false_ne_true
 |bl a=>
  cases ry
  cases x with
  |non=>cases rx;exact SeqAt.EqAt.bool_none a
  |bl b=>cases rx;exact SeqAt.EqAt.bool_bool a b
  |int b=>obtain ⟨t,rfl⟩:=rx;exact SeqAt.EqAt.bool_int a b t
  |str b=>obtain ⟨t,rfl⟩:=rx;exact SeqAt.EqAt.bool_str a b t
  |_=>exact absurd (show false=true from fx) Bool.false_ne_true
 |int a=>
  obtain ⟨t',rfl⟩:=ry
  cases x with
  |non=>cases rx;exact SeqAt.EqAt.int_none a t'
  |bl b=>cases rx;exact SeqAt.EqAt.int_bool a t' b
  |int b=>obtain ⟨t,rfl⟩:=rx;exact SeqAt.EqAt.int_int a t' b t
  |str b=>obtain ⟨t,rfl⟩:=rx;exact SeqAt.EqAt.int_str a t' b t
  |_=>exact absurd (show false=true from fx) Bool.false_ne_true
 |str a=>
  obtain ⟨t',rfl⟩:=ry
  cases x with
  |non=>cases rx;exact SeqAt.EqAt.str_none a t'
  |bl b=>cases rx;exact SeqAt.EqAt.str_bool a t' b
  |int b=>obtain ⟨t,rfl⟩:=rx;exact SeqAt.EqAt.str_int a t' b t
  |str b=>obtain ⟨t,rfl⟩:=rx;exact SeqAt.EqAt.str_str a t' b t
  |_=>exact absurd (show false=true from fx) Bool.false_ne_true
 |_=>exact absurd (show false=true from fy) Bool.false_ne_true
def eqU (x:V) (u:Value):Bool:=match u with
 | .none=>eqV .non x
 | .bool b=>eqV (.bl b) x
 | .int i _=>eqV (.int i) x
 | .str z _=>eqV (.str z) x
 |_=>false
theorem eqU_of {x y:V} {u:Value} (r:RelV y u) (f:flatV y=true):eqU x u=eqV y x:=by
 cases y with
 |non=>cases r;rfl
 |bl b=>cases r;rfl
 |int i=>obtain ⟨t,rfl⟩:=r;rfl
 |str z=>obtain ⟨t,rfl⟩:=r;rfl
 |_=>exact absurd (show false=true from f) Bool.false_ne_true
theorem any_eqU {x:V}:∀{xs:List V} {us:List Value},Vals xs us→xs.all flatV=true→us.any (eqU x)=xs.any fun y=>eqV y x
 |_,_,.nil,_=>rfl
 |y::xs,u::us,.cons r t,f=>by
  rw [List.all_cons,Bool.and_eq_true] at f
  rw [List.any_cons,List.any_cons,eqU_of r f.1,any_eqU t f.2]
theorem mem_eqAt {A:Around} {s:Shared} {x:V} {v:Value} (rx:RelV x v) (fx:flatV x=true):∀{xs:List V} {us:List Value},Vals xs us→xs.all flatV=true→∀u∈us,SeqAt.EqAt A s u v (eqU x u)
 |_,_,.nil,_=>fun u hu=>by cases hu
 |y::xs,u::us,.cons r t,f=>fun u' hu=>by
  rw [List.all_cons,Bool.and_eq_true] at f
  rcases List.mem_cons.mp hu with rfl|hu
  ·rw [eqU_of r f.1];exact eqAt_V r rx f.1 fx
  ·exact mem_eqAt rx fx t f.2 u' hu
def inV (x:V) (xs:List V):Bool:=xs.any fun y=>eqV y x
inductive RInP (K:PySem.W.Frag) (neg:Bool) (x:V) (y:V) (H:Hp) (Q:VK):Prop
 |mk (p xs:_):(y= .ref p)→((SqL K H p xs∨SqT K H p xs))→(flatV x=true)→(xs.all flatV=true)→(Q (.bl (if neg then !inV x xs else inV x xs)) H)→RInP K neg x y H Q
def rIn (K:PySem.W.Frag) (neg:Bool):R2:=fun x y H Q=>RInP K neg x y H Q
theorem op_in_seq:OpR X (compareOp .In) (rIn X.K false):=by
 intro pins s σ H x y v u Q I rx ry h
 obtain ⟨p,xs,rfl,hq,fx,fs,q⟩:=h
 cases ry
 rcases hq with hq|hq
 ·obtain ⟨its,r,pl,hz⟩:=I.list hq
  refine SeqAt.in_listAt (eqU x) pl.isList (fun w hw=>mem_eqAt rx fx r fs w (by simpa using hw)) ⟨.bl _,H,I,rfl,?_⟩
  rw [show its.toArray.any (eqU x)=its.any (eqU x) by simp,any_eqU r fs]
  exact q
 ·obtain ⟨its,r,pl,hz⟩:=I.tuple hq
  refine SeqAt.in_tupleAt (eqU x) pl (fun w hw=>mem_eqAt rx fx r fs w (by simpa using hw)) ⟨.bl _,H,I,rfl,?_⟩
  rw [show its.toArray.any (eqU x)=its.any (eqU x) by simp,any_eqU r fs]
  exact q
theorem op_notIn_seq:OpR X (compareOp .NotIn) (rIn X.K true):=by
 intro pins s σ H x y v u Q I rx ry h
 obtain ⟨p,xs,rfl,hq,fx,fs,q⟩:=h
 cases ry
 rcases hq with hq|hq
 ·obtain ⟨its,r,pl,hz⟩:=I.list hq
  refine SeqAt.notIn_listAt (eqU x) pl.isList (fun w hw=>mem_eqAt rx fx r fs w (by simpa using hw)) ⟨.bl _,H,I,rfl,?_⟩
  rw [show its.toArray.any (eqU x)=its.any (eqU x) by simp,any_eqU r fs]
  exact q
 ·obtain ⟨its,r,pl,hz⟩:=I.tuple hq
  refine SeqAt.notIn_tupleAt (eqU x) pl (fun w hw=>mem_eqAt rx fx r fs w (by simpa using hw)) ⟨.bl _,H,I,rfl,?_⟩
  rw [show its.toArray.any (eqU x)=its.any (eqU x) by simp,any_eqU r fs]
  exact q
theorem A1:By X (.builtin "len") (fun xs H Q=>∃p ys,xs=[.ref p]∧(SqL X.K H p ys∨SqT X.K H p ys)∧Q (.int ys.length) H):=by
 intro pins s σ H xs us Q I r h
 obtain ⟨p,ys,rfl,hq,q⟩:=h
 obtain ⟨u,rfl,rx⟩:=Ce r
 cases rx
 have hn:=line63
 rcases hq with hq|hq
 ·obtain ⟨its,r',pl,hz⟩:=I.list hq
  have hlen:=r'.length
  exact Calls.call_len_list pl.isList (by simp only [List.size_toArray]<;> omega) ⟨.int ys.length,H,I.tok _,⟨s.toks+1,by rw [List.size_toArray,hlen]⟩,q⟩
 ·obtain ⟨its,r',pl,hz⟩:=I.tuple hq
  have hlen:=r'.length
  exact len_tuple pl (by simp only [List.size_toArray]<;> omega) ⟨.int ys.length,H,I.tok _,⟨s.toks+1,by rw [List.size_toArray,hlen]⟩,q⟩
theorem call_len_str:By X (.builtin "len") (fun xs H Q=>∃z,xs=[.str z]∧z.length≤sizeLine∧Q (.int z.length) H):=by
 intro pins s σ H xs us Q I r h
 obtain ⟨z,rfl,hz,q⟩:=h
 obtain ⟨u,rfl,t,rfl⟩:=Ce r
 have hn:=line63
 exact len_str (by omega) ⟨.int z.length,H,I.tok _,⟨_,rfl⟩,q⟩
theorem call_tuple_of:By X (.type "tuple") (fun xs H Q=>∃p ys,xs=[.ref p]∧((SqL X.K H p ys∧∀l,H l=none→Q (.ref l) (upd H l (.tup ys)))∨(SqT X.K H p ys∧Q (.ref p) H))):=by
 intro pins s σ H xs us Q I r h
 obtain ⟨p,ys,rfl,h⟩:=h
 obtain ⟨u,rfl,rx⟩:=Ce r
 cases rx
 rcases h with ⟨hq,q⟩|⟨hq,q⟩
 ·obtain ⟨its,r',pl,hz⟩:=I.list hq
  have hlen:=r'.length
  refine call_tuple_list pl.isList (fun h' kp=> ?_) (by simp only [List.size_toArray]<;> omega)
  have I1:Inv X pins σ H {s with heap:=h'}:=I.kept (t':=s.toks) kp
  have I2:Inv X pins σ (upd H h'.objs.size (.tup ys)) {s with heap:=h'.push {cls:= .type "tuple",data:= .seq its.toArray}}:=
   I1.laid (t':=s.toks) (fun b o e=>Heap.get?_push_of_some _ e) (Nat.le_refl _) (show ObjOk X.prog X.w _ _ _ (.tup ys) from ⟨hz,its,r',IsTupN.new _ _⟩)
  exact ⟨.ref h'.objs.size,_,I2,rfl,q _ (I1.hok.fresh (Nat.le_refl _))⟩
 ·obtain ⟨its,r',pl,hz⟩:=I.tuple hq
  exact call_tuple_same pl ⟨.ref p,H,I,rfl,q⟩
def tyV (K:PySem.W.Frag) (T:String) (x:V) (H:Hp):Prop:=match x with
 | .str _=>T="str"
 | .int _=>T="int"
 | .ref p=>(T="list"∧∃xs,SqL K H p xs)∨(T="tuple"∧((∃o,K.lookup p=some o∧o.cls= .type "tuple"∧o.dict=none)∨∃xs,H p=some (.tup xs)))∨
   (T="dict"∧((∃kvs,H p=some (.dK kvs))∨∃kvs,H p=some (.dT kvs)))∨(T="set"∧∃S n,H p=some (.set S n))
 |_=>False
theorem tyV_is {pins:List (Addr×Obj)} {σ:St} {H:Hp} {s:Shared} {T:String} {x:V} {v:Value} (I:Inv X pins σ H s) (r:RelV x v) (ty:tyV X.K T x H):
  s.TypeIs v T∧∀a,v= .ref a→∃ob,s.heap.get? a=some ob∧ob.dict=none:=by
 cases x with
 |str z=>
  obtain ⟨t,rfl⟩:=r
  cases (show T="str" from ty)
  exact ⟨typeIs_str s z t,fun _ e=>nomatch e⟩
 |int i=>
  obtain ⟨t,rfl⟩:=r
  cases (show T="int" from ty)
  exact ⟨typeIs_int s i t,fun _ e=>nomatch e⟩
 |ref p=>
  cases r
  rcases ty with ⟨rfl,xs,hq⟩|⟨rfl,⟨o,hk,hc,hd⟩|⟨xs,hx⟩⟩|⟨rfl,hk⟩|⟨rfl,S,n,hk⟩
  ·obtain ⟨its,_,pl,_⟩:=I.list hq
   refine ⟨pl.isList.typeIs,fun a e=> ?_⟩
   cases e
   obtain ⟨o,n,e,c,hd,_⟩:=pl
   exact ⟨o,e,hd⟩
  ·refine ⟨⟨o,I.kIn p o hk,hc⟩,fun a e=> ?_⟩
   cases e
   exact ⟨o,I.kIn _ o hk,hd⟩
  ·obtain ⟨_,_,_,o,e,c,d,_⟩:=(show ObjOk X.prog X.w H s.heap p (.tup xs) from I.hok p _ hx)
   refine ⟨⟨o,e,c⟩,fun a e2=> ?_⟩
   cases e2
   exact ⟨o,e,d⟩
  ·have z:∃o,s.heap.get? p=some o∧o.ExactDict:=by
    rcases hk with ⟨kvs,hk⟩|⟨kvs,hk⟩
    ·obtain ⟨_,_,_,_,o,_,_,e,ex,_⟩:=I.hok p _ hk
     exact ⟨o,e,ex⟩
    ·obtain ⟨_,_,_,_,o,_,_,e,ex,_⟩:=I.hok p _ hk
     exact ⟨o,e,ex⟩
   obtain ⟨o,e,ex⟩:=z
   refine ⟨⟨o,e,ex.1⟩,fun a e2=> ?_⟩
   cases e2
   exact ⟨o,e,ex.2.1⟩
  ·obtain ⟨o,_,_,_,e,ex,_⟩:=I.hok p _ hk
   refine ⟨⟨o,e,ex.1⟩,fun a e2=> ?_⟩
   cases e2
   exact ⟨o,e,ex.2.1⟩
 |_=>exact False.elim ty
def tBM (K:PySem.W.Frag) (T:String) (r:V→List V→Hp→VK→Prop) (to:TE) (t:TA):TE:=fun σ H Q=>to σ H fun x H1=>tyV K T x H1∧t σ H1 fun xs H2=>r x xs H2 Q
variable {o e:Expr} {es:List Expr} {to:TE} {t:TA} {name:Str} {apos cpos:Pos} {T id:String} {r:V→List V→Hp→VK→Prop}
theorem pe_bm (pa:PlainAttrs T) (slot:Slot T name id) (hty:typeOf (.builtin id)=pure (.type "method_descriptor")) (hm:MtR X id r) (ho:PE X o to) (ha:PA X (e::es) t)
  (hbase:attributeBase o name X.env (eval o X.env)=eval o X.env:=by rfl)
  (hfew:((backTo cpos (starEach (e::es) X.env)).all (fun x=> !x.1) && (backToKw cpos (keywordEach [] X.env)).all (fun x=>x.1.isSome)
   && decide ((e::es).length+([]:List Keyword).length+(if ([]:List Keyword).isEmpty then 0 else 1)<30))=true:=by rfl)
  (hline:(apos.endLine==cpos.line)=true:=by rfl) (hs:starEach (e::es) X.env=(false,eval e X.env)::starEach es X.env:=by rfl) (hplain:(backTo cpos (starEach es X.env)).any (·.1)=false:=by rfl):
  PE X (.Call (.Attribute o name apos) (e::es) [] cpos) (tBM X.K T r to t):=by
 intro pins s σ H Q I h
 refine wpAny_Call_method_late hbase hfew hline rfl (thn (ho pins s σ H _ I h) fun v s1 ⟨x,H1,I1,r1,ty,q1⟩=> ?_)
 obtain ⟨h1,h2⟩:=tyV_is I1 r1 ty
 refine ⟨T,id,pa,slot,hty,h1,h2,?_⟩
 have hA:=ha cpos pins s1 σ H1 _ I1 q1
 rw [hs] at hA ⊢
 refine Calls.callWith_builtin (by show (false||(backTo cpos (starEach es X.env)).any (·.1))=false;rw [hplain]<;> rfl) (Calls.evalArgs_plain ?_)
 exact thn hA fun us s2 ⟨vs,H2,I2,r2,q2⟩=>hm pins s2 σ H2 x vs v us Q I2 r1 r2 q2
end
end L2
namespace L2
open PySem PySem.Spec PyProof.Rows
def MtM (X:Cx) (id:String) (r:V→List V→Hp→VK→Prop):Prop:=
 ∀(pins:List (Addr×Obj)) (s:Shared) (σ:St) (H:Hp) (x:V) (xs:List V) (v:Value) (us:List Value) (Q:VK),Inv X pins σ H s→RelV x v→Vals xs us→r x xs H Q→
  wpAny (model X.prog X.w) X.A (call (.builtin id) (v::us)) (EP X pins σ Q) X.xe s
theorem Vals.one:∀{x:V} {us:List Value},Vals [x] us→∃u,us=[u]∧RelV x u
 |_,_,.cons r .nil=>⟨_,rfl,r⟩
theorem Vals.reverse {xs:List V} {us:List Value} (h:Vals xs us):Vals xs.reverse us.reverse:=by
 induction h with
 |nil=>exact .nil
 |cons r t ih=>rw [List.reverse_cons,List.reverse_cons];exact Vals.append ih (.cons r .nil)
section
variable {X:Cx} {pins:List (Addr×Obj)} {σ:St} {H:Hp} {s:Shared} {l b:Addr} {xs ys zs:List V}
theorem Inv.lset {its its':List Value} {n:Nat} {f:Array Value→Array Value} {t':Nat} (I:Inv X pins σ H s) (hH:H l=some (.lst xs))
  (e:s.heap.get? l=some {cls:= .type "list",data:= .seq its.toArray n}) (hf:f its.toArray=its'.toArray) (hv:Vals ys its') (hz:ys.length≤sizeLine):
  Inv X pins σ (upd H l (.lst ys)) {s with heap:=s.heap.update l (Obj.mapSeq f),toks:=t'}:=by
 have q:=PySem.IsL.update e f
 rw [hf] at q
 refine I.write (x:=l) (e:=l) (by rw [hH];exact trivial) (.inl rfl) (fun b' u hb hu=>(Heap.get?_update_other s.heap (Obj.mapSeq f) (Ne.symm hb)).trans hu) ⟨_,q⟩ ?_
 exact ⟨hz,its',_,hv,q⟩
theorem Inv.lnew {its:List Value} {t':Nat} (I:Inv X pins σ H s) (hv:Vals ys its) (hz:ys.length≤sizeLine):
  Inv X pins σ (upd H s.heap.objs.size (.lst ys)) {s with heap:=s.heap.push {cls:= .type "list",data:= .seq its.toArray},toks:=t'}:=
 I.laid (fun _ _ q=>Heap.get?_push_of_some _ q) (Nat.le_refl _) ⟨hz,its,0,hv,Heap.get?_push_size _ rfl⟩
theorem Inv.fresh (I:Inv X pins σ H s):H s.heap.objs.size=none:=I.hok.fresh (Nat.le_refl _)
theorem Inv.lstM (I:Inv X pins σ H s) (hH:H l=some (.lst xs)):xs.length≤sizeLine∧∃(its:List Value) (n:Nat),Vals xs its∧xs.length=its.length∧s.heap.get? l=some {cls:= .type "list",data:= .seq its.toArray n}:=by
 obtain ⟨z,its,n,r,e⟩:=I.hok l _ hH
 exact ⟨z,its,n,r,r.length,e⟩
end
section
variable {X:Cx}
inductive RAppendP (x:V) (vs:List V) (H:Hp) (Q:VK):Prop
 |mk (l xs y:_):(x= .ref l)→(vs=[y])→(H l=some (.lst xs))→(xs.length<sizeLine)→(Q .non (upd H l (.lst (xs++[y]))))→RAppendP x vs H Q
def rAppend:V→List V→Hp→VK→Prop:=fun x vs H Q=>RAppendP x vs H Q
theorem mt_append:MtM X "list.append" rAppend:=by
 intro pins s σ H x vs v us Q I rx rv h
 obtain ⟨l,xs,y,rfl,rfl,hH,hz,q⟩:=h
 cases rx
 obtain ⟨u,rfl,ru⟩:=rv.one
 obtain ⟨z,its,n,r,hl,e⟩:=I.lstM hH
 refine call_meets F.slot_list_append ⟨_,e,rfl⟩ F.entry_list_append (F.args_list_append_2 _ _) (PySem.list_append l its.toArray n u (by rw [List.size_toArray];omega)) ⟨e,?_⟩
 refine ⟨.non,_,I.lset (its':=its++[u]) hH e (by simp) (r.append (.cons ru .nil)) ?_,rfl,q⟩
 rw [List.length_append,List.length_singleton]
 assumption
inductive RCatP (x:V) (y:V) (H:Hp) (Q:VK):Prop
 |mk (l b xs zs:_):(x= .ref l)→(y= .ref b)→(H l=some (.lst xs))→(H b=some (.lst zs))→(xs.length+zs.length≤sizeLine)→(∀p,H p=none→Q (.ref p) (upd H p (.lst (xs++zs))))→RCatP x y H Q
def rCat:R2:=fun x y H Q=>RCatP x y H Q
theorem op_cat:OpR X (binaryOp .Add) rCat:=by
 intro pins s σ H x y v u Q I rx ry h
 obtain ⟨l,b,xs,zs,rfl,rfl,hH,hB,hz,q⟩:=h
 cases rx
 cases ry
 obtain ⟨z,its,n,r,hl,e⟩:=I.lstM hH
 obtain ⟨z2,its2,n2,r2,hl2,e2⟩:=I.lstM hB
 refine PySem.P.add_list e e2 ?_ (by rw [List.size_toArray,List.size_toArray];omega)
 have ea:its.toArray++its2.toArray=(its++its2).toArray:=by simp
 rw [ea]
 exact ⟨.ref _,_,I.lnew (t':=s.toks) (r.append r2) (by rw [List.length_append];assumption),rfl,q _ I.fresh⟩
end
end L2
namespace L2
open PySem PySem.Spec PyProof.Rows
section
variable {κ:Type} [DecidableEq κ]
def B0 (kvs:List (κ×V)) (k:κ):Option V:=(kvs.find? fun kv=>decide (kv.1=k)).map (·.2)
def putK (kvs:List (κ×V)) (k:κ) (v:V):List (κ×V):=
 if (kvs.any fun kv=>decide (kv.1=k))=true then kvs.map (fun kv=>if kv.1=k then (kv.1,v) else kv) else kvs++[(k,v)]
def dropK (kvs:List (κ×V)) (k:κ):List (κ×V):=kvs.filter fun kv=>decide (kv.1≠k)
theorem valV_pos {p:κ×V} {r:List (κ×V)} {k:κ} (e:p.1=k):B0 (p::r) k=some p.2:=by simp [B0,List.find?_cons,e]
theorem valV_neg {p:κ×V} {r:List (κ×V)} {k:κ} (e:¬p.1=k):B0 (p::r) k=B0 r k:=by simp [B0,List.find?_cons,e]
theorem valV_any (k:κ):∀kvs:List (κ×V),(kvs.any fun kv=>decide (kv.1=k))=(B0 kvs k).isSome
 |[]=>rfl
 |p::r=>by
  rw [List.any_cons]
  by_cases e:p.1=k
  ·simp only [valV_pos e,decide_eq_true e,Bool.true_or,Option.isSome_some]
  ·rw [valV_neg e,decide_eq_false e,Bool.false_or];exact valV_any k r
theorem length_putK (kvs:List (κ×V)) (k:κ) (v:V):(putK kvs k v).length≤kvs.length+1:=by
 unfold putK
 split
 ·rw [List.length_map];exact Nat.le_add_right _ _
 ·rw [List.length_append,List.length_cons,List.length_nil];exact Nat.add_le_add_left (by decide) _
theorem putK_new {kvs:List (κ×V)} {k:κ} (v:V) (h:B0 kvs k=none):putK kvs k v=kvs++[(k,v)]:=by
 unfold putK
 rw [valV_any,h]
 exact if_neg (by decide)
theorem RelO.isSome_eq {o:Option V} {u:Option Value} (r:RelO o u):o.isSome=u.isSome:=by
 cases o with
 |none=>cases u with
  |none=>rfl
  |some _=>exact (show False from r).elim
 |some _=>cases u with
  |none=>exact (show False from r).elim
  |some _=>rfl
theorem KV.val {kvs:List (κ×V)} {vs:List (κ×Value)} (r:KV kvs vs) (k:κ):RelO (B0 kvs k) (valueAt vs k):=by
 unfold KV at r
 induction r with
 |nil=>exact True.intro
 | @cons p q ps qs h t ih=>
  obtain ⟨h1,h2⟩:=h
  by_cases e:p.1=k
  ·have e':q.1=k:=h1.symm.trans e
   have b:valueAt (q::qs) k=some q.2:=by simp [valueAt,List.find?_cons,e']
   rw [valV_pos e,b];exact h2
  ·have e':¬q.1=k:=fun z=>e (h1.trans z)
   have b:valueAt (q::qs) k=valueAt qs k:=by simp [valueAt,List.find?_cons,e']
   rw [valV_neg e,b];exact ih
theorem KV.any {kvs:List (κ×V)} {vs:List (κ×Value)} (r:KV kvs vs) (k:κ):(kvs.any fun kv=>decide (kv.1=k))=vs.any fun kv=>decide (kv.1=k):=by
 unfold KV at r
 induction r with
 |nil=>rfl
 |cons h t ih=>rw [List.any_cons,List.any_cons,ih,h.1]
theorem KV.repl {kvs:List (κ×V)} {vs:List (κ×Value)} (r:KV kvs vs) (k:κ) {y:V} {u:Value} (ry:RelV y u):
  KV (kvs.map fun kv=>if kv.1=k then (kv.1,y) else kv) (vs.map fun kv=>if kv.1=k then (kv.1,u) else kv):=by
 unfold KV at r ⊢
 induction r with
 |nil=>exact .nil
 | @cons p q ps qs h t ih=>
  rw [List.map_cons,List.map_cons]
  refine .cons ?_ ih
  obtain ⟨h1,h2⟩:=h
  by_cases e:p.1=k
  ·rw [if_pos e,if_pos (h1.symm.trans e)];exact ⟨h1,ry⟩
  ·rw [if_neg e,if_neg (fun z=>e (h1.trans z))];exact ⟨h1,h2⟩
theorem KV.put {kvs:List (κ×V)} {vs:List (κ×Value)} (r:KV kvs vs) (k:κ) {y:V} {u:Value} (ry:RelV y u):KV (putK kvs k y) (stored vs k u):=by
 unfold putK stored
 rw [r.any k]
 by_cases e:(vs.any fun kv=>decide (kv.1=k))=true
 ·rw [if_pos e,if_pos e];exact r.repl k ry
 ·rw [if_neg e,if_neg e];exact Paired.snoc r ⟨rfl,ry⟩
theorem KV.drop {kvs:List (κ×V)} {vs:List (κ×Value)} (r:KV kvs vs) (k:κ):KV (dropK kvs k) (without vs k):=by
 unfold KV at r ⊢
 unfold dropK without
 induction r with
 |nil=>exact .nil
 | @cons p q ps qs h t ih=>
  obtain ⟨h1,h2⟩:=h
  rw [List.filter_cons,List.filter_cons]
  by_cases e:p.1=k
  ·have a:¬decide (p.1≠k)=true:=by simp [e]
   have b:¬decide (q.1≠k)=true:=by simp [h1.symm.trans e]
   rw [if_neg a,if_neg b];exact ih
  ·have e':¬q.1=k:=fun z=>e (h1.trans z)
   have a:decide (p.1≠k)=true:=by simp [e]
   have b:decide (q.1≠k)=true:=by simp [e']
   rw [if_pos a,if_pos b];exact .cons ⟨h1,h2⟩ ih
theorem KV.length {kvs:List (κ×V)} {vs:List (κ×Value)} (r:KV kvs vs):kvs.length=vs.length:=Paired.length r
theorem dropK_le (kvs:List (κ×V)) (k:κ):(dropK kvs k).length≤kvs.length:=List.length_filter_le _ _
end
theorem kV_is {P:Program} {w:World} {k:Key} {u:Value} (r:RelV (kV k) u):(A9 P w).is k u=true:=by
 cases k with
 |inl i=>obtain ⟨t,e⟩:=(show ∃t,u=Value.int i t from r);subst e;exact mixKind_int P w i t
 |inr x=>obtain ⟨t,e⟩:=(show ∃t,u=Value.str x t from r);subst e;exact mixKind_str P w x t
theorem items_are {P:Program} {w:World}:∀{ks:List Key} {us:List Value},Vals (ks.map kV) us→ItemsAre (A9 P w) ks us
 |[],_,r=>by rw [List.map_nil] at r;cases r;exact .nil
 |k::ks,_,r=>by
  rw [List.map_cons] at r
  cases r with
  |cons h t=>exact .cons (kV_is h) (items_are t)
abbrev KT (H:Hp):List (List Key×V)→List (List Key×Addr×Value)→Prop:=Paired fun p q=>p.1=q.1∧H q.2.1=some (.tup (p.1.map kV))∧RelV p.2 q.2.2
theorem KT.val {H:Hp} {kvs:List (List Key×V)} {xs:List (List Key×Addr×Value)} (r:KT H kvs xs) (k:List Key):RelO (B0 kvs k) ((atKey xs k).map (·.2)):=by
 induction r with
 |nil=>exact True.intro
 | @cons p q ps qs h t ih=>
  obtain ⟨h1,_,h2⟩:=h
  by_cases e:p.1=k
  ·have e':q.1=k:=h1.symm.trans e
   have b:atKey (q::qs) k=some q.2:=by simp [atKey,List.find?_cons,e']
   rw [valV_pos e,b];exact h2
  ·have e':¬q.1=k:=fun z=>e (h1.trans z)
   have b:atKey (q::qs) k=atKey qs k:=by simp [atKey,List.find?_cons,e']
   rw [valV_neg e,b];exact ih
theorem KT.repl {H:Hp} {kvs:List (List Key×V)} {xs:List (List Key×Addr×Value)} (r:KT H kvs xs) (k:List Key) {y:V} {u:Value} (ry:RelV y u):
  KT H (kvs.map fun kv=>if kv.1=k then (kv.1,y) else kv) (xs.map (putAt k u)):=by
 induction r with
 |nil=>exact .nil
 | @cons p q ps qs h t ih=>
  rw [List.map_cons,List.map_cons]
  refine .cons ?_ ih
  obtain ⟨h1,h2,h3⟩:=h
  unfold putAt
  by_cases e:p.1=k
  ·rw [if_pos e,if_pos (h1.symm.trans e)];exact ⟨h1,h2,ry⟩
  ·rw [if_neg e,if_neg (fun z=>e (h1.trans z))];exact ⟨h1,h2,h3⟩
theorem KT.put {H:Hp} {kvs:List (List Key×V)} {xs:List (List Key×Addr×Value)} (r:KT H kvs xs) (k:List Key) {b:Addr} {y:V} {u:Value} (hb:H b=some (.tup (k.map kV))) (ry:RelV y u):
  KT H (putK kvs k y) (storedH xs k b u):=by
 have e:(kvs.any fun kv=>decide (kv.1=k))=(atKey xs k).isSome:=by
  rw [valV_any,(r.val k).isSome_eq,Option.isSome_map]
 unfold putK storedH
 rw [e]
 by_cases q:(atKey xs k).isSome=true
 ·rw [if_pos q,if_pos q];exact r.repl k ry
 ·rw [if_neg q,if_neg q];exact Paired.snoc r ⟨rfl,hb,ry⟩
theorem KT.keeps {H H':Hp} {kvs:List (List Key×V)} {xs:List (List Key×Addr×Value)} (r:KT H kvs xs) (ht:∀b ys,H b=some (.tup ys)→H' b=some (.tup ys)):KT H' kvs xs:=
 Paired.mapP r fun _ _ z=>⟨z.1,ht _ _ z.2.1,z.2.2⟩
section
variable {P:Program} {w:World} {H:Hp} {h:Heap} {a:Addr}
theorem rd_of {u:HO} (ok:HOk P w H h) (e:Rd H a u):ObjOk P w H h a u:=e.ok ok
theorem dk_rd {kvs:List (Key×V)} (ok:HOk P w H h) (e:Rd H a (.dK kvs)):kvs.length≤sizeLine∧(a==sysModules)=false∧∃vs,KV kvs vs∧h.DictOf (A9 P w) a vs:=
 show ObjOk P w H h a (.dK kvs) from rd_of ok e
theorem dk_of {kvs:List (Key×V)} (ok:HOk P w H h) (e:H a=some (.dK kvs)):kvs.length≤sizeLine∧(a==sysModules)=false∧∃vs,KV kvs vs∧h.DictOf (A9 P w) a vs:=dk_rd ok (.inl e)
theorem key_of {ks:List Key} (ok:HOk P w H h) (e:H a=some (.tup (ks.map kV))):(tupleKind (A9 P w)).is h ks a:=by
 obtain ⟨_,its,r,o,h1,h2,_,n,h3⟩:=(show ObjOk P w H h a (.tup (ks.map kV)) from ok a _ e)
 exact ⟨o,its.toArray,n,h1,h2,h3,by simpa using items_are r⟩
theorem dt_rd {kvs:List (List Key×V)} (ok:HOk P w H h) (e:Rd H a (.dT kvs)):kvs.length≤sizeLine∧(a==sysModules)=false∧
  ∃xs,KT H kvs xs∧h.DictOfH (tupleKind (A9 P w)) a xs:=by
 obtain ⟨z,y,xs,r,o,es,ep,h1,h2,h3,h4,h5⟩:=(show ObjOk P w H h a (.dT kvs) from rd_of ok e)
 refine ⟨z,y,xs,r,o,es,ep,h1,h2,h3,h4,fun x hx=> ?_,h5⟩
 have all:∀{l:List (List Key×V)} {m:List (List Key×Addr×Value)},KT H l m→∀x∈m,(tupleKind (A9 P w)).is h x.1 x.2.1:=by
  intro l m q
  induction q with
  |nil=>intro x hx;exact nomatch hx
  | @cons p q ps qs hq t ih=>
   intro x hx
   rcases List.mem_cons.mp hx with e|hx
   ·subst e
    exact key_of ok (by rw [←hq.1];exact hq.2.1)
   ·exact ih x hx
 exact all r x hx
theorem dt_of {kvs:List (List Key×V)} (ok:HOk P w H h) (e:H a=some (.dT kvs)):kvs.length≤sizeLine∧(a==sysModules)=false∧
  ∃xs,KT H kvs xs∧h.DictOfH (tupleKind (A9 P w)) a xs:=dt_rd ok (.inl e)
end
def DGet (H:Hp) (a:Addr) (y:V) (r:Option V):Prop:=
 (∃kvs k,Rd H a (.dK kvs)∧y=kV k∧r=B0 kvs k)∨∃kvs k b,Rd H a (.dT kvs)∧y= .ref b∧H b=some (.tup (k.map kV))∧r=B0 kvs k
def DPut (H:Hp) (a:Addr) (y v:V) (H':Hp):Prop:=
 (∃kvs k,H a=some (.dK kvs)∧y=kV k∧kvs.length<sizeLine∧H'=upd H a (.dK (putK kvs k v)))∨
 ∃kvs k b,H a=some (.dT kvs)∧y= .ref b∧H b=some (.tup (k.map kV))∧kvs.length<sizeLine∧H'=upd H a (.dT (putK kvs k v))
theorem DGet.k {H:Hp} {a:Addr} {kvs:List (Key×V)} {k:Key} (e:H a=some (.dK kvs)):DGet H a (kV k) (B0 kvs k):= .inl ⟨kvs,k,.inl e,rfl,rfl⟩
theorem DPut.k {H:Hp} {a:Addr} {kvs:List (Key×V)} {k:Key} {v:V} (e:H a=some (.dK kvs)) (hl:kvs.length<sizeLine):DPut H a (kV k) v (upd H a (.dK (putK kvs k v))):= .inl ⟨kvs,k,e,rfl,hl,rfl⟩
section
variable {X:Cx} {pins:List (Addr×Obj)} {σ:St} {H:Hp} {s:Shared} {a:Addr} {y v:V} {u r:Value} {o:Option V} {A:Around} {E:Value→Shared→Prop}
theorem Inv.big (I:Inv X pins σ H s):sysModules<s.heap.objs.size:=by
 have h:mainGlobals<s.heap.objs.size:=(I.mod.glob.keeps I.bk).lt
 exact Nat.lt_trans (by decide) h
theorem d_getItem {Q:Value→Shared→Prop} (hu:A.units+1<cLine) (I:Inv X pins σ H s) (g:DGet H a y (some v)) (ry:RelV y u) (h:∀w' s',Inv X pins σ H s'→RelV v w'→Q w' s'):
  wpAny (model X.prog X.w) A (getItem (.ref a) u) Q E s:=by
 rcases g with ⟨kvs,k,e,ey,l⟩|⟨kvs,k,b,e,ey,eb,l⟩
 ·subst ey
  obtain ⟨z,hd,vs,rel,dd⟩:=dk_rd I.hok e
  obtain ⟨w',hw,rw'⟩:=RelO.some_of (v:=v) (o:=valueAt vs k) (by rw [l];exact rel.val k)
  exact wpAny_getItem_of (kV_is ry) dd.mapOf hw (h w' _ (I.tok _) rw')
 ·subst ey
  cases (show u=Value.ref b from ry)
  obtain ⟨z,hd,xs,rel,dd⟩:=dt_rd I.hok e
  obtain ⟨w',hw,rw'⟩:=RelO.some_of (v:=v) (o:=(atKey xs k).map (·.2)) (by rw [l];exact rel.val k)
  obtain ⟨p,hp,hp2⟩:=Option.map_eq_some_iff.mp hw
  refine wpAny_getItem_heap (tupleKind_room_in1 hu) (key_of I.hok eb) dd hp ?_
  rw [hp2]
  exact h w' _ (I.tok _) rw'
theorem d_in {Q:Value→Shared→Prop} (hu:A.units+1<cLine) (I:Inv X pins σ H s) (g:DGet H a y o) (ry:RelV y u) (h:∀s',Inv X pins σ H s'→Q (.bool o.isSome) s'):
  wpAny (model X.prog X.w) A (compareOp .In u (.ref a)) Q E s:=by
 rcases g with ⟨kvs,k,e,ey,l⟩|⟨kvs,k,b,e,ey,eb,l⟩
 ·subst ey
  obtain ⟨z,hd,vs,rel,dd⟩:=dk_rd I.hok e
  refine wpAny_in_of (kV_is ry) hd dd.mapOf ?_
  rw [←(rel.val k).isSome_eq,←l]
  exact h _ (I.tok _)
 ·subst ey
  cases (show u=Value.ref b from ry)
  obtain ⟨z,hd,xs,rel,dd⟩:=dt_rd I.hok e
  refine wpAny_in_heap (tupleKind_room_in1 hu) (key_of I.hok eb) hd dd ?_
  have q:=(rel.val k).isSome_eq
  rw [Option.isSome_map] at q
  rw [←q,←l]
  exact h _ (I.tok _)
theorem d_notIn {Q:Value→Shared→Prop} (hu:A.units+1<cLine) (I:Inv X pins σ H s) (g:DGet H a y o) (ry:RelV y u) (h:∀s',Inv X pins σ H s'→Q (.bool (!o.isSome)) s'):
  wpAny (model X.prog X.w) A (compareOp .NotIn u (.ref a)) Q E s:=by
 rcases g with ⟨kvs,k,e,ey,l⟩|⟨kvs,k,b,e,ey,eb,l⟩
 ·subst ey
  obtain ⟨z,hd,vs,rel,dd⟩:=dk_rd I.hok e
  refine wpAny_notIn_of (kV_is ry) hd dd.mapOf ?_
  rw [←(rel.val k).isSome_eq,←l]
  exact h _ (I.tok _)
 ·subst ey
  cases (show u=Value.ref b from ry)
  obtain ⟨z,hd,xs,rel,dd⟩:=dt_rd I.hok e
  refine wpAny_notIn_heap (tupleKind_room_in1 hu) (key_of I.hok eb) hd dd ?_
  have q:=(rel.val k).isSome_eq
  rw [Option.isSome_map] at q
  rw [←q,←l]
  exact h _ (I.tok _)
theorem d_write {h':Heap} {t':Nat} {ob:HO} (I:Inv X pins σ H s) (mu:Mut (H a)) (hs:Heap.SameBut a s.heap h') (he:∃q,h'.get? a=some q) (new:ObjOk X.prog X.w (upd H a ob) h' a ob):
  Inv X pins σ (upd H a ob) {s with heap:=h',toks:=t'}:=
 I.write (x:=a) (e:=a) mu (.inl rfl) (fun b q hb z=>(hs.2 b hb).trans z) he new
theorem dk_new {P:Program} {w:World} {H':Hp} {h':Heap} {kvs:List (Key×V)} {vs:List (Key×Value)} (z:kvs.length≤sizeLine) (hd:(a==sysModules)=false) (rel:KV kvs vs) (dd:h'.DictOf (A9 P w) a vs):
  ObjOk P w H' h' a (.dK kvs):=⟨z,hd,vs,rel,dd⟩
theorem d_setItem {H':Hp} {Q:Unit→Shared→Prop} (hu:A.units+1<cLine) (I:Inv X pins σ H s) (g:DPut H a y v H') (ry:RelV y u) (rv:RelV v r) (h:∀s',Inv X pins σ H' s'→Q () s'):
  wpAny (model X.prog X.w) A (setItem (.ref a) u r) Q E s:=by
 rcases g with ⟨kvs,k,e,ey,l,eH⟩|⟨kvs,k,b,e,ey,eb,l,eH⟩
 ·subst ey eH
  obtain ⟨z,hd,vs,rel,dd⟩:=dk_of I.hok e
  have hz:vs.length≤sizeLine:=by rw [←rel.length];exact z
  have hl:(putK kvs k v).length≤sizeLine:=by have:=length_putK kvs k v;exact Nat.le_trans (by assumption) (by assumption)
  refine wpAny_setItem_pairs (hsz:=hz) (kV_is ry) dd fun h' dd' hs=>h _ ?_
  have he:∃q,h'.get? a=some q:=let ⟨q,_,_,hq,_⟩:=dd';⟨q,hq⟩
  exact d_write I (by rw [e];exact True.intro) hs he (dk_new hl hd (rel.put k rv) dd')
 ·subst ey eH
  cases (show u=Value.ref b from ry)
  obtain ⟨z,hd,xs,rel,dd⟩:=dt_of I.hok e
  have hz:xs.length≤sizeLine:=by rw [←Paired.length rel];exact z
  have hl:(putK kvs k v).length≤sizeLine:=by have:=length_putK kvs k v;exact Nat.le_trans (by assumption) (by assumption)
  refine wpAny_setItem_heap (hsz:=hz) (tupleKind_room_in1 hu) (key_of I.hok eb) dd fun h' dd' hs=>h _ ?_
  obtain ⟨q,es,ep,hq,h2,h3,h4,_,h5⟩:=dd'
  refine d_write I (by rw [e];exact True.intro) hs ⟨q,hq⟩ ⟨hl,hd,_,(rel.put k eb rv).keeps fun c ys ec=> ?_,q,es,ep,hq,h2,h3,h4,h5⟩
  rw [Ap (Cd ec e (fun z=>nomatch z))]
  exact ec
end
section
variable {X:Cx} {pins:List (Addr×Obj)} {σ:St} {H:Hp} {s:Shared} {a:Addr} {kvs:List (Key×V)} {k:Key} {u:Value} {A:Around} {E:Value→Shared→Prop}
theorem d_delItem {Q:Unit→Shared→Prop} (I:Inv X pins σ H s) (e:H a=some (.dK kvs)) (ry:RelV (kV k) u) (l:(B0 kvs k).isSome=true) (h:∀s',Inv X pins σ (upd H a (.dK (dropK kvs k))) s'→Q () s'):
  wpAny (model X.prog X.w) A (delItem (.ref a) u) Q E s:=by
 obtain ⟨z,hd,vs,rel,dd⟩:=dk_of I.hok e
 refine wpAny_delItem_slot dd.typeIs (by decide) PySem.F.slot_dict_delitem
  (call_meetsIn PySem.F.slot_dict_delitem dd.typeIs PySem.F.entry_dict_delitem (PySem.F.args_dict_delitem_2 _ _) (meets_dict_delitem_pairs (A9 X.prog X.w) a (kV_is ry)) ⟨vs,dd,by rw [←rel.length];exact z,by rw [←(rel.val k).isSome_eq];exact l,fun h' dd' hs=>h _ ?_⟩)
 have he:∃q,h'.get? a=some q:=let ⟨q,_,_,hq,_⟩:=dd';⟨q,hq⟩
 exact d_write I (by rw [e];exact True.intro) hs he (dk_new (Nat.le_trans (dropK_le kvs k) z) hd (rel.drop k) dd')
theorem d_pop {v:V} {more:List Value} {Q:Value→Shared→Prop} (I:Inv X pins σ H s) (e:H a=some (.dK kvs)) (ry:RelV (kV k) u) (l:B0 kvs k=some v) (hm:more=[]∨∃x,more=[x])
  (h:∀w' s',Inv X pins σ (upd H a (.dK (dropK kvs k))) s'→RelV v w'→Q w' s'):wpAny (model X.prog X.w) A (call (.builtin "dict.pop") (.ref a::u::more)) Q E s:=by
 obtain ⟨z,hd,vs,rel,dd⟩:=dk_of I.hok e
 obtain ⟨w',hw,rw'⟩:=RelO.some_of (v:=v) (o:=valueAt vs k) (by rw [←l];exact rel.val k)
 have hp:(keyPart u).isSome=true:=by
  cases k with
  |inl i=>obtain ⟨t,q⟩:=(show ∃t,u=Value.int i t from ry);subst q;rfl
  |inr x=>obtain ⟨t,q⟩:=(show ∃t,u=Value.str x t from ry);subst q;rfl
 have ha:argsOk "dict.pop" ⟨.ref a::u::more,[]⟩:=by
  rcases hm with q|⟨x,q⟩
  ·subst q;exact PySem.F.args_dict_pop_2 _ _
  ·subst q;exact PySem.F.args_dict_pop_3 _ _ _
 refine call_meetsIn PySem.F.slot_dict_pop dd.typeIs PySem.F.entry_dict_pop ha (meets_dict_pop_there (A9 X.prog X.w) a (kV_is ry) more hm hp)
  ⟨vs,w',dd,by rw [←rel.length];exact z,hw,fun h' dd' hs=>h w' _ ?_ rw'⟩
 have he:∃q,h'.get? a=some q:=let ⟨q,_,_,hq,_⟩:=dd';⟨q,hq⟩
 exact d_write I (by rw [e];exact True.intro) hs he (dk_new (Nat.le_trans (dropK_le kvs k) z) hd (rel.drop k) dd')
theorem d_len {Q:Value→Shared→Prop} (I:Inv X pins σ H s) (e:Rd H a (.dK kvs)) (h:∀t s',Inv X pins σ H s'→Q (.int kvs.length t) s'):wpAny (model X.prog X.w) A (call (.builtin "len") [.ref a]) Q E s:=by
 obtain ⟨z,hd,vs,rel,dd⟩:=dk_rd I.hok e
 refine call_len_dict hd dd (by rw [←rel.length];rw [sizeLine_eq] at z;omega) ?_
 rw [←rel.length]
 exact h _ _ (I.tok _)
end
def NoSl (i:Expr):Prop:=∀ov iv,subscripted i false ov iv=operate [ov,iv] (getItem ov iv)
theorem subD_of {prog:Program} {w:World} {A:Around} {E:Value→Shared→Prop} {s:Shared} {env:Env} {value slice:Expr} {pos:Pos} {T id:String} {Q:Value→Shared→Prop}
  (hl:typeLookup (.type T) "__getitem__"=pure (some (.builtin id))) (hs:NoSl slice)
  (h:wpAny (model prog w) A (eval value env) (fun o s₁=>wpAny (model prog w) A (eval slice env) (fun i s₂=>s₂.TypeIs o T∧wpAny (model prog w) A (getItem o i) Q E s₂) E s₁) E s):
  wpAny (model prog w) A (eval (.Subscript value slice pos) env) Q E s:=by
 refine Subscript_ (wpAny_mono h (fun o s₁ h₁=>wpAny_mono h₁ (fun i s₂ h₂=> ?_) fun _ _ x=>x) fun _ _ x=>x)
 obtain ⟨hT,h₂⟩:=h₂
 unfold subscriptTail
 refine wpAny_bind ?_
 rw [getitemInPython_of_ne hT.not_modules]
 refine wpAny_bind (wpAny_specialOf hT hl ?_)
 have fin:wpAny (model prog w) A (subscripted slice false o i) (fun r s₃=>wpAny (model prog w) A (letTemporaryGo value o r >>=fun _=>pure r) Q E s₃) E s₂:=by
  rw [hs o i]
  exact wpAny_operating (wpAny_mono h₂ (fun r s₃ h₃=>wpAny_bind (wpAny_letTemporaryGo (wpAny_pure h₃))) fun _ _ x=>x)
 first
  |exact wpAny_pure (wpAny_bind fin)
  |exact wpAny_bind (wpAny_pure (wpAny_bind fin))
  |exact wpAny_bind fin
theorem dict_typeIs {X:Cx} {pins:List (Addr×Obj)} {σ:St} {H:Hp} {s:Shared} {a:Addr} {y:V} {o:Option V} (I:Inv X pins σ H s) (g:DGet H a y o):s.TypeIs (.ref a) "dict":=by
 rcases g with ⟨kvs,k,e,_,_⟩|⟨kvs,k,b,e,_,_,_⟩
 ·obtain ⟨_,_,vs,_,dd⟩:=dk_rd I.hok e
  exact dd.typeIs
 ·obtain ⟨_,_,xs,_,dd⟩:=dt_rd I.hok e
  exact dd.typeIs
def tDGet (td ty:TE):TE:=fun σ H Q=>td σ H fun x H1=>ty σ H1 fun y H2=>∃a v,x= .ref a∧DGet H2 a y (some v)∧Q v H2
def tDIn (ty td:TE):TE:=fun σ H Q=>ty σ H fun y H1=>td σ H1 fun x H2=>∃a o,x= .ref a∧DGet H2 a y o∧Q (.bl o.isSome) H2
def tDNotIn (ty td:TE):TE:=fun σ H Q=>ty σ H fun y H1=>td σ H1 fun x H2=>∃a o,x= .ref a∧DGet H2 a y o∧Q (.bl (!o.isSome)) H2
def sDPut (td ty tv:TE):TS:=fun D σ H=>tv σ H fun v H1=>td σ H1 fun x H2=>ty σ H2 fun y H3=>∃a H4,x= .ref a∧DPut H3 a y v H4∧D.nx σ H4
def sDDel (td ty:TE):TS:=fun D σ H=>td σ H fun x H1=>ty σ H1 fun y H2=>∃a kvs k,x= .ref a∧H2 a=some (.dK kvs)∧y=kV k∧(B0 kvs k).isSome=true∧D.nx σ (upd H2 a (.dK (dropK kvs k)))
section
variable {X:Cx} {o i e value:Expr} {pos pos' tpos:Pos} {td ty tv:TE}
theorem pe_dget (hu:X.A.units+1<cLine) (ho:PE X o td) (hi:PE X i ty) (hs:NoSl i):PE X (.Subscript o i pos) (tDGet td ty):=by
 intro pins s σ H Q I h
 refine subD_of PySem.F.slot_dict_getitem.lookup hs (thn (ho pins s σ H _ I h) fun u s1 ⟨x,H1,I1,rx,q1⟩=>thn (hi pins s1 σ H1 _ I1 q1) fun iv s2 ⟨y,H2,I2,ry,a,v,ex,g,q2⟩=> ?_)
 subst ex
 obtain rfl:u=Value.ref a:=rx
 exact ⟨dict_typeIs I2 g,d_getItem hu I2 g ry fun w' s3 I3 rw'=>⟨v,H2,I3,rw',q2⟩⟩
theorem pc_din (hu:X.A.units+1<cLine) (hi:PE X i ty) (ho:PE X o td):PC X .In i o (tDIn ty td):=by
 intro pins s σ H Q I h
 refine thn (hi pins s σ H _ I h) fun iv s1 ⟨y,H1,I1,ry,q1⟩=>thn (ho pins s1 σ H1 _ I1 q1) fun u s2 ⟨x,H2,I2,rx,a,ov,ex,g,q2⟩=> ?_
 subst ex
 obtain rfl:u=Value.ref a:=rx
 exact d_in hu I2 g ry fun s3 I3=>⟨.bl ov.isSome,H2,I3,rfl,q2⟩
theorem pc_dnotin (hu:X.A.units+1<cLine) (hi:PE X i ty) (ho:PE X o td):PC X .NotIn i o (tDNotIn ty td):=by
 intro pins s σ H Q I h
 refine thn (hi pins s σ H _ I h) fun iv s1 ⟨y,H1,I1,ry,q1⟩=>thn (ho pins s1 σ H1 _ I1 q1) fun u s2 ⟨x,H2,I2,rx,a,ov,ex,g,q2⟩=> ?_
 subst ex
 obtain rfl:u=Value.ref a:=rx
 exact d_notIn hu I2 g ry fun s3 I3=>⟨.bl (!ov.isSome),H2,I3,rfl,q2⟩
theorem ps_dput (hu:X.A.units+1<cLine) (ho:PE X o td) (hi:PE X i ty) (hv:PE X value tv) (hs:swapsWith value (some (.Subscript o i pos')) pos.line X.env=pure false):
  PS X (.Assign [.Subscript o i pos'] value pos) (sDPut td ty tv):=by
 intro pins s σ H D I h
 refine wpAny_Assign_Subscript (thn (hv pins s σ H _ I h) fun r s1 ⟨v,H1,I1,rv,q1⟩=>thn (ho pins s1 σ H1 _ I1 q1) fun u s2 ⟨x,H2,I2,rx,q2⟩=>thn (hi pins s2 σ H2 _ I2 q2) fun iv s3 ⟨y,H3,I3,ry,a,H4,ex,g,q3⟩=> ?_) hs
 subst ex
 obtain rfl:u=Value.ref a:=rx
 exact d_setItem hu I3 g ry rv fun s4 I4=>⟨σ,H4,I4,q3⟩
theorem ps_ddel (ho:PE X o td) (hi:PE X i ty):PS X (.Delete [.Subscript o i tpos] pos) (sDDel td ty):=by
 intro pins s σ H D I h
 refine wpAny_Delete (wpAny_deleteEach_cons (wpAny_delete_Subscript (thn (ho pins s σ H _ I h) fun u s1 ⟨x,H1,I1,rx,q1⟩=>thn (hi pins s1 σ H1 _ I1 q1) fun iv s2 ⟨y,H2,I2,ry,a,kvs,k,ex,e,ey,l,q2⟩=> ?_)))
 subst ex ey
 obtain rfl:u=Value.ref a:=rx
 exact d_delItem I2 e ry l fun s3 I3=>wpAny_deleteEach_nil ⟨σ,_,I3,q2⟩
end
theorem dk_empty {P:Program} {w:World} {H:Hp} (h:Heap) (hb:sysModules<h.objs.size):ObjOk P w H (h.push {cls:= .type "dict",data:= .dict #[]}) h.objs.size (.dK []):=
 ⟨Nat.zero_le _,beq_eq_false_iff_ne.mpr (Ne.symm (Nat.ne_of_lt hb)),[],.nil,Heap.DictOf.new h⟩
def tDNewK:TE:=fun _ H Q=>∀p,H p=none→Q (.ref p) (upd H p (.dK []))
section
variable {X:Cx} {pos:Pos}
theorem pe_dnewK:PE X (.Dict [] [] pos) tDNewK:=fun pins s σ H Q I h=>
 wpAny_Dict_empty ⟨.ref s.heap.objs.size,_,I.laid (a:=s.heap.objs.size) (o:= .dK []) (t':=s.toks) (fun _ _ q=>Heap.get?_push_of_some _ q) (Nat.le_refl _) (dk_empty s.heap I.big),rfl,h _ (I.hok.fresh (Nat.le_refl _))⟩
end
def tPairs:List (TE×TE)→St→Hp→(List (V×V)→Hp→Prop)→Prop
 |[],_,H,Q=>Q [] H
 |(tk,tv)::r,σ,H,Q=>tk σ H fun x H1=>tv σ H1 fun y H2=>tPairs r σ H2 fun ps H3=>Q ((x,y)::ps) H3
abbrev VV:List (V×V)→List (Value×Value)→Prop:=Paired fun p q=>RelV p.1 q.1∧RelV p.2 q.2
def PPs (X:Cx) (pos:Pos) (keys:List (Option Expr)) (values:List Expr) (trs:List (TE×TE)):Prop:=
 ∀(pins:List (Addr×Obj)) (s:Shared) (σ:St) (H:Hp) (Q:List (V×V)→Hp→Prop),Inv X pins σ H s→tPairs trs σ H Q→
  wpAny (model X.prog X.w) X.A (evalPairs (pairTrees keys values X.env pos)) (fun vs s'=>∃ps H',Inv X pins σ H' s'∧VV ps vs∧Q ps H') X.xe s
theorem pps_nil {X:Cx} {pos:Pos}:PPs X pos [] [] []:=fun pins s σ H Q I h=>pairTrees_nil_walk ⟨[],H,I,.nil,h⟩
theorem pps_cons {X:Cx} {pos:Pos} {k v:Expr} {ks:List (Option Expr)} {vs:List Expr} {tk tv:TE} {trs:List (TE×TE)} (hk:PE X k tk) (hv:PE X v tv) (hr:PPs X pos ks vs trs):
  PPs X pos (some k::ks) (v::vs) ((tk,tv)::trs):=fun pins s σ H Q I h=>
 pairTrees_cons_walk (thn (hk pins s σ H _ I h) fun u s1 ⟨x,H1,I1,rx,q1⟩=>thn (hv pins s1 σ H1 _ I1 q1) fun w2 s2 ⟨y,H2,I2,ry,q2⟩=>
  thn (hr pins s2 σ H2 _ I2 q2) fun ws s3 ⟨ps,H3,I3,rel,q3⟩=>⟨(x,y)::ps,H3,I3,.cons ⟨rx,ry⟩ rel,q3⟩)
def mergeK (kvs more:List (Key×V)):List (Key×V):=more.foldl (fun acc kv=>putK acc kv.1 kv.2) kvs
theorem KV.merge:∀{more:List (Key×V)} {rs:List (Key×Value)} {kvs:List (Key×V)} {vs:List (Key×Value)},KV more rs→KV kvs vs→KV (mergeK kvs more) (merged vs rs):=by
 intro more rs kvs vs r
 unfold KV at r
 induction r generalizing kvs vs with
 |nil=>intro q;exact q
 | @cons p q ps qs h t ih=>
  intro r0
  have e:KV (putK kvs p.1 p.2) (stored vs q.1 q.2):=by
   have:=r0.put p.1 h.2
   rw [←h.1];exact this
  exact ih e
theorem length_mergeK:∀(more kvs:List (Key×V)),(mergeK kvs more).length≤kvs.length+more.length
 |[],kvs=>by show kvs.length≤kvs.length+0;exact Nat.le_add_right _ _
 |p::r,kvs=>by
  have h1:=length_mergeK r (putK kvs p.1 p.2)
  have h2:=length_putK kvs p.1 p.2
  show (mergeK (putK kvs p.1 p.2) r).length≤_
  rw [List.length_cons];omega
theorem carries_of {P:Program} {w:World}:∀{kvs:List (Key×V)} {ws:List (Value×Value)},VV (kvs.map fun kv=>(kV kv.1,kv.2)) ws→∃rs,Carries (A9 P w) ws rs∧KV kvs rs
 |[],_,r=>by rw [List.map_nil] at r;cases r;exact ⟨[],True.intro,.nil⟩
 |p::kvs,_,r=>by
  rw [List.map_cons] at r
  cases r with
  | @cons a b as bs h t=>
   obtain ⟨rs,c,q⟩:=carries_of (P:=P) (w:=w) t
   obtain ⟨b1,b2⟩:=b
   exact ⟨(p.1,b2)::rs,⟨kV_is h.1,rfl,c⟩,.cons ⟨rfl,h.2⟩ q⟩
def tDisp (trs:List (TE×TE)):TE:=fun σ H Q=>∀p,H p=none→tPairs trs σ (upd H p (.dK [])) fun ps H2=>H2 p=some (.dK [])∧∃kvs:List (Key×V),ps=kvs.map (fun kv=>(kV kv.1,kv.2))∧kvs.length≤15∧Q (.ref p) (upd H2 p (.dK (mergeK [] kvs)))
theorem pe_disp {X:Cx} {pos:Pos} {keys:List (Option Expr)} {values:List Expr} {trs:List (TE×TE)} (h:PPs X pos keys values trs) (hall:keys.all (·.isSome)=true) (hl:keys.length=values.length) (h0:keys≠[])
  (h15:keys.length≤15):PE X (.Dict keys values pos) (tDisp trs):=by
 intro pins s σ H Q I q
 have hn:=I.hok.fresh (Nat.le_refl s.heap.objs.size)
 have I1:=I.laid (a:=s.heap.objs.size) (o:= .dK []) (h':=s.heap.push {cls:= .type "dict",data:= .dict #[]}) (t':=s.toks) (fun _ _ q=>Heap.get?_push_of_some _ q) (Nat.le_refl _) (dk_empty s.heap I.big)
 refine wpAny_Dict_walk (knd:=A9 X.prog X.w) hall hl h0 h15 (thn (h pins _ σ _ _ I1 (q _ hn)) fun ws s2 ⟨ps,H2,I2,rel,e,kvs,ep,lk,q2⟩=> ?_)
 subst ep
 obtain ⟨rs,c,rk⟩:=carries_of (P:=X.prog) (w:=X.w) rel
 obtain ⟨z,hd,vs0,r0,dd⟩:=dk_of I2.hok e
 cases r0
 refine ⟨rs,c,dd,fun h' dd' hs=>⟨.ref s.heap.objs.size,_,?_,rfl,q2⟩⟩
 have hz:(mergeK [] kvs).length≤sizeLine:=by
  have h1:=length_mergeK kvs []
  rw [List.length_nil] at h1
  rw [sizeLine_eq];omega
 have he:∃q,h'.get? s.heap.objs.size=some q:=let ⟨q,_,_,hq,_⟩:=dd';⟨q,hq⟩
 exact d_write I2 (by rw [e];exact True.intro) hs he (dk_new hz hd (rk.merge .nil) dd')
structure M1 (X:Cx) (o:Expr) (m:Str) (apos:Pos) (e:Expr) (cpos:Pos):Prop where
 base:attributeBase o m X.env (eval o X.env)=eval o X.env
 few:((backTo cpos (starEach [e] X.env)).all (fun x=> !x.1) && (backToKw cpos (keywordEach [] X.env)).all (fun x=>x.1.isSome)
  && decide (([e]:List Expr).length+([]:List Keyword).length+(if ([]:List Keyword).isEmpty then 0 else 1)<30))=true
 line:(apos.endLine==cpos.line)=true
 trees:backTo cpos (starEach [e] X.env)=[(false,eval e X.env)]
def IsD (H:Hp) (a:Addr):Prop:=(∃kvs,Rd H a (.dK kvs))∨∃kvs,Rd H a (.dT kvs)
theorem isD_at {X:Cx} {pins:List (Addr×Obj)} {σ:St} {H:Hp} {s:Shared} {a:Addr} (I:Inv X pins σ H s) (d:IsD H a):
  s.TypeIs (.ref a) "dict"∧(∀b,Value.ref a= .ref b→∃ob,s.heap.get? b=some ob∧ob.dict=none)∧(a==sysModules)=false:=by
 rcases d with ⟨kvs,e⟩|⟨kvs,e⟩
 ·obtain ⟨_,hd,vs,_,dd⟩:=dk_rd I.hok e
  refine ⟨dd.typeIs,fun b q=> ?_,hd⟩
  cases q
  obtain ⟨ob,_,_,h1,h2,_⟩:=dd
  exact ⟨ob,h1,h2.2.1⟩
 ·obtain ⟨_,hd,xs,_,dd⟩:=dt_rd I.hok e
  refine ⟨dd.typeIs,fun b q=> ?_,hd⟩
  cases q
  obtain ⟨ob,_,_,h1,h2,_⟩:=dd
  exact ⟨ob,h1,h2.2.1⟩
def tDPop1 (td ty:TE):TE:=fun σ H Q=>td σ H fun x H1=>∃a,x= .ref a∧IsD H1 a∧ty σ H1 fun y H2=>∃kvs k v,H2 a=some (.dK kvs)∧y=kV k∧B0 kvs k=some v∧Q v (upd H2 a (.dK (dropK kvs k)))
section
variable {X:Cx} {o e f:Expr} {apos cpos:Pos} {td ty tx:TE}
theorem pe_dpop1 (ho:PE X o td) (he:PE X e ty) (m:M1 X o "pop" apos e cpos):PE X (.Call (.Attribute o "pop" apos) [e] [] cpos) (tDPop1 td ty):=by
 intro pins s σ H Q I h
 refine wpAny_Call_method m.base m.few m.line PySem.F.plainAttrs_dict PySem.F.slot_dict_pop PySem.F.type_dict_pop (thn (ho pins s σ H _ I h) fun u s1 ⟨x,H1,I1,rx,a,ex,d,q1⟩=> ?_)
 subst ex
 obtain rfl:u=Value.ref a:=rx
 obtain ⟨t1,t2,_⟩:=isD_at I1 d
 refine ⟨t1,t2,?_⟩
 rw [m.trees]
 refine Calls.callWith_builtin rfl (Calls.evalArgs_plain (Calls.spliced_cons (thn (he pins s1 σ H1 _ I1 q1) fun iv s2 ⟨y,H2,I2,ry,kvs,k,v,ea,ey,l,q2⟩=>Calls.spliced_nil ?_)))
 subst ey
 exact d_pop I2 ea ry l (.inl rfl) fun w' s3 I3 rw'=>⟨v,_,I3,rw',q2⟩
end
end L2
namespace Att
open PySem PySem.W PySem.Calls PyProof.Rows
theorem ints_of_wellAll {P:Params} {h:Heap}:∀(ns:List Int) (vs:List Value),WellAll P h vs (ns.map WData.int)→IntsAre vs ns:=by
 intro ns
 induction ns with
 |nil=>
  intro vs w
  rw [List.map_nil] at w
  cases w
  exact .nil
 |cons n ns ih=>
  intro vs w
  rw [List.map_cons] at w
  cases w with
  |cons a b=>
   cases a
   exact .cons _ _ (ih _ b)
theorem script_of {l:OpenLaw} {n:Nat} (hn:l.most=some n) {P:Params} {h:Heap} {args:List WData} {vals:List Value}
  (hpre:l.row.toRowW.claim.pre args=true) (hwl:WellAll P h vals args):
  ∃a vs ns,vals=[Value.ref a]∧args=[WData.list (ns.map WData.int)]∧h.get? a=some {cls:= .type "list",data:= .seq vs.toArray}∧IntsAre vs ns∧ns.length≤n:=by
 have hsh:WShape.hasAll [] args [.list .int]=true:=(pre_splitW hpre).1
 have hc:l.pre.holds [] {args:=args}=true:=(pre_splitW hpre).2
 obtain ⟨d,r,rfl,h1,h2⟩:=hasAllW_cons hsh
 obtain rfl:=hasAllW_nil h2
 obtain ⟨xs,rfl,h3⟩:=hasW_list h1
 obtain ⟨ns,rfl⟩:=items_int h3
 have hlen:ns.length≤n:=by
  unfold OpenLaw.pre at hc
  have h4:(WTm.not (.lt (.lit (.int (n:Int))) (.len (.arg 0)))).holds [] {args:=[.list (ns.map .int)]}=true:=by
   have h4:=(holds_andW hc).1
   rw [hn] at h4
   exact h4
  have h5:=condW_of h4 (w_not (w_lt w_lit (w_len_list (w_arg rfl))))
  rw [List.length_map] at h5
  refine Nat.le_of_not_lt fun q=> ?_
  have q':(n:Int)<((ns.length:Nat):Int):=by omega
  first
   |(rw [decide_eq_true q'] at h5;exact absurd h5 (by decide))
   |(simp at h5;omega)
 cases hwl with
 |cons w1 w2=>
  cases w2
  cases w1 with
  |list ho hall=>exact ⟨_,_,ns,rfl,rfl,ho,ints_of_wellAll ns _ hall,hlen⟩
theorem post_true (l:OpenLaw) (args:List WData):l.row.toRowW.claim.post args (.bool true) args=true:=
 postW_of (r:=l.row.toRowW) (X:=(true==true))
  (show WShape.has [] (.bool true) .bool=true by first|rfl|decide|simp [WShape.has,WShape.arms,WShape.armsAll])
  (show (WTm.eq .res (.lit (.bool true))).value [] {args:=args,res:=some (.bool true),after:=args}=some (.bool (true==true)) from w_eq_bool (w_res rfl) w_lit) rfl
theorem attach_call {l:OpenLaw} {n:Nat} {q:Program} {loose:List Str} {XP:(Str→Option Value)→Heap→Prop} {YP:World→Heap→Prop} {d:DefRec}
  (hn:l.most=some n) (hdf:d.params.defaults=[])
  (call:∀(w:World) (s₀ s₁:Shared) (mg mb:Str→Option Value) (fa:Addr) (o:Obj) (pm cd doc:Value) (a:Addr) (vs:List Value) (ns:List Int),
   Ground q loose [] XP w s₀ mg mb s₁.heap→YP w s₁.heap→
   s₁.heap.get? fa=some o→o.data= .func (docDef d.name d.params d.body d.scope pm cd doc)→s₁.heap.CodeRec cd d.name→mg d.name=some (.ref fa)→
   s₁.heap.get? a=some {cls:= .type "list",data:= .seq vs.toArray}→IntsAre vs ns→ns.length≤n→s₁.gens= #[]→
   codeAny (model l.prog w) callerA (.call (.ref fa) ⟨[.ref a],[]⟩) (fun r s'=>r= .ok (.ret (.bool true))∧OldK s₁.heap s'.heap∧s'.os=s₁.os∧AllBare s'.gens) s₁):
  WalkO q loose XP YP l.row.toRowW d [] (fun f vs=>PySem.call f vs):=by
 intro w s₀ s₁ mg mb G Y fa o pm cd doc dV kV ho hd hcd hD hmg hg args vals as hpre hlay hrd hwl hlo
 obtain rfl:dV= .none:=Dflts.none hD hdf
 obtain rfl:kV= .none:=Dflts.noKw hD
 obtain ⟨a,vs,ns,rfl,rfl,hobj,hints,hlen⟩:=script_of hn hpre hwl
 refine enter_call (codeAny_mono (call w s₀ s₁ mg mb fa o pm cd doc a vs ns G Y ho (fd_plain hd) hcd hmg hobj hints hlen hg) fun r s' hq=> ?_)
 obtain ⟨rfl,h2,h3,h4⟩:=hq
 exact ⟨.inl ⟨.bool true,.bool true,[],rfl,fun _=>rfl,.bool true,post_true l _,fun _=>⟨List.Pairwise.nil,fun _ hm=>(nomatch hm)⟩⟩,h2,h3,h4⟩
end Att
namespace L2
open PySem PySem.Spec PyProof.Rows
theorem vals_ints:∀{vs:List Value} {ns:List Int},IntsAre vs ns→Vals (ns.map V.int) vs
 |_,_,.nil=> .nil
 |_,_,.cons n t h=> .cons ⟨t,rfl⟩ (vals_ints h)
def Only (H:Hp):Prop:=∀b,H b=none∨∃o xs,H b=some (.frz o (.lst xs))
theorem law_call {P:Program} {w:World} {K:PySem.W.Frag} {mg mb:Str→Option Value} {CX:CXT} {k:Nat} {fa a:Addr} {fd:FuncData} {x:Str} {sp:Sp} {s₁:Shared} {vs:List Value} {ns:List Int}
  (KX:K.In s₁.heap) (hns:s₁.heap.Ns mainGlobals mg) (hb:s₁.heap.Ns builtinsNs mb) (hbb:∀x:Str,x≠"__name__"→mb x=bootBuiltins x) (hlim:s₁.heap.NoLimit) (hg:s₁.gens= #[])
  (ha:s₁.heap.get? a=some {cls:= .type "list",data:= .seq vs.toArray}) (hi:IntsAre vs ns) (hl:ns.length≤sizeLine) (hr:Room k callerA)
  (F:∀base:Heap,K.In base→base.Ns mainGlobals mg→FnOk P w K mg base CX k fa fd [x] sp) (hbind:∀(s:Shared) (u:Value),BindsTo s fd ⟨[u],[]⟩ [(x,u)])
  (hsp:∀H:Hp,Only H→SqL K H a (ns.map V.int)→sp [.ref a] H (fun v _=>v= .bl true) fun _ _ _=>False)
  (hCX:∀H e s',CX [] H s₁ (fun _ _ _=>False) e s'→False):
  codeAny (model P w) callerA (.call (.ref fa) ⟨[.ref a],[]⟩) (fun r s'=>r= .ok (.ret (.bool true))∧OldK s₁.heap s'.heap∧s'.os=s₁.os∧AllBare s'.gens) s₁:=by
 have rv:=vals_ints hi
 have lenV:=hi.length
 have core:∀H:Hp,Only H→SqL K H a (ns.map V.int)→HOk P w H s₁.heap→(∀b,H b≠none→b=a)→(H a≠none→K.lookup a=none)→
   codeAny (model P w) callerA (.call (.ref fa) ⟨[.ref a],[]⟩) (fun r s'=>r= .ok (.ret (.bool true))∧OldK s₁.heap s'.heap∧s'.os=s₁.os∧AllBare s'.gens) s₁:=by
  intro H hO hS hok hA hK
  have base_of:∀{b:Addr} {o:Obj},s₁.heap.get? b=some o→H b=none→(hidT s₁.heap H).get? b=some o:=fun e n=>hidT_get e n
  have noA:∀{b:Addr} {o:Obj} {es:Array DictEntry} {ep:Nat},s₁.heap.get? b=some o→o.data= .dict es ep→H b=none:=fun {b o es ep} e d=>by
   cases q:H b with
   |none=>rfl
   |some u=>
    have e':b=a:=hA b (by rw [q];simp)
    subst e'
    rw [ha] at e;cases e
    have d':Data.seq vs.toArray _=Data.dict es ep:=d
    cases d'
  have nsK:∀{b:Addr} {m:Str→Option Value},s₁.heap.Ns b m→(hidT s₁.heap H).Ns b m:=fun {b m} ⟨o,es,ep,e,d,r⟩=>⟨o,es,ep,base_of e (noA e d),d,r⟩
  have hKb:K.In (hidT s₁.heap H):=fun b o e=>base_of (KX b o e) (by
   cases q:H b with
   |none=>rfl
   |some u=>
    have e':b=a:=hA b (by rw [q];simp)
    subst e'
    rw [hK (by rw [q];simp)] at e;cases e)
  have hM:Mod K mg (hidT s₁.heap H):=⟨hKb,nsK hns,⟨mb,nsK hb,hbb⟩,let ⟨mc,h1,h2⟩:=hlim;⟨mc,nsK h1,h2⟩⟩
  have e0:Env0 P w K mg (hidT s₁.heap H) callerA [] s₁ H:=⟨rfl,hM,fun b o e=>of_hidT e,Nat.le_of_eq (hidT_size _ _),trivial,fun b hb=>absurd (show b∈([]:List Addr) from hb) (by simp),hok,.of_eq hg⟩
  refine codeAny_mono ((F _ hKb (nsK hns)).run callerA [] s₁ H ⟨[.ref a],[]⟩ [.ref a] [.ref a] _ _ hr e0 (hbind s₁ (.ref a)) (.cons rfl .nil) (hsp H hO hS)) fun r s' h=> ?_
  cases r with
  |error e=>exact (hCX H e s' h).elim
  |ok fl=>
   cases fl with
   |next=>exact False.elim h
   |brk=>exact False.elim h
   |cont=>exact False.elim h
   |ret u=>
    obtain ⟨v,H',os,bare,un,hok',r',q⟩:=h
    have q':v= .bl true:=q
    subst q'
    obtain rfl:u=Value.bool true:=r'
    refine ⟨rfl,OldK.of_keep fun b o e=> ?_,os,bare⟩
    cases q:H b with
    |none=>exact un.keep b o e q (by intro z;exact absurd (show b∈([]:List Addr) from z) (by simp)) (by simp)
    |some u=>
     rcases hO b with z|⟨ob,xs,z⟩
     ·rw [q] at z;cases z
     ·have z2:=un.frzs b ob _ z
      obtain ⟨e1,_⟩:=hok b _ z
      obtain ⟨e2,_⟩:=hok' b _ z2
      rw [e] at e1;cases e1
      exact e2
 cases hk:K.lookup a with
 |some o=>
  have e:=KX a o hk
  rw [ha] at e
  cases e
  refine core (fun _=>none) (fun _=> .inl rfl) (.inr ⟨_,vs.toArray,_,hk,rfl,rfl,rfl,by rw [List.size_toArray,lenV];exact hl,by simpa using rv⟩) (fun b u z=>by have z':(none:Option HO)=some u:=z;cases z') (fun b z=>absurd rfl z) fun z=>absurd rfl z
 |none=>
  refine core (fun b=>if b=a then some (.frz {cls:= .type "list",data:= .seq vs.toArray} (.lst (ns.map V.int))) else none) (fun b=> ?_) (.inl (.inr ⟨{cls:= .type "list",data:= .seq vs.toArray},if_pos rfl⟩)) (fun b u z=> ?_) (fun b z=> ?_) fun _=>hk
  ·by_cases hb:b=a
   ·exact .inr ⟨_,_,if_pos hb⟩
   ·exact .inl (if_neg hb)
  ·by_cases hb:b=a
   ·have z':=(if_pos hb).symm.trans z
    cases z'
    subst hb
    exact ⟨ha,by rw [List.length_map];exact hl,vs,_,rv,ha⟩
   ·have z':=(if_neg hb).symm.trans z
    cases z'
  ·by_cases hb:b=a
   ·exact hb
   ·exact absurd (if_neg hb) z
end L2
namespace L2
open PySem PySem.Spec PyProof.Rows
theorem walk_of {l:PySem.W.OpenLaw} {n k:Nat} {q:Program} {loose:List Str} {XP:(Str→Option Value)→Heap→Prop} {YP:World→Heap→Prop} {d:DefRec} {K:Params→PySem.W.Frag} {CX:World→CXT} {sp:World→Sp} {x:Str}
  (hn:l.most=some n) (hn2:n≤sizeLine) (hdf:d.params.defaults=[]) (hr:Room k callerA)
  (hY:∀(w:World) (h:Heap),YP w h→(K w.params).In h)
  (F:∀(w:World) (mg:Str→Option Value) (fa:Addr) (h:Heap),(K w.params).In h→h.Ns mainGlobals mg→mg d.name=some (.ref fa)→
   ∃fd:FuncData,(∀(s:Shared) (u:Value),BindsTo s fd ⟨[u],[]⟩ [(x,u)])∧
    ∀base:Heap,(K w.params).In base→base.Ns mainGlobals mg→FnOk l.prog w (K w.params) mg base (CX w) k fa fd [x] (sp w))
  (hsp:∀(w:World) (H:Hp) (a:Addr) (ns:List Int),ns.length≤n→Only H→SqL (K w.params) H a (ns.map V.int)→sp w [.ref a] H (fun v _=>v= .bl true) fun _ _ _=>False)
  (hCX:∀(w:World) (H:Hp) (s:Shared) (e:Value) (s':Shared),CX w [] H s (fun _ _ _=>False) e s'→False):
  PySem.W.WalkO q loose XP YP l.row.toRowW d [] (fun f vs=>PySem.call f vs):=by
 refine Att.attach_call hn hdf fun w s₀ s₁ mg mb fa o pm cd doc a vs ns G Y ho hd hcd hmg hobj hints hlen hg=> ?_
 have KX:=hY w _ Y
 obtain ⟨fd,hb,hF⟩:=F w mg fa _ KX G.T.g hmg
 exact law_call KX G.T.g G.T.b G.T.builtins G.T.nolimit hg hobj hints (Nat.le_trans hlen hn2) hr hF hb (fun H hO hS=>hsp w H a ns hlen hO hS) fun H e s'=>hCX w H s₁ e s'
end L2
/- THE LAST THEOREM (shape;LID,My.* are yours):
  My.Adr:a structure of the addresses that your layer names (classes,functions);My.Txt K t:a structure (Prop) of the equations over K;
  My.txt_mk:{K} {implicit addresses ..} (e1:nsIn K mainGlobals "law"=some (some (.ref f))) (e2:K.lookup f=some ⟨oc,od,.func (fnOf "law" "law" params body scope dV kV doc pm an cdv ct),sl⟩) (e3:codeIn K cdv "law"=true) .. :∃t,My.Txt K t
set_option maxRecDepth 100000 in
set_option maxHeartbeats 0 in
theorem PySem.Challenge.cw_LID_holds : PySem.Challenge.rw_LID.Holds := by
 w_on;o_law;k_head;(case hw=>w_witness2)
 k_fill
 refine L2.walk_of (l:=PySem.Challenge.rw_LID) (n:=63) (k:=40) (x:="script") (CX:=fun w=> ..) (sp:=fun _=>My.sp_law) rfl (by decide) rfl ⟨rfl,by decide,by decide⟩ (fun w h Y=>PySem.W.kIn_of Y) ?F ?S ?C
 case F=>
  intro w mg fa h KX G hmg
  have T:∃t,My.Txt (L2.KOf KX) t:=by
   dsimp only [L2.KOf]                          -- K must stand as «<heap const> w.params» for k_is
   refine' My.txt_mk ?e1 ?e2 ?e3 ..
   (case e1=>PySem.W.k_is)                    -- in the order:a name -> its address -> its object -> its parts
   (case e2=>PySem.W.k_is)
   ..
  obtain ⟨t,T⟩:=T
  have e0:=hmg.symm.trans (PySem.W.mg_of KX G T.law)
  cases e0                                       -- fa is the law's own address
  exact ⟨_,fun s u=> .of_eq rfl,fun base kb nb=>My.law_fn T kb nb⟩     -- if «.of_eq rfl» comes too early:refine' ⟨_,?b,fun base kb nb=>My.law_fn T kb nb⟩;exact fun s u=> .of_eq rfl
 case S=>exact fun w H a ns hl hO hS=> ..
 case C=>exact ..
(the tactic k_is has no namespace:write k_is) -/
namespace L2
open PySem PySem.Spec PyProof.Rows
def Au (s:Stmt):Arguments:=match s with
 | .FunctionDef _ a _ _ _ _ _ _ _ _=>a
 |_=>{posonlyargs:=[],args:=[],vararg:=none,kwonlyargs:=[],kw_defaults:=[],kwarg:=none,defaults:=[]}
def At (s:Stmt):List Stmt:=match s with
 | .FunctionDef _ _ b _ _ _ _ _ _ _=>b
 |_=>[]
def Ag (s:Stmt):Scope:=match s with
 | .FunctionDef _ _ _ _ _ _ sc _ _ _=>sc
 |_=>{kind:= .function,names:=[],isGenerator:=false,isCoroutine:=false}
abbrev CX0:CXT:=fun _ _ _ _ _ _=>False
abbrev E0:XK:=fun _ _ _=>False
theorem Aq {X:Cx}:Passes CX0 X E0:=fun _ _ _ _ _ _ _ h=>h.elim
structure Fun (K:PySem.W.Frag) (x qual:Str) (st:Stmt) (f:Addr) (fd:FuncData):Prop where
 ex:∃(oc:Value) (od:Option Addr) (kV doc pm:Value) (an:Option Addr) (cdv ct:Value) (osl:Array (Option Value)),
  fd=PySem.W.fnOf x qual (Au st) (At st) (Ag st) .none kV doc pm an cdv ct∧K.lookup f=some ⟨oc,od,.func fd,osl⟩∧PySem.W.codeIn K cdv qual=true
 kp:PySem.W.keepIn K (.ref f)=true
section
variable {P:Program} {w:World} {K:PySem.W.Frag} {mg:Str→Option Value} {base:Heap}
theorem Fun.ok {x qual:Str} {st:Stmt} {f:Addr} {fd:FuncData} {N ps:List Str} {k:Nat} {sp:Sp} (F:Fun K x qual st f fd) (S:Aw N ps (Ag st)) (len:∀vs H Q E,sp vs H Q E→vs.length=ps.length)
  (hbody:∀(cdv:Value) (A:Around) (outer:List Env) (s:Shared) (H:Hp) (vs:List V) (Q:VK) (E:XK),Room k (A.deeper (envOfC qual (Ag st) s.heap.objs.size f cdv))→sp vs H Q E→
   ∃t,PSs (cxOf CX0 P w K mg base N qual (Ag st) f cdv A outer s H E).nox (At st) t∧t {nx:=fun _ H'=>Q .non H',rt:=Q} (start N vs) H):FnOk P w K mg base CX0 (k+1) f fd ps sp:=by
 obtain ⟨oc,od,kV,doc,pm,an,cdv,ct,osl,rfl,lk,hcd⟩:=F.ex
 refine fn_of lk hcd S len fun A outer s H vs Q E hr hsp=> ?_
 obtain ⟨t,h,q⟩:=hbody cdv A outer s H vs Q E hr hsp
 exact ⟨t,h.nox,q⟩
theorem Fun.binds {x qual:Str} {st:Stmt} {f:Addr} {fd:FuncData} {ps:List Str} (F:Fun K x qual st f fd)
  (h:∀(kV doc pm:Value) (an:Option Addr) (cdv ct:Value) (us:List Value),us.length=ps.length→bindArgs (PySem.W.fnOf x qual (Au st) (At st) (Ag st) .none kV doc pm an cdv ct) ⟨us,[]⟩=pure (ps.zip us)):Binds K fd ps []:=by
 obtain ⟨oc,od,kV,doc,pm,an,cdv,ct,osl,rfl,lk,hcd⟩:=F.ex
 exact .all (h kV doc pm an cdv ct)
theorem A5 {x qual:Str} {st:Stmt} {f:Addr} {oc:Value} {od an:Option Addr} {osl:Array (Option Value)} {kV doc pm cdv ct:Value} (l:K.lookup f=some ⟨oc,od,.func (PySem.W.fnOf x qual (Au st) (At st) (Ag st) .none kV doc pm an cdv ct),osl⟩)
  (c:PySem.W.codeIn K cdv qual=true) (k:PySem.W.keepIn K (.ref f)=true):Fun K x qual st f (PySem.W.fnOf x qual (Au st) (At st) (Ag st) .none kV doc pm an cdv ct):=⟨⟨oc,od,kV,doc,pm,an,cdv,ct,osl,rfl,l,c⟩,k⟩
end
theorem hu_of {A:Around} {k:Nat} (hr:Room k A):A.units+1<cLine:=Nat.lt_of_le_of_lt (Nat.add_le_add_left (by decide:1≤64) _) hr.units
theorem A8 {n:Nat} (h:n≤1000):n<sizeLine:=Nat.lt_of_le_of_lt h (by decide)
section
variable {X:Cx}
theorem pv (i:Nat) {x:Str} {pos:Pos} (hN:X.N[i]? =some x:=by rfl) (hv:Vis X.env.scope x:=by first|exact Or.inl rfl|exact Or.inr (Or.inl rfl)|exact Or.inr (Or.inr rfl)) (hd:(x==("__debug__":Str))=false:=by decide)
  (hcd:(x==("__classdict__":Str))=false:=by decide):PE X (.Name x pos) (tVar i):=pe_var hN hv hd hcd
theorem call_lenD:By X (.builtin "len") (fun xs H Q=>∃a kvs,xs=[V.ref a]∧H a=some (.dK kvs)∧Q (.int kvs.length) H):=by
 intro pins s σ H xs us Q I r h
 obtain ⟨a,kvs,rfl,ha,q⟩:=h
 obtain ⟨u,rfl,ru⟩:=Ce r
 cases ru
 exact d_len I (.inl ha) fun t s' I'=>⟨.int kvs.length,H,I',⟨t,rfl⟩,q⟩
end
theorem Bb {A B:Prop} (h:B):if false=true then A else B:=by
 rw [if_neg Bool.false_ne_true]
 exact h
theorem Bi {A B:Prop} (h:A):if true=true then A else B:=by
 rw [if_pos rfl]
 exact h
theorem ite2 {c A B:Prop} [Decidable c] (h1:c→A) (h2:¬c→B):if c then A else B:=by
 by_cases h:c
 ·rw [if_pos h]
  exact h1 h
 ·rw [if_neg h]
  exact h2 h
def Same (H H':Hp):Prop:=∀b o,H b=some o→H' b=some o
theorem Same.trans {H H1 H2:Hp} (a:Same H H1) (b:Same H1 H2):Same H H2:=fun c o h=>b c o (a c o h)
section
variable {κ:Type} [DecidableEq κ]
theorem valV_not {kvs:List (κ×V)} {k:κ} (h:B0 kvs k=none):¬k∈kvs.map (·.1):=by
 intro m
 obtain ⟨p,hp,e⟩:=List.mem_map.mp m
 have q:(kvs.any fun kv=>decide (kv.1=k))=true:=List.any_eq_true.mpr ⟨p,hp,decide_eq_true e⟩
 rw [valV_any,h] at q
 exact absurd q (by simp)
theorem nd_snoc:∀{l:List κ} {k:κ},l.Nodup→¬k∈l→(l++[k]).Nodup
 |[],k,_,_=>by simp
 |a::r,k,h,hk=>by
  obtain ⟨h1,h2⟩:=List.nodup_cons.mp h
  show (a::(r++[k])).Nodup
  refine List.nodup_cons.mpr ⟨fun m=> ?_,nd_snoc h2 fun m=>hk (List.mem_cons.mpr (Or.inr m))⟩
  rcases List.mem_append.mp m with q|q
  ·exact h1 q
  ·exact hk (List.mem_cons.mpr (Or.inl (List.mem_singleton.mp q).symm))
theorem nd_putK {kvs:List (κ×V)} {k:κ} (v:V) (hn:(kvs.map (·.1)).Nodup) (h:B0 kvs k=none):((putK kvs k v).map (·.1)).Nodup:=by
 rw [putK_new v h,List.map_append]
 exact nd_snoc hn (valV_not h)
end
end L2
namespace L2
open PySem PySem.Spec PyProof.Rows
def Cg (env:Env):List (Str×NameKind)→List (Str×Addr)→List (Str×Addr)
 |[],cs=>cs
 |(n,k)::r,cs=>Cg env r (if k= .free then (n,(env.cells.lookup n).getD 0)::cs else cs)
theorem closes_ok {env:Env}:∀(ns:List (Str×NameKind)) (cs:List (Str×Addr)),(∀p∈ns,p.2= .free→(env.cells.lookup p.1).isSome=true)→
  (forIn ns cs fun (x:Str×NameKind) r=>(do
   let mut cs:=r
   if x.2== .free then cs:=(x.1,←cellOf env x.1)::cs
   pure (ForInStep.yield cs):Sem (ForInStep (List (Str×Addr)))))=pure (Cg env ns cs)
 |[],cs,_=>rfl
 |(n,k)::r,cs,h=>by
  have ih:=fun cs=>closes_ok (env:=env) r cs fun p hp=>h p (List.mem_cons_of_mem _ hp)
  rw [List.forIn_cons]
  by_cases hk:k= .free
  ·subst hk
   have q:=h (n,.free) List.mem_cons_self rfl
   obtain ⟨c,hc⟩:=Option.isSome_iff_exists.mp q
   have e:cellOf env n=pure c:=by unfold cellOf;rw [hc]
   simp only [e]
   simp [Cg,hc,ih]
   have:=ih ((n,c)::cs)
   simpa using this
  ·have hb:(k==NameKind.free)=false:=by simpa using hk
   simp [Cg,hk]
   have:=ih cs
   simpa using this
theorem closureFor_closes {scope:Scope} {env:Env} (h:∀p∈scope.names,p.2= .free→(env.cells.lookup p.1).isSome=true):closureFor scope env=pure (Cg env scope.names []):=by
 have q:=closes_ok (env:=env) scope.names [] h
 unfold closureFor
 simp at q ⊢
 exact q
theorem closes_sub {env:Env}:∀(ns:List (Str×NameKind)) (cs:List (Str×Addr)),(∀p∈ns,p.2= .free→(env.cells.lookup p.1).isSome=true)→(∀y c,cs.lookup y=some c→env.cells.lookup y=some c)→
  ∀y c,(Cg env ns cs).lookup y=some c→env.cells.lookup y=some c
 |[],cs,_,h,y,c,e=>h y c e
 |(n,k)::r,cs,h,hc,y,c,e=>by
  unfold Cg at e
  refine closes_sub r _ (fun p hp=>h p (List.mem_cons_of_mem _ hp)) ?_ y c e
  intro y c e
  by_cases hk:k= .free
  ·subst hk
   rw [if_pos rfl] at e
   obtain ⟨d,hd⟩:=Option.isSome_iff_exists.mp (h (n,.free) List.mem_cons_self rfl)
   rw [List.lookup_cons] at e
   cases q:y==n with
   |true=>
    rw [q] at e
    have:y=n:=by simpa using q
    subst this
    rw [hd] at e ⊢
    exact e
   |false=>
    rw [q] at e
    exact hc y c e
  ·rw [if_neg hk] at e
   exact hc y c e
theorem closes_keep {env:Env} {y:Str}:∀(ns:List (Str×NameKind)) (cs:List (Str×Addr)),(cs.lookup y).isSome=true→((Cg env ns cs).lookup y).isSome=true
 |[],cs,h=>h
 |(n,k)::r,cs,h=>by
  unfold Cg
  refine closes_keep r _ ?_
  split
  ·rw [List.lookup_cons]
   split
   ·rfl
   ·exact h
  ·exact h
theorem closes_has {env:Env} {y:Str}:∀(ns:List (Str×NameKind)) (cs:List (Str×Addr)),(y,NameKind.free)∈ns→((Cg env ns cs).lookup y).isSome=true
 |(n,k)::r,cs,h=>by
  unfold Cg
  rcases List.mem_cons.mp h with e|e
  ·cases e
   refine closes_keep r _ ?_
   rw [if_pos rfl,List.lookup_cons]
   simp
  ·exact closes_has r _ e
def Bw (X:Cx) (scope:Scope) (N:List Str) (C:Addr) (s:Shared) (H:Hp) (ex:List Addr) (pins:List (Addr×Obj)):Cx where
 prog:=X.prog
 w:=X.w
 K:=X.K
 mg:=X.mg
 base:=X.base
 A:=X.A
 N:=N
 s₀:=s
 H₀:=H
 env:=compEnvC scope (Cg X.env scope.names []) C X.env
 outer:=X.stack
 stack:=X.stack
 ex:=ex
 fn:=fun _=>false
 calm:=X.calm
 pn:=X.pn++pins
 xe:=fun _ _=>False
def cst (nT:Nat) (js:List Nat) (σ:St):St:=List.replicate nT none++js.map fun j=>(σ[j]?).join
structure CScope (X:Cx) (scope:Scope) (T F:List Str) (js:List Nat):Prop where
 kind:scope.kind= .function
 nocell:∀y∈scope.names,y.2≠ .cell
 names:∀x∈scope.names,x.2= .local→scope.names.lookup x.1=some .local
 free:∀x∈scope.names,x.2= .free→X.env.kindOf x.1=some .cell
 loc:∀y∈T,(relabel scope X.env).names.lookup y=some .local
 cel:∀y∈F,(relabel scope X.env).names.lookup y=some .cell∧X.env.kindOf y=some .cell∧(y,NameKind.free)∈scope.names
 all:∀x∈(relabel scope X.env).names,(x.2= .cell∨x.2= .free)→(x.1,NameKind.free)∈scope.names
 js:js.map (fun j=>X.N[j]?)=F.map some
section
variable {X:Cx} {scope:Scope} {T F:List Str} {js:List Nat}
theorem comp_inv {pins:List (Addr×Obj)} {σ:St} {H:Hp} {s:Shared} {h1:Heap} {tk:Nat} {fp:List Addr} {m:Str→Option Value} (S:CScope X scope T F js) (I:Inv X pins σ H s)
  (hn:h1.Ns s.heap.objs.size m) (kk:∀b o,s.heap.get? b=some o→h1.get? b=some o) (hf:∀b∈fp,FpOk X pins H b∧∃o,s.heap.get? b=some o∧∀v,o.data≠ .cell v):
  Inv (Bw X scope (T++F) s.heap.objs.size s H fp pins) [] (cst T.length js σ) H {s with heap:=h1,toks:=tk}:=by
 have sub:=closes_sub (env:=X.env) scope.names [] (fun p hp hk=>by
  obtain ⟨c,e⟩:=I.ok.has p.1 (.inl (S.free p hp hk))
  rw [e];rfl) (fun y c e=>by simp at e)
 have ltC:∀y c,X.env.cells.lookup y=some c→c<s.heap.objs.size:=fun y c e=>by
  obtain ⟨v,z⟩:=I.cell y c e
  exact z.lt
 refine ⟨⟨I.ok.mod,?_,I.ok.glob,I.ok.blt,Nat.le_refl _,fun x y c e1 e2=>I.ok.inj x y c (sub x c e1) (sub y c e2),fun x hx=> ?_,fun x c hx=>absurd hx Bool.false_ne_true,I.ok.hd,I.ok.frames,.inl rfl,fun b hb=> ?_,I.bs,?_,fun b o e hb=> ?_,fun b hb hs=> ?_,I.stack,I.stkFree⟩,
  rfl,I.bare,Un.kept kk,⟨m,hn,fun i x v e1 e2 e3=> ?_⟩,fun x c e=> ?_,I.hok.fresh (Nat.le_refl _),fun x c e=>I.freeC x c (sub x c e),fun p hp=> ?_,I.hok.kept kk,?_⟩
 ·show (relabel scope X.env).kind= .function
  exact S.kind
 ·have hx:(relabel scope X.env).names.lookup x=some .cell∨(relabel scope X.env).names.lookup x=some .free:=hx
  have hm:(x,NameKind.free)∈scope.names:=by
   rcases hx with h|h
   ·exact S.all _ (PySem.mem_of_lookup h) (.inl rfl)
   ·exact S.all _ (PySem.mem_of_lookup h) (.inr rfl)
  exact Option.isSome_iff_exists.mp (closes_has scope.names [] hm)
 ·obtain ⟨⟨f0,f1,f2,f3,f4,f5⟩,o,ho,_⟩:=hf b hb
  exact ⟨Nat.ne_of_lt (Heap.lt_size ho),fun x c e=>f4 x c (sub x c e)⟩
 ·exact Nat.le_trans I.ok.bsz I.sz
 ·obtain ⟨⟨f0,f1,f2,f3,f4,f5⟩,_⟩:=hf b hb
  rcases f3 with z|z
  ·exact I.ok.noex b o e z
  ·exact absurd (Nat.lt_of_lt_of_le (Heap.lt_size e) (Nat.le_trans I.ok.bsz z)) (Nat.lt_irrefl _)
 ·obtain ⟨⟨f0,f1,f2,f3,f4,f5⟩,_⟩:=hf b hb
  rcases List.mem_cons.mp (I.stkSub b hs) with z|z
  ·exact f1 z
  ·exact f2 z
 ·-- a name's value
  have hi:T.length≤i:=by
   by_cases hi:i<T.length
   ·unfold cst at e2
    rw [List.getElem?_append_left (by simpa using hi),List.getElem?_replicate] at e2
    split at e2<;> cases e2
   ·exact Nat.not_lt.mp (by assumption)
  obtain ⟨k,rfl⟩:∃k,i=T.length+k:=⟨i - T.length,by omega⟩
  have e1:(T++F)[T.length+k]? =some x:=e1
  rw [List.getElem?_append_right (by assumption)] at e1
  have e1:F[k]? =some x:=by simpa using e1
  unfold cst at e2
  rw [List.getElem?_append_right (by simp)] at e2
  have e2:(js.map fun j=>(σ[j]?).join)[k]? =some (some v):=by simpa using e2
  rw [List.getElem?_map] at e2
  cases ej:js[k]? with
  |none=>rw [ej] at e2;cases e2
  |some j=>
   rw [ej] at e2
   have e2:(σ[j]?).join=some v:=by simpa using e2
   have e3':σ[j]? =some (some v):=by
    cases q:σ[j]? with
    |none=>rw [q] at e2;cases e2
    |some z=>rw [q] at e2;cases z with
     |none=>cases e2
     |some z=>simp at e2;rw [e2]
   have eN:X.N[j]? =some x:=by
    have q:=congrArg (fun l=>l[k]?) S.js
    simp only [List.getElem?_map,ej,e1] at q
    simpa using q
   obtain ⟨c1,c2,c3⟩:=S.cel x (List.mem_of_getElem? e1)
   obtain ⟨m0,hn0,hl⟩:=I.loc
   obtain ⟨u,ru,lk⟩:=hl j x v eN e3' (.inr (.inl c2))
   refine ⟨u,ru,?_⟩
   rcases lk with ⟨z,_⟩|⟨_,c,ec,hc⟩
   ·rw [c2] at z;cases z
   ·obtain ⟨c',ec'⟩:=Option.isSome_iff_exists.mp (closes_has (env:=X.env) scope.names [] c3)
    have:=sub x c' ec'
    rw [ec] at this;cases this
    refine .inr ⟨.inl c1,c,ec',?_⟩
    obtain ⟨o,ho,hd⟩:=hc
    exact ⟨o,kk _ _ ho,hd⟩
 ·obtain ⟨v,o,ho,hd⟩:=I.cell x c (sub x c e)
  exact ⟨v,o,kk _ _ ho,hd⟩
 ·have hp:p∈(X.pn++pins)++[]:=hp
  rw [List.append_nil] at hp
  obtain ⟨e,n,ne,nf,d⟩:=I.pin p hp
  refine ⟨kk _ _ e,n,Nat.ne_of_lt (Heap.lt_size e),fun z=> ?_,d⟩
  rcases List.mem_cons.mp (I.stkSub p.1 z) with q|q
  ·exact ne q
  ·exact nf q
 ·unfold cst
  show _=(T++F).length
  have q:=congrArg List.length S.js
  simp at q
  simp [q]
def PIf (X:Cx) (ifs:List Expr) (t:TT):Prop:=
 ∀(pins:List (Addr×Obj)) (s:Shared) (σ:St) (H:Hp) (Q:Bool→Hp→Prop),Inv X pins σ H s→t σ H Q→
  wpAny (model X.prog X.w) X.A (forIn ifs true fun c r=>if r=true then do let ok ←isTrue c X.env (eval c X.env);pure (ForInStep.yield ok) else pure (ForInStep.yield r)) (TP X pins σ Q) X.xe s
def tYes:TT:=fun _ H Q=>Q true H
theorem pif_nil:PIf X [] tYes:=fun pins s σ H Q I h=>wpAny_tests_nil ⟨H,I,h⟩
theorem pif_one {c:Expr} {t:TT} (h:PT X c t):PIf X [c] t:=fun pins s σ H Q I hw=>wpAny_tests_one (h pins s σ H Q I hw)
def cturn (g:TG) (ti:TT) (te:TE) (D:Addr) (x:V) (σ:St) (ys:List V) (H:Hp) (N:St→List V→Hp→Prop):Prop:=
 g x σ H fun σ2 H2=>ti σ2 H2 fun b H3=>if b=true then te σ2 H3 fun y H4=>H4 D=some (.lst ys)∧ys.length<sizeLine∧N σ2 (ys++[y]) (upd H4 D (.lst (ys++[y]))) else N σ2 ys H3
def cgo (J:It) (g:TG) (ti:TT) (te:TE) (D:Addr) (σ:St) (H:Hp) (Q:VK):Prop:=
 ∃W:Nat→Nat→St→List V→Hp→Prop,(∃m,W 0 m σ [] (upd H D (.lst [])))∧∀i m σ ys H,W i m σ ys H→H D=some (.lst ys)∧
  ((J.stop i H∧Q (.ref D) H)∨(J.go i H∧∃N:St→List V→Hp→Prop,(∀σ' ys' H',N σ' ys' H'→∃m',m'<m∧W (i+1) m' σ' ys' H')∧∀x H',J.yld i H x H'→cturn g ti te D x σ ys H' N))
def tComp (wi:TI) (g:TG) (ti:TT) (te:TE) (nT:Nat) (js:List Nat):TE:=fun σ H Q=>wi σ H fun J H1=>∀D,H1 D=none→cgo J g ti te D (cst nT js σ) H1 Q
theorem comp_out {pins:List (Addr×Obj)} {σ σ':St} {H H':Hp} {s s':Shared} {h':Heap} {N:List Str} {fp:List Addr} (I:Inv X pins σ H s) (hf:∀b∈fp,FpOk X pins H b)
  (J:Inv (Bw X scope N s.heap.objs.size s H fp pins) [] σ' H' s') (sb:Heap.SameBut s.heap.objs.size s'.heap h'):Inv X pins σ H' {s' with heap:=h'}:=by
 have ne:∀b o,s.heap.get? b=some o→b≠s.heap.objs.size:=fun b o e=>Nat.ne_of_lt (Heap.lt_size e)
 have u:=J.base
 have u':Un (frs X.stack) fp H H' s.heap h':=
  ⟨fun b o e n h1 h2=>sb.extBut b o (ne b o e) (u.keep b o e n h1 h2),fun b o e n h1 h2=>by
   obtain ⟨sl,q⟩:=u.slot b o e n h1 h2
   exact ⟨sl,sb.extBut b _ (ne b o e) q⟩,u.free,fun b o e h=>by
   obtain ⟨o',q⟩:=u.there b o e h
   exact ⟨o',sb.extBut b _ (ne b o e) q⟩,u.tups,u.frzs,u.tbls⟩
 have nC:H' s.heap.objs.size=none:=J.free
 have hok:HOk X.prog X.w H' h':=fun b o e=>by
  refine (J.hok b o e).stay (fun c v hc q=>sb.extBut c v ?_ q) (fun _ q=>q) fun _ _ q=>q
  rcases hc with z|z
  ·rw [z];intro z';rw [z',nC] at e;cases e
  ·intro z';rw [z',nC] at z;cases z
 exact I.call' (s':={s' with heap:=h'}) J.os u' hok J.bare fun b hb=>by
  obtain ⟨f0,f1,f2,f3,f4,f5⟩:=hf b hb
  exact ⟨f3,f1,f4,f5⟩
theorem comp_go {tg elt iter:Expr} {ifs:List Expr} {pos:Pos} {g:TG} {ti:TT} {te:TE} {wi:TI} {pins:List (Addr×Obj)} {σ:St} {H:Hp} {s:Shared} {use:Option (Value→Sem Unit)} {QQ:Value→Shared→Prop} {Q:VK} (S:CScope X scope T F js) (hc:X.calm=true)
  (hi:PI X tg iter wi) (hg:∀C s H ex pins,PG (Bw X scope (T++F) C s H ex pins) tg g) (hif:∀C s H ex pins,PIf (Bw X scope (T++F) C s H ex pins) ifs ti) (he:∀C s H ex pins,PE (Bw X scope (T++F) C s H ex pins) elt te)
  (I:Inv X pins σ H s) (h:tComp wi g ti te T.length js σ H Q)
  (fin:∀(D C:Addr) (s':Shared) (H':Hp) (m:Str→Option Value),s'.heap.Ns C m→Q (.ref D) H'→FpOk X pins H' C→(∀h',Heap.SameBut C s'.heap h'→Inv X pins σ H' {s' with heap:=h'})→
   compPost (model X.prog X.w) X.A X.xe use QQ (.ref D) C (.ok .next) s')
  (hs:∀x,foldedSetIterable iter X.env x=pure x):
  wpAny (model X.prog X.w) X.A (comprehension (.ListComp elt [⟨tg,iter,ifs,0⟩] scope pos) scope X.env (firstIterPos [⟨tg,iter,ifs,0⟩] pos) (newList []) false (eval iter X.env) use) QQ X.xe s:=by
 refine wpAny_comprehension_free (use:=use) rfl hs (closureFor_closes fun p hp hk=> ?_) S.kind S.names (thn (hi pins s σ H _ I h) fun v s1 h1=>thn h1 fun itv s2 h2=> ?_)
 ·obtain ⟨c,e⟩:=I.ok.has p.1 (.inl (S.free p hp hk))
  rw [e];rfl
 obtain ⟨it,fp,tn,J,H2,rfl,I2,Tn,st2,f2,h2⟩:=h2
 obtain ⟨W,⟨m0,w0⟩,turn⟩:=h2 s2.heap.objs.size I2.fresh
 refine wpAny_newObj_type (wpAny_newFunctionEnv S.nocell (by intro y hy;simp at hy) (fun h₁ hns₁ hsb₁=> ?_) S.kind)
 have I3:=I2.lnew (t':=s2.toks) (ys:=[]) (its:=[]) Paired.nil (Nat.zero_le _)
 generalize hs3:({s2 with heap:=s2.heap.push {cls:= .type "list",data:= .seq ([]:List Value).toArray},toks:=s2.toks}:Shared)=s3 at I3
 have hf3:∀b∈fp,FpOk X pins (upd H2 s2.heap.objs.size (.lst [])) b∧∃o,s3.heap.get? b=some o∧∀v,o.data≠ .cell v:=fun b hb=>by
  obtain ⟨f0,fr⟩:=f2 b hb
  obtain ⟨o,e,d⟩:=Tn.obj _ _ st2 b hb
  refine ⟨⟨by rw [Ap (Nat.ne_of_lt (Heap.lt_size e))];exact f0,fr⟩,o,?_,d⟩
  rw [←hs3]
  exact Heap.get?_push_of_some _ e
 have e3:s3.heap=s2.heap.push {cls:= .type "list",data:= .seq ([]:List Value).toArray}:=by rw [←hs3]
 have kk:∀b o,s3.heap.get? b=some o→h₁.get? b=some o:=fun b o e=>by
  rw [e3] at e
  exact hsb₁.extBut b o (Nat.ne_of_lt (Heap.lt_size e)) (Heap.get?_push_of_some _ e)
 have hns:h₁.Ns s3.heap.objs.size (fun x=>([]:List (Str×Value)).reverse.lookup x):=by rw [e3];exact hns₁
 have I4:=comp_inv (tk:=s3.toks+([]:List (Str×Value)).length) S I3 hns kk hf3
 have stat:∀{H':Hp} {pl:List (Addr×Obj)},(∀p∈pl,∀b∈fp,p.1≠b)→(∀b∈fp,H' b=none)→∀b∈fp,FpOk (Bw X scope (T++F) s3.heap.objs.size s3 (upd H2 s2.heap.objs.size (.lst [])) fp pins) pl H' b:=fun {H' pl} hp hn b hb=>by
  obtain ⟨⟨f0,f1,f2,f3,f4,f5⟩,o,e,d⟩:=hf3 b hb
  obtain ⟨x1,x2⟩:=I4.ok.exf b hb
  refine ⟨hn b hb,x1,I4.ok.exfs b hb,.inl hb,x2,fun p hq=> ?_⟩
  rcases List.mem_append.mp hq with z|z
  ·exact f5 p z
  ·exact hp p z b hb
 have loop:codeAny (model X.prog X.w) X.A (.compLoop (.ListComp elt [⟨tg,iter,ifs,0⟩] scope pos) 0 (.ref it) (.ref s2.heap.objs.size) (compEnvC scope (Cg X.env scope.names []) s3.heap.objs.size X.env))
   (compPost (model X.prog X.w) X.A X.xe use QQ (.ref s2.heap.objs.size) s3.heap.objs.size) {s3 with heap:=h₁,toks:=s3.toks+([]:List (Str×Value)).length}:=by
  refine codeAny_loop rfl (fun n s'=>∃i σ' ys H',Inv (Bw X scope (T++F) s3.heap.objs.size s3 (upd H2 s2.heap.objs.size (.lst [])) fp pins) [] σ' H' s'∧tn i s'.heap∧(∀b∈fp,H' b=none)∧W i n σ' ys H') ?_ m0 ⟨0,_,[],_,I4,?_,fun b hb=>(hf3 b hb).1.1,w0⟩
  ·rintro n s5 ⟨i,σ5,ys,H5,I5,st5,fr5,w5⟩
   show wpAny _ X.A ((compTurn (.ListComp elt [⟨tg,iter,ifs,0⟩] scope pos) 0 (.ref it) (.ref s2.heap.objs.size) (compEnvC scope (Cg X.env scope.names []) s3.heap.objs.size X.env)).onRaise (fun x=>do noteFrame x _;theTreesLotGoes x)) _ _ s5
   refine wpAny_noted ?_
   rw [compTurn_list]
   refine wpAny_bind (wpAny_standAt (wpAny_bind ?_))
   obtain ⟨hD,tu⟩:=turn i n σ5 ys H5 w5
   rcases tu with ⟨stop,qq⟩|⟨go,NN,hNN,step⟩
   ·refine thn (Tn.done (Bw X scope (T++F) s3.heap.objs.size s3 (upd H2 s2.heap.objs.size (.lst [])) fp pins) rfl rfl rfl hc i [] s5 σ5 H5 _ I5 (stat (pl:=[]) (fun _ hp=>absurd hp List.not_mem_nil) fr5) st5 stop) fun r s6 ⟨hr,I6⟩=> ?_
    subst hr
    refine wpAny_pure ?_
    obtain ⟨m6,hn6,_⟩:=I6.loc
    have lC:s.heap.objs.size≤s.heap.objs.size:=Nat.le_refl _
    exact fin _ _ s6 H5 m6 hn6 qq (I3.fpOk (Nat.le_refl _) I6.free) fun h' sb=>comp_out I3 (fun b hb=>(hf3 b hb).1) I6 sb
   ·refine thn (Tn.item (Bw X scope (T++F) s3.heap.objs.size s3 (upd H2 s2.heap.objs.size (.lst [])) fp pins) rfl rfl rfl hc i [] s5 σ5 H5 _ I5 (stat (pl:=[]) (fun _ hp=>absurd hp List.not_mem_nil) fr5) st5 go) fun r s6 ⟨u,hr,h6⟩=> ?_
    subst hr
    refine wpAny_bind (thn h6 fun _ s7 ⟨x,H7,I7,r7,y7,st7,fr7⟩=> ?_)
    have I7':=I7.pinned (stat (pl:=[]) (fun _ hp=>absurd hp List.not_mem_nil) fr7) (Tn.obj _ _ st7)
    have back:∀{σ8:St} {H8:Hp} {s8:Shared} {ys8:List V} {m':Nat},Inv (Bw X scope (T++F) s3.heap.objs.size s3 (upd H2 s2.heap.objs.size (.lst [])) fp pins) ([]++pinsAt fp s7.heap) σ8 H8 s8→m'<n→W (i+1) m' σ8 ys8 H8→
      ∃m,m<n∧∃i σ' ys H',Inv (Bw X scope (T++F) s3.heap.objs.size s3 (upd H2 s2.heap.objs.size (.lst [])) fp pins) [] σ' H' s8∧tn i s8.heap∧(∀b∈fp,H' b=none)∧W i m σ' ys H':=fun {σ8 H8 s8 ys8 m'} I8 hm w8=>by
     refine ⟨m',hm,i+1,σ8,ys8,H8,I8.unpinned,Tn.keep _ _ _ st7 fun b hb o e=>(I8.pin (b,o) (List.mem_append_right _ (List.mem_append_right _ (mem_pinsAt hb e)))).1,fun b hb=> ?_,w8⟩
     obtain ⟨o,e,d⟩:=Tn.obj _ _ st7 b hb
     exact (I8.pin (b,o) (List.mem_append_right _ (List.mem_append_right _ (mem_pinsAt hb e)))).2.1
    refine wpAny_bind (wpAny_mono (hg _ _ _ _ _ _ s7 σ5 H7 x u _ I7' r7 (step x H7 y7)) (fun _ s8 ⟨σ8,H8,I8,q8⟩=> ?_) fun _ _ z=>z.elim)
    refine wpAny_bind (wpAny_mono (hif _ _ _ _ _ _ s8 σ8 H8 _ I8 q8) (fun ok s9 ⟨H9,I9,q9⟩=> ?_) fun _ _ z=>z.elim)
    cases ok with
    |false=>
     rw [if_neg Bool.false_ne_true] at q9
     obtain ⟨m',hm,w9⟩:=hNN _ _ _ q9
     exact wpAny_pure ⟨rfl,back I9 hm w9⟩
    |true=>
     rw [if_pos rfl] at q9
     refine wpAny_bind (wpAny_bind (wpAny_mono (he _ _ _ _ _ _ s9 σ8 H9 _ I9 q9) (fun yv s10 ⟨y,H10,I10,r10,d10,l10,q10⟩=> ?_) fun _ _ z=>z.elim))
     obtain ⟨m',hm,w10⟩:=hNN _ _ _ q10
     obtain ⟨z10,its,n10,rv,el,eo⟩:=I10.lstM d10
     refine wpAny_bind (wpAny_list_append_plain (items:=its.toArray) ⟨n10,eo⟩ (fun h' hl' sb'=> ?_) (by simp;omega))
     obtain ⟨n11,eo'⟩:=hl'
     have I11:=I10.write (x:=s2.heap.objs.size) (e:=s2.heap.objs.size) (o:= .lst (ys++[y])) (t':=s10.toks) (by rw [d10];exact trivial) (.inl rfl) (fun b o hb e=>sb'.extBut b o hb e) ⟨_,eo'⟩ ⟨by simp;assumption,its++[yv],n11,rv.append (.cons r10 .nil),by simpa using eo'⟩
     exact wpAny_pure (wpAny_pure ⟨rfl,back I11 hm w10⟩)
  ·refine Tn.keep _ _ _ st2 fun b hb o e=>kk b o ?_
   rw [e3]
   exact Heap.get?_push_of_some _ e
 have st1:tn 0 h₁:=Tn.keep _ _ _ st2 fun b hb o e=>kk b o (by rw [e3];exact Heap.get?_push_of_some _ e)
 exact codeAny_compStart_list loop (Tn.self _ 0 _ _ _ st1 loop)
theorem pe_comp {tg elt iter:Expr} {ifs:List Expr} {pos:Pos} {g:TG} {ti:TT} {te:TE} {wi:TI} (S:CScope X scope T F js) (hc:X.calm=true)
  (hi:PI X tg iter wi) (hg:∀C s H ex pins,PG (Bw X scope (T++F) C s H ex pins) tg g) (hif:∀C s H ex pins,PIf (Bw X scope (T++F) C s H ex pins) ifs ti) (he:∀C s H ex pins,PE (Bw X scope (T++F) C s H ex pins) elt te)
  (hs:∀x,foldedSetIterable iter X.env x=pure x:=by intro _;rfl):PE X (.ListComp elt [⟨tg,iter,ifs,0⟩] scope pos) (tComp wi g ti te T.length js):=by
 intro pins s σ H Q I h
 rw [eval_ListComp]
 exact comp_go (use:=none) S hc hi hg hif he I h (fun D C s' H' m hn q _ hinv=>⟨m,hn,fun h' sb=>⟨.ref D,H',hinv h' sb,rfl,q⟩⟩) hs
theorem ps_comp {i:Nat} {x:Str} {pos' spos:Pos} {tg elt iter:Expr} {ifs:List Expr} {pos:Pos} {g:TG} {ti:TT} {te:TE} {wi:TI} (hN:X.N.Nodup) (hx1:X.N[i]? =some x) (hx2:Loc X.env.scope x) (S:CScope X scope T F js) (hc:X.calm=true)
  (hi:PI X tg iter wi) (hg:∀C s H ex pins,PG (Bw X scope (T++F) C s H ex pins) tg g) (hif:∀C s H ex pins,PIf (Bw X scope (T++F) C s H ex pins) ifs ti) (he:∀C s H ex pins,PE (Bw X scope (T++F) C s H ex pins) elt te)
  (hsw:swapsWith (.ListComp elt [⟨tg,iter,ifs,0⟩] scope pos) (some (.Name x pos')) spos.line X.env=pure true:=by rfl)
  (hf:X.fn x=true∨X.env.scope.names.lookup x=some .local:=by first|exact .inl rfl|exact .inr rfl|assumption)
  (hs:∀x,foldedSetIterable iter X.env x=pure x:=by intro _;rfl):PS X (.Assign [.Name x pos'] (.ListComp elt [⟨tg,iter,ifs,0⟩] scope pos) spos) (tAsg (tComp wi g ti te T.length js) (gName i)):=by
 intro pins s σ H D I h
 rw [exec_Assign_Name_used _ _ _ _ hsw]
 refine wpAny_bind (wpAny_standAt (wpAny_bind ?_))
 show wpAny _ X.A (do let _ ←comprehension (.ListComp elt [⟨tg,iter,ifs,0⟩] scope pos) scope X.env _ (newList []) false (eval iter X.env) (some (assign (.Name x pos') X.env))) _ _ s
 refine wpAny_bind (wpAny_mono (comp_go (use:=some (assign (.Name x pos') X.env)) (QQ:=fun _ s'=>SP X pins D .next s') S hc hi hg hif he I h (fun d C s' H' m hn q fC hinv=> ?_) hs) (fun _ s' hq=>wpAny_pure (wpAny_pure hq)) fun _ _ e=>e)
 have I1:Inv X pins σ H' s':=hinv s'.heap (Heap.SameBut.refl ..)
 obtain ⟨oC,es,ep,ho,hd,hr⟩:=id hn
 obtain ⟨f0,f1,f2,f3,f4,f5⟩:=fC
 have I2:Inv X (pins++[(C,oC)]) σ H' s':=I1.pins_of fun p hp=>(List.mem_append.mp hp).elim (fun z=>I1.pin p (List.mem_append_right _ z)) fun z=>by
  have e:=List.mem_singleton.mp z
  subst e
  exact ⟨ho,f0,f1,f2,fun v z=>by rw [hd] at z;cases z⟩
 show wpAny _ X.A (assign (.Name x pos') X.env (.ref d)) _ _ _
 refine wpAny_assign_Name (store_ok (v:= .ref d) I2 hN hx1 hx2 rfl (fun s'' I''=> ?_) hf)
 have e2:=(I''.pin (C,oC) (List.mem_append_right _ (List.mem_append_right _ (List.mem_singleton.mpr rfl)))).1
 refine ⟨m,⟨oC,es,ep,e2,hd,hr⟩,fun h' sb=> ?_⟩
 exact ⟨_,H',I''.unpinned.turned (t':=s''.toks) (it:=C) (fun b o hb e=>sb.extBut b o hb e) f0 f1 f3 f4 f5,q⟩
end
section
variable {g:TG} {ti:TT} {te:TE} {Q:VK} {D:Addr} {σ:St} {H:Hp}
theorem comp_list {K:PySem.W.Frag} {a:Addr} {xs:List V} (Pv:Nat→St→List V→Hp→Prop) (h0:Pv 0 σ [] (upd H D (.lst []))) (hl:∀i σ ys H,i≤xs.length→Pv i σ ys H→SqL K H a xs∧H D=some (.lst ys))
  (hs:∀i x σ ys H,xs[i]? =some x→Pv i σ ys H→cturn g ti te D x σ ys H (Pv (i+1))) (hd:∀σ ys H,Pv xs.length σ ys H→Q (.ref D) H):
  cgo (Itl K a) g ti te D σ H Q:=by
 refine ⟨fun i m σ ys H=>m=xs.length - i∧i≤xs.length∧Pv i σ ys H,⟨xs.length,by simp,Nat.zero_le _,h0⟩,?_⟩
 rintro i m σ ys H ⟨rfl,hi,p⟩
 obtain ⟨q,hD⟩:=hl i σ ys H hi p
 refine ⟨hD,?_⟩
 by_cases hlt:i<xs.length
 ·refine .inr ⟨⟨xs,xs[i],q,by simp [hlt]⟩,Pv (i+1),fun σ' ys' H' p'=>⟨xs.length - (i+1),by omega,rfl,hlt,p'⟩,fun x H' y=> ?_⟩
  obtain ⟨e,y⟩:=y
  subst e
  exact (hs i x σ ys _ (y xs q) p)
 ·have e:i=xs.length:=by omega
  subst e
  exact .inl ⟨⟨xs,q,Nat.le_refl _⟩,hd σ ys H p⟩
theorem comp_tup {K:PySem.W.Frag} {a:Addr} {xs:List V} (Pv:Nat→St→List V→Hp→Prop) (h0:Pv 0 σ [] (upd H D (.lst []))) (hl:∀i σ ys H,i≤xs.length→Pv i σ ys H→SqT K H a xs∧H D=some (.lst ys))
  (hs:∀i x σ ys H,xs[i]? =some x→Pv i σ ys H→cturn g ti te D x σ ys H (Pv (i+1))) (hd:∀σ ys H,Pv xs.length σ ys H→Q (.ref D) H):
  cgo (Itt K a) g ti te D σ H Q:=by
 refine ⟨fun i m σ ys H=>m=xs.length - i∧i≤xs.length∧Pv i σ ys H,⟨xs.length,by simp,Nat.zero_le _,h0⟩,?_⟩
 rintro i m σ ys H ⟨rfl,hi,p⟩
 obtain ⟨q,hD⟩:=hl i σ ys H hi p
 refine ⟨hD,?_⟩
 by_cases hlt:i<xs.length
 ·refine .inr ⟨⟨xs,xs[i],q,by simp [hlt]⟩,Pv (i+1),fun σ' ys' H' p'=>⟨xs.length - (i+1),by omega,rfl,hlt,p'⟩,fun x H' y=> ?_⟩
  obtain ⟨e,y⟩:=y
  subst e
  exact (hs i x σ ys _ (y xs q) p)
 ·have e:i=xs.length:=by omega
  subst e
  exact .inl ⟨⟨xs,q,Nat.le_refl _⟩,hd σ ys H p⟩
theorem comp_range {lo:Int} {n:Nat} (Pv:Nat→St→List V→Hp→Prop) (h0:Pv 0 σ [] (upd H D (.lst []))) (hl:∀i σ ys H,i≤n→Pv i σ ys H→H D=some (.lst ys))
  (hs:∀i σ ys H,i<n→Pv i σ ys H→cturn g ti te D (.int (lo+i)) σ ys H (Pv (i+1))) (hd:∀σ ys H,Pv n σ ys H→Q (.ref D) H):
  cgo (Itr lo n) g ti te D σ H Q:=by
 refine ⟨fun i m σ ys H=>m=n - i∧i≤n∧Pv i σ ys H,⟨n,by simp,Nat.zero_le _,h0⟩,?_⟩
 rintro i m σ ys H ⟨rfl,hi,p⟩
 have hD:=hl i σ ys H hi p
 refine ⟨hD,?_⟩
 by_cases hlt:i<n
 ·refine .inr ⟨hlt,Pv (i+1),fun σ' ys' H' p'=>⟨n - (i+1),by omega,rfl,hlt,p'⟩,fun x H' y=> ?_⟩
  obtain ⟨e,y⟩:=y
  subst e y
  exact (hs i σ ys _ hlt p)
 ·have e:i=n:=by omega
  subst e
  exact .inl ⟨Nat.le_refl _,hd σ ys H p⟩
end
end L2
namespace L2
open PySem PySem.Spec PyProof.Rows
mutual
inductive Rep (K:PySem.W.Frag) (H:Hp):V→PyData→Prop
 |non:Rep K H .non .none
 |bl (b:Bool):Rep K H (.bl b) (.bool b)
 |int (i:Int):Rep K H (.int i) (.int i)
 |str (x:Str):Rep K H (.str x) (.str x)
 |lst {a:Addr} {xs:List V} {ds:List PyData}:SqL K H a xs→RepAll K H xs ds→Rep K H (.ref a) (.list ds)
 |tup {a:Addr} {xs:List V} {ds:List PyData}:SqT K H a xs→RepAll K H xs ds→Rep K H (.ref a) (.tuple ds)
inductive RepAll (K:PySem.W.Frag) (H:Hp):List V→List PyData→Prop
 |nil:RepAll K H [] []
 |cons {x:V} {xs:List V} {d:PyData} {ds:List PyData}:Rep K H x d→RepAll K H xs ds→RepAll K H (x::xs) (d::ds)
end
mutual
theorem Rep.reads {X:Cx} {pins:List (Addr×Obj)} {σ:St} {H:Hp} {s:Shared} (I:Inv X pins σ H s):∀{v:V} {d:PyData} {u:Value},Rep X.K H v d→RelV v u→∃as,Reads s.heap u d as
 |_,_,_,.non,r=>by cases r;exact ⟨_,.none⟩
 |_,_,_,.bl b,r=>by cases r;exact ⟨_,.bool b⟩
 |_,_,_,.int i,r=>by obtain ⟨t,rfl⟩:=r;exact ⟨_,.int i t⟩
 |_,_,_,.str x,r=>by obtain ⟨t,rfl⟩:=r;exact ⟨_,.str x t⟩
 |_,_,_,.lst hq hx,r=>by
  cases r
  obtain ⟨its,rv,hl,hz⟩:=I.list hq
  obtain ⟨as,ra⟩:=RepAll.reads I hx rv
  obtain ⟨o,ho,hc,n,hd⟩:=hl.isList
  exact ⟨_,.list ho hc hd ra⟩
 |_,_,_,.tup hq hx,r=>by
  cases r
  obtain ⟨its,rv,hl,hz⟩:=I.tuple hq
  obtain ⟨as,ra⟩:=RepAll.reads I hx rv
  obtain ⟨o,ho,hc,n,hd⟩:=hl
  exact ⟨_,.tuple ho hc hd ra⟩
theorem RepAll.reads {X:Cx} {pins:List (Addr×Obj)} {σ:St} {H:Hp} {s:Shared} (I:Inv X pins σ H s):∀{xs:List V} {ds:List PyData} {us:List Value},RepAll X.K H xs ds→Vals xs us→∃as,ReadsAll s.heap us ds as
 |_,_,_,.nil,.nil=>⟨_,.nil⟩
 |_,_,_,.cons h t,.cons r rs=>by
  obtain ⟨a,ra⟩:=Rep.reads I h r
  obtain ⟨b,rb⟩:=RepAll.reads I t rs
  exact ⟨_,.cons ra rb⟩
end
section
variable {X:Cx} {a b c e:Expr} {ta tb tc te:TE} {pos p2:Pos}
theorem call_sum (hc:X.calm=true):By X (.builtin "sum") (fun xs H Q=>∃(p:Addr) (ns:List Int),xs=[.ref p]∧SqL X.K H p (ns.map V.int)∧Q (.int ns.sum) H):=by
 intro pins s σ H xs us Q I r h
 obtain ⟨p,ns,rfl,hq,q⟩:=h
 obtain ⟨u,rfl,rx⟩:=Ce r
 cases rx
 obtain ⟨its,rv,hl,hz⟩:=I.list hq
 have hi:=intsAre_of rv
 obtain ⟨ys,e⟩:=hi.allInts.items
 have hl':=hl.isList
 rw [e] at hl'
 refine sum_intListG (I.ok.hd hc) hl' fun h' tk t' hk=>⟨.int ns.sum,H,I.kept hk,⟨t',?_⟩,q⟩
 have e2:ys.toList.map (·.1)=ns:=by
  have q2:=nums_intItems ys
  rw [←e] at q2
  rw [←q2]
  exact hi.numsOf
 rw [preSum_eq,e2,List.take_of_length_le (by rw [←e2];simp)]
theorem Bd:By X (.builtin "isinstance") (fun xs H Q=>∃(x:V) (t:Value) (c:String) (b:Bool),xs=[x,.ty c]∧TyOf X.K H x t∧PySem.W.kitOne X.K t (.type c)=some b∧Q (.bl b) H):=by
 intro pins s σ H xs us Q I r h
 obtain ⟨x,t,c,b,rfl,ty,e,q⟩:=h
 obtain ⟨u,v,rfl,rx,ry⟩:=vals2 r
 cases ry
 exact isinst_ok I rx ty e fun tk=>⟨.bl b,H,I.tok tk,rfl,q⟩
theorem pe_ty {x:Str} {T:String} (hg:Gl X x) (hm:X.mg x=none) (hv:bootBuiltins x=some (.type T)) (hn:x≠"__name__":=by decide) (hd:(x==("__debug__":Str))=false:=by decide):PE X (.Name x pos) (tC (.ty T)):=
 fun pins s σ H Q I h=>ld_blt I hg hm hv ⟨.ty T,H,I,rfl,h⟩ hn hd
def rints (i:Int) (n:Nat):List Int:=(List.range n).map fun (k:Nat)=>i+(k:Int)
inductive RCatTTP (K:PySem.W.Frag) (x:V) (y:V) (H:Hp) (Q:VK):Prop
 |mk (a b:Addr) (xs ys:List V):(x= .ref a)→(y= .ref b)→(SqT K H a xs)→(SqT K H b ys)→(xs.length+ys.length≤sizeLine)→((xs=[]→Q (.ref b) H))→((xs≠[]→ys=[]→Q (.ref a) H))→((xs≠[]→ys≠[]→∀p,H p=none→Q (.ref p) (upd H p (.tup (xs++ys)))))→RCatTTP K x y H Q
def rCatTT (K:PySem.W.Frag):R2:=fun x y H Q=>RCatTTP K x y H Q
theorem Bv:OpR X (binaryOp .Add) (rCatTT X.K):=by
 intro pins s σ H x y u v Q I rx ry h
 obtain ⟨p,q,xs,ys,rfl,rfl,hx,hy,hz,h1,h2,h3⟩:=h
 cases rx;cases ry
 obtain ⟨its,r1,t1,z1⟩:=I.tuple hx
 obtain ⟨its2,r2,t2,z2⟩:=I.tuple hy
 have l1:=r1.length
 have l2:=r2.length
 by_cases e:xs=[]
 ·subst e
  have ei:its=[]:=by cases its with|nil=>rfl|cons _ _=>cases l1
  subst ei
  obtain ⟨⟨cls,dd,data,sl⟩,ho,hc,n,hd⟩:=id t1
  obtain ⟨⟨cls2,dd2,data2,sl2⟩,ho2,hc2,n2,hd2⟩:=id t2
  simp only at hc hd hc2 hd2
  subst hc hd hc2 hd2
  exact PySem.concat_meets ⟨_,ho,rfl⟩ ⟨_,ho2,rfl⟩ noFill_tuple_add seq_tuple_add PySem.F.slot_tuple_add PySem.F.entry_tuple_add (PySem.F.args_tuple_add_2 _ _)
   (tuple_addW0 p q _ _ n n2 dd dd2 sl sl2 (by rfl)) ⟨ho,ho2,⟨.ref q,H,I,rfl,h1 rfl⟩⟩
 ·refine HT.cat_tup t1 t2 (fun z=>e ((Vals.nil_iff r1).mp z)) (fun z=>⟨.ref p,H,I,rfl,h2 e ((Vals.nil_iff r2).mp z)⟩) (fun z=> ?_) (by omega)
  exact ⟨.ref s.heap.objs.size,_,I.laid (t':=s.toks) (o:= .tup (xs++ys)) (fun b ob q=>Heap.get?_push_of_some _ q) (Nat.le_refl _) ⟨by simpa using hz,its++its2,r1.append r2,IsTupN.new _ _⟩,rfl,h3 e (fun z'=>z ((Vals.nil_iff r2).mpr z')) _ I.fresh⟩
end
section
variable {prog:Program} {w:World} {A:Around} {E:Value→Shared→Prop}
variable {s:Shared}
end
end L2
namespace L2
open PySem PySem.Spec PyProof.Rows
section
variable {X:Cx} {a b c e:Expr} {ta tb tc te:TE} {pos p2:Pos}
inductive RSlSP (x:V) (lo:Option Int) (hi:Option Int) (H:Hp) (Q:VK):Prop
 |mk (z:_):(x= .str z)→(z.length≤sizeLine)→(Q (.str (Txt.slice z lo hi)) H)→RSlSP x lo hi H Q
def rSlS:V→Option Int→Option Int→Hp→VK→Prop:=fun x lo hi H Q=>RSlSP x lo hi H Q
theorem sl_str:SlR X rSlS:=by
 intro pins s σ H x v vl vu lo hi sl Q I rx hs pl pu h
 obtain ⟨z,rfl,hz,q⟩:=h
 obtain ⟨t,rfl⟩:=rx
 refine ⟨"str",_,PySem.F.slot_str_getitem.lookup,typeIs_str _ _ _,?_⟩
 have fin:∀t' k,EP X pins σ Q (.str (Txt.slice z lo hi) t') {s with toks:=k}:=fun t' k=>⟨.str _,H,I.tok k,⟨t',rfl⟩,q⟩
 cases pl with
 |none=>
  cases pu with
  |none=>exact wpAny_getItem_str_slice (l:=none) (u:=none) (st:=none) hs rfl (post_val_or_str ⟨Nat.le_trans (Txt.slice_le z _ _) hz,fin⟩)
  |int j tj=>exact wpAny_getItem_str_slice (l:=none) (u:=some (j,tj)) (st:=none) hs rfl (post_val_or_str ⟨Nat.le_trans (Txt.slice_le z _ _) hz,fin⟩)
 |int i ti=>
  cases pu with
  |none=>exact wpAny_getItem_str_slice (l:=some (i,ti)) (u:=none) (st:=none) hs rfl (post_val_or_str ⟨Nat.le_trans (Txt.slice_le z _ _) hz,fin⟩)
  |int j tj=>exact wpAny_getItem_str_slice (l:=some (i,ti)) (u:=some (j,tj)) (st:=none) hs rfl (post_val_or_str ⟨Nat.le_trans (Txt.slice_le z _ _) hz,fin⟩)
theorem strsAre_of:∀{ys:List Str} {us:List Value},Vals (ys.map V.str) us→StrsAre us ys
 |[],_,.nil=> .nil
 |y::ys,_,.cons h t=>by
  obtain ⟨u,rfl⟩:=h
  exact .cons y u (strsAre_of t)
inductive RJoinP (K:PySem.W.Frag) (x:V) (vs:List V) (H:Hp) (Q:VK):Prop
 |mk (z:Str) (l:Addr) (ys:List Str):(x= .str z)→(vs=[.ref l])→(SqL K H l (ys.map V.str))→((ys.map (·.length)).sum+ys.length * z.length≤16777216)→(Q (.str (Txt.join z ys)) H)→RJoinP K x vs H Q
def rJoin (K:PySem.W.Frag):V→List V→Hp→VK→Prop:=fun x vs H Q=>RJoinP K x vs H Q
theorem mt_join:MtM X "str.join" (rJoin X.K):=by
 intro pins s σ H x xs v us Q I rx r h
 obtain ⟨z,l,ys,rfl,rfl,hl,hz,q⟩:=h
 obtain ⟨t,rfl⟩:=rx
 obtain ⟨u,rfl,ru⟩:=Ce r
 cases ru
 obtain ⟨its,rv,hp,_⟩:=I.list hl
 exact join_list hp.isList (strsAre_of rv) hz fun t' k=>⟨.str _,H,I.tok k,⟨t',rfl⟩,q⟩
theorem call_all (hc:X.calm=true):By X (.builtin "all") (fun xs H Q=>∃(p:Addr) (bs:List Bool),xs=[.ref p]∧SqL X.K H p (bs.map V.bl)∧Q (.bl (bs.all id)) H):=by
 intro pins s σ H xs us Q I r h
 obtain ⟨p,bs,rfl,hq,q⟩:=h
 obtain ⟨u,rfl,rx⟩:=Ce r
 cases rx
 obtain ⟨its,rv,hl,hz⟩:=I.list hq
 have hlen:=rv.length
 rw [List.length_map] at hlen
 refine call_all_walk (wpAny_pyIter_list hl.isList ?_)
 have hne:p≠s.heap.objs.size:=by obtain ⟨o,ho,_⟩:=hl.isList;exact Nat.ne_of_lt (Heap.lt_size ho)
 refine ⟨_,_,_,_,_,_,fun i=>bs.getD i true,rfl,Walks.list (A:=X.A.in1) (I.ok.hd hc) _ p hne its.toArray,⟨⟨_,Heap.get?_push_size _ rfl,rfl,rfl⟩,hl.isList.push _⟩,?_,fun h' tk hk=> ?_⟩
 ·intro i v s' Q' E' hP hQ
  have hi:its[i]? =some v:=by simpa using hP
  have hb:∃b,bs[i]? =some b∧v= .bool b:=by
   have hil:i<bs.length:=by rw [hlen];exact (List.getElem?_eq_some_iff.mp hi).1
   obtain ⟨u,e1,e2⟩:=rv.get (i:=i) (x:= .bl bs[i]) (by simp [hil])
   rw [hi] at e1;cases e1
   exact ⟨bs[i],by simp [hil],e2⟩
  obtain ⟨b,e1,rfl⟩:=hb
  have:bs.getD i true=b:=by simp [List.getD,e1]
  dsimp only at hQ
  rw [this] at hQ
  exact wpAny_truthy_bool hQ
 ·have e:(List.range its.toArray.size).all (fun i=>bs.getD i true)=bs.all id:=by
   rw [List.size_toArray,←hlen]
   have key:∀(bs:List Bool),(List.range bs.length).all (fun i=>bs.getD i true)=bs.all id:=by
    intro bs
    rw [Bool.eq_iff_iff,List.all_eq_true,List.all_eq_true]
    constructor
    ·intro h b hb
     obtain ⟨i,hi,e⟩:=List.getElem_of_mem hb
     have:=h i (List.mem_range.mpr hi)
     simpa [List.getD,hi,e] using this
    ·intro h i hi
     have hi:=List.mem_range.mp hi
     have:=h bs[i] (List.getElem_mem hi)
     simpa [List.getD,hi] using this
   exact key bs
  rw [e]
  exact ⟨.bl (bs.all id),H,I.kept (fun b o eo=>hk b o (by
   intro z
   have z:=List.mem_singleton.mp z
   exact absurd (Heap.lt_size eo) (by rw [z];exact Nat.lt_irrefl _)) (Heap.get?_push_of_some _ eo)),rfl,q⟩
end
def relab (scope osc:Scope):Scope:={scope with names:=scope.names.map fun (n,k)=>if (k== .free && osc.kind== .function && osc.names.lookup n==some .cell) then (n,.cell) else (n,k)}
structure CS (osc scope:Scope) (T F:List Str):Prop where
 kind:scope.kind= .function
 nocell:∀y∈scope.names,y.2≠ .cell
 names:∀x∈scope.names,x.2= .local→scope.names.lookup x.1=some .local
 free:∀x∈scope.names,x.2= .free→osc.names.lookup x.1=some .cell
 loc:∀y∈T,(relab scope osc).names.lookup y=some .local
 cel:∀y∈F,(relab scope osc).names.lookup y=some .cell∧osc.names.lookup y=some .cell∧(y,NameKind.free)∈scope.names
 all:∀x∈(relab scope osc).names,(x.2= .cell∨x.2= .free)→(x.1,NameKind.free)∈scope.names
theorem CS.to {X:Cx} {scope osc:Scope} {T F:List Str} {js:List Nat} (h:CS osc scope T F) (hj:js.map (fun j=>X.N[j]?)=F.map some) (ho:X.env.scope=osc):CScope X scope T F js:=by
 subst ho
 exact ⟨h.kind,h.nocell,h.names,h.free,h.loc,h.cel,h.all,hj⟩
theorem PSs.imp' {X:Cx} {st:List PySem.Stmt} {t t':TS} (h:PSs X st t) (f:∀D σ H,t' D σ H→t D σ H):PSs X st t':=fun pins s σ H D I h'=>h pins s σ H D I (f D σ H h')
end L2
namespace L2
open PySem PySem.Spec PyProof.Rows
section
variable {X:Cx} {pins:List (Addr×Obj)} {σ:St} {H:Hp} {s:Shared}
theorem Inv.turnedL {t':Nat} {h':Heap} (ch:List Addr) (I:Inv X pins σ H s) (k:∀b o,b ∉ ch→s.heap.get? b=some o→h'.get? b=some o) (hf:∀b∈ch,FpOk X pins H b):Inv X pins σ H {s with heap:=h',toks:=t'}:=by
 have out:∀b u,H b=some u→b ∉ ch:=fun b u e z=>by rw [(hf b z).1] at e;cases e
 have outL:X.env.locals ∉ ch:=fun z=>(hf _ z).2.1 rfl
 refine I.step (g':=s.gens) (d':=s.drawn) (ch:=ch) (fun b hb=>⟨(hf b hb).2.2.2.1,(hf b hb).2.1,(hf b hb).2.2.2.2.1,(hf b hb).2.2.2.2.2⟩) (fun b o _ _ hc e _=>k b o hc e) (fun b o _ _ hc e _=>⟨o.slots,k b o hc e⟩)
  (fun _ _ _ _ n=>n) (fun b o hc e=>⟨o,k b o hc e⟩) (fun _ _ e=>e) (fun _ _ _ e=>e) (fun b ps e=>⟨#[],by rw [e];simp⟩) (fun m hm=> ?_) (fun b u e=> ?_) I.bare
 ·obtain ⟨o,es,ep,ho,r⟩:=hm
  exact ⟨o,es,ep,k _ o outL ho,r⟩
 ·refine (I.hok b u e).stay (fun c v hc q=>k c v ?_ q) (fun _ q=>q) fun _ _ q=>q
  rcases hc with z|z
  ·rw [z];exact out b u e
  ·exact out c _ z
theorem FpOk.up {b T:Addr} {o:HO} (h:FpOk X pins H b) (n:b≠T):FpOk X pins (upd H T o) b:=⟨by rw [Ap n];exact h.1,h.2⟩
end
end L2
namespace PySem
open Builtin
section
variable {prog:Program} {w:World} {A:Around} {E:Value→Shared→Prop} {s:Shared}
theorem nextOf_tup {it t:Addr} {i:Nat} {its:Array Value} {x:Value} {Q:Value→Shared→Prop} (hi:s.heap.IsTupleIter it t i) (ht:s.heap.IsTuple t its) (hx:its[i]? =some x)
  (hQ:∀h',h'.IsTupleIter it t (i+1)→Heap.SameBut it s.heap h'→Q x {s with heap:=h'}):wpAny (model prog w) A (Builtin.SmallTypes.nextOf (.ref it)) Q E s:=by
 obtain ⟨oi,gi,ci,di⟩:=id hi
 obtain ⟨ot,gt,_,nt,dt⟩:=ht
 unfold Builtin.SmallTypes.nextOf
 refine wpAny_bind (wpAny_callSpecial?_slot (name:=Str.ofString "__next__") hi.typeIs F.slot_tuple_iterator_next (wpAny_call_entry F.slot_tuple_iterator_next hi.typeIs F.entry_tuple_iterator_next ?_ (F.args_tuple_iterator_next_1 _)))
 show wpAny _ _ (field (.ref it) 0 >>=fun _=>_) _ _ s
 refine wpAny_bind (wpAny_field gi di (x:= .ref t) rfl ?_)
 show wpAny _ _ (ite ((Value.ref t==Value.none)=true) _ _) _ _ s
 have ng:¬((Value.ref t==Value.none)=true):=Bool.false_ne_true
 rw [if_neg ng]
 show wpAny _ _ (field (.ref it) 1 >>=fun _=>_) _ _ s
 refine wpAny_bind (wpAny_field gi di (x:= .int i 0) rfl ?_)
 show wpAny _ _ (seqItems? (.ref t) >>=fun _=>_) _ _ s
 refine wpAny_bind (wpAny_seqItems gt dt ?_)
 simp only [Int.toNat_natCast,hx]
 refine wpAny_bind (wpAny_setField gi di (by simp) (wpAny_pure ⟨x,rfl,wpAny_pure (hQ _ ⟨_,Heap.get?_update_self _ gi (Obj.isFreed_of_fields (Obj.data_mapFields di _)),(Obj.cls_mapFields ..).trans ci,?_⟩ (Heap.SameBut.update ..))⟩))
 rw [Obj.data_mapFields di]
 simp [rawInt]
theorem nextOf_tup_end {it t:Addr} {i:Nat} {its:Array Value} {Q:Value→Shared→Prop} (hh:A.handled=none) (hi:s.heap.IsTupleIter it t i) (ht:s.heap.IsTuple t its) (hx:its[i]? =none)
  (hE:∀h' e,Heap.ExtBut it s.heap h'→(∃o,h'.get? e=some o∧o.cls= .type "StopIteration")→E (.ref e) {s with heap:=h'}):wpAny (model prog w) A (Builtin.SmallTypes.nextOf (.ref it)) Q E s:=by
 obtain ⟨oi,gi,ci,di⟩:=id hi
 obtain ⟨ot,gt,_,nt,dt⟩:=ht
 unfold Builtin.SmallTypes.nextOf
 refine wpAny_bind (wpAny_callSpecial?_slot (name:=Str.ofString "__next__") hi.typeIs F.slot_tuple_iterator_next (wpAny_call_entry F.slot_tuple_iterator_next hi.typeIs F.entry_tuple_iterator_next ?_ (F.args_tuple_iterator_next_1 _)))
 show wpAny _ _ (field (.ref it) 0 >>=fun _=>_) _ _ s
 refine wpAny_bind (wpAny_field gi di (x:= .ref t) rfl ?_)
 show wpAny _ _ (ite ((Value.ref t==Value.none)=true) _ _) _ _ s
 have ng:¬((Value.ref t==Value.none)=true):=Bool.false_ne_true
 rw [if_neg ng]
 show wpAny _ _ (field (.ref it) 1 >>=fun _=>_) _ _ s
 refine wpAny_bind (wpAny_field gi di (x:= .int i 0) rfl ?_)
 show wpAny _ _ (seqItems? (.ref t) >>=fun _=>_) _ _ s
 refine wpAny_bind (wpAny_seqItems gt dt ?_)
 simp only [Int.toNat_natCast,hx]
 refine wpAny_bind (wpAny_rule (wpAny_bind (wpAny_setField gi di (by simp) ?_)))
 show wpAny _ _ (newExc (.type "StopIteration") [] >>=fun _=>_) _ _ _
 refine wpAny_bind ?_
 simp only [newExc,newTuple]
 refine wpAny_bind (wpAny_newObj_type ?_ (by size_fits))
 refine wpAny_bind (m:=firstArgMember _ _) (wpAny_of_eq (a:=Value.none) (by first|rfl|(simp only [firstArgMember];rfl)) ?_)
 refine wpAny_newObj_type ?_ (by size_fits)
 simp only [raiseNew]
 refine wpAny_bind (wpAny_handled ?_)
 first|rw [show A.in1.handled=none from hh]|rw [hh]
 exact wpAny_bind (wpAny_pure (wpAny_throw (hE _ _ (((Heap.SameBut.update ..).extBut.push _).push _) ⟨_,Heap.get?_push_size _ rfl,rfl⟩)))
theorem Draws.tup {prog:Program} {w:World} {A:Around} (hh:A.handled=none) (it t:Addr) (hne:t≠it) (its:Array Value):
  Draws prog w A it [it,t] its.size (fun i v=>its[i]? =some v) (fun i h=>h.IsTupleIter it t i∧h.IsTuple t its) where
 live:=fun _ _ st=>⟨st.1.choose,st.1.choose_spec.1⟩
 frame:=fun _ _ _ st hk=>⟨st.1.at fun o e=>hk it (by simp) o e,let ⟨o,ho,r⟩:=st.2;⟨o,hk t (by simp) o ho,r⟩⟩
 item:=fun i s Q E hi st hQ=>by
  refine nextOf_tup st.1 st.2 (x:=its[i]) (by simp [hi]) fun h' hit' hs'=> ?_
  exact hQ _ h' s.toks (by simp [hi]) ⟨hit',let ⟨o,ho,r⟩:=st.2;⟨o,hs'.extBut _ _ hne ho,r⟩⟩ hs'
 done:=fun s Q E st hE=>nextOf_tup_end hh st.1 st.2 (by simp) hE
end
end PySem
namespace PySem
open Builtin
structure ZAp (z TI TO i1 i2:Addr) (f1 f2:List Addr):Prop where
 a1:TI≠z
 a2:TO≠z
 a3:i1≠z
 a4:i2≠z
 a5:TI≠TO
 a6:TI≠i1
 a7:TI≠i2
 a8:TO≠i1
 a9:TO≠i2
 b1:i1≠i2
 b2:z ∉ f1
 b3:z ∉ f2
 b4:TO ∉ f1
 b5:TO ∉ f2
 b6:i1 ∉ f2
 b7:i2 ∉ f1
section
variable {prog:Program} {w:World} {A:Around} {E:Value→Shared→Prop} {s:Shared} {z TI TO i1 i2:Addr} {f1 f2:List Addr} {n1 n2:Nat} {P1 P2:Nat→Value→Prop} {S1 S2:Nat→Heap→Prop}
theorem zip_itemD {k:Nat} {a b:Value} {Q:Value→Shared→Prop} (D:ZAp z TI TO i1 i2 f1 f2) (D1:Draws prog w A i1 f1 n1 P1 S1) (D2:Draws prog w A i2 f2 n2 P2 S2)
  (hZ:IsZip s.heap z TI TO .none) (pI:IsPair s.heap TI (.ref i1) (.ref i2)) (pO:IsPair s.heap TO a b) (t1:S1 k s.heap) (t2:S2 k s.heap) (l1:k<n1) (l2:k<n2)
  (hQ:∀h' tk x y,P1 k x→P2 k y→IsZip h' z TI TO (rawInt s.heap.objs.size)→IsPair h' TO x y→S1 (k+1) h'→S2 (k+1) h'→IsPair h' s.heap.objs.size x y→
   (∀c o,c≠z→c≠TO→c≠i1→c≠i2→s.heap.get? c=some o→h'.get? c=some o)→Q (.ref s.heap.objs.size) {s with heap:=h',toks:=tk}):
  wpAny (model prog w) A (Builtin.«zip.__next__» ⟨[.ref z],[]⟩) (fun fin s'=>∃v,fin= .done (.ret v)∧Q v s') E s:=by
 show wpAny _ _ (field (.ref z) 2 >>=fun _=>_) _ _ _
 refine wpAny_bind (wpAny_field hZ rfl (x:= .bool false) rfl ?_)
 show wpAny _ _ (field (.ref z) 3 >>=fun _=>_) _ _ _
 refine wpAny_bind (wpAny_field hZ rfl (x:= .ref TI) rfl ?_)
 refine wpAny_bind (wpAny_seqItems pI rfl ?_)
 show wpAny _ _ (Builtin.SmallTypes.ownedTupleIsFree (.ref z) >>=fun _=>_) _ _ _
 refine wpAny_bind ?_
 unfold Builtin.SmallTypes.ownedTupleIsFree
 refine wpAny_bind (wpAny_field hZ rfl (x:= .none) rfl (wpAny_pure ?_))
 simp only [if_true]
 refine wpAny_bind (wpAny_rule (wpAny_bind (wpAny_field hZ rfl (x:= .ref TO) rfl ?_)))
 refine wpAny_bind (wpAny_setField_rec hZ (by simp) fun g1 zg1 k1=> ?_)
 replace zg1:IsZip g1 z TI TO .ellipsis:=zg1
 refine wpAny_bind ?_
 simp only [List.zipIdx_cons,List.zipIdx_nil,List.forIn_cons,List.forIn_nil]
 refine wpAny_bind (wpAny_bind (wpAny_onRaise ?_))
 show wpAny _ _ (Builtin.SmallTypes.nextOf (.ref i1) >>=fun _=>_) _ _ _
 refine wpAny_bind (D1.item k _ _ _ l1 (D1.frame _ _ _ t1 fun c hc o e=>k1.extBut _ _ (fun q=>D.b2 (q▸hc)) e) fun x g2 tk2 px sg2 k2=>wpAny_pure ?_)
 have pO2:IsPair g2 TO a b:=k2.extBut _ _ D.a8 (k1.extBut _ _ D.a2 pO)
 refine wpAny_bind (wpAny_seqItems pO2 rfl (wpAny_bind (wpAny_updateSeq_pair pO2 fun g3 pO3 k3=> ?_)))
 replace pO3:IsPair g3 TO x b:=pO3
 refine wpAny_bind (wpAny_letGo (wpAny_pure (wpAny_bind (wpAny_bind (wpAny_onRaise ?_)))))
 show wpAny _ _ (Builtin.SmallTypes.nextOf (.ref i2) >>=fun _=>_) _ _ _
 have t2':S2 k g3:=D2.frame _ _ _ t2 fun c hc o e=>k3.extBut _ _ (fun q=>D.b5 (q▸hc)) (k2.extBut _ _ (fun q=>D.b6 (q▸hc)) (k1.extBut _ _ (fun q=>D.b3 (q▸hc)) e))
 refine wpAny_bind (D2.item k _ _ _ l2 t2' fun y g4 tk4 py sg4 k4=>wpAny_pure ?_)
 have pO4:IsPair g4 TO x b:=k4.extBut _ _ D.a9 pO3
 refine wpAny_bind (wpAny_seqItems pO4 rfl (wpAny_bind (wpAny_updateSeq_pair pO4 fun g5 pO5 k5=> ?_)))
 replace pO5:IsPair g5 TO x y:=pO5
 refine wpAny_bind (wpAny_letGo (wpAny_pure (wpAny_pure (wpAny_bind (wpAny_seqItems pO5 rfl (wpAny_bind (wpAny_newTuple ?_)))))))
 have sz:g5.objs.size=s.heap.objs.size:=by rw [k5.1,k4.1,k3.1,k2.1,k1.1]
 have zg5:IsZip g5 z TI TO .ellipsis:=k5.extBut _ _ D.a2.symm (k4.extBut _ _ D.a4.symm (k3.extBut _ _ D.a2.symm (k2.extBut _ _ D.a3.symm zg1)))
 have kk:∀c o,c≠z→c≠TO→c≠i1→c≠i2→s.heap.get? c=some o→g5.get? c=some o:=fun c o c1 c2 c3 c4 e=>k5.extBut _ _ c2 (k4.extBut _ _ c4 (k3.extBut _ _ c2 (k2.extBut _ _ c3 (k1.extBut _ _ c1 e))))
 have u1:S1 (k+1) g5:=D1.frame _ _ _ sg2 fun c hc o e=>k5.extBut _ _ (fun q=>D.b4 (q▸hc)) (k4.extBut _ _ (fun q=>D.b7 (q▸hc)) (k3.extBut _ _ (fun q=>D.b4 (q▸hc)) e))
 have u2:S2 (k+1) g5:=D2.frame _ _ _ sg4 fun c hc o e=>k5.extBut _ _ (fun q=>D.b5 (q▸hc)) e
 have zlt:z<g5.objs.size:=Heap.lt_size zg5
 show wpAny _ _ (Builtin.SmallTypes.ownedTupleHandOut (.ref z) (.ref g5.objs.size) >>=fun _=>_) _ _ _
 refine wpAny_bind ?_
 unfold Builtin.SmallTypes.ownedTupleHandOut
 have zg6:IsZip (g5.push {cls:= .type "tuple",data:= .seq #[x,y]}) z TI TO .ellipsis:=Heap.get?_push_of_some _ zg5
 refine wpAny_bind (wpAny_setField_rec zg6 (by simp) fun g7 zg7 k7=> ?_)
 replace zg7:IsZip g7 z TI TO (rawInt g5.objs.size):=zg7
 refine wpAny_setField_rec zg7 (by simp) fun g8 zg8 k8=> ?_
 replace zg8:IsZip g8 z TI TO (rawInt g5.objs.size):=zg8
 have up:∀c o,c≠z→g5.get? c=some o→g8.get? c=some o:=fun c o c1 e=>k8.extBut _ _ c1 (k7.extBut _ _ c1 (Heap.get?_push_of_some _ e))
 have pT:IsPair g8 g5.objs.size x y:=k8.extBut _ _ (Nat.ne_of_gt zlt) (k7.extBut _ _ (Nat.ne_of_gt zlt) (Heap.get?_push_size _ rfl))
 rw [sz] at zg8 pT
 refine wpAny_pure ⟨_,rfl,?_⟩
 show Q (.ref g5.objs.size) _
 rw [sz]
 exact hQ g8 _ x y px py zg8 (up _ _ D.a2 pO5) (D1.frame _ _ _ u1 fun c hc o e=>up c o (fun q=>D.b2 (q▸hc)) e) (D2.frame _ _ _ u2 fun c hc o e=>up c o (fun q=>D.b3 (q▸hc)) e) pT fun c o c1 c2 c3 c4 e=>up c o c1 (kk c o c1 c2 c3 c4 e)
theorem zip_endD {k:Nat} {a b:Value} {Q:Fin→Shared→Prop} (D:ZAp z TI TO i1 i2 f1 f2) (D1:Draws prog w A i1 f1 n1 P1 S1) (D2:Draws prog w A i2 f2 n2 P2 S2)
  (hZ:IsZip s.heap z TI TO .none) (pI:IsPair s.heap TI (.ref i1) (.ref i2)) (pO:IsPair s.heap TO a b) (t1:S1 k s.heap) (t2:S2 k s.heap) (hend:k=n1∨(k<n1∧k=n2))
  (hE:∀h' tk e,(∀c o,c≠z→c≠TO→c≠i1→c≠i2→s.heap.get? c=some o→h'.get? c=some o)→(∃o,h'.get? e=some o∧o.cls= .type "StopIteration")→E (.ref e) {s with heap:=h',toks:=tk}):
  wpAny (model prog w) A (Builtin.«zip.__next__» ⟨[.ref z],[]⟩) Q E s:=by
 show wpAny _ _ (field (.ref z) 2 >>=fun _=>_) _ _ _
 refine wpAny_bind (wpAny_field hZ rfl (x:= .bool false) rfl ?_)
 show wpAny _ _ (field (.ref z) 3 >>=fun _=>_) _ _ _
 refine wpAny_bind (wpAny_field hZ rfl (x:= .ref TI) rfl ?_)
 refine wpAny_bind (wpAny_seqItems pI rfl ?_)
 show wpAny _ _ (Builtin.SmallTypes.ownedTupleIsFree (.ref z) >>=fun _=>_) _ _ _
 refine wpAny_bind ?_
 unfold Builtin.SmallTypes.ownedTupleIsFree
 refine wpAny_bind (wpAny_field hZ rfl (x:= .none) rfl (wpAny_pure ?_))
 simp only [if_true]
 refine wpAny_bind (wpAny_rule (wpAny_bind (wpAny_field hZ rfl (x:= .ref TO) rfl ?_)))
 refine wpAny_bind (wpAny_setField_rec hZ (by simp) fun g1 zg1 k1=> ?_)
 replace zg1:IsZip g1 z TI TO .ellipsis:=zg1
 refine wpAny_bind ?_
 simp only [List.zipIdx_cons,List.zipIdx_nil,List.forIn_cons,List.forIn_nil]
 refine wpAny_bind (wpAny_bind (wpAny_onRaise ?_))
 show wpAny _ _ (Builtin.SmallTypes.nextOf (.ref i1) >>=fun _=>_) _ _ _
 have t1':S1 k g1:=D1.frame _ _ _ t1 fun c hc o e=>k1.extBut _ _ (fun q=>D.b2 (q▸hc)) e
 rcases hend with rfl|⟨l1,rfl⟩
 ·refine wpAny_bind (D1.done _ _ _ t1' fun g2 e k2 he=> ?_)
  obtain ⟨oe,ge,ce⟩:=he
  have zg2:IsZip g2 z TI TO .ellipsis:=k2 _ _ D.a3.symm zg1
  have ne:e≠z:=fun q=>by subst q;rw [zg2] at ge;cases ge;simp at ce
  exact wpAny_setField_rec zg2 (by simp) fun g3 _ k3=>hE g3 _ e (fun c o c1 _ c3 _ q=>k3.extBut _ _ c1 (k2 _ _ c3 (k1.extBut _ _ c1 q))) ⟨oe,k3.extBut _ _ ne ge,ce⟩
 ·refine wpAny_bind (D1.item k _ _ _ l1 t1' fun x g2 tk2 px sg2 k2=>wpAny_pure ?_)
  have pO2:IsPair g2 TO a b:=k2.extBut _ _ D.a8 (k1.extBut _ _ D.a2 pO)
  refine wpAny_bind (wpAny_seqItems pO2 rfl (wpAny_bind (wpAny_updateSeq_pair pO2 fun g3 pO3 k3=> ?_)))
  refine wpAny_bind (wpAny_letGo (wpAny_pure (wpAny_bind (wpAny_bind (wpAny_onRaise ?_)))))
  show wpAny _ _ (Builtin.SmallTypes.nextOf (.ref i2) >>=fun _=>_) _ _ _
  have t2':S2 k g3:=D2.frame _ _ _ t2 fun c hc o e=>k3.extBut _ _ (fun q=>D.b5 (q▸hc)) (k2.extBut _ _ (fun q=>D.b6 (q▸hc)) (k1.extBut _ _ (fun q=>D.b3 (q▸hc)) e))
  refine wpAny_bind (D2.done _ _ _ t2' fun g4 e k4 he=> ?_)
  obtain ⟨oe,ge,ce⟩:=he
  have zg4:IsZip g4 z TI TO .ellipsis:=k4 _ _ D.a4.symm (k3.extBut _ _ D.a2.symm (k2.extBut _ _ D.a3.symm zg1))
  have ne:e≠z:=fun q=>by subst q;rw [zg4] at ge;cases ge;simp at ce
  exact wpAny_setField_rec zg4 (by simp) fun g5 _ k5=>hE g5 _ e (fun c o c1 c2 c3 c4 q=>k5.extBut _ _ c1 (k4 _ _ c4 (k3.extBut _ _ c2 (k2.extBut _ _ c3 (k1.extBut _ _ c1 q))))) ⟨oe,k5.extBut _ _ ne ge,ce⟩
end
end PySem
namespace PySem
open Builtin
section
variable {prog:Program} {w:World} {A:Around} {E:Value→Shared→Prop} {s:Shared} {z TI TO i1 i2:Addr} {f1 f2:List Addr} {n1 n2:Nat} {P1 P2:Nat→Value→Prop} {S1 S2:Nat→Heap→Prop}
theorem pyNext_zip_itemD {k:Nat} {a b:Value} {Q:Option Value→Shared→Prop} (D:ZAp z TI TO i1 i2 f1 f2) (D1:Draws prog w A.in1 i1 f1 n1 P1 S1) (D2:Draws prog w A.in1 i2 f2 n2 P2 S2)
  (hZ:IsZip s.heap z TI TO .none) (pI:IsPair s.heap TI (.ref i1) (.ref i2)) (pO:IsPair s.heap TO a b) (t1:S1 k s.heap) (t2:S2 k s.heap) (l1:k<n1) (l2:k<n2)
  (hQ:∀h' tk x y,P1 k x→P2 k y→IsZip h' z TI TO (rawInt s.heap.objs.size)→IsPair h' TO x y→S1 (k+1) h'→S2 (k+1) h'→IsPair h' s.heap.objs.size x y→
   (∀c o,c≠z→c≠TO→c≠i1→c≠i2→s.heap.get? c=some o→h'.get? c=some o)→Q (some (.ref s.heap.objs.size)) {s with heap:=h',toks:=tk}):
  wpAny (model prog w) A (pyNext (.ref z)) Q E s:=by
 have tz:s.TypeIs (.ref z) "zip":=⟨_,hZ,rfl⟩
 unfold pyNext
 exact wpAny_bind (wpAny_attempt (wpAny_callSpecial?_slot (name:=Str.ofString "__next__") tz F.slot_zip_next (wpAny_call_entry F.slot_zip_next tz F.entry_zip_next
   (zip_itemD D D1 D2 hZ pI pO t1 t2 l1 l2 fun h' tk x y a1 a2 a3 a4 a5 a6 a7 a8=>wpAny_pure (hQ h' tk x y a1 a2 a3 a4 a5 a6 a7 a8)) (F.args_zip_next_1 _))))
theorem pyNext_zip_endD {k:Nat} {a b:Value} {Q:Option Value→Shared→Prop} (D:ZAp z TI TO i1 i2 f1 f2) (D1:Draws prog w A.in1 i1 f1 n1 P1 S1) (D2:Draws prog w A.in1 i2 f2 n2 P2 S2)
  (hZ:IsZip s.heap z TI TO .none) (pI:IsPair s.heap TI (.ref i1) (.ref i2)) (pO:IsPair s.heap TO a b) (t1:S1 k s.heap) (t2:S2 k s.heap) (hend:k=n1∨(k<n1∧k=n2))
  (hQ:∀h' tk,(∀c o,c≠z→c≠TO→c≠i1→c≠i2→s.heap.get? c=some o→h'.get? c=some o)→Q none {s with heap:=h',toks:=tk}):
  wpAny (model prog w) A (pyNext (.ref z)) Q E s:=by
 have tz:s.TypeIs (.ref z) "zip":=⟨_,hZ,rfl⟩
 unfold pyNext
 refine wpAny_bind (wpAny_attempt (wpAny_callSpecial?_slot (name:=Str.ofString "__next__") tz F.slot_zip_next (wpAny_call_entry F.slot_zip_next tz F.entry_zip_next (zip_endD D D1 D2 hZ pI pO t1 t2 hend fun h' tk e hk he=> ?_) (F.args_zip_next_1 _))))
 obtain ⟨o,ho,hc⟩:=he
 exact wpAny_bind (wpAny_isInstance (T:="StopIteration") (b:=true) ⟨o,ho,hc⟩ isSubtype_stop (wpAny_pure (hQ _ _ hk)))
end
abbrev zT1 (h:Heap) (a:Addr):Heap:=h.push {cls:= .type "tuple_iterator",data:= .fields #[.ref a,.int 0 0]}
abbrev zT2 (h:Heap) (a b:Addr):Heap:=(zT1 h a).push {cls:= .type "tuple_iterator",data:= .fields #[.ref b,.int 0 0]}
abbrev zT3 (h:Heap) (a b:Addr):Heap:=(zT2 h a b).push {cls:= .type "tuple",data:= .seq #[.ref h.objs.size,.ref (zT1 h a).objs.size]}
abbrev zT4 (h:Heap) (a b:Addr):Heap:=(zT3 h a b).push {cls:= .type "tuple",data:= .seq #[.none,.none]}
abbrev zT5 (h:Heap) (a b:Addr):Heap:=(zT4 h a b).push {cls:= .type "zip",data:= .fields #[.none,.bool false,.bool false,.ref (zT2 h a b).objs.size,.ref (zT3 h a b).objs.size]}
theorem meets_zip_tt (a b:Addr) (xs ys:Array Value):
  Meets (Builtin.«zip.__new__» ⟨[.type "zip",.ref a,.ref b],[]⟩) (fun _ R s=>s.heap.IsTuple a xs∧s.heap.IsTuple b ys∧R (.ok (.ret (.ref (zT4 s.heap a b).objs.size))) {s with heap:=zT5 s.heap a b}):=
 .of_wp fun prog w A R s h=>by
  obtain ⟨hp,g,d,tk,os⟩:=s
  obtain ⟨ta,tb,h⟩:=h
  have hsub:=sub_zip
  have q1:Heap.IsTuple (Shared.heap ⟨hp,g,d,tk,os⟩) a xs:=ta
  have q2:Heap.IsTuple (Shared.heap ⟨hp.push {cls:= .type "tuple_iterator",data:= .fields #[.ref a,.int 0 0]},g,d,tk,os⟩) b ys:=let ⟨o,ho,r⟩:=tb;⟨o,Heap.get?_push_of_some _ ho,r⟩
  wp_walk using wpAny_pyIter_tuple q1,wpAny_pyIter_tuple q2
  exact ⟨_,rfl,h⟩
section
variable {prog:Program} {w:World} {A:Around} {E:Value→Shared→Prop} {s:Shared}
theorem call_zip_tt {a b:Addr} {xs ys:Array Value} {Q:Value→Shared→Prop} (ta:s.heap.IsTuple a xs) (tb:s.heap.IsTuple b ys)
  (h:∀h',IsZip h' (s.heap.objs.size+4) (s.heap.objs.size+2) (s.heap.objs.size+3) .none→IsPair h' (s.heap.objs.size+2) (.ref s.heap.objs.size) (.ref (s.heap.objs.size+1))→IsPair h' (s.heap.objs.size+3) .none .none→
   h'.IsTupleIter s.heap.objs.size a 0→h'.IsTupleIter (s.heap.objs.size+1) b 0→(∀c o,s.heap.get? c=some o→h'.get? c=some o)→Q (.ref (s.heap.objs.size+4)) {s with heap:=h'}):
  wpAny (model prog w) A (call (.type "zip") [.ref a,.ref b]) Q E s:=by
 refine callType_new F.called_zip (by decide) (F.typeCall_zip_2 _ _) (F.newCall_zip_2 _ _) (fun obj=>F.args_object_init_3 obj _ _) F.entry_zip_new (meets_zip_tt a b xs ys) ⟨ta,tb,?_⟩
 have y1:(zT1 s.heap a).objs.size=s.heap.objs.size+1:=Heap.size_push ..
 have y2:(zT2 s.heap a b).objs.size=s.heap.objs.size+2:=by rw [Heap.size_push,y1]
 have y3:(zT3 s.heap a b).objs.size=s.heap.objs.size+3:=by rw [Heap.size_push,y2]
 have y4:(zT4 s.heap a b).objs.size=s.heap.objs.size+4:=by rw [Heap.size_push,y3]
 have e5:(zT5 s.heap a b).get? (zT4 s.heap a b).objs.size=some _:=Heap.get?_push_size _ rfl
 have e4:(zT5 s.heap a b).get? (zT3 s.heap a b).objs.size=some _:=Heap.get?_push_of_some _ (Heap.get?_push_size _ rfl)
 have e3:(zT5 s.heap a b).get? (zT2 s.heap a b).objs.size=some _:=Heap.get?_push_of_some _ (Heap.get?_push_of_some _ (Heap.get?_push_size _ rfl))
 have e2:(zT5 s.heap a b).get? (zT1 s.heap a).objs.size=some _:=Heap.get?_push_of_some _ (Heap.get?_push_of_some _ (Heap.get?_push_of_some _ (Heap.get?_push_size _ rfl)))
 have e1:(zT5 s.heap a b).get? s.heap.objs.size=some _:=Heap.get?_push_of_some _ (Heap.get?_push_of_some _ (Heap.get?_push_of_some _ (Heap.get?_push_of_some _ (Heap.get?_push_size _ rfl))))
 show _∧_
 rw [y2,y3,y4] at e5
 rw [y1,y2] at e3
 rw [y3] at e4
 rw [y1] at e2
 rw [y4]
 refine ⟨⟨_,e5,rfl⟩,h _ e5 e3 e4 ⟨_,e1,rfl,rfl⟩ ⟨_,e2,rfl,rfl⟩ fun c o e=> ?_⟩
 exact Heap.get?_push_of_some _ (Heap.get?_push_of_some _ (Heap.get?_push_of_some _ (Heap.get?_push_of_some _ (Heap.get?_push_of_some _ e))))
end
end PySem
namespace L2
open PySem PySem.Spec PyProof.Rows
def Itz (K:PySem.W.Frag) (a b:Addr):It:=
 ⟨fun i H=>∃xs ys x y,SqT K H a xs∧SqT K H b ys∧xs[i]? =some x∧ys[i]? =some y,fun i H v H'=>∃T x y,H T=none∧v= .ref T∧H'=upd H T (.tup [x,y])∧(∀xs,SqT K H a xs→xs[i]? =some x)∧∀ys,SqT K H b ys→ys[i]? =some y,
  fun i H=>∃xs ys,SqT K H a xs∧SqT K H b ys∧(i=xs.length∨(i<xs.length∧i=ys.length))⟩
theorem zap_of {z TI TO i1 i2 a b:Addr} (nd:[z,TI,TO,i1,i2].Nodup) (na:a ∉ [z,TI,TO,i1,i2]) (nb:b ∉ [z,TI,TO,i1,i2]):ZAp z TI TO i1 i2 [i1,a] [i2,b]:=by
 simp only [List.nodup_cons,List.mem_cons,List.mem_nil_iff,or_false,not_or,List.nodup_nil,and_true,not_false_eq_true] at nd na nb
 obtain ⟨⟨q1,q2,q3,q4⟩,⟨q5,q6,q7⟩,⟨q8,q9⟩,q10⟩:=nd
 obtain ⟨r1,r2,r3,r4,r5⟩:=na
 obtain ⟨s1,s2,s3,s4,s5⟩:=nb
 constructor<;> first|exact Ne.symm ‹_›|assumption|(simp only [List.mem_cons,List.mem_nil_iff,or_false,not_or];constructor<;> first|assumption|exact Ne.symm ‹_›)
theorem turn_zip {P:Program} {w:World} {K:PySem.W.Frag} {elts:List Expr} {x1} {pos:Pos} (a b z TI TO i1 i2:Addr) (nd:[z,TI,TO,i1,i2].Nodup) (na:a ∉ [z,TI,TO,i1,i2]) (nb:b ∉ [z,TI,TO,i1,i2]):Turn P w K (.Tuple elts x1 pos) (Itz K a b) [z,TI,TO,i1,i2] z
  (fun i h=>IsZip h z TI TO .none∧IsPair h TI (.ref i1) (.ref i2)∧(∃u v,IsPair h TO u v)∧h.IsTupleIter i1 a i∧h.IsTupleIter i2 b i) where
 mem:=by simp
 obj:=fun i h st c hc=>by
  obtain ⟨h1,h2,⟨u,v,h3⟩,⟨o4,g4,_,d4⟩,⟨o5,g5,_,d5⟩⟩:=st
  simp only [List.mem_cons,List.mem_nil_iff,or_false] at hc
  rcases hc with rfl|rfl|rfl|rfl|rfl
  ·exact ⟨_,h1,fun v q=>by cases q⟩
  ·exact ⟨_,h2,fun v q=>by cases q⟩
  ·exact ⟨_,h3,fun v q=>by cases q⟩
  ·exact ⟨_,g4,fun v q=>by rw [d4] at q;cases q⟩
  ·exact ⟨_,g5,fun v q=>by rw [d5] at q;cases q⟩
 keep:=fun i h h' st k=>by
  obtain ⟨h1,h2,⟨u,v,h3⟩,h4,h5⟩:=st
  exact ⟨k z (by simp) _ h1,k TI (by simp) _ h2,⟨u,v,k TO (by simp) _ h3⟩,h4.at fun o q=>k i1 (by simp) o q,h5.at fun o q=>k i2 (by simp) o q⟩
 item:=by
  intro X hP hw hK hc i pins s σ H E I hf st hg
  subst hP hw hK
  obtain ⟨hZ,pI,⟨u,v,pO⟩,t1,t2⟩:=st
  obtain ⟨xs,ys,x,y,ha,hb,hx,hy⟩:=hg
  obtain ⟨its,rv,p1,_⟩:=I.tuple ha
  obtain ⟨jts,rw',p2,_⟩:=I.tuple hb
  obtain ⟨ux,hux,rx⟩:=rv.get hx
  obtain ⟨uy,huy,ry⟩:=rw'.get hy
  have AP:=zap_of nd na nb
  have fresh:H s.heap.objs.size=none:=I.hok.fresh (Nat.le_refl _)
  have ltz:∀c∈[z,TI,TO,i1,i2],c≠s.heap.objs.size:=by
   intro c hc
   obtain ⟨o4,g4,_⟩:=id t1
   obtain ⟨o5,g5,_⟩:=id t2
   simp only [List.mem_cons,List.mem_nil_iff,or_false] at hc
   rcases hc with rfl|rfl|rfl|rfl|rfl
   ·exact Nat.ne_of_lt (Heap.lt_size hZ)
   ·exact Nat.ne_of_lt (Heap.lt_size pI)
   ·exact Nat.ne_of_lt (Heap.lt_size pO)
   ·exact Nat.ne_of_lt (Heap.lt_size g4)
   ·exact Nat.ne_of_lt (Heap.lt_size g5)
  refine pyNext_zip_itemD AP (Draws.tup (A:=X.A.in1) (I.ok.hd hc) i1 a (fun q=>na (by simp [q])) its.toArray) (Draws.tup (A:=X.A.in1) (I.ok.hd hc) i2 b (fun q=>nb (by simp [q])) jts.toArray) hZ pI pO ⟨t1,p1⟩ ⟨t2,p2⟩
   (by have:=(List.getElem?_eq_some_iff.mp hux).1;simpa using this) (by have:=(List.getElem?_eq_some_iff.mp huy).1;simpa using this) fun h' tk xv yv px py z' pO' s1' s2' pT kk=>⟨_,rfl,?_⟩
  have ex:ux=xv:=Option.some.inj (hux.symm.trans (by simpa using px))
  have ey:uy=yv:=Option.some.inj (huy.symm.trans (by simpa using py))
  subst ex ey
  refine wpAny_letOwnedTupleGo_zip (s:={s with heap:=h',toks:=tk}) z' fun h2 z2 sb=> ?_
  have I1:Inv X pins σ (upd H s.heap.objs.size (.tup [x,y])) {s with heap:=s.heap.push {cls:= .type "tuple",data:= .seq #[ux,uy]},toks:=s.toks}:=
   I.laid (o:= .tup [x,y]) (fun b ob q=>Heap.get?_push_of_some _ q) (Nat.le_refl _) ⟨by rw [sizeLine_eq];simp,[ux,uy],.cons rx (.cons ry .nil),IsTupN.new _ _⟩
  have I2:=I1.turnedL (h':=h2) (t':=tk) [z,TI,TO,i1,i2] (fun c o hc' q=> ?_) (fun c hc'=>(hf c hc').up (ltz c hc'))
  ·refine ⟨.ref s.heap.objs.size,_,I2,rfl,⟨_,x,y,fresh,rfl,rfl,fun ys' hy'=>by rw [I.tuple_inj hy' ha];exact hx,fun ys' hy'=>by rw [I.tuple_inj hy' hb];exact hy⟩,
    ⟨z2,(sb.2 TI AP.a1).trans (kk _ _ AP.a1 AP.a5 AP.a6 AP.a7 pI),⟨_,_,(sb.2 TO AP.a2).trans pO'⟩,s1'.1.at fun o q=>(sb.2 i1 AP.a3).trans q,s2'.1.at fun o q=>(sb.2 i2 AP.a4).trans q⟩,fun c hc'=> ?_⟩
   rw [Ap (ltz c hc')];exact (hf c hc').1
  ·have c1:c≠z:=fun q=>hc' (by simp [q])
   have c2:c≠TO:=fun q=>hc' (by simp [q])
   have c3:c≠i1:=fun q=>hc' (by simp [q])
   have c4:c≠i2:=fun q=>hc' (by simp [q])
   refine (sb.2 c c1).trans ?_
   by_cases hcs:c=s.heap.objs.size
   ·subst hcs
    rw [Heap.get?_push_size _ rfl] at q
    cases q
    exact pT
   ·rw [Heap.get?_push_ne _ _ _ hcs] at q
    exact kk c o c1 c2 c3 c4 q
 done:=by
  intro X hP hw hK hc i pins s σ H E I hf st hg
  subst hP hw hK
  obtain ⟨hZ,pI,⟨u,v,pO⟩,t1,t2⟩:=st
  obtain ⟨xs,ys,ha,hb,hend⟩:=hg
  obtain ⟨its,rv,p1,_⟩:=I.tuple ha
  obtain ⟨jts,rw',p2,_⟩:=I.tuple hb
  have AP:=zap_of nd na nb
  have l1:=rv.length
  have l2:=rw'.length
  refine pyNext_zip_endD AP (Draws.tup (A:=X.A.in1) (I.ok.hd hc) i1 a (fun q=>na (by simp [q])) its.toArray) (Draws.tup (A:=X.A.in1) (I.ok.hd hc) i2 b (fun q=>nb (by simp [q])) jts.toArray) hZ pI pO ⟨t1,p1⟩ ⟨t2,p2⟩
   (by simp only [List.size_toArray];omega) fun h' tk kk=>⟨rfl,I.turnedL (t':=tk) [z,TI,TO,i1,i2] (fun c o hc' q=> ?_) hf⟩
  exact kk c o (fun q=>hc' (by simp [q])) (fun q=>hc' (by simp [q])) (fun q=>hc' (by simp [q])) (fun q=>hc' (by simp [q])) q
 self:=fun A i s Q E st h=>wpAny_pyIter_zip st.1 h
def iZip (K:PySem.W.Frag) (ta:TA):TI:=fun σ H R=>ta σ H fun vs H1=>∃a b xs ys,vs=[.ref a,.ref b]∧SqT K H1 a xs∧SqT K H1 b ys∧R (Itz K a b) H1
theorem pi_zip {X:Cx} {elts:List Expr} {x1} {tpos:Pos} {e1 e2:Expr} {ta:TA} {p pos:Pos} (hg:Gl X "zip") (hm:X.mg "zip"=none) (ha:PA X [e1,e2] ta) (hs:starEach [e1,e2] X.env=[(false,eval e1 X.env),(false,eval e2 X.env)]:=by rfl) (hs2:starEach [e2] X.env=[(false,eval e2 X.env)]:=by rfl):
  PI X (.Tuple elts x1 tpos) (.Call (.Name "zip" p) [e1,e2] [] pos) (iZip X.K ta):=by
 intro pins s σ H R I h
 refine Call_ (ld_blt I hg hm (show bootBuiltins "zip"=some (.type "zip") by decide+kernel) (PyProof.Rows.callWith_type1 (thn (ha pos pins s σ H _ I h) fun us s1 ⟨vs,H1,I1,r1,q1⟩=> ?_) (by rw [hs,hs2]) (by rw [hs2];rfl)))
 obtain ⟨a,b,xs,ys,e,hqa,hqb,q⟩:=q1
 subst e
 cases r1 with
 |cons r rr=>
  cases rr with
  |cons r' rr=>
   cases rr
   cases r
   cases r'
   obtain ⟨its,rv,p1,_⟩:=I1.tuple hqa
   obtain ⟨jts,rw',p2,_⟩:=I1.tuple hqb
   refine call_zip_tt p1 p2 fun h' hZ pI pO t1 t2 kk=>wpAny_pyIter_zip hZ ?_
   obtain ⟨oa,ga,_⟩:=id p1
   obtain ⟨ob,gb,_⟩:=id p2
   have la:=Heap.lt_size ga
   have lb:=Heap.lt_size gb
   have big:∀c∈[s1.heap.objs.size+4,s1.heap.objs.size+2,s1.heap.objs.size+3,s1.heap.objs.size,s1.heap.objs.size+1],s1.heap.objs.size≤c:=by
    intro c hc
    simp only [List.mem_cons,List.mem_nil_iff,or_false] at hc
    rcases hc with rfl|rfl|rfl|rfl|rfl<;> first|exact Nat.le_add_right _ _|exact Nat.le_refl _
   refine ⟨s1.heap.objs.size+4,[s1.heap.objs.size+4,s1.heap.objs.size+2,s1.heap.objs.size+3,s1.heap.objs.size,s1.heap.objs.size+1],_,_,H1,rfl,I1.kept (t':=s1.toks) kk,
    turn_zip a b _ _ _ _ _ ?_ (fun q=>Nat.lt_irrefl _ (Nat.lt_of_lt_of_le la (big _ q))) (fun q=>Nat.lt_irrefl _ (Nat.lt_of_lt_of_le lb (big _ q))),⟨hZ,pI,⟨_,_,pO⟩,t1,t2⟩,fun c hc=>I1.fpOk (big c hc) (I1.hok.fresh (big c hc)),q⟩
   generalize s1.heap.objs.size=n
   show List.Nodup ([n+4,n+2,n+3,n,n+1]:List Nat)
   simp
section
variable {g:TG} {ti:TT} {te:TE} {Q:VK} {D:Addr} {σ:St} {H:Hp}
theorem comp_zip {K:PySem.W.Frag} {a b:Addr} {xs ys:List V} (Pv:Nat→St→List V→Hp→Prop) (h0:Pv 0 σ [] (upd H D (.lst []))) (hl:∀i σ zs H,i≤xs.length→i≤ys.length→Pv i σ zs H→SqT K H a xs∧SqT K H b ys∧H D=some (.lst zs))
  (hs:∀i x y σ zs H T,xs[i]? =some x→ys[i]? =some y→Pv i σ zs H→H T=none→cturn g ti te D (.ref T) σ zs (upd H T (.tup [x,y])) (Pv (i+1))) (hd:∀i σ zs H,i=min xs.length ys.length→Pv i σ zs H→Q (.ref D) H):
  cgo (Itz K a b) g ti te D σ H Q:=by
 refine ⟨fun i m σ zs H=>m=xs.length - i∧i≤xs.length∧i≤ys.length∧Pv i σ zs H,⟨xs.length,by simp,Nat.zero_le _,Nat.zero_le _,h0⟩,?_⟩
 rintro i m σ zs H ⟨rfl,hi,hj,p⟩
 obtain ⟨q1,q2,hD⟩:=hl i σ zs H hi hj p
 refine ⟨hD,?_⟩
 by_cases hlt:i<xs.length∧i<ys.length
 ·refine .inr ⟨⟨xs,ys,xs[i],ys[i],q1,q2,by simp [hlt.1],by simp [hlt.2]⟩,Pv (i+1),fun σ' ys' H' p'=>⟨xs.length - (i+1),by omega,rfl,hlt.1,hlt.2,p'⟩,fun x H' y=> ?_⟩
  obtain ⟨T,x,y,hT,rfl,rfl,y1,y2⟩:=y
  exact hs i x y σ zs H T (y1 xs q1) (y2 ys q2) p hT
 ·exact .inl ⟨⟨xs,ys,q1,q2,by omega⟩,hd i σ zs H (by omega) p⟩
end
end L2
namespace HT
open PySem PyProof.Rows
section
variable {prog:Program} {w:World} {A:Around} {E:Value→Shared→Prop} {s:Shared}
theorem getItem_tuple_self {t sl:Addr} {items:Array Value} {vl vu:Value} {lo hi:Option Int} {Q:Value→Shared→Prop} (ht:IsTup s.heap t items) (hs:s.heap.IsSliceOf sl vl vu .none) (pl:IsPart vl lo) (pu:IsPart vu hi)
  (hw:sIx items.size 0 lo=0∧sIx items.size items.size hi=items.size) (h:Q (.ref t) s):wpAny (model prog w) A (getItem (.ref t) (.ref sl)) Q E s:=by
 obtain ⟨os,hos,hcs,hds⟩:=id hs
 have tsl:s.TypeIs (.ref sl) "slice":=⟨os,hos,hcs⟩
 unfold getItem
 try with_reducible refine wpAny_holding ?_
 first|refine wpAny_bind (wpAny_pure ?_)|skip
 refine wpAny_bind (wpAny_sequenceKey ht.typeIs (by decide) (wpAny_bind (wpAny_callSpecial?_slot (name:=Str.ofString "__getitem__") ht.typeIs PyProof.Rows.slot_tuple_getitem (wpAny_call_entry PyProof.Rows.slot_tuple_getitem ht.typeIs entry_tuple_getitem ?_ (args_tuple_getitem _ _)))))
 show wpAny _ _ (Builtin.Tuple.tupleItemsOf (.ref t) >>=fun _=>_) _ _ s
 refine wpAny_bind (tupleItemsOf_ ht (wpAny_bind (wpAny_typeOf tsl ?_)))
 rw [if_pos (by decide)]
 refine wpAny_bind (sliceApplied_gen hs pl pu ?_)
 have yes:(((sIx items.size 0 lo:Nat):Int)==0 && (1:Int)==1 && (sIx items.size items.size hi - sIx items.size 0 lo)==items.size)=true:=by rw [hw.1,hw.2];simp
 show wpAny _ _ (ite ((((sIx items.size 0 lo:Nat):Int)==0 && (1:Int)==1 && (sIx items.size items.size hi - sIx items.size 0 lo)==items.size)=true) _ _) _ _ s
 rw [if_pos yes]
 refine wpAny_bind (m:=Builtin.Tuple.tupleIsExact (.ref t)) ?_
 unfold Builtin.Tuple.tupleIsExact
 refine wpAny_bind (wpAny_typeOf ht.typeIs (wpAny_pure ?_))
 rw [if_pos (by decide)]
 exact wpAny_bind (wpAny_rule (wpAny_pure ⟨_,rfl,wpAny_pure h⟩))
end
end HT
namespace L2
open PySem PySem.Spec PyProof.Rows
section
variable {X:Cx}
inductive RSlTAP (K:PySem.W.Frag) (x:V) (lo:Option Int) (hi:Option Int) (H:Hp) (Q:VK):Prop
 |mk (a xs:_):(x= .ref a)→(SqT K H a xs)→(((HT.sIx xs.length 0 lo=0∧HT.sIx xs.length xs.length hi=xs.length)→Q (.ref a) H))→((¬(HT.sIx xs.length 0 lo=0∧HT.sIx xs.length xs.length hi=xs.length)→∀p,H p=none→Q (.ref p) (upd H p (.tup (Bx xs lo hi)))))→RSlTAP K x lo hi H Q
def rSlTA (K:PySem.W.Frag):V→Option Int→Option Int→Hp→VK→Prop:=fun x lo hi H Q=>RSlTAP K x lo hi H Q
theorem Bt:SlR X (rSlTA X.K):=by
 intro pins s σ H x v vl vu lo hi sl Q I rx hs pl pu h
 obtain ⟨a,xs,rfl,hx,q1,q2⟩:=h
 by_cases hw:HT.sIx xs.length 0 lo=0∧HT.sIx xs.length xs.length hi=xs.length
 ·cases rx
  obtain ⟨its,r,ht,hz⟩:=I.tuple hx
  have hlen:its.toArray.size=xs.length:=by rw [List.size_toArray];exact r.length.symm
  exact ⟨"tuple",_,PyProof.Rows.slot_tuple_getitem.lookup,ht.typeIs,HT.getItem_tuple_self ht hs pl pu (by rw [hlen];exact hw) ⟨.ref a,H,I,rfl,q1 hw⟩⟩
 ·exact sl_tup pins s σ H _ v vl vu lo hi sl Q I rx hs pl pu ⟨a,xs,rfl,hx,hw,q2 hw⟩
end
theorem op_eqNil {X:Cx} (hu:X.A.units+64<cLine):OpR X (compareOp .Eq) (fun x y H Q=>∃(a b:Addr) (xs:List V),x= .ref a∧y= .ref b∧SqL X.K H a xs∧SqL X.K H b []∧Q (.bl xs.isEmpty) H):=by
 intro pins s σ H x y u v Q I rx ry h
 obtain ⟨a,b,xs,rfl,rfl,ha,hb,q⟩:=h
 cases rx
 cases ry
 cases xs with
 |nil=>
  obtain ⟨as,r1⟩:=Rep.reads (u:= .ref a) I (Rep.lst ha .nil) rfl
  obtain ⟨bs,r2⟩:=Rep.reads (u:= .ref b) I (Rep.lst hb .nil) rfl
  exact SeqAt.compareEq_reads r1 r2 rfl rfl (by simp only [PyData.depth,PyData.depthAll];omega) ⟨.bl _,H,I,rfl,q⟩
 |cons x xs=>
  obtain ⟨its,r1,h1,_⟩:=I.list ha
  obtain ⟨its2,r2,h2,_⟩:=I.list hb
  have l1:=r1.length
  have l2:=r2.length
  refine SeqAt.eq_list_lengthsAt h1.isList h2.isList (by simp at l1 l2 ⊢;omega) (by omega) ⟨.bl _,H,I,rfl,q⟩
theorem pe_gint {X:Cx} {x:Str} {i:Int} {t:Tok} {pos:Pos} (hg:Gl X x) (hm:X.mg x=some (.int i t)) (hd:(x==("__debug__":Str))=false:=by decide):PE X (.Name x pos) (tC (.int i)):=fun pins s σ H Q I h=>ld_glob I hg hm ⟨.int i,H,I,⟨t,rfl⟩,h⟩ hd
theorem Ae {H:Hp} {p:Addr} {o:HO} (h:H p=none):Same H (upd H p o):=fun b u e=>by rw [Ap (A0 e h)];exact e
theorem Ay (H:Hp):Same H H:=fun _ _ e=>e
theorem small {n:Nat} (h:n≤10000):n≤sizeLine:=by rw [sizeLine_eq];exact Nat.le_trans (by assumption) (by decide)
theorem sqL_same {K:PySem.W.Frag} {H H':Hp} {a:Addr} {xs:List V} (h:SqL K H a xs) (s:Same H H'):SqL K H' a xs:=by
 rcases h with (e|⟨o,e⟩)|e
 ·exact .inl (.inl (s _ _ e))
 ·exact .inl (.inr ⟨o,s _ _ e⟩)
 ·exact .inr e
theorem none_of {H H':Hp} {a:Addr} (s:Same H H') (h:H' a=none):H a=none:=by
 cases e:H a with
 |none=>rfl
 |some o=>rw [s _ _ e] at h;cases h
theorem pg_tupK {X:Cx} {es:List Expr} {k:Nat} {t:TGs} {pos:Pos} (K:PySem.W.Frag) (n:Nat) (hK:X.K=K) (hc:X.calm=true) (h:PGs X es t) (hn:(assignEach es X.env).length=n:=by rfl) (hst:(assignEach es X.env).findIdx? (·.1)=none:=by rfl):PG X (.Tuple es k pos) (gTup K n t):=by
 subst hK
 exact pg_tup hc h hn hst
end L2
namespace PySem
open Builtin
section
variable {prog:Program} {w:World} {A:Around} {E:Value→Shared→Prop} {s:Shared}
theorem collect_rng {Q:List Value→Shared→Prop} {r:Addr} {a b c:Int} {t u v:Tok} {n:Nat} (hh:A.handled=none) (hr:IsRange s.heap r a b c t u v) (hsmall:Builtin.Range.small a b c=true) (hn:Builtin.Range.rangeSize a b c=n) (hlen:n≤2 ^ 24)
  (hQ:∀(h':Heap) (tk:Nat) (acc:Array Value),(∀b o,s.heap.get? b=some o→h'.get? b=some o)→ItemsOf (fun i v=>∃t,v= .int (a+i * c) t) acc n→Q acc.toList {s with heap:=h',toks:=tk}):wpAny (model prog w) A (collect (.ref r)) Q E s:=by
 unfold collect
 refine wpAny_bind (wpAny_runValue (codeAny_builtin F.entry_proto_collect ?_))
 rw [Around.under_plainId F.plain_proto_collect _]
 show wpAny _ A.in1 (newList [] >>=fun l=>again (.builtin "list.__iadd__" ⟨[l,.ref r],[]⟩)) _ _ s
 refine wpAny_bind (wpAny_newObj_type (wpAny_pure ⟨plainId_quiet F.plain_list_iadd _,codeAny_builtin F.entry_list_iadd ?_⟩))
 rw [Around.under_plainId F.plain_list_iadd _]
 show wpAny _ A.in1 (Builtin.List.listExtendWith (.ref s.heap.objs.size) (.ref r) (.ref s.heap.objs.size)) _ _ _
 have oS:(s.heap.push {cls:= .type "list",data:= .seq ([]:List Value).toArray}).get? s.heap.objs.size=some {cls:= .type "list",data:= .seq ([]:List Value).toArray}:=Heap.get?_push_size _ rfl
 have key:=wpAny_extend_range (prog:=prog) (w:=w) (A:=A) (s:={s with heap:=s.heap.push {cls:= .type "list",data:= .seq ([]:List Value).toArray}})
  (R:=fun r' s'=>∃(h':Heap) (tk:Nat) (acc:Array Value) (c':Nat),r'= .ok (.ret (.ref s.heap.objs.size))∧s'={s with heap:=h',toks:=tk}∧(∀b o,s.heap.get? b=some o→h'.get? b=some o)∧h'.get? s.heap.objs.size=some {cls:= .type "list",dict:=none,data:= .seq acc c',slots:= #[]}∧ItemsOf (fun i v=>∃t,v= .int (a+i * c) t) acc n)
  hh (Heap.get?_push_of_some _ hr) hsmall hn hlen s.heap.objs.size (.ref s.heap.objs.size) _ oS fun h' tk acc' c' hk hS' hacc=>⟨h',tk,acc',c',rfl,rfl,fun b o e=>hk b o (Nat.ne_of_lt (Heap.lt_size e)) (Heap.get?_push_of_some _ e),hS',hacc⟩
 have out:∀(r':Result) (s':Shared),(∃(h':Heap) (tk:Nat) (acc:Array Value) (c':Nat),r'= .ok (.ret (.ref s.heap.objs.size))∧s'={s with heap:=h',toks:=tk}∧(∀b o,s.heap.get? b=some o→h'.get? b=some o)∧h'.get? s.heap.objs.size=some {cls:= .type "list",dict:=none,data:= .seq acc c',slots:= #[]}∧ItemsOf (fun i v=>∃t,v= .int (a+i * c) t) acc n)→
   ∃(acc:Array Value) (c':Nat),r'= .ok (.ret (.ref s.heap.objs.size))∧s'.heap.get? s.heap.objs.size=some {cls:= .type "list",dict:=none,data:= .seq acc c',slots:= #[]}∧Q acc.toList s':=by
  rintro r' s' ⟨h',tk,acc,c',e1,rfl,e3,e4,e5⟩
  exact ⟨acc,c',e1,e4,hQ h' tk acc e3 e5⟩
 refine wpAny_mono key (fun fin s' hf=> ?_) fun e s' he=> ?_
 ·cases fin with
  |done f=>
   obtain ⟨acc,c',e1,e2,e3⟩:=out _ _ hf
   cases e1
   show wpAny _ A (load s.heap.objs.size >>=fun _=>_) _ _ _
   exact wpAny_bind (wpAny_load e2 (wpAny_pure e3))
  |again c'=>
   refine ⟨hf.1,codeAny_mono hf.2 fun r' s' h'=> ?_⟩
   obtain ⟨acc,c',e1,e2,e3⟩:=out _ _ h'
   subst e1
   show wpAny _ A (load s.heap.objs.size >>=fun _=>_) _ _ _
   exact wpAny_bind (wpAny_load e2 (wpAny_pure e3))
 ·obtain ⟨_,_,e1,_⟩:=out _ _ he
  cases e1
end
theorem meets_tuple_rng (r:Addr) (a b c:Int) (t u v:Tok) (n:Nat) (hsmall:Builtin.Range.small a b c=true) (hn:Builtin.Range.rangeSize a b c=n) (hlen:n≤2 ^ 24) (hz:n≤sizeLine):
  Meets (Builtin.«tuple.__new__» ⟨[.type "tuple",.ref r],[]⟩)
   (fun A R s=>A.handled=none∧IsRange s.heap r a b c t u v∧∀(h':Heap) (tk:Nat) (acc:Array Value),(∀b o,s.heap.get? b=some o→h'.get? b=some o)→ItemsOf (fun i v=>∃t,v= .int (a+i * c) t) acc n→
    R (.ok (.ret (.ref h'.objs.size))) {s with heap:=h'.push {cls:= .type "tuple",data:= .seq acc},toks:=tk}):=
 .of_wp fun prog w A R s h=>by
  obtain ⟨hh,hr,h⟩:=h
  have hsub:=sub_tuple_self
  have hinit:=init_tuple_lookup
  have hmh:=madeHere_tuple
  have tr:s.TypeIs (.ref r) "range":=⟨_,hr,rfl⟩
  have hh1:A.in1.handled=none:=hh
  wp_walk using wpAny_typeOf tr,collect_rng hh1 hr hsmall hn hlen
  intro h' tk acc hk hacc
  show wpAny _ _ (Builtin.Tuple.tupleExact acc.toList.toArray >>=fun v=>ret v) _ _ _
  unfold Builtin.Tuple.tupleExact
  refine wpAny_bind (wpAny_newObj_type ?_ (show acc.toList.toArray.size≤sizeLine by simp only [Array.toArray_toList];rw [hacc.1];exact hz))
  refine wpAny_pure ⟨_,rfl,?_⟩
  have e:acc.toList.toArray=acc:=by simp
  rw [e]
  exact h h' tk acc hk hacc
section
variable {prog:Program} {w:World} {A:Around} {E:Value→Shared→Prop} {s:Shared}
theorem call_tuple_rng' {Q:Value→Shared→Prop} {r:Addr} {a b c:Int} {t u v:Tok} {n:Nat} (hh:A.handled=none) (hr:IsRange s.heap r a b c t u v) (hsmall:Builtin.Range.small a b c=true) (hn:Builtin.Range.rangeSize a b c=n) (hlen:n≤2 ^ 24) (hz:n≤sizeLine)
  (h:∀(h':Heap) (tk:Nat) (acc:Array Value),(∀b o,s.heap.get? b=some o→h'.get? b=some o)→ItemsOf (fun i v=>∃t,v= .int (a+i * c) t) acc n→Q (.ref h'.objs.size) {s with heap:=h'.push {cls:= .type "tuple",data:= .seq acc},toks:=tk}):
  wpAny (model prog w) A (call (.type "tuple") [.ref r]) Q E s:=
 callType_new F.called_tuple (by decide) (F.typeCall_tuple_1 _) (F.newCall_tuple_1 _) (fun obj=>F.args_object_init_2 obj _) F.entry_tuple_new (meets_tuple_rng r a b c t u v n hsmall hn hlen hz) ⟨hh,hr,fun h' tk acc hk hacc=>⟨⟨_,Heap.get?_push_size _ rfl,rfl⟩,h h' tk acc hk hacc⟩⟩
end
end PySem
namespace PySem
open Builtin
end PySem
namespace L2
open PySem PySem.Spec PyProof.Rows
section
variable {X:Cx}
theorem call_range1:By X (.type "range") (fun xs H Q=>∃j:Int,xs=[.int j]∧∀l,H l=none→Q (.ref l) (upd H l (.rng 0 j))):=by
 intro pins s σ H xs us Q I r h
 obtain ⟨j,rfl,q⟩:=h
 obtain ⟨u,rfl,⟨t,rfl⟩⟩:=Ce r
 exact call_range_1 ⟨.ref s.heap.objs.size,_,I.laid (o:= .rng 0 j) (fun _ _ q=>Heap.get?_push_of_some _ q) (Nat.le_refl _) ⟨_,_,_,Heap.get?_push_size _ rfl⟩,rfl,q _ I.fresh⟩
theorem vals_rng:∀(l:List Value) (k:Nat) (i:Int),(∀(n:Nat) (x:Value),l[n]? =some x→∃t,x= .int (i+n) t)→l.length=k→Vals ((rints i k).map V.int) l:=by
 intro l
 induction l with
 |nil=>intro k i _ e;cases e;exact .nil
 |cons x l ih=>
  intro k i h e
  cases k with
  |zero=>cases e
  |succ k=>
   have h0:=h 0 x rfl
   have e1:rints i (k+1)=i::rints (i+1) k:=by
    simp only [rints,List.range_succ_eq_map,List.map_cons,List.map_map]
    refine congr (congrArg List.cons (by simp)) (List.map_congr_left fun a _=> ?_)
    simp only [Function.comp];omega
   rw [e1]
   refine .cons (by obtain ⟨t,q⟩:=h0;exact ⟨t,by simpa using q⟩) (ih k (i+1) (fun n y hy=> ?_) (by simpa using e))
   obtain ⟨t,q⟩:=h (n+1) y (by simpa using hy)
   exact ⟨t,by rw [q];congr 1;omega⟩
theorem call_tuple_rng (hc:X.calm=true):By X (.type "tuple") (fun xs H Q=>∃(p:Addr) (j:Int),xs=[.ref p]∧H p=some (.rng 0 j)∧0≤j∧j≤1000∧∀l H',Same H H'→H' l=some (.tup ((rints 0 j.toNat).map V.int))→Q (.ref l) H'):=by
 intro pins s σ H xs us Q I r h
 obtain ⟨p,j,rfl,hp,b1,b2,q⟩:=h
 obtain ⟨u,rfl,rx⟩:=Ce r
 cases rx
 obtain ⟨t,u,v,ho⟩:=(show ObjOk X.prog X.w H s.heap p (.rng 0 j) from I.hok p _ hp)
 refine call_tuple_rng' (n:=j.toNat) (I.ok.hd hc) (show IsRange s.heap p 0 j 1 t u v from ho) (small_one (by decide) (by decide) (by omega) (by omega)) (by rw [rangeSize_one];split<;> omega) (by omega) (by rw [sizeLine_eq];omega) fun h' tk acc hk hacc=> ?_
 have I1:Inv X pins σ H {s with heap:=h',toks:=tk}:=I.kept hk
 have fr:H h'.objs.size=none:=I1.hok.fresh (Nat.le_refl _)
 refine ⟨.ref h'.objs.size,_,I1.laid (o:= .tup ((rints 0 j.toNat).map V.int)) (t':=tk) (fun b ob q=>Heap.get?_push_of_some _ q) (Nat.le_refl _) ⟨by simp [rints,sizeLine_eq];omega,acc.toList,?_,?_⟩,rfl,q _ _ (Ae fr) Ab⟩
 ·refine vals_rng acc.toList _ 0 (fun n x hx=> ?_) (by simpa using hacc.1)
  obtain ⟨t,q⟩:=hacc.2 n x (by simpa using hx)
  exact ⟨t,by rw [q,Int.mul_one]⟩
 ·exact ⟨_,Heap.get?_push_size _ rfl,rfl,rfl,0,by simp⟩
end
end L2
namespace PySem
open Builtin
end PySem
namespace L2
open PySem PySem.Spec PyProof.Rows
end L2
namespace PySem
open Builtin
end PySem
namespace L2
open PySem PySem.Spec PyProof.Rows
end L2
namespace Srt
open PySem PySem.W PyProof.Rows
structure Ord (lt:Nat→Nat→Bool):Prop where
 asym:∀a b,lt a b=true→lt b a=false
 ntr:∀a b c,lt a b=false→lt b c=false→lt a c=false
def ev {α:Type} (lt:Nat→Nat→Bool):KasT α→α
 | .ret a=>a
 | .ask i j k=>ev lt (k (lt i j))
theorem ev_bind {α β:Type} (lt:Nat→Nat→Bool) (f:α→KasT β):∀t:KasT α,ev lt (t.bind f)=ev lt (f (ev lt t))
 | .ret _=>rfl
 | .ask i j k=>ev_bind lt f (k (lt i j))
def AsksP {α:Type} (n:Nat) (P:α→Prop):KasT α→Prop
 | .ret a=>P a
 | .ask i j k=>i<n∧j<n∧∀b,AsksP n P (k b)
theorem AsksP.bind {α β:Type} {n:Nat} {P:α→Prop} {R:β→Prop} {f:α→KasT β} (hf:∀a,P a→AsksP n R (f a)):∀{t:KasT α},AsksP n P t→AsksP n R (t.bind f)
 | .ret a,h=>hf a h
 | .ask i j k,h=>⟨h.1,h.2.1,fun b=>AsksP.bind hf (h.2.2 b)⟩
theorem AsksP.ev {α:Type} {n:Nat} {P:α→Prop} (lt:Nat→Nat→Bool):∀{t:KasT α},AsksP n P t→P (Srt.ev lt t)
 | .ret _,h=>h
 | .ask i j k,h=>AsksP.ev (n:=n) (P:=P) lt (t:=k (lt i j)) (h.2.2 (lt i j))
theorem AsksP.wp {α:Type} {n:Nat} {P:α→Prop} {cmp:Nat→Nat→(Bool→Shared→Prop)→Shared→Prop} {lt:Nat→Nat→Bool} {s:Shared} (hc:∀i j (C:Bool→Shared→Prop),i<n→j<n→C (lt i j) s→cmp i j C s) {Q:α→Shared→Prop}:∀{t:KasT α},AsksP n P t→Q (Srt.ev lt t) s→t.kasWp cmp Q s
 | .ret _,_,q=>q
 | .ask i j k,h,q=>hc i j _ h.1 h.2.1 (AsksP.wp hc (h.2.2 (lt i j)) q)
abbrev g (p:Array Nat) (k:Nat):Nat:=p.getD k 0
theorem g_eq (p:Array Nat) (k:Nat):g p k=(p[k]?).getD 0:=by
 show p.getD k 0=_
 simp [Array.getD_eq_getD_getElem?]
theorem g_rev {p:Array Nat} {i j:Nat} (hj:j≤p.size) (k:Nat):g (kas_rev p i j) k=if i≤k∧k<j then g p (i+j - 1 - k) else g p k:=by
 rw [g_eq]
 unfold kas_rev
 rw [getElem?_mirror_all hj]
 split<;> rw [g_eq]
theorem g_bub {p:Array Nat} {src d:Nat} (hs:src<p.size) (hd:d≤src) (k:Nat):g (bubble p src d) k=if k=src - d then g p src else if src - d<k∧k≤src then g p (k - 1) else g p k:=by
 rw [g_eq,getElem?_bubble hs d hd,g_eq,g_eq,g_eq]
 split
 ·rfl
 ·split<;> rfl
theorem rev_size (p:Array Nat) (i j:Nat):(kas_rev p i j).size=p.size:=mirror_size _ _ _ _
theorem rev_perm (p:Array Nat) (i j:Nat):(kas_rev p i j).Perm p:=mirror_perm _ _ _ _
def Pm (n:Nat) (p:Array Nat):Prop:=p.Perm (List.range n).toArray
theorem Pm.size {n:Nat} {p:Array Nat} (h:Pm n p):p.size=n:=by
 have:=Array.Perm.size_eq h
 simpa using this
theorem Pm.lt {n:Nat} {p:Array Nat} (h:Pm n p) (h0:0<n) (k:Nat):g p k<n:=by
 rw [g_eq]
 cases e:p[k]? with
 |none=>exact h0
 |some x=>
  have hx:x∈p:=Array.mem_of_getElem? e
  have:=(Array.Perm.mem_iff h).mp hx
  simpa using this
section
variable {n:Nat} (h0:0<n)
include h0
theorem asks_asc {p:Array Nat} (h:Pm n p):∀f m,AsksP n (fun _=>True) (kas_asc p f m)
 |0,_=>trivial
 |f+1,m=>⟨h.lt h0 _,h.lt h0 _,fun b=>by cases b<;> first|exact trivial|exact asks_asc h f (m+1)⟩
theorem asks_desc:∀f {p:Array Nat} (m q:Nat),Pm n p→AsksP n (fun r=>Pm n r.1) (kas_desc f p m q)
 |0,_,_,_,h=>h
 |f+1,p,m,q,h=>by
  refine ⟨h.lt h0 _,h.lt h0 _,fun b=> ?_⟩
  cases b with
  |true=>
   show AsksP n _ (if q > 0 then _ else _)
   by_cases hq:q > 0
   ·rw [if_pos hq];exact asks_desc f _ _ ((rev_perm _ _ _).trans h)
   ·rw [if_neg hq];exact asks_desc f _ _ h
  |false=>
   refine ⟨h.lt h0 _,h.lt h0 _,fun d=> ?_⟩
   cases d with
   |true=>exact h
   |false=>exact asks_desc f _ _ h
theorem asks_tail3 {p:Array Nat} (m nrem:Nat) (h:Pm n p):AsksP n (fun r=>Pm n r.2) (kas_tail3 m nrem p):=by
 have hr:Pm n (kas_rev p 0 m):=(rev_perm _ _ _).trans h
 refine AsksP.bind (n:=n) (P:=fun _=>True) (R:=fun r:Nat×Array Nat=>Pm n r.2) (fun k _=> ?_) (asks_asc h0 hr _ _)
 exact hr
theorem asks_descPart {p:Array Nat} (m nrem:Nat) (h:Pm n p):AsksP n (fun r=>Pm n r.2) (kas_descPart m nrem p):=
 (asks_desc h0 _ _ _ h).bind fun r hr=>by
  by_cases hq:r.2.2 > 0
  ·rw [if_pos hq];exact asks_tail3 h0 _ _ ((rev_perm _ _ _).trans hr)
  ·rw [if_neg hq];exact asks_tail3 h0 _ _ hr
theorem asks_count {p:Array Nat} (nrem:Nat) (h:Pm n p):AsksP n (fun r=>Pm n r.2) (kas_count nrem p):=
 (asks_asc h0 h _ _).bind fun m _=>by
  by_cases h1:(m==nrem)=true
  ·rw [if_pos h1];exact h
  ·rw [if_neg h1]
   by_cases h2:m > 1
   ·rw [if_pos h2]
    refine ⟨h.lt h0 _,h.lt h0 _,fun c=> ?_⟩
    cases c with
    |true=>exact h
    |false=>exact asks_descPart h0 _ _ ((rev_perm _ _ _).trans h)
   ·rw [if_neg h2];exact asks_descPart h0 _ _ h
theorem asks_place {p:Array Nat} (k:Nat) (h:Pm n p):∀f l r,AsksP n (fun _=>True) (kas_place p k f l r)
 |0,_,_=>trivial
 |f+1,l,r=>by
  show AsksP n _ (if l ≥ r then _ else _)
  by_cases hl:l ≥ r
  ·rw [if_pos hl];trivial
  ·rw [if_neg hl]
   refine ⟨h.lt h0 _,h.lt h0 _,fun c=> ?_⟩
   cases c with
   |true=>exact asks_place k h f _ _
   |false=>exact asks_place k h f _ _
theorem asks_bin:∀f {p:Array Nat} (k:Nat),Pm n p→AsksP n (Pm n) (kas_bin f p k)
 |0,_,_,h=>h
 |f+1,p,k,h=>(asks_place h0 k h _ _ _).bind fun l _=>asks_bin f (k+1) ((bubble_perm _ _ _).trans h)
theorem asks_sort:AsksP n (Pm n) (kas_sort n):=
 (asks_count h0 n (Array.Perm.refl _)).bind fun r hr=>by
  by_cases h1:r.1<n
  ·rw [if_pos h1];exact asks_bin h0 _ _ hr
  ·rw [if_neg h1];exact hr
end
section
variable {lt:Nat→Nat→Bool} (O:Ord lt)
def Sto (lt:Nat→Nat→Bool) (p:Array Nat) (k:Nat):Prop:=∀i j,i≤j→j<k→lt (g p j) (g p i)=false
def Dto (lt:Nat→Nat→Bool) (p:Array Nat) (k:Nat):Prop:=∀i j,i≤j→j<k→lt (g p i) (g p j)=false
def Eqv (lt:Nat→Nat→Bool) (a b:Nat):Prop:=lt a b=false∧lt b a=false
include O
theorem irr (a:Nat):lt a a=false:=by
 cases h:lt a a with
 |false=>rfl
 |true=>have:=O.asym a a h;rw [h] at this;cases this
theorem ev_asc {p:Array Nat}:∀f m,1≤m→Sto lt p m→m≤ev lt (kas_asc p f m)∧ev lt (kas_asc p f m)≤m+f∧Sto lt p (ev lt (kas_asc p f m))∧(ev lt (kas_asc p f m)<m+f→lt (g p (ev lt (kas_asc p f m))) (g p (ev lt (kas_asc p f m) - 1))=true)
 |0,m,_,hs=>⟨Nat.le_refl _,Nat.le_refl _,hs,fun h=>absurd h (Nat.lt_irrefl _)⟩
 |f+1,m,h1,hs=>by
  show m≤ev lt (if lt (g p m) (g p (m - 1))=true then .ret m else kas_asc p f (m+1))∧ev lt (if lt (g p m) (g p (m - 1))=true then .ret m else kas_asc p f (m+1))≤m+(f+1)∧Sto lt p (ev lt (if lt (g p m) (g p (m - 1))=true then .ret m else kas_asc p f (m+1)))∧(ev lt (if lt (g p m) (g p (m - 1))=true then .ret m else kas_asc p f (m+1))<m+(f+1)→lt (g p (ev lt (if lt (g p m) (g p (m - 1))=true then .ret m else kas_asc p f (m+1)))) (g p (ev lt (if lt (g p m) (g p (m - 1))=true then .ret m else kas_asc p f (m+1)) - 1))=true)
  by_cases c:lt (g p m) (g p (m - 1))=true
  ·rw [if_pos c]
   exact ⟨Nat.le_refl _,Nat.le_add_right _ _,hs,fun _=>c⟩
  ·rw [if_neg c]
   have c:lt (g p m) (g p (m - 1))=false:=by simpa using c
   have hs':Sto lt p (m+1):=fun i j hij hj=>by
    by_cases e:j=m
    ·subst e
     by_cases e2:i=j
     ·subst e2;exact irr O _
     ·exact O.ntr _ _ _ c (hs i (j - 1) (by omega) (by exact Nat.sub_lt (by assumption) (by decide)))
    ·exact hs i j hij (by omega)
   obtain ⟨a,b,d,e⟩:=ev_asc f (m+1) (by exact Nat.lt_succ_of_lt (by assumption)) hs'
   exact ⟨by exact Nat.le_of_lt (by assumption),by omega,d,fun h=>e (by omega)⟩
theorem Dto.eqv {p p1:Array Nat} {k:Nat} (h:Dto lt p k) (he:∀i,i<k→Eqv lt (g p1 i) (g p i)):Dto lt p1 k:=fun i j hij hj=>
 O.ntr _ _ _ (he i (by exact Nat.lt_of_le_of_lt (by assumption) (by assumption))).1 (O.ntr _ _ _ (h i j hij hj) (he j hj).2)
def Blk (lt:Nat→Nat→Bool) (p:Array Nat) (m q:Nat):Prop:=q+1≤m∧∀i j,m - (q+1)≤i→i<m→m - (q+1)≤j→j<m→Eqv lt (g p i) (g p j)
theorem rev_blk {p:Array Nat} {m q:Nat} (hm:m≤p.size) (hb:Blk lt p m q):∀i,Eqv lt (g (kas_rev p (m - (q+1)) m) i) (g p i):=fun i=>by
 have h1:=hb.1
 rw [g_rev hm]
 split
 ·exact hb.2 _ _ (by omega) (by omega) (by omega) (by omega)
 ·exact ⟨irr O _,irr O _⟩
theorem ev_desc:∀f {p:Array Nat} (m q:Nat),1≤m→m+f≤p.size→Dto lt p m→Blk lt p m q→
  let r:=ev lt (kas_desc f p m q);m≤r.2.1∧r.2.1≤m+f∧r.1.size=p.size∧Dto lt r.1 r.2.1∧Blk lt r.1 r.2.1 r.2.2
 |0,p,m,q,_,_,hd,hb=>⟨Nat.le_refl _,Nat.le_refl _,rfl,hd,hb⟩
 |f+1,p,m,q,h1,hz,hd,hb=>by
  intro r
  have b1:=hb.1
  have single:∀(p':Array Nat),Blk lt p' (m+1) 0:=fun p'=>⟨by exact Nat.lt_succ_of_lt (by assumption),fun i j a b c d=>by
   have:i=j:=by omega
   subst this;exact ⟨irr O _,irr O _⟩⟩
  have low:lt (g p (m - 1)) (g p m)=false→Dto lt p (m+1):=fun c i j hij hj=>by
   by_cases e:j=m
   ·subst e
    by_cases e2:i=j
    ·subst e2;exact irr O _
    ·exact O.ntr _ _ _ (hd i (j - 1) (by omega) (by exact Nat.sub_lt (by assumption) (by decide))) c
   ·exact hd i j hij (by omega)
  by_cases c:lt (g p m) (g p (m - 1))=true
  ·have cl:=low (O.asym _ _ c)
   by_cases hq:q > 0
   ·have e:r=ev lt (kas_desc f (kas_rev p (m - (q+1)) m) (m+1) 0):=by
     show ev lt (if lt (g p m) (g p (m - 1))=true then (if q > 0 then _ else _) else _)=_
     rw [if_pos c,if_pos hq]
    obtain ⟨a,b,s,d,k⟩:=ev_desc f (p:=kas_rev p (m - (q+1)) m) (m+1) 0 (by exact Nat.lt_succ_of_lt (by assumption)) (by rw [rev_size];omega) (Dto.eqv O cl fun i _=>rev_blk O (by omega) hb i) (single _)
    rw [e]
    exact ⟨by exact Nat.le_of_lt (by assumption),by omega,by rw [s,rev_size],d,k⟩
   ·have e:r=ev lt (kas_desc f p (m+1) 0):=by
     show ev lt (if lt (g p m) (g p (m - 1))=true then (if q > 0 then _ else _) else _)=_
     rw [if_pos c,if_neg hq]
    obtain ⟨a,b,s,d,k⟩:=ev_desc f (p:=p) (m+1) 0 (by exact Nat.lt_succ_of_lt (by assumption)) (by omega) cl (single _)
    rw [e]
    exact ⟨by exact Nat.le_of_lt (by assumption),by omega,s,d,k⟩
  ·have c':lt (g p m) (g p (m - 1))=false:=by simpa using c
   by_cases d1:lt (g p (m - 1)) (g p m)=true
   ·have e:r=(p,m,q):=by
     show ev lt (if lt (g p m) (g p (m - 1))=true then _ else KasT.ask _ _ fun d=>if d=true then _ else _)=_
     rw [if_neg c]
     show ev lt (if lt (g p (m - 1)) (g p m)=true then KasT.ret (p,m,q) else _)=_
     rw [if_pos d1]
     rfl
    rw [e]
    exact ⟨Nat.le_refl _,Nat.le_add_right _ _,rfl,hd,hb⟩
   ·have d':lt (g p (m - 1)) (g p m)=false:=by simpa using d1
    have e:r=ev lt (kas_desc f p (m+1) (q+1)):=by
     show ev lt (if lt (g p m) (g p (m - 1))=true then _ else KasT.ask _ _ fun d=>if d=true then _ else _)=_
     rw [if_neg c]
     show ev lt (if lt (g p (m - 1)) (g p m)=true then KasT.ret (p,m,q) else _)=_
     rw [if_neg d1]
    have blk:Blk lt p (m+1) (q+1):=⟨by exact Nat.succ_le_succ (by assumption),fun i j i1 i2 j1 j2=>by
     have to:∀k,m - (q+1)≤k→k<m+1→Eqv lt (g p k) (g p (m - 1)):=fun k k1 k2=>by
      by_cases z:k=m
      ·subst z;exact ⟨c',d'⟩
      ·exact hb.2 k (m - 1) k1 (by omega) (by omega) (by exact Nat.sub_lt (by assumption) (by decide))
     have a:=to i (by omega) i2
     have b:=to j (by omega) j2
     exact ⟨O.ntr _ _ _ a.1 b.2,O.ntr _ _ _ b.1 a.2⟩⟩
    obtain ⟨a,b,s,d,k⟩:=ev_desc f (p:=p) (m+1) (q+1) (by exact Nat.lt_succ_of_lt (by assumption)) (by omega) (low d') blk
    rw [e]
    exact ⟨by exact Nat.le_of_lt (by assumption),by omega,s,d,k⟩
theorem Dto.rev {p:Array Nat} {m:Nat} (hm:m≤p.size) (h:Dto lt p m):Sto lt (kas_rev p 0 m) m:=fun i j hij hj=>by
 rw [g_rev hm,g_rev hm,if_pos ⟨by exact Nat.zero_le _,by assumption⟩,if_pos ⟨by exact Nat.zero_le _,by exact Nat.lt_of_le_of_lt (by assumption) (by assumption)⟩]
 exact h _ _ (by omega) (by omega)
theorem ev_tail3 {p:Array Nat} {m nrem:Nat} (h1:1≤m) (hn:m≤nrem) (hz:nrem≤p.size) (h:Dto lt p m):let r:=ev lt (kas_tail3 m nrem p);1≤r.1∧r.1≤nrem∧Sto lt r.2 r.1:=by
 intro r
 have e:r=(ev lt (kas_asc (kas_rev p 0 m) (nrem - m) m),kas_rev p 0 m):=ev_bind lt _ _
 obtain ⟨a,b,c,_⟩:=ev_asc O (p:=kas_rev p 0 m) (nrem - m) m h1 (Dto.rev O (by exact Nat.le_trans (by assumption) (by assumption)) h)
 rw [e]
 exact ⟨by show 1≤_;exact Nat.le_trans (by assumption) (by assumption),by show _≤nrem;omega,c⟩
theorem ev_descPart {p:Array Nat} {m nrem:Nat} (hn:m+1≤nrem) (hz:nrem≤p.size) (h:Dto lt p (m+1)):let r:=ev lt (kas_descPart m nrem p);1≤r.1∧r.1≤nrem∧Sto lt r.2 r.1:=by
 intro r
 have single:Blk lt p (m+1) 0:=⟨by omega,fun i j a b c d=>by
  have:i=j:=by omega
  subst this;exact ⟨irr O _,irr O _⟩⟩
 obtain ⟨a,b,s,d,k⟩:=ev_desc O (nrem - (m+1)) (p:=p) (m+1) 0 (by omega) (by omega) h single
 have e:r=ev lt (if (ev lt (kas_desc (nrem - (m+1)) p (m+1) 0)).2.2 > 0 then kas_tail3 (ev lt (kas_desc (nrem - (m+1)) p (m+1) 0)).2.1 nrem (kas_rev (ev lt (kas_desc (nrem - (m+1)) p (m+1) 0)).1 ((ev lt (kas_desc (nrem - (m+1)) p (m+1) 0)).2.1 - ((ev lt (kas_desc (nrem - (m+1)) p (m+1) 0)).2.2+1)) (ev lt (kas_desc (nrem - (m+1)) p (m+1) 0)).2.1) else kas_tail3 (ev lt (kas_desc (nrem - (m+1)) p (m+1) 0)).2.1 nrem (ev lt (kas_desc (nrem - (m+1)) p (m+1) 0)).1):=ev_bind lt _ _
 rw [e]
 generalize ev lt (kas_desc (nrem - (m+1)) p (m+1) 0)=x at a b s d k
 by_cases hq:x.2.2 > 0
 ·rw [if_pos hq]
  exact ev_tail3 O (by omega) (by omega) (by rw [rev_size];omega) (Dto.eqv O d fun i _=>rev_blk O (by omega) k i)
 ·rw [if_neg hq]
  exact ev_tail3 O (by omega) (by omega) (by omega) d
theorem ev_count {p:Array Nat} {nrem:Nat} (h1:1≤nrem) (hz:nrem≤p.size):let r:=ev lt (kas_count nrem p);1≤r.1∧r.1≤nrem∧Sto lt r.2 r.1:=by
 intro r
 have s1:Sto lt p 1:=fun i j hij hj=>by
  have a:i=0:=by omega
  have b:j=0:=by omega
  subst a b;exact irr O _
 obtain ⟨a,b,c,e⟩:=ev_asc O (p:=p) (nrem - 1) 1 (Nat.le_refl _) s1
 have er:r=ev lt ((fun n=>if (n==nrem)=true then KasT.ret (n,p) else if n > 1 then KasT.ask (p.getD 0 0) (p.getD (n - 1) 0) fun c=>if c=true then KasT.ret (n,p) else kas_descPart n nrem (kas_rev p 0 n) else kas_descPart n nrem p) (ev lt (kas_asc p (nrem - 1) 1))):=ev_bind lt _ _
 rw [er]
 generalize ev lt (kas_asc p (nrem - 1) 1)=m at a b c e
 dsimp only
 by_cases h2:(m==nrem)=true
 ·rw [if_pos h2]
  exact ⟨a,by show m≤nrem;omega,c⟩
 ·rw [if_neg h2]
  have hm:m<nrem:=by
   have:m≠nrem:=by simpa using h2
   omega
  have last:=e (by omega)
  by_cases h3:m > 1
  ·rw [if_pos h3]
   show let r:=ev lt (if lt (g p 0) (g p (m - 1))=true then KasT.ret (m,p) else kas_descPart m nrem (kas_rev p 0 m));1≤r.1∧r.1≤nrem∧Sto lt r.2 r.1
   by_cases h4:lt (g p 0) (g p (m - 1))=true
   ·rw [if_pos h4]
    exact ⟨a,by show m≤nrem;exact Nat.le_of_lt (by assumption),c⟩
   ·rw [if_neg h4]
    have h4:lt (g p 0) (g p (m - 1))=false:=by simpa using h4
    have all:∀i j,i<m→j<m→lt (g p i) (g p j)=false:=fun i j hi hj=>O.ntr _ _ _ (O.ntr _ _ _ (c 0 i (by exact Nat.zero_le _) hi) h4) (c j (m - 1) (by omega) (by exact Nat.sub_lt (by assumption) (by decide)))
    have blk:Blk lt p m (m - 1):=⟨by exact Nat.sub_lt (by assumption) (by decide),fun i j _ i2 _ j2=>⟨all i j i2 j2,all j i j2 i2⟩⟩
    have d1:Dto lt p (m+1):=fun i j hij hj=>by
     by_cases z:j=m
     ·subst z
      by_cases z2:i=j
      ·subst z2;exact irr O _
      ·exact O.ntr _ _ _ (all i (j - 1) (by omega) (by exact Nat.sub_lt (by assumption) (by decide))) (O.asym _ _ last)
     ·exact all i j (by omega) (by omega)
    have rb:=rev_blk O (by omega) blk
    rw [show m - (m - 1+1)=0 by omega] at rb
    exact ev_descPart O (by assumption) (by rw [rev_size];assumption) (Dto.eqv O d1 fun i _=>rb i)
  ·rw [if_neg h3]
   have:m=1:=by omega
   subst this
   refine ev_descPart O (by assumption) hz fun i j hij hj=> ?_
   by_cases z:i=j
   ·subst z;exact irr O _
   ·have a0:i=0:=by omega
    have b1:j=1:=by omega
    subst a0 b1
    exact O.asym _ _ last
theorem ev_place {p:Array Nat} {k:Nat}:∀f l r,r - l≤f→l≤r→r≤k→(∀i,i<l→lt (g p k) (g p i)=false)→(∀i,r≤i→i<k→lt (g p k) (g p i)=true)→Sto lt p k→
  let x:=ev lt (kas_place p k f l r);x≤k∧(∀i,i<x→lt (g p k) (g p i)=false)∧∀i,x≤i→i<k→lt (g p k) (g p i)=true
 |0,l,r,hf,hlr,hrk,h1,h2,_=>by
  have:l=r:=by omega
  subst this
  exact ⟨hrk,h1,h2⟩
 |f+1,l,r,hf,hlr,hrk,h1,h2,hs=>by
  intro x
  by_cases hl:l ≥ r
  ·have e:x=l:=by
    show ev lt (if l ≥ r then KasT.ret l else _)=l
    rw [if_pos hl];rfl
   have:l=r:=by omega
   subst this
   rw [e]
   exact ⟨hrk,h1,h2⟩
  ·by_cases c:lt (g p k) (g p ((l+r) / 2))=true
   ·have e:x=ev lt (kas_place p k f l ((l+r) / 2)):=by
     show ev lt (if l ≥ r then KasT.ret l else KasT.ask _ _ fun c=>if c=true then _ else _)=_
     rw [if_neg hl]
     show ev lt (if lt (g p k) (g p ((l+r) / 2))=true then _ else _)=_
     rw [if_pos c]
    rw [e]
    refine ev_place f l ((l+r) / 2) (by omega) (by omega) (by omega) h1 (fun i i1 i2=> ?_) hs
    cases z:lt (g p k) (g p i) with
    |true=>rfl
    |false=>
     have:=O.ntr _ _ _ z (hs ((l+r) / 2) i i1 i2)
     rw [c] at this;cases this
   ·have c':lt (g p k) (g p ((l+r) / 2))=false:=by simpa using c
    have e:x=ev lt (kas_place p k f ((l+r) / 2+1) r):=by
     show ev lt (if l ≥ r then KasT.ret l else KasT.ask _ _ fun c=>if c=true then _ else _)=_
     rw [if_neg hl]
     show ev lt (if lt (g p k) (g p ((l+r) / 2))=true then _ else _)=_
     rw [if_neg c]
    rw [e]
    refine ev_place f ((l+r) / 2+1) r (by omega) (by omega) hrk (fun i i1=>O.ntr _ _ _ c' (hs i ((l+r) / 2) (by omega) (by omega))) h2 hs
theorem ev_bin:∀f {p:Array Nat} (k:Nat),k+f=p.size→Sto lt p k→Sto lt (ev lt (kas_bin f p k)) p.size
 |0,p,k,hz,hs=>by
  have:k=p.size:=by assumption
  subst this;exact hs
 |f+1,p,k,hz,hs=>by
  have e:ev lt (kas_bin (f+1) p k)=ev lt (kas_bin f (bubble p k (k - ev lt (kas_place p k k 0 k))) (k+1)):=ev_bind lt _ _
  obtain ⟨x1,x2,x3⟩:=ev_place O (p:=p) (k:=k) k 0 k (by exact Nat.le_refl _) (by exact Nat.zero_le _) (Nat.le_refl _) (fun i hi=>by omega) (fun i i1 i2=>by omega) hs
  rw [e]
  generalize ev lt (kas_place p k k 0 k)=x at x1 x2 x3
  have hs':Sto lt (bubble p k (k - x)) (k+1):=fun i j hij hj=>by
   rw [g_bub (by omega) (by exact Nat.sub_le _ _),g_bub (by omega) (by exact Nat.sub_le _ _),show k - (k - x)=x by omega]
   by_cases j1:j=x
   ·rw [if_pos j1]
    by_cases i1:i=x
    ·rw [if_pos i1];exact irr O _
    ·rw [if_neg i1,if_neg (by omega)]
     exact x2 i (by omega)
   ·rw [if_neg j1]
    by_cases j2:x<j∧j≤k
    ·rw [if_pos j2]
     by_cases i1:i=x
     ·rw [if_pos i1];exact O.asym _ _ (x3 (j - 1) (by omega) (by omega))
     ·rw [if_neg i1]
      by_cases i2:x<i∧i≤k
      ·rw [if_pos i2];exact hs (i - 1) (j - 1) (by omega) (by omega)
      ·rw [if_neg i2];exact hs i (j - 1) (by omega) (by omega)
    ·rw [if_neg j2,if_neg (by omega),if_neg (by omega)]
     exact hs i j hij (by omega)
  have:=ev_bin f (p:=bubble p k (k - x)) (k+1) (by rw [bubble_size];omega) hs'
  rw [bubble_size] at this
  exact this
theorem ev_sort {n:Nat} (h1:1≤n):Sto lt (ev lt (kas_sort n)) n:=by
 have hz:(List.range n).toArray.size=n:=by simp
 have e:ev lt (kas_sort n)=ev lt ((fun r:Nat×Array Nat=>if r.1<n then kas_bin (n - max r.1 1) r.2 (max r.1 1) else .ret r.2) (ev lt (kas_count n (List.range n).toArray))):=ev_bind lt _ _
 obtain ⟨a,b,c⟩:=ev_count O (p:=(List.range n).toArray) h1 (by omega)
 have pm:Pm n (ev lt (kas_count n (List.range n).toArray)).2:=(asks_count (by assumption) n (Array.Perm.refl _)).ev lt
 rw [e]
 generalize ev lt (kas_count n (List.range n).toArray)=r at a b c pm
 dsimp only
 have sz:=pm.size
 by_cases h:r.1<n
 ·rw [if_pos h,show max r.1 1=r.1 by omega]
  have:=ev_bin O (n - r.1) (p:=r.2) r.1 (by omega) c
  rw [sz] at this
  exact this
 ·rw [if_neg h]
  have:r.1=n:=by omega
  rw [this] at c
  exact c
end
end Srt
namespace Srt
open PySem PySem.W PyProof.Rows
section
variable {prog:Program} {w:World} {A:Around} {E:Value→Shared→Prop} {s:Shared}
theorem list_sort_raw {κ:SortKind} {lt:Nat→Nat→Bool} (O:Ord lt) {a:Addr} {vs:List Value} {n:Nat} {P:PySem.Fin→Shared→Prop} (ho:s.heap.get? a=some (seqObj "list" vs.toArray n)) (h64:vs.length<64)
  (hk:∀h',(∀b o,b≠a→s.heap.get? b=some o→h'.get? b=some o)→2≤vs.length→∀Q:SortKind→Shared→Prop,Q κ {s with heap:=h'}→wpAny (model prog w) A (keyKind' vs.toArray) Q E {s with heap:=h'})
  (hc:∀h',(∀b o,b≠a→s.heap.get? b=some o→h'.get? b=some o)→∀i j (C:Bool→Shared→Prop),i<vs.length→j<vs.length→C (lt i j) {s with heap:=h'}→kas_ask prog w A κ vs i j C {s with heap:=h'})
  (h:∀p:Array Nat,Pm vs.length p→Sto lt p vs.length→P (.done (.ret .none)) {s with heap:=sortedHeap s.heap a vs (p.toList.map fun i=>vs.getD i Value.none).toArray}):
  wpAny (model prog w) A (Builtin.«list.sort» ⟨[.ref a],[]⟩) P E s:=by
 rw [list_sort_plain]
 have ha:a<s.heap.objs.size:=Heap.lt_size ho
 refine wpAny_bind (listItems_at ho rfl ?_)
 refine wpAny_bind (listUpdate_at ho rfl ?_ (by rw [List.size_toArray,sizeLine_eq];omega) (Nat.zero_le _))
 obtain ⟨e1,ho1⟩:∃e1,(s.heap.update a (Obj.mapSeq fun _=> #[])).get? a=some (seqObj "list" #[] e1):=⟨_,get?_update_seq ho (fun _=> #[])⟩
 refine wpAny_bind (seqEpoch_at ho1 rfl ?_)
 refine wpAny_bind (wpAny_newTuple ?_ (by show vs.length≤_;rw [sizeLine_eq];omega))
 refine wpAny_bind (wpAny_newList ?_ (Nat.zero_le _))
 refine wpAny_holding ?_
 have keep:∀b o,b≠a→s.heap.get? b=some o→(((s.heap.update a (Obj.mapSeq fun _=> #[])).push (seqObj "tuple" vs.toArray 0)).push (seqObj "list" #[] 0)).get? b=some o:=fun b o ne q=>by
  have hlt:b<s.heap.objs.size:=Heap.lt_size q
  rw [Heap.get?_push_ne _ _ _ (by rw [size_push',Heap.size_update];exact Nat.ne_of_lt (Nat.lt_succ_of_lt hlt)),Heap.get?_push_ne _ _ _ (by rw [Heap.size_update];exact Nat.ne_of_lt hlt),Heap.get?_update_ne _ _ _ _ ne]
  exact q
 have ho6:(((s.heap.update a (Obj.mapSeq fun _=> #[])).push (seqObj "tuple" vs.toArray 0)).push (seqObj "list" #[] 0)).get? a=some (seqObj "list" #[] e1):=by
  rw [Heap.get?_push_ne _ _ _ (by rw [size_push',Heap.size_update];exact Nat.ne_of_lt (Nat.lt_succ_of_lt ha)),Heap.get?_push_ne _ _ _ (by rw [Heap.size_update];exact Nat.ne_of_lt ha)]
  exact ho1
 show wpAny (model prog w) A _ P E {s with heap:=((s.heap.update a (Obj.mapSeq fun _=> #[])).push (seqObj "tuple" vs.toArray 0)).push (seqObj "list" #[] 0)}
 dsimp only
 have hsz:vs.toArray.size=vs.length:=by simp
 by_cases h2:vs.toArray.size<2
 ·rw [if_pos h2,if_pos h2]
  refine wpAny_bind (wpAny_pure ?_)
  rw [StateT.run_pure]
  refine wpAny_bind (wpAny_pure ?_)
  dsimp only
  refine wpAny_bind (seqEpoch_at ho6 rfl ?_)
  refine wpAny_bind (listUpdate_at ho6 rfl ?_ (hsz2:=by rw [Array.size_map];show (pairsOf vs).size≤_;rw [pairsOf_size,sizeLine_eq];omega))
  simp only [bne_self_eq_false,Bool.false_eq_true,if_false]
  have fin:=h (List.range vs.length).toArray (Array.Perm.refl _) (fun i j hij hj=>by
   have:i=j:=by omega
   subst this;exact irr O _)
  have e:(List.range vs.length).toArray.toList.map (fun i=>vs.getD i Value.none)=vs:=by
   refine List.ext_getElem? fun i=> ?_
   simp only [List.getElem?_map]
   by_cases hi:i<vs.length
   ·simp [hi]
   ·simp [Nat.le_of_not_lt hi]
  rw [e] at fin
  have e2:(Array.map (fun x=>x.snd) (vs.toArray.zip vs.toArray))=vs.toArray:=by
   apply Array.toList_inj.mp
   simp [List.map_snd_zip]
  rw [show Array.map (fun x:Keyed=>x.snd) (arrOf (SortSt.mk' general' (vs.toArray.zip vs.toArray) #[] 7 none))=vs.toArray from e2]
  exact wpAny_pure fin
 ·rw [if_neg h2,if_neg h2]
  have h2':2≤vs.length:=by rw [hsz] at h2;exact Nat.not_lt.mp (by assumption)
  refine wpAny_bind (hk _ keep h2' _ ?_)
  refine wpAny_bind (wpAny_mono (kat_run (ks:=vs) (vs:=vs) (κ:=κ) (Q:=fun st' s'=>∃p:Array Nat,s'={s with heap:=((s.heap.update a (Obj.mapSeq fun _=> #[])).push (seqObj "tuple" vs.toArray 0)).push (seqObj "list" #[] 0)}∧Pm vs.length p∧Sto lt p vs.length∧arrOf st'=p.map (kas_item (vs.toArray.zip vs.toArray))∧failedOf st'=none)
   rfl h2' h64 (G:=fun p s'=>s'={s with heap:=((s.heap.update a (Obj.mapSeq fun _=> #[])).push (seqObj "tuple" vs.toArray 0)).push (seqObj "list" #[] 0)}∧Pm vs.length p∧Sto lt p vs.length) (fun p st' s' a1 a2 a3 a4=>⟨p,a4.1,a4.2.1,a4.2.2,a2,a3⟩) ?_) ?_ fun _ _ e=>e)
  ·exact AsksP.wp (lt:=lt) (hc _ keep) (asks_sort (by exact Nat.le_of_lt (by assumption))) ⟨rfl,(asks_sort (by exact Nat.le_of_lt (by assumption))).ev lt,ev_sort O (by exact Nat.le_of_lt (by assumption))⟩
  ·rintro ⟨⟨⟩,st'⟩ s' ⟨p,rfl,hp,hs,har,hf⟩
   dsimp only
   rw [kat_snds rfl har]
   refine wpAny_bind (seqEpoch_at ho6 rfl ?_)
   refine wpAny_bind (listUpdate_at ho6 rfl ?_ (Nat.zero_le _) (by rw [List.size_toArray,List.length_map,Array.length_toList,hp.size,sizeLine_eq];omega))
   rw [hf]
   simp only [bne_self_eq_false,Bool.false_eq_true,if_false]
   exact wpAny_pure (h p hp hs)
theorem sorted_raw {κ:SortKind} {lt:Nat→Nat→Bool} (O:Ord lt) {v:Value} (I:List Value→Prop) {Q:Value→Shared→Prop} (h64:∀vs,I vs→vs.length<64)
  (hcol:∀(Q:List Value→Shared→Prop),(∀vs h1 t1,I vs→(∀b o,s.heap.get? b=some o→h1.get? b=some o)→Q vs {s with heap:=h1,toks:=t1})→wpAny (model prog w) A.in1 (collect v) Q E s)
  (hk:∀vs h' t',I vs→(∀b o,s.heap.get? b=some o→h'.get? b=some o)→2≤vs.length→∀Q:SortKind→Shared→Prop,Q κ {s with heap:=h',toks:=t'}→wpAny (model prog w) A.in1.in1 (keyKind' vs.toArray) Q E {s with heap:=h',toks:=t'})
  (hc:∀vs h' t',I vs→(∀b o,s.heap.get? b=some o→h'.get? b=some o)→∀i j (C:Bool→Shared→Prop),i<vs.length→j<vs.length→C (lt i j) {s with heap:=h',toks:=t'}→kas_ask prog w A.in1.in1 κ vs i j C {s with heap:=h',toks:=t'})
  (h:∀vs (p:Array Nat) (h1 h':Heap) t' l e,I vs→Pm vs.length p→Sto lt p vs.length→(∀b o,s.heap.get? b=some o→h1.get? b=some o)→(∀b o,h1.get? b=some o→h'.get? b=some o)→h1.objs.size≤l→h'.get? l=some (seqObj "list" (p.toList.map fun i=>vs.getD i Value.none).toArray e)→Q (.ref l) {s with heap:=h',toks:=t'}):
  wpAny (model prog w) A (call (.builtin "sorted") [v]) Q E s:=by
 refine Calls.call_function_entry kind_sorted plain_sorted entry_sorted (args_sorted1 _) ?_
 unfold Builtin.«sorted»
 refine wpAny_bind (m:=checkCount "sorted" 1 1 _) (wpAny_pure ?_)
 refine wpAny_bind (hcol _ fun vs h1 t1 hI k1=> ?_)
 have h64:=h64 vs hI
 refine wpAny_bind (wpAny_newList ?_ (by rw [sizeLine_eq];omega))
 have hoL:(h1.push (seqObj "list" vs.toArray 0)).get? h1.objs.size=some (seqObj "list" vs.toArray 0):=Heap.get?_push_size _ rfl
 show wpAny _ _ _ _ _ {s with heap:=h1.push (seqObj "list" vs.toArray 0),toks:=t1}
 have k3:∀b o,h1.get? b=some o→b≠h1.objs.size∧(h1.push (seqObj "list" vs.toArray 0)).get? b=some o:=fun b o q=>
  ⟨Nat.ne_of_lt (Heap.lt_size q),Heap.get?_push_of_some _ q⟩
 have k2:∀b o,s.heap.get? b=some o→b≠h1.objs.size∧(h1.push (seqObj "list" vs.toArray 0)).get? b=some o:=fun b o q=>k3 b o (k1 b o q)
 refine wpAny_bind (wpAny_holding (wpAny_call_entry slot_list_sort ⟨_,hoL,rfl⟩ entry_list_sort (list_sort_raw (s:={s with heap:=h1.push (seqObj "list" vs.toArray 0),toks:=t1}) (κ:=κ) O hoL h64 (fun h' k l2 Q q=> ?_) (fun h' k i j C hi hj q=> ?_) fun p hp hs=>⟨_,rfl,?_⟩) (args_list_sort _)))
 ·exact hk vs h' t1 hI (fun b o q=>k b o (k2 b o q).1 (k2 b o q).2) l2 Q q
 ·exact hc vs h' t1 hI (fun b o q=>k b o (k2 b o q).1 (k2 b o q).2) i j C hi hj q
 ·refine wpAny_pure ⟨_,rfl,?_⟩
  have hz:h1.objs.size<(h1.push (seqObj "list" vs.toArray 0)).objs.size:=by rw [size_push'];exact Nat.lt_succ_self _
  obtain ⟨e,he⟩:∃e,(sortedHeap (h1.push (seqObj "list" vs.toArray 0)) h1.objs.size vs (p.toList.map fun i=>vs.getD i Value.none).toArray).get? h1.objs.size=some (seqObj "list" (p.toList.map fun i=>vs.getD i Value.none).toArray e):=by
   unfold sortedHeap
   obtain ⟨e1,ho1⟩:∃e1,((h1.push (seqObj "list" vs.toArray 0)).update h1.objs.size (Obj.mapSeq fun _=> #[])).get? h1.objs.size=some (seqObj "list" #[] e1):=⟨_,get?_update_seq hoL (fun _=> #[])⟩
   have ho6:((((h1.push (seqObj "list" vs.toArray 0)).update h1.objs.size (Obj.mapSeq fun _=> #[])).push (seqObj "tuple" vs.toArray 0)).push (seqObj "list" #[] 0)).get? h1.objs.size=some (seqObj "list" #[] e1):=by
    exact Heap.get?_push_of_some _ (Heap.get?_push_of_some _ ho1)
   exact ⟨_,get?_update_seq ho6 fun _=>_⟩
  refine h vs p h1 _ t1 h1.objs.size e hI hp hs k1 (fun b o q=> ?_) (Nat.le_refl _) he
  have q2:=k3 b o q
  unfold sortedHeap
  rw [Heap.get?_update_ne _ _ _ _ q2.1]
  refine Heap.get?_push_of_some _ (Heap.get?_push_of_some _ ?_)
  rw [Heap.get?_update_ne _ _ _ _ q2.1]
  exact q2.2
end
end Srt
namespace Srt
open PySem PySem.W PyProof.Rows L2
def ltK:Key→Key→Bool
 | .inl a,.inl b=>decide (a<b)
 | .inr a,.inr b=>decide (a.cps.toList<b.cps.toList)
 | .inl _,.inr _=>true
 | .inr _,.inl _=>false
def ltR:List Key→List Key→Bool
 |x::xs,y::ys=>if x=y then ltR xs ys else ltK x y
 |[],_::_=>true
 |_,[]=>false
theorem str_ext {a b:Str} (h:a.cps.toList=b.cps.toList):a=b:=by
 cases a;cases b;simp at h;rw [h]
theorem ltK_irr:∀a,ltK a a=false
 | .inl a=>by simp [ltK]
 | .inr a=>by simp [ltK,List.lt_irrefl]
theorem ltK_tr:∀{a b c},ltK a b=true→ltK b c=true→ltK a c=true
 | .inl a,.inl b,.inl c,h1,h2=>by simp only [ltK,decide_eq_true_eq] at *;omega
 | .inr a,.inr b,.inr c,h1,h2=>by simp only [ltK,decide_eq_true_eq] at *;exact List.lt_trans h1 h2
 | .inl _,.inl _,.inr _,_,_=>rfl
 | .inl _,.inr _,.inr _,_,_=>rfl
 | .inl _,.inr _,.inl _,_,h2=>by simp [ltK] at h2
 | .inr _,.inl _,_,h1,_=>by simp [ltK] at h1
 | .inr _,.inr _,.inl _,_,h2=>by simp [ltK] at h2
theorem ltK_tri:∀a b,ltK a b=false→a=b∨ltK b a=true
 | .inl a,.inl b,h=>by
  simp only [ltK,decide_eq_true_eq,decide_eq_false_iff_not] at *
  rcases Int.lt_trichotomy a b with x|x|x
  ·exact absurd x h
  ·exact .inl (by rw [x])
  ·exact .inr x
 | .inr a,.inr b,h=>by
  simp only [ltK,decide_eq_true_eq,decide_eq_false_iff_not] at *
  by_cases e:b.cps.toList<a.cps.toList
  ·exact .inr e
  ·exact .inl (congrArg Sum.inr (str_ext (List.le_antisymm (List.not_lt.mp e) (List.not_lt.mp h))))
 | .inl _,.inr _,h=>by simp [ltK] at h
 | .inr _,.inl _,_=> .inr rfl
theorem ltR_irr:∀a,ltR a a=false
 |[]=>rfl
 |x::xs=>by simp [ltR,ltR_irr xs]
theorem ltR_tr:∀{a b c},ltR a b=true→ltR b c=true→ltR a c=true
 |_,[],_,h,_=>by simp [ltR] at h
 |_,_::_,[],_,h=>by simp [ltR] at h
 |[],_::_,_::_,_,_=>rfl
 |x::xs,y::ys,z::zs,h1,h2=>by
  unfold ltR at h1 h2 ⊢
  by_cases e1:x=y
  ·subst e1
   rw [if_pos rfl] at h1
   by_cases e2:x=z
   ·rw [if_pos e2] at h2 ⊢;exact ltR_tr h1 h2
   ·rw [if_neg e2] at h2 ⊢;exact h2
  ·rw [if_neg e1] at h1
   by_cases e2:y=z
   ·subst e2
    rw [if_neg e1];exact h1
   ·rw [if_neg e2] at h2
    have:=ltK_tr h1 h2
    rw [if_neg (fun e=>by rw [e,ltK_irr] at this;cases this)]
    exact this
theorem ltR_tri:∀a b,ltR a b=false→a=b∨ltR b a=true
 |[],[],_=> .inl rfl
 |[],_::_,h=>by simp [ltR] at h
 |_::_,[],_=> .inr rfl
 |x::xs,y::ys,h=>by
  unfold ltR at h ⊢
  by_cases e:x=y
  ·subst e
   rw [if_pos rfl] at h ⊢
   rcases ltR_tri xs ys h with r|r
   ·exact .inl (by rw [r])
   ·exact .inr r
  ·rw [if_neg e] at h
   rw [if_neg (fun z=>e z.symm)]
   exact .inr ((ltK_tri _ _ h).resolve_left e)
theorem ord_rows (f:Nat→List Key):Ord fun i j=>ltR (f i) (f j) where
 asym:=fun a b h=>by
  cases e:ltR (f b) (f a) with
  |false=>rfl
  |true=>have:=ltR_tr h e;rw [ltR_irr] at this;cases this
 ntr:=fun a b c h1 h2=>by
  cases e:ltR (f a) (f c) with
  |false=>rfl
  |true=>
   rcases ltR_tri _ _ h1 with r|r
   ·rw [r,h2] at e;cases e
   ·have:=ltR_tr r e;rw [h2] at this;cases this
def isL:Key→Bool
 | .inl _=>true
 | .inr _=>false
section
variable {prog:Program} {w:World} {A:Around} {E:Value→Shared→Prop} {s:Shared}
theorem key_eq:∀{x y:Key} {u v:Value} {C:Bool→Shared→Prop},isL x=isL y→RelV (kV x) u→RelV (kV y) v→C (decide (x=y)) s→wpAny (model prog w) A (eqBool u v) C E s
 | .inl a,.inl b,_,_,C,_,⟨t,rfl⟩,⟨t',rfl⟩,h=>wpAny_eqBool_int (by
   have:(a==b)=decide ((Sum.inl a:Key)=Sum.inl b):=by simp only [Sum.inl.injEq];rfl
   rw [this];exact h)
 | .inr a,.inr b,_,_,C,_,⟨t,rfl⟩,⟨t',rfl⟩,h=>wpAny_eqBool_str (by
   have:decide (a=b)=decide ((Sum.inr a:Key)=Sum.inr b):=by simp
   rw [this];exact h)
 | .inl _,.inr _,_,_,_,h,_,_,_=>by cases h
 | .inr _,.inl _,_,_,_,h,_,_,_=>by cases h
theorem key_lt:∀{x y:Key} {u v:Value} {b:Bool} {C:Bool→Shared→Prop},isL x=isL y→RelV (kV x) u→RelV (kV y) v→C (ltK x y) s→wpAny (model prog w) A (oneLt' b u v) C E s
 | .inl a,.inl c,_,_,true,C,_,⟨t,rfl⟩,⟨t',rfl⟩,h=>oneLt_int h
 | .inl a,.inl c,_,_,false,C,_,⟨t,rfl⟩,⟨t',rfl⟩,h=>kat_one _ _ (PyProof.Rows.lt_int (show PySem.W.BoolBack C _ s from h))
 | .inr a,.inr c,_,_,true,C,_,⟨t,rfl⟩,⟨t',rfl⟩,h=>oneLt_str h
 | .inr a,.inr c,_,_,false,C,_,⟨t,rfl⟩,⟨t',rfl⟩,h=>kat_one _ _ (PySem.P.lt_str (show PySem.W.BoolBack C _ s from h))
 | .inl _,.inr _,_,_,_,_,h,_,_,_=>by cases h
 | .inr _,.inl _,_,_,_,_,h,_,_,_=>by cases h
theorem lex_go {b fin:Bool} {C:Bool→Shared→Prop} (hf:fin=false):∀{x y:List Key} {us vs:List Value} (i:Nat),x.map isL=y.map isL→Vals (x.map kV) us→Vals (y.map kV) vs→C (ltR x y) s→KatLex prog w A b fin C (us.zip vs) i s
 |[],[],_,_,i,_,.nil,.nil,h=>by subst hf;exact h
 |[],_::_,_,_,_,e,_,_,_=>by cases e
 |_::_,[],_,_,_,e,_,_,_=>by cases e
 |x::xs,y::ys,_,_,i,e,.cons r1 r2,.cons q1 q2,h=>by
  simp only [List.map_cons,List.cons.injEq] at e
  refine kat_cons (key_eq e.1 r1 q1 ?_)
  unfold ltR at h
  by_cases z:x=y
  ·rw [decide_eq_true z]
   rw [if_pos z] at h
   exact kat_yes (lex_go hf (i+1) e.2 r2 q2 h)
  ·rw [decide_eq_false z]
   rw [if_neg z] at h
   exact kat_no (key_lt e.1 r1 q1 h)
end
abbrev Row:=Addr×List Key
def rRef (q:Row):V:= .ref q.1
theorem tups_of {X:Cx} {pins:List (Addr×Obj)} {σ:L2.St} {H:Hp} {s:Shared} (I:Inv X pins σ H s):∀(ps:List Row),(∀q∈ps,SqT X.K H q.1 (q.2.map kV))→(∀q∈ps,q.2≠[])→
  ∃fs,KatTups s.heap (ps.map fun q=>Value.ref q.1) fs∧fs.length=ps.length∧∀v∈fs,∃q∈ps,∃k r,q.2=k::r∧RelV (kV k) v
 |[],_,_=>⟨[],trivial,rfl,fun v h=>nomatch h⟩
 |q::ps,h,h0=>by
  obtain ⟨fs,t,l,f⟩:=tups_of I ps (fun q hq=>h q (.tail _ hq)) fun q hq=>h0 q (.tail _ hq)
  obtain ⟨its,rv,⟨o,ho,hc,n,hd⟩,hz⟩:=I.tuple (h q (.head _))
  cases e:q.2 with
  |nil=>exact absurd e (h0 q (.head _))
  |cons k r=>
   rw [e,List.map_cons] at rv
   cases rv with
   | @cons _ u _ us ru rr=>
    refine ⟨u::fs,.cons ho hc hd (by simp) t,by simp [l],fun v hv=> ?_⟩
    rcases List.mem_cons.mp hv with rfl|hv
    ·exact ⟨q,.head _,k,r,e,ru⟩
    ·obtain ⟨q',h1,k',r',h2,h3⟩:=f v hv
     exact ⟨q',.tail _ h1,k',r',h2,h3⟩
theorem looks_key {M:Model} {h:Heap}:∀{k:Key} {v:Value},RelV (kV k) v→Looks M h (typeOf v) (if isL k=true then Value.type "int" else Value.type "str")
 | .inl i,v,⟨t,e⟩=>by subst e;exact Looks.of_pure rfl
 | .inr x,v,⟨t,e⟩=>by subst e;exact Looks.of_pure rfl
theorem Pm.toList {n:Nat} {p:Array Nat} (h:Pm n p):p.toList.Perm (List.range n):=by
 have:=(Array.perm_iff_toList_perm).mp h
 simpa using this
theorem Cf {α:Type} (l:List α) (d:α):(List.range l.length).map (fun i=>l.getD i d)=l:=by
 refine List.ext_getElem? fun i=> ?_
 simp only [List.getElem?_map]
 by_cases hi:i<l.length
 ·simp [hi]
 ·simp [Nat.le_of_not_lt hi]
theorem Sto.pairwise {lt:Nat→Nat→Bool} {p:Array Nat} {n:Nat} (hz:p.size=n) (h:Sto lt p n):p.toList.Pairwise fun i j=>lt j i=false:=by
 rw [List.pairwise_iff_getElem]
 intro i j hi hj hij
 have:=h i j (Nat.le_of_lt hij) (by simpa [←hz] using hj)
 simp only [Array.length_toList] at hi hj
 have e1:g p i=p.toList[i]:=by simp [g,Array.getD,hi]
 have e2:g p j=p.toList[j]:=by simp [g,Array.getD,hj]
 rw [e1,e2] at this
 exact this
theorem vals_map {α:Type} (f:α→V) (f':α→Value) (hf:∀a,RelV (f a) (f' a)):∀l:List α,Vals (l.map f) (l.map f')
 |[]=> .nil
 |a::l=> .cons (hf a) (vals_map f f' hf l)
theorem sortT_core {X:Cx} {pins:List (Addr×Obj)} {σ:L2.St} {H:Hp} {s:Shared} (I:Inv X pins σ H s) {v:Value} {ps:List Row} {Q:VK} (hT:∀q∈ps,SqT X.K H q.1 (q.2.map kV)) (hS:∀q∈ps,∀q'∈ps,q.2.map isL=q'.2.map isL) (h0:∀q∈ps,q.2≠[]) (h64:ps.length<64)
  (hcol:∀(Q:List Value→Shared→Prop),(∀h1 t1,(∀b o,s.heap.get? b=some o→h1.get? b=some o)→Q (ps.map fun q=>Value.ref q.1) {s with heap:=h1,toks:=t1})→wpAny (model X.prog X.w) X.A.in1 (collect v) Q X.xe s)
  (h:∀(l:Addr) (ps':List Row),H l=none→ps'.Perm ps→ps'.Pairwise (fun a b=>ltR b.2 a.2=false)→Q (.ref l) (upd H l (.lst (ps'.map rRef)))):
  wpAny (model X.prog X.w) X.A (call (.builtin "sorted") [v]) (EP X pins σ Q) X.xe s:=by
 have lz:(ps.map fun q=>Value.ref q.1).length=ps.length:=List.length_map ..
 refine sorted_raw (κ:=tuples' true) (ord_rows fun i=>(ps.getD i (0,[])).2) (fun vs=>vs=ps.map fun q=>Value.ref q.1) (fun vs e=>by rw [e,lz];exact h64) (fun Q hq=>hcol Q fun h1 t1 k=>hq _ h1 t1 rfl k) ?_ ?_ ?_
 ·rintro vs h' t' rfl k l2 Q hq
  rw [lz] at l2
  have I':Inv X pins σ H {s with heap:=h',toks:=t'}:=I.kept k
  obtain ⟨fs,t,l,f⟩:=tups_of I' ps hT h0
  obtain ⟨q0,r0,e0⟩:∃q0 r0,ps=q0::r0:=by
   match ps,l2 with
   |q0::r0,_=>exact ⟨q0,r0,rfl⟩
  have m0:q0∈ps:=by rw [e0];exact .head _
  obtain ⟨k0,r1,e1⟩:∃k0 r1,q0.2=k0::r1:=by
   cases e:q0.2 with
   |nil=>exact absurd e (h0 q0 m0)
   |cons k r=>exact ⟨k,r,rfl⟩
  refine kat_kind (s:={s with heap:=h',toks:=t'}) (T:=if isL k0=true then Value.type "int" else Value.type "str") t (by omega) (fun v hv=> ?_) (by split<;> rfl) ?_
  ·obtain ⟨q,hq,k',r',e',rk⟩:=f v hv
   have:=hS q hq q0 m0
   rw [e',e1] at this
   simp only [List.map_cons,List.cons.injEq] at this
   rw [←this.1]
   exact looks_key rk
  ·have:((if isL k0=true then Value.type "int" else Value.type "str") !=Value.type "tuple")=true:=by split<;> rfl
   rw [this];exact hq
 ·rintro vs h' t' rfl k i j C hi hj hC
  rw [lz] at hi hj
  have I':Inv X pins σ H {s with heap:=h',toks:=t'}:=I.kept k
  show wpAny _ _ (keyLt' _ ((ps.map fun q=>Value.ref q.1).getD i Value.none) ((ps.map fun q=>Value.ref q.1).getD j Value.none)) C _ _
  have ei:(ps.map fun q=>Value.ref q.1).getD i Value.none=Value.ref ps[i].1:=by simp [hi]
  have ej:(ps.map fun q=>Value.ref q.1).getD j Value.none=Value.ref ps[j].1:=by simp [hj]
  have fi:ps.getD i (0,[])=ps[i]:=by simp [hi]
  have fj:ps.getD j (0,[])=ps[j]:=by simp [hj]
  rw [ei,ej]
  rw [fi,fj] at hC
  obtain ⟨ui,ri,⟨oi,hoi,hci,ni,hdi⟩,zi⟩:=I'.tuple (hT ps[i] (List.getElem_mem hi))
  obtain ⟨uj,rj,⟨oj,hoj,hcj,nj,hdj⟩,zj⟩:=I'.tuple (hT ps[j] (List.getElem_mem hj))
  have sh:=hS _ (List.getElem_mem hi) _ (List.getElem_mem hj)
  have el:ui.length=uj.length:=by
   rw [←ri.length,←rj.length,List.length_map,List.length_map]
   simpa using congrArg List.length sh
  refine kat_lt hoi hdi hoj hdj (lex_go (by simp [el]) 0 sh ri rj hC)
 ·rintro vs p h1 h' t' l e rfl pm st k1 k zl hl
  have I:Inv X pins σ H {s with heap:=h1,toks:=t'}:=I.kept k1
  have pl:=pm.toList
  rw [lz] at pl pm st
  have hz:=pm.size
  have mem:∀i∈p.toList,i<ps.length:=fun i hi=>by simpa using pl.mem_iff.mp hi
  have e1:(p.toList.map fun i=>(ps.map fun q=>Value.ref q.1).getD i Value.none)=(p.toList.map fun i=>ps.getD i (0,[])).map fun q=>Value.ref q.1:=by
   rw [List.map_map]
   refine List.map_congr_left fun i hi=> ?_
   have:=mem i hi
   simp [this]
  rw [e1] at hl
  have pp:(p.toList.map fun i=>ps.getD i (0,[])).Perm ps:=by
   have:=pl.map (fun i=>ps.getD i ((0,[]):Row))
   rwa [Cf] at this
  have pw:(p.toList.map fun i=>ps.getD i ((0,[]):Row)).Pairwise (fun a b=>ltR b.2 a.2=false):=by
   rw [List.pairwise_map]
   exact st.pairwise hz
  refine ⟨.ref l,_,I.laid (t':=t') (o:= .lst ((p.toList.map fun i=>ps.getD i (0,[])).map rRef)) k zl ⟨?_,_,e,vals_map rRef (fun q=>Value.ref q.1) (fun _=>rfl) _,hl⟩,rfl,h l _ (I.hok.fresh zl) pp pw⟩
  rw [List.length_map,pp.length_eq,sizeLine_eq]
  omega
end Srt
namespace Srt
open PySem PySem.W PyProof.Rows L2
structure RowsOk (K:PySem.W.Frag) (H:Hp) (ps:List Row):Prop where
 at':∀q∈ps,SqT K H q.1 (q.2.map kV)
 sh:∀q∈ps,∀q'∈ps,q.2.map isL=q'.2.map isL
 ne:∀q∈ps,q.2≠[]
 few:ps.length<64
section
variable {X:Cx}
theorem call_sortedT:By X (.builtin "sorted") (fun xs H Q=>∃(p:Addr) (ps:List Row),xs=[.ref p]∧SqL X.K H p (ps.map rRef)∧RowsOk X.K H ps∧∀(l:Addr) (ps':List Row),H l=none→ps'.Perm ps→ps'.Pairwise (fun a b=>ltR b.2 a.2=false)→Q (.ref l) (upd H l (.lst (ps'.map rRef)))):=by
 intro pins s σ H xs us Q I r h
 obtain ⟨p,ps,rfl,hq,ok,q⟩:=h
 obtain ⟨u,rfl,rx⟩:=Ce r
 cases rx
 obtain ⟨its,rv,hp,hz⟩:=I.list hq
 have e:its=ps.map fun q=>Value.ref q.1:=by
  clear hq hp hz q r ok
  induction ps generalizing its with
  |nil=>cases rv;rfl
  |cons a ps ih=>
   cases rv with
   |cons ru rr=>rw [List.map_cons,←ih _ rr];cases ru;rfl
 subst e
 refine sortT_core I ok.at' ok.sh ok.ne ok.few (fun Q hq=>collect_list hp.isList (hq _ _ fun b o ho=> ?_) (by rw [List.length_map,sizeLine_eq];have:=ok.few;omega)) q
 have hlt:b<s.heap.objs.size:=Heap.lt_size ho
 rw [Heap.get?_update_ne _ _ _ _ (Nat.ne_of_lt hlt)]
 exact Heap.get?_push_of_some _ ho
def viewO (d:Addr):Obj:={cls:= .type "dict_values",data:= .fields #[.ref d]}
theorem vals_acc {kvs:List (Key×V)} {vs:List (Key×Value)} {ps:List Row} (rel:KV kvs vs) (e:kvs.map (·.2)=ps.map rRef):vs.map (·.2)=ps.map fun q=>Value.ref q.1:=by
 induction rel generalizing ps with
 |nil=>
  cases ps with
  |nil=>rfl
  |cons _ _=>cases e
 | @cons a b l1 l2 r t ih=>
  cases ps with
  |nil=>cases e
  |cons q ps=>
   simp only [List.map_cons,List.cons.injEq] at e ⊢
   refine ⟨?_,ih e.2⟩
   have:=r.2
   rw [e.1] at this
   exact this
theorem call_sortedV (hc:X.calm=true):By X (.builtin "sorted") (fun xs H Q=>∃(v d:Addr) (kvs:List (Key×V)) (ps:List Row),xs=[.ref v]∧H v=some (.frz (viewO d) (.own 0))∧H d=some (.dK kvs)∧kvs.map (·.2)=ps.map rRef∧RowsOk X.K H ps∧∀(l:Addr) (ps':List Row),H l=none→ps'.Perm ps→ps'.Pairwise (fun a b=>ltR b.2 a.2=false)→Q (.ref l) (upd H l (.lst (ps'.map rRef)))):=by
 intro pins s σ H xs us Q I r h
 obtain ⟨v,d,kvs,ps,rfl,hv,hd,e,ok,q⟩:=h
 obtain ⟨u,rfl,rx⟩:=Ce r
 cases rx
 obtain ⟨z,lo,vs,rel,dd⟩:=dk_of I.hok hd
 obtain ⟨ep,hat⟩:=dd.dictAt
 obtain ⟨ho,_⟩:=(show ObjOk X.prog X.w H s.heap v (.frz (viewO d) (.own 0)) from I.hok v _ hv)
 refine sortT_core I ok.at' ok.sh ok.ne ok.few (fun Q hq=> ?_) q
 refine kdu_collect (A:=X.A.in1) (kdl_values (knd:=A9 X.prog X.w) (r:=v) (kvs:=vs) (ep:=ep)) (I.ok.hd hc) ⟨⟨_,ho,rfl,rfl⟩,hat⟩ (by rw [←rel.length];exact z) fun h' tk acc hk hacc=> ?_
 have ea:acc.toList=ps.map fun q=>Value.ref q.1:=by
  rw [←vals_acc rel e]
  refine List.ext_getElem? fun i=> ?_
  rw [List.getElem?_map]
  by_cases hi:i<vs.length
  ·have hi':i<acc.size:=by rw [hacc.1];exact hi
   obtain ⟨k,hx⟩:=hacc.2 i acc[i] (by simp [hi'])
   rw [hx]
   simp [hi']
  ·rw [List.getElem?_eq_none (by rw [Array.length_toList,hacc.1];exact Nat.not_lt.mp (by assumption)),List.getElem?_eq_none (by exact Nat.not_lt.mp (by assumption))]
   rfl
 rw [ea]
 exact hq h' tk hk
theorem call_sortedD (hc:X.calm=true):By X (.builtin "sorted") (fun xs H Q=>∃(d:Addr) (kvs:List (Key×V)) (ns:List Str),xs=[.ref d]∧H d=some (.dK kvs)∧kvs.map (·.1)=ns.map Sum.inr∧ns.length<64∧∀(l:Addr) (ns':List Str),H l=none→ns'.Perm ns→ns'.Pairwise (fun a b=>ltK (.inr b) (.inr a)=false)→Q (.ref l) (upd H l (.lst (ns'.map V.str)))):=by
 intro pins s σ H xs us Q I r h
 obtain ⟨d,kvs,ns,rfl,hd,e,h64,q⟩:=h
 obtain ⟨u,rfl,rx⟩:=Ce r
 cases rx
 obtain ⟨z,lo,vs,rel,dd⟩:=dk_of I.hok hd
 obtain ⟨ep,hat⟩:=dd.dictAt
 have ek:vs.map (·.1)=ns.map Sum.inr:=by
  rw [←e]
  clear hat dd e q z hd
  induction rel with
  |nil=>rfl
  |cons r t ih=>rw [List.map_cons,List.map_cons,ih,r.1]
 have len:vs.length=ns.length:=by simpa using congrArg List.length ek
 refine sorted_raw (κ:=oneType') (ord_rows fun i=>[Sum.inr (ns.getD i default)]) (fun us=>Vals (ns.map V.str) us) (fun us hu=>by have:=hu.length;rw [List.length_map] at this;omega) (fun Q hq=> ?_) ?_ ?_ ?_
 ·refine kdu_collect (A:=X.A.in1) (kdl_dict (knd:=A9 X.prog X.w) (kvs:=vs) (ep:=ep) lo) (I.ok.hd hc) hat (by rw [←rel.length];exact z) fun h' tk acc hk hacc=>hq _ h' tk ?_ hk
  have go:∀(vs:List (Key×Value)) (ns:List Str) (us:List Value),vs.map (·.1)=ns.map Sum.inr→us.length=vs.length→(∀(j:Nat) (u:Value),us[j]? =some u→∃k x,vs[j]? =some (k,x)∧(A9 X.prog X.w).is k u=true)→Vals (ns.map V.str) us:=by
   intro vs
   induction vs with
   |nil=>
    intro ns us e1 e2 _
    cases ns with
    |nil=>cases us with
     |nil=>exact .nil
     |cons _ _=>cases e2
    |cons _ _=>cases e1
   |cons p vs ih=>
    intro ns us e1 e2 h
    cases ns with
    |nil=>cases e1
    |cons n ns=>
     cases us with
     |nil=>cases e2
     |cons u us=>
      simp only [List.map_cons,List.cons.injEq] at e1
      refine .cons ?_ (ih ns us e1.2 (by simpa using e2) fun j u hj=>h (j+1) u (by simpa using hj))
      obtain ⟨k,x,hx,hk⟩:=h 0 u rfl
      simp only [List.getElem?_cons_zero,Option.some.injEq] at hx
      have:k=Sum.inr n:=by rw [←e1.1,hx]
      subst this
      rcases A7 (show keyIs (Sum.inr n) u=true from hk) with ⟨i,t,a,_⟩|⟨y,t,a,b⟩
      ·cases a
      ·cases a;exact ⟨t,b⟩
  exact go vs ns acc.toList ek (by rw [Array.length_toList];exact hacc.1) fun j u hj=>hacc.2 j u (by rw [←Array.getElem?_toList];exact hj)
 ·intro us h' t' hu k l2 Q hq
  refine kas_kind (s:={s with heap:=h',toks:=t'}) (T:=Value.type "str") l2 (fun v hv=> ?_) rfl rfl hq
  clear hq l2
  have:∀{ns:List Str} {us:List Value},Vals (ns.map V.str) us→∀v∈us,∃x t,v=Value.str x t:=by
   intro ns
   induction ns with
   |nil=>intro us hu v hv;cases hu;cases hv
   |cons n ns ih=>
    intro us hu v hv
    cases hu with
    |cons r t=>
     rcases List.mem_cons.mp hv with rfl|hv
     ·obtain ⟨t,rfl⟩:=r;exact ⟨_,_,rfl⟩
     ·exact ih t v hv
  obtain ⟨x,t,rfl⟩:=this hu v hv
  exact Looks.of_pure rfl
 ·intro us h' t' hu k i j C hi hj hC
  have lu:=hu.length
  rw [List.length_map] at lu
  obtain ⟨a,ha,ra⟩:=Vals.get hu (i:=i) (x:=V.str (ns.getD i default)) (by simp [show i<ns.length by omega])
  obtain ⟨b,hb,rb⟩:=Vals.get hu (i:=j) (x:=V.str (ns.getD j default)) (by simp [show j<ns.length by omega])
  show wpAny _ _ (keyLt' oneType' (us.getD i Value.none) (us.getD j Value.none)) C _ _
  have e1:us.getD i Value.none=a:=by simp [List.getD,ha]
  have e2:us.getD j Value.none=b:=by simp [List.getD,hb]
  rw [e1,e2,keyLt'_oneType]
  refine key_lt (x:=Sum.inr (ns.getD i default)) (y:=Sum.inr (ns.getD j default)) rfl ra rb ?_
  have:ltR [Sum.inr (ns.getD i default)] [Sum.inr (ns.getD j default)]=ltK (Sum.inr (ns.getD i default)) (Sum.inr (ns.getD j default)):=by
   unfold ltR
   split
   ·rename_i e;rw [e,ltK_irr];rfl
   ·rfl
  rw [←this];exact hC
 ·intro us p h1 h' t' l e hu pm st k1 k zl hl
  have lu:=hu.length
  rw [List.length_map] at lu
  have I:L2.Inv X pins σ H {s with heap:=h1,toks:=t'}:=I.kept k1
  rw [←lu] at pm st
  have pl:=pm.toList
  have pp:(p.toList.map fun i=>ns.getD i default).Perm ns:=by
   have:=pl.map (fun i=>ns.getD i (default:Str))
   rwa [Cf] at this
  have pw:(p.toList.map fun i=>ns.getD i (default:Str)).Pairwise (fun a b=>ltK (.inr b) (.inr a)=false):=by
   rw [List.pairwise_map]
   refine (st.pairwise pm.size).imp fun {a b} hab=> ?_
   unfold ltR at hab
   split at hab
   ·rename_i e;rw [e];exact ltK_irr _
   ·exact hab
  have mem:∀i∈p.toList,i<ns.length:=fun i hi=>by simpa using pl.mem_iff.mp hi
  have vv:Vals ((p.toList.map fun i=>ns.getD i default).map V.str) (p.toList.map fun i=>us.getD i Value.none):=by
   clear hl pw pp pl st pm
   generalize p.toList=il at mem
   induction il with
   |nil=>exact .nil
   |cons i il ih=>
    refine .cons ?_ (ih fun j hj=>mem j (.tail _ hj))
    have hi:=mem i (.head _)
    obtain ⟨a,ha,ra⟩:=Vals.get hu (i:=i) (x:=V.str (ns.getD i default)) (by simp [hi])
    have e1:us.getD i Value.none=a:=by simp [List.getD,ha]
    show L2.RelV (V.str (ns.getD i default)) (us.getD i Value.none)
    rw [e1];exact ra
  refine ⟨.ref l,_,I.laid (t':=t') (o:= .lst ((p.toList.map fun i=>ns.getD i default).map V.str)) k zl ⟨?_,_,e,vv,hl⟩,rfl,q l _ (I.hok.fresh zl) pp pw⟩
  rw [List.length_map,pp.length_eq,sizeLine_eq]
  omega
def tDVals (td:TE):TE:=fun σ H Q=>td σ H fun x H1=>∃a kvs,x= .ref a∧H1 a=some (.dK kvs)∧∀v,H1 v=none→Q (.ref v) (upd H1 v (.frz (viewO a) (.own 0)))
theorem pe_dvals {o:Expr} {td:TE} {apos cpos:Pos} (ho:PE X o td) (hbase:attributeBase o "values" X.env (eval o X.env)=eval o X.env) (hline:(apos.endLine==cpos.line)=true):PE X (.Call (.Attribute o "values" apos) [] [] cpos) (tDVals td):=by
 intro pins s σ H Q I h
 refine wpAny_Call_method hbase rfl hline PySem.F.plainAttrs_dict PySem.F.slot_dict_values PySem.F.type_dict_values (thn (ho pins s σ H _ I h) fun u s1 ⟨x,H1,I1,rx,a,kvs,ex,d,q1⟩=> ?_)
 subst ex
 obtain rfl:u=Value.ref a:=rx
 obtain ⟨t1,t2,_⟩:=isD_at I1 (.inl ⟨kvs,.inl d⟩)
 refine ⟨t1,t2,?_⟩
 obtain ⟨z,lo,vs,rel,dd⟩:=dk_of I1.hok d
 refine Calls.callWith_builtin rfl (PySem.evalArgs_none ?_)
 exact call_meetsIn PySem.F.slot_dict_values dd.typeIs PySem.F.entry_dict_values (PySem.F.args_dict_values_1 _) (meets_dict_values (A9 X.prog X.w) a lo) ⟨⟨vs,dd⟩,.ref s1.heap.objs.size,_,I1.laid (t':=s1.toks) (o:= .frz (viewO a) (.own 0)) (fun _ _ q=>Heap.get?_push_of_some _ q) (Nat.le_refl _) ⟨Heap.get?_push_size _ rfl,_,Heap.get?_push_size _ rfl⟩,rfl,q1 _ I1.fresh⟩
end
end Srt
namespace L2
open PySem PySem.Spec PyProof.Rows
end L2
namespace L2
open PySem PySem.Spec PyProof.Rows
structure PSo (X:Cx) (st:Stmt) (t:TS):Prop where
 of:PS X st t
structure PSso (X:Cx) (st:List Stmt) (t:TS):Prop where
 of:PSs X st t
structure PEo (X:Cx) (e:Expr) (t:TE):Prop where
 of:PE X e t
structure PAo (X:Cx) (es:List Expr) (t:TA):Prop where
 of:PA X es t
section
variable {X:Cx} {st:Stmt} {rest:List Stmt} {t u:TS} {e:Expr} {es:List Expr} {te:TE} {ta:TA} {pos:Pos}
theorem psso_cons (h1:PSo X st t) (h2:PSso X rest u):PSso X (st::rest) (tSeq t u):=⟨Ad h1.of h2.of⟩
theorem psso_one (h1:PSo X st t):PSso X [st] t:=⟨Ah h1.of⟩
theorem pso_of (h:PS X st t):PSo X st t:=⟨h⟩
theorem peo_of (h:PE X e te):PEo X e te:=⟨h⟩
theorem Bq {i:Int} {j:Nat}:PEo X (.Constant (.int i) j pos) (tC (.int i)):=⟨Af⟩
theorem pao_nil:PAo X [] tNil:=⟨Ac⟩
theorem Bo (ha:PEo X e te) (hr:PAo X es ta) (hs:starEach (e::es) X.env=(false,eval e X.env)::starEach es X.env:=by rfl):PAo X (e::es) (tCons te ta):=⟨Aa ha.of hr.of hs⟩
theorem peo_lst (h:PAo X es ta):PEo X (.List es pos) (tLst ta):=⟨Bm h.of⟩
end
end L2
namespace PySem
end PySem
namespace PySem
end PySem
namespace L2
open PySem PySem.Spec PyProof.Rows
end L2
namespace HT
open PySem PyProof.Rows
end HT
namespace L2
open PySem PySem.Spec PyProof.Rows
end L2
namespace HT
open PySem PyProof.Rows L2
section
open PySem.SeqAt
open PySem.AutoSeq1 (wpAny_loadPart')
open PySem.MeetsSeq PySem.MeetsSeq2 PySem.MeetsSeq3
end
end HT
namespace L2
open PySem PySem.Spec PyProof.Rows
section
variable {X:Cx}
theorem op_mulS:OpR X (binaryOp .Mult) (fun x y H Q=>∃z k,x= .str z∧y= .int k∧((k=0∧Q (.str Str.empty) H)∨(k=1∧Q (.str z) H))):=by
 intro pins s σ H x y v u Q I rx ry h
 obtain ⟨z,k,rfl,rfl,h⟩:=h
 obtain ⟨t,rfl⟩:=rx
 obtain ⟨t2,rfl⟩:=ry
 rcases h with ⟨rfl,q⟩|⟨rfl,q⟩
 ·exact PySem.P.mul_str_none (by decide) (by decide) ⟨.str _,H,I.tok _,⟨_,rfl⟩,q⟩
 ·refine PySem.P.mul_str (by decide) (fun _ e=>by simp at e) (fun _ e=>by simp at e) ?_
  rw [if_neg (by decide),if_pos (by simp)]
  exact ⟨.str _,H,I,⟨_,rfl⟩,q⟩
end
end L2
namespace L2
open PySem PySem.Spec PyProof.Rows
end L2
namespace L2
open PySem PySem.Spec PyProof.Rows
end L2
namespace L2
open PySem PySem.Spec PyProof.Rows
theorem op_neDict {X:Cx} (hu:X.A.units<cLine):OpR X (compareOp .NotEq) (fun x y H Q=>∃(a b:Addr) (kvs:List (Key×V)),x= .ref a∧y= .ref b∧H a=some (.dK kvs)∧H b=some (.dK [])∧Q (.bl (!kvs.isEmpty)) H):=by
 intro pins s σ H x y u v Q I rx ry h
 obtain ⟨a,b,kvs,rfl,rfl,ha,hb,q⟩:=h
 cases rx
 cases ry
 obtain ⟨z,lo,vs,rel,dd⟩:=dk_of I.hok ha
 obtain ⟨z2,lo2,vs2,rel2,dd2⟩:=dk_of I.hok hb
 cases rel2
 have e:=rel.length
 refine PySem.W.keq_ne (r:=true) lo lo2 dd dd2 hu (fun l=> ?_) ⟨.bl (!kvs.isEmpty),H,I,?_,q⟩
 ·have:vs=[]:=List.length_eq_zero_iff.mp l
  subst this
  exact .nil
 ·have:(!(vs.length==([]:List (Key×Value)).length && true))= !kvs.isEmpty:=by
   cases kvs with
   |nil=>cases rel;rfl
   |cons _ _=>cases rel;rfl
  rw [this]
  rfl
end L2
namespace PySem
open PyProof.Rows
end PySem
namespace L2
open PySem PySem.Spec PyProof.Rows
end L2
namespace PySem
open PyProof.Rows
namespace F
theorem owner_rvd:Manifest.owners.lookup (String.ofList ['d','e','s','r','e','v','e','r'].reverse)=some Manifest.sig_reversed:=by kernel_rfl
theorem slot_rvd_next:Slot "reversed" "__next__" "reversed.__next__":=
 .of (owner:="reversed") (n:="__next__") (by rw [typeLookup_type,builtinLookup_eq_fast];kernel_rfl) (by decide+kernel) (by decide+kernel) (by decide+kernel)
  (by first|exact .inl (by decide+kernel)|exact .inr (by decide+kernel)) (by rw [isSubtype_type];kernel_rfl)
theorem entry_rvd_next:entryFor table "reversed.__next__"=some Builtin.«reversed.__next__» :=entryFor_of_tree (by kernel_rfl)
theorem args_rvd_next_1 (a:Value):argsOk "reversed.__next__" ⟨[a],[]⟩:=by
 unfold argsOk;rw [signature?_of (id:="reversed.__next__") (n:=['_','_','t','x','e','n','_','_']) (o:=['d','e','s','r','e','v','e','r']) (by kernel_rfl) owner_rvd];kernel_rfl
theorem slot_rvd_iter:Slot "reversed" "__iter__" "reversed.__iter__":=
 .of (owner:="reversed") (n:="__iter__") (by rw [typeLookup_type,builtinLookup_eq_fast];kernel_rfl) (by decide+kernel) (by decide+kernel) (by decide+kernel)
  (by first|exact .inl (by decide+kernel)|exact .inr (by decide+kernel)) (by rw [isSubtype_type];kernel_rfl)
theorem args_rvd_iter_1 (a:Value):argsOk "reversed.__iter__" ⟨[a],[]⟩:=by
 unfold argsOk;rw [signature?_of (id:="reversed.__iter__") (n:=['_','_','r','e','t','i','_','_']) (o:=['d','e','s','r','e','v','e','r']) (by kernel_rfl) owner_rvd];kernel_rfl
theorem entry_rvd_iter:entryFor table "reversed.__iter__"=some Builtin.«dict_keyiterator.__iter__» :=
 entryFor_alias (id':="dict_keyiterator.__iter__") (by kernel_rfl) (by first|rfl|decide+kernel|(unfold String.splitOn;simp+decide [String.splitOnAux])) (by decide+kernel) (by kernel_rfl)
theorem slot_rvd_init:Slot "reversed" "__init__" "object.__init__":=
 .of (owner:="object") (n:="__init__") (by rw [typeLookup_type,builtinLookup_eq_fast];kernel_rfl) (by decide+kernel) (by decide+kernel) (by decide+kernel)
  (by first|exact .inl (by decide+kernel)|exact .inr (by decide+kernel)) (by rw [isSubtype_type];kernel_rfl)
theorem called_rvd:TypeCalled "reversed" "reversed.__new__" "object.__init__":=
 ⟨by decide+kernel,by decide+kernel,⟨_,_,mro_reversed⟩,made_reversed,by decide+kernel,by rw [isSubtype_type];kernel_rfl,slot_rvd_init⟩
theorem tuple_no_rev:typeLookup (.type "tuple") "__reversed__"=pure none:=by rw [typeLookup_type,builtinLookup_eq_fast];kernel_rfl
theorem sub_tuple_dict':isSubtype (.type "tuple") (.type "dict")=pure false:=by rw [isSubtype_type];kernel_rfl
end F
theorem meets_reversed_tup (t:Addr) (items:Array Value):
  Meets (Builtin.«reversed.__new__» ⟨[.type "reversed",.ref t],[]⟩) (fun _ R s=>s.heap.IsTuple t items∧items.size≤sizeLine∧∀tk,R (.ok (.ret (.ref s.heap.objs.size))) {s with heap:=s.heap.push {cls:= .type "reversed",data:= .fields #[.ref t,rawInt ((items.size:Int) - 1)]},toks:=tk}):=
 .of_wp fun prog w A R s h=>by
  obtain ⟨ht,hz,h⟩:=h
  have hT:s.TypeIs (.ref t) "tuple":=let ⟨o,ho,hc,_⟩:=ht;⟨o,ho,hc⟩
  unfold Builtin.«reversed.__new__»
  refine wpAny_bind (wpAny_of_eq (newClass_reversed _) ?_)
  try dsimp only
  refine wpAny_bind (wpAny_of_eq (a:=()) (by first|rfl|kernel_rfl) ?_)
  refine wpAny_bind (wpAny_of_eq (a:=()) (by first|rfl|kernel_rfl) ?_)
  try dsimp only
  refine wpAny_bind (wpAny_specialOf hT F.tuple_no_rev ?_)
  try dsimp only
  refine wpAny_bind (wpAny_bind (wpAny_isInstance (T:="tuple") (b:=false) hT F.sub_tuple_dict' ?_))
  simp only [Bool.false_eq_true,if_false]
  refine wpAny_bind (wpAny_specialOf hT F.slot_tuple_getitem.lookup ?_)
  show wpAny _ _ (if ["tuple.__getitem__","str.__getitem__","bytes.__getitem__","bytearray.__getitem__","memoryview.__getitem__","numpy.ndarray.__getitem__","sqlite3.Row.__getitem__"].contains "tuple.__getitem__"=true then pure true else _) _ _ _
  rw [if_pos (by decide+kernel)]
  refine wpAny_pure ?_
  show wpAny _ _ (if (!true)=true then _ else _) _ _ _
  rw [if_neg (by decide)]
  have hn:=L2.line63
  refine wpAny_bind (PyProof.Rows.len_tuple ht (by omega) ?_)
  refine wpAny_bind (wpAny_of_eq (a:=some (items.size:Int)) rfl ?_)
  show wpAny _ _ (Builtin.SmallTypes.newRecord (Value.type "reversed") [Value.ref t,rawInt ((items.size:Int) - 1)] >>=_) _ _ _
  refine wpAny_bind ?_
  show wpAny _ _ (newObj (Value.type "reversed") (.fields #[Value.ref t,rawInt ((items.size:Int) - 1)])) _ _ _
  refine wpAny_newObj_type ?_
  exact wpAny_pure ⟨_,rfl,h _⟩
section
variable {prog:Program} {w:World} {A:Around} {E:Value→Shared→Prop} {s:Shared}
abbrev IsRvd (h:Heap) (it t:Addr) (i:Int):Prop:=h.get? it=some {cls:= .type "reversed",dict:=none,data:= .fields #[.ref t,rawInt i],slots:= #[]}
theorem call_reversed_tup {t:Addr} {items:Array Value} {Q:Value→Shared→Prop} (ht:s.heap.IsTuple t items) (hz:items.size≤sizeLine)
  (h:∀tk,Q (.ref s.heap.objs.size) {s with heap:=s.heap.push {cls:= .type "reversed",data:= .fields #[.ref t,rawInt ((items.size:Int) - 1)]},toks:=tk}):
  wpAny (model prog w) A (call (.type "reversed") [.ref t]) Q E s:=
 callType_new F.called_rvd (by decide) (F.typeCall_reversed_1 _) (F.newCall_reversed_1 _) (fun obj=>F.args_object_init_2 obj _) F.entry_reversed_new (meets_reversed_tup t items) ⟨ht,hz,fun tk=>⟨⟨_,Heap.get?_push_size _ rfl,rfl⟩,h tk⟩⟩
theorem wpAny_pyIter_rvd {it t:Addr} {i:Int} {Q:Value→Shared→Prop} (hit:IsRvd s.heap it t i) (h:Q (.ref it) s):wpAny (model prog w) A (pyIter (.ref it)) Q E s:=by
 have hT:s.TypeIs (.ref it) "reversed":=⟨_,hit,rfl⟩
 refine wpAny_pyIter_slot hT F.slot_rvd_iter (wpAny_call_entry F.slot_rvd_iter hT F.entry_rvd_iter ?_ (F.args_rvd_iter_1 _))
 show wpAny _ _ (ret (.ref it)) _ _ s
 exact wpAny_pure ⟨_,rfl,"reversed",_,hT,F.slot_rvd_next.lookup,h⟩
theorem wpAny_pyNext_rvd_item {it t:Addr} {i:Nat} {items:Array Value} {x:Value} {Q:Option Value→Shared→Prop} (hit:IsRvd s.heap it t (i:Int)) (ht:s.heap.IsTuple t items) (hz:items.size≤sizeLine) (hx:items[i]? =some x)
  (hQ:∀h' tk,IsRvd h' it t ((i:Int) - 1)→Heap.SameBut it s.heap h'→Q (some x) {s with heap:=h',toks:=tk}):wpAny (model prog w) A (pyNext (.ref it)) Q E s:=by
 have hT:s.TypeIs (.ref it) "reversed":=⟨_,hit,rfl⟩
 have hT2:s.TypeIs (.ref t) "tuple":=let ⟨o,ho,hc,_⟩:=ht;⟨o,ho,hc⟩
 unfold pyNext
 refine wpAny_bind (wpAny_attempt (wpAny_callSpecial?_slot (name:=Str.ofString "__next__") hT F.slot_rvd_next
  (wpAny_call_entry F.slot_rvd_next hT F.entry_rvd_next ?_ (F.args_rvd_next_1 _))))
 unfold Builtin.«reversed.__next__»
 refine wpAny_bind (wpAny_of_eq (a:=(Value.ref it,[])) rfl ?_)
 try dsimp only
 refine wpAny_bind (wpAny_field hit rfl (x:= .ref t) rfl ?_)
 refine wpAny_bind (wpAny_field hit rfl (x:=rawInt (i:Int)) rfl ?_)
 show wpAny _ _ (if (i:Int)<0 then _ else _) _ _ s
 rw [if_neg (by omega)]
 refine wpAny_bind (wpAny_specialOf hT2 F.slot_tuple_getitem.lookup ?_)
 rw [if_neg (by decide)]
 refine wpAny_bind (wpAny_mkInt ?_)
 have li:i<items.size:=by
  rcases Nat.lt_or_ge i items.size with q|q
  ·exact q
  ·rw [Array.getElem?_eq_none q] at hx;cases hx
 have hn:=L2.line63
 refine wpAny_bind (wpAny_attempt (PyProof.Rows.getItem_tuple (s:={s with toks:=s.toks+1}) ht (by omega) (by omega) (j:=i) ((L2.ixN_seq (show L2.ixN items.size (i:Int)=some i by unfold L2.ixN;rw [if_pos (by omega),if_pos (by omega),Int.toNat_natCast])).1) hx ?_))
 try dsimp only
 refine wpAny_bind (wpAny_field (s:={s with toks:=s.toks+1}) hit rfl (x:=rawInt (i:Int)) rfl ?_)
 show wpAny _ _ (setField (.ref it) 1 (rawInt ((i:Int) - 1)) >>=_) _ _ _
 refine wpAny_bind (wpAny_setField (s:={s with toks:=s.toks+1}) hit rfl (by simp) ?_)
 refine wpAny_pure ⟨x,rfl,wpAny_pure (hQ _ _ ?_ (Heap.SameBut.update ..))⟩
 exact Heap.get?_update_self _ hit rfl
theorem wpAny_pyNext_rvd_end {it t:Addr} {Q:Option Value→Shared→Prop} (hh:A.handled=none) (hit:IsRvd s.heap it t (-1))
  (hQ:∀h',Heap.ExtBut it s.heap h'→Q none {s with heap:=h'}):wpAny (model prog w) A (pyNext (.ref it)) Q E s:=by
 have hT:s.TypeIs (.ref it) "reversed":=⟨_,hit,rfl⟩
 unfold pyNext
 refine wpAny_bind (wpAny_attempt (wpAny_callSpecial?_slot (name:=Str.ofString "__next__") hT F.slot_rvd_next
  (wpAny_call_entry F.slot_rvd_next hT F.entry_rvd_next ?_ (F.args_rvd_next_1 _))))
 unfold Builtin.«reversed.__next__»
 refine wpAny_bind (wpAny_of_eq (a:=(Value.ref it,[])) rfl ?_)
 try dsimp only
 refine wpAny_bind (wpAny_field hit rfl (x:= .ref t) rfl ?_)
 refine wpAny_bind (wpAny_field hit rfl (x:=rawInt (-1)) rfl ?_)
 show wpAny _ _ (if (-1:Int)<0 then _ else _) _ _ s
 rw [if_pos (by decide)]
 refine wpAny_bind (wpAny_rule ?_)
 have h1:(s.heap.update it (Obj.mapFields (·.setIfInBounds 1 (rawInt (-1))))).get? it=some {cls:= .type "reversed",dict:=none,data:= .fields #[.ref t,rawInt (-1)],slots:= #[]}:=Heap.get?_update_self _ hit rfl
 refine wpAny_bind (show wpAny _ _ (setField (.ref it) 1 (rawInt (-1)) >>=fun _=>setField (.ref it) 0 .none) _ _ _ from wpAny_bind (wpAny_setField hit rfl (by simp) (wpAny_setField (s:={s with heap:=s.heap.update it (Obj.mapFields (·.setIfInBounds 1 (rawInt (-1))))}) h1 rfl (by simp) ?_)))
 first
 |show wpAny _ _ (newExc (.type "StopIteration") [] >>=_) _ _ _
 |(refine wpAny_bind ?_;show wpAny _ _ (newExc (.type "StopIteration") [] >>=_) _ _ _)
 refine wpAny_bind ?_
 simp only [newExc,newTuple]
 refine wpAny_bind (wpAny_newObj_type ?_ (by size_fits))
 refine wpAny_bind (m:=firstArgMember _ _) (wpAny_of_eq (a:=Value.none) (by first|rfl|(simp only [firstArgMember];rfl)) ?_)
 refine wpAny_newObj_type ?_ (by size_fits)
 simp only [raiseNew]
 refine wpAny_bind (wpAny_handled ?_)
 first|rw [show A.in1.handled=none from hh]|rw [hh]
 refine wpAny_bind (wpAny_pure (wpAny_throw ?_))
 refine wpAny_bind (wpAny_isInstance (T:="StopIteration") (b:=true) ⟨_,Heap.get?_push_size _ rfl,rfl⟩ isSubtype_stop ?_)
 refine wpAny_pure (hQ _ ((Heap.ExtBut.push (Heap.ExtBut.push ?_ _) _)))
 exact fun b o hb e=>((Heap.get?_update_other _ _ (Ne.symm hb)).trans ((Heap.get?_update_other _ _ (Ne.symm hb)).trans e))
end
end PySem
namespace L2
open PySem PySem.Spec PyProof.Rows
def ItrT (K:PySem.W.Frag) (a:Addr) (n:Nat):It:=⟨fun i H=>i<n∧∃xs,SqT K H a xs∧xs.length=n,fun i H x H'=>H'=H∧∀ys,SqT K H a ys→ys[n - 1 - i]? =some x,fun i _=>n≤i⟩
theorem turn_rvd {P:Program} {w:World} {K:PySem.W.Frag} {tg:Expr} (a it:Addr) (n:Nat):Turn P w K tg (ItrT K a n) [it] it (fun i h=>i≤n∧IsRvd h it a ((n:Int) - 1 - (i:Nat))) where
 mem:=by simp
 obj:=fun i h st b hb=>by
  have e:b=it:=by simpa using hb
  subst e
  exact ⟨_,st.2,fun v z=>by
   have z':Data.fields _=Data.cell v:=z
   cases z'⟩
 keep:=fun i h h' st k=>⟨st.1,k it (by simp) _ st.2⟩
 item:=by
  intro X hP hw hK hc i pins s σ H E I hf st hg
  subst hP hw hK
  obtain ⟨hi,xs,hq,hn⟩:=hg
  obtain ⟨its,rv,p,hz⟩:=I.tuple hq
  have hl:=rv.length
  obtain ⟨u,hu,ru⟩:=rv.get (i:=n - 1 - i) (x:=xs[n - 1 - i]'(by omega)) (List.getElem?_eq_getElem (by omega))
  obtain ⟨f0,f1,f2,f3,f4,f5⟩:=hf it (by simp)
  have e0:(n:Int) - 1 - (i:Nat)=((n - 1 - i:Nat):Int):=by omega
  have st2:=st.2
  rw [e0] at st2
  refine wpAny_pyNext_rvd_item st2 (show s.heap.IsTuple a its.toArray from p) (by rw [List.size_toArray];omega) (x:=u) (by simpa using hu) fun h' tk st' sb=> ?_
  have I1:Inv X pins σ H {s with heap:=h',toks:=tk}:=I.turned (t':=tk) (fun b o hb e=>(sb.2 b hb).trans e) f0 f1 f3 f4 f5
  have e1:((n - 1 - i:Nat):Int) - 1=(n:Int) - 1 - ((i+1:Nat):Int):=by omega
  rw [e1] at st'
  exact ⟨u,rfl,go_of (s:={s with heap:=h',toks:=tk}) (n:="reversed") st' rfl rfl (by decide) ⟨xs[n - 1 - i]'(by omega),H,I1,ru,⟨rfl,fun ys hy=>by rw [I.tuple_inj hy hq];exact List.getElem?_eq_getElem (by omega)⟩,⟨by assumption,st'⟩,fun b hb=>(hf b hb).1⟩⟩
 done:=by
  intro X hP hw hK hc i pins s σ H E I hf st hg
  subst hP hw hK
  have hg:n≤i:=hg
  obtain ⟨f0,f1,f2,f3,f4,f5⟩:=hf it (by simp)
  have st2:=st.2
  rw [show (n:Int) - 1 - (i:Nat)= -1 by have:=st.1;omega] at st2
  exact wpAny_pyNext_rvd_end (I.ok.hd hc) st2 fun h' eb=>⟨rfl,I.turned (t':=s.toks) (fun b o hb e=>eb b o hb e) f0 f1 f3 f4 f5⟩
 self:=fun _ _ _ _ _ st h=>wpAny_pyIter_rvd st.2 h
section
variable {X:Cx} {tg:Expr}
def iRevT (K:PySem.W.Frag) (ta:TA):TI:=fun σ H R=>ta σ H fun vs H1=>∃(a:Addr) (xs:List V),vs=[.ref a]∧SqT K H1 a xs∧R (ItrT K a xs.length) H1
theorem pi_revT {e:Expr} {ta:TA} {p pos:Pos} (hg:Gl X "reversed") (hm:X.mg "reversed"=none) (ha:PA X [e] ta) (hs:starEach [e] X.env=[(false,eval e X.env)]:=by rfl):PI X tg (.Call (.Name "reversed" p) [e] [] pos) (iRevT X.K ta):=by
 intro pins s σ H R I h
 refine Call_ (ld_blt I hg hm (u:= .type "reversed") (by decide+kernel) (PyProof.Rows.callWith_type1 (thn (ha pos pins s σ H _ I h) fun us s1 ⟨vs,H1,I1,r1,q1⟩=> ?_) hs rfl))
 obtain ⟨a,xs,e,hq,q⟩:=q1
 subst e
 cases r1 with
 |cons r rr=>
  cases rr
  cases r
  obtain ⟨its,rv,p,hz⟩:=I1.tuple hq
  have hl:=rv.length
  refine call_reversed_tup (show s1.heap.IsTuple a its.toArray from p) (by rw [List.size_toArray];omega) fun tk=> ?_
  have hit:IsRvd (s1.heap.push {cls:= .type "reversed",data:= .fields #[.ref a,rawInt ((its.toArray.size:Int) - 1)]}) s1.heap.objs.size a ((its.toArray.size:Int) - 1):=Heap.get?_push_size _ rfl
  refine wpAny_pyIter_rvd (s:={s1 with heap:=s1.heap.push {cls:= .type "reversed",data:= .fields #[.ref a,rawInt ((its.toArray.size:Int) - 1)]},toks:=tk}) hit ?_
  refine ⟨s1.heap.objs.size,[s1.heap.objs.size],_,_,H1,rfl,I1.kept (t':=tk) fun b o e=>Heap.get?_push_of_some _ e,turn_rvd a _ xs.length,⟨Nat.zero_le _,?_⟩,fun b hb=> ?_,q⟩
  ·rw [show ((xs.length:Int) - 1 - ((0:Nat):Int))=(its.toArray.size:Int) - 1 by rw [List.size_toArray];omega]
   exact hit
  ·have e:b=s1.heap.objs.size:=by simpa using hb
   subst e
   exact I1.fpOk (Nat.le_refl _) (I1.hok.fresh (Nat.le_refl _))
end
theorem for_revT {K:PySem.W.Frag} {a:Addr} {xs:List V} {g:TG} {tb:TS} {D:Ends} {σ:St} {H:Hp} (Pv:Nat→St→Hp→Prop) (h0:Pv 0 σ H) (hl:∀i σ H,i≤xs.length→Pv i σ H→SqT K H a xs)
  (hs:∀i x σ H,i<xs.length→xs[xs.length - 1 - i]? =some x→Pv i σ H→g x σ H fun σ2 H2=>tb {D with nx:=Pv (i+1),ct:=Pv (i+1),bk:=D.nx} σ2 H2) (hd:∀σ H,Pv xs.length σ H→D.nx σ H):
  ∃W:Nat→Nat→St→Hp→Prop,(∃m,W 0 m σ H)∧∀i m σ H,W i m σ H→
   ((ItrT K a xs.length).stop i H∧D.nx σ H)∨((ItrT K a xs.length).go i H∧∃N:St→Hp→Prop,(∀σ' H',N σ' H'→∃m',m'<m∧W (i+1) m' σ' H')∧∀x H',(ItrT K a xs.length).yld i H x H'→g x σ H' fun σ2 H2=>tb {D with nx:=N,ct:=N,bk:=D.nx} σ2 H2):=by
 refine ⟨fun i m σ H=>m=xs.length - i∧i≤xs.length∧Pv i σ H,⟨xs.length,by simp,Nat.zero_le _,h0⟩,?_⟩
 rintro i m σ H ⟨rfl,hi,p⟩
 have q:=hl i σ H hi p
 by_cases hlt:i<xs.length
 ·refine .inr ⟨⟨hlt,xs,q,rfl⟩,Pv (i+1),fun σ' H' p'=>⟨xs.length - (i+1),by omega,rfl,hlt,p'⟩,fun x H' y=> ?_⟩
  obtain ⟨rfl,y⟩:=y
  exact hs i x σ _ hlt (y xs q) p
 ·have e:i=xs.length:=by omega
  subst e
  exact .inl ⟨Nat.le_refl _,hd σ H p⟩
end L2
namespace Wk
open PySem
abbrev T4:=Str×Nat×Nat×Int
def InN (N:Nat) (S:List T4):Prop:=∀t∈S,t.2.1<N∧t.2.2.1<N
end Wk
namespace L2
open PySem
theorem same_set {H0 H:Hp} {a:Addr} {o:HO} (s:Same H0 H) (n:H0 a=none):Same H0 (upd H a o):=fun b u e=>by
 rw [Ap (A0 e n)];exact s b u e
theorem inV_ints (x:Int) (zs:List Int):inV (.int x) (zs.map V.int)=decide (x∈zs):=by
 unfold inV
 induction zs with
 |nil=>simp
 |cons z zs ih=>
  rw [List.map_cons,List.any_cons,ih]
  have:eqV (.int z) (.int x)=decide (x=z):=by
   show (z==x)=_
   rw [Bool.eq_iff_iff,beq_iff_eq,decide_eq_true_eq];exact eq_comm
  rw [this,Bool.eq_iff_iff];simp
theorem Cb (ns:List Int):(ns.map V.int).all flatV=true:=by
 induction ns with
 |nil=>rfl
 |cons n ns ih=>rw [List.map_cons,List.all_cons,ih];rfl
theorem Bs {α β:Type} {f:α→β} {l:List α} {i:Nat} {x:β} (h:(l.map f)[i]? =some x):∃z,l[i]? =some z∧x=f z:=by
 rw [List.getElem?_map] at h
 cases q:l[i]? with
 |none=>rw [q] at h;cases h
 |some z=>rw [q] at h;exact ⟨z,rfl,(Option.some.inj h).symm⟩
theorem getq {α:Type} {l:List α} {i:Nat} (h:i<l.length):l[i]? =some l[i]:=List.getElem?_eq_getElem h
end L2
namespace Wk
open PySem L2
def tieV (t:T4):List V:=[.str t.1,.int (t.2.1:Int),.int (t.2.2.1:Int),.int t.2.2.2]
def TiesAt (H:Hp) (rs:List Addr) (S:List T4):Prop:=rs.length=S.length∧∀(i:Nat) r t,rs[i]? =some r→S[i]? =some t→H r=some (.tup (tieV t))
theorem TiesAt.same {H H':Hp} {rs:List Addr} {S:List T4} (h:TiesAt H rs S) (s:Same H H'):TiesAt H' rs S:=⟨h.1,fun i r t a b=>s _ _ (h.2 i r t a b)⟩
theorem TiesAt.get {H:Hp} {rs:List Addr} {S:List T4} (h:TiesAt H rs S) {i:Nat} {r:Addr} (hr:rs[i]? =some r):∃t,S[i]? =some t∧H r=some (.tup (tieV t)):=by
 have hi:i<S.length:=by rw [←h.1];exact (List.getElem?_eq_some_iff.mp hr).1
 exact ⟨S[i],getq hi,h.2 i r _ hr (getq hi)⟩
end Wk
namespace Wk
open PySem L2
abbrev LS:Str:=Str.ofString "abcdefghijklmnopqrstuvwxyz"
theorem LS_eq:LS.cps.toList=(List.range 26).map (97+·):=by decide+kernel
theorem LS_at {v:Int} (h0:0≤v) (h1:v<26):atI LS.cps.toList v=some (97+v.toNat):=by
 obtain ⟨j,rfl⟩:∃j:Nat,v=(j:Int):=⟨v.toNat,by omega⟩
 have hj:j<26:=by omega
 refine Al ?_
 rw [LS_eq,List.getElem?_map,List.getElem?_range hj]
 rfl
theorem cat_cps (x y:Str):(x++y).cps.toList=x.cps.toList++y.cps.toList:=by
 show (x.cps++y.cps).toList=_
 rw [Array.toList_append]
def sg (c:Nat):V:= .str ⟨#[c]⟩
theorem sg_map (ws:List Nat):ws.map sg=(ws.map fun c=>(⟨#[c]⟩:Str)).map V.str:=by rw [List.map_map];rfl
theorem sg_sum (ws:List Nat):((ws.map fun c=>(⟨#[c]⟩:Str)).map (·.length)).sum=ws.length:=by
 induction ws with
 |nil=>rfl
 |cons c ws ih=>simp only [List.map_cons,List.sum_cons,List.length_cons,ih];show 1+ws.length=_;omega
theorem join_cps:∀ws:List Nat,(Txt.join (Str.ofString "") (ws.map fun c=>(⟨#[c]⟩:Str))).cps.toList=ws:=by
 have key:∀ws:List Nat,(Str.join (Str.ofString "") (ws.map fun c=>(⟨#[c]⟩:Str))).cps.toList=ws:=by
  intro ws
  induction ws with
  |nil=>rfl
  |cons c ws ih=>
   cases ws with
   |nil=>rfl
   |cons d ws=>
    simp only [List.map_cons] at ih ⊢
    rw [Str.join,cat_cps,cat_cps,ih]
    ·rfl
    ·intro q;cases q
 intro ws
 show (Builtin.Str.glued _ _).cps.toList=_
 rw [StrLaws.glued_eq_join]
 exact key ws
theorem len_cps (z:Str):z.length=z.cps.toList.length:=by show z.cps.size=_;simp
theorem cutV_take {xs:List V} {n:Nat} (h:n≤xs.length):Bx xs none (some (n:Int))=xs.take n:=by
 unfold Bx
 rw [HT.sIx_none,HT.sIx_nat,List.drop_zero,Nat.min_eq_left h,Nat.sub_zero]
theorem cutV_drop {xs:List V} {n:Nat}:Bx xs (some (n:Int)) none=xs.drop n:=by
 unfold Bx
 rw [HT.sIx_none,HT.sIx_nat]
 by_cases h:n≤xs.length
 ·rw [Nat.min_eq_left h,List.take_of_length_le (by rw [List.length_drop];exact Nat.le_refl _)]
 ·rw [Nat.min_eq_right (by omega),List.drop_of_length_le (by exact Nat.le_refl _),List.drop_of_length_le (by omega)];simp
theorem cutV_mid {xs:List V} {a b:Nat} (h:b≤xs.length) (ab:a≤b):Bx xs (some (a:Int)) (some (b:Int))=(xs.drop a).take (b - a):=by
 unfold Bx
 rw [HT.sIx_nat,HT.sIx_nat,Nat.min_eq_left h,Nat.min_eq_left (by exact Nat.le_trans (by assumption) (by assumption))]
def Nm (at_ f M k:Nat) (z:Str):Prop:=z.cps.toList[at_]? =some (97+(f+k) % 26)∧(26<M→z.cps.toList[at_+1]? =some (97+(f+k / 26) % 26))
theorem Nm.inj {at_ f M j k:Nat} {z:Str} (a:Nm at_ f M j z) (b:Nm at_ f M k z) (hj:j<M) (hk:k<M) (hM:M≤60):j=k:=by
 have e1:=a.1.symm.trans b.1
 have e1:97+(f+j) % 26=97+(f+k) % 26:=by simpa using e1
 by_cases h:26<M
 ·have e2:=(a.2 h).symm.trans (b.2 h)
  have e2:97+(f+j / 26) % 26=97+(f+k / 26) % 26:=by simpa using e2
  omega
 ·omega
theorem Nm.nodup {at_ f M:Nat} {zs:List Str} (h:∀(j:Nat) z,zs[j]? =some z→Nm at_ f M j z) (hl:zs.length≤M) (hM:M≤60):zs.Nodup:=by
 rw [List.nodup_iff_pairwise_ne,List.pairwise_iff_getElem]
 intro i j hi hj hij e
 have:=Nm.inj (h i _ (getq hi)) (by rw [e];exact h j _ (getq hj)) (by omega) (by exact Nat.le_trans (by assumption) (by assumption)) hM
 omega
theorem inV_strs (x:Str) (zs:List Str):inV (.str x) (zs.map V.str)=decide (x∈zs):=by
 unfold inV
 induction zs with
 |nil=>simp
 |cons z zs ih=>
  rw [List.map_cons,List.any_cons,ih]
  have:eqV (.str z) (.str x)=decide (x=z):=by
   show (z==x)=_
   rw [Bool.eq_iff_iff,beq_iff_eq,decide_eq_true_eq];exact eq_comm
  rw [this,Bool.eq_iff_iff];simp
theorem str_item (ns:List Str) {v:Int} (h0:0≤v) (h1:v<(ns.length:Int)):∃y,y∈ns∧ns[v.toNat]? =some y∧atI (ns.map V.str) v=some (.str y):=by
 obtain ⟨j,rfl⟩:∃j:Nat,v=(j:Int):=⟨v.toNat,by omega⟩
 have hj:j<ns.length:=by omega
 exact ⟨ns[j],List.getElem_mem hj,getq (by simpa using hj),Al (by simp [hj])⟩
theorem int_item (ns:List Int) {v:Int} (h0:0≤v) (h1:v<(ns.length:Int)):∃y,y∈ns∧atI (ns.map V.int) v=some (.int y):=by
 obtain ⟨j,rfl⟩:∃j:Nat,v=(j:Int):=⟨v.toNat,by omega⟩
 have hj:j<ns.length:=by omega
 exact ⟨ns[j],List.getElem_mem hj,Al (by simp [hj])⟩
theorem nat_of {v:Int} (h0:0≤v):∃j:Nat,v=(j:Int):=⟨v.toNat,by omega⟩
end Wk
namespace Wk
open PySem L2
def endV (t:T4):List V:=[.int (t.2.1:Int),.int (t.2.2.1:Int),.int t.2.2.2]
abbrev Ps:=List (T4×Addr)
def psK (ps:Ps):List (Key×V):=ps.map fun p=>(Sum.inr p.1.1,V.ref p.2)
def ThAt (H:Hp) (th:Addr) (ps:Ps):Prop:=H th=some (.dK (psK ps))∧∀p∈ps,H p.2=some (.tup (endV p.1))
def TieOk (N:Nat) (t:T4):Prop:=t.2.1<N∧t.2.2.1<N∧t.2.1≠t.2.2.1
structure PsOk (N:Nat) (ps:Ps):Prop where
 nd:(ps.map (·.1.1)).Nodup
 ok:∀p∈ps,TieOk N p.1
theorem ThAt.same {H H':Hp} {th:Addr} {ps:Ps} (h:ThAt H th ps) (s:Same H H'):ThAt H' th ps:=⟨s _ _ h.1,fun p q=>s _ _ (h.2 p q)⟩
theorem val_none {ps:Ps} {n:Str} (h:n ∉ ps.map (·.1.1)):B0 (psK ps) (Sum.inr n)=none:=by
 unfold psK
 induction ps with
 |nil=>rfl
 |cons p ps ih=>
  rw [List.map_cons,List.mem_cons,not_or] at h
  rw [List.map_cons,valV_neg (by intro e;exact h.1 (by injection e with e;exact e.symm))]
  exact ih h.2
theorem val_some {ps:Ps} {p:T4×Addr} (hp:p∈ps) (nd:(ps.map (·.1.1)).Nodup):B0 (psK ps) (Sum.inr p.1.1)=some (.ref p.2):=by
 unfold psK
 induction ps with
 |nil=>cases hp
 |cons q ps ih=>
  rw [List.map_cons,List.nodup_cons] at nd
  rw [List.map_cons]
  rcases List.mem_cons.mp hp with rfl|hp
  ·exact valV_pos rfl
  ·rw [valV_neg (by intro e;injection e with e;exact nd.1 (by rw [e];exact List.mem_map.mpr ⟨p,hp,rfl⟩))]
   exact ih hp nd.2
theorem val_has {ps:Ps} {n:Str}:(B0 (psK ps) (Sum.inr n)).isSome=decide (n∈ps.map (·.1.1)):=by
 unfold psK
 induction ps with
 |nil=>rfl
 |cons q ps ih=>
  rw [List.map_cons,List.map_cons]
  by_cases e:q.1.1=n
  ·rw [valV_pos (by rw [e])];simp [e]
  ·rw [valV_neg (by intro h;injection h with h;exact e h),ih]
   rw [Bool.eq_iff_iff];simp [Ne.symm e]
theorem psK_put {ps:Ps} {t:T4} {r:Addr} (h:t.1 ∉ ps.map (·.1.1)):putK (psK ps) (Sum.inr t.1) (.ref r)=psK (ps++[(t,r)]):=by
 rw [putK_new _ (val_none h)]
 unfold psK
 rw [List.map_append];rfl
theorem psK_keys (ps:Ps):(psK ps).map (·.1)=(ps.map (·.1.1)).map Sum.inr:=by unfold psK;rw [List.map_map,List.map_map];rfl
theorem mod_ne {N a v:Nat} (ha:a<N) (hv:v<N - 1):(a+1+v) % N≠a∧(a+1+v) % N<N:=by
 refine ⟨?_,Nat.mod_lt _ (by omega)⟩
 by_cases h:a+1+v<N
 ·rw [Nat.mod_eq_of_lt h];omega
 ·rw [Nat.mod_eq_sub_mod (by exact Nat.not_lt.mp (by assumption)),Nat.mod_eq_of_lt (by omega)];omega
theorem mod_ne1 {N a:Nat} (ha:a<N) (hN:2≤N):(a+1) % N≠a∧(a+1) % N<N:=by
 have:=mod_ne (v:=0) ha (by omega)
 simpa using this
theorem mod_int {a b:Nat}:((a:Int) % (b:Int))=((a % b:Nat):Int):=by simp
end Wk
namespace L2
open PySem
section
variable {X:Cx} {pos:Pos} {e a b:Expr} {te ta tb:TE} {es:List Expr} {t u:TS} {st:Stmt} {rest:List Stmt}
theorem PE.imp' {t t':TE} (h:PE X e t) (f:∀σ H Q,t' σ H Q→t σ H Q):PE X e t':=fun pins s σ H Q I h'=>h pins s σ H Q I (f σ H Q h')
theorem okO {p:TS→Prop} (h:∃t,PSso X rest t∧p t):∃t,PSs X rest t∧p t:=let ⟨t,a,b⟩:=h;⟨t,a.of,b⟩
theorem pso_ret (he:PEo X e te):PSo X (.Return (some e) pos) (tRet te):=⟨Ao he.of⟩
theorem peo_ix {r:R2} (hr:IxR X r) (ha:PEo X a ta) (hb:PEo X b tb) (hs:PlainIx b):PEo X (.Subscript a b pos) (tOp r ta tb):=⟨Av hr ha.of hb.of hs⟩
theorem peo_op {op:Operator} {r:R2} (ho:OpR X (binaryOp op) r) (ha:PEo X a ta) (hb:PEo X b tb):PEo X (.BinOp a op b pos) (tOp r ta tb):=⟨Am ho ha.of hb.of⟩
end
end L2
namespace Wk
open PySem L2
def Bj (t:T4):List Key:=[.inr t.1,.inl (t.2.1:Int),.inl (t.2.2.1:Int),.inl t.2.2.2]
def tieOf:List Key→T4
 |[.inr n,.inl a,.inl b,.inl w]=>(n,a.toNat,b.toNat,w)
 |_=>(Str.ofString "",0,0,0)
theorem tieOf_keys (t:T4):tieOf (Bj t)=t:=by
 obtain ⟨n,a,b,w⟩:=t
 show (n,(a:Int).toNat,(b:Int).toNat,w)=_
 simp
theorem keys_tieV (t:T4):(Bj t).map kV=tieV t:=rfl
def IsTie (ks:List Key):Prop:=∃t,ks=Bj t
end Wk
namespace L2
open PySem PySem.Spec PyProof.Rows
end L2
namespace Wk
open PySem L2
inductive Dd where
 |come (m:Int) (t:T4)
 |go (m:Int) (n:Str)
def Dd.vs:Dd→List V
 | .come m t=> .str (Str.ofString "come"):: .int m::tieV t
 | .go m n=>[.str (Str.ofString "go"),.int m,.str n]
def Dd.nm:Dd→Str
 | .come _ t=>t.1
 | .go _ n=>n
def Dd.mo:Dd→Int
 | .come m _=>m
 | .go m _=>m
def stepD (S:List T4):Dd→List T4
 | .come _ t=>S++[t]
 | .go _ n=>S.filter fun t=>decide (t.1≠n)
def thr (ds:List Dd):List T4:=ds.foldl stepD []
theorem thr_snoc (ds:List Dd) (d:Dd):thr (ds++[d])=stepD (thr ds) d:=by unfold thr;rw [List.foldl_append];rfl
def DdOk (N:Nat) (S:List T4):Dd→Prop
 | .come _ t=>t.1 ∉ S.map (·.1)∧TieOk N t
 | .go _ n=>n∈S.map (·.1)
structure Right (N:Nat) (ds:List Dd):Prop where
 ok:∀(i:Nat) d,ds[i]? =some d→DdOk N (thr (ds.take i)) d
 len:ds.length≤60
 mo:∀d∈ds,0≤d.mo∧d.mo≤1000000000
 up:ds.Pairwise fun a b=>a.mo≤b.mo
 wt:∀(m:Int) t,Dd.come m t∈ds→0≤t.2.2.2∧t.2.2.2≤1000000000
theorem take_snoc {α:Type} {l:List α} {i:Nat} {d:α} (h:l[i]? =some d):l.take (i+1)=l.take i++[d]:=by rw [List.take_add_one,h];rfl
theorem Right.take {N:Nat} {ds:List Dd} (h:Right N ds) (n:Nat):Right N (ds.take n):=by
 refine ⟨fun i d e=> ?_,by rw [List.length_take];have:=h.len;omega,fun d hd=>h.mo d (List.mem_of_mem_take hd),h.up.sublist (List.take_sublist ..),fun m t ht=>h.wt m t (List.mem_of_mem_take ht)⟩
 have hi:i<n:=by have:=(List.getElem?_eq_some_iff.mp e).1;rw [List.length_take] at this;omega
 rw [List.getElem?_take_of_lt hi] at e
 rw [List.take_take,Nat.min_eq_left (by exact Nat.le_of_lt (by assumption))]
 exact h.ok i d e
structure ThrOk (N:Nat) (S:List T4):Prop where
 nd:(S.map (·.1)).Nodup
 ok:∀t∈S,TieOk N t
theorem filt_names (n:Str) (S:List T4):(S.filter fun t=>decide (t.1≠n)).map (·.1)=(S.map (·.1)).filter fun m=>decide (m≠n):=by rw [List.filter_map];rfl
theorem step_ok {N:Nat} {S:List T4} {d:Dd} (h:ThrOk N S) (g:DdOk N S d):ThrOk N (stepD S d):=by
 cases d with
 |come m t=>
  refine ⟨?_,fun u hu=> ?_⟩
  ·show ((S++[t]).map (·.1)).Nodup
   rw [List.map_append]
   refine List.nodup_append.mpr ⟨h.nd,List.nodup_cons.mpr ⟨by simp,List.nodup_nil⟩,fun x hx y hy=> ?_⟩
   have e:=List.mem_singleton.mp hy
   intro q
   exact g.1 (by have e:y=t.1:=e;rw [←e,←q];exact hx)
  ·rcases List.mem_append.mp hu with q|q
   ·exact h.ok u q
   ·rw [List.mem_singleton.mp q];exact g.2
 |go m n=>
  refine ⟨?_,fun u hu=>h.ok u (List.mem_filter.mp hu).1⟩
  show ((S.filter fun t=>decide (t.1≠n)).map (·.1)).Nodup
  rw [filt_names]
  exact h.nd.sublist List.filter_sublist
theorem thr_ok {N:Nat} {ds:List Dd} (h:Right N ds):∀i,i≤ds.length→ThrOk N (thr (ds.take i))
 |0,_=>⟨List.nodup_nil,by simp [thr]⟩
 |i+1,hi=>by
  have e:=getq (l:=ds) (i:=i) (by assumption)
  rw [take_snoc e,thr_snoc]
  exact step_ok (thr_ok h i (by exact Nat.le_of_lt (by assumption))) (h.ok i _ e)
theorem thr_len (ds:List Dd):∀i,(thr (ds.take i)).length≤i
 |0=>by simp [thr]
 |i+1=>by
  cases e:ds[i]? with
  |none=>
   have:ds.length≤i:=by
    rcases Nat.lt_or_ge i ds.length with h|h
    ·rw [getq h] at e;cases e
    ·exact h
   have:=thr_len ds i
   rw [List.take_of_length_le (by omega)] at this ⊢
   exact Nat.le_succ_of_le (by assumption)
  |some d=>
   rw [take_snoc e,thr_snoc]
   have:=thr_len ds i
   cases d with
   |come m t=>show (_++[t]).length≤_;simp;assumption
   |go m n=>exact Nat.le_trans (List.length_filter_le _ _) (by exact Nat.le_succ_of_le (by assumption))
def Srtd (S T:List T4):Prop:=S.Perm T∧S.Pairwise fun a b=>Srt.ltR (Bj b) (Bj a)=false
theorem keys_inj {a b:T4} (h:Bj a=Bj b):a=b:=by rw [←tieOf_keys a,←tieOf_keys b,h]
theorem srtd_unique:∀{S S':List T4},S.Perm S'→S.Pairwise (fun a b=>Srt.ltR (Bj b) (Bj a)=false)→S'.Pairwise (fun a b=>Srt.ltR (Bj b) (Bj a)=false)→S=S'
 |[],S',p,_,_=>(List.nil_perm.mp p).symm▸rfl
 |a::S,[],p,_,_=>absurd p.length_eq (by simp)
 |a::S,b::S',p,h,h'=>by
  have hab:a=b:=by
   have ha:a∈b::S':=p.mem_iff.mp (List.mem_cons_self ..)
   have hb:b∈a::S:=p.mem_iff.mpr (List.mem_cons_self ..)
   rcases List.mem_cons.mp ha with e|ha
   ·exact e
   ·rcases List.mem_cons.mp hb with e|hb
    ·exact e.symm
    ·have x1:=(List.pairwise_cons.mp h).1 b hb
     have x2:=(List.pairwise_cons.mp h').1 a ha
     rcases Srt.ltR_tri _ _ x1 with e|e
     ·exact (keys_inj e).symm
     ·rw [e] at x2;cases x2
  subst hab
  rw [srtd_unique ((List.perm_cons a).mp p) (List.pairwise_cons.mp h).2 (List.pairwise_cons.mp h').2]
theorem Srtd.eq {S S' T T':List T4} (h:Srtd S T) (h':Srtd S' T') (p:T.Perm T'):S=S':=srtd_unique ((h.1.trans p).trans h'.1.symm) h.2 h'.2
def bk:List Dd→List Str→List T4
 |[],_=>[]
 | .come _ t::r,met=>(if t.1 ∉ met then [t] else [])++bk r (met++[t.1])
 | .go _ n::r,met=>bk r (met++[n])
theorem filt_congr2 {S:List T4} {p q:T4→Bool} (h:∀t∈S,p t=q t):S.filter p=S.filter q:=List.filter_congr h
theorem bk_perm {N:Nat}:∀(n:Nat) (ds:List Dd),ds.length=n→(∀(i:Nat) d,ds[i]? =some d→DdOk N (thr (ds.take i)) d)→∀met,(bk ds.reverse met).Perm ((thr ds).filter fun t=>decide (t.1 ∉ met))
 |0,ds,hl,_,met=>by
  have:ds=[]:=List.length_eq_zero_iff.mp hl
  subst this
  exact List.Perm.refl _
 |n+1,ds,hl,h,met=>by
  have hn:n<ds.length:=by omega
  have e:=getq hn
  have es:ds=ds.take n++[ds[n]]:=by rw [←take_snoc e,List.take_of_length_le (by exact Nat.le_of_eq (by assumption))]
  have hok:=h n _ e
  have ih:=bk_perm (N:=N) n (ds.take n) (by rw [List.length_take];omega) (fun i d q=>by
   have hi:i<n:=by have:=(List.getElem?_eq_some_iff.mp q).1;rw [List.length_take] at this;omega
   rw [List.getElem?_take_of_lt hi] at q
   rw [List.take_take,Nat.min_eq_left (by exact Nat.le_of_lt (by assumption))]
   exact h i d q)
  rw [es,List.reverse_append,thr_snoc]
  generalize ds.take n=D at hok ih
  cases hd:ds[n] with
  |come m t=>
   rw [hd] at hok
   have hok:t.1 ∉ (thr D).map (·.1)∧TieOk N t:=hok
   show ((if t.1 ∉ met then [t] else [])++bk D.reverse (met++[t.1])).Perm (((thr D)++[t]).filter _)
   rw [List.filter_append]
   have e1:(thr D).filter (fun u=>decide (u.1 ∉ met++[t.1]))=(thr D).filter fun u=>decide (u.1 ∉ met):=filt_congr2 fun u hu=>by
    have:u.1≠t.1:=fun q=>hok.1 (by rw [←q];exact List.mem_map.mpr ⟨u,hu,rfl⟩)
    simp [this]
   have ih':=ih (met++[t.1])
   rw [e1] at ih'
   by_cases g:t.1∈met
   ·rw [if_neg (by simpa using g)]
    have:[t].filter (fun u=>decide (u.1 ∉ met))=[]:=by simp [g]
    rw [this,List.append_nil]
    exact ih'
   ·rw [if_pos g]
    have:[t].filter (fun u=>decide (u.1 ∉ met))=[t]:=by simp [g]
    rw [this]
    exact (List.Perm.append_left [t] ih').trans List.perm_append_comm
  |go m nn=>
   show (bk D.reverse (met++[nn])).Perm (((thr D).filter fun t=>decide (t.1≠nn)).filter _)
   refine (ih (met++[nn])).trans ?_
   rw [List.filter_filter]
   refine List.Perm.of_eq (filt_congr2 fun u _=> ?_)
   by_cases a:u.1∈met<;> by_cases b:u.1=nn<;> simp [a,b]
theorem bk_thr {N:Nat} {ds:List Dd} (h:Right N ds):(bk ds.reverse []).Perm (thr ds):=by
 have:=bk_perm (N:=N) ds.length ds rfl h.ok []
 have e:(thr ds).filter (fun t=>decide (t.1 ∉ ([]:List Str)))=thr ds:=List.filter_eq_self.mpr fun t _=>by simp
 rw [e] at this
 exact this
def DdsAt (H:Hp) (rs:List Addr) (ds:List Dd):Prop:=rs.length=ds.length∧∀(i:Nat) r d,rs[i]? =some r→ds[i]? =some d→H r=some (.tup d.vs)
theorem DdsAt.mono {H H':Hp} {rs:List Addr} {ds:List Dd} (h:DdsAt H rs ds) (f:∀r xs,H r=some (.tup xs)→H' r=some (.tup xs)):DdsAt H' rs ds:=⟨h.1,fun i r d a b=>f _ _ (h.2 i r d a b)⟩
theorem DdsAt.get {H:Hp} {rs:List Addr} {ds:List Dd} (h:DdsAt H rs ds) {i:Nat} {r:Addr} (hr:rs[i]? =some r):∃d,ds[i]? =some d∧H r=some (.tup d.vs):=by
 have hi:i<ds.length:=by rw [←h.1];exact (List.getElem?_eq_some_iff.mp hr).1
 exact ⟨ds[i],getq hi,h.2 i r _ hr (getq hi)⟩
def HistAt (H:Hp) (h:Addr) (N:Nat) (ds:List Dd):Prop:=∃(tp:Addr) (rs:List Addr),H h=some (.tup [.int (N:Int),.ref tp])∧H tp=some (.tup (rs.map V.ref))∧DdsAt H rs ds
theorem HistAt.mono {H H':Hp} {h:Addr} {N:Nat} {ds:List Dd} (x:HistAt H h N ds) (f:∀r xs,H r=some (.tup xs)→H' r=some (.tup xs)):HistAt H' h N ds:=let ⟨tp,rs,a,b,c⟩:=x;⟨tp,rs,f _ _ a,f _ _ b,c.mono f⟩
theorem HistAt.same {H H':Hp} {h:Addr} {N:Nat} {ds:List Dd} (x:HistAt H h N ds) (s:Same H H'):HistAt H' h N ds:=x.mono fun r xs=>s r (.tup xs)
end Wk
namespace Wk
open PySem L2
inductive TTakeHP (K:PySem.W.Frag) (i j:Nat) (σ:St) (H:Hp) (Q:VK):Prop
 |mk (h tp:Addr) (x:V) (n:Nat) (xs:List V):(σ[i]? =some (some (.ref h)))→(σ[j]? =some (some (.int (n:Int))))→(H h=some (.tup [x,.ref tp]))→(H tp=some (.tup xs))→(n≤xs.length)→(∀c H',Same H H'→H' c=some (.tup (xs.take n))→Q (.ref c) H')→TTakeHP K i j σ H Q
def tTakeH (K:PySem.W.Frag) (i j:Nat):TE:=fun σ H Q=>TTakeHP K i j σ H Q
theorem takeH_ok {K:PySem.W.Frag} {i j:Nat}:∀σ H Q,tTakeH K i j σ H Q→tSl (rSlTA K) (tOp (rIxT K) (tVar i) (tC (.int 1))) tNoPart (tPart (tVar j)) σ H Q:=by
 rintro σ H Q ⟨h,tp,x,n,xs,ei,ej,hh,ht,hn,k⟩
 refine ⟨_,ei,h,_,1,_,rfl,rfl,SqT.of hh,Al (j:=1) rfl,_,ej,_,rfl,tp,xs,rfl,SqT.of ht,fun w=> ?_,fun _ p hp=> ?_⟩
 ·have:=w.2
  rw [HT.sIx_nat,Nat.min_eq_left hn] at this
  exact k tp H (Ay _) (by rw [this,List.take_length];exact ht)
 ·rw [cutV_take hn]
  exact k p _ (Ae hp) Ab
def ThF (H:Hp) (th:Addr) (ps:Ps):Prop:=H th=some (.dK (psK ps))∧∀p∈ps,H p.2=some (.tup (tieV p.1))
theorem psK_drop (n:Str):∀ps:Ps,dropK (psK ps) (.inr n:Key)=psK (ps.filter fun p=>decide (p.1.1≠n))
 |[]=>rfl
 |p::ps=>by
  have ih:=psK_drop n ps
  unfold dropK psK at ih ⊢
  rw [List.map_cons,List.filter_cons,List.filter_cons]
  by_cases z:p.1.1=n
  ·rw [if_neg (by simp [z]),if_neg (by simp [z])];exact ih
  ·rw [if_pos (by simp [z]),if_pos (by simp [z]),List.map_cons,ih]
theorem ps_names (ps:Ps):(ps.map (·.1)).map (·.1)=ps.map (·.1.1):=by rw [List.map_map];rfl
theorem ps_filt (n:Str) (ps:Ps):(ps.filter fun p=>decide (p.1.1≠n)).map (·.1)=(ps.map (·.1)).filter fun t=>decide (t.1≠n):=by rw [List.filter_map];rfl
end Wk
namespace Wk
open PySem L2
theorem name_inj {S:List T4} (nd:(S.map (·.1)).Nodup) {t t':T4} (h:t∈S) (h':t'∈S) (e:t.1=t'.1):t=t':=by
 induction S with
 |nil=>cases h
 |cons x S ih=>
  rw [List.map_cons,List.nodup_cons] at nd
  rcases List.mem_cons.mp h with e1|h1
  ·rcases List.mem_cons.mp h' with e2|h2
   ·rw [e1,e2]
   ·exact absurd (List.mem_map.mpr ⟨t',h2,by rw [←e,e1]⟩) nd.1
  ·rcases List.mem_cons.mp h' with e2|h2
   ·exact absurd (List.mem_map.mpr ⟨t,h1,by rw [e,e2]⟩) nd.1
   ·exact ih nd.2 h1 h2
end Wk
namespace L2
open PySem PySem.Spec PyProof.Rows
end L2
namespace Wk
open PySem L2
end Wk
namespace HT
open PySem PyProof.Rows
theorem fm_congr {f g:Nat→Option Value}:∀{l:List Nat},(∀k∈l,f k=g k)→l.filterMap f=l.filterMap g
 |[],_=>rfl
 |a::l,h=>by
  rw [List.filterMap_cons,List.filterMap_cons,h a (List.mem_cons_self),fm_congr (l:=l) fun k hk=>h k (List.mem_cons_of_mem _ hk)]
theorem rev_pick (xs:Array Value):((List.range xs.size).filterMap fun (k:Nat)=>xs[(((xs.size:Int) - 1)+(k:Int) * (-1)).toNat]?)=xs.toList.reverse:=by
 have h:((List.range xs.size).filterMap fun (k:Nat)=>xs[(((xs.size:Int) - 1)+(k:Int) * (-1)).toNat]?)=(List.range xs.size).filterMap fun k=>xs.toList.reverse[k]? :=by
  refine fm_congr fun k hk=> ?_
  have hk:=List.mem_range.mp hk
  have e:(((xs.size:Int) - 1)+(k:Int) * (-1)).toNat=xs.size - 1 - k:=by omega
  rw [e,List.getElem?_reverse (by simpa using hk)]
  simp
 rw [h]
 have:∀(l:List Value),(List.range l.length).filterMap (fun k=>l[k]?)=l:=by
  intro l
  refine List.ext_getElem? fun i=> ?_
  have e:(List.range l.length).filterMap (fun k=>l[k]?)=(List.range l.length).map (fun k=>l.getD k .none):=by
   rw [←List.filterMap_eq_map]
   refine fm_congr fun k hk=> ?_
   have hk:=List.mem_range.mp hk
   show l[k]? =some (l.getD k .none)
   rw [List.getD_eq_getElem?_getD,List.getElem?_eq_getElem hk];rfl
  rw [e,List.getElem?_map]
  by_cases hi:i<l.length
  ·rw [List.getElem?_range hi,List.getElem?_eq_getElem hi]
   simp [hi]
  ·rw [List.getElem?_eq_none (by simpa using hi),List.getElem?_eq_none (by simpa using hi)];rfl
 have:=this xs.toList.reverse
 rw [List.length_reverse,Array.length_toList] at this
 exact this
section
variable {prog:Program} {w:World} {A:Around} {E:Value→Shared→Prop} {s:Shared}
theorem applied_rev {sl:Addr} {u:Tok} {n:Nat} {Q:Int×Int×Nat→Shared→Prop} (hs:s.heap.IsSliceOf sl .none .none (.int (-1) u))
  (h:Q ((n:Int) - 1,-1,n) s):wpAny (model prog w) A (Builtin.Slice.sliceApplied (.ref sl) (pure (n:Int))) Q E s:=by
 obtain ⟨os,hos,hcs,hds⟩:=id hs
 unfold Builtin.Slice.sliceApplied Builtin.Slice.sliceFields
 refine wpAny_bind (wpAny_bind (wpAny_field hos hds (x:= .none) rfl (wpAny_bind (wpAny_field hos hds (x:= .none) rfl (wpAny_bind (wpAny_field hos hds (x:= .int (-1) u) rfl (wpAny_pure ?_)))))))
 refine wpAny_bind (slicePart_int ?_)
 show wpAny _ _ (if ((-1:Int)==0)=true then _ else _) _ _ s
 rw [if_neg (by decide)]
 refine wpAny_bind (slicePart_none (wpAny_bind (slicePart_none (wpAny_bind (wpAny_pure (wpAny_pure ?_))))))
 have e:Builtin.Slice.slicePlaces ((n:Int) - 1) (-1) (-1)=n:=by
  unfold Builtin.Slice.slicePlaces
  rw [if_neg (by decide)]
  split
  ·rw [show (-(-1):Int)=1 from rfl,Int.ediv_one];omega
  ·omega
 show Q ((n:Int) - 1,-1,Builtin.Slice.slicePlaces ((n:Int) - 1) (-1) (-1)) s
 rw [e];exact h
theorem getItem_tup_rev {t sl:Addr} {xs:Array Value} {u:Tok} {Q:Value→Shared→Prop} (ht:IsTup s.heap t xs) (hs:s.heap.IsSliceOf sl .none .none (.int (-1) u)) (hz:xs.size≤10000)
  (h:Q (.ref s.heap.objs.size) {s with heap:=s.heap.push {cls:= .type "tuple",data:= .seq xs.toList.reverse.toArray}}):wpAny (model prog w) A (getItem (.ref t) (.ref sl)) Q E s:=by
 obtain ⟨os,hos,hcs,hds⟩:=id hs
 have tsl:s.TypeIs (.ref sl) "slice":=⟨os,hos,hcs⟩
 unfold getItem
 try with_reducible refine wpAny_holding ?_
 first|refine wpAny_bind (wpAny_pure ?_)|skip
 refine wpAny_bind (wpAny_sequenceKey ht.typeIs (by decide) (wpAny_bind (wpAny_callSpecial?_slot (name:=Str.ofString "__getitem__") ht.typeIs PyProof.Rows.slot_tuple_getitem (wpAny_call_entry PyProof.Rows.slot_tuple_getitem ht.typeIs entry_tuple_getitem ?_ (args_tuple_getitem _ _)))))
 show wpAny _ _ (Builtin.Tuple.tupleItemsOf (.ref t) >>=fun _=>_) _ _ s
 refine wpAny_bind (tupleItemsOf_ ht (wpAny_bind (wpAny_typeOf tsl ?_)))
 rw [if_pos (by decide)]
 refine wpAny_bind (applied_rev hs ?_)
 show wpAny _ _ (ite ((((xs.size:Int) - 1)==0 && (-1:Int)==1 && xs.size==xs.size)=true) _ _) _ _ s
 rw [if_neg (by simp)]
 refine wpAny_bind (m:=Builtin.Tuple.tupleExact _) ?_
 unfold Builtin.Tuple.tupleExact
 rw [rev_pick]
 refine wpAny_newObj_type ?_ (L2.small (by simpa using hz))
 exact wpAny_pure ⟨_,rfl,wpAny_pure h⟩
end
end HT
namespace L2
open PySem PySem.Spec PyProof.Rows
section
variable {X:Cx} {e:Expr} {te:TE} {pos p2:Pos}
def tRevT (K:PySem.W.Frag) (te:TE) (ts:TO):TE:=fun σ H Q=>te σ H fun x H1=>ts σ H1 fun o H2=>∃(a:Addr) (xs:List V),o=some (-1)∧x= .ref a∧SqT K H2 a xs∧xs.length≤10000∧∀p,H2 p=none→Q (.ref p) (upd H2 p (.tup xs.reverse))
theorem pe_revT {st:Expr} {ts:TO} (he:PE X e te) (hs:PO X (some st) ts) (ops:Value→Value→List Value) (hsub:∀o i,subscripted (.Slice none none (some st) p2) false o i=operate (ops o i) (getItem o i)):PE X (.Subscript e (.Slice none none (some st) p2) pos) (tRevT X.K te ts):=by
 intro pins s σ H Q I h
 refine Subscript_ (thn (he pins s σ H _ I h) fun v s1 ⟨x,H1,I1,r1,q1⟩=>wpAny_Slice ?_)
 rw [evalPart_none]
 refine wpAny_pure (wpAny_pure (thn (hs pins s1 σ H1 _ I1 q1) fun vs s2 ⟨o,H2,I2,ps,a,xs,q2⟩=> ?_))
 obtain ⟨rfl,rfl,hq,hl,q⟩:=q2
 cases r1
 have I4:Inv X pins σ H2 {s2 with heap:=s2.heap.push {cls:= .type "slice",data:= .fields #[.none,.none,vs]}}:=I2.kept (t':=s2.toks) fun b ob q=>Heap.get?_push_of_some _ q
 obtain ⟨its,r,ht,hz⟩:=I4.tuple hq
 have hlen:=r.length
 show wpAny (model X.prog X.w) X.A (subscriptTail e (.Slice none none (some st) p2) (.ref a) (.ref s2.heap.objs.size)) (EP X pins σ Q) X.xe {s2 with heap:=s2.heap.push {cls:= .type "slice",data:= .fields #[.none,.none,vs]}}
 refine tail_any (ops:=ops (.ref a) (.ref s2.heap.objs.size)) ht.typeIs PyProof.Rows.slot_tuple_getitem.lookup ?_ (hsub _ _)
 cases ps with
 |int i t=>
  refine HT.getItem_tup_rev ht (Heap.IsSliceOf.new ..) (by rw [List.size_toArray];omega) ⟨.ref _,_,I4.laid (t':=s2.toks) (o:= .tup xs.reverse) (fun b ob q=>Heap.get?_push_of_some _ q) (Nat.le_refl _) ⟨small (by rw [List.length_reverse];exact hl),its.reverse,r.reverse,?_⟩,rfl,q _ I4.fresh⟩
  exact IsTupN.new _ _
end
end L2
namespace Wk
open PySem L2
def overF (S:List T4) (v:Nat) (n:Str):Option Nat:=match S.find? fun t=>decide (t.1=n) with
 |none=>none
 |some t=>if v=t.2.1 then some t.2.2.1 else if v=t.2.2.1 then some t.2.1 else none
theorem find_tie {S:List T4} (nd:(S.map (·.1)).Nodup) {t:T4} (ht:t∈S):S.find? (fun u=>decide (u.1=t.1))=some t:=by
 induction S with
 |nil=>cases ht
 |cons a S ih=>
  rw [List.map_cons,List.nodup_cons] at nd
  rw [List.find?_cons]
  rcases List.mem_cons.mp ht with rfl|h
  ·simp
  ·have:a.1≠t.1:=fun e=>nd.1 (by rw [e];exact List.mem_map_of_mem h)
   simp only [this,decide_false]
   exact ih nd.2 h
theorem over_tie {S:List T4} (nd:(S.map (·.1)).Nodup) {t:T4} (ht:t∈S):overF S t.2.1 t.1=some t.2.2.1∧overF S t.2.2.1 t.1=some t.2.1:=by
 unfold overF
 rw [find_tie nd ht]
 refine ⟨by simp,?_⟩
 show (if t.2.2.1=t.2.1 then some t.2.2.1 else if t.2.2.1=t.2.2.1 then some t.2.1 else none)=_
 by_cases g:t.2.2.1=t.2.1
 ·rw [if_pos g,g]
 ·rw [if_neg g,if_pos rfl]
theorem over_none {S:List T4} {n:Str} {v:Nat} (h:∀t∈S,t.1=n→v≠t.2.1∧v≠t.2.2.1):overF S v n=none:=by
 unfold overF
 cases g:S.find? fun t=>decide (t.1=n) with
 |none=>rfl
 |some t=>
  have:=h t (List.mem_of_find?_eq_some g) (by simpa using List.find?_some g)
  show (if v=t.2.1 then some t.2.2.1 else if v=t.2.2.1 then some t.2.1 else none)=none
  rw [if_neg this.1,if_neg this.2]
theorem cat_any {K:PySem.W.Frag} {H:Hp} {Q:VK} {a b:Addr} {xs ys:List V} (ha:H a=some (.tup xs)) (hb:H b=some (.tup ys)) (hl:xs.length+ys.length≤10000)
  (k:∀t H',Same H H'→H' t=some (.tup (xs++ys))→Q (.ref t) H'):rCatTT K (.ref a) (.ref b) H Q:=by
 refine ⟨a,b,_,_,rfl,rfl,SqT.of ha,SqT.of hb,small hl,fun e=>k b H (Ay H) ?_,fun _ e=>k a H (Ay H) ?_,fun _ _ p hp=>k p _ (Ae hp) Ab⟩
 ·rw [e];exact hb
 ·rw [e,List.append_nil];exact ha
theorem Bz {K:PySem.W.Frag} {H:Hp} {Q:VK} {a:Addr} {xs:List V} {lo hi:Option Int} (ha:H a=some (.tup xs)) (k:∀t H',Same H H'→H' t=some (.tup (Bx xs lo hi))→Q (.ref t) H'):rSlTA K (.ref a) lo hi H Q:=by
 refine ⟨a,xs,rfl,SqT.of ha,fun w=>k a H (Ay H) ?_,fun _ p hp=>k p _ (Ae hp) Ab⟩
 have:Bx xs lo hi=xs:=by
  unfold Bx
  rw [w.1,w.2]
  simp
 rw [this]
 exact ha
theorem noPart {σ:L2.St} {H:Hp} {f:Option Int→Hp→Prop} (h:f none H):tNoPart σ H f:=h
end Wk
namespace Rp
open PySem L2 PySem.Spec PyProof.Rows PySem.P
mutual
inductive RepF (H:Hp):Bool→V→PyData→Prop
 |non {f:Bool}:RepF H f .non .none
 |bl {f:Bool} (b:Bool):RepF H f (.bl b) (.bool b)
 |int {f:Bool} (i:Int):RepF H f (.int i) (.int i)
 |str {f:Bool} (x:Str):RepF H f (.str x) (.str x)
 |tup {f:Bool} {a:Addr} {xs:List V} {ds:List PyData}:H a=some (.tup xs)→RepFs H f xs ds→RepF H f (.ref a) (.tuple ds)
 |lst {a:Addr} {xs:List V} {ds:List PyData}:H a=some (.lst xs)→RepFs H false xs ds→RepF H false (.ref a) (.list ds)
 |dct {a:Addr}:H a=some (.dK [])→RepF H true (.ref a) (.dict [])
 |dc1 {a:Addr} {x:Str} {i:Int}:H a=some (.dK [(.inr x,.int i)])→RepF H true (.ref a) (.dict [(.str x,.int i)])
inductive RepFs (H:Hp):Bool→List V→List PyData→Prop
 |nil {f:Bool}:RepFs H f [] []
 |cons {f:Bool} {x:V} {xs:List V} {d:PyData} {ds:List PyData}:RepF H f x d→RepFs H f xs ds→RepFs H f (x::xs) (d::ds)
end
mutual
theorem RepF.same {H H':Hp} (s:Same H H'):∀{f:Bool} {v:V} {d:PyData},RepF H f v d→RepF H' f v d
 |_,_,_,.non=> .non
 |_,_,_,.bl b=> .bl b
 |_,_,_,.int i=> .int i
 |_,_,_,.str x=> .str x
 |_,_,_,.tup e h=> .tup (s _ _ e) (RepFs.same s h)
 |_,_,_,.lst e h=> .lst (s _ _ e) (RepFs.same s h)
 |_,_,_,.dct e=> .dct (s _ _ e)
 |_,_,_,.dc1 e=> .dc1 (s _ _ e)
theorem RepFs.same {H H':Hp} (s:Same H H'):∀{f:Bool} {vs:List V} {ds:List PyData},RepFs H f vs ds→RepFs H' f vs ds
 |_,_,_,.nil=> .nil
 |_,_,_,.cons h t=> .cons (RepF.same s h) (RepFs.same s t)
end
mutual
theorem RepF.reads {X:Cx} {pins:List (Addr×Obj)} {σ:L2.St} {H:Hp} {s:Shared} (I:Inv X pins σ H s):∀{f:Bool} {v:V} {d:PyData} {u:Value},RepF H f v d→RelV v u→∃as,Reads s.heap u d as∧(f=true→sysModules ∉ as)
 |_,_,_,_,.non,r=>by cases r;exact ⟨_,.none,fun _=>by simp⟩
 |_,_,_,_,.bl b,r=>by cases r;exact ⟨_,.bool b,fun _=>by simp⟩
 |_,_,_,_,.int i,r=>by obtain ⟨t,rfl⟩:=r;exact ⟨_,.int i t,fun _=>by simp⟩
 |_,_,_,_,.str x,r=>by obtain ⟨t,rfl⟩:=r;exact ⟨_,.str x t,fun _=>by simp⟩
 |_,_,_,_,.tup e h,r=>by
  cases r
  obtain ⟨_,its,rv,o,e1,e2,_,n,e3⟩:=I.hok _ _ e
  obtain ⟨as,q,na⟩:=RepFs.reads I h rv
  exact ⟨as,.tuple e1 e2 e3 (by simpa using q),na⟩
 |_,_,_,_,.lst e h,r=>by
  cases r
  obtain ⟨_,its,n,rv,e1⟩:=I.hok _ _ e
  obtain ⟨as,q,na⟩:=RepFs.reads I h rv
  exact ⟨_,.list e1 rfl rfl (by simpa using q),fun z=>by cases z⟩
 |_,_,_,_,.dct (a:=a) e,r=>by
  cases r
  obtain ⟨_,ns,vs,kv,o,es,ep,e1,ex,e3,_,pr,_⟩:=I.hok _ _ e
  have hv:vs=[]:=by cases kv;rfl
  subst hv
  have he:es.toList=[]:=by
   have:=pr.length
   simpa using this
  refine ⟨a::[]++[],.dict (kvs:=[]) e1 ex.1 e3 (by rw [he];exact .nil) (by rw [he];exact .nil),fun _=> ?_⟩
  have:a≠sysModules:=by simpa using ns
  simpa using this.symm
 |_,_,_,_,.dc1 (a:=a) (x:=x) (i:=i) e,r=>by
  cases r
  obtain ⟨_,ns,vs,kv,o,es,ep,e1,ex,e3,_,pr,_⟩:=I.hok _ _ e
  obtain ⟨u,hv,t',hu⟩:∃u,vs=[(Sum.inr x,u)]∧∃t,u=Value.int i t:=by
   cases kv with
   | @cons _ b _ _ r1 r2=>
    cases r2
    obtain ⟨b1,b2⟩:=b
    obtain ⟨z,r1⟩:=r1
    cases z
    exact ⟨_,rfl,r1⟩
  subst hv
  generalize hes:es.toList=el at pr
  cases pr with
  | @cons en _ el _ h1 h2 h3=>
   cases h3
   obtain ⟨t,ht⟩:∃t,en.key=Value.str x t:=by
    rcases A7 (k:=Sum.inr x) (v:=en.key) h1 with ⟨_,_,z,_⟩|⟨y,t,z,e'⟩
    ·cases z
    ·cases z;exact ⟨t,e'⟩
   refine ⟨a::([]++[])++([]++[]),.dict (kvs:=[(.str x,.int i)]) e1 ex.1 e3 ?_ ?_,fun _=> ?_⟩
   ·rw [hes];show ReadsAll s.heap [en.key] [.str x] _;rw [ht];exact .cons (.str x t) .nil
   ·rw [hes];show ReadsAll s.heap [en.val] [.int i] _;rw [h2,hu];exact .cons (.int i t') .nil
   ·have:a≠sysModules:=by simpa using ns
    simpa using this.symm
theorem RepFs.reads {X:Cx} {pins:List (Addr×Obj)} {σ:L2.St} {H:Hp} {s:Shared} (I:Inv X pins σ H s):∀{f:Bool} {vs:List V} {ds:List PyData} {us:List Value},RepFs H f vs ds→Vals vs us→∃as,ReadsAll s.heap us ds as∧(f=true→sysModules ∉ as)
 |_,_,_,_,.nil,r=>by cases r;exact ⟨_,.nil,fun _=>by simp⟩
 |_,_,_,_,.cons h t,r=>by
  cases r with
  |cons r1 r2=>
   obtain ⟨as,q1,n1⟩:=RepF.reads I h r1
   obtain ⟨bs,q2,n2⟩:=RepFs.reads I t r2
   exact ⟨_,.cons q1 q2,fun z=>by simp [n1 z,n2 z]⟩
end
mutual
theorem RepF.nodict {H:Hp}:∀{v:V} {d:PyData},RepF H false v d→d.hasDict=false
 |_,_,.non=>rfl
 |_,_,.bl _=>rfl
 |_,_,.int _=>rfl
 |_,_,.str _=>rfl
 |_,_,.tup _ h=>by rw [PyData.hasDict];exact RepFs.nodict h
 |_,_,.lst _ h=>by rw [PyData.hasDict];exact RepFs.nodict h
theorem RepFs.nodict {H:Hp}:∀{vs:List V} {ds:List PyData},RepFs H false vs ds→PyData.hasDictAll ds=false
 |_,_,.nil=>rfl
 |_,_,.cons h t=>by rw [PyData.hasDictAll,RepF.nodict h,RepFs.nodict t];rfl
end
end Rp
namespace L2
open PySem PySem.Spec PyProof.Rows Rp PySem.P
end L2
namespace Rp
open PySem L2
structure Fine (n k:Nat) (d:PyData):Prop where
 sh:d.showable=true
 ln:d.shown.length≤n
 dp:d.depth≤k
theorem Fine.mono {n k n' k':Nat} {d:PyData} (h:Fine n k d) (h1:n≤n') (h2:k≤k'):Fine n' k' d:=⟨h.sh,Nat.le_trans h.ln h1,Nat.le_trans h.dp h2⟩
theorem len_of (s:String):(Str.ofString s).length=s.toList.length:=by
 rw [Str.ofString_eq_toList]
 simp [Str.length]
theorem int_len {i:Int} (h:i.natAbs<10 ^ 45):((toString i:String):Str).length≤46:=by
 show (Str.ofString (toString i)).length≤46
 rw [len_of]
 cases i with
 |ofNat n=>
  have:=PySem.Flt.repr_len (k:=45) (by decide) (show n<10 ^ 45 from h)
  show (Nat.repr n).toList.length≤46
  omega
 |negSucc n=>
  have:=PySem.Flt.repr_len (k:=45) (by decide) (show n+1<10 ^ 45 from h)
  show (("-":String)++Nat.repr (n+1)).toList.length≤46
  rw [String.toList_append,List.length_append]
  have e:("-":String).toList.length=1:=by decide
  omega
theorem int_log {i:Int} (h:i.natAbs<10 ^ 45):i.natAbs.log2<1920:=by
 refine PySem.Flt.log2_lt_of (by decide) (Nat.lt_of_lt_of_le h ?_)
 exact Nat.le_trans (show (10:Nat) ^ 45≤2 ^ 200 by decide+kernel) (Nat.pow_le_pow_right (by decide) (by decide))
theorem Fine.int {i:Int} (h:i.natAbs<10 ^ 45):Fine 46 0 (.int i):=⟨by simpa [PyData.showable] using int_log h,int_len h,Nat.le_refl _⟩
theorem Fine.non:Fine 46 0 .none:=⟨rfl,by show (Str.ofString "None").length≤46;rw [len_of];decide,Nat.le_refl _⟩
theorem Fine.bl (b:Bool):Fine 46 0 (.bool b):=⟨rfl,by cases b<;> (show (Str.ofString _).length≤46;rw [len_of];decide),Nat.le_refl _⟩
theorem char_lt (c:Char):c.toNat<16 ^ 8:=by
 have:=c.val.toBitVec.isLt
 exact Nat.lt_of_lt_of_le this (by decide)
theorem all_fine {n k:Nat}:∀{ds:List PyData},(∀d∈ds,Fine n k d)→PyData.showableAll ds=true∧((PyData.shownAll ds).map (·.length)).sum≤n * ds.length∧(PyData.shownAll ds).length=ds.length∧PyData.depthAll ds≤k
 |[],_=>⟨rfl,by simp [PyData.shownAll],rfl,by simp [PyData.depthAll]⟩
 |d::ds,h=>by
  obtain ⟨a,b,c,e⟩:=all_fine fun d' hd=>h d' (List.mem_cons_of_mem _ hd)
  obtain ⟨h1,h2,h3⟩:=h d List.mem_cons_self
  refine ⟨by rw [PyData.showableAll,h1,a];rfl,?_,by rw [PyData.shownAll,List.length_cons,c,List.length_cons],by rw [PyData.depthAll];omega⟩
  rw [PyData.shownAll,List.map_cons,List.sum_cons,List.length_cons,Nat.mul_succ]
  omega
theorem Fine.lst {n k l:Nat} {ds:List PyData} (h:∀d∈ds,Fine n k d) (hl:ds.length≤l):Fine (n * l+2 * l+3) (k+1) (.list ds):=by
 obtain ⟨a,b,c,e⟩:=all_fine h
 have q:=listText_len_le (PyData.shownAll ds)
 have m1:=Nat.mul_le_mul_left n hl
 exact ⟨by rw [PyData.showable];exact a,by rw [PyData.shown];omega,by rw [PyData.depth];omega⟩
theorem Fine.dct:Fine 46 1 (.dict []):=⟨rfl,by show (dictText []).length≤46;decide+kernel,by simp [PyData.depth,PyData.depthKv]⟩
theorem Fine.txt {x:Str} {n:Nat} (h:x.length≤n) (hc:∀c∈x.cps.toList,c<16 ^ 8):Fine (10 * n+2) 0 (.str x):=⟨rfl,Nat.le_trans (PySem.StrLaws.reprText_len _ hc) (by omega),Nat.le_refl _⟩
end Rp
namespace L2
open PySem PySem.Spec PyProof.Rows
def Flt:V→V→Bool
 | .non,.non=>true
 | .non,.bl _=>true
 | .non,.int _=>true
 | .non,.str _=>true
 | .bl _,.non=>true
 | .bl _,.bl _=>true
 | .bl _,.str _=>true
 | .int _,.non=>true
 | .int _,.int _=>true
 | .int _,.str _=>true
 | .str _,.non=>true
 | .str _,.bl _=>true
 | .str _,.int _=>true
 | .str _,.str _=>true
 |_,_=>false
def Eqs (K:PySem.W.Frag) (H:Hp):Nat→V→V→Bool→Prop
 |0,x,y,b=>Flt x y=true∧b=decide (x=y)
 |n+1,x,y,b=>(Flt x y=true∧b=decide (x=y))∨
  (∃(a c:Addr) (xs ys:List V) (e:Nat→Bool),x= .ref a∧y= .ref c∧((SqT K H a xs∧SqT K H c ys)∨(SqL K H a xs∧SqL K H c ys))∧(∀(j:Nat) p q,xs[j]? =some p→ys[j]? =some q→Eqs K H n p q (e j))∧b=((List.range (min xs.length ys.length)).all e && xs.length==ys.length))∨
  (∃(a:Addr) (xs:List V),x= .ref a∧y= .non∧SqT K H a xs∧b=false)∨
  (∃(a:Addr) (xs:List V),x= .non∧y= .ref a∧SqT K H a xs∧b=false)
theorem all_dec {α:Type} [DecidableEq α] {xs ys:List V} {ds es:List α} (l1:ds.length=xs.length) (l2:es.length=ys.length):((List.range (min xs.length ys.length)).all (fun j=>decide (ds[j]? =es[j]?)) && xs.length==ys.length)=decide (ds=es):=by
 by_cases h:xs.length=ys.length
 ·rw [Bool.eq_iff_iff,Bool.and_eq_true,List.all_eq_true,decide_eq_true_eq]
  constructor
  ·rintro ⟨ha,_⟩
   refine List.ext_getElem? fun i=> ?_
   by_cases hi:i<xs.length
   ·exact of_decide_eq_true (ha i (List.mem_range.mpr (by omega)))
   ·rw [List.getElem?_eq_none (by omega),List.getElem?_eq_none (by omega)]
  ·rintro rfl
   exact ⟨fun j _=>decide_eq_true rfl,by simpa using h⟩
 ·have:(xs.length==ys.length)=false:=by simpa using h
  rw [this,Bool.and_false,decide_eq_false fun e=>h (by rw [←l1,←l2,e])]
theorem Eqs.seq {K:PySem.W.Frag} {H:Hp} {n:Nat} {a c:Addr} {xs ys:List V} {α:Type} [DecidableEq α] {ds es:List α} (hh:(SqT K H a xs∧SqT K H c ys)∨(SqL K H a xs∧SqL K H c ys)) (l1:ds.length=xs.length) (l2:es.length=ys.length)
  (h:∀(j:Nat) p q d e,xs[j]? =some p→ys[j]? =some q→ds[j]? =some d→es[j]? =some e→Eqs K H n p q (decide (d=e))):Eqs K H (n+1) (.ref a) (.ref c) (decide (ds=es)):=by
 refine .inr (.inl ⟨a,c,xs,ys,fun j=>decide (ds[j]? =es[j]?),rfl,rfl,hh,fun j p q hp hq=> ?_,(all_dec l1 l2).symm⟩)
 have j1:j<ds.length:=by rw [l1];exact (List.getElem?_eq_some_iff.mp hp).1
 have j2:j<es.length:=by rw [l2];exact (List.getElem?_eq_some_iff.mp hq).1
 have:=h j p q ds[j] es[j] hp hq (List.getElem?_eq_getElem j1) (List.getElem?_eq_getElem j2)
 show Eqs K H n p q (decide (ds[j]? =es[j]?))
 rw [List.getElem?_eq_getElem j1,List.getElem?_eq_getElem j2]
 have e:decide (some ds[j]=some es[j])=decide (ds[j]=es[j]):=by
  rw [Bool.eq_iff_iff,decide_eq_true_eq,decide_eq_true_eq]
  exact ⟨fun h=>Option.some.inj h,fun h=>by rw [h]⟩
 rw [e];exact this
section
variable {X:Cx} {pins:List (Addr×Obj)} {σ:St} {H:Hp} {s:Shared}
theorem eqs_refl (I:Inv X pins σ H s):∀(n:Nat) {x:V} {b:Bool},Eqs X.K H n x x b→b=true
 |0,x,b,⟨_,e⟩=>by rw [e,decide_eq_true rfl]
 |n+1,x,b,h=>by
  rcases h with ⟨_,e⟩|⟨a,c,xs,ys,e,e1,e2,hh,hj,eb⟩|⟨a,xs,e1,e2,_⟩|⟨a,xs,e1,e2,_⟩
  ·rw [e,decide_eq_true rfl]
  ·rw [e1] at e2
   injection e2 with e2
   subst e2
   have ex:xs=ys:=by
    rcases hh with ⟨h1,h2⟩|⟨h1,h2⟩
    ·exact I.tuple_inj h1 h2
    ·exact I.list_inj h1 h2
   subst ex
   rw [eb,Bool.and_eq_true]
   refine ⟨List.all_eq_true.mpr fun j hj'=> ?_,by simp⟩
   have hj':=List.mem_range.mp hj'
   have hjx:j<xs.length:=by omega
   exact eqs_refl I n (hj j _ _ (List.getElem?_eq_getElem hjx) (List.getElem?_eq_getElem hjx))
  ·rw [e1] at e2;cases e2
  ·rw [e1] at e2;cases e2
theorem flt_at {x y:V} {v u:Value} (h:Flt x y=true) (rx:RelV x v) (ry:RelV y u) (A:Around):SeqAt.EqAt A s v u (decide (x=y)):=by
 have sw:∀{b c:Bool},SeqAt.EqAt A s v u b→b=c→SeqAt.EqAt A s v u c:=fun h e=>e▸h
 cases x<;> cases y<;> simp only [Flt,Bool.false_eq_true] at h<;> simp only [RelV] at rx ry
 ·subst rx;subst ry;exact SeqAt.EqAt.same _
 ·subst rx;subst ry;exact sw (SeqAt.EqAt.none_bool _) (by simp)
 ·obtain ⟨t,rfl⟩:=ry;subst rx;exact sw (SeqAt.EqAt.none_int _ _) (by simp)
 ·obtain ⟨t,rfl⟩:=ry;subst rx;exact sw (SeqAt.EqAt.none_str _ _) (by simp)
 ·subst rx;subst ry;exact sw (SeqAt.EqAt.bool_none _) (by simp)
 ·subst rx;subst ry;exact sw (SeqAt.EqAt.bool_bool _ _) (by rw [Bool.eq_iff_iff];simp)
 ·obtain ⟨t,rfl⟩:=ry;subst rx;exact sw (SeqAt.EqAt.bool_str _ _ _) (by simp)
 ·obtain ⟨t,rfl⟩:=rx;subst ry;exact sw (SeqAt.EqAt.int_none _ _) (by simp)
 ·obtain ⟨t,rfl⟩:=rx;obtain ⟨t',rfl⟩:=ry;exact sw (SeqAt.EqAt.int_int _ _ _ _) (by rw [Bool.eq_iff_iff];simp)
 ·obtain ⟨t,rfl⟩:=rx;obtain ⟨t',rfl⟩:=ry;exact sw (SeqAt.EqAt.int_str _ _ _ _) (by simp)
 ·obtain ⟨t,rfl⟩:=rx;subst ry;exact sw (SeqAt.EqAt.str_none _ _) (by simp)
 ·obtain ⟨t,rfl⟩:=rx;subst ry;exact sw (SeqAt.EqAt.str_bool _ _ _) (by simp)
 ·obtain ⟨t,rfl⟩:=rx;obtain ⟨t',rfl⟩:=ry;exact sw (SeqAt.EqAt.str_int _ _ _ _) (by simp)
 ·obtain ⟨t,rfl⟩:=rx;obtain ⟨t',rfl⟩:=ry;exact sw (SeqAt.EqAt.str_str _ _ _ _) (by rw [Bool.eq_iff_iff];simp)
theorem val_at {xs:List V} {its:List Value} (r:Vals xs its) {j:Nat} (h:j<its.toArray.size):∃x,xs[j]? =some x∧RelV x its.toArray[j]:=by
 have l:=r.length
 have hj:j<xs.length:=by simpa [l] using h
 obtain ⟨v,e,rv⟩:=r.get (i:=j) (x:=xs[j]) (by simp [hj])
 have w1:its.toArray[j]=v:=by
  have:=(List.getElem?_eq_some_iff.mp e).2
  simpa using this
 exact ⟨xs[j],by simp [hj],by rw [w1];exact rv⟩
theorem in1_units (A:Around):A.in1.units≤A.units+1:=by first|exact Nat.le_refl _|exact Nat.le_succ _
theorem eqs_at (I:Inv X pins σ H s):∀(n:Nat) {x y:V} {b:Bool} {v u:Value} {A:Around},A.units+n<cLine→Eqs X.K H n x y b→RelV x v→RelV y u→SeqAt.EqAt A s v u b
 |0,x,y,b,v,u,A,_,⟨h,e⟩,rx,ry=>by rw [e];exact flt_at h rx ry A
 |n+1,x,y,b,v,u,A,hu,h,rx,ry=>by
  rcases id h with ⟨h,e⟩|⟨a,c,xs,ys,e,rfl,rfl,hh,hj,eb⟩|⟨a,xs,rfl,rfl,h1,e⟩|⟨a,xs,rfl,rfl,h1,e⟩
  ·rw [e];exact flt_at h rx ry A
  ·cases rx
   cases ry
   by_cases hne:a=c
   ·subst hne
    rw [eqs_refl I (n+1) h]
    exact SeqAt.EqAt.same _
   refine SeqAt.EqAt.of_refs hne ?_
   have iu:=in1_units A
   rcases hh with ⟨h1,h2⟩|⟨h1,h2⟩
   ·obtain ⟨its,r1,p1,_⟩:=I.tuple h1
    obtain ⟨its2,r2,p2,_⟩:=I.tuple h2
    have:=SeqAt.RcAt.tuples (A:=A) (e:=e) p1 p2 (by omega) fun j j1 j2=> ?_
    ·rw [List.size_toArray,List.size_toArray,←r1.length,←r2.length] at this
     rw [eb];exact this
    ·obtain ⟨p,ep,rp⟩:=val_at r1 j1
     obtain ⟨q,eq,rq⟩:=val_at r2 j2
     exact eqs_at I n (by omega) (hj j p q ep eq) rp rq
   ·obtain ⟨its,r1,p1,_⟩:=I.list h1
    obtain ⟨its2,r2,p2,_⟩:=I.list h2
    have m1:=r1.length
    have m2:=r2.length
    by_cases hl:xs.length=ys.length
    ·have:=SeqAt.RcAt.lists (A:=A) (e:=e) p1.isList p2.isList (by rw [List.size_toArray,List.size_toArray];omega) (by omega) fun j j1 j2=> ?_
     ·rw [List.size_toArray,←m1] at this
      rw [eb,hl,Nat.min_self,←hl]
      simpa using this
     ·obtain ⟨p,ep,rp⟩:=val_at r1 j1
      obtain ⟨q,eq,rq⟩:=val_at r2 j2
      exact eqs_at I n (by omega) (hj j p q ep eq) rp rq
    ·have:=SeqAt.RcAt.lists_lengths (A:=A) p1.isList p2.isList (by rw [List.size_toArray,List.size_toArray];simp;omega) (by omega)
     have eb':b=false:=by rw [eb];simp [hl]
     rw [eb'];exact this
  ·cases rx
   cases ry
   obtain ⟨its,r1,p1,_⟩:=I.tuple h1
   rw [e];exact SeqAt.EqAt.tuple_none p1 (by omega)
  ·cases rx
   cases ry
   obtain ⟨its,r1,p1,_⟩:=I.tuple h1
   rw [e];exact SeqAt.EqAt.none_tuple p1 (by omega)
end
section
variable {X:Cx}
inductive RNesP (K:PySem.W.Frag) (x:V) (y:V) (H:Hp) (Q:VK):Prop
 |mk (n:Nat) (b:Bool) (a c:Addr):(x= .ref a)→(y= .ref c)→(n≤30)→(Eqs K H (n+1) x y b)→(Q (.bl (!b)) H)→RNesP K x y H Q
def rNes (K:PySem.W.Frag):V→V→Hp→VK→Prop:=fun x y H Q=>RNesP K x y H Q
theorem op_nes (hu:X.A.units+64<cLine):OpR X (compareOp .NotEq) (rNes X.K):=by
 intro pins s σ H x y v u Q I rx ry h
 obtain ⟨n,b,a,c,rfl,rfl,hn,h,q⟩:=h
 cases rx
 cases ry
 have iu:=in1_units X.A
 rcases h with ⟨h,_⟩|⟨a',c',xs,ys,e,e1,e2,hh,hj,eb⟩|⟨_,_,_,e2,_⟩|⟨_,_,e1,_⟩
 ·cases h
 ·cases e1
  cases e2
  rcases hh with ⟨h1,h2⟩|⟨h1,h2⟩
  ·obtain ⟨its,r1,p1,_⟩:=I.tuple h1
   obtain ⟨its2,r2,p2,_⟩:=I.tuple h2
   refine (SeqAt.RcNeAt.tuples (A:=X.A) (e:=e) p1 p2 (by omega) fun j j1 j2=> ?_) X.prog X.w X.xe _ ⟨.bl _,H,I,rfl,?_⟩
   ·obtain ⟨p,ep,rp⟩:=val_at r1 j1
    obtain ⟨q,eq,rq⟩:=val_at r2 j2
    exact eqs_at I n (by omega) (hj j p q ep eq) rp rq
   ·rw [List.size_toArray,List.size_toArray,←r1.length,←r2.length,←eb]
    exact q
  ·obtain ⟨its,r1,p1,_⟩:=I.list h1
   obtain ⟨its2,r2,p2,_⟩:=I.list h2
   have m1:=r1.length
   have m2:=r2.length
   by_cases hl:xs.length=ys.length
   ·refine (SeqAt.RcNeAt.lists (A:=X.A) (e:=e) p1.isList p2.isList (by rw [List.size_toArray,List.size_toArray];omega) (by omega) fun j j1 j2=> ?_) X.prog X.w X.xe _ ⟨.bl _,H,I,rfl,?_⟩
    ·obtain ⟨p,ep,rp⟩:=val_at r1 j1
     obtain ⟨q,eq,rq⟩:=val_at r2 j2
     exact eqs_at I n (by omega) (hj j p q ep eq) rp rq
    ·have:b=(List.range its.toArray.size).all e:=by
      rw [eb,hl,Nat.min_self,←hl,List.size_toArray,←m1]
      simp
     rw [←this];exact q
   ·refine (SeqAt.RcNeAt.lists_lengths (A:=X.A) p1.isList p2.isList (by rw [List.size_toArray,List.size_toArray];simp;omega) (by omega)) X.prog X.w X.xe _ ⟨.bl _,H,I,rfl,?_⟩
    have eb':b=false:=by rw [eb];simp [hl]
    rw [eb'] at q;exact q
 ·cases e2
 ·cases e1
end
end L2
namespace L2
open PySem PySem.Spec PyProof.Rows
def NotT (H:Hp) (x:V):Prop:=(x= .non∨(∃b,x= .bl b)∨(∃i,x= .int i)∨∃n,x= .str n)∨(∃a xs,x= .ref a∧H a=some (.lst xs))∨∃a kvs,x= .ref a∧H a=some (.dK kvs)
def An (H:Hp) (x:V):Prop:=NotT H x∨∃a xs,x= .ref a∧H a=some (.tup xs)
theorem NotT.same {H H':Hp} {x:V} (h:NotT H x) (s:Same H H'):NotT H' x:=by
 rcases h with h|⟨a,xs,e,h⟩|⟨a,xs,e,h⟩
 ·exact .inl h
 ·exact .inr (.inl ⟨a,xs,e,s _ _ h⟩)
 ·exact .inr (.inr ⟨a,xs,e,s _ _ h⟩)
theorem An.same {H H':Hp} {x:V} (h:An H x) (s:Same H H'):An H' x:=by
 rcases h with h|⟨a,xs,e,h⟩
 ·exact .inl (h.same s)
 ·exact .inr ⟨a,xs,e,s _ _ h⟩
def isBl:V→Bool
 | .bl _=>true
 |_=>false
def isIn:V→Bool
 | .int _=>true
 |_=>false
def isSt:V→Bool
 | .str _=>true
 |_=>false
theorem NotT.tup {K:PySem.W.Frag} {H:Hp} {x:V} (h:NotT H x):∃t,TyOf K H x t∧PySem.W.kitOne K t (.type "tuple")=some false:=by
 rcases h with (rfl|⟨b,rfl⟩|⟨i,rfl⟩|⟨n,rfl⟩)|⟨a,xs,rfl,h⟩|⟨a,kvs,rfl,h⟩
 ·exact ⟨_,.non,rfl⟩
 ·exact ⟨_,.bl b,rfl⟩
 ·exact ⟨_,.int i,rfl⟩
 ·exact ⟨_,.str n,rfl⟩
 ·exact ⟨_,.lst h,rfl⟩
 ·exact ⟨_,.dK h,rfl⟩
theorem An.str {K:PySem.W.Frag} {H:Hp} {x:V} (h:An H x):∃t,TyOf K H x t∧PySem.W.kitOne K t (.type "str")=some (isSt x):=by
 rcases h with ((rfl|⟨b,rfl⟩|⟨i,rfl⟩|⟨n,rfl⟩)|⟨a,xs,rfl,h⟩|⟨a,kvs,rfl,h⟩)|⟨a,xs,rfl,h⟩
 ·exact ⟨_,.non,rfl⟩
 ·exact ⟨_,.bl b,rfl⟩
 ·exact ⟨_,.int i,rfl⟩
 ·exact ⟨_,.str n,rfl⟩
 ·exact ⟨_,.lst h,rfl⟩
 ·exact ⟨_,.dK h,rfl⟩
 ·exact ⟨_,.tup h,rfl⟩
theorem An.int {K:PySem.W.Frag} {H:Hp} {x:V} (h:An H x):∃t,TyOf K H x t∧PySem.W.kitOne K t (.type "int")=some (isIn x||isBl x):=by
 rcases h with ((rfl|⟨b,rfl⟩|⟨i,rfl⟩|⟨n,rfl⟩)|⟨a,xs,rfl,h⟩|⟨a,kvs,rfl,h⟩)|⟨a,xs,rfl,h⟩
 ·exact ⟨_,.non,rfl⟩
 ·exact ⟨_,.bl b,rfl⟩
 ·exact ⟨_,.int i,rfl⟩
 ·exact ⟨_,.str n,rfl⟩
 ·exact ⟨_,.lst h,rfl⟩
 ·exact ⟨_,.dK h,rfl⟩
 ·exact ⟨_,.tup h,rfl⟩
theorem An.bool {K:PySem.W.Frag} {H:Hp} {x:V} (h:An H x):∃t,TyOf K H x t∧PySem.W.kitOne K t (.type "bool")=some (isBl x):=by
 rcases h with ((rfl|⟨b,rfl⟩|⟨i,rfl⟩|⟨n,rfl⟩)|⟨a,xs,rfl,h⟩|⟨a,kvs,rfl,h⟩)|⟨a,xs,rfl,h⟩
 ·exact ⟨_,.non,rfl⟩
 ·exact ⟨_,.bl b,rfl⟩
 ·exact ⟨_,.int i,rfl⟩
 ·exact ⟨_,.str n,rfl⟩
 ·exact ⟨_,.lst h,rfl⟩
 ·exact ⟨_,.dK h,rfl⟩
 ·exact ⟨_,.tup h,rfl⟩
end L2
namespace PySem
open PySem PySem.Spec PyProof.Rows PyProof.V SeqAt MeetsSeq
theorem dict_eq_declines_str (l:Addr) (o:Obj) (b:Str) (u:Tok) (hc:o.cls= .type "dict"):
  Meets (Builtin.«dict.__eq__» ⟨[.ref l,.str b u],[]⟩) (fun _ R s=>s.heap.get? l=some o∧R (.ok (.ret .notImplemented)) s):=
 .of_wp fun prog w A R s h=>by obtain ⟨hp,g,d,tk,os⟩:=s;obtain ⟨hl,h⟩:=h;have f1:=F.sub_str_dict;wp_walk;exact ⟨_,rfl,h⟩
theorem str_eq_declines_dict (l:Addr) (o:Obj) (b:Str) (u:Tok) {es:Array DictEntry} {ep:Nat} (hc:o.cls= .type "dict") (hd:o.data= .dict es ep):
  Meets (Builtin.«str.__eq__» ⟨[.str b u,.ref l],[]⟩) (fun _ R s=>s.heap.get? l=some o∧R (.ok (.ret .notImplemented)) s):=
 .of_wp fun prog w A R s h=>by obtain ⟨hp,g,d,tk,os⟩:=s;obtain ⟨hl,h⟩:=h;obtain ⟨cls,dd,data,sl⟩:=o;simp only at hc hd;subst hc hd;have f1:=F.sub_dict_str;wp_walk using wpAny_load hl;exact ⟨_,rfl,h⟩
section
variable {A:Around} {s:Shared}
theorem RcAt.dict_str {l:Addr} {o:Obj} {es:Array DictEntry} {ep:Nat} (b:Str) (u:Tok) (ho:s.heap.get? l=some o) (hc:o.cls= .type "dict") (hd:o.data= .dict es ep) (hu:A.units<cLine):RcAt A s (.ref l) (.str b u) false:=fun prog w E Q h=>by
 exact rc_eq_decline_or (k:=false) ⟨_,ho,hc⟩ (typeIs_str s b u) (by decide) F.sub_str_dict F.slot_dict_eq F.slot_str_eq_refl
  (fun _ hq=>call_meets F.slot_dict_eq ⟨_,ho,hc⟩ F.entry_dict_eq (F.args_dict_eq_2 _ _) (dict_eq_declines_str l o b u hc) ⟨ho,hq⟩)
  (fun _ hq=>call_meets F.slot_str_eq_refl (typeIs_str s b u) F.entry_str_eq (F.args_str_eq_2 _ _) (str_eq_declines_dict l o b u hc hd) ⟨ho,hq⟩)
  (fun _ hq=>wpAny_of_eq (rfl:isSame (.ref l) (.str b u)=pure false) hq) (.inr hu) h
theorem RcAt.str_dict {l:Addr} {o:Obj} {es:Array DictEntry} {ep:Nat} (b:Str) (u:Tok) (ho:s.heap.get? l=some o) (hc:o.cls= .type "dict") (hd:o.data= .dict es ep) (hu:A.units<cLine):RcAt A s (.str b u) (.ref l) false:=fun prog w E Q h=>by
 exact rc_eq_decline_or (k:=false) (typeIs_str s b u) ⟨_,ho,hc⟩ (by decide) F.sub_dict_str F.slot_str_eq F.slot_dict_eq_refl
  (fun _ hq=>call_meets F.slot_str_eq (typeIs_str s b u) F.entry_str_eq (F.args_str_eq_2 _ _) (str_eq_declines_dict l o b u hc hd) ⟨ho,hq⟩)
  (fun _ hq=>call_meets F.slot_dict_eq_refl ⟨_,ho,hc⟩ F.entry_dict_eq (F.args_dict_eq_2 _ _) (dict_eq_declines_str l o b u hc) ⟨ho,hq⟩)
  (fun _ hq=>wpAny_of_eq (rfl:isSame (.str b u) (.ref l)=pure false) hq) (.inr hu) h
end
end PySem
namespace L2
open PySem PySem.Spec PyProof.Rows
section
variable {X:Cx}
inductive REqStrP (x:V) (y:V) (H:Hp) (Q:VK):Prop
 |l (n:Str):(y= .str n)→An H x→(Q (.bl (decide (x=y))) H)→REqStrP x y H Q
 |r (n:Str):(x= .str n)→An H y→(Q (.bl (decide (x=y))) H)→REqStrP x y H Q
def rEqStr:V→V→Hp→VK→Prop:=fun x y H Q=>REqStrP x y H Q
theorem op_eqStr (hu:X.A.units+64<cLine):OpR X (compareOp .Eq) rEqStr:=by
 intro pins s σ H x y v u Q I rx ry h
 rcases h with ⟨n,rfl,ha,q⟩|⟨n,rfl,ha,q⟩
 ·rcases ha with (h|⟨a,xs,rfl,h⟩|⟨a,kvs,rfl,h⟩)|⟨a,xs,rfl,h⟩
  ·rcases h with rfl|⟨b,rfl⟩|⟨i,rfl⟩|⟨z,rfl⟩
   all_goals exact Cc pins s σ H _ _ v u Q I rx ry ⟨rfl,q⟩
  ·cases rx
   obtain ⟨t,rfl⟩:=ry
   obtain ⟨its,r1,p1,_⟩:=I.list (SqL.of h)
   refine SeqAt.RcAt.list_str n t p1.isList (by omega) X.prog X.w X.xe _ ⟨.bl _,H,I,rfl,?_⟩
   rw [decide_eq_false (by intro z;cases z)] at q;exact q
  ·cases rx
   obtain ⟨t,rfl⟩:=ry
   obtain ⟨_,ns,vs,kv,o,es,ep,e1,ex,e3,_,pr,_⟩:=I.hok _ _ h
   refine RcAt.dict_str n t e1 ex.1 e3 (by omega) X.prog X.w X.xe _ ⟨.bl _,H,I,rfl,?_⟩
   rw [decide_eq_false (by intro z;cases z)] at q;exact q
  ·cases rx
   obtain ⟨t,rfl⟩:=ry
   obtain ⟨its,r1,p1,_⟩:=I.tuple (SqT.of h)
   refine SeqAt.RcAt.tuple_str n t p1 (by omega) X.prog X.w X.xe _ ⟨.bl _,H,I,rfl,?_⟩
   rw [decide_eq_false (by intro z;cases z)] at q;exact q
 ·rcases ha with (h|⟨a,xs,rfl,h⟩|⟨a,kvs,rfl,h⟩)|⟨a,xs,rfl,h⟩
  ·rcases h with rfl|⟨b,rfl⟩|⟨i,rfl⟩|⟨z,rfl⟩
   all_goals exact Cc pins s σ H _ _ v u Q I rx ry ⟨rfl,q⟩
  ·cases ry
   obtain ⟨t,rfl⟩:=rx
   obtain ⟨its,r1,p1,_⟩:=I.list (SqL.of h)
   refine SeqAt.RcAt.str_list n t p1.isList (by omega) X.prog X.w X.xe _ ⟨.bl _,H,I,rfl,?_⟩
   rw [decide_eq_false (by intro z;cases z)] at q;exact q
  ·cases ry
   obtain ⟨t,rfl⟩:=rx
   obtain ⟨_,ns,vs,kv,o,es,ep,e1,ex,e3,_,pr,_⟩:=I.hok _ _ h
   refine RcAt.str_dict n t e1 ex.1 e3 (by omega) X.prog X.w X.xe _ ⟨.bl _,H,I,rfl,?_⟩
   rw [decide_eq_false (by intro z;cases z)] at q;exact q
  ·cases ry
   obtain ⟨t,rfl⟩:=rx
   obtain ⟨its,r1,p1,_⟩:=I.tuple (SqT.of h)
   refine SeqAt.RcAt.str_tuple n t p1 (by omega) X.prog X.w X.xe _ ⟨.bl _,H,I,rfl,?_⟩
   rw [decide_eq_false (by intro z;cases z)] at q;exact q
end
end L2
namespace L2
open PySem PySem.Spec PyProof.Rows
end L2
namespace Srt
open PySem PySem.W PyProof.Rows L2
end Srt
namespace StT
open PySem
def Up (xs:Array Nat):Prop:=xs.toList.Pairwise (·<·)
theorem Up.lt {xs:Array Nat} (h:Up xs) {i k a b:Nat} (ik:i<k) (ha:xs[i]? =some a) (hb:xs[k]? =some b):a<b:=by
 rw [←Array.getElem?_toList] at ha hb
 obtain ⟨h1,e1⟩:=List.getElem?_eq_some_iff.mp ha
 obtain ⟨h2,e2⟩:=List.getElem?_eq_some_iff.mp hb
 rw [←e1,←e2]
 exact List.pairwise_iff_getElem.mp h i k h1 h2 ik
theorem go_ok {xs:Array Nat} {j:Nat} (h:Up xs):∀(fuel lo hi:Nat),lo≤hi→hi≤xs.size→hi - lo≤fuel→(∀i a,i<lo→xs[i]? =some a→a<j)→(∀i a,hi≤i→xs[i]? =some a→j≤a)→
  SetTable.below.go xs j fuel lo hi≤xs.size∧(∀i a,i<SetTable.below.go xs j fuel lo hi→xs[i]? =some a→a<j)∧∀i a,SetTable.below.go xs j fuel lo hi≤i→xs[i]? =some a→j≤a
 |0,lo,hi,h1,h2,h3,h4,h5=>by
  have:lo=hi:=by omega
  subst this
  exact ⟨h2,h4,h5⟩
 |fuel+1,lo,hi,h1,h2,h3,h4,h5=>by
  unfold SetTable.below.go
  by_cases c:lo<hi
  ·rw [if_pos c]
   have hm:(lo+hi) / 2<xs.size:=by omega
   have hg:xs[(lo+hi) / 2]? =some (xs.getD ((lo+hi) / 2) j):=by
    rw [Array.getD_eq_getD_getElem?,Array.getElem?_eq_getElem hm];rfl
   dsimp only
   by_cases d:xs.getD ((lo+hi) / 2) j<j
   ·rw [if_pos d]
    refine go_ok h fuel _ _ (by omega) h2 (by omega) (fun i a hi' ha=> ?_) h5
    rcases Nat.lt_or_eq_of_le (show i≤(lo+hi) / 2 by omega) with z|z
    ·exact Nat.lt_trans (h.lt z ha hg) d
    ·rw [z,hg] at ha;cases ha;exact d
   ·rw [if_neg d]
    refine go_ok h fuel _ _ (by omega) (by exact Nat.le_of_lt (by assumption)) (by omega) h4 (fun i a hi' ha=> ?_)
    rcases Nat.lt_or_eq_of_le hi' with z|z
    ·have:=h.lt z hg ha;omega
    ·rw [←z,hg] at ha;cases ha;exact Nat.not_lt.mp (by assumption)
  ·rw [if_neg c]
   have:lo=hi:=by omega
   subst this
   exact ⟨h2,h4,h5⟩
theorem below_ok {xs:Array Nat} (h:Up xs) (j:Nat):SetTable.below xs j≤xs.size∧(∀i a,i<SetTable.below xs j→xs[i]? =some a→a<j)∧∀i a,SetTable.below xs j≤i→xs[i]? =some a→j≤a:=
 go_ok h xs.size 0 xs.size (Nat.zero_le _) (Nat.le_refl _) (by exact Nat.le_refl _) (fun i a hi=>absurd hi (by omega)) fun i a hi ha=>by
  have:=(Array.getElem?_eq_some_iff.mp ha).1
  omega
theorem insert_list {α:Type} (xs:Array α) (p:Nat) (x:α) (hp:p≤xs.size):(SetTable.insertAt xs p x).toList=xs.toList.take p++[x]++xs.toList.drop p:=by
 unfold SetTable.insertAt
 rw [Array.toList_append,Array.toList_push]
 congr 1
 ·congr 1
  rw [Array.toList_extract];simp
 ·rw [Array.toList_extract]
  simp only [List.extract_eq_drop_take]
  exact List.take_of_length_le (by rw [List.length_drop,Array.length_toList];exact Nat.le_refl _)
theorem mem_of_idx {xs:Array Nat} {j:Nat} (h:Up xs) (hj:j∈xs.toList):xs[SetTable.below xs j]? =some j:=by
 obtain ⟨i,hi⟩:=List.getElem?_of_mem hj
 rw [Array.getElem?_toList] at hi
 obtain ⟨b1,b2,b3⟩:=below_ok h j
 have h1:SetTable.below xs j≤i:=by
  rcases Nat.lt_or_ge i (SetTable.below xs j) with z|z
  ·exact absurd (b2 i j z hi) (Nat.lt_irrefl _)
  ·exact z
 have hl:SetTable.below xs j<xs.size:=Nat.lt_of_le_of_lt h1 (Array.getElem?_eq_some_iff.mp hi).1
 have hb:=Array.getElem?_eq_getElem hl
 have h2:=b3 _ _ (Nat.le_refl _) hb
 rcases Nat.lt_or_eq_of_le h1 with z|z
 ·have:=h.lt z hb hi;omega
 ·rw [z];exact hi
theorem up_insert {xs:Array Nat} {j:Nat} (h:Up xs) (hj:j ∉ xs.toList):Up (SetTable.insertAt xs (SetTable.below xs j) j):=by
 obtain ⟨b1,b2,b3⟩:=below_ok h j
 unfold Up
 rw [insert_list xs _ j b1]
 have lo:∀a∈xs.toList.take (SetTable.below xs j),a<j:=fun a ha=>by
  obtain ⟨i,hi⟩:=List.getElem?_of_mem ha
  rw [List.getElem?_take] at hi
  split at hi
  ·rename_i z
   rw [Array.getElem?_toList] at hi
   exact b2 i a z hi
  ·cases hi
 have hi:∀a∈xs.toList.drop (SetTable.below xs j),j<a:=fun a ha=>by
  have hm:a∈xs.toList:=List.mem_of_mem_drop ha
  obtain ⟨i,hi⟩:=List.getElem?_of_mem ha
  rw [List.getElem?_drop,Array.getElem?_toList] at hi
  have:=b3 _ a (Nat.le_add_right _ _) hi
  rcases Nat.lt_or_eq_of_le this with z|z
  ·exact z
  ·exact absurd (z▸hm) hj
 refine List.pairwise_append.mpr ⟨List.pairwise_append.mpr ⟨List.Pairwise.sublist (List.take_sublist ..) h,List.pairwise_singleton ..,fun a ha b hb=> ?_⟩,List.Pairwise.sublist (List.drop_sublist ..) h,fun a ha b hb=> ?_⟩
 ·rw [List.mem_singleton.mp hb];exact lo a ha
 ·rcases List.mem_append.mp ha with z|z
  ·exact Nat.lt_trans (lo a z) (hi b hb)
  ·rw [List.mem_singleton.mp z];exact hi b hb
structure TOk (t:SetTable) (b:Bool):Prop where
 up:Up t.place
 nod:t.dummies= #[]
 led:t.led=b
theorem TOk.fresh (b:Bool):TOk (SetTable.fresh 0 0 b) b:=⟨List.Pairwise.nil,rfl,rfl⟩
theorem TOk.plain {t:SetTable} {b p:Bool} (h:TOk t b):TOk {t with plain:=p} b:=⟨h.up,h.nod,h.led⟩
theorem TOk.standIn {t:SetTable} {b:Bool} (h:TOk t b) (n:Nat):TOk (t.standIn n) b:=by
 refine ⟨?_,rfl,h.led⟩
 show Up (Array.range n)
 unfold Up
 rw [Array.toList_range]
 exact List.pairwise_lt_range
theorem has_nil (j:Nat):SetTable.has #[] j=false:=rfl
theorem slot_cases {t:SetTable} {b:Bool} (h:TOk t b) (j:Nat):(t.slot j= .empty∧j ∉ t.place.toList)∨∃i,t.slot j= .live i:=by
 unfold SetTable.slot
 dsimp only
 by_cases c:(t.place[SetTable.below t.place j]? ==some j)=true
 ·rw [if_pos c];exact .inr ⟨_,rfl⟩
 ·rw [if_neg c,h.nod,has_nil]
  refine .inl ⟨rfl,fun hm=>c ?_⟩
  rw [mem_of_idx h.up hm];simp
theorem advance_dummy (t:SetTable) (p:SetTable.Probe):(t.advance p).dummy=p.dummy:=by
 unfold SetTable.advance
 split
 ·rfl
 ·rfl
theorem probe_free {t:SetTable} {b:Bool} (h:TOk t b) {hashAt:Nat→Int} {hh:Int} {j:Nat} {d:Option Nat}:∀(fuel:Nat) (p:SetTable.Probe),p.dummy=none→SetTable.probe.go t hashAt hh fuel p=some (.empty j d)→d=none∧j ∉ t.place.toList
 |0,p,_,e=>by simp [SetTable.probe.go] at e
 |fuel+1,p,hp,e=>by
  unfold SetTable.probe.go at e
  rcases slot_cases h p.j with ⟨s,hn⟩|⟨i,s⟩
  ·rw [s] at e
   simp only [Option.some.injEq,SetTable.Met.empty.injEq] at e
   exact ⟨by rw [←e.2,hp],by rw [←e.1];exact hn⟩
  ·rw [s] at e
   dsimp only at e
   split at e
   ·cases e
   ·exact probe_free h fuel _ (by rw [advance_dummy];exact hp) e
theorem free_ok {t:SetTable} {b:Bool} (h:TOk t b) {hh:Int} {s:Nat} {wd:Bool} (e:t.freeSlot hh=some (s,wd)):s ∉ t.place.toList:=by
 unfold SetTable.freeSlot at e
 split at e
 ·rename_i j d q
  obtain ⟨rfl,hn⟩:=probe_free h _ _ rfl q
  simp only [Option.getD_none,Option.some.injEq,Prod.mk.injEq] at e
  rw [←e.1];exact hn
 ·cases e
theorem TOk.or {t:SetTable} {b:Bool} (h:TOk t b) (n:Nat):TOk (t.orStandIn n) b:=by
 unfold SetTable.orStandIn
 split
 ·exact h
 ·exact h.standIn n
theorem layNew_ok {t:SetTable} {b:Bool} (h:TOk t b) (es:Array (Int×Value)) (hh:Int) (x:Value):TOk (layNew t es hh x).2.1 b:=by
 unfold layNew
 split
 ·rename_i s wd e
  refine TOk.or (t:=(t.put s).1) ⟨up_insert h.up (free_ok h e),?_,h.led⟩ _
  show (if SetTable.has t.dummies s then _ else t.dummies)= #[]
  rw [h.nod,has_nil];rfl
 ·exact h.standIn _
theorem laid_up {mask:Nat} {owner:Array (Option Nat)}:Up ((((List.range (mask+1)).filterMap fun j=>(owner.getD j none).map (j,·)).map (·.1)).toArray):=by
 unfold Up
 rw [List.toList_toArray]
 have:(((List.range (mask+1)).filterMap fun j=>(owner.getD j none).map (j,·)).map (·.1)).Sublist (List.range (mask+1)):=by
  generalize List.range (mask+1)=l
  induction l with
  |nil=>exact List.Sublist.refl _
  |cons a l ih=>
   rw [List.filterMap_cons]
   cases owner.getD a none with
   |none=>exact ih.cons a
   |some k=>exact ih.cons₂ a
 exact List.Pairwise.sublist this List.pairwise_lt_range
theorem relay_ok {t:SetTable} {b:Bool} (h:TOk t b) (es:Array (Int×Value)) (wanted:Nat):TOk (relayAll t es wanted).2.1 b:=by
 unfold relayAll
 split
 ·rename_i t' order e
  have ht:TOk t' b:=by
   unfold SetTable.relaid SetTable.laid at e
   cases q:SetTable.layClean (SetTable.sizeAbove wanted - 1) (es.map (·.1)) with
   |none=>rw [q] at e;cases e
   |some owner=>
    rw [q] at e
    have e:some (({mask:=SetTable.sizeAbove wanted - 1,place:=(((List.range (SetTable.sizeAbove wanted - 1+1)).filterMap fun j=>(owner.getD j none).map (j,·)).map (·.1)).toArray,dummies:= #[],finger:=t.finger,led:=t.led,moves:=t.movedTo (SetTable.sizeAbove wanted - 1),plain:=t.plain}:SetTable),(((List.range (SetTable.sizeAbove wanted - 1+1)).filterMap fun j=>(owner.getD j none).map (j,·)).map (·.2)).toArray)=some (t',order):=e
    injection e with e
    injection e with e _
    rw [←e]
    exact ⟨laid_up,rfl,h.led⟩
  dsimp only
  split
  ·exact ht
  ·exact h.standIn _
 ·exact h.standIn _
end StT
namespace StT
open PySem
theorem perm_take {α:Type} {l:List α} {k:Nat} {x:α} (h:l[k]? =some x):(x::l.eraseIdx k).Perm l:=by
 obtain ⟨hk,rfl⟩:=List.getElem?_eq_some_iff.mp h
 rw [List.eraseIdx_eq_take_drop_succ]
 have e:l=l.take k++(l[k]::l.drop (k+1)):=by rw [←List.drop_eq_getElem_cons hk,List.take_append_drop]
 conv=>rhs;rw [e]
 exact List.perm_middle.symm
theorem pick_go {α:Type} (next:Nat→Nat):∀(fuel k:Nat) (left:List α) (out:Array α),fuel=left.length→(pickOrder.go next fuel k left out).toList.Perm (out.toList++left)
 |0,k,left,out,h=>by
  have:left=[]:=List.length_eq_zero_iff.mp h.symm
  subst this
  unfold pickOrder.go
  rw [List.append_nil]
 |fuel+1,k,left,out,h=>by
  unfold pickOrder.go
  have hl:next k % left.length<left.length:=Nat.mod_lt _ (by omega)
  have hx:=List.getElem?_eq_getElem hl
  generalize left[next k % left.length]=x at hx
  rw [hx]
  dsimp only
  refine (pick_go next fuel (k+1) _ _ (by rw [List.length_eraseIdx,if_pos hl];omega)).trans ?_
  rw [Array.toList_push,List.append_assoc]
  exact List.Perm.append_left _ (perm_take hx)
theorem pick_perm {α:Type} (next:Nat→Nat) (xs:Array α):(pickOrder next xs).toList.Perm xs.toList:=by
 have:=pick_go next xs.size 0 xs.toList #[] (by simp)
 simpa [pickOrder] using this
section
variable {M:Model} {A:Around} {E:Value→Shared→Prop} {s:Shared}
theorem wp_draw {n:Nat} (hn:n≠0) {src:Source} {Q:Nat→Shared→Prop} (q:∀i d,i<n→Q i {s with drawn:=d}):wpAny M A (choose src n) Q E s:=by
 intro Γ p hΓ
 unfold choose
 rw [Sem.wp_choose]
 exact ⟨hn,q _ _ (Nat.mod_lt _ (Nat.pos_of_ne_zero hn))⟩
theorem draw_perm {α:Type}:∀(n:Nat) (xs:List α) (s:Shared) (Q:List α→Shared→Prop),n=xs.length→(∀ys d,ys.Perm xs→Q ys {s with drawn:=d})→wpAny M A (drawOrder n xs) Q E s
 |0,xs,s,Q,h,q=>by
  have:xs=[]:=List.length_eq_zero_iff.mp h.symm
  subst this
  unfold drawOrder
  have:=q [] s.drawn (.refl _)
  exact wpAny_pure this
 |n+1,[],s,Q,h,q=>by cases h
 |n+1,x::xs,s,Q,h,q=>by
  unfold drawOrder
  refine wpAny_bind (wp_draw (by simp) fun i d hi=> ?_)
  have hx:=List.getElem?_eq_getElem hi
  generalize (x::xs)[i]=y at hx
  rw [hx]
  dsimp only
  refine wpAny_bind (draw_perm n _ _ _ (by rw [List.length_eraseIdx,if_pos hi];simp at h ⊢;assumption) fun ys d' pm=> ?_)
  exact wpAny_pure (q (y::ys) d' ((pm.cons y).trans (perm_take hx)))
end
end StT
namespace StT
open PySem
section
variable {prog:Program} {w:World} {K:Type} [DecidableEq K] {knd:KeyKind prog w K} {A:Around} {E:Value→Shared→Prop} {s:Shared}
def Dis (knd:KeyKind prog w K) (l:List (Int×Value)):Prop:=l.Pairwise fun e e'=>∀k,¬(knd.is k e.2=true∧knd.is k e'.2=true)
theorem Dis.perm {l l':List (Int×Value)} (h:Dis knd l) (p:l'.Perm l):Dis knd l':=(p.pairwise_iff fun {x y} z k c=>z k ⟨c.2,c.1⟩).mpr h
theorem Dis.push {l:List (Int×Value)} {S:K→Bool} (h:Dis knd l) (mem:∀k,S k=true↔∃e∈l,knd.is k e.2=true) {k:K} {x:Value} {i:Int} (hk:knd.is k x=true) (hS:S k=false):Dis knd (l++[(i,x)]):=by
 refine List.pairwise_append.mpr ⟨h,List.pairwise_singleton ..,fun e he e' he' k' c=> ?_⟩
 rw [List.mem_singleton.mp he'] at c
 have:=knd.inj x k' k c.2 hk
 subst this
 rw [(mem k').mpr ⟨e,he,c.1⟩] at hS
 cases hS
def SetU (knd:KeyKind prog w K) (h:Heap) (a:Addr) (S:K→Bool) (n:Nat) (b:Bool):Prop:=∃o es ep t,h.get? a=some o∧o.ExactSet∧o.data= .set es ep t∧ElemsOf knd es.toList∧(∀k,S k=true↔∃e∈es.toList,knd.is k e.2=true)∧es.size<scanBound∧t.fits es.size=true∧es.size=n∧TOk t b∧Dis knd es.toList
theorem SetU.congr {h:Heap} {a:Addr} {S S':K→Bool} {n n':Nat} {b:Bool} (x:SetU knd h a S n b) (e:∀k,S k=S' k) (en:n=n'):SetU knd h a S' n' b:=by
 obtain rfl:S=S':=funext e
 subst en
 exact x
theorem SetU.put {h:Heap} {a:Addr} {o:Obj} {es:Array (Int×Value)} {ep:Nat} {t:SetTable} {b:Bool} (ho:h.get? a=some o) (hex:o.ExactSet) (hd:o.data= .set es ep t) {es':Array (Int×Value)} {t':SetTable} {S':K→Bool} (el:ElemsOf knd es'.toList) (mem:∀k,S' k=true↔∃e∈es'.toList,knd.is k e.2=true) (sz:es'.size<scanBound) (fit:t'.fits es'.size=true) (ok:TOk t' b) (dis:Dis knd es'.toList):
  (h.update a (Obj.putSet es' t')).get? a=some {o with data:= .set es' (ep+1) t'}∧SetU knd (h.update a (Obj.putSet es' t')) a S' es'.size b:=by
 have z:=(SetOf_store (knd:=knd) (es':=es') (t':=t') (S':=S') ho hex hd el mem sz fit).1
 exact ⟨z,_,es',ep+1,t',z,hex,rfl,el,mem,sz,fit,rfl,ok,dis⟩
theorem add_tail {g:Bool→Sem Unit} (hg:∀(c:Bool) (s1:Shared) (Q1:Unit→Shared→Prop),Q1 () s1→wpAny (model prog w) A (g c) Q1 E s1) {a:Addr} {o:Obj} {es:Array (Int×Value)} {ep:Nat} {t:SetTable} {b:Bool} (ho:s.heap.get? a=some o) (hex:o.ExactSet) (hd:o.data= .set es ep t)
  {e1:Array (Int×Value)} {t1:SetTable} {S':K→Bool} (el:ElemsOf knd e1.toList) (mem:∀k,S' k=true↔∃e∈e1.toList,knd.is k e.2=true) (sz:e1.size<scanBound) (fit:t1.fits e1.size=true) (ok:TOk t1 b) (dis:Dis knd e1.toList) {wd:Bool} {R:Option Bool→Shared→Prop}
  (q:∀h',Heap.SameBut a s.heap h'→SetU knd h' a S' e1.size b→R (some true) {s with heap:=h'}):
  wpAny (model prog w) A (do
   storeSet a e1 t1
   if (!wd && t1.tooFull)=true then do
    g (relayAll t1 e1 (SetTable.grown e1.size)).2.2
    storeSet a (relayAll t1 e1 (SetTable.grown e1.size)).1 (relayAll t1 e1 (SetTable.grown e1.size)).2.1
    pure (some true)
   else pure (some true)) R E s:=by
 refine wpAny_bind (wpAny_storeSet_of ho hd ?_ (fits_of_scanBound sz))
 obtain ⟨ho1,u1⟩:=SetU.put (knd:=knd) ho hex hd el mem sz fit ok dis
 have sb1:=Heap.SameBut.update s.heap a (Obj.putSet e1 t1)
 split
 ·have pm:=relayAll_perm t1 e1 (SetTable.grown e1.size)
  have ft:=relayAll_fits t1 e1 (SetTable.grown e1.size)
  have tk:=relay_ok ok e1 (SetTable.grown e1.size)
  generalize relayAll t1 e1 (SetTable.grown e1.size)=Rl at pm ft tk ⊢
  obtain ⟨e2,t2,gv⟩:=Rl
  dsimp only at pm ft tk ⊢
  have sz2:e2.size=e1.size:=by rw [←Array.length_toList,pm.length_eq,Array.length_toList]
  have mem2:∀k,S' k=true↔∃e∈e2.toList,knd.is k e.2=true:=fun k=>by
   rw [mem k]
   exact ⟨fun ⟨e,he,z⟩=>⟨e,pm.mem_iff.mpr he,z⟩,fun ⟨e,he,z⟩=>⟨e,pm.mem_iff.mp he,z⟩⟩
  refine wpAny_bind (hg _ _ _ (wpAny_bind (wpAny_storeSet_of ho1 rfl ?_ (fits_of_scanBound (by omega)))))
  have u2:=(SetU.put (knd:=knd) ho1 hex rfl (el.perm pm) mem2 (by omega) ft tk (dis.perm pm)).2
  rw [sz2] at u2
  exact wpAny_pure (q _ (sb1.trans (Heap.SameBut.update _ a _)) u2)
 ·exact wpAny_pure (q _ sb1 u1)
theorem add_ok {a:Addr} {S:K→Bool} {n:Nat} {b:Bool} {k:K} {x:Value} {Q:Bool→Shared→Prop} (hk:knd.is k x=true) (hx:x.scannable=true) (hS:SetU knd s.heap a S n b) (hr:n+1<scanBound)
  (q:∀h',Heap.SameBut a s.heap h'→SetU knd h' a (fun k'=>S k'||decide (k'=k)) (if S k then n else n+1) b→Q (!S k) {s with heap:=h'}):wpAny (model prog w) A (setAddHashed a x (knd.hash k)) Q E s:=by
 obtain ⟨o,es,ep,t,ho,hex,hd,el,mem,sz,fit,hn,ok,dis⟩:=hS
 unfold setAddHashed setAddHashedIn
 refine wpAny_holding (wpAny_bind (wpAny_setState_of ho hd fit ?_))
 dsimp only
 rw [byScan_of hx sz el]
 simp only [↓reduceIte]
 unfold setAddByScan
 refine wpAny_bind (wpAny_bind (wpAny_rule (wpAny_bind (wpAny_setScan_of hk ho hd fit el ?_))))
 cases fi:List.findIdx? (fun e=>knd.is k e.2) es.toList with
 |some j=>
  dsimp only
  obtain ⟨hj,pj,_⟩:=List.findIdx?_eq_some_iff_getElem.mp fi
  have Sk:S k=true:=(mem k).mpr ⟨es.toList[j],List.getElem_mem hj,pj⟩
  refine wpAny_pure (wpAny_pure ?_)
  have z:=q s.heap (Heap.SameBut.refl a s.heap) ⟨o,es,ep,t,ho,hex,hd,el,fun k'=>by
   rw [Bool.or_eq_true,decide_eq_true_eq,←mem k']
   constructor
   ·rintro (h|rfl)
    ·exact h
    ·exact Sk
   ·exact .inl,sz,fit,by rw [Sk];exact hn,ok,dis⟩
  rw [Sk] at z
  have es:s={s with heap:=s.heap}:=by cases s;rfl
  rw [es]
  exact z
 |none=>
  dsimp only
  have Sk:S k=false:=by
   cases c:S k with
   |false=>rfl
   |true=>
    obtain ⟨e,he,z⟩:=(mem k).mp c
    have:=List.findIdx?_eq_none_iff.mp fi e he
    rw [z] at this
    cases this
  have gw:∀(c:Bool) {s1:Shared} {Q1:Unit→Shared→Prop},Q1 () s1→wpAny (model prog w) A (match c with|true=>rule "set.scan.the-table-gave-way"|false=>pure ()) Q1 E s1:=fun c s1 Q1 h1=>by
   cases c
   ·exact wpAny_pure h1
   ·exact wpAny_rule h1
  have pm:=layNew_perm t es (knd.hash k) x
  have ft:=layNew_fits t es (knd.hash k) x
  have tk:=layNew_ok ok es (knd.hash k) x
  generalize layNew t es (knd.hash k) x=L at pm ft tk ⊢
  obtain ⟨e1,t1,wd,gv⟩:=L
  dsimp only at pm ft tk ⊢
  rw [Array.toList_push] at pm
  have el1:ElemsOf knd e1.toList:=(el.push hk hx).perm pm
  have mem1:=mem_push_iff hk mem pm
  have dis1:Dis knd e1.toList:=(dis.push mem hk Sk).perm pm
  have sz1:e1.size=n+1:=by rw [←Array.length_toList,pm.length_eq,List.length_append,Array.length_toList,hn];rfl
  have fin:∀h',Heap.SameBut a s.heap h'→SetU knd h' a (fun k'=>S k'||decide (k'=k)) e1.size b→Q true {s with heap:=h'}:=fun h' sb u=>by
   have z:=q h' sb
   rw [Sk] at z
   rw [sz1] at u
   exact z u
  refine wpAny_bind (gw _ ?_)
  split
  ·refine wpAny_bind ?_
   rw [hashByValue_scannable 8 hx]
   refine wpAny_pure ?_
   refine add_tail (b:=b) ?_ ho hex hd el1 mem1 (by omega) ?_ ?_ dis1 fun h' sb u=> ?_
   ·intro c s1 Q1 h1
    cases c<;> first|exact wpAny_pure h1|exact wpAny_rule h1
   ·split
    ·exact ft
    ·exact SetTable.fits_plain_off ft
   ·split
    ·exact tk
    ·exact tk.plain
   ·dsimp only;exact wpAny_pure (fin h' sb u)
  ·refine wpAny_bind (wpAny_pure ?_)
   simp only [↓reduceIte]
   refine add_tail (b:=b) ?_ ho hex hd el1 mem1 (by omega) ft tk dis1 fun h' sb u=> ?_
   ·intro c s1 Q1 h1
    cases c<;> first|exact wpAny_pure h1|exact wpAny_rule h1
   ·dsimp only;exact wpAny_pure (fin h' sb u)
end
end StT
namespace StT
open PySem PyProof.Rows
section
variable {prog:Program} {w:World} {K:Type} [DecidableEq K] {knd:KeyKind prog w K} {A:Around} {E:Value→Shared→Prop} {s:Shared}
theorem SetU.at {h h':Heap} {a:Addr} {S:K→Bool} {n:Nat} {b:Bool} (x:SetU knd h a S n b) (f:∀o,h.get? a=some o→h'.get? a=some o):SetU knd h' a S n b:=let ⟨o,es,ep,t,ho,r⟩:=x;⟨o,es,ep,t,f o ho,r⟩
def metF (val:Nat→K) (i:Nat) (k:K):Bool:=(List.range i).any fun j=>decide (k=val j)
theorem met_succ (val:Nat→K) (i:Nat) (k:K):metF val (i+1) k=(metF val i k||decide (k=val i)):=by
 unfold metF
 rw [List.range_succ,List.any_append];simp
end
section
variable {prog:Program} {w:World} {K:Type} [DecidableEq K] {knd:KeyKind prog w K} {A:Around} {R:Result→Shared→Prop} {I:Addr} {fp wr:List Addr} {G:Array GenState→Array GenState→Prop} {n:Nat} {P:Nat→Value→Prop} {St:Nat→Shared→Prop}
theorem upd_loop (W:WalksS prog w A.in1 I fp wr G n P St) {T:Addr} (hT:T ∉ fp) {val:Nat→K} (hv:∀i v,P i v→knd.is (val i) v=true∧v.scannable=true) (hb:n+1<scanBound) {b:Bool}:
  ∀(k i:Nat) (s:Shared),n - i=k→i≤n→St i s→(∃m,m≤i∧SetU knd s.heap T (metF val i) m b)→
   (∀s',Moved (T::wr) G s s'→(∃m,m≤n∧SetU knd s'.heap T (metF val n) m b)→R (.ok (.ret .none)) s')→
   codeAny (model prog w) A (.builtin "set.update.loop" ⟨[.ref T,.ref I],[]⟩) R s
 |0,i,s,hk,hi,st,⟨m,mi,u⟩,q=>by
  obtain rfl:i=n:=by omega
  have nw:T ∉ wr:=fun z=>hT (W.sub _ z)
  refine codeAny_builtin F.entry_set_update_loop ?_
  rw [Around.under_plainId F.plain_set_update_loop _]
  refine wpAny_bind (m:=pyNext (.ref I)) (W.done s _ _ st fun s' mv=> ?_)
  exact wpAny_pure (q s' (mv.mono fun x hx=>List.mem_cons_of_mem _ hx) ⟨m,mi,u.at fun o e=>mv.heap T o nw e⟩)
 |k+1,i,s,hk,hi,st,⟨m,mi,u⟩,q=>by
  have lt:i<n:=by omega
  have nw:T ∉ wr:=fun z=>hT (W.sub _ z)
  refine codeAny_builtin F.entry_set_update_loop ?_
  rw [Around.under_plainId F.plain_set_update_loop _]
  refine wpAny_bind (m:=pyNext (.ref I)) (W.item i s _ _ lt st fun v s' pv st' mv=> ?_)
  obtain ⟨hk1,hk2⟩:=hv i v pv
  have u':=u.at (h':=s'.heap) fun o e=>mv.heap T o nw e
  refine wpAny_bind (m:=holding [v] (setAdd T v)) (wpAny_holding ?_)
  unfold setAdd
  refine wpAny_holding (wpAny_bind (knd.pyHash hk1 ?_))
  refine add_ok (s:={s' with toks:=s'.toks+1}) hk1 hk2 u' (by omega) fun h' sb u2=> ?_
  have mv2:Moved (T::wr) G s {s' with heap:=h',toks:=s'.toks+1}:=(mv.mono fun x hx=>List.mem_cons_of_mem _ hx).then_heap (Nat.le_succ _) fun x o hx e=>by
   rw [sb.2 x fun z=>hx (z▸List.mem_cons_self)];exact e
  refine wpAny_pure ⟨plainId_quiet F.plain_set_update_loop _,upd_loop W hT hv hb k (i+1) _ (by omega) lt (W.frame _ s' _ _ st' (Nat.le_succ _) fun x hx o e=> ?_) ⟨if metF val i (val i) then m else m+1,?_,u2.congr (fun k'=>(met_succ val i k').symm) rfl⟩ fun s'' m'' u''=>q s'' (Moved.trans W.gtrans mv2 m'') u''⟩
  ·rw [sb.2 x fun z=>hT (z▸hx)];exact e
  ·split<;> omega
end
section
variable {prog:Program} {w:World} {K:Type} [DecidableEq K] {knd:KeyKind prog w K} {A:Around} {E:Value→Shared→Prop} {s:Shared}
def byT (w:World):Bool:=w.params.followText "set-order"
theorem set_new (a:Value) {Q1:Value→Shared→Prop} (q:Q1 (.ref s.heap.objs.size) {s with heap:=s.heap.push {cls:= .type "set",dict:=none,data:= .set #[] 0 (.fresh 0 0 (!byT w))}}):
  codeAny (model prog w) A (.call (.builtin "set.__new__") ⟨[.type "set",a],[]⟩) (wants Q1 E) s:=by
 refine codeAny_call_builtin F.plain_set_new F.entry_set_new (wpAny_of_eq (F.newCall_set_1 a) ?_)
 unfold Builtin.«set.__new__» Builtin.Frozenset.newClass
 have hsub:=sub_set_self
 obtain ⟨hp,g,d,tk,os⟩:=s
 dsimp only
 wp_walk
 refine wpAny_askSetting (wpAny_pure ?_)
 dsimp only
 simp only [newObj]
 exact wpAny_bind (wpAny_alloc (wpAny_pure (wpAny_pure q)))
end
end StT
namespace StT
open PySem PyProof.Rows
theorem tup_set:isSubtype (.type "tuple") (.type "set")=pure false:=by rw [isSubtype_type];kernel_rfl
theorem tup_fro:isSubtype (.type "tuple") (.type "frozenset")=pure false:=by rw [isSubtype_type];kernel_rfl
section
variable {prog:Program} {w:World} {K:Type} [DecidableEq K] {knd:KeyKind prog w K} {A:Around} {E:Value→Shared→Prop} {s:Shared}
theorem call_set_list {l:Addr} {items:Array Value} {Q:Value→Shared→Prop} {val:Nat→K} (hh:A.handled=none) (hl:s.heap.IsList l items) (hv:∀i v,items[i]? =some v→knd.is (val i) v=true∧v.scannable=true) (hb:items.size+1<scanBound)
  (q:∀(h':Heap) (tk m:Nat),m≤items.size→SetU knd h' s.heap.objs.size (metF val items.size) m (!byT w)→(∀b o,s.heap.get? b=some o→h'.get? b=some o)→Q (.ref s.heap.objs.size) {s with heap:=h',toks:=tk}):wpAny (model prog w) A (call (.type "set") [.ref l]) Q E s:=by
 have cs:=F.called_set
 obtain ⟨c,tl,m1⟩:=cs.mro
 have m2:=cs.made
 have m3:=cs.sub
 refine wpAny_call (codeAny_of_tree (wpAny_pure ⟨Code.quiet_builtin _ (by decide+kernel),codeAny_builtin F.entry_type_call ?_⟩))
 rw [Around.under_plain (weight_type_call_type "set" [.ref l] []) rfl]
 have m4:=cs.notType
 have m5:=cs.canCreate
 have m6:=F.typeCall_set_1 (.ref l)
 repeat (any_goals (first|assumption|wp_step))
 have hN:(s.heap.push {cls:= .type "set",dict:=none,data:= .set #[] 0 (.fresh 0 0 (!byT w))}).get? s.heap.objs.size=some {cls:= .type "set",dict:=none,data:= .set #[] 0 (.fresh 0 0 (!byT w))}:=Heap.get?_push_size _ rfl
 refine codeAny_mono (set_new (.ref l) (E:=E) (Q1:=fun v t=>v= .ref s.heap.objs.size∧t={s with heap:=s.heap.push {cls:= .type "set",dict:=none,data:= .set #[] 0 (.fresh 0 0 (!byT w))}}) ⟨rfl,rfl⟩) fun r1 t1 z1=> ?_
 rcases r1 with e1|f1
 ·exact z1
 cases f1
 case ret v1=>
  obtain ⟨rfl,rfl⟩:=z1
  have tS:Shared.TypeIs {s with heap:=s.heap.push {cls:= .type "set",dict:=none,data:= .set #[] 0 (.fresh 0 0 (!byT w))}} (.ref s.heap.objs.size) "set":=⟨_,hN,rfl⟩
  have m7:=cs.init.lookup
  have m8:=cs.init.bind (.ref s.heap.objs.size)
  repeat (any_goals (first|assumption|wp_step))
  refine codeAny_mono (codeAny_call_builtin (R:=wants (fun v t=>v= .none∧∃h' tk m,t={s with heap:=h',toks:=tk}∧m≤items.size∧SetU knd h' s.heap.objs.size (metF val items.size) m (!byT w)∧∀b o,s.heap.get? b=some o→h'.get? b=some o) E) cs.init.plain F.entry_set_init (check_set_init_1 tS ?_)) fun r2 t2 z2=> ?_
  ·obtain ⟨⟨c0,d0,da0,s0⟩,g0,hc0,n0,hd0⟩:=id hl
   simp only at hc0 hd0
   subst hc0
   subst hd0
   have g1:(s.heap.push {cls:= .type "set",dict:=none,data:= .set #[] 0 (.fresh 0 0 (!byT w))}).get? l=some {cls:= .type "list",dict:=d0,data:= .seq items n0,slots:=s0}:=Heap.get?_push_of_some _ g0
   have a1:=F.sub_list_set
   have a2:=F.sub_list_frozenset
   have a3:(Value.type "list"==Value.type "dict")=false:=by decide
   have hl1:(s.heap.push {cls:= .type "set",dict:=none,data:= .set #[] 0 (.fresh 0 0 (!byT w))}).IsList l items:=⟨_,g1,rfl,n0,rfl⟩
   unfold Builtin.«set.__init__» noKeywords Builtin.Frozenset.updateFrom
   generalize hI:pyIter=PI
   wp_walk
   subst hI
   refine wpAny_pyIter_list hl1 (wpAny_bind (wpAny_runValue ?_))
   have lS:l<s.heap.objs.size:=Heap.lt_size g0
   have h3:A.in1.in1.in1.handled=none:=by simp [hh]
   have nI:l≠(s.heap.push {cls:= .type "set",dict:=none,data:= .set #[] 0 (.fresh 0 0 (!byT w))}).objs.size:=by
    rw [Heap.size_push];exact Nat.ne_of_lt (Nat.lt_succ_of_lt lS)
   have nS:s.heap.objs.size ∉ [(s.heap.push {cls:= .type "set",dict:=none,data:= .set #[] 0 (.fresh 0 0 (!byT w))}).objs.size,l]:=by
    rw [Heap.size_push]
    simp only [List.mem_cons,List.not_mem_nil,or_false,not_or]
    exact ⟨Nat.ne_of_lt (Nat.lt_succ_self _),Nat.ne_of_gt lS⟩
   refine upd_loop ((Walks.list h3 _ l nI items).toS) nS (val:=val) (b:= !byT w) hv hb (items.size - 0) 0 _ (by omega) (Nat.zero_le _) ⟨⟨_,Heap.get?_push_size _ rfl,rfl,rfl⟩,hl1.push _⟩ ⟨0,Nat.le_refl _,?_⟩ fun t mv ⟨m,mi,u⟩=> ?_
   ·exact ⟨_,#[],0,_,Heap.get?_push_of_some _ hN,⟨rfl,rfl,rfl⟩,rfl,fun e he=>(by simp at he),fun k=>(by simp [metF]),by unfold scanBound;decide,rfl,rfl,TOk.fresh _,List.Pairwise.nil⟩
   ·obtain ⟨h',g',d',tk',os'⟩:=t
    obtain rfl:g'=s.gens:=mv.gens
    obtain rfl:d'=s.drawn:=mv.drawn
    obtain rfl:os'=s.os:=mv.os
    refine wpAny_pure (wpAny_pure ⟨rfl,h',tk',m,rfl,mi,u,fun b o e=> ?_⟩)
    have lb:b<s.heap.objs.size:=Heap.lt_size e
    refine mv.heap b o ?_ (Heap.get?_push_of_some _ (Heap.get?_push_of_some _ e))
    rw [Heap.size_push]
    simp only [List.mem_cons,List.not_mem_nil,or_false,not_or]
    exact ⟨Nat.ne_of_lt lb,Nat.ne_of_lt (Nat.lt_succ_of_lt lb)⟩
  ·rcases r2 with e2|f2
   ·exact z2
   cases f2
   case ret v2=>
    obtain ⟨rfl,h',tk,m,rfl,mi,u,kp⟩:=z2
    repeat (any_goals (first|assumption|wp_step))
    exact q h' tk m mi u kp
   all_goals exact z2.elim
 all_goals exact z1.elim
theorem call_set_tuple {l:Addr} {items:Array Value} {Q:Value→Shared→Prop} {val:Nat→K} (hh:A.handled=none) (hl:s.heap.IsTuple l items) (hv:∀i v,items[i]? =some v→knd.is (val i) v=true∧v.scannable=true) (hb:items.size+1<scanBound)
  (q:∀(h':Heap) (tk m:Nat),m≤items.size→SetU knd h' s.heap.objs.size (metF val items.size) m (!byT w)→(∀b o,s.heap.get? b=some o→h'.get? b=some o)→Q (.ref s.heap.objs.size) {s with heap:=h',toks:=tk}):wpAny (model prog w) A (call (.type "set") [.ref l]) Q E s:=by
 have cs:=F.called_set
 obtain ⟨c,tl,m1⟩:=cs.mro
 have m2:=cs.made
 have m3:=cs.sub
 refine wpAny_call (codeAny_of_tree (wpAny_pure ⟨Code.quiet_builtin _ (by decide+kernel),codeAny_builtin F.entry_type_call ?_⟩))
 rw [Around.under_plain (weight_type_call_type "set" [.ref l] []) rfl]
 have m4:=cs.notType
 have m5:=cs.canCreate
 have m6:=F.typeCall_set_1 (.ref l)
 repeat (any_goals (first|assumption|wp_step))
 have hN:(s.heap.push {cls:= .type "set",dict:=none,data:= .set #[] 0 (.fresh 0 0 (!byT w))}).get? s.heap.objs.size=some {cls:= .type "set",dict:=none,data:= .set #[] 0 (.fresh 0 0 (!byT w))}:=Heap.get?_push_size _ rfl
 refine codeAny_mono (set_new (.ref l) (E:=E) (Q1:=fun v t=>v= .ref s.heap.objs.size∧t={s with heap:=s.heap.push {cls:= .type "set",dict:=none,data:= .set #[] 0 (.fresh 0 0 (!byT w))}}) ⟨rfl,rfl⟩) fun r1 t1 z1=> ?_
 rcases r1 with e1|f1
 ·exact z1
 cases f1
 case ret v1=>
  obtain ⟨rfl,rfl⟩:=z1
  have tS:Shared.TypeIs {s with heap:=s.heap.push {cls:= .type "set",dict:=none,data:= .set #[] 0 (.fresh 0 0 (!byT w))}} (.ref s.heap.objs.size) "set":=⟨_,hN,rfl⟩
  have m7:=cs.init.lookup
  have m8:=cs.init.bind (.ref s.heap.objs.size)
  repeat (any_goals (first|assumption|wp_step))
  refine codeAny_mono (codeAny_call_builtin (R:=wants (fun v t=>v= .none∧∃h' tk m,t={s with heap:=h',toks:=tk}∧m≤items.size∧SetU knd h' s.heap.objs.size (metF val items.size) m (!byT w)∧∀b o,s.heap.get? b=some o→h'.get? b=some o) E) cs.init.plain F.entry_set_init (check_set_init_1 tS ?_)) fun r2 t2 z2=> ?_
  ·obtain ⟨⟨c0,d0,da0,s0⟩,g0,hc0,n0,hd0⟩:=id hl
   simp only at hc0 hd0
   subst hc0
   subst hd0
   have g1:(s.heap.push {cls:= .type "set",dict:=none,data:= .set #[] 0 (.fresh 0 0 (!byT w))}).get? l=some {cls:= .type "tuple",dict:=d0,data:= .seq items n0,slots:=s0}:=Heap.get?_push_of_some _ g0
   have a1:=tup_set
   have a2:=tup_fro
   have a3:(Value.type "tuple"==Value.type "dict")=false:=by decide
   have hl1:(s.heap.push {cls:= .type "set",dict:=none,data:= .set #[] 0 (.fresh 0 0 (!byT w))}).IsTuple l items:=⟨_,g1,rfl,n0,rfl⟩
   unfold Builtin.«set.__init__» noKeywords Builtin.Frozenset.updateFrom
   generalize hI:pyIter=PI
   wp_walk
   subst hI
   refine wpAny_pyIter_tuple hl1 (wpAny_bind (wpAny_runValue ?_))
   have lS:l<s.heap.objs.size:=Heap.lt_size g0
   have h3:A.in1.in1.in1.handled=none:=by simp [hh]
   have nI:l≠(s.heap.push {cls:= .type "set",dict:=none,data:= .set #[] 0 (.fresh 0 0 (!byT w))}).objs.size:=by
    rw [Heap.size_push];exact Nat.ne_of_lt (Nat.lt_succ_of_lt lS)
   have nS:s.heap.objs.size ∉ [(s.heap.push {cls:= .type "set",dict:=none,data:= .set #[] 0 (.fresh 0 0 (!byT w))}).objs.size,l]:=by
    rw [Heap.size_push]
    simp only [List.mem_cons,List.not_mem_nil,or_false,not_or]
    exact ⟨Nat.ne_of_lt (Nat.lt_succ_self _),Nat.ne_of_gt lS⟩
   refine upd_loop ((Walks.tuple h3 _ l nI items).toS) nS (val:=val) (b:= !byT w) hv hb (items.size - 0) 0 _ (by omega) (Nat.zero_le _) ⟨⟨_,Heap.get?_push_size _ rfl,rfl,rfl⟩,hl1.push _⟩ ⟨0,Nat.le_refl _,?_⟩ fun t mv ⟨m,mi,u⟩=> ?_
   ·exact ⟨_,#[],0,_,Heap.get?_push_of_some _ hN,⟨rfl,rfl,rfl⟩,rfl,fun e he=>(by simp at he),fun k=>(by simp [metF]),by unfold scanBound;decide,rfl,rfl,TOk.fresh _,List.Pairwise.nil⟩
   ·obtain ⟨h',g',d',tk',os'⟩:=t
    obtain rfl:g'=s.gens:=mv.gens
    obtain rfl:d'=s.drawn:=mv.drawn
    obtain rfl:os'=s.os:=mv.os
    refine wpAny_pure (wpAny_pure ⟨rfl,h',tk',m,rfl,mi,u,fun b o e=> ?_⟩)
    have lb:b<s.heap.objs.size:=Heap.lt_size e
    refine mv.heap b o ?_ (Heap.get?_push_of_some _ (Heap.get?_push_of_some _ e))
    rw [Heap.size_push]
    simp only [List.mem_cons,List.not_mem_nil,or_false,not_or]
    exact ⟨Nat.ne_of_lt lb,Nat.ne_of_lt (Nat.lt_succ_of_lt lb)⟩
  ·rcases r2 with e2|f2
   ·exact z2
   cases f2
   case ret v2=>
    obtain ⟨rfl,h',tk,m,rfl,mi,u,kp⟩:=z2
    repeat (any_goals (first|assumption|wp_step))
    exact q h' tk m mi u kp
   all_goals exact z2.elim
 all_goals exact z1.elim
end
end StT
namespace StT
open PySem PyProof.Rows
theorem slot_si_next:Slot "set_iterator" "__next__" "set_iterator.__next__":=
 .of (owner:="set_iterator") (n:="__next__") (by rw [typeLookup_type,builtinLookup_eq_fast];kernel_rfl) (by decide+kernel) (by decide+kernel) (by decide+kernel) (by first|exact .inl (by decide+kernel)|exact .inr (by decide+kernel)) (by rw [isSubtype_type];kernel_rfl)
theorem entry_si_next:entryFor table "set_iterator.__next__"=some Builtin.«set_iterator.__next__» :=entryFor_of_tree (by kernel_rfl)
theorem args_si_next (a:Value):argsOk "set_iterator.__next__" ⟨[a],[]⟩:=by unfold argsOk;kernel_rfl
theorem entry_s_iter:entryFor table "set.__iter__"=some Builtin.«frozenset.__iter__» :=entryFor_alias (id':="frozenset.__iter__") (by kernel_rfl) rfl (by decide+kernel) (by kernel_rfl)
def ItS (h:Heap) (I a:Addr) (first:Value) (i n ep:Nat):Prop:=∃o,h.get? I=some o∧o.cls= .type "set_iterator"∧o.data= .fields #[first,.int (i:Int) 0,.ref a,.int (n:Int) 0,.int (ep:Int) 0]
def SSt (h:Heap) (a:Addr) (es:Array (Int×Value)) (ep:Nat) (t:SetTable):Prop:=∃o,h.get? a=some o∧o.data= .set es ep t∧t.fits es.size=true
theorem ItS.type {s:Shared} {I a:Addr} {first:Value} {i n ep:Nat} (h:ItS s.heap I a first i n ep):s.TypeIs (.ref I) "set_iterator":=let ⟨o,a,b,_⟩:=h;⟨o,a,b⟩
section
variable {prog:Program} {w:World} {A:Around} {E:Value→Shared→Prop} {s:Shared} {I a T:Addr} {i n ep:Nat} {first:Value} {es:Array (Int×Value)} {t:SetTable}
theorem setF {o:Obj} {vs:Array Value} {k:Nat} {x:Value} {Q:Unit→Shared→Prop} (ho:s.heap.get? I=some o) (hd:o.data= .fields vs) (hk:k<vs.size)
  (q:∀(h':Heap) (o':Obj),h'.get? I=some o'→o'.cls=o.cls→o'.data= .fields (vs.setIfInBounds k x)→Heap.SameBut I s.heap h'→Q () {s with heap:=h'}):wpAny (model prog w) A (setField (.ref I) k x) Q E s:=
 wpAny_setField ho hd hk (q _ _ (Heap.get?_update_self _ ho (Obj.isFreed_of_fields (Obj.data_mapFields hd _))) (Obj.cls_mapFields ..) (Obj.data_mapFields hd _) (Heap.SameBut.update ..))
theorem stop_ok (hh:A.handled=none) {X:Fin→Shared→Prop} {Q:Option Value→Shared→Prop} (q:∀h',(∀b o,s.heap.get? b=some o→h'.get? b=some o)→Q none {s with heap:=h'}):
  wpAny (model prog w) A.in1 (newExc (Value.type "StopIteration") [] >>=fun e=>raiseNew e) X (fun e s'=>wpAny (model prog w) A (isInstance e (Value.type "StopIteration") >>=fun c=>if c=true then pure none else throw e) Q E s') s:=by
 refine wpAny_bind ?_
 simp only [newExc,newTuple]
 refine wpAny_bind (wpAny_newObj_type (wpAny_bind (m:=firstArgMember _ _) (wpAny_of_eq (a:=Value.none) (by first|rfl|(simp only [firstArgMember];rfl)) (wpAny_newObj_type ?_ (by size_fits)))) (by size_fits))
 simp only [raiseNew]
 refine wpAny_bind (wpAny_handled ?_)
 rw [show A.in1.handled=none from hh]
 refine wpAny_bind (wpAny_pure (wpAny_throw ?_))
 refine wpAny_bind (wpAny_isInstance (T:="StopIteration") (b:=true) ⟨_,Heap.get?_push_size _ rfl,rfl⟩ isSubtype_stop ?_)
 exact wpAny_pure (q _ fun b o e=>Heap.get?_push_of_some _ (Heap.get?_push_of_some _ e))
theorem ask_by {Q:Bool→Shared→Prop} (q:Q (byT w) s):wpAny (model prog w) A setsByText Q E s:=wpAny_bind (wpAny_askSetting (wpAny_pure q))
theorem next_some {first' x:Value} {nx:Nat} {Q:Option Value→Shared→Prop} {slot:Nat} (hI:ItS s.heap I a (.int (slot:Int) 0) i es.size ep) (hS:SSt s.heap a es ep t)
  (sn:∀R:Option (Value×Nat)→Shared→Prop,R (some (x,nx)) s→wpAny (model prog w) A.in1 (setNext a slot i ep) R (fun e s'=>wpAny (model prog w) A (isInstance e (Value.type "StopIteration") >>=fun c=>if c=true then pure none else throw e) Q E s') s)
  (q:∀h',ItS h' I a (.int (nx:Int) 0) (i+1) es.size ep→Heap.SameBut I s.heap h'→Q (some x) {s with heap:=h'}):wpAny (model prog w) A (pyNext (.ref I)) Q E s:=by
 obtain ⟨oI,gI,cI,dI⟩:=id hI
 obtain ⟨oS,gS,dS,fit⟩:=id hS
 unfold pyNext
 refine wpAny_bind (wpAny_attempt (wpAny_callSpecial?_slot (name:=Str.ofString "__next__") hI.type slot_si_next (wpAny_call_entry slot_si_next hI.type entry_si_next ?_ (args_si_next _))))
 unfold Builtin.«set_iterator.__next__»
 refine wpAny_bind (m:=slotArgs _ _ _) (wpAny_pure (wpAny_bind (wpAny_fieldsOf gI dI ?_)))
 dsimp only
 refine wpAny_bind (wpAny_setEntries_of gS dS fit ?_)
 rw [if_neg (by simp)]
 refine wpAny_bind ?_
 rw [Int.toNat_natCast,Int.toNat_natCast,Int.toNat_natCast]
 refine sn _ ?_
 dsimp only
 refine wpAny_bind (setF gI dI (by simp) fun h1 o1 g1 c1 d1 sb1=> ?_)
 refine wpAny_bind (setF (s:={s with heap:=h1}) g1 d1 (by simp) fun h2 o2 g2 c2 d2 sb2=> ?_)
 refine wpAny_pure ⟨x,rfl,wpAny_pure (q h2 ⟨o2,g2,(c2.trans c1).trans cI,?_⟩ (sb1.trans sb2))⟩
 rw [d2]
 simp [rawInt]
theorem next_none {Q:Option Value→Shared→Prop} {slot:Nat} (hh:A.handled=none) (hI:ItS s.heap I a (.int (slot:Int) 0) i es.size ep) (hS:SSt s.heap a es ep t)
  (sn:∀R:Option (Value×Nat)→Shared→Prop,R none s→wpAny (model prog w) A.in1 (setNext a slot i ep) R (fun e s'=>wpAny (model prog w) A (isInstance e (Value.type "StopIteration") >>=fun c=>if c=true then pure none else throw e) Q E s') s)
  (q:∀h',(∀b o,b≠I→s.heap.get? b=some o→h'.get? b=some o)→Q none {s with heap:=h'}):wpAny (model prog w) A (pyNext (.ref I)) Q E s:=by
 obtain ⟨oI,gI,cI,dI⟩:=id hI
 obtain ⟨oS,gS,dS,fit⟩:=id hS
 unfold pyNext
 refine wpAny_bind (wpAny_attempt (wpAny_callSpecial?_slot (name:=Str.ofString "__next__") hI.type slot_si_next (wpAny_call_entry slot_si_next hI.type entry_si_next ?_ (args_si_next _))))
 unfold Builtin.«set_iterator.__next__»
 refine wpAny_bind (m:=slotArgs _ _ _) (wpAny_pure (wpAny_bind (wpAny_fieldsOf gI dI ?_)))
 dsimp only
 refine wpAny_bind (wpAny_setEntries_of gS dS fit ?_)
 rw [if_neg (by simp)]
 refine wpAny_bind ?_
 rw [Int.toNat_natCast,Int.toNat_natCast,Int.toNat_natCast]
 refine sn _ ?_
 dsimp only
 refine wpAny_bind (setF gI dI (by simp) fun h1 o1 g1 c1 d1 sb1=> ?_)
 exact stop_ok (s:={s with heap:=h1}) hh fun h2 k2=>q h2 fun b o nb e=>k2 b o (by rw [sb1.2 b nb];exact e)
theorem drawn_some {x:Value} {Q:Option Value→Shared→Prop} {ps:Array Value} {p:Nat} {u:Tok} {hx:Int} {oT:Obj} {m:Nat} (hI:ItS s.heap I a (.ref T) i es.size ep) (hS:SSt s.heap a es ep t) (gT:s.heap.get? T=some oT) (dT:oT.data= .seq ps m) (hp:ps[i]? =some (.int (p:Int) u)) (ex:es[p]? =some (hx,x))
  (q:∀h',ItS h' I a (.ref T) (i+1) es.size ep→Heap.SameBut I s.heap h'→Q (some x) {s with heap:=h'}):wpAny (model prog w) A (pyNext (.ref I)) Q E s:=by
 obtain ⟨oI,gI,cI,dI⟩:=id hI
 obtain ⟨oS,gS,dS,fit⟩:=id hS
 unfold pyNext
 refine wpAny_bind (wpAny_attempt (wpAny_callSpecial?_slot (name:=Str.ofString "__next__") hI.type slot_si_next (wpAny_call_entry slot_si_next hI.type entry_si_next ?_ (args_si_next _))))
 unfold Builtin.«set_iterator.__next__»
 refine wpAny_bind (m:=slotArgs _ _ _) (wpAny_pure (wpAny_bind (wpAny_fieldsOf gI dI ?_)))
 dsimp only
 refine wpAny_bind (wpAny_setEntries_of gS dS fit ?_)
 rw [if_neg (by simp)]
 refine wpAny_bind (wpAny_seqItems gT dT ?_)
 dsimp only
 rw [Int.toNat_natCast,Int.toNat_natCast,hp]
 dsimp only
 refine wpAny_bind ?_
 unfold setNextDrawn
 refine wpAny_bind (wpAny_setState_of gS dS fit ?_)
 dsimp only
 rw [if_neg (by simp),Int.toNat_natCast,ex]
 refine wpAny_pure (wpAny_bind (setF gI dI (by simp) fun h1 o1 g1 c1 d1 sb1=> ?_))
 refine wpAny_pure ⟨x,rfl,wpAny_pure (q h1 ⟨o1,g1,c1.trans cI,?_⟩ sb1)⟩
 rw [d1]
 simp [rawInt]
theorem drawn_none {Q:Option Value→Shared→Prop} {ps:Array Value} {oT:Obj} {m:Nat} (hh:A.handled=none) (hI:ItS s.heap I a (.ref T) i es.size ep) (hS:SSt s.heap a es ep t) (gT:s.heap.get? T=some oT) (dT:oT.data= .seq ps m) (hp:ps[i]? =none)
  (q:∀h',(∀b o,b≠I→s.heap.get? b=some o→h'.get? b=some o)→Q none {s with heap:=h'}):wpAny (model prog w) A (pyNext (.ref I)) Q E s:=by
 obtain ⟨oI,gI,cI,dI⟩:=id hI
 obtain ⟨oS,gS,dS,fit⟩:=id hS
 unfold pyNext
 refine wpAny_bind (wpAny_attempt (wpAny_callSpecial?_slot (name:=Str.ofString "__next__") hI.type slot_si_next (wpAny_call_entry slot_si_next hI.type entry_si_next ?_ (args_si_next _))))
 unfold Builtin.«set_iterator.__next__»
 refine wpAny_bind (m:=slotArgs _ _ _) (wpAny_pure (wpAny_bind (wpAny_fieldsOf gI dI ?_)))
 dsimp only
 refine wpAny_bind (wpAny_setEntries_of gS dS fit ?_)
 rw [if_neg (by simp)]
 refine wpAny_bind (wpAny_seqItems gT dT ?_)
 dsimp only
 rw [Int.toNat_natCast,hp]
 dsimp only
 refine wpAny_bind (setF gI dI (by simp) fun h1 o1 g1 c1 d1 sb1=> ?_)
 refine wpAny_bind (setF (s:={s with heap:=h1}) g1 d1 (by simp) fun h2 o2 g2 c2 d2 sb2=> ?_)
 exact stop_ok (s:={s with heap:=h2}) hh fun h3 k3=>q h3 fun b o nb e=>k3 b o (by rw [sb2.2 b nb,sb1.2 b nb];exact e)
end
end StT
namespace StT
open PySem PyProof.Rows
theorem slot_si_iter:Slot "set_iterator" "__iter__" "set_iterator.__iter__":=
 .of (owner:="set_iterator") (n:="__iter__") (by rw [typeLookup_type,builtinLookup_eq_fast];kernel_rfl) (by decide+kernel) (by decide+kernel) (by decide+kernel) (by first|exact .inl (by decide+kernel)|exact .inr (by decide+kernel)) (by rw [isSubtype_type];kernel_rfl)
theorem entry_si_iter:entryFor table "set_iterator.__iter__"=some Builtin.«dict_keyiterator.__iter__» :=entryFor_alias (id':="dict_keyiterator.__iter__") (by kernel_rfl) rfl (by decide+kernel) (by kernel_rfl)
theorem args_si_iter (a:Value):argsOk "set_iterator.__iter__" ⟨[a],[]⟩:=by unfold argsOk;kernel_rfl
theorem below_is {xs:Array Nat} (h:Up xs) {j m:Nat} (hm:m≤xs.size) (h1:∀i a,i<m→xs[i]? =some a→a<j) (h2:∀i a,m≤i→xs[i]? =some a→j≤a):SetTable.below xs j=m:=by
 obtain ⟨b1,b2,b3⟩:=below_ok h j
 rcases Nat.lt_trichotomy (SetTable.below xs j) m with z|z|z
 ·have hl:SetTable.below xs j<xs.size:=by exact Nat.le_trans (by assumption) (by assumption)
  have e:=Array.getElem?_eq_getElem hl
  have:=h1 _ _ z e
  have:=b3 _ _ (Nat.le_refl _) e
  omega
 ·exact z
 ·have hl:m<xs.size:=by exact Nat.le_trans (by assumption) (by assumption)
  have e:=Array.getElem?_eq_getElem hl
  have:=b2 _ _ z e
  have:=h2 _ _ (Nat.le_refl _) e
  omega
section
variable {prog:Program} {w:World} {A:Around} {E:Value→Shared→Prop} {s:Shared} {I a T:Addr} {i n ep:Nat} {first:Value} {es:Array (Int×Value)} {t:SetTable}
theorem ItS.at {h h':Heap} (x:ItS h I a first i n ep) (f:∀o,h.get? I=some o→h'.get? I=some o):ItS h' I a first i n ep:=let ⟨o,g,r⟩:=x;⟨o,f o g,r⟩
theorem SSt.at {h h':Heap} (x:SSt h a es ep t) (f:∀o,h.get? a=some o→h'.get? a=some o):SSt h' a es ep t:=let ⟨o,g,r⟩:=x;⟨o,f o g,r⟩
theorem sn_led {slot:Nat} {R:Option (Value×Nat)→Shared→Prop} (hS:SSt s.heap a es ep t) (by0:byT w=false) (dr:(!t.plain && decide (es.size > 1))=false) (led:t.led=true)
  (q:R (match es[SetTable.below t.place slot]?,t.place[SetTable.below t.place slot]? with|some (_,x),some j=>some (x,j+1)|_,_=>none) s):wpAny (model prog w) A (setNext a slot i ep) R E s:=by
 obtain ⟨oS,gS,dS,fit⟩:=id hS
 unfold setNext
 refine wpAny_bind (wpAny_setState_of gS dS fit ?_)
 dsimp only
 refine wpAny_bind (ask_by ?_)
 rw [by0]
 simp only [Bool.false_eq_true,if_false]
 show wpAny _ _ (if (!t.plain && decide (es.size > 1))=true then _ else _) _ _ _
 rw [dr]
 simp only [Bool.false_eq_true,if_false]
 refine wpAny_bind ?_
 show wpAny _ _ (if (!t.led && !es.isEmpty)=true then _ else _) _ _ _
 rw [led]
 simp only [Bool.not_true,Bool.false_and,Bool.false_eq_true,if_false]
 exact wpAny_pure (wpAny_pure q)
theorem sn_text {slot:Nat} {R:Option (Value×Nat)→Shared→Prop} (hS:SSt s.heap a es ep t) (by1:byT w=true)
  (q:R (((pickOrder (w.params.setOrder a ep) es)[i]?).map fun e=>(e.2,slot)) s):wpAny (model prog w) A (setNext a slot i ep) R E s:=by
 obtain ⟨oS,gS,dS,fit⟩:=id hS
 unfold setNext
 refine wpAny_bind (wpAny_setState_of gS dS fit ?_)
 dsimp only
 refine wpAny_bind (ask_by ?_)
 rw [by1]
 simp only [if_true]
 rw [if_neg (by simp)]
 refine wpAny_bind ?_
 unfold setWalk
 refine wpAny_bind (wpAny_setState_of gS dS fit ?_)
 dsimp only
 refine wpAny_bind (ask_by ?_)
 rw [by1]
 simp only [if_true]
 exact wpAny_bind (wpAny_askSetting (wpAny_pure (wpAny_pure q)))
theorem self_ok {Q:Value→Shared→Prop} (hI:ItS s.heap I a first i n ep) (q:Q (.ref I) s):wpAny (model prog w) A (pyIter (.ref I)) Q E s:=by
 refine wpAny_pyIter_slot hI.type slot_si_iter (wpAny_call_entry slot_si_iter hI.type entry_si_iter ?_ (args_si_iter _))
 exact wpAny_pure ⟨_,rfl,"set_iterator",_,hI.type,slot_si_next.lookup,q⟩
theorem moved_of {h':Heap} {wr:List Addr} (k:∀b o,b ∉ wr→s.heap.get? b=some o→h'.get? b=some o):Moved wr (fun a b=>b=a) s {s with heap:=h'}:=⟨k,rfl,rfl,rfl,Nat.le_refl _⟩
theorem walkC (hh:A.handled=none) (hne:a≠I) (ok:TOk t true) (by0:byT w=false) (dr:(!t.plain && decide (es.size > 1))=false):
  WalksS prog w A I [I,a] [I] (fun x y=>y=x) es.size (fun i v=>(es.toList.map (·.2))[i]? =some v) (fun i s=>(∃slot:Nat,ItS s.heap I a (.int (slot:Int) 0) i es.size ep∧SetTable.below t.place slot=i)∧SSt s.heap a es ep t) where
 sub:=fun b hb=>by simp at hb;simp [hb]
 grefl:=fun _=>rfl
 gtrans:=fun _ _ _ h1 h2=>h2.trans h1
 frame:=fun i s h' tk st _ k=>⟨let ⟨sl,x,y⟩:=st.1;⟨sl,x.at fun o e=>k I (by simp) o e,y⟩,st.2.at fun o e=>k a (by simp) o e⟩
 item:=fun i s Q E hi st q=>by
  obtain ⟨⟨slot,hI,bl⟩,hS⟩:=st
  obtain ⟨oS,gS,dS,fit⟩:=id hS
  have fit':t.place.size=es.size:=by
   simp only [SetTable.fits,Bool.and_eq_true,beq_iff_eq] at fit
   exact fit.1
  have ex:=Array.getElem?_eq_getElem hi
  generalize es[i]=e at ex
  have ej:=Array.getElem?_eq_getElem (xs:=t.place) (i:=i) (by omega)
  generalize t.place[i]'(by omega)=j at ej
  refine next_some (nx:=j+1) (x:=e.2) (first':= .none) hI hS (fun R r=>sn_led hS by0 dr ok.led ?_) fun h' hI' sb=> ?_
  ·rw [bl,ex,ej];exact r
  ·refine q _ _ (by rw [List.getElem?_map,Array.getElem?_toList,ex];rfl) ⟨⟨j+1,hI',?_⟩,hS.at fun o g=>by rw [sb.2 a hne];exact g⟩ (moved_of fun b o nb g=>by rw [sb.2 b fun z=>nb (z▸List.mem_singleton.mpr rfl)];exact g)
   refine below_is ok.up (by omega) (fun k b hk hb=> ?_) fun k b hk hb=> ?_
   ·rcases Nat.lt_or_eq_of_le (show k≤i by omega) with z|z
    ·have:=ok.up.lt z hb ej;exact Nat.lt_succ_of_lt (by assumption)
    ·rw [z,ej] at hb;cases hb;exact Nat.le_refl _
   ·have:=ok.up.lt (show i<k by assumption) ej hb;assumption
 done:=fun s Q E st q=>by
  obtain ⟨⟨slot,hI,bl⟩,hS⟩:=st
  refine next_none hh hI hS (fun R r=>sn_led hS by0 dr ok.led ?_) fun h' k=>q _ (moved_of fun b o nb g=>k b o (fun z=>nb (z▸List.mem_singleton.mpr rfl)) g)
  rw [bl,Array.getElem?_eq_none (Nat.le_refl _)];exact r
 self:=fun i s Q E st q=>let ⟨⟨_,hI,_⟩,_⟩:=st;self_ok hI q
theorem walkA (hh:A.handled=none) (hne:a≠I) (by1:byT w=true):
  WalksS prog w A I [I,a] [I] (fun x y=>y=x) es.size (fun i v=>((pickOrder (w.params.setOrder a ep) es).toList.map (·.2))[i]? =some v) (fun i s=>ItS s.heap I a (.int ((0:Nat):Int) 0) i es.size ep∧SSt s.heap a es ep t) where
 sub:=fun b hb=>by simp at hb;simp [hb]
 grefl:=fun _=>rfl
 gtrans:=fun _ _ _ h1 h2=>h2.trans h1
 frame:=fun i s h' tk st _ k=>⟨st.1.at fun o e=>k I (by simp) o e,st.2.at fun o e=>k a (by simp) o e⟩
 item:=fun i s Q E hi st q=>by
  have hl:(pickOrder (w.params.setOrder a ep) es).size=es.size:=by rw [←Array.length_toList,(pick_perm _ es).length_eq,Array.length_toList]
  have ex:=Array.getElem?_eq_getElem (xs:=pickOrder (w.params.setOrder a ep) es) (i:=i) (by omega)
  generalize (pickOrder (w.params.setOrder a ep) es)[i]'(by omega)=e at ex
  refine next_some (nx:=0) (x:=e.2) (first':= .none) st.1 st.2 (fun R r=>sn_text st.2 by1 ?_) fun h' hI' sb=> ?_
  ·rw [ex];exact r
  ·exact q _ _ (by rw [List.getElem?_map,Array.getElem?_toList,ex];rfl) ⟨hI',st.2.at fun o g=>by rw [sb.2 a hne];exact g⟩ (moved_of fun b o nb g=>by rw [sb.2 b fun z=>nb (z▸List.mem_singleton.mpr rfl)];exact g)
 done:=fun s Q E st q=>by
  have hl:(pickOrder (w.params.setOrder a ep) es).size=es.size:=by rw [←Array.length_toList,(pick_perm _ es).length_eq,Array.length_toList]
  refine next_none hh st.1 st.2 (fun R r=>sn_text st.2 by1 ?_) fun h' k=>q _ (moved_of fun b o nb g=>k b o (fun z=>nb (z▸List.mem_singleton.mpr rfl)) g)
  rw [Array.getElem?_eq_none (by exact Nat.le_of_eq (by assumption))];exact r
 self:=fun i s Q E st q=>self_ok st.1 q
theorem walkB {ps:List Nat} {m:Nat} (hh:A.handled=none) (hne:a≠I) (hT:T≠I) (hp:ps.Perm (List.range es.size)):
  WalksS prog w A I [I,a,T] [I] (fun x y=>y=x) es.size (fun i v=>(ps.filterMap fun p=>(es[p]?).map (·.2))[i]? =some v) (fun i s=>ItS s.heap I a (.ref T) i es.size ep∧SSt s.heap a es ep t∧∃o,s.heap.get? T=some o∧o.data= .seq (ps.map fun (p:Nat)=>Value.int (p:Int) 0).toArray m) where
 sub:=fun b hb=>by simp at hb;simp [hb]
 grefl:=fun _=>rfl
 gtrans:=fun _ _ _ h1 h2=>h2.trans h1
 frame:=fun i s h' tk st _ k=>⟨st.1.at fun o e=>k I (by simp) o e,st.2.1.at fun o e=>k a (by simp) o e,let ⟨o,g,d⟩:=st.2.2;⟨o,k T (by simp) o g,d⟩⟩
 item:=fun i s Q E hi st q=>by
  obtain ⟨hI,hS,o,g,d⟩:=st
  have hl:ps.length=es.size:=by rw [hp.length_eq,List.length_range]
  have ep':=List.getElem?_eq_getElem (l:=ps) (i:=i) (by omega)
  generalize ps[i]'(by omega)=p at ep'
  have pN:p<es.size:=List.mem_range.mp (hp.mem_iff.mp (List.mem_of_getElem? ep'))
  have ex:=Array.getElem?_eq_getElem pN
  generalize es[p]=e at ex
  have all:∀{l:List Nat},(∀x∈l,x<es.size)→∀(i p:Nat) (e:Int×Value),l[i]? =some p→es[p]? =some e→(l.filterMap fun p=>(es[p]?).map (·.2))[i]? =some e.2:=by
   intro l
   induction l with
   |nil=>intro _ i p e h;simp at h
   |cons x l ih=>
    intro hl i p e h he
    have hx:=Array.getElem?_eq_getElem (hl x (List.mem_cons_self ..))
    rw [List.filterMap_cons,hx]
    cases i with
    |zero=>
     simp only [List.getElem?_cons_zero,Option.some.injEq] at h
     subst h
     rw [he] at hx
     cases hx
     rfl
    |succ i=>
     simp only [List.getElem?_cons_succ] at h
     exact ih (fun y hy=>hl y (List.mem_cons_of_mem _ hy)) i p e h he
  refine drawn_some (p:=p) (u:=0) (hx:=e.1) (x:=e.2) hI hS g d (by rw [List.getElem?_toArray,List.getElem?_map,ep'];rfl) ex fun h' hI' sb=> ?_
  exact q _ _ (all (fun x hx=>List.mem_range.mp (hp.mem_iff.mp hx)) i p e ep' ex) ⟨hI',hS.at fun o g=>by rw [sb.2 a hne];exact g,o,by rw [sb.2 T hT];exact g,d⟩ (moved_of fun b o nb g=>by rw [sb.2 b fun z=>nb (z▸List.mem_singleton.mpr rfl)];exact g)
 done:=fun s Q E st q=>by
  obtain ⟨hI,hS,o,g,d⟩:=st
  have hl:ps.length=es.size:=by rw [hp.length_eq,List.length_range]
  exact drawn_none hh hI hS g d (by rw [List.getElem?_toArray,List.getElem?_eq_none (by rw [List.length_map];exact Nat.le_of_eq (by assumption))]) fun h' k=>q _ (moved_of fun b o nb g=>k b o (fun z=>nb (z▸List.mem_singleton.mpr rfl)) g)
 self:=fun i s Q E st q=>self_ok st.1 q
end
end StT
namespace StT
open PySem PyProof.Rows
section
variable {prog:Program} {w:World} {A:Around} {E:Value→Shared→Prop} {s:Shared} {a:Addr} {ep:Nat} {es:Array (Int×Value)} {t:SetTable}
def WOut (prog:Program) (w:World) (s s2:Shared) (a I:Addr) (ys:List Value):Prop:=∃(fp:List Addr) (St:Nat→Shared→Prop),(∀B:Around,B.handled=none→WalksS prog w B I fp [I] (fun x y=>y=x) ys.length (fun i v=>ys[i]? =some v) St)∧St 0 s2∧(∀b∈fp,b=a∨s.heap.objs.size≤b)∧s.heap.objs.size≤I∧(∀b o,s.heap.get? b=some o→s2.heap.get? b=some o)∧s2.gens=s.gens∧s2.os=s.os∧s2.toks=s.toks
theorem iter_set {Q:Value→Shared→Prop} (hT:s.TypeIs (.ref a) "set") (hS:SSt s.heap a es ep t) (ok:TOk t (!byT w)) (hz:es.size<scanBound)
  (q:∀(I:Addr) (s2:Shared) (ys:List Value),ys.Perm (es.toList.map (·.2))→WOut prog w s s2 a I ys→Q (.ref I) s2):wpAny (model prog w) A (pyIter (.ref a)) Q E s:=by
 obtain ⟨oS,gS,dS,fit⟩:=id hS
 have la:a<s.heap.objs.size:=Heap.lt_size gS
 refine wpAny_pyIter_slot hT F.slot_set_iter (wpAny_call_entry F.slot_set_iter hT entry_s_iter ?_ (F.args_set_iter_1 _))
 unfold Builtin.«frozenset.__iter__» Builtin.Frozenset.slot0 slotArgs
 simp only [List.isEmpty_nil,Bool.not_true,Bool.false_eq_true,↓reduceIte,bind_assoc,List.length_nil,bne_self_eq_false]
 unfold Builtin.Frozenset.addrOf Builtin.Frozenset.sizeOf
 refine wpAny_bind (wpAny_pure ?_)
 dsimp only
 refine wpAny_bind (wpAny_pure ?_)
 refine wpAny_bind (wpAny_bind (wpAny_setEntries_of gS dS fit (wpAny_pure ?_)))
 unfold setDrawn
 refine wpAny_bind (wpAny_bind (wpAny_setState_of gS dS fit ?_))
 dsimp only
 refine wpAny_bind (ask_by (wpAny_pure ?_))
 show wpAny _ _ (if (!byT w && (!t.plain && decide (es.size > 1)))=true then _ else _) _ _ _
 have zl:es.size≤sizeLine:=fits_of_scanBound hz
 by_cases c:(!byT w && (!t.plain && decide (es.size > 1)))=true
 ·rw [if_pos c]
  refine wpAny_bind (draw_perm es.size (List.range es.size) s _ (by simp) fun ps d pm=> ?_)
  have pl:ps.length=es.size:=by rw [pm.length_eq,List.length_range]
  simp only [newTuple,newFields]
  refine wpAny_bind (wpAny_newObj_type ?_ (by show (ps.map _).toArray.size≤_;rw [List.size_toArray,List.length_map];omega))
  refine wpAny_bind (wpAny_setEpoch_of (Heap.get?_push_of_some _ gS) dS fit ?_)
  refine wpAny_bind (wpAny_newObj_type (wpAny_pure ⟨_,rfl,"set_iterator",_,⟨_,Heap.get?_push_size _ rfl,rfl⟩,slot_si_next.lookup,?_⟩))
  have hl:(ps.filterMap fun p=>(es[p]?).map (·.2)).Perm (es.toList.map (·.2)):=by
   have e1:=pm.filterMap fun p=>(es[p]?).map (·.2)
   refine e1.trans (List.Perm.of_eq ?_)
   refine List.ext_getElem? fun k=> ?_
   have key:∀m,m≤es.size→((List.range m).filterMap fun p=>(es[p]?).map (·.2))=(es.toList.take m).map (·.2):=by
    intro m
    induction m with
    |zero=>intro _;simp
    |succ m ih=>
     intro hm
     have ex:=Array.getElem?_eq_getElem (xs:=es) (i:=m) (by assumption)
     rw [List.range_succ,List.filterMap_append,ih (by exact Nat.le_of_lt (by assumption)),List.take_add_one,List.map_append,Array.getElem?_toList,ex]
     simp [ex]
   rw [key es.size (Nat.le_refl _),List.take_of_length_le (by simp)]
  have hlen:(ps.filterMap fun p=>(es[p]?).map (·.2)).length=es.size:=by rw [hl.length_eq,List.length_map,Array.length_toList]
  refine q _ _ (ps.filterMap fun p=>(es[p]?).map (·.2)) hl ⟨[(s.heap.push {cls:= .type "tuple",data:= .seq (ps.map fun (i:Nat)=>rawInt (i:Int)).toArray}).objs.size,a,s.heap.objs.size],fun i s'=>ItS s'.heap (s.heap.push {cls:= .type "tuple",data:= .seq (ps.map fun (i:Nat)=>rawInt (i:Int)).toArray}).objs.size a (.ref s.heap.objs.size) i es.size ep∧SSt s'.heap a es ep t∧∃o,s'.heap.get? s.heap.objs.size=some o∧o.data= .seq (ps.map fun (p:Nat)=>Value.int (p:Int) 0).toArray 0,fun B hB=> ?_,?_,?_,?_,?_,rfl,rfl,rfl⟩
  ·rw [hlen]
   refine walkB hB ?_ ?_ pm
   ·rw [Heap.size_push];exact Nat.ne_of_lt (Nat.lt_succ_of_lt la)
   ·rw [Heap.size_push];exact Nat.ne_of_lt (Nat.lt_succ_self _)
  ·exact ⟨⟨_,Heap.get?_push_size _ rfl,rfl,rfl⟩,⟨oS,Heap.get?_push_of_some _ (Heap.get?_push_of_some _ gS),dS,fit⟩,_,Heap.get?_push_of_some _ (Heap.get?_push_size _ rfl),rfl⟩
  ·intro b hb
   simp only [List.mem_cons,List.not_mem_nil,or_false] at hb
   rcases hb with rfl|rfl|rfl
   ·rw [Heap.size_push];exact .inr (Nat.le_succ _)
   ·exact .inl rfl
   ·exact .inr (Nat.le_refl _)
  ·rw [Heap.size_push];exact Nat.le_succ _
  ·exact fun b o e=>Heap.get?_push_of_some _ (Heap.get?_push_of_some _ e)
 ·rw [if_neg c]
  refine wpAny_bind (wpAny_pure ?_)
  refine wpAny_bind (wpAny_setEpoch_of gS dS fit ?_)
  simp only [newFields]
  refine wpAny_bind (wpAny_newObj_type (wpAny_pure ⟨_,rfl,"set_iterator",_,⟨_,Heap.get?_push_size _ rfl,rfl⟩,slot_si_next.lookup,?_⟩))
  have nI:a≠s.heap.objs.size:=Nat.ne_of_lt la
  have fpo:∀b∈[s.heap.objs.size,a],b=a∨s.heap.objs.size≤b:=fun b hb=>by
   simp only [List.mem_cons,List.not_mem_nil,or_false] at hb
   rcases hb with rfl|rfl
   ·exact .inr (Nat.le_refl _)
   ·exact .inl rfl
  cases hb:byT w with
  |true=>
   have hl:=(pick_perm (w.params.setOrder a ep) es).map (·.2)
   have hlen:((pickOrder (w.params.setOrder a ep) es).toList.map (·.2)).length=es.size:=by rw [hl.length_eq,List.length_map,Array.length_toList]
   refine q _ _ ((pickOrder (w.params.setOrder a ep) es).toList.map (·.2)) hl ⟨[s.heap.objs.size,a],fun i s'=>ItS s'.heap s.heap.objs.size a (.int ((0:Nat):Int) 0) i es.size ep∧SSt s'.heap a es ep t,fun B hB=> ?_,⟨⟨_,Heap.get?_push_size _ rfl,rfl,rfl⟩,⟨oS,Heap.get?_push_of_some _ gS,dS,fit⟩⟩,fpo,Nat.le_refl _,fun b o e=>Heap.get?_push_of_some _ e,rfl,rfl,rfl⟩
   rw [hlen]
   exact walkA hB nI hb
  |false=>
   rw [hb] at c ok
   have dr:(!t.plain && decide (es.size > 1))=false:=by simpa using c
   have hlen:(es.toList.map (·.2)).length=es.size:=by rw [List.length_map,Array.length_toList]
   refine q _ _ (es.toList.map (·.2)) (.refl _) ⟨[s.heap.objs.size,a],fun i s'=>(∃slot:Nat,ItS s'.heap s.heap.objs.size a (.int (slot:Int) 0) i es.size ep∧SetTable.below t.place slot=i)∧SSt s'.heap a es ep t,fun B hB=> ?_,⟨⟨0,⟨_,Heap.get?_push_size _ rfl,rfl,rfl⟩,below_is ok.up (Nat.zero_le _) (fun i a h=>absurd h (Nat.not_lt_zero _)) fun i a _ _=>Nat.zero_le _⟩,⟨oS,Heap.get?_push_of_some _ gS,dS,fit⟩⟩,fpo,Nat.le_refl _,fun b o e=>Heap.get?_push_of_some _ e,rfl,rfl,rfl⟩
   rw [hlen]
   exact walkC hB nI ok hb dr
end
end StT
namespace StT
open PySem PyProof.Rows
section
variable {prog:Program} {w:World} {A:Around} {E:Value→Shared→Prop} {s:Shared} {a:Addr} {ep:Nat} {es:Array (Int×Value)} {t:SetTable}
theorem collect_set {Q:List Value→Shared→Prop} (hh:A.handled=none) (hT:s.TypeIs (.ref a) "set") (hS:SSt s.heap a es ep t) (ok:TOk t (!byT w)) (hz:es.size<scanBound)
  (q:∀(ys:List Value) (s':Shared),ys.Perm (es.toList.map (·.2))→(∀b o,s.heap.get? b=some o→s'.heap.get? b=some o)→s'.gens=s.gens→s'.os=s.os→Q ys s'):wpAny (model prog w) A (collect (.ref a)) Q E s:=by
 obtain ⟨oS,gS,dS,fit⟩:=id hS
 have la:a<s.heap.objs.size:=Heap.lt_size gS
 unfold collect
 refine wpAny_bind (wpAny_runValue (codeAny_builtin F.entry_proto_collect ?_))
 rw [Around.under_plainId F.plain_proto_collect _]
 refine wpAny_bind (m:=newList []) (wpAny_newObj_type ?_)
 refine wpAny_pure ⟨plainId_quiet F.plain_list_iadd _,codeAny_builtin F.entry_list_iadd ?_⟩
 rw [Around.under_plainId F.plain_list_iadd _]
 obtain ⟨h1,eh1⟩:∃h1,h1=s.heap.push {cls:= .type "list",data:= .seq ([]:List Value).toArray}:=⟨_,rfl⟩
 have g1:h1.get? s.heap.objs.size=some {cls:= .type "list",data:= .seq ([]:List Value).toArray}:=by rw [eh1];exact Heap.get?_push_size _ rfl
 have k1:∀b o,s.heap.get? b=some o→h1.get? b=some o:=fun b o e=>by rw [eh1];exact Heap.get?_push_of_some _ e
 have z1:h1.objs.size=s.heap.objs.size+1:=by rw [eh1,Heap.size_push]
 show wpAny _ A.in1 (Builtin.List.listExtendWith (.ref s.heap.objs.size) (.ref a) (.ref s.heap.objs.size)) _ _ {s with heap:=s.heap.push {cls:= .type "list",data:= .seq ([]:List Value).toArray}}
 rw [←eh1]
 have T1:Shared.TypeIs {s with heap:=h1} (.ref a) "set":=by
  obtain ⟨o,x,y⟩:=hT
  exact ⟨o,k1 _ _ x,y⟩
 unfold Builtin.List.listExtendWith
 refine wpAny_bind (wpAny_typeOf T1 ?_)
 have n1:Builtin.List.listSameRef (.ref s.heap.objs.size) (.ref a)=false:=by
  simp only [Builtin.List.listSameRef,beq_eq_false_iff_ne]
  exact Nat.ne_of_gt la
 have n2:(Value.type "set"==Value.type "list")=false:=by decide
 have n3:(Value.type "set"==Value.type "tuple")=false:=by decide
 simp only [n1,n2,n3,Bool.or_false,Bool.false_eq_true,if_false]
 refine wpAny_bind (iter_set (s:={s with heap:=h1}) T1 (hS.at fun o e=>k1 _ _ e) ok hz fun I s2 ys pm W=> ?_)
 obtain ⟨fp,St,wk,st0,fpo,Ige,k2,e1,e2,e3⟩:=W
 have T2:s2.TypeIs (.ref a) "set":=by
  obtain ⟨o,x,y⟩:=T1
  exact ⟨o,k2 _ _ x,y⟩
 refine wpAny_bind (wpAny_holding ?_)
 unfold Builtin.List.listLengthHint
 refine wpAny_bind (wpAny_specialOf T2 F.slot_set_len.lookup ?_)
 generalize hid:("set.__len__":String)=id0
 dsimp only
 rw [show splitId id0=some ("set","__len__") from by subst hid;decide+kernel]
 dsimp only
 refine wpAny_bind (wpAny_isInstance (b:=true) T2 (by rw [isSubtype_type];kernel_rfl) ?_)
 simp only [Bool.not_true,Bool.false_eq_true,if_false]
 subst hid
 rw [if_pos (by decide+kernel)]
 refine wpAny_bind (wpAny_typeOf T2 (wpAny_pure ?_))
 rw [if_pos (by decide+kernel)]
 refine wpAny_bind (wpAny_rule ?_)
 have g2:=k2 _ _ g1
 have nL:s.heap.objs.size ∉ fp:=fun z=>by
  rcases fpo _ z with x|x
  ·exact absurd x (Nat.ne_of_gt la)
  ·rw [z1] at x;exact absurd x (Nat.not_succ_le_self _)
 have nI:s.heap.objs.size≠I:=fun z=>by
  rw [z1,←z] at Ige
  exact absurd Ige (Nat.not_succ_le_self _)
 refine wpAny_bind ?_
 unfold Builtin.List.listTouch
 refine wpAny_bind (m:=updateSeq s.heap.objs.size (·.push .none)) (wpAny_updateSeq g2 rfl ?_)
 have g3:=Heap.get?_update_self (Obj.mapSeq (·.push Value.none)) g2 rfl
 refine wpAny_updateSeq g3 rfl ?_
 have g4:=Heap.get?_update_self (Obj.mapSeq (·.pop)) g3 rfl
 have oth:∀b o,b≠s.heap.objs.size→s2.heap.get? b=some o→((s2.heap.update s.heap.objs.size (Obj.mapSeq (·.push Value.none))).update s.heap.objs.size (Obj.mapSeq (·.pop))).get? b=some o:=fun b o nb e=>by
  rw [Heap.get?_update_other _ _ (Ne.symm nb),Heap.get?_update_other _ _ (Ne.symm nb)];exact e
 have hB:A.in1.handled=none:=by simp [hh]
 have W:=wk A.in1 hB
 have ylen:ys.length=es.size:=by rw [pm.length_eq,List.length_map,Array.length_toList]
 have yz:ys.length≤sizeLine:=by rw [ylen];exact fits_of_scanBound hz
 refine wpAny_pure ⟨plainId_quiet F.plain_extend_loop _,codeAny_extend_loopS W yz s.heap.objs.size nL _ ys.length 0 _ _ _ rfl (Nat.zero_le _) (W.frame 0 s2 _ s2.toks st0 (Nat.le_refl _) fun b hb o e=>oth b o (fun z=>nL (z▸hb)) e) g4 (ItemsOf.nil _) fun s3 acc c mv g5 it=> ?_⟩
 refine wpAny_bind (wpAny_load g5 (wpAny_pure ?_))
 have ea:acc.toList=ys:=by
  refine List.ext_getElem? fun k=> ?_
  rw [Array.getElem?_toList]
  by_cases hk:k<acc.size
  ·have e:=Array.getElem?_eq_getElem hk
   rw [e]
   exact (it.2 k _ e).symm
  ·rw [Array.getElem?_eq_none (by exact Nat.not_lt.mp (by assumption)),List.getElem?_eq_none (by have:=it.1;omega)]
 rw [ea]
 refine q ys s3 pm (fun b o e=> ?_) ((mv.gens).trans e1) (mv.os.trans e2)
 have lb:b<s.heap.objs.size:=Heap.lt_size e
 refine mv.heap b o ?_ (oth b o (Nat.ne_of_lt lb) (k2 _ _ (k1 _ _ e)))
 simp only [List.mem_cons,List.not_mem_nil,or_false,not_or]
 refine ⟨Nat.ne_of_lt lb,fun z=> ?_⟩
 rw [z1,←z] at Ige
 exact absurd (Nat.lt_of_lt_of_le (Nat.lt_succ_of_lt lb) Ige) (Nat.lt_irrefl _)
end
end StT
namespace Srt
open PySem PySem.W PyProof.Rows
section
variable {prog:Program} {w:World} {A:Around} {E:Value→Shared→Prop} {s:Shared}
theorem sorted_any {κ:SortKind} {lt:List Value→Nat→Nat→Bool} (O:∀vs,Ord (lt vs)) {v:Value} (I:List Value→Prop) {Q:Value→Shared→Prop} (h64:∀vs,I vs→vs.length<64)
  (hcol:∀(Q:List Value→Shared→Prop),(∀(vs:List Value) (s1:Shared),I vs→(∀b o,s.heap.get? b=some o→s1.heap.get? b=some o)→s1.gens=s.gens→s1.os=s.os→Q vs s1)→wpAny (model prog w) A.in1 (collect v) Q E s)
  (hk:∀(vs:List Value) (s1:Shared),I vs→2≤vs.length→∀Q:SortKind→Shared→Prop,Q κ s1→wpAny (model prog w) A.in1.in1 (keyKind' vs.toArray) Q E s1)
  (hc:∀(vs:List Value) (s1:Shared),I vs→∀i j (C:Bool→Shared→Prop),i<vs.length→j<vs.length→C (lt vs i j) s1→kas_ask prog w A.in1.in1 κ vs i j C s1)
  (h:∀(vs:List Value) (p:Array Nat) (s1:Shared) (h':Heap) (l e:Nat),I vs→Pm vs.length p→Sto (lt vs) p vs.length→(∀b o,s.heap.get? b=some o→s1.heap.get? b=some o)→s1.gens=s.gens→s1.os=s.os→(∀b o,s1.heap.get? b=some o→h'.get? b=some o)→s1.heap.objs.size≤l→h'.get? l=some (seqObj "list" (p.toList.map fun i=>vs.getD i Value.none).toArray e)→Q (.ref l) {s1 with heap:=h'}):
  wpAny (model prog w) A (call (.builtin "sorted") [v]) Q E s:=by
 refine Calls.call_function_entry kind_sorted plain_sorted entry_sorted (args_sorted1 _) ?_
 unfold Builtin.«sorted»
 refine wpAny_bind (m:=checkCount "sorted" 1 1 _) (wpAny_pure ?_)
 refine wpAny_bind (hcol _ fun vs s1 hI k1 eg eo=> ?_)
 have h64:=h64 vs hI
 refine wpAny_bind (wpAny_newList ?_ (by rw [sizeLine_eq];omega))
 have hoL:(s1.heap.push (seqObj "list" vs.toArray 0)).get? s1.heap.objs.size=some (seqObj "list" vs.toArray 0):=Heap.get?_push_size _ rfl
 show wpAny _ _ _ _ _ {s1 with heap:=s1.heap.push (seqObj "list" vs.toArray 0)}
 have k3:∀b o,s1.heap.get? b=some o→b≠s1.heap.objs.size∧(s1.heap.push (seqObj "list" vs.toArray 0)).get? b=some o:=fun b o q=>
  ⟨Nat.ne_of_lt (Heap.lt_size q),Heap.get?_push_of_some _ q⟩
 refine wpAny_bind (wpAny_holding (wpAny_call_entry slot_list_sort ⟨_,hoL,rfl⟩ entry_list_sort (list_sort_raw (s:={s1 with heap:=s1.heap.push (seqObj "list" vs.toArray 0)}) (κ:=κ) (O vs) hoL h64 (fun h' k l2 Q q=> ?_) (fun h' k i j C hi hj q=> ?_) fun p hp hs=>⟨_,rfl,?_⟩) (args_list_sort _)))
 ·exact hk vs {s1 with heap:=h'} hI l2 Q q
 ·exact hc vs {s1 with heap:=h'} hI i j C hi hj q
 ·refine wpAny_pure ⟨_,rfl,?_⟩
  obtain ⟨e,he⟩:∃e,(sortedHeap (s1.heap.push (seqObj "list" vs.toArray 0)) s1.heap.objs.size vs (p.toList.map fun i=>vs.getD i Value.none).toArray).get? s1.heap.objs.size=some (seqObj "list" (p.toList.map fun i=>vs.getD i Value.none).toArray e):=by
   unfold sortedHeap
   obtain ⟨e1,ho1⟩:∃e1,((s1.heap.push (seqObj "list" vs.toArray 0)).update s1.heap.objs.size (Obj.mapSeq fun _=> #[])).get? s1.heap.objs.size=some (seqObj "list" #[] e1):=⟨_,get?_update_seq hoL (fun _=> #[])⟩
   have ho6:((((s1.heap.push (seqObj "list" vs.toArray 0)).update s1.heap.objs.size (Obj.mapSeq fun _=> #[])).push (seqObj "tuple" vs.toArray 0)).push (seqObj "list" #[] 0)).get? s1.heap.objs.size=some (seqObj "list" #[] e1):=Heap.get?_push_of_some _ (Heap.get?_push_of_some _ ho1)
   exact ⟨_,get?_update_seq ho6 fun _=>_⟩
  refine h vs p s1 _ s1.heap.objs.size e hI hp hs k1 eg eo (fun b o q=> ?_) (Nat.le_refl _) he
  have q2:=k3 b o q
  unfold sortedHeap
  rw [Heap.get?_update_ne _ _ _ _ q2.1]
  refine Heap.get?_push_of_some _ (Heap.get?_push_of_some _ ?_)
  rw [Heap.get?_update_ne _ _ _ _ q2.1]
  exact q2.2
end
end Srt
namespace StT
open PySem PyProof.Rows L2
theorem Inv.any {X:Cx} {pins:List (Addr×Obj)} {σ:L2.St} {H:Hp} {s s':Shared} (I:L2.Inv X pins σ H s) (k:∀b o,s.heap.get? b=some o→s'.heap.get? b=some o) (hg:s'.gens=s.gens) (ho:s'.os=s.os):L2.Inv X pins σ H s':=by
 have J:=I.kept (t':=s'.toks) k
 exact ⟨J.ok,by rw [ho];exact J.os,by rw [hg];exact J.bare,J.base,J.loc,J.cell,J.free,J.freeC,J.pin,J.hok,J.len⟩
end StT
namespace StT
open PySem PySem.W PyProof.Rows L2 Srt
def kOf:Value→Key
 | .int k _=> .inl k
 | .str x _=> .inr x
 |_=> .inl 0
end StT
namespace L2
open PySem PySem.W PyProof.Rows StT
end L2
namespace StT
open PySem PySem.W PyProof.Rows L2 Srt
theorem strs_of {prog:Program} {w:World}:∀{l:List (Int×Value)},ElemsOf (PySem.strKind prog w) l→Dis (PySem.strKind prog w) l→∃ks:List Str,Vals (ks.map V.str) (l.map (·.2))∧ks.Nodup∧∀k,k∈ks↔∃e∈l,(PySem.strKind prog w).is k e.2=true
 |[],_,_=>⟨[],.nil,List.nodup_nil,fun k=>by simp⟩
 |e::l,h,d=>by
  obtain ⟨ks,v,nd,mem⟩:=strs_of (l:=l) (fun x hx=>h x (List.mem_cons_of_mem _ hx)) (List.Pairwise.tail d)
  obtain ⟨⟨k,hk,_⟩,_⟩:=h e (List.mem_cons_self ..)
  obtain ⟨t,et⟩:=Value.isStrOf_shape hk
  refine ⟨k::ks,.cons ⟨t,et⟩ v,List.nodup_cons.mpr ⟨fun hm=> ?_,nd⟩,fun k'=> ?_⟩
  ·obtain ⟨e',he',z⟩:=(mem k).mp hm
   exact List.rel_of_pairwise_cons d he' k ⟨hk,z⟩
  ·rw [List.mem_cons,mem k']
   constructor
   ·rintro (rfl|⟨e',he',z⟩)
    ·exact ⟨e,List.mem_cons_self ..,hk⟩
    ·exact ⟨e',List.mem_cons_of_mem _ he',z⟩
   ·rintro ⟨e',he',z⟩
    rcases List.mem_cons.mp he' with rfl|he'
    ·exact .inl ((PySem.strKind prog w).inj e'.2 k' k z hk)
    ·exact .inr ⟨e',he',z⟩
theorem vals_permS {ks:List Str} {us vs:List Value} (v:Vals (ks.map V.str) us) (p:vs.Perm us):∃ks':List Str,Vals (ks'.map V.str) vs∧ks'.Perm ks:=by
 induction p generalizing ks with
 |nil=>cases ks with
  |nil=>exact ⟨[],.nil,.refl _⟩
  |cons _ _=>cases v
 |cons x p ih=>
  cases ks with
  |nil=>cases v
  |cons k ks=>
   cases v with
   |cons r t=>
    obtain ⟨ks',v',p'⟩:=ih t
    exact ⟨k::ks',.cons r v',p'.cons k⟩
 |swap x y l=>
  cases ks with
  |nil=>cases v
  |cons k ks=>
   cases v with
   |cons r t=>
    cases ks with
    |nil=>cases t
    |cons k2 ks=>
     cases t with
     |cons r2 t2=>exact ⟨k2::k::ks,.cons r2 (.cons r t2),.swap _ _ _⟩
 |trans p1 p2 ih1 ih2=>
  obtain ⟨k1,v1,q1⟩:=ih2 v
  obtain ⟨k2,v2,q2⟩:=ih1 v1
  exact ⟨k2,v2,q2.trans q1⟩
theorem vals_kS {ks:List Str} {vs:List Value} (v:Vals (ks.map V.str) vs) {i:Nat} (hi:i<ks.length):∃t,vs.getD i Value.none= .str (ks.getD i default) t:=by
 obtain ⟨a,ha,t,rfl⟩:=Vals.get v (i:=i) (x:=V.str (ks.getD i default)) (by simp [hi])
 exact ⟨t,by simp [List.getD,ha]⟩
theorem sorted_setS {X:Cx} {pins:List (Addr×Obj)} {σ:L2.St} {H:Hp} {s:Shared} {Q:VK} (I:L2.Inv X pins σ H s) (hh:X.A.handled=none) {s2:Shared} (k0:∀b o,s.heap.get? b=some o→s2.heap.get? b=some o) (hg:s2.gens=s.gens) (hos:s2.os=s.os) {a:Addr} {S:Str→Bool} {n:Nat} (u:SetU (PySem.strKind X.prog X.w) s2.heap a S n (!byT X.w)) (n64:n<64)
  (q:∀(l:Addr) (ms:List Str),H l=none→ms.Nodup→ms.Pairwise (fun a b=>ltK (.inr b) (.inr a)=false)→(∀x,x∈ms↔S x=true)→Q (.ref l) (upd H l (.lst (ms.map V.str)))):wpAny (model X.prog X.w) X.A (call (.builtin "sorted") [.ref a]) (L2.EP X pins σ Q) X.xe s2:=by
 obtain ⟨o,es,ep,t,ho,hex,hd,el,mem,sz,fit,hn,ok,dis⟩:=u
 obtain ⟨ks,kv,knd,kmem⟩:=strs_of el dis
 have kl:ks.length=n:=by
  have e1:ks.length=es.size:=by
   have:=kv.length
   simp only [List.length_map,Array.length_toList] at this
   assumption
  omega
 refine sorted_any (κ:=oneType') (lt:=fun vs i j=>ltR [kOf (vs.getD i Value.none)] [kOf (vs.getD j Value.none)]) (fun vs=>ord_rows fun i=>[kOf (vs.getD i Value.none)]) (fun vs=>∃ks':List Str,Vals (ks'.map V.str) vs∧ks'.Perm ks) (fun vs ⟨ks',v,p⟩=> ?_) (fun Q hq=> ?_) (fun vs s1 ⟨ks',v,p⟩ l2 Q hq=> ?_) (fun vs s1 ⟨ks',v,p⟩ i j C hi hj hC=> ?_) fun vs pp s1 h' l e ⟨ks',v,p⟩ pm st k1 eg eo k2 zl hl=> ?_
 ·have:=v.length
  rw [List.length_map,p.length_eq] at this
  omega
 ·refine collect_set (ep:=ep) (es:=es) (t:=t) (by simp [hh]) ⟨o,ho,hex.1⟩ ⟨o,ho,hd,fit⟩ ok sz fun ys s' pm k eg eo=> ?_
  obtain ⟨ks',v',p'⟩:=vals_permS kv pm
  exact hq ys s' ⟨ks',v',p'⟩ k eg eo
 ·refine kas_kind (s:=s1) (T:=Value.type "str") l2 (fun x hx=> ?_) rfl rfl hq
  clear hq l2 p
  have:∀{ns:List Str} {us:List Value},Vals (ns.map V.str) us→∀v∈us,∃x t,v=Value.str x t:=by
   intro ns
   induction ns with
   |nil=>intro us hu v hv;cases hu;cases hv
   |cons n ns ih=>
    intro us hu v hv
    cases hu with
    |cons r t=>
     rcases List.mem_cons.mp hv with rfl|hv
     ·obtain ⟨t,rfl⟩:=r;exact ⟨_,_,rfl⟩
     ·exact ih t v hv
  obtain ⟨y,t,rfl⟩:=this v x hx
  exact Looks.of_pure rfl
 ·have lv:=v.length
  rw [List.length_map] at lv
  obtain ⟨t1,e1⟩:=vals_kS v (i:=i) (by omega)
  obtain ⟨t2,e2⟩:=vals_kS v (i:=j) (by omega)
  show wpAny _ _ (keyLt' oneType' (vs.getD i Value.none) (vs.getD j Value.none)) C _ _
  rw [e1,e2] at hC ⊢
  rw [keyLt'_oneType]
  refine key_lt (x:=Sum.inr (ks'.getD i default)) (y:=Sum.inr (ks'.getD j default)) rfl ⟨t1,rfl⟩ ⟨t2,rfl⟩ ?_
  have:ltR [Sum.inr (ks'.getD i default)] [Sum.inr (ks'.getD j default)]=ltK (Sum.inr (ks'.getD i default)) (Sum.inr (ks'.getD j default)):=by
   unfold ltR
   split
   ·rename_i e;rw [e,ltK_irr];rfl
   ·rfl
  rw [←this];exact hC
 ·have lv:=v.length
  rw [List.length_map] at lv
  have J:L2.Inv X pins σ H s1:=Inv.any I (fun b o z=>k1 _ _ (k0 _ _ z)) (eg.trans hg) (eo.trans hos)
  rw [←lv] at pm st
  have pl:=pm.toList
  have mem':∀i∈pp.toList,i<ks'.length:=fun i hi=>by simpa using pl.mem_iff.mp hi
  have ppm:(pp.toList.map fun i=>ks'.getD i default).Perm ks':=by
   have:=pl.map (fun i=>ks'.getD i default)
   rwa [Cf] at this
  have nd:(pp.toList.map fun i=>ks'.getD i default).Nodup:=(ppm.trans p).nodup_iff.mpr knd
  have pw:(pp.toList.map fun i=>ks'.getD i default).Pairwise (fun a b=>ltK (.inr b) (.inr a)=false):=by
   rw [List.pairwise_map]
   refine List.Pairwise.imp_of_mem ?_ (st.pairwise pm.size)
   intro x y hx hy hab
   obtain ⟨t1,e1⟩:=vals_kS v (mem' x hx)
   obtain ⟨t2,e2⟩:=vals_kS v (mem' y hy)
   rw [e1,e2] at hab
   unfold ltR at hab
   split at hab
   ·rename_i e
    have e:(Sum.inr (ks'.getD y default):Key)=Sum.inr (ks'.getD x default):=e
    rw [e];exact ltK_irr _
   ·exact hab
  have vv:Vals ((pp.toList.map fun i=>ks'.getD i default).map V.str) (pp.toList.map fun i=>vs.getD i Value.none):=by
   clear hl pw ppm pl st pm nd
   generalize pp.toList=il at mem'
   induction il with
   |nil=>exact .nil
   |cons i il ih=>
    refine .cons ?_ (ih fun j hj=>mem' j (.tail _ hj))
    obtain ⟨t1,e1⟩:=vals_kS v (mem' i (.head _))
    exact ⟨t1,e1⟩
  refine ⟨.ref l,_,J.laid (t':=s1.toks) (o:= .lst ((pp.toList.map fun i=>ks'.getD i default).map V.str)) k2 zl ⟨?_,_,e,vv,hl⟩,rfl,q l _ (J.hok.fresh zl) nd pw fun x=> ?_⟩
  ·rw [List.length_map,ppm.length_eq,p.length_eq,kl,sizeLine_eq];omega
  ·rw [(ppm.trans p).mem_iff,kmem x,mem x]
end StT
namespace L2
open PySem PySem.W PyProof.Rows StT Srt
section
variable {X:Cx} {e:Expr} {te:TE} {p p2 pos pos2:Pos}
def tSortSetS (K:PySem.W.Frag) (te:TE):TE:=fun σ H Q=>te σ H fun x H1=>∃(a:Addr) (ns:List Str),x= .ref a∧(SqL K H1 a (ns.map V.str)∨SqT K H1 a (ns.map V.str))∧ns.length<64∧∀(l:Addr) (ms:List Str),H1 l=none→ms.Nodup→ms.Pairwise (fun a b=>ltK (.inr b) (.inr a)=false)→(∀x,x∈ms↔x∈ns)→Q (.ref l) (upd H1 l (.lst (ms.map V.str)))
theorem met_memS {ns:List Str} {k:Str}:metF (fun i=>ns.getD i default) ns.length k=true↔k∈ns:=by
 unfold metF
 rw [List.any_eq_true]
 constructor
 ·rintro ⟨j,hj,h⟩
  have hj:=List.mem_range.mp hj
  rw [decide_eq_true_eq] at h
  rw [h]
  show ns.getD j default∈ns
  rw [List.getD_eq_getElem?_getD,List.getElem?_eq_getElem hj]
  exact List.getElem_mem hj
 ·intro h
  obtain ⟨j,hj,rfl⟩:=List.mem_iff_getElem.mp h
  refine ⟨j,List.mem_range.mpr hj,?_⟩
  rw [decide_eq_true_eq]
  show ns[j]=ns.getD j default
  rw [List.getD_eq_getElem?_getD,List.getElem?_eq_getElem hj];rfl
theorem pe_sortsetS (hc:X.calm=true) (he0:PE X e te) (hg:Gl X "sorted") (hm:X.mg "sorted"=none) (hg2:Gl X "set") (hm2:X.mg "set"=none)
  (hs1:starEach [.Call (.Name "set" p2) [e] [] pos2] X.env=[(false,eval (.Call (.Name "set" p2) [e] [] pos2) X.env)]:=by rfl) (hs2:starEach [e] X.env=[(false,eval e X.env)]:=by rfl):
  PE X (.Call (.Name "sorted" p) [.Call (.Name "set" p2) [e] [] pos2] [] pos) (tSortSetS X.K te):=by
 intro pins s σ H Q I h
 refine wpAny_Call_Name_kw (ld_blt I hg hm (show bootBuiltins "sorted"=some (.builtin "sorted") by decide+kernel) ?_ (by decide) (by decide))
 refine PyProof.Rows.callWith_builtin1 (rest:=[]) ?_ hs1 rfl
 rw [hs1]
 show wpAny _ _ (spliced ((false,eval (.Call (.Name "set" p2) [e] [] pos2) X.env)::backTo pos (starEach [] X.env))) _ _ s
 refine Calls.spliced_cons ?_
 refine wpAny_Call_Name_kw (ld_blt I hg2 hm2 (show bootBuiltins "set"=some (.type "set") by decide+kernel) ?_ (by decide) (by decide))
 refine PyProof.Rows.callWith_type1 (rest:=[]) ?_ hs2 rfl
 rw [hs2]
 show wpAny _ _ (spliced ((false,eval e X.env)::backTo pos2 (starEach [] X.env))) _ _ s
 refine Calls.spliced_cons (thn (he0 pins s σ H _ I h) fun u s1 ⟨x,H1,I1,r1,q1⟩=>Calls.spliced_nil ?_)
 obtain ⟨a,ns,rfl,hq,h64,q⟩:=q1
 cases r1
 have hh:X.A.handled=none:=I1.ok.hd hc
 have fin:∀(its:List Value) (h':Heap) (tk m:Nat),its.length=ns.length→m≤its.toArray.size→SetU (PySem.strKind X.prog X.w) h' s1.heap.objs.size (metF (fun i=>ns.getD i default) its.toArray.size) m (!byT X.w)→(∀b o,s1.heap.get? b=some o→h'.get? b=some o)→wpAny (model X.prog X.w) X.A (spliced (backTo pos (starEach [] X.env))) (fun vs s2=>wpAny (model X.prog X.w) X.A (call (.builtin "sorted") (.ref s1.heap.objs.size::vs)) (EP X pins σ Q) X.xe s2) X.xe {s1 with heap:=h',toks:=tk}:=fun its h' tk m le mi u kp=>by
  refine Calls.spliced_nil ?_
  have ez:its.toArray.size=ns.length:=by rw [List.size_toArray];exact le
  rw [ez] at mi u
  exact sorted_setS I1 hh (s2:={s1 with heap:=h',toks:=tk}) kp rfl rfl u (by omega) fun l ms hn nd pw mm=>q l ms hn nd pw fun x=>(mm x).trans met_memS
 have vi:∀{its:List Value},Vals (ns.map V.str) its→∀i v,its.toArray[i]? =some v→(PySem.strKind X.prog X.w).is (ns.getD i default) v=true∧v.scannable=true:=fun {its} rv i v hv=>by
  have le:=rv.length
  rw [List.length_map] at le
  rw [List.getElem?_toArray] at hv
  have hi:=(List.getElem?_eq_some_iff.mp hv).1
  obtain ⟨t,e⟩:=vals_kS rv (i:=i) (by omega)
  rw [List.getD_eq_getElem?_getD,hv] at e
  have e:v= .str (ns.getD i default) t:=e
  rw [e]
  exact ⟨PySem.strKind_is _ _ _ _,rfl⟩
 rcases hq with hq|hq
 ·obtain ⟨its,rv,ht,hz⟩:=I1.list hq
  have le:=rv.length
  rw [List.length_map] at le
  exact call_set_list (knd:=PySem.strKind X.prog X.w) (val:=fun i=>ns.getD i default) hh ht.isList (vi rv) (by rw [List.size_toArray];unfold scanBound;omega) fun h' tk m mi u kp=>fin its h' tk m (by omega) mi u kp
 ·obtain ⟨its,rv,ht,hz⟩:=I1.tuple hq
  have le:=rv.length
  rw [List.length_map] at le
  exact call_set_tuple (knd:=PySem.strKind X.prog X.w) (val:=fun i=>ns.getD i default) hh ht (vi rv) (by rw [List.size_toArray];unfold scanBound;omega) fun h' tk m mi u kp=>fin its h' tk m (by omega) mi u kp
end
end L2
namespace PySem
open PySem.Spec PyProof.Rows
end PySem
namespace L2
open PySem PySem.Spec PyProof.Rows
end L2
namespace Wk
open PySem L2
def NmS (zs:List Str):Prop:=zs.Pairwise fun a b=>Srt.ltK (.inr b) (.inr a)=false
end Wk
namespace Wk
open PySem L2
end Wk
namespace L2
open PySem PySem.Spec PyProof.Rows
end L2
namespace K61
open PySem L2 Wk
def top (i:Nat):Stmt:=PySem.Challenge.pw_joinedever_k61_papers_judged.main.body.getD i (.Pass ⟨0,0,0,0⟩)
abbrev sWhole:Stmt:=top 1
abbrev sWithin:Stmt:=top 2
abbrev sStandB:Stmt:=top 4
abbrev sIsPl:Stmt:=top 6
abbrev sIsPls:Stmt:=top 7
abbrev sOver:Stmt:=top 9
abbrev sLeads:Stmt:=top 10
abbrev sOut:Stmt:=top 11
abbrev sIsWay:Stmt:=top 14
abbrev sIsCut:Stmt:=top 15
abbrev sPaper:Stmt:=top 17
abbrev sCell:Stmt:=top 19
abbrev sDeck:Stmt:=top 20
abbrev sDraw:Stmt:=top 21
abbrev sNames:Stmt:=top 22
abbrev sMany:Stmt:=top 23
abbrev sWeight:Stmt:=top 24
abbrev sTie:Stmt:=top 25
abbrev sGap:Stmt:=top 26
abbrev sHistory:Stmt:=top 27
abbrev sLStand:Stmt:=top 28
abbrev sWayR:Stmt:=top 29
abbrev sCutR:Stmt:=top 30
abbrev sPaperR:Stmt:=top 31
abbrev sOdd:Stmt:=top 32
abbrev sBentR:Stmt:=top 33
abbrev sBent:Stmt:=top 34
abbrev sLWays:Stmt:=top 35
abbrev sLPaper:Stmt:=top 36
abbrev sAsked:Stmt:=top 37
abbrev sThings:Stmt:=top 38
abbrev sLaw:Stmt:=top 39
structure Txt (mg:Str→Option Value):Prop where
 steps:∃t,mg "MOST_STEPS"=some (.int 61 t)
 isinstance:mg "isinstance"=none
 int:mg "int"=none
 bool:mg "bool"=none
 tuple:mg "tuple"=none
 len:mg "len"=none
 range:mg "range"=none
 sum:mg "sum"=none
 str:mg "str"=none
 max:mg "max"=none
 min:mg "min"=none
 sorted:mg "sorted"=none
 list:mg "list"=none
 reversed:mg "reversed"=none
 all:mg "all"=none
 zip:mg "zip"=none
 set:mg "set"=none
 repr:mg "repr"=none
def StandAt (H:Hp) (st:Addr) (S:List T4):Prop:=∃rs:List Addr,H st=some (.tup (rs.map V.ref))∧TiesAt H rs S
theorem StandAt.same {H H':Hp} {st:Addr} {S:List T4} (h:StandAt H st S) (s:Same H H'):StandAt H' st S:=let ⟨rs,a,b⟩:=h;⟨rs,s _ _ a,b.same s⟩
def spStandB:Sp:=fun vs H Q _=>∃(h:Addr) (N:Nat) (ds:List Dd) (n:Nat),vs=[.ref h,.int (n:Int)]∧HistAt H h N ds∧Right N ds∧n≤ds.length∧∀st S H',Same H H'→StandAt H' st S→Srtd S (thr (ds.take n))→Q (.ref st) H'
theorem rows_stand {H H':Hp} {qs qs':List Srt.Row} {S:List T4} {st:Addr} (hat:∀q∈qs,IsTie q.2∧H q.1=some (.tup (q.2.map kV))) (hS:(qs.map fun q=>tieOf q.2).Perm S) (perm:qs'.Perm qs) (srt:qs'.Pairwise fun a b=>Srt.ltR b.2 a.2=false) (s:Same H H') (hst:H' st=some (.tup (qs'.map Srt.rRef))):
  StandAt H' st (qs'.map fun q=>tieOf q.2)∧Srtd (qs'.map fun q=>tieOf q.2) S:=by
 have hk:∀q∈qs',Bj (tieOf q.2)=q.2:=fun q hq=>by
  obtain ⟨⟨t,e⟩,_⟩:=hat q (perm.mem_iff.mp hq)
  rw [e,tieOf_keys]
 refine ⟨⟨qs'.map (·.1),?_,?_⟩,(perm.map _).trans hS,?_⟩
 ·have:(qs'.map (·.1)).map V.ref=qs'.map Srt.rRef:=by rw [List.map_map];rfl
  rw [this];exact hst
 ·refine ⟨by simp,fun i a t ha ht=> ?_⟩
  obtain ⟨q,hq,rfl⟩:=Bs ha
  rw [List.getElem?_map,hq] at ht
  cases ht
  obtain ⟨⟨t,e⟩,h9⟩:=hat q (perm.mem_iff.mp (List.mem_of_getElem? hq))
  show _=some (HO.tup (tieV (tieOf q.2)))
  rw [e,tieOf_keys,←keys_tieV,←e]
  exact s _ _ h9
 ·rw [List.pairwise_map]
  refine srt.imp_of_mem fun {a b} ha hb h=> ?_
  rw [hk a ha,hk b hb];exact h
def overV (S:List T4) (v:Nat):V→Option Nat
 | .str n=>overF S v n
 |_=>none
def goV (S:List T4):Nat→List V→Option Nat
 |v,[]=>some v
 |v,x::xs=>match overV S v x with
  |none=>none
  |some u=>goV S u xs
def ovV:Option Nat→V
 |none=> .non
 |some u=> .int (u:Int)
def wayV (S:List T4) (p:Nat) (xs:List V) (q:Nat):Bool:=decide (xs.length≤61) && decide (goV S p xs=some q)
def whV (v:V) (lo hi:Int):Bool:=match v with
 | .int i=>decide (lo≤i) && decide (i≤hi)
 |_=>false
def plV (N:Nat) (x:V):Bool:=whV x 0 ((N:Int) - 1)
def asI:V→Int
 | .int i=>i
 |_=>0
def risB (ns:List Int):Bool:=(ns.zip (ns.drop 1)).all fun p=>decide (p.1<p.2)
def plsB (N:Nat) (xs:List V):Bool:=xs.all (plV N) && risB (xs.map asI)
def clB (S:List T4) (ns:List Int):Bool:=S.all fun t=> !(decide ((t.2.1:Int)∈ns) !=decide ((t.2.2.1:Int)∈ns))
def ThV (H:Hp) (v:V):Option (List V)→Prop
 |none=>NotT H v
 |some xs=>∃cu,v= .ref cu∧H cu=some (.tup xs)∧(∀x∈xs,An H x)∧xs.length≤900
theorem ThV.same {H H':Hp} {v:V} {o:Option (List V)} (h:ThV H v o) (s:Same H H'):ThV H' v o:=by
 cases o with
 |none=>exact NotT.same h s
 |some xs=>obtain ⟨cu,e,h1,h2,h3⟩:=h;exact ⟨cu,e,s _ _ h1,fun x hx=>(h2 x hx).same s,h3⟩
def cutO (N:Nat) (S:List T4) (p q:Int):Option (List V)→Bool
 |none=>false
 |some xs=>plsB N xs && (decide ((p:Int)∈xs.map asI) && (!decide ((q:Int)∈xs.map asI) && clB S (xs.map asI)))
def wayO (S:List T4) (p q:Nat):Option (List V)→Bool
 |none=>false
 |some xs=>wayV S p xs q
def plsO (N:Nat):Option (List V)→Bool
 |none=>false
 |some xs=>plsB N xs
def spWhole:Sp:=fun vs H Q _=>∃v:V,vs=[v]∧An H v∧Q (.bl (isIn v)) H
def spWithin:Sp:=fun vs H Q _=>∃(v:V) (lo hi:Int),vs=[v,.int lo,.int hi]∧An H v∧Q (.bl (whV v lo hi)) H
def spIsPl:Sp:=fun vs H Q _=>∃(N:Nat) (x:V),vs=[.int (N:Int),x]∧An H x∧Q (.bl (plV N x)) H
def spIsPls:Sp:=fun vs H Q _=>∃(N:Nat) (v:V) (o:Option (List V)),vs=[.int (N:Int),v]∧ThV H v o∧∀H',Same H H'→Q (.bl (plsO N o)) H'
def spOut:Sp:=fun vs H Q _=>∃(st cu:Addr) (S:List T4) (ns:List Int),vs=[.ref st,.ref cu]∧StandAt H st S∧S.length≤100∧H cu=some (.tup (ns.map V.int))∧∀(l:Addr) (fs:List Addr) (H':Hp),Same H H'→H' l=some (.lst (fs.map V.ref))→fs.isEmpty=clB S ns→Q (.ref l) H'
def spIsCut:Sp:=fun vs H Q _=>∃(N:Nat) (st:Addr) (S:List T4) (p q:Int) (v:V) (o:Option (List V)),vs=[.int (N:Int),.ref st,.int (p:Int),.int (q:Int),v]∧StandAt H st S∧S.length≤100∧ThV H v o∧∀H',Same H H'→Q (.bl (cutO N S p q o)) H'
def spCutR:Sp:=spIsCut
def spOver:Sp:=fun vs H Q _=>∃(st:Addr) (S:List T4) (p:Nat) (x:V),vs=[.ref st,.int (p:Int),x]∧An H x∧StandAt H st S∧(S.map (·.1)).Nodup∧∀H',Same H H'→Q (ovV (overV S p x)) H'
def spLeads:Sp:=fun vs H Q _=>∃(st wa:Addr) (S:List T4) (xs:List V) (p q:Nat),vs=[.ref st,.int (p:Int),.int (q:Int),.ref wa]∧StandAt H st S∧(S.map (·.1)).Nodup∧H wa=some (.tup xs)∧(∀x∈xs,An H x)∧∀H',Same H H'→Q (.bl (decide (goV S p xs=some q))) H'
def spIsWay:Sp:=fun vs H Q _=>∃(st:Addr) (S:List T4) (v:V) (o:Option (List V)) (p q:Nat),vs=[.ref st,.int (p:Int),.int (q:Int),v]∧StandAt H st S∧(S.map (·.1)).Nodup∧ThV H v o∧∀H',Same H H'→Q (.bl (wayO S p q o)) H'
def spWayR:Sp:=fun vs H Q _=>∃(st:Addr) (S:List T4) (v:V) (o:Option (List V)) (p q:Nat),vs=[.ref st,.int (p:Int),.int (q:Int),v]∧StandAt H st S∧S.length≤100∧(S.map (·.1)).Nodup∧ThV H v o∧∀H',Same H H'→Q (.bl (wayO S p q o)) H'
inductive PrV (H:Hp) (v:V):Option (V×V×Option (List V))→Prop
 |no:NotT H v→PrV H v none
 |len (r:Addr) (xs:List V):v= .ref r→H r=some (.tup xs)→(∀x∈xs,An H x)→xs.length≠2→PrV H v none
 |pair (r:Addr) (w t:V) (o:Option (List V)):v= .ref r→H r=some (.tup [w,t])→An H w→ThV H t o→PrV H v (some (w,t,o))
theorem PrV.same {H H':Hp} {v:V} {o:Option (V×V×Option (List V))} (h:PrV H v o) (s:Same H H'):PrV H' v o:=by
 cases h with
 |no h=>exact .no (h.same s)
 |len r xs e h1 h2 h3=>exact .len r xs e (s _ _ h1) (fun x hx=>(h2 x hx).same s) h3
 |pair r w t o e h1 h2 h3=>exact .pair r w t o e (s _ _ h1) (h2.same s) (h3.same s)
def papO (N:Nat) (S:List T4) (p q:Nat):Option (V×V×Option (List V))→Bool
 |none=>false
 |some (w,_,o)=>if w= .str "joined" then wayO S p q o else decide (w= .str "parted") && cutO N S p q o
def spPaper:Sp:=fun vs H Q _=>∃(h:Addr) (v:V) (N:Nat) (ds:List Dd) (n p q:Nat) (S:List T4) (o:Option (V×V×Option (List V))),vs=[.ref h,.int (n:Int),.int (p:Int),.int (q:Int),v]∧HistAt H h N ds∧Right N ds∧n≤ds.length∧Srtd S (thr (ds.take n))∧PrV H v o∧∀H',Same H H'→Q (.bl (papO N S p q o)) H'
def spPaperR:Sp:=fun vs H Q _=>∃(st:Addr) (v:V) (N:Nat) (p q:Nat) (S:List T4) (o:Option (V×V×Option (List V))),vs=[.int (N:Int),.ref st,.int (p:Int),.int (q:Int),v]∧StandAt H st S∧S.length≤100∧(S.map (·.1)).Nodup∧PrV H v o∧∀H',Same H H'→Q (.bl (papO N S p q o)) H'
theorem srtd_in {N:Nat} {ds:List Dd} (hR:Right N ds) {n:Nat} (hn:n≤ds.length) {S:List T4} (h:Srtd S (thr (ds.take n))):InN N S∧(S.map (·.1)).Nodup∧S.length≤60:=by
 have tk:=thr_ok hR n hn
 refine ⟨fun t ht=> ?_,?_,?_⟩
 ·have:=tk.ok t (h.1.mem_iff.mp ht)
  exact ⟨this.1,this.2.1⟩
 ·rw [List.Perm.nodup_iff (h.1.map _)];exact tk.nd
 ·rw [h.1.length_eq]
  have:=thr_len ds n
  have:=hR.len
  omega
theorem drop_atV {ws:List V} {i:Nat} {n:V} (hn:ws[i]? =some n):ws.drop i=n::ws.drop (i+1):=by
 have hi:i<ws.length:=(List.getElem?_eq_some_iff.mp hn).1
 rw [List.drop_eq_getElem_cons hi]
 congr 1
 have:=getq hi
 rw [hn] at this
 exact (Option.some.inj this).symm
theorem in_ends (v a b:Nat):inV (.int (v:Int)) [.int (a:Int),.int (b:Int)]=decide (v=a∨v=b):=by
 have:=inV_ints (v:Int) [(a:Int),(b:Int)]
 rw [show ([(a:Int),(b:Int)].map V.int)=[.int (a:Int),.int (b:Int)] from rfl] at this
 rw [this,Bool.eq_iff_iff,decide_eq_true_eq,decide_eq_true_eq]
 simp only [List.mem_cons,List.not_mem_nil,or_false]
 omega
theorem over_end {S:List T4} (nd:(S.map (·.1)).Nodup) {t:T4} (ht:t∈S) {v:Nat} (g:v=t.2.1∨v=t.2.2.1):ovV (overF S v t.1)= .int ((t.2.1:Int)+(t.2.2.1:Int) - (v:Int)):=by
 have:=over_tie nd ht
 rcases g with rfl|rfl
 ·rw [this.1];show V.int _=_;congr 1;omega
 ·rw [this.2];show V.int _=_;congr 1;omega
theorem ints_of {N:Nat} {xs:List V} (h:xs.all (plV N)=true):xs=(xs.map asI).map V.int:=by
 induction xs with
 |nil=>rfl
 |cons x xs ih=>
  rw [List.all_cons,Bool.and_eq_true] at h
  rw [List.map_cons,List.map_cons,←ih h.2]
  cases x with
  |int i=>rfl
  |_=>cases h.1
theorem zip_get {ns:List Int} {i:Nat} {a b:Int} (h1:ns[i]? =some a) (h2:(ns.drop 1)[i]? =some b):(ns.zip (ns.drop 1))[i]? =some (a,b):=by
 rw [List.getElem?_zip_eq_some];exact ⟨h1,h2⟩
def goR (N:Nat):Int→List V→Bool
 |_,[]=>true
 |l,.int i::xs=>decide (l<i) && (decide (i<(N:Int)) && goR N i xs)
 |_,_::_=>false
theorem goR_eq {N:Nat}:∀{xs:List V} {l:Int},-1≤l→goR N l xs=(xs.all (plV N) && ((match xs.map asI with|[]=>true|n::_=>decide (l<n)) && risB (xs.map asI)))
 |[],l,_=>rfl
 |x::xs,l,hl=>by
  cases x with
  |int i=>
   show (decide (l<i) && (decide (i<(N:Int)) && goR N i xs))=((whV (.int i) 0 ((N:Int) - 1) && xs.all (plV N)) && (decide (l<i) && risB (i::xs.map asI)))
   have hw:whV (.int i) 0 ((N:Int) - 1)=(decide (0≤i) && decide (i≤(N:Int) - 1)):=rfl
   rw [hw]
   by_cases h1:l<i
   ·have h0:0≤i:=by omega
    rw [decide_eq_true h1,decide_eq_true h0,Bool.true_and,Bool.true_and,Bool.true_and]
    by_cases h2:i<(N:Int)
    ·rw [decide_eq_true h2,decide_eq_true (show i≤(N:Int) - 1 by omega),Bool.true_and,Bool.true_and,goR_eq (xs:=xs) (l:=i) (by omega)]
     congr 1
     cases xs with
     |nil=>rfl
     |cons y ys=>rfl
    ·rw [decide_eq_false h2,decide_eq_false (show ¬i≤(N:Int) - 1 by omega),Bool.false_and,Bool.false_and,Bool.false_and]
   ·rw [decide_eq_false h1,Bool.false_and,Bool.false_and,Bool.and_false]
  |_=>rfl
theorem goR_all {N:Nat} {xs:List V}:goR N (-1) xs=plsB N xs:=by
 rw [goR_eq (by omega)]
 unfold plsB
 cases h:xs.all (plV N) with
 |false=>rfl
 |true=>
  rw [Bool.true_and,Bool.true_and]
  cases xs with
  |nil=>rfl
  |cons x xs=>
   rw [List.all_cons,Bool.and_eq_true] at h
   cases x with
   |int i=>
    have h1:(decide (0≤i) && decide (i≤(N:Int) - 1))=true:=h.1
    rw [Bool.and_eq_true,decide_eq_true_eq] at h1
    show (decide (-1<i) && _)=_
    rw [decide_eq_true (by omega),Bool.true_and]
   |_=>cases h.1
section
variable {P:Program} {w:World} {K:PySem.W.Frag} {mg:Str→Option Value} {base:Heap}
theorem scStandB:Aw ["history","n","there","deed","name"] ["history","n"] (Ag sStandB):=⟨rfl,rfl,rfl,by decide+kernel,rfl,by decide+kernel,by decide+kernel⟩
theorem ok_StandB {f:Addr} {fd:FuncData} (F:Fun K "stand_behind" "stand_behind" sStandB f fd) (T:Txt mg):
  FnOk P w K mg base CX0 1 f fd ["history","n"] spStandB:=by
 refine F.ok scStandB (fun vs H Q E h=> ?_) (fun cdv A outer s H vs Q E hr h=> ?_)
 ·obtain ⟨_,_,_,_,rfl,_⟩:=h;rfl
 ·obtain ⟨h,N,ds,n,rfl,⟨tp,rs,eh,et,hdd⟩,hR,hn,k⟩:=h
  refine ⟨_,Ad (Ak (i:=2) scStandB.nd rfl (Or.inl rfl) pe_dnewK)
   (Ad (Ca PassesOwn.never rfl (pi_tup (PE.imp' (t':=tTakeH K 0 1) (A3 Bt (Av A2 (pv 0) Af (fun _ _=>rfl)) Bh (A4 (pv 1))) takeH_ok)) (Az (i:=3) scStandB.nd rfl (Or.inl rfl)) (Ad (Ak (i:=4) scStandB.nd rfl (Or.inl rfl) (Av A2 (pv 3) Af (fun _ _=>rfl)))
   (Ah (Ba (Ar Cc (Av A2 (pv 3) Af (fun _ _=>rfl)) Bg (As _)) (Ah (ps_dput (hu_of hr) (pv 2) (pv 4) (A3 sl_tup (pv 3) (A4 Af) Bh) rfl)) (Ah (ps_ddel (pv 2) (pv 4)))))))
   (Ah (Ao (Be call_tuple_of (by rfl) T.tuple (by decide+kernel) (Aa (Aj (Srt.call_sortedV rfl) (by rfl) T.sorted (by decide+kernel) (Aa (Srt.pe_dvals (pv 2) rfl rfl) Ac)) Ac))))),?_⟩
  refine fun th hth=> ?_
  have s1:=Ae (o:= .dK []) hth
  have d1:=Ab (H:=H) (a:=th) (o:= .dK [])
  generalize upd H th (.dK [])=H1 at s1 d1
  have lrs:=hdd.1
  refine ⟨h,tp,_,n,rs.map V.ref,rfl,rfl,s1 _ _ eh,s1 _ _ et,by rw [List.length_map];omega,fun p0 H2 s2 hp0=> ?_⟩
  rw [←List.map_take] at hp0
  have n60:=hR.len
  refine ⟨p0,rfl,⟨_,SqT.of hp0⟩,for_tup (K:=K) (a:=p0) (xs:=(rs.take n).map V.ref) (fun i σ H3=>∃(x3 x4:Option V) (ps:Ps),σ=[some (.ref h),some (.int (n:Int)),some (.ref th),x3,x4]∧Same H H3∧H3 p0=some (.tup ((rs.take n).map V.ref))∧ThF H3 th ps∧ps.map (·.1)=thr (ds.take i)) ⟨none,none,[],rfl,s1.trans s2,hp0,⟨s2 _ _ d1,by simp⟩,rfl⟩ (fun i σ H3 _ ⟨_,_,_,_,_,e,_⟩=>SqT.of e) ?_ ?_⟩
  ·rintro i x σ H3 hx ⟨x3,x4,ps,rfl,s3,p3,T3,fs⟩
   obtain ⟨r,er,rfl⟩:=Bs hx
   have li:i<n:=by have:=(List.getElem?_eq_some_iff.mp er).1;rw [List.length_take] at this;omega
   rw [List.getElem?_take_of_lt li] at er
   obtain ⟨dd,ed,r0⟩:=hdd.get er
   have r3:=s3 _ _ r0
   have hok:=hR.ok i dd ed
   have tl:=thr_len ds i
   have pl:ps.length≤60:=by rw [←List.length_map (f:=(·.1)),fs];omega
   have tok:=thr_ok hR i (by omega)
   rw [take_snoc ed,thr_snoc]
   cases dd with
   |come m t=>
    have nf:t.1 ∉ ps.map (·.1.1):=by rw [←ps_names,fs];exact hok.1
    refine ⟨_,rfl,r,_,2,_,rfl,rfl,SqT.of r3,Al (j:=2) rfl,?_⟩
    refine ⟨_,rfl,r,_,0,_,rfl,rfl,SqT.of r3,Al (j:=0) rfl,rfl,_,rfl,Bi ?_⟩
    refine ⟨_,rfl,_,rfl,r,_,rfl,SqT.of r3,(fun q=>absurd (show (2:Nat)=0 from q.1) (by decide)),fun p hp=> ?_⟩
    have ec:Bx (Dd.come m t).vs (some 2) none=tieV t:=rfl
    rw [ec]
    have s4:=Ae (o:= .tup (tieV t)) hp
    have p4:=Ab (H:=H3) (a:=p) (o:= .tup (tieV t))
    generalize upd H3 p (.tup (tieV t))=H4 at s4 p4
    have d4:=s4 _ _ T3.1
    refine ⟨_,rfl,_,rfl,th,_,rfl,DPut.k (k:=Sum.inr t.1) d4 (A8 (by unfold psK;rw [List.length_map];omega)),?_⟩
    rw [psK_put nf]
    refine ⟨_,_,ps++[(t,p)],rfl,same_set (s3.trans s4) hth,by rw [Ap (Cd (s4 _ _ p3) d4 (by intro z;cases z))];exact s4 _ _ p3,⟨Ab,fun q hq=> ?_⟩,by rw [List.map_append,fs];rfl⟩
    rcases List.mem_append.mp hq with hq|hq
    ·rw [Ap (Cd (s4 _ _ (T3.2 q hq)) d4 (by intro z;cases z))];exact s4 _ _ (T3.2 q hq)
    ·rw [List.mem_singleton.mp hq,Ap (Cd p4 d4 (by intro z;cases z))];exact p4
   |go m nn=>
    refine ⟨_,rfl,r,_,2,_,rfl,rfl,SqT.of r3,Al (j:=2) rfl,?_⟩
    refine ⟨_,rfl,r,_,0,_,rfl,rfl,SqT.of r3,Al (j:=0) rfl,rfl,_,rfl,Bb ?_⟩
    have hin:(B0 (psK ps) (Sum.inr nn)).isSome=true:=by
     rw [val_has,decide_eq_true_eq,←ps_names,fs];exact hok
    refine ⟨_,rfl,_,rfl,th,_,Sum.inr nn,rfl,T3.1,rfl,hin,?_⟩
    rw [psK_drop]
    refine ⟨_,_,ps.filter (fun p=>decide (p.1.1≠nn)),rfl,same_set s3 hth,by rw [Ap (Cd p3 T3.1 (by intro z;cases z))];exact p3,⟨Ab,fun q hq=> ?_⟩,by rw [ps_filt,fs];rfl⟩
    rw [Ap (Cd (T3.2 q (List.mem_filter.mp hq).1) T3.1 (by intro z;cases z))];exact T3.2 q (List.mem_filter.mp hq).1
  ·rintro σ H3 ⟨x3,x4,ps,rfl,s3,p3,T3,fs⟩
   have en:((rs.take n).map V.ref).length=n:=by rw [List.length_map,List.length_take];omega
   rw [en] at fs
   have tl:=thr_len ds n
   have pl:ps.length≤60:=by rw [←List.length_map (f:=(·.1)),fs];omega
   refine ⟨_,rfl,th,_,rfl,T3.1,fun v hv=> ?_⟩
   have s4:=Ae (o:= .frz (Srt.viewO th) (.own 0)) hv
   have v4:=Ab (H:=H3) (a:=v) (o:= .frz (Srt.viewO th) (.own 0))
   generalize upd H3 v (.frz (Srt.viewO th) (.own 0))=H4 at s4 v4
   have hat:∀q∈ps.map (fun p=>((p.2,Bj p.1):Srt.Row)),IsTie q.2∧H4 q.1=some (.tup (q.2.map kV)):=fun q hq=>by
    obtain ⟨p,hp,rfl⟩:=List.mem_map.mp hq
    exact ⟨⟨_,rfl⟩,s4 _ _ (T3.2 p hp)⟩
   refine ⟨v,th,psK ps,ps.map (fun p=>((p.2,Bj p.1):Srt.Row)),rfl,v4,s4 _ _ T3.1,?_,⟨fun q hq=>SqT.of (hat q hq).2,fun q hq q' hq'=> ?_,fun q hq=> ?_,by rw [List.length_map];omega⟩,fun l ps' hl pp pw=> ?_⟩
   ·unfold psK
    rw [List.map_map,List.map_map]
    rfl
   ·obtain ⟨⟨t,e⟩,_⟩:=hat q hq
    obtain ⟨⟨t',e'⟩,_⟩:=hat q' hq'
    rw [e,e'];rfl
   ·obtain ⟨⟨t,e⟩,_⟩:=hat q hq
    rw [e];simp [Bj]
   have sl:=Ae (o:= .lst (ps'.map Srt.rRef)) hl
   have l5:=Ab (H:=H4) (a:=l) (o:= .lst (ps'.map Srt.rRef))
   generalize upd H4 l (.lst (ps'.map Srt.rRef))=H5 at sl l5
   refine ⟨l,_,rfl,.inl ⟨SqL.of l5,fun st hst=> ?_⟩⟩
   have ss:=Ae (o:= .tup (ps'.map Srt.rRef)) hst
   have hS:((ps.map (fun p=>((p.2,Bj p.1):Srt.Row))).map fun q=>tieOf q.2).Perm (thr (ds.take n)):=by
    rw [List.map_map,←fs]
    refine List.Perm.of_eq (List.map_congr_left fun p _=>tieOf_keys p.1)
   obtain ⟨x1,x2⟩:=rows_stand hat hS pp pw (sl.trans ss) Ab
   exact k st _ _ (((s3.trans s4).trans sl).trans ss) x1 x2
theorem scWhole:Aw ["thing"] ["thing"] (Ag sWhole):=⟨rfl,rfl,rfl,by decide+kernel,rfl,by decide+kernel,by decide+kernel⟩
theorem ok_Whole {f:Addr} {fd:FuncData} (F:Fun K "is_whole" "is_whole" sWhole f fd) (T:Txt mg):
  FnOk P w K mg base CX0 1 f fd ["thing"] spWhole:=by
 refine F.ok scWhole (fun vs H Q E h=> ?_) (fun cdv A outer s H vs Q E hr h=> ?_)
 ·obtain ⟨_,rfl,_⟩:=h;rfl
 ·obtain ⟨v,rfl,hv,k⟩:=h
  refine ⟨_,Ah (Ao (pe_and (Aj Bd (by rfl) T.isinstance (by decide+kernel) (Aa (pv 0) (Aa (pe_ty (T:="int") (by rfl) T.int (by decide+kernel)) Ac))) (pe_one (pe_not (Aj Bd (by rfl) T.isinstance (by decide+kernel) (Aa (pv 0) (Aa (pe_ty (T:="bool") (by rfl) T.bool (by decide+kernel)) Ac))))))),?_⟩
  obtain ⟨t,h1,h2⟩:=hv.int (K:=K)
  obtain ⟨t2,h3,h4⟩:=hv.bool (K:=K)
  cases v with
  |int i=>exact ⟨_,rfl,_,_,"int",true,rfl,h1,h2,_,rfl,Bi ⟨_,rfl,_,_,"bool",false,rfl,h3,h4,_,rfl,k⟩⟩
  |bl y=>exact ⟨_,rfl,_,_,"int",true,rfl,h1,h2,_,rfl,Bi ⟨_,rfl,_,_,"bool",true,rfl,h3,h4,_,rfl,k⟩⟩
  |_=>exact ⟨_,rfl,_,_,"int",false,rfl,h1,h2,_,rfl,Bb k⟩
theorem scWithin:Aw ["thing","low","high"] ["thing","low","high"] (Ag sWithin):=⟨rfl,rfl,rfl,by decide+kernel,rfl,by decide+kernel,by decide+kernel⟩
theorem ok_Within {f:Addr} {fd:FuncData} (F:Fun K "is_within" "is_within" sWithin f fd) (T:Txt mg)
  {gWhole:Addr} {fWhole:FuncData} (kWhole:PySem.W.keepIn K (.ref gWhole)=true) (bWhole:Binds K fWhole ["thing"] []) (hWhole:mg "is_whole"=some (.ref gWhole)) (GWhole:FnOk P w K mg base CX0 1 gWhole fWhole ["thing"] spWhole):
  FnOk P w K mg base CX0 2 f fd ["thing","low","high"] spWithin:=by
 refine F.ok scWithin (fun vs H Q E h=> ?_) (fun cdv A outer s H vs Q E hr h=> ?_)
 ·obtain ⟨_,_,_,rfl,_⟩:=h;rfl
 ·obtain ⟨v,lo,hi,rfl,hv,k⟩:=h
  refine ⟨_,Ah (Ao (pe_and (Ai GWhole hr rfl hWhole kWhole bWhole .nil Aq (Aa (pv 0) Ac)) (pe_one (pe_chain op_le op_le (pv 1) (pv 0) (pv 2))))),?_⟩
  refine ⟨_,rfl,v,rfl,hv,_,rfl,?_⟩
  cases v with
  |int i=>
   refine Bi ⟨_,rfl,_,rfl,_,_,rfl,rfl,_,rfl,?_⟩
   have k:Q (.bl (decide (lo≤i) && decide (i≤hi))) H:=k
   by_cases g:lo≤i
   ·rw [decide_eq_true g] at k ⊢
    exact Bi ⟨_,rfl,_,_,rfl,rfl,k⟩
   ·rw [decide_eq_false g] at k ⊢
    exact Bb k
  |_=>exact Bb k
theorem scIsPl:Aw ["many","thing"] ["many","thing"] (Ag sIsPl):=⟨rfl,rfl,rfl,by decide+kernel,rfl,by decide+kernel,by decide+kernel⟩
theorem ok_IsPl {f:Addr} {fd:FuncData} (F:Fun K "is_place" "is_place" sIsPl f fd) (T:Txt mg)
  {gWithin:Addr} {fWithin:FuncData} (kWithin:PySem.W.keepIn K (.ref gWithin)=true) (bWithin:Binds K fWithin ["thing","low","high"] []) (hWithin:mg "is_within"=some (.ref gWithin)) (GWithin:FnOk P w K mg base CX0 2 gWithin fWithin ["thing","low","high"] spWithin):
  FnOk P w K mg base CX0 3 f fd ["many","thing"] spIsPl:=by
 refine F.ok scIsPl (fun vs H Q E h=> ?_) (fun cdv A outer s H vs Q E hr h=> ?_)
 ·obtain ⟨_,_,rfl,_⟩:=h;rfl
 ·obtain ⟨N,x,rfl,hx,k⟩:=h
  refine ⟨_,Ah (Ao (Ai GWithin hr rfl hWithin kWithin bWithin .nil Aq (Aa (pv 1) (Aa Af (Aa (Am op_sub (pv 0) Af) Ac))))),?_⟩
  exact ⟨_,rfl,_,rfl,_,_,rfl,rfl,x,_,_,rfl,hx,k⟩
theorem scIsPls:Aw ["many","thing"] ["many","thing"] (Ag sIsPls):=⟨rfl,rfl,rfl,by decide+kernel,rfl,by decide+kernel,by decide+kernel⟩
theorem ok_IsPls {f:Addr} {fd:FuncData} (F:Fun K "is_places" "is_places" sIsPls f fd) (T:Txt mg)
  {gIsPl:Addr} {fIsPl:FuncData} (kIsPl:PySem.W.keepIn K (.ref gIsPl)=true) (bIsPl:Binds K fIsPl ["many","thing"] []) (hIsPl:mg "is_place"=some (.ref gIsPl)) (GIsPl:FnOk P w K mg base CX0 3 gIsPl fIsPl ["many","thing"] spIsPl):
  FnOk P w K mg base CX0 4 f fd ["many","thing"] spIsPls:=by
 refine F.ok scIsPls (fun vs H Q E h=> ?_) (fun cdv A outer s H vs Q E hr h=> ?_)
 ·obtain ⟨_,_,_,rfl,_⟩:=h;rfl
 ·obtain ⟨N,v,o,rfl,hth,k⟩:=h
  refine ⟨_,Ad (Ba (PW.pt (pw_or (pt_not (Br (Aj Bd (by rfl) T.isinstance (by decide+kernel) (Aa (pv 1) (Aa (pe_ty (T:="tuple") (by rfl) T.tuple (by decide+kernel)) Ac))))) (pw_or1 (pt_not (Br (Aj (call_all rfl) (by rfl) T.all (by decide+kernel) (Aa (pe_comp (T:=["place"]) (F:=["many"]) (js:=[0]) (CS.to (osc:=Ag sIsPls) ⟨by rfl,by decide+kernel,by decide+kernel,by decide+kernel,by decide+kernel,by decide+kernel,by decide+kernel⟩ rfl rfl) rfl (pi_tup (pv 1)) (fun _ _ _ _ _=>Az (i:=0) (show (["place","many"]:List Str).Nodup by decide+kernel) rfl (Or.inl rfl)) (fun _ _ _ _ _=>pif_nil) (fun _ _ _ _ _=>Ai GIsPl hr rfl hIsPl kIsPl bIsPl .nil Aq (Aa (pv 1) (Aa (pv 0) Ac)))) Ac))))))) (Ah (Ao pe_bl)) Ax)
   (Ah (Ao (Aj (call_all rfl) (by rfl) T.all (by decide+kernel) (Aa (pe_comp (T:=["ahead","place"]) (F:=[]) (js:=[]) (CS.to (osc:=Ag sIsPls) ⟨by rfl,by decide+kernel,by decide+kernel,by decide+kernel,by decide+kernel,by decide+kernel,by decide+kernel⟩ rfl rfl) rfl (pi_zip rfl T.zip (Aa (pv 1) (Aa (A3 Bt (pv 1) (A4 Af) Bh) Ac))) (fun _ _ _ _ _=>pg_tupK K 2 rfl rfl (Bp (Az (i:=0) (show (["ahead","place"]:List Str).Nodup by decide+kernel) rfl (Or.inl rfl)) (Bp (Az (i:=1) (show (["ahead","place"]:List Str).Nodup by decide+kernel) rfl (Or.inl rfl)) pgs_nil))) (fun _ _ _ _ _=>pif_nil) (fun _ _ _ _ _=>Bk op_lt (pv 0) (pv 1) (As _))) Ac)))),?_⟩
  cases o with
  |none=>
   obtain ⟨ty,h1,h2⟩:=NotT.tup (K:=K) hth
   exact ⟨_,rfl,v,ty,"tuple",false,rfl,h1,h2,_,rfl,Bi (k H (Ay _))⟩
  |some xs=>
  obtain ⟨cu,rfl,hc,hb,xl⟩:=hth
  have k2:∀H',Same H H'→Q (.bl (xs.all (plV N) && risB (xs.map asI))) H':=k
  clear k
  have k:=k2
  clear k2
  refine ⟨_,rfl,.ref cu,.type "tuple","tuple",true,rfl,.tup hc,rfl,_,rfl,Bb ?_⟩
  refine ⟨_,rfl,cu,rfl,⟨_,SqT.of hc⟩,fun D hD=>comp_tup (K:=K) (a:=cu) (xs:=xs) (fun j σ ys H6=>∃(u:Option V),σ=[u,some (.int (N:Int))]∧ys=((xs.take j).map (plV N)).map V.bl∧H6=upd H D (.lst ys)) ⟨none,rfl,rfl,rfl⟩ (fun j σ ys H6 _ ⟨_,_,_,e⟩=>by rw [e];exact ⟨SqT.of (by rw [Ap (A0 hc hD)];exact hc),Ab⟩) ?_ ?_⟩
  ·rintro j x σ ys H6 hx ⟨u,rfl,rfl,rfl⟩
   have hj:j<xs.length:=(List.getElem?_eq_some_iff.mp hx).1
   have tk:(xs.take (j+1)).map (plV N)=(xs.take j).map (plV N)++[plV N x]:=by rw [List.take_add_one,hx,List.map_append];rfl
   exact ⟨_,rfl,_,rfl,N,x,rfl,(hb x (List.mem_of_getElem? hx)).same (Ae hD),Ab,A8 (by rw [List.length_map,List.length_map,List.length_take];omega),_,rfl,by rw [tk,List.map_append];rfl,by rw [upd_upd]⟩
  rintro σ ys H6 ⟨u,rfl,rfl,rfl⟩
  rw [List.take_length]
  have sD:=Ae (o:= .lst ((xs.map (plV N)).map V.bl)) hD
  have d6:=Ab (H:=H) (a:=D) (o:= .lst ((xs.map (plV N)).map V.bl))
  generalize upd H D (.lst ((xs.map (plV N)).map V.bl))=H6 at sD d6
  refine ⟨D,_,rfl,SqL.of d6,_,rfl,?_⟩
  have eall:(xs.map (plV N)).all id=xs.all (plV N):=by rw [List.all_map];rfl
  rw [eall]
  cases hA:xs.all (plV N) with
  |false=>
   refine Bi ?_
   have:=k H6 sD
   rw [hA] at this
   exact this
  |true=>
  refine Bb ?_
  dsimp only [Bu]
  have k2:∀H',Same H H'→Q (.bl (risB (xs.map asI))) H':=fun H' s'=>by
   have:=k H' s'
   rw [hA,Bool.true_and] at this
   exact this
  clear k
  have k:=k2
  clear k2
  have exs:=ints_of hA
  have nl:(xs.map asI).length≤900:=by rw [List.length_map];exact xl
  generalize xs.map asI=ns at exs k nl
  subst exs
  clear hb xl hA eall d6
  have hc6:=sD _ _ hc
  refine ⟨_,rfl,_,rfl,_,rfl,noPart (Bz hc6 fun c2 H7 s7 e7=> ?_)⟩
  have e7:H7 c2=some (.tup ((ns.drop 1).map V.int)):=by
   have:=cutV_drop (xs:=ns.map V.int) (n:=1)
   rw [e7,List.map_drop]
   exact congrArg (fun z=>some (HO.tup z)) this
  have hc7:=s7 _ _ hc6
  refine ⟨cu,c2,_,_,rfl,SqT.of hc7,SqT.of e7,fun E hE=>comp_zip (K:=K) (a:=cu) (b:=c2) (xs:=ns.map V.int) (ys:=(ns.drop 1).map V.int) (fun j σ zs H8=>∃(u v:Option V),σ=[u,v]∧Same H7 H8∧H8 E=some (.lst zs)∧zs=(((ns.zip (ns.drop 1)).take j).map fun p=>decide (p.1<p.2)).map V.bl) ⟨none,none,rfl,Ae hE,Ab,rfl⟩ (fun j σ zs H8 _ _ ⟨_,_,_,s8,e,_⟩=>⟨SqT.of (s8 _ _ hc7),SqT.of (s8 _ _ e7),e⟩) ?_ ?_⟩
  ·rintro j x y σ zs H8 T hx hy ⟨u,v,rfl,s8,e8,rfl⟩ hT
   obtain ⟨a,ha,rfl⟩:=Bs hx
   obtain ⟨b,hb,rfl⟩:=Bs hy
   have hj:j<ns.length:=(List.getElem?_eq_some_iff.mp ha).1
   have sT:=Ae (o:= .tup [.int a,.int b]) hT
   have T9:=Ab (H:=H8) (a:=T) (o:= .tup [.int a,.int b])
   have e9:=sT _ _ e8
   generalize upd H8 T (.tup [.int a,.int b])=H9 at sT T9 e9
   have tk:((ns.zip (ns.drop 1)).take (j+1)).map (fun p=>decide (p.1<p.2))=((ns.zip (ns.drop 1)).take j).map (fun p=>decide (p.1<p.2))++[decide (a<b)]:=by rw [List.take_add_one,zip_get ha hb,List.map_append];rfl
   refine ⟨T,_,rfl,SqT.of T9,rfl,_,_,rfl,_,_,rfl,rfl,?_⟩
   exact ⟨_,rfl,_,rfl,_,_,rfl,rfl,e9,A8 (by rw [List.length_map,List.length_map,List.length_take];omega),_,_,rfl,same_set (s8.trans sT) hE,Ab,by rw [tk,List.map_append];rfl⟩
  ·rintro i σ zs H8 hi ⟨u,v,rfl,s8,e8,rfl⟩
   rw [List.take_of_length_le (by rw [List.length_zip,hi,List.length_map,List.length_map];exact Nat.le_refl _)] at e8
   refine ⟨E,_,rfl,SqL.of e8,?_⟩
   have:=k H8 ((sD.trans s7).trans s8)
   unfold risB at this
   rw [List.all_map]
   exact this
theorem scOut:Aw ["stand","places"] ["stand","places"] (Ag sOut):=⟨rfl,rfl,rfl,by decide+kernel,rfl,by decide+kernel,by decide+kernel⟩
theorem ok_Out {f:Addr} {fd:FuncData} (F:Fun K "ties_out" "ties_out" sOut f fd) (T:Txt mg):
  FnOk P w K mg base CX0 1 f fd ["stand","places"] spOut:=by
 refine F.ok scOut (fun vs H Q E h=> ?_) (fun cdv A outer s H vs Q E hr h=> ?_)
 ·obtain ⟨_,_,_,_,rfl,_⟩:=h;rfl
 ·obtain ⟨st,cu,S,ns,rfl,⟨rs,hst,hrs⟩,S100,hc,k⟩:=h
  refine ⟨_,Ah (Ao (pe_comp (T:=["tie"]) (F:=["places"]) (js:=[1]) (CS.to (osc:=Ag sOut) ⟨by rfl,by decide+kernel,by decide+kernel,by decide+kernel,by decide+kernel,by decide+kernel,by decide+kernel⟩ rfl rfl) rfl (pi_tup (pv 0)) (fun _ _ _ _ _=>Az (i:=0) (show (["tie","places"]:List Str).Nodup by decide+kernel) rfl (Or.inl rfl)) (fun _ _ _ _ _=>pif_one (Ar op_ne (Bk (r:=rIn K false) op_in_seq (Av (r:=rIxT K) A2 (pv 0) Af (fun _ _=>rfl)) (pv 1) (by rfl)) (Bk (r:=rIn K false) op_in_seq (Av (r:=rIxT K) A2 (pv 0) Af (fun _ _=>rfl)) (pv 1) (by rfl)) (As _))) (fun _ _ _ _ _=>pv 0))),?_⟩
  refine ⟨_,rfl,st,rfl,⟨_,SqT.of hst⟩,fun D hD=>comp_tup (K:=K) (a:=st) (xs:=rs.map V.ref) (fun j σ ys H6=>∃(u:Option V) (fs:List Addr),σ=[u,some (.ref cu)]∧ys=fs.map V.ref∧H6=upd H D (.lst ys)∧fs.length≤j∧fs.isEmpty=clB (S.take j) ns) ⟨none,[],rfl,rfl,rfl,Nat.le_refl _,rfl⟩ (fun j σ ys H6 _ ⟨_,_,_,_,e,_⟩=>by rw [e];exact ⟨SqT.of (by rw [Ap (A0 hst hD)];exact hst),Ab⟩) ?_ ?_⟩
  ·rintro j x σ ys H6 hx ⟨u,fs,rfl,rfl,rfl,fl,fe⟩
   obtain ⟨r,hr',rfl⟩:=Bs hx
   obtain ⟨t,ht,er⟩:=hrs.get hr'
   have hj:j<S.length:=(List.getElem?_eq_some_iff.mp ht).1
   have er6:=Ae (o:= .lst (fs.map V.ref)) hD _ _ er
   have hc6:=Ae (o:= .lst (fs.map V.ref)) hD _ _ hc
   have tk:clB (S.take (j+1)) ns=(clB (S.take j) ns && !(decide ((t.2.1:Int)∈ns) !=decide ((t.2.2.1:Int)∈ns))):=by
    unfold clB
    rw [List.take_add_one,ht,List.all_append]
    simp
   refine ⟨_,rfl,r,_,1,_,rfl,rfl,SqT.of er6,Al (j:=1) rfl,_,rfl,cu,_,rfl,.inr (SqT.of hc6),rfl,Cb _,_,rfl,r,_,2,_,rfl,rfl,SqT.of er6,Al (j:=2) rfl,_,rfl,cu,_,rfl,.inr (SqT.of hc6),rfl,Cb _,rfl,_,rfl,?_⟩
   have e1:∀z:Int,(if false=true then !inV (.int z) (ns.map V.int) else inV (.int z) (ns.map V.int))=decide (z∈ns):=fun z=>by rw [if_neg (by decide),inV_ints]
   rw [e1,e1]
   have eb:(!decide (V.bl (decide ((t.2.1:Int)∈ns))=V.bl (decide ((t.2.2.1:Int)∈ns))))=(decide ((t.2.1:Int)∈ns) !=decide ((t.2.2.1:Int)∈ns)):=by
    cases decide ((t.2.1:Int)∈ns)<;> cases decide ((t.2.2.1:Int)∈ns)<;> decide
   rw [eb]
   cases hg:(decide ((t.2.1:Int)∈ns) !=decide ((t.2.2.1:Int)∈ns)) with
   |true=>
    refine Bi ⟨_,rfl,Ab,A8 (by rw [List.length_map];omega),_,fs++[r],rfl,by rw [List.map_append];rfl,by rw [upd_upd],by rw [List.length_append];show _+1≤_;omega,?_⟩
    rw [tk,hg];simp
   |false=>
    refine Bb ⟨_,fs,rfl,rfl,rfl,by omega,?_⟩
    rw [tk,hg,fe];simp
  ·rintro σ ys H6 ⟨u,fs,rfl,rfl,rfl,fl,fe⟩
   rw [List.length_map,hrs.1,List.take_length] at fe
   exact k D fs _ (Ae hD) Ab fe
theorem scIsCut:Aw ["many","stand","one","other","thing"] ["many","stand","one","other","thing"] (Ag sIsCut):=⟨rfl,rfl,rfl,by decide+kernel,rfl,by decide+kernel,by decide+kernel⟩
theorem ok_IsCut {f:Addr} {fd:FuncData} (F:Fun K "is_cut" "is_cut" sIsCut f fd) (T:Txt mg)
  {gIsPls:Addr} {fIsPls:FuncData} (kIsPls:PySem.W.keepIn K (.ref gIsPls)=true) (bIsPls:Binds K fIsPls ["many","thing"] []) (hIsPls:mg "is_places"=some (.ref gIsPls)) (GIsPls:FnOk P w K mg base CX0 4 gIsPls fIsPls ["many","thing"] spIsPls)
  {gOut:Addr} {fOut:FuncData} (kOut:PySem.W.keepIn K (.ref gOut)=true) (bOut:Binds K fOut ["stand","places"] []) (hOut:mg "ties_out"=some (.ref gOut)) (GOut:FnOk P w K mg base CX0 4 gOut fOut ["stand","places"] spOut):
  FnOk P w K mg base CX0 5 f fd ["many","stand","one","other","thing"] spIsCut:=by
 refine F.ok scIsCut (fun vs H Q E h=> ?_) (fun cdv A outer s H vs Q E hr h=> ?_)
 ·obtain ⟨_,_,_,_,_,_,_,rfl,_⟩:=h;rfl
 ·obtain ⟨N,st,S,p,q,v,o,rfl,hst,S100,hth,k⟩:=h
  refine ⟨_,Ad (Ba (PW.pt (pw_or (pt_not (Br (Ai GIsPls hr rfl hIsPls kIsPls bIsPls .nil Aq (Aa (pv 0) (Aa (pv 4) Ac))))) (pw_or (Ar op_notIn_seq (pv 2) (pv 4) (by rfl)) (pw_or1 (Ar op_in_seq (pv 3) (pv 4) (by rfl)))))) (Ah (Ao pe_bl)) Ax)
   (Ah (Ao (Bk (op_eqNil hr.units) (Ai GOut hr rfl hOut kOut bOut .nil Aq (Aa (pv 1) (Aa (pv 4) Ac))) (Bm Ac) (As _)))),?_⟩
  refine ⟨_,rfl,_,rfl,N,v,o,rfl,hth,fun H1 s1=>⟨_,rfl,?_⟩⟩
  cases hp:plsO N o with
  |false=>
   refine Bi ?_
   have:=k H1 s1
   cases o with
   |none=>exact this
   |some xs=>
    have hp:plsB N xs=false:=hp
    have this:Q (.bl (plsB N xs && (decide ((p:Int)∈xs.map asI) && (!decide ((q:Int)∈xs.map asI) && clB S (xs.map asI))))) H1:=this
    rw [hp,Bool.false_and] at this
    exact this
  |true=>
  refine Bb ?_
  cases o with
  |none=>cases hp
  |some xs=>
  obtain ⟨cu,rfl,hc,hb,xl⟩:=hth
  have hp:plsB N xs=true:=hp
  have hA:xs.all (plV N)=true:=by unfold plsB at hp;rw [Bool.and_eq_true] at hp;exact hp.1
  have k2:∀H',Same H H'→Q (.bl (decide ((p:Int)∈xs.map asI) && (!decide ((q:Int)∈xs.map asI) && clB S (xs.map asI)))) H':=fun H' s'=>by
   have this:Q (.bl (plsB N xs && (decide ((p:Int)∈xs.map asI) && (!decide ((q:Int)∈xs.map asI) && clB S (xs.map asI))))) H':=k H' s'
   rw [hp,Bool.true_and] at this
   exact this
  clear k
  have k:=k2
  clear k2
  have exs:=ints_of hA
  generalize xs.map asI=ns at exs k
  subst exs
  have hc1:=s1 _ _ hc
  refine ⟨_,rfl,_,rfl,cu,_,rfl,.inr (SqT.of hc1),rfl,Cb _,_,rfl,?_⟩
  show if (!inV (.int (p:Int)) (ns.map V.int))=true then _ else _
  rw [inV_ints]
  by_cases g1:(p:Int)∈ns
  rotate_left
  ·rw [decide_eq_false g1]
   refine Bi ?_
   have:=k H1 s1
   rw [decide_eq_false g1,Bool.false_and] at this
   exact this
  rw [decide_eq_true g1]
  refine Bb ⟨_,rfl,_,rfl,cu,_,rfl,.inr (SqT.of hc1),rfl,Cb _,_,rfl,?_⟩
  show if (inV (.int (q:Int)) (ns.map V.int))=true then _ else _
  rw [inV_ints]
  by_cases g2:(q:Int)∈ns
  ·rw [decide_eq_true g2]
   refine Bi ?_
   have:=k H1 s1
   rw [decide_eq_true g1,decide_eq_true g2,Bool.true_and] at this
   exact this
  rw [decide_eq_false g2]
  refine Bb ?_
  dsimp only [Bu]
  refine ⟨_,rfl,_,rfl,st,cu,S,ns,rfl,hst.same s1,S100,hc1,fun l fs H2 s2 e2 fe=>⟨small (by simp),fun e he=> ?_⟩⟩
  have se:=Ae (o:= .lst []) he
  refine ⟨l,e,_,rfl,rfl,SqL.of (se _ _ e2),SqL.of Ab,?_⟩
  have:=k _ ((s1.trans s2).trans se)
  rw [decide_eq_true g1,decide_eq_false g2,Bool.true_and,Bool.not_false,Bool.true_and,←fe] at this
  have ei:(fs.map V.ref).isEmpty=fs.isEmpty:=by cases fs<;> rfl
  rw [ei]
  exact this
theorem scOver:Aw ["stand","place","thing","name","one","other","weight"] ["stand","place","thing"] (Ag sOver):=⟨rfl,rfl,rfl,by decide+kernel,rfl,by decide+kernel,by decide+kernel⟩
theorem ok_Over {f:Addr} {fd:FuncData} (F:Fun K "place_over" "place_over" sOver f fd) (T:Txt mg):
  FnOk P w K mg base CX0 1 f fd ["stand","place","thing"] spOver:=by
 refine F.ok scOver (fun vs H Q E h=> ?_) (fun cdv A outer s H vs Q E hr h=> ?_)
 ·obtain ⟨_,_,_,_,rfl,_⟩:=h;rfl
 ·obtain ⟨st,S,p,x,rfl,hx,⟨rs,hst,hrs⟩,nd,k⟩:=h
  refine ⟨_,Ad (Ca PassesOwn.never rfl (pi_tup (pv 0)) (pg_tup rfl (Bp (Az (i:=3) scOver.nd rfl (Or.inl rfl)) (Bp (Az (i:=4) scOver.nd rfl (Or.inl rfl)) (Bp (Az (i:=5) scOver.nd rfl (Or.inl rfl)) (Bp (Az (i:=6) scOver.nd rfl (Or.inl rfl)) pgs_nil))))) (Ah (Ba (PW.pt (pw_and (Ar (op_eqStr hr.units) (pv 3) (pv 2) (As _)) (pw_and1 (Ar op_in_seq (pv 1) (Bn (Aa (pv 4) (Aa (pv 5) Ac))) (by rfl))))) (Ah (Ao (Am op_sub (Am Bc (pv 4) (pv 5)) (pv 1)))) Ax)))
   (Ah (Ao pe_non)),?_⟩
  refine ⟨_,rfl,st,rfl,⟨_,SqT.of hst⟩,for_tup (K:=K) (a:=st) (xs:=rs.map V.ref) (fun i σ H5=>∃(u3 u4 u5 u6:Option V),σ=[some (.ref st),some (.int (p:Int)),some x,u3,u4,u5,u6]∧Same H H5∧∀t∈S.take i,x= .str t.1→p≠t.2.1∧p≠t.2.2.1) ⟨_,_,_,_,rfl,Ay _,by simp⟩ (fun i σ H5 _ ⟨_,_,_,_,_,s5,_⟩=>SqT.of (s5 _ _ hst)) ?_ ?_⟩
  ·rintro i y σ H5 hy ⟨u3,u4,u5,u6,rfl,s5,no⟩
   obtain ⟨r,hr',rfl⟩:=Bs hy
   obtain ⟨t,ht,er⟩:=hrs.get hr'
   have tk:S.take (i+1)=S.take i++[t]:=by rw [List.take_add_one,ht];rfl
   have tm:=List.mem_of_getElem? ht
   have no':(x= .str t.1→p≠t.2.1∧p≠t.2.2.1)→∀u∈S.take (i+1),x= .str u.1→p≠u.2.1∧p≠u.2.2.1:=fun h u hu=>by
    rw [tk] at hu
    rcases List.mem_append.mp hu with h1|h1
    ·exact no u h1
    ·rw [List.mem_singleton.mp h1];exact h
   refine ⟨r,_,rfl,SqT.of (s5 _ _ er),rfl,_,_,rfl,_,_,rfl,_,_,rfl,_,_,rfl,rfl,?_⟩
   refine ⟨_,rfl,_,rfl,.r t.1 rfl (hx.same s5) ⟨_,rfl,?_⟩⟩
   by_cases g:V.str t.1=x
   ·rw [decide_eq_true g]
    refine Bi ⟨_,rfl,_,rfl,_,rfl,small (by simp),fun q hq=> ?_⟩
    have s6:=Ae (o:= .tup [.int (t.2.1:Int),.int (t.2.2.1:Int)]) hq
    have q6:=Ab (H:=H5) (a:=q) (o:= .tup [.int (t.2.1:Int),.int (t.2.2.1:Int)])
    generalize upd H5 q (.tup [.int (t.2.1:Int),.int (t.2.2.1:Int)])=H6 at s6 q6
    refine ⟨q,_,rfl,.inr (SqT.of q6),rfl,rfl,_,rfl,?_⟩
    show if (inV (.int (p:Int)) [.int (t.2.1:Int),.int (t.2.2.1:Int)])=true then _ else _
    rw [in_ends]
    by_cases g2:p=t.2.1∨p=t.2.2.1
    ·rw [decide_eq_true g2]
     refine Bi ⟨_,rfl,_,rfl,_,_,rfl,rfl,_,rfl,_,_,rfl,rfl,?_⟩
     have:=k H6 (s5.trans s6)
     rw [←g] at this
     have this:Q (ovV (overF S p t.1)) H6:=this
     rw [over_end nd tm g2] at this
     exact this
    ·rw [decide_eq_false g2]
     refine Bb ?_
     exact ⟨_,_,_,_,rfl,s5.trans s6,no' fun _=>⟨fun e=>g2 (.inl e),fun e=>g2 (.inr e)⟩⟩
   ·rw [decide_eq_false g]
    refine Bb ?_
    exact ⟨_,_,_,_,rfl,s5,no' fun e=>absurd e.symm g⟩
  ·rintro σ H5 ⟨u3,u4,u5,u6,rfl,s5,no⟩
   rw [List.length_map,hrs.1,List.take_length] at no
   have:=k H5 s5
   have e:overV S p x=none:=by
    cases x with
    |str n=>exact over_none fun t ht e=>no t ht (by rw [e])
    |_=>rfl
   rw [e] at this
   exact this
theorem scLeads:Aw ["stand","one","other","thing","here","name"] ["stand","one","other","thing"] (Ag sLeads):=⟨rfl,rfl,rfl,by decide+kernel,rfl,by decide+kernel,by decide+kernel⟩
theorem ok_Leads {f:Addr} {fd:FuncData} (F:Fun K "leads" "leads" sLeads f fd) (T:Txt mg)
  {gOver:Addr} {fOver:FuncData} (kOver:PySem.W.keepIn K (.ref gOver)=true) (bOver:Binds K fOver ["stand","place","thing"] []) (hOver:mg "place_over"=some (.ref gOver)) (GOver:FnOk P w K mg base CX0 1 gOver fOver ["stand","place","thing"] spOver):
  FnOk P w K mg base CX0 2 f fd ["stand","one","other","thing"] spLeads:=by
 refine F.ok scLeads (fun vs H Q E h=> ?_) (fun cdv A outer s H vs Q E hr h=> ?_)
 ·obtain ⟨_,_,_,_,_,_,rfl,_⟩:=h;rfl
 ·obtain ⟨st,wa,S,ws,p,q,rfl,hst,nd,hw,hi,k⟩:=h
  refine ⟨_,Ad (Ba (pt_not (Br (Aj Bd (by rfl) T.isinstance (by decide+kernel) (Aa (pv 3) (Aa (pe_ty (T:="tuple") (by rfl) T.tuple (by decide+kernel)) Ac))))) (Ah (Ao pe_bl)) Ax)
   (Ad (Ak (i:=4) scLeads.nd rfl (Or.inl rfl) (pv 1))
   (Ad (Ca PassesOwn.never rfl (pi_tup (pv 3)) (Az (i:=5) scLeads.nd rfl (Or.inl rfl)) (Ad (Ak (i:=4) scLeads.nd rfl (Or.inl rfl) (Ai GOver hr rfl hOver kOver bOver .nil Aq (Aa (pv 0) (Aa (pv 4) (Aa (pv 5) Ac)))))
   (Ah (Ba (Ar op_isN (pv 4) pe_non (As _)) (Ah (Ao pe_bl)) Ax))))
   (Ah (Ao (Bk Cc (pv 4) (pv 2) (As _)))))),?_⟩
  refine ⟨_,rfl,.ref wa,.type "tuple","tuple",true,rfl,.tup hw,rfl,_,rfl,Bb ?_⟩
  dsimp only [Bu]
  refine ⟨_,rfl,?_⟩
  refine ⟨_,rfl,wa,rfl,⟨_,SqT.of hw⟩,for_tup (K:=K) (a:=wa) (xs:=ws) (fun i σ H5=>∃(u5:Option V) (v:Nat),σ=[some (.ref st),some (.int (p:Int)),some (.int (q:Int)),some (.ref wa),some (.int (v:Int)),u5]∧Same H H5∧goV S p ws=goV S v (ws.drop i)) ⟨_,p,rfl,Ay _,rfl⟩ (fun i σ H5 _ ⟨_,_,_,s5,_⟩=>SqT.of (s5 _ _ hw)) ?_ ?_⟩
  ·rintro i n σ H5 hn ⟨u5,v,rfl,s5,hv⟩
   rw [drop_atV hn] at hv
   have hv:goV S p ws=match overV S v n with|none=>none|some u=>goV S u (ws.drop (i+1)):=hv
   refine ⟨_,rfl,_,rfl,_,rfl,st,S,v,n,rfl,(hi n (List.mem_of_getElem? hn)).same s5,hst.same s5,nd,fun H6 s6=> ?_⟩
   cases g:overV S v n with
   |none=>
    rw [g] at hv
    refine ⟨_,rfl,rfl,_,rfl,Bi ?_⟩
    have:=k H6 (s5.trans s6)
    rw [hv] at this
    exact this
   |some u=>
    rw [g] at hv
    refine ⟨_,rfl,rfl,_,rfl,Bb ?_⟩
    exact ⟨_,u,rfl,s5.trans s6,hv⟩
  ·rintro σ H5 ⟨u5,v,rfl,s5,hv⟩
   rw [List.drop_length] at hv
   have hv:goV S p ws=some v:=hv
   refine ⟨_,rfl,_,rfl,rfl,?_⟩
   have:=k H5 s5
   rw [hv] at this
   rw [show decide (V.int (v:Int)=V.int (q:Int))=decide (some v=some q) by
    rw [Bool.eq_iff_iff,decide_eq_true_eq,decide_eq_true_eq]
    constructor
    ·intro e;injection e with e;rw [show v=q by omega]
    ·intro e;injection e with e;rw [e]]
   exact this
theorem scIsWay:Aw ["stand","one","other","thing"] ["stand","one","other","thing"] (Ag sIsWay):=⟨rfl,rfl,rfl,by decide+kernel,rfl,by decide+kernel,by decide+kernel⟩
theorem ok_IsWay {f:Addr} {fd:FuncData} (F:Fun K "is_way" "is_way" sIsWay f fd) (T:Txt mg)
  {gLeads:Addr} {fLeads:FuncData} (kLeads:PySem.W.keepIn K (.ref gLeads)=true) (bLeads:Binds K fLeads ["stand","one","other","thing"] []) (hLeads:mg "leads"=some (.ref gLeads)) (GLeads:FnOk P w K mg base CX0 2 gLeads fLeads ["stand","one","other","thing"] spLeads):
  FnOk P w K mg base CX0 3 f fd ["stand","one","other","thing"] spIsWay:=by
 refine F.ok scIsWay (fun vs H Q E h=> ?_) (fun cdv A outer s H vs Q E hr h=> ?_)
 ·obtain ⟨_,_,_,_,_,_,rfl,_⟩:=h;rfl
 ·obtain ⟨st,S,v,o,p,q,rfl,hst,nd,hth,k⟩:=h
  refine ⟨_,Ah (Ao (pe_and (Aj Bd (by rfl) T.isinstance (by decide+kernel) (Aa (pv 3) (Aa (pe_ty (T:="tuple") (by rfl) T.tuple (by decide+kernel)) Ac))) (pe_and (Bk op_le (Aj A1 (by rfl) T.len PySem.boot_len (Aa (pv 3) Ac)) (pe_gint (by rfl) T.steps.choose_spec) (As _)) (pe_one (Ai GLeads hr rfl hLeads kLeads bLeads .nil Aq (Aa (pv 0) (Aa (pv 1) (Aa (pv 2) (Aa (pv 3) Ac))))))))),?_⟩
  cases o with
  |none=>
   obtain ⟨ty,h1,h2⟩:=NotT.tup (K:=K) hth
   exact ⟨_,rfl,v,ty,"tuple",false,rfl,h1,h2,_,rfl,Bb (k H (Ay _))⟩
  |some ws=>
  obtain ⟨wa,rfl,hw,hi,xl⟩:=hth
  have k:∀H',Same H H'→Q (.bl (wayV S p ws q)) H':=k
  refine ⟨_,rfl,.ref wa,.type "tuple","tuple",true,rfl,.tup hw,rfl,_,rfl,Bi ?_⟩
  refine ⟨_,rfl,wa,_,rfl,.inr (SqT.of hw),_,_,rfl,rfl,_,rfl,?_⟩
  refine ite2 (fun g=> ?_) fun g=> ?_
  ·refine ⟨_,rfl,_,rfl,_,rfl,_,rfl,st,wa,S,ws,p,q,rfl,hst,nd,hw,hi,fun H1 s1=> ?_⟩
   have:=k H1 s1
   unfold wayV at this
   rw [decide_eq_true (show ws.length≤61 by have:=of_decide_eq_true g;omega),Bool.true_and] at this
   exact this
  ·have:=k H (Ay _)
   unfold wayV at this
   have g':¬((ws.length:Int)≤61):=fun h=>g (decide_eq_true h)
   rw [decide_eq_false (show ¬ws.length≤61 by omega),Bool.false_and] at this
   have e2:decide ((ws.length:Int)≤61)=false:=decide_eq_false g'
   first|exact this|(rw [e2];exact this)
theorem scPaper:Aw ["history","n","one","other","thing","word","told","stand"] ["history","n","one","other","thing"] (Ag sPaper):=⟨rfl,rfl,rfl,by decide+kernel,rfl,by decide+kernel,by decide+kernel⟩
theorem ok_Paper {f:Addr} {fd:FuncData} (F:Fun K "is_paper" "is_paper" sPaper f fd) (T:Txt mg)
  {gStandB:Addr} {fStandB:FuncData} (kStandB:PySem.W.keepIn K (.ref gStandB)=true) (bStandB:Binds K fStandB ["history","n"] []) (hStandB:mg "stand_behind"=some (.ref gStandB)) (GStandB:FnOk P w K mg base CX0 5 gStandB fStandB ["history","n"] spStandB)
  {gIsWay:Addr} {fIsWay:FuncData} (kIsWay:PySem.W.keepIn K (.ref gIsWay)=true) (bIsWay:Binds K fIsWay ["stand","one","other","thing"] []) (hIsWay:mg "is_way"=some (.ref gIsWay)) (GIsWay:FnOk P w K mg base CX0 5 gIsWay fIsWay ["stand","one","other","thing"] spIsWay)
  {gIsCut:Addr} {fIsCut:FuncData} (kIsCut:PySem.W.keepIn K (.ref gIsCut)=true) (bIsCut:Binds K fIsCut ["many","stand","one","other","thing"] []) (hIsCut:mg "is_cut"=some (.ref gIsCut)) (GIsCut:FnOk P w K mg base CX0 5 gIsCut fIsCut ["many","stand","one","other","thing"] spIsCut):
  FnOk P w K mg base CX0 6 f fd ["history","n","one","other","thing"] spPaper:=by
 refine F.ok scPaper (fun vs H Q E h=> ?_) (fun cdv A outer s H vs Q E hr h=> ?_)
 ·obtain ⟨_,_,_,_,_,_,_,_,_,rfl,_⟩:=h;rfl
 ·obtain ⟨h,v,N,ds,n,p,q,S,o,rfl,hh,hR,hn,hS,hv,k⟩:=h
  refine ⟨_,Ad (Ba (PW.pt (pw_or (pt_not (Br (Aj Bd (by rfl) T.isinstance (by decide+kernel) (Aa (pv 4) (Aa (pe_ty (T:="tuple") (by rfl) T.tuple (by decide+kernel)) Ac))))) (pw_or1 (Ar op_ne (Aj A1 (by rfl) T.len PySem.boot_len (Aa (pv 4) Ac)) Af (As _))))) (Ah (Ao pe_bl)) Ax)
   (Ad (ps_asg (pv 4) (pg_tup rfl (Bp (Az (i:=5) scPaper.nd rfl (Or.inl rfl)) (Bp (Az (i:=6) scPaper.nd rfl (Or.inl rfl)) pgs_nil))))
   (Ad (Ak (i:=7) scPaper.nd rfl (Or.inl rfl) (Ai GStandB hr rfl hStandB kStandB bStandB .nil Aq (Aa (pv 0) (Aa (pv 1) Ac))))
   (Ad (Ba (Ar (op_eqStr hr.units) (pv 5) Bg (As _)) (Ah (Ao (Ai GIsWay hr rfl hIsWay kIsWay bIsWay .nil Aq (Aa (pv 7) (Aa (pv 2) (Aa (pv 3) (Aa (pv 6) Ac))))))) Ax)
   (Ah (Ao (pe_and (Bk (op_eqStr hr.units) (pv 5) Bg (As _)) (pe_one (Ai GIsCut hr rfl hIsCut kIsCut bIsCut .nil Aq (Aa (Av A2 (pv 0) Af (fun _ _=>rfl)) (Aa (pv 7) (Aa (pv 2) (Aa (pv 3) (Aa (pv 6) Ac))))))))))))),?_⟩
  cases hv with
  |no nt=>
   obtain ⟨ty,h1,h2⟩:=NotT.tup (K:=K) nt
   exact ⟨_,rfl,v,ty,"tuple",false,rfl,h1,h2,_,rfl,Bi (k H (Ay _))⟩
  |len r xs e er hi ne=>
   subst e
   refine ⟨_,rfl,.ref r,.type "tuple","tuple",true,rfl,.tup er,rfl,_,rfl,Bb ⟨_,rfl,r,_,rfl,.inr (SqT.of er),rfl,_,rfl,?_⟩⟩
   refine ite2 (fun _=>k H (Ay _)) fun c=>absurd ?_ c
   rw [decide_eq_false (fun z=>ne (by injection z with z;omega))];rfl
  |pair r w t o e er hw ht=>
  subst e
  refine ⟨_,rfl,.ref r,.type "tuple","tuple",true,rfl,.tup er,rfl,_,rfl,Bb ?_⟩
  refine ⟨_,rfl,r,_,rfl,.inr (SqT.of er),rfl,_,rfl,ite2 (fun g=>absurd g (by simp)) fun _=> ?_⟩
  dsimp only [Bu]
  refine ⟨_,rfl,r,_,rfl,SqT.of er,rfl,_,_,rfl,_,_,rfl,rfl,?_⟩
  refine ⟨_,rfl,_,rfl,h,N,ds,n,rfl,hh,hR,hn,fun st S2 H1 s1 hst hs=> ?_⟩
  have eS:S2=S:=hs.eq hS (List.Perm.refl _)
  subst eS
  have srt:=srtd_in hR hn hS
  obtain ⟨tp,rs,eh,et,hdd⟩:=id (hh.same s1)
  refine ⟨_,rfl,.l (Str.ofString "joined") rfl (hw.same s1) ⟨_,rfl,?_⟩⟩
  by_cases g:w= .str "joined"
  ·have k:∀H',Same H H'→Q (.bl (wayO S2 p q o)) H':=fun H' s'=>by
    have this:Q (.bl (if w= .str "joined" then wayO S2 p q o else decide (w= .str "parted") && cutO N S2 p q o)) H':=k H' s'
    rwa [if_pos g] at this
   refine ite2 (fun _=> ?_) fun c=>absurd (decide_eq_true g) c
   exact ⟨_,rfl,_,rfl,_,rfl,_,rfl,st,S2,t,o,p,q,rfl,hst,srt.2.1,ht.same s1,fun H2 s2=>k H2 (s1.trans s2)⟩
  have k:∀H',Same H H'→Q (.bl (decide (w= .str "parted") && cutO N S2 p q o)) H':=fun H' s'=>by
   have this:Q (.bl (if w= .str "joined" then wayO S2 p q o else decide (w= .str "parted") && cutO N S2 p q o)) H':=k H' s'
   rwa [if_neg g] at this
  refine ite2 (fun c=>absurd (of_decide_eq_true c) g) fun _=> ?_
  dsimp only [Bu]
  refine ⟨_,rfl,.l (Str.ofString "parted") rfl (hw.same s1) ⟨_,rfl,?_⟩⟩
  by_cases g2:w= .str "parted"
  ·rw [decide_eq_true g2] at k
   have e2:decide (w=V.str (Str.ofString "parted"))=true:=decide_eq_true g2
   rw [e2]
   exact Bi ⟨_,rfl,h,_,0,_,rfl,rfl,SqT.of eh,Al (j:=0) rfl,_,rfl,_,rfl,_,rfl,_,rfl,N,st,S2,p,q,t,o,rfl,hst,by have:=srt.2.2;omega,ht.same s1,fun H2 s2=>k H2 (s1.trans s2)⟩
  ·rw [decide_eq_false g2] at k
   have e2:decide (w=V.str (Str.ofString "parted"))=false:=decide_eq_false g2
   rw [e2]
   exact Bb (k H1 s1)
end
end K61
namespace K61
open PySem L2 Wk
def DeckAt (H:Hp) (d:Addr) (b:Nat):Prop:=∃x S k:Int,H d=some (.lst [.int x,.int S,.int k])∧0≤k∧k+b≤2 ^ 32
theorem DeckAt.mono {H:Hp} {d:Addr} {b b':Nat} (h:DeckAt H d b) (l:b'≤b):DeckAt H d b':=by
 obtain ⟨x,S,k,h1,h2,h3⟩:=h
 exact ⟨x,S,k,h1,h2,by omega⟩
def But (d:Addr) (H H':Hp):Prop:=∀b o,H b=some o→b≠d→H' b=some o
theorem But.trans {d:Addr} {H H1 H2:Hp} (h:But d H H1) (h':But d H1 H2):But d H H2:=fun b o e n=>h' b o (h b o e n) n
theorem But.of {d:Addr} {H H':Hp} (s:Same H H'):But d H H':=fun b o e _=>s b o e
theorem But.refl {d:Addr} {H:Hp}:But d H H:=fun _ _ e _=>e
theorem But.tup {d:Addr} {H H':Hp} (h:But d H H') {n:Nat} (D:DeckAt H d n) {b:Addr} {xs:List V} (e:H b=some (.tup xs)):H' b=some (.tup xs):=by
 obtain ⟨_,_,_,h1,_⟩:=D
 exact h b _ e fun z=>by rw [z,h1] at e;cases e
theorem DeckAt.same {H H':Hp} {d:Addr} {n:Nat} (h:DeckAt H d n) (s:Same H H'):DeckAt H' d n:=by
 obtain ⟨x,S,k,h1,r⟩:=h
 exact ⟨x,S,k,s _ _ h1,r⟩
theorem DeckAt.ne {H:Hp} {d b:Addr} {n:Nat} (h:DeckAt H d n) (e:H b=none):b≠d:=by
 obtain ⟨_,_,_,h1,_⟩:=h
 exact (A0 h1 e).symm
theorem DeckAt.upd {H:Hp} {d b:Addr} {o:HO} {m:Nat} (h:DeckAt H d m) (n:b≠d):DeckAt (upd H b o) d m:=by
 obtain ⟨x,S,k,h1,r⟩:=h
 exact ⟨x,S,k,by rw [Ap n.symm];exact h1,r⟩
theorem But.set {d:Addr} {H H1:Hp} {b:Addr} {o:HO} (h:But d H H1) (hb:H b=none):But d H (upd H1 b o):=fun x u e n=>by
 rw [Ap (A0 e hb)];exact h x u e n
theorem But.none {d:Addr} {H H':Hp} {b:Addr} {n:Nat} (h:But d H H') (w:DeckAt H' d n) (hb:H' b=none):H b=none:=by
 cases e:H b with
 |none=>rfl
 |some o=>rw [h b o e (w.ne hb)] at hb;cases hb
def spCell (K:PySem.W.Frag):Sp:=fun vs H Q _=>∃(s:Addr) (ns:List Int) (k:Nat),vs=[.ref s,.int (k:Int)]∧SqL K H s (ns.map V.int)∧ns.length≤63∧k<100∧∀v,Q (.int v) H
def spDeck (K:PySem.W.Frag):Sp:=fun vs H Q _=>∃(s:Addr) (ns:List Int) (k:Nat),vs=[.ref s,.int (k:Int)]∧SqL K H s (ns.map V.int)∧ns.length≤63∧k<100∧∀d H',Same H H'→H d=none→DeckAt H' d 100000→Q (.ref d) H'
def spDraw:Sp:=fun vs H Q _=>∃(d:Addr) (m:Int) (b:Nat),vs=[.ref d,.int m]∧DeckAt H d (b+1)∧0<m∧m<1073741824∧∀(v:Int) (H':Hp),0≤v→v<m→But d H H'→DeckAt H' d b→Q (.int v) H'
section
variable {P:Program} {w:World} {K:PySem.W.Frag} {mg:Str→Option Value} {base:Heap}
theorem scCell:Aw ["_law_script","_law_k"] ["_law_script","_law_k"] (Ag sCell):=⟨rfl,rfl,rfl,by decide+kernel,rfl,by decide+kernel,by decide+kernel⟩
theorem ok_Cell {f:Addr} {fd:FuncData} (F:Fun K "_law_cell_at" "_law_cell_at" sCell f fd) (T:Txt mg):
  FnOk P w K mg base CX0 1 f fd ["_law_script","_law_k"] (spCell K):=by
 refine F.ok scCell (fun vs H Q E h=> ?_) (fun cdv A outer s H vs Q E hr h=> ?_)
 ·obtain ⟨_,_,_,rfl,_⟩:=h;rfl
 ·obtain ⟨s,ns,k0,rfl,hS,hl,hk,k⟩:=h
  refine ⟨_,Ad (Ba (Ar op_lt (pv 1) (Aj A1 (by rfl) T.len PySem.boot_len (Aa (pv 0) Ac)) (As _)) (Ah (Ao (Av Bf (pv 0) (pv 1) (fun _ _=>rfl)))) Ax)
   (Ah (Ao (Am Bc (Am op_mod (Aj (call_sum rfl) (by rfl) T.sum PyProof.Rows.boot_sum (Aa (pv 0) Ac)) Af) (Am op_mul Af (pv 1))))),?_⟩
  refine ⟨_,rfl,_,rfl,s,_,rfl,.inl hS,_,_,rfl,rfl,_,rfl,ite2 (fun g=> ?_) fun g=> ?_⟩
  ·rw [List.length_map] at g
   have g:=of_decide_eq_true g
   exact ⟨_,rfl,_,rfl,s,_,_,.int (ns[k0]'(by omega)),rfl,rfl,hS,Al (by rw [List.getElem?_map,List.getElem?_eq_getElem (by omega)];rfl),k _⟩
  ·dsimp only [Bu]
   exact ⟨_,rfl,s,ns,rfl,hS,_,_,rfl,rfl,(by show (0:Int)<2147483647;decide),_,rfl,_,_,rfl,rfl,.inl ⟨by decide,by decide⟩,_,_,rfl,rfl,k _⟩
theorem scDeck:Aw ["_law_script","_law_k","_law_cell"] ["_law_script","_law_k"] (Ag sDeck):=⟨rfl,rfl,rfl,by decide+kernel,rfl,by decide+kernel,by decide+kernel⟩
theorem ok_Deck {f:Addr} {fd:FuncData} (F:Fun K "_law_deck" "_law_deck" sDeck f fd) (T:Txt mg)
  {gCell:Addr} {fCell:FuncData} (kCell:PySem.W.keepIn K (.ref gCell)=true) (bCell:Binds K fCell ["_law_script","_law_k"] []) (hCell:mg "_law_cell_at"=some (.ref gCell)) (GCell:FnOk P w K mg base CX0 1 gCell fCell ["_law_script","_law_k"] (spCell K)):
  FnOk P w K mg base CX0 2 f fd ["_law_script","_law_k"] (spDeck K):=by
 refine F.ok scDeck (fun vs H Q E h=> ?_) (fun cdv A outer s H vs Q E hr h=> ?_)
 ·obtain ⟨_,_,_,rfl,_⟩:=h;rfl
 ·obtain ⟨s,ns,k0,rfl,hS,hl,hk,k⟩:=h
  refine ⟨_,Ad (Ak (i:=2) scDeck.nd rfl (Or.inl rfl) (Ai GCell hr rfl hCell kCell bCell .nil Aq (Aa (pv 0) (Aa (pv 1) Ac))))
   (Ad (Ba (Ar op_lt (pv 2) (Am op_pow Af Af) (As _)) (Ah (Ao (Bm (Aa Af (Aa (Am op_mod (pv 2) Af) (Aa Af Ac)))))) Ax)
   (Ah (Ao (Bm (Aa (pv 2) (Aa (Am op_mod (pv 2) Af) (Aa Af Ac))))))),?_⟩
  refine ⟨_,rfl,_,rfl,s,ns,k0,rfl,hS,hl,hk,fun v=> ?_⟩
  refine ⟨_,rfl,_,_,rfl,rfl,⟨by decide,by decide,by decide⟩,_,_,rfl,rfl,_,rfl,ite2 (fun g=> ?_) fun g=> ?_⟩
  ·exact ⟨_,rfl,_,_,rfl,rfl,(by show (0:Int)<2305843009213693951;decide),small (by simp),fun d hd=>k d _ (Ae hd) hd ⟨_,_,_,Ab,by decide,by decide⟩⟩
  ·dsimp only [Bu]
   exact ⟨_,rfl,_,rfl,_,_,rfl,rfl,(by show (0:Int)<2305843009213693951;decide),small (by simp),fun d hd=>k d _ (Ae hd) hd ⟨_,_,_,Ab,by decide,by decide⟩⟩
theorem scDraw:Aw ["_law_deck_here","_law_most","_law_digit","_law_mixed"] ["_law_deck_here","_law_most"] (Ag sDraw):=⟨rfl,rfl,rfl,by decide+kernel,rfl,by decide+kernel,by decide+kernel⟩
theorem ok_Draw {f:Addr} {fd:FuncData} (F:Fun K "_law_draw" "_law_draw" sDraw f fd) (T:Txt mg):
  FnOk P w K mg base CX0 1 f fd ["_law_deck_here","_law_most"] spDraw:=by
 refine F.ok scDraw (fun vs H Q E h=> ?_) (fun cdv A outer s H vs Q E hr h=> ?_)
 ·obtain ⟨_,_,_,rfl,_⟩:=h;rfl
 ·obtain ⟨d,m,b,rfl,⟨x,S,k0,hd,k00,kb⟩,m0,m1,k⟩:=h
  refine ⟨_,Ad (Ba (Ar op_gt (Av Bf (pv 0) Af (fun _ _=>rfl)) Af (As _)) (Ad (Ak (i:=2) scDraw.nd rfl (Or.inl rfl) (Am op_mod (Av Bf (pv 0) Af (fun _ _=>rfl)) (pv 1)))
   (Ad (ps_asg (Am op_fdiv (Av Bf (pv 0) Af (fun _ _=>rfl)) (pv 1)) (pg_sub (pv 0) (Af) set_list))
   (Ah (Ao (pv 2))))) Ax)
   (Ad (ps_asg (Am Bc (Av Bf (pv 0) Af (fun _ _=>rfl)) Af) (pg_sub (pv 0) (Af) set_list))
   (Ad (Ak (i:=3) scDraw.nd rfl (Or.inl rfl) (Am Bc (Am Bc (Av Bf (pv 0) Af (fun _ _=>rfl)) (Am op_mul (Am op_mul Af (Av Bf (pv 0) Af (fun _ _=>rfl))) (Av Bf (pv 0) Af (fun _ _=>rfl)))) Af))
   (Ad (Ak (i:=3) scDraw.nd rfl (Or.inl rfl) (Am op_mod (Am op_mul (pv 3) Af) Af))
   (Ah (Ao (Am op_mod (Am op_fdiv (Am op_mod (Am Bc (Am op_mul (pv 3) (pv 3)) (Av Bf (pv 0) Af (fun _ _=>rfl))) Af) Af) (pv 1))))))),?_⟩
  refine ⟨_,rfl,d,_,0,_,rfl,rfl,SqL.of hd,Al (j:=0) rfl,_,_,rfl,rfl,_,rfl,ite2 (fun g=> ?_) fun g=> ?_⟩
  ·refine ⟨_,rfl,d,_,0,_,rfl,rfl,SqL.of hd,Al (j:=0) rfl,_,rfl,_,_,rfl,rfl,m0,?_⟩
   refine ⟨_,rfl,d,_,0,_,rfl,rfl,SqL.of hd,Al (j:=0) rfl,_,rfl,_,_,rfl,rfl,⟨m0,by omega⟩,_,rfl,d,_,0,0,rfl,rfl,hd,rfl,?_⟩
   exact ⟨_,rfl,k _ _ (Int.emod_nonneg _ (by omega)) (Int.emod_lt_of_pos _ m0) (fun c o e n=>by rw [Ap n];exact e) ⟨_,S,k0,Ab,k00,by omega⟩⟩
  ·dsimp only [Bu]
   refine ⟨_,rfl,d,_,2,_,rfl,rfl,SqL.of hd,Al (j:=2) rfl,_,_,rfl,rfl,_,rfl,d,_,2,2,rfl,rfl,hd,rfl,?_⟩
   have h1:upd H d (.lst (([.int x,.int S,.int k0]:List V).set 2 (.int (k0+1)))) d=some (.lst [.int x,.int S,.int (k0+1)]):=Ab
   have b1:But d H (upd H d (.lst (([.int x,.int S,.int k0]:List V).set 2 (.int (k0+1))))):=fun c o e n=>by rw [Ap n];exact e
   generalize hH1:upd H d _=H1
   rw [hH1] at h1 b1
   clear hH1
   refine ⟨_,rfl,d,_,1,_,rfl,rfl,SqL.of h1,Al (j:=1) rfl,_,rfl,d,_,2,_,rfl,rfl,SqL.of h1,Al (j:=2) rfl,_,_,rfl,rfl,.inl ⟨by decide,by decide⟩,_,rfl,d,_,2,_,rfl,rfl,SqL.of h1,Al (j:=2) rfl,_,_,rfl,rfl,.inr ⟨by omega,by omega⟩,_,_,rfl,rfl,_,_,rfl,rfl,?_⟩
   dsimp only
   generalize S+7919 * (k0+1) * (k0+1)+1=z1
   refine ⟨_,rfl,_,_,rfl,rfl,.inr ⟨by decide,by decide⟩,_,_,rfl,rfl,(by show (0:Int)<2305843009213693951;decide),?_⟩
   dsimp only
   have y0:=Int.emod_nonneg (z1 * 1442695040888963407) (show (2305843009213693951:Int)≠0 by decide)
   have y1:=Int.emod_lt_of_pos (z1 * 1442695040888963407) (show (0:Int)<2305843009213693951 by decide)
   generalize z1 * 1442695040888963407 % 2305843009213693951=z2 at y0 y1
   refine ⟨_,rfl,_,rfl,_,_,rfl,rfl,.inl ⟨by omega,by omega⟩,_,rfl,d,_,2,_,rfl,rfl,SqL.of h1,Al (j:=2) rfl,_,_,rfl,rfl,_,_,rfl,rfl,(by show (0:Int)<2305843009213693921;decide),_,_,rfl,rfl,⟨by decide,by decide⟩,_,rfl,_,_,rfl,rfl,m0,?_⟩
   exact k _ _ (Int.emod_nonneg _ (by omega)) (Int.emod_lt_of_pos _ m0) b1 ⟨_,_,_,h1,by omega,by omega⟩
end
end K61
namespace K61
open PySem L2 Wk
def Cz (z:Str):Prop:=∀ch∈z.cps.toList,ch<16 ^ 8
def Nmz (z:Str):Prop:=z.length≤8∧Cz z
def But2 (d l:Addr) (H H':Hp):Prop:=∀b o,H b=some o→b≠d→b≠l→H' b=some o
def tNm:TS:=fun D σ H=>∃(d W l hr:Addr) (u1 u2 u3 u5 u7 u9:Option V) (ws hs:List Nat) (zs:List Str) (b:Nat),σ=[some (.ref d),u1,u2,u3,some (.ref W),u5,some (.ref l),u7,some (.ref hr),u9]∧DeckAt H d (b+1)∧H W=some (.lst (ws.map sg))∧H l=some (.lst (zs.map V.str))∧H hr=some (.lst (hs.map sg))∧ws.length=8∧(∀x∈ws,x<200)∧(∀x∈hs,x<200)∧hs.length≤8∧zs.length<100∧W≠d∧l≠d∧hr≠d∧
 ∀(z:Str) (u9':Option V) (H':Hp),But2 d l H H'→DeckAt H' d b→H' l=some (.lst ((zs++[z]).map V.str))→(∃r,z.cps.toList=hs++r)→Nmz z→D.nx [some (.ref d),u1,u2,u3,some (.ref W),u5,some (.ref l),u7,some (.ref hr),u9'] H'
def spNames:Sp:=fun vs H Q _=>∃(d:Addr) (M b:Nat),vs=[.ref d,.int (M:Int)]∧DeckAt H d (b+(10+M))∧M≤60∧∀(l:Addr) (zs:List Str) (H':Hp),But d H H'→DeckAt H' d b→H l=none→l≠d→H' l=some (.lst (zs.map V.str))→zs.length=M→zs.Nodup→(∀z∈zs,Nmz z)→Q (.ref l) H'
section
variable {P:Program} {w:World} {K:PySem.W.Frag} {mg:Str→Option Value} {base:Heap}
theorem scNames:Aw ["_law_deck_here","_law_many_here","_law_letters","_law_at","_law_word","_law_first","_law_names_here","_law_k","_law_here","_law_more"] ["_law_deck_here","_law_many_here"] (Ag sNames):=⟨rfl,rfl,rfl,by decide+kernel,rfl,by decide+kernel,by decide+kernel⟩
theorem ok_Names {f:Addr} {fd:FuncData} (F:Fun K "_law_names" "_law_names" sNames f fd) (T:Txt mg)
  {gDraw:Addr} {fDraw:FuncData} (kDraw:PySem.W.keepIn K (.ref gDraw)=true) (bDraw:Binds K fDraw ["_law_deck_here","_law_most"] []) (hDraw:mg "_law_draw"=some (.ref gDraw)) (GDraw:FnOk P w K mg base CX0 1 gDraw fDraw ["_law_deck_here","_law_most"] spDraw):
  FnOk P w K mg base CX0 2 f fd ["_law_deck_here","_law_many_here"] spNames:=by
 refine F.ok scNames (fun vs H Q E h=> ?_) (fun cdv A outer s H vs Q E hr h=> ?_)
 ·obtain ⟨_,_,_,rfl,_⟩:=h;rfl
 ·obtain ⟨d,M,b,rfl,hD,M60,k⟩:=h
  refine ⟨_,Ad (Ak (i:=2) scNames.nd rfl (Or.inr rfl) Bg)
   (Ad (Ak (i:=3) scNames.nd rfl (Or.inl rfl) (Ai GDraw hr rfl hDraw kDraw bDraw .nil Aq (Aa (pv 0) (Aa Af Ac))))
   (Ad (ps_comp (i:=4) (T:=["_law_k"]) (F:=["_law_letters","_law_deck_here"]) (js:=[2,0]) scNames.nd rfl (Or.inl rfl) (CS.to (osc:=Ag sNames) ⟨by rfl,by decide+kernel,by decide+kernel,by decide+kernel,by decide+kernel,by decide+kernel,by decide+kernel⟩ rfl rfl) rfl (pi_range1 rfl T.range (Aa Af Ac)) (fun _ _ _ _ _=>Az (i:=0) (show (["_law_k","_law_letters","_law_deck_here"]:List Str).Nodup by decide+kernel) rfl (Or.inl rfl)) (fun _ _ _ _ _=>pif_nil) (fun _ _ _ _ _=>Av ix_str (pv 1) (Ai GDraw hr rfl hDraw kDraw bDraw .nil Aq (Aa (pv 2) (Aa Af Ac))) (fun _ _=>rfl)))
   (Ad (Ak (i:=5) scNames.nd rfl (Or.inl rfl) (Ai GDraw hr rfl hDraw kDraw bDraw .nil Aq (Aa (pv 0) (Aa Af Ac))))
   (Ad (Ak (i:=6) scNames.nd rfl (Or.inl rfl) (Bm Ac))
   (Ad (Ca PassesOwn.never rfl (pi_range1 rfl T.range (Aa (pv 1) Ac)) (Az (i:=7) scNames.nd rfl (Or.inl rfl)) (Ad (Ak (i:=8) scNames.nd rfl (Or.inl rfl) (Am op_cat (A3 sl_list (pv 4) Bh (A4 (pv 3))) (Bm (Aa (Av ix_str (pv 2) (Am op_mod (Am Bc (pv 5) (pv 7)) Af) (fun _ _=>rfl)) Ac))))
   (Ad (Ba (Ar op_gt (pv 1) Af (As _)) (Ah (Ak (i:=8) scNames.nd rfl (Or.inl rfl) (Am op_cat (pv 8) (Bm (Aa (Av ix_str (pv 2) (Am op_mod (Am Bc (pv 5) (Am op_fdiv (pv 7) Af)) Af) (fun _ _=>rfl)) Ac))))) Ax)
   (PSs.imp' (t':=tNm) (Ad (Ak (i:=9) scNames.nd rfl (Or.inl rfl) (Am Bc (Aj A1 (by rfl) T.len PySem.boot_len (Aa (pv 8) Ac)) (Ai GDraw hr rfl hDraw kDraw bDraw .nil Aq (Aa (pv 0) (Aa (Am op_sub Af (Aj A1 (by rfl) T.len PySem.boot_len (Aa (pv 8) Ac))) Ac)))))
   (Ah (ps_expr (pe_bm PySem.F.plainAttrs_list PySem.F.slot_list_append PySem.F.type_list_append mt_append (pv 6) (Aa (pe_bm PySem.F.plainAttrs_str PySem.F.slot_str_join PySem.F.type_str_join mt_join Bg (Aa (Am op_cat (pv 8) (A3 sl_list (pv 4) (A4 (Aj A1 (by rfl) T.len PySem.boot_len (Aa (pv 8) Ac))) (A4 (pv 9)))) Ac)) Ac))))) ?tail))))
   (Ah (Ao (pv 6)))))))),?_⟩
  case tail=>
   clear k hD M60
   rintro D σ H ⟨d,W,l,hr',u1,u2,u3,u5,u7,u9,ws,hs,zs,b,rfl,hD,hW,hl,hh,wl,wsm,hsm,hl8,zl,nW,nl,nh,k⟩
   refine ⟨_,rfl,hr',_,rfl,.inl (SqL.of hh),_,rfl,_,rfl,hr',_,rfl,.inl (SqL.of hh),_,_,rfl,rfl,d,_,b,rfl,hD,by rw [List.length_map];omega,by rw [List.length_map];omega,fun v H1 v0 v1 b1 D1=>⟨_,_,rfl,rfl,?_⟩⟩
   rw [List.length_map] at v1 ⊢
   obtain ⟨v,rfl⟩:=nat_of v0
   have hW1:=b1 _ _ hW nW
   have hl1:=b1 _ _ hl nl
   have hh1:=b1 _ _ hh nh
   refine ⟨_,rfl,.inl ⟨rfl,_,SqL.of hl1⟩,rfl,_,rfl,_,rfl,_,rfl,hr',_,rfl,.inl (SqL.of hh1),_,rfl,_,rfl,_,rfl,W,_,rfl,SqL.of hW1,fun q hq=> ?_⟩
   have ec:Bx (ws.map sg) (some ((hs.map sg).length:Int)) (some ((hs.length:Int)+(v:Int)))=((ws.drop hs.length).take v).map sg:=by
    have e:((hs.length:Int)+(v:Int))=((hs.length+v:Nat):Int):=by omega
    rw [List.length_map,e,cutV_mid (by rw [List.length_map];omega) (by omega),List.map_take,List.map_drop]
    congr 1;omega
   rw [ec]
   have rl:((ws.drop hs.length).take v).length≤v:=by rw [List.length_take];omega
   have rsm:∀x∈(ws.drop hs.length).take v,x<200:=fun x hx=>wsm x (List.mem_of_mem_drop (List.mem_of_mem_take hx))
   generalize (ws.drop hs.length).take v=r at rl rsm
   have sq:=Ae (o:= .lst (r.map sg)) hq
   have hq2:=Ab (H:=H1) (a:=q) (o:= .lst (r.map sg))
   have D2:=D1.same sq
   generalize upd H1 q (.lst (r.map sg))=H2 at sq hq2 D2
   refine ⟨hr',q,_,_,rfl,rfl,sq _ _ hh1,hq2,small (by simp;omega),fun p hp=> ?_⟩
   have sp:=Ae (o:= .lst (hs.map sg++r.map sg)) hp
   have hp3:=Ab (H:=H2) (a:=p) (o:= .lst (hs.map sg++r.map sg))
   have D3:=D2.same sp
   generalize upd H2 p (.lst (hs.map sg++r.map sg))=H3 at sp hp3 D3
   rw [←List.map_append,sg_map] at hp3
   have hz:=join_cps (hs++r)
   refine ⟨Str.ofString "",p,_,rfl,rfl,SqL.of hp3,?_,?_⟩
   ·rw [sg_sum,List.length_map,List.length_append];show _+_ * 0≤_;omega
   generalize Txt.join (Str.ofString "") ((hs++r).map fun c=>(⟨#[c]⟩:Str))=z at hz
   have hl3:=sp _ _ (sq _ _ hl1)
   refine ⟨l,_,_,rfl,rfl,hl3,A8 (by simp;omega),?_⟩
   refine k z _ _ (fun x o e n1 n2=>by rw [Ap n2];exact sp _ _ (sq _ _ (b1 _ _ e n1))) (D3.upd nl) (by rw [Ab,List.map_append];rfl) ⟨r,hz⟩ ⟨?_,fun ch hc=> ?_⟩
   ·rw [len_cps,hz,List.length_append];omega
   ·have big:(200:Nat)<16 ^ 8:=by decide
    rw [hz] at hc
    rcases List.mem_append.mp hc with q|q
    ·have:=hsm ch q;omega
    ·have:=rsm ch q;omega
  refine ⟨_,rfl,d,7,b+(9+M),rfl,hD.mono (by omega),by decide,by decide,fun at_ H1 a0 a1 b1 D1=> ?_⟩
  obtain ⟨at_,rfl⟩:=nat_of a0
  have a7:at_<7:=by omega
  refine ⟨8,rfl,by decide,by decide,fun W hWn=>comp_range (lo:=0) (n:=8) (fun j σ ys H2=>∃(u:Option V) (ws:List Nat),σ=[u,some (.str LS),some (.ref d)]∧But d H1 H2∧DeckAt H2 d (b+(9+M - j))∧H2 W=some (.lst ys)∧ys=ws.map sg∧ws.length=j∧∀x∈ws,x<200) ?_ (fun j σ ys H2 _ ⟨_,_,_,_,_,e,_⟩=>e) ?_ ?_⟩
  ·exact ⟨none,[],rfl,But.of (Ae hWn),(D1.mono (by omega)).upd (D1.ne hWn),Ab,rfl,rfl,by simp⟩
  ·rintro j σ ys H2 hj ⟨u,ws,rfl,b2,D2,e2,rfl,wl,wsm⟩
   refine ⟨_,rfl,_,rfl,d,26,b+(9+M - (j+1)),rfl,D2.mono (by omega),by decide,by decide,fun x H3 x0 x1 b3 D3=> ?_⟩
   have e3:=b3 _ _ e2 (D1.ne hWn)
   exact ⟨_,x,_,rfl,rfl,small (by decide+kernel),LS_at x0 x1,e3,A8 (by simp;omega),_,ws++[97+x.toNat],rfl,(b2.trans b3).set hWn,D3.upd (D1.ne hWn),Ab,by rw [List.map_append];rfl,by simp [wl],fun y hy=>by
    rcases List.mem_append.mp hy with q|q
    ·exact wsm y q
    ·rw [List.mem_singleton.mp q];omega⟩
  rintro σ ys H2 ⟨u,ws,rfl,b2,D2,e2,rfl,wl,wsm⟩
  have nW:=D1.ne hWn
  refine ⟨_,rfl,d,26,b+M,rfl,D2.mono (by omega),by decide,by decide,fun f H3 f0 f1 b3 D3=> ?_⟩
  obtain ⟨f,rfl⟩:=nat_of f0
  have e3:=b3 _ _ e2 nW
  have B3:But d H H3:=(b1.trans b2).trans b3
  refine ⟨small (by simp),fun l hl=> ?_⟩
  have nl:=D3.ne hl
  have nlW:W≠l:=A0 e3 hl
  have lH:H l=none:=B3.none D3 hl
  refine ⟨_,rfl,(M:Int),rfl,by omega,by omega,for_range (lo:=0) (n:=(M:Int).toNat) (fun i σ H5=>∃(u7 u8 u9:Option V) (zs:List Str),σ=[some (.ref d),some (.int (M:Int)),some (.str LS),some (.int (at_:Int)),some (.ref W),some (.int (f:Int)),some (.ref l),u7,u8,u9]∧But d H H5∧DeckAt H5 d (b+(M - i))∧H5 W=some (.lst (ws.map sg))∧H5 l=some (.lst (zs.map V.str))∧zs.length=i∧(∀z∈zs,Nmz z)∧∀(j:Nat) (y:Str),zs[j]? =some y→Nm at_ f M j y)
   ⟨_,_,_,[],rfl,B3.set lH,(D3.mono (by omega)).upd nl,by rw [Ap nlW];exact e3,Ab,rfl,by simp,by simp⟩ ?_ ?_⟩
  ·rintro i σ H5 hi ⟨u7,u8,u9,zs,rfl,b5,D5,W5,l5,zl,z8,zn⟩
   have hi:i<M:=by simpa using hi
   have m0:=Int.emod_nonneg ((f:Int)+(0+(i:Int))) (show (26:Int)≠0 by decide)
   have m1:=Int.emod_lt_of_pos ((f:Int)+(0+(i:Int))) (show (0:Int)<26 by decide)
   have s0:=Int.emod_nonneg ((f:Int)+(0+(i:Int)) / 26) (show (26:Int)≠0 by decide)
   have s1:=Int.emod_lt_of_pos ((f:Int)+(0+(i:Int)) / 26) (show (0:Int)<26 by decide)
   have c1:97+(((f:Int)+(0+(i:Int))) % 26).toNat=97+(f+i) % 26:=by omega
   have c2:97+(((f:Int)+(0+(i:Int)) / 26) % 26).toNat=97+(f+i / 26) % 26:=by omega
   refine ⟨_,rfl,_,rfl,_,rfl,W,_,rfl,SqL.of W5,fun p hp=> ?_⟩
   rw [cutV_take (by rw [List.length_map];omega),←List.map_take]
   have sp:=Ae (o:= .lst ((ws.take at_).map sg)) hp
   have hp1:=Ab (H:=H5) (a:=p) (o:= .lst ((ws.take at_).map sg))
   generalize upd H5 p (.lst ((ws.take at_).map sg))=H6 at sp hp1
   refine ⟨_,rfl,_,rfl,_,rfl,_,_,rfl,rfl,_,_,rfl,rfl,(by show (0:Int)<26;decide),LS,_,_,rfl,rfl,small (by decide+kernel),LS_at m0 m1,small (by simp),fun q hq=> ?_⟩
   rw [c1]
   have sq:=Ae (o:= .lst [V.str ⟨#[97+(f+i) % 26]⟩]) hq
   have hq1:=Ab (H:=H6) (a:=q) (o:= .lst [V.str ⟨#[97+(f+i) % 26]⟩])
   generalize upd H6 q (.lst [V.str ⟨#[97+(f+i) % 26]⟩])=Hq at sq hq1
   refine ⟨p,q,_,_,rfl,rfl,sq _ _ hp1,hq1,small (by simp;omega),fun h hh=> ?_⟩
   have sh:=Ae (o:= .lst ((ws.take at_).map sg++[V.str ⟨#[97+(f+i) % 26]⟩])) hh
   have hh1:=Ab (H:=Hq) (a:=h) (o:= .lst ((ws.take at_).map sg++[V.str ⟨#[97+(f+i) % 26]⟩]))
   generalize upd Hq h (.lst ((ws.take at_).map sg++[V.str ⟨#[97+(f+i) % 26]⟩]))=H7 at sh hh1
   have S7:=(sp.trans sq).trans sh
   have tl:(ws.take at_).length=at_:=by rw [List.length_take];omega
   have fin:∀(h':Addr) (hs:List Nat) (H8:Hp),Same H5 H8→H8 h'=some (.lst (hs.map sg))→(∀x∈hs,x<200)→hs.length≤8→hs[at_]? =some (97+(f+i) % 26)→(26<M→hs[at_+1]? =some (97+(f+i / 26) % 26))→tNm {nx:=fun σ H5=>∃(u7 u8 u9:Option V) (zs:List Str),σ=[some (.ref d),some (.int (M:Int)),some (.str LS),some (.int (at_:Int)),some (.ref W),some (.int (f:Int)),some (.ref l),u7,u8,u9]∧But d H H5∧DeckAt H5 d (b+(M - (i+1)))∧H5 W=some (.lst (ws.map sg))∧H5 l=some (.lst (zs.map V.str))∧zs.length=i+1∧(∀z∈zs,Nmz z)∧∀(j:Nat) (y:Str),zs[j]? =some y→Nm at_ f M j y,rt:=fun _ _=>True,bk:=fun _ _=>True,ct:=fun _ _=>True} [some (.ref d),some (.int (M:Int)),some (.str LS),some (.int (at_:Int)),some (.ref W),some (.int (f:Int)),some (.ref l),some (.int (0+(i:Int))),some (.ref h'),u9] H8:=by
    intro h' hs H8 s8 e8 hsm h8 g1 g2
    have n8:h'≠d:=fun e=>by
     obtain ⟨x,S,k',hd,_⟩:=D5.same s8
     rw [e,hd] at e8
     injection e8 with e8
     injection e8 with e8
     match hs,g1,e8 with
     |[],g1,_=>simp at g1
     |y::ys,_,e8=>rw [List.map_cons] at e8;injection e8 with e8 _;cases e8
    refine ⟨d,W,l,h',_,_,_,_,_,_,ws,hs,zs,b+(M - (i+1)),rfl,(D5.same s8).mono (by omega),s8 _ _ W5,s8 _ _ l5,e8,wl,wsm,hsm,h8,by omega,nW,nl,n8,fun z u9' H' bb DD hl' ⟨r,hz⟩ z8'=> ?_⟩
    refine ⟨_,_,_,zs++[z],rfl,fun x o e n=> ?_,DD,bb _ _ (s8 _ _ W5) nW nlW,hl',by simp [zl],fun x hx=> ?_,fun j y hy=> ?_⟩
    ·exact bb _ _ (s8 _ _ (b5 _ _ e n)) n (A0 e lH)
    ·rcases List.mem_append.mp hx with q|q
     ·exact z8 x q
     ·rw [List.mem_singleton.mp q];exact z8'
    ·rw [List.getElem?_append] at hy
     split at hy
     ·exact zn j y hy
     ·have hj:j=i:=by
       have:=(List.getElem?_eq_some_iff.mp hy).1
       simp at this;omega
      subst hj
      rw [show j - zs.length=0 by omega] at hy
      have:z=y:=by simpa using hy
      subst this
      refine ⟨?_,fun q=> ?_⟩
      ·rw [hz,List.getElem?_append_left (List.getElem?_eq_some_iff.mp g1).1];exact g1
      ·rw [hz,List.getElem?_append_left (List.getElem?_eq_some_iff.mp (g2 q)).1];exact g2 q
   have e7:H7 h=some (.lst ((ws.take at_++[97+(f+i) % 26]).map sg)):=by rw [hh1,List.map_append];rfl
   refine ⟨_,rfl,_,_,rfl,rfl,_,rfl,ite2 (fun g=> ?_) fun g=> ?_⟩
   ·refine ⟨_,rfl,_,rfl,_,rfl,_,rfl,_,_,rfl,rfl,⟨by decide,by decide⟩,_,_,rfl,rfl,_,_,rfl,rfl,(by show (0:Int)<26;decide),LS,_,_,rfl,rfl,small (by decide+kernel),LS_at s0 s1,small (by simp),fun q2 hq2=> ?_⟩
    rw [c2]
    have sq2:=Ae (o:= .lst [V.str ⟨#[97+(f+i / 26) % 26]⟩]) hq2
    have hq3:=Ab (H:=H7) (a:=q2) (o:= .lst [V.str ⟨#[97+(f+i / 26) % 26]⟩])
    generalize upd H7 q2 (.lst [V.str ⟨#[97+(f+i / 26) % 26]⟩])=H8 at sq2 hq3
    refine ⟨h,q2,_,_,rfl,rfl,sq2 _ _ e7,hq3,small (by simp;omega),fun h2 hh2=> ?_⟩
    refine fin h2 (ws.take at_++[97+(f+i) % 26]++[97+(f+i / 26) % 26]) _ ((S7.trans sq2).trans (Ae hh2)) (by rw [Ab,List.map_append (l₂:=[97+(f+i / 26) % 26])];rfl) (fun x hx=> ?_) (by simp;omega) ?_ fun _=> ?_
    ·have tsm:∀x∈ws.take at_,x<200:=fun x hx=>wsm x (List.mem_of_mem_take hx)
     rcases List.mem_append.mp hx with q|q
     ·rcases List.mem_append.mp q with q|q
      ·exact tsm x q
      ·rw [List.mem_singleton.mp q];omega
     ·rw [List.mem_singleton.mp q];omega
    ·rw [List.getElem?_append_left (by simp;omega),List.getElem?_append_right (by omega),tl];simp
    ·rw [List.getElem?_append_right (by simp;omega)];simp [tl]
   ·have g:¬(26:Int)<(M:Int):=by simpa using g
    refine fin h (ws.take at_++[97+(f+i) % 26]) H7 S7 e7 (fun x hx=> ?_) (by simp;omega) ?_ fun q=>absurd q (by omega)
    ·rcases List.mem_append.mp hx with q|q
     ·exact wsm x (List.mem_of_mem_take q)
     ·rw [List.mem_singleton.mp q];omega
    rw [List.getElem?_append_right (by omega),tl];simp
  ·rintro σ H5 ⟨u7,u8,u9,zs,rfl,b5,D5,W5,l5,zl,z8,zn⟩
   have zl:zs.length=M:=by simpa using zl
   exact ⟨_,rfl,k l zs H5 b5 (D5.mono (by omega)) lH nl l5 zl (Nm.nodup zn (by omega) M60) z8⟩
end
end K61
namespace K61
open PySem L2 Wk
def spMany:Sp:=fun vs H Q _=>∃(d:Addr) (b:Nat),vs=[.ref d]∧DeckAt H d (b+2)∧∀(N:Nat) (H':Hp),But d H H'→DeckAt H' d b→1≤N→N≤24→Q (.int (N:Int)) H'
def spWeight:Sp:=fun vs H Q _=>∃(d:Addr) (b:Nat),vs=[.ref d]∧DeckAt H d (b+2)∧∀(v:Int) (H':Hp),But d H H'→DeckAt H' d b→0≤v→v≤1000000000→Q (.int v) H'
def spTie:Sp:=fun vs H Q _=>∃(d th fr:Addr) (N b:Nat) (ln:Bool) (ps:Ps) (fs:List Str),vs=[.ref d,.int (N:Int),.ref th,.ref fr,.bl ln]∧DeckAt H d (b+8)∧2≤N∧N≤24∧ThAt H th ps∧PsOk N ps∧ps.length≤60∧H fr=some (.lst (fs.map V.str))∧0<fs.length∧fs.length≤100∧th≠d∧fr≠d∧
 ∀(t:T4) (r:Addr) (H':Hp),But d H H'→DeckAt H' d b→t.1∈fs→TieOk N t→0≤t.2.2.2→t.2.2.2≤1000000000→H' r=some (.tup (tieV t))→Q (.ref r) H'
def tTie:TS:=fun D σ H=>∃(d:Addr) (u1 u2 u3 u4 u8 u9:Option V) (n:Str) (one other b:Nat),σ=[some (.ref d),u1,u2,u3,u4,some (.str n),some (.int (one:Int)),some (.int (other:Int)),u8,u9]∧DeckAt H d (b+3)∧
 ∀(x y:Nat) (w:Int) (r:Addr) (H':Hp),((x=one∧y=other)∨(x=other∧y=one))→But d H H'→DeckAt H' d b→0≤w→w≤1000000000→H' r=some (.tup (tieV (n,x,y,w)))→D.rt (.ref r) H'
theorem th_but {H H':Hp} {d th:Addr} {ps:Ps} {n:Nat} (h:ThAt H th ps) (b:But d H H') (D:DeckAt H d n) (ne:th≠d):ThAt H' th ps:=⟨b _ _ h.1 ne,fun p q=>b.tup D (h.2 p q)⟩
section
variable {P:Program} {w:World} {K:PySem.W.Frag} {mg:Str→Option Value} {base:Heap}
theorem scMany:Aw ["_law_deck_here","_law_way"] ["_law_deck_here"] (Ag sMany):=⟨rfl,rfl,rfl,by decide+kernel,rfl,by decide+kernel,by decide+kernel⟩
theorem ok_Many {f:Addr} {fd:FuncData} (F:Fun K "_law_many" "_law_many" sMany f fd) (T:Txt mg)
  {gDraw:Addr} {fDraw:FuncData} (kDraw:PySem.W.keepIn K (.ref gDraw)=true) (bDraw:Binds K fDraw ["_law_deck_here","_law_most"] []) (hDraw:mg "_law_draw"=some (.ref gDraw)) (GDraw:FnOk P w K mg base CX0 1 gDraw fDraw ["_law_deck_here","_law_most"] spDraw):
  FnOk P w K mg base CX0 2 f fd ["_law_deck_here"] spMany:=by
 refine F.ok scMany (fun vs H Q E h=> ?_) (fun cdv A outer s H vs Q E hr h=> ?_)
 ·obtain ⟨_,_,rfl,_⟩:=h;rfl
 ·obtain ⟨d,b,rfl,hD,k⟩:=h
  refine ⟨_,Ad (Ak (i:=1) scMany.nd rfl (Or.inl rfl) (Ai GDraw hr rfl hDraw kDraw bDraw .nil Aq (Aa (pv 0) (Aa Af Ac))))
   (Ad (Ba (Ar Cc (pv 1) Af (As _)) (Ah (Ao Af)) Ax)
   (Ad (Ba (Ar Cc (pv 1) Af (As _)) (Ah (Ao (Am Bc Af (Ai GDraw hr rfl hDraw kDraw bDraw .nil Aq (Aa (pv 0) (Aa Af Ac)))))) Ax)
   (Ah (Ao (Am Bc Af (Ai GDraw hr rfl hDraw kDraw bDraw .nil Aq (Aa (pv 0) (Aa Af Ac)))))))),?_⟩
  refine ⟨_,rfl,d,8,b+1,rfl,hD,by decide,by decide,fun v H1 v0 v1 b1 D1=> ?_⟩
  refine ⟨_,rfl,rfl,_,rfl,ite2 (fun _=>k 24 H1 b1 (D1.mono (by omega)) (by omega) (by omega)) fun _=> ?_⟩
  dsimp only [Bu]
  refine ⟨_,rfl,rfl,_,rfl,ite2 (fun _=>⟨_,rfl,d,24,b,rfl,D1,by decide,by decide,fun x H2 x0 x1 b2 D2=>⟨_,_,rfl,rfl,?_⟩⟩) fun _=> ?_⟩
  ·obtain ⟨x,rfl⟩:=nat_of x0
   have:=k (1+x) H2 (b1.trans b2) D2 (by omega) (by omega)
   simpa using this
  dsimp only [Bu]
  refine ⟨_,rfl,d,6,b,rfl,D1,by decide,by decide,fun x H2 x0 x1 b2 D2=>⟨_,_,rfl,rfl,?_⟩⟩
  obtain ⟨x,rfl⟩:=nat_of x0
  have:=k (2+x) H2 (b1.trans b2) D2 (by omega) (by omega)
  simpa using this
theorem scWeight:Aw ["_law_deck_here","_law_way"] ["_law_deck_here"] (Ag sWeight):=⟨rfl,rfl,rfl,by decide+kernel,rfl,by decide+kernel,by decide+kernel⟩
theorem ok_Weight {f:Addr} {fd:FuncData} (F:Fun K "_law_weight" "_law_weight" sWeight f fd) (T:Txt mg)
  {gDraw:Addr} {fDraw:FuncData} (kDraw:PySem.W.keepIn K (.ref gDraw)=true) (bDraw:Binds K fDraw ["_law_deck_here","_law_most"] []) (hDraw:mg "_law_draw"=some (.ref gDraw)) (GDraw:FnOk P w K mg base CX0 1 gDraw fDraw ["_law_deck_here","_law_most"] spDraw):
  FnOk P w K mg base CX0 2 f fd ["_law_deck_here"] spWeight:=by
 refine F.ok scWeight (fun vs H Q E h=> ?_) (fun cdv A outer s H vs Q E hr h=> ?_)
 ·obtain ⟨_,_,rfl,_⟩:=h;rfl
 ·obtain ⟨d,b,rfl,hD,k⟩:=h
  refine okO ⟨_,psso_cons (pso_of (Ak (i:=1) scWeight.nd rfl (Or.inl rfl) (Ai GDraw hr rfl hDraw kDraw bDraw .nil Aq (Aa (pv 0) (Aa Af Ac)))))
   (psso_cons (pso_of (Ba (Ar Cc (pv 1) Af (As _)) (Ah (Ao (Ai GDraw hr rfl hDraw kDraw bDraw .nil Aq (Aa (pv 0) (Aa (Am Bc (Am op_pow Af Af) Af) Ac))))) Ax))
   (psso_one (pso_ret (peo_ix Bf (peo_lst (Bo Bq (Bo Bq (Bo Bq (Bo Bq (Bo Bq (Bo Bq (Bo (peo_op op_pow Bq Bq) pao_nil)))))))) (peo_of (pv 1)) (fun _ _=>rfl))))),?_⟩
  refine ⟨_,rfl,d,8,b+1,rfl,hD,by decide,by decide,fun v H1 v0 v1 b1 D1=> ?_⟩
  refine ⟨_,rfl,rfl,_,rfl,ite2 (fun _=> ?_) fun g=> ?_⟩
  ·refine ⟨_,rfl,_,_,rfl,rfl,⟨by decide,by decide,by decide⟩,_,_,rfl,rfl,d,_,b,rfl,D1,by decide,by decide,fun x H2 x0 x1 b2 D2=>k x H2 (b1.trans b2) D2 x0 (by have:x<10 ^ 9+1:=x1;omega)⟩
  dsimp only [Bu]
  have g:v≠7:=by simpa using g
  refine ⟨_,_,rfl,rfl,⟨by decide,by decide,by decide⟩,small (by simp),fun q hq=> ?_⟩
  obtain ⟨y,hy,iy⟩:=int_item [0,1,1,2,3,7,10 ^ 9] v0 (by show v<7;omega)
  exact ⟨_,rfl,q,_,v,_,rfl,rfl,SqL.of Ab,iy,k y _ (b1.trans (But.of (Ae hq))) ((D1.mono (by omega)).upd (D1.ne hq)) (by simp at hy;omega) (by simp at hy;omega)⟩
theorem scTie:Aw ["_law_deck_here","_law_many_here","_law_there","_law_free","_law_lined","_law_name","_law_one","_law_other","_law_way","_law_like"] ["_law_deck_here","_law_many_here","_law_there","_law_free","_law_lined"] (Ag sTie):=⟨rfl,rfl,rfl,by decide+kernel,rfl,by decide+kernel,by decide+kernel⟩
theorem ok_Tie {f:Addr} {fd:FuncData} (F:Fun K "_law_tie" "_law_tie" sTie f fd) (T:Txt mg)
  {gDraw:Addr} {fDraw:FuncData} (kDraw:PySem.W.keepIn K (.ref gDraw)=true) (bDraw:Binds K fDraw ["_law_deck_here","_law_most"] []) (hDraw:mg "_law_draw"=some (.ref gDraw)) (GDraw:FnOk P w K mg base CX0 2 gDraw fDraw ["_law_deck_here","_law_most"] spDraw)
  {gWeight:Addr} {fWeight:FuncData} (kWeight:PySem.W.keepIn K (.ref gWeight)=true) (bWeight:Binds K fWeight ["_law_deck_here"] []) (hWeight:mg "_law_weight"=some (.ref gWeight)) (GWeight:FnOk P w K mg base CX0 2 gWeight fWeight ["_law_deck_here"] spWeight):
  FnOk P w K mg base CX0 3 f fd ["_law_deck_here","_law_many_here","_law_there","_law_free","_law_lined"] spTie:=by
 refine F.ok scTie (fun vs H Q E h=> ?_) (fun cdv A outer s H vs Q E hr h=> ?_)
 ·obtain ⟨_,_,_,_,_,_,_,_,rfl,_⟩:=h;rfl
 ·obtain ⟨d,th,fr,N,b,ln,ps,fs,rfl,hD,N2,N24,hT,hP,p60,hF,f0,f100,nth,nfr,k⟩:=h
  refine ⟨_,Ad (Ak (i:=5) scTie.nd rfl (Or.inl rfl) (Av Bf (pv 3) (Ai GDraw hr rfl hDraw kDraw bDraw .nil Aq (Aa (pv 0) (Aa (Aj A1 (by rfl) T.len PySem.boot_len (Aa (pv 3) Ac)) Ac))) (fun _ _=>rfl)))
   (Ad (Ak (i:=6) scTie.nd rfl (Or.inl rfl) (Ai GDraw hr rfl hDraw kDraw bDraw .nil Aq (Aa (pv 0) (Aa (pv 1) Ac))))
   (Ad (Ak (i:=7) scTie.nd rfl (Or.inl rfl) (Am op_mod (Am Bc (Am Bc (pv 6) Af) (Ai GDraw hr rfl hDraw kDraw bDraw .nil Aq (Aa (pv 0) (Aa (Am op_sub (pv 1) Af) Ac)))) (pv 1)))
   (Ad (Ak (i:=8) scTie.nd rfl (Or.inl rfl) (Ai GDraw hr rfl hDraw kDraw bDraw .nil Aq (Aa (pv 0) (Aa Af Ac))))
   (Ad (Ba (Br (pv 4)) (Ad (Ak (i:=6) scTie.nd rfl (Or.inl rfl) (Am op_mod (Aj call_lenD (by rfl) T.len PySem.boot_len (Aa (pv 2) Ac)) (pv 1)))
   (Ah (Ak (i:=7) scTie.nd rfl (Or.inl rfl) (Am op_mod (Am Bc (pv 6) Af) (pv 1))))) (Ah (Ba (PW.pt (pw_and (Ar Cc (pv 8) Af (As _)) (pw_and1 (Ar (op_neDict hr.units0) (pv 2) pe_dnewK (As _))))) (Ad (Ak (i:=9) scTie.nd rfl (Or.inl rfl) (pe_dget (hu_of hr) (pv 2) (Av Bf (Aj (Srt.call_sortedD rfl) (by rfl) T.sorted (by decide+kernel) (Aa (pv 2) Ac)) (Ai GDraw hr rfl hDraw kDraw bDraw .nil Aq (Aa (pv 0) (Aa (Aj call_lenD (by rfl) T.len PySem.boot_len (Aa (pv 2) Ac)) Ac))) (fun _ _=>rfl)) (fun _ _=>rfl)))
   (Ad (Ak (i:=6) scTie.nd rfl (Or.inl rfl) (Av A2 (pv 9) Af (fun _ _=>rfl)))
   (Ah (Ak (i:=7) scTie.nd rfl (Or.inl rfl) (Av A2 (pv 9) Af (fun _ _=>rfl)))))) (Ah (Ba (Ar Cc (pv 8) Af (As _)) (Ah (Ak (i:=7) scTie.nd rfl (Or.inl rfl) (Am op_mod (Am Bc (pv 6) Af) (pv 1)))) Ax)))))
   (PSs.imp' (t':=tTie) (Ad (Ba (Ar Cc (Ai GDraw hr rfl hDraw kDraw bDraw .nil Aq (Aa (pv 0) (Aa Af Ac))) Af (As _)) (Ah (ps_par (i:=6) (j:=7) rfl scTie.nd rfl rfl (by decide) rfl rfl (Aa (pv 7) (Aa (pv 6) Ac)) rfl)) Ax)
   (Ah (Ao (Bn (Aa (pv 5) (Aa (pv 6) (Aa (pv 7) (Aa (Ai GWeight hr rfl hWeight kWeight bWeight .nil Aq (Aa (pv 0) Ac)) Ac)))))))) ?tail))))),?_⟩
  case tail=>
   clear k hT hP hD hF f0 f100 p60 N2 N24
   rintro D σ H ⟨d,u1,u2,u3,u4,u8,u9,n,one,other,b,rfl,hD,k⟩
   refine ⟨_,rfl,d,2,b+2,rfl,hD,by decide,by decide,fun v H1 _ _ b1 D1=>⟨rfl,_,rfl,ite2 (fun _=> ?_) fun _=> ?_⟩⟩
   ·refine ⟨_,rfl,_,rfl,_,_,rfl,?_⟩
    exact ⟨_,rfl,_,rfl,_,rfl,_,rfl,d,b,rfl,D1,fun w H2 b2 D2 w0 w1=>⟨small (by simp),fun r hr'=>k other one w r _ (.inr ⟨rfl,rfl⟩) ((b1.trans b2).trans (But.of (Ae hr'))) (D2.upd (D2.ne hr')) w0 w1 Ab⟩⟩
   ·exact ⟨_,rfl,_,rfl,_,rfl,_,rfl,d,b,rfl,D1,fun w H2 b2 D2 w0 w1=>⟨small (by simp),fun r hr'=>k one other w r _ (.inl ⟨rfl,rfl⟩) ((b1.trans b2).trans (But.of (Ae hr'))) (D2.upd (D2.ne hr')) w0 w1 Ab⟩⟩
  refine ⟨_,rfl,_,rfl,_,rfl,fr,_,rfl,.inl (SqL.of hF),d,_,b+7,rfl,hD,by rw [List.length_map];omega,by rw [List.length_map];omega,fun v H1 v0 v1 b1 D1=> ?_⟩
  rw [List.length_map] at v1
  obtain ⟨n,hn,_,an⟩:=str_item fs v0 v1
  refine ⟨fr,_,v,_,rfl,rfl,SqL.of (b1 _ _ hF nfr),an,?_⟩
  refine ⟨_,rfl,_,rfl,d,_,b+6,rfl,D1,by omega,by omega,fun one H2 o0 o1 b2 D2=> ?_⟩
  obtain ⟨one,rfl⟩:=nat_of o0
  refine ⟨_,rfl,_,_,rfl,rfl,_,rfl,_,rfl,_,_,rfl,rfl,d,_,b+5,rfl,D2,by omega,by omega,fun x H3 x0 x1 b3 D3=>⟨_,_,rfl,rfl,_,rfl,_,_,rfl,rfl,(by show (0:Int)<N;omega),?_⟩⟩
  obtain ⟨x,rfl⟩:=nat_of x0
  have om:=mod_ne (N:=N) (a:=one) (v:=x) (by omega) (by omega)
  have oe:((one:Int)+1+(x:Int)) % (N:Int)=(((one+1+x) % N:Nat):Int):=by rw [←mod_int];simp
  dsimp only
  rw [oe]
  generalize (one+1+x) % N=other at om
  refine ⟨_,rfl,d,4,b+4,rfl,D3,by decide,by decide,fun way H4 w0 w1 b4 D4=> ?_⟩
  have B4:But d H H4:=((b1.trans b2).trans b3).trans b4
  have T4:=th_but hT B4 hD nth
  have oN:one<N:=by omega
  have fin:∀(one other:Nat) (c:Nat) (u4 u8 u9:Option V) (H5:Hp),But d H H5→DeckAt H5 d (b+3)→TieOk N (n,one,other,0)→tTie {nx:=fun _ _=>True,rt:=Q,bk:=fun _ _=>True,ct:=fun _ _=>True} [some (.ref d),some (.int (N:Int)),some (.ref th),some (.ref fr),u4,some (.str n),some (.int (one:Int)),some (.int (other:Int)),u8,u9] H5:=by
   intro one other c u4 u8 u9 H5 b5 D5 hok
   refine ⟨d,_,_,_,_,_,_,n,one,other,b,rfl,D5,fun x y w r H' hxy b' D' w0 w1 hr'=> ?_⟩
   refine k (n,x,y,w) r H' (b5.trans b') D' hn ?_ w0 w1 hr'
   obtain ⟨h1,h2,h3⟩:=hok
   rcases hxy with ⟨rfl,rfl⟩|⟨rfl,rfl⟩
   ·exact ⟨h1,h2,h3⟩
   ·exact ⟨h2,h1,Ne.symm h3⟩
  cases ln with
  |true=>
   refine ⟨_,rfl,_,rfl,Bi ?_⟩
   refine ⟨_,rfl,th,_,rfl,T4.1,_,rfl,_,_,rfl,rfl,(by show (0:Int)<N;omega),?_⟩
   dsimp only
   rw [mod_int]
   have hl:(psK ps).length % N<N:=Nat.mod_lt _ (by omega)
   generalize (psK ps).length % N=l at hl
   refine ⟨_,rfl,_,_,rfl,rfl,_,rfl,_,_,rfl,rfl,(by show (0:Int)<N;omega),?_⟩
   have e:((l:Int)+1) % (N:Int)=(((l+1) % N:Nat):Int):=by rw [←mod_int];simp
   dsimp only
   rw [e]
   have:=mod_ne1 hl N2
   exact fin l _ 0 _ _ _ H4 B4 (D4.mono (by omega)) ⟨hl,this.2,Ne.symm this.1⟩
  |false=>
   refine ⟨_,rfl,_,rfl,Bb ?_⟩
   have rest:∀(H5:Hp),But d H H5→DeckAt H5 d (b+3)→(∀t:TS,True)→tIfS (tTest (tOp rEq (tVar 8) (tC (.int 1)))) (tAsg (tOp (rI (fun _ j=>0<j) fun i j=> .int (i % j)) (tOp (rI0 fun i j=> .int (i+j)) (tVar 6) (tC (.int 1))) (tVar 1)) (gName 7)) Bu {nx:=fun σ H=>tTie {nx:=fun _ _=>True,rt:=Q,bk:=fun _ _=>True,ct:=fun _ _=>True} σ H,rt:=Q,bk:=fun _ _=>True,ct:=fun _ _=>True} [some (.ref d),some (.int (N:Int)),some (.ref th),some (.ref fr),some (.bl false),some (.str n),some (.int (one:Int)),some (.int (other:Int)),some (.int way),none] H5:=by
    intro H5 b5 D5 _
    refine ⟨_,rfl,rfl,_,rfl,ite2 (fun _=> ?_) fun _=> ?_⟩
    ·refine ⟨_,rfl,_,_,rfl,rfl,_,rfl,_,_,rfl,rfl,(by show (0:Int)<N;omega),?_⟩
     have e:((one:Int)+1) % (N:Int)=(((one+1) % N:Nat):Int):=by rw [←mod_int];simp
     dsimp only
     rw [e]
     have:=mod_ne1 oN N2
     exact fin one _ 0 _ _ _ H5 b5 D5 ⟨oN,this.2,Ne.symm this.1⟩
    ·exact fin one other 0 _ _ _ H5 b5 D5 ⟨oN,om.2,Ne.symm om.1⟩
   refine ⟨_,rfl,rfl,_,rfl,ite2 (fun _=>⟨_,rfl,fun e he=> ?_⟩) fun _=>Bb ?_⟩
   rotate_left
   ·exact rest H4 B4 (D4.mono (by omega)) fun _=>trivial
   have se:=Ae (o:= .dK []) he
   have e5:=Ab (H:=H4) (a:=e) (o:= .dK [])
   have D5:=D4.same se
   generalize upd H4 e (.dK [])=H5 at se e5 D5
   have B5:But d H H5:=B4.trans (But.of se)
   have T5:=T4.same se
   refine ⟨th,e,_,rfl,rfl,T5.1,e5,_,rfl,ite2 (fun g=> ?_) fun _=> ?_⟩
   rotate_left
   ·exact rest H5 B5 (D5.mono (by omega)) fun _=>trivial
   have pne:ps≠[]:=fun e=>by rw [e] at g;simp [psK] at g
   have pl:0<ps.length:=List.length_pos_iff.mpr pne
   refine ⟨_,rfl,_,rfl,th,_,_,rfl,T5.1,psK_keys ps,by rw [List.length_map];omega,fun l ns hl perm _=> ?_⟩
   have sl:=Ae (o:= .lst (ns.map V.str)) hl
   have l6:=Ab (H:=H5) (a:=l) (o:= .lst (ns.map V.str))
   have D6:=D5.same sl
   have nl:=D5.ne hl
   have T6:=T5.same sl
   generalize upd H5 l (.lst (ns.map V.str))=H6 at sl l6 D6 T6
   have nsl:ns.length=ps.length:=by rw [perm.length_eq,List.length_map]
   have pk:(psK ps).length=ps.length:=by unfold psK;rw [List.length_map]
   refine ⟨_,rfl,_,rfl,th,_,rfl,T6.1,d,_,b+3,rfl,D6,by rw [pk];omega,by rw [pk];omega,fun y H7 y0 y1 b7 D7=> ?_⟩
   rw [pk] at y1
   obtain ⟨m,hm,_,am⟩:=str_item ns y0 (by omega)
   have T7:=th_but T6 b7 D6 nth
   obtain ⟨p,hp,rfl⟩:=List.mem_map.mp (perm.mem_iff.mp hm)
   refine ⟨l,_,y,_,rfl,rfl,SqL.of (b7 _ _ l6 nl),am,th,_,rfl,(val_some hp hP.nd)▸DGet.k (k:=Sum.inr p.1.1) T7.1,?_⟩
   have ep:=T7.2 p hp
   refine ⟨_,rfl,p.2,_,0,_,rfl,rfl,SqT.of ep,Al (j:=0) rfl,?_⟩
   refine ⟨_,rfl,p.2,_,1,_,rfl,rfl,SqT.of ep,Al (j:=1) rfl,?_⟩
   exact fin p.1.2.1 p.1.2.2.1 0 _ _ _ H7 ((B5.trans (But.of sl)).trans b7) D7 (hP.ok p hp)
end
end K61
namespace K61
open PySem L2 Wk
def spGap:Sp:=fun vs H Q _=>∃(d:Addr) (b:Nat),vs=[.ref d]∧DeckAt H d (b+2)∧∀(v:Int) (H':Hp),But d H H'→DeckAt H' d b→0≤v→v≤1000000000→Q (.int v) H'
structure HI (d de th nm:Addr) (N:Nat) (zs:List Str) (H0:Hp) (b:Nat) (mo:Int) (ps:Ps) (rs:List Addr) (ds:List Dd) (H:Hp):Prop where
 bt:But d H0 H
 dk:DeckAt H d b
 hn:H nm=some (.lst (zs.map V.str))
 ht:ThAt H th ps
 po:PsOk N ps
 fs:ps.map (·.1)=thr ds
 hd:H de=some (.lst (rs.map V.ref))
 dd:DdsAt H rs ds
 rt:Right N ds
 m0:0≤mo
 m1:mo≤1000000000
 mu:∀x∈ds,x.mo≤mo
 nz:∀x∈ds,x.nm∈zs
structure HS (d de th nm:Addr) (N:Nat) (zs:List Str) (H0:Hp):Prop where
 nde:de≠d
 nth:th≠d
 nnm:nm≠d
 hde:H0 de=none
 hth:H0 th=none
 dnm:de≠nm
 znd:zs.Nodup
 zl:zs.length≤60
theorem HI.but {d de th nm:Addr} {N:Nat} {zs:List Str} {H0 H H':Hp} {b b':Nat} {mo:Int} {ps:Ps} {rs:List Addr} {ds:List Dd} (I:HI d de th nm N zs H0 b mo ps rs ds H) (S:HS d de th nm N zs H0) (h:But d H H') (D:DeckAt H' d b'):HI d de th nm N zs H0 b' mo ps rs ds H':=
 {I with bt:=I.bt.trans h,dk:=D,hn:=h _ _ I.hn S.nnm,ht:=th_but I.ht h I.dk S.nth,hd:=h _ _ I.hd S.nde,dd:=I.dd.mono fun r xs e=>h.tup I.dk e}
theorem HI.same {d de th nm:Addr} {N:Nat} {zs:List Str} {H0 H H':Hp} {b:Nat} {mo:Int} {ps:Ps} {rs:List Addr} {ds:List Dd} (I:HI d de th nm N zs H0 b mo ps rs ds H) (S:HS d de th nm N zs H0) (s:Same H H'):HI d de th nm N zs H0 b mo ps rs ds H':=I.but S (But.of s) (I.dk.same s)
theorem thr_nm:∀(ds:List Dd) (S:List T4) (t:T4),t∈ds.foldl stepD S→t∈S∨∃x∈ds,x.nm=t.1
 |[],S,t,h=> .inl h
 |x::ds,S,t,h=>by
  rcases thr_nm ds (stepD S x) t h with g|⟨y,hy,e⟩
  ·cases x with
   |come m u=>
    rcases List.mem_append.mp g with g|g
    ·exact .inl g
    ·exact .inr ⟨_,List.mem_cons_self ..,by rw [List.mem_singleton.mp g];rfl⟩
   |go m n=>exact .inl (List.mem_filter.mp g).1
  ·exact .inr ⟨y,List.mem_cons_of_mem _ hy,e⟩
theorem right_snoc {N:Nat} {ds:List Dd} {d:Dd} (h:Right N ds) (ok:DdOk N (thr ds) d) (l:ds.length<60) (m:0≤d.mo∧d.mo≤1000000000) (up:∀x∈ds,x.mo≤d.mo) (wt:∀m t,d= .come m t→0≤t.2.2.2∧t.2.2.2≤1000000000):Right N (ds++[d]):=by
 refine ⟨fun i x e=> ?_,by simp;omega,fun x hx=> ?_,?_,fun m' t hx=> ?_⟩
 ·rw [List.getElem?_append] at e
  split at e
  ·rename_i hi
   rw [List.take_append_of_le_length (by omega)]
   exact h.ok i x e
  ·have hi:i - ds.length=0:=by
    have:=(List.getElem?_eq_some_iff.mp e).1
    simp at this;omega
   rw [hi] at e
   cases e
   rw [show i=ds.length by omega,List.take_left]
   exact ok
 ·rcases List.mem_append.mp hx with q|q
  ·exact h.mo x q
  ·rw [List.mem_singleton.mp q];exact m
 ·refine List.pairwise_append.mpr ⟨h.up,List.pairwise_singleton ..,fun x hx y hy=> ?_⟩
  rw [List.mem_singleton.mp hy];exact up x hx
 ·rcases List.mem_append.mp hx with q|q
  ·exact h.wt m' t q
  ·exact wt m' t (List.mem_singleton.mp q).symm
theorem dds_snoc {H H':Hp} {rs:List Addr} {ds:List Dd} {r:Addr} {d:Dd} (h:DdsAt H rs ds) (f:∀a xs,H a=some (.tup xs)→H' a=some (.tup xs)) (hr:H' r=some (.tup d.vs)):DdsAt H' (rs++[r]) (ds++[d]):=by
 refine ⟨by simp [h.1],fun i a x ha hx=> ?_⟩
 rw [List.getElem?_append] at ha hx
 by_cases hi:i<rs.length
 ·rw [if_pos hi] at ha
  rw [if_pos (by rw [←h.1];exact hi)] at hx
  exact f _ _ (h.2 i a x ha hx)
 ·rw [if_neg hi] at ha
  rw [if_neg (by rw [←h.1];exact hi),←h.1] at hx
  have:i - rs.length=0:=by
   have:=(List.getElem?_eq_some_iff.mp ha).1
   simp at this;omega
  rw [this] at ha hx
  cases ha
  cases hx
  exact hr
def hσ (d nm th de:Addr) (N:Nat) (u1 u4:Option V) (ln:Bool) (mo:Int) (u9 u10 u11 u12:Option V):St:=[some (.ref d),u1,some (.int (N:Int)),some (.ref nm),u4,some (.bl ln),some (.ref th),some (.int mo),some (.ref de),u9,u10,u11,u12]
def tGo:TS:=fun D σ H=>∃(d de th nm:Addr) (N:Nat) (zs:List Str) (H0:Hp) (b:Nat) (mo:Int) (ps:Ps) (rs:List Addr) (ds:List Dd) (u1 u4 u9 u10 u11 u12:Option V) (ln:Bool),σ=hσ d nm th de N u1 u4 ln mo u9 u10 u11 u12∧HS d de th nm N zs H0∧HI d de th nm N zs H0 (b+1) mo ps rs ds H∧0<ps.length∧ds.length<60∧
 ∀(u11':Option V) ps' rs' ds' H',HI d de th nm N zs H0 b mo ps' rs' ds' H'→ds'.length=ds.length+1→D.nx (hσ d nm th de N u1 u4 ln mo u9 u10 u11' u12) H'
def tCome:TS:=fun D σ H=>∃(d de th nm fr:Addr) (N:Nat) (zs fz:List Str) (H0:Hp) (b:Nat) (mo:Int) (ps:Ps) (rs:List Addr) (ds:List Dd) (u1 u4 u9 u11 u12:Option V) (ln:Bool),σ=hσ d nm th de N u1 u4 ln mo u9 (some (.ref fr)) u11 u12∧HS d de th nm N zs H0∧HI d de th nm N zs H0 (b+8) mo ps rs ds H∧2≤N∧N≤24∧H fr=some (.lst (fz.map V.str))∧fr≠d∧0<fz.length∧fz.length≤100∧(∀n∈fz,n ∉ ps.map (·.1.1)∧n∈zs)∧ds.length<60∧
 ∀(u12':Option V) ps' rs' ds' H',HI d de th nm N zs H0 b mo ps' rs' ds' H'→ds'.length=ds.length+1→D.nx (hσ d nm th de N u1 u4 ln mo u9 (some (.ref fr)) u11 u12') H'
def spHistory:Sp:=fun vs H Q _=>∃(d:Addr) (M b:Nat),vs=[.ref d,.int (M:Int)]∧M≤60∧DeckAt H d (b+800)∧∀(h:Addr) (N:Nat) (ds:List Dd) (H':Hp),But d H H'→DeckAt H' d b→HistAt H' h N ds→Right N ds→(∀x∈ds,Nmz x.nm)→1≤N→N≤24→Q (.ref h) H'
def tHist:TS:=fun D σ H=>∃(d nm:Addr) (N b c:Nat) (zs:List Str) (u1 u5 u6 u7 u8 u9 u10 u11 u12:Option V),σ=[some (.ref d),u1,some (.int (N:Int)),some (.ref nm),some (.int (c:Int)),u5,u6,u7,u8,u9,u10,u11,u12]∧c≤60∧DeckAt H d (b+700)∧1≤N∧N≤24∧H nm=some (.lst (zs.map V.str))∧0<zs.length∧zs.length≤60∧zs.Nodup∧(∀z∈zs,Nmz z)∧nm≠d∧∀(h:Addr) (ds:List Dd) (H':Hp),But d H H'→DeckAt H' d b→HistAt H' h N ds→Right N ds→(∀x∈ds,Nmz x.nm)→D.rt (.ref h) H'
section
variable {P:Program} {w:World} {K:PySem.W.Frag} {mg:Str→Option Value} {base:Heap}
theorem scGap:Aw ["_law_deck_here","_law_way"] ["_law_deck_here"] (Ag sGap):=⟨rfl,rfl,rfl,by decide+kernel,rfl,by decide+kernel,by decide+kernel⟩
theorem ok_Gap {f:Addr} {fd:FuncData} (F:Fun K "_law_gap" "_law_gap" sGap f fd) (T:Txt mg)
  {gDraw:Addr} {fDraw:FuncData} (kDraw:PySem.W.keepIn K (.ref gDraw)=true) (bDraw:Binds K fDraw ["_law_deck_here","_law_most"] []) (hDraw:mg "_law_draw"=some (.ref gDraw)) (GDraw:FnOk P w K mg base CX0 1 gDraw fDraw ["_law_deck_here","_law_most"] spDraw):
  FnOk P w K mg base CX0 2 f fd ["_law_deck_here"] spGap:=by
 refine F.ok scGap (fun vs H Q E h=> ?_) (fun cdv A outer s H vs Q E hr h=> ?_)
 ·obtain ⟨_,_,rfl,_⟩:=h;rfl
 ·obtain ⟨d,b,rfl,hD,k⟩:=h
  refine okO ⟨_,psso_cons (pso_of (Ak (i:=1) scGap.nd rfl (Or.inl rfl) (Ai GDraw hr rfl hDraw kDraw bDraw .nil Aq (Aa (pv 0) (Aa Af Ac)))))
   (psso_cons (pso_of (Ba (Ar Cc (pv 1) Af (As _)) (Ah (Ao (Ai GDraw hr rfl hDraw kDraw bDraw .nil Aq (Aa (pv 0) (Aa (Am op_pow Af Af) Ac))))) Ax))
   (psso_one (pso_ret (peo_ix Bf (peo_lst (Bo Bq (Bo Bq (Bo Bq (Bo Bq (Bo Bq (Bo Bq (Bo Bq pao_nil)))))))) (peo_of (pv 1)) (fun _ _=>rfl))))),?_⟩
  refine ⟨_,rfl,d,8,b+1,rfl,hD,by decide,by decide,fun v H1 v0 v1 b1 D1=> ?_⟩
  refine ⟨_,rfl,rfl,_,rfl,ite2 (fun _=> ?_) fun g=> ?_⟩
  ·refine ⟨_,rfl,_,_,rfl,rfl,⟨by decide,by decide,by decide⟩,d,_,b,rfl,D1,by decide,by decide,fun x H2 x0 x1 b2 D2=>k x H2 (b1.trans b2) D2 x0 (by have:x<10 ^ 9:=x1;omega)⟩
  dsimp only [Bu]
  have g:v≠7:=by simpa using g
  refine ⟨small (by simp),fun q hq=> ?_⟩
  obtain ⟨y,hy,iy⟩:=int_item [0,0,1,1,2,5,0] v0 (by show v<7;omega)
  exact ⟨_,rfl,q,_,v,_,rfl,rfl,SqL.of Ab,iy,k y _ (b1.trans (But.of (Ae hq))) ((D1.mono (by omega)).upd (D1.ne hq)) (by simp at hy;omega) (by simp at hy;omega)⟩
theorem scHistory:Aw ["_law_deck_here","_law_most","_law_many_here","_law_names_here","_law_count","_law_lined","_law_there","_law_moment","_law_deeds","_law_k","_law_free","_law_name","_law_tie_here"] ["_law_deck_here","_law_most"] (Ag sHistory):=⟨rfl,rfl,rfl,by decide+kernel,rfl,by decide+kernel,by decide+kernel⟩
theorem ok_History {f:Addr} {fd:FuncData} (F:Fun K "_law_history" "_law_history" sHistory f fd) (T:Txt mg)
  {gDraw:Addr} {fDraw:FuncData} (kDraw:PySem.W.keepIn K (.ref gDraw)=true) (bDraw:Binds K fDraw ["_law_deck_here","_law_most"] []) (hDraw:mg "_law_draw"=some (.ref gDraw)) (GDraw:FnOk P w K mg base CX0 3 gDraw fDraw ["_law_deck_here","_law_most"] spDraw)
  {gNames:Addr} {fNames:FuncData} (kNames:PySem.W.keepIn K (.ref gNames)=true) (bNames:Binds K fNames ["_law_deck_here","_law_many_here"] []) (hNames:mg "_law_names"=some (.ref gNames)) (GNames:FnOk P w K mg base CX0 3 gNames fNames ["_law_deck_here","_law_many_here"] spNames)
  {gMany:Addr} {fMany:FuncData} (kMany:PySem.W.keepIn K (.ref gMany)=true) (bMany:Binds K fMany ["_law_deck_here"] []) (hMany:mg "_law_many"=some (.ref gMany)) (GMany:FnOk P w K mg base CX0 3 gMany fMany ["_law_deck_here"] spMany)
  {gGap:Addr} {fGap:FuncData} (kGap:PySem.W.keepIn K (.ref gGap)=true) (bGap:Binds K fGap ["_law_deck_here"] []) (hGap:mg "_law_gap"=some (.ref gGap)) (GGap:FnOk P w K mg base CX0 3 gGap fGap ["_law_deck_here"] spGap)
  {gTie:Addr} {fTie:FuncData} (kTie:PySem.W.keepIn K (.ref gTie)=true) (bTie:Binds K fTie ["_law_deck_here","_law_many_here","_law_there","_law_free","_law_lined"] []) (hTie:mg "_law_tie"=some (.ref gTie)) (GTie:FnOk P w K mg base CX0 3 gTie fTie ["_law_deck_here","_law_many_here","_law_there","_law_free","_law_lined"] spTie):
  FnOk P w K mg base CX0 4 f fd ["_law_deck_here","_law_most"] spHistory:=by
 refine F.ok scHistory (fun vs H Q E h=> ?_) (fun cdv A outer s H vs Q E hr h=> ?_)
 ·obtain ⟨_,_,_,rfl,_⟩:=h;rfl
 ·obtain ⟨d,M,b,rfl,M60,hD,k⟩:=h
  refine ⟨_,Ad (Ak (i:=2) scHistory.nd rfl (Or.inl rfl) (Ai GMany hr rfl hMany kMany bMany .nil Aq (Aa (pv 0) Ac)))
   (Ad (Ak (i:=3) scHistory.nd rfl (Or.inl rfl) (Ai GNames hr rfl hNames kNames bNames .nil Aq (Aa (pv 0) (Aa (Av Bf (Bm (Aa Af (Aa Af Ac))) (Be call_int1 (by rfl) T.int (by decide+kernel) (Aa (Bk Cc (Ai GDraw hr rfl hDraw kDraw bDraw .nil Aq (Aa (pv 0) (Aa Af Ac))) Af (As _)) Ac)) (fun _ _=>rfl)) Ac))))
   (Ad (Ak (i:=4) scHistory.nd rfl (Or.inl rfl) (Ai GDraw hr rfl hDraw kDraw bDraw .nil Aq (Aa (pv 0) (Aa Af Ac))))
   (Ad (Ba (Ar Cc (Ai GDraw hr rfl hDraw kDraw bDraw .nil Aq (Aa (pv 0) (Aa Af Ac))) Af (As _)) (Ah (Ak (i:=4) scHistory.nd rfl (Or.inl rfl) (pv 1))) Ax)
   (PSs.imp' (t':=tHist) (Ad (Ak (i:=5) scHistory.nd rfl (Or.inl rfl) (Bk Cc (Ai GDraw hr rfl hDraw kDraw bDraw .nil Aq (Aa (pv 0) (Aa Af Ac))) Af (As _)))
   (Ad (Ak (i:=6) scHistory.nd rfl (Or.inr rfl) pe_dnewK)
   (Ad (Ak (i:=7) scHistory.nd rfl (Or.inl rfl) Af)
   (Ad (Ak (i:=8) scHistory.nd rfl (Or.inl rfl) (Bm Ac))
   (Ad (Ca PassesOwn.never rfl (pi_range1 rfl T.range (Aa (Am op_mul (pv 4) (Be call_int1 (by rfl) T.int (by decide+kernel) (Aa (Bk op_gt (pv 2) Af (As _)) Ac))) Ac)) (Az (i:=9) scHistory.nd rfl (Or.inl rfl)) (Ad (Ak (i:=7) scHistory.nd rfl (Or.inl rfl) (Aj (call_min2 rfl) (by rfl) T.min (by decide+kernel) (Aa (Am op_pow Af Af) (Aa (Am Bc (pv 7) (Ai GGap hr rfl hGap kGap bGap .nil Aq (Aa (pv 0) Ac))) Ac))))
   (Ad (ps_comp (i:=10) (T:=["_law_name"]) (F:=["_law_there"]) (js:=[6]) scHistory.nd rfl (Or.inl rfl) (CS.to (osc:=Ag sHistory) ⟨by rfl,by decide+kernel,by decide+kernel,by decide+kernel,by decide+kernel,by decide+kernel,by decide+kernel⟩ rfl rfl) rfl (pi_list (pv 3)) (fun _ _ _ _ _=>Az (i:=0) (show (["_law_name","_law_there"]:List Str).Nodup by decide+kernel) rfl (Or.inl rfl)) (fun _ _ _ _ _=>pif_one (pt_cmp (pc_dnotin (hu_of hr) (pv 0) (pv 1)))) (fun _ _ _ _ _=>pv 0))
   (Ah (Ba (PW.pt (pw_and (Ar (op_neDict hr.units0) (pv 6) pe_dnewK (As _)) (pw_and1 (PW.pt (pw_or (Ar (op_eqNil hr.units) (pv 10) (Bm Ac) (As _)) (pw_or1 (Ar Cc (Ai GDraw hr rfl hDraw kDraw bDraw .nil Aq (Aa (pv 0) (Aa (Am Bc Af (Am op_mul Af (Be call_int1 (by rfl) T.int (by decide+kernel) (Aa (pv 5) Ac)))) Ac))) Af (As _)))))))) (PSs.imp' (t':=tGo) (Ad (Ak (i:=11) scHistory.nd rfl (Or.inl rfl) (Av Bf (Aj (Srt.call_sortedD rfl) (by rfl) T.sorted (by decide+kernel) (Aa (pv 6) Ac)) (Ai GDraw hr rfl hDraw kDraw bDraw .nil Aq (Aa (pv 0) (Aa (Aj call_lenD (by rfl) T.len PySem.boot_len (Aa (pv 6) Ac)) Ac))) (fun _ _=>rfl)))
   (Ad (ps_expr (pe_dpop1 (pv 6) (pv 11) ⟨rfl,rfl,rfl,rfl⟩))
   (Ah (ps_expr (pe_bm PySem.F.plainAttrs_list PySem.F.slot_list_append PySem.F.type_list_append mt_append (pv 8) (Aa (Bn (Aa Bg (Aa (pv 7) (Aa (pv 11) Ac)))) Ac)))))) ?go) (PSs.imp' (t':=tCome) (Ad (Ak (i:=12) scHistory.nd rfl (Or.inl rfl) (Ai GTie hr rfl hTie kTie bTie .nil Aq (Aa (pv 0) (Aa (pv 2) (Aa (pv 6) (Aa (pv 10) (Aa (pv 5) Ac)))))))
   (Ad (ps_dput (hu_of hr) (pv 6) (Av A2 (pv 12) Af (fun _ _=>rfl)) (A3 sl_tup (pv 12) (A4 Af) Bh) rfl)
   (Ah (ps_expr (pe_bm PySem.F.plainAttrs_list PySem.F.slot_list_append PySem.F.type_list_append mt_append (pv 8) (Aa (Am Bv (Bn (Aa Bg (Aa (pv 7) Ac))) (pv 12)) Ac)))))) ?come))))))
   (Ah (Ao (Bn (Aa (pv 2) (Aa (Be call_tuple_of (by rfl) T.tuple (by decide+kernel) (Aa (pv 8) Ac)) Ac)))))))))) ?tail)))),?_⟩
  case go=>
   clear k hD M60
   rintro DD σ H ⟨d,de,th,nm,N,zs,H0,b,mo,ps,rs,ds,u1,u4,u9,u10,u11,u12,ln,rfl,S,I,pp,d60,k⟩
   have p60:ps.length≤60:=by
    rw [←List.length_map (f:=(·.1)),I.fs]
    have:=thr_len ds ds.length
    rw [List.take_length] at this
    omega
   refine ⟨_,rfl,th,_,_,rfl,I.ht.1,psK_keys ps,by rw [List.length_map];omega,fun l ns hl perm _=> ?_⟩
   have sl:=Ae (o:= .lst (ns.map V.str)) hl
   have l1:=Ab (H:=H) (a:=l) (o:= .lst (ns.map V.str))
   have nl:=I.dk.ne hl
   have I1:=I.same S sl
   generalize upd H l (.lst (ns.map V.str))=H1 at sl l1 I1
   have nsl:ns.length=ps.length:=by rw [perm.length_eq,List.length_map]
   have pk:(psK ps).length=ps.length:=by unfold psK;rw [List.length_map]
   refine ⟨_,rfl,_,rfl,th,_,rfl,I1.ht.1,d,_,b,rfl,I1.dk,by rw [pk];omega,by rw [pk];omega,fun y H2 y0 y1 b2 D2=> ?_⟩
   rw [pk] at y1
   obtain ⟨m,hm,_,am⟩:=str_item ns y0 (by omega)
   have I2:=I1.but S b2 D2
   have mp:=perm.mem_iff.mp hm
   have mzs:m∈zs:=by
    have q:m∈(thr ds).map (·.1):=by rw [←I2.fs,ps_names];exact mp
    obtain ⟨t,ht,rfl⟩:=List.mem_map.mp q
    rcases thr_nm ds [] t ht with h|⟨x,hx,e⟩
    ·cases h
    ·rw [←e];exact I2.nz x hx
   obtain ⟨p,hp,ep⟩:=List.mem_map.mp mp
   refine ⟨l,_,y,_,rfl,rfl,SqL.of (b2 _ _ l1 nl),am,?_⟩
   have hv:=val_some hp I2.po.nd
   refine ⟨_,rfl,th,rfl,.inl ⟨_,.inl I2.ht.1⟩,_,rfl,psK ps,Sum.inr m,.ref p.2,I2.ht.1,rfl,by rw [←ep];exact hv,?_⟩
   rw [psK_drop]
   have tup3:∀(a:Addr) xs,H2 a=some (.tup xs)→upd H2 th (.dK (psK (ps.filter fun p=>decide (p.1.1≠m)))) a=some (.tup xs):=fun a xs e=>by
    rw [Ap (Cd e I2.ht.1 (by intro z;cases z))];exact e
   have T3:ThAt (upd H2 th (.dK (psK (ps.filter fun p=>decide (p.1.1≠m))))) th (ps.filter fun p=>decide (p.1.1≠m)):=⟨Ab,fun q hq=>tup3 _ _ (I2.ht.2 q (List.mem_filter.mp hq).1)⟩
   have hd3:upd H2 th (.dK (psK (ps.filter fun p=>decide (p.1.1≠m)))) de=some (.lst (rs.map V.ref)):=by rw [Ap (Cd I2.hd I2.ht.1 (by intro z;cases z))];exact I2.hd
   have hn3:upd H2 th (.dK (psK (ps.filter fun p=>decide (p.1.1≠m)))) nm=some (.lst (zs.map V.str)):=by rw [Ap (Cd I2.hn I2.ht.1 (by intro z;cases z))];exact I2.hn
   have dk3:=I2.dk.upd (o:= .dK (psK (ps.filter fun p=>decide (p.1.1≠m)))) S.nth
   have bt3:But d H0 (upd H2 th (.dK (psK (ps.filter fun p=>decide (p.1.1≠m))))):=I2.bt.set S.hth
   have dd3:=I2.dd.mono tup3
   generalize upd H2 th (.dK (psK (ps.filter fun p=>decide (p.1.1≠m))))=H3 at T3 hd3 hn3 dk3 bt3 dd3
   refine ⟨_,rfl,.inl ⟨rfl,_,SqL.of hd3⟩,_,rfl,_,rfl,small (by simp),fun r hr'=> ?_⟩
   have s4:=Ae (o:= .tup [V.str (Str.ofString "go"),V.int mo,V.str m]) hr'
   have r4:upd H3 r (.tup [V.str (Str.ofString "go"),V.int mo,V.str m]) r=some (.tup (Dd.go mo m).vs):=Ab
   have hd4:=s4 _ _ hd3
   have hn4:=s4 _ _ hn3
   have dk4:=dk3.same s4
   have T4':=T3.same s4
   have bt4:=bt3.trans (But.of s4)
   have dd4:=dd3.mono fun a xs=>s4 a (.tup xs)
   generalize upd H3 r (.tup [V.str (Str.ofString "go"),V.int mo,V.str m])=H4 at s4 r4 hd4 hn4 dk4 T4' bt4 dd4
   have tup5:∀(a:Addr) xs,H4 a=some (.tup xs)→upd H4 de (.lst (rs.map V.ref++[.ref r])) a=some (.tup xs):=fun a xs e=>by
    rw [Ap (Cd e hd4 (by intro z;cases z))];exact e
   have rl:rs.length=ds.length:=dd4.1
   refine ⟨de,_,_,rfl,rfl,hd4,A8 (by rw [List.length_map];omega),k _ (ps.filter fun p=>decide (p.1.1≠m)) (rs++[r]) (ds++[.go mo m]) _ ⟨bt4.set S.hde,dk4.upd S.nde,by rw [Ap (Ne.symm S.dnm)];exact hn4,⟨by rw [Ap (Cd T4'.1 hd4 (by intro z;cases z))];exact T4'.1,fun q hq=>tup5 _ _ (T4'.2 q hq)⟩,⟨?_,fun q hq=>I2.po.ok q (List.mem_filter.mp hq).1⟩,by rw [ps_filt,I2.fs,thr_snoc];rfl,by rw [Ab,List.map_append];rfl,dds_snoc dd4 tup5 (tup5 _ _ r4),right_snoc (d:= .go mo m) I2.rt ?_ d60 ⟨I2.m0,I2.m1⟩ I2.mu (fun m' t e=>by cases e),I2.m0,I2.m1,fun x hx=> ?_,fun x hx=>(List.mem_append.mp hx).elim (I2.nz x) fun q=>by rw [List.mem_singleton.mp q];exact mzs⟩ (by simp)⟩
   ·have:(ps.filter fun p=>decide (p.1.1≠m)).map (·.1.1)=(ps.map (·.1.1)).filter fun x=>decide (x≠m):=by rw [List.filter_map];rfl
    rw [this];exact I2.po.nd.sublist List.filter_sublist
   ·show m∈(thr ds).map (·.1)
    rw [←I2.fs,ps_names];exact mp
   ·rcases List.mem_append.mp hx with q|q
    ·exact I2.mu x q
    ·rw [List.mem_singleton.mp q];exact Int.le_refl _
  case come=>
   clear k hD M60
   rintro DD σ H ⟨d,de,th,nm,fr,N,zs,fz,H0,b,mo,ps,rs,ds,u1,u4,u9,u11,u12,ln,rfl,S,I,N2,N24,hF,nF,f0,f100,fm,d60,k⟩
   have p60:ps.length≤60:=by
    rw [←List.length_map (f:=(·.1)),I.fs]
    have:=thr_len ds ds.length
    rw [List.take_length] at this
    omega
   refine ⟨_,rfl,_,rfl,_,rfl,_,rfl,_,rfl,d,th,fr,N,b,ln,ps,fz,rfl,I.dk,N2,N24,I.ht,I.po,p60,hF,f0,f100,S.nth,nF,fun t r H1 b1 D1 tm tok w0 w1 er=> ?_⟩
   have I1:=I.but S b1 D1
   refine ⟨_,rfl,_,rfl,r,_,rfl,SqT.of er,(fun q=>absurd (show (1:Nat)=0 from q.1) (by decide)),fun p hp=> ?_⟩
   have ec:Bx (tieV t) (some 1) none=endV t:=rfl
   rw [ec]
   have sp:=Ae (o:= .tup (endV t)) hp
   have p2:=Ab (H:=H1) (a:=p) (o:= .tup (endV t))
   have I2:=I1.same S sp
   have er2:=sp _ _ er
   generalize upd H1 p (.tup (endV t))=H2 at sp p2 I2 er2
   refine ⟨_,rfl,_,rfl,r,_,0,_,rfl,rfl,SqT.of er2,Al (j:=0) rfl,th,_,rfl,DPut.k (k:=Sum.inr t.1) I2.ht.1 (A8 (by unfold psK;rw [List.length_map];omega)),?_⟩
   rw [psK_put (fm t.1 tm).1]
   have tup3:∀(a:Addr) xs,H2 a=some (.tup xs)→upd H2 th (.dK (psK (ps++[(t,p)]))) a=some (.tup xs):=fun a xs e=>by
    rw [Ap (Cd e I2.ht.1 (by intro z;cases z))];exact e
   have T3:ThAt (upd H2 th (.dK (psK (ps++[(t,p)])))) th (ps++[(t,p)]):=⟨Ab,fun q hq=>by
    rcases List.mem_append.mp hq with h|h
    ·exact tup3 _ _ (I2.ht.2 q h)
    ·rw [List.mem_singleton.mp h];exact tup3 _ _ p2⟩
   have hd3:upd H2 th (.dK (psK (ps++[(t,p)]))) de=some (.lst (rs.map V.ref)):=by rw [Ap (Cd I2.hd I2.ht.1 (by intro z;cases z))];exact I2.hd
   have hn3:upd H2 th (.dK (psK (ps++[(t,p)]))) nm=some (.lst (zs.map V.str)):=by rw [Ap (Cd I2.hn I2.ht.1 (by intro z;cases z))];exact I2.hn
   have dk3:=I2.dk.upd (o:= .dK (psK (ps++[(t,p)]))) S.nth
   have bt3:But d H0 (upd H2 th (.dK (psK (ps++[(t,p)])))):=I2.bt.set S.hth
   have dd3:=I2.dd.mono tup3
   have er3:=tup3 _ _ er2
   generalize upd H2 th (.dK (psK (ps++[(t,p)])))=H3 at T3 hd3 hn3 dk3 bt3 dd3 er3
   refine ⟨_,rfl,.inl ⟨rfl,_,SqL.of hd3⟩,_,rfl,small (by simp),fun c hc=> ?_⟩
   have sc:=Ae (o:= .tup [.str (Str.ofString "come"),.int mo]) hc
   have c3:=Ab (H:=H3) (a:=c) (o:= .tup [.str (Str.ofString "come"),.int mo])
   generalize hH3:upd H3 c (.tup [.str (Str.ofString "come"),.int mo])=H3' at sc c3
   refine ⟨_,rfl,c,r,_,_,rfl,rfl,SqT.of c3,SqT.of (sc _ _ er3),small (by simp [tieV]),fun e=>absurd e (by simp),fun _ e=>absurd e (by simp [tieV]),fun _ _ g hg=> ?_⟩
   have s4:=sc.trans (Ae (o:= .tup ([V.str (Str.ofString "come"),V.int mo]++tieV t)) hg)
   have r4:upd H3' g (.tup ([V.str (Str.ofString "come"),V.int mo]++tieV t)) g=some (.tup (Dd.come mo t).vs):=Ab
   have hd4:=s4 _ _ hd3
   have hn4:=s4 _ _ hn3
   have dk4:=dk3.same s4
   have T4':=T3.same s4
   have bt4:=bt3.trans (But.of s4)
   have dd4:=dd3.mono fun a xs=>s4 a (.tup xs)
   generalize upd H3' g (.tup ([V.str (Str.ofString "come"),V.int mo]++tieV t))=H4 at s4 r4 hd4 hn4 dk4 T4' bt4 dd4
   have tup5:∀(a:Addr) xs,H4 a=some (.tup xs)→upd H4 de (.lst (rs.map V.ref++[.ref g])) a=some (.tup xs):=fun a xs e=>by
    rw [Ap (Cd e hd4 (by intro z;cases z))];exact e
   have rl:rs.length=ds.length:=dd4.1
   refine ⟨de,_,_,rfl,rfl,hd4,A8 (by rw [List.length_map];omega),k _ (ps++[(t,p)]) (rs++[g]) (ds++[.come mo t]) _ ⟨bt4.set S.hde,dk4.upd S.nde,by rw [Ap (Ne.symm S.dnm)];exact hn4,⟨by rw [Ap (Cd T4'.1 hd4 (by intro z;cases z))];exact T4'.1,fun q hq=>tup5 _ _ (T4'.2 q hq)⟩,⟨?_,fun q hq=> ?_⟩,by rw [List.map_append,I2.fs,thr_snoc];rfl,by rw [Ab,List.map_append];rfl,dds_snoc dd4 tup5 (tup5 _ _ r4),right_snoc (d:= .come mo t) I2.rt ⟨?_,tok⟩ d60 ⟨I2.m0,I2.m1⟩ I2.mu (fun m' t' e=>by cases e;exact ⟨w0,w1⟩),I2.m0,I2.m1,fun x hx=> ?_,fun x hx=>(List.mem_append.mp hx).elim (I2.nz x) fun q=>by rw [List.mem_singleton.mp q];exact (fm t.1 tm).2⟩ (by simp)⟩
   ·rw [List.map_append]
    refine List.nodup_append.mpr ⟨I2.po.nd,List.nodup_cons.mpr ⟨by simp,List.nodup_nil⟩,fun x hx y hy=> ?_⟩
    have e:y=t.1:=List.mem_singleton.mp hy
    intro q
    exact (fm t.1 tm).1 (by rw [←e,←q];exact hx)
   ·rcases List.mem_append.mp hq with h|h
    ·exact I2.po.ok q h
    ·rw [List.mem_singleton.mp h];exact tok
   ·rw [←I2.fs,ps_names];exact (fm t.1 tm).1
   ·rcases List.mem_append.mp hx with q|q
    ·exact I2.mu x q
    ·rw [List.mem_singleton.mp q];exact Int.le_refl _
  case tail=>
   clear k hD M60
   rintro DD σ H0 ⟨d,nm,N,b,c,zs,u1,u5,u6,u7,u8,u9,u10,u11,u12,rfl,c60,hD,N1,N24,hn,z0,zl,znd,zok,nnm,k⟩
   refine ⟨_,rfl,d,8,b+699,rfl,hD,by decide,by decide,fun v H1 _ _ b1 D1=>⟨rfl,?_⟩⟩
   generalize decide (V.int v=V.int 6)=ln
   intro th hth
   have s2:=Ae (o:= .dK []) hth
   have t2:=Ab (H:=H1) (a:=th) (o:= .dK [])
   have nth:=D1.ne hth
   have hth0:H0 th=none:=b1.none D1 hth
   have D2:=D1.same s2
   have B2:=b1.trans (But.of s2)
   have n2:=B2 _ _ hn nnm
   generalize upd H1 th (.dK [])=H2 at s2 t2 D2 B2 n2
   refine ⟨small (by simp),fun de hde=> ?_⟩
   have s3:=Ae (o:= .lst []) hde
   have e3:=Ab (H:=H2) (a:=de) (o:= .lst [])
   have nde:=D2.ne hde
   have hde0:H0 de=none:=B2.none D2 hde
   have D3:=D2.same s3
   have B3:=B2.trans (But.of s3)
   have n3:=s3 _ _ n2
   have t3:=s3 _ _ t2
   generalize upd H2 de (.lst [])=H3 at s3 e3 D3 B3 n3 t3
   have SS:HS d de th nm N zs H0:=⟨nde,nth,nnm,hde0,hth0,(A0 hn hde0).symm,znd,zl⟩
   obtain ⟨C,hC,eC,C2⟩:∃C:Nat,C≤60∧(c:Int) * (if decide ((1:Int)<(N:Int))=true then (1:Int) else 0)=(C:Int)∧(0<C→2≤N):=by
    by_cases g:(1:Int)<(N:Int)
    ·exact ⟨c,c60,by rw [decide_eq_true g];simp,fun _=>by omega⟩
    ·exact ⟨0,by omega,by rw [decide_eq_false g];simp,fun h=>absurd h (by omega)⟩
   refine ⟨_,rfl,_,rfl,_,_,rfl,rfl,.inr ⟨_,rfl,_,_,rfl,rfl,.inl ⟨by omega,by omega⟩,(C:Int),?_,by omega,by omega,for_range (lo:=0) (n:=(C:Int).toNat) (fun i σ H5=>∃(u9 u10 u11 u12:Option V) (mo:Int) (ps:Ps) (rs:List Addr) (ds:List Dd),σ=hσ d nm th de N u1 (some (.int (c:Int))) ln mo u9 u10 u11 u12∧HI d de th nm N zs H0 (b+(C - i) * 11) mo ps rs ds H5∧ds.length=i)
    ⟨_,_,_,_,0,[],[],[],rfl,⟨B3,D3.mono (by omega),n3,⟨t3,by simp⟩,⟨List.nodup_nil,by simp⟩,rfl,e3,⟨rfl,fun i r d e=>(by simp at e)⟩,⟨fun i d e=>(by simp at e),by simp,by simp,List.Pairwise.nil,fun m t h=>(by cases h)⟩,by decide,by decide,by simp,by simp⟩,rfl⟩ ?_ ?_⟩⟩
   ·rw [←eC]
   ·rintro i σ H5 hi ⟨u9',u10',u11',u12',mo,ps,rs,ds,rfl,I,dl⟩
    have hi:i<C:=by simpa using hi
    have N2:=C2 (by omega)
    have p60:ps.length≤60:=by
     rw [←List.length_map (f:=(·.1)),I.fs]
     have:=thr_len ds ds.length
     rw [List.take_length] at this
     omega
    refine ⟨_,_,rfl,rfl,⟨by decide,by decide,by decide⟩,_,rfl,_,rfl,d,b+(C - (i+1)) * 11+9,rfl,I.dk.mono (by omega),fun gp H6 b6 D6 g0 g1=>⟨_,_,rfl,rfl,_,_,rfl,?_⟩⟩
    have I6:=I.but SS b6 D6
    obtain ⟨mo',em,mm0,mm1,mm2⟩:∃mo':Int,(if mo+gp<10 ^ (9:Int).toNat then mo+gp else 10 ^ (9:Int).toNat)=mo'∧0≤mo'∧mo'≤1000000000∧mo≤mo':=by
     have:=I.m0
     have:=I.m1
     have e9:(10:Int) ^ (9:Int).toNat=1000000000:=by decide
     rw [e9]
     refine ⟨_,rfl,?_,?_,?_⟩<;> split<;> omega
    rw [em]
    have I7:HI d de th nm N zs H0 (b+(C - (i+1)) * 11+9) mo' ps rs ds H6:={I6 with m0:=mm0,m1:=mm1,mu:=fun x hx=>Int.le_trans (I6.mu x hx) mm2}
    clear I I6 em b6 D6
    refine ⟨_,rfl,nm,rfl,⟨_,SqL.of I7.hn⟩,fun F hF=>comp_list (K:=K) (a:=nm) (xs:=zs.map V.str) (fun j σ ys H7=>∃(u:Option V),σ=[u,some (.ref th)]∧ys=((zs.take j).filter fun n=> !decide (n∈ps.map (·.1.1))).map V.str∧H7=upd H6 F (.lst ys)) ⟨none,rfl,rfl,rfl⟩ (fun j σ ys H7 _ ⟨_,_,_,e⟩=>by rw [e];exact ⟨SqL.of (by rw [Ap (A0 I7.hn hF)];exact I7.hn),Ab⟩) ?_ ?_⟩
    ·rintro j x σ ys H7 hx ⟨u,rfl,rfl,rfl⟩
     obtain ⟨z,hz,rfl⟩:=Bs hx
     have tk:zs.take (j+1)=zs.take j++[z]:=by rw [List.take_add_one,hz];rfl
     have lf:((zs.take j).filter fun n=> !decide (n∈ps.map (·.1.1))).length≤60:=Nat.le_trans (List.length_filter_le _ _) (by rw [List.length_take];omega)
     refine ⟨_,rfl,_,rfl,th,_,rfl,DGet.k (k:=Sum.inr z) (Ae hF _ _ I7.ht.1),_,rfl,?_⟩
     rw [val_has]
     by_cases g:z∈ps.map (·.1.1)
     ·rw [decide_eq_true g]
      exact Bb ⟨_,rfl,by rw [tk,List.filter_append];simp [g],rfl⟩
     ·rw [decide_eq_false g]
      exact Bi ⟨_,rfl,Ab,A8 (by rw [List.length_map];omega),_,rfl,by rw [tk,List.filter_append,List.map_append];simp [g],by rw [upd_upd]⟩
    rintro σ ys H7 ⟨u,rfl,rfl,rfl⟩
    rw [List.length_map,List.take_length]
    have fl:(zs.filter fun n=> !decide (n∈ps.map (·.1.1))).length≤60:=Nat.le_trans (List.length_filter_le _ _) (by omega)
    have fm:∀n∈zs.filter fun n=> !decide (n∈ps.map (·.1.1)),n ∉ ps.map (·.1.1)∧n∈zs:=fun n hn=>by
     have:=(List.mem_filter.mp hn).2
     exact ⟨by simpa using this,(List.mem_filter.mp hn).1⟩
    have f0:ps=[]→0<(zs.filter fun n=> !decide (n∈ps.map (·.1.1))).length:=fun e=>by subst e;rw [List.filter_eq_self.mpr (by simp)];exact z0
    generalize (zs.filter fun n=> !decide (n∈ps.map (·.1.1)))=fz at fl fm f0
    have sF:=Ae (o:= .lst (fz.map V.str)) hF
    have F8:=Ab (H:=H6) (a:=F) (o:= .lst (fz.map V.str))
    have nF:=I7.dk.ne hF
    have I8:=I7.same SS sF
    generalize upd H6 F (.lst (fz.map V.str))=H8 at sF F8 I8
    clear I7 sF hF
    refine ⟨_,rfl,fun e he=> ?_⟩
    have se:=Ae (o:= .dK []) he
    have e9:=Ab (H:=H8) (a:=e) (o:= .dK [])
    have I9:=I8.same SS se
    have F9:=se _ _ F8
    generalize upd H8 e (.dK [])=H9 at se e9 I9 F9
    clear I8 F8
    have come:∀(HA:Hp) (bb:Nat),HI d de th nm N zs H0 bb mo' ps rs ds HA→b+(C - (i+1)) * 11+8≤bb→HA F=some (.lst (fz.map V.str))→0<fz.length→tCome {nx:=fun σ H5=>∃(u9 u10 u11 u12:Option V) (mo:Int) (ps:Ps) (rs:List Addr) (ds:List Dd),σ=hσ d nm th de N u1 (some (.int (c:Int))) ln mo u9 u10 u11 u12∧HI d de th nm N zs H0 (b+(C - (i+1)) * 11) mo ps rs ds H5∧ds.length=i+1,rt:=fun _ _=>True,bk:=fun _ _=>True,ct:=fun _ _=>True} (hσ d nm th de N u1 (some (.int (c:Int))) ln mo' (some (.int (0+(i:Int)))) (some (.ref F)) u11' u12') HA:=by
     intro HA bb IA hb fA f0'
     exact ⟨d,de,th,nm,F,N,zs,fz,H0,b+(C - (i+1)) * 11,mo',ps,rs,ds,_,_,_,_,_,ln,rfl,SS,{IA with dk:=IA.dk.mono hb},N2,N24,fA,nF,f0',by omega,fm,by omega,fun u12'' ps' rs' ds' H' I' l'=>⟨_,_,_,_,_,ps',rs',ds',rfl,I',by omega⟩⟩
    have go:∀(HA:Hp) (bb:Nat),HI d de th nm N zs H0 bb mo' ps rs ds HA→b+(C - (i+1)) * 11+1≤bb→0<ps.length→tGo {nx:=fun σ H5=>∃(u9 u10 u11 u12:Option V) (mo:Int) (ps:Ps) (rs:List Addr) (ds:List Dd),σ=hσ d nm th de N u1 (some (.int (c:Int))) ln mo u9 u10 u11 u12∧HI d de th nm N zs H0 (b+(C - (i+1)) * 11) mo ps rs ds H5∧ds.length=i+1,rt:=fun _ _=>True,bk:=fun _ _=>True,ct:=fun _ _=>True} (hσ d nm th de N u1 (some (.int (c:Int))) ln mo' (some (.int (0+(i:Int)))) (some (.ref F)) u11' u12') HA:=by
     intro HA bb IA hb p0
     exact ⟨d,de,th,nm,N,zs,H0,b+(C - (i+1)) * 11,mo',ps,rs,ds,_,_,_,_,_,_,ln,rfl,SS,{IA with dk:=IA.dk.mono hb},p0,by omega,fun u11'' ps' rs' ds' H' I' l'=>⟨_,_,_,_,_,ps',rs',ds',rfl,I',by omega⟩⟩
    refine ⟨th,e,_,rfl,rfl,I9.ht.1,e9,_,rfl,ite2 (fun g=> ?_) fun g=>Bb ?_⟩
    rotate_left
    ·have pe:ps=[]:=by
      cases ps with
      |nil=>rfl
      |cons q qs=>exact absurd (by simp [psK]) g
     exact come H9 _ I9 (by omega) F9 (f0 pe)
    have pp:0<ps.length:=by
     cases ps with
     |nil=>exact absurd g (by simp [psK])
     |cons q qs=>simp
    refine ⟨_,rfl,small (by simp),fun e2 he2=> ?_⟩
    have se2:=Ae (o:= .lst []) he2
    have eA:=Ab (H:=H9) (a:=e2) (o:= .lst [])
    have IA:=I9.same SS se2
    have FA:=se2 _ _ F9
    generalize upd H9 e2 (.lst [])=HA at se2 eA IA FA
    refine ⟨F,e2,_,rfl,rfl,SqL.of FA,SqL.of eA,_,rfl,ite2 (fun _=>Bi (go HA _ IA (by omega) pp)) fun g2=> ?_⟩
    have fp:0<fz.length:=by
     cases fz with
     |nil=>exact absurd (by simp) g2
     |cons q qs=>simp
    have hb:(0:Int)<3+9 * (if ln=true then (1:Int) else 0)∧(3+9 * (if ln=true then (1:Int) else 0))<1073741824:=by cases ln<;> decide
    refine ⟨_,rfl,_,rfl,.inr ⟨_,rfl,_,_,rfl,rfl,.inl ⟨by decide,by decide⟩,_,_,rfl,rfl,d,_,b+(C - (i+1)) * 11+8,rfl,IA.dk,hb.1,hb.2,fun v2 HB _ _ bB DB=>⟨rfl,_,rfl,?_⟩⟩⟩
    have IB:=IA.but SS bB DB
    have FB:=bB _ _ FA nF
    refine ite2 (fun g3=> ?_) fun g3=> ?_
    ·exact go HB _ IB (by omega) pp
    ·exact come HB _ IB (by omega) FB fp
   ·rintro σ H5 ⟨u9',u10',u11',u12',mo,ps,rs,ds,rfl,I,dl⟩
    refine ⟨_,rfl,_,rfl,de,_,rfl,.inl ⟨SqL.of I.hd,fun tp htp=> ?_⟩⟩
    have s6:=Ae (o:= .tup (rs.map V.ref)) htp
    have t6:=Ab (H:=H5) (a:=tp) (o:= .tup (rs.map V.ref))
    generalize upd H5 tp (.tup (rs.map V.ref))=H6 at s6 t6
    refine ⟨small (by simp),fun h hh=> ?_⟩
    have s7:=Ae (o:= .tup [.int (N:Int),.ref tp]) hh
    have S7:=s6.trans s7
    exact k h ds _ (I.bt.trans (But.of S7)) ((I.dk.same S7).mono (by omega)) ⟨tp,rs,Ab,s7 _ _ t6,I.dd.mono fun a xs=>S7 a (.tup xs)⟩ I.rt fun x hx=>zok _ (I.nz x hx)
  refine ⟨_,rfl,d,b+798,rfl,hD,fun N H1 b1 D1 N1 N24=> ?_⟩
  refine ⟨_,rfl,small (by simp),fun q hq=> ?_⟩
  have sq:=Ae (o:= .lst [.int 5,.int 40]) hq
  have q2:=Ab (H:=H1) (a:=q) (o:= .lst [.int 5,.int 40])
  have nq:=D1.ne hq
  have D2:=D1.same sq
  generalize upd H1 q (.lst [.int 5,.int 40])=H2 at sq q2 D2
  refine ⟨_,rfl,d,8,b+797,rfl,D2,by decide,by decide,fun v H3 _ _ b3 D3=>⟨rfl,.inr ⟨_,rfl,?_⟩⟩⟩
  have q3:=b3 _ _ q2 nq
  have B3:But d H H3:=(b1.trans (But.of sq)).trans b3
  obtain ⟨nn,an,n0,n60⟩:∃nn:Nat,atI ([.int 5,.int 40]:List V) (if decide (V.int v=V.int 5)=true then 1 else 0)=some (.int (nn:Int))∧0<nn∧nn≤40:=by
   by_cases g:decide (V.int v=V.int 5)=true
   ·rw [if_pos g];exact ⟨40,rfl,by omega,by omega⟩
   ·rw [if_neg g];exact ⟨5,rfl,by omega,by omega⟩
  refine ⟨q,_,_,_,rfl,rfl,SqL.of q3,an,d,nn,b+740,rfl,D3.mono (by omega),by omega,fun nm zs H4 b4 D4 nmn nnm n4 zl znd z8=> ?_⟩
  refine ⟨_,rfl,d,13,b+739,rfl,D4,by decide,by decide,fun c H5 c0 c1 b5 D5=> ?_⟩
  obtain ⟨c,rfl⟩:=nat_of c0
  have n5:=b5 _ _ n4 nnm
  have B5:=(B3.trans b4).trans b5
  refine ⟨_,rfl,d,8,b+738,rfl,D5,by decide,by decide,fun w H6 _ _ b6 D6=>⟨rfl,_,rfl,ite2 (fun _=> ?_) fun _=> ?_⟩⟩
  ·exact ⟨_,rfl,d,nm,N,b,M,zs,_,_,_,_,_,_,_,_,_,rfl,M60,D6.mono (by omega),N1,N24,b6 _ _ n5 nnm,by omega,by omega,znd,z8,nnm,fun h ds H' bb DD' hh rr nn=>k h N ds H' ((B5.trans b6).trans bb) DD' hh rr nn N1 N24⟩
  ·exact ⟨d,nm,N,b,c,zs,_,_,_,_,_,_,_,_,_,rfl,by omega,D6.mono (by omega),N1,N24,b6 _ _ n5 nnm,by omega,by omega,znd,z8,nnm,fun h ds H' bb DD' hh rr nn=>k h N ds H' ((B5.trans b6).trans bb) DD' hh rr nn N1 N24⟩
end
end K61
namespace K61
open PySem L2 Wk
theorem flat_strs (zs:List Str):(zs.map V.str).all flatV=true:=by
 induction zs with
 |nil=>rfl
 |cons n ns ih=>rw [List.map_cons,List.all_cons,ih];rfl
def spLStand:Sp:=spStandB
theorem rev_get {α:Type} {l:List α} {i:Nat} (h:i<l.length):l.reverse[i]? =l[l.length - 1 - i]? :=List.getElem?_reverse h
theorem bk_come {m:Int} {t:T4} {r:List Dd} {met:List Str}:bk (.come m t::r) met=(if t.1 ∉ met then [t] else [])++bk r (met++[t.1]):=rfl
theorem bk_go {m:Int} {n:Str} {r:List Dd} {met:List Str}:bk (.go m n::r) met=bk r (met++[n]):=rfl
section
variable {P:Program} {w:World} {K:PySem.W.Frag} {mg:Str→Option Value} {base:Heap}
theorem scLStand:Aw ["_law_history_here","_law_n","_law_there","_law_met","_law_deed"] ["_law_history_here","_law_n"] (Ag sLStand):=⟨rfl,rfl,rfl,by decide+kernel,rfl,by decide+kernel,by decide+kernel⟩
theorem ok_LStand {f:Addr} {fd:FuncData} (F:Fun K "_law_stand_behind" "_law_stand_behind" sLStand f fd) (T:Txt mg):
  FnOk P w K mg base CX0 1 f fd ["_law_history_here","_law_n"] spLStand:=by
 refine F.ok scLStand (fun vs H Q E h=> ?_) (fun cdv A outer s H vs Q E hr h=> ?_)
 ·obtain ⟨_,_,_,_,rfl,_⟩:=h;rfl
 ·obtain ⟨h,N,ds,n,rfl,⟨tp,rs,eh,et,hdd⟩,hR,hn,k⟩:=h
  refine ⟨_,Ad (Ak (i:=2) scLStand.nd rfl (Or.inl rfl) (Bm Ac))
   (Ad (Ak (i:=3) scLStand.nd rfl (Or.inl rfl) (Bm Ac))
   (Ad (Ca PassesOwn.never rfl (pi_revT rfl T.reversed (Aa (PE.imp' (t':=tTakeH K 0 1) (A3 Bt (Av A2 (pv 0) Af (fun _ _=>rfl)) Bh (A4 (pv 1))) takeH_ok) Ac)) (Az (i:=4) scLStand.nd rfl (Or.inl rfl)) (Ad (Ba (PW.pt (pw_and (Ar op_notIn_seq (Av A2 (pv 4) Af (fun _ _=>rfl)) (pv 3) (by rfl)) (pw_and1 (Ar Cc (Av A2 (pv 4) Af (fun _ _=>rfl)) Bg (As _))))) (Ah (ps_expr (pe_bm PySem.F.plainAttrs_list PySem.F.slot_list_append PySem.F.type_list_append mt_append (pv 2) (Aa (A3 sl_tup (pv 4) (A4 Af) Bh) Ac)))) Ax)
   (Ah (ps_expr (pe_bm PySem.F.plainAttrs_list PySem.F.slot_list_append PySem.F.type_list_append mt_append (pv 3) (Aa (Av A2 (pv 4) Af (fun _ _=>rfl)) Ac))))))
   (Ah (Ao (Be call_tuple_of (by rfl) T.tuple (by decide+kernel) (Aa (Aj Srt.call_sortedT (by rfl) T.sorted (by decide+kernel) (Aa (pv 2) Ac)) Ac)))))),?_⟩
  refine ⟨small (by simp),fun th hth=> ?_⟩
  have s1:=Ae (o:= .lst []) hth
  have t1:=Ab (H:=H) (a:=th) (o:= .lst [])
  generalize upd H th (.lst [])=H1 at s1 t1
  refine ⟨small (by simp),fun mt hmt=> ?_⟩
  have s2:=Ae (o:= .lst []) hmt
  have m2:=Ab (H:=H1) (a:=mt) (o:= .lst [])
  have hmt0:H mt=none:=none_of s1 hmt
  have tm:th≠mt:=A0 t1 hmt
  have S2:=s1.trans s2
  have t2:=s2 _ _ t1
  generalize upd H1 mt (.lst [])=H2 at s2 m2 S2 t2
  have lrs:=hdd.1
  refine ⟨h,tp,_,n,rs.map V.ref,rfl,rfl,S2 _ _ eh,S2 _ _ et,by rw [List.length_map];omega,fun p0 H3 s3 hp0=> ?_⟩
  rw [←List.map_take] at hp0
  have n60:=hR.len
  have ll:((rs.take n).map V.ref).length=n:=by rw [List.length_map,List.length_take];omega
  have rl:(ds.take n).reverse.length=n:=by rw [List.length_reverse,List.length_take];omega
  refine ⟨p0,_,rfl,SqT.of hp0,for_revT (K:=K) (a:=p0) (xs:=(rs.take n).map V.ref) (fun i σ H4=>∃(u4:Option V) (as:List Addr) (L:List T4) (ms:List Str),σ=[some (.ref h),some (.int (n:Int)),some (.ref th),some (.ref mt),u4]∧Same H H4∧H4 p0=some (.tup ((rs.take n).map V.ref))∧H4 th=some (.lst (as.map V.ref))∧TiesAt H4 as L∧H4 mt=some (.lst (ms.map V.str))∧L++bk ((ds.take n).reverse.drop i) ms=bk (ds.take n).reverse []∧ms.length=i∧L.length≤i) ⟨_,[],[],[],rfl,S2.trans s3,hp0,s3 _ _ t2,⟨rfl,fun i r t e=>(by simp at e)⟩,s3 _ _ m2,rfl,rfl,Nat.le_refl _⟩ (fun i σ H4 _ ⟨_,_,_,_,_,_,e,_⟩=>SqT.of e) ?_ ?_⟩
  ·rintro i x σ H4 hi hx ⟨u4,as,L,ms,rfl,s4,p4,t4,R4,m4,eb,ml,Ll⟩
   rw [ll] at hi hx
   obtain ⟨r,er,rfl⟩:=Bs hx
   have ln:n - 1 - i<n:=by omega
   rw [List.getElem?_take_of_lt ln] at er
   obtain ⟨dd,ed,r0⟩:=hdd.get er
   have r4:=s4 _ _ r0
   have eR:(ds.take n).reverse[i]? =some dd:=by
    rw [rev_get (by rw [List.length_take];omega),List.length_take,Nat.min_eq_left (by omega),List.getElem?_take_of_lt ln]
    exact ed
   have dr:(ds.take n).reverse.drop i=dd::(ds.take n).reverse.drop (i+1):=by
    have hi':i<(ds.take n).reverse.length:=by omega
    rw [List.drop_eq_getElem_cons hi']
    congr 1
    have:=getq hi'
    rw [eR] at this
    exact (Option.some.inj this).symm
   rw [dr] at eb
   generalize (ds.take n).reverse.drop (i+1)=RR at eb
   have fin:∀(as':List Addr) (L':List T4) (H5:Hp) (nm:Str),dd.nm=nm→Same H H5→H5 p0=some (.tup ((rs.take n).map V.ref))→H5 th=some (.lst (as'.map V.ref))→TiesAt H5 as' L'→H5 mt=some (.lst (ms.map V.str))→H5 r=some (.tup dd.vs)→L'++bk RR (ms++[nm])=bk (ds.take n).reverse []→L'.length≤i+1→tDrop (tBM K "list" rAppend (tVar 3) (tCons (tOp (rIxT K) (tVar 4) (tC (.int 2))) tNil)) {nx:=fun σ H4=>∃(u4:Option V) (as:List Addr) (L:List T4) (ms:List Str),σ=[some (.ref h),some (.int (n:Int)),some (.ref th),some (.ref mt),u4]∧Same H H4∧H4 p0=some (.tup ((rs.take n).map V.ref))∧H4 th=some (.lst (as.map V.ref))∧TiesAt H4 as L∧H4 mt=some (.lst (ms.map V.str))∧L++bk RR ms=bk (ds.take n).reverse []∧ms.length=i+1∧L.length≤i+1,rt:=fun _ _=>True,bk:=fun _ _=>True,ct:=fun _ _=>True} [some (.ref h),some (.int (n:Int)),some (.ref th),some (.ref mt),some (.ref r)] H5:=by
    intro as' L' H5 nm en s5 p5 t5 R5 m5 r5 eb5 l5
    have a2:atI dd.vs 2=some (.str nm):=by rw [←en];cases dd<;> exact Al (j:=2) rfl
    refine ⟨_,rfl,.inl ⟨rfl,_,SqL.of m5⟩,_,rfl,r,_,2,_,rfl,rfl,SqT.of r5,a2,mt,_,_,rfl,rfl,m5,A8 (by rw [List.length_map];omega),_,as',L',ms++[nm],rfl,same_set s5 hmt0,by rw [Ap (Cd p5 m5 (by intro z;cases z))];exact p5,by rw [Ap tm];exact t5,⟨R5.1,fun j a t e f=>by rw [Ap (Cd (R5.2 j a t e f) m5 (by intro z;cases z))];exact R5.2 j a t e f⟩,by rw [Ab,List.map_append];rfl,eb5,by simp [ml],l5⟩
   have a2:atI dd.vs 2=some (.str dd.nm):=by cases dd<;> exact Al (j:=2) rfl
   refine ⟨_,rfl,r,_,2,_,rfl,rfl,SqT.of r4,a2,_,rfl,mt,_,rfl,.inl (SqL.of m4),rfl,flat_strs ms,_,rfl,?_⟩
   show if (!inV (.str dd.nm) (ms.map V.str))=true then _ else _
   rw [inV_strs]
   cases dd with
   |come m t=>
    rw [bk_come] at eb
    by_cases g:t.1∈ms
    ·rw [show decide ((Dd.come m t).nm∈ms)=true from decide_eq_true g]
     refine Bb (Bb ?_)
     rw [if_neg (by simpa using g)] at eb
     exact fin as L H4 t.1 rfl s4 p4 t4 R4 m4 r4 (by simpa using eb) (by omega)
    ·rw [show decide ((Dd.come m t).nm∈ms)=false from decide_eq_false g]
     refine Bi ⟨_,rfl,r,_,0,_,rfl,rfl,SqT.of r4,Al (j:=0) rfl,rfl,_,rfl,Bi ?_⟩
     rw [if_pos g] at eb
     refine ⟨_,rfl,.inl ⟨rfl,_,SqL.of t4⟩,_,rfl,_,rfl,r,_,rfl,SqT.of r4,(fun q=>absurd (show (2:Nat)=0 from q.1) (by decide)),fun p hp=> ?_⟩
     have ec:Bx (Dd.come m t).vs (some 2) none=tieV t:=rfl
     rw [ec]
     have s5:=Ae (o:= .tup (tieV t)) hp
     have p5':=Ab (H:=H4) (a:=p) (o:= .tup (tieV t))
     have t5:=s5 _ _ t4
     have R5:=R4.same s5
     have m5:=s5 _ _ m4
     have r5:=s5 _ _ r4
     have q5:=s5 _ _ p4
     generalize upd H4 p (.tup (tieV t))=H5 at s5 p5' t5 R5 m5 r5 q5
     have tl:∀(a:Addr) xs,H5 a=some (.tup xs)→upd H5 th (.lst (as.map V.ref++[.ref p])) a=some (.tup xs):=fun a xs e=>by
      rw [Ap (Cd e t5 (by intro z;cases z))];exact e
     refine ⟨th,_,_,rfl,rfl,t5,A8 (by rw [List.length_map,R5.1];omega),?_⟩
     refine fin (as++[p]) (L++[t]) _ t.1 rfl (same_set (s4.trans s5) hth) (tl _ _ q5) (by rw [Ab,List.map_append];rfl) ⟨by simp [R5.1],fun j a u ha hu=> ?_⟩ (by rw [Ap tm.symm];exact m5) (tl _ _ r5) (by rw [←eb];simp) (by simp;omega)
     rw [List.getElem?_append] at ha hu
     by_cases hj:j<as.length
     ·rw [if_pos hj] at ha
      rw [if_pos (by rw [←R5.1];exact hj)] at hu
      exact tl _ _ (R5.2 j a u ha hu)
     ·rw [if_neg hj] at ha
      rw [if_neg (by rw [←R5.1];exact hj),←R5.1] at hu
      have:j - as.length=0:=by
       have:=(List.getElem?_eq_some_iff.mp ha).1
       simp at this;omega
      rw [this] at ha hu
      cases ha
      cases hu
      exact tl _ _ p5'
   |go m nn=>
    rw [bk_go] at eb
    by_cases g:nn∈ms
    ·rw [show decide ((Dd.go m nn).nm∈ms)=true from decide_eq_true g]
     exact Bb (Bb (fin as L H4 nn rfl s4 p4 t4 R4 m4 r4 eb (by omega)))
    ·rw [show decide ((Dd.go m nn).nm∈ms)=false from decide_eq_false g]
     exact Bi ⟨_,rfl,r,_,0,_,rfl,rfl,SqT.of r4,Al (j:=0) rfl,rfl,_,rfl,Bb (fin as L H4 nn rfl s4 p4 t4 R4 m4 r4 eb (by omega))⟩
  ·rintro σ H4 ⟨u4,as,L,ms,rfl,s4,p4,t4,R4,m4,eb,ml,Ll⟩
   rw [ll] at eb Ll
   rw [List.drop_of_length_le (by omega)] at eb
   have eL:L=bk (ds.take n).reverse []:=by rw [←eb];show L=L++[];rw [List.append_nil]
   have pL:L.Perm (thr (ds.take n)):=by rw [eL];exact bk_thr (hR.take n)
   have hz:((as.zip L).map fun q=>((q.1,Bj q.2):Srt.Row)).map Srt.rRef=as.map V.ref:=by
    rw [List.map_map]
    have:(Srt.rRef∘fun q:Addr×T4=>((q.1,Bj q.2):Srt.Row))=V.ref∘Prod.fst:=rfl
    rw [this,←List.map_map,List.map_fst_zip (Nat.le_of_eq R4.1)]
   have hat:∀q∈(as.zip L).map fun q=>((q.1,Bj q.2):Srt.Row),IsTie q.2∧H4 q.1=some (.tup (q.2.map kV)):=fun q hq=>by
    obtain ⟨⟨r,t⟩,hm,rfl⟩:=List.mem_map.mp hq
    obtain ⟨j,hj,e⟩:=List.mem_iff_getElem.mp hm
    rw [List.getElem_zip] at e
    cases e
    have h1:j<as.length:=by rw [List.length_zip] at hj;omega
    have h2:j<L.length:=by rw [List.length_zip] at hj;omega
    exact ⟨⟨_,rfl⟩,R4.2 j _ _ (getq h1) (getq h2)⟩
   have hS:(((as.zip L).map fun q=>((q.1,Bj q.2):Srt.Row)).map (fun q=>tieOf q.2)).Perm (thr (ds.take n)):=by
    rw [List.map_map]
    have:((fun q:Srt.Row=>tieOf q.2)∘fun q:Addr×T4=>((q.1,Bj q.2):Srt.Row))=Prod.snd:=by funext q;exact tieOf_keys q.2
    rw [this,List.map_snd_zip (Nat.le_of_eq R4.1.symm)];exact pL
   have hlz:((as.zip L).map fun q=>((q.1,Bj q.2):Srt.Row)).length≤60:=by rw [List.length_map,List.length_zip];omega
   generalize ((as.zip L).map fun q=>((q.1,Bj q.2):Srt.Row))=qs at hz hat hS hlz
   refine ⟨_,rfl,th,qs,rfl,SqL.of (by rw [hz];exact t4),⟨fun q hq=>SqT.of (hat q hq).2,fun q hq q' hq'=> ?_,fun q hq=> ?_,by omega⟩,fun l qs' hl' perm srt=> ?_⟩
   ·obtain ⟨⟨t,e⟩,_⟩:=hat q hq
    obtain ⟨⟨t',e'⟩,_⟩:=hat q' hq'
    rw [e,e'];rfl
   ·obtain ⟨⟨t,e⟩,_⟩:=hat q hq
    rw [e];simp [Bj]
   have sl:=Ae (o:= .lst (qs'.map Srt.rRef)) hl'
   have l10:=Ab (H:=H4) (a:=l) (o:= .lst (qs'.map Srt.rRef))
   generalize upd H4 l (.lst (qs'.map Srt.rRef))=H5 at sl l10
   refine ⟨l,_,rfl,.inl ⟨SqL.of l10,fun st hst=> ?_⟩⟩
   have ss:=Ae (o:= .tup (qs'.map Srt.rRef)) hst
   obtain ⟨x1,x2⟩:=rows_stand hat hS perm srt (sl.trans ss) Ab
   exact k st _ _ ((s4.trans sl).trans ss) x1 x2
end
end K61
namespace K61
open PySem L2 Wk
def rIsiK (K:PySem.W.Frag):List V→Hp→VK→Prop:=fun xs H Q=>∃(x:V) (t:Value) (c:String) (b:Bool),xs=[x,.ty c]∧TyOf K H x t∧PySem.W.kitOne K t (.type c)=some b∧Q (.bl b) H
theorem over_bad {S:List T4} (nd:(S.map (·.1)).Nodup) {t:T4} (ht:t∈S) {v:Nat} (g:¬(v=t.2.1∨v=t.2.2.1)):overF S v t.1=none:=over_none fun u hu e=>by
 have:=name_inj nd hu ht e
 subst this
 exact ⟨fun h=>g (.inl h),fun h=>g (.inr h)⟩
section
variable {P:Program} {w:World} {K:PySem.W.Frag} {mg:Str→Option Value} {base:Heap}
theorem scWayR:Aw ["_law_stand","_law_one","_law_other","_law_way","_law_here","_law_name","_law_some"] ["_law_stand","_law_one","_law_other","_law_way"] (Ag sWayR):=⟨rfl,rfl,rfl,by decide+kernel,rfl,by decide+kernel,by decide+kernel⟩
theorem ok_WayR {f:Addr} {fd:FuncData} (F:Fun K "_law_way_right" "_law_way_right" sWayR f fd) (T:Txt mg):
  FnOk P w K mg base CX0 1 f fd ["_law_stand","_law_one","_law_other","_law_way"] spWayR:=by
 refine F.ok scWayR (fun vs H Q E h=> ?_) (fun cdv A outer s H vs Q E hr h=> ?_)
 ·obtain ⟨_,_,_,_,_,_,rfl,_⟩:=h;rfl
 ·obtain ⟨st,S,v0,o,p,q,rfl,⟨rs,hst,hrs⟩,S100,nd,hth,k⟩:=h
  refine ⟨_,Ad (Ba (PW.pt (pw_or (pt_not (Br (Aj Bd (by rfl) T.isinstance (by decide+kernel) (Aa (pv 3) (Aa (pe_ty (T:="tuple") (by rfl) T.tuple (by decide+kernel)) Ac))))) (pw_or1 (Ar op_gt (Aj A1 (by rfl) T.len PySem.boot_len (Aa (pv 3) Ac)) Af (As _))))) (Ah (Ao pe_bl)) Ax)
   (Ad (Ak (i:=4) scWayR.nd rfl (Or.inl rfl) (pv 1))
   (Ad (Ca PassesOwn.never rfl (pi_tup (pv 3)) (Az (i:=5) scWayR.nd rfl (Or.inr rfl)) (Ad (ps_comp (i:=6) (T:=["_law_tie_here"]) (F:=["_law_name"]) (js:=[5]) scWayR.nd rfl (Or.inl rfl) (CS.to (osc:=Ag sWayR) ⟨by rfl,by decide+kernel,by decide+kernel,by decide+kernel,by decide+kernel,by decide+kernel,by decide+kernel⟩ rfl rfl) rfl (pi_tup (pv 0)) (fun _ _ _ _ _=>Az (i:=0) (show (["_law_tie_here","_law_name"]:List Str).Nodup by decide+kernel) rfl (Or.inl rfl)) (fun _ _ _ _ _=>pif_one (PW.pt (pw_and (Br (Aj (r:=rIsiK K) Bd (by rfl) T.isinstance (by decide+kernel) (Aa (pv 1) (Aa (pe_ty (T:="str") (by rfl) T.str (by decide+kernel)) Ac)))) (pw_and1 (Ar Cc (Av (r:=rIxT K) A2 (pv 0) Af (fun _ _=>rfl)) (pv 1) (As _)))))) (fun _ _ _ _ _=>pv 0))
   (Ad (Ba (PW.pt (pw_or (Ar (op_eqNil hr.units) (pv 6) (Bm Ac) (As _)) (pw_or1 (Ar op_notIn_seq (pv 4) (A3 sl_tup (Av Bf (pv 6) Af (fun _ _=>rfl)) (A4 Af) (A4 Af)) (by rfl))))) (Ah (Ao pe_bl)) Ax)
   (Ah (Ak (i:=4) scWayR.nd rfl (Or.inl rfl) (Am op_sub (Am Bc (Av A2 (Av Bf (pv 6) Af (fun _ _=>rfl)) Af (fun _ _=>rfl)) (Av A2 (Av Bf (pv 6) Af (fun _ _=>rfl)) Af (fun _ _=>rfl))) (pv 4)))))))
   (Ah (Ao (Bk Cc (pv 4) (pv 2) (As _)))))),?_⟩
  cases o with
  |none=>
   obtain ⟨ty,h1,h2⟩:=NotT.tup (K:=K) hth
   exact ⟨_,rfl,v0,ty,"tuple",false,rfl,h1,h2,_,rfl,Bi (k H (Ay _))⟩
  |some ws=>
  obtain ⟨wa,rfl,hw,hi,xl⟩:=hth
  have k:∀H',Same H H'→Q (.bl (wayV S p ws q)) H':=k
  refine ⟨_,rfl,.ref wa,.type "tuple","tuple",true,rfl,.tup hw,rfl,_,rfl,Bb ?_⟩
  refine ⟨_,rfl,wa,_,rfl,.inr (SqT.of hw),_,_,rfl,rfl,_,rfl,?_⟩
  refine ite2 (fun g=> ?_) fun g=> ?_
  ·have:=k H (Ay _)
   unfold wayV at this
   rw [decide_eq_false (show ¬ws.length≤61 by have:=of_decide_eq_true g;omega),Bool.false_and] at this
   exact this
  have w61:ws.length≤61:=by
   have:¬((ws.length:Int) > 61):=fun h=>g (decide_eq_true h)
   omega
  unfold wayV at k
  rw [decide_eq_true w61,Bool.true_and] at k
  dsimp only [Bu]
  refine ⟨_,rfl,?_⟩
  refine ⟨_,rfl,wa,rfl,⟨_,SqT.of hw⟩,for_tup (K:=K) (a:=wa) (xs:=ws) (fun i σ H5=>∃(u5 u6:Option V) (v:Nat),σ=[some (.ref st),some (.int (p:Int)),some (.int (q:Int)),some (.ref wa),some (.int (v:Int)),u5,u6]∧Same H H5∧goV S p ws=goV S v (ws.drop i)) ⟨_,_,p,rfl,Ay _,rfl⟩ (fun i σ H5 _ ⟨_,_,_,_,s5,_⟩=>SqT.of (s5 _ _ hw)) ?_ ?_⟩
  rotate_left
  ·rintro σ H5 ⟨u5,u6,v,rfl,s5,hv⟩
   rw [List.drop_length] at hv
   have hv:goV S p ws=some v:=hv
   refine ⟨_,rfl,_,rfl,rfl,?_⟩
   have:=k H5 s5
   rw [hv] at this
   rw [show decide (V.int (v:Int)=V.int (q:Int))=decide (some v=some q) by
    rw [Bool.eq_iff_iff,decide_eq_true_eq,decide_eq_true_eq]
    constructor
    ·intro e;injection e with e;rw [show v=q by omega]
    ·intro e;injection e with e;rw [e]]
   exact this
  rintro i x σ H5 hn ⟨u5,u6,v,rfl,s5,hv⟩
  rw [drop_atV hn] at hv
  have hxa:=hi x (List.mem_of_getElem? hn)
  have hv:goV S p ws=match overV S v x with|none=>none|some u=>goV S u (ws.drop (i+1)):=hv
  have st5:=s5 _ _ hst
  refine ⟨_,rfl,st,rfl,⟨_,SqT.of st5⟩,fun D hD=>comp_tup (K:=K) (a:=st) (xs:=rs.map V.ref) (fun j σ ys H6=>∃(u:Option V) (fs:List Addr),σ=[u,some x]∧ys=fs.map V.ref∧H6=upd H5 D (.lst ys)∧fs.length≤j∧(∀f∈fs,∃t'∈S,x= .str t'.1∧H5 f=some (.tup (tieV t')))∧∀(m:Nat) t',m<j→S[m]? =some t'→x= .str t'.1→fs≠[]) ⟨none,[],rfl,rfl,rfl,Nat.le_refl _,by simp,fun m _ h=>absurd h (by omega)⟩ (fun j σ ys H6 _ ⟨_,_,_,_,e,_⟩=>by rw [e];exact ⟨SqT.of (by rw [Ap (A0 st5 hD)];exact st5),Ab⟩) ?_ ?_⟩
  ·rintro j y σ ys H6 hy ⟨u,fs,rfl,rfl,rfl,fl,fa,fn⟩
   obtain ⟨r,hr',rfl⟩:=Bs hy
   obtain ⟨t',ht',er⟩:=hrs.get hr'
   have sD:=Ae (o:= .lst (fs.map V.ref)) hD
   have er6:=sD _ _ (s5 _ _ er)
   have hj:j<100:=by have:=(List.getElem?_eq_some_iff.mp ht').1;omega
   obtain ⟨ty,h1,h2⟩:=An.str (K:=K) ((hxa.same s5).same sD)
   have no:x≠ .str t'.1→∃(u:Option V) (fs':List Addr),[some (.ref r),some x]=[u,some x]∧fs.map V.ref=fs'.map V.ref∧upd H5 D (.lst (fs.map V.ref))=upd H5 D (.lst (fs.map V.ref))∧fs'.length≤j+1∧(∀f∈fs',∃t'∈S,x= .str t'.1∧H5 f=some (.tup (tieV t')))∧∀(m:Nat) t',m<j+1→S[m]? =some t'→x= .str t'.1→fs'≠[]:=fun g=>⟨_,fs,rfl,rfl,rfl,by omega,fa,fun m t2 hm h1 h2=>by
    by_cases e:m=j
    ·subst e
     rw [ht'] at h1
     cases h1
     exact absurd h2 g
    ·exact fn m t2 (by omega) h1 h2⟩
   refine ⟨_,rfl,x,ty,"str",_,rfl,h1,h2,_,rfl,?_⟩
   cases x with
   |str n=>
    refine Bi ⟨_,rfl,r,_,0,_,rfl,rfl,SqT.of er6,Al (j:=0) rfl,_,rfl,rfl,_,rfl,?_⟩
    by_cases g:t'.1=n
    ·rw [show decide (V.str t'.1=V.str n)=true from decide_eq_true (by rw [g])]
     refine Bi ⟨_,rfl,Ab,A8 (by rw [List.length_map];omega),_,fs++[r],rfl,by rw [List.map_append];rfl,by rw [upd_upd],by simp;omega,fun f hf=> ?_,fun m t2 hm h1 h2=>by simp⟩
     rcases List.mem_append.mp hf with h|h
     ·exact fa f h
     ·rw [List.mem_singleton.mp h];exact ⟨t',List.mem_of_getElem? ht',by rw [g],s5 _ _ er⟩
    ·rw [show decide (V.str t'.1=V.str n)=false from decide_eq_false (fun e=>g (by injection e))]
     exact Bb (no fun e=>g (by injection e with e;exact e.symm))
   |_=>exact Bb (no fun e=>nomatch e)
  rintro σ ys H6 ⟨u,fs,rfl,rfl,rfl,fl,fa,fn⟩
  have sD:=Ae (o:= .lst (fs.map V.ref)) hD
  have d6:=Ab (H:=H5) (a:=D) (o:= .lst (fs.map V.ref))
  generalize upd H5 D (.lst (fs.map V.ref))=H6 at sD d6
  refine ⟨_,rfl,small (by simp),fun e he=> ?_⟩
  have se:=Ae (o:= .lst []) he
  have e7:=Ab (H:=H6) (a:=e) (o:= .lst [])
  have d7:=se _ _ d6
  generalize upd H6 e (.lst [])=H7 at se e7 d7
  refine ⟨D,e,_,rfl,rfl,SqL.of d7,SqL.of e7,_,rfl,?_⟩
  cases fs with
  |nil=>
   refine Bi ?_
   have hno:overV S v x=none:=by
    cases x with
    |str n=>
     refine over_none fun t ht e=> ?_
     obtain ⟨m,hm,e'⟩:=List.mem_iff_getElem.mp ht
     exact absurd rfl (fn m t (by rw [List.length_map,hrs.1];exact hm) (by rw [getq hm,e']) (by rw [e]))
    |_=>rfl
   rw [hno] at hv
   have:=k H7 ((s5.trans sD).trans se)
   rw [hv] at this
   exact this
  |cons f0 fs'=>
  refine Bb ?_
  obtain ⟨t',ht',tn',er⟩:=fa f0 (List.mem_cons_self ..)
  have er7:=se _ _ (sD _ _ er)
  refine ⟨_,rfl,_,rfl,D,_,0,_,rfl,rfl,SqL.of d7,Al (j:=0) rfl,_,rfl,_,rfl,f0,_,rfl,SqT.of er7,(fun q=>absurd (show (1:Nat)=0 from q.1) (by decide)),fun c2 hc2=> ?_⟩
  have ec:Bx (tieV t') (some 1) (some 3)=[.int (t'.2.1:Int),.int (t'.2.2.1:Int)]:=rfl
  rw [ec]
  have s8:=Ae (o:= .tup [.int (t'.2.1:Int),.int (t'.2.2.1:Int)]) hc2
  have c8:=Ab (H:=H7) (a:=c2) (o:= .tup [.int (t'.2.1:Int),.int (t'.2.2.1:Int)])
  have d8:=s8 _ _ d7
  have er8:=s8 _ _ er7
  generalize upd H7 c2 (.tup [.int (t'.2.1:Int),.int (t'.2.2.1:Int)])=H8 at s8 c8 d8 er8
  refine ⟨c2,_,rfl,.inr (SqT.of c8),rfl,rfl,_,rfl,?_⟩
  show if (!inV (.int (v:Int)) [.int (t'.2.1:Int),.int (t'.2.2.1:Int)])=true then _ else _
  rw [in_ends]
  by_cases g:v=t'.2.1∨v=t'.2.2.1
  ·rw [decide_eq_true g]
   refine Bb ?_
   dsimp only [Bu]
   obtain ⟨c,hc⟩:∃c,overV S v x=some c:=by
    rw [tn']
    have:=over_tie nd ht'
    rcases g with rfl|rfl
    ·exact ⟨_,this.1⟩
    ·exact ⟨_,this.2⟩
   have e1:=over_end nd ht' g
   rw [tn'] at hc
   have hc:overF S v t'.1=some c:=hc
   rw [hc] at e1
   have e1:V.int (c:Int)=_:=e1
   have hc:overV S v x=some c:=by rw [tn'];exact hc
   rw [hc] at hv
   exact ⟨_,rfl,D,_,0,_,rfl,rfl,SqL.of d8,Al (j:=0) rfl,f0,_,1,_,rfl,rfl,SqT.of er8,Al (j:=1) rfl,_,rfl,D,_,0,_,rfl,rfl,SqL.of d8,Al (j:=0) rfl,f0,_,2,_,rfl,rfl,SqT.of er8,Al (j:=2) rfl,_,_,rfl,rfl,_,rfl,_,_,rfl,rfl,some x,some (.ref D),c,by rw [e1];rfl,((s5.trans sD).trans se).trans s8,hv⟩
  ·rw [decide_eq_false g]
   refine Bi ?_
   have hno:overV S v x=none:=by rw [tn'];exact over_bad nd ht' g
   rw [hno] at hv
   have:=k H8 (((s5.trans sD).trans se).trans s8)
   rw [hv] at this
   exact this
theorem scCutR:Aw ["_law_many_here","_law_stand","_law_one","_law_other","_law_cut","_law_last","_law_place"] ["_law_many_here","_law_stand","_law_one","_law_other","_law_cut"] (Ag sCutR):=⟨rfl,rfl,rfl,by decide+kernel,rfl,by decide+kernel,by decide+kernel⟩
theorem ok_CutR {f:Addr} {fd:FuncData} (F:Fun K "_law_cut_right" "_law_cut_right" sCutR f fd) (T:Txt mg):
  FnOk P w K mg base CX0 1 f fd ["_law_many_here","_law_stand","_law_one","_law_other","_law_cut"] spCutR:=by
 refine F.ok scCutR (fun vs H Q E h=> ?_) (fun cdv A outer s H vs Q E hr h=> ?_)
 ·obtain ⟨_,_,_,_,_,_,_,rfl,_⟩:=h;rfl
 ·obtain ⟨N,st,S,p,q,v0,o,rfl,hst,S100,hth,k⟩:=h
  refine ⟨_,Ad (Ba (pt_not (Br (Aj Bd (by rfl) T.isinstance (by decide+kernel) (Aa (pv 4) (Aa (pe_ty (T:="tuple") (by rfl) T.tuple (by decide+kernel)) Ac))))) (Ah (Ao pe_bl)) Ax)
   (Ad (Ak (i:=5) scCutR.nd rfl (Or.inl rfl) (pe_un un_neg Af))
   (Ad (Ca PassesOwn.never rfl (pi_tup (pv 4)) (Az (i:=6) scCutR.nd rfl (Or.inl rfl)) (Ad (Ba (PW.pt (pw_or (pt_not (Br (Aj Bd (by rfl) T.isinstance (by decide+kernel) (Aa (pv 6) (Aa (pe_ty (T:="int") (by rfl) T.int (by decide+kernel)) Ac))))) (pw_or (Br (Aj Bd (by rfl) T.isinstance (by decide+kernel) (Aa (pv 6) (Aa (pe_ty (T:="bool") (by rfl) T.bool (by decide+kernel)) Ac)))) (pw_or1 (pt_not (pt_chain op_lt op_lt (pv 5) (pv 6) (pv 0))))))) (Ah (Ao pe_bl)) Ax)
   (Ah (Ak (i:=5) scCutR.nd rfl (Or.inl rfl) (pv 6)))))
   (Ad (Ba (PW.pt (pw_or (Ar op_notIn_seq (pv 2) (pv 4) (by rfl)) (pw_or1 (Ar op_in_seq (pv 3) (pv 4) (by rfl))))) (Ah (Ao pe_bl)) Ax)
   (Ah (Ao (Bk (op_eqNil hr.units) (pe_comp (T:=["_law_tie_here"]) (F:=["_law_cut"]) (js:=[4]) (CS.to (osc:=Ag sCutR) ⟨by rfl,by decide+kernel,by decide+kernel,by decide+kernel,by decide+kernel,by decide+kernel,by decide+kernel⟩ rfl rfl) rfl (pi_tup (pv 1)) (fun _ _ _ _ _=>Az (i:=0) (show (["_law_tie_here","_law_cut"]:List Str).Nodup by decide+kernel) rfl (Or.inl rfl)) (fun _ _ _ _ _=>pif_one (Ar op_ne (Bk (r:=rIn K false) op_in_seq (Av (r:=rIxT K) A2 (pv 0) Af (fun _ _=>rfl)) (pv 1) (by rfl)) (Bk (r:=rIn K false) op_in_seq (Av (r:=rIxT K) A2 (pv 0) Af (fun _ _=>rfl)) (pv 1) (by rfl)) (As _))) (fun _ _ _ _ _=>pv 0)) (Bm Ac) (As _))))))),?_⟩
  cases o with
  |none=>
   obtain ⟨ty,h1,h2⟩:=NotT.tup (K:=K) hth
   exact ⟨_,rfl,v0,ty,"tuple",false,rfl,h1,h2,_,rfl,Bi (k H (Ay _))⟩
  |some xs=>
  obtain ⟨cu,rfl,hc,hb,xl⟩:=hth
  refine ⟨_,rfl,.ref cu,.type "tuple","tuple",true,rfl,.tup hc,rfl,_,rfl,Bb ?_⟩
  dsimp only [Bu]
  refine ⟨_,rfl,?_⟩
  refine ⟨_,rfl,cu,rfl,⟨_,SqT.of hc⟩,for_tup (K:=K) (a:=cu) (xs:=xs) (fun i σ H5=>∃(u6:Option V) (la:Int),σ=[some (.int (N:Int)),some (.ref st),some (.int (p:Int)),some (.int (q:Int)),some (.ref cu),some (.int la),u6]∧H5=H∧plsB N xs=goR N la (xs.drop i)) ⟨_,-1,rfl,rfl,goR_all.symm⟩ (fun i σ H5 _ ⟨_,_,_,e,_⟩=>by rw [e];exact SqT.of hc) ?_ ?_⟩
  ·rintro i x σ H5 hx ⟨u6,la,rfl,rfl,hg⟩
   have hi:i<xs.length:=(List.getElem?_eq_some_iff.mp hx).1
   have dr:xs.drop i=x::xs.drop (i+1):=by
    rw [List.drop_eq_getElem_cons hi]
    congr 1
    have:=getq hi
    rw [hx] at this
    exact (Option.some.inj this).symm
   rw [dr] at hg
   have bad:plsB N xs=false→Q (.bl false) H5:=fun hp=>by
    have this:Q (.bl (plsB N xs && (decide ((p:Int)∈xs.map asI) && (!decide ((q:Int)∈xs.map asI) && clB S (xs.map asI))))) H5:=k H5 (Ay _)
    rw [hp,Bool.false_and] at this
    exact this
   obtain ⟨ty,h1,h2⟩:=An.int (K:=K) (hb x (List.mem_of_getElem? hx))
   cases x with
   |int v=>
    have hg:plsB N xs=(decide (la<v) && (decide (v<(N:Int)) && goR N v (xs.drop (i+1)))):=hg
    refine ⟨_,rfl,_,_,"int",true,rfl,.int v,rfl,_,rfl,Bb ⟨_,rfl,_,_,"bool",false,rfl,.int v,rfl,_,rfl,Bb ⟨_,rfl,_,rfl,_,_,rfl,rfl,_,rfl,?_⟩⟩⟩
    by_cases g1:la<v
    ·rw [decide_eq_true g1] at hg ⊢
     refine Bi ⟨_,rfl,_,_,rfl,rfl,_,rfl,?_⟩
     by_cases g2:v<(N:Int)
     ·rw [decide_eq_true g2] at hg ⊢
      refine Bb ?_
      dsimp only [Bu]
      exact ⟨_,rfl,_,v,rfl,rfl,by rw [hg];rfl⟩
     ·rw [decide_eq_false g2] at hg ⊢
      exact Bi (bad (by rw [hg];rfl))
    ·rw [decide_eq_false g1] at hg ⊢
     exact Bb ⟨_,rfl,Bi (bad (by rw [hg];rfl))⟩
   |bl b=>
    obtain ⟨ty2,h3,h4⟩:=An.bool (K:=K) (hb (.bl b) (List.mem_of_getElem? hx))
    have hg:plsB N xs=false:=hg
    exact ⟨_,rfl,_,ty,"int",true,rfl,h1,h2,_,rfl,Bb ⟨_,rfl,_,ty2,"bool",true,rfl,h3,h4,_,rfl,Bi (bad hg)⟩⟩
   |_=>
    have hg:plsB N xs=false:=hg
    exact ⟨_,rfl,_,ty,"int",false,rfl,h1,h2,_,rfl,Bi (bad hg)⟩
  ·rintro σ H5 ⟨u6,la,rfl,rfl,hg⟩
   rw [List.drop_length] at hg
   have hp:plsB N xs=true:=hg
   have hA:xs.all (plV N)=true:=by unfold plsB at hp;rw [Bool.and_eq_true] at hp;exact hp.1
   have k2:∀H',Same H5 H'→Q (.bl (decide ((p:Int)∈xs.map asI) && (!decide ((q:Int)∈xs.map asI) && clB S (xs.map asI)))) H':=fun H' s'=>by
    have this:Q (.bl (plsB N xs && (decide ((p:Int)∈xs.map asI) && (!decide ((q:Int)∈xs.map asI) && clB S (xs.map asI))))) H':=k H' s'
    rw [hp,Bool.true_and] at this
    exact this
   clear k
   have k:=k2
   clear k2
   have exs:=ints_of hA
   clear hb xl hp hg hA
   generalize xs.map asI=ns at exs k
   subst exs
   refine ⟨_,rfl,_,rfl,cu,_,rfl,.inr (SqT.of hc),rfl,Cb _,_,rfl,?_⟩
   show if (!inV (.int (p:Int)) (ns.map V.int))=true then _ else _
   rw [inV_ints]
   by_cases g1:(p:Int)∈ns
   rotate_left
   ·rw [decide_eq_false g1]
    refine Bi ?_
    have:=k H5 (Ay _)
    rw [decide_eq_false g1,Bool.false_and] at this
    exact this
   rw [decide_eq_true g1]
   refine Bb ⟨_,rfl,_,rfl,cu,_,rfl,.inr (SqT.of hc),rfl,Cb _,_,rfl,?_⟩
   show if (inV (.int (q:Int)) (ns.map V.int))=true then _ else _
   rw [inV_ints]
   by_cases g2:(q:Int)∈ns
   ·rw [decide_eq_true g2]
    refine Bi ?_
    have:=k H5 (Ay _)
    rw [decide_eq_true g1,decide_eq_true g2,Bool.true_and] at this
    exact this
   rw [decide_eq_false g2]
   refine Bb ?_
   dsimp only [Bu]
   obtain ⟨rs,est,hrs⟩:=id hst
   refine ⟨_,rfl,st,rfl,⟨_,SqT.of est⟩,fun D hD=>comp_tup (K:=K) (a:=st) (xs:=rs.map V.ref) (fun j σ ys H6=>∃(u:Option V) (fs:List Addr),σ=[u,some (.ref cu)]∧ys=fs.map V.ref∧H6=upd H5 D (.lst ys)∧fs.length≤j∧fs.isEmpty=clB (S.take j) ns) ⟨none,[],rfl,rfl,rfl,Nat.le_refl _,rfl⟩ (fun j σ ys H6 _ ⟨_,_,_,_,e,_⟩=>by rw [e];exact ⟨SqT.of (by rw [Ap (A0 est hD)];exact est),Ab⟩) ?_ ?_⟩
   ·rintro j x σ ys H6 hx ⟨u,fs,rfl,rfl,rfl,fl,fe⟩
    obtain ⟨r,hr',rfl⟩:=Bs hx
    obtain ⟨t,ht,er⟩:=hrs.get hr'
    have hj:j<S.length:=(List.getElem?_eq_some_iff.mp ht).1
    have er6:=Ae (o:= .lst (fs.map V.ref)) hD _ _ er
    have hc6:=Ae (o:= .lst (fs.map V.ref)) hD _ _ hc
    have tk:clB (S.take (j+1)) ns=(clB (S.take j) ns && !(decide ((t.2.1:Int)∈ns) !=decide ((t.2.2.1:Int)∈ns))):=by
     unfold clB
     rw [List.take_add_one,ht,List.all_append]
     simp
    refine ⟨_,rfl,r,_,1,_,rfl,rfl,SqT.of er6,Al (j:=1) rfl,_,rfl,cu,_,rfl,.inr (SqT.of hc6),rfl,Cb _,_,rfl,r,_,2,_,rfl,rfl,SqT.of er6,Al (j:=2) rfl,_,rfl,cu,_,rfl,.inr (SqT.of hc6),rfl,Cb _,rfl,_,rfl,?_⟩
    have e1:∀z:Int,(if false=true then !inV (.int z) (ns.map V.int) else inV (.int z) (ns.map V.int))=decide (z∈ns):=fun z=>by rw [if_neg (by decide),inV_ints]
    rw [e1,e1]
    have eb:(!decide (V.bl (decide ((t.2.1:Int)∈ns))=V.bl (decide ((t.2.2.1:Int)∈ns))))=(decide ((t.2.1:Int)∈ns) !=decide ((t.2.2.1:Int)∈ns)):=by
     cases decide ((t.2.1:Int)∈ns)<;> cases decide ((t.2.2.1:Int)∈ns)<;> decide
    rw [eb]
    cases hg:(decide ((t.2.1:Int)∈ns) !=decide ((t.2.2.1:Int)∈ns)) with
    |true=>
     refine Bi ⟨_,rfl,Ab,A8 (by rw [List.length_map];omega),_,fs++[r],rfl,by rw [List.map_append];rfl,by rw [upd_upd],by rw [List.length_append];show _+1≤_;omega,?_⟩
     rw [tk,hg];simp
    |false=>
     refine Bb ⟨_,fs,rfl,rfl,rfl,by omega,?_⟩
     rw [tk,hg,fe];simp
   ·rintro σ ys H6 ⟨u,fs,rfl,rfl,rfl,fl,fe⟩
    rw [List.length_map,hrs.1,List.take_length] at fe
    have sD:=Ae (o:= .lst (fs.map V.ref)) hD
    have d6:=Ab (H:=H5) (a:=D) (o:= .lst (fs.map V.ref))
    generalize upd H5 D (.lst (fs.map V.ref))=H6 at sD d6
    refine ⟨small (by simp),fun e he=> ?_⟩
    have se:=Ae (o:= .lst []) he
    refine ⟨D,e,_,rfl,rfl,SqL.of (se _ _ d6),SqL.of Ab,?_⟩
    have:=k _ (sD.trans se)
    rw [decide_eq_true g1,decide_eq_false g2,Bool.true_and,Bool.not_false,Bool.true_and,←fe] at this
    have ei:(fs.map V.ref).isEmpty=fs.isEmpty:=by cases fs<;> rfl
    rw [ei]
    exact this
theorem scPaperR:Aw ["_law_many_here","_law_stand","_law_one","_law_other","_law_thing"] ["_law_many_here","_law_stand","_law_one","_law_other","_law_thing"] (Ag sPaperR):=⟨rfl,rfl,rfl,by decide+kernel,rfl,by decide+kernel,by decide+kernel⟩
theorem ok_PaperR {f:Addr} {fd:FuncData} (F:Fun K "_law_paper_right" "_law_paper_right" sPaperR f fd) (T:Txt mg)
  {gWayR:Addr} {fWayR:FuncData} (kWayR:PySem.W.keepIn K (.ref gWayR)=true) (bWayR:Binds K fWayR ["_law_stand","_law_one","_law_other","_law_way"] []) (hWayR:mg "_law_way_right"=some (.ref gWayR)) (GWayR:FnOk P w K mg base CX0 1 gWayR fWayR ["_law_stand","_law_one","_law_other","_law_way"] spWayR)
  {gCutR:Addr} {fCutR:FuncData} (kCutR:PySem.W.keepIn K (.ref gCutR)=true) (bCutR:Binds K fCutR ["_law_many_here","_law_stand","_law_one","_law_other","_law_cut"] []) (hCutR:mg "_law_cut_right"=some (.ref gCutR)) (GCutR:FnOk P w K mg base CX0 1 gCutR fCutR ["_law_many_here","_law_stand","_law_one","_law_other","_law_cut"] spCutR):
  FnOk P w K mg base CX0 2 f fd ["_law_many_here","_law_stand","_law_one","_law_other","_law_thing"] spPaperR:=by
 refine F.ok scPaperR (fun vs H Q E h=> ?_) (fun cdv A outer s H vs Q E hr h=> ?_)
 ·obtain ⟨_,_,_,_,_,_,_,rfl,_⟩:=h;rfl
 ·obtain ⟨st,v,N,p,q,S,o,rfl,hst,S100,nd,hv,k⟩:=h
  refine ⟨_,Ad (Ba (PW.pt (pw_or (pt_not (Br (Aj Bd (by rfl) T.isinstance (by decide+kernel) (Aa (pv 4) (Aa (pe_ty (T:="tuple") (by rfl) T.tuple (by decide+kernel)) Ac))))) (pw_or (Ar op_ne (Aj A1 (by rfl) T.len PySem.boot_len (Aa (pv 4) Ac)) Af (As _)) (pw_or1 (pt_not (Br (Aj Bd (by rfl) T.isinstance (by decide+kernel) (Aa (Av A2 (pv 4) Af (fun _ _=>rfl)) (Aa (pe_ty (T:="str") (by rfl) T.str (by decide+kernel)) Ac))))))))) (Ah (Ao pe_bl)) Ax)
   (Ad (Ba (Ar (op_eqStr hr.units) (Av A2 (pv 4) Af (fun _ _=>rfl)) Bg (As _)) (Ah (Ao (Ai GWayR hr rfl hWayR kWayR bWayR .nil Aq (Aa (pv 1) (Aa (pv 2) (Aa (pv 3) (Aa (Av A2 (pv 4) Af (fun _ _=>rfl)) Ac))))))) Ax)
   (Ah (Ao (pe_and (Bk (op_eqStr hr.units) (Av A2 (pv 4) Af (fun _ _=>rfl)) Bg (As _)) (pe_one (Ai GCutR hr rfl hCutR kCutR bCutR .nil Aq (Aa (pv 0) (Aa (pv 1) (Aa (pv 2) (Aa (pv 3) (Aa (Av A2 (pv 4) Af (fun _ _=>rfl)) Ac))))))))))),?_⟩
  cases hv with
  |no nt=>
   obtain ⟨ty,h1,h2⟩:=NotT.tup (K:=K) nt
   exact ⟨_,rfl,v,ty,"tuple",false,rfl,h1,h2,_,rfl,Bi (k H (Ay _))⟩
  |len r xs e er hi ne=>
   subst e
   refine ⟨_,rfl,.ref r,.type "tuple","tuple",true,rfl,.tup er,rfl,_,rfl,Bb ⟨_,rfl,r,_,rfl,.inr (SqT.of er),rfl,_,rfl,?_⟩⟩
   have ee:(!decide (V.int (xs.length:Int)=V.int 2))=true:=by rw [decide_eq_false (fun z=>ne (by injection z with z;omega))];rfl
   rw [ee]
   exact Bi (k H (Ay _))
  |pair r w t o e er hw ht=>
  subst e
  refine ⟨_,rfl,.ref r,.type "tuple","tuple",true,rfl,.tup er,rfl,_,rfl,Bb ⟨_,rfl,r,_,rfl,.inr (SqT.of er),rfl,_,rfl,Bb ?_⟩⟩
  obtain ⟨ty,h1,h2⟩:=An.str (K:=K) hw
  refine ⟨_,rfl,r,_,0,_,rfl,rfl,SqT.of er,Al (j:=0) rfl,_,ty,"str",_,rfl,h1,h2,_,rfl,?_⟩
  have kk:∀H',Same H H'→Q (.bl (if w= .str "joined" then wayO S p q o else decide (w= .str "parted") && cutO N S p q o)) H':=k
  cases hs:isSt w with
  |false=>
   refine Bi ?_
   have n1:∀z:Str,w≠ .str z:=fun z e=>by rw [e] at hs;cases hs
   have:=kk H (Ay _)
   rw [if_neg (n1 _),decide_eq_false (n1 _),Bool.false_and] at this
   exact this
  |true=>
  refine Bb ?_
  dsimp only [Bu]
  refine ⟨_,rfl,r,_,0,_,rfl,rfl,SqT.of er,Al (j:=0) rfl,.l (Str.ofString "joined") rfl hw ⟨_,rfl,?_⟩⟩
  by_cases g:w= .str "joined"
  ·have k:∀H',Same H H'→Q (.bl (wayO S p q o)) H':=fun H' s'=>by
    have:=kk H' s'
    rwa [if_pos g] at this
   refine ite2 (fun _=> ?_) fun c=>absurd (decide_eq_true g) c
   exact ⟨_,rfl,_,rfl,_,rfl,_,rfl,r,_,1,_,rfl,rfl,SqT.of er,Al (j:=1) rfl,st,S,t,o,p,q,rfl,hst,S100,nd,ht,fun H2 s2=>k H2 s2⟩
  have k:∀H',Same H H'→Q (.bl (decide (w= .str "parted") && cutO N S p q o)) H':=fun H' s'=>by
   have:=kk H' s'
   rwa [if_neg g] at this
  refine ite2 (fun c=>absurd (of_decide_eq_true c) g) fun _=> ?_
  dsimp only [Bu]
  refine ⟨_,rfl,r,_,0,_,rfl,rfl,SqT.of er,Al (j:=0) rfl,.l (Str.ofString "parted") rfl hw ⟨_,rfl,?_⟩⟩
  by_cases g2:w= .str "parted"
  ·rw [decide_eq_true g2] at k
   have e2:decide (w=V.str (Str.ofString "parted"))=true:=decide_eq_true g2
   rw [e2]
   exact Bi ⟨_,rfl,_,rfl,_,rfl,_,rfl,_,rfl,r,_,1,_,rfl,rfl,SqT.of er,Al (j:=1) rfl,N,st,S,p,q,t,o,rfl,hst,S100,ht,fun H2 s2=>k H2 s2⟩
  ·rw [decide_eq_false g2] at k
   have e2:decide (w=V.str (Str.ofString "parted"))=false:=decide_eq_false g2
   rw [e2]
   exact Bb (k H (Ay _))
end
end K61
namespace L2
open PySem
theorem st_L {es rest:List Expr} {pos:Pos} {env:Env}:starEach (.List es pos::rest) env=(false,eval (.List es pos) env)::starEach rest env:=rfl
theorem st_T {es rest:List Expr} {b} {pos:Pos} {env:Env}:starEach (.Tuple es b pos::rest) env=(false,eval (.Tuple es b pos) env)::starEach rest env:=rfl
theorem st_D {ks vs} {rest:List Expr} {pos:Pos} {env:Env}:starEach (.Dict ks vs pos::rest) env=(false,eval (.Dict ks vs pos) env)::starEach rest env:=rfl
theorem st_C {c j} {rest:List Expr} {pos:Pos} {env:Env}:starEach (.Constant c j pos::rest) env=(false,eval (.Constant c j pos) env)::starEach rest env:=rfl
theorem st_K {f as ks} {rest:List Expr} {pos:Pos} {env:Env}:starEach (.Call f as ks pos::rest) env=(false,eval (.Call f as ks pos) env)::starEach rest env:=rfl
theorem st_B {l o r} {rest:List Expr} {pos:Pos} {env:Env}:starEach (.BinOp l o r pos::rest) env=(false,eval (.BinOp l o r pos) env)::starEach rest env:=rfl
theorem st_U {o r} {rest:List Expr} {pos:Pos} {env:Env}:starEach (.UnaryOp o r pos::rest) env=(false,eval (.UnaryOp o r pos) env)::starEach rest env:=rfl
theorem st_S {a b:Expr} {rest:List Expr} {pos:Pos} {env:Env}:starEach (.Subscript a b pos::rest) env=(false,eval (.Subscript a b pos) env)::starEach rest env:=rfl
structure PEw (X:Cx) (e:Expr) (t:TE):Prop where
 out:PE X e t
structure PAw (X:Cx) (es:List Expr) (t:TA):Prop where
 out:PA X es t
section
variable {X:Cx} {e a b:Expr} {es:List Expr} {te ta tb:TE} {t:TA} {pos:Pos} {op:Operator} {r:R2}
theorem w_of (h:PE X e te):PEw X e te:=⟨h⟩
theorem w_nil:PAw X [] tNil:=⟨Ac⟩
theorem Bl (h:PEw X e te) (g:PAw X es t) (hs:starEach (e::es) X.env=(false,eval e X.env)::starEach es X.env):PAw X (e::es) (tCons te t):=⟨Aa h.out g.out hs⟩
theorem w_lst (h:PAw X es t):PEw X (.List es pos) (tLst t):=⟨Bm h.out⟩
theorem w_tup {k} (h:PAw X es t):PEw X (.Tuple es k pos) (tTup t):=⟨Bn h.out⟩
end
end L2
namespace Rp
open PySem L2 PySem.Spec PyProof.Rows PySem.P
def keyM:Key→PyData
 | .inl i=> .int i
 | .inr x=> .str x
inductive RepM (H:Hp):V→PyData→Prop
 |non:RepM H .non .none
 |bl (b:Bool):RepM H (.bl b) (.bool b)
 |int (i:Int):RepM H (.int i) (.int i)
 |str (x:Str):x.length≤1000→RepM H (.str x) (.str x)
 |tup {a:Addr} {xs:List V} {ds:List PyData}:H a=some (.tup xs)→xs.length≤900→xs.length=ds.length→(∀p∈xs.zip ds,RepM H p.1 p.2)→RepM H (.ref a) (.tuple ds)
 |lst {a:Addr} {xs:List V} {ds:List PyData}:H a=some (.lst xs)→a≠sysModules→xs.length=ds.length→(∀p∈xs.zip ds,RepM H p.1 p.2)→RepM H (.ref a) (.list ds)
 |dct {a:Addr}:H a=some (.dK [])→RepM H (.ref a) (.dict [])
 |dc1 {a:Addr} {k:Key} {v:V} {d:PyData}:H a=some (.dK [(k,v)])→RepM H v d→RepM H (.ref a) (.dict [(keyM k,d)])
theorem RepM.mono {H H':Hp} {v:V} {d:PyData} (h:RepM H v d) (s:∀a o,H a=some o→H' a=some o):RepM H' v d:=by
 induction h with
 |non=>exact .non
 |bl b=>exact .bl b
 |int i=>exact .int i
 |str x l=>exact .str x l
 |tup e l z _ ih=>exact .tup (s _ _ e) l z ih
 |lst e ns z _ ih=>exact .lst (s _ _ e) ns z ih
 |dct e=>exact .dct (s _ _ e)
 |dc1 e _ ih=>exact .dc1 (s _ _ e) ih
theorem readsAll_of {H:Hp} {hp:Heap}:∀{xs:List V} {ds:List PyData} {us:List Value},xs.length=ds.length→Vals xs us→(∀p∈xs.zip ds,∀u,RelV p.1 u→∃as,Reads hp u p.2 as∧sysModules ∉ as)→∃as,ReadsAll hp us ds as∧sysModules ∉ as
 |[],[],_,_,r,_=>by cases r;exact ⟨_,.nil,by simp⟩
 |[],_::_,_,z,_,_=>nomatch z
 |_::_,[],_,z,_,_=>nomatch z
 |x::xs,d::ds,_,z,r,h=>by
  cases r with
  |cons r1 r2=>
   obtain ⟨as,q1,n1⟩:=h (x,d) (by simp) _ r1
   obtain ⟨bs,q2,n2⟩:=readsAll_of (H:=H) (by simpa using z) r2 fun p hp=>h p (by simp [hp])
   exact ⟨_,.cons q1 q2,by simp [n1,n2]⟩
theorem RepM.reads {X:Cx} {pins:List (Addr×Obj)} {σ:L2.St} {H:Hp} {s:Shared} (I:Inv X pins σ H s) {v:V} {d:PyData} (h:RepM H v d):∀u,RelV v u→∃as,Reads s.heap u d as∧sysModules ∉ as:=by
 induction h with
 |non=>intro u r;cases r;exact ⟨_,.none,by simp⟩
 |bl b=>intro u r;cases r;exact ⟨_,.bool b,by simp⟩
 |int i=>intro u r;obtain ⟨t,rfl⟩:=r;exact ⟨_,.int i t,by simp⟩
 |str x _=>intro u r;obtain ⟨t,rfl⟩:=r;exact ⟨_,.str x t,by simp⟩
 |tup e l z _ ih=>
  intro u r
  cases r
  obtain ⟨_,its,rv,o,e1,e2,_,n,e3⟩:=I.hok _ _ e
  obtain ⟨as,q,na⟩:=readsAll_of (H:=H) z rv ih
  exact ⟨as,.tuple e1 e2 e3 (by simpa using q),na⟩
 | @lst a xs ds e this z _ ih=>
  intro u r
  cases r
  obtain ⟨_,its,n,rv,e1⟩:=I.hok _ _ e
  obtain ⟨as,q,na⟩:=readsAll_of (H:=H) z rv ih
  refine ⟨_,.list e1 rfl rfl (by simpa using q),?_⟩
  simp [na,this.symm]
 | @dct a e=>
  intro u r
  cases r
  obtain ⟨_,ns,vs,kv,o,es,ep,e1,ex,e3,_,pr,_⟩:=I.hok _ _ e
  have hv:vs=[]:=by cases kv;rfl
  subst hv
  have he:es.toList=[]:=by
   have:=pr.length
   simpa using this
  refine ⟨a::[]++[],.dict (kvs:=[]) e1 ex.1 e3 (by rw [he];exact .nil) (by rw [he];exact .nil),?_⟩
  have:a≠sysModules:=by simpa using ns
  simpa using this.symm
 | @dc1 a k v d e _ ih=>
  intro u r
  cases r
  obtain ⟨_,ns,vs,kv,o,es,ep,e1,ex,e3,_,pr,_⟩:=I.hok _ _ e
  obtain ⟨u,hv,hu⟩:∃u,vs=[(k,u)]∧RelV v u:=by
   cases kv with
   | @cons _ b _ _ r1 r2=>
    cases r2
    obtain ⟨b1,b2⟩:=b
    obtain ⟨z,r1⟩:=r1
    cases z
    exact ⟨_,rfl,r1⟩
  subst hv
  obtain ⟨bs,q2,n2⟩:=ih u hu
  generalize hes:es.toList=el at pr
  cases pr with
  | @cons en _ el _ h1 h2 h3=>
   cases h3
   have hk:∃as,Reads s.heap en.key (keyM k) as∧as=[]:=by
    rcases A7 (k:=k) (v:=en.key) h1 with ⟨y,t,z,e'⟩|⟨y,t,z,e'⟩
    ·subst z;rw [e'];exact ⟨_,.int y t,rfl⟩
    ·subst z;rw [e'];exact ⟨_,.str y t,rfl⟩
   obtain ⟨as,q1,rfl⟩:=hk
   refine ⟨a::([]++[])++(bs++[]),.dict (kvs:=[(keyM k,d)]) e1 ex.1 e3 ?_ ?_,?_⟩
   ·rw [hes];show ReadsAll s.heap [en.key] [keyM k] _;exact .cons q1 .nil
   ·rw [hes];show ReadsAll s.heap [en.val] [d] _;rw [h2];exact .cons q2 .nil
   ·have h0:a≠sysModules:=by simpa using ns
    intro z
    rcases List.mem_append.mp z with z|z
    ·rcases List.mem_cons.mp z with z|z
     ·exact h0 z.symm
     ·simp at z
    ·rw [List.append_nil] at z
     exact n2 z
end Rp
namespace L2
open PySem PySem.Spec PyProof.Rows Rp PySem.P
section
variable {X:Cx}
theorem call_reprM (hu:X.A.units+64<cLine) (hg:X.A.guards=some []):By X (.builtin "repr") (fun xs H Q=>∃(v:V) (d:PyData),xs=[v]∧RepM H v d∧d.showable=true∧d.depth≤30∧d.shown.length≤sizeLine∧Q (.str d.shown) H):=by
 intro pins s σ H xs us Q I r h
 obtain ⟨v,d,rfl,hp,h1,h3,h4,q⟩:=h
 obtain ⟨u,rfl,rx⟩:=Ce r
 have hr:=hp.reads I u rx
 obtain ⟨as,r1,na⟩:=hr
 cases hp with
 |non=>cases rx;exact repr_of_none ⟨.str _,H,I.tok _,⟨_,rfl⟩,q⟩
 |bl b=>cases rx;exact repr_of_bool ⟨.str _,H,I.tok _,⟨_,rfl⟩,by cases b<;> exact q⟩
 |int i=>
  obtain ⟨t,rfl⟩:=rx
  exact repr_of_int (by simpa [PyData.showable] using h1) ⟨.str _,H,I.tok _,⟨_,rfl⟩,q⟩
 |str x _=>
  obtain ⟨t,rfl⟩:=rx
  exact repr_of_str ⟨.str _,H,I.tok _,⟨_,rfl⟩,q⟩ h4
 |tup e l z h=>cases rx;exact repr_of_reads' r1 h1 (fun _=>na) hg (by omega) (fun _ _ e=>e) (fun h' u tk hk=>⟨.str _,H,I.kept hk,⟨u,rfl⟩,q⟩) h4
 |lst e ns z h=>cases rx;exact repr_of_reads' r1 h1 (fun _=>na) hg (by omega) (fun _ _ e=>e) (fun h' u tk hk=>⟨.str _,H,I.kept hk,⟨u,rfl⟩,q⟩) h4
 |dct e=>cases rx;exact repr_of_reads' r1 h1 (fun _=>na) hg (by omega) (fun _ _ e=>e) (fun h' u tk hk=>⟨.str _,H,I.kept hk,⟨u,rfl⟩,q⟩) h4
 |dc1 e hv=>cases rx;exact repr_of_reads' r1 h1 (fun _=>na) hg (by omega) (fun _ _ e=>e) (fun h' u tk hk=>⟨.str _,H,I.kept hk,⟨u,rfl⟩,q⟩) h4
end
end L2
namespace L2
open PySem
def tLstN (t:TA):TE:=fun σ H Q=>t σ H fun xs H1=>xs.length≤sizeLine∧∀p,H1 p=none→p≠sysModules→Q (.ref p) (upd H1 p (.lst xs))
section
variable {X:Cx} {es:List Expr} {t:TA} {pos:Pos}
theorem pe_lstN (h:PA X es t):PE X (.List es pos) (tLstN t):=by
 intro pins s σ H Q I hq
 refine wpAny_List_spliced (thn (h pos pins s σ H _ I hq) fun us s1 ⟨xs,H1,I1,r,z,q⟩=>⟨by rw [←r.length];exact z,?_⟩)
 have hf:H1 s1.heap.objs.size=none:=I1.hok.fresh (Nat.le_refl _)
 refine ⟨.ref s1.heap.objs.size,upd H1 s1.heap.objs.size (.lst xs),I1.laid (t':=s1.toks) (fun b u e=>Heap.get?_push_of_some _ e) (Nat.le_refl _) ?_,rfl,q _ hf (Nat.ne_of_gt I1.big)⟩
 exact ⟨z,us,0,r,Heap.get?_push_size _ rfl⟩
theorem w_lstN (h:PAw X es t):PEw X (.List es pos) (tLstN t):=⟨pe_lstN h.out⟩
open PySem.Spec PyProof.Rows in
theorem call_list_ofN:By X (.type "list") (fun xs H Q=>∃p ys,xs=[.ref p]∧SqT X.K H p ys∧∀l,H l=none→l≠sysModules→Q (.ref l) (upd H l (.lst ys))):=by
 intro pins s σ H xs us Q I r h
 obtain ⟨p,ys,rfl,hq,q⟩:=h
 obtain ⟨u,rfl,rx⟩:=Ce r
 cases rx
 have fin:∀(its:List Value),Vals ys its→ys.length≤sizeLine→∀(h':Heap) (c':Nat),(∀b o',s.heap.get? b=some o'→h'.get? b=some o')→
   h'.get? s.heap.objs.size=some {cls:= .type "list",dict:=none,data:= .seq its.toArray c',slots:= #[]}→EP X pins σ Q (.ref s.heap.objs.size) {s with heap:=h'}:=fun its r' hz h' c' kp e=>
  ⟨.ref s.heap.objs.size,_,I.laid (t':=s.toks) kp (Nat.le_refl _) (show ObjOk X.prog X.w _ h' _ (.lst ys) from ⟨hz,its,c',r',e⟩),rfl,q _ (I.hok.fresh (Nat.le_refl _)) (Nat.ne_of_gt I.big)⟩
 obtain ⟨its,r',pl,hz⟩:=I.tuple hq
 have hlen:=r'.length
 obtain ⟨o,ho,hc,n,hd⟩:=pl
 exact call_list_seq p (.inr rfl) ho hc hd (fun h' c' kp e=>fin its r' hz h' c' kp e) (by simp only [List.size_toArray]<;> omega)
end
end L2
namespace Rp
open PySem L2
def offM (d:Addr) (H:Hp):Hp:=fun a=>if a=d then none else H a
theorem offM_some {d a:Addr} {H:Hp} {o:HO} (h:H a=some o) (n:a≠d):offM d H a=some o:=by unfold offM;rw [if_neg n];exact h
theorem offM_in {d:Addr} {H:Hp} {a:Addr} {o:HO} (h:offM d H a=some o):H a=some o:=by
 unfold offM at h
 split at h
 ·cases h
 ·exact h
theorem offM_ne {d a:Addr} {H:Hp} {o:HO} (h:offM d H a=some o):a≠d:=fun z=>by
 unfold offM at h
 rw [if_pos z] at h;cases h
def ButM (a:Addr) (H H':Hp):Prop:=∀b o,H b=some o→b≠a→H' b=some o
theorem offM_but {d:Addr} {H H':Hp} (b:ButM d H H'):∀a o,offM d H a=some o→offM d H' a=some o:=fun a o h=>offM_some (b a o (offM_in h) (offM_ne h)) (offM_ne h)
def On (n k:Nat) (d:Addr) (H:Hp) (x:V):Prop:=∃dd,RepM (offM d H) x dd∧Fine n k dd
theorem On.but {n k:Nat} {d:Addr} {H H':Hp} {x:V} (h:On n k d H x) (b:ButM d H H'):On n k d H' x:=let ⟨dd,r,g⟩:=h;⟨dd,r.mono (offM_but b),g⟩
theorem On.mono {n k n' k':Nat} {d:Addr} {H:Hp} {x:V} (h:On n k d H x) (h1:n≤n') (h2:k≤k'):On n' k' d H x:=let ⟨dd,r,g⟩:=h;⟨dd,r,g.mono h1 h2⟩
theorem On.non {d:Addr} {H:Hp}:On 100 0 d H .non:=⟨_,.non,Fine.non.mono (by decide) (by decide)⟩
theorem On.bl {d:Addr} {H:Hp} (b:Bool):On 100 0 d H (.bl b):=⟨_,.bl b,(Fine.bl b).mono (by decide) (by decide)⟩
theorem On.int {d:Addr} {H:Hp} {i:Int} (h:i.natAbs<10 ^ 45):On 100 0 d H (.int i):=⟨_,.int i,(Fine.int h).mono (by decide) (by decide)⟩
theorem On.strL {n:Nat} {d:Addr} {H:Hp} {z:Str} (h:z.length≤n) (n1:n≤1000) (hc:∀c∈z.cps.toList,c<16 ^ 8):On (10 * n+2) 0 d H (.str z):=⟨_,.str z (by omega),Fine.txt h hc⟩
theorem onAll {n k:Nat} {d:Addr} {H:Hp}:∀{xs:List V},(∀x∈xs,On n k d H x)→∃ds:List PyData,xs.length=ds.length∧(∀p∈xs.zip ds,RepM (offM d H) p.1 p.2)∧∀dd∈ds,Fine n k dd
 |[],_=>⟨[],rfl,by simp,by simp⟩
 |x::xs,h=>by
  obtain ⟨dd,r,g⟩:=h x (List.mem_cons_self ..)
  obtain ⟨ds,l,rs,gs⟩:=onAll fun y hy=>h y (List.mem_cons_of_mem _ hy)
  refine ⟨dd::ds,by simp [l],fun p hp=> ?_,fun e he=> ?_⟩
  ·rw [List.zip_cons_cons] at hp
   rcases List.mem_cons.mp hp with rfl|hp
   ·exact r
   ·exact rs p hp
  ·rcases List.mem_cons.mp he with rfl|he
   ·exact g
   ·exact gs e he
theorem On.lst {n k l:Nat} {d a:Addr} {H:Hp} {xs:List V} (e:H a=some (.lst xs)) (ns:a≠sysModules) (na:a≠d) (hl:xs.length≤l) (h:∀x∈xs,On n k d H x):On (n * l+2 * l+3) (k+1) d H (.ref a):=by
 obtain ⟨ds,len,rs,gs⟩:=onAll h
 exact ⟨_,.lst (offM_some e na) ns len rs,Fine.lst gs (by rw [←len];exact hl)⟩
theorem On.dct {d a:Addr} {H:Hp} (e:H a=some (.dK [])) (na:a≠d):On 100 1 d H (.ref a):=⟨_,.dct (offM_some e na),Fine.dct.mono (by decide) (by decide)⟩
theorem On.rep {n k:Nat} {d:Addr} {H:Hp} {x:V} (h:On n k d H x):∃dd,RepM H x dd∧Fine n k dd:=let ⟨dd,r,g⟩:=h;⟨dd,r.mono fun a o e=>offM_in e,g⟩
def OnS (S k:Nat) (d:Addr) (H:Hp) (xs:List V):Prop:=∃ds:List PyData,xs.length=ds.length∧(∀p∈xs.zip ds,RepM (offM d H) p.1 p.2)∧PyData.showableAll ds=true∧((PyData.shownAll ds).map (·.length)).sum≤S∧(PyData.shownAll ds).length=ds.length∧PyData.depthAll ds≤k
theorem OnS.nil {k:Nat} {d:Addr} {H:Hp}:OnS 0 k d H []:=⟨[],rfl,by simp,rfl,by simp [PyData.shownAll],rfl,by simp [PyData.depthAll]⟩
theorem OnS.cons {n S k:Nat} {d:Addr} {H:Hp} {x:V} {xs:List V} (h:On n k d H x) (g:OnS S k d H xs):OnS (n+S) k d H (x::xs):=by
 obtain ⟨dd,r,f⟩:=h
 obtain ⟨ds,l,rs,a,b,c,e⟩:=g
 refine ⟨dd::ds,by simp [l],fun p hp=> ?_,by rw [PyData.showableAll,f.sh,a];rfl,?_,by rw [PyData.shownAll,List.length_cons,c,List.length_cons],by have:=f.dp;rw [PyData.depthAll];omega⟩
 ·rw [List.zip_cons_cons] at hp
  rcases List.mem_cons.mp hp with rfl|hp
  ·exact r
  ·exact rs p hp
 ·have:=f.ln
  rw [PyData.shownAll,List.map_cons,List.sum_cons]
  omega
theorem OnS.mono {S k S' k':Nat} {d:Addr} {H:Hp} {xs:List V} (h:OnS S k d H xs) (h1:S≤S') (h2:k≤k'):OnS S' k' d H xs:=let ⟨ds,l,rs,a,b,c,e⟩:=h;⟨ds,l,rs,a,Nat.le_trans b h1,c,Nat.le_trans e h2⟩
theorem On.tupS {S k:Nat} {d a:Addr} {H:Hp} {xs:List V} (e:H a=some (.tup xs)) (na:a≠d) (h:OnS S k d H xs) (l9:xs.length≤900):On (S+2 * xs.length+3) (k+1) d H (.ref a):=by
 obtain ⟨ds,len,rs,s,b,c,g⟩:=h
 have q:=tupleText_len_le (PyData.shownAll ds)
 exact ⟨_,.tup (offM_some e na) l9 len rs,by rw [PyData.showable];exact s,by rw [PyData.shown];omega,by rw [PyData.depth];omega⟩
end Rp
namespace L2
open PySem
end L2
namespace L2
open PySem PySem.Spec PyProof.Rows PySem.P
def ibV:V→Int
 | .int i=>i
 | .bl b=>if b=true then 1 else 0
 |_=>0
def IsIB (x:V):Prop:=(∃i:Int,x= .int i)∨∃b:Bool,x= .bl b
section
variable {X:Cx}
inductive RIBP (g:Int→Int→V) (x:V) (y:V) (H:Hp) (Q:VK):Prop
 |mk (j:Int):IsIB x→(y= .int j)→(Q (g (ibV x) j) H)→RIBP g x y H Q
def rIB (g:Int→Int→V):R2:=fun x y H Q=>RIBP g x y H Q
theorem op_addIB:OpR X (binaryOp .Add) (rIB fun i j=> .int (i+j)):=by
 intro pins s σ H x y v u Q I rx ry h
 obtain ⟨j,hx,rfl,q⟩:=h
 obtain ⟨t,rfl⟩:=ry
 rcases hx with ⟨i,rfl⟩|⟨b,rfl⟩
 ·exact Bc pins s σ H _ (.int j) v _ Q I rx ⟨t,rfl⟩ ⟨_,_,rfl,rfl,q⟩
 ·cases rx
  exact PySem.IntBool.add_bool_int ⟨.int _,H,I.tok _,⟨_,rfl⟩,q⟩
theorem op_subIB:OpR X (binaryOp .Sub) (rIB fun i j=> .int (i - j)):=by
 intro pins s σ H x y v u Q I rx ry h
 obtain ⟨j,hx,rfl,q⟩:=h
 obtain ⟨t,rfl⟩:=ry
 rcases hx with ⟨i,rfl⟩|⟨b,rfl⟩
 ·exact op_sub pins s σ H _ (.int j) v _ Q I rx ⟨t,rfl⟩ ⟨_,_,rfl,rfl,q⟩
 ·cases rx
  exact PySem.IntBool.sub_bool_int ⟨.int _,H,I.tok _,⟨_,rfl⟩,q⟩
theorem op_eqIB:OpR X (compareOp .Eq) (rIB fun i j=> .bl (i==j)):=by
 intro pins s σ H x y v u Q I rx ry h
 obtain ⟨j,hx,rfl,q⟩:=h
 obtain ⟨t,rfl⟩:=ry
 rcases hx with ⟨i,rfl⟩|⟨b,rfl⟩
 ·refine Cc pins s σ H _ (.int j) v _ Q I rx ⟨t,rfl⟩ ⟨rfl,?_⟩
  have e:decide (V.int i=V.int j)=(i==j):=by rw [Bool.eq_iff_iff,decide_eq_true_eq,beq_iff_eq];exact ⟨fun z=>by cases z;rfl,fun z=>by rw [z]⟩
  rw [e];exact q
 ·cases rx
  exact PySem.EqBoolInt.eq_bool_int ⟨.bl _,H,I,rfl,q⟩
theorem call_strIB:By X (.type "str") (fun xs H Q=>∃x:V,xs=[x]∧IsIB x∧(ibV x).natAbs<10 ^ 45∧∀z:Str,z.length≤46→(∀c∈z.cps.toList,c<16 ^ 8)→Q (.str z) H):=by
 intro pins s σ H xs us Q I r h
 obtain ⟨x,rfl,hx,hn,q⟩:=h
 rcases hx with ⟨i,rfl⟩|⟨b,rfl⟩
 ·obtain ⟨u,rfl,⟨t,rfl⟩⟩:=Ce r
  have hn:i.natAbs<10 ^ 45:=hn
  refine str_of_int (Rp.int_log hn) ⟨.str _,H,I.tok _,⟨_,rfl⟩,q _ (Rp.int_len hn) fun c hc=> ?_⟩
  have hc:c∈(Str.ofString (toString i)).cps.toList:=hc
  rw [Str.ofString_eq_toList] at hc
  simp only [List.mem_map] at hc
  obtain ⟨ch,_,rfl⟩:=hc
  exact Rp.char_lt ch
 ·obtain ⟨u,rfl,rx⟩:=Ce r
  cases rx
  exact str_of_bool ⟨.str _,H,I.tok _,⟨_,rfl⟩,q _ (by cases b<;> decide+kernel) (by cases b<;> decide+kernel)⟩
end
end L2
namespace Srt
open PySem PySem.W PyProof.Rows L2
section
variable {X:Cx}
theorem call_sortedDI (hc:X.calm=true):By X (.builtin "sorted") (fun xs H Q=>∃(d:Addr) (kvs:List (Key×V)) (ns:List Int),xs=[.ref d]∧H d=some (.dK kvs)∧kvs.map (·.1)=ns.map Sum.inl∧ns.length<64∧∀(l:Addr) (ns':List Int),H l=none→ns'.Perm ns→ns'.Pairwise (fun a b=>ltK (.inl b) (.inl a)=false)→Q (.ref l) (upd H l (.lst (ns'.map V.int)))):=by
 intro pins s σ H xs us Q I r h
 obtain ⟨d,kvs,ns,rfl,hd,e,h64,q⟩:=h
 obtain ⟨u,rfl,rx⟩:=Ce r
 cases rx
 obtain ⟨z,lo,vs,rel,dd⟩:=dk_of I.hok hd
 obtain ⟨ep,hat⟩:=dd.dictAt
 have ek:vs.map (·.1)=ns.map Sum.inl:=by
  rw [←e]
  clear hat dd e q z hd
  induction rel with
  |nil=>rfl
  |cons r t ih=>rw [List.map_cons,List.map_cons,ih,r.1]
 have len:vs.length=ns.length:=by simpa using congrArg List.length ek
 refine sorted_raw (κ:=oneType') (ord_rows fun i=>[Sum.inl (ns.getD i default)]) (fun us=>Vals (ns.map V.int) us) (fun us hu=>by have:=hu.length;rw [List.length_map] at this;omega) (fun Q hq=> ?_) ?_ ?_ ?_
 ·refine kdu_collect (A:=X.A.in1) (kdl_dict (knd:=A9 X.prog X.w) (kvs:=vs) (ep:=ep) lo) (I.ok.hd hc) hat (by rw [←rel.length];exact z) fun h' tk acc hk hacc=>hq _ h' tk ?_ hk
  have go:∀(vs:List (Key×Value)) (ns:List Int) (us:List Value),vs.map (·.1)=ns.map Sum.inl→us.length=vs.length→(∀(j:Nat) (u:Value),us[j]? =some u→∃k x,vs[j]? =some (k,x)∧(A9 X.prog X.w).is k u=true)→Vals (ns.map V.int) us:=by
   intro vs
   induction vs with
   |nil=>
    intro ns us e1 e2 _
    cases ns with
    |nil=>cases us with
     |nil=>exact .nil
     |cons _ _=>cases e2
    |cons _ _=>cases e1
   |cons p vs ih=>
    intro ns us e1 e2 h
    cases ns with
    |nil=>cases e1
    |cons n ns=>
     cases us with
     |nil=>cases e2
     |cons u us=>
      simp only [List.map_cons,List.cons.injEq] at e1
      refine .cons ?_ (ih ns us e1.2 (by simpa using e2) fun j u hj=>h (j+1) u (by simpa using hj))
      obtain ⟨k,x,hx,hk⟩:=h 0 u rfl
      simp only [List.getElem?_cons_zero,Option.some.injEq] at hx
      have:k=Sum.inl n:=by rw [←e1.1,hx]
      subst this
      rcases A7 (show keyIs (Sum.inl n) u=true from hk) with ⟨i,t,a,b⟩|⟨y,t,a,b⟩
      ·cases a;exact ⟨t,b⟩
      ·cases a
  exact go vs ns acc.toList ek (by rw [Array.length_toList];exact hacc.1) fun j u hj=>hacc.2 j u (by rw [←Array.getElem?_toList];exact hj)
 ·intro us h' t' hu k l2 Q hq
  refine kas_kind (s:={s with heap:=h',toks:=t'}) (T:=Value.type "int") l2 (fun v hv=> ?_) rfl rfl hq
  clear hq l2
  have:∀{ns:List Int} {us:List Value},Vals (ns.map V.int) us→∀v∈us,∃x t,v=Value.int x t:=by
   intro ns
   induction ns with
   |nil=>intro us hu v hv;cases hu;cases hv
   |cons n ns ih=>
    intro us hu v hv
    cases hu with
    |cons r t=>
     rcases List.mem_cons.mp hv with rfl|hv
     ·obtain ⟨t,rfl⟩:=r;exact ⟨_,_,rfl⟩
     ·exact ih t v hv
  obtain ⟨x,t,rfl⟩:=this hu v hv
  exact Looks.of_pure rfl
 ·intro us h' t' hu k i j C hi hj hC
  have lu:=hu.length
  rw [List.length_map] at lu
  obtain ⟨a,ha,ra⟩:=Vals.get hu (i:=i) (x:=V.int (ns.getD i default)) (by simp [show i<ns.length by omega])
  obtain ⟨b,hb,rb⟩:=Vals.get hu (i:=j) (x:=V.int (ns.getD j default)) (by simp [show j<ns.length by omega])
  show wpAny _ _ (keyLt' oneType' (us.getD i Value.none) (us.getD j Value.none)) C _ _
  have e1:us.getD i Value.none=a:=by simp [List.getD,ha]
  have e2:us.getD j Value.none=b:=by simp [List.getD,hb]
  rw [e1,e2,keyLt'_oneType]
  refine key_lt (x:=Sum.inl (ns.getD i default)) (y:=Sum.inl (ns.getD j default)) rfl ra rb ?_
  have:ltR [Sum.inl (ns.getD i default)] [Sum.inl (ns.getD j default)]=ltK (Sum.inl (ns.getD i default)) (Sum.inl (ns.getD j default)):=by
   unfold ltR
   split
   ·rename_i e;rw [e,ltK_irr];rfl
   ·rfl
  rw [←this];exact hC
 ·intro us p h1 h' t' l e hu pm st k1 k zl hl
  have lu:=hu.length
  rw [List.length_map] at lu
  have I:L2.Inv X pins σ H {s with heap:=h1,toks:=t'}:=I.kept k1
  rw [←lu] at pm st
  have pl:=pm.toList
  have pp:(p.toList.map fun i=>ns.getD i default).Perm ns:=by
   have:=pl.map (fun i=>ns.getD i (default:Int))
   rwa [Cf] at this
  have pw:(p.toList.map fun i=>ns.getD i (default:Int)).Pairwise (fun a b=>ltK (.inl b) (.inl a)=false):=by
   rw [List.pairwise_map]
   refine (st.pairwise pm.size).imp fun {a b} hab=> ?_
   unfold ltR at hab
   split at hab
   ·rename_i e;rw [e];exact ltK_irr _
   ·exact hab
  have mem:∀i∈p.toList,i<ns.length:=fun i hi=>by simpa using pl.mem_iff.mp hi
  have vv:Vals ((p.toList.map fun i=>ns.getD i default).map V.int) (p.toList.map fun i=>us.getD i Value.none):=by
   clear hl pw pp pl st pm
   generalize p.toList=il at mem
   induction il with
   |nil=>exact .nil
   |cons i il ih=>
    refine .cons ?_ (ih fun j hj=>mem j (.tail _ hj))
    have hi:=mem i (.head _)
    obtain ⟨a,ha,ra⟩:=Vals.get hu (i:=i) (x:=V.int (ns.getD i default)) (by simp [hi])
    have e1:us.getD i Value.none=a:=by simp [List.getD,ha]
    show L2.RelV (V.int (ns.getD i default)) (us.getD i Value.none)
    rw [e1];exact ra
  refine ⟨.ref l,_,I.laid (t':=t') (o:= .lst ((p.toList.map fun i=>ns.getD i default).map V.int)) k zl ⟨?_,_,e,vv,hl⟩,rfl,q l _ (I.hok.fresh zl) pp pw⟩
  rw [List.length_map,pp.length_eq,sizeLine_eq]
  omega
end
end Srt
namespace L2
open PySem PySem.Spec PyProof.Rows
end L2
namespace K61
open PySem L2 Wk
theorem butM {d:Addr} {H H':Hp} (b:But d H H'):Rp.ButM d H H':=fun c o e n=>b c o e n
theorem DeckAt.neT {H:Hp} {d r:Addr} {n:Nat} {xs:List V} (h:DeckAt H d n) (e:H r=some (.tup xs)):r≠d:=fun z=>by
 obtain ⟨x,S,k,q,_⟩:=h
 rw [z,q] at e;cases e
def lb (c:Nat):Nat:=30 * 4 ^ c
theorem lb_up (c:Nat):3 * lb c+1≤lb (c+1):=by unfold lb;rw [Nat.pow_succ];have:0<4 ^ c:=Nat.pow_pos (by decide);omega
theorem lb_le {c:Nat} (h:c≤2):lb c≤480:=by
 have:c=0∨c=1∨c=2:=by omega
 rcases this with rfl|rfl|rfl<;> decide
theorem lb_mono {c c':Nat} (h:c≤c'):lb c≤lb c':=Nat.mul_le_mul_left _ (Nat.pow_le_pow_right (by decide) h)
def Fl (c:Nat) (v:V):Prop:=v= .non∨(∃b,v= .bl b)∨(∃i:Int,v= .int i∧i.natAbs<10 ^ 40+c)∨∃z:Str,v= .str z∧z.length+1≤51 * 2 ^ c∧∀ch∈z.cps.toList,ch<16 ^ 8
def Lf (c s:Nat) (d:Addr) (H:Hp) (v:V):Prop:=(Fl c v∧2100≤s)∨((∃a,v= .ref a∧((∃xs,H a=some (.lst xs))∨H a=some (.dK [])))∧Rp.On s (2+8 * c) d H v)
def TsS (P:Nat→V→Prop) (S:Nat) (xs:List V):Prop:=∃ss:List Nat,ss.length=xs.length∧(∀(i:Nat) x s,xs[i]? =some x→ss[i]? =some s→P s x)∧ss.sum≤S
def Tg (c:Nat) (d:Addr) (H:Hp):Nat→Nat→V→Prop
 |0,s,v=>Lf c s d H v
 |n+1,s,v=>Lf c s d H v∨∃a xs S,v= .ref a∧a≠d∧H a=some (.tup xs)∧xs.length≤lb c∧TsS (Tg c d H n) S xs∧S+2 * xs.length+3≤s
theorem TsS.imp {P P':Nat→V→Prop} {S:Nat} {xs:List V} (h:TsS P S xs) (f:∀s v,P s v→P' s v):TsS P' S xs:=let ⟨ss,l,q,m⟩:=h;⟨ss,l,fun i x s a b=>f _ _ (q i x s a b),m⟩
theorem TsS.mono {P:Nat→V→Prop} {S S':Nat} {xs:List V} (h:TsS P S xs) (l:S≤S'):TsS P S' xs:=let ⟨ss,a,q,m⟩:=h;⟨ss,a,q,Nat.le_trans m l⟩
theorem TsS.nil {P:Nat→V→Prop}:TsS P 0 []:=⟨[],rfl,fun i x s a _=>by simp at a,Nat.le_refl _⟩
theorem TsS.cons {P:Nat→V→Prop} {s S:Nat} {x:V} {xs:List V} (h:P s x) (g:TsS P S xs):TsS P (s+S) (x::xs):=by
 obtain ⟨ss,l,q,m⟩:=g
 refine ⟨s::ss,by simp [l],fun i y t a b=> ?_,by rw [List.sum_cons];omega⟩
 cases i with
 |zero=>cases a;cases b;exact h
 |succ i=>exact q i y t (by simpa using a) (by simpa using b)
theorem TsS.app {P:Nat→V→Prop} {S S':Nat} {xs ys:List V} (h:TsS P S xs) (g:TsS P S' ys):TsS P (S+S') (xs++ys):=by
 obtain ⟨ss,l,q,m⟩:=h
 obtain ⟨ts,l',q',m'⟩:=g
 refine ⟨ss++ts,by simp [l,l'],fun i y t a b=> ?_,by rw [List.sum_append];omega⟩
 by_cases hi:i<xs.length
 ·rw [List.getElem?_append_left hi] at a
  rw [List.getElem?_append_left (by omega)] at b
  exact q i y t a b
 ·rw [List.getElem?_append_right (by omega)] at a
  rw [List.getElem?_append_right (by omega),l] at b
  exact q' _ y t a b
theorem sum_cut:∀(ss:List Nat) (i j:Nat),((ss.drop i).take j).sum≤ss.sum
 |[],i,j=>by simp
 |s::ss,0,0=>by simp
 |s::ss,0,j+1=>by
  have:=sum_cut ss 0 j
  simp only [List.drop_zero,List.take_succ_cons,List.sum_cons] at *
  omega
 |s::ss,i+1,j=>by
  have:=sum_cut ss i j
  simp only [List.drop_succ_cons,List.sum_cons] at *
  omega
theorem TsS.cut {P:Nat→V→Prop} {S:Nat} {xs:List V} (h:TsS P S xs) (lo hi:Option Int):TsS P S (Bx xs lo hi):=by
 obtain ⟨ss,l,q,m⟩:=h
 refine ⟨(ss.drop (HT.sIx xs.length 0 lo)).take (HT.sIx xs.length xs.length hi - HT.sIx xs.length 0 lo),?_,fun i y t a b=> ?_,Nat.le_trans (sum_cut ..) m⟩
 ·unfold Bx;rw [List.length_take,List.length_take,List.length_drop,List.length_drop,l]
 ·unfold Bx at a
  rw [List.getElem?_take] at a b
  split at a
  ·rename_i hlt
   rw [if_pos hlt] at b
   rw [List.getElem?_drop] at a b
   exact q _ y t a b
  ·cases a
theorem TsS.rev {P:Nat→V→Prop} {S:Nat} {xs:List V} (h:TsS P S xs):TsS P S xs.reverse:=by
 obtain ⟨ss,l,q,m⟩:=h
 refine ⟨ss.reverse,by simp [l],fun i y t a b=> ?_,by rw [List.sum_reverse];exact m⟩
 have hi:i<xs.length:=by
  have:=(List.getElem?_eq_some_iff.mp a).1
  simpa using this
 rw [List.getElem?_reverse hi] at a
 rw [List.getElem?_reverse (by omega),l] at b
 exact q _ y t a b
theorem TsS.get {P:Nat→V→Prop} {S:Nat} {xs:List V} (h:TsS P S xs) {x:V} (hx:x∈xs):∃s,s≤S∧P s x:=by
 obtain ⟨ss,l,q,m⟩:=h
 obtain ⟨i,hi,rfl⟩:=List.mem_iff_getElem.mp hx
 have hj:i<ss.length:=by omega
 refine ⟨ss[i],Nat.le_trans ?_ m,q i _ _ (List.getElem?_eq_getElem hi) (List.getElem?_eq_getElem hj)⟩
 have:=sum_cut ss i 1
 rw [List.drop_eq_getElem_cons hj,List.take_succ_cons,List.take_zero,List.sum_cons,List.sum_nil] at this
 omega
theorem TsS.all {P:Nat→V→Prop} {n:Nat}:∀{xs:List V},(∀x∈xs,P n x)→TsS P (n * xs.length) xs
 |[],_=>TsS.nil
 |x::xs,h=>(TsS.cons (h x (by simp)) (TsS.all fun y hy=>h y (by simp [hy]))).mono (by rw [List.length_cons,Nat.mul_succ];omega)
theorem Fl.mono {c c':Nat} {v:V} (h:Fl c v) (l:c≤c'):Fl c' v:=by
 rcases h with h|h|⟨i,e,h⟩|⟨z,e,h,q⟩
 ·exact .inl h
 ·exact .inr (.inl h)
 ·exact .inr (.inr (.inl ⟨i,e,by omega⟩))
 ·exact .inr (.inr (.inr ⟨z,e,Nat.le_trans h (Nat.mul_le_mul_left _ (Nat.pow_le_pow_right (by decide) l)),q⟩))
theorem Lf.mono {c c' s s':Nat} {d:Addr} {H:Hp} {v:V} (h:Lf c s d H v) (l:c≤c') (m:s≤s'):Lf c' s' d H v:=by
 rcases h with ⟨h,z⟩|⟨h,o⟩
 ·exact .inl ⟨h.mono l,by omega⟩
 ·exact .inr ⟨h,o.mono m (by omega)⟩
theorem Tg.mono {c c':Nat} {d:Addr} {H:Hp} (l:c≤c'):∀{n n' s s':Nat} {v:V},n≤n'→s≤s'→Tg c d H n s v→Tg c' d H n' s' v
 |0,0,_,_,_,_,m,h=>Lf.mono h l m
 |0,_+1,_,_,_,_,m,h=> .inl (Lf.mono h l m)
 |n+1,0,_,_,_,z,_,_=>absurd z (by omega)
 |n+1,n'+1,s,s',v,z,m,.inl h=> .inl (h.mono l m)
 |n+1,n'+1,s,s',v,z,m,.inr ⟨a,xs,S,e,na,h,len,ts,q⟩=> .inr ⟨a,xs,S,e,na,h,Nat.le_trans len (lb_mono l),ts.imp fun s v g=>Tg.mono l (by omega) (Nat.le_refl _) g,by omega⟩
theorem Tg.but {c:Nat} {d:Addr} {H H':Hp} (b:But d H H') {k:Nat} (D:DeckAt H d k):∀{n s:Nat} {v:V},Tg c d H n s v→Tg c d H' n s v:=by
 have lf:∀{s v},Lf c s d H v→Lf c s d H' v:=fun {s v} h=>by
  rcases h with h|⟨⟨a,e,h⟩,o⟩
  ·exact .inl h
  ·have na:a≠d:=by
    obtain ⟨dd,r,_⟩:=o
    subst e
    cases r with
    |tup e _ _ _=>exact Rp.offM_ne e
    |lst e _ _ _=>exact Rp.offM_ne e
    |dct e=>exact Rp.offM_ne e
    |dc1 e _=>exact Rp.offM_ne e
   refine .inr ⟨⟨a,e,?_⟩,o.but (butM b)⟩
   rcases h with ⟨xs,h⟩|h
   ·exact .inl ⟨xs,b _ _ h na⟩
   ·exact .inr (b _ _ h na)
 intro n
 induction n with
 |zero=>intro s v h;exact lf h
 |succ n ih=>
  intro s v h
  rcases h with h|⟨a,xs,S,e,na,h,len,ts,q⟩
  ·exact .inl (lf h)
  ·exact .inr ⟨a,xs,S,e,na,b _ _ h na,len,ts.imp fun _ _=>ih,q⟩
theorem Fl.on {c:Nat} {d:Addr} {H:Hp} {v:V} (c2:c≤2) (h:Fl c v):Rp.On 2100 0 d H v:=by
 rcases h with rfl|⟨b,rfl⟩|⟨i,rfl,h⟩|⟨z,rfl,h,q⟩
 ·exact Rp.On.non.mono (by decide) (by decide)
 ·exact (Rp.On.bl b).mono (by decide) (by decide)
 ·have big:(10:Nat) ^ 40+2≤10 ^ 45:=by decide+kernel
  exact (Rp.On.int (by omega)).mono (by decide) (by decide)
 ·have p:=Nat.mul_le_mul_left 51 (Nat.pow_le_pow_right (n:=2) (by decide) c2)
  have p4:51 * 2 ^ 2=204:=by decide
  exact (Rp.On.strL (n:=203) (by omega) (by decide) q).mono (by decide) (by decide)
theorem ons_of {k:Nat} {d:Addr} {H:Hp} {P:Nat→V→Prop} (f:∀s v,P s v→Rp.On s k d H v):∀{xs:List V} {ss:List Nat},ss.length=xs.length→(∀(i:Nat) x s,xs[i]? =some x→ss[i]? =some s→P s x)→Rp.OnS ss.sum k d H xs
 |[],[],_,_=>Rp.OnS.nil
 |[],_::_,l,_=>nomatch l
 |_::_,[],l,_=>nomatch l
 |x::xs,s::ss,l,q=>by
  rw [List.sum_cons]
  exact Rp.OnS.cons (f _ _ (q 0 x s rfl rfl)) (ons_of f (by simpa using l) fun i y t a b=>q (i+1) y t (by simpa using a) (by simpa using b))
theorem TsS.on {k S:Nat} {d:Addr} {H:Hp} {P:Nat→V→Prop} (f:∀s v,P s v→Rp.On s k d H v) {xs:List V} (h:TsS P S xs):Rp.OnS S k d H xs:=let ⟨_,l,q,m⟩:=h;(ons_of f l q).mono m (Nat.le_refl _)
theorem Tg.on {c:Nat} {d:Addr} {H:Hp} (c2:c≤2):∀{n s:Nat} {v:V},Tg c d H n s v→Rp.On s (2+8 * c+n) d H v:=by
 have lf:∀{s v},Lf c s d H v→Rp.On s (2+8 * c) d H v:=fun {s v} h=>by
  rcases h with ⟨h,m⟩|⟨_,o⟩
  ·exact (h.on c2).mono m (by omega)
  ·exact o
 intro n
 induction n with
 |zero=>intro s v h;exact lf h
 |succ n ih=>
  intro s v h
  rcases h with h|⟨a,xs,S,rfl,na,e,len,ts,q⟩
  ·exact (lf h).mono (Nat.le_refl _) (by omega)
  ·exact (Rp.On.tupS e na (ts.on fun _ _=>ih) (by have:=lb_le c2;omega)).mono q (by omega)
theorem Lf.nt {c s:Nat} {d:Addr} {H:Hp} {v:V} (h:Lf c s d H v):NotT H v:=by
 rcases h with ⟨h|⟨b,h⟩|⟨i,h,_⟩|⟨z,h,_⟩,_⟩|⟨⟨a,e,⟨xs,h⟩|h⟩,_⟩
 ·exact .inl (.inl h)
 ·exact .inl (.inr (.inl ⟨b,h⟩))
 ·exact .inl (.inr (.inr (.inl ⟨i,h⟩)))
 ·exact .inl (.inr (.inr (.inr ⟨z,h⟩)))
 ·exact .inr (.inl ⟨a,xs,e,h⟩)
 ·exact .inr (.inr ⟨a,_,e,h⟩)
theorem Tg.an {c:Nat} {d:Addr} {H:Hp}:∀{n s:Nat} {v:V},Tg c d H n s v→An H v
 |0,_,_,h=> .inl (Lf.nt h)
 |_+1,_,_,.inl h=> .inl h.nt
 |_+1,_,_,.inr ⟨a,xs,_,e,_,h,_⟩=> .inr ⟨a,xs,e,h⟩
theorem Tg.th {c:Nat} {d:Addr} {H:Hp} (c2:c≤2):∀{n s:Nat} {v:V},Tg c d H n s v→∃o,ThV H v o
 |0,_,_,h=>⟨none,Lf.nt h⟩
 |_+1,_,_,.inl h=>⟨none,h.nt⟩
 |_+1,_,_,.inr ⟨a,xs,_,e,_,h,len,ts,_⟩=>⟨some xs,a,e,h,fun x hx=>let ⟨_,_,g⟩:=ts.get hx;g.an,by have:=lb_le c2;omega⟩
theorem Tg.pr {c:Nat} {d:Addr} {H:Hp} (c2:c≤2):∀{n s:Nat} {v:V},Tg c d H n s v→∃o,PrV H v o
 |0,_,_,h=>⟨none,.no (Lf.nt h)⟩
 |_+1,_,_,.inl h=>⟨none,.no h.nt⟩
 |_+1,_,_,.inr ⟨a,xs,_,e,_,h,len,ts,_⟩=>by
  have an:∀x∈xs,An H x:=fun x hx=>let ⟨_,_,g⟩:=ts.get hx;g.an
  match xs,h,ts,an with
  |[w,t],h,ts,an=>
   obtain ⟨_,_,g⟩:=ts.get (x:=t) (by simp)
   obtain ⟨o,ho⟩:=g.th c2
   exact ⟨_,.pair a w t o e h (an w (by simp)) ho⟩
  |[],h,_,an=>exact ⟨_,.len a _ e h an (by simp)⟩
  |[_],h,_,an=>exact ⟨_,.len a _ e h an (by simp)⟩
  |_::_::_::_,h,_,an=>exact ⟨_,.len a _ e h an (by simp)⟩
theorem Tg.fl {c n s:Nat} {d:Addr} {H:Hp} {v:V} (h:Fl c v) (m:2100≤s):Tg c d H n s v:=by
 cases n with
 |zero=>exact .inl ⟨h,m⟩
 |succ n=>exact .inl (.inl ⟨h,m⟩)
theorem Tg.tup {c n S:Nat} {d a:Addr} {H:Hp} {xs:List V} (e:H a=some (.tup xs)) (na:a≠d) (len:xs.length≤lb c) (ts:TsS (Tg c d H n) S xs):Tg c d H (n+1) (S+2 * xs.length+3) (.ref a):= .inr ⟨a,xs,S,rfl,na,e,len,ts,Nat.le_refl _⟩
def NmAt (H:Hp) (d nm:Addr) (zs:List Str):Prop:=H nm=some (.lst (zs.map V.str))∧nm≠d∧zs.length≤40∧∀z∈zs,z.length≤8∧∀ch∈z.cps.toList,ch<16 ^ 8
theorem NmAt.but {d nm:Addr} {H H':Hp} {zs:List Str} (h:NmAt H d nm zs) (b:But d H H'):NmAt H' d nm zs:=⟨b _ _ h.1 h.2.1,h.2⟩
def spOdd:Sp:=fun vs H Q _=>∃(d nm:Addr) (zs:List Str) (b:Nat),vs=[.ref d,.ref nm]∧DeckAt H d (b+1)∧NmAt H d nm zs∧∀(v:V) (H':Hp),But d H H'→DeckAt H' d b→Tg 0 d H' 2 3000 v→Q v H'
def spBentR:Sp:=fun vs H Q _=>∃(d r nm:Addr) (zs:List Str) (xs:List V) (b c n S:Nat),vs=[.ref d,.ref r,.ref nm]∧DeckAt H d (b+3)∧r≠d∧H r=some (.tup xs)∧xs.length≤lb c∧c≤1∧TsS (Tg c d H n) S xs∧NmAt H d nm zs∧n≤6∧∀(v:V) (H':Hp),But d H H'→DeckAt H' d b→Tg (c+1) d H' (n+3) (3 * S+5000) v→Q v H'
def spBentN (n:Nat):Sp:=fun vs H Q _=>∃(d nm:Addr) (v:V) (zs:List Str) (b c S:Nat),vs=[.ref d,v,.ref nm]∧DeckAt H d (b+(3 * n+10))∧c≤1∧Tg c d H n S v∧NmAt H d nm zs∧∀(v':V) (H':Hp),But d H H'→DeckAt H' d b→Tg (c+1) d H' (n+2) ((2 * n+4) * S+5000 * (n+1)) v'→Q v' H'
theorem g34_at_mem {xs:List V} {y:Int} (h0:0≤y) (h1:y<xs.length):∃v,atI xs y=some v∧v∈xs:=by
 obtain ⟨n,rfl⟩:∃n:Nat,y=(n:Int):=⟨y.toNat,by omega⟩
 have hn:n<xs.length:=by omega
 exact ⟨xs[n],Al (getq hn),List.getElem_mem hn⟩
section
variable {P:Program} {w:World} {K:PySem.W.Frag} {mg:Str→Option Value} {base:Heap}
theorem scOdd:Aw ["_law_deck_here","_law_names_here","_law_some"] ["_law_deck_here","_law_names_here"] (Ag sOdd):=⟨rfl,rfl,rfl,by decide+kernel,rfl,by decide+kernel,by decide+kernel⟩
theorem ok_Odd {f:Addr} {fd:FuncData} (F:Fun K "_law_odd" "_law_odd" sOdd f fd) (T:Txt mg)
  {gDraw:Addr} {fDraw:FuncData} (kDraw:PySem.W.keepIn K (.ref gDraw)=true) (bDraw:Binds K fDraw ["_law_deck_here","_law_most"] []) (hDraw:mg "_law_draw"=some (.ref gDraw)) (GDraw:FnOk P w K mg base CX0 1 gDraw fDraw ["_law_deck_here","_law_most"] spDraw):
  FnOk P w K mg base CX0 2 f fd ["_law_deck_here","_law_names_here"] spOdd:=by
 refine F.ok scOdd (fun vs H Q E h=> ?_) (fun cdv A outer s H vs Q E hr h=> ?_)
 ·obtain ⟨_,_,_,_,rfl,_⟩:=h;rfl
 ·obtain ⟨d,nm,zs,b,rfl,d0,N0,k⟩:=h
  refine ⟨_,Ad (Ak (i:=2) scOdd.nd rfl (Or.inl rfl) (PEw.out (w_lst (Bl (w_of pe_non) (Bl (w_of pe_bl) (Bl (w_of pe_bl) (Bl (w_of Af) (Bl (w_of Af) (Bl (w_of (pe_un un_neg Af)) (Bl (w_of Af) (Bl (w_of (Am op_pow Af Af)) (Bl (w_of Bg) (Bl (w_of Bg) (Bl (w_of Bg) (Bl (w_of Bg) (Bl (w_tup w_nil) (Bl (w_tup (Bl (w_tup w_nil) w_nil st_T)) (Bl (w_lstN w_nil) (Bl (w_of pe_dnewK) (Bl (w_of Bg) w_nil st_C) st_D) st_L) st_T) st_T) st_C) st_C) st_C) st_C) st_B) st_C) st_U) st_C) st_C) st_C) st_C) st_C))))
   (Ad (Ak (i:=2) scOdd.nd rfl (Or.inl rfl) (Am op_cat (Am op_cat (pv 2) (Bm (Aa Bg Ac))) (pv 1)))
   (Ah (Ao (Av Bf (pv 2) (Ai GDraw hr rfl hDraw kDraw bDraw .nil Aq (Aa (pv 0) (Aa (Aj A1 (by rfl) T.len PySem.boot_len (Aa (pv 2) Ac)) Ac))) (fun _ _=>rfl))))),?_⟩
  refine ⟨_,rfl,_,_,rfl,rfl,⟨by decide,by decide,by decide⟩,small (by simp),fun e1 h1=>⟨small (by simp),fun e2 h2=>⟨small (by simp),fun e3 h3=> ?_⟩⟩⟩
  have I:∀i:Int,i.natAbs<10 ^ 40→Fl 0 (.int i):=fun i h=> .inr (.inr (.inl ⟨i,rfl,h⟩))
  have Sx:∀z:Str,z.length≤50→(∀ch∈z.cps.toList,ch<16 ^ 8)→Fl 0 (.str z):=fun z h q=> .inr (.inr (.inr ⟨z,rfl,by show z.length+1≤51;omega,q⟩))
  have F0:∀v∈([.non,.bl true,.bl false,.int 0,.int 1,.int (-1),.int 24,.int (10 ^ Int.toNat 39),.str "",.str "joined",.str "parted",.str "way"]:List V),Fl 0 v:=fun v hv=>by
   simp only [List.mem_cons,List.not_mem_nil,or_false] at hv
   rcases hv with rfl|rfl|rfl|rfl|rfl|rfl|rfl|rfl|rfl|rfl|rfl|rfl
   ·exact .inl rfl
   ·exact .inr (.inl ⟨_,rfl⟩)
   ·exact .inr (.inl ⟨_,rfl⟩)
   ·exact I _ (by decide)
   ·exact I _ (by decide)
   ·exact I _ (by decide)
   ·exact I _ (by decide)
   ·exact I _ (by decide+kernel)
   ·exact Sx _ (by decide+kernel) (by decide+kernel)
   ·exact Sx _ (by decide+kernel) (by decide+kernel)
   ·exact Sx _ (by decide+kernel) (by decide+kernel)
   ·exact Sx _ (by decide+kernel) (by decide+kernel)
  have s1:=Ae (o:= .tup []) h1
  have t1:Tg 0 d (upd H e1 (.tup [])) 2 3000 (.ref e1):=Tg.mono (Nat.le_refl _) (by decide:1≤2) (by decide:3≤3000) (Tg.tup (n:=0) (S:=0) Ab (d0.ne h1) (by decide) TsS.nil)
  have d1:=d0.same s1
  have B1:But d H _:=But.of s1
  generalize upd H e1 (.tup [])=H1 at t1 d1 B1 h2 h3 ⊢
  have s2:=Ae (o:= .tup []) h2
  have t2:Tg 0 d (upd H1 e2 (.tup [])) 1 3 (.ref e2):=Tg.tup (n:=0) (S:=0) Ab (d1.ne h2) (by decide) TsS.nil
  have t1:=t1.but (But.of s2) d1
  have d2:=d1.same s2
  have B2:=B1.trans (But.of s2)
  generalize upd H1 e2 (.tup [])=H2 at t1 t2 d2 B2 h3 ⊢
  have s3:=Ae (o:= .tup [.ref e2]) h3
  have t3:Tg 0 d (upd H2 e3 (.tup [.ref e2])) 2 3000 (.ref e3):=Tg.mono (Nat.le_refl _) (by decide:2≤2) (by decide:3+0+2 * 1+3≤3000) (Tg.tup (n:=1) (S:=3+0) Ab (d2.ne h3) (by show 1≤lb 0;decide) (TsS.cons (t2.but (But.of s3) d2) TsS.nil))
  have t1:=t1.but (But.of s3) d2
  have d3:=d2.same s3
  have B3:=B2.trans (But.of s3)
  generalize upd H2 e3 (.tup [.ref e2])=H3 at t1 t3 d3 B3 ⊢
  refine ⟨small (by simp),fun e4 h4 n4=> ?_⟩
  have s4:=Ae (o:= .lst []) h4
  have t4:Tg 0 d (upd H3 e4 (.lst [])) 2 3000 (.ref e4):= .inl (.inr ⟨⟨e4,rfl,.inl ⟨_,Ab⟩⟩,(Rp.On.lst (n:=0) (k:=0) (l:=0) (xs:=[]) Ab n4 (d3.ne h4) (by simp) (by simp)).mono (by decide) (by decide)⟩)
  have t1:=t1.but (But.of s4) d3
  have t3:=t3.but (But.of s4) d3
  have d4:=d3.same s4
  have B4:=B3.trans (But.of s4)
  generalize upd H3 e4 (.lst [])=H4 at t1 t3 t4 d4 B4 ⊢
  refine fun e5 h5=> ?_
  have s5:=Ae (o:= .dK []) h5
  have t5:Tg 0 d (upd H4 e5 (.dK [])) 2 3000 (.ref e5):= .inl (.inr ⟨⟨e5,rfl,.inr Ab⟩,(Rp.On.dct Ab (d4.ne h5)).mono (by decide) (by decide)⟩)
  have t1:=t1.but (But.of s5) d4
  have t3:=t3.but (But.of s5) d4
  have t4:=t4.but (But.of s5) d4
  have d5:=d4.same s5
  have B5:=B4.trans (But.of s5)
  generalize upd H4 e5 (.dK [])=H5 at t1 t3 t4 t5 d5 B5 ⊢
  refine ⟨small (by simp),fun l hl=> ?_⟩
  have ok5:∀v∈([.non,.bl true,.bl false,.int 0,.int 1,.int (-1),.int 24,.int (10 ^ Int.toNat 39),.str "",.str "joined",.str "parted",.str "way",.ref e1,.ref e3,.ref e4,.ref e5,.str "A"]:List V),Tg 0 d H5 2 3000 v:=fun v hv=>by
   have hv:v∈[.non,.bl true,.bl false,.int 0,.int 1,.int (-1),.int 24,.int (10 ^ Int.toNat 39),.str "",.str "joined",.str "parted",.str "way"]++[V.ref e1,.ref e3,.ref e4,.ref e5,.str "A"]:=hv
   rcases List.mem_append.mp hv with hv|hv
   ·exact Tg.fl (F0 v hv) (by decide)
   ·simp only [List.mem_cons,List.not_mem_nil,or_false] at hv
    rcases hv with rfl|rfl|rfl|rfl|rfl
    ·exact t1
    ·exact t3
    ·exact t4
    ·exact t5
    ·exact Tg.fl (Sx _ (by decide+kernel) (by decide+kernel)) (by decide)
  have len:([.non,.bl true,.bl false,.int 0,.int 1,.int (-1),.int 24,.int (10 ^ Int.toNat 39),.str "",.str "joined",.str "parted",.str "way",.ref e1,.ref e3,.ref e4,.ref e5,.str "A"]:List V).length=17:=rfl
  generalize ([.non,.bl true,.bl false,.int 0,.int 1,.int (-1),.int 24,.int (10 ^ Int.toNat 39),.str "",.str "joined",.str "parted",.str "way",.ref e1,.ref e3,.ref e4,.ref e5,.str "A"]:List V)=XS at ok5 len ⊢
  have s6:=Ae (o:= .lst XS) hl
  have l6:=Ab (H:=H5) (a:=l) (o:= .lst XS)
  have ok6:∀v∈XS,Tg 0 d (upd H5 l (.lst XS)) 2 3000 v:=fun v hv=>(ok5 v hv).but (But.of s6) d5
  have d6:=d5.same s6
  have B6:=B5.trans (But.of s6)
  have nl:=d5.ne hl
  generalize upd H5 l (.lst XS)=H6 at l6 ok6 d6 B6 ⊢
  refine ⟨_,rfl,small (by simp),fun l2 hl2=> ?_⟩
  have s7:=Ae (o:= .lst [.str "abcdefghi"]) hl2
  have e7:=Ab (H:=H6) (a:=l2) (o:= .lst [.str "abcdefghi"])
  have d7:=d6.same s7
  have B7:=B6.trans (But.of s7)
  have l7:=s7 _ _ l6
  have ok7:∀v∈XS,Tg 0 d _ 2 3000 v:=fun v hv=>(ok6 v hv).but (But.of s7) d6
  generalize upd H6 l2 (.lst [.str "abcdefghi"])=H7 at e7 l7 ok7 d7 B7 ⊢
  refine ⟨l,l2,_,_,rfl,rfl,l7,e7,small (by rw [len];show 17+1≤10000;decide),fun l3 hl3=>⟨_,rfl,?_⟩⟩
  have s8:=Ae (o:= .lst (XS++[.str "abcdefghi"])) hl3
  have e8:=Ab (H:=H7) (a:=l3) (o:= .lst (XS++[.str "abcdefghi"]))
  have d8:=d7.same s8
  have B8:=B7.trans (But.of s8)
  have ok8:∀v∈XS,Tg 0 d _ 2 3000 v:=fun v hv=>(ok7 v hv).but (But.of s8) d7
  generalize upd H7 l3 (.lst (XS++[.str "abcdefghi"]))=H8 at e8 ok8 d8 B8 ⊢
  obtain ⟨hn,nn,z40,zok⟩:=N0.but B8
  have zl:(XS++[V.str "abcdefghi"]++zs.map V.str).length≤60:=by rw [List.length_append,List.length_append,len,List.length_map];show 17+1+zs.length≤60;omega
  refine ⟨l3,nm,_,_,rfl,rfl,e8,hn,small (by rw [List.length_append,len,List.length_map];show 17+1+zs.length≤10000;omega),fun l4 hl4=> ?_⟩
  have s9:=Ae (o:= .lst (XS++[.str "abcdefghi"]++zs.map V.str)) hl4
  have e9:=Ab (H:=H8) (a:=l4) (o:= .lst (XS++[.str "abcdefghi"]++zs.map V.str))
  have n9:=d8.ne hl4
  have d9:=d8.same s9
  have B9:=B8.trans (But.of s9)
  have ok9:∀v∈XS++[.str "abcdefghi"]++zs.map V.str,Tg 0 d (upd H8 l4 (.lst (XS++[.str "abcdefghi"]++zs.map V.str))) 2 3000 v:=fun v hv=>by
   rcases List.mem_append.mp hv with hv|hv
   ·rcases List.mem_append.mp hv with hv|hv
    ·exact (ok8 v hv).but (But.of s9) d8
    ·rw [List.mem_singleton.mp hv];exact Tg.fl (Sx _ (by decide+kernel) (by decide+kernel)) (by decide)
   ·obtain ⟨z,hz,rfl⟩:=List.mem_map.mp hv
    have:=zok z hz
    exact Tg.fl (Sx _ (by omega) this.2) (by decide)
  have pos:0<(XS++[V.str "abcdefghi"]++zs.map V.str).length:=by rw [List.length_append,List.length_append,len];omega
  generalize XS++[V.str "abcdefghi"]++zs.map V.str=YS at zl e9 ok9 d9 B9 pos ⊢
  generalize upd H8 l4 (.lst YS)=H9 at e9 ok9 d9 B9 ⊢
  refine ⟨_,rfl,_,rfl,_,rfl,l4,_,rfl,.inl (SqL.of e9),d,_,b,rfl,d9,by omega,by omega,fun y HA y0 y1 bA dA=> ?_⟩
  obtain ⟨v,hv,mv⟩:=g34_at_mem y0 y1
  exact ⟨l4,_,y,v,rfl,rfl,SqL.of (bA _ _ e9 n9),hv,k v HA (B9.trans bA) dA ((ok9 v mv).but bA d9)⟩
end
end K61
namespace K61
open PySem L2 Wk
theorem row_tg {c n S S':Nat} {d t:Addr} {H:Hp} {ys:List V} (e:H t=some (.tup ys)) (na:t≠d) (len:ys.length≤3 * lb c+1) (c1:c≤1) (ts:TsS (Tg (c+1) d H (n+2)) S' ys) (hS:S'≤3 * S+3000):Tg (c+1) d H (n+3) (3 * S+5000) (.ref t):=by
 have l:=Nat.le_trans len (lb_up c)
 have l2:=lb_le (c:=c+1) (by omega)
 exact Tg.mono (Nat.le_refl _) (Nat.le_refl _) (by omega) (Tg.tup e na l ts)
theorem TsS.up {c n S:Nat} {d:Addr} {H:Hp} {xs:List V} (h:TsS (Tg c d H n) S xs):TsS (Tg (c+1) d H (n+2)) S xs:=h.imp fun _ _=>Tg.mono (by omega) (by omega) (Nat.le_refl _)
theorem TsS.but {c n S k:Nat} {d:Addr} {H H':Hp} {xs:List V} (h:TsS (Tg c d H n) S xs) (b:But d H H') (D:DeckAt H d k):TsS (Tg c d H' n) S xs:=h.imp fun _ _=>Tg.but b D
def tRow (n:Nat):TS:=fun D σ H=>∃(d nm:Addr) (v:V) (zs:List Str) (b c S:Nat) (u3 u4 u5:Option V),σ=[some (.ref d),some v,some (.ref nm),u3,u4,u5]∧DeckAt H d (b+9)∧c≤1∧Tg c d H n S v∧NmAt H d nm zs∧∀(v':V) (H':Hp),But d H H'→DeckAt H' d b→Tg (c+1) d H' (n+2) ((2 * n+4) * S+5000 * (n+1)) v'→D.rt v' H'
theorem eqs_nilT {K:PySem.W.Frag} {H:Hp} {n:Nat} {a b:Addr} {xs:List V} (h1:SqT K H a xs) (h2:SqT K H b []):Eqs K H (n+1) (.ref a) (.ref b) xs.isEmpty:=by
 have:=Eqs.seq (K:=K) (H:=H) (n:=n) (ds:=xs) (es:=([]:List V)) (.inl ⟨h1,h2⟩) rfl rfl fun j p q d e hp hq _ _=>by simp at hq
 rwa [show decide (xs=[])=xs.isEmpty by cases xs<;> simp] at this
theorem sl_chars {z:Str} {lo hi:Option Int} (h:∀ch∈z.cps.toList,ch<16 ^ 8):∀ch∈(Txt.slice z lo hi).cps.toList,ch<16 ^ 8:=fun ch hc=>by
 refine h ch ?_
 have hc:ch∈(StrLaws.sliceText z lo hi).cps.toList:=hc
 unfold StrLaws.sliceText at hc
 split at hc
 ·exact hc
 ·simp only [List.mem_filterMap] at hc
  obtain ⟨i,_,hi⟩:=hc
  exact Array.mem_toList_iff.mpr (Array.mem_of_getElem? hi)
section
variable {P:Program} {w:World} {K:PySem.W.Frag} {mg:Str→Option Value} {base:Heap}
theorem scBentR:Aw ["_law_deck_here","_law_row","_law_names_here","_law_at","_law_some"] ["_law_deck_here","_law_row","_law_names_here"] (Ag sBentR):=⟨rfl,rfl,rfl,by decide+kernel,rfl,by decide+kernel,by decide+kernel⟩
theorem ok_BentR {f:Addr} {fd:FuncData} (F:Fun K "_law_bent_row" "_law_bent_row" sBentR f fd) (T:Txt mg)
  {gDraw:Addr} {fDraw:FuncData} (kDraw:PySem.W.keepIn K (.ref gDraw)=true) (bDraw:Binds K fDraw ["_law_deck_here","_law_most"] []) (hDraw:mg "_law_draw"=some (.ref gDraw)) (GDraw:FnOk P w K mg base CX0 2 gDraw fDraw ["_law_deck_here","_law_most"] spDraw)
  {gOdd:Addr} {fOdd:FuncData} (kOdd:PySem.W.keepIn K (.ref gOdd)=true) (bOdd:Binds K fOdd ["_law_deck_here","_law_names_here"] []) (hOdd:mg "_law_odd"=some (.ref gOdd)) (GOdd:FnOk P w K mg base CX0 2 gOdd fOdd ["_law_deck_here","_law_names_here"] spOdd):
  FnOk P w K mg base CX0 3 f fd ["_law_deck_here","_law_row","_law_names_here"] spBentR:=by
 refine F.ok scBentR (fun vs H Q E h=> ?_) (fun cdv A outer s H vs Q E hr h=> ?_)
 ·obtain ⟨_,_,_,_,_,_,_,_,_,rfl,_⟩:=h;rfl
 ·obtain ⟨d,r,nm,zs,xs,b,c,n,S,rfl,d0,nr,hr0,xl,c1,ts,N0,n5,k⟩:=h
  refine ⟨_,Ad (Ak (i:=3) scBentR.nd rfl (Or.inl rfl) (Ai GDraw hr rfl hDraw kDraw bDraw .nil Aq (Aa (pv 0) (Aa (Am Bc (Aj A1 (by rfl) T.len PySem.boot_len (Aa (pv 1) Ac)) Af) Ac))))
   (Ad (Ak (i:=4) scBentR.nd rfl (Or.inl rfl) (PEw.out (w_lst (Bl (w_of (Am Bv (Am Bv (A3 (r:=rSlTA K) Bt (pv 1) Bh (A4 (pv 3))) (A3 (r:=rSlTA K) Bt (pv 1) (A4 (pv 3)) (A4 (Am Bc (pv 3) Af)))) (A3 (r:=rSlTA K) Bt (pv 1) (A4 (pv 3)) Bh))) (Bl (w_of (Am Bv (A3 (r:=rSlTA K) Bt (pv 1) Bh (A4 (pv 3))) (A3 (r:=rSlTA K) Bt (pv 1) (A4 (Am Bc (pv 3) Af)) Bh))) (Bl (w_of (Be call_list_ofN (by rfl) T.list (by decide+kernel) (Aa (pv 1) Ac))) (Bl (w_of (pe_revT (pv 1) (A4 (pe_un un_neg Af)) (fun o i=>[o,i]) (fun _ _=>by with_unfolding_all rfl))) w_nil st_S) st_K) st_B) st_B))))
   (Ad (Ak (i:=4) scBentR.nd rfl (Or.inl rfl) (Am op_cat (pv 4) (PEw.out (w_lst (Bl (w_of (Am Bv (Am Bv (A3 (r:=rSlTA K) Bt (pv 1) Bh (A4 (pv 3))) (Bn (Aa (Ai GOdd hr rfl hOdd kOdd bOdd .nil Aq (Aa (pv 0) (Aa (pv 2) Ac))) Ac))) (A3 (r:=rSlTA K) Bt (pv 1) (A4 (pv 3)) Bh))) (Bl (w_of (Am Bv (A3 (r:=rSlTA K) Bt (pv 1) (A4 (pv 3)) Bh) (A3 (r:=rSlTA K) Bt (pv 1) Bh (A4 (pv 3))))) w_nil st_B) st_B)))))
   (Ah (Ao (Av Bf (pv 4) (Ai GDraw hr rfl hDraw kDraw bDraw .nil Aq (Aa (pv 0) (Aa Af Ac))) (fun _ _=>rfl)))))),?_⟩
  have l4:=lb_le (c:=c) (by omega)
  have cl:∀lo hi,(Bx xs lo hi).length≤lb c:=fun lo hi=>Nat.le_trans (cutV_length _ _ _) xl
  refine ⟨_,rfl,_,rfl,r,_,rfl,.inr (SqT.of hr0),_,_,rfl,rfl,d,_,b+2,rfl,d0,by omega,by omega,fun at_ H1 a0 a1 b1 d1=> ?_⟩
  have h1:=b1 _ _ hr0 nr
  have t1:=ts.but b1 d0
  refine ⟨_,rfl,_,rfl,_,rfl,Bz h1 fun e1 H2 s2 q1=> ?_⟩
  refine ⟨_,rfl,_,rfl,_,rfl,_,rfl,_,_,rfl,rfl,_,rfl,Bz (s2 _ _ h1) fun e2 H3 s3 q2=> ?_⟩
  refine cat_any (s3 _ _ q1) q2 (by have:=cl none (some at_);have:=cl (some at_) (some (at_+1));omega) fun e3 H4 s4 q3=> ?_
  have S4:=(s2.trans s3).trans s4
  refine ⟨_,rfl,_,rfl,_,rfl,Bz (S4 _ _ h1) fun e4 H5 s5 q4=> ?_⟩
  refine cat_any (s5 _ _ q3) q4 (by have:=cl none (some at_);have:=cl (some at_) (some (at_+1));have:=cl (some at_) none;rw [List.length_append];omega) fun e5 H6 s6 q5=> ?_
  have S6:=(S4.trans s5).trans s6
  have d6:=d1.same S6
  have t6:=t1.but (But.of S6) d1
  have r1:Tg (c+1) d H6 (n+3) (3 * S+5000) (.ref e5):=row_tg q5 (d6.neT q5) (by rw [List.length_append,List.length_append];have:=cl none (some at_);have:=cl (some at_) (some (at_+1));have:=cl (some at_) none;omega) c1 (((t6.cut _ _).app (t6.cut _ _)).app (t6.cut _ _)).up (by omega)
  refine ⟨_,rfl,_,rfl,_,rfl,Bz (S6 _ _ h1) fun e6 H7 s7 q6=> ?_⟩
  refine ⟨_,rfl,_,rfl,_,_,rfl,rfl,_,rfl,Bz (s7 _ _ (S6 _ _ h1)) fun e7 H8 s8 q7=> ?_⟩
  refine cat_any (s8 _ _ q6) q7 (by have:=cl none (some at_);have:=cl (some (at_+1)) none;omega) fun e8 H9 s9 q8=> ?_
  have S9:=((S6.trans s7).trans s8).trans s9
  have d9:=d1.same S9
  have t9:=t1.but (But.of S9) d1
  have r2:Tg (c+1) d H9 (n+3) (3 * S+5000) (.ref e8):=row_tg q8 (d9.neT q8) (by rw [List.length_append];have:=cl none (some at_);have:=cl (some (at_+1)) none;omega) c1 ((t9.cut _ _).app (t9.cut _ _)).up (by omega)
  have r1:=r1.but (But.of ((s7.trans s8).trans s9)) d6
  refine ⟨_,rfl,r,xs,rfl,SqT.of (S9 _ _ h1),fun e9 g9 m9=> ?_⟩
  have sA:=Ae (o:= .lst xs) g9
  have r3:Tg (c+1) d (upd H9 e9 (.lst xs)) (n+3) (3 * S+5000) (.ref e9):=by
   obtain ⟨ss,l,q,m⟩:=t9.but (But.of sA) d9
   refine .inl (.inr ⟨⟨e9,rfl,.inl ⟨_,Ab⟩⟩,?_⟩)
   have o:=(ons_of (k:=2+8 * c+n) (fun s v=>Tg.on (d:=d) (H:=upd H9 e9 (.lst xs)) (c:=c) (by omega)) l q)
   obtain ⟨ds,dl,dr,x1,x2,x3,x4⟩:=o
   have y:=PySem.listText_len_le (PyData.shownAll ds)
   refine ⟨_,.lst (Rp.offM_some Ab (d9.ne g9)) m9 dl dr,⟨by rw [PyData.showable];exact x1,by rw [PyData.shown];omega,by rw [PyData.depth];omega⟩⟩
  have SA:=S9.trans sA
  have r1:=r1.but (But.of sA) d9
  have r2:=r2.but (But.of sA) d9
  have dA:=d9.same sA
  generalize upd H9 e9 (.lst xs)=HA at r1 r2 r3 SA dA ⊢
  refine ⟨_,rfl,_,rfl,_,rfl,r,xs,rfl,rfl,SqT.of (SA _ _ h1),by omega,fun f1 g1=> ?_⟩
  have sB:=Ae (o:= .tup xs.reverse) g1
  have dB:=dA.same sB
  have r4:Tg (c+1) d (upd HA f1 (.tup xs.reverse)) (n+3) (3 * S+5000) (.ref f1):=row_tg Ab (dA.ne g1) (by rw [List.length_reverse];omega) c1 (t1.but (But.of (SA.trans sB)) d1).rev.up (by omega)
  have SB:=SA.trans sB
  have r1:=r1.but (But.of sB) dA
  have r2:=r2.but (But.of sB) dA
  have r3:=r3.but (But.of sB) dA
  generalize upd HA f1 (.tup xs.reverse)=HB at r1 r2 r3 r4 SB dB ⊢
  refine ⟨small (by simp),fun l1 hl1=> ?_⟩
  have sC:=Ae (o:= .lst [.ref e5,.ref e8,.ref e9,.ref f1]) hl1
  have lC:=Ab (H:=HB) (a:=l1) (o:= .lst [.ref e5,.ref e8,.ref e9,.ref f1])
  have nl1:=dB.ne hl1
  have ok4:∀v∈([.ref e5,.ref e8,.ref e9,.ref f1]:List V),Tg (c+1) d (upd HB l1 (.lst [.ref e5,.ref e8,.ref e9,.ref f1])) (n+3) (3 * S+5000) v:=fun v hv=>by
   simp only [List.mem_cons,List.not_mem_nil,or_false] at hv
   rcases hv with rfl|rfl|rfl|rfl
   ·exact r1.but (But.of sC) dB
   ·exact r2.but (But.of sC) dB
   ·exact r3.but (But.of sC) dB
   ·exact r4.but (But.of sC) dB
  have SC:=SB.trans sC
  have dC:=dB.same sC
  generalize upd HB l1 (.lst [.ref e5,.ref e8,.ref e9,.ref f1])=HC at lC ok4 SC dC ⊢
  have hC:=SC _ _ h1
  refine ⟨_,rfl,_,rfl,_,rfl,_,rfl,Bz hC fun p1 HD sD u1=> ?_⟩
  have dD:=dC.same sD
  refine ⟨_,rfl,_,rfl,d,nm,zs,b+1,rfl,dD,N0.but ((b1.trans (But.of SC)).trans (But.of sD)),fun o HE bE dE tE=>⟨small (by simp),fun p2 hp2=> ?_⟩⟩
  have bD:=(But.of sD).trans bE
  have u1E:=bE _ _ u1 (dD.neT u1)
  have hE:=bD _ _ hC nr
  have okE:∀v∈([.ref e5,.ref e8,.ref e9,.ref f1]:List V),Tg (c+1) d HE (n+3) (3 * S+5000) v:=fun v hv=>(ok4 v hv).but bD dC
  have lE:=bD _ _ lC nl1
  have tsE:=t1.but ((But.of SC).trans bD) d1
  have sF:=Ae (o:= .tup [o]) hp2
  refine cat_any (sF _ _ u1E) Ab (by have:=cl none (some at_);show _+1≤10000;omega) fun p3 HG sG u3=> ?_
  have SG:=sF.trans sG
  refine ⟨_,rfl,_,rfl,_,rfl,Bz (SG _ _ hE) fun p4 HI sI u4=> ?_⟩
  refine cat_any (sI _ _ u3) u4 (by have:=cl none (some at_);have:=cl (some at_) none;simp only [List.length_append,List.length_cons,List.length_nil];omega) fun p5 HJ sJ u5=> ?_
  have SJ:=(SG.trans sI).trans sJ
  have dJ:=dE.same SJ
  have tJ:=tsE.but (But.of SJ) dE
  have oJ:Tg (c+1) d HJ (n+2) 3000 o:=Tg.mono (by omega) (by omega) (Nat.le_refl _) (tE.but (But.of SJ) dE)
  have r5:Tg (c+1) d HJ (n+3) (3 * S+5000) (.ref p5):=row_tg u5 (dJ.neT u5) (by simp only [List.length_append,List.length_cons,List.length_nil];have:=cl none (some at_);have:=cl (some at_) none;have:30≤lb c:=lb_mono (Nat.zero_le c);omega) c1 (((tJ.cut _ _).up.app (TsS.cons oJ TsS.nil)).app (tJ.cut _ _).up) (by omega)
  have hJ:=SJ _ _ hE
  refine ⟨_,rfl,_,rfl,_,rfl,Bz hJ fun p6 HK sK u6=> ?_⟩
  refine ⟨_,rfl,_,rfl,_,rfl,Bz (sK _ _ hJ) fun p7 HL sL u7=> ?_⟩
  refine cat_any (sL _ _ u6) u7 (by have:=cl none (some at_);have:=cl (some at_) none;omega) fun p8 HM sM u8=> ?_
  have SM:=(sK.trans sL).trans sM
  have dM:=dJ.same SM
  have tM:=tJ.but (But.of SM) dJ
  have r6:Tg (c+1) d HM (n+3) (3 * S+5000) (.ref p8):=row_tg u8 (dM.neT u8) (by rw [List.length_append];have:=cl none (some at_);have:=cl (some at_) none;omega) c1 ((tM.cut _ _).app (tM.cut _ _)).up (by omega)
  have r5:=r5.but (But.of SM) dJ
  refine ⟨small (by simp),fun l2 hl2=> ?_⟩
  have sN:=Ae (o:= .lst [.ref p5,.ref p8]) hl2
  have lN:=Ab (H:=HM) (a:=l2) (o:= .lst [.ref p5,.ref p8])
  have SN:=(SJ.trans SM).trans sN
  have r5:=r5.but (But.of sN) dM
  have r6:=r6.but (But.of sN) dM
  have dN:=dM.same sN
  generalize upd HM l2 (.lst [.ref p5,.ref p8])=HN at lN r5 r6 SN dN ⊢
  refine ⟨l1,l2,_,_,rfl,rfl,SN _ _ lE,lN,small (by show 4+2≤10000;decide),fun l3 hl3=> ?_⟩
  have sO:=Ae (o:= .lst ([.ref e5,.ref e8,.ref e9,.ref f1]++[.ref p5,.ref p8])) hl3
  have lO:=Ab (H:=HN) (a:=l3) (o:= .lst ([.ref e5,.ref e8,.ref e9,.ref f1]++[.ref p5,.ref p8]))
  have nl3:=dN.ne hl3
  have ok6:∀v∈([.ref e5,.ref e8,.ref e9,.ref f1]++[.ref p5,.ref p8]:List V),Tg (c+1) d (upd HN l3 (.lst ([.ref e5,.ref e8,.ref e9,.ref f1]++[.ref p5,.ref p8]))) (n+3) (3 * S+5000) v:=fun v hv=>by
   rcases List.mem_append.mp hv with hv|hv
   ·exact (okE v hv).but (But.of (SN.trans sO)) dE
   ·simp only [List.mem_cons,List.not_mem_nil,or_false] at hv
    rcases hv with rfl|rfl
    ·exact r5.but (But.of sO) dN
    ·exact r6.but (But.of sO) dN
  have dO:=dN.same sO
  have BO:=((b1.trans (But.of SC)).trans bD).trans (But.of (SN.trans sO))
  generalize upd HN l3 (.lst ([.ref e5,.ref e8,.ref e9,.ref f1]++[.ref p5,.ref p8]))=HO at lO ok6 dO BO ⊢
  refine ⟨_,rfl,_,rfl,d,6,b,rfl,dO,by decide,by decide,fun y HP y0 y1 bP dP=> ?_⟩
  obtain ⟨v,hv,mv⟩:=g34_at_mem (xs:=[.ref e5,.ref e8,.ref e9,.ref f1]++[.ref p5,.ref p8]) y0 (by show y<6;exact y1)
  exact ⟨l3,_,y,v,rfl,rfl,SqL.of (bP _ _ lO nl3),hv,k v HP (BO.trans bP) dP ((ok6 v mv).but bP dO)⟩
end
end K61
namespace K61
open PySem L2 Wk
theorem cat_len (x y:Str):(x++y).length=x.length+y.length:=by
 show (x.cps++y.cps).size=x.cps.size+y.cps.size
 rw [Array.size_append]
def spPrev:Nat→Sp
 |0=>fun _ _ _ _=>False
 |n+1=>spBentN n
def tStr:TS:=fun D σ H=>∃(d nm:Addr) (v:V) (zs:List Str) (b c S:Nat) (w:Int) (u3 u5:Option V),σ=[some (.ref d),some v,some (.ref nm),u3,some (.int w),u5]∧DeckAt H d (b+3)∧c≤1∧Lf c S d H v∧NmAt H d nm zs∧∀(v':V) (H':Hp),But d H H'→DeckAt H' d b→Tg (c+1) d H' 2 3000 v'→D.rt v' H'
theorem tg_cases {c n S:Nat} {d:Addr} {H:Hp} {v:V} (tv:Tg c d H n S v):Lf c S d H v∨∃m a xs S',n=m+1∧v= .ref a∧a≠d∧H a=some (.tup xs)∧xs.length≤lb c∧TsS (Tg c d H m) S' xs∧S'+2 * xs.length+3≤S:=by
 cases n with
 |zero=>exact .inl tv
 |succ m=>
  rcases tv with h|⟨a,xs,S',e,na,h,l,ts,q⟩
  ·exact .inl h
  ·exact .inr ⟨m,a,xs,S',rfl,e,na,h,l,ts,q⟩
theorem isIB_of {v:V} (h:(isIn v||isBl v)=true):IsIB v:=by
 cases v with
 |int i=>exact .inl ⟨i,rfl⟩
 |bl b=>exact .inr ⟨b,rfl⟩
 |_=>cases h
theorem lf_str {c s:Nat} {d:Addr} {H:Hp} {z:Str} (h:Lf c s d H (.str z)):z.length+1≤51 * 2 ^ c∧∀ch∈z.cps.toList,ch<16 ^ 8:=by
 rcases h with ⟨h|⟨_,h⟩|⟨_,h,_⟩|⟨y,h,l,q⟩,_⟩|⟨⟨_,h,_⟩,_⟩
 any_goals cases h
 exact ⟨l,q⟩
theorem lf_ib {c s:Nat} {d:Addr} {H:Hp} {v:V} (h:Lf c s d H v) (hv:IsIB v):(ibV v).natAbs<10 ^ 40+c:=by
 have big:(1:Nat)<10 ^ 40:=by decide+kernel
 rcases hv with ⟨i,rfl⟩|⟨b,rfl⟩
 ·rcases h with ⟨h|⟨_,h⟩|⟨j,h,l⟩|⟨y,h,_⟩,_⟩|⟨⟨_,h,_⟩,_⟩
  any_goals cases h
  exact l
 ·show (if b=true then (1:Int) else 0).natAbs<_
  cases b
  ·show 0<_;omega
  ·show 1<_;omega
section
variable {P:Program} {w:World} {K:PySem.W.Frag} {mg:Str→Option Value} {base:Heap}
theorem scBent:Aw ["_law_deck_here","_law_thing","_law_names_here","_law_at","_law_way","_law_letter"] ["_law_deck_here","_law_thing","_law_names_here"] (Ag sBent):=⟨rfl,rfl,rfl,by decide+kernel,rfl,by decide+kernel,by decide+kernel⟩
theorem ok_Bent {n:Nat} (hn:n≤6) {f:Addr} {fd:FuncData} (F:Fun K "_law_bent" "_law_bent" sBent f fd) (T:Txt mg)
  {gDraw:Addr} {fDraw:FuncData} (kDraw:PySem.W.keepIn K (.ref gDraw)=true) (bDraw:Binds K fDraw ["_law_deck_here","_law_most"] []) (hDraw:mg "_law_draw"=some (.ref gDraw)) (GDraw:FnOk P w K mg base CX0 (3+n) gDraw fDraw ["_law_deck_here","_law_most"] spDraw)
  {gOdd:Addr} {fOdd:FuncData} (kOdd:PySem.W.keepIn K (.ref gOdd)=true) (bOdd:Binds K fOdd ["_law_deck_here","_law_names_here"] []) (hOdd:mg "_law_odd"=some (.ref gOdd)) (GOdd:FnOk P w K mg base CX0 (3+n) gOdd fOdd ["_law_deck_here","_law_names_here"] spOdd)
  {gBentR:Addr} {fBentR:FuncData} (kBentR:PySem.W.keepIn K (.ref gBentR)=true) (bBentR:Binds K fBentR ["_law_deck_here","_law_row","_law_names_here"] []) (hBentR:mg "_law_bent_row"=some (.ref gBentR)) (GBentR:FnOk P w K mg base CX0 (3+n) gBentR fBentR ["_law_deck_here","_law_row","_law_names_here"] spBentR)
  {gBent:Addr} {fBent:FuncData} (kBent:PySem.W.keepIn K (.ref gBent)=true) (bBent:Binds K fBent ["_law_deck_here","_law_thing","_law_names_here"] []) (hBent:mg "_law_bent"=some (.ref gBent)) (GBent:FnOk P w K mg base CX0 (3+n) gBent fBent ["_law_deck_here","_law_thing","_law_names_here"] (spPrev n)):
  FnOk P w K mg base CX0 (3+n+1) f fd ["_law_deck_here","_law_thing","_law_names_here"] (spBentN n):=by
 refine F.ok scBent (fun vs H Q E h=> ?_) (fun cdv A outer s H vs Q E hr h=> ?_)
 ·obtain ⟨_,_,_,_,_,_,_,rfl,_⟩:=h;rfl
 ·obtain ⟨d,nm,v,zs,b,c,S,rfl,d0,c1,tv,N0,k⟩:=h
  refine ⟨_,Ad (Ba (PW.pt (pw_and (Br (Aj Bd (by rfl) T.isinstance (by decide+kernel) (Aa (pv 1) (Aa (pe_ty (T:="tuple") (by rfl) T.tuple (by decide+kernel)) Ac)))) (pw_and (Ar (op_nes hr.units) (pv 1) (Bn Ac) (As _)) (pw_and1 (Ar op_gt (Ai GDraw hr rfl hDraw kDraw bDraw .nil Aq (Aa (pv 0) (Aa Af Ac))) Af (As _)))))) (Ad (Ak (i:=3) scBent.nd rfl (Or.inl rfl) (Ai GDraw hr rfl hDraw kDraw bDraw .nil Aq (Aa (pv 0) (Aa (Aj A1 (by rfl) T.len PySem.boot_len (Aa (pv 1) Ac)) Ac))))
   (Ah (Ao (Am Bv (Am Bv (A3 (r:=rSlTA K) Bt (pv 1) Bh (A4 (pv 3))) (Bn (Aa (Ai GBent hr rfl hBent kBent bBent .nil Aq (Aa (pv 0) (Aa (Av A2 (pv 1) (pv 3) (fun _ _=>rfl)) (Aa (pv 2) Ac)))) Ac))) (A3 (r:=rSlTA K) Bt (pv 1) (A4 (Am Bc (pv 3) Af)) Bh))))) Ax)
   (PSs.imp' (t':=(tRow n)) (Ad (Ba (Br (Aj Bd (by rfl) T.isinstance (by decide+kernel) (Aa (pv 1) (Aa (pe_ty (T:="tuple") (by rfl) T.tuple (by decide+kernel)) Ac)))) (Ah (Ao (Ai GBentR hr rfl hBentR kBentR bBentR .nil Aq (Aa (pv 0) (Aa (pv 1) (Aa (pv 2) Ac)))))) Ax)
   (Ad (Ak (i:=4) scBent.nd rfl (Or.inl rfl) (Ai GDraw hr rfl hDraw kDraw bDraw .nil Aq (Aa (pv 0) (Aa Af Ac))))
   (Ad (Ba (PW.pt (pw_and (Br (Aj Bd (by rfl) T.isinstance (by decide+kernel) (Aa (pv 1) (Aa (pe_ty (T:="int") (by rfl) T.int (by decide+kernel)) Ac)))) (pw_and1 (Ar op_lt (pv 4) Af (As _))))) (Ah (Ao (Av Bf (Bm (Aa (Am op_addIB (pv 1) Af) (Aa (Am op_subIB (pv 1) Af) (Aa (Bk op_eqIB (pv 1) Af (As _)) (Aa (Be call_strIB (by rfl) T.str (by decide+kernel) (Aa (pv 1) Ac)) Ac))))) (pv 4) (fun _ _=>rfl)))) Ax)
   (PSs.imp' (t':=tStr) (Ad (Ba (PW.pt (pw_and (Br (Aj Bd (by rfl) T.isinstance (by decide+kernel) (Aa (pv 1) (Aa (pe_ty (T:="str") (by rfl) T.str (by decide+kernel)) Ac)))) (pw_and1 (Ar op_lt (pv 4) Af (As _))))) (Ad (Ak (i:=3) scBent.nd rfl (Or.inl rfl) (Ai GDraw hr rfl hDraw kDraw bDraw .nil Aq (Aa (pv 0) (Aa (Am Bc (Aj call_len_str (by rfl) T.len PySem.boot_len (Aa (pv 1) Ac)) Af) Ac))))
   (Ad (Ak (i:=5) scBent.nd rfl (Or.inl rfl) (Av ix_str Bg (Ai GDraw hr rfl hDraw kDraw bDraw .nil Aq (Aa (pv 0) (Aa Af Ac))) (fun _ _=>rfl)))
   (Ah (Ao (Am op_add_str (Am op_add_str (A3 sl_str (pv 1) Bh (A4 (pv 3))) (Am op_mulS (pv 5) (Be call_int1 (by rfl) T.int (by decide+kernel) (Aa (Bk op_lt (pv 4) Af (As _)) Ac)))) (A3 sl_str (pv 1) (A4 (Am Bc (pv 3) (Be call_int1 (by rfl) T.int (by decide+kernel) (Aa (Bk op_ne (pv 4) Af (As _)) Ac)))) Bh)))))) Ax)
   (Ah (Ao (Ai GOdd hr rfl hOdd kOdd bOdd .nil Aq (Aa (pv 0) (Aa (pv 2) Ac)))))) ?str)))) ?row),?_⟩
  case str=>
   rintro D σ H ⟨d,nm,v,zs,b,c,S,w,u3,u5,rfl,d0,c1,lv,N0,k⟩
   obtain ⟨ts,t1,t2⟩:=An.str (K:=K) (.inl lv.nt)
   refine ⟨_,rfl,v,ts,"str",_,rfl,t1,t2,_,rfl,?_⟩
   cases hs:isSt v with
   |false=>
    refine Bb ?_
    exact ⟨_,rfl,_,rfl,d,nm,zs,b+2,rfl,d0,N0,fun o H3 b3 d3 t3=>k o H3 b3 (d3.mono (by omega)) (Tg.mono (by omega) (Nat.le_refl _) (Nat.le_refl _) t3)⟩
   |true=>
   obtain ⟨z,rfl⟩:∃z,v= .str z:=by
    cases v with
    |str z=>exact ⟨z,rfl⟩
    |_=>cases hs
   obtain ⟨zl,zc⟩:=lf_str lv
   have p2:=Nat.mul_le_mul_left 51 (Nat.pow_le_pow_right (n:=2) (by decide) (show c≤2 by omega))
   have p4:51 * 2 ^ 2=204:=by decide
   refine Bi ⟨_,rfl,_,_,rfl,rfl,_,rfl,ite2 (fun g=> ?_) fun _=> ?_⟩
   rotate_left
   ·exact ⟨_,rfl,_,rfl,d,nm,zs,b+2,rfl,d0,N0,fun o H3 b3 d3 t3=>k o H3 b3 (d3.mono (by omega)) (Tg.mono (by omega) (Nat.le_refl _) (Nat.le_refl _) t3)⟩
   refine ⟨_,rfl,_,rfl,z,rfl,small (by omega),_,_,rfl,rfl,d,_,b+2,rfl,d0,by omega,by omega,fun at_ H1 a0 a1 b1 d1=> ?_⟩
   refine ⟨_,rfl,d,26,b+1,rfl,d1,by decide,by decide,fun x H2 x0 x1 b2 d2=>⟨_,x,_,rfl,rfl,small (by decide+kernel),LS_at x0 x1,?_⟩⟩
   have ll:(⟨#[97+x.toNat]⟩:Str).length=1:=rfl
   have lc:∀ch∈(⟨#[97+x.toNat]⟩:Str).cps.toList,ch<16 ^ 8:=fun ch hc=>by
    have:ch=97+x.toNat:=by simpa using hc
    have big:(200:Nat)<16 ^ 8:=by decide
    omega
   generalize (⟨#[97+x.toNat]⟩:Str)=lt at ll lc ⊢
   have sl:∀lo hi,(Txt.slice z lo hi).length≤z.length:=fun lo hi=>Txt.slice_le z lo hi
   have fin:∀(m:Str) (lo:Option Int),m.length≤1→(∀ch∈m.cps.toList,ch<16 ^ 8)→D.rt (.str (Txt.slice z none (some at_)++m++Txt.slice z lo none)) H2:=fun m lo ml mc=>by
    have y1:=sl none (some at_)
    have y2:=sl lo none
    refine k _ H2 (b1.trans b2) (d2.mono (by omega)) (Tg.fl (.inr (.inr (.inr ⟨_,rfl,?_,fun ch hc=> ?_⟩))) (by decide))
    ·rw [cat_len,cat_len,Nat.pow_succ];omega
    rw [cat_cps,cat_cps] at hc
    rcases List.mem_append.mp hc with hc|hc
    ·rcases List.mem_append.mp hc with hc|hc
     ·exact sl_chars zc ch hc
     ·exact mc ch hc
    ·exact sl_chars zc ch hc
   have y1:=sl none (some at_)
   refine ⟨_,rfl,_,rfl,_,rfl,z,rfl,small (by omega),_,rfl,_,rfl,_,_,rfl,rfl,.inr ⟨_,rfl,?_⟩⟩
   by_cases gw:w<2
   ·refine ⟨_,_,rfl,rfl,.inr ⟨by rw [decide_eq_true gw];rfl,?_⟩⟩
    exact ⟨_,_,rfl,rfl,small (by omega),_,rfl,_,rfl,_,rfl,rfl,.inr ⟨_,rfl,_,_,rfl,rfl,_,rfl,z,rfl,small (by omega),_,_,rfl,rfl,small (by rw [cat_len];have:=sl (some (at_+(if (!decide (V.int w=V.int 1))=true then 1 else 0))) none;omega),fin lt _ (by omega) lc⟩⟩
   ·refine ⟨_,_,rfl,rfl,.inl ⟨by rw [decide_eq_false gw];rfl,?_⟩⟩
    exact ⟨_,_,rfl,rfl,small (by show _+0≤10000;omega),_,rfl,_,rfl,_,rfl,rfl,.inr ⟨_,rfl,_,_,rfl,rfl,_,rfl,z,rfl,small (by omega),_,_,rfl,rfl,small (by rw [cat_len];have:=sl (some (at_+(if (!decide (V.int w=V.int 1))=true then 1 else 0))) none;show (_+0)+_≤10000;omega),fin Str.empty _ (Nat.zero_le _) (fun ch hc=>nomatch hc)⟩⟩
  case row=>
   rintro D σ H ⟨d,nm,v,zs,b,c,S,u3,u4,u5,rfl,e0,c1,tw,M0,kq⟩
   rcases tg_cases tw with lv|⟨m,a,xs,S',rfl,rfl,na,ha,xl,ts,hS⟩
   rotate_left
   ·refine ⟨_,rfl,.ref a,.type "tuple","tuple",true,rfl,.tup ha,rfl,_,rfl,Bi ?_⟩
    have g:=Nat.mul_le_mul (show 3≤2 * (m+1)+4 by omega) (show S'≤S by omega)
    exact ⟨_,rfl,_,rfl,_,rfl,d,a,nm,zs,xs,b+6,c,m,S',rfl,e0,na,ha,xl,c1,ts,M0,by omega,fun v' H' b' d' t'=>kq v' H' b' (d'.mono (by omega)) (Tg.mono (Nat.le_refl _) (Nat.le_refl _) (by omega) t')⟩
   obtain ⟨ty,h1,h2⟩:=NotT.tup (K:=K) lv.nt
   refine ⟨_,rfl,v,ty,"tuple",false,rfl,h1,h2,_,rfl,Bb ?_⟩
   dsimp only [Bu]
   refine ⟨_,rfl,d,6,b+8,rfl,e0,by decide,by decide,fun w H1 w0 w1 b1 d1=> ?_⟩
   have lv1:Lf c S d H1 v:=Tg.but b1 e0 (n:=0) lv
   have N1:=M0.but b1
   have kk:∀(v':V) (H':Hp),But d H1 H'→DeckAt H' d b→Tg (c+1) d H' 2 3000 v'→D.rt v' H':=fun v' H' b' d' t'=>kq v' H' (b1.trans b') d' (Tg.mono (Nat.le_refl _) (by omega) (by omega) t')
   obtain ⟨ti,i1,i2⟩:=An.int (K:=K) (.inl lv1.nt)
   refine ⟨_,rfl,v,ti,"int",_,rfl,i1,i2,_,rfl,?_⟩
   by_cases hib:(isIn v||isBl v)=true
   rotate_left
   ·rw [Bool.eq_false_iff.mpr hib]
    refine Bb ?_
    exact ⟨d,nm,v,zs,b,c,S,w,_,_,rfl,d1.mono (by omega),c1,lv1,N1,kk⟩
   rw [hib]
   have ib:=isIB_of hib
   have bd:=lf_ib lv1 ib
   have big:(10:Nat) ^ 40+5≤10 ^ 45:=by decide+kernel
   refine Bi ⟨_,rfl,_,_,rfl,rfl,_,rfl,ite2 (fun g=> ?_) fun _=> ?_⟩
   rotate_left
   ·exact ⟨d,nm,v,zs,b,c,S,w,_,_,rfl,d1.mono (by omega),c1,lv1,N1,kk⟩
   refine ⟨_,rfl,1,ib,rfl,_,rfl,1,ib,rfl,_,rfl,1,ib,rfl,_,rfl,v,rfl,ib,by omega,fun z zl zc=>⟨small (by simp),fun l hl=> ?_⟩⟩
   have okl:∀x∈([.int (ibV v+1),.int (ibV v - 1),.bl (ibV v==1),.str z]:List V),Fl (c+1) x:=fun x hx=>by
    simp only [List.mem_cons,List.not_mem_nil,or_false] at hx
    rcases hx with rfl|rfl|rfl|rfl
    ·exact .inr (.inr (.inl ⟨_,rfl,by omega⟩))
    ·exact .inr (.inr (.inl ⟨_,rfl,by omega⟩))
    ·exact .inr (.inl ⟨_,rfl⟩)
    ·exact .inr (.inr (.inr ⟨_,rfl,by rw [Nat.pow_succ];have:=Nat.pow_pos (n:=c) (show 0<2 by decide);omega,zc⟩))
   have g:w<4:=of_decide_eq_true g
   obtain ⟨x,hx,mx⟩:=g34_at_mem (xs:=[.int (ibV v+1),.int (ibV v - 1),.bl (ibV v==1),.str z]) w0 (by show w<4;exact g)
   have s2:=Ae (o:= .lst [.int (ibV v+1),.int (ibV v - 1),.bl (ibV v==1),.str z]) hl
   exact ⟨_,rfl,l,_,w,x,rfl,rfl,SqL.of Ab,hx,kk x _ (But.of s2) ((d1.same s2).mono (by omega)) (Tg.fl (okl x mx) (by decide))⟩
  have tl:∀(H1:Hp) (u3:Option V),But d H H1→DeckAt H1 d (b+3 * n+9)→∀D:Ends,(∀x H',Q x H'→D.rt x H')→tRow n D [some (.ref d),some v,some (.ref nm),u3,none,none] H1:=fun H1 u3 b1 d1 D hD=>⟨d,nm,v,zs,b+3 * n,c,S,_,_,_,rfl,d1,c1,tv.but b1 d0,N0.but b1,fun v' H' b' d' t'=>hD _ _ (k v' H' (b1.trans b') (d'.mono (by omega)) t')⟩
  rcases tg_cases tv with lv|⟨m,a,xs,S',rfl,rfl,na,ha,xl,ts,hS⟩
  ·obtain ⟨ty,h1,h2⟩:=NotT.tup (K:=K) lv.nt
   refine ⟨_,rfl,v,ty,"tuple",false,rfl,h1,h2,_,rfl,Bb ?_⟩
   exact tl H _ (But.refl) (d0.mono (by omega)) _ fun _ _ z=>z
  refine ⟨_,rfl,.ref a,.type "tuple","tuple",true,rfl,.tup ha,rfl,_,rfl,Bi ?_⟩
  refine ⟨_,rfl,small (by simp),fun e he=> ?_⟩
  have s1:=Ae (o:= .tup []) he
  have q1:=Ab (H:=H) (a:=e) (o:= .tup [])
  have d1:=d0.same s1
  generalize upd H e (.tup [])=H1 at s1 q1 d1 ⊢
  have ha1:=s1 _ _ ha
  refine ⟨0,_,a,e,rfl,rfl,by decide,eqs_nilT (SqT.of ha1) (SqT.of q1),_,rfl,?_⟩
  cases hx:xs.isEmpty with
  |true=>exact Bb (tl H1 _ (But.of s1) (d1.mono (by omega)) _ fun _ _ z=>z)
  |false=>
  have pos:0<xs.length:=by cases xs with|nil=>cases hx|cons _ _=>exact Nat.succ_pos _
  refine Bi ⟨_,rfl,d,3,b+(3 * m+12),rfl,d1,by decide,by decide,fun y H2 y0 y1 b2 d2=> ?_⟩
  have B2:=(But.of s1).trans b2
  refine ⟨_,_,rfl,rfl,_,rfl,ite2 (fun _=> ?_) fun _=> ?_⟩
  rotate_left
  ·exact tl H2 _ B2 (d2.mono (by omega)) _ fun _ _ z=>z
  have ha2:=B2 _ _ ha na
  refine ⟨_,rfl,_,rfl,a,_,rfl,.inr (SqT.of ha2),d,_,b+(3 * m+11),rfl,d2,by omega,by have:=lb_le (c:=c) (by omega);omega,fun at_ H3 a0 a1 b3 d3=> ?_⟩
  have B3:=B2.trans b3
  have ha3:=B3 _ _ ha na
  have l4:=lb_le (c:=c) (by omega)
  have cl:∀lo hi,(Bx xs lo hi).length≤lb c:=fun lo hi=>Nat.le_trans (cutV_length _ _ _) xl
  refine ⟨_,rfl,_,rfl,_,rfl,Bz ha3 fun p1 H4 s4 u1=> ?_⟩
  obtain ⟨x,hx4,mx⟩:=g34_at_mem (xs:=xs) a0 a1
  have ts4:=ts.but (B3.trans (But.of s4)) d0
  obtain ⟨sx,sle,tx⟩:=ts4.get mx
  have d4:=d3.same s4
  have ha4:=s4 _ _ ha3
  refine ⟨_,rfl,_,rfl,_,rfl,a,_,_,x,rfl,rfl,SqT.of ha4,hx4,_,rfl,d,nm,x,zs,b+1,c,sx,rfl,d4.mono (by omega),c1,tx,N0.but (B3.trans (But.of s4)),fun w H5 b5 d5 tw=>⟨small (by simp),fun p2 hp2=> ?_⟩⟩
  have u15:=b5 _ _ u1 (d4.neT u1)
  have ha5:=b5 _ _ ha4 na
  have s6:=Ae (o:= .tup [w]) hp2
  refine cat_any (s6 _ _ u15) Ab (by have:=cl none (some at_);show _+1≤10000;omega) fun p3 H7 s7 u3=> ?_
  have S7:=s6.trans s7
  refine ⟨_,rfl,_,rfl,_,_,rfl,rfl,_,rfl,Bz (S7 _ _ ha5) fun p4 H8 s8 u4=> ?_⟩
  refine cat_any (s8 _ _ u3) u4 (by have:=cl none (some at_);have:=cl (some (at_+1)) none;simp only [List.length_append,List.length_cons,List.length_nil];omega) fun p5 H9 s9 u5=> ?_
  have S9:=(S7.trans s8).trans s9
  have d9:=d5.same S9
  have B9:=((B3.trans (But.of s4)).trans b5).trans (But.of S9)
  have t9:=ts.but B9 d0
  have tw9:Tg (c+1) d H9 (m+2) ((2 * m+4) * sx+5000 * (m+1)) w:=tw.but (But.of S9) d5
  have g1:=Nat.mul_le_mul_left (2 * m+4) sle
  have g2:=Nat.mul_le_mul_left (2 * (m+1)+4) (show S'≤S by omega)
  have g3:(2 * (m+1)+4) * S'=(2 * m+4) * S'+2 * S':=by rw [show 2 * (m+1)+4=(2 * m+4)+2 by omega,Nat.add_mul]
  have le9:((Bx xs none (some at_)++[w])++Bx xs (some (at_+1)) none).length≤lb (c+1):=by
   have:=cl none (some at_)
   have:=cl (some (at_+1)) none
   have:=lb_up c
   have:30≤lb c:=lb_mono (Nat.zero_le c)
   simp only [List.length_append,List.length_cons,List.length_nil];omega
  have l9:=lb_le (c:=c+1) (by omega)
  have res:=Tg.tup u5 (d9.neT u5) le9 (((t9.cut none (some at_)).up.app (TsS.cons tw9 TsS.nil)).app (t9.cut (some (at_+1)) none).up)
  exact k _ H9 B9 (d9.mono (by omega)) (Tg.mono (Nat.le_refl _) (Nat.le_refl _) (by omega) res)
end
end K61
namespace K61
open PySem L2 Wk
theorem val_mem {κ:Type} [DecidableEq κ] {kvs:List (κ×V)} {k:κ} {v:V} (h:B0 kvs k=some v):(k,v)∈kvs:=by
 unfold B0 at h
 obtain ⟨p,hp,e⟩:=Option.map_eq_some_iff.mp h
 have h1:=List.mem_of_find?_eq_some hp
 have h2:p.1=k:=by simpa using List.find?_some hp
 rw [←e,←h2];exact h1
def WOk (H:Hp) (w:Addr) (N:Nat) (kvs:List (Key×V)):Prop:=H w=some (.dK kvs)∧(kvs.map (·.1)).Nodup∧∀kv∈kvs,∃(k:Nat) (r:Addr) (ws:List Str),kv=(.inl (k:Int),.ref r)∧k<N∧H r=some (.tup (ws.map V.str))∧ws.length+1≤kvs.length∧∀z∈ws,Nmz z
theorem WOk.len {H:Hp} {w:Addr} {N:Nat} {kvs:List (Key×V)} (h:WOk H w N kvs):kvs.length≤N:=by
 have:=List.Nodup.length_le_of_subset h.2.1 (l₂:=(List.range N).map fun k:Nat=>(Sum.inl (k:Int):Key)) fun x hx=>by
  obtain ⟨kv,hkv,rfl⟩:=List.mem_map.mp hx
  obtain ⟨k,r,ws,rfl,hk,_⟩:=h.2.2 kv hkv
  exact List.mem_map.mpr ⟨k,List.mem_range.mpr hk,rfl⟩
 simpa using this
theorem WOk.same {H H':Hp} {w:Addr} {N:Nat} {kvs:List (Key×V)} (h:WOk H w N kvs) (s:Same H H'):WOk H' w N kvs:=⟨s _ _ h.1,h.2.1,fun kv hkv=>let ⟨k,r,ws,e,hk,hr,l,q⟩:=h.2.2 kv hkv;⟨k,r,ws,e,hk,s _ _ hr,l,q⟩⟩
theorem WOk.put {H:Hp} {w q:Addr} {N k0 k1:Nat} {kvs:List (Key×V)} {v:V} {n:Str} {ws:List Str} (h:WOk H w N kvs) (out:B0 kvs (.inl (k1:Int))=none) (k1N:k1<N) (l:ws.length+1≤kvs.length) (ok:∀z∈ws,Nmz z) (nn:Nmz n) (hq:H q=some (.tup ((ws++[n]).map V.str))):WOk (upd H w (.dK (putK kvs (.inl (k1:Int)) (.ref q)))) w N (putK kvs (.inl (k1:Int)) (.ref q)):=by
 have keep:∀(r:Addr) xs,H r=some (.tup xs)→upd H w (.dK (putK kvs (.inl (k1:Int)) (.ref q))) r=some (.tup xs):=fun r xs e=>by
  rw [Ap (fun z=>by rw [z,h.1] at e;cases e)];exact e
 rw [putK_new _ out] at *
 refine ⟨Ab,?_,fun kv hkv=> ?_⟩
 ·have:=nd_putK (V.ref q) h.2.1 out
  rwa [putK_new _ out] at this
 ·rw [List.length_append,List.length_singleton]
  rcases List.mem_append.mp hkv with g|g
  ·obtain ⟨k,r,ws',e,hk,hr,l',ok'⟩:=h.2.2 kv g
   exact ⟨k,r,ws',e,hk,keep _ _ hr,by omega,ok'⟩
  ·refine ⟨k1,q,ws++[n],List.mem_singleton.mp g,k1N,keep _ _ hq,by rw [List.length_append,List.length_singleton];omega,fun z hz=> ?_⟩
   rcases List.mem_append.mp hz with hz|hz
   ·exact ok z hz
   ·rw [List.mem_singleton.mp hz];exact nn
def NmS (S:List T4):Prop:=∀t∈S,Nmz t.1
def spLWays:Sp:=fun vs H Q _=>∃(N:Nat) (st:Addr) (S:List T4) (p:Nat),vs=[.int (N:Int),.ref st,.int (p:Int)]∧StandAt H st S∧InN N S∧N≤24∧S.length≤100∧p<N∧NmS S∧∀w kvs H',Same H H'→WOk H' w N kvs→Q (.ref w) H'
def PapT (d:Addr) (H:Hp) (r:Addr):Prop:=∃(w:Str) (v:V),H r=some (.tup [.str w,v])∧(w=Str.ofString "joined"∨w=Str.ofString "parted")∧Tg 0 d H 1 55000 v
def spLPaper:Sp:=fun vs H Q _=>∃(N:Nat) (st:Addr) (S:List T4) (p q:Nat),vs=[.int (N:Int),.ref st,.int (p:Int),.int (q:Int)]∧StandAt H st S∧InN N S∧N≤24∧S.length≤100∧p<N∧NmS S∧∀r H',Same H H'→(∀d k,DeckAt H d k→PapT d H' r)→Q (.ref r) H'
theorem PapT.but {d:Addr} {H H':Hp} {r:Addr} {k:Nat} (h:PapT d H r) (b:But d H H') (D:DeckAt H d k):PapT d H' r:=let ⟨w,v,e,q,t⟩:=h;⟨w,v,b _ _ e (D.neT e),q,t.but b D⟩
theorem PapT.tg {d:Addr} {H:Hp} {r:Addr} {k:Nat} (h:PapT d H r) (D:DeckAt H d k):Tg 0 d H 2 58000 (.ref r):=by
 obtain ⟨w,v,e,q,t⟩:=h
 have hw:Fl 0 (.str w):=by
  refine .inr (.inr (.inr ⟨w,rfl,?_,?_⟩))
  ·rcases q with rfl|rfl<;> decide+kernel
  ·rcases q with rfl|rfl<;> decide+kernel
 exact Tg.mono (Nat.le_refl _) (Nat.le_refl _) (by show 2100+(55000+0)+2 * 2+3≤58000;decide) (Tg.tup e (D.neT e) (by show 2≤lb 0;decide) (TsS.cons (Tg.fl hw (Nat.le_refl _)) (TsS.cons t TsS.nil)))
theorem tg_strs {d r:Addr} {H:Hp} {k:Nat} {ws:List Str} (D:DeckAt H d k) (e:H r=some (.tup (ws.map V.str))) (l:ws.length≤24) (ok:∀z∈ws,Nmz z):Tg 0 d H 1 55000 (.ref r):=by
 have ts:TsS (Tg 0 d H 0) (2100 * (ws.map V.str).length) (ws.map V.str):=TsS.all fun x hx=>by
  obtain ⟨z,hz,rfl⟩:=List.mem_map.mp hx
  exact .inl ⟨.inr (.inr (.inr ⟨z,rfl,by have:=(ok z hz).1;show z.length+1≤51;omega,(ok z hz).2⟩)),Nat.le_refl _⟩
 have ll:(ws.map V.str).length≤24:=by rw [List.length_map];exact l
 exact Tg.mono (Nat.le_refl _) (Nat.le_refl _) (by omega) (Tg.tup e (D.neT e) (Nat.le_trans ll (by decide)) ts)
theorem tg_ints {d r:Addr} {H:Hp} {k:Nat} {ns:List Int} (D:DeckAt H d k) (e:H r=some (.tup (ns.map V.int))) (l:ns.length≤24) (ok:∀z∈ns,z.natAbs<1000):Tg 0 d H 1 55000 (.ref r):=by
 have big:(1000:Nat)<10 ^ 40:=by decide+kernel
 have ts:TsS (Tg 0 d H 0) (2100 * (ns.map V.int).length) (ns.map V.int):=TsS.all fun x hx=>by
  obtain ⟨z,hz,rfl⟩:=List.mem_map.mp hx
  exact .inl ⟨.inr (.inr (.inl ⟨z,rfl,by have:=ok z hz;omega⟩)),Nat.le_refl _⟩
 have ll:(ns.map V.int).length≤24:=by rw [List.length_map];exact l
 exact Tg.mono (Nat.le_refl _) (Nat.le_refl _) (by omega) (Tg.tup e (D.neT e) (Nat.le_trans ll (by decide)) ts)
def wσ (N:Nat) (st:Addr) (p:Nat) (w:Addr) (u4 u5 u6 u7 u8:Option V):St:=[some (.int (N:Int)),some (.ref st),some (.int (p:Int)),some (.ref w),u4,u5,u6,u7,u8]
def tTwo (K:PySem.W.Frag):TS:=fun D σ H=>∃(N:Nat) (st:Addr) (p:Nat) (w:Addr) (kvs:List (Key×V)) (n:Str) (i j:Nat) (u4 u8:Option V),σ=wσ N st p w u4 (some (.str n)) (some (.int (i:Int))) (some (.int (j:Int))) u8∧WOk H w N kvs∧Nmz n∧i<N∧j<N∧N≤24∧∀H' kvs',(∀(a:Addr) o,H a=some o→a≠w→H' a=some o)→WOk H' w N kvs'→D.nx (wσ N st p w u4 (some (.str n)) (some (.int (i:Int))) (some (.int (j:Int))) u8) H'
section
variable {P:Program} {w:World} {K:PySem.W.Frag} {mg:Str→Option Value} {base:Heap}
theorem scLWays:Aw ["_law_many_here","_law_stand","_law_one","_law_ways_here","_law_turn","_law_name","_law_here","_law_there","_law_weight_here"] ["_law_many_here","_law_stand","_law_one"] (Ag sLWays):=⟨rfl,rfl,rfl,by decide+kernel,rfl,by decide+kernel,by decide+kernel⟩
theorem ok_LWays {f:Addr} {fd:FuncData} (F:Fun K "_law_ways" "_law_ways" sLWays f fd) (T:Txt mg):
  FnOk P w K mg base CX0 1 f fd ["_law_many_here","_law_stand","_law_one"] spLWays:=by
 refine F.ok scLWays (fun vs H Q E h=> ?_) (fun cdv A outer s H vs Q E hr h=> ?_)
 ·obtain ⟨_,_,_,_,rfl,_⟩:=h;rfl
 ·obtain ⟨N,st,S,p,rfl,hst,hin,N24,S100,pN,hnm,k⟩:=h
  refine ⟨_,Ad (Ak (i:=3) scLWays.nd rfl (Or.inl rfl) (pe_disp (pps_cons (pv 2) (Bn Ac) pps_nil) rfl rfl (by simp) (by simp)))
   (Ad (Ca PassesOwn.never rfl (pi_range1 rfl T.range (Aa (pv 0) Ac)) (Az (i:=4) scLWays.nd rfl (Or.inl rfl)) (Ah (Ca PassesOwn.never rfl (pi_tup (pv 1)) (pg_tup rfl (Bp (Az (i:=5) scLWays.nd rfl (Or.inl rfl)) (Bp (Az (i:=6) scLWays.nd rfl (Or.inl rfl)) (Bp (Az (i:=7) scLWays.nd rfl (Or.inl rfl)) (Bp (Az (i:=8) scLWays.nd rfl (Or.inl rfl)) pgs_nil))))) (Ad (Ba (PW.pt (pw_and (pt_cmp (pc_din (hu_of hr) (pv 6) (pv 3))) (pw_and1 (pt_cmp (pc_dnotin (hu_of hr) (pv 7) (pv 3)))))) (Ah (ps_dput (hu_of hr) (pv 3) (pv 7) (Am Bv (pe_dget (hu_of hr) (pv 3) (pv 6) (fun _ _=>rfl)) (Bn (Aa (pv 5) Ac))) rfl)) Ax)
   (PSs.imp' (t':=(tTwo K)) (Ah (Ba (PW.pt (pw_and (pt_cmp (pc_din (hu_of hr) (pv 7) (pv 3))) (pw_and1 (pt_cmp (pc_dnotin (hu_of hr) (pv 6) (pv 3)))))) (Ah (ps_dput (hu_of hr) (pv 3) (pv 6) (Am Bv (pe_dget (hu_of hr) (pv 3) (pv 7) (fun _ _=>rfl)) (Bn (Aa (pv 5) Ac))) rfl)) Ax)) ?two)))))
   (Ah (Ao (pv 3)))),?_⟩
  case two=>
   rintro D σ H ⟨N,st,p,w,kvs,n,i,j,u4,u8,rfl,W,nn,iN,jN,N24,k⟩
   have g0:=DGet.k (k:=Sum.inl (j:Int)) W.1
   have g1:=DGet.k (k:=Sum.inl (i:Int)) W.1
   refine ⟨_,rfl,_,rfl,w,_,rfl,g0,_,rfl,?_⟩
   cases e0:B0 kvs (Sum.inl (j:Int)) with
   |none=>exact Bb (k H kvs (fun _ _ e _=>e) W)
   |some v=>
   refine Bi ⟨_,rfl,_,rfl,w,_,rfl,g1,_,rfl,?_⟩
   cases e1:B0 kvs (Sum.inl (i:Int)) with
   |some _=>exact Bb (k H kvs (fun _ _ e _=>e) W)
   |none=>
   refine Bi ?_
   obtain ⟨k0,r,ws,ee,_,hr,l,ok⟩:=W.2.2 _ (val_mem e0)
   have ev:v= .ref r:=by injection ee
   subst ev
   rw [e0] at g0
   refine ⟨_,rfl,_,rfl,w,_,rfl,g0,_,rfl,small (by simp),fun q hq=> ?_⟩
   have s1:=Ae (o:= .tup [.str n]) hq
   have kl:=W.len
   refine cat_any (s1 _ _ hr) Ab (by rw [List.length_map];show ws.length+1≤10000;omega) fun c H2 s2 e2=> ?_
   have S2:=s1.trans s2
   have W2:=W.same S2
   have e2:H2 c=some (.tup ((ws++[n]).map V.str)):=by rw [e2,List.map_append];rfl
   refine ⟨_,rfl,_,rfl,w,_,rfl,DPut.k (k:=Sum.inl (i:Int)) W2.1 (A8 (by omega)),?_⟩
   have W3:=WOk.put (k0:=0) (v:= .non) W2 e1 iN l ok nn e2
   exact k _ _ (fun a o e na=>by rw [Ap na];exact S2 _ _ e) W3
  refine fun w hw=>⟨_,rfl,small (by simp),fun e he=> ?_⟩
  have s1:=Ae (o:= .dK []) hw
  have w1:=Ab (H:=H) (a:=w) (o:= .dK [])
  generalize upd H w (.dK [])=H1 at s1 w1 he ⊢
  have s2:=Ae (o:= .tup []) he
  have e2:=Ab (H:=H1) (a:=e) (o:= .tup [])
  have w2:=s2 _ _ w1
  have S2:=s1.trans s2
  generalize upd H1 e (.tup [])=H2 at e2 w2 S2 ⊢
  refine ⟨w2,[(.inl (p:Int),.ref e)],rfl,by simp,?_⟩
  have S3:Same H (upd H2 w (.dK [(.inl (p:Int),.ref e)])):=same_set S2 hw
  have W3:WOk (upd H2 w (.dK [(.inl (p:Int),.ref e)])) w N [(.inl (p:Int),.ref e)]:=⟨Ab,by simp,fun kv hkv=>⟨p,e,[],List.mem_singleton.mp hkv,pN,by rw [Ap (fun z=>by rw [z,w2] at e2;cases e2)];exact e2,by show 0+1≤1;decide,by simp⟩⟩
  show tSeq _ _ _ _ (upd H2 w (.dK [(.inl (p:Int),.ref e)]))
  generalize upd H2 w (.dK [(.inl (p:Int),.ref e)])=H3 at S3 W3 ⊢
  refine ⟨_,rfl,(N:Int),rfl,by omega,by omega,for_range (lo:=0) (n:=(N:Int).toNat) (fun i σ H5=>∃(u4 u5 u6 u7 u8:Option V) (kvs:List (Key×V)),σ=wσ N st p w u4 u5 u6 u7 u8∧Same H H5∧WOk H5 w N kvs) ⟨_,_,_,_,_,_,rfl,S3,W3⟩ ?_ ?_⟩
  rotate_left
  ·rintro σ H5 ⟨u4,u5,u6,u7,u8,kvs,rfl,s5,W5⟩
   exact ⟨_,rfl,k w kvs H5 s5 W5⟩
  rintro i σ H5 hi ⟨u4,u5,u6,u7,u8,kvs,rfl,s5,W5⟩
  obtain ⟨rs,est,hrs⟩:=id hst
  refine ⟨_,rfl,st,rfl,⟨_,SqT.of (s5 _ _ est)⟩,for_tup (K:=K) (a:=st) (xs:=rs.map V.ref) (fun j σ H6=>∃(u4 u5 u6 u7 u8:Option V) (kvs:List (Key×V)),σ=wσ N st p w u4 u5 u6 u7 u8∧Same H H6∧WOk H6 w N kvs) ⟨_,_,_,_,_,_,rfl,s5,W5⟩ (fun j σ H6 _ ⟨_,_,_,_,_,_,_,s6,_⟩=>SqT.of (s6 _ _ est)) ?_ ?_⟩
  rotate_left
  ·rintro σ H6 ⟨u4,u5,u6,u7,u8,kvs,rfl,s6,W6⟩
   exact ⟨_,_,_,_,_,_,rfl,s6,W6⟩
  rintro j x σ H6 hx ⟨u4,u5,u6,u7,u8,kvs,rfl,s6,W⟩
  obtain ⟨r0,hr',rfl⟩:=Bs hx
  obtain ⟨t,ht,er⟩:=hrs.get hr'
  have tm:=List.mem_of_getElem? ht
  have iN:=(hin t tm).1
  have jN:=(hin t tm).2
  have nn:=hnm t tm
  refine ⟨r0,_,rfl,SqT.of (s6 _ _ er),rfl,_,_,rfl,_,_,rfl,_,_,rfl,_,_,rfl,rfl,?_⟩
  have tl:∀H7 kvs',Same H H7→WOk H7 w N kvs'→tTwo K {nx:=fun σ H6=>∃(u4 u5 u6 u7 u8:Option V) (kvs:List (Key×V)),σ=wσ N st p w u4 u5 u6 u7 u8∧Same H H6∧WOk H6 w N kvs,rt:=Q} (wσ N st p w u4 (some (.str t.1)) (some (.int (t.2.1:Int))) (some (.int (t.2.2.1:Int))) (some (.int t.2.2.2))) H7:=fun H7 kvs' s7 W7=>⟨N,st,p,w,kvs',t.1,t.2.1,t.2.2.1,_,_,rfl,W7,nn,iN,jN,N24,fun H' kvs'' keep W'=>⟨_,_,_,_,_,kvs'',rfl,fun a o e=>keep a o (s7 a o e) (fun z=>by rw [z,hw] at e;cases e),W'⟩⟩
  have g0:=DGet.k (k:=Sum.inl (t.2.1:Int)) W.1
  have g1:=DGet.k (k:=Sum.inl (t.2.2.1:Int)) W.1
  refine ⟨_,rfl,_,rfl,w,_,rfl,g0,_,rfl,?_⟩
  cases e0:B0 kvs (Sum.inl (t.2.1:Int)) with
  |none=>exact Bb (tl H6 kvs s6 W)
  |some v=>
  refine Bi ⟨_,rfl,_,rfl,w,_,rfl,g1,_,rfl,?_⟩
  cases e1:B0 kvs (Sum.inl (t.2.2.1:Int)) with
  |some _=>exact Bb (tl H6 kvs s6 W)
  |none=>
  refine Bi ?_
  obtain ⟨k0,r,ws,ee,_,hr,l,ok⟩:=W.2.2 _ (val_mem e0)
  have ev:v= .ref r:=by injection ee
  subst ev
  rw [e0] at g0
  refine ⟨_,rfl,_,rfl,w,_,rfl,g0,_,rfl,small (by simp),fun q hq=> ?_⟩
  have s1:=Ae (o:= .tup [.str t.1]) hq
  have kl:=W.len
  refine cat_any (s1 _ _ hr) Ab (by rw [List.length_map];show ws.length+1≤10000;omega) fun c H2 s2 e2=> ?_
  have S2:=s1.trans s2
  have W2:=W.same S2
  have e2:H2 c=some (.tup ((ws++[t.1]).map V.str)):=by rw [e2,List.map_append];rfl
  refine ⟨_,rfl,_,rfl,w,_,rfl,DPut.k (k:=Sum.inl (t.2.2.1:Int)) W2.1 (A8 (by omega)),?_⟩
  have W3:=WOk.put (k0:=0) (v:= .non) W2 e1 jN l ok nn e2
  exact tl _ _ (same_set (s6.trans S2) hw) W3
end
end K61
namespace K61
open PySem L2 Wk
theorem fn_or {P:Program} {w:World} {K:PySem.W.Frag} {mg:Str→Option Value} {base:Heap} {CX:CXT} {k:Nat} {f:Addr} {fd:FuncData} {ps:List Str} {sp sp':Sp} (F:FnOk P w K mg base CX k f fd ps sp) (G:FnOk P w K mg base CX k f fd ps sp'):
  FnOk P w K mg base CX k f fd ps fun vs H Q E=>sp vs H Q E∨sp' vs H Q E:=
 ⟨fun vs H Q E h=>h.elim (F.len vs H Q E) (G.len vs H Q E),fun A outer s H args us vs Q E hr he hb hv h=>h.elim (F.run A outer s H args us vs Q E hr he hb hv) (G.run A outer s H args us vs Q E hr he hb hv)⟩
theorem fn_no {P:Program} {w:World} {K:PySem.W.Frag} {mg:Str→Option Value} {base:Heap} {CX:CXT} {k:Nat} {f:Addr} {fd:FuncData} {ps:List Str}:FnOk P w K mg base CX k f fd ps (spPrev 0):=⟨fun _ _ _ _ h=>h.elim,fun _ _ _ _ _ _ _ _ _ _ _ _ _ h=>h.elim⟩
def spBent:Sp:=fun vs H Q E=>spBentN 2 vs H Q E∨spBentN 4 vs H Q E
def spAsked:Sp:=fun vs H Q _=>∃(h st pr d:Addr) (v:V) (N:Nat) (ds:List Dd) (n p q:Nat) (S:List T4) (c m s:Nat),vs=[.ref h,.int (n:Int),.ref st,.ref pr,v]∧HistAt H h N ds∧Right N ds∧n≤ds.length∧StandAt H st S∧Srtd S (thr (ds.take n))∧H pr=some (.tup [.int (p:Int),.int (q:Int)])∧Tg c d H m s v∧c≤2∧m≤6∧s≤16000000∧∀H',Same H H'→Q (.bl true) H'
def spThings:Sp:=fun vs H Q _=>∃(d h st pa:Addr) (N b:Nat) (ds:List Dd) (n:Nat) (S:List T4),vs=[.ref d,.ref h,.ref st,.ref pa]∧DeckAt H d (b+800)∧HistAt H h N ds∧Right N ds∧n≤ds.length∧StandAt H st S∧Srtd S (thr (ds.take n))∧(∀x∈ds,Nmz x.nm)∧1≤N∧N≤24∧PapT d H pa∧∀(l:Addr) (zs:List V) (H':Hp),But d H H'→DeckAt H' d b→l≠d→H' l=some (.lst zs)→zs.length≤60→(∀z∈zs,Tg 2 d H' 6 6000000 z)→Q (.ref l) H'
theorem nms_of {ds:List Dd} (h:∀x∈ds,Nmz x.nm) {n:Nat} {S:List T4} (hS:Srtd S (thr (ds.take n))):NmS S:=fun t ht=>by
 rcases thr_nm (ds.take n) [] t (hS.1.mem_iff.mp ht) with g|⟨x,hx,e⟩
 ·cases g
 ·rw [←e];exact h x (List.mem_of_mem_take hx)
theorem StandAt.but {d st:Addr} {H H':Hp} {S:List T4} {k:Nat} (h:StandAt H st S) (b:But d H H') (D:DeckAt H d k):StandAt H' st S:=let ⟨rs,e,q⟩:=h;⟨rs,b.tup D e,q.1,fun i r t x y=>b.tup D (q.2 i r t x y)⟩
theorem HistAt.but {d h:Addr} {H H':Hp} {N:Nat} {ds:List Dd} {k:Nat} (x:HistAt H h N ds) (b:But d H H') (D:DeckAt H d k):HistAt H' h N ds:=let ⟨tp,rs,e,t,q⟩:=x;⟨tp,rs,b.tup D e,b.tup D t,q.mono fun r xs e=>b.tup D e⟩
section
variable {P:Program} {w:World} {K:PySem.W.Frag} {mg:Str→Option Value} {base:Heap}
theorem scLPaper:Aw ["_law_many_here","_law_stand","_law_one","_law_other","_law_ways_here"] ["_law_many_here","_law_stand","_law_one","_law_other"] (Ag sLPaper):=⟨rfl,rfl,rfl,by decide+kernel,rfl,by decide+kernel,by decide+kernel⟩
theorem ok_LPaper {f:Addr} {fd:FuncData} (F:Fun K "_law_paper" "_law_paper" sLPaper f fd) (T:Txt mg)
  {gLWays:Addr} {fLWays:FuncData} (kLWays:PySem.W.keepIn K (.ref gLWays)=true) (bLWays:Binds K fLWays ["_law_many_here","_law_stand","_law_one"] []) (hLWays:mg "_law_ways"=some (.ref gLWays)) (GLWays:FnOk P w K mg base CX0 1 gLWays fLWays ["_law_many_here","_law_stand","_law_one"] spLWays):
  FnOk P w K mg base CX0 2 f fd ["_law_many_here","_law_stand","_law_one","_law_other"] spLPaper:=by
 refine F.ok scLPaper (fun vs H Q E h=> ?_) (fun cdv A outer s H vs Q E hr h=> ?_)
 ·obtain ⟨_,_,_,_,_,rfl,_⟩:=h;rfl
 ·obtain ⟨N,st,S,p,q,rfl,hst,hin,N24,S100,pN,hnm,k⟩:=h
  refine ⟨_,Ad (Ak (i:=4) scLPaper.nd rfl (Or.inl rfl) (Ai GLWays hr rfl hLWays kLWays bLWays .nil Aq (Aa (pv 0) (Aa (pv 1) (Aa (pv 2) Ac)))))
   (Ad (Ba (pt_cmp (pc_din (hu_of hr) (pv 3) (pv 4))) (Ah (Ao (Bn (Aa Bg (Aa (pe_dget (hu_of hr) (pv 4) (pv 3) (fun _ _=>rfl)) Ac))))) Ax)
   (Ah (Ao (Bn (Aa Bg (Aa (Be call_tuple_of (by rfl) T.tuple (by decide+kernel) (Aa (Aj (Srt.call_sortedDI rfl) (by rfl) T.sorted (by decide+kernel) (Aa (pv 4) Ac)) Ac)) Ac)))))),?_⟩
  refine ⟨_,rfl,_,rfl,_,rfl,N,st,S,p,rfl,hst,hin,N24,S100,pN,hnm,fun w kvs H1 s1 W=> ?_⟩
  have g0:=DGet.k (k:=Sum.inl (q:Int)) W.1
  have kl:=W.len
  refine ⟨_,rfl,_,rfl,w,_,rfl,g0,_,rfl,?_⟩
  cases e0:B0 kvs (Sum.inl (q:Int)) with
  |some v=>
   refine Bi ?_
   obtain ⟨k0,r,ws,ee,_,hr',l,ok⟩:=W.2.2 _ (val_mem e0)
   have ev:v= .ref r:=by injection ee
   subst ev
   rw [e0] at g0
   refine ⟨_,rfl,_,rfl,w,_,rfl,g0,small (by simp),fun t ht=> ?_⟩
   have s2:=Ae (o:= .tup [.str (Str.ofString "joined"),.ref r]) ht
   exact k t _ (s1.trans s2) fun d k' D=>⟨_,_,Ab,.inl rfl,tg_strs ((D.same s1).same s2) (s2 _ _ hr') (by omega) ok⟩
  |none=>
  refine Bb ?_
  dsimp only [Bu]
  have ek:kvs.map (·.1)=(kvs.map fun kv=>match kv.1 with| .inl i=>i|_=>0).map Sum.inl:=by
   rw [List.map_map]
   refine List.map_congr_left fun kv hkv=> ?_
   obtain ⟨k0,r,ws,rfl,_⟩:=W.2.2 _ hkv
   rfl
  have nb:∀z∈kvs.map (fun kv=>match kv.1 with| .inl i=>i|_=>0),z.natAbs<1000:=fun z hz=>by
   obtain ⟨kv,hkv,rfl⟩:=List.mem_map.mp hz
   obtain ⟨k0,r,ws,rfl,hk,_⟩:=W.2.2 _ hkv
   show (k0:Int).natAbs<1000
   omega
  refine ⟨_,rfl,w,kvs,_,rfl,W.1,ek,by rw [List.length_map];omega,fun l ns hl perm _=>⟨l,_,rfl,.inl ⟨SqL.of Ab,fun c hc=>⟨small (by simp),fun t ht=> ?_⟩⟩⟩⟩
  have s2:=Ae (o:= .lst (ns.map V.int)) hl
  have s3:=Ae (o:= .tup (ns.map V.int)) hc
  have s4:=Ae (o:= .tup [.str (Str.ofString "parted"),.ref c]) ht
  exact k t _ (((s1.trans s2).trans s3).trans s4) fun d k' D=>⟨_,_,Ab,.inr rfl,tg_ints ((((D.same s1).same s2).same s3).same s4) (s4 _ _ Ab) (by rw [perm.length_eq,List.length_map];omega) fun z hz=>nb z (perm.mem_iff.mp hz)⟩
theorem scAsked:Aw ["_law_history_here","_law_n","_law_stand","_law_pair","_law_thing","_law_due","_law_kept","_law_turn","_law_found"] ["_law_history_here","_law_n","_law_stand","_law_pair","_law_thing"] (Ag sAsked):=⟨rfl,rfl,rfl,by decide+kernel,rfl,by decide+kernel,by decide+kernel⟩
theorem ok_Asked {f:Addr} {fd:FuncData} (F:Fun K "_law_asked" "_law_asked" sAsked f fd) (T:Txt mg)
  {gPaperR:Addr} {fPaperR:FuncData} (kPaperR:PySem.W.keepIn K (.ref gPaperR)=true) (bPaperR:Binds K fPaperR ["_law_many_here","_law_stand","_law_one","_law_other","_law_thing"] []) (hPaperR:mg "_law_paper_right"=some (.ref gPaperR)) (GPaperR:FnOk P w K mg base CX0 6 gPaperR fPaperR ["_law_many_here","_law_stand","_law_one","_law_other","_law_thing"] spPaperR)
  {gPaper:Addr} {fPaper:FuncData} (kPaper:PySem.W.keepIn K (.ref gPaper)=true) (bPaper:Binds K fPaper ["history","n","one","other","thing"] []) (hPaper:mg "is_paper"=some (.ref gPaper)) (GPaper:FnOk P w K mg base CX0 6 gPaper fPaper ["history","n","one","other","thing"] spPaper):
  FnOk P w K mg base CX0 7 f fd ["_law_history_here","_law_n","_law_stand","_law_pair","_law_thing"] spAsked:=by
 refine F.ok scAsked (fun vs H Q E h=> ?_) (fun cdv A outer s H vs Q E hr h=> ?_)
 ·obtain ⟨_,_,_,_,_,_,_,_,_,_,_,_,_,_,rfl,_⟩:=h;rfl
 ·obtain ⟨h,st,pr,d,v,N,ds,n,p,q,S,c,m,sz,rfl,hh,hR,hn,hst,hS,hp,tv,c2,m6,s16,k⟩:=h
  refine ⟨_,Ad (Ak (i:=5) scAsked.nd rfl (Or.inl rfl) (Ai GPaperR hr rfl hPaperR kPaperR bPaperR .nil Aq (Aa (Av A2 (pv 0) Af (fun _ _=>rfl)) (Aa (pv 2) (Aa (Av A2 (pv 3) Af (fun _ _=>rfl)) (Aa (Av A2 (pv 3) Af (fun _ _=>rfl)) (Aa (pv 4) Ac)))))))
   (Ad (Ak (i:=6) scAsked.nd rfl (Or.inl rfl) (Aj (call_reprM hr.units hr.gd) (by rfl) T.repr (by decide+kernel) (Aa (pv 4) Ac)))
   (Ad (Ca PassesOwn.never rfl (pi_range1 rfl T.range (Aa Af Ac)) (Az (i:=7) scAsked.nd rfl (Or.inl rfl)) (Ad (Ak (i:=8) scAsked.nd rfl (Or.inl rfl) (Ai GPaper hr rfl hPaper kPaper bPaper .nil Aq (Aa (pv 0) (Aa (pv 1) (Aa (Av A2 (pv 3) Af (fun _ _=>rfl)) (Aa (Av A2 (pv 3) Af (fun _ _=>rfl)) (Aa (pv 4) Ac)))))))
   (Ah (Ba (PW.pt (pw_or (pt_not (Br (Aj Bd (by rfl) T.isinstance (by decide+kernel) (Aa (pv 8) (Aa (pe_ty (T:="bool") (by rfl) T.bool (by decide+kernel)) Ac))))) (pw_or1 (Ar op_ne (pv 8) (pv 5) (As _))))) (Ah (Ao pe_bl)) Ax))))
   (Ah (Ao (Bk Cc (Aj (call_reprM hr.units hr.gd) (by rfl) T.repr (by decide+kernel) (Aa (pv 4) Ac)) (pv 6) (As _)))))),?_⟩
  obtain ⟨tp,rs,eh,et,hdd⟩:=id hh
  obtain ⟨o,ho⟩:=tv.pr c2
  obtain ⟨dd,rp,fi⟩:=(tv.on c2).rep
  have srt:=srtd_in hR hn hS
  have big:dd.shown.length≤sizeLine:=by rw [sizeLine_eq];exact Nat.le_trans fi.ln (by omega)
  have dp:dd.depth≤30:=by have:=fi.dp;omega
  refine ⟨_,rfl,h,_,0,_,rfl,rfl,SqT.of eh,Al (j:=0) rfl,_,rfl,_,rfl,pr,_,0,_,rfl,rfl,SqT.of hp,Al (j:=0) rfl,_,rfl,pr,_,1,_,rfl,rfl,SqT.of hp,Al (j:=1) rfl,_,rfl,st,v,N,p,q,S,o,rfl,hst,by have:=srt.2.2;omega,srt.2.1,ho,fun H1 s1=> ?_⟩
  refine ⟨_,rfl,v,dd,rfl,rp.mono s1,fi.sh,dp,big,?_⟩
  refine ⟨2,rfl,by decide,by decide,for_range (lo:=0) (n:=(2:Int).toNat) (fun i σ H5=>∃u7 u8:Option V,σ=[some (.ref h),some (.int (n:Int)),some (.ref st),some (.ref pr),some v,some (.bl (papO N S p q o)),some (.str dd.shown),u7,u8]∧Same H H5) ⟨_,_,rfl,s1⟩ ?_ ?_⟩
  ·rintro i σ H5 hi ⟨u7,u8,rfl,s5⟩
   have hp5:=s5 _ _ hp
   refine ⟨_,rfl,_,rfl,_,rfl,pr,_,0,_,rfl,rfl,SqT.of hp5,Al (j:=0) rfl,_,rfl,pr,_,1,_,rfl,rfl,SqT.of hp5,Al (j:=1) rfl,_,rfl,h,v,N,ds,n,p,q,S,o,rfl,hh.same s5,hR,hn,hS,ho.same s5,fun H6 s6=> ?_⟩
   refine ⟨_,rfl,.bl _,.type "bool","bool",true,rfl,.bl _,rfl,_,rfl,Bb ⟨_,rfl,_,rfl,rfl,_,rfl,?_⟩⟩
   rw [decide_eq_true rfl]
   exact Bb ⟨_,_,rfl,s5.trans s6⟩
  rintro σ H5 ⟨u7,u8,rfl,s5⟩
  refine ⟨_,rfl,v,dd,rfl,rp.mono s5,fi.sh,dp,big,_,rfl,rfl,?_⟩
  rw [decide_eq_true rfl]
  exact k H5 s5
end
end K61
namespace K61
open PySem L2 Wk
def spLaw (K:PySem.W.Frag):Sp:=fun vs H Q _=>∃(s:Addr) (ns:List Int),vs=[.ref s]∧SqL K H s (ns.map V.int)∧ns.length≤63∧∀H',Q (.bl true) H'
def ThL (d l:Addr) (H:Hp) (m:Nat):Prop:=∃zs:List V,H l=some (.lst zs)∧l≠d∧zs.length≤m∧∀z∈zs,Tg 2 d H 6 6000000 z
theorem ThL.but {d l:Addr} {H H':Hp} {m k:Nat} (h:ThL d l H m) (b:But d H H') (D:DeckAt H d k):ThL d l H' m:=let ⟨zs,e,n,c,q⟩:=h;⟨zs,b _ _ e n,n,c,fun z hz=>(q z hz).but b D⟩
theorem tg_up {c n s:Nat} {d:Addr} {H:Hp} {v:V} (h:Tg c d H n s v) (h1:c≤2) (h2:n≤6) (h3:s≤6000000):Tg 2 d H 6 6000000 v:=Tg.mono h1 h2 h3 h
theorem rints_small {m:Int} (h:m≤25):∀z∈rints 0 m.toNat,z.natAbs<1000:=fun z hz=>by
 obtain ⟨k,hk,rfl⟩:=List.mem_map.mp hz
 have:=List.mem_range.mp hk
 omega
theorem rints_len (m:Int):(rints 0 m.toNat).length=m.toNat:=by unfold rints;rw [List.length_map,List.length_range]
theorem joined_fl:Fl 0 (.str (Str.ofString "joined")):= .inr (.inr (.inr ⟨_,rfl,by decide+kernel,by decide+kernel⟩))
theorem parted_fl:Fl 0 (.str (Str.ofString "parted")):= .inr (.inr (.inr ⟨_,rfl,by decide+kernel,by decide+kernel⟩))
theorem pair_tg {d r:Addr} {H:Hp} {k:Nat} {w v:V} (D:DeckAt H d k) (e:H r=some (.tup [w,v])) (hw:Fl 0 w) (hv:Tg 0 d H 1 55000 v):Tg 0 d H 2 58000 (.ref r):=
 Tg.mono (Nat.le_refl _) (Nat.le_refl _) (by show 2100+(55000+0)+2 * 2+3≤58000;decide) (Tg.tup e (D.neT e) (by show 2≤lb 0;decide) (TsS.cons (Tg.fl hw (Nat.le_refl _)) (TsS.cons hv TsS.nil)))
def tσ (d h st pa nm:Addr) (w:Str) (l:Addr) (u7 u8:Option V):St:=[some (.ref d),some (.ref h),some (.ref st),some (.ref pa),some (.ref nm),some (.str w),some (.ref l),u7,u8,none,none]
section
variable {P:Program} {w:World} {K:PySem.W.Frag} {mg:Str→Option Value} {base:Heap}
theorem scThings:Aw ["_law_deck_here","_law_history_here","_law_stand","_law_paper_here","_law_names_here","_law_word","_law_things_here","_law_turn","_law_bent_here","_law_many_here","_law_other"] ["_law_deck_here","_law_history_here","_law_stand","_law_paper_here"] (Ag sThings):=⟨rfl,rfl,rfl,by decide+kernel,rfl,by decide+kernel,by decide+kernel⟩
theorem ok_Things {f:Addr} {fd:FuncData} (F:Fun K "_law_things" "_law_things" sThings f fd) (T:Txt mg)
  {gDraw:Addr} {fDraw:FuncData} (kDraw:PySem.W.keepIn K (.ref gDraw)=true) (bDraw:Binds K fDraw ["_law_deck_here","_law_most"] []) (hDraw:mg "_law_draw"=some (.ref gDraw)) (GDraw:FnOk P w K mg base CX0 12 gDraw fDraw ["_law_deck_here","_law_most"] spDraw)
  {gOdd:Addr} {fOdd:FuncData} (kOdd:PySem.W.keepIn K (.ref gOdd)=true) (bOdd:Binds K fOdd ["_law_deck_here","_law_names_here"] []) (hOdd:mg "_law_odd"=some (.ref gOdd)) (GOdd:FnOk P w K mg base CX0 12 gOdd fOdd ["_law_deck_here","_law_names_here"] spOdd)
  {gBent:Addr} {fBent:FuncData} (kBent:PySem.W.keepIn K (.ref gBent)=true) (bBent:Binds K fBent ["_law_deck_here","_law_thing","_law_names_here"] []) (hBent:mg "_law_bent"=some (.ref gBent)) (GBent:FnOk P w K mg base CX0 12 gBent fBent ["_law_deck_here","_law_thing","_law_names_here"] spBent)
  {gLPaper:Addr} {fLPaper:FuncData} (kLPaper:PySem.W.keepIn K (.ref gLPaper)=true) (bLPaper:Binds K fLPaper ["_law_many_here","_law_stand","_law_one","_law_other"] []) (hLPaper:mg "_law_paper"=some (.ref gLPaper)) (GLPaper:FnOk P w K mg base CX0 12 gLPaper fLPaper ["_law_many_here","_law_stand","_law_one","_law_other"] spLPaper):
  FnOk P w K mg base CX0 13 f fd ["_law_deck_here","_law_history_here","_law_stand","_law_paper_here"] spThings:=by
 refine F.ok scThings (fun vs H Q E h=> ?_) (fun cdv A outer s H vs Q E hr h=> ?_)
 ·obtain ⟨_,_,_,_,_,_,_,_,_,rfl,_⟩:=h;rfl
 ·obtain ⟨d,h,st,pa,N,b,ds,n,S,rfl,d0,hh,hR,hn,hst,hS,hnm,N1,N24,hpa,k⟩:=h
  refine ⟨_,Ad (Ak (i:=4) scThings.nd rfl (Or.inl rfl) (A3 sl_list (pe_sortsetS rfl (pe_comp (T:=["_law_deed"]) (F:=[]) (js:=[]) (CS.to (osc:=Ag sThings) ⟨by rfl,by decide+kernel,by decide+kernel,by decide+kernel,by decide+kernel,by decide+kernel,by decide+kernel⟩ rfl rfl) rfl (pi_tup (Av A2 (pv 1) Af (fun _ _=>rfl))) (fun _ _ _ _ _=>Az (i:=0) (show (["_law_deed"]:List Str).Nodup by decide+kernel) rfl (Or.inl rfl)) (fun _ _ _ _ _=>pif_nil) (fun _ _ _ _ _=>Av (r:=rIxT K) A2 (pv 0) Af (fun _ _=>rfl))) rfl T.sorted rfl T.set) Bh (A4 Af)))
   (Ad (Ak (i:=5) scThings.nd rfl (Or.inl rfl) (pe_dget (hu_of hr) (pe_disp (pps_cons Bg Bg (pps_cons Bg Bg pps_nil)) rfl rfl (by simp) (by simp)) (Av A2 (pv 3) Af (fun _ _=>rfl)) (fun _ _=>rfl)))
   (Ad (Ak (i:=6) scThings.nd rfl (Or.inl rfl) (Bm (Aa (pv 3) (Aa (Ai GOdd hr rfl hOdd kOdd bOdd .nil Aq (Aa (pv 0) (Aa (pv 4) Ac))) (Aa (Bn (Aa (Av A2 (pv 3) Af (fun _ _=>rfl)) (Aa (Bn Ac) Ac))) (Aa (Bn (Aa (pv 5) (Aa (Av A2 (pv 3) Af (fun _ _=>rfl)) Ac))) Ac))))))
   (Ad (Ca PassesOwn.never rfl (pi_range1 rfl T.range (Aa Af Ac)) (Az (i:=7) scThings.nd rfl (Or.inl rfl)) (Ad (Ak (i:=8) scThings.nd rfl (Or.inl rfl) (Ai GBent hr rfl hBent kBent bBent .nil Aq (Aa (pv 0) (Aa (pv 3) (Aa (pv 4) Ac)))))
   (Ah (Ak (i:=6) scThings.nd rfl (Or.inl rfl) (Am op_cat (pv 6) (Bm (Aa (pv 8) (Aa (Ai GBent hr rfl hBent kBent bBent .nil Aq (Aa (pv 0) (Aa (pv 8) (Aa (pv 4) Ac)))) Ac))))))))
   (Ad (Ak (i:=9) scThings.nd rfl (Or.inl rfl) (Av A2 (pv 1) Af (fun _ _=>rfl)))
   (Ad (Ak (i:=10) scThings.nd rfl (Or.inl rfl) (Ai GLPaper hr rfl hLPaper kLPaper bLPaper .nil Aq (Aa (pv 9) (Aa (pv 2) (Aa (Ai GDraw hr rfl hDraw kDraw bDraw .nil Aq (Aa (pv 0) (Aa (pv 9) Ac))) (Aa (Ai GDraw hr rfl hDraw kDraw bDraw .nil Aq (Aa (pv 0) (Aa (pv 9) Ac))) Ac))))))
   (Ah (Ao (Am op_cat (pv 6) (Bm (Aa (pv 10) (Aa (Bn (Aa Bg (Aa (Be (call_tuple_rng rfl) (by rfl) T.tuple (by decide+kernel) (Aa (Be call_range1 (by rfl) T.range (by decide+kernel) (Aa (pv 9) Ac)) Ac)) Ac))) (Aa (Bn (Aa Bg (Aa (Be (call_tuple_rng rfl) (by rfl) T.tuple (by decide+kernel) (Aa (Be call_range1 (by rfl) T.range (by decide+kernel) (Aa (Ai GDraw hr rfl hDraw kDraw bDraw .nil Aq (Aa (pv 0) (Aa (Am Bc (pv 9) Af) Ac))) Ac)) Ac)) Ac))) Ac)))))))))))),?_⟩
  have srt:=srtd_in hR hn hS
  have nms:=nms_of hnm hS
  obtain ⟨tp,rs,eh,et,hdd⟩:=id hh
  refine ⟨_,rfl,h,_,1,_,rfl,rfl,SqT.of eh,Al (j:=1) rfl,tp,rfl,⟨_,SqT.of et⟩,fun D hD=>comp_tup (K:=K) (a:=tp) (xs:=rs.map V.ref) (fun j σ ys H6=>∃(u:Option V),σ=[u]∧ys=((ds.take j).map Dd.nm).map V.str∧Same H H6∧H6 D=some (.lst ys)) ⟨none,rfl,rfl,Ae hD,Ab⟩ (fun j σ ys H6 _ ⟨_,_,_,s,e⟩=>⟨SqT.of (s _ _ et),e⟩) ?_ ?_⟩
  ·rintro j x σ ys H6 hx ⟨u,rfl,rfl,s6,e6⟩
   obtain ⟨r,hr',rfl⟩:=Bs hx
   obtain ⟨y,hy,er⟩:=hdd.get hr'
   have at2:∃z,atI y.vs (2:Int)=some z∧z= .str y.nm:=by cases y<;> exact ⟨_,Al (j:=2) rfl,rfl⟩
   obtain ⟨z,az,rfl⟩:=at2
   have hj:j<ds.length:=(List.getElem?_eq_some_iff.mp hy).1
   have:=hR.len
   refine ⟨_,rfl,r,_,2,_,rfl,rfl,SqT.of (s6 _ _ er),az,e6,A8 (by rw [List.length_map,List.length_map,List.length_take];omega),_,rfl,?_,same_set s6 hD,Ab⟩
   rw [take_snoc hy,List.map_append,List.map_append];rfl
  rintro σ ys H1 ⟨u,rfl,rfl,s1,e1⟩
  rw [List.length_map,hdd.1,List.take_length] at e1
  refine ⟨D,ds.map Dd.nm,rfl,.inl (SqL.of e1),by rw [List.length_map];have:=hR.len;omega,fun l0 ms hl0 _ _ mem=> ?_⟩
  have s2:=Ae (o:= .lst (ms.map V.str)) hl0
  have e2:=Ab (H:=H1) (a:=l0) (o:= .lst (ms.map V.str))
  have S2:=s1.trans s2
  generalize upd H1 l0 (.lst (ms.map V.str))=H2 at e2 S2 ⊢
  refine ⟨_,rfl,l0,_,rfl,SqL.of e2,fun nm hnmN=> ?_⟩
  obtain ⟨zs,ezs,zl,zok⟩:∃zs:List Str,Bx (ms.map V.str) none (some (6:Int))=zs.map V.str∧zs.length≤6∧∀z∈zs,Nmz z:=by
   obtain ⟨zs,c⟩:∃zs:List Str,Bx (ms.map V.str) none (some (6:Int))=zs.map V.str:=⟨_,by unfold Bx;rw [←List.map_drop,←List.map_take]⟩
   refine ⟨zs,c,?_,fun z hz=> ?_⟩
   ·have:(Bx (ms.map V.str) none (some (6:Int))).length=zs.length:=by rw [c,List.length_map]
    rw [←this]
    unfold Bx
    rw [List.length_take]
    have e6:HT.sIx (ms.map V.str).length (ms.map V.str).length (some (6:Int))≤6:=by
     unfold HT.sIx
     simp
     omega
    omega
   ·have hz:V.str z∈Bx (ms.map V.str) none (some (6:Int)):=by rw [c];exact List.mem_map_of_mem hz
    have hz:=List.mem_of_mem_drop (List.mem_of_mem_take hz)
    obtain ⟨y,hy,e⟩:=List.mem_map.mp hz
    have ey:y=z:=by injection e
    obtain ⟨x,hx,e⟩:=List.mem_map.mp ((mem y).mp hy)
    rw [←ey,←e];exact hnm x hx
  rw [ezs]
  have s3:=Ae (o:= .lst (zs.map V.str)) hnmN
  have e3:=Ab (H:=H2) (a:=nm) (o:= .lst (zs.map V.str))
  have S3:=S2.trans s3
  have d3:=d0.same S3
  have nn:nm≠d:=(d0.same S2).ne hnmN
  have N3:NmAt (upd H2 nm (.lst (zs.map V.str))) d nm zs:=⟨e3,nn,by omega,fun z hz=>zok z hz⟩
  generalize upd H2 nm (.lst (zs.map V.str))=H3 at S3 d3 N3 ⊢
  refine fun wd hwd=> ?_
  have s4:=Ae (o:= .dK []) hwd
  refine ⟨Ab,[(.inr (Str.ofString "joined"),.str (Str.ofString "parted")),(.inr (Str.ofString "parted"),.str (Str.ofString "joined"))],rfl,by simp,?_⟩
  rw [upd_upd]
  obtain ⟨w,pv_,ew,qw,tv⟩:=id hpa
  obtain ⟨w2,vw,fw⟩:∃w2:Str,B0 (mergeK [] [((Sum.inr (Str.ofString "joined"):Key),V.str (Str.ofString "parted")),(.inr (Str.ofString "parted"),.str (Str.ofString "joined"))]) (.inr w)=some (.str w2)∧Fl 0 (.str w2):=by
   rcases qw with rfl|rfl
   ·exact ⟨_,by decide+kernel,parted_fl⟩
   ·exact ⟨_,by decide+kernel,joined_fl⟩
  have fw0:Fl 0 (.str w):=by
   rcases qw with rfl|rfl
   ·exact joined_fl
   ·exact parted_fl
  generalize mergeK [] [((Sum.inr (Str.ofString "joined"):Key),V.str (Str.ofString "parted")),(.inr (Str.ofString "parted"),.str (Str.ofString "joined"))]=kvs at vw ⊢
  have s4:=Ae (o:= .dK kvs) hwd
  have e4:=Ab (H:=H3) (a:=wd) (o:= .dK kvs)
  have S4:=S3.trans s4
  have d4:=d3.same s4
  have N4:=N3.but (But.of s4)
  generalize upd H3 wd (.dK kvs)=H4 at e4 S4 d4 N4 ⊢
  have g4:=DGet.k (k:=Sum.inr w) e4
  rw [vw] at g4
  refine ⟨_,rfl,pa,_,0,_,rfl,rfl,SqT.of (S4 _ _ ew),Al (j:=0) rfl,wd,_,rfl,g4,?_⟩
  refine ⟨_,rfl,_,rfl,_,rfl,d,nm,zs,b+799,rfl,d4,N4,fun o H5 b5 d5 t5=> ?_⟩
  have B5:=(But.of S4).trans b5
  have p5:=hpa.but B5 d0
  have ew5:=B5 _ _ ew (d0.neT ew)
  have tv5:=tv.but B5 d0
  refine ⟨_,rfl,pa,_,0,_,rfl,rfl,SqT.of ew5,Al (j:=0) rfl,small (by simp),fun e6 he6=>⟨small (by simp),fun t3 ht3=> ?_⟩⟩
  have s6:=Ae (o:= .tup []) he6
  have d6:=d5.same s6
  have x6:Tg 0 d (upd H5 e6 (.tup [])) 1 55000 (.ref e6):=Tg.mono (Nat.le_refl _) (Nat.le_refl _) (by decide:3≤55000) (Tg.tup (n:=0) (S:=0) Ab (d5.ne he6) (by decide) TsS.nil)
  generalize upd H5 e6 (.tup [])=H6 at s6 d6 x6 ht3 ⊢
  have s7:=Ae (o:= .tup [.str w,.ref e6]) ht3
  have d7:=d6.same s7
  have x7:Tg 0 d (upd H6 t3 (.tup [.str w,.ref e6])) 2 58000 (.ref t3):=pair_tg d7 Ab fw0 (x6.but (But.of s7) d6)
  generalize upd H6 t3 (.tup [.str w,.ref e6])=H7 at s7 d7 x7 ⊢
  have S7:=s6.trans s7
  refine ⟨_,rfl,_,rfl,pa,_,1,_,rfl,rfl,SqT.of (S7 _ _ ew5),Al (j:=1) rfl,small (by simp),fun t4 ht4=>⟨small (by simp),fun l hl=> ?_⟩⟩
  have s8:=Ae (o:= .tup [.str w2,pv_]) ht4
  have d8:=d7.same s8
  have x8:Tg 0 d (upd H7 t4 (.tup [.str w2,pv_])) 2 58000 (.ref t4):=pair_tg d8 Ab fw (tv5.but (But.of (S7.trans s8)) d5)
  have x7:=x7.but (But.of s8) d7
  have S8:=S7.trans s8
  generalize upd H7 t4 (.tup [.str w2,pv_])=H8 at d8 x7 x8 S8 hl ⊢
  have s9:=Ae (o:= .lst [.ref pa,o,.ref t3,.ref t4]) hl
  have d9:=d8.same s9
  have S9:=S8.trans s9
  have L9:ThL d l (upd H8 l (.lst [.ref pa,o,.ref t3,.ref t4])) 4:=⟨_,Ab,d8.ne hl,Nat.le_refl _,fun z hz=>by
   simp only [List.mem_cons,List.not_mem_nil,or_false] at hz
   rcases hz with rfl|rfl|rfl|rfl
   ·exact tg_up ((p5.but (But.of S9) d5).tg d9) (by decide) (by decide) (by decide)
   ·exact tg_up (t5.but (But.of S9) d5) (by decide) (by decide) (by decide)
   ·exact tg_up (x7.but (But.of s9) d8) (by decide) (by decide) (by decide)
   ·exact tg_up (x8.but (But.of s9) d8) (by decide) (by decide) (by decide)⟩
  have B9:=B5.trans (But.of S9)
  have N9:=(N4.but b5).but (But.of S9)
  generalize upd H8 l (.lst [.ref pa,o,.ref t3,.ref t4])=H9 at d9 L9 B9 N9 ⊢
  refine ⟨10,rfl,by decide,by decide,for_range (lo:=0) (n:=(10:Int).toNat) (fun i σ HA=>∃(l:Addr) (u7 u8:Option V),σ=tσ d h st pa nm w2 l u7 u8∧But d H HA∧DeckAt HA d (b+300+40 * (10 - i))∧NmAt HA d nm zs∧ThL d l HA (4+2 * i)) ⟨l,_,_,rfl,B9,d9.mono (by omega),N9,L9⟩ ?_ ?_⟩
  ·rintro i σ HA hi ⟨l,u7,u8,rfl,bA,dA,NA,LA⟩
   have hi:i<10:=hi
   refine ⟨_,rfl,_,rfl,_,rfl,.inl ⟨d,nm,.ref pa,zs,b+300+40 * (10 - (i+1))+24,0,58000,rfl,dA.mono (by omega),by decide,(hpa.but bA d0).tg dA,NA,fun v1 HB bB dB tB=> ?_⟩⟩
   have NB:=NA.but bB
   refine ⟨_,rfl,_,rfl,_,rfl,_,rfl,_,rfl,.inr ⟨d,nm,v1,zs,b+300+40 * (10 - (i+1)),1,_,rfl,dB.mono (by omega),Nat.le_refl _,tB,NB,fun v2 HC bC dC tC=>⟨small (by simp),fun l2 hl2=> ?_⟩⟩⟩
   obtain ⟨xs,lx,nl,xl,xo⟩:=LA
   have BC:=bB.trans bC
   have s10:=Ae (o:= .lst [v1,v2]) hl2
   refine ⟨l,l2,_,_,rfl,rfl,s10 _ _ (BC _ _ lx nl),Ab,small (by show xs.length+2≤10000;omega),fun l3 hl3=> ?_⟩
   have s11:=Ae (o:= .lst (xs++[v1,v2])) hl3
   have SD:=s10.trans s11
   have dD:=dC.same SD
   refine ⟨l3,_,_,rfl,(bA.trans BC).trans (But.of SD),dD,(NB.but bC).but (But.of SD),_,Ab,(dC.same s10).ne hl3,by rw [List.length_append];show xs.length+2≤_;omega,fun z hz=> ?_⟩
   rcases List.mem_append.mp hz with hz|hz
   ·exact ((xo z hz).but BC dA).but (But.of SD) dC
   ·simp only [List.mem_cons,List.not_mem_nil,or_false] at hz
    rcases hz with rfl|rfl
    ·exact tg_up (tB.but (bC.trans (But.of SD)) dB) (by decide) (by decide) (by decide)
    ·exact tg_up (tC.but (But.of SD) dC) (by decide) (by decide) (by decide)
  rintro σ HA ⟨l,u7,u8,rfl,bA,dA,NA,LA⟩
  have LA:ThL d l HA 24:=LA
  have hhA:=HistAt.but hh bA d0
  have stA:=hst.but bA d0
  obtain ⟨tpA,rsA,ehA,_,_⟩:=id hhA
  refine ⟨_,rfl,h,_,0,_,rfl,rfl,SqT.of ehA,Al (j:=0) rfl,?_⟩
  refine ⟨_,rfl,_,rfl,_,rfl,_,rfl,d,N,b+200,rfl,dA.mono (by omega),by omega,by omega,fun p HB p0 p1 bB dB=> ?_⟩
  obtain ⟨p,rfl⟩:=nat_of p0
  refine ⟨_,rfl,_,rfl,d,N,b+199,rfl,dB,by omega,by omega,fun q HC q0 q1 bC dC=> ?_⟩
  obtain ⟨q,rfl⟩:=nat_of q0
  have BC:=bB.trans bC
  refine ⟨N,st,S,p,q,rfl,stA.but BC dA,srt.1,N24,by have:=srt.2.2;omega,by omega,nms,fun pr HD sD pD=> ?_⟩
  have dD:=dC.same sD
  have tp1:=(pD d _ dC).tg dD
  have LD:=LA.but (BC.trans (But.of sD)) dA
  obtain ⟨xs,lx,nl,xl,xo⟩:=LD
  refine ⟨_,rfl,_,rfl,_,rfl,_,rfl,fun g1 hg1=>⟨g1,_,rfl,Ab,by omega,by omega,fun t1 HE sE eE=>⟨small (by simp),fun r1 hr1=> ?_⟩⟩⟩
  have SE:=(Ae (o:= .rng 0 (N:Int)) hg1).trans sE
  have dE:=dD.same SE
  have y1:Tg 0 d HE 1 55000 (.ref t1):=tg_ints dE eE (by rw [rints_len];omega) (rints_small (by omega))
  have s12:=Ae (o:= .tup [.str (Str.ofString "parted"),.ref t1]) hr1
  have dF:=dE.same s12
  have z1:=pair_tg dF (Ab (H:=HE) (a:=r1) (o:= .tup [.str (Str.ofString "parted"),.ref t1])) parted_fl (y1.but (But.of s12) dE)
  have SF:=SE.trans s12
  generalize upd HE r1 (.tup [.str (Str.ofString "parted"),.ref t1])=HF at dF z1 SF ⊢
  refine ⟨_,rfl,_,rfl,_,_,rfl,rfl,d,_,b,rfl,dF.mono (by omega),by omega,by omega,fun m HG m0 m1 bG dG=>⟨m,rfl,fun g2 hg2=>⟨g2,m,rfl,Ab,m0,by omega,fun t2 HH sH eH=>⟨small (by simp),fun r2 hr2=>⟨small (by simp),fun l2 hl2=> ?_⟩⟩⟩⟩⟩
  have SH:=(Ae (o:= .rng 0 m) hg2).trans sH
  have dH:=dG.same SH
  have y2:Tg 0 d HH 1 55000 (.ref t2):=tg_ints dH eH (by rw [rints_len];omega) (rints_small (by omega))
  have s13:=Ae (o:= .tup [.str (Str.ofString "parted"),.ref t2]) hr2
  have dI:=dH.same s13
  have z2:=pair_tg dI (Ab (H:=HH) (a:=r2) (o:= .tup [.str (Str.ofString "parted"),.ref t2])) parted_fl (y2.but (But.of s13) dH)
  have SI:=SH.trans s13
  generalize upd HH r2 (.tup [.str (Str.ofString "parted"),.ref t2])=HI_ at dI z2 SI hl2 ⊢
  have z1:=z1.but (bG.trans (But.of SI)) dF
  have tp1:=tp1.but (((But.of SF).trans bG).trans (But.of SI)) dD
  have xo1:∀z∈xs,Tg 2 d HI_ 6 6000000 z:=fun z hz=>(xo z hz).but (((But.of SF).trans bG).trans (But.of SI)) dD
  have lx1:=(((But.of SF).trans bG).trans (But.of SI)) _ _ lx nl
  have BI:=((((bA.trans BC).trans (But.of sD)).trans (But.of SF)).trans bG).trans (But.of SI)
  have s14:=Ae (o:= .lst [.ref pr,.ref r1,.ref r2]) hl2
  refine ⟨l,l2,_,_,rfl,rfl,s14 _ _ lx1,Ab,small (by show xs.length+3≤10000;omega),fun l3 hl3=> ?_⟩
  have s15:=Ae (o:= .lst (xs++[.ref pr,.ref r1,.ref r2])) hl3
  have SJ:=s14.trans s15
  have dJ:=dI.same SJ
  refine k l3 _ _ (BI.trans (But.of SJ)) (dJ.mono (by omega)) ((dI.same s14).ne hl3) Ab (by rw [List.length_append];show xs.length+3≤60;omega) fun z hz=> ?_
  rcases List.mem_append.mp hz with hz|hz
  ·exact (xo1 z hz).but (But.of SJ) dI
  ·simp only [List.mem_cons,List.not_mem_nil,or_false] at hz
   rcases hz with rfl|rfl|rfl
   ·exact tg_up (tp1.but (But.of SJ) dI) (by decide) (by decide) (by decide)
   ·exact tg_up (z1.but (But.of SJ) dI) (by decide) (by decide) (by decide)
   ·exact tg_up (z2.but (But.of SJ) dI) (by decide) (by decide) (by decide)
end
end K61
namespace K61
open PySem L2 Wk
section
variable {P:Program} {w:World} {K:PySem.W.Frag} {mg:Str→Option Value} {base:Heap}
theorem scLaw:Aw ["_law_script","_law_k","_law_deck_here","_law_history_here","_law_many_here","_law_deeds","_law_kept","_law_n","_law_stand","_law_pair","_law_paper_here","_law_thing"] ["_law_script"] (Ag sLaw):=⟨rfl,rfl,rfl,by decide+kernel,rfl,by decide+kernel,by decide+kernel⟩
theorem ok_Law {f:Addr} {fd:FuncData} (F:Fun K "law" "law" sLaw f fd) (T:Txt mg)
  {gDraw:Addr} {fDraw:FuncData} (kDraw:PySem.W.keepIn K (.ref gDraw)=true) (bDraw:Binds K fDraw ["_law_deck_here","_law_most"] []) (hDraw:mg "_law_draw"=some (.ref gDraw)) (GDraw:FnOk P w K mg base CX0 13 gDraw fDraw ["_law_deck_here","_law_most"] spDraw)
  {gDeck:Addr} {fDeck:FuncData} (kDeck:PySem.W.keepIn K (.ref gDeck)=true) (bDeck:Binds K fDeck ["_law_script","_law_k"] []) (hDeck:mg "_law_deck"=some (.ref gDeck)) (GDeck:FnOk P w K mg base CX0 13 gDeck fDeck ["_law_script","_law_k"] (spDeck K))
  {gHistory:Addr} {fHistory:FuncData} (kHistory:PySem.W.keepIn K (.ref gHistory)=true) (bHistory:Binds K fHistory ["_law_deck_here","_law_most"] []) (hHistory:mg "_law_history"=some (.ref gHistory)) (GHistory:FnOk P w K mg base CX0 13 gHistory fHistory ["_law_deck_here","_law_most"] spHistory)
  {gLStand:Addr} {fLStand:FuncData} (kLStand:PySem.W.keepIn K (.ref gLStand)=true) (bLStand:Binds K fLStand ["_law_history_here","_law_n"] []) (hLStand:mg "_law_stand_behind"=some (.ref gLStand)) (GLStand:FnOk P w K mg base CX0 13 gLStand fLStand ["_law_history_here","_law_n"] spLStand)
  {gLPaper:Addr} {fLPaper:FuncData} (kLPaper:PySem.W.keepIn K (.ref gLPaper)=true) (bLPaper:Binds K fLPaper ["_law_many_here","_law_stand","_law_one","_law_other"] []) (hLPaper:mg "_law_paper"=some (.ref gLPaper)) (GLPaper:FnOk P w K mg base CX0 13 gLPaper fLPaper ["_law_many_here","_law_stand","_law_one","_law_other"] spLPaper)
  {gThings:Addr} {fThings:FuncData} (kThings:PySem.W.keepIn K (.ref gThings)=true) (bThings:Binds K fThings ["_law_deck_here","_law_history_here","_law_stand","_law_paper_here"] []) (hThings:mg "_law_things"=some (.ref gThings)) (GThings:FnOk P w K mg base CX0 13 gThings fThings ["_law_deck_here","_law_history_here","_law_stand","_law_paper_here"] spThings)
  {gAsked:Addr} {fAsked:FuncData} (kAsked:PySem.W.keepIn K (.ref gAsked)=true) (bAsked:Binds K fAsked ["_law_history_here","_law_n","_law_stand","_law_pair","_law_thing"] []) (hAsked:mg "_law_asked"=some (.ref gAsked)) (GAsked:FnOk P w K mg base CX0 13 gAsked fAsked ["_law_history_here","_law_n","_law_stand","_law_pair","_law_thing"] spAsked):
  FnOk P w K mg base CX0 14 f fd ["_law_script"] (spLaw K):=by
 refine F.ok scLaw (fun vs H Q E h=> ?_) (fun cdv A outer s H vs Q E hr h=> ?_)
 ·obtain ⟨_,_,rfl,_⟩:=h;rfl
 ·obtain ⟨s,ns,rfl,hS,hl,k⟩:=h
  refine ⟨_,Ad (Ca PassesOwn.never rfl (pi_range1 rfl T.range (Aa (Aj (call_max2 rfl) (by rfl) T.max (by decide+kernel) (Aa Af (Aa (Aj (call_min2 rfl) (by rfl) T.min (by decide+kernel) (Aa Af (Aa (Aj A1 (by rfl) T.len PySem.boot_len (Aa (pv 0) Ac)) Ac))) Ac))) Ac)) (Az (i:=1) scLaw.nd rfl (Or.inl rfl)) (Ad (Ak (i:=2) scLaw.nd rfl (Or.inl rfl) (Ai GDeck hr rfl hDeck kDeck bDeck .nil Aq (Aa (pv 0) (Aa (pv 1) Ac))))
   (Ad (Ak (i:=3) scLaw.nd rfl (Or.inl rfl) (Ai GHistory hr rfl hHistory kHistory bHistory .nil Aq (Aa (pv 2) (Aa Af Ac))))
   (Ad (ps_asg (pv 3) (pg_tup rfl (Bp (Az (i:=4) scLaw.nd rfl (Or.inl rfl)) (Bp (Az (i:=5) scLaw.nd rfl (Or.inl rfl)) pgs_nil))))
   (Ad (Ak (i:=6) scLaw.nd rfl (Or.inl rfl) (Bn (Aa Bg (Aa (Bn Ac) Ac))))
   (Ah (Ca PassesOwn.never rfl (pi_list (Bm (Aa (Aj A1 (by rfl) T.len PySem.boot_len (Aa (pv 5) Ac)) (Aa (Ai GDraw hr rfl hDraw kDraw bDraw .nil Aq (Aa (pv 2) (Aa (Am Bc (Aj A1 (by rfl) T.len PySem.boot_len (Aa (pv 5) Ac)) Af) Ac))) Ac)))) (Az (i:=7) scLaw.nd rfl (Or.inl rfl)) (Ad (Ak (i:=8) scLaw.nd rfl (Or.inl rfl) (Ai GLStand hr rfl hLStand kLStand bLStand .nil Aq (Aa (pv 3) (Aa (pv 7) Ac))))
   (Ad (Ak (i:=9) scLaw.nd rfl (Or.inl rfl) (Bn (Aa (Ai GDraw hr rfl hDraw kDraw bDraw .nil Aq (Aa (pv 2) (Aa (pv 4) Ac))) (Aa (Ai GDraw hr rfl hDraw kDraw bDraw .nil Aq (Aa (pv 2) (Aa (pv 4) Ac))) Ac))))
   (Ad (Ak (i:=10) scLaw.nd rfl (Or.inl rfl) (Ai GLPaper hr rfl hLPaper kLPaper bLPaper .nil Aq (Aa (pv 4) (Aa (pv 8) (Aa (Av A2 (pv 9) Af (fun _ _=>rfl)) (Aa (Av A2 (pv 9) Af (fun _ _=>rfl)) Ac))))))
   (Ad (Ca PassesOwn.never rfl (pi_list (Am op_cat (Ai GThings hr rfl hThings kThings bThings .nil Aq (Aa (pv 2) (Aa (pv 3) (Aa (pv 8) (Aa (pv 10) Ac))))) (Bm (Aa (pv 6) Ac)))) (Az (i:=11) scLaw.nd rfl (Or.inl rfl)) (Ah (Ba (pt_not (Br (Ai GAsked hr rfl hAsked kAsked bAsked .nil Aq (Aa (pv 3) (Aa (pv 7) (Aa (pv 8) (Aa (pv 9) (Aa (pv 11) Ac)))))))) (Ah (Ao pe_bl)) Ax)))
   (Ah (Ak (i:=6) scLaw.nd rfl (Or.inl rfl) (pv 10))))))))))))))
   (Ah (Ao pe_bl)),?_⟩
  refine ⟨_,rfl,s,_,rfl,.inl hS,_,_,rfl,_,_,rfl,_,rfl,by split<;> split<;> omega,by split<;> split<;> omega,for_range (lo:=0) (fun i σ H5=>∃(u1 u2 u3 u4 u5 u6 u7 u8 u9 u10 u11:Option V),σ=[some (.ref s),u1,u2,u3,u4,u5,u6,u7,u8,u9,u10,u11]∧Same H H5) ⟨_,_,_,_,_,_,_,_,_,_,_,rfl,Ay _⟩ ?_ ?_⟩
  rotate_left
  ·rintro σ H5 ⟨u1,u2,u3,u4,u5,u6,u7,u8,u9,u10,u11,rfl,s5⟩
   exact k H5
  rintro i σ H5 hi ⟨u1,u2,u3,u4,u5,u6,u7,u8,u9,u10,u11,rfl,s5⟩
  have hi:i<100:=by
   have:(if (if ((ns.map V.int).length:Int)<3 then ((ns.map V.int).length:Int) else 3) > 1 then (if ((ns.map V.int).length:Int)<3 then ((ns.map V.int).length:Int) else 3) else 1)≤3:=by split<;> split<;> omega
   omega
  refine ⟨_,rfl,_,rfl,s,ns,i,by rw [Int.zero_add];rfl,sqL_same hS s5,hl,hi,fun d H6 s6 dn D6=> ?_⟩
  refine ⟨_,rfl,d,60,99200,rfl,by omega,D6,fun h N ds H7 b7 D7 hh rr nmz N1 N24=> ?_⟩
  have S7:∀x o,H5 x=some o→H7 x=some o:=fun x o e=>b7 _ _ (s6 _ _ e) (A0 e dn)
  have d5:∀x o,H5 x=some o→x≠d:=fun x o e=>A0 e dn
  clear b7 D6 s6
  obtain ⟨tp,rs,eh,et,hdd⟩:=id hh
  have n60:=rr.len
  have lrs:=hdd.1
  have ltp:(rs.map V.ref).length=ds.length:=by rw [List.length_map];exact lrs
  refine ⟨_,rfl,h,_,rfl,SqT.of eh,rfl,_,_,rfl,_,_,rfl,rfl,?_⟩
  refine ⟨small (by simp),fun e0 he0=>⟨small (by simp),fun kp0 hkp0=> ?_⟩⟩
  have s8:=Ae (o:= .tup []) he0
  have D8:=D7.same s8
  have x8:Tg 0 d (upd H7 e0 (.tup [])) 1 55000 (.ref e0):=Tg.mono (Nat.le_refl _) (Nat.le_refl _) (by decide:3≤55000) (Tg.tup (n:=0) (S:=0) Ab (D7.ne he0) (by decide) TsS.nil)
  generalize upd H7 e0 (.tup [])=H8 at s8 D8 x8 hkp0 ⊢
  have s9:=Ae (o:= .tup [.str (Str.ofString "joined"),.ref e0]) hkp0
  have D9:=D8.same s9
  have x9:Tg 0 d (upd H8 kp0 (.tup [.str (Str.ofString "joined"),.ref e0])) 2 58000 (.ref kp0):=pair_tg D9 Ab joined_fl (x8.but (But.of s9) D8)
  have S9:=s8.trans s9
  generalize upd H8 kp0 (.tup [.str (Str.ofString "joined"),.ref e0])=H9 at D9 x9 S9 ⊢
  have et9:=S9 _ _ et
  refine ⟨_,rfl,tp,_,rfl,.inr (SqT.of et9),_,rfl,_,rfl,tp,_,rfl,.inr (SqT.of et9),_,_,rfl,rfl,d,_,99000,rfl,D9.mono (by omega),by omega,by omega,fun x HA x0 x1 bA DA=>⟨small (by simp),fun L hL=> ?_⟩⟩
  obtain ⟨x,rfl⟩:=nat_of x0
  rw [ltp] at x1
  have sL:=Ae (o:= .lst [.int ((rs.map V.ref).length:Int),.int (x:Int)]) hL
  have L0:=Ab (H:=HA) (a:=L) (o:= .lst [.int ((rs.map V.ref).length:Int),.int (x:Int)])
  have nL:=DA.ne hL
  have DL:=DA.same sL
  have B7L:But d H7 _:=((But.of S9).trans bA).trans (But.of sL)
  have xL:=x9.but (bA.trans (But.of sL)) D9
  generalize upd HA L (.lst [.int ((rs.map V.ref).length:Int),.int (x:Int)])=HL at L0 DL B7L xL ⊢
  have fin:∀(u6 u7 u8 u9 u10 u11:Option V) (HZ:Hp),But d H7 HZ→∃(v1 v2 v3 v4 v5 v6 v7 v8 v9 v10 v11:Option V),[some (.ref s),some (.int (0+(i:Int))),some (.ref d),some (.ref h),some (.int (N:Int)),some (.ref tp),u6,u7,u8,u9,u10,u11]=[some (.ref s),v1,v2,v3,v4,v5,v6,v7,v8,v9,v10,v11]∧Same H HZ:=fun u6 u7 u8 u9 u10 u11 HZ b=>⟨_,_,_,_,_,_,_,_,_,_,_,rfl,fun a o e=>b a o (S7 a o (s5 a o e)) (d5 a o (s5 a o e))⟩
  refine ⟨L,rfl,⟨_,SqL.of L0⟩,for_list (K:=K) (a:=L) (xs:=[.int ((rs.map V.ref).length:Int),.int (x:Int)]) (fun m σ HX=>∃(kp:Addr) (u7 u8 u9 u10 u11:Option V),σ=[some (.ref s),some (.int (0+(i:Int))),some (.ref d),some (.ref h),some (.int (N:Int)),some (.ref tp),some (.ref kp),u7,u8,u9,u10,u11]∧But d HL HX∧DeckAt HX d (98000 - 2000 * m)∧Tg 0 d HX 2 58000 (.ref kp)) ⟨kp0,_,_,_,_,_,rfl,But.refl,DL.mono (by omega),xL⟩ (fun m σ HX _ ⟨_,_,_,_,_,_,_,b,_⟩=>SqL.of (b _ _ L0 nL)) ?_ ?_⟩
  rotate_left
  ·rintro σ HX ⟨kp,u7,u8,u9,u10,u11,rfl,bX,DX,tX⟩
   exact fin _ _ _ _ _ _ HX (B7L.trans bX)
  rintro m vn σ HX hm ⟨kp,u7,u8,u9,u10,u11,rfl,bX,DX,tX⟩
  have m2:m<2:=(List.getElem?_eq_some_iff.mp hm).1
  obtain ⟨n,rfl,hn⟩:∃n:Nat,vn= .int (n:Int)∧n≤ds.length:=by
   rcases (show m=0∨m=1 by omega) with rfl|rfl
   ·cases hm;exact ⟨_,rfl,by omega⟩
   ·cases hm;exact ⟨x,rfl,by omega⟩
  have B7X:=B7L.trans bX
  have hhX:=HistAt.but hh B7X D7
  refine ⟨_,rfl,_,rfl,h,N,ds,n,rfl,hhX,rr,hn,fun st S HB sB hst hs=> ?_⟩
  obtain ⟨SN,nd,Sl⟩:=srtd_in rr hn hs
  have DB:=DX.same sB
  refine ⟨_,rfl,_,rfl,d,N,97999 - 2000 * m,rfl,DB.mono (by omega),by omega,by omega,fun p HC p0 p1 bC DC=>⟨_,rfl,_,rfl,d,N,97998 - 2000 * m,rfl,DC.mono (by omega),by omega,by omega,fun q HD q0 q1 bD DD=>⟨small (by simp),fun pr hpr=> ?_⟩⟩⟩
  obtain ⟨p,rfl⟩:=nat_of p0
  obtain ⟨q,rfl⟩:=nat_of q0
  have sE:=Ae (o:= .tup [.int (p:Int),.int (q:Int)]) hpr
  have pr0:=Ab (H:=HD) (a:=pr) (o:= .tup [.int (p:Int),.int (q:Int)])
  have DE:=DD.same sE
  have bE:=(bC.trans bD).trans (But.of sE)
  generalize upd HD pr (.tup [.int (p:Int),.int (q:Int)])=HE at pr0 DE bE ⊢
  have hstE:=hst.but bE DB
  refine ⟨_,rfl,_,rfl,_,rfl,pr,_,0,_,rfl,rfl,SqT.of pr0,Al (j:=0) rfl,_,rfl,pr,_,1,_,rfl,rfl,SqT.of pr0,Al (j:=1) rfl,N,st,S,p,q,rfl,hstE,SN,N24,by omega,by omega,nms_of nmz hs,fun pa HF sF pF=> ?_⟩
  have DF:=DE.same sF
  have B7F:=(B7X.trans (But.of sB)).trans (bE.trans (But.of sF))
  have hhF:=HistAt.but hh B7F D7
  have hstF:=hstE.same sF
  have papF:=pF d _ DE
  refine ⟨_,rfl,_,rfl,_,rfl,_,rfl,d,h,st,pa,N,97000 - 2000 * m,ds,n,S,rfl,DF.mono (by omega),hhF,rr,hn,hstF,hs,nmz,N1,N24,papF,fun l zs HG bG DG nl hl z60 zok=>⟨_,rfl,small (by simp),fun k1 hk1=> ?_⟩⟩
  have sG:=Ae (o:= .lst [.ref kp]) hk1
  refine ⟨l,k1,_,_,rfl,rfl,sG _ _ hl,Ab,small (by show zs.length+1≤10000;omega),fun l2 hl2=> ?_⟩
  have DG2:=DG.same sG
  have l2n:=DG2.ne hl2
  have sH:=Ae (o:= .lst (zs++[.ref kp])) hl2
  have l20:=Ab (H:=upd HG k1 (.lst [.ref kp])) (a:=l2) (o:= .lst (zs++[.ref kp]))
  have SG:=sG.trans sH
  generalize upd (upd HG k1 (.lst [.ref kp])) l2 (.lst (zs++[.ref kp]))=HH at SG l20 ⊢
  have DH:=DG.same SG
  have bFH:=bG.trans (But.of SG)
  have okH:∀z∈zs++[V.ref kp],Tg 2 d HH 6 6000000 z:=fun z hz=>by
   rcases List.mem_append.mp hz with hz|hz
   ·exact (zok z hz).but (But.of SG) DG
   ·rw [List.mem_singleton.mp hz]
    exact tg_up (tX.but ((((But.of sB).trans bE).trans (But.of sF)).trans bFH) DX) (by decide) (by decide) (by decide)
  have prH:=bFH _ _ (sF _ _ pr0) (DF.neT (sF _ _ pr0))
  have hhH:=HistAt.but hhF bFH DF
  have hstH:=hstF.but bFH DF
  have papH:=papF.but bFH DF
  refine ⟨l2,rfl,⟨_,SqL.of l20⟩,for_list (K:=K) (a:=l2) (xs:=zs++[.ref kp]) (fun j σ HY=>∃u11:Option V,σ=[some (.ref s),some (.int (0+(i:Int))),some (.ref d),some (.ref h),some (.int (N:Int)),some (.ref tp),some (.ref kp),some (.int (n:Int)),some (.ref st),some (.ref pr),some (.ref pa),u11]∧Same HH HY) ⟨_,rfl,Ay _⟩ (fun j σ HY _ ⟨_,_,sY⟩=>SqL.of (sY _ _ l20)) ?_ ?_⟩
  ·rintro j v σ HY hv ⟨u11,rfl,sY⟩
   exact ⟨_,rfl,_,rfl,_,rfl,_,rfl,_,rfl,h,st,pr,d,v,N,ds,n,p,q,S,2,6,6000000,rfl,hhH.same sY,rr,hn,hstH.same sY,hs,sY _ _ prH,(okH v (List.mem_of_getElem? hv)).but (But.of sY) DH,Nat.le_refl _,Nat.le_refl _,by decide,fun HW sW=>⟨_,rfl,Bb ⟨_,rfl,sY.trans sW⟩⟩⟩
  rintro σ HY ⟨u11,rfl,sY⟩
  have DY:=DH.same sY
  exact ⟨_,rfl,pa,_,_,_,_,_,rfl,(((bX.trans (But.of sB)).trans bE).trans (But.of sF)).trans (bFH.trans (But.of sY)),DY.mono (by omega),(papH.but (But.of sY) DH).tg DY⟩
end
end K61
namespace K61
open PySem L2 Wk
theorem us1 {fd:FuncData} {ps:List Str} (hp:ps.length=1) (h:∀a0:Value,bindArgs fd ⟨[a0],[]⟩=pure (ps.zip [a0])):∀us:List Value,us.length=ps.length→bindArgs fd ⟨us,[]⟩=pure (ps.zip us):=fun us hl=>match us,hl.trans hp with|[a0],_=>h a0
theorem us2 {fd:FuncData} {ps:List Str} (hp:ps.length=2) (h:∀a0 a1:Value,bindArgs fd ⟨[a0,a1],[]⟩=pure (ps.zip [a0,a1])):∀us:List Value,us.length=ps.length→bindArgs fd ⟨us,[]⟩=pure (ps.zip us):=fun us hl=>match us,hl.trans hp with|[a0,a1],_=>h a0 a1
theorem us3 {fd:FuncData} {ps:List Str} (hp:ps.length=3) (h:∀a0 a1 a2:Value,bindArgs fd ⟨[a0,a1,a2],[]⟩=pure (ps.zip [a0,a1,a2])):∀us:List Value,us.length=ps.length→bindArgs fd ⟨us,[]⟩=pure (ps.zip us):=fun us hl=>match us,hl.trans hp with|[a0,a1,a2],_=>h a0 a1 a2
theorem us4 {fd:FuncData} {ps:List Str} (hp:ps.length=4) (h:∀a0 a1 a2 a3:Value,bindArgs fd ⟨[a0,a1,a2,a3],[]⟩=pure (ps.zip [a0,a1,a2,a3])):∀us:List Value,us.length=ps.length→bindArgs fd ⟨us,[]⟩=pure (ps.zip us):=fun us hl=>match us,hl.trans hp with|[a0,a1,a2,a3],_=>h a0 a1 a2 a3
theorem us5 {fd:FuncData} {ps:List Str} (hp:ps.length=5) (h:∀a0 a1 a2 a3 a4:Value,bindArgs fd ⟨[a0,a1,a2,a3,a4],[]⟩=pure (ps.zip [a0,a1,a2,a3,a4])):∀us:List Value,us.length=ps.length→bindArgs fd ⟨us,[]⟩=pure (ps.zip us):=fun us hl=>match us,hl.trans hp with|[a0,a1,a2,a3,a4],_=>h a0 a1 a2 a3 a4
theorem all_mk {l:PySem.W.OpenLaw} {w:World} {K:PySem.W.Frag} {h:Heap} {mg:Str→Option Value} {fa f0 f1 f2 f3 f4 f5 f6 f7 f8 f9 f10 f11 f12 f13 f14 f15 f16 f17 f18 f19 f20 f21 f22 f23 f24 f25 f26 f27 f28 f29 f30 f31:Addr} (X:K.In h) (G:h.Ns mainGlobals mg) (hfa:mg "law"=some (.ref fa))
  {od0 an0 od1 an1 od2 an2 od3 an3 od4 an4 od5 an5 od6 an6 od7 an7 od8 an8 od9 an9 od10 an10 od11 an11 od12 an12 od13 an13 od14 an14 od15 an15 od16 an16 od17 an17 od18 an18 od19 an19 od20 an20 od21 an21 od22 an22 od23 an23 od24 an24 od25 an25 od26 an26 od27 an27 od28 an28 od29 an29 od30 an30 od31 an31:Option Addr} {sl0 sl1 sl2 sl3 sl4 sl5 sl6 sl7 sl8 sl9 sl10 sl11 sl12 sl13 sl14 sl15 sl16 sl17 sl18 sl19 sl20 sl21 sl22 sl23 sl24 sl25 sl26 sl27 sl28 sl29 sl30 sl31:Array (Option Value)} {oc0 kV0 dc0 pm0 cd0 ct0 oc1 kV1 dc1 pm1 cd1 ct1 oc2 kV2 dc2 pm2 cd2 ct2 oc3 kV3 dc3 pm3 cd3 ct3 oc4 kV4 dc4 pm4 cd4 ct4 oc5 kV5 dc5 pm5 cd5 ct5 oc6 kV6 dc6 pm6 cd6 ct6 oc7 kV7 dc7 pm7 cd7 ct7 oc8 kV8 dc8 pm8 cd8 ct8 oc9 kV9 dc9 pm9 cd9 ct9 oc10 kV10 dc10 pm10 cd10 ct10 oc11 kV11 dc11 pm11 cd11 ct11 oc12 kV12 dc12 pm12 cd12 ct12 oc13 kV13 dc13 pm13 cd13 ct13 oc14 kV14 dc14 pm14 cd14 ct14 oc15 kV15 dc15 pm15 cd15 ct15 oc16 kV16 dc16 pm16 cd16 ct16 oc17 kV17 dc17 pm17 cd17 ct17 oc18 kV18 dc18 pm18 cd18 ct18 oc19 kV19 dc19 pm19 cd19 ct19 oc20 kV20 dc20 pm20 cd20 ct20 oc21 kV21 dc21 pm21 cd21 ct21 oc22 kV22 dc22 pm22 cd22 ct22 oc23 kV23 dc23 pm23 cd23 ct23 oc24 kV24 dc24 pm24 cd24 ct24 oc25 kV25 dc25 pm25 cd25 ct25 oc26 kV26 dc26 pm26 cd26 ct26 oc27 kV27 dc27 pm27 cd27 ct27 oc28 kV28 dc28 pm28 cd28 ct28 oc29 kV29 dc29 pm29 cd29 ct29 oc30 kV30 dc30 pm30 cd30 ct30 oc31 kV31 dc31 pm31 cd31 ct31:Value}
  {t0:Tok}
  (a0:PySem.W.nsIn K mainGlobals "is_whole"=some (some (.ref f0))) (l0:K.lookup f0=some ⟨oc0,od0,.func (PySem.W.fnOf "is_whole" "is_whole" (Au sWhole) (At sWhole) (Ag sWhole) .none kV0 dc0 pm0 an0 cd0 ct0),sl0⟩) (c0:PySem.W.codeIn K cd0 "is_whole"=true) (k0:PySem.W.keepIn K (.ref f0)=true)
  (a1:PySem.W.nsIn K mainGlobals "is_within"=some (some (.ref f1))) (l1:K.lookup f1=some ⟨oc1,od1,.func (PySem.W.fnOf "is_within" "is_within" (Au sWithin) (At sWithin) (Ag sWithin) .none kV1 dc1 pm1 an1 cd1 ct1),sl1⟩) (c1:PySem.W.codeIn K cd1 "is_within"=true) (k1:PySem.W.keepIn K (.ref f1)=true)
  (a2:PySem.W.nsIn K mainGlobals "stand_behind"=some (some (.ref f2))) (l2:K.lookup f2=some ⟨oc2,od2,.func (PySem.W.fnOf "stand_behind" "stand_behind" (Au sStandB) (At sStandB) (Ag sStandB) .none kV2 dc2 pm2 an2 cd2 ct2),sl2⟩) (c2:PySem.W.codeIn K cd2 "stand_behind"=true) (k2:PySem.W.keepIn K (.ref f2)=true)
  (a3:PySem.W.nsIn K mainGlobals "is_place"=some (some (.ref f3))) (l3:K.lookup f3=some ⟨oc3,od3,.func (PySem.W.fnOf "is_place" "is_place" (Au sIsPl) (At sIsPl) (Ag sIsPl) .none kV3 dc3 pm3 an3 cd3 ct3),sl3⟩) (c3:PySem.W.codeIn K cd3 "is_place"=true) (k3:PySem.W.keepIn K (.ref f3)=true)
  (a4:PySem.W.nsIn K mainGlobals "is_places"=some (some (.ref f4))) (l4:K.lookup f4=some ⟨oc4,od4,.func (PySem.W.fnOf "is_places" "is_places" (Au sIsPls) (At sIsPls) (Ag sIsPls) .none kV4 dc4 pm4 an4 cd4 ct4),sl4⟩) (c4:PySem.W.codeIn K cd4 "is_places"=true) (k4:PySem.W.keepIn K (.ref f4)=true)
  (a5:PySem.W.nsIn K mainGlobals "place_over"=some (some (.ref f5))) (l5:K.lookup f5=some ⟨oc5,od5,.func (PySem.W.fnOf "place_over" "place_over" (Au sOver) (At sOver) (Ag sOver) .none kV5 dc5 pm5 an5 cd5 ct5),sl5⟩) (c5:PySem.W.codeIn K cd5 "place_over"=true) (k5:PySem.W.keepIn K (.ref f5)=true)
  (a6:PySem.W.nsIn K mainGlobals "leads"=some (some (.ref f6))) (l6:K.lookup f6=some ⟨oc6,od6,.func (PySem.W.fnOf "leads" "leads" (Au sLeads) (At sLeads) (Ag sLeads) .none kV6 dc6 pm6 an6 cd6 ct6),sl6⟩) (c6:PySem.W.codeIn K cd6 "leads"=true) (k6:PySem.W.keepIn K (.ref f6)=true)
  (a7:PySem.W.nsIn K mainGlobals "ties_out"=some (some (.ref f7))) (l7:K.lookup f7=some ⟨oc7,od7,.func (PySem.W.fnOf "ties_out" "ties_out" (Au sOut) (At sOut) (Ag sOut) .none kV7 dc7 pm7 an7 cd7 ct7),sl7⟩) (c7:PySem.W.codeIn K cd7 "ties_out"=true) (k7:PySem.W.keepIn K (.ref f7)=true)
  (a8:PySem.W.nsIn K mainGlobals "is_way"=some (some (.ref f8))) (l8:K.lookup f8=some ⟨oc8,od8,.func (PySem.W.fnOf "is_way" "is_way" (Au sIsWay) (At sIsWay) (Ag sIsWay) .none kV8 dc8 pm8 an8 cd8 ct8),sl8⟩) (c8:PySem.W.codeIn K cd8 "is_way"=true) (k8:PySem.W.keepIn K (.ref f8)=true)
  (a9:PySem.W.nsIn K mainGlobals "is_cut"=some (some (.ref f9))) (l9:K.lookup f9=some ⟨oc9,od9,.func (PySem.W.fnOf "is_cut" "is_cut" (Au sIsCut) (At sIsCut) (Ag sIsCut) .none kV9 dc9 pm9 an9 cd9 ct9),sl9⟩) (c9:PySem.W.codeIn K cd9 "is_cut"=true) (k9:PySem.W.keepIn K (.ref f9)=true)
  (a10:PySem.W.nsIn K mainGlobals "is_paper"=some (some (.ref f10))) (l10:K.lookup f10=some ⟨oc10,od10,.func (PySem.W.fnOf "is_paper" "is_paper" (Au sPaper) (At sPaper) (Ag sPaper) .none kV10 dc10 pm10 an10 cd10 ct10),sl10⟩) (c10:PySem.W.codeIn K cd10 "is_paper"=true) (k10:PySem.W.keepIn K (.ref f10)=true)
  (a11:PySem.W.nsIn K mainGlobals "_law_cell_at"=some (some (.ref f11))) (l11:K.lookup f11=some ⟨oc11,od11,.func (PySem.W.fnOf "_law_cell_at" "_law_cell_at" (Au sCell) (At sCell) (Ag sCell) .none kV11 dc11 pm11 an11 cd11 ct11),sl11⟩) (c11:PySem.W.codeIn K cd11 "_law_cell_at"=true) (k11:PySem.W.keepIn K (.ref f11)=true)
  (a12:PySem.W.nsIn K mainGlobals "_law_deck"=some (some (.ref f12))) (l12:K.lookup f12=some ⟨oc12,od12,.func (PySem.W.fnOf "_law_deck" "_law_deck" (Au sDeck) (At sDeck) (Ag sDeck) .none kV12 dc12 pm12 an12 cd12 ct12),sl12⟩) (c12:PySem.W.codeIn K cd12 "_law_deck"=true) (k12:PySem.W.keepIn K (.ref f12)=true)
  (a13:PySem.W.nsIn K mainGlobals "_law_draw"=some (some (.ref f13))) (l13:K.lookup f13=some ⟨oc13,od13,.func (PySem.W.fnOf "_law_draw" "_law_draw" (Au sDraw) (At sDraw) (Ag sDraw) .none kV13 dc13 pm13 an13 cd13 ct13),sl13⟩) (c13:PySem.W.codeIn K cd13 "_law_draw"=true) (k13:PySem.W.keepIn K (.ref f13)=true)
  (a14:PySem.W.nsIn K mainGlobals "_law_names"=some (some (.ref f14))) (l14:K.lookup f14=some ⟨oc14,od14,.func (PySem.W.fnOf "_law_names" "_law_names" (Au sNames) (At sNames) (Ag sNames) .none kV14 dc14 pm14 an14 cd14 ct14),sl14⟩) (c14:PySem.W.codeIn K cd14 "_law_names"=true) (k14:PySem.W.keepIn K (.ref f14)=true)
  (a15:PySem.W.nsIn K mainGlobals "_law_many"=some (some (.ref f15))) (l15:K.lookup f15=some ⟨oc15,od15,.func (PySem.W.fnOf "_law_many" "_law_many" (Au sMany) (At sMany) (Ag sMany) .none kV15 dc15 pm15 an15 cd15 ct15),sl15⟩) (c15:PySem.W.codeIn K cd15 "_law_many"=true) (k15:PySem.W.keepIn K (.ref f15)=true)
  (a16:PySem.W.nsIn K mainGlobals "_law_weight"=some (some (.ref f16))) (l16:K.lookup f16=some ⟨oc16,od16,.func (PySem.W.fnOf "_law_weight" "_law_weight" (Au sWeight) (At sWeight) (Ag sWeight) .none kV16 dc16 pm16 an16 cd16 ct16),sl16⟩) (c16:PySem.W.codeIn K cd16 "_law_weight"=true) (k16:PySem.W.keepIn K (.ref f16)=true)
  (a17:PySem.W.nsIn K mainGlobals "_law_tie"=some (some (.ref f17))) (l17:K.lookup f17=some ⟨oc17,od17,.func (PySem.W.fnOf "_law_tie" "_law_tie" (Au sTie) (At sTie) (Ag sTie) .none kV17 dc17 pm17 an17 cd17 ct17),sl17⟩) (c17:PySem.W.codeIn K cd17 "_law_tie"=true) (k17:PySem.W.keepIn K (.ref f17)=true)
  (a18:PySem.W.nsIn K mainGlobals "_law_gap"=some (some (.ref f18))) (l18:K.lookup f18=some ⟨oc18,od18,.func (PySem.W.fnOf "_law_gap" "_law_gap" (Au sGap) (At sGap) (Ag sGap) .none kV18 dc18 pm18 an18 cd18 ct18),sl18⟩) (c18:PySem.W.codeIn K cd18 "_law_gap"=true) (k18:PySem.W.keepIn K (.ref f18)=true)
  (a19:PySem.W.nsIn K mainGlobals "_law_history"=some (some (.ref f19))) (l19:K.lookup f19=some ⟨oc19,od19,.func (PySem.W.fnOf "_law_history" "_law_history" (Au sHistory) (At sHistory) (Ag sHistory) .none kV19 dc19 pm19 an19 cd19 ct19),sl19⟩) (c19:PySem.W.codeIn K cd19 "_law_history"=true) (k19:PySem.W.keepIn K (.ref f19)=true)
  (a20:PySem.W.nsIn K mainGlobals "_law_stand_behind"=some (some (.ref f20))) (l20:K.lookup f20=some ⟨oc20,od20,.func (PySem.W.fnOf "_law_stand_behind" "_law_stand_behind" (Au sLStand) (At sLStand) (Ag sLStand) .none kV20 dc20 pm20 an20 cd20 ct20),sl20⟩) (c20:PySem.W.codeIn K cd20 "_law_stand_behind"=true) (k20:PySem.W.keepIn K (.ref f20)=true)
  (a21:PySem.W.nsIn K mainGlobals "_law_way_right"=some (some (.ref f21))) (l21:K.lookup f21=some ⟨oc21,od21,.func (PySem.W.fnOf "_law_way_right" "_law_way_right" (Au sWayR) (At sWayR) (Ag sWayR) .none kV21 dc21 pm21 an21 cd21 ct21),sl21⟩) (c21:PySem.W.codeIn K cd21 "_law_way_right"=true) (k21:PySem.W.keepIn K (.ref f21)=true)
  (a22:PySem.W.nsIn K mainGlobals "_law_cut_right"=some (some (.ref f22))) (l22:K.lookup f22=some ⟨oc22,od22,.func (PySem.W.fnOf "_law_cut_right" "_law_cut_right" (Au sCutR) (At sCutR) (Ag sCutR) .none kV22 dc22 pm22 an22 cd22 ct22),sl22⟩) (c22:PySem.W.codeIn K cd22 "_law_cut_right"=true) (k22:PySem.W.keepIn K (.ref f22)=true)
  (a23:PySem.W.nsIn K mainGlobals "_law_paper_right"=some (some (.ref f23))) (l23:K.lookup f23=some ⟨oc23,od23,.func (PySem.W.fnOf "_law_paper_right" "_law_paper_right" (Au sPaperR) (At sPaperR) (Ag sPaperR) .none kV23 dc23 pm23 an23 cd23 ct23),sl23⟩) (c23:PySem.W.codeIn K cd23 "_law_paper_right"=true) (k23:PySem.W.keepIn K (.ref f23)=true)
  (a24:PySem.W.nsIn K mainGlobals "_law_odd"=some (some (.ref f24))) (l24:K.lookup f24=some ⟨oc24,od24,.func (PySem.W.fnOf "_law_odd" "_law_odd" (Au sOdd) (At sOdd) (Ag sOdd) .none kV24 dc24 pm24 an24 cd24 ct24),sl24⟩) (c24:PySem.W.codeIn K cd24 "_law_odd"=true) (k24:PySem.W.keepIn K (.ref f24)=true)
  (a25:PySem.W.nsIn K mainGlobals "_law_bent_row"=some (some (.ref f25))) (l25:K.lookup f25=some ⟨oc25,od25,.func (PySem.W.fnOf "_law_bent_row" "_law_bent_row" (Au sBentR) (At sBentR) (Ag sBentR) .none kV25 dc25 pm25 an25 cd25 ct25),sl25⟩) (c25:PySem.W.codeIn K cd25 "_law_bent_row"=true) (k25:PySem.W.keepIn K (.ref f25)=true)
  (a26:PySem.W.nsIn K mainGlobals "_law_bent"=some (some (.ref f26))) (l26:K.lookup f26=some ⟨oc26,od26,.func (PySem.W.fnOf "_law_bent" "_law_bent" (Au sBent) (At sBent) (Ag sBent) .none kV26 dc26 pm26 an26 cd26 ct26),sl26⟩) (c26:PySem.W.codeIn K cd26 "_law_bent"=true) (k26:PySem.W.keepIn K (.ref f26)=true)
  (a27:PySem.W.nsIn K mainGlobals "_law_ways"=some (some (.ref f27))) (l27:K.lookup f27=some ⟨oc27,od27,.func (PySem.W.fnOf "_law_ways" "_law_ways" (Au sLWays) (At sLWays) (Ag sLWays) .none kV27 dc27 pm27 an27 cd27 ct27),sl27⟩) (c27:PySem.W.codeIn K cd27 "_law_ways"=true) (k27:PySem.W.keepIn K (.ref f27)=true)
  (a28:PySem.W.nsIn K mainGlobals "_law_paper"=some (some (.ref f28))) (l28:K.lookup f28=some ⟨oc28,od28,.func (PySem.W.fnOf "_law_paper" "_law_paper" (Au sLPaper) (At sLPaper) (Ag sLPaper) .none kV28 dc28 pm28 an28 cd28 ct28),sl28⟩) (c28:PySem.W.codeIn K cd28 "_law_paper"=true) (k28:PySem.W.keepIn K (.ref f28)=true)
  (a29:PySem.W.nsIn K mainGlobals "_law_asked"=some (some (.ref f29))) (l29:K.lookup f29=some ⟨oc29,od29,.func (PySem.W.fnOf "_law_asked" "_law_asked" (Au sAsked) (At sAsked) (Ag sAsked) .none kV29 dc29 pm29 an29 cd29 ct29),sl29⟩) (c29:PySem.W.codeIn K cd29 "_law_asked"=true) (k29:PySem.W.keepIn K (.ref f29)=true)
  (a30:PySem.W.nsIn K mainGlobals "_law_things"=some (some (.ref f30))) (l30:K.lookup f30=some ⟨oc30,od30,.func (PySem.W.fnOf "_law_things" "_law_things" (Au sThings) (At sThings) (Ag sThings) .none kV30 dc30 pm30 an30 cd30 ct30),sl30⟩) (c30:PySem.W.codeIn K cd30 "_law_things"=true) (k30:PySem.W.keepIn K (.ref f30)=true)
  (a31:PySem.W.nsIn K mainGlobals "law"=some (some (.ref f31))) (l31:K.lookup f31=some ⟨oc31,od31,.func (PySem.W.fnOf "law" "law" (Au sLaw) (At sLaw) (Ag sLaw) .none kV31 dc31 pm31 an31 cd31 ct31),sl31⟩) (c31:PySem.W.codeIn K cd31 "law"=true) (k31:PySem.W.keepIn K (.ref f31)=true)
  (i0:PySem.W.nsIn K mainGlobals "MOST_STEPS"=some (some (.int 61 t0)))
  (z0:PySem.W.nsIn K mainGlobals "isinstance"=some none) (z1:PySem.W.nsIn K mainGlobals "int"=some none) (z2:PySem.W.nsIn K mainGlobals "bool"=some none) (z3:PySem.W.nsIn K mainGlobals "tuple"=some none) (z4:PySem.W.nsIn K mainGlobals "len"=some none) (z5:PySem.W.nsIn K mainGlobals "range"=some none) (z6:PySem.W.nsIn K mainGlobals "sum"=some none) (z7:PySem.W.nsIn K mainGlobals "str"=some none) (z8:PySem.W.nsIn K mainGlobals "max"=some none) (z9:PySem.W.nsIn K mainGlobals "min"=some none) (z10:PySem.W.nsIn K mainGlobals "sorted"=some none) (z11:PySem.W.nsIn K mainGlobals "list"=some none) (z12:PySem.W.nsIn K mainGlobals "reversed"=some none) (z13:PySem.W.nsIn K mainGlobals "all"=some none) (z14:PySem.W.nsIn K mainGlobals "zip"=some none) (z15:PySem.W.nsIn K mainGlobals "set"=some none) (z16:PySem.W.nsIn K mainGlobals "repr"=some none):
  ∃fd:FuncData,(∀(s:Shared) (v:Value),BindsTo s fd ⟨[v],[]⟩ [("_law_script",v)])∧∀base:Heap,K.In base→base.Ns mainGlobals mg→FnOk l.prog w K mg base CX0 14 fa fd ["_law_script"] (spLaw K):=by
 have e:=hfa.symm.trans (PySem.W.mg_of X G a31)
 cases e
 have T:Txt mg:=⟨⟨_,PySem.W.mg_of X G i0⟩,PySem.W.mg_none_of X G z0,PySem.W.mg_none_of X G z1,PySem.W.mg_none_of X G z2,PySem.W.mg_none_of X G z3,PySem.W.mg_none_of X G z4,PySem.W.mg_none_of X G z5,PySem.W.mg_none_of X G z6,PySem.W.mg_none_of X G z7,PySem.W.mg_none_of X G z8,PySem.W.mg_none_of X G z9,PySem.W.mg_none_of X G z10,PySem.W.mg_none_of X G z11,PySem.W.mg_none_of X G z12,PySem.W.mg_none_of X G z13,PySem.W.mg_none_of X G z14,PySem.W.mg_none_of X G z15,PySem.W.mg_none_of X G z16⟩
 have F0:=A5 (st:=sWhole) l0 c0 k0
 have b0:=F0.binds (ps:=["thing"]) fun _ _ _ _ _ _=>us1 rfl fun _=>rfl
 have m0:=PySem.W.mg_of X G a0
 have F1:=A5 (st:=sWithin) l1 c1 k1
 have b1:=F1.binds (ps:=["thing","low","high"]) fun _ _ _ _ _ _=>us3 rfl fun _ _ _=>rfl
 have m1:=PySem.W.mg_of X G a1
 have F2:=A5 (st:=sStandB) l2 c2 k2
 have b2:=F2.binds (ps:=["history","n"]) fun _ _ _ _ _ _=>us2 rfl fun _ _=>rfl
 have m2:=PySem.W.mg_of X G a2
 have F3:=A5 (st:=sIsPl) l3 c3 k3
 have b3:=F3.binds (ps:=["many","thing"]) fun _ _ _ _ _ _=>us2 rfl fun _ _=>rfl
 have m3:=PySem.W.mg_of X G a3
 have F4:=A5 (st:=sIsPls) l4 c4 k4
 have b4:=F4.binds (ps:=["many","thing"]) fun _ _ _ _ _ _=>us2 rfl fun _ _=>rfl
 have m4:=PySem.W.mg_of X G a4
 have F5:=A5 (st:=sOver) l5 c5 k5
 have b5:=F5.binds (ps:=["stand","place","thing"]) fun _ _ _ _ _ _=>us3 rfl fun _ _ _=>rfl
 have m5:=PySem.W.mg_of X G a5
 have F6:=A5 (st:=sLeads) l6 c6 k6
 have b6:=F6.binds (ps:=["stand","one","other","thing"]) fun _ _ _ _ _ _=>us4 rfl fun _ _ _ _=>rfl
 have m6:=PySem.W.mg_of X G a6
 have F7:=A5 (st:=sOut) l7 c7 k7
 have b7:=F7.binds (ps:=["stand","places"]) fun _ _ _ _ _ _=>us2 rfl fun _ _=>rfl
 have m7:=PySem.W.mg_of X G a7
 have F8:=A5 (st:=sIsWay) l8 c8 k8
 have b8:=F8.binds (ps:=["stand","one","other","thing"]) fun _ _ _ _ _ _=>us4 rfl fun _ _ _ _=>rfl
 have m8:=PySem.W.mg_of X G a8
 have F9:=A5 (st:=sIsCut) l9 c9 k9
 have b9:=F9.binds (ps:=["many","stand","one","other","thing"]) fun _ _ _ _ _ _=>us5 rfl fun _ _ _ _ _=>rfl
 have m9:=PySem.W.mg_of X G a9
 have F10:=A5 (st:=sPaper) l10 c10 k10
 have b10:=F10.binds (ps:=["history","n","one","other","thing"]) fun _ _ _ _ _ _=>us5 rfl fun _ _ _ _ _=>rfl
 have m10:=PySem.W.mg_of X G a10
 have F11:=A5 (st:=sCell) l11 c11 k11
 have b11:=F11.binds (ps:=["_law_script","_law_k"]) fun _ _ _ _ _ _=>us2 rfl fun _ _=>rfl
 have m11:=PySem.W.mg_of X G a11
 have F12:=A5 (st:=sDeck) l12 c12 k12
 have b12:=F12.binds (ps:=["_law_script","_law_k"]) fun _ _ _ _ _ _=>us2 rfl fun _ _=>rfl
 have m12:=PySem.W.mg_of X G a12
 have F13:=A5 (st:=sDraw) l13 c13 k13
 have b13:=F13.binds (ps:=["_law_deck_here","_law_most"]) fun _ _ _ _ _ _=>us2 rfl fun _ _=>rfl
 have m13:=PySem.W.mg_of X G a13
 have F14:=A5 (st:=sNames) l14 c14 k14
 have b14:=F14.binds (ps:=["_law_deck_here","_law_many_here"]) fun _ _ _ _ _ _=>us2 rfl fun _ _=>rfl
 have m14:=PySem.W.mg_of X G a14
 have F15:=A5 (st:=sMany) l15 c15 k15
 have b15:=F15.binds (ps:=["_law_deck_here"]) fun _ _ _ _ _ _=>us1 rfl fun _=>rfl
 have m15:=PySem.W.mg_of X G a15
 have F16:=A5 (st:=sWeight) l16 c16 k16
 have b16:=F16.binds (ps:=["_law_deck_here"]) fun _ _ _ _ _ _=>us1 rfl fun _=>rfl
 have m16:=PySem.W.mg_of X G a16
 have F17:=A5 (st:=sTie) l17 c17 k17
 have b17:=F17.binds (ps:=["_law_deck_here","_law_many_here","_law_there","_law_free","_law_lined"]) fun _ _ _ _ _ _=>us5 rfl fun _ _ _ _ _=>rfl
 have m17:=PySem.W.mg_of X G a17
 have F18:=A5 (st:=sGap) l18 c18 k18
 have b18:=F18.binds (ps:=["_law_deck_here"]) fun _ _ _ _ _ _=>us1 rfl fun _=>rfl
 have m18:=PySem.W.mg_of X G a18
 have F19:=A5 (st:=sHistory) l19 c19 k19
 have b19:=F19.binds (ps:=["_law_deck_here","_law_most"]) fun _ _ _ _ _ _=>us2 rfl fun _ _=>rfl
 have m19:=PySem.W.mg_of X G a19
 have F20:=A5 (st:=sLStand) l20 c20 k20
 have b20:=F20.binds (ps:=["_law_history_here","_law_n"]) fun _ _ _ _ _ _=>us2 rfl fun _ _=>rfl
 have m20:=PySem.W.mg_of X G a20
 have F21:=A5 (st:=sWayR) l21 c21 k21
 have b21:=F21.binds (ps:=["_law_stand","_law_one","_law_other","_law_way"]) fun _ _ _ _ _ _=>us4 rfl fun _ _ _ _=>rfl
 have m21:=PySem.W.mg_of X G a21
 have F22:=A5 (st:=sCutR) l22 c22 k22
 have b22:=F22.binds (ps:=["_law_many_here","_law_stand","_law_one","_law_other","_law_cut"]) fun _ _ _ _ _ _=>us5 rfl fun _ _ _ _ _=>rfl
 have m22:=PySem.W.mg_of X G a22
 have F23:=A5 (st:=sPaperR) l23 c23 k23
 have b23:=F23.binds (ps:=["_law_many_here","_law_stand","_law_one","_law_other","_law_thing"]) fun _ _ _ _ _ _=>us5 rfl fun _ _ _ _ _=>rfl
 have m23:=PySem.W.mg_of X G a23
 have F24:=A5 (st:=sOdd) l24 c24 k24
 have b24:=F24.binds (ps:=["_law_deck_here","_law_names_here"]) fun _ _ _ _ _ _=>us2 rfl fun _ _=>rfl
 have m24:=PySem.W.mg_of X G a24
 have F25:=A5 (st:=sBentR) l25 c25 k25
 have b25:=F25.binds (ps:=["_law_deck_here","_law_row","_law_names_here"]) fun _ _ _ _ _ _=>us3 rfl fun _ _ _=>rfl
 have m25:=PySem.W.mg_of X G a25
 have F26:=A5 (st:=sBent) l26 c26 k26
 have b26:=F26.binds (ps:=["_law_deck_here","_law_thing","_law_names_here"]) fun _ _ _ _ _ _=>us3 rfl fun _ _ _=>rfl
 have m26:=PySem.W.mg_of X G a26
 have F27:=A5 (st:=sLWays) l27 c27 k27
 have b27:=F27.binds (ps:=["_law_many_here","_law_stand","_law_one"]) fun _ _ _ _ _ _=>us3 rfl fun _ _ _=>rfl
 have m27:=PySem.W.mg_of X G a27
 have F28:=A5 (st:=sLPaper) l28 c28 k28
 have b28:=F28.binds (ps:=["_law_many_here","_law_stand","_law_one","_law_other"]) fun _ _ _ _ _ _=>us4 rfl fun _ _ _ _=>rfl
 have m28:=PySem.W.mg_of X G a28
 have F29:=A5 (st:=sAsked) l29 c29 k29
 have b29:=F29.binds (ps:=["_law_history_here","_law_n","_law_stand","_law_pair","_law_thing"]) fun _ _ _ _ _ _=>us5 rfl fun _ _ _ _ _=>rfl
 have m29:=PySem.W.mg_of X G a29
 have F30:=A5 (st:=sThings) l30 c30 k30
 have b30:=F30.binds (ps:=["_law_deck_here","_law_history_here","_law_stand","_law_paper_here"]) fun _ _ _ _ _ _=>us4 rfl fun _ _ _ _=>rfl
 have m30:=PySem.W.mg_of X G a30
 have F31:=A5 (st:=sLaw) l31 c31 k31
 have b31:=F31.binds (ps:=["_law_script"]) fun _ _ _ _ _ _=>us1 rfl fun _=>rfl
 have m31:=PySem.W.mg_of X G a31
 refine ⟨PySem.W.fnOf "law" "law" (Au sLaw) (At sLaw) (Ag sLaw) .none kV31 dc31 pm31 an31 cd31 ct31,fun s v=> .of_eq rfl,fun base _ _=> ?_⟩
 have Q0:FnOk l.prog w K mg base CX0 1 f0 _ ["thing"] spWhole:=ok_Whole F0 T 
 have Q1:FnOk l.prog w K mg base CX0 2 f1 _ ["thing","low","high"] spWithin:=ok_Within F1 T k0 b0 m0 (Q0.mono (by decide))
 have Q2:FnOk l.prog w K mg base CX0 1 f2 _ ["history","n"] spStandB:=ok_StandB F2 T 
 have Q3:FnOk l.prog w K mg base CX0 3 f3 _ ["many","thing"] spIsPl:=ok_IsPl F3 T k1 b1 m1 (Q1.mono (by decide))
 have Q4:FnOk l.prog w K mg base CX0 4 f4 _ ["many","thing"] spIsPls:=ok_IsPls F4 T k3 b3 m3 (Q3.mono (by decide))
 have Q5:FnOk l.prog w K mg base CX0 1 f5 _ ["stand","place","thing"] spOver:=ok_Over F5 T 
 have Q6:FnOk l.prog w K mg base CX0 2 f6 _ ["stand","one","other","thing"] spLeads:=ok_Leads F6 T k5 b5 m5 (Q5.mono (by decide))
 have Q7:FnOk l.prog w K mg base CX0 1 f7 _ ["stand","places"] spOut:=ok_Out F7 T 
 have Q8:FnOk l.prog w K mg base CX0 3 f8 _ ["stand","one","other","thing"] spIsWay:=ok_IsWay F8 T k6 b6 m6 (Q6.mono (by decide))
 have Q9:FnOk l.prog w K mg base CX0 5 f9 _ ["many","stand","one","other","thing"] spIsCut:=ok_IsCut F9 T k4 b4 m4 (Q4.mono (by decide)) k7 b7 m7 (Q7.mono (by decide))
 have Q10:FnOk l.prog w K mg base CX0 6 f10 _ ["history","n","one","other","thing"] spPaper:=ok_Paper F10 T k2 b2 m2 (Q2.mono (by decide)) k8 b8 m8 (Q8.mono (by decide)) k9 b9 m9 (Q9.mono (by decide))
 have Q11:FnOk l.prog w K mg base CX0 1 f11 _ ["_law_script","_law_k"] (spCell K):=ok_Cell F11 T 
 have Q12:FnOk l.prog w K mg base CX0 2 f12 _ ["_law_script","_law_k"] (spDeck K):=ok_Deck F12 T k11 b11 m11 (Q11.mono (by decide))
 have Q13:FnOk l.prog w K mg base CX0 1 f13 _ ["_law_deck_here","_law_most"] spDraw:=ok_Draw F13 T 
 have Q14:FnOk l.prog w K mg base CX0 2 f14 _ ["_law_deck_here","_law_many_here"] spNames:=ok_Names F14 T k13 b13 m13 (Q13.mono (by decide))
 have Q15:FnOk l.prog w K mg base CX0 2 f15 _ ["_law_deck_here"] spMany:=ok_Many F15 T k13 b13 m13 (Q13.mono (by decide))
 have Q16:FnOk l.prog w K mg base CX0 2 f16 _ ["_law_deck_here"] spWeight:=ok_Weight F16 T k13 b13 m13 (Q13.mono (by decide))
 have Q17:FnOk l.prog w K mg base CX0 3 f17 _ ["_law_deck_here","_law_many_here","_law_there","_law_free","_law_lined"] spTie:=ok_Tie F17 T k13 b13 m13 (Q13.mono (by decide)) k16 b16 m16 (Q16.mono (by decide))
 have Q18:FnOk l.prog w K mg base CX0 2 f18 _ ["_law_deck_here"] spGap:=ok_Gap F18 T k13 b13 m13 (Q13.mono (by decide))
 have Q19:FnOk l.prog w K mg base CX0 4 f19 _ ["_law_deck_here","_law_most"] spHistory:=ok_History F19 T k13 b13 m13 (Q13.mono (by decide)) k14 b14 m14 (Q14.mono (by decide)) k15 b15 m15 (Q15.mono (by decide)) k18 b18 m18 (Q18.mono (by decide)) k17 b17 m17 (Q17.mono (by decide))
 have Q20:FnOk l.prog w K mg base CX0 1 f20 _ ["_law_history_here","_law_n"] spLStand:=ok_LStand F20 T 
 have Q21:FnOk l.prog w K mg base CX0 1 f21 _ ["_law_stand","_law_one","_law_other","_law_way"] spWayR:=ok_WayR F21 T 
 have Q22:FnOk l.prog w K mg base CX0 1 f22 _ ["_law_many_here","_law_stand","_law_one","_law_other","_law_cut"] spCutR:=ok_CutR F22 T 
 have Q23:FnOk l.prog w K mg base CX0 2 f23 _ ["_law_many_here","_law_stand","_law_one","_law_other","_law_thing"] spPaperR:=ok_PaperR F23 T k21 b21 m21 (Q21.mono (by decide)) k22 b22 m22 (Q22.mono (by decide))
 have Q24:FnOk l.prog w K mg base CX0 2 f24 _ ["_law_deck_here","_law_names_here"] spOdd:=ok_Odd F24 T k13 b13 m13 (Q13.mono (by decide))
 have Q25:FnOk l.prog w K mg base CX0 3 f25 _ ["_law_deck_here","_law_row","_law_names_here"] spBentR:=ok_BentR F25 T k13 b13 m13 (Q13.mono (by decide)) k24 b24 m24 (Q24.mono (by decide))
 have QB0:FnOk l.prog w K mg base CX0 4 f26 _ ["_law_deck_here","_law_thing","_law_names_here"] (spBentN 0):=ok_Bent (n:=0) (by decide) F26 T k13 b13 m13 (Q13.mono (by decide)) k24 b24 m24 (Q24.mono (by decide)) k25 b25 m25 (Q25.mono (by decide)) k26 b26 m26 fn_no
 have QB1:FnOk l.prog w K mg base CX0 5 f26 _ ["_law_deck_here","_law_thing","_law_names_here"] (spBentN 1):=ok_Bent (n:=1) (by decide) F26 T k13 b13 m13 (Q13.mono (by decide)) k24 b24 m24 (Q24.mono (by decide)) k25 b25 m25 (Q25.mono (by decide)) k26 b26 m26 QB0
 have QB2:FnOk l.prog w K mg base CX0 6 f26 _ ["_law_deck_here","_law_thing","_law_names_here"] (spBentN 2):=ok_Bent (n:=2) (by decide) F26 T k13 b13 m13 (Q13.mono (by decide)) k24 b24 m24 (Q24.mono (by decide)) k25 b25 m25 (Q25.mono (by decide)) k26 b26 m26 QB1
 have QB3:FnOk l.prog w K mg base CX0 7 f26 _ ["_law_deck_here","_law_thing","_law_names_here"] (spBentN 3):=ok_Bent (n:=3) (by decide) F26 T k13 b13 m13 (Q13.mono (by decide)) k24 b24 m24 (Q24.mono (by decide)) k25 b25 m25 (Q25.mono (by decide)) k26 b26 m26 QB2
 have QB4:FnOk l.prog w K mg base CX0 8 f26 _ ["_law_deck_here","_law_thing","_law_names_here"] (spBentN 4):=ok_Bent (n:=4) (by decide) F26 T k13 b13 m13 (Q13.mono (by decide)) k24 b24 m24 (Q24.mono (by decide)) k25 b25 m25 (Q25.mono (by decide)) k26 b26 m26 QB3
 have Q26:FnOk l.prog w K mg base CX0 12 f26 _ ["_law_deck_here","_law_thing","_law_names_here"] spBent:=fn_or (QB2.mono (by decide)) (QB4.mono (by decide))
 have Q27:FnOk l.prog w K mg base CX0 1 f27 _ ["_law_many_here","_law_stand","_law_one"] spLWays:=ok_LWays F27 T 
 have Q28:FnOk l.prog w K mg base CX0 2 f28 _ ["_law_many_here","_law_stand","_law_one","_law_other"] spLPaper:=ok_LPaper F28 T k27 b27 m27 (Q27.mono (by decide))
 have Q29:FnOk l.prog w K mg base CX0 7 f29 _ ["_law_history_here","_law_n","_law_stand","_law_pair","_law_thing"] spAsked:=ok_Asked F29 T k23 b23 m23 (Q23.mono (by decide)) k10 b10 m10 (Q10.mono (by decide))
 have Q30:FnOk l.prog w K mg base CX0 13 f30 _ ["_law_deck_here","_law_history_here","_law_stand","_law_paper_here"] spThings:=ok_Things F30 T k13 b13 m13 (Q13.mono (by decide)) k24 b24 m24 (Q24.mono (by decide)) k26 b26 m26 (Q26.mono (by decide)) k28 b28 m28 (Q28.mono (by decide))
 exact ok_Law F31 T k13 b13 m13 (Q13.mono (by decide)) k12 b12 m12 (Q12.mono (by decide)) k19 b19 m19 (Q19.mono (by decide)) k20 b20 m20 (Q20.mono (by decide)) k28 b28 m28 (Q28.mono (by decide)) k30 b30 m30 (Q30.mono (by decide)) k29 b29 m29 (Q29.mono (by decide))
theorem walk {l:PySem.W.OpenLaw} {q:Program} {loose:List Str} {XP:(Str→Option Value)→Heap→Prop} {YP:World→Heap→Prop} {d:DefRec} {K:Params→PySem.W.Frag} (hn:l.most=some 63) (hdf:d.params.defaults=[])
  (hY:∀(w:World) (h:Heap),YP w h→(K w.params).In h)
  (F:∀(w:World) (mg:Str→Option Value) (fa:Addr) (h:Heap),(K w.params).In h→h.Ns mainGlobals mg→mg d.name=some (.ref fa)→
   ∃fd:FuncData,(∀(s:Shared) (u:Value),BindsTo s fd ⟨[u],[]⟩ [("_law_script",u)])∧∀base:Heap,(K w.params).In base→base.Ns mainGlobals mg→FnOk l.prog w (K w.params) mg base CX0 14 fa fd ["_law_script"] (spLaw (K w.params))):
  PySem.W.WalkO q loose XP YP l.row.toRowW d [] (fun f vs=>PySem.call f vs):=
 L2.walk_of (n:=63) (k:=14) (x:="_law_script") (CX:=fun _=>CX0) (sp:=fun w=>spLaw (K w.params)) hn (by decide) hdf ⟨rfl,by decide,by decide,rfl⟩ hY F (fun _ _ a ns hl _ hS=>⟨a,ns,rfl,hS,hl,fun _=>rfl⟩) fun _ _ _ _ _ z=>z
end K61
namespace PySem.W.Fast
def tw17783363380727937594:=0
def tw6451326669425390082:=0
def tw13303152023699715103:=0
def tw9894956018083431406:=0
def tw6292128141546065073:=0
def tw1978989558830080061:=0
def tw4031577294692105524:=0
def tw11297930611635704426:=0
def tw13669491028998533923:=0
def tw10317112851400773027:=0
def tw11928194481974064936:=0
def tw4076817263879301138:=0
def tw6180527339818112963:=0
def tw4253520983730358912:=0
def tw7790895607529786479:=0
def tw9088742765310090524:=0
def tw9121832764105483456:=0
def tw5877845084586119108:=0
def tw15872570821292300319:=0
def tw5532182281958933930:=0
def tw6121731880509317842:=0
def tw13866493821694155244:=0
def tw14101605544471372556:=0
def tw9166042887998052104:=0
def tw12605345863809488645:=0
def tw16348669533067871129:=0
def tw5059858865761081532:=0
def tw12396612012534246066:=0
def tw18256690932717468455:=0
def tw12355676705640759258:=0
def tw4575594378730459228:=0
def tw1261775412636357465:=0
def tw5418584269752365527:=0
def tw418973046132879726:=0
def tw9034221022078087553:=0
def tw3762553976106556751:=0
def tw17446486088252497495:=0
def tw1616155714914979262:=0
def tw8523432310253662708:=0
def tw4136239607038110564:=0
def tw1243209897086927140:=0
def tw4613679475601900347:=0
def tw8872181779510866337:=0
def tw4695336160488579865:=0
def tw2145107829420888486:=0
def tw6358527724880061160:=0
def tw3020749962701137103:=0
def tw7946949778063357927:=0
def tw4894440155204483837:=0
def tw16841835936521979853:=0
def tw13785036903810772354:=0
def tw15139388537406000252:=0
def tw6032398867959623081:=0
def tw17151535339074847926:=0
def tw3854897153126360541:=0
def tw3433987760016237062:=0
def tw5360917174034751325:=0
def tw648479119027566991:=0
def tw10406357573330990046:=0
def tw15690066341651387734:=0
def tw3598382601790472472:=0
def tw1020215253291254762:=0
def tw18167299496168395924:=0
def tw17419571931020622432:=0
def tw800075808136074691:=0
def tw8796270333986616323:=0
def tw3550864157362286116:=0
def tw2014643482300394532:=0
def tw11974183659594496745:=0
def tw4108305433435316071:=0
def tw10826742449172732591:=0
def tw8924538114507020116:=0
def tw8785583097525703111:=0
def tw14405989788537014026:=0
def tw15998413005475534266:=0
def tw11253154956844269947:=0
def tw8324196777114534168:=0
def tw3511453369611648674:=0
def tw11748862918146849999:=0
def tw18182193846973488748:=0
def tw14417665346867345363:=0
def tw2857993494197480559:=0
def tw3720555810267224782:=0
def tw5372292045234686613:=0
def tw1471416533779538252:=0
def tw11506760095803878382:=0
def tw11383017896861352966:=0
def tw5836973895331323837:=0
def tw17909239623531362275:=0
def tw17230214525230073569:=0
def tw15951021318454915554:=0
def tw4664893301987027054:=0
def tw9199011569924860069:=0
def tw12682168296011981502:=0
def tw3785390637359087206:=0
def tw9957561910643752896:=0
def tw9310946762942013446:=0
def tw2471258877279842571:=0
def tw5987462830480649245:=0
def tw8165348713861562115:=0
def tw7675625579970122869:=0
def tw17998478300964285869:=0
def tw13410192746866315438:=0
def tw227456986288424328:=0
def tw15614210929633258867:=0
def tw13020682858342959753:=0
def tw6980058966738095913:=0
def tw16358006792075142410:=0
def tw14019082765064807975:=0
def tw10323634031942132048:=0
def tw16881238359867912192:=0
def tw3096866929473904906:=0
def tw3024518420535893236:=0
def tw17296120539178409073:=0
def tw10437037570156953721:=0
def tw2432815471382782767:=0
def tw13840316231047455691:=0
def tw9694942217682952915:=0
def tw1504691483250213359:=0
def tw14718757470926340171:=0
def tw4774371572291638538:=0
def tw17944925942374439628:=0
def tw13624660057530068121:=0
def tw14348647676356873264:=0
def tw10209026393619243561:=0
def tw212985804819349533:=0
def tw4427123318939721453:=0
def tw10674246671748323466:=0
end PySem.W.Fast
open PySem PySem.W PyProof.Rows
set_option maxRecDepth 100000 in
set_option maxHeartbeats 0 in
theorem PySem.Challenge.cw_joinedever_k61_papers_judged_holds : PySem.Challenge.rw_joinedever_k61_papers_judged.Holds := by
 w_on;o_law;k_head;(case hw=>w_witness2)
 k_fill
 refine K61.walk (l:=PySem.Challenge.rw_joinedever_k61_papers_judged) rfl rfl (fun w h Y=>PySem.W.kIn_of Y) ?F
 case F=>
  intro w mg fa h KX G hmg
  refine' K61.all_mk KX G hmg ?a0 ?l0 ?c0 ?k0 ?a1 ?l1 ?c1 ?k1 ?a2 ?l2 ?c2 ?k2 ?a3 ?l3 ?c3 ?k3 ?a4 ?l4 ?c4 ?k4 ?a5 ?l5 ?c5 ?k5 ?a6 ?l6 ?c6 ?k6 ?a7 ?l7 ?c7 ?k7 ?a8 ?l8 ?c8 ?k8 ?a9 ?l9 ?c9 ?k9 ?a10 ?l10 ?c10 ?k10 ?a11 ?l11 ?c11 ?k11 ?a12 ?l12 ?c12 ?k12 ?a13 ?l13 ?c13 ?k13 ?a14 ?l14 ?c14 ?k14 ?a15 ?l15 ?c15 ?k15 ?a16 ?l16 ?c16 ?k16 ?a17 ?l17 ?c17 ?k17 ?a18 ?l18 ?c18 ?k18 ?a19 ?l19 ?c19 ?k19 ?a20 ?l20 ?c20 ?k20 ?a21 ?l21 ?c21 ?k21 ?a22 ?l22 ?c22 ?k22 ?a23 ?l23 ?c23 ?k23 ?a24 ?l24 ?c24 ?k24 ?a25 ?l25 ?c25 ?k25 ?a26 ?l26 ?c26 ?k26 ?a27 ?l27 ?c27 ?k27 ?a28 ?l28 ?c28 ?k28 ?a29 ?l29 ?c29 ?k29 ?a30 ?l30 ?c30 ?k30 ?a31 ?l31 ?c31 ?k31 ?i0 ?z0 ?z1 ?z2 ?z3 ?z4 ?z5 ?z6 ?z7 ?z8 ?z9 ?z10 ?z11 ?z12 ?z13 ?z14 ?z15 ?z16
  (case a0=>k_is)
  (case l0=>k_is)
  (case c0=>k_is)
  (case k0=>k_is)
  (case a1=>k_is)
  (case l1=>k_is)
  (case c1=>k_is)
  (case k1=>k_is)
  (case a2=>k_is)
  (case l2=>k_is)
  (case c2=>k_is)
  (case k2=>k_is)
  (case a3=>k_is)
  (case l3=>k_is)
  (case c3=>k_is)
  (case k3=>k_is)
  (case a4=>k_is)
  (case l4=>k_is)
  (case c4=>k_is)
  (case k4=>k_is)
  (case a5=>k_is)
  (case l5=>k_is)
  (case c5=>k_is)
  (case k5=>k_is)
  (case a6=>k_is)
  (case l6=>k_is)
  (case c6=>k_is)
  (case k6=>k_is)
  (case a7=>k_is)
  (case l7=>k_is)
  (case c7=>k_is)
  (case k7=>k_is)
  (case a8=>k_is)
  (case l8=>k_is)
  (case c8=>k_is)
  (case k8=>k_is)
  (case a9=>k_is)
  (case l9=>k_is)
  (case c9=>k_is)
  (case k9=>k_is)
  (case a10=>k_is)
  (case l10=>k_is)
  (case c10=>k_is)
  (case k10=>k_is)
  (case a11=>k_is)
  (case l11=>k_is)
  (case c11=>k_is)
  (case k11=>k_is)
  (case a12=>k_is)
  (case l12=>k_is)
  (case c12=>k_is)
  (case k12=>k_is)
  (case a13=>k_is)
  (case l13=>k_is)
  (case c13=>k_is)
  (case k13=>k_is)
  (case a14=>k_is)
  (case l14=>k_is)
  (case c14=>k_is)
  (case k14=>k_is)
  (case a15=>k_is)
  (case l15=>k_is)
  (case c15=>k_is)
  (case k15=>k_is)
  (case a16=>k_is)
  (case l16=>k_is)
  (case c16=>k_is)
  (case k16=>k_is)
  (case a17=>k_is)
  (case l17=>k_is)
  (case c17=>k_is)
  (case k17=>k_is)
  (case a18=>k_is)
  (case l18=>k_is)
  (case c18=>k_is)
  (case k18=>k_is)
  (case a19=>k_is)
  (case l19=>k_is)
  (case c19=>k_is)
  (case k19=>k_is)
  (case a20=>k_is)
  (case l20=>k_is)
  (case c20=>k_is)
  (case k20=>k_is)
  (case a21=>k_is)
  (case l21=>k_is)
  (case c21=>k_is)
  (case k21=>k_is)
  (case a22=>k_is)
  (case l22=>k_is)
  (case c22=>k_is)
  (case k22=>k_is)
  (case a23=>k_is)
  (case l23=>k_is)
  (case c23=>k_is)
  (case k23=>k_is)
  (case a24=>k_is)
  (case l24=>k_is)
  (case c24=>k_is)
  (case k24=>k_is)
  (case a25=>k_is)
  (case l25=>k_is)
  (case c25=>k_is)
  (case k25=>k_is)
  (case a26=>k_is)
  (case l26=>k_is)
  (case c26=>k_is)
  (case k26=>k_is)
  (case a27=>k_is)
  (case l27=>k_is)
  (case c27=>k_is)
  (case k27=>k_is)
  (case a28=>k_is)
  (case l28=>k_is)
  (case c28=>k_is)
  (case k28=>k_is)
  (case a29=>k_is)
  (case l29=>k_is)
  (case c29=>k_is)
  (case k29=>k_is)
  (case a30=>k_is)
  (case l30=>k_is)
  (case c30=>k_is)
  (case k30=>k_is)
  (case a31=>k_is)
  (case l31=>k_is)
  (case c31=>k_is)
  (case k31=>k_is)
  (case i0=>k_is)
  (case z0=>k_is)
  (case z1=>k_is)
  (case z2=>k_is)
  (case z3=>k_is)
  (case z4=>k_is)
  (case z5=>k_is)
  (case z6=>k_is)
  (case z7=>k_is)
  (case z8=>k_is)
  (case z9=>k_is)
  (case z10=>k_is)
  (case z11=>k_is)
  (case z12=>k_is)
  (case z13=>k_is)
  (case z14=>k_is)
  (case z15=>k_is)
  (case z16=>k_is)
