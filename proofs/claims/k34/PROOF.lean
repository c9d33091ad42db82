import PyProof.Rows.All
import Wide.All
import OpenK.AllK
import Wide.FinOn
import Lean
import PyProof.EqAt
import PyProof.EqKinds
import PyProof.TupleCall
import PySem.Challenge.RW_joinedever_k34_things_of_anything
import PyProof.Draws
import PyProof.ZipIter
import PyProof.TupleIter
import PyProof.ListRange
import PyProof.CollectWalk
import KE.KSortTup
import KE.KDictSum
import PyProof.Rows.Range3
import KE.KEqDict
import KE.KRevIter
import PyProof.EnumStmt
import PyProof.CallStr
import PyProof.ReprLen
import PyProof.StrLawsRepr
import Flt.Len
set_option Elab.async false
set_option linter.all false
set_option maxRecDepth 100000
set_option maxHeartbeats 4000000
namespace L2
open PySem PySem.Spec PyProof.Rows
abbrev Key:=Sum Int Str
def keyIs:Key→Value→Bool
 | .inl k,v=>Value.isInt k v
 | .inr x,v=>Value.isStrOf x v
def keyH (w:World):Key→Int
 | .inl k=>hashInt k
 | .inr x=>hashStr w x
theorem Bl:∀{k:Key} {v:Value},keyIs k v=true→(∃i t,k=Sum.inl i∧v=Value.int i t)∨(∃x t,k=Sum.inr x∧v=Value.str x t)
 | .inl i,v,h=>by
  obtain ⟨t,e⟩:=Value.isInt_shape (k:=i) (v:=v) h
  exact .inl ⟨i,t,rfl,e⟩
 | .inr x,v,h=>by
  obtain ⟨t,e⟩:=Value.isStrOf_shape (x:=x) (v:=v) h
  exact .inr ⟨x,t,rfl,e⟩
theorem keyIs_int (i:Int) (t:Tok):keyIs (.inl i) (.int i t)=true:=by simp [keyIs,Value.isInt]
theorem keyIs_str (x:Str) (t:Tok):keyIs (.inr x) (.str x t)=true:=by simp [keyIs,Value.isStrOf]
theorem key_ll (a b:Int):decide ((Sum.inl a:Key)=Sum.inl b)=(a==b):=by
 by_cases e:a=b
 ·subst e;simp
 ·have h:¬(Sum.inl a:Key)=Sum.inl b:=fun q=>e (Sum.inl.inj q)
  rw [decide_eq_false h]
  exact (beq_eq_false_iff_ne.mpr e).symm
theorem key_rr (a b:Str):decide ((Sum.inr a:Key)=Sum.inr b)=decide (a=b):=by
 by_cases e:a=b
 ·subst e;simp
 ·have h:¬(Sum.inr a:Key)=Sum.inr b:=fun q=>e (Sum.inr.inj q)
  rw [decide_eq_false h,decide_eq_false e]
theorem key_lr (a:Int) (b:Str):decide ((Sum.inl a:Key)=Sum.inr b)=false:=decide_eq_false (fun q=>nomatch q)
theorem key_rl (a:Str) (b:Int):decide ((Sum.inr a:Key)=Sum.inl b)=false:=decide_eq_false (fun q=>nomatch q)
def Cf (prog:Program) (w:World):PySem.KeyKind prog w Key where
 is:=keyIs
 hash:=keyH w
 inj:=fun v a b ha hb=>by
  rcases Bl ha with ⟨i,t,rfl,rfl⟩|⟨x,t,rfl,rfl⟩
  ·rcases Bl hb with ⟨j,u,rfl,e⟩|⟨y,u,rfl,e⟩
   ·injection e with e1 _;rw [e1]
   ·exact nomatch e
  ·rcases Bl hb with ⟨j,u,rfl,e⟩|⟨y,u,rfl,e⟩
   ·exact nomatch e
   ·injection e with e1 _;rw [e1]
 byValue:=fun k v h=>by
  rcases Bl h with ⟨i,t,rfl,rfl⟩|⟨x,t,rfl,rfl⟩<;> rfl
 pyHash:=fun hv h=>by
  rcases Bl hv with ⟨i,t,rfl,rfl⟩|⟨x,t,rfl,rfl⟩
  ·exact wpAny_pyHash_int h
  ·exact wpAny_pyHash_str h
 eqBool:=fun hu hv h=>by
  rcases Bl hu with ⟨i,t,rfl,rfl⟩|⟨x,t,rfl,rfl⟩
  ·rcases Bl hv with ⟨j,u,rfl,rfl⟩|⟨y,u,rfl,rfl⟩
   ·rw [key_ll] at h;exact wpAny_eqBool_int h
   ·rw [key_lr] at h;exact SeqAt.EqAt.int_str i t y u _ _ _ _ h
  ·rcases Bl hv with ⟨j,u,rfl,rfl⟩|⟨y,u,rfl,rfl⟩
   ·rw [key_rl] at h;exact SeqAt.EqAt.str_int x t j u _ _ _ _ h
   ·rw [key_rr] at h;exact wpAny_eqBool_str h
 «strs» :=fun k x t v h=>by
  rcases Bl h with ⟨i,u,rfl,e⟩|⟨y,u,rfl,e⟩
  ·exact nomatch e
  ·injection e with e1 _
   subst e1
   cases v<;> rfl
theorem mixKind_int (prog:Program) (w:World) (i:Int) (t:Tok):(Cf prog w).is (.inl i) (.int i t)=true:=keyIs_int i t
theorem mixKind_str (prog:Program) (w:World) (x:Str) (t:Tok):(Cf prog w).is (.inr x) (.str x t)=true:=keyIs_str x t
end L2
namespace L2
open PySem PySem.Spec PyProof.Rows
inductive V where
 |non|bl (b:Bool)|int (i:Int)|str (x:Str)|byt (b:Array UInt8)|flt (b:UInt64)|ref (a:Addr)|ty (n:String)
 deriving DecidableEq
def RelV:V→Value→Prop
 | .non,u=>u=Value.none
 | .bl b,u=>u=Value.bool b
 | .int i,u=>∃t,u=Value.int i t
 | .str x,u=>∃t,u=Value.str x t
 | .byt b,u=>∃t,u=Value.bytes b t
 | .flt b,u=>∃t,u=Value.float b t
 | .ref a,u=>u=Value.ref a
 | .ty n,u=>u=Value.type n
abbrev Vals:List V→List Value→Prop:=Paired RelV
theorem Vals.length {xs:List V} {us:List Value} (r:Vals xs us):xs.length=us.length:=Paired.length r
theorem Vals.get:∀{xs:List V} {us:List Value} {i:Nat} {x:V},Vals xs us→xs[i]? =some x→∃u,us[i]? =some u∧RelV x u
 |_,_,_,_,.nil,e=>by simp at e
 |_,_,0,_,.cons r _,e=>by simp at e;subst e;exact ⟨_,rfl,r⟩
 |_,_,i+1,x,.cons _ t,e=>by
  obtain ⟨u,h1,h2⟩:=Vals.get (i:=i) (x:=x) t (by simpa using e)
  exact ⟨u,by simpa using h1,h2⟩
theorem Vals.set {x:V} {u:Value} (r:RelV x u):∀{xs:List V} {us:List Value} (i:Nat),Vals xs us→Vals (xs.set i x) (us.set i u)
 |_,_,_,.nil=> .nil
 |_,_,0,.cons _ t=> .cons r t
 |_,_,i+1,.cons q t=> .cons q (Vals.set r i t)
theorem Vals.append:∀{xs ys:List V} {us ws:List Value},Vals xs us→Vals ys ws→Vals (xs++ys) (us++ws)
 |_,_,_,_,.nil,s=>s
 |_,_,_,_,.cons r t,s=> .cons r (Vals.append t s)
theorem Vals.take:∀{xs:List V} {us:List Value} (n:Nat),Vals xs us→Vals (xs.take n) (us.take n)
 |_,_,0,_=> .nil
 |_,_,_+1,.nil=> .nil
 |_,_,n+1,.cons r t=> .cons r (Vals.take n t)
theorem Vals.drop:∀{xs:List V} {us:List Value} (n:Nat),Vals xs us→Vals (xs.drop n) (us.drop n)
 |_,_,0,r=>r
 |_,_,_+1,.nil=> .nil
 |_,_,n+1,.cons _ t=>Vals.drop n t
def RelO:Option V→Option Value→Prop
 |some v,some u=>RelV v u
 |none,none=>True
 |_,_=>False
def KV {κ:Type}:List (κ×V)→List (κ×Value)→Prop:=Paired fun (p:κ×V) (q:κ×Value)=>p.1=q.1∧RelV p.2 q.2
def kV:Key→V
 | .inl i=> .int i
 | .inr x=> .str x
inductive HO where
 |lst (xs:List V)
 |tup (xs:List V)
 |dK (kvs:List (Key×V))|dT (kvs:List (List Key×V))
 |set (S:Int→Bool) (n:Nat)
 |ins (C dx:Addr) (fs:List (Str×V))
 |own (x:Addr)
 |xd (fs:List (Str×V))
 |met (f x:Addr)
 |rng (lo hi:Int)
 |frz (o:Obj) (u:HO)
 |tbl (ps:Array Value)
 |ext (φ:Heap→Prop)
abbrev Hp:=Addr→Option HO
def upd (H:Hp) (a:Addr) (o:HO):Hp:=fun b=>if b=a then some o else H b
theorem Ab {H:Hp} {a:Addr} {o:HO}:upd H a o a=some o:=by unfold upd;rw [if_pos rfl]
theorem A0 {H:Hp} {a b:Addr} {o:HO} (h:b≠a):upd H a o b=H b:=by unfold upd;rw [if_neg h]
theorem upd_upd {H:Hp} {a:Addr} {o u:HO}:upd (upd H a o) a u=upd H a u:=by
 funext b;unfold upd;split<;> rfl
theorem ne_of {H:Hp} {a b:Addr} {o u:HO} (h:H a=some o) (h':H b=some u) (d:o≠u):a≠b:=by
 intro e;subst e;rw [h] at h';exact d (Option.some.inj h')
theorem Bj {H:Hp} {a b:Addr} {o:HO} (h:H a=some o) (h':H b=none):a≠b:=by
 intro e;subst e;rw [h] at h';cases h'
def IsTupN (h:Heap) (a:Addr) (items:Array Value):Prop:=∃o,h.get? a=some o∧o.cls= .type "tuple"∧o.dict=none∧∃n,o.data= .seq items n
theorem IsTupN.new (h:Heap) (items:Array Value):IsTupN (h.push {cls:= .type "tuple",data:= .seq items}) h.objs.size items:=⟨_,Heap.get?_push_size _ rfl,rfl,rfl,_,rfl⟩
theorem IsTupN.tup {h:Heap} {a:Addr} {items:Array Value} (x:IsTupN h a items):IsTup h a items:=let ⟨o,e,c,_,n,d⟩:=x;⟨o,e,c,n,d⟩
section
variable (P:Program) (w:World)
def ObjOk (H:Hp) (h:Heap) (a:Addr):HO→Prop
 | .lst xs=>xs.length≤sizeLine∧∃(its:List Value) (n:Nat),Vals xs its∧h.get? a=some {cls:= .type "list",data:= .seq its.toArray n}
 | .tup xs=>xs.length≤sizeLine∧∃its:List Value,Vals xs its∧IsTupN h a its.toArray
 | .dK kvs=>kvs.length≤sizeLine∧(a==sysModules)=false∧∃vs,KV kvs vs∧h.DictOf (Cf P w) a vs
 | .dT kvs=>kvs.length≤sizeLine∧(a==sysModules)=false∧∃xs:List (List Key×Addr×Value),
   Paired (fun (p:List Key×V) (q:List Key×Addr×Value)=>p.1=q.1∧H q.2.1=some (.tup (p.1.map kV))∧RelV p.2 q.2.2) kvs xs∧
   ∃o es ep,h.get? a=some o∧o.ExactDict∧o.data= .dict es ep∧es.toList=xs.map (entryOfKey (tupleKind (Cf P w)))∧(xs.map (·.1)).Nodup
 | .set S n=>h.SetOf (intKind P w) a S n
 | .ins C dx fs=>H dx=some (.own a)∧fs.length≤1000∧dx≠a∧h.get? a=some (PySem.W.instObj C dx)∧
   ∃mA,h.Ns1 dx mA∧(∀f,RelO (fs.lookup f) (mA f))∧PySem.Within mA (fs.map (·.1))
 | .own _=>∃o,h.get? a=some o
 | .xd fs=>∃mA,h.Ns1 a mA∧∀f,RelO (fs.lookup f) (mA f)
 | .rng lo hi=>∃t u v,h.get? a=some {cls:= .type "range",data:= .fields #[.int lo t,.int hi u,.int 1 v]}
 | .frz o u=>h.get? a=some o∧ObjOk H h a u
 | .tbl ps=>h.get? a=some {cls:= .none,data:= .fields ps}
 | .met f x=>h.get? a=some (PySem.W.methodObj (.ref f) (.ref x))
 | .ext φ=>φ h∧(∃o,h.get? a=some o)∧∀h1 h2:Heap,φ h1→(∀o,h1.get? a=some o→h2.get? a=some o)→φ h2
def HOk (H:Hp) (h:Heap):Prop:=∀a o,H a=some o→ObjOk P w H h a o
end
section
variable {P:Program} {w:World} {H H':Hp} {h h':Heap} {a:Addr} {o:HO}
theorem ObjOk.lt (x:ObjOk P w H h a o):a<h.objs.size:=by
 cases o with
 |lst xs=>obtain ⟨_,_,_,_,e⟩:=x;exact Heap.lt_size e
 |tup xs=>obtain ⟨_,_,_,p⟩:=x;exact p.tup.lt
 |dK kvs=>obtain ⟨_,_,_,_,o,_,_,e,_⟩:=x;exact Heap.lt_size e
 |dT kvs=>obtain ⟨_,_,_,_,o,_,_,e,_⟩:=x;exact Heap.lt_size e
 |set S n=>obtain ⟨o,_,_,_,e,_⟩:=x;exact Heap.lt_size e
 |ins C dx fs=>obtain ⟨_,_,_,e,_⟩:=x;exact Heap.lt_size e
 |own y=>obtain ⟨_,e⟩:=x;exact Heap.lt_size e
 |xd fs=>obtain ⟨_,⟨_,_,_,e,_⟩,_⟩:=x;exact Heap.lt_size e
 |rng lo hi=>obtain ⟨_,_,_,e⟩:=x;exact Heap.lt_size e
 |frz ob u=>obtain ⟨e,_⟩:=x;exact Heap.lt_size e
 |tbl ps=>exact Heap.lt_size (show h.get? a=some _ from x)
 |met f y=>exact Heap.lt_size (show h.get? a=some _ from x)
 |ext φ=>obtain ⟨_,⟨_,e⟩,_⟩:=x;exact Heap.lt_size e
theorem Paired.mapP {α β:Type} {F G:α→β→Prop}:∀{l₁:List α} {l₂:List β},Paired F l₁ l₂→(∀a b,F a b→G a b)→Paired G l₁ l₂
 |_,_,.nil,_=> .nil
 |_,_,.cons r t,f=> .cons (f _ _ r) (Paired.mapP t f)
theorem ObjOk.stay (x:ObjOk P w H h a o) (k:∀b u,(b=a∨H b=some (.own a))→h.get? b=some u→h'.get? b=some u)
  (ho:∀b,H b=some (.own a)→H' b=some (.own a)) (ht:∀b xs,H b=some (.tup xs)→H' b=some (.tup xs)):ObjOk P w H' h' a o:=by
 induction o with
 |lst xs=>obtain ⟨z,its,n,r,e⟩:=x;exact ⟨z,its,n,r,k _ _ (.inl rfl) e⟩
 |tup xs=>obtain ⟨z,its,r,ob,e,c⟩:=x;exact ⟨z,its,r,ob,k _ _ (.inl rfl) e,c⟩
 |dK kvs=>obtain ⟨z,y,vs,r,ob,es,ep,e,c⟩:=x;exact ⟨z,y,vs,r,ob,es,ep,k _ _ (.inl rfl) e,c⟩
 |dT kvs=>
  obtain ⟨z,y,xs,r,ob,es,ep,e,c⟩:=x
  exact ⟨z,y,xs,Paired.mapP r fun p q z=>⟨z.1,ht _ _ z.2.1,z.2.2⟩,ob,es,ep,k _ _ (.inl rfl) e,c⟩
 |set S n=>obtain ⟨ob,es,ep,t,e,c⟩:=x;exact ⟨ob,es,ep,t,k _ _ (.inl rfl) e,c⟩
 |ins C dx fs=>
  obtain ⟨d,z,ne,e,mA,⟨od,es,ep,e2,c⟩,r⟩:=x
  exact ⟨ho _ d,z,ne,k _ _ (.inl rfl) e,mA,⟨od,es,ep,k _ _ (.inr d) e2,c⟩,r⟩
 |own y=>obtain ⟨ob,e⟩:=x;exact ⟨ob,k _ _ (.inl rfl) e⟩
 |xd fs=>obtain ⟨mA,⟨od,es,ep,e,c⟩,r⟩:=x;exact ⟨mA,⟨od,es,ep,k _ _ (.inl rfl) e,c⟩,r⟩
 |rng lo hi=>obtain ⟨t,u,v,e⟩:=x;exact ⟨t,u,v,k _ _ (.inl rfl) e⟩
 |frz ob u ih=>obtain ⟨e,q⟩:=x;exact ⟨k _ _ (.inl rfl) e,ih q⟩
 |tbl ps=>
  have e:h.get? a=some {cls:= .none,data:= .fields ps}:=x
  show h'.get? a=some {cls:= .none,data:= .fields ps}
  exact k a _ (.inl rfl) e
 |met f y=>
  have e:h.get? a=some (PySem.W.methodObj (.ref f) (.ref y)):=x
  show h'.get? a=some (PySem.W.methodObj (.ref f) (.ref y))
  exact k a _ (.inl rfl) e
 |ext φ=>obtain ⟨p,⟨o,e⟩,st⟩:=x;exact ⟨st _ _ p fun o q=>k _ _ (.inl rfl) q,⟨o,k _ _ (.inl rfl) e⟩,st⟩
theorem HOk.lt (x:HOk P w H h) (e:H a=some o):a<h.objs.size:=(x a o e).lt
theorem HOk.fresh (x:HOk P w H h) (e:h.objs.size≤a):H a=none:=by
 cases q:H a with
 |none=>rfl
 |some u=>exact absurd (Nat.lt_of_lt_of_le (x.lt q) e) (Nat.lt_irrefl _)
theorem HOk.kept (x:HOk P w H h) (k:∀b u,h.get? b=some u→h'.get? b=some u):HOk P w H h':=fun a o e=>
 (x a o e).stay (fun b u _ q=>k b u q) (fun _ q=>q) fun _ _ q=>q
theorem HOk.laid (x:HOk P w H h) (k:∀b u,h.get? b=some u→h'.get? b=some u) (hp:h.objs.size≤a) (new:ObjOk P w (upd H a o) h' a o):HOk P w (upd H a o) h':=fun b u e=>by
 have hn:=x.fresh hp
 by_cases hb:b=a
 ·subst hb;rw [Ab] at e;cases e;exact new
 ·rw [A0 hb] at e
  exact (x b u e).stay (fun c v _ q=>k c v q) (fun c q=>by rw [A0 (Bj q hn)];exact q) fun c xs q=>by rw [A0 (Bj q hn)];exact q
end
def Rd (H:Hp) (a:Addr) (u:HO):Prop:=H a=some u∨∃o,H a=some (.frz o u)
theorem Rd.ok {P:Program} {w:World} {H:Hp} {h:Heap} {a:Addr} {u:HO} (r:Rd H a u) (x:HOk P w H h):ObjOk P w H h a u:=by
 rcases r with r|⟨o,r⟩
 ·exact x a u r
 ·obtain ⟨_,q⟩:=x a _ r
  exact q
def Mut:Option HO→Prop
 |some (.lst _)=>True
 |some (.dK _)=>True
 |some (.dT _)=>True
 |some (.set _ _)=>True
 |some (.ins _ _ _)=>True
 |some (.ext _)=>True
 |_=>False
section
variable {P:Program} {w:World} {H:Hp} {h h':Heap} {x e:Addr} {o':HO}
theorem HOk.write (ok:HOk P w H h) (mu:Mut (H x)) (he:e=x∨H e=some (.own x)) (k:∀b u,b≠e→h.get? b=some u→h'.get? b=some u) (heo:∃u,h'.get? e=some u)
  (new:ObjOk P w (upd H x o') h' x o'):HOk P w (upd H x o') h':=fun b u q=>by
 have nown:∀c y,H c=some (.own y)→c≠x:=fun c y r z=>by subst z;rw [r] at mu;exact mu
 have ntup:∀c xs,H c=some (.tup xs)→c≠x:=fun c xs r z=>by subst z;rw [r] at mu;exact mu
 by_cases hb:b=x
 ·subst hb;rw [Ab] at q;cases q;exact new
 ·rw [A0 hb] at q
  by_cases hbe:b=e
  ·have q':H b=some (.own x):=by
    rcases he with z|z
    ·exact absurd (hbe.trans z) hb
    ·rw [hbe];exact z
   rw [q] at q';cases q'
   obtain ⟨v,hv⟩:=heo
   exact ⟨v,by rw [hbe];exact hv⟩
  ·refine (ok b u q).stay (fun c v hc r=>k c v ?_ r) (fun c r=>by rw [A0 (nown c b r)];exact r) fun c xs r=>by rw [A0 (ntup c xs r)];exact r
   rcases hc with rfl|hc
   ·exact hbe
   ·rintro rfl
    rcases he with z|z
    ·exact nown c b hc z
    ·rw [hc] at z;cases z;exact hb rfl
end
structure Un (fs ex:List Addr) (H H':Hp) (h h':Heap):Prop where
 keep:∀b o,h.get? b=some o→H b=none→b ∉ fs→b ∉ ex→h'.get? b=some o
 slot:∀b o,h.get? b=some o→H b=none→b∈fs→b ∉ ex→∃sl,h'.get? b=some {o with slots:=sl}
 free:∀b o,h.get? b=some o→H b=none→b ∉ ex→H' b=none
 there:∀b o,h.get? b=some o→b ∉ ex→∃o',h'.get? b=some o'
 tups:∀b xs,H b=some (.tup xs)→H' b=some (.tup xs)
 frzs:∀b o u,H b=some (.frz o u)→H' b=some (.frz o u)
 tbls:∀b ps,H b=some (.tbl ps)→∃more,H' b=some (.tbl (ps++more))
section
variable {fs fs' ex ex':List Addr} {H H1 H2:Hp} {h h1 h2 h':Heap} {a x e:Addr} {o:HO}
theorem Un.any (u:Un fs ex H H1 h h1) {b:Addr} {ob:Obj} (q:h.get? b=some ob) (n:H b=none) (hx:b ∉ ex):∃sl,h1.get? b=some {ob with slots:=sl}:=by
 by_cases hb:b∈fs
 ·exact u.slot b ob q n hb hx
 ·exact ⟨ob.slots,u.keep b ob q n hb hx⟩
theorem Un.kept (k:∀b u,h.get? b=some u→h'.get? b=some u):Un fs ex H H h h':=
 ⟨fun b ob q _ _ _=>k b ob q,fun b ob q _ _ _=>⟨ob.slots,k b ob q⟩,fun _ _ _ n _=>n,fun b ob q _=>⟨ob,k b ob q⟩,fun _ _ q=>q,fun _ _ _ q=>q,fun _ ps q=>⟨#[],by rw [q];simp⟩⟩
theorem Un.refl:Un fs ex H H h h:=Un.kept fun _ _ q=>q
theorem Un.laid (k:∀b u,h.get? b=some u→h'.get? b=some u) (hp:h.objs.size≤a) (hn:H a=none):Un fs ex H (upd H a o) h h' where
 keep:=fun b u q _ _ _=>k b u q
 slot:=fun b u q _ _ _=>⟨u.slots,k b u q⟩
 free:=fun b u q n _=>by rw [A0 (Nat.ne_of_lt (Nat.lt_of_lt_of_le (Heap.lt_size q) hp))];exact n
 there:=fun b u q _=>⟨u,k b u q⟩
 tups:=fun b xs q=>by rw [A0 (Bj q hn)];exact q
 frzs:=fun b u xs q=>by rw [A0 (Bj q hn)];exact q
 tbls:=fun b ps q=>⟨#[],by rw [A0 (Bj q hn),q];simp⟩
theorem Un.write (mu:Mut (H x)) (he:e=x∨H e=some (.own x)) (k:∀b u,b≠e→h.get? b=some u→h'.get? b=some u) (heo:∃u,h'.get? e=some u):Un fs ex H (upd H x o) h h':=by
 have hx:∀b,H b=none→b≠x:=fun b n z=>by subst z;rw [n] at mu;exact mu
 have hb:∀b,H b=none→b≠e:=fun b n z=>by
  subst z
  rcases he with r|r
  ·exact hx b n r
  ·rw [n] at r;cases r
 have hm:∀b u,H b=some u→¬Mut (some u)→b≠x:=fun b u q nm z=>by subst z;rw [q] at mu;exact nm mu
 refine ⟨fun b u q n _ _=>k b u (hb b n) q,fun b u q n _ _=>⟨u.slots,k b u (hb b n) q⟩,fun b u q n _=>by rw [A0 (hx b n)];exact n,fun b u q _=> ?_,
  fun b xs q=>by rw [A0 (hm b _ q fun z=>z)];exact q,fun b u xs q=>by rw [A0 (hm b _ q fun z=>z)];exact q,fun b ps q=>⟨#[],by rw [A0 (hm b _ q fun z=>z),q];simp⟩⟩
 by_cases hbe:b=e
 ·subst hbe;exact heo
 ·exact ⟨u,k b u hbe q⟩
end
def trk (h:Heap) (H:Hp):List Addr:=(List.range h.objs.size).filter fun a=>(H a).isSome
def hidT (h:Heap) (H:Hp):Heap:=PySem.W.hideAll h (trk h H)
theorem hidT_size (h:Heap) (H:Hp):(hidT h H).objs.size=h.objs.size:=PySem.W.hideAll_size _ _
theorem hidT_get {h:Heap} {H:Hp} {b:Addr} {o:Obj} (e:h.get? b=some o) (n:H b=none):(hidT h H).get? b=some o:=
 PySem.W.hideAll_get _ e fun hm=>by
  have q:(H b).isSome=true:=(List.mem_filter.mp hm).2
  rw [n] at q;simp at q
theorem of_hidT {h:Heap} {H:Hp} {b:Addr} {o:Obj} (e:(hidT h H).get? b=some o):h.get? b=some o∧H b=none:=by
 have e':h.get? b=some o:=PySem.W.of_hideAll (trk h H) e
 refine ⟨e',?_⟩
 cases q:H b with
 |none=>rfl
 |some x=>
  have hm:b∈trk h H:=List.mem_filter.mpr ⟨List.mem_range.mpr (Heap.lt_size e'),by simp [q]⟩
  have z:(hidT h H).get? b=none:=PySem.W.hideAll_none (trk h H) hm
  rw [z] at e;cases e
end L2
namespace L2
open PySem PySem.Spec PyProof.Rows
structure Mod (K:PySem.W.Frag) (mg:Str→Option Value) (base:Heap):Prop where
 kin:K.In base
 glob:base.Ns mainGlobals mg
 blt:∃mb,base.Ns builtinsNs mb∧∀x:Str,x≠"__name__"→mb x=bootBuiltins x
 nolimit:base.NoLimit
structure Cx where
 prog:Program
 w:World
 K:PySem.W.Frag
 mg:Str→Option Value
 base:Heap
 A:Around
 N:List Str
 s₀:Shared
 H₀:Hp
 env:Env
 outer:List Env
 stack:List Env
 ex:List Addr
 fn:Str→Bool
 calm:Bool
 pn:List (Addr×Obj)
 xe:Value→Shared→Prop
def frs (l:List Env):List Addr:=l.filterMap (·.frame)
abbrev Cx.fs (X:Cx):List Addr:=frs X.outer
def Vis (sc:Scope) (x:Str):Prop:=sc.names.lookup x=some .local∨sc.names.lookup x=some .cell∨sc.names.lookup x=some .free
def Loc (sc:Scope) (x:Str):Prop:=sc.names.lookup x=some .local∨sc.names.lookup x=some .cell
def Look (env:Env) (h:Heap) (m:Str→Option Value) (x:Str) (u:Value):Prop:=
 (env.kindOf x=some .local∧m x=some u)∨((env.kindOf x=some .cell∨env.kindOf x=some .free)∧∃c,env.cells.lookup x=some c∧h.IsCell c (some u))
structure Cx.Ok (X:Cx):Prop where
 mod:Mod X.K X.mg X.base
 kind:X.env.scope.kind= .function
 glob:X.env.globals=mainGlobals
 blt:X.env.builtins=builtinsNs
 above:X.s₀.heap.objs.size≤X.env.locals
 inj:∀x y c,X.env.cells.lookup x=some c→X.env.cells.lookup y=some c→x=y
 has:∀x,(X.env.kindOf x=some .cell∨X.env.kindOf x=some .free)→∃c,X.env.cells.lookup x=some c
 cab:∀x c,X.fn x=true→X.env.cells.lookup x=some c→X.s₀.heap.objs.size≤c
 hd:X.calm=true→X.A.handled=none
 frames:X.A.frames=some X.stack
 stk:X.stack=X.outer∨(X.stack=X.env::X.outer∧X.env.frame=some X.env.locals)
 exf:∀b∈X.ex,b≠X.env.locals∧∀x c,X.env.cells.lookup x=some c→c≠b
 bs:∀b o,X.base.get? b=some o→X.s₀.heap.get? b=some o∧X.H₀ b=none
 bsz:X.base.objs.size≤X.s₀.heap.objs.size
 noex:∀b o,X.base.get? b=some o→b ∉ X.ex
 exfs:∀b∈X.ex,b ∉ X.fs
 funs:X.s₀.heap.FunFrames X.base X.outer
 frf:∀b∈X.fs,X.H₀ b=none
structure Inv (X:Cx) (pins:List (Addr×Obj)) (σ:List (Option V)) (H:Hp) (s:Shared):Prop where
 ok:X.Ok
 os:s.os=X.s₀.os
 bare:AllBare s.gens
 base:Un X.fs X.ex X.H₀ H X.s₀.heap s.heap
 loc:∃m,s.heap.Ns X.env.locals m∧∀(i:Nat) (x:Str) (v:V),X.N[i]? =some x→σ[i]? =some (some v)→Vis X.env.scope x→∃u,RelV v u∧Look X.env s.heap m x u
 cell:∀x c,X.env.cells.lookup x=some c→∃v,s.heap.IsCell c v
 free:H X.env.locals=none
 freeC:∀x c,X.env.cells.lookup x=some c→H c=none
 pin:∀p∈X.pn++pins,s.heap.get? p.1=some p.2∧H p.1=none∧p.1≠X.env.locals∧p.1 ∉ X.fs∧∀v,p.2.data≠ .cell v
 hok:HOk X.prog X.w H s.heap
 len:σ.length=X.N.length
section
variable {X:Cx} {pins:List (Addr×Obj)} {σ:List (Option V)} {H H':Hp} {s:Shared} {h':Heap}
theorem Cx.Ok.nofr (ok:X.Ok) {b:Addr} {o:Obj} (e:X.base.get? b=some o):b ∉ X.fs:=fun hb=>by
 have:=(ok.funs.mem hb).1
 rw [e] at this;cases this
theorem Inv.bs (I:Inv X pins σ H s):∀b o,X.base.get? b=some o→s.heap.get? b=some o∧H b=none:=fun b o e=>
 ⟨I.base.keep b o (I.ok.bs b o e).1 (I.ok.bs b o e).2 (I.ok.nofr e) (I.ok.noex b o e),I.base.free b o (I.ok.bs b o e).1 (I.ok.bs b o e).2 (I.ok.noex b o e)⟩
theorem Inv.bk (I:Inv X pins σ H s):∀b o,X.base.get? b=some o→s.heap.get? b=some o:=fun b o e=>(I.bs b o e).1
theorem Inv.mod (I:Inv X pins σ H s):Mod X.K X.mg X.base:=I.ok.mod
theorem Inv.kIn (I:Inv X pins σ H s):X.K.In s.heap:=I.ok.mod.kin.keeps I.bk
theorem Inv.lt (I:Inv X pins σ H s):X.env.locals<s.heap.objs.size:=let ⟨_,hn,_⟩:=I.loc;hn.lt
theorem Inv.sz (I:Inv X pins σ H s):X.s₀.heap.objs.size≤s.heap.objs.size:=Nat.le_trans I.ok.above (Nat.le_of_lt I.lt)
theorem Inv.nofs (I:Inv X pins σ H s) {a:Addr} (h:s.heap.objs.size≤a):a ∉ X.fs:=fun hb=>by
 obtain ⟨_,o,ho,_⟩:=I.ok.funs.mem hb
 exact absurd (Nat.lt_of_lt_of_le (Heap.lt_size ho) (Nat.le_trans I.sz h)) (Nat.lt_irrefl _)
theorem Inv.cne (I:Inv X pins σ H s):∀x c,X.env.cells.lookup x=some c→c≠X.env.locals:=fun x c e z=>by
 obtain ⟨v,o,ho,hd⟩:=I.cell x c e
 obtain ⟨m,⟨o',es,ep,ho',hd',_⟩,_⟩:=I.loc
 rw [z,ho'] at ho;cases ho;rw [hd'] at hd;cases hd
theorem Inv.funs (I:Inv X pins σ H s):s.heap.FunFrames X.base X.outer:=by
 have all:∀(l:List Env),(∀b∈frs l,b∈X.fs)→X.s₀.heap.FunFrames X.base l→s.heap.FunFrames X.base l:=by
  intro l
  induction l with
  |nil=>intro _ _;trivial
  |cons env r ih=>
   intro hs hl
   obtain ⟨hk,⟨L,o,hf,hn,ho,hd⟩,hr⟩:=hl
   have hL:L∈X.fs:=hs L (by unfold frs;rw [List.filterMap_cons,hf];exact List.mem_cons_self)
   obtain ⟨sl,e⟩:=I.base.slot L o ho (I.ok.frf L hL) hL fun z=>I.ok.exfs L z hL
   exact ⟨hk,⟨L,_,hf,hn,e,hd⟩,ih (fun b hb=>hs b (by unfold frs;rw [List.filterMap_cons,hf];exact List.mem_cons_of_mem _ hb)) hr⟩
 exact all X.outer (fun _ hb=>hb) I.ok.funs
theorem Inv.stack (I:Inv X pins σ H s):s.heap.FunFrames X.base X.stack:=by
 rcases I.ok.stk with e|⟨e,hf⟩
 ·rw [e];exact I.funs
 ·rw [e]
  obtain ⟨m,hn,_⟩:=I.loc
  refine .cons (by rw [I.ok.kind];decide) hf hn ?_ I.funs
  exact Heap.get?_none_of_le (Nat.le_trans I.ok.bsz I.ok.above)
theorem Inv.stkSub (I:Inv X pins σ H s):∀b∈frs X.stack,b∈X.env.locals::X.fs:=fun b hb=>by
 rcases I.ok.stk with e|⟨e,hf⟩
 ·rw [e] at hb;exact List.mem_cons_of_mem _ hb
 ·rw [e] at hb
  unfold frs at hb
  rw [List.filterMap_cons,hf] at hb
  exact hb
theorem Inv.stkFree (I:Inv X pins σ H s):∀b∈frs X.stack,H b=none:=fun b hb=>by
 rcases List.mem_cons.mp (I.stkSub b hb) with e|hb
 ·rw [e];exact I.free
 ·obtain ⟨_,o,ho,_⟩:=I.ok.funs.mem hb
  exact I.base.free b o ho (I.ok.frf b hb) fun z=>I.ok.exfs b z hb
theorem Inv.step {g':Array GenState} {t':Nat} {d':Drawn} {ch:List Addr} (I:Inv X pins σ H s)
  (hch:∀b∈ch,(b∈X.ex∨X.s₀.heap.objs.size≤b)∧b≠X.env.locals∧(∀x c,X.env.cells.lookup x=some c→c≠b)∧∀p∈X.pn++pins,p.1≠b)
  (keep:∀b o,b≠X.env.locals→b ∉ X.fs→b ∉ ch→s.heap.get? b=some o→H b=none→h'.get? b=some o)
  (slot:∀b o,b≠X.env.locals→b∈X.fs→b ∉ ch→s.heap.get? b=some o→H b=none→∃sl,h'.get? b=some {o with slots:=sl}) (free:∀b o,b ∉ ch→s.heap.get? b=some o→H b=none→H' b=none)
  (there:∀b o,b ∉ ch→s.heap.get? b=some o→∃o',h'.get? b=some o')
  (tups:∀b xs,H b=some (.tup xs)→H' b=some (.tup xs)) (frzs:∀b o u,H b=some (.frz o u)→H' b=some (.frz o u)) (tbls:∀b ps,H b=some (.tbl ps)→∃more,H' b=some (.tbl (ps++more)))
  (ns:∀m,s.heap.Ns X.env.locals m→h'.Ns X.env.locals m) (hok:HOk X.prog X.w H' h') (hg:AllBare g'):
  Inv X pins σ H' {s with heap:=h',gens:=g',drawn:=d',toks:=t'}:=by
 have neL:∀b o,X.s₀.heap.get? b=some o→b≠X.env.locals:=fun b o e=>Nat.ne_of_lt (Nat.lt_of_lt_of_le (Heap.lt_size e) I.ok.above)
 have neC:∀b o,X.s₀.heap.get? b=some o→b ∉ X.ex→b ∉ ch:=fun b o e hx hb=>by
  rcases (hch b hb).1 with z|z
  ·exact hx z
  ·exact absurd (Nat.lt_of_lt_of_le (Heap.lt_size e) z) (Nat.lt_irrefl _)
 have cellK:∀x c,X.env.cells.lookup x=some c→∀v,s.heap.IsCell c v→h'.IsCell c v:=fun x c e v ⟨o,ho,hd⟩=>by
  have nch:c ∉ ch:=fun z=>(hch c z).2.2.1 x c e rfl
  by_cases hc:c∈X.fs
  ·obtain ⟨sl,q⟩:=slot c o (I.cne x c e) hc nch ho (I.freeC x c e)
   exact ⟨_,q,hd⟩
  ·exact ⟨o,keep c o (I.cne x c e) hc nch ho (I.freeC x c e),hd⟩
 refine ⟨I.ok,I.os,hg,⟨fun b o e n hb hx=> ?_,fun b o e n hb hx=> ?_,fun b o e n hx=> ?_,fun b o e hx=> ?_,fun b xs e=>tups b xs (I.base.tups b xs e),fun b o xs e=>frzs b o xs (I.base.frzs b o xs e),fun b ps e=> ?_⟩,?_,fun x c e=> ?_,?_,fun x c e=> ?_,fun p hp=> ?_,hok,I.len⟩
 ·exact keep b o (neL b o e) hb (neC b o e hx) (I.base.keep b o e n hb hx) (I.base.free b o e n hx)
 ·obtain ⟨sl,e1⟩:=I.base.slot b o e n hb hx
  obtain ⟨sl',e2⟩:=slot b _ (neL b o e) hb (neC b o e hx) e1 (I.base.free b o e n hx)
  exact ⟨sl',e2⟩
 ·obtain ⟨o',e1⟩:=I.base.there b o e hx
  exact free b o' (neC b o e hx) e1 (I.base.free b o e n hx)
 ·obtain ⟨o',e1⟩:=I.base.there b o e hx
  exact there b o' (neC b o e hx) e1
 ·obtain ⟨m1,e1⟩:=I.base.tbls b ps e
  obtain ⟨m2,e2⟩:=tbls b _ e1
  exact ⟨m1++m2,by rw [e2,Array.append_assoc]⟩
 ·obtain ⟨m,hn,hl⟩:=I.loc
  refine ⟨m,ns m hn,fun i x v e1 e2 e3=> ?_⟩
  obtain ⟨u,r,l⟩:=hl i x v e1 e2 e3
  refine ⟨u,r,?_⟩
  rcases l with l|⟨k,c,e,z⟩
  ·exact .inl l
  ·exact .inr ⟨k,c,e,cellK x c e _ z⟩
 ·obtain ⟨v,z⟩:=I.cell x c e
  exact ⟨v,cellK x c e v z⟩
 ·obtain ⟨m,⟨o,_,_,ho,_⟩,_⟩:=I.loc
  exact free _ o (fun z=>(hch _ z).2.1 rfl) ho I.free
 ·obtain ⟨v,o,ho,hd⟩:=I.cell x c e
  exact free c o (fun z=>(hch c z).2.2.1 x c e rfl) ho (I.freeC x c e)
 ·obtain ⟨e,n,ne,nf,d⟩:=I.pin p hp
  have nch:p.1 ∉ ch:=fun z=>(hch p.1 z).2.2.2 p hp rfl
  exact ⟨keep p.1 p.2 ne nf nch e n,free p.1 p.2 nch e n,ne,nf,d⟩
theorem Inv.un {t':Nat} (I:Inv X pins σ H s) (u:Un X.fs [] H H' s.heap h') (hok:HOk X.prog X.w H' h'):Inv X pins σ H' {s with heap:=h',toks:=t'}:=by
 obtain ⟨m,⟨o,es,ep,ho,r⟩,_⟩:=id I.loc
 obtain ⟨sl,hL⟩:=u.any ho I.free (by simp)
 exact I.step (g':=s.gens) (d':=s.drawn) (ch:=[]) (fun _ z=>nomatch z) (fun b o _ hb _ e n=>u.keep b o e n hb (by simp)) (fun b o _ hb _ e n=>u.slot b o e n hb (by simp)) (fun b o _ e n=>u.free b o e n (by simp)) (fun b o _ e=>u.there b o e (by simp)) u.tups u.frzs u.tbls (fun m' hm=>by
  obtain ⟨o',es',ep',ho',r'⟩:=hm
  rw [ho] at ho';cases ho'
  exact ⟨_,es',ep',hL,r'⟩) hok I.bare
theorem Inv.call {g':Array GenState} {t':Nat} {d':Drawn} {ch:List Addr} (I:Inv X pins σ H s) (u:Un (frs X.stack) ch H H' s.heap h') (hok:HOk X.prog X.w H' h') (hg:AllBare g')
  (hch:∀b∈ch,(b∈X.ex∨X.s₀.heap.objs.size≤b)∧b≠X.env.locals∧(∀x c,X.env.cells.lookup x=some c→c≠b)∧∀p∈X.pn++pins,p.1≠b):
  Inv X pins σ H' {s with heap:=h',gens:=g',drawn:=d',toks:=t'}:=by
 obtain ⟨m,⟨o,es,ep,ho,r⟩,_⟩:=id I.loc
 obtain ⟨sl,hL⟩:=u.any ho I.free fun z=>(hch _ z).2.1 rfl
 exact I.step (ch:=ch) hch (fun b o hL hb hc e n=>u.keep b o e n (fun z=>(List.mem_cons.mp (I.stkSub b z)).elim hL hb) hc) (fun b o _ _ hc e n=>u.any e n hc) (fun b o hc e n=>u.free b o e n hc) (fun b o hc e=>u.there b o e hc) u.tups u.frzs u.tbls (fun m' hm=>by
  obtain ⟨o',es',ep',ho',r'⟩:=hm
  rw [ho] at ho';cases ho'
  exact ⟨_,es',ep',hL,r'⟩) hok hg
theorem Inv.turned {t':Nat} {it:Addr} (I:Inv X pins σ H s) (k:∀b o,b≠it→s.heap.get? b=some o→h'.get? b=some o) (hn:H it=none) (hL:it≠X.env.locals)
  (h1:it∈X.ex∨X.s₀.heap.objs.size≤it) (h2:∀x c,X.env.cells.lookup x=some c→c≠it) (h3:∀p∈X.pn++pins,p.1≠it):Inv X pins σ H {s with heap:=h',toks:=t'}:=by
 have nit:∀b u,H b=some u→b≠it:=fun b u e z=>by rw [z,hn] at e;cases e
 refine I.step (g':=s.gens) (d':=s.drawn) (ch:=[it]) (fun b hb=> ?_) (fun b o _ _ hc e _=>k b o (fun z=>hc (by simp [z])) e) (fun b o _ _ hc e _=>⟨o.slots,k b o (fun z=>hc (by simp [z])) e⟩) (fun _ _ _ _ n=>n)
  (fun b o hc e=>⟨o,k b o (fun z=>hc (by simp [z])) e⟩) (fun _ _ e=>e) (fun _ _ _ e=>e) (fun b ps e=>⟨#[],by rw [e];simp⟩) (fun m hm=> ?_) (fun b u e=> ?_) I.bare
 ·have e:b=it:=by simpa using hb
  subst e
  exact ⟨h1,hL,h2,h3⟩
 ·obtain ⟨o,es,ep,ho,r⟩:=hm
  exact ⟨o,es,ep,k _ o (Ne.symm hL) ho,r⟩
 ·refine (I.hok b u e).stay (fun c v hc q=>k c v ?_ q) (fun _ q=>q) fun _ _ q=>q
  rcases hc with z|z
  ·rw [z];exact nit b u e
  ·exact nit c _ z
theorem Inv.tok (I:Inv X pins σ H s) (t:Nat):Inv X pins σ H {s with toks:=t}:=I.un (h':=s.heap) (t':=t) Un.refl I.hok
theorem Inv.kept {t':Nat} (I:Inv X pins σ H s) (k:∀b u,s.heap.get? b=some u→h'.get? b=some u):Inv X pins σ H {s with heap:=h',toks:=t'}:=I.un (Un.kept k) (I.hok.kept k)
theorem Inv.laid {a:Addr} {o:HO} {t':Nat} (I:Inv X pins σ H s) (k:∀b u,s.heap.get? b=some u→h'.get? b=some u) (hp:s.heap.objs.size≤a) (new:ObjOk X.prog X.w (upd H a o) h' a o):
  Inv X pins σ (upd H a o) {s with heap:=h',toks:=t'}:=I.un (Un.laid k hp (I.hok.fresh hp)) (I.hok.laid k hp new)
theorem Inv.write {x e:Addr} {o:HO} {t':Nat} (I:Inv X pins σ H s) (mu:Mut (H x)) (he:e=x∨H e=some (.own x)) (k:∀b u,b≠e→s.heap.get? b=some u→h'.get? b=some u) (heo:∃u,h'.get? e=some u)
  (new:ObjOk X.prog X.w (upd H x o) h' x o):Inv X pins σ (upd H x o) {s with heap:=h',toks:=t'}:=I.un (Un.write mu he k heo) (I.hok.write mu he k heo new)
theorem Inv.pins_of {pins':List (Addr×Obj)} (I:Inv X pins σ H s) (h:∀p∈pins',s.heap.get? p.1=some p.2∧H p.1=none∧p.1≠X.env.locals∧p.1 ∉ X.fs∧∀v,p.2.data≠ .cell v):Inv X pins' σ H s:=
 ⟨I.ok,I.os,I.bare,I.base,I.loc,I.cell,I.free,I.freeC,fun p hp=>(List.mem_append.mp hp).elim (fun z=>I.pin p (List.mem_append_left _ z)) (h p),I.hok,I.len⟩
theorem nodup_ix {N:List Str} (hN:N.Nodup) {i j:Nat} {x:Str} (a:N[i]? =some x) (b:N[j]? =some x):i=j:=by
 obtain ⟨h1,e1⟩:=List.getElem?_eq_some_iff.mp a
 obtain ⟨h2,e2⟩:=List.getElem?_eq_some_iff.mp b
 exact (List.getElem_inj hN).mp (e1.trans e2.symm)
theorem store_ok2 {M:Model} {A:Around} {E:Value→Shared→Prop} {i:Nat} {x:Str} {v:V} {u:Value} {Q:Unit→Shared→Prop} (I:Inv X pins σ H s) (hN:X.N.Nodup) (hi:X.N[i]? =some x) (hx:Loc X.env.scope x) (r:RelV v u)
  (h:∀s',Inv X pins (σ.set i (some v)) H s'→(∃a,Heap.SameBut a s.heap s'.heap∧(a=X.env.locals∨X.env.cells.lookup x=some a))→Q () s') (hf:X.fn x=true∨X.env.scope.names.lookup x=some .local:=by first|exact .inl rfl|exact .inr rfl|assumption):wpAny M A (storeName X.env x u) Q E s:=by
 obtain ⟨m,hn,hl⟩:=id I.loc
 have hcls:(X.env.scope.kind== .class||(X.env.scope.kind== .module && X.env.locals !=X.env.globals))=false:=by rw [I.ok.kind];rfl
 have hiσ:i<σ.length:=by rw [I.len];exact (List.getElem?_eq_some_iff.mp hi).1
 have cne:=I.cne
 have tracked:∀{a:Addr} {h':Heap},(∃o,s.heap.get? a=some o∧H a=none)→Heap.SameBut a s.heap h'→HOk X.prog X.w H h':=fun {a h'} ha hs b ob e=>by
  obtain ⟨_,_,hfree⟩:=ha
  refine (I.hok b ob e).stay (fun c w' hc q=>(hs.2 c ?_).trans q) (fun _ q=>q) fun _ _ q=>q
  rintro rfl
  rcases hc with rfl|hc
  ·rw [hfree] at e;cases e
  ·rw [hfree] at hc;cases hc
 rcases hx with hk|hk
 ·refine wpAny_storeName_local hk hn (fun h' hn' hs=> ?_) hcls
  obtain ⟨oL,_,_,hoL,_⟩:=id hn
  refine h _ ⟨I.ok,I.os,I.bare,⟨fun b o e n hb hx=> ?_,fun b o e n hb hx=> ?_,I.base.free,fun b o e hx=> ?_,I.base.tups,I.base.frzs,I.base.tbls⟩,⟨_,hn',fun j y v' e1 e2 e3=> ?_⟩,fun y c e=> ?_,I.free,I.freeC,fun p hp=> ?_,tracked ⟨oL,hoL,I.free⟩ hs,by simpa using I.len⟩ ⟨_,hs,.inl rfl⟩
  ·exact (hs.2 b (Nat.ne_of_lt (Nat.lt_of_lt_of_le (Heap.lt_size e) I.ok.above))).trans (I.base.keep b o e n hb hx)
  ·obtain ⟨sl,e1⟩:=I.base.slot b o e n hb hx
   exact ⟨sl,(hs.2 b (Nat.ne_of_lt (Nat.lt_of_lt_of_le (Heap.lt_size e) I.ok.above))).trans e1⟩
  ·obtain ⟨o',e1⟩:=I.base.there b o e hx
   exact ⟨o',(hs.2 b (Nat.ne_of_lt (Nat.lt_of_lt_of_le (Heap.lt_size e) I.ok.above))).trans e1⟩
  ·by_cases hj:j=i
   ·subst hj
    rw [hi] at e1;cases e1
    rw [List.getElem?_set_self hiσ] at e2
    cases e2
    exact ⟨u,r,.inl ⟨hk,by simp⟩⟩
   ·rw [List.getElem?_set_ne (Ne.symm hj)] at e2
    obtain ⟨u',r',q⟩:=hl j y v' e1 e2 e3
    refine ⟨u',r',?_⟩
    rcases q with ⟨k,e⟩|⟨k,c,e,z⟩
    ·refine .inl ⟨k,?_⟩
     have:y≠x:=fun e=>hj (nodup_ix hN e1 (e▸hi))
     simp [this,e]
    ·exact .inr ⟨k,c,e,z.sameBut hs (cne y c e)⟩
  ·obtain ⟨w',z⟩:=I.cell y c e
   exact ⟨w',z.sameBut hs (cne y c e)⟩
  ·obtain ⟨e,n,ne,nf,d⟩:=I.pin p hp
   exact ⟨(hs.2 p.1 ne).trans e,n,ne,nf,d⟩
 ·have hfn:X.fn x=true:=by
   rcases hf with z|z
   ·exact z
   ·rw [z] at hk;cases hk
  obtain ⟨c,hc⟩:=I.ok.has x (.inl hk)
  obtain ⟨w',z⟩:=I.cell x c hc
  refine wpAny_storeName_cell I.ok.kind hk hc z (fun h' hc' hs=> ?_)
  obtain ⟨oc,hoc,hocd⟩:=id z
  refine h {s with heap:=h'} ⟨I.ok,I.os,I.bare,⟨fun b o e n hb hx=> ?_,fun b o e n hb hx=> ?_,I.base.free,fun b o e hx=> ?_,I.base.tups,I.base.frzs,I.base.tbls⟩,⟨m,hn.sameBut hs (Ne.symm (cne x c hc)),fun j y v' e1 e2 e3=> ?_⟩,fun y c' e=> ?_,I.free,I.freeC,fun p hp=> ?_,tracked ⟨oc,hoc,I.freeC x c hc⟩ hs,by simpa using I.len⟩ ⟨c,hs,.inr hc⟩
  ·exact (hs.2 b (Nat.ne_of_lt (Nat.lt_of_lt_of_le (Heap.lt_size e) (I.ok.cab x c hfn hc)))).trans (I.base.keep b o e n hb hx)
  ·obtain ⟨sl,e1⟩:=I.base.slot b o e n hb hx
   exact ⟨sl,(hs.2 b (Nat.ne_of_lt (Nat.lt_of_lt_of_le (Heap.lt_size e) (I.ok.cab x c hfn hc)))).trans e1⟩
  ·obtain ⟨o',e1⟩:=I.base.there b o e hx
   exact ⟨o',(hs.2 b (Nat.ne_of_lt (Nat.lt_of_lt_of_le (Heap.lt_size e) (I.ok.cab x c hfn hc)))).trans e1⟩
  ·by_cases hj:j=i
   ·subst hj
    rw [hi] at e1;cases e1
    rw [List.getElem?_set_self hiσ] at e2
    cases e2
    exact ⟨u,r,.inr ⟨.inl hk,c,hc,hc'⟩⟩
   ·rw [List.getElem?_set_ne (Ne.symm hj)] at e2
    obtain ⟨u',r',q⟩:=hl j y v' e1 e2 e3
    refine ⟨u',r',?_⟩
    rcases q with q|⟨k,c',e,z'⟩
    ·exact .inl q
    ·refine .inr ⟨k,c',e,z'.sameBut hs ?_⟩
     rintro rfl
     exact hj (nodup_ix hN e1 (I.ok.inj _ _ _ e hc▸hi))
  ·by_cases hcc:c'=c
   ·subst hcc;exact ⟨_,hc'⟩
   ·obtain ⟨w2,z2⟩:=I.cell y c' e
    exact ⟨w2,z2.sameBut hs hcc⟩
  ·obtain ⟨e,n,ne,nf,d⟩:=I.pin p hp
   refine ⟨(hs.2 p.1 ?_).trans e,n,ne,nf,d⟩
   intro q
   rw [q,hoc] at e
   have q':oc=p.2:=Option.some.inj e
   exact d w' (by rw [←q'];exact hocd)
theorem store_ok {M:Model} {A:Around} {E:Value→Shared→Prop} {i:Nat} {x:Str} {v:V} {u:Value} {Q:Unit→Shared→Prop} (I:Inv X pins σ H s) (hN:X.N.Nodup) (hi:X.N[i]? =some x) (hx:Loc X.env.scope x) (r:RelV v u)
  (h:∀s',Inv X pins (σ.set i (some v)) H s'→Q () s') (hf:X.fn x=true∨X.env.scope.names.lookup x=some .local:=by first|exact .inl rfl|exact .inr rfl|assumption):wpAny M A (storeName X.env x u) Q E s:=
 store_ok2 I hN hi hx r (fun s' I' _=>h s' I') hf
theorem Inv.call' {s':Shared} {ch:List Addr} (I:Inv X pins σ H s) (ho:s'.os=s.os) (u:Un (frs X.stack) ch H H' s.heap s'.heap) (hok:HOk X.prog X.w H' s'.heap) (hg:AllBare s'.gens)
  (hch:∀b∈ch,(b∈X.ex∨X.s₀.heap.objs.size≤b)∧b≠X.env.locals∧(∀x c,X.env.cells.lookup x=some c→c≠b)∧∀p∈X.pn++pins,p.1≠b):Inv X pins σ H' s':=by
 obtain ⟨h',g',d',t',o'⟩:=s'
 have e:o'=s.os:=ho
 subst e
 exact I.call (g':=g') (t':=t') (d':=d') u hok hg hch
end
abbrev XK:=Value→Option Addr→Hp→Prop
abbrev St:=List (Option V)
abbrev VK:=V→Hp→Prop
abbrev TE:=St→Hp→VK→Prop
abbrev TT:=St→Hp→(Bool→Hp→Prop)→Prop
abbrev TA:=St→Hp→(List V→Hp→Prop)→Prop
structure Ends where
 nx:St→Hp→Prop
 rt:VK
 bk:St→Hp→Prop:=fun _ _=>False
 ct:St→Hp→Prop:=fun _ _=>False
abbrev TS:=Ends→St→Hp→Prop
def EP (X:Cx) (pins:List (Addr×Obj)) (σ:St) (Q:VK) (u:Value) (s':Shared):Prop:=∃v H',Inv X pins σ H' s'∧RelV v u∧Q v H'
def TP (X:Cx) (pins:List (Addr×Obj)) (σ:St) (Q:Bool→Hp→Prop) (b:Bool) (s':Shared):Prop:=∃H',Inv X pins σ H' s'∧Q b H'
def AP (X:Cx) (pins:List (Addr×Obj)) (σ:St) (Q:List V→Hp→Prop) (us:List Value) (s':Shared):Prop:=∃vs H',Inv X pins σ H' s'∧Vals vs us∧Q vs H'
def SP (X:Cx) (pins:List (Addr×Obj)) (D:Ends) (f:Flow) (s':Shared):Prop:=
 match f with
 | .next=>∃σ' H',Inv X pins σ' H' s'∧D.nx σ' H'
 | .brk=>∃σ' H',Inv X pins σ' H' s'∧D.bk σ' H'
 | .cont=>∃σ' H',Inv X pins σ' H' s'∧D.ct σ' H'
 | .ret u=>∃v σ' H',Inv X pins σ' H' s'∧RelV v u∧D.rt v H'
def PE (X:Cx) (e:Expr) (t:TE):Prop:=
 ∀(pins:List (Addr×Obj)) (s:Shared) (σ:St) (H:Hp) (Q:VK),Inv X pins σ H s→t σ H Q→wpAny (model X.prog X.w) X.A (eval e X.env) (EP X pins σ Q) X.xe s
def PT (X:Cx) (e:Expr) (t:TT):Prop:=
 ∀(pins:List (Addr×Obj)) (s:Shared) (σ:St) (H:Hp) (Q:Bool→Hp→Prop),Inv X pins σ H s→t σ H Q→wpAny (model X.prog X.w) X.A (isTrue e X.env (eval e X.env)) (TP X pins σ Q) X.xe s
def PW (X:Cx) (e:Expr) (t:TT):Prop:=
 ∀(whole:Sem Value) (pins:List (Addr×Obj)) (s:Shared) (σ:St) (H:Hp) (Q:Bool→Hp→Prop),Inv X pins σ H s→t σ H Q→wpAny (model X.prog X.w) X.A (isTrue e X.env whole) (TP X pins σ Q) X.xe s
theorem PW.pt {X:Cx} {e:Expr} {t:TT} (h:PW X e t):PT X e t:=h _
def PA (X:Cx) (es:List Expr) (t:TA):Prop:=
 ∀(pos:Pos) (pins:List (Addr×Obj)) (s:Shared) (σ:St) (H:Hp) (Q:List V→Hp→Prop),Inv X pins σ H s→t σ H Q→wpAny (model X.prog X.w) X.A (spliced (backTo pos (starEach es X.env))) (AP X pins σ Q) X.xe s
def PS (X:Cx) (st:Stmt) (t:TS):Prop:=
 ∀(pins:List (Addr×Obj)) (s:Shared) (σ:St) (H:Hp) (D:Ends),Inv X pins σ H s→t D σ H→wpAny (model X.prog X.w) X.A (exec st X.env) (SP X pins D) X.xe s
def PSs (X:Cx) (st:List Stmt) (t:TS):Prop:=
 ∀(pins:List (Addr×Obj)) (s:Shared) (σ:St) (H:Hp) (D:Ends),Inv X pins σ H s→t D σ H→wpAny (model X.prog X.w) X.A (execs st X.env) (SP X pins D) X.xe s
theorem thn {α:Type} {t:Sem α} {Q Q':α→Shared→Prop} {M:Model} {A:Around} {E:Value→Shared→Prop} {s:Shared} (h:wpAny M A t Q E s) (hQ:∀a s,Q a s→Q' a s):wpAny M A t Q' E s:=wpAny_mono h hQ fun _ _ x=>x
end L2
namespace L2
open PySem PySem.Spec PyProof.Rows
section
variable {X:Cx}
inductive TVarP (i:Nat) (σ:St) (H:Hp) (Q:VK):Prop
 |mk (v:_):(σ[i]? =some (some v))→(Q v H)→TVarP i σ H Q
def tVar (i:Nat):TE:=fun σ H Q=>TVarP i σ H Q
def tC (v:V):TE:=fun _ H Q=>Q v H
theorem pe_var {i:Nat} {x:Str} {pos:Pos} (hN:X.N[i]? =some x) (hv:Vis X.env.scope x) (hd:(x==("__debug__":Str))=false:=by decide) (hcd:(x==("__classdict__":Str))=false:=by decide):PE X (.Name x pos) (tVar i):=by
 intro pins s σ H Q I h
 obtain ⟨v,e,h⟩:=h
 obtain ⟨m,hn,hl⟩:=I.loc
 obtain ⟨u,r,l⟩:=hl i x v hN e hv
 have fin:EP X pins σ Q u s:=⟨v,H,I,r,h⟩
 rcases l with ⟨hk,hm⟩|⟨hk,c,hc,hcell⟩
 ·exact wpAny_Name (wpAny_loadName_local I.ok.kind hk hn hm fin) hd
 ·rcases hk with hk|hk
  ·exact wpAny_Name (wpAny_loadName_cell I.ok.kind hk hc hcell fin) hd
  ·exact wpAny_Name (wpAny_loadName_free I.ok.kind hk hc hcell fin hcd) hd
theorem Af {i j pos}:PE X (.Constant (.int i) j pos) (tC (.int i)):=fun _ _ _ H _ I h=>wpAny_Constant_int ⟨.int i,H,I.tok _,⟨_,rfl⟩,h⟩
theorem B6 {b j pos}:PE X (.Constant (.bool b) j pos) (tC (.bl b)):=fun _ _ _ H _ I h=>Constant_bool ⟨.bl b,H,I,rfl,h⟩
theorem pe_non {j pos}:PE X (.Constant .none j pos) (tC .non):=fun _ _ _ H _ I h=>Constant_none ⟨.non,H,I,rfl,h⟩
theorem pe_str {x j pos}:PE X (.Constant (.str x) j pos) (tC (.str x)):=fun _ _ _ H _ I h=>Calls.Constant_str ⟨.str x,H,I.tok _,⟨_,rfl⟩,h⟩
def Gl (X:Cx) (x:Str):Prop:=X.env.kindOf x=some .globalImplicit
theorem ld_glob {E:Value→Shared→Prop} {pins:List (Addr×Obj)} {s:Shared} {σ:St} {H:Hp} {x:Str} {u:Value} {pos:Pos} {Q:Value→Shared→Prop} (I:Inv X pins σ H s) (hg:Gl X x) (hm:X.mg x=some u) (h:Q u s)
  (hd:(x==("__debug__":Str))=false:=by decide):wpAny (model X.prog X.w) X.A (eval (.Name x pos) X.env) Q E s:=
 Calls.Name_function_global I.ok.kind hg (Calls.loadGlobal_global (by rw [I.ok.glob];exact I.mod.glob.keeps I.bk) hm h) hd
theorem ld_blt {E:Value→Shared→Prop} {pins:List (Addr×Obj)} {s:Shared} {σ:St} {H:Hp} {x:Str} {u:Value} {pos:Pos} {Q:Value→Shared→Prop} (I:Inv X pins σ H s) (hg:Gl X x) (hm:X.mg x=none) (hv:bootBuiltins x=some u) (h:Q u s)
  (hn:x≠"__name__":=by decide) (hd:(x==("__debug__":Str))=false:=by decide):wpAny (model X.prog X.w) X.A (eval (.Name x pos) X.env) Q E s:=by
 obtain ⟨mb,h1,h2⟩:=I.mod.blt
 exact Calls.Name_function_global I.ok.kind hg (Calls.loadGlobal_builtin (by rw [I.ok.glob];exact I.mod.glob.keeps I.bk) hm (by rw [I.ok.blt];exact h1.keeps I.bk) ((h2 x hn).trans hv) h) hd
variable {a b:Expr} {ta tb:TE} {pos:Pos}
inductive BlP (x:V) (H:Hp) (Q:Bool→Hp→Prop):Prop
 |mk (c:Bool):(x= .bl c)→(Q c H)→BlP x H Q
def tB (t:TE):TT:=fun σ H Q=>t σ H fun x H1=>BlP x H1 Q
theorem Br {e:Expr} {t:TE} (h:PE X e t) (he:∀whole,isTrue e X.env whole=(do let v ←whole;standAt e.pos;holding [v] (truthy v)):=by intro _;rfl):PT X e (tB t):=by
 intro pins s σ H Q I hw
 refine isTrue_plain (thn (h pins s σ H _ I hw) fun v s1 ⟨x,H1,I1,r1,q1⟩=> ?_) (he _)
 obtain ⟨d,rfl,q⟩:=q1
 cases r1
 exact wpAny_truthy_bool ⟨H1,I1,q⟩
variable {tA tB':TT} {rest:List Expr}
def tAnd (t u:TT):TT:=fun σ H Q=>t σ H fun c H1=>if c=true then u σ H1 Q else Q false H1
def tOr (t u:TT):TT:=fun σ H Q=>t σ H fun c H1=>if c=true then Q true H1 else u σ H1 Q
def tNot (t:TT):TT:=fun σ H Q=>t σ H fun c H1=>Q (!c) H1
theorem pw_and1 (ha:PT X a tA):PW X (.BoolOp .And [a] pos) tA:=by
 intro wh pins s σ H Q I h
 refine isTrue_and (thn (ha pins s σ H Q I h) fun c s1 e=> ?_)
 cases c with
 |true=>exact isTrue_and_nil e
 |false=>exact e
theorem pw_or1 (ha:PT X a tA):PW X (.BoolOp .Or [a] pos) tA:=by
 intro wh pins s σ H Q I h
 refine isTrue_or (thn (ha pins s σ H Q I h) fun c s1 e=> ?_)
 cases c with
 |false=>exact isTrue_or_nil e
 |true=>exact e
theorem pw_and (ha:PT X a tA) (hb:PW X (.BoolOp .And (b::rest) pos) tB'):PW X (.BoolOp .And (a::b::rest) pos) (tAnd tA tB'):=by
 intro wh pins s σ H Q I h
 refine isTrue_and (thn (ha pins s σ H _ I h) fun c s1 ⟨H1,I1,q1⟩=> ?_)
 cases c with
 |true=>exact hb wh pins s1 σ H1 Q I1 q1
 |false=>exact ⟨H1,I1,q1⟩
theorem pw_or (ha:PT X a tA) (hb:PW X (.BoolOp .Or (b::rest) pos) tB'):PW X (.BoolOp .Or (a::b::rest) pos) (tOr tA tB'):=by
 intro wh pins s σ H Q I h
 refine isTrue_or (thn (ha pins s σ H _ I h) fun c s1 ⟨H1,I1,q1⟩=> ?_)
 cases c with
 |true=>exact ⟨H1,I1,q1⟩
 |false=>exact hb wh pins s1 σ H1 Q I1 q1
theorem Bu (ha:PT X a tA):PT X (.UnaryOp .Not a pos) (tNot tA):=by
 intro pins s σ H Q I h
 exact isTrue_not (ha pins s σ H (fun c H1=>Q (!c) H1) I h)
def tAndV (ta tb:TE):TE:=fun σ H Q=>ta σ H fun x H1=>∃c,x= .bl c∧if c=true then tb σ H1 Q else Q (.bl false) H1
def tNotV (ta:TE):TE:=fun σ H Q=>ta σ H fun x H1=>∃c,x= .bl c∧Q (.bl (!c)) H1
theorem pe_one {op} {t:TE} (h:PE X a t):PE X (.BoolOp op [a] pos) t:=fun pins s σ H Q I hw=>BoolOp_one (h pins s σ H Q I hw)
theorem Cg (ha:PE X a ta) (hb:PE X (.BoolOp .And (b::rest) pos) tb):PE X (.BoolOp .And (a::b::rest) pos) (tAndV ta tb):=by
 intro pins s σ H Q I h
 refine BoolOp_and (thn (ha pins s σ H _ I h) fun v s1 ⟨x,H1,I1,r1,q1⟩=> ?_)
 obtain ⟨c,rfl,q1⟩:=q1
 cases r1
 refine wpAny_truthy_bool ?_
 cases c with
 |true=>exact hb pins s1 σ H1 Q I1 q1
 |false=>exact ⟨.bl false,H1,I1,rfl,q1⟩
theorem pe_not (ha:PE X a ta):PE X (.UnaryOp .Not a pos) (tNotV ta):=by
 intro pins s σ H Q I h
 refine UnaryOp_ (thn (ha pins s σ H _ I h) fun v s1 ⟨x,H1,I1,r1,q1⟩=> ?_)
 obtain ⟨c,rfl,q1⟩:=q1
 cases r1
 exact not_of (wpAny_truthy_bool ⟨.bl (!c),H1,I1,rfl,q1⟩)
end
end L2
namespace L2
open PySem PySem.Spec PyProof.Rows
def SqL (K:PySem.W.Frag) (H:Hp) (a:Addr) (xs:List V):Prop:=
 Rd H a (.lst xs)∨
  ∃(o:Obj) (its:Array Value) (n:Nat),K.lookup a=some o∧o.cls= .type "list"∧o.dict=none∧o.data= .seq its n∧its.size≤sizeLine∧Vals xs its.toList
def SqT (K:PySem.W.Frag) (H:Hp) (a:Addr) (xs:List V):Prop:=
 Rd H a (.tup xs)∨
  ∃(o:Obj) (its:Array Value) (n:Nat),K.lookup a=some o∧o.cls= .type "tuple"∧o.data= .seq its n∧its.size≤sizeLine∧Vals xs its.toList
def absV:Value→Option V
 | .none=>some .non
 | .bool b=>some (.bl b)
 | .int i _=>some (.int i)
 | .str x _=>some (.str x)
 | .bytes b _=>some (.byt b)
 | .float b _=>some (.flt b)
 | .ref a=>some (.ref a)
 | .type n=>some (.ty n)
 |_=>none
theorem RelV.abs {x:V} {u:Value} (r:RelV x u):absV u=some x:=by
 cases x with
 |non=>cases r;rfl
 |bl _=>cases r;rfl
 |int _=>obtain ⟨t,rfl⟩:=r;rfl
 |str _=>obtain ⟨t,rfl⟩:=r;rfl
 |byt _=>obtain ⟨t,rfl⟩:=r;rfl
 |flt _=>obtain ⟨t,rfl⟩:=r;rfl
 |ref _=>cases r;rfl
 |ty _=>cases r;rfl
theorem RelV.inj {x y:V} {u:Value} (r:RelV x u) (q:RelV y u):x=y:=Option.some.inj (r.abs.symm.trans q.abs)
theorem Vals.inj:∀{xs ys:List V} {us:List Value},Vals xs us→Vals ys us→xs=ys
 |_,_,_,.nil,.nil=>rfl
 |_,_,_,.cons r t,.cons r' t'=>by rw [r.inj r',Vals.inj t t']
section
variable {X:Cx} {pins:List (Addr×Obj)} {σ:St} {H:Hp} {s:Shared} {a:Addr} {xs ys:List V}
theorem SqL.of {K:PySem.W.Frag} (h:H a=some (.lst xs)):SqL K H a xs:= .inl (.inl h)
theorem SqT.of {K:PySem.W.Frag} (h:H a=some (.tup xs)):SqT K H a xs:= .inl (.inl h)
theorem Inv.list (I:Inv X pins σ H s) (h:SqL X.K H a xs):∃its:List Value,Vals xs its∧PlainL s.heap a its.toArray∧xs.length≤sizeLine:=by
 rcases h with h|⟨o,its,n,hk,hc,hd,hs,hz,r⟩
 ·obtain ⟨z,its,n,r,e⟩:=h.ok I.hok
  exact ⟨its,r,⟨_,n,e,rfl,rfl,rfl⟩,z⟩
 ·refine ⟨its.toList,r,⟨o,n,I.kIn a o hk,hc,hd,by simpa using hs⟩,?_⟩
  have e:=r.length
  simp only [Array.length_toList] at e
  omega
theorem Inv.tuple (I:Inv X pins σ H s) (h:SqT X.K H a xs):∃its:List Value,Vals xs its∧IsTup s.heap a its.toArray∧xs.length≤sizeLine:=by
 rcases h with h|⟨o,its,n,hk,hc,hs,hz,r⟩
 ·obtain ⟨z,its,r,p⟩:=h.ok I.hok
  exact ⟨its,r,p.tup,z⟩
 ·refine ⟨its.toList,r,⟨o,I.kIn a o hk,hc,n,by simpa using hs⟩,?_⟩
  have e:=r.length
  simp only [Array.length_toList] at e
  omega
theorem Inv.list_inj (I:Inv X pins σ H s) (h:SqL X.K H a xs) (h':SqL X.K H a ys):xs=ys:=by
 obtain ⟨its,r,⟨o,n,e,_,_,d⟩,_⟩:=I.list h
 obtain ⟨its',r',⟨o',n',e',_,_,d'⟩,_⟩:=I.list h'
 rw [e] at e';cases e'
 rw [d] at d'
 injection d' with d1 _
 have:its=its':=by simpa using congrArg Array.toList d1
 subst this
 exact r.inj r'
theorem Inv.tuple_inj (I:Inv X pins σ H s) (h:SqT X.K H a xs) (h':SqT X.K H a ys):xs=ys:=by
 obtain ⟨its,r,⟨o,e,_,n,d⟩,_⟩:=I.tuple h
 obtain ⟨its',r',⟨o',e',_,n',d'⟩,_⟩:=I.tuple h'
 rw [e] at e';cases e'
 rw [d] at d'
 injection d' with d1 _
 have:its=its':=by simpa using congrArg Array.toList d1
 subst this
 exact r.inj r'
end
abbrev Cx.wish (X:Cx) (E:Value→Shared→Prop):Cx:={X with xe:=E}
abbrev Cx.nox (X:Cx):Cx:=X.wish fun _ _=>False
theorem Cx.Ok.wish {X:Cx} (ok:X.Ok) (E:Value→Shared→Prop):(X.wish E).Ok:=
 ⟨ok.mod,ok.kind,ok.glob,ok.blt,ok.above,ok.inj,ok.has,ok.cab,ok.hd,ok.frames,ok.stk,ok.exf,ok.bs,ok.bsz,ok.noex,ok.exfs,ok.funs,ok.frf⟩
theorem Cx.Ok.unwish {X:Cx} {E:Value→Shared→Prop} (ok:(X.wish E).Ok):X.Ok:=
 ⟨ok.mod,ok.kind,ok.glob,ok.blt,ok.above,ok.inj,ok.has,ok.cab,ok.hd,ok.frames,ok.stk,ok.exf,ok.bs,ok.bsz,ok.noex,ok.exfs,ok.funs,ok.frf⟩
section
variable {X:Cx} {pins:List (Addr×Obj)} {σ:St} {H:Hp} {s:Shared} {E:Value→Shared→Prop}
theorem Inv.wish (I:Inv X pins σ H s) (E:Value→Shared→Prop):Inv (X.wish E) pins σ H s:=⟨I.ok.wish E,I.os,I.bare,I.base,I.loc,I.cell,I.free,I.freeC,I.pin,I.hok,I.len⟩
theorem Inv.unwish (I:Inv (X.wish E) pins σ H s):Inv X pins σ H s:=⟨I.ok.unwish,I.os,I.bare,I.base,I.loc,I.cell,I.free,I.freeC,I.pin,I.hok,I.len⟩
theorem SP.unwish {D:Ends} {f:Flow} {s':Shared} (h:SP (X.wish E) pins D f s'):SP X pins D f s':=by
 cases f with
 |next=>obtain ⟨σ',H',I,q⟩:=h;exact ⟨σ',H',I.unwish,q⟩
 |brk=>obtain ⟨σ',H',I,q⟩:=h;exact ⟨σ',H',I.unwish,q⟩
 |cont=>obtain ⟨σ',H',I,q⟩:=h;exact ⟨σ',H',I.unwish,q⟩
 |ret u=>obtain ⟨v,σ',H',I,r,q⟩:=h;exact ⟨v,σ',H',I.unwish,r,q⟩
theorem PSs.nox {st:List Stmt} {t:TS} (h:PSs X.nox st t):PSs X st t:=fun pins s σ H D I hw=>
 wpAny_mono (h pins s σ H D (I.wish _) hw) (fun _ _ q=>q.unwish) fun _ _ z=>False.elim z
end
section
variable {X:Cx} {st:Stmt} {rest:List Stmt} {t u:TS} {e:Expr} {te:TE} {pos:Pos}
def Bv:TS:=fun D σ H=>D.nx σ H
def tSeq (t u:TS):TS:=fun D σ H=>t {D with nx:=u D} σ H
theorem A7:PSs X [] Bv:=fun _ _ σ H _ I h=>wpAny_execs_nil ⟨σ,H,I,h⟩
theorem Ag (h1:PS X st t) (h2:PSs X rest u):PSs X (st::rest) (tSeq t u):=by
 intro pins s σ H D I h
 refine wpAny_execs_cons (thn (h1 pins s σ H {D with nx:=u D} I h) fun f s1 q=> ?_)
 cases f with
 |next=>
  obtain ⟨σ',H',I',q⟩:=q
  exact h2 pins s1 σ' H' D I' q
 |ret v=>exact q
 |brk=>exact q
 |cont=>exact q
theorem Ah (h1:PS X st t):PSs X [st] t:=by
 intro pins s σ H D I h
 refine wpAny_execs_cons (thn (h1 pins s σ H D I h) fun f s1 q=> ?_)
 cases f with
 |next=>exact wpAny_execs_nil q
 |ret v=>exact q
 |brk=>exact q
 |cont=>exact q
theorem Inv.quiet {pins:List (Addr×Obj)} {σ:St} {H:Hp} {s:Shared} (I:Inv X pins σ H s):interactive X.env=false:=by simp [interactive,I.ok.kind]
def tDrop (te:TE):TS:=fun D σ H=>te σ H fun _ H1=>D.nx σ H1
theorem ps_expr (he:PE X e te) (hs:swapsWith e none pos.line X.env=pure false:=by rfl):PS X (.Expr e pos) (tDrop te):=by
 intro pins s σ H D I h
 exact wpAny_Expr_any (thn (he pins s σ H _ I h) fun v s1 ⟨x,H1,I1,r1,q1⟩=>⟨σ,H1,I1,q1⟩) I.quiet hs
def tRet (te:TE):TS:=fun D σ H=>te σ H D.rt
theorem Al (he:PE X e te):PS X (.Return (some e) pos) (tRet te):=by
 intro pins s σ H D I h
 exact wpAny_Return_some (thn (he pins s σ H _ I h) fun v s1 ⟨x,H1,I1,r1,q1⟩=>⟨x,σ,H1,I1,r1,q1⟩)
def tIfS (c:TT) (t u:TS):TS:=fun D σ H=>c σ H fun b H1=>if b=true then t D σ H1 else u D σ H1
theorem Bs {c:Expr} {a b:List Stmt} {tc:TT} (hc:PT X c tc) (ha:PSs X a t) (hb:PSs X b u):PS X (.If c a b pos) (tIfS tc t u):=by
 intro pins s σ H D I h
 refine wpAny_If (thn (hc pins s σ H _ I h) fun d s1 ⟨H1,I1,q1⟩=> ?_)
 cases d with
 |true=>exact ha pins s1 σ H1 D I1 q1
 |false=>exact hb pins s1 σ H1 D I1 q1
end
abbrev TG:=V→St→Hp→(St→Hp→Prop)→Prop
abbrev TGs:=List V→St→Hp→(St→Hp→Prop)→Prop
def PG (X:Cx) (target:Expr) (t:TG):Prop:=
 ∀(pins:List (Addr×Obj)) (s:Shared) (σ:St) (H:Hp) (v:V) (u:Value) (Q:St→Hp→Prop),Inv X pins σ H s→RelV v u→t v σ H Q→
  wpAny (model X.prog X.w) X.A (assign target X.env u) (fun _ s'=>∃σ' H',Inv X pins σ' H' s'∧Q σ' H') X.xe s
def PGs (X:Cx) (ts:List Expr) (t:TGs):Prop:=
 ∀(pins:List (Addr×Obj)) (s:Shared) (σ:St) (H:Hp) (vs:List V) (us:List Value) (Q:St→Hp→Prop),Inv X pins σ H s→Vals vs us→t vs σ H Q→
  wpAny (model X.prog X.w) X.A (assignInOrder ((assignEach ts X.env).map (·.2)) us) (fun _ s'=>∃σ' H',Inv X pins σ' H' s'∧Q σ' H') X.xe s
abbrev TSet:=V→V→V→Hp→(Hp→Prop)→Prop
def PSet (X:Cx) (t:TSet):Prop:=
 ∀(pins:List (Addr×Obj)) (s:Shared) (σ:St) (H:Hp) (o i v:V) (ov iv u:Value) (Q:Hp→Prop),Inv X pins σ H s→RelV o ov→RelV i iv→RelV v u→t o i v H Q→
  wpAny (model X.prog X.w) X.A (setItem ov iv u) (fun _ s'=>∃H',Inv X pins σ H' s'∧Q H') X.xe s
abbrev TIp:=V→V→Hp→VK→Prop
def PIp (X:Cx) (op:Operator) (t:TIp):Prop:=
 ∀(pins:List (Addr×Obj)) (s:Shared) (σ:St) (H:Hp) (x y:V) (v u:Value) (Q:VK),Inv X pins σ H s→RelV x v→RelV y u→t x y H Q→
  wpAny (model X.prog X.w) X.A (inplaceOp op v u) (EP X pins σ Q) X.xe s
section
variable {X:Cx} {pos:Pos}
def gName (i:Nat):TG:=fun v σ H Q=>Q (σ.set i (some v)) H
theorem Ak {i:Nat} {x:Str} (hN:X.N.Nodup) (hi:X.N[i]? =some x) (hx:Loc X.env.scope x) (hf:X.fn x=true∨X.env.scope.names.lookup x=some .local:=by first|exact .inl rfl|exact .inr rfl|assumption):PG X (.Name x pos) (gName i):=by
 intro pins s σ H v u Q I r h
 exact wpAny_assign_Name (store_ok I hN hi hx r (fun s' I'=>⟨_,H,I',h⟩) hf)
def gNil:TGs:=fun vs σ H Q=>vs=[]∧Q σ H
def gCons (t:TG) (u:TGs):TGs:=fun vs σ H Q=>∃v r,vs=v::r∧t v σ H fun σ' H'=>u r σ' H' Q
theorem pgs_nil:PGs X [] gNil:=by
 intro pins s σ H vs us Q I r h
 obtain ⟨e,h⟩:=h
 subst e
 cases r
 exact assignInOrder_nil ⟨σ,H,I,h⟩
theorem Ba {e:Expr} {es:List Expr} {t:TG} {u:TGs} (h1:PG X e t) (h2:PGs X es u)
  (hs:(assignEach (e::es) X.env).map (·.2)=assign e X.env::(assignEach es X.env).map (·.2):=by rfl):PGs X (e::es) (gCons t u):=by
 intro pins s σ H vs us Q I r h
 obtain ⟨v,vr,e1,h⟩:=h
 subst e1
 cases r with
 |cons r rr=>
  rw [hs]
  refine assignInOrder_cons (thn (h1 pins s σ H _ _ _ I r h) fun _ s1 ⟨σ1,H1,I1,q1⟩=> ?_)
  exact h2 pins s1 σ1 H1 _ _ Q I1 rr q1
def gTup (K:PySem.W.Frag) (n:Nat) (t:TGs):TG:=fun v σ H Q=>∃a xs,v= .ref a∧SqT K H a xs∧xs.length=n∧t xs σ H Q
theorem pg_tup {es:List Expr} {k:Nat} {t:TGs} {n:Nat} (hc:X.calm=true) (h:PGs X es t)
  (hn:(assignEach es X.env).length=n:=by rfl) (hst:(assignEach es X.env).findIdx? (·.1)=none:=by rfl):PG X (.Tuple es k pos) (gTup X.K n t):=by
 intro pins s σ H v u Q I r hw
 obtain ⟨a,xs,e1,hq,hl,hw⟩:=hw
 subst e1
 cases r
 obtain ⟨its,rv,ht,hz⟩:=I.tuple hq
 refine assign_Tuple_tuple (I.ok.hd hc) ht (by simp [hn,←hl,rv.length]) hst fun h' hx=> ?_
 have I1:Inv X pins σ H {s with heap:=h'}:=I.kept (t':=s.toks) fun b o e=>hx b o (Nat.ne_of_lt (Heap.lt_size e)) e
 exact h pins _ σ H xs _ Q I1 (by simpa using rv) hw
def gSub (to ti:TE) (t:TSet):TG:=fun v σ H Q=>to σ H fun o H1=>ti σ H1 fun i H2=>t o i v H2 fun H3=>Q σ H3
theorem pg_sub {o i:Expr} {to ti:TE} {t:TSet} (ho:PE X o to) (hi:PE X i ti) (hs:PSet X t)
  (ha:∀v,assign (.Subscript o i pos) X.env v=(do
   let ov ←holding [v] (eval o X.env)
   let iv ←holding [v,ov] (eval i X.env)
   standAt pos
   holding [v,ov,iv] (setItem ov iv v)
   release [v,ov,iv] []):=by intro _;rfl):PG X (.Subscript o i pos) (gSub to ti t):=by
 intro pins s σ H v u Q I r h
 rw [ha]
 refine wpAny_bind (wpAny_holding (thn (ho pins s σ H _ I h) fun ov s1 ⟨x,H1,I1,r1,q1⟩=> ?_))
 refine wpAny_bind (wpAny_holding (thn (hi pins s1 σ H1 _ I1 q1) fun iv s2 ⟨y,H2,I2,r2,q2⟩=> ?_))
 refine wpAny_bind (wpAny_standAt (wpAny_bind (wpAny_holding (thn (hs pins s2 σ H2 x y v ov iv u _ I2 r1 r2 r q2) fun _ s3 ⟨H3,I3,q3⟩=> ?_))))
 exact wpAny_release ⟨σ,H3,I3,q3⟩
def tAsg (te:TE) (g:TG):TS:=fun D σ H=>te σ H fun x H1=>g x σ H1 D.nx
theorem ps_asg {tg e:Expr} {te:TE} {g:TG} (he:PE X e te) (hg:PG X tg g) (hs:swapsWithSole [tg] e pos.line X.env=pure false:=by rfl) (hw:swappedStores [tg] e X.env=pure none:=by rfl)
  (h1:(assignEach [tg] X.env).map (·.2)=[assign tg X.env]:=by rfl):PS X (.Assign [tg] e pos) (tAsg te g):=by
 intro pins s σ H D I h
 refine wpAny_Assign_stores (thn (he pins s σ H _ I h) fun v s1 ⟨x,H1,I1,r1,q1⟩=> ?_) hs hw
 rw [h1]
 exact thn (hg pins s1 σ H1 x v _ I1 r1 q1) fun _ s2 q=>q
theorem As {i:Nat} {x:Str} {e:Expr} {te:TE} {pos':Pos} (hN:X.N.Nodup) (hi:X.N[i]? =some x) (hx:Loc X.env.scope x) (he:PE X e te) (hs:swapsWith e (some (.Name x pos')) pos.line X.env=pure false:=by rfl) (hf:X.fn x=true∨X.env.scope.names.lookup x=some .local:=by first|exact .inl rfl|exact .inr rfl|assumption):
  PS X (.Assign [.Name x pos'] e pos) (tAsg te (gName i)):=by
 intro pins s σ H D I h
 refine wpAny_Assign_Name (thn (he pins s σ H _ I h) fun v s1 ⟨y,H1,I1,r1,q1⟩=> ?_) hs
 exact store_ok I1 hN hi hx r1 (fun s2 I2=>⟨_,H1,I2,q1⟩) hf
def tAug (i:Nat) (te:TE) (ti:TIp):TS:=fun D σ H=>∃x,σ[i]? =some (some x)∧te σ H fun y H1=>ti x y H1 fun z H2=>D.nx (σ.set i (some z)) H2
theorem ps_aug {i:Nat} {x:Str} {e:Expr} {te:TE} {op:Operator} {ti:TIp} {pos':Pos} (hN:X.N.Nodup) (hi:X.N[i]? =some x) (hx:Loc X.env.scope x) (he:PE X e te) (ho:PIp X op ti) (hf:X.fn x=true∨X.env.scope.names.lookup x=some .local:=by first|exact .inl rfl|exact .inr rfl|assumption):
  PS X (.AugAssign (.Name x pos') op e pos) (tAug i te ti):=by
 intro pins s σ H D I h
 obtain ⟨v,e1,h⟩:=h
 obtain ⟨m,hn,hl⟩:=I.loc
 have vis:Vis X.env.scope x:=by rcases hx with k|k;exact .inl k;exact .inr (.inl k)
 obtain ⟨u,r,l⟩:=hl i x v hi e1 vis
 refine wpAny_AugAssign_Name ?_
 have go:wpAny (model X.prog X.w) X.A (eval e X.env) (fun w s₂=>wpAny (model X.prog X.w) X.A (inplaceOp op u w) (fun r s₃=>wpAny (model X.prog X.w) X.A (storeName X.env x r) (fun _=>SP X pins D .next) X.xe s₃) X.xe s₂) X.xe s:=by
  refine thn (he pins s σ H _ I h) fun w s1 ⟨y,H1,I1,r1,q1⟩=> ?_
  refine thn (ho pins s1 σ H1 v y u w _ I1 r r1 q1) fun z s2 ⟨zv,H2,I2,r2,q2⟩=> ?_
  exact store_ok I2 hN hi hx r2 (fun s3 I3=>⟨_,H2,I3,q2⟩) hf
 rcases l with ⟨hk,hm⟩|⟨hk,c,hc,hcell⟩
 ·exact wpAny_loadName_local I.ok.kind hk hn hm go
 ·rcases hk with hk|hk
  ·exact wpAny_loadName_cell I.ok.kind hk hc hcell go
  ·rcases hx with k|k
   ·have:X.env.scope.names.lookup x=some .free:=hk
    rw [k] at this;cases this
   ·have:X.env.scope.names.lookup x=some .free:=hk
    rw [k] at this;cases this
def ipI (f:Int→Int→Int):TIp:=fun x y H Q=>∃i j,x= .int i∧y= .int j∧Q (.int (f i j)) H
theorem ip_add:PIp X .Add (ipI fun i j=>i+j):=by
 intro pins s σ H x y v u Q I r1 r2 h
 obtain ⟨i,j,e1,e2,q⟩:=h
 subst e1;subst e2
 obtain ⟨t,rfl⟩:=r1
 obtain ⟨t',rfl⟩:=r2
 exact iadd_int ⟨.int _,H,I.tok _,⟨_,rfl⟩,q⟩
end
section
variable {X:Cx} {pos:Pos}
def tWhile (c:TT) (tb:TS):TS:=fun D σ H=>∃W:Nat→St→Hp→Prop,(∃m,W m σ H)∧∀m σ H,W m σ H→
 c σ H fun b H1=>if b=true then ∃N:St→Hp→Prop,(∀σ' H',N σ' H'→∃m',m'<m∧W m' σ' H')∧tb {D with nx:=N,ct:=N,bk:=D.nx} σ H1 else D.nx σ H1
theorem ps_while {c:Expr} {body:List Stmt} {tc:TT} {tb:TS} (hp:PassesOwn (model X.prog X.w) X.A X.env X.xe) (hc:PT X c tc) (hb:PSs X body tb):PS X (.While c body [] pos) (tWhile tc tb):=by
 intro pins s σ H D I h
 obtain ⟨W,⟨m0,w0⟩,turn⟩:=h
 refine wpAny_While (codeAny_whileLoop (fun n s'=>∃σ' H',Inv X pins σ' H' s'∧W n σ' H') ?_ m0 ⟨σ,H,I,w0⟩)
 rintro n s1 ⟨σ1,H1,I1,w1⟩
 refine wpAny_passesOwn hp (thn (hc pins s1 σ1 H1 _ I1 (turn n σ1 H1 w1)) fun b s2 ⟨H2,I2,q2⟩=> ?_)
 cases b with
 |true=>
  obtain ⟨N,hN,q2⟩:=q2
  rw [if_pos rfl]
  refine wpAny_passesOwn hp (thn (hb pins s2 σ1 H2 _ I2 q2) fun f s3 q3=> ?_)
  cases f with
  |next=>
   obtain ⟨σ3,H3,I3,n3⟩:=q3
   obtain ⟨m',hm,w3⟩:=hN σ3 H3 n3
   exact ⟨m',hm,σ3,H3,I3,w3⟩
  |cont=>
   obtain ⟨σ3,H3,I3,n3⟩:=q3
   obtain ⟨m',hm,w3⟩:=hN σ3 H3 n3
   exact ⟨m',hm,σ3,H3,I3,w3⟩
  |brk=>exact q3
  |ret v=>exact q3
 |false=>
  rw [if_neg Bool.false_ne_true]
  exact wpAny_execs_nil ⟨σ1,H2,I2,q2⟩
end
structure It where
 go:Nat→Hp→Prop
 yld:Nat→Hp→V→Hp→Prop
 stop:Nat→Hp→Prop
def FpOk (X:Cx) (pins:List (Addr×Obj)) (H:Hp) (b:Addr):Prop:=
 H b=none∧b≠X.env.locals∧b ∉ X.fs∧(b∈X.ex∨X.s₀.heap.objs.size≤b)∧(∀x c,X.env.cells.lookup x=some c→c≠b)∧∀p∈X.pn++pins,p.1≠b
theorem Inv.fpOk {X:Cx} {pins:List (Addr×Obj)} {σ:St} {H H':Hp} {s:Shared} {b:Addr} (I:Inv X pins σ H s) (hb:s.heap.objs.size≤b) (hn:H' b=none):FpOk X pins H' b:=by
 refine ⟨hn,Nat.ne_of_gt (Nat.lt_of_lt_of_le I.lt hb),I.nofs hb,.inr (Nat.le_trans I.sz hb),fun x c e z=> ?_,fun p hp z=> ?_⟩
 ·obtain ⟨v,q⟩:=I.cell x c e
  exact absurd (Nat.lt_of_lt_of_le q.lt (by rw [z];exact hb)) (Nat.lt_irrefl _)
 ·exact absurd (Nat.lt_of_lt_of_le (Heap.lt_size (I.pin p hp).1) (by rw [z];exact hb)) (Nat.lt_irrefl _)
structure Turn (P:Program) (w:World) (K:PySem.W.Frag) (tg:Expr) (J:It) (fp:List Addr) (it:Addr) (tn:Nat→Heap→Prop):Prop where
 mem:it∈fp
 obj:∀i h,tn i h→∀b∈fp,∃o,h.get? b=some o∧∀v,o.data≠ .cell v
 keep:∀i h h',tn i h→(∀b∈fp,∀o,h.get? b=some o→h'.get? b=some o)→tn i h'
 item:∀(X:Cx),X.prog=P→X.w=w→X.K=K→X.calm=true→∀(i:Nat) (pins:List (Addr×Obj)) (s:Shared) (σ:St) (H:Hp) (E:Value→Shared→Prop),Inv X pins σ H s→(∀b∈fp,FpOk X pins H b)→tn i s.heap→J.go i H→
  wpAny (model P w) X.A (pyNext (.ref it)) (fun r s1=>∃u,r=some u∧
   wpAny (model P w) X.A (letOwnedTupleGo tg (.ref it) u) (fun _ s2=>∃x H',Inv X pins σ H' s2∧RelV x u∧J.yld i H x H'∧tn (i+1) s2.heap∧∀b∈fp,H' b=none) E s1) E s
 done:∀(X:Cx),X.prog=P→X.w=w→X.K=K→X.calm=true→∀(i:Nat) (pins:List (Addr×Obj)) (s:Shared) (σ:St) (H:Hp) (E:Value→Shared→Prop),Inv X pins σ H s→(∀b∈fp,FpOk X pins H b)→tn i s.heap→J.stop i H→
  wpAny (model P w) X.A (pyNext (.ref it)) (fun r s1=>r=none∧Inv X pins σ H s1) E s
 self:∀(A:Around) (i:Nat) (s:Shared) (Q:Value→Shared→Prop) (E:Value→Shared→Prop),tn i s.heap→Q (.ref it) s→wpAny (model P w) A (pyIter (.ref it)) Q E s
abbrev TI:=St→Hp→(It→Hp→Prop)→Prop
def PIE (X:Cx) (pins:List (Addr×Obj)) (σ:St) (tg:Expr) (R:It→Hp→Prop) (itv:Value) (s2:Shared):Prop:=
 ∃(it:Addr) (fp:List Addr) (tn:Nat→Heap→Prop) (J:It) (H':Hp),itv= .ref it∧Inv X pins σ H' s2∧Turn X.prog X.w X.K tg J fp it tn∧tn 0 s2.heap∧(∀b∈fp,FpOk X pins H' b)∧R J H'
def PI (X:Cx) (tg iter:Expr) (wi:TI):Prop:=
 ∀(pins:List (Addr×Obj)) (s:Shared) (σ:St) (H:Hp) (R:It→Hp→Prop),Inv X pins σ H s→wi σ H R→
  wpAny (model X.prog X.w) X.A (eval iter X.env) (fun v s1=>wpAny (model X.prog X.w) X.A (pyIter v) (PIE X pins σ tg R) X.xe s1) X.xe s
theorem go_of {M:Model} {A:Around} {E:Value→Shared→Prop} {s:Shared} {tg:Expr} {it:Addr} {u:Value} {o:Obj} {n:String} {vs:Array Value} {Q:Unit→Shared→Prop} (ho:s.heap.get? it=some o) (hc:o.cls= .type n) (hd:o.data= .fields vs)
  (hn:["enumerate","zip","dict_itemiterator","dict_reverseitemiterator","odict_iterator","itertools.zip_longest","itertools.pairwise"].contains n=false) (hQ:Q () s):wpAny M A (letOwnedTupleGo tg (.ref it) u) Q E s:=by
 unfold letOwnedTupleGo
 cases tg<;> first
  |exact wpAny_pure hQ
  |(cases u<;> first
   |exact wpAny_pure hQ
   |(refine wpAny_bind (wpAny_load ho ?_)
     rw [hc,hd]
     show wpAny M A (if (["enumerate","zip","dict_itemiterator","dict_reverseitemiterator","odict_iterator","itertools.zip_longest","itertools.pairwise"].contains n && vs[0]? ==some (rawInt _))=true then _ else _) Q E s
     rw [if_neg (by intro h;rw [hn,Bool.false_and] at h;cases h)]
     exact wpAny_pure hQ))
def Itl (K:PySem.W.Frag) (a:Addr):It:=
 ⟨fun i H=>∃xs x,SqL K H a xs∧xs[i]? =some x,fun i H x H'=>H'=H∧∀xs,SqL K H a xs→xs[i]? =some x,fun i H=>∃xs,SqL K H a xs∧xs.length≤i⟩
def Itt (K:PySem.W.Frag) (a:Addr):It:=
 ⟨fun i H=>∃xs x,SqT K H a xs∧xs[i]? =some x,fun i H x H'=>H'=H∧∀xs,SqT K H a xs→xs[i]? =some x,fun i H=>∃xs,SqT K H a xs∧xs.length≤i⟩
def Itr (lo:Int) (n:Nat):It:=⟨fun i _=>i<n,fun i H x H'=>H'=H∧x= .int (lo+i),fun i _=>n≤i⟩
theorem turn_list {P:Program} {w:World} {K:PySem.W.Frag} {tg:Expr} (a it:Addr):Turn P w K tg (Itl K a) [it] it (fun i h=>h.IsListIter it a i) where
 mem:=by simp
 obj:=fun i h st b hb=>by
  have e:b=it:=by simpa using hb
  subst e
  obtain ⟨o,e,c,d⟩:=st
  exact ⟨o,e,fun v z=>by rw [d] at z;cases z⟩
 keep:=fun i h h' st k=>st.at fun o e=>k it (by simp) o e
 item:=by
  intro X hP hw hK hc i pins s σ H E I hf st hg
  subst hP hw hK
  obtain ⟨xs,x,hq,hx⟩:=hg
  obtain ⟨its,rv,p,hz⟩:=I.list hq
  obtain ⟨u,hu,ru⟩:=rv.get hx
  obtain ⟨f0,f1,f2,f3,f4,f5⟩:=hf it (by simp)
  refine wpAny_pyNext_list_item st p.isList (x:=u) (by simpa using hu) fun h' st' sb=> ?_
  have I1:Inv X pins σ H {s with heap:=h'}:=I.turned (t':=s.toks) (fun b o hb e=>(sb.2 b hb).trans e) f0 f1 f3 f4 f5
  obtain ⟨o,e,c,d⟩:=id st'
  exact ⟨u,rfl,go_of (s:={s with heap:=h'}) e c d (by decide) ⟨x,H,I1,ru,⟨rfl,fun ys hy=>by rw [I.list_inj hy hq];exact hx⟩,st',fun b hb=>(hf b hb).1⟩⟩
 done:=by
  intro X hP hw hK hc i pins s σ H E I hf st hg
  subst hP hw hK
  obtain ⟨xs,hq,hx⟩:=hg
  obtain ⟨its,rv,p,hz⟩:=I.list hq
  obtain ⟨f0,f1,f2,f3,f4,f5⟩:=hf it (by simp)
  have hl:=rv.length
  exact wpAny_pyNext_list_end (I.ok.hd hc) st p.isList (by simp;omega) fun h' eb=>⟨rfl,I.turned (t':=s.toks) (fun b o hb e=>eb b o hb e) f0 f1 f3 f4 f5⟩
 self:=fun _ _ _ _ _ st h=>wpAny_pyIter_listiter st h
theorem turn_tuple {P:Program} {w:World} {K:PySem.W.Frag} {tg:Expr} (a it:Addr):Turn P w K tg (Itt K a) [it] it (fun i h=>h.IsTupleIter it a i) where
 mem:=by simp
 obj:=fun i h st b hb=>by
  have e:b=it:=by simpa using hb
  subst e
  obtain ⟨o,e,c,d⟩:=st
  exact ⟨o,e,fun v z=>by rw [d] at z;cases z⟩
 keep:=fun i h h' st k=>st.at fun o e=>k it (by simp) o e
 item:=by
  intro X hP hw hK hc i pins s σ H E I hf st hg
  subst hP hw hK
  obtain ⟨xs,x,hq,hx⟩:=hg
  obtain ⟨its,rv,p,hz⟩:=I.tuple hq
  obtain ⟨u,hu,ru⟩:=rv.get hx
  obtain ⟨f0,f1,f2,f3,f4,f5⟩:=hf it (by simp)
  refine wpAny_pyNext_tuple_item st (show s.heap.IsTuple a its.toArray from p) (x:=u) (by simpa using hu) fun h' st' sb=> ?_
  have I1:Inv X pins σ H {s with heap:=h'}:=I.turned (t':=s.toks) (fun b o hb e=>(sb.2 b hb).trans e) f0 f1 f3 f4 f5
  obtain ⟨o,e,c,d⟩:=id st'
  exact ⟨u,rfl,go_of (s:={s with heap:=h'}) e c d (by decide) ⟨x,H,I1,ru,⟨rfl,fun ys hy=>by rw [I.tuple_inj hy hq];exact hx⟩,st',fun b hb=>(hf b hb).1⟩⟩
 done:=by
  intro X hP hw hK hc i pins s σ H E I hf st hg
  subst hP hw hK
  obtain ⟨xs,hq,hx⟩:=hg
  obtain ⟨its,rv,p,hz⟩:=I.tuple hq
  obtain ⟨f0,f1,f2,f3,f4,f5⟩:=hf it (by simp)
  have hl:=rv.length
  exact wpAny_pyNext_tuple_end (I.ok.hd hc) st (show s.heap.IsTuple a its.toArray from p) (by simp;omega) fun h' eb=>⟨rfl,I.turned (t':=s.toks) (fun b o hb e=>eb b o hb e) f0 f1 f3 f4 f5⟩
 self:=fun _ _ _ _ _ st h=>wpAny_pyIter_tupleiter st h
theorem turn_range {P:Program} {w:World} {K:PySem.W.Frag} {tg:Expr} (it:Addr) (lo:Int) (n:Nat):Turn P w K tg (Itr lo n) [it] it (fun i h=>IsRangeIter h it (lo+(i:Nat) * 1) ((n:Int) - (i:Nat)) 1) where
 mem:=by simp
 obj:=fun i h st b hb=>by
  have e:b=it:=by simpa using hb
  subst e
  exact ⟨_,st,fun v z=>by
   have z':Data.fields _=Data.cell v:=z
   cases z'⟩
 keep:=fun i h h' st k=>k it (by simp) _ st
 item:=by
  intro X hP hw hK hc i pins s σ H E I hf st hg
  subst hP hw hK
  obtain ⟨f0,f1,f2,f3,f4,f5⟩:=hf it (by simp)
  have W:=Walks.range (prog:=X.prog) (w:=X.w) (I.ok.hd hc) it lo 1 n
  refine W.item i s _ _ hg st fun v h' tk hv st' kk=> ?_
  obtain ⟨t,rfl⟩:=hv
  have I1:Inv X pins σ H {s with heap:=h',toks:=tk}:=I.turned (fun b o hb e=>kk b o (by simpa using hb) e) f0 f1 f3 f4 f5
  refine ⟨_,rfl,go_of (s:={s with heap:=h',toks:=tk}) (n:="range_iterator") st' rfl rfl (by decide) ⟨.int (lo+i),H,I1,⟨t,?_⟩,⟨rfl,rfl⟩,st',fun b hb=>(hf b hb).1⟩⟩
  rw [Int.mul_one]
 done:=by
  intro X hP hw hK hc i pins s σ H E I hf st hg
  subst hP hw hK
  obtain ⟨f0,f1,f2,f3,f4,f5⟩:=hf it (by simp)
  exact wpAny_pyNext_range_end (I.ok.hd hc) st (by have:n≤i:=hg;omega) fun h' eb=>⟨rfl,I.turned (t':=s.toks) (fun b o hb e=>eb b o hb e) f0 f1 f3 f4 f5⟩
 self:=fun _ _ _ _ _ st h=>wpAny_pyIter_rangeiter st h
end L2
namespace L2
open PySem PySem.Spec PyProof.Rows
section
variable {X:Cx} {tg:Expr}
def iList (K:PySem.W.Frag) (tl:TE):TI:=fun σ H R=>tl σ H fun x H1=>∃a,x= .ref a∧(∃xs,SqL K H1 a xs)∧R (Itl K a) H1
def iTup (K:PySem.W.Frag) (tl:TE):TI:=fun σ H R=>tl σ H fun x H1=>∃a,x= .ref a∧(∃xs,SqT K H1 a xs)∧R (Itt K a) H1
theorem Cj {l:Expr} {tl:TE} (hl:PE X l tl):PI X tg l (iList X.K tl):=by
 intro pins s σ H R I h
 refine thn (hl pins s σ H _ I h) fun v s1 ⟨x,H1,I1,r1,q1⟩=> ?_
 obtain ⟨a,e,⟨xs,hq⟩,q⟩:=q1
 subst e
 cases r1
 obtain ⟨its,rv,p,hz⟩:=I1.list hq
 refine wpAny_pyIter_list p.isList ?_
 refine ⟨s1.heap.objs.size,[s1.heap.objs.size],_,_,H1,rfl,I1.kept (t':=s1.toks) fun b o e=>Heap.get?_push_of_some _ e,turn_list a _,⟨_,Heap.get?_push_size _ rfl,rfl,rfl⟩,fun b hb=> ?_,q⟩
 have e:b=s1.heap.objs.size:=by simpa using hb
 subst e
 exact I1.fpOk (Nat.le_refl _) (I1.hok.fresh (Nat.le_refl _))
theorem pi_tup {l:Expr} {tl:TE} (hl:PE X l tl):PI X tg l (iTup X.K tl):=by
 intro pins s σ H R I h
 refine thn (hl pins s σ H _ I h) fun v s1 ⟨x,H1,I1,r1,q1⟩=> ?_
 obtain ⟨a,e,⟨xs,hq⟩,q⟩:=q1
 subst e
 cases r1
 obtain ⟨its,rv,p,hz⟩:=I1.tuple hq
 refine wpAny_pyIter_tuple (show s1.heap.IsTuple a its.toArray from p) ?_
 refine ⟨s1.heap.objs.size,[s1.heap.objs.size],_,_,H1,rfl,I1.kept (t':=s1.toks) fun b o e=>Heap.get?_push_of_some _ e,turn_tuple a _,⟨_,Heap.get?_push_size _ rfl,rfl,rfl⟩,fun b hb=> ?_,q⟩
 have e:b=s1.heap.objs.size:=by simpa using hb
 subst e
 exact I1.fpOk (Nat.le_refl _) (I1.hok.fresh (Nat.le_refl _))
theorem range_it {pins:List (Addr×Obj)} {σ:St} {H:Hp} {s:Shared} {R:It→Hp→Prop} {E:Value→Shared→Prop} {lo hi:Int} {t u v:Tok} {tk:Nat} (I:Inv X pins σ H s) (h1: -(2 ^ 62)≤lo) (h2:lo<2 ^ 62) (h3: -(2 ^ 62)≤hi) (h4:hi<2 ^ 62)
  (q:R (Itr lo (hi - lo).toNat) H):wpAny (model X.prog X.w) X.A (pyIter (.ref s.heap.objs.size)) (PIE X pins σ tg R) E {s with heap:=s.heap.push {cls:= .type "range",data:= .fields #[.int lo t,.int hi u,.int 1 v]},toks:=tk}:=by
 refine wpAny_pyIter_range (IsRange.new ..) (small_one h1 h2 h3 h4) ?_
 have I1:Inv X pins σ H {s with heap:=s.heap.push {cls:= .type "range",data:= .fields #[.int lo t,.int hi u,.int 1 v]},toks:=tk}:=I.kept fun b o e=>Heap.get?_push_of_some _ e
 refine ⟨(s.heap.push {cls:= .type "range",data:= .fields #[.int lo t,.int hi u,.int 1 v]}).objs.size,[(s.heap.push {cls:= .type "range",data:= .fields #[.int lo t,.int hi u,.int 1 v]}).objs.size],_,_,H,rfl,
  I1.kept (t':=tk) fun b o e=>Heap.get?_push_of_some _ e,turn_range _ lo (hi - lo).toNat,?_,fun b hb=> ?_,q⟩
 ·have e1:lo+((0:Nat):Int) * 1=lo:=by simp
  have e2:(((hi - lo).toNat:Nat):Int) - ((0:Nat):Int)=Builtin.Range.rangeSize lo hi 1:=by rw [rangeSize_one];split<;> omega
  show IsRangeIter _ _ (lo+((0:Nat):Int) * 1) ((((hi - lo).toNat:Nat):Int) - ((0:Nat):Int)) 1
  rw [e1,e2]
  exact Heap.get?_push_size _ rfl
 ·have e:b=(s.heap.push {cls:= .type "range",data:= .fields #[.int lo t,.int hi u,.int 1 v]}).objs.size:=by simpa using hb
  subst e
  exact I1.fpOk (Nat.le_refl _) (I1.hok.fresh (Nat.le_refl _))
def iRng1 (ta:TA):TI:=fun σ H R=>ta σ H fun vs H1=>∃j:Int,vs=[.int j]∧ -(2 ^ 62)≤j∧j<2 ^ 62∧R (Itr 0 j.toNat) H1
theorem By {a:Expr} {ta:TA} {p pos:Pos} (hg:Gl X "range") (hm:X.mg "range"=none) (ha:PA X [a] ta) (hs:starEach [a] X.env=[(false,eval a X.env)]:=by rfl):PI X tg (.Call (.Name "range" p) [a] [] pos) (iRng1 ta):=by
 intro pins s σ H R I h
 refine Call_ (ld_blt I hg hm boot_range (PyProof.Rows.callWith_type1 (thn (ha pos pins s σ H _ I h) fun us s1 ⟨vs,H1,I1,r1,q1⟩=> ?_) hs rfl))
 obtain ⟨j,e,q1,q2,q⟩:=q1
 subst e
 cases r1 with
 |cons r rr=>
  cases rr
  obtain ⟨t,rfl⟩:=r
  exact call_range_1 (range_it I1 (by decide) (by decide) q1 q2 (by simpa using q))
def tFor (wi:TI) (g:TG) (tb:TS):TS:=fun D σ H=>wi σ H fun J H1=>∃W:Nat→Nat→St→Hp→Prop,(∃m,W 0 m σ H1)∧∀i m σ H,W i m σ H→
 (J.stop i H∧D.nx σ H)∨(J.go i H∧∃N:St→Hp→Prop,(∀σ' H',N σ' H'→∃m',m'<m∧W (i+1) m' σ' H')∧∀x H',J.yld i H x H'→g x σ H' fun σ2 H2=>tb {D with nx:=N,ct:=N,bk:=D.nx} σ2 H2)
def pinsAt (fp:List Addr) (h:Heap):List (Addr×Obj):=fp.filterMap fun b=>(h.get? b).map fun o=>(b,o)
theorem mem_pinsAt {fp:List Addr} {h:Heap} {b:Addr} {o:Obj} (hb:b∈fp) (e:h.get? b=some o):(b,o)∈pinsAt fp h:=List.mem_filterMap.mpr ⟨b,hb,by rw [e];rfl⟩
theorem of_pinsAt {fp:List Addr} {h:Heap} {p:Addr×Obj} (hp:p∈pinsAt fp h):p.1∈fp∧h.get? p.1=some p.2:=by
 obtain ⟨b,hb,e⟩:=List.mem_filterMap.mp hp
 cases q:h.get? b with
 |none=>rw [q] at e;cases e
 |some o=>
  rw [q] at e
  have e':(b,o)=p:=Option.some.inj e
  subst e'
  exact ⟨hb,q⟩
theorem Inv.pinned {pins:List (Addr×Obj)} {σ:St} {H:Hp} {s:Shared} {fp:List Addr} (I:Inv X pins σ H s) (hf:∀b∈fp,FpOk X pins H b) (ho:∀b∈fp,∃o,s.heap.get? b=some o∧∀v,o.data≠ .cell v):Inv X (pins++pinsAt fp s.heap) σ H s:=
 I.pins_of fun p hp=>(List.mem_append.mp hp).elim (fun z=>I.pin p (List.mem_append_right _ z)) fun z=>by
  obtain ⟨hb,e⟩:=of_pinsAt z
  obtain ⟨f0,f1,f2,_⟩:=hf p.1 hb
  obtain ⟨o,e',d⟩:=ho p.1 hb
  rw [e] at e';cases e'
  exact ⟨e,f0,f1,f2,d⟩
theorem Inv.unpinned {pins pl:List (Addr×Obj)} {σ:St} {H:Hp} {s:Shared} (I:Inv X (pins++pl) σ H s):Inv X pins σ H s:=I.pins_of fun p hp=>I.pin p (List.mem_append_right _ (List.mem_append_left _ hp))
theorem ps_for {iter:Expr} {body:List Stmt} {wi:TI} {g:TG} {tb:TS} {pos:Pos} (hp:PassesOwn (model X.prog X.w) X.A X.env X.xe) (hc:X.calm=true) (hi:PI X tg iter wi) (hg:PG X tg g) (hb:PSs X body tb)
  (hs:∀x,foldedSetIterable iter X.env x=pure x:=by intro _;rfl):PS X (.For tg iter body [] pos) (tFor wi g tb):=by
 intro pins s σ H D I h
 refine wpAny_For (thn (hi pins s σ H _ I h) fun v s1 h1=>thn h1 fun itv s2 h2=> ?_) hs
 obtain ⟨it,fp,tn,J,H2,e,I2,T,st2,f2,W,⟨m0,w0⟩,turn⟩:=h2
 subst e
 have stat:∀{H':Hp},(∀b∈fp,H' b=none)→∀b∈fp,FpOk X pins H' b:=fun hn b hb=>⟨hn b hb,(f2 b hb).2⟩
 refine codeAny_forLoop_any (fun n s'=>∃i σ' H',Inv X pins σ' H' s'∧tn i s'.heap∧(∀b∈fp,H' b=none)∧W i n σ' H') ?_ m0 ⟨0,σ,H2,I2,st2,fun b hb=>(f2 b hb).1,w0⟩
 rintro n s3 ⟨i,σ3,H3,I3,st3,fr3,w3⟩
 rcases turn i n σ3 H3 w3 with ⟨stop,qn⟩|⟨go,N,hN,step⟩
 ·refine wpAny_passesOwn hp (thn (T.done X rfl rfl rfl hc i pins s3 σ3 H3 X.xe I3 (stat fr3) st3 stop) fun r s4 ⟨hr,I4⟩=> ?_)
  subst hr
  exact wpAny_execs_nil ⟨σ3,H3,I4,qn⟩
 ·refine wpAny_passesOwn hp (thn (T.item X rfl rfl rfl hc i pins s3 σ3 H3 X.xe I3 (stat fr3) st3 go) fun r s4 ⟨u,hr,h4⟩=> ?_)
  subst hr
  refine wpAny_passesOwn hp (thn h4 fun _ s5 ⟨x,H5,I5,r5,y5,st5,fr5⟩=> ?_)
  have I5':=I5.pinned (stat fr5) (T.obj _ _ st5)
  refine wpAny_passesOwn hp (thn (hg _ s5 σ3 H5 x u _ I5' r5 (step x H5 y5)) fun _ s6 ⟨σ6,H6,I6,q6⟩=> ?_)
  refine wpAny_passesOwn hp (thn (hb _ s6 σ6 H6 _ I6 q6) fun f s7 q7=> ?_)
  have again:∀{σ7:St} {H7:Hp},Inv X (pins++pinsAt fp s5.heap) σ7 H7 s7→N σ7 H7→∃m,m<n∧∃i σ' H',Inv X pins σ' H' s7∧tn i s7.heap∧(∀b∈fp,H' b=none)∧W i m σ' H':=fun {σ7 H7} I7 n7=>by
   obtain ⟨m',hm,w7⟩:=hN σ7 H7 n7
   refine ⟨m',hm,i+1,σ7,H7,I7.unpinned,T.keep _ _ _ st5 fun b hb o e=>(I7.pin (b,o) (List.mem_append_right _ (List.mem_append_right _ (mem_pinsAt hb e)))).1,fun b hb=> ?_,w7⟩
   obtain ⟨o,e,d⟩:=T.obj _ _ st5 b hb
   exact (I7.pin (b,o) (List.mem_append_right _ (List.mem_append_right _ (mem_pinsAt hb e)))).2.1
  cases f with
  |next=>obtain ⟨σ7,H7,I7,n7⟩:=q7;exact again I7 n7
  |cont=>obtain ⟨σ7,H7,I7,n7⟩:=q7;exact again I7 n7
  |brk=>obtain ⟨σ7,H7,I7,q7⟩:=q7;exact ⟨σ7,H7,I7.unpinned,q7⟩
  |ret v=>obtain ⟨x7,σ7,H7,I7,r7,q7⟩:=q7;exact ⟨x7,σ7,H7,I7.unpinned,r7,q7⟩
end
theorem for_list {K:PySem.W.Frag} {a:Addr} {xs:List V} {g:TG} {tb:TS} {D:Ends} {σ:St} {H:Hp} (Pv:Nat→St→Hp→Prop) (h0:Pv 0 σ H) (hl:∀i σ H,i≤xs.length→Pv i σ H→SqL K H a xs)
  (hs:∀i x σ H,xs[i]? =some x→Pv i σ H→g x σ H fun σ2 H2=>tb {D with nx:=Pv (i+1),ct:=Pv (i+1),bk:=D.nx} σ2 H2) (hd:∀σ H,Pv xs.length σ H→D.nx σ H):
  ∃W:Nat→Nat→St→Hp→Prop,(∃m,W 0 m σ H)∧∀i m σ H,W i m σ H→
   ((Itl K a).stop i H∧D.nx σ H)∨((Itl K a).go i H∧∃N:St→Hp→Prop,(∀σ' H',N σ' H'→∃m',m'<m∧W (i+1) m' σ' H')∧∀x H',(Itl K a).yld i H x H'→g x σ H' fun σ2 H2=>tb {D with nx:=N,ct:=N,bk:=D.nx} σ2 H2):=by
 refine ⟨fun i m σ H=>m=xs.length - i∧i≤xs.length∧Pv i σ H,⟨xs.length,by simp,Nat.zero_le _,h0⟩,?_⟩
 rintro i m σ H ⟨rfl,hi,p⟩
 have q:=hl i σ H hi p
 by_cases hlt:i<xs.length
 ·refine .inr ⟨⟨xs,xs[i],q,by simp [hlt]⟩,Pv (i+1),fun σ' H' p'=>⟨xs.length - (i+1),by omega,rfl,hlt,p'⟩,fun x H' y=> ?_⟩
  obtain ⟨e,y⟩:=y
  subst e
  exact hs i x σ _ (y xs q) p
 ·have e:i=xs.length:=by omega
  subst e
  exact .inl ⟨⟨xs,q,Nat.le_refl _⟩,hd σ H p⟩
theorem for_tup {K:PySem.W.Frag} {a:Addr} {xs:List V} {g:TG} {tb:TS} {D:Ends} {σ:St} {H:Hp} (Pv:Nat→St→Hp→Prop) (h0:Pv 0 σ H) (hl:∀i σ H,i≤xs.length→Pv i σ H→SqT K H a xs)
  (hs:∀i x σ H,xs[i]? =some x→Pv i σ H→g x σ H fun σ2 H2=>tb {D with nx:=Pv (i+1),ct:=Pv (i+1),bk:=D.nx} σ2 H2) (hd:∀σ H,Pv xs.length σ H→D.nx σ H):
  ∃W:Nat→Nat→St→Hp→Prop,(∃m,W 0 m σ H)∧∀i m σ H,W i m σ H→
   ((Itt K a).stop i H∧D.nx σ H)∨((Itt K a).go i H∧∃N:St→Hp→Prop,(∀σ' H',N σ' H'→∃m',m'<m∧W (i+1) m' σ' H')∧∀x H',(Itt K a).yld i H x H'→g x σ H' fun σ2 H2=>tb {D with nx:=N,ct:=N,bk:=D.nx} σ2 H2):=by
 refine ⟨fun i m σ H=>m=xs.length - i∧i≤xs.length∧Pv i σ H,⟨xs.length,by simp,Nat.zero_le _,h0⟩,?_⟩
 rintro i m σ H ⟨rfl,hi,p⟩
 have q:=hl i σ H hi p
 by_cases hlt:i<xs.length
 ·refine .inr ⟨⟨xs,xs[i],q,by simp [hlt]⟩,Pv (i+1),fun σ' H' p'=>⟨xs.length - (i+1),by omega,rfl,hlt,p'⟩,fun x H' y=> ?_⟩
  obtain ⟨e,y⟩:=y
  subst e
  exact hs i x σ _ (y xs q) p
 ·have e:i=xs.length:=by omega
  subst e
  exact .inl ⟨⟨xs,q,Nat.le_refl _⟩,hd σ H p⟩
theorem for_range {lo:Int} {n:Nat} {g:TG} {tb:TS} {D:Ends} {σ:St} {H:Hp} (Pv:Nat→St→Hp→Prop) (h0:Pv 0 σ H)
  (hs:∀i σ H,i<n→Pv i σ H→g (.int (lo+i)) σ H fun σ2 H2=>tb {D with nx:=Pv (i+1),ct:=Pv (i+1),bk:=D.nx} σ2 H2) (hd:∀σ H,Pv n σ H→D.nx σ H):
  ∃W:Nat→Nat→St→Hp→Prop,(∃m,W 0 m σ H)∧∀i m σ H,W i m σ H→
   ((Itr lo n).stop i H∧D.nx σ H)∨((Itr lo n).go i H∧∃N:St→Hp→Prop,(∀σ' H',N σ' H'→∃m',m'<m∧W (i+1) m' σ' H')∧∀x H',(Itr lo n).yld i H x H'→g x σ H' fun σ2 H2=>tb {D with nx:=N,ct:=N,bk:=D.nx} σ2 H2):=by
 refine ⟨fun i m σ H=>m=n - i∧i≤n∧Pv i σ H,⟨n,by simp,Nat.zero_le _,h0⟩,?_⟩
 rintro i m σ H ⟨rfl,hi,p⟩
 by_cases hlt:i<n
 ·refine .inr ⟨hlt,Pv (i+1),fun σ' H' p'=>⟨n - (i+1),by omega,rfl,hlt,p'⟩,fun x H' y=> ?_⟩
  obtain ⟨e,y⟩:=y
  subst e y
  exact hs i σ _ hlt p
 ·have e:i=n:=by omega
  subst e
  exact .inl ⟨Nat.le_refl _,hd σ H p⟩
theorem while_by {c:TT} {tb:TS} {D:Ends} {σ:St} {H:Hp} (Pv:St→Hp→Prop) (μ :St→Hp→Nat) (h0:Pv σ H)
  (hs:∀σ H,Pv σ H→c σ H fun b H1=>if b=true then tb {D with nx:=fun σ' H'=>Pv σ' H'∧μ σ' H'<μ σ H,ct:=fun σ' H'=>Pv σ' H'∧μ σ' H'<μ σ H,bk:=D.nx} σ H1 else D.nx σ H1)
  (mono:∀σ H Q Q',(∀b H1,Q b H1→Q' b H1)→c σ H Q→c σ H Q'):tWhile c tb D σ H:=by
 refine ⟨fun m σ H=>m=μ σ H∧Pv σ H,⟨_,rfl,h0⟩,?_⟩
 rintro m σ H ⟨rfl,p⟩
 refine mono σ H _ _ (fun b H1 q=> ?_) (hs σ H p)
 cases b with
 |true=>exact ⟨_,fun σ' H' ⟨p',l⟩=>⟨_,l,rfl,p'⟩,q⟩
 |false=>exact q
end L2
namespace L2
open PySem PySem.Spec PyProof.Rows
abbrev R2:=V→V→Hp→VK→Prop
def OpR (X:Cx) (f:Value→Value→Sem Value) (r:R2):Prop:=
 ∀(pins:List (Addr×Obj)) (s:Shared) (σ:St) (H:Hp) (x y:V) (v u:Value) (Q:VK),Inv X pins σ H s→RelV x v→RelV y u→r x y H Q→
  wpAny (model X.prog X.w) X.A (f v u) (EP X pins σ Q) X.xe s
def UnR (X:Cx) (f:Value→Sem Value) (r:V→Hp→VK→Prop):Prop:=
 ∀(pins:List (Addr×Obj)) (s:Shared) (σ:St) (H:Hp) (x:V) (v:Value) (Q:VK),Inv X pins σ H s→RelV x v→r x H Q→
  wpAny (model X.prog X.w) X.A (f v) (EP X pins σ Q) X.xe s
def CallR (X:Cx) (f:Value) (r:List V→Hp→VK→Prop):Prop:=
 ∀(pins:List (Addr×Obj)) (s:Shared) (σ:St) (H:Hp) (xs:List V) (us:List Value) (Q:VK),Inv X pins σ H s→Vals xs us→r xs H Q→
  wpAny (model X.prog X.w) X.A (call f us) (EP X pins σ Q) X.xe s
def TruR (X:Cx) (r:V→Hp→(Bool→Hp→Prop)→Prop):Prop:=
 ∀(pins:List (Addr×Obj)) (s:Shared) (σ:St) (H:Hp) (x:V) (v:Value) (Q:Bool→Hp→Prop),Inv X pins σ H s→RelV x v→r x H Q→
  wpAny (model X.prog X.w) X.A (truthy v) (TP X pins σ Q) X.xe s
def tOp (r:R2) (ta tb:TE):TE:=fun σ H Q=>ta σ H fun x H1=>tb σ H1 fun y H2=>r x y H2 Q
def tUn (r:V→Hp→VK→Prop) (ta:TE):TE:=fun σ H Q=>ta σ H fun x H1=>r x H1 Q
inductive RIP (C:Int→Int→Prop) (g:Int→Int→V) (x:V) (y:V) (H:Hp) (Q:VK):Prop
 |mk (i j:_):(x= .int i)→(y= .int j)→(C i j)→(Q (g i j) H)→RIP C g x y H Q
def rI (C:Int→Int→Prop) (g:Int→Int→V):R2:=fun x y H Q=>RIP C g x y H Q
inductive RI0P (g:Int→Int→V) (x:V) (y:V) (H:Hp) (Q:VK):Prop
 |mk (i j:_):(x= .int i)→(y= .int j)→(Q (g i j) H)→RI0P g x y H Q
def rI0 (g:Int→Int→V):R2:=fun x y H Q=>RI0P g x y H Q
inductive RUP (g:Int→V) (x:V) (H:Hp) (Q:VK):Prop
 |mk (i:_):(x= .int i)→(Q (g i) H)→RUP g x H Q
def rU (g:Int→V):V→Hp→VK→Prop:=fun x H Q=>RUP g x H Q
section
variable {X:Cx} {a b c:Expr} {ta tb tc:TE} {pos:Pos}
theorem binT (ha:PE X a ta) (hb:PE X b tb) {pins:List (Addr×Obj)} {s:Shared} {σ:St} {H:Hp} {R:V→V→Hp→Prop} (I:Inv X pins σ H s)
  (h:ta σ H fun x H1=>tb σ H1 fun y H2=>R x y H2) {Q:Value→Shared→Prop} {f:Value→Value→Sem Value}
  (hf:∀v u s2 x y H2,Inv X pins σ H2 s2→RelV x v→RelV y u→R x y H2→wpAny (model X.prog X.w) X.A (f v u) Q X.xe s2):
  wpAny (model X.prog X.w) X.A (eval a X.env) (fun v s₁=>wpAny (model X.prog X.w) X.A (eval b X.env) (fun u s₂=>wpAny (model X.prog X.w) X.A (f v u) Q X.xe s₂) X.xe s₁) X.xe s:=by
 refine thn (ha pins s σ H _ I h) fun v s1 ⟨x,H1,I1,r1,q1⟩=> ?_
 refine thn (hb pins s1 σ H1 _ I1 q1) fun u s2 ⟨y,H2,I2,r2,q2⟩=> ?_
 exact hf v u s2 x y H2 I2 r1 r2 q2
theorem Am {op:Operator} {r:R2} (ho:OpR X (binaryOp op) r) (ha:PE X a ta) (hb:PE X b tb):PE X (.BinOp a op b pos) (tOp r ta tb):=by
 intro pins s σ H Q I h
 exact wpAny_BinOp (binT ha hb I h fun v u s2 x y H2 I2 rx ry q=>ho pins s2 σ H2 x y v u Q I2 rx ry q)
theorem pe_un {op:UnaryOp} {r:V→Hp→VK→Prop} (ho:UnR X (unaryOp op) r) (ha:PE X a ta):PE X (.UnaryOp op a pos) (tUn r ta):=by
 intro pins s σ H Q I h
 exact UnaryOp_ (thn (ha pins s σ H _ I h) fun v s1 ⟨x,H1,I1,r1,q1⟩=>ho pins s1 σ H1 x v Q I1 r1 q1)
theorem opI {f:Value→Value→Sem Value} {C:Int→Int→Prop} {g:Int→Int→Int}
  (rule:∀(i j:Int) (t u:Tok) (s:Shared) (Q:Value→Shared→Prop) (E:Value→Shared→Prop),C i j→Q (.int (g i j) s.toks) {s with toks:=s.toks+1}→wpAny (model X.prog X.w) X.A (f (.int i t) (.int j u)) Q E s):
  OpR X f (rI C fun i j=> .int (g i j)):=by
 intro pins s σ H x y v u Q I rx ry h
 obtain ⟨i,j,rfl,rfl,hc,q⟩:=h
 obtain ⟨t,rfl⟩:=rx
 obtain ⟨t',rfl⟩:=ry
 exact rule i j t t' s _ _ hc ⟨.int (g i j),H,I.tok _,⟨_,rfl⟩,q⟩
theorem opI0 {f:Value→Value→Sem Value} {g:Int→Int→Int}
  (rule:∀(i j:Int) (t u:Tok) (s:Shared) (Q:Value→Shared→Prop) (E:Value→Shared→Prop),Q (.int (g i j) s.toks) {s with toks:=s.toks+1}→wpAny (model X.prog X.w) X.A (f (.int i t) (.int j u)) Q E s):
  OpR X f (rI0 fun i j=> .int (g i j)):=by
 intro pins s σ H x y v u Q I rx ry h
 obtain ⟨i,j,rfl,rfl,q⟩:=h
 obtain ⟨t,rfl⟩:=rx
 obtain ⟨t',rfl⟩:=ry
 exact rule i j t t' s _ _ ⟨.int (g i j),H,I.tok _,⟨_,rfl⟩,q⟩
theorem opB0 {f:Value→Value→Sem Value} {g:Int→Int→Bool}
  (rule:∀(i j:Int) (t u:Tok) (s:Shared) (Q:Value→Shared→Prop) (E:Value→Shared→Prop),Q (.bool (g i j)) s→wpAny (model X.prog X.w) X.A (f (.int i t) (.int j u)) Q E s):
  OpR X f (rI0 fun i j=> .bl (g i j)):=by
 intro pins s σ H x y v u Q I rx ry h
 obtain ⟨i,j,rfl,rfl,q⟩:=h
 obtain ⟨t,rfl⟩:=rx
 obtain ⟨t',rfl⟩:=ry
 exact rule i j t t' s _ _ ⟨.bl (g i j),H,I,rfl,q⟩
def CDiv (i j:Int):Prop:=0<j∧j<1073741824
def CPow (i j:Int):Prop:=0≤j∧j≤1000000∧i.natAbs<2 ^ 64
def CMul (i j:Int):Prop:=(-(2 ^ 64)<i∧i<2 ^ 64)∨(-(2 ^ 64)<j∧j<2 ^ 64)
theorem CMul.ok {i j:Int} (h:CMul i j):IntMulOk i j:=by
 rcases h with ⟨h1,h2⟩|⟨h1,h2⟩
 ·exact .of_left (intBits_le_64 h1 h2)
 ·exact .of_right (intBits_le_64 h1 h2)
theorem two_pow_nn (k:Nat):(0:Int)≤2 ^ k:=by
 rw [two_pow_cast]
 exact Int.natCast_nonneg _
theorem Bp:OpR X (binaryOp .Add) (rI0 fun i j=> .int (i+j)):=opI0 fun _ _ _ _ _ _ _ q=>add_int q
theorem op_sub:OpR X (binaryOp .Sub) (rI0 fun i j=> .int (i - j)):=opI0 fun _ _ _ _ _ _ _ q=>sub_int q
theorem op_mul:OpR X (binaryOp .Mult) (rI CMul fun i j=> .int (i * j)):=opI fun _ _ _ _ _ _ _ hc q=>mul_int q hc.ok
theorem op_fdiv:OpR X (binaryOp .FloorDiv) (rI CDiv fun i j=> .int (i / j)):=opI fun i j _ _ _ _ _ hc q=>by
 have h1:(0:Int)<j:=hc.1
 have h2:j<1073741824:=hc.2
 exact floordiv_int (by omega) (by rw [Int.fdiv_eq_ediv_of_nonneg i (by omega)];exact q) (.inl (PyProof.noPylong_small (by omega)))
theorem op_mod:OpR X (binaryOp .Mod) (rI (fun _ j=>0<j) fun i j=> .int (i % j)):=opI fun i j _ _ _ _ _ hc q=>by
 have h1:(0:Int)<j:=hc
 exact mod_int' (by omega) (by rw [Int.fmod_eq_emod_of_nonneg i (by omega)];exact q)
theorem op_pow:OpR X (binaryOp .Pow) (rI CPow fun i j=> .int (i ^ j.toNat)):=opI fun _ _ _ _ _ _ _ hc q=>pow_int_small hc.1 hc.2.1 hc.2.2 q
theorem op_shr:OpR X (binaryOp .RShift) (rI (fun _ j=>0≤j) fun i j=> .int (i / 2 ^ j.toNat)):=opI fun i j _ _ _ _ _ hc q=>
 rshift_int hc (by rw [Int.fdiv_eq_ediv_of_nonneg i (two_pow_nn _)];exact q)
theorem unI {f:Value→Sem Value} {g:Int→Int}
  (rule:∀(i:Int) (t:Tok) (s:Shared) (Q:Value→Shared→Prop) (E:Value→Shared→Prop),Q (.int (g i) s.toks) {s with toks:=s.toks+1}→wpAny (model X.prog X.w) X.A (f (.int i t)) Q E s):
  UnR X f (rU fun i=> .int (g i)):=by
 intro pins s σ H x v Q I rx h
 obtain ⟨i,rfl,q⟩:=h
 obtain ⟨t,rfl⟩:=rx
 exact rule i t s _ _ ⟨.int (g i),H,I.tok _,⟨_,rfl⟩,q⟩
theorem un_neg:UnR X (unaryOp .USub) (rU fun i=> .int (-i)):=unI fun _ _ _ _ _ q=>neg_int q
end
def scal:V→V→Bool
 | .non,.non=>true| .non,.int _=>true| .int _,.non=>true| .non,.bl _=>true| .bl _,.non=>true| .non,.str _=>true| .str _,.non=>true
 | .int _,.int _=>true| .bl _,.bl _=>true| .str _,.str _=>true| .byt _,.byt _=>true
 | .int _,.str _=>true| .str _,.int _=>true| .bl _,.str _=>true| .str _,.bl _=>true
 |_,_=>false
def rEq:R2:=fun x y H Q=>scal x y=true∧Q (.bl (decide (x=y))) H
def rNe:R2:=fun x y H Q=>scal x y=true∧Q (.bl (!decide (x=y))) H
theorem dec_int {i j:Int}:decide (V.int i=V.int j)=(i==j):=by
 rw [Bool.eq_iff_iff]
 simp
theorem dec_bl {i j:Bool}:decide (V.bl i=V.bl j)=(i==j):=by
 rw [Bool.eq_iff_iff]
 simp
theorem dec_str {i j:Str}:decide (V.str i=V.str j)=(i==j):=by
 rw [Bool.eq_iff_iff]
 simp
theorem dec_byt {i j:Array UInt8}:decide (V.byt i=V.byt j)=(i.toList==j.toList):=by
 rw [Bool.eq_iff_iff]
 cases i
 cases j
 simp
section
variable {X:Cx} {a b c:Expr} {ta tb tc:TE} {pos:Pos}
theorem Bd {pins:List (Addr×Obj)} {σ:St} {H:Hp} {s:Shared} {Q:VK} {k k':Bool} (I:Inv X pins σ H s) (q:Q (.bl k) H) (e:k=k'):EP X pins σ Q (.bool k') s:=by
 subst e
 exact ⟨.bl k,H,I,rfl,q⟩
theorem op_eq:OpR X (compareOp .Eq) rEq:=by
 intro pins s σ H x y v u Q I rx ry h
 obtain ⟨hs,q⟩:=h
 cases x with
 |non=>
  cases rx
  cases y with
  |non=>cases ry;exact PySem.EqNone.eq_none_none (Bd I q (by simp))
  |bl j=>cases ry;exact PySem.EqNone.eq_none_bool (Bd I q (by simp))
  |int j=>obtain ⟨t',rfl⟩:=ry;exact PySem.EqNone.eq_none_int (Bd I q (by simp))
  |str j=>obtain ⟨t',rfl⟩:=ry;exact PySem.EqNone.eq_none_str (Bd I q (by simp))
  |_=>exact absurd (show false=true from hs) Bool.false_ne_true
 |bl i=>
  cases rx
  cases y with
  |non=>cases ry;exact PySem.EqNone.eq_bool_none (Bd I q (by simp))
  |bl j=>cases ry;exact eq_bool (Bd I q dec_bl)
  |str j=>obtain ⟨t',rfl⟩:=ry;exact PySem.EqMixed.eq_bool_str (Bd I q (by simp))
  |_=>exact absurd (show false=true from hs) Bool.false_ne_true
 |int i=>
  obtain ⟨t,rfl⟩:=rx
  cases y with
  |non=>cases ry;exact PySem.EqNone.eq_int_none (Bd I q (by simp))
  |int j=>obtain ⟨t',rfl⟩:=ry;exact eq_int (Bd I q dec_int)
  |str j=>obtain ⟨t',rfl⟩:=ry;exact PySem.EqMixed.eq_int_str (Bd I q (by simp))
  |_=>exact absurd (show false=true from hs) Bool.false_ne_true
 |str i=>
  obtain ⟨t,rfl⟩:=rx
  cases y with
  |non=>cases ry;exact PySem.EqNone.eq_str_none (Bd I q (by simp))
  |bl j=>cases ry;exact PySem.EqMixed.eq_str_bool (Bd I q (by simp))
  |int j=>obtain ⟨t',rfl⟩:=ry;exact PySem.EqMixed.eq_str_int (Bd I q (by simp))
  |str j=>obtain ⟨t',rfl⟩:=ry;exact eq_str (Bd I q dec_str)
  |_=>exact absurd (show false=true from hs) Bool.false_ne_true
 |byt i=>
  obtain ⟨t,rfl⟩:=rx
  cases y with
  |byt j=>obtain ⟨t',rfl⟩:=ry;exact PySem.W.eq_bytes (Bd I q dec_byt)
  |_=>exact absurd (show false=true from hs) Bool.false_ne_true
 |_=>cases y<;> exact absurd (show false=true from hs) Bool.false_ne_true
theorem op_ne:OpR X (compareOp .NotEq) rNe:=by
 intro pins s σ H x y v u Q I rx ry h
 obtain ⟨hs,q⟩:=h
 cases x with
 |non=>
  cases rx
  cases y with
  |non=>cases ry;exact PySem.EqNone.ne_none_none (Bd I q (by simp))
  |bl j=>cases ry;exact PySem.EqNone.ne_none_bool (Bd I q (by simp))
  |int j=>obtain ⟨t',rfl⟩:=ry;exact PySem.EqNone.ne_none_int (Bd I q (by simp))
  |str j=>obtain ⟨t',rfl⟩:=ry;exact PySem.EqNone.ne_none_str (Bd I q (by simp))
  |_=>exact absurd (show false=true from hs) Bool.false_ne_true
 |bl i=>
  cases rx
  cases y with
  |non=>cases ry;exact PySem.EqNone.ne_bool_none (Bd I q (by simp))
  |bl j=>cases ry;exact ne_bool (Bd I q (congrArg not dec_bl))
  |str j=>obtain ⟨t',rfl⟩:=ry;exact PySem.EqMixed.ne_bool_str (Bd I q (by simp))
  |_=>exact absurd (show false=true from hs) Bool.false_ne_true
 |int i=>
  obtain ⟨t,rfl⟩:=rx
  cases y with
  |non=>cases ry;exact PySem.EqNone.ne_int_none (Bd I q (by simp))
  |int j=>obtain ⟨t',rfl⟩:=ry;exact ne_int (Bd I q (congrArg not dec_int))
  |str j=>obtain ⟨t',rfl⟩:=ry;exact PySem.EqMixed.ne_int_str (Bd I q (by simp))
  |_=>exact absurd (show false=true from hs) Bool.false_ne_true
 |str i=>
  obtain ⟨t,rfl⟩:=rx
  cases y with
  |non=>cases ry;exact PySem.EqNone.ne_str_none (Bd I q (by simp))
  |bl j=>cases ry;exact PySem.EqMixed.ne_str_bool (Bd I q (by simp))
  |int j=>obtain ⟨t',rfl⟩:=ry;exact PySem.EqMixed.ne_str_int (Bd I q (by simp))
  |str j=>obtain ⟨t',rfl⟩:=ry;exact ne_str (Bd I q (congrArg not dec_str))
  |_=>exact absurd (show false=true from hs) Bool.false_ne_true
 |byt i=>
  obtain ⟨t,rfl⟩:=rx
  cases y with
  |byt j=>obtain ⟨t',rfl⟩:=ry;exact PySem.W.ne_bytes (Bd I q (congrArg not dec_byt))
  |_=>exact absurd (show false=true from hs) Bool.false_ne_true
 |_=>cases y<;> exact absurd (show false=true from hs) Bool.false_ne_true
theorem op_le:OpR X (compareOp .LtE) (rI0 fun i j=> .bl (decide (i≤j))):=opB0 fun _ _ _ _ _ _ _ q=>le_int q
theorem op_gt:OpR X (compareOp .Gt) (rI0 fun i j=> .bl (decide (j<i))):=opB0 fun _ _ _ _ _ _ _ q=>gt_int q
theorem op_ge:OpR X (compareOp .GtE) (rI0 fun i j=> .bl (decide (j≤i))):=opB0 fun _ _ _ _ _ _ _ q=>ge_int q
theorem op_lt_str:OpR X (compareOp .Lt) (fun x y H Q=>∃i j,x= .str i∧y= .str j∧Q (.bl (decide (i.cps.toList<j.cps.toList))) H):=by
 intro pins s σ H x y v u Q I rx ry h
 obtain ⟨i,j,rfl,rfl,q⟩:=h
 obtain ⟨t,rfl⟩:=rx
 obtain ⟨t',rfl⟩:=ry
 exact lt_str (Bd I q rfl)
theorem op_isN:OpR X (compareOp .Is) (fun x y H Q=>y= .non∧Q (.bl (decide (x= .non))) H):=by
 intro pins s σ H x y v u Q I rx ry h
 obtain ⟨rfl,q⟩:=h
 cases ry
 refine is_none_gen (Bd I q ?_)
 cases x<;> first
  |(cases rx;rfl)
  |(obtain ⟨t,rfl⟩:=rx;rfl)
theorem op_notN:OpR X (compareOp .IsNot) (fun x y H Q=>y= .non∧Q (.bl (!decide (x= .non))) H):=by
 intro pins s σ H x y v u Q I rx ry h
 obtain ⟨rfl,q⟩:=h
 cases ry
 refine isnot_none_gen (Bd I q ?_)
 cases x<;> first
  |(cases rx;rfl)
  |(obtain ⟨t,rfl⟩:=rx;rfl)
theorem Aw (b:Expr) {op:CmpOp} (h:op≠ .In:=by decide) (h2:op≠ .NotIn:=by decide):behindInMarks op b=false:=by
 have e1:(op==CmpOp.In)=false:=by cases op<;> first|rfl|exact absurd rfl h
 have e2:(op==CmpOp.NotIn)=false:=by cases op<;> first|rfl|exact absurd rfl h2
 cases b<;> simp [behindInMarks,e1,e2]
theorem Ce {op:CmpOp} {r:R2} (ho:OpR X (compareOp op) r) (ha:PE X a ta) (hb:PE X b tb) (hm:behindInMarks op b=false):PE X (.Compare a [op] [b] pos) (tOp r ta tb):=by
 intro pins s σ H Q I h
 exact wpAny_Compare1 (binT ha hb I h fun v u s2 x y H2 I2 rx ry q=>ho pins s2 σ H2 x y v u Q I2 rx ry q) hm
def tTest (t:TE):TT:=fun σ H Q=>t σ H fun x H'=>BlP x H' Q
theorem Az {op:CmpOp} {r:R2} (ho:OpR X (compareOp op) r) (ha:PE X a ta) (hb:PE X b tb) (hm:behindInMarks op b=false):PT X (.Compare a [op] [b] pos) (tTest (tOp r ta tb)):=by
 intro pins s σ H Q I h
 refine wpAny_isTrue_Compare1 (thn (ha pins s σ H _ I h) fun v s1 ⟨x,H1,I1,r1,q1⟩=>thn (hb pins s1 σ H1 _ I1 q1) fun u s2 ⟨y,H2,I2,r2,q2⟩=>
  thn (ho pins s2 σ H2 x y v u _ I2 r1 r2 q2) fun c s3 ⟨z,H3,I3,r3,k,e,q3⟩=> ?_) hm
 subst e
 cases r3
 exact wpAny_truthy_bool ⟨H3,I3,q3⟩
def tChain (r r':R2) (ta tb tc:TE):TE:=fun σ H Q=>ta σ H fun x H1=>tb σ H1 fun y H2=>r x y H2 fun z H3=>∃k,z= .bl k∧
 (if k=true then tc σ H3 fun w' H4=>r' y w' H4 Q else Q (.bl false) H3)
theorem pe_chain {op op':CmpOp} {r r':R2} (ho:OpR X (compareOp op) r) (ho':OpR X (compareOp op') r') (ha:PE X a ta) (hb:PE X b tb) (hc:PE X c tc)
  (hm:lastMarks [op,op'] [b,c]=false:=by with_unfolding_all rfl):PE X (.Compare a [op,op'] [b,c] pos) (tChain r r' ta tb tc):=by
 intro pins s σ H Q I h
 refine Compare_chain (thn (ha pins s σ H _ I h) fun v s1 ⟨x,H1,I1,r1,q1⟩=>chain_link (thn (hb pins s1 σ H1 _ I1 q1) fun u s2 ⟨y,H2,I2,r2,q2⟩=>
  thn (ho pins s2 σ H2 x y v u _ I2 r1 r2 q2) fun d s3 ⟨z,H3,I3,r3,k,e,q3⟩=> ?_)) hm
 subst e
 cases r3
 refine wpAny_truthy_bool ?_
 cases k with
 |false=>exact ite_ff ⟨.bl false,H3,I3,rfl,q3⟩
 |true=>exact ite_tt (chain_last (thn (hc pins s3 σ H3 _ I3 q3) fun w' s4 ⟨z',H4,I4,r4,q4⟩=>ho' pins s4 σ H4 y z' u w' Q I4 r2 r4 q4))
theorem pt_chain {op op':CmpOp} {r r':R2} (ho:OpR X (compareOp op) r) (ho':OpR X (compareOp op') r') (ha:PE X a ta) (hb:PE X b tb) (hc:PE X c tc)
  (hm:lastMarks [op,op'] [b,c]=false:=by with_unfolding_all rfl):PT X (.Compare a [op,op'] [b,c] pos) (tTest (tChain r r' ta tb tc)):=by
 intro pins s σ H Q I h
 refine isTrue_chain (thn (ha pins s σ H _ I h) fun v s1 ⟨x,H1,I1,r1,q1⟩=>test_link (thn (hb pins s1 σ H1 _ I1 q1) fun u s2 ⟨y,H2,I2,r2,q2⟩=>
  thn (ho pins s2 σ H2 x y v u _ I2 r1 r2 q2) fun d s3 ⟨z,H3,I3,r3,k,e,q3⟩=> ?_)) hm
 subst e
 cases r3
 refine wpAny_truthy_bool ?_
 cases k with
 |false=>
  obtain ⟨k',e',q'⟩:=q3
  cases e'
  exact ite_ff ⟨H3,I3,q'⟩
 |true=>
  refine ite_tt (test_last (thn (hc pins s3 σ H3 _ I3 q3) fun w' s4 ⟨z',H4,I4,r4,q4⟩=>thn (ho' pins s4 σ H4 y z' u w' _ I4 r2 r4 q4) fun d' s5 ⟨z2,H5,I5,r5,k2,e2,q5⟩=> ?_))
  subst e2
  cases r5
  exact wpAny_truthy_bool ⟨H5,I5,q5⟩
def TruV (K:PySem.W.Frag) (x:V) (H:Hp) (k:Bool):Prop:=
 match x with
 | .non=>k=false
 | .bl b=>k=b
 | .int i=>k=(i !=0)
 | .str y=>y.length≤sizeLine∧k=((y.length:Int) !=0)
 | .byt y=>y.size≤sizeLine∧k=((y.size:Int) !=0)
 | .ref p=>(∃xs,SqL K H p xs∧k= !xs.isEmpty)∨(∃xs,SqT K H p xs∧k= !xs.isEmpty)∨∃kvs,H p=some (.dK kvs)∧k= !kvs.isEmpty
 |_=>False
theorem isEmpty_kv {κ:Type} {kvs:List (κ×V)} {vs:List (κ×Value)} (r:KV kvs vs):(!vs.isEmpty)= !kvs.isEmpty:=by
 cases r<;> rfl
theorem isEmpty_of {xs:List V} {its:List Value} (r:Vals xs its):(!its.toArray.isEmpty)= !xs.isEmpty:=by
 cases r<;> simp
theorem line63:(sizeLine:Nat)<2 ^ 63:=by rw [sizeLine_eq];decide
theorem tru_ok:TruR X (fun x H Q=>∃k,TruV X.K x H k∧Q k H):=by
 intro pins s σ H x v Q I rx h
 obtain ⟨k,e,q⟩:=h
 have hl:=line63
 have hs:sizeLine=16777216:=sizeLine_eq
 cases x with
 |non=>
  cases rx
  have e':k=false:=e
  subst e'
  exact truthy_none ⟨H,I,q⟩
 |bl b=>
  cases rx
  have e':k=b:=e
  subst e'
  exact wpAny_truthy_bool ⟨H,I,q⟩
 |int i=>
  obtain ⟨t,rfl⟩:=rx
  have e':k=(i !=0):=e
  subst e'
  exact PySem.P.truthy_int ⟨H,I,q⟩
 |str y=>
  obtain ⟨t,rfl⟩:=rx
  obtain ⟨hy,e'⟩:y.length≤sizeLine∧k=((y.length:Int) !=0):=e
  subst e'
  exact PySem.P.truthy_str (by omega) ⟨H,I.tok _,q⟩
 |byt y=>
  obtain ⟨t,rfl⟩:=rx
  obtain ⟨hy,e'⟩:y.size≤sizeLine∧k=((y.size:Int) !=0):=e
  subst e'
  exact PySem.W.truthy_bytes (by exact Nat.le_trans (by assumption) (by decide)) ⟨H,I.tok _,q⟩
 |ref p=>
  cases rx
  have e':(∃xs,SqL X.K H p xs∧k= !xs.isEmpty)∨(∃xs,SqT X.K H p xs∧k= !xs.isEmpty)∨∃kvs,H p=some (.dK kvs)∧k= !kvs.isEmpty:=e
  rcases e' with ⟨xs,hx,e'⟩|⟨xs,hx,e'⟩|⟨kvs,hx,e'⟩
  ·subst e'
   obtain ⟨its,r,pl,hz⟩:=I.list hx
   have hlen:=r.length
   exact wpAny_truthy_list pl.isList (by simp only [List.size_toArray];omega) ⟨H,I.tok _,by rw [isEmpty_of r];exact q⟩
  ·subst e'
   obtain ⟨its,r,pl,hz⟩:=I.tuple hx
   have hlen:=r.length
   exact truthy_tuple pl (by simp only [List.size_toArray];omega) ⟨H,I.tok _,by rw [isEmpty_of r];exact q⟩
  ·subst e'
   obtain ⟨hz,hS,vs,r,m⟩:kvs.length≤sizeLine∧(p==sysModules)=false∧∃vs,KV kvs vs∧s.heap.DictOf (Cf X.prog X.w) p vs:=I.hok p _ hx
   have hlen:kvs.length=vs.length:=Paired.length r
   exact wpAny_truthy_dict hS m (by omega) ⟨H,I.tok _,by rw [isEmpty_kv r];exact q⟩
 |_=>exact (show False from e).elim
theorem pt_truth (ha:PE X a ta) (he:∀whole,isTrue a X.env whole=(do let v ←whole;standAt a.pos;holding [v] (truthy v))):
  PT X a (fun σ H Q=>ta σ H fun x H'=>∃k,TruV X.K x H' k∧Q k H'):=by
 intro pins s σ H Q I h
 exact isTrue_plain (thn (ha pins s σ H _ I h) fun v s1 ⟨x,H1,I1,r1,q1⟩=>tru_ok pins s1 σ H1 x v Q I1 r1 q1) (he _)
theorem op_add_str:OpR X (binaryOp .Add) (fun x y H Q=>∃i j,x= .str i∧y= .str j∧i.length+j.length≤sizeLine∧Q (.str (i++j)) H):=by
 intro pins s σ H x y v u Q I rx ry h
 obtain ⟨i,j,rfl,rfl,hz,q⟩:=h
 obtain ⟨t,rfl⟩:=rx
 obtain ⟨t',rfl⟩:=ry
 exact add_str (fun t' tk=>⟨.str (i++j),H,I.tok _,⟨_,rfl⟩,q⟩) hz
theorem vals1 {x:V} {us:List Value} (r:Vals [x] us):∃u,us=[u]∧RelV x u:=by
 cases r with
 |cons r1 r2=>cases r2;exact ⟨_,rfl,r1⟩
theorem vals2 {x y:V} {us:List Value} (r:Vals [x,y] us):∃u w',us=[u,w']∧RelV x u∧RelV y w':=by
 cases r with
 |cons r1 r2=>
  cases r2 with
  |cons r3 r4=>cases r4;exact ⟨_,_,rfl,r1,r3⟩
theorem call_max2 (hc:X.calm=true):CallR X (.builtin "max") (fun xs H Q=>∃i j,xs=[.int i,.int j]∧Q (.int (if j > i then j else i)) H):=by
 intro pins s σ H xs us Q I r h
 obtain ⟨i,j,rfl,q⟩:=h
 obtain ⟨u,w',rfl,⟨t,rfl⟩,⟨t',rfl⟩⟩:=vals2 r
 refine max_two_ints (I.ok.hd hc) fun h' tk k=>⟨_,H,I.kept k,?_,q⟩
 by_cases hj:j > i
 ·rw [if_pos hj,if_pos hj];exact ⟨_,rfl⟩
 ·rw [if_neg hj,if_neg hj];exact ⟨_,rfl⟩
theorem call_min2 (hc:X.calm=true):CallR X (.builtin "min") (fun xs H Q=>∃i j,xs=[.int i,.int j]∧Q (.int (if j<i then j else i)) H):=by
 intro pins s σ H xs us Q I r h
 obtain ⟨i,j,rfl,q⟩:=h
 obtain ⟨u,w',rfl,⟨t,rfl⟩,⟨t',rfl⟩⟩:=vals2 r
 refine min_two_ints (I.ok.hd hc) fun h' tk k=>⟨_,H,I.kept k,?_,q⟩
 by_cases hj:j<i
 ·rw [if_pos hj,if_pos hj];exact ⟨_,rfl⟩
 ·rw [if_neg hj,if_neg hj];exact ⟨_,rfl⟩
theorem call_int1:CallR X (.type "int") (fun xs H Q=>(∃i,xs=[.int i]∧Q (.int i) H)∨∃k,xs=[.bl k]∧Q (.int (if k then 1 else 0)) H):=by
 intro pins s σ H xs us Q I r h
 rcases h with ⟨i,rfl,q⟩|⟨k,rfl,q⟩
 ·obtain ⟨u,rfl,t,rfl⟩:=vals1 r
  exact call_int_int ⟨.int i,H,I,⟨_,rfl⟩,q⟩
 ·obtain ⟨u,rfl,r1⟩:=vals1 r
  cases r1
  exact call_int_bool ⟨.int (if k then 1 else 0),H,I.tok _,⟨_,rfl⟩,q⟩
end
end L2
namespace L2
open PySem PySem.Spec PyProof.Rows
structure ObjM (h:Heap) (x dx C:Addr) (mA:Str→Option Value):Prop where
 obj:h.get? x=some (PySem.W.instObj C dx)
 ns:h.Ns1 dx mA
 ne:dx≠x
theorem lookIn_ns {h:Heap} {dx:Addr} {mA:Str→Option Value} (n:h.Ns1 dx mA):∃od,h.get? dx=some od∧∀name,PySem.W.lookIn name od=some (mA name):=by
 obtain ⟨o,es,ep,ho,hd,hk,_,hm⟩:=n
 refine ⟨o,ho,fun name=> ?_⟩
 have e:=hm name
 unfold nsFind findBy at e
 rw [←Array.find?_toList] at e
 unfold PySem.W.lookIn
 rw [hd]
 dsimp only
 split
 ·rename_i y q
  rw [q] at e
  exact congrArg some e
 ·rename_i q
  rw [q] at e
  have a:es.toList.any (·.refKey)=false:=by
   rw [List.any_eq_false]
   intro y hy
   obtain ⟨z,t,hkey⟩:=hk y (Array.mem_toList_iff.mp hy)
   simp [DictEntry.refKey,hkey]
  have a':¬es.toList.any (·.refKey)=true:=by rw [a];exact Bool.false_ne_true
  rw [if_neg a']
  exact congrArg some e
theorem ObjM.look {h:Heap} {x dx C:Addr} {mA:Str→Option Value} (I:ObjM h x dx C mA):∃od,PySem.W.InstAt h x (PySem.W.instObj C dx) C (some od)∧∀name,PySem.W.lookIn name od=some (mA name):=
 let ⟨od,ho,hl⟩:=lookIn_ns I.ns
 ⟨od,⟨I.obj,rfl,rfl,ho⟩,hl⟩
section
variable {P:Program} {w:World} {H H':Hp} {h h':Heap} {a C dx:Addr} {fs fs':List (Str×V)}
theorem ins_get (hok:HOk P w H h) (e:H a=some (.ins C dx fs)):∃mA,ObjM h a dx C mA∧(∀f,RelO (fs.lookup f) (mA f))∧PySem.Within mA (fs.map (·.1))∧fs.length≤1000∧H dx=some (.own a):=by
 obtain ⟨d,z,ne,ob,mA,n,r,q⟩:=(show ObjOk P w H h a (.ins C dx fs) from hok a _ e)
 exact ⟨mA,⟨ob,n,ne⟩,r,q,z,d⟩
end
structure Cls (K:PySem.W.Frag) (C:Addr):Prop where
 pg:PySem.W.plainGet K C Str.empty=true
 hd:PySem.W.hasDictIn K C=true
 po:PySem.W.plainOver K C=true
 sa:PySem.W.findIn K (.ref C) "__setattr__"=some (some (.builtin "object.__setattr__"))
theorem Cls.get {K:PySem.W.Frag} {C:Addr} (c:Cls K C) (f:Str):PySem.W.plainGet K C f=true:=c.pg
section
variable {X:Cx} {pins:List (Addr×Obj)} {σ:St} {H:Hp} {s:Shared} {A:Around} {E:Value→Shared→Prop} {Q:Value→Shared→Prop} {c:Value} {b:Bool}
inductive TyOf (K:PySem.W.Frag) (H:Hp):V→Value→Prop where
 |non:TyOf K H .non (.type "NoneType")
 |bl (x:Bool):TyOf K H (.bl x) (.type "bool")
 |int (i:Int):TyOf K H (.int i) (.type "int")
 |str (x:Str):TyOf K H (.str x) (.type "str")
 |flt (x:UInt64):TyOf K H (.flt x) (.type "float")
 |lst {a:Addr} {xs:List V} (e:H a=some (.lst xs)):TyOf K H (.ref a) (.type "list")
 |frz {a:Addr} {o:Obj} {xs:List V} (e:H a=some (.frz o (.lst xs))):TyOf K H (.ref a) (.type "list")
 |tup {a:Addr} {xs:List V} (e:H a=some (.tup xs)):TyOf K H (.ref a) (.type "tuple")
 |dK {a:Addr} {kvs:List (Key×V)} (e:H a=some (.dK kvs)):TyOf K H (.ref a) (.type "dict")
 |dT {a:Addr} {kvs:List (List Key×V)} (e:H a=some (.dT kvs)):TyOf K H (.ref a) (.type "dict")
 |ins {a C dx:Addr} {fs:List (Str×V)} (e:H a=some (.ins C dx fs)) (cl:Cls K C) (ha:PySem.W.findIn K (.ref C) "__class__"=some (some (.builtin "object.__class__")))
  (hn:PySem.W.specialIn K (.builtin "object.__class__") "__get__"=some (some (.builtin "getset_descriptor.__get__"))) (htk:PySem.W.takesIn K (.builtin "object.__class__")=some true)
  (hm:PySem.W.mroIn K C (.type "object")=some true):TyOf K H (.ref a) (.ref C)
theorem isinst_ok {x:V} {u t:Value} (I:Inv X pins σ H s) (rx:RelV x u) (ty:TyOf X.K H x t) (e:PySem.W.kitOne X.K t c=some b) (h:∀tk,Q (.bool b) {s with toks:=tk}):
  wpAny (model X.prog X.w) A (call (.builtin "isinstance") [u,c]) Q E s:=by
 cases ty with
 |non=>cases (show u=Value.none from rx);exact PySem.W.kia_one PySem.W.kitx_none I.kIn True.intro e (fun z=>nomatch z) h
 |bl y=>cases (show u=Value.bool y from rx);exact PySem.W.kia_one PySem.W.kitx_bool I.kIn True.intro e (fun z=>nomatch z) h
 |int i=>obtain ⟨t,q⟩:=(show ∃t,u=Value.int i t from rx);cases q;exact PySem.W.kia_one PySem.W.kitx_int I.kIn True.intro e (fun z=>nomatch z) h
 |str y=>obtain ⟨t,q⟩:=(show ∃t,u=Value.str y t from rx);cases q;exact PySem.W.kia_one PySem.W.kitx_str I.kIn True.intro e (fun z=>nomatch z) h
 |flt y=>obtain ⟨t,q⟩:=(show ∃t,u=Value.float y t from rx);cases q;exact PySem.W.kia_one PySem.W.kitx_float I.kIn True.intro e (fun z=>nomatch z) h
 | @lst a xs ea=>
  cases (show u=Value.ref a from rx)
  obtain ⟨_,_,n,_,h1⟩:=(show ObjOk X.prog X.w H s.heap a (.lst xs) from I.hok a _ ea)
  exact PySem.W.kia_one PySem.W.kitx_list I.kIn ⟨_,h1,rfl⟩ e (fun z=>nomatch z) h
 | @frz a ob xs ea=>
  cases (show u=Value.ref a from rx)
  obtain ⟨_,_,_,n,_,h1⟩:=(show ObjOk X.prog X.w H s.heap a (.frz ob (.lst xs)) from I.hok a _ ea)
  exact PySem.W.kia_one PySem.W.kitx_list I.kIn ⟨_,h1,rfl⟩ e (fun z=>nomatch z) h
 | @tup a xs ea=>
  cases (show u=Value.ref a from rx)
  obtain ⟨_,_,_,p⟩:=(show ObjOk X.prog X.w H s.heap a (.tup xs) from I.hok a _ ea)
  obtain ⟨o,h1,h2,_⟩:=p
  exact PySem.W.kia_one PySem.W.kitx_tuple I.kIn ⟨o,h1,h2⟩ e (fun z=>nomatch z) h
 | @dK a kvs ea=>
  cases (show u=Value.ref a from rx)
  obtain ⟨_,_,vs,_,p⟩:=(show ObjOk X.prog X.w H s.heap a (.dK kvs) from I.hok a _ ea)
  obtain ⟨o,es,ep,h1,h2,_⟩:=p
  exact PySem.W.kia_one PySem.W.kitx_dict I.kIn ⟨o,h1,h2.1⟩ e (fun z=>nomatch z) h
 | @dT a kvs ea=>
  cases (show u=Value.ref a from rx)
  obtain ⟨_,_,xs,_,o,es,ep,h1,h2,_⟩:=(show ObjOk X.prog X.w H s.heap a (.dT kvs) from I.hok a _ ea)
  exact PySem.W.kia_one PySem.W.kitx_dict I.kIn ⟨o,h1,h2.1⟩ e (fun z=>nomatch z) h
 | @ins a C dx fs ea cl ha hn htk hm=>
  cases (show u=Value.ref a from rx)
  obtain ⟨mA,O,_⟩:=ins_get I.hok ea
  obtain ⟨od,J,_⟩:=O.look
  exact PySem.W.kia_one (PySem.W.kitx_own (cl.get _) cl.hd ha hn htk hm) I.kIn J e (fun z=>nomatch z) h
end
end L2
namespace L2
open PySem PySem.Spec PyProof.Rows
structure Room (k:Nat) (A:Around):Prop where
 hd:A.handled=none
 dp:A.depth+3 * k+5<recursionLimit
 un:A.units+16 * k+200<cLine
 gd:A.guards=some []
theorem Room.mono {j k:Nat} {A:Around} (r:Room k A) (h:j≤k):Room j A:=⟨r.hd,by have:=r.dp;omega,by have:=r.un;omega,r.gd⟩
theorem Room.deeper {k:Nat} {A:Around} (r:Room (k+1) A) (env:Env):Room k (A.deeper env):=
 ⟨r.hd,by have:=r.dp;show A.depth+1+3 * k+5<_;omega,by have:=r.un;show A.units+3+16 * k+200<_;omega,by show pushGuards [] A.guards=some [];rw [r.gd];rfl⟩
theorem Room.depth {k:Nat} {A:Around} (r:Room k A):A.depth<recursionLimit:=by have:=r.dp;omega
theorem Room.units {k:Nat} {A:Around} (r:Room k A):A.units+64<cLine:=by have:=r.un;omega
def tNil:TA:=fun _ H Q=>Q [] H
def tCons (ta:TE) (tr:TA):TA:=fun σ H Q=>ta σ H fun x H1=>tr σ H1 fun xs H2=>Q (x::xs) H2
section
variable {X:Cx} {e:Expr} {es:List Expr} {te:TE} {t:TA} {pos:Pos}
theorem Ac:PA X [] tNil:=fun _ _ _ _ H Q I h=>Calls.spliced_nil ⟨[],H,I,.nil,h⟩
theorem Aa (ha:PE X e te) (hr:PA X es t) (hs:starEach (e::es) X.env=(false,eval e X.env)::starEach es X.env:=by rfl):PA X (e::es) (tCons te t):=by
 intro pos pins s σ H Q I h
 rw [hs]
 show wpAny _ _ (spliced ((false,eval e X.env)::backTo pos (starEach es X.env))) _ _ s
 refine Calls.spliced_cons (thn (ha pins s σ H _ I h) fun u s1 ⟨x,H1,I1,r1,q1⟩=> ?_)
 exact thn (hr pos pins s1 σ H1 _ I1 q1) fun us s2 ⟨xs,H2,I2,r2,q2⟩=>⟨x::xs,H2,I2,.cons r1 r2,q2⟩
def tTup (t:TA):TE:=fun σ H Q=>t σ H fun xs H1=>xs.length≤sizeLine∧∀p,H1 p=none→Q (.ref p) (upd H1 p (.tup xs))
def tLst (t:TA):TE:=fun σ H Q=>t σ H fun xs H1=>xs.length≤sizeLine∧∀p,H1 p=none→Q (.ref p) (upd H1 p (.lst xs))
theorem Cb {x1} (h:PA X es t):PE X (.Tuple es x1 pos) (tTup t):=by
 intro pins s σ H Q I hq
 refine wpAny_Tuple_spliced (thn (h pos pins s σ H _ I hq) fun us s1 ⟨xs,H1,I1,r,z,q⟩=>⟨by rw [←r.length];exact z,?_⟩)
 have hf:H1 s1.heap.objs.size=none:=I1.hok.fresh (Nat.le_refl _)
 refine ⟨.ref s1.heap.objs.size,upd H1 s1.heap.objs.size (.tup xs),I1.laid (t':=s1.toks) (fun b u e=>Heap.get?_push_of_some _ e) (Nat.le_refl _) ?_,rfl,q _ hf⟩
 exact ⟨z,us,r,IsTupN.new _ _⟩
theorem Ca (h:PA X es t):PE X (.List es pos) (tLst t):=by
 intro pins s σ H Q I hq
 refine wpAny_List_spliced (thn (h pos pins s σ H _ I hq) fun us s1 ⟨xs,H1,I1,r,z,q⟩=>⟨by rw [←r.length];exact z,?_⟩)
 have hf:H1 s1.heap.objs.size=none:=I1.hok.fresh (Nat.le_refl _)
 refine ⟨.ref s1.heap.objs.size,upd H1 s1.heap.objs.size (.lst xs),I1.laid (t':=s1.toks) (fun b u e=>Heap.get?_push_of_some _ e) (Nat.le_refl _) ?_,rfl,q _ hf⟩
 exact ⟨z,us,0,r,Heap.get?_push_size _ rfl⟩
end
abbrev Sp:=List V→Hp→VK→XK→Prop
abbrev CXT:=List Env→Hp→Shared→XK→Value→Shared→Prop
structure Env0 (P:Program) (w:World) (K:PySem.W.Frag) (mg:Str→Option Value) (base:Heap) (A:Around) (outer:List Env) (s:Shared) (H:Hp):Prop where
 frames:A.frames=some outer
 mod:Mod K mg base
 bs:∀b o,base.get? b=some o→s.heap.get? b=some o∧H b=none
 bsz:base.objs.size≤s.heap.objs.size
 funs:s.heap.FunFrames base outer
 frf:∀b∈frs outer,H b=none
 hok:HOk P w H s.heap
 bare:AllBare s.gens
def CE (outer:List Env) (P:Program) (w:World) (H:Hp) (s:Shared) (Q:VK) (u:Value) (s':Shared):Prop:=
 ∃v H',s'.os=s.os∧AllBare s'.gens∧Un (frs outer) [] H H' s.heap s'.heap∧HOk P w H' s'.heap∧RelV v u∧Q v H'
def CR (CX:CXT) (outer:List Env) (P:Program) (w:World) (H:Hp) (s:Shared) (Q:VK) (E:XK) (r:Result) (s':Shared):Prop:=
 match r with
 | .ok (.ret u)=>CE outer P w H s Q u s'
 | .ok _=>False
 | .error e=>CX outer H s E e s'
structure FnOk (P:Program) (w:World) (K:PySem.W.Frag) (mg:Str→Option Value) (base:Heap) (CX:CXT) (k:Nat) (f:Addr) (fd:FuncData) (ps:List Str) (sp:Sp):Prop where
 len:∀vs H Q E,sp vs H Q E→vs.length=ps.length
 run:∀(A:Around) (outer:List Env) (s:Shared) (H:Hp) (args:Args) (us:List Value) (vs:List V) (Q:VK) (E:XK),Room k A→Env0 P w K mg base A outer s H→BindsTo s fd args (ps.zip us)→Vals vs us→sp vs H Q E→
  codeAny (model P w) A (.call (.ref f) args) (CR CX outer P w H s Q E) s
theorem FnOk.mono {P:Program} {w:World} {K:PySem.W.Frag} {mg:Str→Option Value} {base:Heap} {CX:CXT} {j k:Nat} {f:Addr} {fd:FuncData} {ps:List Str} {sp:Sp} (F:FnOk P w K mg base CX j f fd ps sp) (h:j≤k):
  FnOk P w K mg base CX k f fd ps sp:=⟨F.len,fun A outer s H args us vs Q E hr=>F.run A outer s H args us vs Q E (hr.mono h)⟩
section
variable {X:Cx} {pins:List (Addr×Obj)} {σ:St} {H:Hp} {s s':Shared}
theorem Inv.env0 (I:Inv X pins σ H s):Env0 X.prog X.w X.K X.mg X.base X.A X.stack s H:=
 ⟨I.ok.frames,I.ok.mod,I.bs,Nat.le_trans I.ok.bsz I.sz,I.stack,I.stkFree,I.hok,I.bare⟩
theorem Inv.after {Q:VK} {u:Value} (I:Inv X pins σ H s) (h:CE X.stack X.prog X.w H s Q u s'):EP X pins σ Q u s':=by
 obtain ⟨v,H',os,bare,un,hok,r,q⟩:=h
 obtain ⟨hh,g,d,t,os'⟩:=s'
 obtain rfl:os'=s.os:=os
 exact ⟨v,H',I.call (h':=hh) (g':=g) (d':=d) (t':=t) (ch:=[]) un hok bare (fun b z=>absurd z (by simp)),r,q⟩
end
def tCall (sp:Sp) (dvs:List V) (E:XK) (t:TA):TE:=fun σ H Q=>t σ H fun vs H1=>sp (vs++dvs) H1 Q E
def Binds (K:PySem.W.Frag) (fd:FuncData) (ps:List Str) (ds:List Value):Prop:=
 ∀(s:Shared) (us:List Value),K.In s.heap→(us++ds).length=ps.length→BindsTo s fd ⟨us,[]⟩ (ps.zip (us++ds))
theorem Binds.all {K:PySem.W.Frag} {fd:FuncData} {ps:List Str} (h:∀us:List Value,us.length=ps.length→bindArgs fd ⟨us,[]⟩=pure (ps.zip us)):Binds K fd ps []:=fun s us _ hl=>by
 rw [List.append_nil] at hl ⊢
 exact .of_eq (h us hl)
def Passes (CX:CXT) (X:Cx) (E:XK):Prop:=∀(pins:List (Addr×Obj)) (σ:St) (H:Hp) (s:Shared) (e:Value) (s':Shared),Inv X pins σ H s→CX X.stack H s E e s'→X.xe e s'
section
variable {X:Cx} {CX:CXT} {k:Nat} {f C:Addr} {fd:FuncData} {ps:List Str} {sp:Sp} {dvs:List V} {ds:List Value} {E:XK} {x m:Str} {p pos apos:Pos} {e o:Expr} {es:List Expr} {ta:TE} {t:TA}
theorem run_fn {pins:List (Addr×Obj)} {σ:St} {H:Hp} {s:Shared} {Q:VK} {us:List Value} {vs:List V} (F:FnOk X.prog X.w X.K X.mg X.base CX k f fd ps sp) (hr:Room k X.A) (hb:Binds X.K fd ps ds) (hd:Vals dvs ds) (hx:Passes CX X E)
  (I:Inv X pins σ H s) (r:Vals vs us) (h:sp (vs++dvs) H Q E):wpAny (model X.prog X.w) X.A (call (.ref f) us) (EP X pins σ Q) X.xe s:=by
 have r2:Vals (vs++dvs) (us++ds):=r.append hd
 have hl:(us++ds).length=ps.length:=by rw [←r2.length];exact F.len _ _ _ _ h
 refine wpAny_call (codeAny_mono (F.run X.A X.stack s H ⟨us,[]⟩ (us++ds) (vs++dvs) Q E hr I.env0 (hb s us I.kIn hl) r2 h) fun r s' hq=> ?_)
 cases r with
 |error e=>exact hx pins σ H s e s' I hq
 |ok fl=>
  cases fl with
  |ret u=>exact I.after hq
  |next=>exact False.elim hq
  |brk=>exact False.elim hq
  |cont=>exact False.elim hq
theorem Ai (F:FnOk X.prog X.w X.K X.mg X.base CX k f fd ps sp) (hr:Room k X.A) (hg:Gl X x) (hm:X.mg x=some (.ref f)) (hk:PySem.W.keepIn X.K (.ref f)=true) (hb:Binds X.K fd ps ds) (hd:Vals dvs ds) (hx:Passes CX X E)
  (ha:PA X (e::es) t) (hdb:(x==("__debug__":Str))=false:=by decide) (he:starEach (e::es) X.env=(false,eval e X.env)::starEach es X.env:=by rfl) (hpl:(backTo pos (starEach es X.env)).any (·.1)=false:=by rfl):
  PE X (.Call (.Name x p) (e::es) [] pos) (tCall sp dvs E t):=by
 intro pins s σ H Q I h
 refine wpAny_Call_Name_kw (ld_glob I hg hm ?_ hdb)
 refine PySem.W.callWith_K (h₀:=X.base) I.ok.mod.kin hk (thn (ha pos pins s σ H _ I h) fun us s1 ⟨vs,H1,I1,r,q⟩=>⟨I1.kIn,?_⟩) he hpl
 exact run_fn F hr hb hd hx I1 r q
end
section
variable {X:Cx} {CX:CXT} {k:Nat} {f C:Addr} {fd:FuncData} {ps ks:List Str} {sp:Sp} {E:XK} {x m:Str} {p pos apos kpos:Pos} {e o:Expr} {es:List Expr} {kws:List Keyword} {te ta:TE} {t tk:TA} {nm:Option Str}
variable {g:List Value→List Value→List Value} {gV:List V→List V→List V}
end
structure Av (N P:List Str) (sc:Scope):Prop where
 kind:sc.kind= .function
 co:sc.isCoroutine=false
 gen:sc.isGenerator=false
 nd:N.Nodup
 pre:N.take P.length=P
 par:∀x∈P,sc.names.lookup x=some .local∨sc.names.lookup x=some .cell
 nofree:∀y∈sc.names,y.2≠ .free
theorem bindL_out {kindOf:Str→Option NameKind} {x:Str}:∀{binds:List (Str×Value)} {m:Str→Option Value},(∀v,(x,v) ∉ binds)→bindL kindOf binds m x=m x
 |[],_,_=>rfl
 |(n,v)::r,m,h=>by
  unfold bindL
  rw [bindL_out fun w hw=>h w (List.mem_cons_of_mem _ hw)]
  split
  ·have:x≠n:=by rintro rfl;exact h v List.mem_cons_self
   simp [this]
  ·rfl
theorem bindC_out {kindOf:Str→Option NameKind} {x:Str}:∀{binds:List (Str×Value)} {m:Str→Option Value},(∀v,(x,v) ∉ binds)→bindC kindOf binds m x=m x
 |[],_,_=>rfl
 |(n,v)::r,m,h=>by
  unfold bindC
  rw [bindC_out fun w hw=>h w (List.mem_cons_of_mem _ hw)]
  split
  ·rfl
  ·have:x≠n:=by rintro rfl;exact h v List.mem_cons_self
   simp [this]
theorem bindL_get {kindOf:Str→Option NameKind} {x:Str} {v:Value}:∀{P:List Str} {vs:List Value} {i:Nat} {m:Str→Option Value},P.Nodup→P[i]? =some x→vs[i]? =some v→kindOf x=some .local→
  bindL kindOf (P.zip vs) m x=some v
 |[],_,_,_,_,h,_,_=>by simp at h
 |_::_,[],_,_,_,_,h,_=>by simp at h
 |p::P,w::vs,0,m,nd,h1,h2,hk=>by
  simp at h1 h2;subst h1;subst h2
  show bindL kindOf ((p,w)::P.zip vs) m p=_
  unfold bindL
  rw [bindL_out fun v hv=>(List.nodup_cons.mp nd).1 (List.of_mem_zip hv).1,if_pos hk]
  simp
 |p::P,w::vs,i+1,m,nd,h1,h2,hk=>by
  show bindL kindOf ((p,w)::P.zip vs) m x=_
  unfold bindL
  exact bindL_get (i:=i) (List.nodup_cons.mp nd).2 (by simpa using h1) (by simpa using h2) hk
theorem bindC_get {kindOf:Str→Option NameKind} {x:Str} {v:Value}:∀{P:List Str} {vs:List Value} {i:Nat} {m:Str→Option Value},P.Nodup→P[i]? =some x→vs[i]? =some v→kindOf x≠some .local→
  bindC kindOf (P.zip vs) m x=some v
 |[],_,_,_,_,h,_,_=>by simp at h
 |_::_,[],_,_,_,_,h,_=>by simp at h
 |p::P,w::vs,0,m,nd,h1,h2,hk=>by
  simp at h1 h2;subst h1;subst h2
  show bindC kindOf ((p,w)::P.zip vs) m p=_
  unfold bindC
  rw [bindC_out fun v hv=>(List.nodup_cons.mp nd).1 (List.of_mem_zip hv).1,if_neg hk]
  simp
 |p::P,w::vs,i+1,m,nd,h1,h2,hk=>by
  show bindC kindOf ((p,w)::P.zip vs) m x=_
  unfold bindC
  exact bindC_get (i:=i) (List.nodup_cons.mp nd).2 (by simpa using h1) (by simpa using h2) hk
def start (N:List Str) (vs:List V):St:=vs.map some++List.replicate (N.length - vs.length) none
def cxOf (CX:CXT) (P:Program) (w:World) (K:PySem.W.Frag) (mg:Str→Option Value) (base:Heap) (N:List Str) (qual:Str) (scope:Scope) (f:Addr) (cd:Value) (A:Around) (outer:List Env) (s:Shared) (H:Hp) (E:XK):Cx where
 prog:=P
 w:=w
 K:=K
 mg:=mg
 base:=base
 A:=A.deeper (envOfC qual scope s.heap.objs.size f cd)
 N:=N
 s₀:=s
 H₀:=H
 env:=envOfC qual scope s.heap.objs.size f cd
 outer:=outer
 stack:=envOfC qual scope s.heap.objs.size f cd::outer
 ex:=[]
 calm:=true
 fn:=fun _=>true
 pn:=[]
 xe:=fun e s'=>wpAny (model P w) (A.deeper (envOfC qual scope s.heap.objs.size f cd)) (leaving (envOfC qual scope s.heap.objs.size f cd) e) (fun _ s''=>CX outer H s E e s'') (fun e' s''=>CX outer H s E e' s'') s'
theorem cell_has {sc:Scope} {n:Nat} {x:Str} (h:sc.names.lookup x=some .cell):∃c,(cellsFrom n sc.names []).lookup x=some c:=by
 have q:=PySem.W.cellsFrom_some sc.names n [] (.inl h)
 exact Option.isSome_iff_exists.mp q
theorem inv_start {CX:CXT} {P:Program} {w:World} {K:PySem.W.Frag} {mg:Str→Option Value} {base:Heap} {N ps:List Str} {qual:Str} {scope:Scope} {f:Addr} {cd:Value} {A:Around} {outer:List Env} {s s1:Shared} {H:Hp} {E:XK} {us:List Value} {vs:List V}
  (S:Av N ps scope) (hd:A.handled=none) (e0:Env0 P w K mg base A outer s H) (hl:vs.length=ps.length) (r:Vals vs us)
  (x:InCallC s s.heap.objs.size (bindL (envOfC qual scope s.heap.objs.size f cd).kindOf (ps.zip us) fun _=>none) (cellsFrom (s.heap.objs.size+1) scope.names []) (bindC (envOfC qual scope s.heap.objs.size f cd).kindOf (ps.zip us) fun _=>none) s1):
  Inv (cxOf CX P w K mg base N qual scope f cd A outer s H E) [] (start N vs) H s1:=by
 have hpl:ps.length≤N.length:=by have:=congrArg List.length S.pre;rw [List.length_take] at this;omega
 obtain ⟨h1,tk,rfl,hk⟩:=x.done
 have noA:∀b:Addr,b ∉ (cxOf CX P w K mg base N qual scope f cd A outer s H E).ex:=fun b z=>absurd (show b∈([]:List Addr) from z) (by simp)
 refine ⟨⟨e0.mod,S.kind,rfl,rfl,Nat.le_refl _,fun y z c h1 h2=> ?_,fun y hy=> ?_,fun y c _ h=> ?_,fun _=>hd,Around.frames_deeper e0.frames,.inr ⟨rfl,rfl⟩,fun b z=>absurd z (noA b),e0.bs,e0.bsz,fun b _ _=>noA b,fun b z=>absurd z (noA b),e0.funs,e0.frf⟩,
  rfl,e0.bare,Un.kept hk,⟨_,x.toInCall.ns,fun i y v h1 h2 h3=> ?_⟩,fun y c h=>⟨_,x.cell y c h⟩,e0.hok.fresh (Nat.le_refl _),fun y c h=> ?_,fun p hp=>absurd (show p∈([]:List (Addr×Obj)) from hp) (by simp),e0.hok.kept hk,?_⟩
 ·exact name_of_addr x.apart (PySem.mem_of_lookup h1) (PySem.mem_of_lookup h2)
 ·have hy:scope.names.lookup y=some .cell∨scope.names.lookup y=some .free:=hy
  rcases hy with hy|hy
  ·exact cell_has hy
  ·exact absurd rfl (S.nofree _ (PySem.mem_of_lookup hy))
 ·exact Nat.le_of_lt (x.above y c (PySem.mem_of_lookup h))
 ·have hi:i<vs.length:=by
   unfold start at h2
   by_cases hi:i<vs.length
   ·exact hi
   ·rw [List.getElem?_append_right (by simpa using hi)] at h2
    rw [List.getElem?_replicate] at h2
    split at h2<;> cases h2
  have ha:vs[i]? =some v:=by
   unfold start at h2
   rw [List.getElem?_append_left (by simpa using hi),List.getElem?_map] at h2
   cases e:vs[i]? with
   |none=>rw [e] at h2;cases h2
   |some a=>rw [e] at h2;cases h2;rfl
  obtain ⟨u,hu,rv⟩:=r.get ha
  have hp:ps[i]? =some y:=by
   rw [←S.pre,List.getElem?_take_of_lt (by omega)];exact h1
  have ndP:ps.Nodup:=by rw [←S.pre];exact S.nd.sublist (List.take_sublist _ _)
  refine ⟨u,rv,?_⟩
  rcases S.par y (List.mem_of_getElem? hp) with k|k
  ·exact .inl ⟨k,bindL_get ndP hp hu k⟩
  ·obtain ⟨c,e⟩:=cell_has (n:=s.heap.objs.size+1) k
   refine .inr ⟨.inl k,c,e,?_⟩
   have q:=x.cell y c e
   rw [bindC_get ndP hp hu (by show scope.names.lookup y≠_;rw [k];decide)] at q
   exact q
 ·exact e0.hok.fresh (Nat.le_of_lt (x.above y c (PySem.mem_of_lookup h)))
 ·unfold start
  show _=N.length
  rw [List.length_append,List.length_map,List.length_replicate]
  omega
theorem fn_of {CX:CXT} {P:Program} {w:World} {K:PySem.W.Frag} {mg:Str→Option Value} {base:Heap} {k:Nat} {f:Addr} {name qual:Str} {params:Arguments} {body:List Stmt} {scope:Scope} {dV kV doc pm cdv ct oc:Value} {an od:Option Addr}
  {osl:Array (Option Value)} {N ps:List Str} {sp:Sp} (lk:K.lookup f=some ⟨oc,od,.func (PySem.W.fnOf name qual params body scope dV kV doc pm an cdv ct),osl⟩) (hcd:PySem.W.codeIn K cdv qual=true) (S:Av N ps scope)
  (len:∀vs H Q E,sp vs H Q E→vs.length=ps.length)
  (hbody:∀(A:Around) (outer:List Env) (s:Shared) (H:Hp) (vs:List V) (Q:VK) (E:XK),Room k (A.deeper (envOfC qual scope s.heap.objs.size f cdv))→sp vs H Q E→
   ∃t,PSs (cxOf CX P w K mg base N qual scope f cdv A outer s H E) body t∧t {nx:=fun _ H'=>Q .non H',rt:=Q} (start N vs) H):
  FnOk P w K mg base CX (k+1) f (PySem.W.fnOf name qual params body scope dV kV doc pm an cdv ct) ps sp:=by
 refine ⟨len,fun A outer s H args us vs Q E hr e0 hb r hsp=> ?_⟩
 have hl:=len _ _ _ _ hsp
 have KX:K.In s.heap:=e0.mod.kin.keeps fun b o e=>(e0.bs b o e).1
 have lim:s.heap.NoLimit:=e0.mod.nolimit.keeps fun b o e=>(e0.bs b o e).1
 have hkind:∀y∈ps.zip us,scope.names.lookup y.1=some .local∨(scope.names.lookup y.1=some .cell∧((cellsFrom (s.heap.objs.size+1) scope.names []).lookup y.1).isSome=true):=fun ⟨n,v⟩ hy=>by
  rcases S.par n (List.of_mem_zip hy).1 with q|q
  ·exact .inl q
  ·exact .inr ⟨q,PySem.W.cellsFrom_some _ _ _ (.inl q)⟩
 refine codeAny_call_function hr.depth (KX _ _ lk) rfl S.co S.gen rfl (PySem.W.codeRec_of KX hcd) (hb _ _ _ _ ?_)
 refine wpAny_newFunctionEnv_cells S.kind hkind fun env he s1 x=> ?_
 subst he
 refine ⟨lim.keeps x.toInCall.keep,codeAny_func ?_⟩
 obtain ⟨t,ht,hq⟩:=hbody A outer s H vs Q E (hr.deeper _) hsp
 have I:Inv (cxOf CX P w K mg base N qual scope f cdv A outer s H E) [] (start N vs) H s1:=inv_start S hr.hd e0 hl r x
 refine wpAny_mono (ht [] s1 (start N vs) H _ I hq) (fun fl s' hs=> ?_) fun e s' hs=>hs
 have fin:∀{σ':St} {H':Hp} {v:V} {u:Value},Inv (cxOf CX P w K mg base N qual scope f cdv A outer s H E) [] σ' H' s'→RelV v u→Q v H'→CE outer P w H s Q u s':=
  fun {σ' H' v u} J rv q=>⟨v,H',J.os,J.bare,J.base,J.hok,rv,q⟩
 cases fl with
 |ret u=>
  obtain ⟨v,σ',H',J,rv,q⟩:=hs
  exact fin J rv q
 |next=>
  obtain ⟨σ',H',J,q⟩:=hs
  exact fin (v:=V.non) (u:=Value.none) J rfl q
 |brk=>
  obtain ⟨_,_,_,q⟩:=hs
  exact False.elim q
 |cont=>
  obtain ⟨_,_,_,q⟩:=hs
  exact False.elim q
end L2
namespace L2
open PySem PySem.Spec PyProof.Rows
section
variable {X:Cx} {x:Str} {p pos:Pos} {e:Expr} {es:List Expr} {t:TA} {id T:String} {r:List V→Hp→VK→Prop}
def tCB (r:List V→Hp→VK→Prop) (t:TA):TE:=fun σ H Q=>t σ H fun vs H1=>r vs H1 Q
theorem Aj (hc:CallR X (.builtin id) r) (hg:Gl X x) (hm:X.mg x=none) (hv:bootBuiltins x=some (.builtin id)) (ha:PA X (e::es) t) (hn:x≠"__name__":=by decide) (hdb:(x==("__debug__":Str))=false:=by decide)
  (he:starEach (e::es) X.env=(false,eval e X.env)::starEach es X.env:=by rfl) (hpl:(backTo pos (starEach es X.env)).any (·.1)=false:=by rfl):PE X (.Call (.Name x p) (e::es) [] pos) (tCB r t):=by
 intro pins s σ H Q I h
 refine wpAny_Call_Name_kw (ld_blt I hg hm hv ?_ hn hdb)
 exact PyProof.Rows.callWith_builtin1 (thn (ha pos pins s σ H _ I h) fun us s1 ⟨vs,H1,I1,r1,q1⟩=>hc pins s1 σ H1 vs us Q I1 r1 q1) he hpl
theorem Bt (hc:CallR X (.type T) r) (hg:Gl X x) (hm:X.mg x=none) (hv:bootBuiltins x=some (.type T)) (ha:PA X (e::es) t) (hn:x≠"__name__":=by decide) (hdb:(x==("__debug__":Str))=false:=by decide)
  (he:starEach (e::es) X.env=(false,eval e X.env)::starEach es X.env:=by rfl) (hpl:(backTo pos (starEach es X.env)).any (·.1)=false:=by rfl):PE X (.Call (.Name x p) (e::es) [] pos) (tCB r t):=by
 intro pins s σ H Q I h
 refine wpAny_Call_Name_kw (ld_blt I hg hm hv ?_ hn hdb)
 exact PyProof.Rows.callWith_type1 (thn (ha pos pins s σ H _ I h) fun us s1 ⟨vs,H1,I1,r1,q1⟩=>hc pins s1 σ H1 vs us Q I1 r1 q1) he hpl
end
end L2
namespace HT
open PySem PyProof.Rows
section
open PySem.SeqAt
open PySem.AutoSeq1 (wpAny_loadPart')
open PySem.MeetsSeq PySem.MeetsSeq2 PySem.MeetsSeq3
end
section
variable {prog:Program} {w:World} {A:Around} {E:Value→Shared→Prop} {s:Shared}
theorem cat_tup {t b:Addr} {vs ws:List Value} {Q:Value→Shared→Prop} (ht:IsTup s.heap t vs.toArray) (hb:IsTup s.heap b ws.toArray) (hv:vs≠[])
  (h1:ws=[]→Q (.ref t) s) (h2:ws≠[]→Q (.ref s.heap.objs.size) {s with heap:=s.heap.push {cls:= .type "tuple",data:= .seq (vs++ws).toArray}})
  (hsz:vs.length+ws.length≤sizeLine):wpAny (model prog w) A (binaryOp .Add (.ref t) (.ref b)) Q E s:=by
 obtain ⟨⟨cls,dd,data,sl⟩,ho,hc,n,hd⟩:=id ht
 obtain ⟨⟨cls2,dd2,data2,sl2⟩,ho2,hc2,n2,hd2⟩:=id hb
 simp only at hc hd hc2 hd2
 subst hc hd hc2 hd2
 have e:vs.toArray++ws.toArray=(vs++ws).toArray:=by simp
 by_cases hw:ws=[]
 ·exact concat_meets ⟨_,ho,rfl⟩ ⟨_,ho2,rfl⟩ noFill_tuple_add seq_tuple_add PySem.F.slot_tuple_add PySem.F.entry_tuple_add (PySem.F.args_tuple_add_2 _ _)
   (tuple_addW1 t b vs.toArray ws.toArray n n2 dd dd2 sl sl2 (by simpa using hv) (by simp [hw])) ⟨ho,ho2,h1 hw⟩
 ·refine concat_meets ⟨_,ho,rfl⟩ ⟨_,ho2,rfl⟩ noFill_tuple_add seq_tuple_add PySem.F.slot_tuple_add PySem.F.entry_tuple_add (PySem.F.args_tuple_add_2 _ _)
   (tuple_addW2 t b vs.toArray ws.toArray n n2 dd dd2 sl sl2 (by simpa using hv) (by simpa using hw) (by rw [List.size_toArray,List.size_toArray];exact hsz)) ⟨ho,ho2,?_⟩
  rw [e]
  exact h2 hw
def sIx (n d:Nat):Option Int→Nat
 |none=>d
 |some v=>if v<0 then (v+(n:Int)).toNat else min v.toNat n
theorem sIx_none (n d:Nat):sIx n d none=d:=rfl
theorem sIx_nat (n d k:Nat):sIx n d (some (k:Int))=min k n:=by
 show (if (k:Int)<0 then ((k:Int)+(n:Int)).toNat else min (k:Int).toNat n)=min k n
 rw [if_neg (by omega),Int.toNat_natCast]
theorem sIx_le (n d:Nat) (hd:d≤n) (o:Option Int):sIx n d o≤n:=by
 cases o with
 |none=>exact hd
 |some v=>
  show (if v<0 then (v+(n:Int)).toNat else min v.toNat n)≤n
  by_cases hv:v<0
  ·rw [if_pos hv];omega
  ·rw [if_neg hv];exact Nat.min_le_right _ _
theorem clip_eq (v:Int) (n d:Nat):(if v<0 then max (v+(n:Int)) 0 else min v (n:Int))=((sIx n d (some v):Nat):Int):=by
 show (if v<0 then max (v+(n:Int)) 0 else min v (n:Int))=(((if v<0 then (v+(n:Int)).toNat else min v.toNat n):Nat):Int)
 by_cases hv:v<0
 ·simp only [if_pos hv];omega
 ·simp only [if_neg hv];omega
theorem adjust_gen (lo hi:Option Int) (n:Nat):Builtin.Slice.sliceAdjust lo hi 1 (n:Int)=(((sIx n 0 lo:Nat):Int),((sIx n n hi:Nat):Int)):=by
 have h1:¬((1:Int)<0):=by decide
 unfold Builtin.Slice.sliceAdjust
 simp only [h1,if_false]
 refine Prod.ext ?_ ?_
 ·cases lo with
  |none=>rfl
  |some v=>exact clip_eq v n 0
 ·cases hi with
  |none=>rfl
  |some v=>exact clip_eq v n n
theorem places_gen (i j:Nat):Builtin.Slice.slicePlaces (i:Int) (j:Int) 1=j - i:=by
 unfold Builtin.Slice.slicePlaces
 have h1:(1:Int) > 0:=by decide
 simp only [h1,if_true,Int.ediv_one]
 split<;> omega
theorem slicePart_ {v:Value} {o:Option Int} {Q:Option Int→Shared→Prop} (p:IsPart v o) (h:Q o s):wpAny (model prog w) A (Builtin.Slice.slicePartIndex v) Q E s:=by
 cases p with
 |none=>exact slicePart_none h
 |int i t=>exact slicePart_int h
theorem sliceApplied_gen {sl:Addr} {vl vu:Value} {lo hi:Option Int} {n:Nat} {Q:Int×Int×Nat→Shared→Prop} (hs:s.heap.IsSliceOf sl vl vu .none) (pl:IsPart vl lo) (pu:IsPart vu hi)
  (h:Q (((sIx n 0 lo:Nat):Int),1,sIx n n hi - sIx n 0 lo) s):wpAny (model prog w) A (Builtin.Slice.sliceApplied (.ref sl) (pure (n:Int))) Q E s:=by
 obtain ⟨os,hos,hcs,hds⟩:=id hs
 unfold Builtin.Slice.sliceApplied Builtin.Slice.sliceFields
 refine wpAny_bind (wpAny_bind (wpAny_field hos hds (x:=vl) rfl (wpAny_bind (wpAny_field hos hds (x:=vu) rfl (wpAny_bind (wpAny_field hos hds (x:= .none) rfl (wpAny_pure ?_)))))))
 refine wpAny_bind (slicePart_none ?_)
 show wpAny _ _ (if ((1:Int)==0)=true then _ else _) _ _ s
 rw [if_neg (by decide)]
 refine wpAny_bind (slicePart_ pl (wpAny_bind (slicePart_ pu (wpAny_bind (wpAny_pure ?_)))))
 show wpAny _ _ (match Builtin.Slice.sliceAdjust lo hi 1 (n:Int) with|(lo,hi)=>pure (lo,(1:Int),Builtin.Slice.slicePlaces lo hi 1)) _ _ s
 rw [adjust_gen lo hi n]
 show wpAny _ _ (pure (((sIx n 0 lo:Nat):Int),(1:Int),Builtin.Slice.slicePlaces ((sIx n 0 lo:Nat):Int) ((sIx n n hi:Nat):Int) 1)) _ _ s
 rw [places_gen]
 exact wpAny_pure h
theorem pick_gen (xs:Array Value) (i k:Nat):((List.range k).filterMap fun (m:Nat)=>xs[((i:Int)+(m:Int) * 1).toNat]?).toArray=((xs.toList.drop i).take k).toArray:=by
 have e:(fun (m:Nat)=>xs[((i:Int)+(m:Int) * 1).toNat]?)=fun m=>xs[i+m]? :=by
  funext m
  have:((i:Int)+(m:Int) * 1).toNat=i+m:=by omega
  rw [this]
 rw [e]
 have:=pick_run xs i k
 rw [List.filterMap_map] at this
 have e2:((fun x=>xs[x]?)∘fun x=>i+x)=fun m=>xs[i+m]? :=rfl
 rw [e2] at this
 rw [this]
theorem getItem_tuple_cut {t sl:Addr} {items:Array Value} {vl vu:Value} {lo hi:Option Int} {Q:Value→Shared→Prop} (ht:IsTup s.heap t items) (hs:s.heap.IsSliceOf sl vl vu .none) (pl:IsPart vl lo) (pu:IsPart vu hi)
  (hw:¬(sIx items.size 0 lo=0∧sIx items.size items.size hi=items.size))
  (h:Q (.ref s.heap.objs.size) {s with heap:=s.heap.push {cls:= .type "tuple",data:= .seq ((items.toList.drop (sIx items.size 0 lo)).take (sIx items.size items.size hi - sIx items.size 0 lo)).toArray}})
  (hsz:items.size≤sizeLine):wpAny (model prog w) A (getItem (.ref t) (.ref sl)) Q E s:=by
 have htake:sizeOk (.seq ((items.toList.drop (sIx items.size 0 lo)).take (sIx items.size items.size hi - sIx items.size 0 lo)).toArray):=by
  show ((items.toList.drop (sIx items.size 0 lo)).take (sIx items.size items.size hi - sIx items.size 0 lo)).toArray.size≤sizeLine
  rw [List.size_toArray,List.length_take,List.length_drop,Array.length_toList]
  omega
 have hj:sIx items.size items.size hi≤items.size:=sIx_le _ _ (Nat.le_refl _) hi
 obtain ⟨os,hos,hcs,hds⟩:=id hs
 have hTs:s.TypeIs (.ref sl) "slice":=⟨os,hos,hcs⟩
 unfold getItem
 try with_reducible refine wpAny_holding ?_
 first|refine wpAny_bind (wpAny_pure ?_)|skip
 refine wpAny_bind (wpAny_sequenceKey ht.typeIs (by decide) ?_)
 refine wpAny_bind (wpAny_callSpecial?_slot (name:=Str.ofString "__getitem__") ht.typeIs PyProof.Rows.slot_tuple_getitem
  (wpAny_call_entry PyProof.Rows.slot_tuple_getitem ht.typeIs entry_tuple_getitem ?_ (args_tuple_getitem _ _)))
 show wpAny _ _ (Builtin.Tuple.tupleItemsOf (.ref t) >>=_) _ _ s
 refine wpAny_bind (tupleItemsOf_ ht ?_)
 refine wpAny_bind (wpAny_typeOf hTs ?_)
 rw [if_pos (by decide)]
 refine wpAny_bind (sliceApplied_gen hs pl pu ?_)
 have hno:¬((((sIx items.size 0 lo:Nat):Int)==0 && (1:Int)==1 && (sIx items.size items.size hi - sIx items.size 0 lo)==items.size)=true):=by
  intro q
  rw [Bool.and_eq_true,Bool.and_eq_true] at q
  have q1:((sIx items.size 0 lo:Nat):Int)=0:=eq_of_beq q.1.1
  have q2:sIx items.size items.size hi - sIx items.size 0 lo=items.size:=eq_of_beq q.2
  exact hw ⟨by omega,by omega⟩
 show wpAny _ _ (if (((sIx items.size 0 lo:Nat):Int)==0 && (1:Int)==1 && (sIx items.size items.size hi - sIx items.size 0 lo)==items.size)=true then _ else _) _ _ s
 rw [if_neg hno,pick_gen]
 first
  |exact wpAny_bind (m:=Builtin.Tuple.tupleExact _) (wpAny_newObj_type (wpAny_pure ⟨_,rfl,wpAny_pure h⟩) htake)
  |exact wpAny_bind (m:=Builtin.Tuple.tupleExact _) (wpAny_newObj_type (wpAny_bind (wpAny_pure (wpAny_pure ⟨_,rfl,wpAny_pure h⟩))) htake)
  |exact wpAny_bind (wpAny_bind (m:=Builtin.Tuple.tupleExact _) (wpAny_newObj_type (wpAny_pure (wpAny_pure ⟨_,rfl,wpAny_pure h⟩)) htake))
  |exact wpAny_bind (wpAny_bind (m:=Builtin.Tuple.tupleExact _) (wpAny_newObj_type (wpAny_pure ⟨_,rfl,wpAny_pure h⟩) htake))
end
end HT
namespace L2
open PySem PySem.Spec PyProof.Rows
abbrev TO:=St→Hp→(Option Int→Hp→Prop)→Prop
def PO (X:Cx) (e:Option Expr) (t:TO):Prop:=
 ∀(pins:List (Addr×Obj)) (s:Shared) (σ:St) (H:Hp) (Q:Option Int→Hp→Prop),Inv X pins σ H s→t σ H Q→
  wpAny (model X.prog X.w) X.A (evalPart e X.env) (fun u s'=>∃o H',Inv X pins σ H' s'∧IsPart u o∧Q o H') X.xe s
def tNoPart:TO:=fun _ H Q=>Q none H
def tPart (t:TE):TO:=fun σ H Q=>t σ H fun x H1=>∃i,x= .int i∧Q (some i) H1
theorem intsAre_of {ns:List Int}:∀{us:List Value},Vals (ns.map V.int) us→IntsAre us ns:=by
 induction ns with
 |nil=>intro us r;rw [List.map_nil] at r;cases r;exact .nil
 |cons n ns ih=>
  intro us r
  rw [List.map_cons] at r
  cases r with
  |cons r1 r2=>
   obtain ⟨t,e⟩:=r1
   subst e
   exact .cons n t (ih r2)
section
variable {X:Cx} {e:Expr} {te:TE} {lo hi:Option Expr} {tl th:TO} {pos p2:Pos}
theorem Cc:PO X none tNoPart:=by
 intro pins s σ H Q I h
 rw [evalPart_none]
 exact wpAny_pure ⟨none,H,I,.none,h⟩
theorem B7 (h:PE X e te):PO X (some e) (tPart te):=by
 intro pins s σ H Q I hw
 rw [evalPart_some]
 refine thn (h pins s σ H _ I hw) fun u s1 ⟨x,H1,I1,r1,q1⟩=> ?_
 obtain ⟨i,rfl,q⟩:=q1
 obtain ⟨t,rfl⟩:=r1
 exact ⟨some i,H1,I1,.int i t,q⟩
def SlR (X:Cx) (r:V→Option Int→Option Int→Hp→VK→Prop):Prop:=
 ∀(pins:List (Addr×Obj)) (s:Shared) (σ:St) (H:Hp) (x:V) (v vl vu:Value) (lo hi:Option Int) (sl:Addr) (Q:VK),Inv X pins σ H s→RelV x v→s.heap.IsSliceOf sl vl vu .none→IsPart vl lo→IsPart vu hi→r x lo hi H Q→
  ∃T id,typeLookup (.type T) "__getitem__"=pure (some (.builtin id))∧s.TypeIs v T∧wpAny (model X.prog X.w) X.A (getItem v (.ref sl)) (EP X pins σ Q) X.xe s
def tSl (r:V→Option Int→Option Int→Hp→VK→Prop) (te:TE) (tl th:TO):TE:=fun σ H Q=>te σ H fun x H1=>tl σ H1 fun l H2=>th σ H2 fun u H3=>r x l u H3 Q
theorem Bw {r:V→Option Int→Option Int→Hp→VK→Prop} (hr:SlR X r) (he:PE X e te) (hl:PO X lo tl) (hu:PO X hi th):PE X (.Subscript e (.Slice lo hi none p2) pos) (tSl r te tl th):=by
 intro pins s σ H Q I h
 refine Subscript_ (thn (he pins s σ H _ I h) fun v s1 ⟨x,H1,I1,r1,q1⟩=> ?_)
 refine wpAny_Slice (thn (hl pins s1 σ H1 _ I1 q1) fun vl s2 ⟨l,H2,I2,pl,q2⟩=>thn (hu pins s2 σ H2 _ I2 q2) fun vu s3 ⟨u,H3,I3,pu,q3⟩=> ?_)
 rw [evalPart_none]
 refine wpAny_pure ?_
 have I4:Inv X pins σ H3 {s3 with heap:=s3.heap.push {cls:= .type "slice",data:= .fields #[vl,vu,.none]}}:=I3.kept (t':=s3.toks) fun b ob q=>Heap.get?_push_of_some _ q
 obtain ⟨T,id,hT,ht,hg⟩:=hr pins {s3 with heap:=s3.heap.push {cls:= .type "slice",data:= .fields #[vl,vu,.none]}} σ H3 x v vl vu l u s3.heap.objs.size Q I4 r1 (Heap.IsSliceOf.new ..) pl pu q3
 show wpAny (model X.prog X.w) X.A (subscriptTail e (.Slice lo hi none p2) v (.ref s3.heap.objs.size)) (EP X pins σ Q) X.xe {s3 with heap:=s3.heap.push {cls:= .type "slice",data:= .fields #[vl,vu,.none]}}
 exact tail_any (ops:=[.ref s3.heap.objs.size,v]) ht hT hg (by with_unfolding_all rfl)
def cutV (xs:List V) (lo hi:Option Int):List V:=(xs.drop (HT.sIx xs.length 0 lo)).take (HT.sIx xs.length xs.length hi - HT.sIx xs.length 0 lo)
theorem cutV_length (xs:List V) (lo hi:Option Int):(cutV xs lo hi).length≤xs.length:=by
 unfold cutV
 rw [List.length_take,List.length_drop]
 omega
inductive RSlTP (K:PySem.W.Frag) (x:V) (lo:Option Int) (hi:Option Int) (H:Hp) (Q:VK):Prop
 |mk (a xs:_):(x= .ref a)→(SqT K H a xs)→(¬(HT.sIx xs.length 0 lo=0∧HT.sIx xs.length xs.length hi=xs.length))→(∀p,H p=none→Q (.ref p) (upd H p (.tup (cutV xs lo hi))))→RSlTP K x lo hi H Q
def rSlT (K:PySem.W.Frag):V→Option Int→Option Int→Hp→VK→Prop:=fun x lo hi H Q=>RSlTP K x lo hi H Q
theorem sl_tup:SlR X (rSlT X.K):=by
 intro pins s σ H x v vl vu lo hi sl Q I rx hs pl pu h
 obtain ⟨a,xs,rfl,hx,hw,q⟩:=h
 cases rx
 obtain ⟨its,r,ht,hz⟩:=I.tuple hx
 have hlen:its.toArray.size=xs.length:=by rw [List.size_toArray];exact r.length.symm
 refine ⟨"tuple",_,PyProof.Rows.slot_tuple_getitem.lookup,ht.typeIs,?_⟩
 refine HT.getItem_tuple_cut ht hs pl pu (by rw [hlen];exact hw) ?_ (by rw [hlen];exact hz)
 rw [hlen]
 refine ⟨.ref s.heap.objs.size,_,I.laid (t':=s.toks) (o:= .tup (cutV xs lo hi)) (fun b ob q=>Heap.get?_push_of_some _ q) (Nat.le_refl _) ?_,rfl,q _ (I.hok.fresh (Nat.le_refl _))⟩
 exact ⟨Nat.le_trans (cutV_length xs lo hi) hz,_,(r.drop (HT.sIx xs.length 0 lo)).take (HT.sIx xs.length xs.length hi - HT.sIx xs.length 0 lo),IsTupN.new _ _⟩
theorem Vals.nil_iff {xs:List V} {us:List Value} (r:Vals xs us):us=[]↔xs=[]:=by
 cases r with
 |nil=>simp
 |cons _ _=>simp
end
end L2
namespace L2
open PySem PySem.Spec PyProof.Rows
def ixN (n:Nat) (i:Int):Option Nat:=if 0≤i then (if i<n then some i.toNat else none) else if -(n:Int)≤i then some (i+n).toNat else none
def atI {α:Type} (xs:List α) (i:Int):Option α:=(ixN xs.length i).bind fun j=>xs[j]?
theorem ixN_seq {n:Nat} {i:Int} {j:Nat} (h:ixN n i=some j):seqIndex? i n=some j∧j<n∧ -(n:Int)≤i∧i<n:=by
 unfold ixN at h
 by_cases h0:0≤i
 ·rw [if_pos h0] at h
  by_cases h1:i<n
  ·rw [if_pos h1] at h
   have e:i.toNat=j:=Option.some.inj h
   exact ⟨by rw [seqIndex_of h0 h1,e],by omega,by omega,h1⟩
  ·rw [if_neg h1] at h;cases h
 ·rw [if_neg h0] at h
  by_cases h1: -(n:Int)≤i
  ·rw [if_pos h1] at h
   have e:(i+n).toNat=j:=Option.some.inj h
   exact ⟨by rw [seqIndex_neg (by omega) h1,e],by omega,h1,by omega⟩
  ·rw [if_neg h1] at h;cases h
theorem atI_get {α:Type} {xs:List α} {i:Int} {v:α} (h:atI xs i=some v):∃j,seqIndex? i xs.length=some j∧xs[j]? =some v∧j<xs.length∧ -(xs.length:Int)≤i∧i<xs.length:=by
 unfold atI at h
 cases e:ixN xs.length i with
 |none=>rw [e] at h;cases h
 |some j=>
  rw [e] at h
  obtain ⟨h1,h2,h3,h4⟩:=ixN_seq e
  exact ⟨j,h1,h,h2,h3,h4⟩
theorem Ay {α:Type} {xs:List α} {j:Nat} {v:α} (h:xs[j]? =some v):atI xs (j:Int)=some v:=by
 have hj:j<xs.length:=(List.getElem?_eq_some_iff.mp h).1
 have e:ixN xs.length (j:Int)=some j:=by
  unfold ixN
  rw [if_pos (by exact Int.natCast_nonneg _),if_pos (by omega)];simp
 unfold atI;rw [e];exact h
def PlainIx (b:Expr):Prop:=∀o i,subscripted b false o i=operate [o,i] (getItem o i)
def IxR (X:Cx) (r:R2):Prop:=
 ∀(value slice:Expr) (pins:List (Addr×Obj)) (s:Shared) (σ:St) (H:Hp) (x y:V) (v u:Value) (Q:VK),Inv X pins σ H s→RelV x v→RelV y u→r x y H Q→
  subscripted slice false v u=operate [v,u] (getItem v u)→wpAny (model X.prog X.w) X.A (subscriptTail value slice v u) (EP X pins σ Q) X.xe s
def MtR (X:Cx) (id:String) (r:V→List V→Hp→VK→Prop):Prop:=
 ∀(pins:List (Addr×Obj)) (s:Shared) (σ:St) (H:Hp) (x:V) (xs:List V) (v:Value) (us:List Value) (Q:VK),Inv X pins σ H s→RelV x v→Vals xs us→r x xs H Q→
  wpAny (model X.prog X.w) X.A (call (.builtin id) (v::us)) (EP X pins σ Q) X.xe s
section
variable {X:Cx} {a b:Expr} {ta tb:TE} {pos:Pos}
theorem At {r:R2} (hr:IxR X r) (ha:PE X a ta) (hb:PE X b tb) (hs:PlainIx b):PE X (.Subscript a b pos) (tOp r ta tb):=by
 intro pins s σ H Q I h
 exact Subscript_ (binT ha hb I h fun v u s2 x y H2 I2 rx ry q=>hr a b pins s2 σ H2 x y v u Q I2 rx ry q (hs _ _))
inductive RIxLP (K:PySem.W.Frag) (x:V) (y:V) (H:Hp) (Q:VK):Prop
 |mk (p xs i v:_):(x= .ref p)→(y= .int i)→(SqL K H p xs)→(atI xs i=some v)→(Q v H)→RIxLP K x y H Q
def rIxL (K:PySem.W.Frag):R2:=fun x y H Q=>RIxLP K x y H Q
inductive RIxTP (K:PySem.W.Frag) (x:V) (y:V) (H:Hp) (Q:VK):Prop
 |mk (p xs i v:_):(x= .ref p)→(y= .int i)→(SqT K H p xs)→(atI xs i=some v)→(Q v H)→RIxTP K x y H Q
def rIxT (K:PySem.W.Frag):R2:=fun x y H Q=>RIxTP K x y H Q
inductive RIxSP (x:V) (y:V) (H:Hp) (Q:VK):Prop
 |mk (z i c:_):(x= .str z)→(y= .int i)→(z.length≤sizeLine)→(atI z.cps.toList i=some c)→(Q (.str ⟨#[c]⟩) H)→RIxSP x y H Q
def rIxS:R2:=fun x y H Q=>RIxSP x y H Q
theorem A3:IxR X (rIxL X.K):=by
 intro value slice pins s σ H x y v u Q I rx ry h hs
 obtain ⟨p,xs,i,z,rfl,rfl,hq,he,q⟩:=h
 cases rx
 obtain ⟨t,rfl⟩:=ry
 obtain ⟨its,r,pl,hz⟩:=I.list hq
 obtain ⟨j,h1,h2,h3,h4,h5⟩:=atI_get he
 obtain ⟨w,ew,rw'⟩:=r.get h2
 have hl:=r.length
 have hn:=line63
 have fin:EP X pins σ Q w s:=⟨z,H,I,rw',q⟩
 by_cases h0:0≤i
 ·have hj:i.toNat=j:=by
   rw [seqIndex_of h0 h5] at h1
   exact Option.some.inj h1
  exact item_listR pl.isList h0 (by omega) (by rw [hj];simpa using ew) fin hs
 ·have hj:(i+(its.toArray.size:Int)).toNat=j:=by
   rw [seqIndex_neg (by omega) h4] at h1
   rw [List.size_toArray,←hl]
   exact Option.some.inj h1
  exact subscriptTail_builtinR (x:=w) pl.isList.typeIs slot_list_getitem.lookup
   (wpAny_getItem_list_neg (Q:=fun r s'=>r=w∧EP X pins σ Q r s') pl.isList (by omega) (by rw [List.size_toArray]<;> omega) (by omega) (by rw [hj];simpa using ew) ⟨rfl,fin⟩) hs
theorem A9:IxR X (rIxT X.K):=by
 intro value slice pins s σ H x y v u Q I rx ry h hs
 obtain ⟨p,xs,i,z,rfl,rfl,hq,he,q⟩:=h
 cases rx
 obtain ⟨t,rfl⟩:=ry
 obtain ⟨its,r,pl,hz⟩:=I.tuple hq
 obtain ⟨j,h1,h2,h3,h4,h5⟩:=atI_get he
 obtain ⟨w,ew,rw'⟩:=r.get h2
 have hl:=r.length
 have hn:=line63
 have fin:EP X pins σ Q w s:=⟨z,H,I,rw',q⟩
 exact subscriptTail_builtinR (x:=w) pl.typeIs slot_tuple_getitem.lookup
  (getItem_tuple (j:=j) (Q:=fun r s'=>r=w∧EP X pins σ Q r s') pl (by omega) (by omega) (by rw [List.size_toArray,←hl];exact h1) (by simpa using ew) ⟨rfl,fin⟩) hs
theorem ix_str:IxR X rIxS:=by
 intro value slice pins s σ H x y v u Q I rx ry h hs
 obtain ⟨z,i,c,rfl,rfl,hz,he,q⟩:=h
 obtain ⟨t,rfl⟩:=rx
 obtain ⟨t',rfl⟩:=ry
 obtain ⟨j,h1,h2,h3,h4,h5⟩:=atI_get he
 have hl:z.cps.toList.length=z.length:=by simp [Str.length]
 rw [hl] at h1 h4 h5
 have hn:=line63
 exact tail_any (typeIs_str s z t) slot_str_getitem.lookup (getItem_str (c:=c) (by
  have e1:decide (i< -(2 ^ 63:Int))=false:=decide_eq_false (by omega)
  have e2:decide (i ≥ 2 ^ 63)=false:=decide_eq_false (by omega)
  rw [e1,e2,Bool.or_false]) (by rw [h1];simpa using h2) ⟨.str ⟨#[c]⟩,H,I.tok _,⟨_,rfl⟩,q⟩) hs
theorem mapSeq_set (its:List Value) (n j:Nat) (u:Value):Obj.mapSeq (·.setIfInBounds j u) {cls:= .type "list",data:= .seq its.toArray n}={cls:= .type "list",data:= .seq (its.set j u).toArray n}:=by
 simp [Obj.mapSeq]
theorem Inv.lst {pins:List (Addr×Obj)} {σ:St} {H:Hp} {s:Shared} {p:Addr} {xs:List V} (I:Inv X pins σ H s) (h:H p=some (.lst xs)):
  ∃(its:List Value) (n:Nat),Vals xs its∧s.heap.get? p=some {cls:= .type "list",data:= .seq its.toArray n}∧xs.length≤sizeLine:=by
 obtain ⟨z,its,n,r,e⟩:=I.hok p _ h
 exact ⟨its,n,r,e,z⟩
theorem Inv.lstUpd {pins:List (Addr×Obj)} {σ:St} {H:Hp} {s:Shared} {p:Addr} {xs ys:List V} {its its':List Value} {n n':Nat} {f:Obj→Obj} (I:Inv X pins σ H s) (h:H p=some (.lst xs))
  (ho:s.heap.get? p=some {cls:= .type "list",data:= .seq its.toArray n}) (hf:f {cls:= .type "list",data:= .seq its.toArray n}={cls:= .type "list",data:= .seq its'.toArray n'}) (r:Vals ys its') (hz:ys.length≤sizeLine) (t:Nat):
  Inv X pins σ (upd H p (.lst ys)) {s with heap:=s.heap.update p f,toks:=t}:=by
 have e:(s.heap.update p f).get? p=some {cls:= .type "list",data:= .seq its'.toArray n'}:=by
  rw [Heap.get?_update_self f ho (by rw [hf]<;> rfl),hf]
 refine I.write (x:=p) (e:=p) (by rw [h];trivial) (.inl rfl) (fun b u hb q=>(Heap.get?_update_other _ _ (Ne.symm hb)).trans q) ⟨_,e⟩ ?_
 exact ⟨hz,its',n',r,e⟩
inductive RSetLP (o:V) (i:V) (v:V) (H:Hp) (Q:(Hp→Prop)):Prop
 |mk (p xs k j:_):(o= .ref p)→(i= .int k)→(H p=some (.lst xs))→(ixN xs.length k=some j)→(Q (upd H p (.lst (xs.set j v))))→RSetLP o i v H Q
def rSetL:V→V→V→Hp→(Hp→Prop)→Prop:=fun o i v H Q=>RSetLP o i v H Q
theorem set_list:PSet X rSetL:=by
 intro pins s σ H o i v ov iv u Q I ro ri rv h
 obtain ⟨p,xs,k,j,rfl,rfl,hp,hj,q⟩:=h
 cases ro
 obtain ⟨t,rfl⟩:=ri
 obtain ⟨its,n,r,ho,hz⟩:=I.lst hp
 obtain ⟨h1,h2,h3,h4⟩:=ixN_seq hj
 have hl:=r.length
 have hn:=line63
 have I':Inv X pins σ (upd H p (.lst (xs.set j v))) {s with heap:=s.heap.update p (Obj.mapSeq (·.setIfInBounds j u))}:=
  I.lstUpd hp ho (mapSeq_set its n j u) (r.set rv j) (by rw [List.length_set];exact hz) s.toks
 by_cases h0:0≤k
 ·have hk:k.toNat=j:=by
   rw [seqIndex_of h0 h4] at h1
   exact Option.some.inj h1
  exact PySem.W.ki_setAt ho h0 (by omega) (by rw [List.size_toArray,←hl];exact h4) (by rw [hk];exact ⟨_,I',q⟩)
 ·have hk:(k+(its.toArray.size:Int)).toNat=j:=by
   rw [seqIndex_neg (by omega) h3] at h1
   rw [List.size_toArray,←hl]
   exact Option.some.inj h1
  exact PySem.W.ki_setBack ho (by omega) (by rw [List.size_toArray,←hl];exact h3) (by omega) (by rw [hk];exact ⟨_,I',q⟩)
theorem slice_bounds (lo hi:Option Int) (n:Nat):(sliceBounds lo hi none n).1=((HT.sIx n 0 lo:Nat):Int)∧(sliceBounds lo hi none n).2.1=((HT.sIx n n hi:Nat):Int)∧(sliceBounds lo hi none n).2.2=1:=by
 refine ⟨?_,?_,rfl⟩
 ·cases lo with
  |none=>simp [sliceBounds,HT.sIx]
  |some i=>
   simp only [sliceBounds,HT.sIx,Option.getD_none,show (1:Int) > 0 by decide,if_true]
   by_cases h:i<0
   ·simp only [h,if_true]<;> omega
   ·simp only [h,if_false]<;> omega
 ·cases hi with
  |none=>simp [sliceBounds,HT.sIx]
  |some i=>
   simp only [sliceBounds,HT.sIx,Option.getD_none,show (1:Int) > 0 by decide,if_true]
   by_cases h:i<0
   ·simp only [h,if_true]<;> omega
   ·simp only [h,if_false]<;> omega
theorem slicePick_cut (its:List Value) (lo hi:Option Int):slicePick its.toArray lo hi none=((its.drop (HT.sIx its.length 0 lo)).take (HT.sIx its.length its.length hi - HT.sIx its.length 0 lo)).toArray:=by
 obtain ⟨h1,h2,h3⟩:=slice_bounds lo hi its.toArray.size
 unfold slicePick
 rw [h1,h2,h3]
 simp only [sliceRange_one,pick_run,List.size_toArray]<;> rfl
inductive RSlLP (K:PySem.W.Frag) (x:V) (lo:Option Int) (hi:Option Int) (H:Hp) (Q:VK):Prop
 |mk (a xs:_):(x= .ref a)→(SqL K H a xs)→(∀p,H p=none→Q (.ref p) (upd H p (.lst (cutV xs lo hi))))→RSlLP K x lo hi H Q
def rSlL (K:PySem.W.Frag):V→Option Int→Option Int→Hp→VK→Prop:=fun x lo hi H Q=>RSlLP K x lo hi H Q
theorem sl_list:SlR X (rSlL X.K):=by
 intro pins s σ H x v vl vu lo hi sl Q I rx hs pl pu h
 obtain ⟨a,xs,rfl,hx,q⟩:=h
 cases rx
 obtain ⟨its,r,ht,hz⟩:=I.list hx
 have hlen:=r.length
 refine ⟨"list",_,slot_list_getitem.lookup,ht.isList.typeIs,?_⟩
 refine wpAny_getItem_list_slice ht.isList hs pl pu .none (by simp) ?_ (by rw [List.size_toArray]<;> omega)
 rw [slicePick_cut,←hlen]
 refine ⟨.ref s.heap.objs.size,_,I.laid (t':=s.toks) (o:= .lst (cutV xs lo hi)) (fun b ob q=>Heap.get?_push_of_some _ q) (Nat.le_refl _) ?_,rfl,q _ (I.hok.fresh (Nat.le_refl _))⟩
 exact ⟨Nat.le_trans (cutV_length xs lo hi) hz,_,0,(r.drop (HT.sIx xs.length 0 lo)).take (HT.sIx xs.length xs.length hi - HT.sIx xs.length 0 lo),Heap.get?_push_size _ rfl⟩
theorem op_notIn_str:OpR X (compareOp .NotIn) (fun x y H Q=>∃i j,x= .str i∧y= .str j∧Q (.bl (!(!(Builtin.Str.occurrences j i 0 j.length 1).isEmpty))) H):=by
 intro pins s σ H x y v u Q I rx ry h
 obtain ⟨i,j,rfl,rfl,q⟩:=h
 obtain ⟨t,rfl⟩:=rx
 obtain ⟨t',rfl⟩:=ry
 exact notIn_str ⟨.bl _,H,I,rfl,q⟩
theorem Bc:CallR X (.builtin "len") (fun xs H Q=>∃p ys,xs=[.ref p]∧(SqL X.K H p ys∨SqT X.K H p ys)∧Q (.int ys.length) H):=by
 intro pins s σ H xs us Q I r h
 obtain ⟨p,ys,rfl,hq,q⟩:=h
 obtain ⟨u,rfl,rx⟩:=vals1 r
 cases rx
 have hn:=line63
 rcases hq with hq|hq
 ·obtain ⟨its,r',pl,hz⟩:=I.list hq
  have hlen:=r'.length
  exact Calls.call_len_list pl.isList (by simp only [List.size_toArray]<;> omega) ⟨.int ys.length,H,I.tok _,⟨s.toks+1,by rw [List.size_toArray,hlen]⟩,q⟩
 ·obtain ⟨its,r',pl,hz⟩:=I.tuple hq
  have hlen:=r'.length
  exact len_tuple pl (by simp only [List.size_toArray]<;> omega) ⟨.int ys.length,H,I.tok _,⟨s.toks+1,by rw [List.size_toArray,hlen]⟩,q⟩
theorem call_len_str:CallR X (.builtin "len") (fun xs H Q=>∃z,xs=[.str z]∧z.length≤sizeLine∧Q (.int z.length) H):=by
 intro pins s σ H xs us Q I r h
 obtain ⟨z,rfl,hz,q⟩:=h
 obtain ⟨u,rfl,t,rfl⟩:=vals1 r
 have hn:=line63
 exact len_str (by omega) ⟨.int z.length,H,I.tok _,⟨_,rfl⟩,q⟩
theorem call_list_of:CallR X (.type "list") (fun xs H Q=>∃p ys,xs=[.ref p]∧(SqL X.K H p ys∨SqT X.K H p ys)∧∀l,H l=none→Q (.ref l) (upd H l (.lst ys))):=by
 intro pins s σ H xs us Q I r h
 obtain ⟨p,ys,rfl,hq,q⟩:=h
 obtain ⟨u,rfl,rx⟩:=vals1 r
 cases rx
 have fin:∀(its:List Value),Vals ys its→ys.length≤sizeLine→∀(h':Heap) (c':Nat),(∀b o',s.heap.get? b=some o'→h'.get? b=some o')→
   h'.get? s.heap.objs.size=some {cls:= .type "list",dict:=none,data:= .seq its.toArray c',slots:= #[]}→EP X pins σ Q (.ref s.heap.objs.size) {s with heap:=h'}:=fun its r' hz h' c' kp e=>
  ⟨.ref s.heap.objs.size,_,I.laid (t':=s.toks) kp (Nat.le_refl _) (show ObjOk X.prog X.w _ h' _ (.lst ys) from ⟨hz,its,c',r',e⟩),rfl,q _ (I.hok.fresh (Nat.le_refl _))⟩
 rcases hq with hq|hq
 ·obtain ⟨its,r',pl,hz⟩:=I.list hq
  have hlen:=r'.length
  obtain ⟨o,ho,hc,n,hd⟩:=pl.isList
  exact call_list_seq p (.inl rfl) ho hc hd (fun h' c' kp e=>fin its r' hz h' c' kp e) (by simp only [List.size_toArray]<;> omega)
 ·obtain ⟨its,r',pl,hz⟩:=I.tuple hq
  have hlen:=r'.length
  obtain ⟨o,ho,hc,n,hd⟩:=pl
  exact call_list_seq p (.inr rfl) ho hc hd (fun h' c' kp e=>fin its r' hz h' c' kp e) (by simp only [List.size_toArray]<;> omega)
theorem call_tuple_of:CallR X (.type "tuple") (fun xs H Q=>∃p ys,xs=[.ref p]∧((SqL X.K H p ys∧∀l,H l=none→Q (.ref l) (upd H l (.tup ys)))∨(SqT X.K H p ys∧Q (.ref p) H))):=by
 intro pins s σ H xs us Q I r h
 obtain ⟨p,ys,rfl,h⟩:=h
 obtain ⟨u,rfl,rx⟩:=vals1 r
 cases rx
 rcases h with ⟨hq,q⟩|⟨hq,q⟩
 ·obtain ⟨its,r',pl,hz⟩:=I.list hq
  have hlen:=r'.length
  refine call_tuple_list pl.isList (fun h' kp=> ?_) (by simp only [List.size_toArray]<;> omega)
  have I1:Inv X pins σ H {s with heap:=h'}:=I.kept (t':=s.toks) kp
  have I2:Inv X pins σ (upd H h'.objs.size (.tup ys)) {s with heap:=h'.push {cls:= .type "tuple",data:= .seq its.toArray}}:=
   I1.laid (t':=s.toks) (fun b o e=>Heap.get?_push_of_some _ e) (Nat.le_refl _) (show ObjOk X.prog X.w _ _ _ (.tup ys) from ⟨hz,its,r',IsTupN.new _ _⟩)
  exact ⟨.ref h'.objs.size,_,I2,rfl,q _ (I1.hok.fresh (Nat.le_refl _))⟩
 ·obtain ⟨its,r',pl,hz⟩:=I.tuple hq
  exact call_tuple_same pl ⟨.ref p,H,I,rfl,q⟩
def tyV (K:PySem.W.Frag) (T:String) (x:V) (H:Hp):Prop:=match x with
 | .str _=>T="str"
 | .int _=>T="int"
 | .ref p=>(T="list"∧∃xs,SqL K H p xs)∨(T="tuple"∧((∃o,K.lookup p=some o∧o.cls= .type "tuple"∧o.dict=none)∨∃xs,H p=some (.tup xs)))∨
   (T="dict"∧((∃kvs,H p=some (.dK kvs))∨∃kvs,H p=some (.dT kvs)))∨(T="set"∧∃S n,H p=some (.set S n))
 |_=>False
theorem tyV_is {pins:List (Addr×Obj)} {σ:St} {H:Hp} {s:Shared} {T:String} {x:V} {v:Value} (I:Inv X pins σ H s) (r:RelV x v) (ty:tyV X.K T x H):
  s.TypeIs v T∧∀a,v= .ref a→∃ob,s.heap.get? a=some ob∧ob.dict=none:=by
 cases x with
 |str z=>
  obtain ⟨t,rfl⟩:=r
  cases (show T="str" from ty)
  exact ⟨typeIs_str s z t,fun _ e=>nomatch e⟩
 |int i=>
  obtain ⟨t,rfl⟩:=r
  cases (show T="int" from ty)
  exact ⟨typeIs_int s i t,fun _ e=>nomatch e⟩
 |ref p=>
  cases r
  rcases ty with ⟨rfl,xs,hq⟩|⟨rfl,⟨o,hk,hc,hd⟩|⟨xs,hx⟩⟩|⟨rfl,hk⟩|⟨rfl,S,n,hk⟩
  ·obtain ⟨its,_,pl,_⟩:=I.list hq
   refine ⟨pl.isList.typeIs,fun a e=> ?_⟩
   cases e
   obtain ⟨o,n,e,c,hd,_⟩:=pl
   exact ⟨o,e,hd⟩
  ·refine ⟨⟨o,I.kIn p o hk,hc⟩,fun a e=> ?_⟩
   cases e
   exact ⟨o,I.kIn _ o hk,hd⟩
  ·obtain ⟨_,_,_,o,e,c,d,_⟩:=(show ObjOk X.prog X.w H s.heap p (.tup xs) from I.hok p _ hx)
   refine ⟨⟨o,e,c⟩,fun a e2=> ?_⟩
   cases e2
   exact ⟨o,e,d⟩
  ·have z:∃o,s.heap.get? p=some o∧o.ExactDict:=by
    rcases hk with ⟨kvs,hk⟩|⟨kvs,hk⟩
    ·obtain ⟨_,_,_,_,o,_,_,e,ex,_⟩:=I.hok p _ hk
     exact ⟨o,e,ex⟩
    ·obtain ⟨_,_,_,_,o,_,_,e,ex,_⟩:=I.hok p _ hk
     exact ⟨o,e,ex⟩
   obtain ⟨o,e,ex⟩:=z
   refine ⟨⟨o,e,ex.1⟩,fun a e2=> ?_⟩
   cases e2
   exact ⟨o,e,ex.2.1⟩
  ·obtain ⟨o,_,_,_,e,ex,_⟩:=I.hok p _ hk
   refine ⟨⟨o,e,ex.1⟩,fun a e2=> ?_⟩
   cases e2
   exact ⟨o,e,ex.2.1⟩
 |_=>exact False.elim ty
def tBM0 (K:PySem.W.Frag) (T:String) (r:V→List V→Hp→VK→Prop) (to:TE):TE:=fun σ H Q=>to σ H fun x H1=>tyV K T x H1∧r x [] H1 Q
def tBM (K:PySem.W.Frag) (T:String) (r:V→List V→Hp→VK→Prop) (to:TE) (t:TA):TE:=fun σ H Q=>to σ H fun x H1=>tyV K T x H1∧t σ H1 fun xs H2=>r x xs H2 Q
variable {o e:Expr} {es:List Expr} {to:TE} {t:TA} {name:Str} {apos cpos:Pos} {T id:String} {r:V→List V→Hp→VK→Prop}
theorem pe_bm0 (pa:PlainAttrs T) (slot:Slot T name id) (hty:typeOf (.builtin id)=pure (.type "method_descriptor")) (hm:MtR X id r) (ho:PE X o to)
  (hbase:attributeBase o name X.env (eval o X.env)=eval o X.env:=by rfl) (hline:(apos.endLine==cpos.line)=true:=by rfl):PE X (.Call (.Attribute o name apos) [] [] cpos) (tBM0 X.K T r to):=by
 intro pins s σ H Q I h
 refine wpAny_Call_method0_late hbase hline (thn (ho pins s σ H _ I h) fun v s1 ⟨x,H1,I1,r1,ty,q1⟩=> ?_)
 obtain ⟨h1,h2⟩:=tyV_is I1 r1 ty
 exact ⟨T,id,pa,slot,hty,h1,h2,Calls.callWith_builtin rfl (PySem.evalArgs_none (hm pins s1 σ H1 x [] v [] Q I1 r1 .nil q1))⟩
theorem pe_bm (pa:PlainAttrs T) (slot:Slot T name id) (hty:typeOf (.builtin id)=pure (.type "method_descriptor")) (hm:MtR X id r) (ho:PE X o to) (ha:PA X (e::es) t)
  (hbase:attributeBase o name X.env (eval o X.env)=eval o X.env:=by rfl)
  (hfew:((backTo cpos (starEach (e::es) X.env)).all (fun x=> !x.1) && (backToKw cpos (keywordEach [] X.env)).all (fun x=>x.1.isSome)
   && decide ((e::es).length+([]:List Keyword).length+(if ([]:List Keyword).isEmpty then 0 else 1)<30))=true:=by rfl)
  (hline:(apos.endLine==cpos.line)=true:=by rfl) (hs:starEach (e::es) X.env=(false,eval e X.env)::starEach es X.env:=by rfl) (hplain:(backTo cpos (starEach es X.env)).any (·.1)=false:=by rfl):
  PE X (.Call (.Attribute o name apos) (e::es) [] cpos) (tBM X.K T r to t):=by
 intro pins s σ H Q I h
 refine wpAny_Call_method_late hbase hfew hline rfl (thn (ho pins s σ H _ I h) fun v s1 ⟨x,H1,I1,r1,ty,q1⟩=> ?_)
 obtain ⟨h1,h2⟩:=tyV_is I1 r1 ty
 refine ⟨T,id,pa,slot,hty,h1,h2,?_⟩
 have hA:=ha cpos pins s1 σ H1 _ I1 q1
 rw [hs] at hA ⊢
 refine Calls.callWith_builtin (by show (false||(backTo cpos (starEach es X.env)).any (·.1))=false;rw [hplain]<;> rfl) (Calls.evalArgs_plain ?_)
 exact thn hA fun us s2 ⟨vs,H2,I2,r2,q2⟩=>hm pins s2 σ H2 x vs v us Q I2 r1 r2 q2
end
end L2
namespace L2
open PySem PySem.Spec PyProof.Rows
def MtM (X:Cx) (id:String) (r:V→List V→Hp→VK→Prop):Prop:=
 ∀(pins:List (Addr×Obj)) (s:Shared) (σ:St) (H:Hp) (x:V) (xs:List V) (v:Value) (us:List Value) (Q:VK),Inv X pins σ H s→RelV x v→Vals xs us→r x xs H Q→
  wpAny (model X.prog X.w) X.A (call (.builtin id) (v::us)) (EP X pins σ Q) X.xe s
theorem Vals.one:∀{x:V} {us:List Value},Vals [x] us→∃u,us=[u]∧RelV x u
 |_,_,.cons r .nil=>⟨_,rfl,r⟩
theorem Vals.zero:∀{us:List Value},Vals [] us→us=[]
 |_,.nil=>rfl
theorem Vals.dropLast {xs:List V} {us:List Value} (h:Vals xs us):Vals xs.dropLast us.dropLast:=by
 induction h with
 |nil=>exact .nil
 |cons r t ih=>
  cases t with
  |nil=>exact .nil
  |cons q t'=>exact .cons r ih
theorem Vals.eraseIdx:∀{xs:List V} {us:List Value} (i:Nat),Vals xs us→Vals (xs.eraseIdx i) (us.eraseIdx i)
 |_,_,_,.nil=> .nil
 |_,_,0,.cons _ t=>t
 |_,_,i+1,.cons r t=> .cons r (Vals.eraseIdx i t)
theorem Vals.reverse {xs:List V} {us:List Value} (h:Vals xs us):Vals xs.reverse us.reverse:=by
 induction h with
 |nil=>exact .nil
 |cons r t ih=>rw [List.reverse_cons,List.reverse_cons];exact Vals.append ih (.cons r .nil)
theorem Vals.rep {xs:List V} {us:List Value} (h:Vals xs us):∀k:Nat,Vals (List.replicate k xs).flatten (List.replicate k us).flatten
 |0=> .nil
 |k+1=>by
  rw [List.replicate_succ,List.replicate_succ,List.flatten_cons,List.flatten_cons]
  exact Vals.append h (Vals.rep h k)
theorem erase_last {α:Type} (l:List α):l.eraseIdx (l.length - 1)=l.dropLast:=by
 induction l with
 |nil=>rfl
 |cons a r ih=>
  cases r with
  |nil=>rfl
  |cons b r=>
   have e:(a::b::r).length - 1=((b::r).length - 1)+1:=by
    have h1:(a::b::r).length=r.length+2:=rfl
    have h2:(b::r).length=r.length+1:=rfl
    assumption
   rw [e,List.eraseIdx_cons_succ,ih]
   all_goals rfl
theorem len_erase {α:Type}:∀(l:List α) (i:Nat),(l.eraseIdx i).length≤l.length
 |[],_=>Nat.le_refl _
 |_::_,0=>Nat.le_succ _
 |_::r,i+1=>Nat.succ_le_succ (len_erase r i)
theorem foldl_rep (its:List Value):∀(k:Nat) (acc:List Value),
  List.foldl (fun x1 x2=>x1++x2) acc.toArray (List.replicate k its.toArray)=(acc++(List.replicate k its).flatten).toArray
 |0,acc=>by simp
 |k+1,acc=>by
  have e:acc.toArray++its.toArray=(acc++its).toArray:=by simp
  have e2:(acc++its)++(List.replicate k its).flatten=acc++(List.replicate (k+1) its).flatten:=by
   rw [List.replicate_succ,List.flatten_cons,List.append_assoc]
  rw [←e2,←foldl_rep its k (acc++its),←e,List.replicate_succ,List.foldl_cons]
section
variable {X:Cx} {pins:List (Addr×Obj)} {σ:St} {H:Hp} {s:Shared} {l b:Addr} {xs ys zs:List V}
theorem Inv.lset {its its':List Value} {n:Nat} {f:Array Value→Array Value} {t':Nat} (I:Inv X pins σ H s) (hH:H l=some (.lst xs))
  (e:s.heap.get? l=some {cls:= .type "list",data:= .seq its.toArray n}) (hf:f its.toArray=its'.toArray) (hv:Vals ys its') (hz:ys.length≤sizeLine):
  Inv X pins σ (upd H l (.lst ys)) {s with heap:=s.heap.update l (Obj.mapSeq f),toks:=t'}:=by
 have q:=PySem.IsL.update e f
 rw [hf] at q
 refine I.write (x:=l) (e:=l) (by rw [hH];exact trivial) (.inl rfl) (fun b' u hb hu=>(Heap.get?_update_other s.heap (Obj.mapSeq f) (Ne.symm hb)).trans hu) ⟨_,q⟩ ?_
 exact ⟨hz,its',_,hv,q⟩
theorem Inv.lnew {its:List Value} {t':Nat} (I:Inv X pins σ H s) (hv:Vals ys its) (hz:ys.length≤sizeLine):
  Inv X pins σ (upd H s.heap.objs.size (.lst ys)) {s with heap:=s.heap.push {cls:= .type "list",data:= .seq its.toArray},toks:=t'}:=
 I.laid (fun _ _ q=>Heap.get?_push_of_some _ q) (Nat.le_refl _) ⟨hz,its,0,hv,Heap.get?_push_size _ rfl⟩
theorem Inv.fresh (I:Inv X pins σ H s):H s.heap.objs.size=none:=I.hok.fresh (Nat.le_refl _)
theorem Inv.lstM (I:Inv X pins σ H s) (hH:H l=some (.lst xs)):xs.length≤sizeLine∧∃(its:List Value) (n:Nat),Vals xs its∧xs.length=its.length∧s.heap.get? l=some {cls:= .type "list",data:= .seq its.toArray n}:=by
 obtain ⟨z,its,n,r,e⟩:=I.hok l _ hH
 exact ⟨z,its,n,r,r.length,e⟩
theorem notLongL {n:Nat} (h:n≤sizeLine):Builtin.List.listTooLong n=false:=by
 unfold Builtin.List.listTooLong
 exact decide_eq_false (by omega)
end
section
variable {X:Cx}
inductive RAppendP (x:V) (vs:List V) (H:Hp) (Q:VK):Prop
 |mk (l xs y:_):(x= .ref l)→(vs=[y])→(H l=some (.lst xs))→(xs.length<sizeLine)→(Q .non (upd H l (.lst (xs++[y]))))→RAppendP x vs H Q
def rAppend:V→List V→Hp→VK→Prop:=fun x vs H Q=>RAppendP x vs H Q
theorem mt_append:MtM X "list.append" rAppend:=by
 intro pins s σ H x vs v us Q I rx rv h
 obtain ⟨l,xs,y,rfl,rfl,hH,hz,q⟩:=h
 cases rx
 obtain ⟨u,rfl,ru⟩:=rv.one
 obtain ⟨z,its,n,r,hl,e⟩:=I.lstM hH
 refine call_meets F.slot_list_append ⟨_,e,rfl⟩ F.entry_list_append (F.args_list_append_2 _ _) (PySem.list_append l its.toArray n u (by rw [List.size_toArray];omega)) ⟨e,?_⟩
 refine ⟨.non,_,I.lset (its':=its++[u]) hH e (by simp) (r.append (.cons ru .nil)) ?_,rfl,q⟩
 rw [List.length_append,List.length_singleton]
 assumption
inductive RPopP (x:V) (vs:List V) (H:Hp) (Q:VK):Prop
 |mk (l xs y:_):(x= .ref l)→(vs=[])→(H l=some (.lst xs))→(xs[xs.length - 1]? =some y)→(Q y (upd H l (.lst xs.dropLast)))→RPopP x vs H Q
def rPop:V→List V→Hp→VK→Prop:=fun x vs H Q=>RPopP x vs H Q
theorem mt_pop:MtM X "list.pop" rPop:=by
 intro pins s σ H x vs v us Q I rx rv h
 obtain ⟨l,xs,y,rfl,rfl,hH,hy,q⟩:=h
 cases rx
 have hus:=rv.zero
 subst hus
 obtain ⟨z,its,n,r,hl,e⟩:=I.lstM hH
 obtain ⟨u,hu,ru⟩:=r.get hy
 have hy':its.toArray[its.toArray.size - 1]? =some u:=by
  show its.toArray[its.length - 1]? =some u
  rw [←Array.getElem?_toList,←hl]
  exact hu
 refine call_meets F.slot_list_pop ⟨_,e,rfl⟩ F.entry_list_pop (F.args_list_pop_1 _) (MeetsSeq.list_pop_last l its.toArray n u hy' (by rw [List.size_toArray];omega)) ⟨e,?_⟩
 refine ⟨y,_,I.lset (its':=its.dropLast) hH e ?_ r.dropLast ?_,ru,q⟩
 ·show its.toArray.eraseIdxIfInBounds (its.toArray.size - 1)=its.dropLast.toArray
  rw [List.size_toArray,List.eraseIdxIfInBounds_toArray,erase_last]
 ·rw [List.length_dropLast]
  omega
inductive RPopAtP (x:V) (vs:List V) (H:Hp) (Q:VK):Prop
 |mk (l xs i k y:_):(x= .ref l)→(vs=[.int i])→(H l=some (.lst xs))→(-(2 ^ 63)≤i)→(i<2 ^ 63)→(seqIndex? i xs.length=some k)→(xs[k]? =some y)→(Q y (upd H l (.lst (xs.eraseIdx k))))→RPopAtP x vs H Q
def rPopAt:V→List V→Hp→VK→Prop:=fun x vs H Q=>RPopAtP x vs H Q
theorem mt_popAt:MtM X "list.pop" rPopAt:=by
 intro pins s σ H x vs v us Q I rx rv h
 obtain ⟨l,xs,i,k,y,rfl,rfl,hH,h1,h2,hk,hy,q⟩:=h
 cases rx
 obtain ⟨u,rfl,ru⟩:=rv.one
 obtain ⟨t,rfl⟩:=ru
 obtain ⟨z,its,n,r,hl,e⟩:=I.lstM hH
 obtain ⟨w,hw,rw'⟩:=r.get hy
 refine call_meets F.slot_list_pop ⟨_,e,rfl⟩ F.entry_list_pop (F.args_list_pop_2 _ _)
  (MeetsSeq.list_pop_at l its.toArray n i t k w (fitsIndex_both h1 h2) (by rw [List.size_toArray,←hl];exact hk) (by rw [←Array.getElem?_toList];exact hw) (by rw [List.size_toArray];omega)) ⟨e,?_⟩
 refine ⟨y,_,I.lset (its':=its.eraseIdx k) hH e ?_ (r.eraseIdx k) ?_,rw',q⟩
 ·show its.toArray.eraseIdxIfInBounds k=(its.eraseIdx k).toArray
  rw [List.eraseIdxIfInBounds_toArray]
 ·have:=len_erase xs k
  exact Nat.le_trans (by assumption) (by assumption)
inductive RCatP (x:V) (y:V) (H:Hp) (Q:VK):Prop
 |mk (l b xs zs:_):(x= .ref l)→(y= .ref b)→(H l=some (.lst xs))→(H b=some (.lst zs))→(xs.length+zs.length≤sizeLine)→(∀p,H p=none→Q (.ref p) (upd H p (.lst (xs++zs))))→RCatP x y H Q
def rCat:R2:=fun x y H Q=>RCatP x y H Q
theorem op_cat:OpR X (binaryOp .Add) rCat:=by
 intro pins s σ H x y v u Q I rx ry h
 obtain ⟨l,b,xs,zs,rfl,rfl,hH,hB,hz,q⟩:=h
 cases rx
 cases ry
 obtain ⟨z,its,n,r,hl,e⟩:=I.lstM hH
 obtain ⟨z2,its2,n2,r2,hl2,e2⟩:=I.lstM hB
 refine PySem.P.add_list e e2 ?_ (by rw [List.size_toArray,List.size_toArray];omega)
 have ea:its.toArray++its2.toArray=(its++its2).toArray:=by simp
 rw [ea]
 exact ⟨.ref _,_,I.lnew (t':=s.toks) (r.append r2) (by rw [List.length_append];assumption),rfl,q _ I.fresh⟩
inductive RRepP (x:V) (y:V) (H:Hp) (Q:VK):Prop
 |mk (l k xs:_):(x= .ref l)→(y= .int k)→(H l=some (.lst xs))→(-(2 ^ 63)≤k)→(k<2 ^ 63)→(xs.length * k.toNat≤sizeLine)→(∀p,H p=none→Q (.ref p) (upd H p (.lst (List.replicate k.toNat xs).flatten)))→RRepP x y H Q
def rRep:R2:=fun x y H Q=>RRepP x y H Q
theorem len_rep {α:Type} (xs:List α) (k:Nat):(List.replicate k xs).flatten.length=k * xs.length:=by
 induction k with
 |zero=>simp
 |succ k ih=>rw [List.replicate_succ,List.flatten_cons,List.length_append,ih,Nat.succ_mul,Nat.add_comm]
theorem op_rep:OpR X (binaryOp .Mult) rRep:=by
 intro pins s σ H x y v u Q I rx ry h
 obtain ⟨l,k,xs,rfl,rfl,hH,h1,h2,hz,q⟩:=h
 cases rx
 obtain ⟨t,rfl⟩:=ry
 obtain ⟨z,its,n,r,hl,e⟩:=I.lstM hH
 have hlen:its.toArray.size * k.toNat≤sizeLine:=by rw [List.size_toArray,←hl];exact hz
 have hcap:¬its.toArray.size * k.toNat > (2 ^ 63 - 1) / 8:=by
  have:(sizeLine:Nat)≤(2 ^ 63 - 1) / 8:=by decide
  omega
 have hfit:¬(!Builtin.List.listFitsIndex k)=true:=by
  rw [fitsIndex_both h1 h2]
  exact Bool.false_ne_true
 have hlong:¬Builtin.List.listTooLong (its.toArray.size * k.toNat)=true:=by
  rw [notLongL hlen]
  exact Bool.false_ne_true
 have hnew:List.foldl (fun x1 x2=>x1++x2) #[] (List.replicate (if its.toArray.isEmpty=true then 0 else k.toNat) its.toArray)=(List.replicate k.toNat its).flatten.toArray:=by
  have f0:∀m:Nat,List.foldl (fun x1 x2=>x1++x2) #[] (List.replicate m its.toArray)=(List.replicate m its).flatten.toArray:=fun m=>by
   have:=foldl_rep its m []
   rw [List.nil_append] at this
   exact this
  rw [f0]
  cases its with
  |nil=>simp
  |cons a r'=>rw [if_neg (by simp)]
 refine wpAny_binaryOp_repeat_ref (T:="list") (U:="int") (by decide) ⟨_,e,rfl⟩ (fun s'=>typeIs_int s' k t) noFill_list_mul F.fills_int_mul F.slot_int_rmul repeat_list F.slot_int_index.lookup
  (call_meets F.slot_int_rmul (typeIs_int s k t) F.entry_int_rmul (F.args_int_rmul_2 _ _) (int___rmul___int_list k t l its.toArray n)
   ⟨e,rfl,⟨_,e,rfl⟩,call_meets F.slot_list_mul ⟨_,e,rfl⟩ F.entry_list_mul (F.args_list_mul_2 _ _) (AutoListH.list___mul___list_int_3 l its.toArray n k t hfit hcap hlong) ⟨e,?_⟩⟩)
 rw [hnew]
 exact ⟨.ref _,_,I.lnew (t':=s.toks) (r.rep k.toNat) (by rw [len_rep,Nat.mul_comm];exact hz),rfl,q _ I.fresh⟩
end
end L2
namespace L2
open PySem PySem.Spec PyProof.Rows
section
variable {κ:Type} [DecidableEq κ]
def putK (kvs:List (κ×V)) (k:κ) (v:V):List (κ×V):=
 if (kvs.any fun kv=>decide (kv.1=k))=true then kvs.map (fun kv=>if kv.1=k then (kv.1,v) else kv) else kvs++[(k,v)]
theorem length_putK (kvs:List (κ×V)) (k:κ) (v:V):(putK kvs k v).length≤kvs.length+1:=by
 unfold putK
 split
 ·rw [List.length_map];exact Nat.le_add_right _ _
 ·rw [List.length_append,List.length_cons,List.length_nil];exact Nat.add_le_add_left (by decide) _
theorem KV.any {kvs:List (κ×V)} {vs:List (κ×Value)} (r:KV kvs vs) (k:κ):(kvs.any fun kv=>decide (kv.1=k))=vs.any fun kv=>decide (kv.1=k):=by
 unfold KV at r
 induction r with
 |nil=>rfl
 |cons h t ih=>rw [List.any_cons,List.any_cons,ih,h.1]
theorem KV.repl {kvs:List (κ×V)} {vs:List (κ×Value)} (r:KV kvs vs) (k:κ) {y:V} {u:Value} (ry:RelV y u):
  KV (kvs.map fun kv=>if kv.1=k then (kv.1,y) else kv) (vs.map fun kv=>if kv.1=k then (kv.1,u) else kv):=by
 unfold KV at r ⊢
 induction r with
 |nil=>exact .nil
 | @cons p q ps qs h t ih=>
  rw [List.map_cons,List.map_cons]
  refine .cons ?_ ih
  obtain ⟨h1,h2⟩:=h
  by_cases e:p.1=k
  ·rw [if_pos e,if_pos (h1.symm.trans e)];exact ⟨h1,ry⟩
  ·rw [if_neg e,if_neg (fun z=>e (h1.trans z))];exact ⟨h1,h2⟩
theorem KV.put {kvs:List (κ×V)} {vs:List (κ×Value)} (r:KV kvs vs) (k:κ) {y:V} {u:Value} (ry:RelV y u):KV (putK kvs k y) (stored vs k u):=by
 unfold putK stored
 rw [r.any k]
 by_cases e:(vs.any fun kv=>decide (kv.1=k))=true
 ·rw [if_pos e,if_pos e];exact r.repl k ry
 ·rw [if_neg e,if_neg e];exact Paired.snoc r ⟨rfl,ry⟩
end
theorem kV_is {P:Program} {w:World} {k:Key} {u:Value} (r:RelV (kV k) u):(Cf P w).is k u=true:=by
 cases k with
 |inl i=>obtain ⟨t,e⟩:=(show ∃t,u=Value.int i t from r);subst e;exact mixKind_int P w i t
 |inr x=>obtain ⟨t,e⟩:=(show ∃t,u=Value.str x t from r);subst e;exact mixKind_str P w x t
section
variable {P:Program} {w:World} {H:Hp} {h:Heap} {a:Addr}
theorem rd_of {u:HO} (ok:HOk P w H h) (e:Rd H a u):ObjOk P w H h a u:=e.ok ok
theorem dk_rd {kvs:List (Key×V)} (ok:HOk P w H h) (e:Rd H a (.dK kvs)):kvs.length≤sizeLine∧(a==sysModules)=false∧∃vs,KV kvs vs∧h.DictOf (Cf P w) a vs:=
 show ObjOk P w H h a (.dK kvs) from rd_of ok e
theorem dk_of {kvs:List (Key×V)} (ok:HOk P w H h) (e:H a=some (.dK kvs)):kvs.length≤sizeLine∧(a==sysModules)=false∧∃vs,KV kvs vs∧h.DictOf (Cf P w) a vs:=dk_rd ok (.inl e)
end
section
variable {X:Cx} {pins:List (Addr×Obj)} {σ:St} {H:Hp} {s:Shared} {a:Addr} {y v:V} {u r:Value} {o:Option V} {A:Around} {E:Value→Shared→Prop}
theorem Inv.big (I:Inv X pins σ H s):sysModules<s.heap.objs.size:=by
 have h:mainGlobals<s.heap.objs.size:=(I.mod.glob.keeps I.bk).lt
 exact Nat.lt_trans (by decide) h
theorem d_write {h':Heap} {t':Nat} {ob:HO} (I:Inv X pins σ H s) (mu:Mut (H a)) (hs:Heap.SameBut a s.heap h') (he:∃q,h'.get? a=some q) (new:ObjOk X.prog X.w (upd H a ob) h' a ob):
  Inv X pins σ (upd H a ob) {s with heap:=h',toks:=t'}:=
 I.write (x:=a) (e:=a) mu (.inl rfl) (fun b q hb z=>(hs.2 b hb).trans z) he new
theorem dk_new {P:Program} {w:World} {H':Hp} {h':Heap} {kvs:List (Key×V)} {vs:List (Key×Value)} (z:kvs.length≤sizeLine) (hd:(a==sysModules)=false) (rel:KV kvs vs) (dd:h'.DictOf (Cf P w) a vs):
  ObjOk P w H' h' a (.dK kvs):=⟨z,hd,vs,rel,dd⟩
end
theorem dk_empty {P:Program} {w:World} {H:Hp} (h:Heap) (hb:sysModules<h.objs.size):ObjOk P w H (h.push {cls:= .type "dict",data:= .dict #[]}) h.objs.size (.dK []):=
 ⟨Nat.zero_le _,beq_eq_false_iff_ne.mpr (Ne.symm (Nat.ne_of_lt hb)),[],.nil,Heap.DictOf.new h⟩
def tDNewK:TE:=fun _ H Q=>∀p,H p=none→Q (.ref p) (upd H p (.dK []))
section
variable {X:Cx} {pos:Pos}
theorem pe_dnewK:PE X (.Dict [] [] pos) tDNewK:=fun pins s σ H Q I h=>
 wpAny_Dict_empty ⟨.ref s.heap.objs.size,_,I.laid (a:=s.heap.objs.size) (o:= .dK []) (t':=s.toks) (fun _ _ q=>Heap.get?_push_of_some _ q) (Nat.le_refl _) (dk_empty s.heap I.big),rfl,h _ (I.hok.fresh (Nat.le_refl _))⟩
end
def tPairs:List (TE×TE)→St→Hp→(List (V×V)→Hp→Prop)→Prop
 |[],_,H,Q=>Q [] H
 |(tk,tv)::r,σ,H,Q=>tk σ H fun x H1=>tv σ H1 fun y H2=>tPairs r σ H2 fun ps H3=>Q ((x,y)::ps) H3
abbrev VV:List (V×V)→List (Value×Value)→Prop:=Paired fun p q=>RelV p.1 q.1∧RelV p.2 q.2
def PPs (X:Cx) (pos:Pos) (keys:List (Option Expr)) (values:List Expr) (trs:List (TE×TE)):Prop:=
 ∀(pins:List (Addr×Obj)) (s:Shared) (σ:St) (H:Hp) (Q:List (V×V)→Hp→Prop),Inv X pins σ H s→tPairs trs σ H Q→
  wpAny (model X.prog X.w) X.A (evalPairs (pairTrees keys values X.env pos)) (fun vs s'=>∃ps H',Inv X pins σ H' s'∧VV ps vs∧Q ps H') X.xe s
theorem pps_nil {X:Cx} {pos:Pos}:PPs X pos [] [] []:=fun pins s σ H Q I h=>pairTrees_nil_walk ⟨[],H,I,.nil,h⟩
theorem pps_cons {X:Cx} {pos:Pos} {k v:Expr} {ks:List (Option Expr)} {vs:List Expr} {tk tv:TE} {trs:List (TE×TE)} (hk:PE X k tk) (hv:PE X v tv) (hr:PPs X pos ks vs trs):
  PPs X pos (some k::ks) (v::vs) ((tk,tv)::trs):=fun pins s σ H Q I h=>
 pairTrees_cons_walk (thn (hk pins s σ H _ I h) fun u s1 ⟨x,H1,I1,rx,q1⟩=>thn (hv pins s1 σ H1 _ I1 q1) fun w2 s2 ⟨y,H2,I2,ry,q2⟩=>
  thn (hr pins s2 σ H2 _ I2 q2) fun ws s3 ⟨ps,H3,I3,rel,q3⟩=>⟨(x,y)::ps,H3,I3,.cons ⟨rx,ry⟩ rel,q3⟩)
def mergeK (kvs more:List (Key×V)):List (Key×V):=more.foldl (fun acc kv=>putK acc kv.1 kv.2) kvs
theorem KV.merge:∀{more:List (Key×V)} {rs:List (Key×Value)} {kvs:List (Key×V)} {vs:List (Key×Value)},KV more rs→KV kvs vs→KV (mergeK kvs more) (merged vs rs):=by
 intro more rs kvs vs r
 unfold KV at r
 induction r generalizing kvs vs with
 |nil=>intro q;exact q
 | @cons p q ps qs h t ih=>
  intro r0
  have e:KV (putK kvs p.1 p.2) (stored vs q.1 q.2):=by
   have:=r0.put p.1 h.2
   rw [←h.1];exact this
  exact ih e
theorem length_mergeK:∀(more kvs:List (Key×V)),(mergeK kvs more).length≤kvs.length+more.length
 |[],kvs=>by show kvs.length≤kvs.length+0;exact Nat.le_add_right _ _
 |p::r,kvs=>by
  have h1:=length_mergeK r (putK kvs p.1 p.2)
  have h2:=length_putK kvs p.1 p.2
  show (mergeK (putK kvs p.1 p.2) r).length≤_
  rw [List.length_cons];omega
theorem carries_of {P:Program} {w:World}:∀{kvs:List (Key×V)} {ws:List (Value×Value)},VV (kvs.map fun kv=>(kV kv.1,kv.2)) ws→∃rs,Carries (Cf P w) ws rs∧KV kvs rs
 |[],_,r=>by rw [List.map_nil] at r;cases r;exact ⟨[],True.intro,.nil⟩
 |p::kvs,_,r=>by
  rw [List.map_cons] at r
  cases r with
  | @cons a b as bs h t=>
   obtain ⟨rs,c,q⟩:=carries_of (P:=P) (w:=w) t
   obtain ⟨b1,b2⟩:=b
   exact ⟨(p.1,b2)::rs,⟨kV_is h.1,rfl,c⟩,.cons ⟨rfl,h.2⟩ q⟩
def tDisp (trs:List (TE×TE)):TE:=fun σ H Q=>∀p,H p=none→tPairs trs σ (upd H p (.dK [])) fun ps H2=>H2 p=some (.dK [])∧∃kvs:List (Key×V),ps=kvs.map (fun kv=>(kV kv.1,kv.2))∧kvs.length≤15∧Q (.ref p) (upd H2 p (.dK (mergeK [] kvs)))
theorem pe_disp {X:Cx} {pos:Pos} {keys:List (Option Expr)} {values:List Expr} {trs:List (TE×TE)} (h:PPs X pos keys values trs) (hall:keys.all (·.isSome)=true) (hl:keys.length=values.length) (h0:keys≠[])
  (h15:keys.length≤15):PE X (.Dict keys values pos) (tDisp trs):=by
 intro pins s σ H Q I q
 have hn:=I.hok.fresh (Nat.le_refl s.heap.objs.size)
 have I1:=I.laid (a:=s.heap.objs.size) (o:= .dK []) (h':=s.heap.push {cls:= .type "dict",data:= .dict #[]}) (t':=s.toks) (fun _ _ q=>Heap.get?_push_of_some _ q) (Nat.le_refl _) (dk_empty s.heap I.big)
 refine wpAny_Dict_walk (knd:=Cf X.prog X.w) hall hl h0 h15 (thn (h pins _ σ _ _ I1 (q _ hn)) fun ws s2 ⟨ps,H2,I2,rel,e,kvs,ep,lk,q2⟩=> ?_)
 subst ep
 obtain ⟨rs,c,rk⟩:=carries_of (P:=X.prog) (w:=X.w) rel
 obtain ⟨z,hd,vs0,r0,dd⟩:=dk_of I2.hok e
 cases r0
 refine ⟨rs,c,dd,fun h' dd' hs=>⟨.ref s.heap.objs.size,_,?_,rfl,q2⟩⟩
 have hz:(mergeK [] kvs).length≤sizeLine:=by
  have h1:=length_mergeK kvs []
  rw [List.length_nil] at h1
  rw [sizeLine_eq];omega
 have he:∃q,h'.get? s.heap.objs.size=some q:=let ⟨q,_,_,hq,_⟩:=dd';⟨q,hq⟩
 exact d_write I2 (by rw [e];exact True.intro) hs he (dk_new hz hd (rk.merge .nil) dd')
end L2
namespace Att
open PySem PySem.W PySem.Calls PyProof.Rows
theorem ints_of_wellAll {P:Params} {h:Heap}:∀(ns:List Int) (vs:List Value),WellAll P h vs (ns.map WData.int)→IntsAre vs ns:=by
 intro ns
 induction ns with
 |nil=>
  intro vs w
  rw [List.map_nil] at w
  cases w
  exact .nil
 |cons n ns ih=>
  intro vs w
  rw [List.map_cons] at w
  cases w with
  |cons a b=>
   cases a
   exact .cons _ _ (ih _ b)
theorem script_of {l:OpenLaw} {n:Nat} (hn:l.most=some n) {P:Params} {h:Heap} {args:List WData} {vals:List Value}
  (hpre:l.row.toRowW.claim.pre args=true) (hwl:WellAll P h vals args):
  ∃a vs ns,vals=[Value.ref a]∧args=[WData.list (ns.map WData.int)]∧h.get? a=some {cls:= .type "list",data:= .seq vs.toArray}∧IntsAre vs ns∧ns.length≤n:=by
 have hsh:WShape.hasAll [] args [.list .int]=true:=(pre_splitW hpre).1
 have hc:l.pre.holds [] {args:=args}=true:=(pre_splitW hpre).2
 obtain ⟨d,r,rfl,h1,h2⟩:=hasAllW_cons hsh
 obtain rfl:=hasAllW_nil h2
 obtain ⟨xs,rfl,h3⟩:=hasW_list h1
 obtain ⟨ns,rfl⟩:=items_int h3
 have hlen:ns.length≤n:=by
  unfold OpenLaw.pre at hc
  have h4:(WTm.not (.lt (.lit (.int (n:Int))) (.len (.arg 0)))).holds [] {args:=[.list (ns.map .int)]}=true:=by
   have h4:=(holds_andW hc).1
   rw [hn] at h4
   exact h4
  have h5:=condW_of h4 (w_not (w_lt w_lit (w_len_list (w_arg rfl))))
  rw [List.length_map] at h5
  refine Nat.le_of_not_lt fun q=> ?_
  have q':(n:Int)<((ns.length:Nat):Int):=by omega
  first
   |(rw [decide_eq_true q'] at h5;exact absurd h5 (by decide))
   |(simp at h5;omega)
 cases hwl with
 |cons w1 w2=>
  cases w2
  cases w1 with
  |list ho hall=>exact ⟨_,_,ns,rfl,rfl,ho,ints_of_wellAll ns _ hall,hlen⟩
theorem post_true (l:OpenLaw) (args:List WData):l.row.toRowW.claim.post args (.bool true) args=true:=
 postW_of (r:=l.row.toRowW) (X:=(true==true))
  (show WShape.has [] (.bool true) .bool=true by first|rfl|decide|simp [WShape.has,WShape.arms,WShape.armsAll])
  (show (WTm.eq .res (.lit (.bool true))).value [] {args:=args,res:=some (.bool true),after:=args}=some (.bool (true==true)) from w_eq_bool (w_res rfl) w_lit) rfl
theorem attach_call {l:OpenLaw} {n:Nat} {q:Program} {loose:List Str} {XP:(Str→Option Value)→Heap→Prop} {YP:World→Heap→Prop} {d:DefRec}
  (hn:l.most=some n) (hdf:d.params.defaults=[])
  (call:∀(w:World) (s₀ s₁:Shared) (mg mb:Str→Option Value) (fa:Addr) (o:Obj) (pm cd doc:Value) (a:Addr) (vs:List Value) (ns:List Int),
   Ground q loose [] XP w s₀ mg mb s₁.heap→YP w s₁.heap→
   s₁.heap.get? fa=some o→o.data= .func (docDef d.name d.params d.body d.scope pm cd doc)→s₁.heap.CodeRec cd d.name→mg d.name=some (.ref fa)→
   s₁.heap.get? a=some {cls:= .type "list",data:= .seq vs.toArray}→IntsAre vs ns→ns.length≤n→s₁.gens= #[]→
   codeAny (model l.prog w) callerA (.call (.ref fa) ⟨[.ref a],[]⟩) (fun r s'=>r= .ok (.ret (.bool true))∧OldK s₁.heap s'.heap∧s'.os=s₁.os∧AllBare s'.gens) s₁):
  WalkO q loose XP YP l.row.toRowW d [] (fun f vs=>PySem.call f vs):=by
 intro w s₀ s₁ mg mb G Y fa o pm cd doc dV kV ho hd hcd hD hmg hg args vals as hpre hlay hrd hwl hlo
 obtain rfl:dV= .none:=Dflts.none hD hdf
 obtain rfl:kV= .none:=Dflts.noKw hD
 obtain ⟨a,vs,ns,rfl,rfl,hobj,hints,hlen⟩:=script_of hn hpre hwl
 refine enter_call (codeAny_mono (call w s₀ s₁ mg mb fa o pm cd doc a vs ns G Y ho (fd_plain hd) hcd hmg hobj hints hlen hg) fun r s' hq=> ?_)
 obtain ⟨rfl,h2,h3,h4⟩:=hq
 exact ⟨.inl ⟨.bool true,.bool true,[],rfl,fun _=>rfl,.bool true,post_true l _,fun _=>⟨List.Pairwise.nil,fun _ hm=>(nomatch hm)⟩⟩,h2,h3,h4⟩
end Att
namespace L2
open PySem PySem.Spec PyProof.Rows
theorem vals_ints:∀{vs:List Value} {ns:List Int},IntsAre vs ns→Vals (ns.map V.int) vs
 |_,_,.nil=> .nil
 |_,_,.cons n t h=> .cons ⟨t,rfl⟩ (vals_ints h)
def Only (H:Hp):Prop:=∀b,H b=none∨∃o xs,H b=some (.frz o (.lst xs))
theorem law_call {P:Program} {w:World} {K:PySem.W.Frag} {mg mb:Str→Option Value} {CX:CXT} {k:Nat} {fa a:Addr} {fd:FuncData} {x:Str} {sp:Sp} {s₁:Shared} {vs:List Value} {ns:List Int}
  (KX:K.In s₁.heap) (hns:s₁.heap.Ns mainGlobals mg) (hb:s₁.heap.Ns builtinsNs mb) (hbb:∀x:Str,x≠"__name__"→mb x=bootBuiltins x) (hlim:s₁.heap.NoLimit) (hg:s₁.gens= #[])
  (ha:s₁.heap.get? a=some {cls:= .type "list",data:= .seq vs.toArray}) (hi:IntsAre vs ns) (hl:ns.length≤sizeLine) (hr:Room k callerA)
  (F:∀base:Heap,K.In base→base.Ns mainGlobals mg→FnOk P w K mg base CX k fa fd [x] sp) (hbind:∀(s:Shared) (u:Value),BindsTo s fd ⟨[u],[]⟩ [(x,u)])
  (hsp:∀H:Hp,Only H→SqL K H a (ns.map V.int)→sp [.ref a] H (fun v _=>v= .bl true) fun _ _ _=>False)
  (hCX:∀H e s',CX [] H s₁ (fun _ _ _=>False) e s'→False):
  codeAny (model P w) callerA (.call (.ref fa) ⟨[.ref a],[]⟩) (fun r s'=>r= .ok (.ret (.bool true))∧OldK s₁.heap s'.heap∧s'.os=s₁.os∧AllBare s'.gens) s₁:=by
 have rv:=vals_ints hi
 have lenV:=hi.length
 have core:∀H:Hp,Only H→SqL K H a (ns.map V.int)→HOk P w H s₁.heap→(∀b,H b≠none→b=a)→(H a≠none→K.lookup a=none)→
   codeAny (model P w) callerA (.call (.ref fa) ⟨[.ref a],[]⟩) (fun r s'=>r= .ok (.ret (.bool true))∧OldK s₁.heap s'.heap∧s'.os=s₁.os∧AllBare s'.gens) s₁:=by
  intro H hO hS hok hA hK
  have base_of:∀{b:Addr} {o:Obj},s₁.heap.get? b=some o→H b=none→(hidT s₁.heap H).get? b=some o:=fun e n=>hidT_get e n
  have noA:∀{b:Addr} {o:Obj} {es:Array DictEntry} {ep:Nat},s₁.heap.get? b=some o→o.data= .dict es ep→H b=none:=fun {b o es ep} e d=>by
   cases q:H b with
   |none=>rfl
   |some u=>
    have e':b=a:=hA b (by rw [q];simp)
    subst e'
    rw [ha] at e;cases e
    have d':Data.seq vs.toArray _=Data.dict es ep:=d
    cases d'
  have nsK:∀{b:Addr} {m:Str→Option Value},s₁.heap.Ns b m→(hidT s₁.heap H).Ns b m:=fun {b m} ⟨o,es,ep,e,d,r⟩=>⟨o,es,ep,base_of e (noA e d),d,r⟩
  have hKb:K.In (hidT s₁.heap H):=fun b o e=>base_of (KX b o e) (by
   cases q:H b with
   |none=>rfl
   |some u=>
    have e':b=a:=hA b (by rw [q];simp)
    subst e'
    rw [hK (by rw [q];simp)] at e;cases e)
  have hM:Mod K mg (hidT s₁.heap H):=⟨hKb,nsK hns,⟨mb,nsK hb,hbb⟩,let ⟨mc,h1,h2⟩:=hlim;⟨mc,nsK h1,h2⟩⟩
  have e0:Env0 P w K mg (hidT s₁.heap H) callerA [] s₁ H:=⟨rfl,hM,fun b o e=>of_hidT e,Nat.le_of_eq (hidT_size _ _),trivial,fun b hb=>absurd (show b∈([]:List Addr) from hb) (by simp),hok,.of_eq hg⟩
  refine codeAny_mono ((F _ hKb (nsK hns)).run callerA [] s₁ H ⟨[.ref a],[]⟩ [.ref a] [.ref a] _ _ hr e0 (hbind s₁ (.ref a)) (.cons rfl .nil) (hsp H hO hS)) fun r s' h=> ?_
  cases r with
  |error e=>exact (hCX H e s' h).elim
  |ok fl=>
   cases fl with
   |next=>exact False.elim h
   |brk=>exact False.elim h
   |cont=>exact False.elim h
   |ret u=>
    obtain ⟨v,H',os,bare,un,hok',r',q⟩:=h
    have q':v= .bl true:=q
    subst q'
    obtain rfl:u=Value.bool true:=r'
    refine ⟨rfl,OldK.of_keep fun b o e=> ?_,os,bare⟩
    cases q:H b with
    |none=>exact un.keep b o e q (by intro z;exact absurd (show b∈([]:List Addr) from z) (by simp)) (by simp)
    |some u=>
     rcases hO b with z|⟨ob,xs,z⟩
     ·rw [q] at z;cases z
     ·have z2:=un.frzs b ob _ z
      obtain ⟨e1,_⟩:=hok b _ z
      obtain ⟨e2,_⟩:=hok' b _ z2
      rw [e] at e1;cases e1
      exact e2
 cases hk:K.lookup a with
 |some o=>
  have e:=KX a o hk
  rw [ha] at e
  cases e
  refine core (fun _=>none) (fun _=> .inl rfl) (.inr ⟨_,vs.toArray,_,hk,rfl,rfl,rfl,by rw [List.size_toArray,lenV];exact hl,by simpa using rv⟩) (fun b u z=>by have z':(none:Option HO)=some u:=z;cases z') (fun b z=>absurd rfl z) fun z=>absurd rfl z
 |none=>
  refine core (fun b=>if b=a then some (.frz {cls:= .type "list",data:= .seq vs.toArray} (.lst (ns.map V.int))) else none) (fun b=> ?_) (.inl (.inr ⟨{cls:= .type "list",data:= .seq vs.toArray},if_pos rfl⟩)) (fun b u z=> ?_) (fun b z=> ?_) fun _=>hk
  ·by_cases hb:b=a
   ·exact .inr ⟨_,_,if_pos hb⟩
   ·exact .inl (if_neg hb)
  ·by_cases hb:b=a
   ·have z':=(if_pos hb).symm.trans z
    cases z'
    subst hb
    exact ⟨ha,by rw [List.length_map];exact hl,vs,_,rv,ha⟩
   ·have z':=(if_neg hb).symm.trans z
    cases z'
  ·by_cases hb:b=a
   ·exact hb
   ·exact absurd (if_neg hb) z
end L2
namespace L2
open PySem PySem.Spec PyProof.Rows
theorem walk_of {l:PySem.W.OpenLaw} {n k:Nat} {q:Program} {loose:List Str} {XP:(Str→Option Value)→Heap→Prop} {YP:World→Heap→Prop} {d:DefRec} {K:Params→PySem.W.Frag} {CX:World→CXT} {sp:World→Sp} {x:Str}
  (hn:l.most=some n) (hn2:n≤sizeLine) (hdf:d.params.defaults=[]) (hr:Room k callerA)
  (hY:∀(w:World) (h:Heap),YP w h→(K w.params).In h)
  (F:∀(w:World) (mg:Str→Option Value) (fa:Addr) (h:Heap),(K w.params).In h→h.Ns mainGlobals mg→mg d.name=some (.ref fa)→
   ∃fd:FuncData,(∀(s:Shared) (u:Value),BindsTo s fd ⟨[u],[]⟩ [(x,u)])∧
    ∀base:Heap,(K w.params).In base→base.Ns mainGlobals mg→FnOk l.prog w (K w.params) mg base (CX w) k fa fd [x] (sp w))
  (hsp:∀(w:World) (H:Hp) (a:Addr) (ns:List Int),ns.length≤n→Only H→SqL (K w.params) H a (ns.map V.int)→sp w [.ref a] H (fun v _=>v= .bl true) fun _ _ _=>False)
  (hCX:∀(w:World) (H:Hp) (s:Shared) (e:Value) (s':Shared),CX w [] H s (fun _ _ _=>False) e s'→False):
  PySem.W.WalkO q loose XP YP l.row.toRowW d [] (fun f vs=>PySem.call f vs):=by
 refine Att.attach_call hn hdf fun w s₀ s₁ mg mb fa o pm cd doc a vs ns G Y ho hd hcd hmg hobj hints hlen hg=> ?_
 have KX:=hY w _ Y
 obtain ⟨fd,hb,hF⟩:=F w mg fa _ KX G.T.g hmg
 exact law_call KX G.T.g G.T.b G.T.builtins G.T.nolimit hg hobj hints (Nat.le_trans hlen hn2) hr hF hb (fun H hO hS=>hsp w H a ns hlen hO hS) fun H e s'=>hCX w H s₁ e s'
end L2
/- THE LAST THEOREM (shape;LID,My.* are yours):
  My.Adr:a structure of the addresses that your layer names (classes,functions);My.Txt K t:a structure (Prop) of the equations over K;
  My.txt_mk:{K} {implicit addresses ..} (e1:nsIn K mainGlobals "law"=some (some (.ref f))) (e2:K.lookup f=some ⟨oc,od,.func (fnOf "law" "law" params body scope dV kV doc pm an cdv ct),sl⟩) (e3:codeIn K cdv "law"=true) .. :∃t,My.Txt K t
set_option maxRecDepth 100000 in
set_option maxHeartbeats 0 in
theorem PySem.Challenge.cw_LID_holds : PySem.Challenge.rw_LID.Holds := by
 w_on;o_law;k_head;(case hw=>w_witness2)
 k_fill
 refine L2.walk_of (l:=PySem.Challenge.rw_LID) (n:=63) (k:=40) (x:="script") (CX:=fun w=> ..) (sp:=fun _=>My.sp_law) rfl (by decide) rfl ⟨rfl,by decide,by decide⟩ (fun w h Y=>PySem.W.kIn_of Y) ?F ?S ?C
 case F=>
  intro w mg fa h KX G hmg
  have T:∃t,My.Txt (L2.KOf KX) t:=by
   dsimp only [L2.KOf]                          -- K must stand as «<heap const> w.params» for k_is
   refine' My.txt_mk ?e1 ?e2 ?e3 ..
   (case e1=>PySem.W.k_is)                    -- in the order:a name -> its address -> its object -> its parts
   (case e2=>PySem.W.k_is)
   ..
  obtain ⟨t,T⟩:=T
  have e0:=hmg.symm.trans (PySem.W.mg_of KX G T.law)
  cases e0                                       -- fa is the law's own address
  exact ⟨_,fun s u=> .of_eq rfl,fun base kb nb=>My.law_fn T kb nb⟩     -- if «.of_eq rfl» comes too early:refine' ⟨_,?b,fun base kb nb=>My.law_fn T kb nb⟩;exact fun s u=> .of_eq rfl
 case S=>exact fun w H a ns hl hO hS=> ..
 case C=>exact ..
(the tactic k_is has no namespace:write k_is) -/
namespace L2
open PySem PySem.Spec PyProof.Rows
def Au (s:Stmt):Arguments:=match s with
 | .FunctionDef _ a _ _ _ _ _ _ _ _=>a
 |_=>{posonlyargs:=[],args:=[],vararg:=none,kwonlyargs:=[],kw_defaults:=[],kwarg:=none,defaults:=[]}
def Ap (s:Stmt):List Stmt:=match s with
 | .FunctionDef _ _ b _ _ _ _ _ _ _=>b
 |_=>[]
def Ae (s:Stmt):Scope:=match s with
 | .FunctionDef _ _ _ _ _ _ sc _ _ _=>sc
 |_=>{kind:= .function,names:=[],isGenerator:=false,isCoroutine:=false}
abbrev CX0:CXT:=fun _ _ _ _ _ _=>False
abbrev E0:XK:=fun _ _ _=>False
theorem Aq {X:Cx}:Passes CX0 X E0:=fun _ _ _ _ _ _ _ h=>h.elim
structure Fun (K:PySem.W.Frag) (x qual:Str) (st:Stmt) (f:Addr) (fd:FuncData):Prop where
 ex:∃(oc:Value) (od:Option Addr) (kV doc pm:Value) (an:Option Addr) (cdv ct:Value) (osl:Array (Option Value)),
  fd=PySem.W.fnOf x qual (Au st) (Ap st) (Ae st) .none kV doc pm an cdv ct∧K.lookup f=some ⟨oc,od,.func fd,osl⟩∧PySem.W.codeIn K cdv qual=true
 kp:PySem.W.keepIn K (.ref f)=true
section
variable {P:Program} {w:World} {K:PySem.W.Frag} {mg:Str→Option Value} {base:Heap}
theorem Fun.ok {x qual:Str} {st:Stmt} {f:Addr} {fd:FuncData} {N ps:List Str} {k:Nat} {sp:Sp} (F:Fun K x qual st f fd) (S:Av N ps (Ae st)) (len:∀vs H Q E,sp vs H Q E→vs.length=ps.length)
  (hbody:∀(cdv:Value) (A:Around) (outer:List Env) (s:Shared) (H:Hp) (vs:List V) (Q:VK) (E:XK),Room k (A.deeper (envOfC qual (Ae st) s.heap.objs.size f cdv))→sp vs H Q E→
   ∃t,PSs (cxOf CX0 P w K mg base N qual (Ae st) f cdv A outer s H E).nox (Ap st) t∧t {nx:=fun _ H'=>Q .non H',rt:=Q} (start N vs) H):FnOk P w K mg base CX0 (k+1) f fd ps sp:=by
 obtain ⟨oc,od,kV,doc,pm,an,cdv,ct,osl,rfl,lk,hcd⟩:=F.ex
 refine fn_of lk hcd S len fun A outer s H vs Q E hr hsp=> ?_
 obtain ⟨t,h,q⟩:=hbody cdv A outer s H vs Q E hr hsp
 exact ⟨t,h.nox,q⟩
theorem Fun.binds {x qual:Str} {st:Stmt} {f:Addr} {fd:FuncData} {ps:List Str} (F:Fun K x qual st f fd)
  (h:∀(kV doc pm:Value) (an:Option Addr) (cdv ct:Value) (us:List Value),us.length=ps.length→bindArgs (PySem.W.fnOf x qual (Au st) (Ap st) (Ae st) .none kV doc pm an cdv ct) ⟨us,[]⟩=pure (ps.zip us)):Binds K fd ps []:=by
 obtain ⟨oc,od,kV,doc,pm,an,cdv,ct,osl,rfl,lk,hcd⟩:=F.ex
 exact .all (h kV doc pm an cdv ct)
theorem A4 {x qual:Str} {st:Stmt} {f:Addr} {oc:Value} {od an:Option Addr} {osl:Array (Option Value)} {kV doc pm cdv ct:Value} (l:K.lookup f=some ⟨oc,od,.func (PySem.W.fnOf x qual (Au st) (Ap st) (Ae st) .none kV doc pm an cdv ct),osl⟩)
  (c:PySem.W.codeIn K cdv qual=true) (k:PySem.W.keepIn K (.ref f)=true):Fun K x qual st f (PySem.W.fnOf x qual (Au st) (Ap st) (Ae st) .none kV doc pm an cdv ct):=⟨⟨oc,od,kV,doc,pm,an,cdv,ct,osl,rfl,l,c⟩,k⟩
end
theorem Ar {n:Nat} (h:n≤1000):n<sizeLine:=Nat.lt_of_le_of_lt h (by decide)
section
variable {X:Cx}
theorem pv (i:Nat) {x:Str} {pos:Pos} (hN:X.N[i]? =some x:=by rfl) (hv:Vis X.env.scope x:=by first|exact Or.inl rfl|exact Or.inr (Or.inl rfl)|exact Or.inr (Or.inr rfl)) (hd:(x==("__debug__":Str))=false:=by decide)
  (hcd:(x==("__classdict__":Str))=false:=by decide):PE X (.Name x pos) (tVar i):=pe_var hN hv hd hcd
end
theorem Bi {A B:Prop} (h:B):if false=true then A else B:=by
 rw [if_neg Bool.false_ne_true]
 exact h
theorem Be {A B:Prop} (h:A):if true=true then A else B:=by
 rw [if_pos rfl]
 exact h
theorem Ci {c A B:Prop} [Decidable c] (h1:c→A) (h2:¬c→B):if c then A else B:=by
 by_cases h:c
 ·rw [if_pos h]
  exact h1 h
 ·rw [if_neg h]
  exact h2 h
def Same (H H':Hp):Prop:=∀b o,H b=some o→H' b=some o
theorem Same.trans {H H1 H2:Hp} (a:Same H H1) (b:Same H1 H2):Same H H2:=fun c o h=>b c o (a c o h)
end L2
namespace L2
open PySem PySem.Spec PyProof.Rows
def Cm (env:Env):List (Str×NameKind)→List (Str×Addr)→List (Str×Addr)
 |[],cs=>cs
 |(n,k)::r,cs=>Cm env r (if k= .free then (n,(env.cells.lookup n).getD 0)::cs else cs)
theorem closes_ok {env:Env}:∀(ns:List (Str×NameKind)) (cs:List (Str×Addr)),(∀p∈ns,p.2= .free→(env.cells.lookup p.1).isSome=true)→
  (forIn ns cs fun (x:Str×NameKind) r=>(do
   let mut cs:=r
   if x.2== .free then cs:=(x.1,←cellOf env x.1)::cs
   pure (ForInStep.yield cs):Sem (ForInStep (List (Str×Addr)))))=pure (Cm env ns cs)
 |[],cs,_=>rfl
 |(n,k)::r,cs,h=>by
  have ih:=fun cs=>closes_ok (env:=env) r cs fun p hp=>h p (List.mem_cons_of_mem _ hp)
  rw [List.forIn_cons]
  by_cases hk:k= .free
  ·subst hk
   have q:=h (n,.free) List.mem_cons_self rfl
   obtain ⟨c,hc⟩:=Option.isSome_iff_exists.mp q
   have e:cellOf env n=pure c:=by unfold cellOf;rw [hc]
   simp only [e]
   simp [Cm,hc,ih]
   have:=ih ((n,c)::cs)
   simpa using this
  ·have hb:(k==NameKind.free)=false:=by simpa using hk
   simp [Cm,hk]
   have:=ih cs
   simpa using this
theorem closureFor_closes {scope:Scope} {env:Env} (h:∀p∈scope.names,p.2= .free→(env.cells.lookup p.1).isSome=true):closureFor scope env=pure (Cm env scope.names []):=by
 have q:=closes_ok (env:=env) scope.names [] h
 unfold closureFor
 simp at q ⊢
 exact q
theorem closes_sub {env:Env}:∀(ns:List (Str×NameKind)) (cs:List (Str×Addr)),(∀p∈ns,p.2= .free→(env.cells.lookup p.1).isSome=true)→(∀y c,cs.lookup y=some c→env.cells.lookup y=some c)→
  ∀y c,(Cm env ns cs).lookup y=some c→env.cells.lookup y=some c
 |[],cs,_,h,y,c,e=>h y c e
 |(n,k)::r,cs,h,hc,y,c,e=>by
  unfold Cm at e
  refine closes_sub r _ (fun p hp=>h p (List.mem_cons_of_mem _ hp)) ?_ y c e
  intro y c e
  by_cases hk:k= .free
  ·subst hk
   rw [if_pos rfl] at e
   obtain ⟨d,hd⟩:=Option.isSome_iff_exists.mp (h (n,.free) List.mem_cons_self rfl)
   rw [List.lookup_cons] at e
   cases q:y==n with
   |true=>
    rw [q] at e
    have:y=n:=by simpa using q
    subst this
    rw [hd] at e ⊢
    exact e
   |false=>
    rw [q] at e
    exact hc y c e
  ·rw [if_neg hk] at e
   exact hc y c e
theorem closes_keep {env:Env} {y:Str}:∀(ns:List (Str×NameKind)) (cs:List (Str×Addr)),(cs.lookup y).isSome=true→((Cm env ns cs).lookup y).isSome=true
 |[],cs,h=>h
 |(n,k)::r,cs,h=>by
  unfold Cm
  refine closes_keep r _ ?_
  split
  ·rw [List.lookup_cons]
   split
   ·rfl
   ·exact h
  ·exact h
theorem closes_has {env:Env} {y:Str}:∀(ns:List (Str×NameKind)) (cs:List (Str×Addr)),(y,NameKind.free)∈ns→((Cm env ns cs).lookup y).isSome=true
 |(n,k)::r,cs,h=>by
  unfold Cm
  rcases List.mem_cons.mp h with e|e
  ·cases e
   refine closes_keep r _ ?_
   rw [if_pos rfl,List.lookup_cons]
   simp
  ·exact closes_has r _ e
def B8 (X:Cx) (scope:Scope) (N:List Str) (C:Addr) (s:Shared) (H:Hp) (ex:List Addr) (pins:List (Addr×Obj)):Cx where
 prog:=X.prog
 w:=X.w
 K:=X.K
 mg:=X.mg
 base:=X.base
 A:=X.A
 N:=N
 s₀:=s
 H₀:=H
 env:=compEnvC scope (Cm X.env scope.names []) C X.env
 outer:=X.stack
 stack:=X.stack
 ex:=ex
 fn:=fun _=>false
 calm:=X.calm
 pn:=X.pn++pins
 xe:=fun _ _=>False
def cst (nT:Nat) (js:List Nat) (σ:St):St:=List.replicate nT none++js.map fun j=>(σ[j]?).join
structure CScope (X:Cx) (scope:Scope) (T F:List Str) (js:List Nat):Prop where
 kind:scope.kind= .function
 nocell:∀y∈scope.names,y.2≠ .cell
 names:∀x∈scope.names,x.2= .local→scope.names.lookup x.1=some .local
 free:∀x∈scope.names,x.2= .free→X.env.kindOf x.1=some .cell
 loc:∀y∈T,(relabel scope X.env).names.lookup y=some .local
 cel:∀y∈F,(relabel scope X.env).names.lookup y=some .cell∧X.env.kindOf y=some .cell∧(y,NameKind.free)∈scope.names
 all:∀x∈(relabel scope X.env).names,(x.2= .cell∨x.2= .free)→(x.1,NameKind.free)∈scope.names
 js:js.map (fun j=>X.N[j]?)=F.map some
section
variable {X:Cx} {scope:Scope} {T F:List Str} {js:List Nat}
theorem comp_inv {pins:List (Addr×Obj)} {σ:St} {H:Hp} {s:Shared} {h1:Heap} {tk:Nat} {fp:List Addr} {m:Str→Option Value} (S:CScope X scope T F js) (I:Inv X pins σ H s)
  (hn:h1.Ns s.heap.objs.size m) (kk:∀b o,s.heap.get? b=some o→h1.get? b=some o) (hf:∀b∈fp,FpOk X pins H b∧∃o,s.heap.get? b=some o∧∀v,o.data≠ .cell v):
  Inv (B8 X scope (T++F) s.heap.objs.size s H fp pins) [] (cst T.length js σ) H {s with heap:=h1,toks:=tk}:=by
 have sub:=closes_sub (env:=X.env) scope.names [] (fun p hp hk=>by
  obtain ⟨c,e⟩:=I.ok.has p.1 (.inl (S.free p hp hk))
  rw [e];rfl) (fun y c e=>by simp at e)
 have ltC:∀y c,X.env.cells.lookup y=some c→c<s.heap.objs.size:=fun y c e=>by
  obtain ⟨v,z⟩:=I.cell y c e
  exact z.lt
 refine ⟨⟨I.ok.mod,?_,I.ok.glob,I.ok.blt,Nat.le_refl _,fun x y c e1 e2=>I.ok.inj x y c (sub x c e1) (sub y c e2),fun x hx=> ?_,fun x c hx=>absurd hx Bool.false_ne_true,I.ok.hd,I.ok.frames,.inl rfl,fun b hb=> ?_,I.bs,?_,fun b o e hb=> ?_,fun b hb hs=> ?_,I.stack,I.stkFree⟩,
  rfl,I.bare,Un.kept kk,⟨m,hn,fun i x v e1 e2 e3=> ?_⟩,fun x c e=> ?_,I.hok.fresh (Nat.le_refl _),fun x c e=>I.freeC x c (sub x c e),fun p hp=> ?_,I.hok.kept kk,?_⟩
 ·show (relabel scope X.env).kind= .function
  exact S.kind
 ·have hx:(relabel scope X.env).names.lookup x=some .cell∨(relabel scope X.env).names.lookup x=some .free:=hx
  have hm:(x,NameKind.free)∈scope.names:=by
   rcases hx with h|h
   ·exact S.all _ (PySem.mem_of_lookup h) (.inl rfl)
   ·exact S.all _ (PySem.mem_of_lookup h) (.inr rfl)
  exact Option.isSome_iff_exists.mp (closes_has scope.names [] hm)
 ·obtain ⟨⟨f0,f1,f2,f3,f4,f5⟩,o,ho,_⟩:=hf b hb
  exact ⟨Nat.ne_of_lt (Heap.lt_size ho),fun x c e=>f4 x c (sub x c e)⟩
 ·exact Nat.le_trans I.ok.bsz I.sz
 ·obtain ⟨⟨f0,f1,f2,f3,f4,f5⟩,_⟩:=hf b hb
  rcases f3 with z|z
  ·exact I.ok.noex b o e z
  ·exact absurd (Nat.lt_of_lt_of_le (Heap.lt_size e) (Nat.le_trans I.ok.bsz z)) (Nat.lt_irrefl _)
 ·obtain ⟨⟨f0,f1,f2,f3,f4,f5⟩,_⟩:=hf b hb
  rcases List.mem_cons.mp (I.stkSub b hs) with z|z
  ·exact f1 z
  ·exact f2 z
 ·-- a name's value
  have hi:T.length≤i:=by
   by_cases hi:i<T.length
   ·unfold cst at e2
    rw [List.getElem?_append_left (by simpa using hi),List.getElem?_replicate] at e2
    split at e2<;> cases e2
   ·exact Nat.not_lt.mp (by assumption)
  obtain ⟨k,rfl⟩:∃k,i=T.length+k:=⟨i - T.length,by omega⟩
  have e1:(T++F)[T.length+k]? =some x:=e1
  rw [List.getElem?_append_right (by assumption)] at e1
  have e1:F[k]? =some x:=by simpa using e1
  unfold cst at e2
  rw [List.getElem?_append_right (by simp)] at e2
  have e2:(js.map fun j=>(σ[j]?).join)[k]? =some (some v):=by simpa using e2
  rw [List.getElem?_map] at e2
  cases ej:js[k]? with
  |none=>rw [ej] at e2;cases e2
  |some j=>
   rw [ej] at e2
   have e2:(σ[j]?).join=some v:=by simpa using e2
   have e3':σ[j]? =some (some v):=by
    cases q:σ[j]? with
    |none=>rw [q] at e2;cases e2
    |some z=>rw [q] at e2;cases z with
     |none=>cases e2
     |some z=>simp at e2;rw [e2]
   have eN:X.N[j]? =some x:=by
    have q:=congrArg (fun l=>l[k]?) S.js
    simp only [List.getElem?_map,ej,e1] at q
    simpa using q
   obtain ⟨c1,c2,c3⟩:=S.cel x (List.mem_of_getElem? e1)
   obtain ⟨m0,hn0,hl⟩:=I.loc
   obtain ⟨u,ru,lk⟩:=hl j x v eN e3' (.inr (.inl c2))
   refine ⟨u,ru,?_⟩
   rcases lk with ⟨z,_⟩|⟨_,c,ec,hc⟩
   ·rw [c2] at z;cases z
   ·obtain ⟨c',ec'⟩:=Option.isSome_iff_exists.mp (closes_has (env:=X.env) scope.names [] c3)
    have:=sub x c' ec'
    rw [ec] at this;cases this
    refine .inr ⟨.inl c1,c,ec',?_⟩
    obtain ⟨o,ho,hd⟩:=hc
    exact ⟨o,kk _ _ ho,hd⟩
 ·obtain ⟨v,o,ho,hd⟩:=I.cell x c (sub x c e)
  exact ⟨v,o,kk _ _ ho,hd⟩
 ·have hp:p∈(X.pn++pins)++[]:=hp
  rw [List.append_nil] at hp
  obtain ⟨e,n,ne,nf,d⟩:=I.pin p hp
  refine ⟨kk _ _ e,n,Nat.ne_of_lt (Heap.lt_size e),fun z=> ?_,d⟩
  rcases List.mem_cons.mp (I.stkSub p.1 z) with q|q
  ·exact ne q
  ·exact nf q
 ·unfold cst
  show _=(T++F).length
  have q:=congrArg List.length S.js
  simp at q
  simp [q]
def PIf (X:Cx) (ifs:List Expr) (t:TT):Prop:=
 ∀(pins:List (Addr×Obj)) (s:Shared) (σ:St) (H:Hp) (Q:Bool→Hp→Prop),Inv X pins σ H s→t σ H Q→
  wpAny (model X.prog X.w) X.A (forIn ifs true fun c r=>if r=true then do let ok ←isTrue c X.env (eval c X.env);pure (ForInStep.yield ok) else pure (ForInStep.yield r)) (TP X pins σ Q) X.xe s
def tYes:TT:=fun _ H Q=>Q true H
theorem Cd:PIf X [] tYes:=fun pins s σ H Q I h=>wpAny_tests_nil ⟨H,I,h⟩
theorem Ch {c:Expr} {t:TT} (h:PT X c t):PIf X [c] t:=fun pins s σ H Q I hw=>wpAny_tests_one (h pins s σ H Q I hw)
def cturn (g:TG) (ti:TT) (te:TE) (D:Addr) (x:V) (σ:St) (ys:List V) (H:Hp) (N:St→List V→Hp→Prop):Prop:=
 g x σ H fun σ2 H2=>ti σ2 H2 fun b H3=>if b=true then te σ2 H3 fun y H4=>H4 D=some (.lst ys)∧ys.length<sizeLine∧N σ2 (ys++[y]) (upd H4 D (.lst (ys++[y]))) else N σ2 ys H3
def cgo (J:It) (g:TG) (ti:TT) (te:TE) (D:Addr) (σ:St) (H:Hp) (Q:VK):Prop:=
 ∃W:Nat→Nat→St→List V→Hp→Prop,(∃m,W 0 m σ [] (upd H D (.lst [])))∧∀i m σ ys H,W i m σ ys H→H D=some (.lst ys)∧
  ((J.stop i H∧Q (.ref D) H)∨(J.go i H∧∃N:St→List V→Hp→Prop,(∀σ' ys' H',N σ' ys' H'→∃m',m'<m∧W (i+1) m' σ' ys' H')∧∀x H',J.yld i H x H'→cturn g ti te D x σ ys H' N))
def tComp (wi:TI) (g:TG) (ti:TT) (te:TE) (nT:Nat) (js:List Nat):TE:=fun σ H Q=>wi σ H fun J H1=>∀D,H1 D=none→cgo J g ti te D (cst nT js σ) H1 Q
theorem comp_out {pins:List (Addr×Obj)} {σ σ':St} {H H':Hp} {s s':Shared} {h':Heap} {N:List Str} {fp:List Addr} (I:Inv X pins σ H s) (hf:∀b∈fp,FpOk X pins H b)
  (J:Inv (B8 X scope N s.heap.objs.size s H fp pins) [] σ' H' s') (sb:Heap.SameBut s.heap.objs.size s'.heap h'):Inv X pins σ H' {s' with heap:=h'}:=by
 have ne:∀b o,s.heap.get? b=some o→b≠s.heap.objs.size:=fun b o e=>Nat.ne_of_lt (Heap.lt_size e)
 have u:=J.base
 have u':Un (frs X.stack) fp H H' s.heap h':=
  ⟨fun b o e n h1 h2=>sb.extBut b o (ne b o e) (u.keep b o e n h1 h2),fun b o e n h1 h2=>by
   obtain ⟨sl,q⟩:=u.slot b o e n h1 h2
   exact ⟨sl,sb.extBut b _ (ne b o e) q⟩,u.free,fun b o e h=>by
   obtain ⟨o',q⟩:=u.there b o e h
   exact ⟨o',sb.extBut b _ (ne b o e) q⟩,u.tups,u.frzs,u.tbls⟩
 have nC:H' s.heap.objs.size=none:=J.free
 have hok:HOk X.prog X.w H' h':=fun b o e=>by
  refine (J.hok b o e).stay (fun c v hc q=>sb.extBut c v ?_ q) (fun _ q=>q) fun _ _ q=>q
  rcases hc with z|z
  ·rw [z];intro z';rw [z',nC] at e;cases e
  ·intro z';rw [z',nC] at z;cases z
 exact I.call' (s':={s' with heap:=h'}) J.os u' hok J.bare fun b hb=>by
  obtain ⟨f0,f1,f2,f3,f4,f5⟩:=hf b hb
  exact ⟨f3,f1,f4,f5⟩
theorem comp_go {tg elt iter:Expr} {ifs:List Expr} {pos:Pos} {g:TG} {ti:TT} {te:TE} {wi:TI} {pins:List (Addr×Obj)} {σ:St} {H:Hp} {s:Shared} {use:Option (Value→Sem Unit)} {QQ:Value→Shared→Prop} {Q:VK} (S:CScope X scope T F js) (hc:X.calm=true)
  (hi:PI X tg iter wi) (hg:∀C s H ex pins,PG (B8 X scope (T++F) C s H ex pins) tg g) (hif:∀C s H ex pins,PIf (B8 X scope (T++F) C s H ex pins) ifs ti) (he:∀C s H ex pins,PE (B8 X scope (T++F) C s H ex pins) elt te)
  (I:Inv X pins σ H s) (h:tComp wi g ti te T.length js σ H Q)
  (fin:∀(D C:Addr) (s':Shared) (H':Hp) (m:Str→Option Value),s'.heap.Ns C m→Q (.ref D) H'→FpOk X pins H' C→(∀h',Heap.SameBut C s'.heap h'→Inv X pins σ H' {s' with heap:=h'})→
   compPost (model X.prog X.w) X.A X.xe use QQ (.ref D) C (.ok .next) s')
  (hs:∀x,foldedSetIterable iter X.env x=pure x):
  wpAny (model X.prog X.w) X.A (comprehension (.ListComp elt [⟨tg,iter,ifs,0⟩] scope pos) scope X.env (firstIterPos [⟨tg,iter,ifs,0⟩] pos) (newList []) false (eval iter X.env) use) QQ X.xe s:=by
 refine wpAny_comprehension_free (use:=use) rfl hs (closureFor_closes fun p hp hk=> ?_) S.kind S.names (thn (hi pins s σ H _ I h) fun v s1 h1=>thn h1 fun itv s2 h2=> ?_)
 ·obtain ⟨c,e⟩:=I.ok.has p.1 (.inl (S.free p hp hk))
  rw [e];rfl
 obtain ⟨it,fp,tn,J,H2,rfl,I2,Tn,st2,f2,h2⟩:=h2
 obtain ⟨W,⟨m0,w0⟩,turn⟩:=h2 s2.heap.objs.size I2.fresh
 refine wpAny_newObj_type (wpAny_newFunctionEnv S.nocell (by intro y hy;simp at hy) (fun h₁ hns₁ hsb₁=> ?_) S.kind)
 have I3:=I2.lnew (t':=s2.toks) (ys:=[]) (its:=[]) Paired.nil (Nat.zero_le _)
 generalize hs3:({s2 with heap:=s2.heap.push {cls:= .type "list",data:= .seq ([]:List Value).toArray},toks:=s2.toks}:Shared)=s3 at I3
 have hf3:∀b∈fp,FpOk X pins (upd H2 s2.heap.objs.size (.lst [])) b∧∃o,s3.heap.get? b=some o∧∀v,o.data≠ .cell v:=fun b hb=>by
  obtain ⟨f0,fr⟩:=f2 b hb
  obtain ⟨o,e,d⟩:=Tn.obj _ _ st2 b hb
  refine ⟨⟨by rw [A0 (Nat.ne_of_lt (Heap.lt_size e))];exact f0,fr⟩,o,?_,d⟩
  rw [←hs3]
  exact Heap.get?_push_of_some _ e
 have e3:s3.heap=s2.heap.push {cls:= .type "list",data:= .seq ([]:List Value).toArray}:=by rw [←hs3]
 have kk:∀b o,s3.heap.get? b=some o→h₁.get? b=some o:=fun b o e=>by
  rw [e3] at e
  exact hsb₁.extBut b o (Nat.ne_of_lt (Heap.lt_size e)) (Heap.get?_push_of_some _ e)
 have hns:h₁.Ns s3.heap.objs.size (fun x=>([]:List (Str×Value)).reverse.lookup x):=by rw [e3];exact hns₁
 have I4:=comp_inv (tk:=s3.toks+([]:List (Str×Value)).length) S I3 hns kk hf3
 have stat:∀{H':Hp} {pl:List (Addr×Obj)},(∀p∈pl,∀b∈fp,p.1≠b)→(∀b∈fp,H' b=none)→∀b∈fp,FpOk (B8 X scope (T++F) s3.heap.objs.size s3 (upd H2 s2.heap.objs.size (.lst [])) fp pins) pl H' b:=fun {H' pl} hp hn b hb=>by
  obtain ⟨⟨f0,f1,f2,f3,f4,f5⟩,o,e,d⟩:=hf3 b hb
  obtain ⟨x1,x2⟩:=I4.ok.exf b hb
  refine ⟨hn b hb,x1,I4.ok.exfs b hb,.inl hb,x2,fun p hq=> ?_⟩
  rcases List.mem_append.mp hq with z|z
  ·exact f5 p z
  ·exact hp p z b hb
 have loop:codeAny (model X.prog X.w) X.A (.compLoop (.ListComp elt [⟨tg,iter,ifs,0⟩] scope pos) 0 (.ref it) (.ref s2.heap.objs.size) (compEnvC scope (Cm X.env scope.names []) s3.heap.objs.size X.env))
   (compPost (model X.prog X.w) X.A X.xe use QQ (.ref s2.heap.objs.size) s3.heap.objs.size) {s3 with heap:=h₁,toks:=s3.toks+([]:List (Str×Value)).length}:=by
  refine codeAny_loop rfl (fun n s'=>∃i σ' ys H',Inv (B8 X scope (T++F) s3.heap.objs.size s3 (upd H2 s2.heap.objs.size (.lst [])) fp pins) [] σ' H' s'∧tn i s'.heap∧(∀b∈fp,H' b=none)∧W i n σ' ys H') ?_ m0 ⟨0,_,[],_,I4,?_,fun b hb=>(hf3 b hb).1.1,w0⟩
  ·rintro n s5 ⟨i,σ5,ys,H5,I5,st5,fr5,w5⟩
   show wpAny _ X.A ((compTurn (.ListComp elt [⟨tg,iter,ifs,0⟩] scope pos) 0 (.ref it) (.ref s2.heap.objs.size) (compEnvC scope (Cm X.env scope.names []) s3.heap.objs.size X.env)).onRaise (fun x=>do noteFrame x _;theTreesLotGoes x)) _ _ s5
   refine wpAny_noted ?_
   rw [compTurn_list]
   refine wpAny_bind (wpAny_standAt (wpAny_bind ?_))
   obtain ⟨hD,tu⟩:=turn i n σ5 ys H5 w5
   rcases tu with ⟨stop,qq⟩|⟨go,NN,hNN,step⟩
   ·refine thn (Tn.done (B8 X scope (T++F) s3.heap.objs.size s3 (upd H2 s2.heap.objs.size (.lst [])) fp pins) rfl rfl rfl hc i [] s5 σ5 H5 _ I5 (stat (pl:=[]) (fun _ hp=>absurd hp List.not_mem_nil) fr5) st5 stop) fun r s6 ⟨hr,I6⟩=> ?_
    subst hr
    refine wpAny_pure ?_
    obtain ⟨m6,hn6,_⟩:=I6.loc
    have lC:s.heap.objs.size≤s.heap.objs.size:=Nat.le_refl _
    exact fin _ _ s6 H5 m6 hn6 qq (I3.fpOk (Nat.le_refl _) I6.free) fun h' sb=>comp_out I3 (fun b hb=>(hf3 b hb).1) I6 sb
   ·refine thn (Tn.item (B8 X scope (T++F) s3.heap.objs.size s3 (upd H2 s2.heap.objs.size (.lst [])) fp pins) rfl rfl rfl hc i [] s5 σ5 H5 _ I5 (stat (pl:=[]) (fun _ hp=>absurd hp List.not_mem_nil) fr5) st5 go) fun r s6 ⟨u,hr,h6⟩=> ?_
    subst hr
    refine wpAny_bind (thn h6 fun _ s7 ⟨x,H7,I7,r7,y7,st7,fr7⟩=> ?_)
    have I7':=I7.pinned (stat (pl:=[]) (fun _ hp=>absurd hp List.not_mem_nil) fr7) (Tn.obj _ _ st7)
    have back:∀{σ8:St} {H8:Hp} {s8:Shared} {ys8:List V} {m':Nat},Inv (B8 X scope (T++F) s3.heap.objs.size s3 (upd H2 s2.heap.objs.size (.lst [])) fp pins) ([]++pinsAt fp s7.heap) σ8 H8 s8→m'<n→W (i+1) m' σ8 ys8 H8→
      ∃m,m<n∧∃i σ' ys H',Inv (B8 X scope (T++F) s3.heap.objs.size s3 (upd H2 s2.heap.objs.size (.lst [])) fp pins) [] σ' H' s8∧tn i s8.heap∧(∀b∈fp,H' b=none)∧W i m σ' ys H':=fun {σ8 H8 s8 ys8 m'} I8 hm w8=>by
     refine ⟨m',hm,i+1,σ8,ys8,H8,I8.unpinned,Tn.keep _ _ _ st7 fun b hb o e=>(I8.pin (b,o) (List.mem_append_right _ (List.mem_append_right _ (mem_pinsAt hb e)))).1,fun b hb=> ?_,w8⟩
     obtain ⟨o,e,d⟩:=Tn.obj _ _ st7 b hb
     exact (I8.pin (b,o) (List.mem_append_right _ (List.mem_append_right _ (mem_pinsAt hb e)))).2.1
    refine wpAny_bind (wpAny_mono (hg _ _ _ _ _ _ s7 σ5 H7 x u _ I7' r7 (step x H7 y7)) (fun _ s8 ⟨σ8,H8,I8,q8⟩=> ?_) fun _ _ z=>z.elim)
    refine wpAny_bind (wpAny_mono (hif _ _ _ _ _ _ s8 σ8 H8 _ I8 q8) (fun ok s9 ⟨H9,I9,q9⟩=> ?_) fun _ _ z=>z.elim)
    cases ok with
    |false=>
     rw [if_neg Bool.false_ne_true] at q9
     obtain ⟨m',hm,w9⟩:=hNN _ _ _ q9
     exact wpAny_pure ⟨rfl,back I9 hm w9⟩
    |true=>
     rw [if_pos rfl] at q9
     refine wpAny_bind (wpAny_bind (wpAny_mono (he _ _ _ _ _ _ s9 σ8 H9 _ I9 q9) (fun yv s10 ⟨y,H10,I10,r10,d10,l10,q10⟩=> ?_) fun _ _ z=>z.elim))
     obtain ⟨m',hm,w10⟩:=hNN _ _ _ q10
     obtain ⟨z10,its,n10,rv,el,eo⟩:=I10.lstM d10
     refine wpAny_bind (wpAny_list_append_plain (items:=its.toArray) ⟨n10,eo⟩ (fun h' hl' sb'=> ?_) (by simp;omega))
     obtain ⟨n11,eo'⟩:=hl'
     have I11:=I10.write (x:=s2.heap.objs.size) (e:=s2.heap.objs.size) (o:= .lst (ys++[y])) (t':=s10.toks) (by rw [d10];exact trivial) (.inl rfl) (fun b o hb e=>sb'.extBut b o hb e) ⟨_,eo'⟩ ⟨by simp;assumption,its++[yv],n11,rv.append (.cons r10 .nil),by simpa using eo'⟩
     exact wpAny_pure (wpAny_pure ⟨rfl,back I11 hm w10⟩)
  ·refine Tn.keep _ _ _ st2 fun b hb o e=>kk b o ?_
   rw [e3]
   exact Heap.get?_push_of_some _ e
 have st1:tn 0 h₁:=Tn.keep _ _ _ st2 fun b hb o e=>kk b o (by rw [e3];exact Heap.get?_push_of_some _ e)
 exact codeAny_compStart_list loop (Tn.self _ 0 _ _ _ st1 loop)
theorem Bn {tg elt iter:Expr} {ifs:List Expr} {pos:Pos} {g:TG} {ti:TT} {te:TE} {wi:TI} (S:CScope X scope T F js) (hc:X.calm=true)
  (hi:PI X tg iter wi) (hg:∀C s H ex pins,PG (B8 X scope (T++F) C s H ex pins) tg g) (hif:∀C s H ex pins,PIf (B8 X scope (T++F) C s H ex pins) ifs ti) (he:∀C s H ex pins,PE (B8 X scope (T++F) C s H ex pins) elt te)
  (hs:∀x,foldedSetIterable iter X.env x=pure x:=by intro _;rfl):PE X (.ListComp elt [⟨tg,iter,ifs,0⟩] scope pos) (tComp wi g ti te T.length js):=by
 intro pins s σ H Q I h
 rw [eval_ListComp]
 exact comp_go (use:=none) S hc hi hg hif he I h (fun D C s' H' m hn q _ hinv=>⟨m,hn,fun h' sb=>⟨.ref D,H',hinv h' sb,rfl,q⟩⟩) hs
theorem ps_comp {i:Nat} {x:Str} {pos' spos:Pos} {tg elt iter:Expr} {ifs:List Expr} {pos:Pos} {g:TG} {ti:TT} {te:TE} {wi:TI} (hN:X.N.Nodup) (hx1:X.N[i]? =some x) (hx2:Loc X.env.scope x) (S:CScope X scope T F js) (hc:X.calm=true)
  (hi:PI X tg iter wi) (hg:∀C s H ex pins,PG (B8 X scope (T++F) C s H ex pins) tg g) (hif:∀C s H ex pins,PIf (B8 X scope (T++F) C s H ex pins) ifs ti) (he:∀C s H ex pins,PE (B8 X scope (T++F) C s H ex pins) elt te)
  (hsw:swapsWith (.ListComp elt [⟨tg,iter,ifs,0⟩] scope pos) (some (.Name x pos')) spos.line X.env=pure true:=by rfl)
  (hf:X.fn x=true∨X.env.scope.names.lookup x=some .local:=by first|exact .inl rfl|exact .inr rfl|assumption)
  (hs:∀x,foldedSetIterable iter X.env x=pure x:=by intro _;rfl):PS X (.Assign [.Name x pos'] (.ListComp elt [⟨tg,iter,ifs,0⟩] scope pos) spos) (tAsg (tComp wi g ti te T.length js) (gName i)):=by
 intro pins s σ H D I h
 rw [exec_Assign_Name_used _ _ _ _ hsw]
 refine wpAny_bind (wpAny_standAt (wpAny_bind ?_))
 show wpAny _ X.A (do let _ ←comprehension (.ListComp elt [⟨tg,iter,ifs,0⟩] scope pos) scope X.env _ (newList []) false (eval iter X.env) (some (assign (.Name x pos') X.env))) _ _ s
 refine wpAny_bind (wpAny_mono (comp_go (use:=some (assign (.Name x pos') X.env)) (QQ:=fun _ s'=>SP X pins D .next s') S hc hi hg hif he I h (fun d C s' H' m hn q fC hinv=> ?_) hs) (fun _ s' hq=>wpAny_pure (wpAny_pure hq)) fun _ _ e=>e)
 have I1:Inv X pins σ H' s':=hinv s'.heap (Heap.SameBut.refl ..)
 obtain ⟨oC,es,ep,ho,hd,hr⟩:=id hn
 obtain ⟨f0,f1,f2,f3,f4,f5⟩:=fC
 have I2:Inv X (pins++[(C,oC)]) σ H' s':=I1.pins_of fun p hp=>(List.mem_append.mp hp).elim (fun z=>I1.pin p (List.mem_append_right _ z)) fun z=>by
  have e:=List.mem_singleton.mp z
  subst e
  exact ⟨ho,f0,f1,f2,fun v z=>by rw [hd] at z;cases z⟩
 show wpAny _ X.A (assign (.Name x pos') X.env (.ref d)) _ _ _
 refine wpAny_assign_Name (store_ok (v:= .ref d) I2 hN hx1 hx2 rfl (fun s'' I''=> ?_) hf)
 have e2:=(I''.pin (C,oC) (List.mem_append_right _ (List.mem_append_right _ (List.mem_singleton.mpr rfl)))).1
 refine ⟨m,⟨oC,es,ep,e2,hd,hr⟩,fun h' sb=> ?_⟩
 exact ⟨_,H',I''.unpinned.turned (t':=s''.toks) (it:=C) (fun b o hb e=>sb.extBut b o hb e) f0 f1 f3 f4 f5,q⟩
end
section
variable {g:TG} {ti:TT} {te:TE} {Q:VK} {D:Addr} {σ:St} {H:Hp}
theorem comp_list {K:PySem.W.Frag} {a:Addr} {xs:List V} (Pv:Nat→St→List V→Hp→Prop) (h0:Pv 0 σ [] (upd H D (.lst []))) (hl:∀i σ ys H,i≤xs.length→Pv i σ ys H→SqL K H a xs∧H D=some (.lst ys))
  (hs:∀i x σ ys H,xs[i]? =some x→Pv i σ ys H→cturn g ti te D x σ ys H (Pv (i+1))) (hd:∀σ ys H,Pv xs.length σ ys H→Q (.ref D) H):
  cgo (Itl K a) g ti te D σ H Q:=by
 refine ⟨fun i m σ ys H=>m=xs.length - i∧i≤xs.length∧Pv i σ ys H,⟨xs.length,by simp,Nat.zero_le _,h0⟩,?_⟩
 rintro i m σ ys H ⟨rfl,hi,p⟩
 obtain ⟨q,hD⟩:=hl i σ ys H hi p
 refine ⟨hD,?_⟩
 by_cases hlt:i<xs.length
 ·refine .inr ⟨⟨xs,xs[i],q,by simp [hlt]⟩,Pv (i+1),fun σ' ys' H' p'=>⟨xs.length - (i+1),by omega,rfl,hlt,p'⟩,fun x H' y=> ?_⟩
  obtain ⟨e,y⟩:=y
  subst e
  exact (hs i x σ ys _ (y xs q) p)
 ·have e:i=xs.length:=by omega
  subst e
  exact .inl ⟨⟨xs,q,Nat.le_refl _⟩,hd σ ys H p⟩
theorem comp_tup {K:PySem.W.Frag} {a:Addr} {xs:List V} (Pv:Nat→St→List V→Hp→Prop) (h0:Pv 0 σ [] (upd H D (.lst []))) (hl:∀i σ ys H,i≤xs.length→Pv i σ ys H→SqT K H a xs∧H D=some (.lst ys))
  (hs:∀i x σ ys H,xs[i]? =some x→Pv i σ ys H→cturn g ti te D x σ ys H (Pv (i+1))) (hd:∀σ ys H,Pv xs.length σ ys H→Q (.ref D) H):
  cgo (Itt K a) g ti te D σ H Q:=by
 refine ⟨fun i m σ ys H=>m=xs.length - i∧i≤xs.length∧Pv i σ ys H,⟨xs.length,by simp,Nat.zero_le _,h0⟩,?_⟩
 rintro i m σ ys H ⟨rfl,hi,p⟩
 obtain ⟨q,hD⟩:=hl i σ ys H hi p
 refine ⟨hD,?_⟩
 by_cases hlt:i<xs.length
 ·refine .inr ⟨⟨xs,xs[i],q,by simp [hlt]⟩,Pv (i+1),fun σ' ys' H' p'=>⟨xs.length - (i+1),by omega,rfl,hlt,p'⟩,fun x H' y=> ?_⟩
  obtain ⟨e,y⟩:=y
  subst e
  exact (hs i x σ ys _ (y xs q) p)
 ·have e:i=xs.length:=by omega
  subst e
  exact .inl ⟨⟨xs,q,Nat.le_refl _⟩,hd σ ys H p⟩
theorem comp_range {lo:Int} {n:Nat} (Pv:Nat→St→List V→Hp→Prop) (h0:Pv 0 σ [] (upd H D (.lst []))) (hl:∀i σ ys H,i≤n→Pv i σ ys H→H D=some (.lst ys))
  (hs:∀i σ ys H,i<n→Pv i σ ys H→cturn g ti te D (.int (lo+i)) σ ys H (Pv (i+1))) (hd:∀σ ys H,Pv n σ ys H→Q (.ref D) H):
  cgo (Itr lo n) g ti te D σ H Q:=by
 refine ⟨fun i m σ ys H=>m=n - i∧i≤n∧Pv i σ ys H,⟨n,by simp,Nat.zero_le _,h0⟩,?_⟩
 rintro i m σ ys H ⟨rfl,hi,p⟩
 have hD:=hl i σ ys H hi p
 refine ⟨hD,?_⟩
 by_cases hlt:i<n
 ·refine .inr ⟨hlt,Pv (i+1),fun σ' ys' H' p'=>⟨n - (i+1),by omega,rfl,hlt,p'⟩,fun x H' y=> ?_⟩
  obtain ⟨e,y⟩:=y
  subst e y
  exact (hs i σ ys _ hlt p)
 ·have e:i=n:=by omega
  subst e
  exact .inl ⟨Nat.le_refl _,hd σ ys H p⟩
end
end L2
namespace L2
open PySem PySem.Spec PyProof.Rows
mutual
inductive Rep (K:PySem.W.Frag) (H:Hp):V→PyData→Prop
 |non:Rep K H .non .none
 |bl (b:Bool):Rep K H (.bl b) (.bool b)
 |int (i:Int):Rep K H (.int i) (.int i)
 |str (x:Str):Rep K H (.str x) (.str x)
 |lst {a:Addr} {xs:List V} {ds:List PyData}:SqL K H a xs→RepAll K H xs ds→Rep K H (.ref a) (.list ds)
 |tup {a:Addr} {xs:List V} {ds:List PyData}:SqT K H a xs→RepAll K H xs ds→Rep K H (.ref a) (.tuple ds)
inductive RepAll (K:PySem.W.Frag) (H:Hp):List V→List PyData→Prop
 |nil:RepAll K H [] []
 |cons {x:V} {xs:List V} {d:PyData} {ds:List PyData}:Rep K H x d→RepAll K H xs ds→RepAll K H (x::xs) (d::ds)
end
mutual
theorem Rep.reads {X:Cx} {pins:List (Addr×Obj)} {σ:St} {H:Hp} {s:Shared} (I:Inv X pins σ H s):∀{v:V} {d:PyData} {u:Value},Rep X.K H v d→RelV v u→∃as,Reads s.heap u d as
 |_,_,_,.non,r=>by cases r;exact ⟨_,.none⟩
 |_,_,_,.bl b,r=>by cases r;exact ⟨_,.bool b⟩
 |_,_,_,.int i,r=>by obtain ⟨t,rfl⟩:=r;exact ⟨_,.int i t⟩
 |_,_,_,.str x,r=>by obtain ⟨t,rfl⟩:=r;exact ⟨_,.str x t⟩
 |_,_,_,.lst hq hx,r=>by
  cases r
  obtain ⟨its,rv,hl,hz⟩:=I.list hq
  obtain ⟨as,ra⟩:=RepAll.reads I hx rv
  obtain ⟨o,ho,hc,n,hd⟩:=hl.isList
  exact ⟨_,.list ho hc hd ra⟩
 |_,_,_,.tup hq hx,r=>by
  cases r
  obtain ⟨its,rv,hl,hz⟩:=I.tuple hq
  obtain ⟨as,ra⟩:=RepAll.reads I hx rv
  obtain ⟨o,ho,hc,n,hd⟩:=hl
  exact ⟨_,.tuple ho hc hd ra⟩
theorem RepAll.reads {X:Cx} {pins:List (Addr×Obj)} {σ:St} {H:Hp} {s:Shared} (I:Inv X pins σ H s):∀{xs:List V} {ds:List PyData} {us:List Value},RepAll X.K H xs ds→Vals xs us→∃as,ReadsAll s.heap us ds as
 |_,_,_,.nil,.nil=>⟨_,.nil⟩
 |_,_,_,.cons h t,.cons r rs=>by
  obtain ⟨a,ra⟩:=Rep.reads I h r
  obtain ⟨b,rb⟩:=RepAll.reads I t rs
  exact ⟨_,.cons ra rb⟩
end
section
variable {X:Cx} {a b c e:Expr} {ta tb tc te:TE} {pos p2:Pos}
inductive RNeDP (K:PySem.W.Frag) (x:V) (y:V) (H:Hp) (Q:VK):Prop
 |mk (da db:_):(Rep K H x da)→(Rep K H y db)→(da.canLay0=true)→(db.canLay0=true)→(da.depth≤20)→(Q (.bl (!PyData.eqv da db)) H)→RNeDP K x y H Q
def rNeD (K:PySem.W.Frag):R2:=fun x y H Q=>RNeDP K x y H Q
theorem op_neD (hu:X.A.units+64<cLine):OpR X (compareOp .NotEq) (rNeD X.K):=by
 intro pins s σ H x y u v Q I rx ry h
 obtain ⟨da,db,h1,h2,h3,h4,h5,q⟩:=h
 obtain ⟨as,r1⟩:=h1.reads I rx
 obtain ⟨bs,r2⟩:=h2.reads I ry
 exact SeqAt.compareNe_reads r1 r2 h3 h4 (by omega) ⟨.bl _,H,I,rfl,q⟩
theorem call_sum (hc:X.calm=true):CallR X (.builtin "sum") (fun xs H Q=>∃(p:Addr) (ns:List Int),xs=[.ref p]∧SqL X.K H p (ns.map V.int)∧Q (.int ns.sum) H):=by
 intro pins s σ H xs us Q I r h
 obtain ⟨p,ns,rfl,hq,q⟩:=h
 obtain ⟨u,rfl,rx⟩:=vals1 r
 cases rx
 obtain ⟨its,rv,hl,hz⟩:=I.list hq
 have hi:=intsAre_of rv
 obtain ⟨ys,e⟩:=hi.allInts.items
 have hl':=hl.isList
 rw [e] at hl'
 refine sum_intListG (I.ok.hd hc) hl' fun h' tk t' hk=>⟨.int ns.sum,H,I.kept hk,⟨t',?_⟩,q⟩
 have e2:ys.toList.map (·.1)=ns:=by
  have q2:=nums_intItems ys
  rw [←e] at q2
  rw [←q2]
  exact hi.numsOf
 rw [preSum_eq,e2,List.take_of_length_le (by rw [←e2];simp)]
theorem Bq:CallR X (.builtin "isinstance") (fun xs H Q=>∃(x:V) (t:Value) (c:String) (b:Bool),xs=[x,.ty c]∧TyOf X.K H x t∧PySem.W.kitOne X.K t (.type c)=some b∧Q (.bl b) H):=by
 intro pins s σ H xs us Q I r h
 obtain ⟨x,t,c,b,rfl,ty,e,q⟩:=h
 obtain ⟨u,v,rfl,rx,ry⟩:=vals2 r
 cases ry
 exact isinst_ok I rx ty e fun tk=>⟨.bl b,H,I.tok tk,rfl,q⟩
theorem pe_ty {x:Str} {T:String} (hg:Gl X x) (hm:X.mg x=none) (hv:bootBuiltins x=some (.type T)) (hn:x≠"__name__":=by decide) (hd:(x==("__debug__":Str))=false:=by decide):PE X (.Name x pos) (tC (.ty T)):=
 fun pins s σ H Q I h=>ld_blt I hg hm hv ⟨.ty T,H,I,rfl,h⟩ hn hd
def rints (i:Int) (n:Nat):List Int:=(List.range n).map fun (k:Nat)=>i+(k:Int)
theorem call_list_rng (hc:X.calm=true):CallR X (.type "list") (fun xs H Q=>∃(p:Addr) (i j:Int),xs=[.ref p]∧H p=some (.rng i j)∧(-(2 ^ 62)≤i∧i<2 ^ 62∧ -(2 ^ 62)≤j∧j<2 ^ 62)∧j - i≤1000000∧∀l,H l=none→Q (.ref l) (upd H l (.lst ((rints i (j - i).toNat).map V.int)))):=by
 intro pins s σ H xs us Q I r h
 obtain ⟨p,i,j,rfl,hp,⟨b1,b2,b3,b4⟩,hj,q⟩:=h
 obtain ⟨u,rfl,rx⟩:=vals1 r
 cases rx
 obtain ⟨t,u,v,ho⟩:=(show ObjOk X.prog X.w H s.heap p (.rng i j) from I.hok p _ hp)
 refine call_list_range (n:=(j - i).toNat) (I.ok.hd hc) (show IsRange s.heap p i j 1 t u v from ho) (small_one b1 b2 b3 b4) (by rw [rangeSize_one];split<;> omega) (by omega) fun h' tk acc c' hk hS hacc=> ?_
 have len:acc.toList.length=(j - i).toNat:=by simpa using hacc.1
 refine ⟨.ref s.heap.objs.size,_,I.laid (o:= .lst ((rints i (j - i).toNat).map V.int)) hk (Nat.le_refl _) ⟨?_,acc.toList,c',?_,by simpa using hS⟩,rfl,q _ I.fresh⟩
 ·simp [rints,sizeLine_eq];exact Int.le_trans (by assumption) (by decide)
 ·have key:∀(l:List Value) (k:Nat) (i:Int),(∀(n:Nat) (x:Value),l[n]? =some x→∃t,x= .int (i+n) t)→l.length=k→Vals ((rints i k).map V.int) l:=by
   intro l
   induction l with
   |nil=>intro k i _ e;cases e;exact .nil
   |cons x l ih=>
    intro k i h e
    cases k with
    |zero=>cases e
    |succ k=>
     have h0:=h 0 x rfl
     have e1:rints i (k+1)=i::rints (i+1) k:=by
      simp only [rints,List.range_succ_eq_map,List.map_cons,List.map_map]
      refine congr (congrArg List.cons (by simp)) (List.map_congr_left fun a _=> ?_)
      simp only [Function.comp];omega
     rw [e1]
     refine .cons (by obtain ⟨t,q⟩:=h0;exact ⟨t,by simpa using q⟩) (ih k (i+1) (fun n y hy=> ?_) (by simpa using e))
     obtain ⟨t,q⟩:=h (n+1) y (by simpa using hy)
     exact ⟨t,by rw [q];congr 1;omega⟩
  refine key acc.toList _ i (fun n x hx=> ?_) len
  obtain ⟨t,q⟩:=hacc.2 n x (by simpa using hx)
  exact ⟨t,by rw [q,Int.mul_one]⟩
def tRev (K:PySem.W.Frag) (te:TE) (ts:TO):TE:=fun σ H Q=>te σ H fun x H1=>ts σ H1 fun o H2=>o=some (-1)∧∃(a:Addr) (xs:List V),x= .ref a∧SqL K H2 a xs∧∀p,H2 p=none→Q (.ref p) (upd H2 p (.lst xs.reverse))
theorem pe_rev {st:Expr} {ts:TO} (he:PE X e te) (hs:PO X (some st) ts) (ops:Value→Value→List Value) (hsub:∀o i,subscripted (.Slice none none (some st) p2) false o i=operate (ops o i) (getItem o i)):PE X (.Subscript e (.Slice none none (some st) p2) pos) (tRev X.K te ts):=by
 intro pins s σ H Q I h
 refine Subscript_ (thn (he pins s σ H _ I h) fun v s1 ⟨x,H1,I1,r1,q1⟩=> ?_)
 refine wpAny_Slice ?_
 rw [evalPart_none]
 refine wpAny_pure (wpAny_pure (thn (hs pins s1 σ H1 _ I1 q1) fun vs s2 ⟨o,H2,I2,ps,q2⟩=> ?_))
 obtain ⟨rfl,a,xs,rfl,hq,q⟩:=q2
 cases r1
 have I4:Inv X pins σ H2 {s2 with heap:=s2.heap.push {cls:= .type "slice",data:= .fields #[.none,.none,vs]}}:=I2.kept (t':=s2.toks) fun b ob q=>Heap.get?_push_of_some _ q
 obtain ⟨its,r,ht,hz⟩:=I4.list hq
 have hlen:=r.length
 show wpAny (model X.prog X.w) X.A (subscriptTail e (.Slice none none (some st) p2) (.ref a) (.ref s2.heap.objs.size)) (EP X pins σ Q) X.xe {s2 with heap:=s2.heap.push {cls:= .type "slice",data:= .fields #[.none,.none,vs]}}
 refine tail_any (ops:=ops (.ref a) (.ref s2.heap.objs.size)) ht.isList.typeIs slot_list_getitem.lookup ?_ (hsub _ _)
 refine wpAny_getItem_list_slice ht.isList (Heap.IsSliceOf.new ..) .none .none ps (by decide) ?_ (by rw [List.size_toArray]<;> omega)
 rw [PySem.W.krv_pick]
 refine ⟨.ref _,_,I4.laid (t':=s2.toks) (o:= .lst xs.reverse) (fun b ob q=>Heap.get?_push_of_some _ q) (Nat.le_refl _) ⟨by simpa using hz,its.reverse,0,r.reverse,Heap.get?_push_size _ rfl⟩,rfl,q _ I4.fresh⟩
inductive RCatTTP (K:PySem.W.Frag) (x:V) (y:V) (H:Hp) (Q:VK):Prop
 |mk (a b:Addr) (xs ys:List V):(x= .ref a)→(y= .ref b)→(SqT K H a xs)→(SqT K H b ys)→(xs.length+ys.length≤sizeLine)→((xs=[]→Q (.ref b) H))→((xs≠[]→ys=[]→Q (.ref a) H))→((xs≠[]→ys≠[]→∀p,H p=none→Q (.ref p) (upd H p (.tup (xs++ys)))))→RCatTTP K x y H Q
def rCatTT (K:PySem.W.Frag):R2:=fun x y H Q=>RCatTTP K x y H Q
theorem op_catTT:OpR X (binaryOp .Add) (rCatTT X.K):=by
 intro pins s σ H x y u v Q I rx ry h
 obtain ⟨p,q,xs,ys,rfl,rfl,hx,hy,hz,h1,h2,h3⟩:=h
 cases rx;cases ry
 obtain ⟨its,r1,t1,z1⟩:=I.tuple hx
 obtain ⟨its2,r2,t2,z2⟩:=I.tuple hy
 have l1:=r1.length
 have l2:=r2.length
 by_cases e:xs=[]
 ·subst e
  have ei:its=[]:=by cases its with|nil=>rfl|cons _ _=>cases l1
  subst ei
  obtain ⟨⟨cls,dd,data,sl⟩,ho,hc,n,hd⟩:=id t1
  obtain ⟨⟨cls2,dd2,data2,sl2⟩,ho2,hc2,n2,hd2⟩:=id t2
  simp only at hc hd hc2 hd2
  subst hc hd hc2 hd2
  exact PySem.concat_meets ⟨_,ho,rfl⟩ ⟨_,ho2,rfl⟩ noFill_tuple_add seq_tuple_add PySem.F.slot_tuple_add PySem.F.entry_tuple_add (PySem.F.args_tuple_add_2 _ _)
   (tuple_addW0 p q _ _ n n2 dd dd2 sl sl2 (by rfl)) ⟨ho,ho2,⟨.ref q,H,I,rfl,h1 rfl⟩⟩
 ·refine HT.cat_tup t1 t2 (fun z=>e ((Vals.nil_iff r1).mp z)) (fun z=>⟨.ref p,H,I,rfl,h2 e ((Vals.nil_iff r2).mp z)⟩) (fun z=> ?_) (by omega)
  exact ⟨.ref s.heap.objs.size,_,I.laid (t':=s.toks) (o:= .tup (xs++ys)) (fun b ob q=>Heap.get?_push_of_some _ q) (Nat.le_refl _) ⟨by simpa using hz,its++its2,r1.append r2,IsTupN.new _ _⟩,rfl,h3 e (fun z'=>z ((Vals.nil_iff r2).mpr z')) _ I.fresh⟩
end
section
variable {prog:Program} {w:World} {A:Around} {E:Value→Shared→Prop}
variable {s:Shared}
end
end L2
namespace L2
open PySem PySem.Spec PyProof.Rows
section
variable {X:Cx} {a b c e:Expr} {ta tb tc te:TE} {pos p2:Pos}
inductive RSlSP (x:V) (lo:Option Int) (hi:Option Int) (H:Hp) (Q:VK):Prop
 |mk (z:_):(x= .str z)→(z.length≤sizeLine)→(Q (.str (Txt.slice z lo hi)) H)→RSlSP x lo hi H Q
def rSlS:V→Option Int→Option Int→Hp→VK→Prop:=fun x lo hi H Q=>RSlSP x lo hi H Q
theorem sl_str:SlR X rSlS:=by
 intro pins s σ H x v vl vu lo hi sl Q I rx hs pl pu h
 obtain ⟨z,rfl,hz,q⟩:=h
 obtain ⟨t,rfl⟩:=rx
 refine ⟨"str",_,PySem.F.slot_str_getitem.lookup,typeIs_str _ _ _,?_⟩
 have fin:∀t' k,EP X pins σ Q (.str (Txt.slice z lo hi) t') {s with toks:=k}:=fun t' k=>⟨.str _,H,I.tok k,⟨t',rfl⟩,q⟩
 cases pl with
 |none=>
  cases pu with
  |none=>exact wpAny_getItem_str_slice (l:=none) (u:=none) (st:=none) hs rfl (post_val_or_str ⟨Nat.le_trans (Txt.slice_le z _ _) hz,fin⟩)
  |int j tj=>exact wpAny_getItem_str_slice (l:=none) (u:=some (j,tj)) (st:=none) hs rfl (post_val_or_str ⟨Nat.le_trans (Txt.slice_le z _ _) hz,fin⟩)
 |int i ti=>
  cases pu with
  |none=>exact wpAny_getItem_str_slice (l:=some (i,ti)) (u:=none) (st:=none) hs rfl (post_val_or_str ⟨Nat.le_trans (Txt.slice_le z _ _) hz,fin⟩)
  |int j tj=>exact wpAny_getItem_str_slice (l:=some (i,ti)) (u:=some (j,tj)) (st:=none) hs rfl (post_val_or_str ⟨Nat.le_trans (Txt.slice_le z _ _) hz,fin⟩)
theorem op_leS:OpR X (compareOp .LtE) (fun x y H Q=>∃i j,x= .str i∧y= .str j∧Q (.bl (!decide (j.cps.toList<i.cps.toList))) H):=by
 intro pins s σ H x y u v Q I rx ry h
 obtain ⟨i,j,rfl,rfl,q⟩:=h
 obtain ⟨t,rfl⟩:=rx
 obtain ⟨t',rfl⟩:=ry
 exact PySem.P.le_str ⟨.bl _,H,I,rfl,q⟩
theorem strsAre_of:∀{ys:List Str} {us:List Value},Vals (ys.map V.str) us→StrsAre us ys
 |[],_,.nil=> .nil
 |y::ys,_,.cons h t=>by
  obtain ⟨u,rfl⟩:=h
  exact .cons y u (strsAre_of t)
inductive RJoinP (K:PySem.W.Frag) (x:V) (vs:List V) (H:Hp) (Q:VK):Prop
 |mk (z:Str) (l:Addr) (ys:List Str):(x= .str z)→(vs=[.ref l])→(SqL K H l (ys.map V.str))→((ys.map (·.length)).sum+ys.length * z.length≤16777216)→(Q (.str (Txt.join z ys)) H)→RJoinP K x vs H Q
def rJoin (K:PySem.W.Frag):V→List V→Hp→VK→Prop:=fun x vs H Q=>RJoinP K x vs H Q
theorem mt_join:MtM X "str.join" (rJoin X.K):=by
 intro pins s σ H x xs v us Q I rx r h
 obtain ⟨z,l,ys,rfl,rfl,hl,hz,q⟩:=h
 obtain ⟨t,rfl⟩:=rx
 obtain ⟨u,rfl,ru⟩:=vals1 r
 cases ru
 obtain ⟨its,rv,hp,_⟩:=I.list hl
 exact join_list hp.isList (strsAre_of rv) hz fun t' k=>⟨.str _,H,I.tok k,⟨t',rfl⟩,q⟩
theorem call_all (hc:X.calm=true):CallR X (.builtin "all") (fun xs H Q=>∃(p:Addr) (bs:List Bool),xs=[.ref p]∧SqL X.K H p (bs.map V.bl)∧Q (.bl (bs.all id)) H):=by
 intro pins s σ H xs us Q I r h
 obtain ⟨p,bs,rfl,hq,q⟩:=h
 obtain ⟨u,rfl,rx⟩:=vals1 r
 cases rx
 obtain ⟨its,rv,hl,hz⟩:=I.list hq
 have hlen:=rv.length
 rw [List.length_map] at hlen
 refine call_all_walk (wpAny_pyIter_list hl.isList ?_)
 have hne:p≠s.heap.objs.size:=by obtain ⟨o,ho,_⟩:=hl.isList;exact Nat.ne_of_lt (Heap.lt_size ho)
 refine ⟨_,_,_,_,_,_,fun i=>bs.getD i true,rfl,Walks.list (A:=X.A.in1) (I.ok.hd hc) _ p hne its.toArray,⟨⟨_,Heap.get?_push_size _ rfl,rfl,rfl⟩,hl.isList.push _⟩,?_,fun h' tk hk=> ?_⟩
 ·intro i v s' Q' E' hP hQ
  have hi:its[i]? =some v:=by simpa using hP
  have hb:∃b,bs[i]? =some b∧v= .bool b:=by
   have hil:i<bs.length:=by rw [hlen];exact (List.getElem?_eq_some_iff.mp hi).1
   obtain ⟨u,e1,e2⟩:=rv.get (i:=i) (x:= .bl bs[i]) (by simp [hil])
   rw [hi] at e1;cases e1
   exact ⟨bs[i],by simp [hil],e2⟩
  obtain ⟨b,e1,rfl⟩:=hb
  have:bs.getD i true=b:=by simp [List.getD,e1]
  dsimp only at hQ
  rw [this] at hQ
  exact wpAny_truthy_bool hQ
 ·have e:(List.range its.toArray.size).all (fun i=>bs.getD i true)=bs.all id:=by
   rw [List.size_toArray,←hlen]
   have key:∀(bs:List Bool),(List.range bs.length).all (fun i=>bs.getD i true)=bs.all id:=by
    intro bs
    rw [Bool.eq_iff_iff,List.all_eq_true,List.all_eq_true]
    constructor
    ·intro h b hb
     obtain ⟨i,hi,e⟩:=List.getElem_of_mem hb
     have:=h i (List.mem_range.mpr hi)
     simpa [List.getD,hi,e] using this
    ·intro h i hi
     have hi:=List.mem_range.mp hi
     have:=h bs[i] (List.getElem_mem hi)
     simpa [List.getD,hi] using this
   exact key bs
  rw [e]
  exact ⟨.bl (bs.all id),H,I.kept (fun b o eo=>hk b o (by
   intro z
   have z:=List.mem_singleton.mp z
   exact absurd (Heap.lt_size eo) (by rw [z];exact Nat.lt_irrefl _)) (Heap.get?_push_of_some _ eo)),rfl,q⟩
def Its (z:Str):It:=⟨fun i _=>i<z.cps.size,fun i H x H'=>H'=H∧∃c,z.cps[i]? =some c∧x= .str ⟨#[c]⟩,fun i _=>z.cps.size≤i⟩
theorem walks_str {prog:Program} {w:World} {A:Around} (hh:A.handled=none) (I:Addr) (x:Str) (t:Tok):
  Walks prog w A I [I] [I] x.cps.size (SignAt x) (fun i h=>h.IsStrIter I (strIterType x) x t i):=by
 cases ha:x.cps.all (·<128)
 ·have e:strIterType x="str_iterator":=by simp [strIterType,ha]
  rw [e]
  exact Walks.strWide hh I x t
 ·have e:strIterType x="str_ascii_iterator":=by simp [strIterType,ha]
  rw [e]
  exact Walks.strAscii hh I x t
theorem turn_str {P:Program} {w:World} {K:PySem.W.Frag} {tg:Expr} (z:Str) (t:Tok) (it:Addr):Turn P w K tg (Its z) [it] it (fun i h=>h.IsStrIter it (strIterType z) z t i) where
 mem:=by simp
 obj:=fun i h st b hb=>by
  have e:b=it:=by simpa using hb
  subst e
  obtain ⟨o,e,c,d⟩:=st
  exact ⟨o,e,fun v z=>by rw [d] at z;cases z⟩
 keep:=fun i h h' st k=>let ⟨o,ho,r⟩:=st;⟨o,k it (by simp) o ho,r⟩
 item:=by
  intro X hP hw hK hc i pins s σ H E I hf st hg
  subst hP hw hK
  obtain ⟨f0,f1,f2,f3,f4,f5⟩:=hf it (by simp)
  refine (walks_str (prog:=X.prog) (w:=X.w) (I.ok.hd hc) it z t).item i s _ _ hg st fun v h' tk hv st' kk=> ?_
  obtain ⟨c,u,hcu,rfl⟩:=hv
  have I1:Inv X pins σ H {s with heap:=h',toks:=tk}:=I.turned (fun b o hb e=>kk b o (by simpa using hb) e) f0 f1 f3 f4 f5
  obtain ⟨o,e,cc,d⟩:=id st'
  refine ⟨_,rfl,go_of (s:={s with heap:=h',toks:=tk}) e cc d ?_ ⟨.str ⟨#[c]⟩,H,I1,⟨u,rfl⟩,⟨rfl,c,hcu,rfl⟩,st',fun b hb=>(hf b hb).1⟩⟩
  unfold strIterType
  split<;> decide
 done:=by
  intro X hP hw hK hc i pins s σ H E I hf st hg
  subst hP hw hK
  obtain ⟨f0,f1,f2,f3,f4,f5⟩:=hf it (by simp)
  have hg:z.cps.size≤i:=hg
  have hn:z.cps[i]? =none:=by simp [hg]
  cases ha:z.cps.all (·<128)
  ·have e:strIterType z="str_iterator":=by simp [strIterType,ha]
   rw [e] at st
   exact wpAny_pyNext_wide_end (I.ok.hd hc) st hn fun h' eb=>⟨rfl,I.turned (t':=s.toks) (fun b o hb e=>eb b o hb e) f0 f1 f3 f4 f5⟩
  ·have e:strIterType z="str_ascii_iterator":=by simp [strIterType,ha]
   rw [e] at st
   exact wpAny_pyNext_ascii_end (I.ok.hd hc) st hn fun h' eb=>⟨rfl,I.turned (t':=s.toks) (fun b o hb e=>eb b o hb e) f0 f1 f3 f4 f5⟩
 self:=fun A i s Q E st h=>by
  cases ha:z.cps.all (·<128)
  ·have e:strIterType z="str_iterator":=by simp [strIterType,ha]
   rw [e] at st
   exact wpAny_pyIter_striter_wide st h
  ·have e:strIterType z="str_ascii_iterator":=by simp [strIterType,ha]
   rw [e] at st
   exact wpAny_pyIter_striter_ascii st h
def iStr (tl:TE):TI:=fun σ H R=>tl σ H fun x H1=>∃z,x= .str z∧R (Its z) H1
theorem pi_str {tg l:Expr} {tl:TE} (hl:PE X l tl):PI X tg l (iStr tl):=by
 intro pins s σ H R I h
 refine thn (hl pins s σ H _ I h) fun v s1 ⟨x,H1,I1,r1,q1⟩=> ?_
 obtain ⟨z,rfl,q⟩:=q1
 obtain ⟨t,rfl⟩:=r1
 refine wpAny_pyIter_strU ?_
 have I2:Inv X pins σ H1 {s1 with heap:=s1.heap.push {cls:= .type (strIterType z),data:= .fields #[.str z t,.int 0 0]}}:=I1.kept (t':=s1.toks) fun b o e=>Heap.get?_push_of_some _ e
 refine ⟨_,[s1.heap.objs.size],_,Its z,H1,rfl,I2,turn_str z t _,⟨_,Heap.get?_push_size _ rfl,rfl,rfl⟩,fun b hb=> ?_,q⟩
 have e:=List.mem_singleton.mp hb
 subst e
 exact I1.fpOk (Nat.le_refl _) I1.fresh
end
theorem comp_str {g:TG} {ti:TT} {te:TE} {Q:VK} {D:Addr} {σ:St} {H:Hp} {z:Str} (Pv:Nat→St→List V→Hp→Prop) (h0:Pv 0 σ [] (upd H D (.lst []))) (hl:∀i σ ys H,i≤z.cps.size→Pv i σ ys H→H D=some (.lst ys))
  (hs:∀i c σ ys H,z.cps[i]? =some c→Pv i σ ys H→cturn g ti te D (.str ⟨#[c]⟩) σ ys H (Pv (i+1))) (hd:∀σ ys H,Pv z.cps.size σ ys H→Q (.ref D) H):
  cgo (Its z) g ti te D σ H Q:=by
 refine ⟨fun i m σ ys H=>m=z.cps.size - i∧i≤z.cps.size∧Pv i σ ys H,⟨z.cps.size,by simp,Nat.zero_le _,h0⟩,?_⟩
 rintro i m σ ys H ⟨rfl,hi,p⟩
 refine ⟨hl i σ ys H hi p,?_⟩
 by_cases hlt:i<z.cps.size
 ·refine .inr ⟨hlt,Pv (i+1),fun σ' ys' H' p'=>⟨z.cps.size - (i+1),by omega,rfl,hlt,p'⟩,fun x H' y=> ?_⟩
  obtain ⟨e,c,hc,y⟩:=y
  subst e y
  exact hs i c σ ys _ hc p
 ·have e:i=z.cps.size:=by omega
  subst e
  exact .inl ⟨Nat.le_refl _,hd σ ys H p⟩
def relab (scope osc:Scope):Scope:={scope with names:=scope.names.map fun (n,k)=>if (k== .free && osc.kind== .function && osc.names.lookup n==some .cell) then (n,.cell) else (n,k)}
structure CS (osc scope:Scope) (T F:List Str):Prop where
 kind:scope.kind= .function
 nocell:∀y∈scope.names,y.2≠ .cell
 names:∀x∈scope.names,x.2= .local→scope.names.lookup x.1=some .local
 free:∀x∈scope.names,x.2= .free→osc.names.lookup x.1=some .cell
 loc:∀y∈T,(relab scope osc).names.lookup y=some .local
 cel:∀y∈F,(relab scope osc).names.lookup y=some .cell∧osc.names.lookup y=some .cell∧(y,NameKind.free)∈scope.names
 all:∀x∈(relab scope osc).names,(x.2= .cell∨x.2= .free)→(x.1,NameKind.free)∈scope.names
theorem CS.to {X:Cx} {scope osc:Scope} {T F:List Str} {js:List Nat} (h:CS osc scope T F) (hj:js.map (fun j=>X.N[j]?)=F.map some) (ho:X.env.scope=osc):CScope X scope T F js:=by
 subst ho
 exact ⟨h.kind,h.nocell,h.names,h.free,h.loc,h.cel,h.all,hj⟩
theorem PSs.imp' {X:Cx} {st:List PySem.Stmt} {t t':TS} (h:PSs X st t) (f:∀D σ H,t' D σ H→t D σ H):PSs X st t':=fun pins s σ H D I h'=>h pins s σ H D I (f D σ H h')
end L2
namespace L2
open PySem PySem.Spec PyProof.Rows
section
variable {X:Cx} {pins:List (Addr×Obj)} {σ:St} {H:Hp} {s:Shared}
theorem Inv.turnedL {t':Nat} {h':Heap} (ch:List Addr) (I:Inv X pins σ H s) (k:∀b o,b ∉ ch→s.heap.get? b=some o→h'.get? b=some o) (hf:∀b∈ch,FpOk X pins H b):Inv X pins σ H {s with heap:=h',toks:=t'}:=by
 have out:∀b u,H b=some u→b ∉ ch:=fun b u e z=>by rw [(hf b z).1] at e;cases e
 have outL:X.env.locals ∉ ch:=fun z=>(hf _ z).2.1 rfl
 refine I.step (g':=s.gens) (d':=s.drawn) (ch:=ch) (fun b hb=>⟨(hf b hb).2.2.2.1,(hf b hb).2.1,(hf b hb).2.2.2.2.1,(hf b hb).2.2.2.2.2⟩) (fun b o _ _ hc e _=>k b o hc e) (fun b o _ _ hc e _=>⟨o.slots,k b o hc e⟩)
  (fun _ _ _ _ n=>n) (fun b o hc e=>⟨o,k b o hc e⟩) (fun _ _ e=>e) (fun _ _ _ e=>e) (fun b ps e=>⟨#[],by rw [e];simp⟩) (fun m hm=> ?_) (fun b u e=> ?_) I.bare
 ·obtain ⟨o,es,ep,ho,r⟩:=hm
  exact ⟨o,es,ep,k _ o outL ho,r⟩
 ·refine (I.hok b u e).stay (fun c v hc q=>k c v ?_ q) (fun _ q=>q) fun _ _ q=>q
  rcases hc with z|z
  ·rw [z];exact out b u e
  ·exact out c _ z
theorem FpOk.up {b T:Addr} {o:HO} (h:FpOk X pins H b) (n:b≠T):FpOk X pins (upd H T o) b:=⟨by rw [A0 n];exact h.1,h.2⟩
end
def Ite (K:PySem.W.Frag) (a:Addr):It:=
 ⟨fun i H=>∃xs x,SqL K H a xs∧xs[i]? =some x,fun i H v H'=>∃T x,H T=none∧v= .ref T∧H'=upd H T (.tup [.int i,x])∧∀xs,SqL K H a xs→xs[i]? =some x,fun i H=>∃xs,SqL K H a xs∧xs.length≤i⟩
theorem turn_enum {P:Program} {w:World} {K:PySem.W.Frag} {elts:List Expr} {x1} {pos:Pos} (a e it:Addr) (hei:e≠it):Turn P w K (.Tuple elts x1 pos) (Ite K a) [e,it] e (fun i h=>(∃old,IsEnum h e it i old)∧h.IsListIter it a i) where
 mem:=by simp
 obj:=fun i h st b hb=>by
  obtain ⟨⟨old,he⟩,o,ho,hc,hd⟩:=st
  rcases List.mem_cons.mp hb with rfl|hb
  ·exact ⟨_,he,fun v z=>by cases z⟩
  ·have:b=it:=by simpa using hb
   subst this
   exact ⟨o,ho,fun v z=>by rw [hd] at z;cases z⟩
 keep:=fun i h h' st k=>⟨let ⟨old,he⟩:=st.1;⟨old,k e (by simp) _ he⟩,st.2.at fun o q=>k it (by simp) o q⟩
 item:=by
  intro X hP hw hK hc i pins s σ H E I hf st hg
  subst hP hw hK
  obtain ⟨⟨old,he⟩,hit⟩:=st
  obtain ⟨xs,x,hq,hx⟩:=hg
  obtain ⟨its,rv,p,hz⟩:=I.list hq
  obtain ⟨u,hu,ru⟩:=rv.get hx
  have fresh:H s.heap.objs.size=none:=I.hok.fresh (Nat.le_refl _)
  have elt:e<s.heap.objs.size:=Heap.lt_size he
  have ilt:it<s.heap.objs.size:=by obtain ⟨_,q,_⟩:=hit;exact Heap.lt_size q
  refine wpAny_pyNext_enum_item he hit p.isList (x:=u) (by simpa using hu) hei fun h' eo it' hT hsz kk=>⟨_,rfl,?_⟩
  refine wpAny_letOwnedTupleGo_enum (s:={s with heap:=h',toks:=s.toks+1}) eo fun h2 e2 sb=> ?_
  have I1:Inv X pins σ (upd H s.heap.objs.size (.tup [.int i,x])) {s with heap:=s.heap.push {cls:= .type "tuple",data:= .seq #[.int i s.toks,u]},toks:=s.toks}:=
   I.laid (o:= .tup [.int i,x]) (fun b ob q=>Heap.get?_push_of_some _ q) (Nat.le_refl _) ⟨by rw [sizeLine_eq];simp,[.int i s.toks,u],.cons ⟨_,rfl⟩ (.cons ru .nil),IsTupN.new _ _⟩
  have I2:=I1.turnedL (h':=h2) (t':=s.toks+1) [e,it] (fun b o hb q=> ?_) (fun b hb=> ?_)
  ·refine ⟨.ref s.heap.objs.size,_,I2,rfl,⟨_,x,fresh,rfl,rfl,fun ys hy=>by rw [I.list_inj hy hq];exact hx⟩,⟨⟨_,by simpa using e2⟩,it'.at fun o q=>(sb.2 it hei.symm).trans q⟩,fun b hb=> ?_⟩
   rcases List.mem_cons.mp hb with rfl|hb
   ·rw [A0 (Nat.ne_of_lt elt)];exact (hf _ (by simp)).1
   ·have:b=it:=by simpa using hb
    subst this
    rw [A0 (Nat.ne_of_lt ilt)];exact (hf _ (by simp)).1
  ·have b1:b≠e:=fun z=>hb (by simp [z])
   have b2:b≠it:=fun z=>hb (by simp [z])
   refine (sb.2 b b1).trans ?_
   by_cases hbs:b=s.heap.objs.size
   ·subst hbs
    rw [Heap.get?_push_size _ rfl] at q
    cases q
    exact hT
   ·rw [Heap.get?_push_ne _ _ _ hbs] at q
    exact kk b o b1 b2 q
  ·rcases List.mem_cons.mp hb with rfl|hb
   ·exact (hf _ (by simp)).up (Nat.ne_of_lt elt)
   ·have:b=it:=by simpa using hb
    subst this
    exact (hf _ (by simp)).up (Nat.ne_of_lt ilt)
 done:=by
  intro X hP hw hK hc i pins s σ H E I hf st hg
  subst hP hw hK
  obtain ⟨⟨old,he⟩,hit⟩:=st
  obtain ⟨xs,hq,hx⟩:=hg
  obtain ⟨its,rv,p,hz⟩:=I.list hq
  have hl:=rv.length
  exact wpAny_pyNext_enum_end (I.ok.hd hc) he hit p.isList (by simp;omega) fun h' eb=>⟨rfl,I.turnedL (t':=s.toks) [e,it] (fun b o hb q=>eb b o (fun z=>hb (by simp [z])) q) hf⟩
 self:=fun A i s Q E st h=>let ⟨⟨old,he⟩,_⟩:=st;wpAny_pyIter_enum he h
def iEnum (K:PySem.W.Frag) (ta:TA):TI:=fun σ H R=>ta σ H fun vs H1=>∃a xs,vs=[.ref a]∧SqL K H1 a xs∧R (Ite K a) H1
theorem pi_enumL {X:Cx} {elts:List Expr} {x1} {tpos:Pos} {a:Expr} {ta:TA} {p pos:Pos} (hg:Gl X "enumerate") (hm:X.mg "enumerate"=none) (ha:PA X [a] ta) (hs:starEach [a] X.env=[(false,eval a X.env)]:=by rfl):
  PI X (.Tuple elts x1 tpos) (.Call (.Name "enumerate" p) [a] [] pos) (iEnum X.K ta):=by
 intro pins s σ H R I h
 refine Call_ (ld_blt I hg hm (show bootBuiltins "enumerate"=some (.type "enumerate") by decide+kernel) (PyProof.Rows.callWith_type1 (thn (ha pos pins s σ H _ I h) fun us s1 ⟨vs,H1,I1,r1,q1⟩=> ?_) hs rfl))
 obtain ⟨l,xs,e,hq,q⟩:=q1
 subst e
 obtain ⟨u,rfl,ru⟩:=vals1 r1
 cases ru
 obtain ⟨its,rv,pl,hz⟩:=I1.list hq
 refine call_enumerate_list pl.isList fun h' he hit hsz kk=>wpAny_pyIter_enum he ?_
 refine ⟨s1.heap.objs.size+1,[s1.heap.objs.size+1,s1.heap.objs.size],_,_,H1,rfl,I1.kept (t':=s1.toks) kk,turn_enum l _ _ (Nat.succ_ne_self _),⟨⟨_,he⟩,hit⟩,fun b hb=> ?_,q⟩
 have hb:s1.heap.objs.size≤b:=by
  rcases List.mem_cons.mp hb with rfl|hb
  ·exact Nat.le_succ _
  ·have:b=s1.heap.objs.size:=by simpa using hb
   exact Nat.le_of_eq this.symm
 exact I1.fpOk hb (I1.hok.fresh hb)
section
variable {g:TG} {ti:TT} {te:TE} {Q:VK} {D:Addr} {σ:St} {H:Hp}
theorem comp_enum {K:PySem.W.Frag} {a:Addr} {xs:List V} (Pv:Nat→St→List V→Hp→Prop) (h0:Pv 0 σ [] (upd H D (.lst []))) (hl:∀i σ ys H,i≤xs.length→Pv i σ ys H→SqL K H a xs∧H D=some (.lst ys))
  (hs:∀i x σ ys H T,xs[i]? =some x→Pv i σ ys H→H T=none→cturn g ti te D (.ref T) σ ys (upd H T (.tup [.int (i:Nat),x])) (Pv (i+1))) (hd:∀σ ys H,Pv xs.length σ ys H→Q (.ref D) H):
  cgo (Ite K a) g ti te D σ H Q:=by
 refine ⟨fun i m σ ys H=>m=xs.length - i∧i≤xs.length∧Pv i σ ys H,⟨xs.length,by simp,Nat.zero_le _,h0⟩,?_⟩
 rintro i m σ ys H ⟨rfl,hi,p⟩
 obtain ⟨q,hD⟩:=hl i σ ys H hi p
 refine ⟨hD,?_⟩
 by_cases hlt:i<xs.length
 ·refine .inr ⟨⟨xs,xs[i],q,by simp [hlt]⟩,Pv (i+1),fun σ' ys' H' p'=>⟨xs.length - (i+1),by omega,rfl,hlt,p'⟩,fun x H' y=> ?_⟩
  obtain ⟨T,z,hT,rfl,rfl,y⟩:=y
  exact hs i z σ ys H T (y xs q) p hT
 ·have e:i=xs.length:=by omega
  subst e
  exact .inl ⟨⟨xs,q,Nat.le_refl _⟩,hd σ ys H p⟩
end
end L2
namespace PySem
open Builtin
section
variable {prog:Program} {w:World} {A:Around} {E:Value→Shared→Prop} {s:Shared}
theorem nextOf_tup {it t:Addr} {i:Nat} {its:Array Value} {x:Value} {Q:Value→Shared→Prop} (hi:s.heap.IsTupleIter it t i) (ht:s.heap.IsTuple t its) (hx:its[i]? =some x)
  (hQ:∀h',h'.IsTupleIter it t (i+1)→Heap.SameBut it s.heap h'→Q x {s with heap:=h'}):wpAny (model prog w) A (Builtin.SmallTypes.nextOf (.ref it)) Q E s:=by
 obtain ⟨oi,gi,ci,di⟩:=id hi
 obtain ⟨ot,gt,_,nt,dt⟩:=ht
 unfold Builtin.SmallTypes.nextOf
 refine wpAny_bind (wpAny_callSpecial?_slot (name:=Str.ofString "__next__") hi.typeIs F.slot_tuple_iterator_next (wpAny_call_entry F.slot_tuple_iterator_next hi.typeIs F.entry_tuple_iterator_next ?_ (F.args_tuple_iterator_next_1 _)))
 show wpAny _ _ (field (.ref it) 0 >>=fun _=>_) _ _ s
 refine wpAny_bind (wpAny_field gi di (x:= .ref t) rfl ?_)
 show wpAny _ _ (ite ((Value.ref t==Value.none)=true) _ _) _ _ s
 have ng:¬((Value.ref t==Value.none)=true):=Bool.false_ne_true
 rw [if_neg ng]
 show wpAny _ _ (field (.ref it) 1 >>=fun _=>_) _ _ s
 refine wpAny_bind (wpAny_field gi di (x:= .int i 0) rfl ?_)
 show wpAny _ _ (seqItems? (.ref t) >>=fun _=>_) _ _ s
 refine wpAny_bind (wpAny_seqItems gt dt ?_)
 simp only [Int.toNat_natCast,hx]
 refine wpAny_bind (wpAny_setField gi di (by simp) (wpAny_pure ⟨x,rfl,wpAny_pure (hQ _ ⟨_,Heap.get?_update_self _ gi (Obj.isFreed_of_fields (Obj.data_mapFields di _)),(Obj.cls_mapFields ..).trans ci,?_⟩ (Heap.SameBut.update ..))⟩))
 rw [Obj.data_mapFields di]
 simp [rawInt]
theorem nextOf_tup_end {it t:Addr} {i:Nat} {its:Array Value} {Q:Value→Shared→Prop} (hh:A.handled=none) (hi:s.heap.IsTupleIter it t i) (ht:s.heap.IsTuple t its) (hx:its[i]? =none)
  (hE:∀h' e,Heap.ExtBut it s.heap h'→(∃o,h'.get? e=some o∧o.cls= .type "StopIteration")→E (.ref e) {s with heap:=h'}):wpAny (model prog w) A (Builtin.SmallTypes.nextOf (.ref it)) Q E s:=by
 obtain ⟨oi,gi,ci,di⟩:=id hi
 obtain ⟨ot,gt,_,nt,dt⟩:=ht
 unfold Builtin.SmallTypes.nextOf
 refine wpAny_bind (wpAny_callSpecial?_slot (name:=Str.ofString "__next__") hi.typeIs F.slot_tuple_iterator_next (wpAny_call_entry F.slot_tuple_iterator_next hi.typeIs F.entry_tuple_iterator_next ?_ (F.args_tuple_iterator_next_1 _)))
 show wpAny _ _ (field (.ref it) 0 >>=fun _=>_) _ _ s
 refine wpAny_bind (wpAny_field gi di (x:= .ref t) rfl ?_)
 show wpAny _ _ (ite ((Value.ref t==Value.none)=true) _ _) _ _ s
 have ng:¬((Value.ref t==Value.none)=true):=Bool.false_ne_true
 rw [if_neg ng]
 show wpAny _ _ (field (.ref it) 1 >>=fun _=>_) _ _ s
 refine wpAny_bind (wpAny_field gi di (x:= .int i 0) rfl ?_)
 show wpAny _ _ (seqItems? (.ref t) >>=fun _=>_) _ _ s
 refine wpAny_bind (wpAny_seqItems gt dt ?_)
 simp only [Int.toNat_natCast,hx]
 refine wpAny_bind (wpAny_rule (wpAny_bind (wpAny_setField gi di (by simp) ?_)))
 show wpAny _ _ (newExc (.type "StopIteration") [] >>=fun _=>_) _ _ _
 refine wpAny_bind ?_
 simp only [newExc,newTuple]
 refine wpAny_bind (wpAny_newObj_type ?_ (by size_fits))
 refine wpAny_bind (m:=firstArgMember _ _) (wpAny_of_eq (a:=Value.none) (by first|rfl|(simp only [firstArgMember];rfl)) ?_)
 refine wpAny_newObj_type ?_ (by size_fits)
 simp only [raiseNew]
 refine wpAny_bind (wpAny_handled ?_)
 first|rw [show A.in1.handled=none from hh]|rw [hh]
 exact wpAny_bind (wpAny_pure (wpAny_throw (hE _ _ (((Heap.SameBut.update ..).extBut.push _).push _) ⟨_,Heap.get?_push_size _ rfl,rfl⟩)))
theorem Draws.tup {prog:Program} {w:World} {A:Around} (hh:A.handled=none) (it t:Addr) (hne:t≠it) (its:Array Value):
  Draws prog w A it [it,t] its.size (fun i v=>its[i]? =some v) (fun i h=>h.IsTupleIter it t i∧h.IsTuple t its) where
 live:=fun _ _ st=>⟨st.1.choose,st.1.choose_spec.1⟩
 frame:=fun _ _ _ st hk=>⟨st.1.at fun o e=>hk it (by simp) o e,let ⟨o,ho,r⟩:=st.2;⟨o,hk t (by simp) o ho,r⟩⟩
 item:=fun i s Q E hi st hQ=>by
  refine nextOf_tup st.1 st.2 (x:=its[i]) (by simp [hi]) fun h' hit' hs'=> ?_
  exact hQ _ h' s.toks (by simp [hi]) ⟨hit',let ⟨o,ho,r⟩:=st.2;⟨o,hs'.extBut _ _ hne ho,r⟩⟩ hs'
 done:=fun s Q E st hE=>nextOf_tup_end hh st.1 st.2 (by simp) hE
end
end PySem
namespace PySem
open Builtin
structure ZAp (z TI TO i1 i2:Addr) (f1 f2:List Addr):Prop where
 a1:TI≠z
 a2:TO≠z
 a3:i1≠z
 a4:i2≠z
 a5:TI≠TO
 a6:TI≠i1
 a7:TI≠i2
 a8:TO≠i1
 a9:TO≠i2
 b1:i1≠i2
 b2:z ∉ f1
 b3:z ∉ f2
 b4:TO ∉ f1
 b5:TO ∉ f2
 b6:i1 ∉ f2
 b7:i2 ∉ f1
section
variable {prog:Program} {w:World} {A:Around} {E:Value→Shared→Prop} {s:Shared} {z TI TO i1 i2:Addr} {f1 f2:List Addr} {n1 n2:Nat} {P1 P2:Nat→Value→Prop} {S1 S2:Nat→Heap→Prop}
theorem zip_itemD {k:Nat} {a b:Value} {Q:Value→Shared→Prop} (D:ZAp z TI TO i1 i2 f1 f2) (D1:Draws prog w A i1 f1 n1 P1 S1) (D2:Draws prog w A i2 f2 n2 P2 S2)
  (hZ:IsZip s.heap z TI TO .none) (pI:IsPair s.heap TI (.ref i1) (.ref i2)) (pO:IsPair s.heap TO a b) (t1:S1 k s.heap) (t2:S2 k s.heap) (l1:k<n1) (l2:k<n2)
  (hQ:∀h' tk x y,P1 k x→P2 k y→IsZip h' z TI TO (rawInt s.heap.objs.size)→IsPair h' TO x y→S1 (k+1) h'→S2 (k+1) h'→IsPair h' s.heap.objs.size x y→
   (∀c o,c≠z→c≠TO→c≠i1→c≠i2→s.heap.get? c=some o→h'.get? c=some o)→Q (.ref s.heap.objs.size) {s with heap:=h',toks:=tk}):
  wpAny (model prog w) A (Builtin.«zip.__next__» ⟨[.ref z],[]⟩) (fun fin s'=>∃v,fin= .done (.ret v)∧Q v s') E s:=by
 show wpAny _ _ (field (.ref z) 2 >>=fun _=>_) _ _ _
 refine wpAny_bind (wpAny_field hZ rfl (x:= .bool false) rfl ?_)
 show wpAny _ _ (field (.ref z) 3 >>=fun _=>_) _ _ _
 refine wpAny_bind (wpAny_field hZ rfl (x:= .ref TI) rfl ?_)
 refine wpAny_bind (wpAny_seqItems pI rfl ?_)
 show wpAny _ _ (Builtin.SmallTypes.ownedTupleIsFree (.ref z) >>=fun _=>_) _ _ _
 refine wpAny_bind ?_
 unfold Builtin.SmallTypes.ownedTupleIsFree
 refine wpAny_bind (wpAny_field hZ rfl (x:= .none) rfl (wpAny_pure ?_))
 simp only [if_true]
 refine wpAny_bind (wpAny_rule (wpAny_bind (wpAny_field hZ rfl (x:= .ref TO) rfl ?_)))
 refine wpAny_bind (wpAny_setField_rec hZ (by simp) fun g1 zg1 k1=> ?_)
 replace zg1:IsZip g1 z TI TO .ellipsis:=zg1
 refine wpAny_bind ?_
 simp only [List.zipIdx_cons,List.zipIdx_nil,List.forIn_cons,List.forIn_nil]
 refine wpAny_bind (wpAny_bind (wpAny_onRaise ?_))
 show wpAny _ _ (Builtin.SmallTypes.nextOf (.ref i1) >>=fun _=>_) _ _ _
 refine wpAny_bind (D1.item k _ _ _ l1 (D1.frame _ _ _ t1 fun c hc o e=>k1.extBut _ _ (fun q=>D.b2 (q▸hc)) e) fun x g2 tk2 px sg2 k2=>wpAny_pure ?_)
 have pO2:IsPair g2 TO a b:=k2.extBut _ _ D.a8 (k1.extBut _ _ D.a2 pO)
 refine wpAny_bind (wpAny_seqItems pO2 rfl (wpAny_bind (wpAny_updateSeq_pair pO2 fun g3 pO3 k3=> ?_)))
 replace pO3:IsPair g3 TO x b:=pO3
 refine wpAny_bind (wpAny_letGo (wpAny_pure (wpAny_bind (wpAny_bind (wpAny_onRaise ?_)))))
 show wpAny _ _ (Builtin.SmallTypes.nextOf (.ref i2) >>=fun _=>_) _ _ _
 have t2':S2 k g3:=D2.frame _ _ _ t2 fun c hc o e=>k3.extBut _ _ (fun q=>D.b5 (q▸hc)) (k2.extBut _ _ (fun q=>D.b6 (q▸hc)) (k1.extBut _ _ (fun q=>D.b3 (q▸hc)) e))
 refine wpAny_bind (D2.item k _ _ _ l2 t2' fun y g4 tk4 py sg4 k4=>wpAny_pure ?_)
 have pO4:IsPair g4 TO x b:=k4.extBut _ _ D.a9 pO3
 refine wpAny_bind (wpAny_seqItems pO4 rfl (wpAny_bind (wpAny_updateSeq_pair pO4 fun g5 pO5 k5=> ?_)))
 replace pO5:IsPair g5 TO x y:=pO5
 refine wpAny_bind (wpAny_letGo (wpAny_pure (wpAny_pure (wpAny_bind (wpAny_seqItems pO5 rfl (wpAny_bind (wpAny_newTuple ?_)))))))
 have sz:g5.objs.size=s.heap.objs.size:=by rw [k5.1,k4.1,k3.1,k2.1,k1.1]
 have zg5:IsZip g5 z TI TO .ellipsis:=k5.extBut _ _ D.a2.symm (k4.extBut _ _ D.a4.symm (k3.extBut _ _ D.a2.symm (k2.extBut _ _ D.a3.symm zg1)))
 have kk:∀c o,c≠z→c≠TO→c≠i1→c≠i2→s.heap.get? c=some o→g5.get? c=some o:=fun c o c1 c2 c3 c4 e=>k5.extBut _ _ c2 (k4.extBut _ _ c4 (k3.extBut _ _ c2 (k2.extBut _ _ c3 (k1.extBut _ _ c1 e))))
 have u1:S1 (k+1) g5:=D1.frame _ _ _ sg2 fun c hc o e=>k5.extBut _ _ (fun q=>D.b4 (q▸hc)) (k4.extBut _ _ (fun q=>D.b7 (q▸hc)) (k3.extBut _ _ (fun q=>D.b4 (q▸hc)) e))
 have u2:S2 (k+1) g5:=D2.frame _ _ _ sg4 fun c hc o e=>k5.extBut _ _ (fun q=>D.b5 (q▸hc)) e
 have zlt:z<g5.objs.size:=Heap.lt_size zg5
 show wpAny _ _ (Builtin.SmallTypes.ownedTupleHandOut (.ref z) (.ref g5.objs.size) >>=fun _=>_) _ _ _
 refine wpAny_bind ?_
 unfold Builtin.SmallTypes.ownedTupleHandOut
 have zg6:IsZip (g5.push {cls:= .type "tuple",data:= .seq #[x,y]}) z TI TO .ellipsis:=Heap.get?_push_of_some _ zg5
 refine wpAny_bind (wpAny_setField_rec zg6 (by simp) fun g7 zg7 k7=> ?_)
 replace zg7:IsZip g7 z TI TO (rawInt g5.objs.size):=zg7
 refine wpAny_setField_rec zg7 (by simp) fun g8 zg8 k8=> ?_
 replace zg8:IsZip g8 z TI TO (rawInt g5.objs.size):=zg8
 have up:∀c o,c≠z→g5.get? c=some o→g8.get? c=some o:=fun c o c1 e=>k8.extBut _ _ c1 (k7.extBut _ _ c1 (Heap.get?_push_of_some _ e))
 have pT:IsPair g8 g5.objs.size x y:=k8.extBut _ _ (Nat.ne_of_gt zlt) (k7.extBut _ _ (Nat.ne_of_gt zlt) (Heap.get?_push_size _ rfl))
 rw [sz] at zg8 pT
 refine wpAny_pure ⟨_,rfl,?_⟩
 show Q (.ref g5.objs.size) _
 rw [sz]
 exact hQ g8 _ x y px py zg8 (up _ _ D.a2 pO5) (D1.frame _ _ _ u1 fun c hc o e=>up c o (fun q=>D.b2 (q▸hc)) e) (D2.frame _ _ _ u2 fun c hc o e=>up c o (fun q=>D.b3 (q▸hc)) e) pT fun c o c1 c2 c3 c4 e=>up c o c1 (kk c o c1 c2 c3 c4 e)
theorem zip_endD {k:Nat} {a b:Value} {Q:Fin→Shared→Prop} (D:ZAp z TI TO i1 i2 f1 f2) (D1:Draws prog w A i1 f1 n1 P1 S1) (D2:Draws prog w A i2 f2 n2 P2 S2)
  (hZ:IsZip s.heap z TI TO .none) (pI:IsPair s.heap TI (.ref i1) (.ref i2)) (pO:IsPair s.heap TO a b) (t1:S1 k s.heap) (t2:S2 k s.heap) (hend:k=n1∨(k<n1∧k=n2))
  (hE:∀h' tk e,(∀c o,c≠z→c≠TO→c≠i1→c≠i2→s.heap.get? c=some o→h'.get? c=some o)→(∃o,h'.get? e=some o∧o.cls= .type "StopIteration")→E (.ref e) {s with heap:=h',toks:=tk}):
  wpAny (model prog w) A (Builtin.«zip.__next__» ⟨[.ref z],[]⟩) Q E s:=by
 show wpAny _ _ (field (.ref z) 2 >>=fun _=>_) _ _ _
 refine wpAny_bind (wpAny_field hZ rfl (x:= .bool false) rfl ?_)
 show wpAny _ _ (field (.ref z) 3 >>=fun _=>_) _ _ _
 refine wpAny_bind (wpAny_field hZ rfl (x:= .ref TI) rfl ?_)
 refine wpAny_bind (wpAny_seqItems pI rfl ?_)
 show wpAny _ _ (Builtin.SmallTypes.ownedTupleIsFree (.ref z) >>=fun _=>_) _ _ _
 refine wpAny_bind ?_
 unfold Builtin.SmallTypes.ownedTupleIsFree
 refine wpAny_bind (wpAny_field hZ rfl (x:= .none) rfl (wpAny_pure ?_))
 simp only [if_true]
 refine wpAny_bind (wpAny_rule (wpAny_bind (wpAny_field hZ rfl (x:= .ref TO) rfl ?_)))
 refine wpAny_bind (wpAny_setField_rec hZ (by simp) fun g1 zg1 k1=> ?_)
 replace zg1:IsZip g1 z TI TO .ellipsis:=zg1
 refine wpAny_bind ?_
 simp only [List.zipIdx_cons,List.zipIdx_nil,List.forIn_cons,List.forIn_nil]
 refine wpAny_bind (wpAny_bind (wpAny_onRaise ?_))
 show wpAny _ _ (Builtin.SmallTypes.nextOf (.ref i1) >>=fun _=>_) _ _ _
 have t1':S1 k g1:=D1.frame _ _ _ t1 fun c hc o e=>k1.extBut _ _ (fun q=>D.b2 (q▸hc)) e
 rcases hend with rfl|⟨l1,rfl⟩
 ·refine wpAny_bind (D1.done _ _ _ t1' fun g2 e k2 he=> ?_)
  obtain ⟨oe,ge,ce⟩:=he
  have zg2:IsZip g2 z TI TO .ellipsis:=k2 _ _ D.a3.symm zg1
  have ne:e≠z:=fun q=>by subst q;rw [zg2] at ge;cases ge;simp at ce
  exact wpAny_setField_rec zg2 (by simp) fun g3 _ k3=>hE g3 _ e (fun c o c1 _ c3 _ q=>k3.extBut _ _ c1 (k2 _ _ c3 (k1.extBut _ _ c1 q))) ⟨oe,k3.extBut _ _ ne ge,ce⟩
 ·refine wpAny_bind (D1.item k _ _ _ l1 t1' fun x g2 tk2 px sg2 k2=>wpAny_pure ?_)
  have pO2:IsPair g2 TO a b:=k2.extBut _ _ D.a8 (k1.extBut _ _ D.a2 pO)
  refine wpAny_bind (wpAny_seqItems pO2 rfl (wpAny_bind (wpAny_updateSeq_pair pO2 fun g3 pO3 k3=> ?_)))
  refine wpAny_bind (wpAny_letGo (wpAny_pure (wpAny_bind (wpAny_bind (wpAny_onRaise ?_)))))
  show wpAny _ _ (Builtin.SmallTypes.nextOf (.ref i2) >>=fun _=>_) _ _ _
  have t2':S2 k g3:=D2.frame _ _ _ t2 fun c hc o e=>k3.extBut _ _ (fun q=>D.b5 (q▸hc)) (k2.extBut _ _ (fun q=>D.b6 (q▸hc)) (k1.extBut _ _ (fun q=>D.b3 (q▸hc)) e))
  refine wpAny_bind (D2.done _ _ _ t2' fun g4 e k4 he=> ?_)
  obtain ⟨oe,ge,ce⟩:=he
  have zg4:IsZip g4 z TI TO .ellipsis:=k4 _ _ D.a4.symm (k3.extBut _ _ D.a2.symm (k2.extBut _ _ D.a3.symm zg1))
  have ne:e≠z:=fun q=>by subst q;rw [zg4] at ge;cases ge;simp at ce
  exact wpAny_setField_rec zg4 (by simp) fun g5 _ k5=>hE g5 _ e (fun c o c1 c2 c3 c4 q=>k5.extBut _ _ c1 (k4 _ _ c4 (k3.extBut _ _ c2 (k2.extBut _ _ c3 (k1.extBut _ _ c1 q))))) ⟨oe,k5.extBut _ _ ne ge,ce⟩
end
end PySem
namespace PySem
open Builtin
section
variable {prog:Program} {w:World} {A:Around} {E:Value→Shared→Prop} {s:Shared} {z TI TO i1 i2:Addr} {f1 f2:List Addr} {n1 n2:Nat} {P1 P2:Nat→Value→Prop} {S1 S2:Nat→Heap→Prop}
theorem pyNext_zip_itemD {k:Nat} {a b:Value} {Q:Option Value→Shared→Prop} (D:ZAp z TI TO i1 i2 f1 f2) (D1:Draws prog w A.in1 i1 f1 n1 P1 S1) (D2:Draws prog w A.in1 i2 f2 n2 P2 S2)
  (hZ:IsZip s.heap z TI TO .none) (pI:IsPair s.heap TI (.ref i1) (.ref i2)) (pO:IsPair s.heap TO a b) (t1:S1 k s.heap) (t2:S2 k s.heap) (l1:k<n1) (l2:k<n2)
  (hQ:∀h' tk x y,P1 k x→P2 k y→IsZip h' z TI TO (rawInt s.heap.objs.size)→IsPair h' TO x y→S1 (k+1) h'→S2 (k+1) h'→IsPair h' s.heap.objs.size x y→
   (∀c o,c≠z→c≠TO→c≠i1→c≠i2→s.heap.get? c=some o→h'.get? c=some o)→Q (some (.ref s.heap.objs.size)) {s with heap:=h',toks:=tk}):
  wpAny (model prog w) A (pyNext (.ref z)) Q E s:=by
 have tz:s.TypeIs (.ref z) "zip":=⟨_,hZ,rfl⟩
 unfold pyNext
 exact wpAny_bind (wpAny_attempt (wpAny_callSpecial?_slot (name:=Str.ofString "__next__") tz F.slot_zip_next (wpAny_call_entry F.slot_zip_next tz F.entry_zip_next
   (zip_itemD D D1 D2 hZ pI pO t1 t2 l1 l2 fun h' tk x y a1 a2 a3 a4 a5 a6 a7 a8=>wpAny_pure (hQ h' tk x y a1 a2 a3 a4 a5 a6 a7 a8)) (F.args_zip_next_1 _))))
theorem pyNext_zip_endD {k:Nat} {a b:Value} {Q:Option Value→Shared→Prop} (D:ZAp z TI TO i1 i2 f1 f2) (D1:Draws prog w A.in1 i1 f1 n1 P1 S1) (D2:Draws prog w A.in1 i2 f2 n2 P2 S2)
  (hZ:IsZip s.heap z TI TO .none) (pI:IsPair s.heap TI (.ref i1) (.ref i2)) (pO:IsPair s.heap TO a b) (t1:S1 k s.heap) (t2:S2 k s.heap) (hend:k=n1∨(k<n1∧k=n2))
  (hQ:∀h' tk,(∀c o,c≠z→c≠TO→c≠i1→c≠i2→s.heap.get? c=some o→h'.get? c=some o)→Q none {s with heap:=h',toks:=tk}):
  wpAny (model prog w) A (pyNext (.ref z)) Q E s:=by
 have tz:s.TypeIs (.ref z) "zip":=⟨_,hZ,rfl⟩
 unfold pyNext
 refine wpAny_bind (wpAny_attempt (wpAny_callSpecial?_slot (name:=Str.ofString "__next__") tz F.slot_zip_next (wpAny_call_entry F.slot_zip_next tz F.entry_zip_next (zip_endD D D1 D2 hZ pI pO t1 t2 hend fun h' tk e hk he=> ?_) (F.args_zip_next_1 _))))
 obtain ⟨o,ho,hc⟩:=he
 exact wpAny_bind (wpAny_isInstance (T:="StopIteration") (b:=true) ⟨o,ho,hc⟩ isSubtype_stop (wpAny_pure (hQ _ _ hk)))
end
abbrev zT1 (h:Heap) (a:Addr):Heap:=h.push {cls:= .type "tuple_iterator",data:= .fields #[.ref a,.int 0 0]}
abbrev zT2 (h:Heap) (a b:Addr):Heap:=(zT1 h a).push {cls:= .type "tuple_iterator",data:= .fields #[.ref b,.int 0 0]}
abbrev zT3 (h:Heap) (a b:Addr):Heap:=(zT2 h a b).push {cls:= .type "tuple",data:= .seq #[.ref h.objs.size,.ref (zT1 h a).objs.size]}
abbrev zT4 (h:Heap) (a b:Addr):Heap:=(zT3 h a b).push {cls:= .type "tuple",data:= .seq #[.none,.none]}
abbrev zT5 (h:Heap) (a b:Addr):Heap:=(zT4 h a b).push {cls:= .type "zip",data:= .fields #[.none,.bool false,.bool false,.ref (zT2 h a b).objs.size,.ref (zT3 h a b).objs.size]}
theorem meets_zip_tt (a b:Addr) (xs ys:Array Value):
  Meets (Builtin.«zip.__new__» ⟨[.type "zip",.ref a,.ref b],[]⟩) (fun _ R s=>s.heap.IsTuple a xs∧s.heap.IsTuple b ys∧R (.ok (.ret (.ref (zT4 s.heap a b).objs.size))) {s with heap:=zT5 s.heap a b}):=
 .of_wp fun prog w A R s h=>by
  obtain ⟨hp,g,d,tk,os⟩:=s
  obtain ⟨ta,tb,h⟩:=h
  have hsub:=sub_zip
  have q1:Heap.IsTuple (Shared.heap ⟨hp,g,d,tk,os⟩) a xs:=ta
  have q2:Heap.IsTuple (Shared.heap ⟨hp.push {cls:= .type "tuple_iterator",data:= .fields #[.ref a,.int 0 0]},g,d,tk,os⟩) b ys:=let ⟨o,ho,r⟩:=tb;⟨o,Heap.get?_push_of_some _ ho,r⟩
  wp_walk using wpAny_pyIter_tuple q1,wpAny_pyIter_tuple q2
  exact ⟨_,rfl,h⟩
section
variable {prog:Program} {w:World} {A:Around} {E:Value→Shared→Prop} {s:Shared}
theorem call_zip_tt {a b:Addr} {xs ys:Array Value} {Q:Value→Shared→Prop} (ta:s.heap.IsTuple a xs) (tb:s.heap.IsTuple b ys)
  (h:∀h',IsZip h' (s.heap.objs.size+4) (s.heap.objs.size+2) (s.heap.objs.size+3) .none→IsPair h' (s.heap.objs.size+2) (.ref s.heap.objs.size) (.ref (s.heap.objs.size+1))→IsPair h' (s.heap.objs.size+3) .none .none→
   h'.IsTupleIter s.heap.objs.size a 0→h'.IsTupleIter (s.heap.objs.size+1) b 0→(∀c o,s.heap.get? c=some o→h'.get? c=some o)→Q (.ref (s.heap.objs.size+4)) {s with heap:=h'}):
  wpAny (model prog w) A (call (.type "zip") [.ref a,.ref b]) Q E s:=by
 refine callType_new F.called_zip (by decide) (F.typeCall_zip_2 _ _) (F.newCall_zip_2 _ _) (fun obj=>F.args_object_init_3 obj _ _) F.entry_zip_new (meets_zip_tt a b xs ys) ⟨ta,tb,?_⟩
 have y1:(zT1 s.heap a).objs.size=s.heap.objs.size+1:=Heap.size_push ..
 have y2:(zT2 s.heap a b).objs.size=s.heap.objs.size+2:=by rw [Heap.size_push,y1]
 have y3:(zT3 s.heap a b).objs.size=s.heap.objs.size+3:=by rw [Heap.size_push,y2]
 have y4:(zT4 s.heap a b).objs.size=s.heap.objs.size+4:=by rw [Heap.size_push,y3]
 have e5:(zT5 s.heap a b).get? (zT4 s.heap a b).objs.size=some _:=Heap.get?_push_size _ rfl
 have e4:(zT5 s.heap a b).get? (zT3 s.heap a b).objs.size=some _:=Heap.get?_push_of_some _ (Heap.get?_push_size _ rfl)
 have e3:(zT5 s.heap a b).get? (zT2 s.heap a b).objs.size=some _:=Heap.get?_push_of_some _ (Heap.get?_push_of_some _ (Heap.get?_push_size _ rfl))
 have e2:(zT5 s.heap a b).get? (zT1 s.heap a).objs.size=some _:=Heap.get?_push_of_some _ (Heap.get?_push_of_some _ (Heap.get?_push_of_some _ (Heap.get?_push_size _ rfl)))
 have e1:(zT5 s.heap a b).get? s.heap.objs.size=some _:=Heap.get?_push_of_some _ (Heap.get?_push_of_some _ (Heap.get?_push_of_some _ (Heap.get?_push_of_some _ (Heap.get?_push_size _ rfl))))
 show _∧_
 rw [y2,y3,y4] at e5
 rw [y1,y2] at e3
 rw [y3] at e4
 rw [y1] at e2
 rw [y4]
 refine ⟨⟨_,e5,rfl⟩,h _ e5 e3 e4 ⟨_,e1,rfl,rfl⟩ ⟨_,e2,rfl,rfl⟩ fun c o e=> ?_⟩
 exact Heap.get?_push_of_some _ (Heap.get?_push_of_some _ (Heap.get?_push_of_some _ (Heap.get?_push_of_some _ (Heap.get?_push_of_some _ e))))
end
end PySem
namespace L2
open PySem PySem.Spec PyProof.Rows
def Itz (K:PySem.W.Frag) (a b:Addr):It:=
 ⟨fun i H=>∃xs ys x y,SqT K H a xs∧SqT K H b ys∧xs[i]? =some x∧ys[i]? =some y,fun i H v H'=>∃T x y,H T=none∧v= .ref T∧H'=upd H T (.tup [x,y])∧(∀xs,SqT K H a xs→xs[i]? =some x)∧∀ys,SqT K H b ys→ys[i]? =some y,
  fun i H=>∃xs ys,SqT K H a xs∧SqT K H b ys∧(i=xs.length∨(i<xs.length∧i=ys.length))⟩
theorem zap_of {z TI TO i1 i2 a b:Addr} (nd:[z,TI,TO,i1,i2].Nodup) (na:a ∉ [z,TI,TO,i1,i2]) (nb:b ∉ [z,TI,TO,i1,i2]):ZAp z TI TO i1 i2 [i1,a] [i2,b]:=by
 simp only [List.nodup_cons,List.mem_cons,List.mem_nil_iff,or_false,not_or,List.nodup_nil,and_true,not_false_eq_true] at nd na nb
 obtain ⟨⟨q1,q2,q3,q4⟩,⟨q5,q6,q7⟩,⟨q8,q9⟩,q10⟩:=nd
 obtain ⟨r1,r2,r3,r4,r5⟩:=na
 obtain ⟨s1,s2,s3,s4,s5⟩:=nb
 constructor<;> first|exact Ne.symm ‹_›|assumption|(simp only [List.mem_cons,List.mem_nil_iff,or_false,not_or];constructor<;> first|assumption|exact Ne.symm ‹_›)
theorem turn_zip {P:Program} {w:World} {K:PySem.W.Frag} {elts:List Expr} {x1} {pos:Pos} (a b z TI TO i1 i2:Addr) (nd:[z,TI,TO,i1,i2].Nodup) (na:a ∉ [z,TI,TO,i1,i2]) (nb:b ∉ [z,TI,TO,i1,i2]):Turn P w K (.Tuple elts x1 pos) (Itz K a b) [z,TI,TO,i1,i2] z
  (fun i h=>IsZip h z TI TO .none∧IsPair h TI (.ref i1) (.ref i2)∧(∃u v,IsPair h TO u v)∧h.IsTupleIter i1 a i∧h.IsTupleIter i2 b i) where
 mem:=by simp
 obj:=fun i h st c hc=>by
  obtain ⟨h1,h2,⟨u,v,h3⟩,⟨o4,g4,_,d4⟩,⟨o5,g5,_,d5⟩⟩:=st
  simp only [List.mem_cons,List.mem_nil_iff,or_false] at hc
  rcases hc with rfl|rfl|rfl|rfl|rfl
  ·exact ⟨_,h1,fun v q=>by cases q⟩
  ·exact ⟨_,h2,fun v q=>by cases q⟩
  ·exact ⟨_,h3,fun v q=>by cases q⟩
  ·exact ⟨_,g4,fun v q=>by rw [d4] at q;cases q⟩
  ·exact ⟨_,g5,fun v q=>by rw [d5] at q;cases q⟩
 keep:=fun i h h' st k=>by
  obtain ⟨h1,h2,⟨u,v,h3⟩,h4,h5⟩:=st
  exact ⟨k z (by simp) _ h1,k TI (by simp) _ h2,⟨u,v,k TO (by simp) _ h3⟩,h4.at fun o q=>k i1 (by simp) o q,h5.at fun o q=>k i2 (by simp) o q⟩
 item:=by
  intro X hP hw hK hc i pins s σ H E I hf st hg
  subst hP hw hK
  obtain ⟨hZ,pI,⟨u,v,pO⟩,t1,t2⟩:=st
  obtain ⟨xs,ys,x,y,ha,hb,hx,hy⟩:=hg
  obtain ⟨its,rv,p1,_⟩:=I.tuple ha
  obtain ⟨jts,rw',p2,_⟩:=I.tuple hb
  obtain ⟨ux,hux,rx⟩:=rv.get hx
  obtain ⟨uy,huy,ry⟩:=rw'.get hy
  have AP:=zap_of nd na nb
  have fresh:H s.heap.objs.size=none:=I.hok.fresh (Nat.le_refl _)
  have ltz:∀c∈[z,TI,TO,i1,i2],c≠s.heap.objs.size:=by
   intro c hc
   obtain ⟨o4,g4,_⟩:=id t1
   obtain ⟨o5,g5,_⟩:=id t2
   simp only [List.mem_cons,List.mem_nil_iff,or_false] at hc
   rcases hc with rfl|rfl|rfl|rfl|rfl
   ·exact Nat.ne_of_lt (Heap.lt_size hZ)
   ·exact Nat.ne_of_lt (Heap.lt_size pI)
   ·exact Nat.ne_of_lt (Heap.lt_size pO)
   ·exact Nat.ne_of_lt (Heap.lt_size g4)
   ·exact Nat.ne_of_lt (Heap.lt_size g5)
  refine pyNext_zip_itemD AP (Draws.tup (A:=X.A.in1) (I.ok.hd hc) i1 a (fun q=>na (by simp [q])) its.toArray) (Draws.tup (A:=X.A.in1) (I.ok.hd hc) i2 b (fun q=>nb (by simp [q])) jts.toArray) hZ pI pO ⟨t1,p1⟩ ⟨t2,p2⟩
   (by have:=(List.getElem?_eq_some_iff.mp hux).1;simpa using this) (by have:=(List.getElem?_eq_some_iff.mp huy).1;simpa using this) fun h' tk xv yv px py z' pO' s1' s2' pT kk=>⟨_,rfl,?_⟩
  have ex:ux=xv:=Option.some.inj (hux.symm.trans (by simpa using px))
  have ey:uy=yv:=Option.some.inj (huy.symm.trans (by simpa using py))
  subst ex ey
  refine wpAny_letOwnedTupleGo_zip (s:={s with heap:=h',toks:=tk}) z' fun h2 z2 sb=> ?_
  have I1:Inv X pins σ (upd H s.heap.objs.size (.tup [x,y])) {s with heap:=s.heap.push {cls:= .type "tuple",data:= .seq #[ux,uy]},toks:=s.toks}:=
   I.laid (o:= .tup [x,y]) (fun b ob q=>Heap.get?_push_of_some _ q) (Nat.le_refl _) ⟨by rw [sizeLine_eq];simp,[ux,uy],.cons rx (.cons ry .nil),IsTupN.new _ _⟩
  have I2:=I1.turnedL (h':=h2) (t':=tk) [z,TI,TO,i1,i2] (fun c o hc' q=> ?_) (fun c hc'=>(hf c hc').up (ltz c hc'))
  ·refine ⟨.ref s.heap.objs.size,_,I2,rfl,⟨_,x,y,fresh,rfl,rfl,fun ys' hy'=>by rw [I.tuple_inj hy' ha];exact hx,fun ys' hy'=>by rw [I.tuple_inj hy' hb];exact hy⟩,
    ⟨z2,(sb.2 TI AP.a1).trans (kk _ _ AP.a1 AP.a5 AP.a6 AP.a7 pI),⟨_,_,(sb.2 TO AP.a2).trans pO'⟩,s1'.1.at fun o q=>(sb.2 i1 AP.a3).trans q,s2'.1.at fun o q=>(sb.2 i2 AP.a4).trans q⟩,fun c hc'=> ?_⟩
   rw [A0 (ltz c hc')];exact (hf c hc').1
  ·have c1:c≠z:=fun q=>hc' (by simp [q])
   have c2:c≠TO:=fun q=>hc' (by simp [q])
   have c3:c≠i1:=fun q=>hc' (by simp [q])
   have c4:c≠i2:=fun q=>hc' (by simp [q])
   refine (sb.2 c c1).trans ?_
   by_cases hcs:c=s.heap.objs.size
   ·subst hcs
    rw [Heap.get?_push_size _ rfl] at q
    cases q
    exact pT
   ·rw [Heap.get?_push_ne _ _ _ hcs] at q
    exact kk c o c1 c2 c3 c4 q
 done:=by
  intro X hP hw hK hc i pins s σ H E I hf st hg
  subst hP hw hK
  obtain ⟨hZ,pI,⟨u,v,pO⟩,t1,t2⟩:=st
  obtain ⟨xs,ys,ha,hb,hend⟩:=hg
  obtain ⟨its,rv,p1,_⟩:=I.tuple ha
  obtain ⟨jts,rw',p2,_⟩:=I.tuple hb
  have AP:=zap_of nd na nb
  have l1:=rv.length
  have l2:=rw'.length
  refine pyNext_zip_endD AP (Draws.tup (A:=X.A.in1) (I.ok.hd hc) i1 a (fun q=>na (by simp [q])) its.toArray) (Draws.tup (A:=X.A.in1) (I.ok.hd hc) i2 b (fun q=>nb (by simp [q])) jts.toArray) hZ pI pO ⟨t1,p1⟩ ⟨t2,p2⟩
   (by simp only [List.size_toArray];omega) fun h' tk kk=>⟨rfl,I.turnedL (t':=tk) [z,TI,TO,i1,i2] (fun c o hc' q=> ?_) hf⟩
  exact kk c o (fun q=>hc' (by simp [q])) (fun q=>hc' (by simp [q])) (fun q=>hc' (by simp [q])) (fun q=>hc' (by simp [q])) q
 self:=fun A i s Q E st h=>wpAny_pyIter_zip st.1 h
def iZip (K:PySem.W.Frag) (ta:TA):TI:=fun σ H R=>ta σ H fun vs H1=>∃a b xs ys,vs=[.ref a,.ref b]∧SqT K H1 a xs∧SqT K H1 b ys∧R (Itz K a b) H1
theorem pi_zip {X:Cx} {elts:List Expr} {x1} {tpos:Pos} {e1 e2:Expr} {ta:TA} {p pos:Pos} (hg:Gl X "zip") (hm:X.mg "zip"=none) (ha:PA X [e1,e2] ta) (hs:starEach [e1,e2] X.env=[(false,eval e1 X.env),(false,eval e2 X.env)]:=by rfl) (hs2:starEach [e2] X.env=[(false,eval e2 X.env)]:=by rfl):
  PI X (.Tuple elts x1 tpos) (.Call (.Name "zip" p) [e1,e2] [] pos) (iZip X.K ta):=by
 intro pins s σ H R I h
 refine Call_ (ld_blt I hg hm (show bootBuiltins "zip"=some (.type "zip") by decide+kernel) (PyProof.Rows.callWith_type1 (thn (ha pos pins s σ H _ I h) fun us s1 ⟨vs,H1,I1,r1,q1⟩=> ?_) (by rw [hs,hs2]) (by rw [hs2];rfl)))
 obtain ⟨a,b,xs,ys,e,hqa,hqb,q⟩:=q1
 subst e
 cases r1 with
 |cons r rr=>
  cases rr with
  |cons r' rr=>
   cases rr
   cases r
   cases r'
   obtain ⟨its,rv,p1,_⟩:=I1.tuple hqa
   obtain ⟨jts,rw',p2,_⟩:=I1.tuple hqb
   refine call_zip_tt p1 p2 fun h' hZ pI pO t1 t2 kk=>wpAny_pyIter_zip hZ ?_
   obtain ⟨oa,ga,_⟩:=id p1
   obtain ⟨ob,gb,_⟩:=id p2
   have la:=Heap.lt_size ga
   have lb:=Heap.lt_size gb
   have big:∀c∈[s1.heap.objs.size+4,s1.heap.objs.size+2,s1.heap.objs.size+3,s1.heap.objs.size,s1.heap.objs.size+1],s1.heap.objs.size≤c:=by
    intro c hc
    simp only [List.mem_cons,List.mem_nil_iff,or_false] at hc
    rcases hc with rfl|rfl|rfl|rfl|rfl<;> first|exact Nat.le_add_right _ _|exact Nat.le_refl _
   refine ⟨s1.heap.objs.size+4,[s1.heap.objs.size+4,s1.heap.objs.size+2,s1.heap.objs.size+3,s1.heap.objs.size,s1.heap.objs.size+1],_,_,H1,rfl,I1.kept (t':=s1.toks) kk,
    turn_zip a b _ _ _ _ _ ?_ (fun q=>Nat.lt_irrefl _ (Nat.lt_of_lt_of_le la (big _ q))) (fun q=>Nat.lt_irrefl _ (Nat.lt_of_lt_of_le lb (big _ q))),⟨hZ,pI,⟨_,_,pO⟩,t1,t2⟩,fun c hc=>I1.fpOk (big c hc) (I1.hok.fresh (big c hc)),q⟩
   generalize s1.heap.objs.size=n
   show List.Nodup ([n+4,n+2,n+3,n,n+1]:List Nat)
   simp
section
variable {g:TG} {ti:TT} {te:TE} {Q:VK} {D:Addr} {σ:St} {H:Hp}
theorem comp_zip {K:PySem.W.Frag} {a b:Addr} {xs ys:List V} (Pv:Nat→St→List V→Hp→Prop) (h0:Pv 0 σ [] (upd H D (.lst []))) (hl:∀i σ zs H,i≤xs.length→i≤ys.length→Pv i σ zs H→SqT K H a xs∧SqT K H b ys∧H D=some (.lst zs))
  (hs:∀i x y σ zs H T,xs[i]? =some x→ys[i]? =some y→Pv i σ zs H→H T=none→cturn g ti te D (.ref T) σ zs (upd H T (.tup [x,y])) (Pv (i+1))) (hd:∀i σ zs H,i=min xs.length ys.length→Pv i σ zs H→Q (.ref D) H):
  cgo (Itz K a b) g ti te D σ H Q:=by
 refine ⟨fun i m σ zs H=>m=xs.length - i∧i≤xs.length∧i≤ys.length∧Pv i σ zs H,⟨xs.length,by simp,Nat.zero_le _,Nat.zero_le _,h0⟩,?_⟩
 rintro i m σ zs H ⟨rfl,hi,hj,p⟩
 obtain ⟨q1,q2,hD⟩:=hl i σ zs H hi hj p
 refine ⟨hD,?_⟩
 by_cases hlt:i<xs.length∧i<ys.length
 ·refine .inr ⟨⟨xs,ys,xs[i],ys[i],q1,q2,by simp [hlt.1],by simp [hlt.2]⟩,Pv (i+1),fun σ' ys' H' p'=>⟨xs.length - (i+1),by omega,rfl,hlt.1,hlt.2,p'⟩,fun x H' y=> ?_⟩
  obtain ⟨T,x,y,hT,rfl,rfl,y1,y2⟩:=y
  exact hs i x y σ zs H T (y1 xs q1) (y2 ys q2) p hT
 ·exact .inl ⟨⟨xs,ys,q1,q2,by omega⟩,hd i σ zs H (by omega) p⟩
end
end L2
namespace HT
open PySem PyProof.Rows
section
variable {prog:Program} {w:World} {A:Around} {E:Value→Shared→Prop} {s:Shared}
theorem getItem_tuple_self {t sl:Addr} {items:Array Value} {vl vu:Value} {lo hi:Option Int} {Q:Value→Shared→Prop} (ht:IsTup s.heap t items) (hs:s.heap.IsSliceOf sl vl vu .none) (pl:IsPart vl lo) (pu:IsPart vu hi)
  (hw:sIx items.size 0 lo=0∧sIx items.size items.size hi=items.size) (h:Q (.ref t) s):wpAny (model prog w) A (getItem (.ref t) (.ref sl)) Q E s:=by
 obtain ⟨os,hos,hcs,hds⟩:=id hs
 have tsl:s.TypeIs (.ref sl) "slice":=⟨os,hos,hcs⟩
 unfold getItem
 try with_reducible refine wpAny_holding ?_
 first|refine wpAny_bind (wpAny_pure ?_)|skip
 refine wpAny_bind (wpAny_sequenceKey ht.typeIs (by decide) (wpAny_bind (wpAny_callSpecial?_slot (name:=Str.ofString "__getitem__") ht.typeIs PyProof.Rows.slot_tuple_getitem (wpAny_call_entry PyProof.Rows.slot_tuple_getitem ht.typeIs entry_tuple_getitem ?_ (args_tuple_getitem _ _)))))
 show wpAny _ _ (Builtin.Tuple.tupleItemsOf (.ref t) >>=fun _=>_) _ _ s
 refine wpAny_bind (tupleItemsOf_ ht (wpAny_bind (wpAny_typeOf tsl ?_)))
 rw [if_pos (by decide)]
 refine wpAny_bind (sliceApplied_gen hs pl pu ?_)
 have yes:(((sIx items.size 0 lo:Nat):Int)==0 && (1:Int)==1 && (sIx items.size items.size hi - sIx items.size 0 lo)==items.size)=true:=by rw [hw.1,hw.2];simp
 show wpAny _ _ (ite ((((sIx items.size 0 lo:Nat):Int)==0 && (1:Int)==1 && (sIx items.size items.size hi - sIx items.size 0 lo)==items.size)=true) _ _) _ _ s
 rw [if_pos yes]
 refine wpAny_bind (m:=Builtin.Tuple.tupleIsExact (.ref t)) ?_
 unfold Builtin.Tuple.tupleIsExact
 refine wpAny_bind (wpAny_typeOf ht.typeIs (wpAny_pure ?_))
 rw [if_pos (by decide)]
 exact wpAny_bind (wpAny_rule (wpAny_pure ⟨_,rfl,wpAny_pure h⟩))
end
end HT
namespace L2
open PySem PySem.Spec PyProof.Rows
section
variable {X:Cx}
inductive RSlTAP (K:PySem.W.Frag) (x:V) (lo:Option Int) (hi:Option Int) (H:Hp) (Q:VK):Prop
 |mk (a xs:_):(x= .ref a)→(SqT K H a xs)→(((HT.sIx xs.length 0 lo=0∧HT.sIx xs.length xs.length hi=xs.length)→Q (.ref a) H))→((¬(HT.sIx xs.length 0 lo=0∧HT.sIx xs.length xs.length hi=xs.length)→∀p,H p=none→Q (.ref p) (upd H p (.tup (cutV xs lo hi)))))→RSlTAP K x lo hi H Q
def rSlTA (K:PySem.W.Frag):V→Option Int→Option Int→Hp→VK→Prop:=fun x lo hi H Q=>RSlTAP K x lo hi H Q
theorem sl_tupA:SlR X (rSlTA X.K):=by
 intro pins s σ H x v vl vu lo hi sl Q I rx hs pl pu h
 obtain ⟨a,xs,rfl,hx,q1,q2⟩:=h
 by_cases hw:HT.sIx xs.length 0 lo=0∧HT.sIx xs.length xs.length hi=xs.length
 ·cases rx
  obtain ⟨its,r,ht,hz⟩:=I.tuple hx
  have hlen:its.toArray.size=xs.length:=by rw [List.size_toArray];exact r.length.symm
  exact ⟨"tuple",_,PyProof.Rows.slot_tuple_getitem.lookup,ht.typeIs,HT.getItem_tuple_self ht hs pl pu (by rw [hlen];exact hw) ⟨.ref a,H,I,rfl,q1 hw⟩⟩
 ·exact sl_tup pins s σ H _ v vl vu lo hi sl Q I rx hs pl pu ⟨a,xs,rfl,hx,hw,q2 hw⟩
theorem op_isB:OpR X (compareOp .Is) (fun x y H Q=>∃c d,x= .bl c∧y= .bl d∧Q (.bl (c==d)) H):=by
 intro pins s σ H x y v u Q I rx ry h
 obtain ⟨c,d,rfl,rfl,q⟩:=h
 cases rx
 cases ry
 exact is_bool ⟨.bl _,H,I,rfl,q⟩
end
theorem op_eqNil {X:Cx} (hu:X.A.units+64<cLine):OpR X (compareOp .Eq) (fun x y H Q=>∃(a b:Addr) (xs:List V),x= .ref a∧y= .ref b∧SqL X.K H a xs∧SqL X.K H b []∧Q (.bl xs.isEmpty) H):=by
 intro pins s σ H x y u v Q I rx ry h
 obtain ⟨a,b,xs,rfl,rfl,ha,hb,q⟩:=h
 cases rx
 cases ry
 cases xs with
 |nil=>
  obtain ⟨as,r1⟩:=Rep.reads (u:= .ref a) I (Rep.lst ha .nil) rfl
  obtain ⟨bs,r2⟩:=Rep.reads (u:= .ref b) I (Rep.lst hb .nil) rfl
  exact SeqAt.compareEq_reads r1 r2 rfl rfl (by simp only [PyData.depth,PyData.depthAll];omega) ⟨.bl _,H,I,rfl,q⟩
 |cons x xs=>
  obtain ⟨its,r1,h1,_⟩:=I.list ha
  obtain ⟨its2,r2,h2,_⟩:=I.list hb
  have l1:=r1.length
  have l2:=r2.length
  refine SeqAt.eq_list_lengthsAt h1.isList h2.isList (by simp at l1 l2 ⊢;omega) (by omega) ⟨.bl _,H,I,rfl,q⟩
theorem pe_gint {X:Cx} {x:Str} {i:Int} {t:Tok} {pos:Pos} (hg:Gl X x) (hm:X.mg x=some (.int i t)) (hd:(x==("__debug__":Str))=false:=by decide):PE X (.Name x pos) (tC (.int i)):=fun pins s σ H Q I h=>ld_glob I hg hm ⟨.int i,H,I,⟨t,rfl⟩,h⟩ hd
theorem Ad {H:Hp} {p:Addr} {o:HO} (h:H p=none):Same H (upd H p o):=fun b u e=>by rw [A0 (Bj e h)];exact e
theorem Bb (H:Hp):Same H H:=fun _ _ e=>e
theorem Ax {n:Nat} (h:n≤10000):n≤sizeLine:=by rw [sizeLine_eq];exact Nat.le_trans (by assumption) (by decide)
theorem none_of {H H':Hp} {a:Addr} (s:Same H H') (h:H' a=none):H a=none:=by
 cases e:H a with
 |none=>rfl
 |some o=>rw [s _ _ e] at h;cases h
theorem pg_tupK {X:Cx} {es:List Expr} {k:Nat} {t:TGs} {pos:Pos} (K:PySem.W.Frag) (n:Nat) (hK:X.K=K) (hc:X.calm=true) (h:PGs X es t) (hn:(assignEach es X.env).length=n:=by rfl) (hst:(assignEach es X.env).findIdx? (·.1)=none:=by rfl):PG X (.Tuple es k pos) (gTup K n t):=by
 subst hK
 exact pg_tup hc h hn hst
end L2
namespace PySem
open Builtin
end PySem
namespace PySem
open Builtin
end PySem
namespace L2
open PySem PySem.Spec PyProof.Rows
section
variable {X:Cx}
theorem call_range1:CallR X (.type "range") (fun xs H Q=>∃j:Int,xs=[.int j]∧∀l,H l=none→Q (.ref l) (upd H l (.rng 0 j))):=by
 intro pins s σ H xs us Q I r h
 obtain ⟨j,rfl,q⟩:=h
 obtain ⟨u,rfl,⟨t,rfl⟩⟩:=vals1 r
 exact call_range_1 ⟨.ref s.heap.objs.size,_,I.laid (o:= .rng 0 j) (fun _ _ q=>Heap.get?_push_of_some _ q) (Nat.le_refl _) ⟨_,_,_,Heap.get?_push_size _ rfl⟩,rfl,q _ I.fresh⟩
end
end L2
namespace PySem
open Builtin
end PySem
namespace L2
open PySem PySem.Spec PyProof.Rows
end L2
namespace PySem
open Builtin
end PySem
namespace L2
open PySem PySem.Spec PyProof.Rows
end L2
namespace Srt
open PySem PySem.W PyProof.Rows
structure Ord (lt:Nat→Nat→Bool):Prop where
 asym:∀a b,lt a b=true→lt b a=false
 ntr:∀a b c,lt a b=false→lt b c=false→lt a c=false
def ev {α:Type} (lt:Nat→Nat→Bool):KasT α→α
 | .ret a=>a
 | .ask i j k=>ev lt (k (lt i j))
theorem ev_bind {α β:Type} (lt:Nat→Nat→Bool) (f:α→KasT β):∀t:KasT α,ev lt (t.bind f)=ev lt (f (ev lt t))
 | .ret _=>rfl
 | .ask i j k=>ev_bind lt f (k (lt i j))
def AsksP {α:Type} (n:Nat) (P:α→Prop):KasT α→Prop
 | .ret a=>P a
 | .ask i j k=>i<n∧j<n∧∀b,AsksP n P (k b)
theorem AsksP.bind {α β:Type} {n:Nat} {P:α→Prop} {R:β→Prop} {f:α→KasT β} (hf:∀a,P a→AsksP n R (f a)):∀{t:KasT α},AsksP n P t→AsksP n R (t.bind f)
 | .ret a,h=>hf a h
 | .ask i j k,h=>⟨h.1,h.2.1,fun b=>AsksP.bind hf (h.2.2 b)⟩
theorem AsksP.ev {α:Type} {n:Nat} {P:α→Prop} (lt:Nat→Nat→Bool):∀{t:KasT α},AsksP n P t→P (Srt.ev lt t)
 | .ret _,h=>h
 | .ask i j k,h=>AsksP.ev (n:=n) (P:=P) lt (t:=k (lt i j)) (h.2.2 (lt i j))
theorem AsksP.wp {α:Type} {n:Nat} {P:α→Prop} {cmp:Nat→Nat→(Bool→Shared→Prop)→Shared→Prop} {lt:Nat→Nat→Bool} {s:Shared} (hc:∀i j (C:Bool→Shared→Prop),i<n→j<n→C (lt i j) s→cmp i j C s) {Q:α→Shared→Prop}:∀{t:KasT α},AsksP n P t→Q (Srt.ev lt t) s→t.kasWp cmp Q s
 | .ret _,_,q=>q
 | .ask i j k,h,q=>hc i j _ h.1 h.2.1 (AsksP.wp hc (h.2.2 (lt i j)) q)
abbrev g (p:Array Nat) (k:Nat):Nat:=p.getD k 0
theorem g_eq (p:Array Nat) (k:Nat):g p k=(p[k]?).getD 0:=by
 show p.getD k 0=_
 simp [Array.getD_eq_getD_getElem?]
theorem g_rev {p:Array Nat} {i j:Nat} (hj:j≤p.size) (k:Nat):g (kas_rev p i j) k=if i≤k∧k<j then g p (i+j - 1 - k) else g p k:=by
 rw [g_eq]
 unfold kas_rev
 rw [getElem?_mirror_all hj]
 split<;> rw [g_eq]
theorem g_bub {p:Array Nat} {src d:Nat} (hs:src<p.size) (hd:d≤src) (k:Nat):g (bubble p src d) k=if k=src - d then g p src else if src - d<k∧k≤src then g p (k - 1) else g p k:=by
 rw [g_eq,getElem?_bubble hs d hd,g_eq,g_eq,g_eq]
 split
 ·rfl
 ·split<;> rfl
theorem rev_size (p:Array Nat) (i j:Nat):(kas_rev p i j).size=p.size:=mirror_size _ _ _ _
theorem rev_perm (p:Array Nat) (i j:Nat):(kas_rev p i j).Perm p:=mirror_perm _ _ _ _
def Pm (n:Nat) (p:Array Nat):Prop:=p.Perm (List.range n).toArray
theorem Pm.size {n:Nat} {p:Array Nat} (h:Pm n p):p.size=n:=by
 have:=Array.Perm.size_eq h
 simpa using this
theorem Pm.lt {n:Nat} {p:Array Nat} (h:Pm n p) (h0:0<n) (k:Nat):g p k<n:=by
 rw [g_eq]
 cases e:p[k]? with
 |none=>exact h0
 |some x=>
  have hx:x∈p:=Array.mem_of_getElem? e
  have:=(Array.Perm.mem_iff h).mp hx
  simpa using this
section
variable {n:Nat} (h0:0<n)
include h0
theorem asks_asc {p:Array Nat} (h:Pm n p):∀f m,AsksP n (fun _=>True) (kas_asc p f m)
 |0,_=>trivial
 |f+1,m=>⟨h.lt h0 _,h.lt h0 _,fun b=>by cases b<;> first|exact trivial|exact asks_asc h f (m+1)⟩
theorem asks_desc:∀f {p:Array Nat} (m q:Nat),Pm n p→AsksP n (fun r=>Pm n r.1) (kas_desc f p m q)
 |0,_,_,_,h=>h
 |f+1,p,m,q,h=>by
  refine ⟨h.lt h0 _,h.lt h0 _,fun b=> ?_⟩
  cases b with
  |true=>
   show AsksP n _ (if q > 0 then _ else _)
   by_cases hq:q > 0
   ·rw [if_pos hq];exact asks_desc f _ _ ((rev_perm _ _ _).trans h)
   ·rw [if_neg hq];exact asks_desc f _ _ h
  |false=>
   refine ⟨h.lt h0 _,h.lt h0 _,fun d=> ?_⟩
   cases d with
   |true=>exact h
   |false=>exact asks_desc f _ _ h
theorem asks_tail3 {p:Array Nat} (m nrem:Nat) (h:Pm n p):AsksP n (fun r=>Pm n r.2) (kas_tail3 m nrem p):=by
 have hr:Pm n (kas_rev p 0 m):=(rev_perm _ _ _).trans h
 refine AsksP.bind (n:=n) (P:=fun _=>True) (R:=fun r:Nat×Array Nat=>Pm n r.2) (fun k _=> ?_) (asks_asc h0 hr _ _)
 exact hr
theorem asks_descPart {p:Array Nat} (m nrem:Nat) (h:Pm n p):AsksP n (fun r=>Pm n r.2) (kas_descPart m nrem p):=
 (asks_desc h0 _ _ _ h).bind fun r hr=>by
  by_cases hq:r.2.2 > 0
  ·rw [if_pos hq];exact asks_tail3 h0 _ _ ((rev_perm _ _ _).trans hr)
  ·rw [if_neg hq];exact asks_tail3 h0 _ _ hr
theorem asks_count {p:Array Nat} (nrem:Nat) (h:Pm n p):AsksP n (fun r=>Pm n r.2) (kas_count nrem p):=
 (asks_asc h0 h _ _).bind fun m _=>by
  by_cases h1:(m==nrem)=true
  ·rw [if_pos h1];exact h
  ·rw [if_neg h1]
   by_cases h2:m > 1
   ·rw [if_pos h2]
    refine ⟨h.lt h0 _,h.lt h0 _,fun c=> ?_⟩
    cases c with
    |true=>exact h
    |false=>exact asks_descPart h0 _ _ ((rev_perm _ _ _).trans h)
   ·rw [if_neg h2];exact asks_descPart h0 _ _ h
theorem asks_place {p:Array Nat} (k:Nat) (h:Pm n p):∀f l r,AsksP n (fun _=>True) (kas_place p k f l r)
 |0,_,_=>trivial
 |f+1,l,r=>by
  show AsksP n _ (if l ≥ r then _ else _)
  by_cases hl:l ≥ r
  ·rw [if_pos hl];trivial
  ·rw [if_neg hl]
   refine ⟨h.lt h0 _,h.lt h0 _,fun c=> ?_⟩
   cases c with
   |true=>exact asks_place k h f _ _
   |false=>exact asks_place k h f _ _
theorem asks_bin:∀f {p:Array Nat} (k:Nat),Pm n p→AsksP n (Pm n) (kas_bin f p k)
 |0,_,_,h=>h
 |f+1,p,k,h=>(asks_place h0 k h _ _ _).bind fun l _=>asks_bin f (k+1) ((bubble_perm _ _ _).trans h)
theorem asks_sort:AsksP n (Pm n) (kas_sort n):=
 (asks_count h0 n (Array.Perm.refl _)).bind fun r hr=>by
  by_cases h1:r.1<n
  ·rw [if_pos h1];exact asks_bin h0 _ _ hr
  ·rw [if_neg h1];exact hr
end
section
variable {lt:Nat→Nat→Bool} (O:Ord lt)
def Sto (lt:Nat→Nat→Bool) (p:Array Nat) (k:Nat):Prop:=∀i j,i≤j→j<k→lt (g p j) (g p i)=false
def Dto (lt:Nat→Nat→Bool) (p:Array Nat) (k:Nat):Prop:=∀i j,i≤j→j<k→lt (g p i) (g p j)=false
def Eqv (lt:Nat→Nat→Bool) (a b:Nat):Prop:=lt a b=false∧lt b a=false
include O
theorem irr (a:Nat):lt a a=false:=by
 cases h:lt a a with
 |false=>rfl
 |true=>have:=O.asym a a h;rw [h] at this;cases this
theorem ev_asc {p:Array Nat}:∀f m,1≤m→Sto lt p m→m≤ev lt (kas_asc p f m)∧ev lt (kas_asc p f m)≤m+f∧Sto lt p (ev lt (kas_asc p f m))∧(ev lt (kas_asc p f m)<m+f→lt (g p (ev lt (kas_asc p f m))) (g p (ev lt (kas_asc p f m) - 1))=true)
 |0,m,_,hs=>⟨Nat.le_refl _,Nat.le_refl _,hs,fun h=>absurd h (Nat.lt_irrefl _)⟩
 |f+1,m,h1,hs=>by
  show m≤ev lt (if lt (g p m) (g p (m - 1))=true then .ret m else kas_asc p f (m+1))∧ev lt (if lt (g p m) (g p (m - 1))=true then .ret m else kas_asc p f (m+1))≤m+(f+1)∧Sto lt p (ev lt (if lt (g p m) (g p (m - 1))=true then .ret m else kas_asc p f (m+1)))∧(ev lt (if lt (g p m) (g p (m - 1))=true then .ret m else kas_asc p f (m+1))<m+(f+1)→lt (g p (ev lt (if lt (g p m) (g p (m - 1))=true then .ret m else kas_asc p f (m+1)))) (g p (ev lt (if lt (g p m) (g p (m - 1))=true then .ret m else kas_asc p f (m+1)) - 1))=true)
  by_cases c:lt (g p m) (g p (m - 1))=true
  ·rw [if_pos c]
   exact ⟨Nat.le_refl _,Nat.le_add_right _ _,hs,fun _=>c⟩
  ·rw [if_neg c]
   have c:lt (g p m) (g p (m - 1))=false:=by simpa using c
   have hs':Sto lt p (m+1):=fun i j hij hj=>by
    by_cases e:j=m
    ·subst e
     by_cases e2:i=j
     ·subst e2;exact irr O _
     ·exact O.ntr _ _ _ c (hs i (j - 1) (by omega) (by exact Nat.sub_lt (by assumption) (by decide)))
    ·exact hs i j hij (by omega)
   obtain ⟨a,b,d,e⟩:=ev_asc f (m+1) (by exact Nat.lt_succ_of_lt (by assumption)) hs'
   exact ⟨by exact Nat.le_of_lt (by assumption),by omega,d,fun h=>e (by omega)⟩
theorem Dto.eqv {p p1:Array Nat} {k:Nat} (h:Dto lt p k) (he:∀i,i<k→Eqv lt (g p1 i) (g p i)):Dto lt p1 k:=fun i j hij hj=>
 O.ntr _ _ _ (he i (by exact Nat.lt_of_le_of_lt (by assumption) (by assumption))).1 (O.ntr _ _ _ (h i j hij hj) (he j hj).2)
def Blk (lt:Nat→Nat→Bool) (p:Array Nat) (m q:Nat):Prop:=q+1≤m∧∀i j,m - (q+1)≤i→i<m→m - (q+1)≤j→j<m→Eqv lt (g p i) (g p j)
theorem rev_blk {p:Array Nat} {m q:Nat} (hm:m≤p.size) (hb:Blk lt p m q):∀i,Eqv lt (g (kas_rev p (m - (q+1)) m) i) (g p i):=fun i=>by
 have h1:=hb.1
 rw [g_rev hm]
 split
 ·exact hb.2 _ _ (by omega) (by omega) (by omega) (by omega)
 ·exact ⟨irr O _,irr O _⟩
theorem ev_desc:∀f {p:Array Nat} (m q:Nat),1≤m→m+f≤p.size→Dto lt p m→Blk lt p m q→
  let r:=ev lt (kas_desc f p m q);m≤r.2.1∧r.2.1≤m+f∧r.1.size=p.size∧Dto lt r.1 r.2.1∧Blk lt r.1 r.2.1 r.2.2
 |0,p,m,q,_,_,hd,hb=>⟨Nat.le_refl _,Nat.le_refl _,rfl,hd,hb⟩
 |f+1,p,m,q,h1,hz,hd,hb=>by
  intro r
  have b1:=hb.1
  have single:∀(p':Array Nat),Blk lt p' (m+1) 0:=fun p'=>⟨by exact Nat.lt_succ_of_lt (by assumption),fun i j a b c d=>by
   have:i=j:=by omega
   subst this;exact ⟨irr O _,irr O _⟩⟩
  have low:lt (g p (m - 1)) (g p m)=false→Dto lt p (m+1):=fun c i j hij hj=>by
   by_cases e:j=m
   ·subst e
    by_cases e2:i=j
    ·subst e2;exact irr O _
    ·exact O.ntr _ _ _ (hd i (j - 1) (by omega) (by exact Nat.sub_lt (by assumption) (by decide))) c
   ·exact hd i j hij (by omega)
  by_cases c:lt (g p m) (g p (m - 1))=true
  ·have cl:=low (O.asym _ _ c)
   by_cases hq:q > 0
   ·have e:r=ev lt (kas_desc f (kas_rev p (m - (q+1)) m) (m+1) 0):=by
     show ev lt (if lt (g p m) (g p (m - 1))=true then (if q > 0 then _ else _) else _)=_
     rw [if_pos c,if_pos hq]
    obtain ⟨a,b,s,d,k⟩:=ev_desc f (p:=kas_rev p (m - (q+1)) m) (m+1) 0 (by exact Nat.lt_succ_of_lt (by assumption)) (by rw [rev_size];omega) (Dto.eqv O cl fun i _=>rev_blk O (by omega) hb i) (single _)
    rw [e]
    exact ⟨by exact Nat.le_of_lt (by assumption),by omega,by rw [s,rev_size],d,k⟩
   ·have e:r=ev lt (kas_desc f p (m+1) 0):=by
     show ev lt (if lt (g p m) (g p (m - 1))=true then (if q > 0 then _ else _) else _)=_
     rw [if_pos c,if_neg hq]
    obtain ⟨a,b,s,d,k⟩:=ev_desc f (p:=p) (m+1) 0 (by exact Nat.lt_succ_of_lt (by assumption)) (by omega) cl (single _)
    rw [e]
    exact ⟨by exact Nat.le_of_lt (by assumption),by omega,s,d,k⟩
  ·have c':lt (g p m) (g p (m - 1))=false:=by simpa using c
   by_cases d1:lt (g p (m - 1)) (g p m)=true
   ·have e:r=(p,m,q):=by
     show ev lt (if lt (g p m) (g p (m - 1))=true then _ else KasT.ask _ _ fun d=>if d=true then _ else _)=_
     rw [if_neg c]
     show ev lt (if lt (g p (m - 1)) (g p m)=true then KasT.ret (p,m,q) else _)=_
     rw [if_pos d1]
     rfl
    rw [e]
    exact ⟨Nat.le_refl _,Nat.le_add_right _ _,rfl,hd,hb⟩
   ·have d':lt (g p (m - 1)) (g p m)=false:=by simpa using d1
    have e:r=ev lt (kas_desc f p (m+1) (q+1)):=by
     show ev lt (if lt (g p m) (g p (m - 1))=true then _ else KasT.ask _ _ fun d=>if d=true then _ else _)=_
     rw [if_neg c]
     show ev lt (if lt (g p (m - 1)) (g p m)=true then KasT.ret (p,m,q) else _)=_
     rw [if_neg d1]
    have blk:Blk lt p (m+1) (q+1):=⟨by exact Nat.succ_le_succ (by assumption),fun i j i1 i2 j1 j2=>by
     have to:∀k,m - (q+1)≤k→k<m+1→Eqv lt (g p k) (g p (m - 1)):=fun k k1 k2=>by
      by_cases z:k=m
      ·subst z;exact ⟨c',d'⟩
      ·exact hb.2 k (m - 1) k1 (by omega) (by omega) (by exact Nat.sub_lt (by assumption) (by decide))
     have a:=to i (by omega) i2
     have b:=to j (by omega) j2
     exact ⟨O.ntr _ _ _ a.1 b.2,O.ntr _ _ _ b.1 a.2⟩⟩
    obtain ⟨a,b,s,d,k⟩:=ev_desc f (p:=p) (m+1) (q+1) (by exact Nat.lt_succ_of_lt (by assumption)) (by omega) (low d') blk
    rw [e]
    exact ⟨by exact Nat.le_of_lt (by assumption),by omega,s,d,k⟩
theorem Dto.rev {p:Array Nat} {m:Nat} (hm:m≤p.size) (h:Dto lt p m):Sto lt (kas_rev p 0 m) m:=fun i j hij hj=>by
 rw [g_rev hm,g_rev hm,if_pos ⟨by exact Nat.zero_le _,by assumption⟩,if_pos ⟨by exact Nat.zero_le _,by exact Nat.lt_of_le_of_lt (by assumption) (by assumption)⟩]
 exact h _ _ (by omega) (by omega)
theorem ev_tail3 {p:Array Nat} {m nrem:Nat} (h1:1≤m) (hn:m≤nrem) (hz:nrem≤p.size) (h:Dto lt p m):let r:=ev lt (kas_tail3 m nrem p);1≤r.1∧r.1≤nrem∧Sto lt r.2 r.1:=by
 intro r
 have e:r=(ev lt (kas_asc (kas_rev p 0 m) (nrem - m) m),kas_rev p 0 m):=ev_bind lt _ _
 obtain ⟨a,b,c,_⟩:=ev_asc O (p:=kas_rev p 0 m) (nrem - m) m h1 (Dto.rev O (by exact Nat.le_trans (by assumption) (by assumption)) h)
 rw [e]
 exact ⟨by show 1≤_;exact Nat.le_trans (by assumption) (by assumption),by show _≤nrem;omega,c⟩
theorem ev_descPart {p:Array Nat} {m nrem:Nat} (hn:m+1≤nrem) (hz:nrem≤p.size) (h:Dto lt p (m+1)):let r:=ev lt (kas_descPart m nrem p);1≤r.1∧r.1≤nrem∧Sto lt r.2 r.1:=by
 intro r
 have single:Blk lt p (m+1) 0:=⟨by omega,fun i j a b c d=>by
  have:i=j:=by omega
  subst this;exact ⟨irr O _,irr O _⟩⟩
 obtain ⟨a,b,s,d,k⟩:=ev_desc O (nrem - (m+1)) (p:=p) (m+1) 0 (by omega) (by omega) h single
 have e:r=ev lt (if (ev lt (kas_desc (nrem - (m+1)) p (m+1) 0)).2.2 > 0 then kas_tail3 (ev lt (kas_desc (nrem - (m+1)) p (m+1) 0)).2.1 nrem (kas_rev (ev lt (kas_desc (nrem - (m+1)) p (m+1) 0)).1 ((ev lt (kas_desc (nrem - (m+1)) p (m+1) 0)).2.1 - ((ev lt (kas_desc (nrem - (m+1)) p (m+1) 0)).2.2+1)) (ev lt (kas_desc (nrem - (m+1)) p (m+1) 0)).2.1) else kas_tail3 (ev lt (kas_desc (nrem - (m+1)) p (m+1) 0)).2.1 nrem (ev lt (kas_desc (nrem - (m+1)) p (m+1) 0)).1):=ev_bind lt _ _
 rw [e]
 generalize ev lt (kas_desc (nrem - (m+1)) p (m+1) 0)=x at a b s d k
 by_cases hq:x.2.2 > 0
 ·rw [if_pos hq]
  exact ev_tail3 O (by omega) (by omega) (by rw [rev_size];omega) (Dto.eqv O d fun i _=>rev_blk O (by omega) k i)
 ·rw [if_neg hq]
  exact ev_tail3 O (by omega) (by omega) (by omega) d
theorem ev_count {p:Array Nat} {nrem:Nat} (h1:1≤nrem) (hz:nrem≤p.size):let r:=ev lt (kas_count nrem p);1≤r.1∧r.1≤nrem∧Sto lt r.2 r.1:=by
 intro r
 have s1:Sto lt p 1:=fun i j hij hj=>by
  have a:i=0:=by omega
  have b:j=0:=by omega
  subst a b;exact irr O _
 obtain ⟨a,b,c,e⟩:=ev_asc O (p:=p) (nrem - 1) 1 (Nat.le_refl _) s1
 have er:r=ev lt ((fun n=>if (n==nrem)=true then KasT.ret (n,p) else if n > 1 then KasT.ask (p.getD 0 0) (p.getD (n - 1) 0) fun c=>if c=true then KasT.ret (n,p) else kas_descPart n nrem (kas_rev p 0 n) else kas_descPart n nrem p) (ev lt (kas_asc p (nrem - 1) 1))):=ev_bind lt _ _
 rw [er]
 generalize ev lt (kas_asc p (nrem - 1) 1)=m at a b c e
 dsimp only
 by_cases h2:(m==nrem)=true
 ·rw [if_pos h2]
  exact ⟨a,by show m≤nrem;omega,c⟩
 ·rw [if_neg h2]
  have hm:m<nrem:=by
   have:m≠nrem:=by simpa using h2
   omega
  have last:=e (by omega)
  by_cases h3:m > 1
  ·rw [if_pos h3]
   show let r:=ev lt (if lt (g p 0) (g p (m - 1))=true then KasT.ret (m,p) else kas_descPart m nrem (kas_rev p 0 m));1≤r.1∧r.1≤nrem∧Sto lt r.2 r.1
   by_cases h4:lt (g p 0) (g p (m - 1))=true
   ·rw [if_pos h4]
    exact ⟨a,by show m≤nrem;exact Nat.le_of_lt (by assumption),c⟩
   ·rw [if_neg h4]
    have h4:lt (g p 0) (g p (m - 1))=false:=by simpa using h4
    have all:∀i j,i<m→j<m→lt (g p i) (g p j)=false:=fun i j hi hj=>O.ntr _ _ _ (O.ntr _ _ _ (c 0 i (by exact Nat.zero_le _) hi) h4) (c j (m - 1) (by omega) (by exact Nat.sub_lt (by assumption) (by decide)))
    have blk:Blk lt p m (m - 1):=⟨by exact Nat.sub_lt (by assumption) (by decide),fun i j _ i2 _ j2=>⟨all i j i2 j2,all j i j2 i2⟩⟩
    have d1:Dto lt p (m+1):=fun i j hij hj=>by
     by_cases z:j=m
     ·subst z
      by_cases z2:i=j
      ·subst z2;exact irr O _
      ·exact O.ntr _ _ _ (all i (j - 1) (by omega) (by exact Nat.sub_lt (by assumption) (by decide))) (O.asym _ _ last)
     ·exact all i j (by omega) (by omega)
    have rb:=rev_blk O (by omega) blk
    rw [show m - (m - 1+1)=0 by omega] at rb
    exact ev_descPart O (by assumption) (by rw [rev_size];assumption) (Dto.eqv O d1 fun i _=>rb i)
  ·rw [if_neg h3]
   have:m=1:=by omega
   subst this
   refine ev_descPart O (by assumption) hz fun i j hij hj=> ?_
   by_cases z:i=j
   ·subst z;exact irr O _
   ·have a0:i=0:=by omega
    have b1:j=1:=by omega
    subst a0 b1
    exact O.asym _ _ last
theorem ev_place {p:Array Nat} {k:Nat}:∀f l r,r - l≤f→l≤r→r≤k→(∀i,i<l→lt (g p k) (g p i)=false)→(∀i,r≤i→i<k→lt (g p k) (g p i)=true)→Sto lt p k→
  let x:=ev lt (kas_place p k f l r);x≤k∧(∀i,i<x→lt (g p k) (g p i)=false)∧∀i,x≤i→i<k→lt (g p k) (g p i)=true
 |0,l,r,hf,hlr,hrk,h1,h2,_=>by
  have:l=r:=by omega
  subst this
  exact ⟨hrk,h1,h2⟩
 |f+1,l,r,hf,hlr,hrk,h1,h2,hs=>by
  intro x
  by_cases hl:l ≥ r
  ·have e:x=l:=by
    show ev lt (if l ≥ r then KasT.ret l else _)=l
    rw [if_pos hl];rfl
   have:l=r:=by omega
   subst this
   rw [e]
   exact ⟨hrk,h1,h2⟩
  ·by_cases c:lt (g p k) (g p ((l+r) / 2))=true
   ·have e:x=ev lt (kas_place p k f l ((l+r) / 2)):=by
     show ev lt (if l ≥ r then KasT.ret l else KasT.ask _ _ fun c=>if c=true then _ else _)=_
     rw [if_neg hl]
     show ev lt (if lt (g p k) (g p ((l+r) / 2))=true then _ else _)=_
     rw [if_pos c]
    rw [e]
    refine ev_place f l ((l+r) / 2) (by omega) (by omega) (by omega) h1 (fun i i1 i2=> ?_) hs
    cases z:lt (g p k) (g p i) with
    |true=>rfl
    |false=>
     have:=O.ntr _ _ _ z (hs ((l+r) / 2) i i1 i2)
     rw [c] at this;cases this
   ·have c':lt (g p k) (g p ((l+r) / 2))=false:=by simpa using c
    have e:x=ev lt (kas_place p k f ((l+r) / 2+1) r):=by
     show ev lt (if l ≥ r then KasT.ret l else KasT.ask _ _ fun c=>if c=true then _ else _)=_
     rw [if_neg hl]
     show ev lt (if lt (g p k) (g p ((l+r) / 2))=true then _ else _)=_
     rw [if_neg c]
    rw [e]
    refine ev_place f ((l+r) / 2+1) r (by omega) (by omega) hrk (fun i i1=>O.ntr _ _ _ c' (hs i ((l+r) / 2) (by omega) (by omega))) h2 hs
theorem ev_bin:∀f {p:Array Nat} (k:Nat),k+f=p.size→Sto lt p k→Sto lt (ev lt (kas_bin f p k)) p.size
 |0,p,k,hz,hs=>by
  have:k=p.size:=by assumption
  subst this;exact hs
 |f+1,p,k,hz,hs=>by
  have e:ev lt (kas_bin (f+1) p k)=ev lt (kas_bin f (bubble p k (k - ev lt (kas_place p k k 0 k))) (k+1)):=ev_bind lt _ _
  obtain ⟨x1,x2,x3⟩:=ev_place O (p:=p) (k:=k) k 0 k (by exact Nat.le_refl _) (by exact Nat.zero_le _) (Nat.le_refl _) (fun i hi=>by omega) (fun i i1 i2=>by omega) hs
  rw [e]
  generalize ev lt (kas_place p k k 0 k)=x at x1 x2 x3
  have hs':Sto lt (bubble p k (k - x)) (k+1):=fun i j hij hj=>by
   rw [g_bub (by omega) (by exact Nat.sub_le _ _),g_bub (by omega) (by exact Nat.sub_le _ _),show k - (k - x)=x by omega]
   by_cases j1:j=x
   ·rw [if_pos j1]
    by_cases i1:i=x
    ·rw [if_pos i1];exact irr O _
    ·rw [if_neg i1,if_neg (by omega)]
     exact x2 i (by omega)
   ·rw [if_neg j1]
    by_cases j2:x<j∧j≤k
    ·rw [if_pos j2]
     by_cases i1:i=x
     ·rw [if_pos i1];exact O.asym _ _ (x3 (j - 1) (by omega) (by omega))
     ·rw [if_neg i1]
      by_cases i2:x<i∧i≤k
      ·rw [if_pos i2];exact hs (i - 1) (j - 1) (by omega) (by omega)
      ·rw [if_neg i2];exact hs i (j - 1) (by omega) (by omega)
    ·rw [if_neg j2,if_neg (by omega),if_neg (by omega)]
     exact hs i j hij (by omega)
  have:=ev_bin f (p:=bubble p k (k - x)) (k+1) (by rw [bubble_size];omega) hs'
  rw [bubble_size] at this
  exact this
theorem ev_sort {n:Nat} (h1:1≤n):Sto lt (ev lt (kas_sort n)) n:=by
 have hz:(List.range n).toArray.size=n:=by simp
 have e:ev lt (kas_sort n)=ev lt ((fun r:Nat×Array Nat=>if r.1<n then kas_bin (n - max r.1 1) r.2 (max r.1 1) else .ret r.2) (ev lt (kas_count n (List.range n).toArray))):=ev_bind lt _ _
 obtain ⟨a,b,c⟩:=ev_count O (p:=(List.range n).toArray) h1 (by omega)
 have pm:Pm n (ev lt (kas_count n (List.range n).toArray)).2:=(asks_count (by assumption) n (Array.Perm.refl _)).ev lt
 rw [e]
 generalize ev lt (kas_count n (List.range n).toArray)=r at a b c pm
 dsimp only
 have sz:=pm.size
 by_cases h:r.1<n
 ·rw [if_pos h,show max r.1 1=r.1 by omega]
  have:=ev_bin O (n - r.1) (p:=r.2) r.1 (by omega) c
  rw [sz] at this
  exact this
 ·rw [if_neg h]
  have:r.1=n:=by omega
  rw [this] at c
  exact c
end
end Srt
namespace Srt
open PySem PySem.W PyProof.Rows
section
variable {prog:Program} {w:World} {A:Around} {E:Value→Shared→Prop} {s:Shared}
theorem list_sort_raw {κ:SortKind} {lt:Nat→Nat→Bool} (O:Ord lt) {a:Addr} {vs:List Value} {n:Nat} {P:PySem.Fin→Shared→Prop} (ho:s.heap.get? a=some (seqObj "list" vs.toArray n)) (h64:vs.length<64)
  (hk:∀h',(∀b o,b≠a→s.heap.get? b=some o→h'.get? b=some o)→2≤vs.length→∀Q:SortKind→Shared→Prop,Q κ {s with heap:=h'}→wpAny (model prog w) A (keyKind' vs.toArray) Q E {s with heap:=h'})
  (hc:∀h',(∀b o,b≠a→s.heap.get? b=some o→h'.get? b=some o)→∀i j (C:Bool→Shared→Prop),i<vs.length→j<vs.length→C (lt i j) {s with heap:=h'}→kas_ask prog w A κ vs i j C {s with heap:=h'})
  (h:∀p:Array Nat,Pm vs.length p→Sto lt p vs.length→P (.done (.ret .none)) {s with heap:=sortedHeap s.heap a vs (p.toList.map fun i=>vs.getD i Value.none).toArray}):
  wpAny (model prog w) A (Builtin.«list.sort» ⟨[.ref a],[]⟩) P E s:=by
 rw [list_sort_plain]
 have ha:a<s.heap.objs.size:=Heap.lt_size ho
 refine wpAny_bind (listItems_at ho rfl ?_)
 refine wpAny_bind (listUpdate_at ho rfl ?_ (by rw [List.size_toArray,sizeLine_eq];omega) (Nat.zero_le _))
 obtain ⟨e1,ho1⟩:∃e1,(s.heap.update a (Obj.mapSeq fun _=> #[])).get? a=some (seqObj "list" #[] e1):=⟨_,get?_update_seq ho (fun _=> #[])⟩
 refine wpAny_bind (seqEpoch_at ho1 rfl ?_)
 refine wpAny_bind (wpAny_newTuple ?_ (by show vs.length≤_;rw [sizeLine_eq];omega))
 refine wpAny_bind (wpAny_newList ?_ (Nat.zero_le _))
 refine wpAny_holding ?_
 have keep:∀b o,b≠a→s.heap.get? b=some o→(((s.heap.update a (Obj.mapSeq fun _=> #[])).push (seqObj "tuple" vs.toArray 0)).push (seqObj "list" #[] 0)).get? b=some o:=fun b o ne q=>by
  have hlt:b<s.heap.objs.size:=Heap.lt_size q
  rw [Heap.get?_push_ne _ _ _ (by rw [size_push',Heap.size_update];exact Nat.ne_of_lt (Nat.lt_succ_of_lt hlt)),Heap.get?_push_ne _ _ _ (by rw [Heap.size_update];exact Nat.ne_of_lt hlt),Heap.get?_update_ne _ _ _ _ ne]
  exact q
 have ho6:(((s.heap.update a (Obj.mapSeq fun _=> #[])).push (seqObj "tuple" vs.toArray 0)).push (seqObj "list" #[] 0)).get? a=some (seqObj "list" #[] e1):=by
  rw [Heap.get?_push_ne _ _ _ (by rw [size_push',Heap.size_update];exact Nat.ne_of_lt (Nat.lt_succ_of_lt ha)),Heap.get?_push_ne _ _ _ (by rw [Heap.size_update];exact Nat.ne_of_lt ha)]
  exact ho1
 show wpAny (model prog w) A _ P E {s with heap:=((s.heap.update a (Obj.mapSeq fun _=> #[])).push (seqObj "tuple" vs.toArray 0)).push (seqObj "list" #[] 0)}
 dsimp only
 have hsz:vs.toArray.size=vs.length:=by simp
 by_cases h2:vs.toArray.size<2
 ·rw [if_pos h2,if_pos h2]
  refine wpAny_bind (wpAny_pure ?_)
  rw [StateT.run_pure]
  refine wpAny_bind (wpAny_pure ?_)
  dsimp only
  refine wpAny_bind (seqEpoch_at ho6 rfl ?_)
  refine wpAny_bind (listUpdate_at ho6 rfl ?_ (hsz2:=by rw [Array.size_map];show (pairsOf vs).size≤_;rw [pairsOf_size,sizeLine_eq];omega))
  simp only [bne_self_eq_false,Bool.false_eq_true,if_false]
  have fin:=h (List.range vs.length).toArray (Array.Perm.refl _) (fun i j hij hj=>by
   have:i=j:=by omega
   subst this;exact irr O _)
  have e:(List.range vs.length).toArray.toList.map (fun i=>vs.getD i Value.none)=vs:=by
   refine List.ext_getElem? fun i=> ?_
   simp only [List.getElem?_map]
   by_cases hi:i<vs.length
   ·simp [hi]
   ·simp [Nat.le_of_not_lt hi]
  rw [e] at fin
  have e2:(Array.map (fun x=>x.snd) (vs.toArray.zip vs.toArray))=vs.toArray:=by
   apply Array.toList_inj.mp
   simp [List.map_snd_zip]
  rw [show Array.map (fun x:Keyed=>x.snd) (arrOf (SortSt.mk' general' (vs.toArray.zip vs.toArray) #[] 7 none))=vs.toArray from e2]
  exact wpAny_pure fin
 ·rw [if_neg h2,if_neg h2]
  have h2':2≤vs.length:=by rw [hsz] at h2;exact Nat.not_lt.mp (by assumption)
  refine wpAny_bind (hk _ keep h2' _ ?_)
  refine wpAny_bind (wpAny_mono (kat_run (ks:=vs) (vs:=vs) (κ:=κ) (Q:=fun st' s'=>∃p:Array Nat,s'={s with heap:=((s.heap.update a (Obj.mapSeq fun _=> #[])).push (seqObj "tuple" vs.toArray 0)).push (seqObj "list" #[] 0)}∧Pm vs.length p∧Sto lt p vs.length∧arrOf st'=p.map (kas_item (vs.toArray.zip vs.toArray))∧failedOf st'=none)
   rfl h2' h64 (G:=fun p s'=>s'={s with heap:=((s.heap.update a (Obj.mapSeq fun _=> #[])).push (seqObj "tuple" vs.toArray 0)).push (seqObj "list" #[] 0)}∧Pm vs.length p∧Sto lt p vs.length) (fun p st' s' a1 a2 a3 a4=>⟨p,a4.1,a4.2.1,a4.2.2,a2,a3⟩) ?_) ?_ fun _ _ e=>e)
  ·exact AsksP.wp (lt:=lt) (hc _ keep) (asks_sort (by exact Nat.le_of_lt (by assumption))) ⟨rfl,(asks_sort (by exact Nat.le_of_lt (by assumption))).ev lt,ev_sort O (by exact Nat.le_of_lt (by assumption))⟩
  ·rintro ⟨⟨⟩,st'⟩ s' ⟨p,rfl,hp,hs,har,hf⟩
   dsimp only
   rw [kat_snds rfl har]
   refine wpAny_bind (seqEpoch_at ho6 rfl ?_)
   refine wpAny_bind (listUpdate_at ho6 rfl ?_ (Nat.zero_le _) (by rw [List.size_toArray,List.length_map,Array.length_toList,hp.size,sizeLine_eq];omega))
   rw [hf]
   simp only [bne_self_eq_false,Bool.false_eq_true,if_false]
   exact wpAny_pure (h p hp hs)
theorem sorted_raw {κ:SortKind} {lt:Nat→Nat→Bool} (O:Ord lt) {v:Value} (I:List Value→Prop) {Q:Value→Shared→Prop} (h64:∀vs,I vs→vs.length<64)
  (hcol:∀(Q:List Value→Shared→Prop),(∀vs h1 t1,I vs→(∀b o,s.heap.get? b=some o→h1.get? b=some o)→Q vs {s with heap:=h1,toks:=t1})→wpAny (model prog w) A.in1 (collect v) Q E s)
  (hk:∀vs h' t',I vs→(∀b o,s.heap.get? b=some o→h'.get? b=some o)→2≤vs.length→∀Q:SortKind→Shared→Prop,Q κ {s with heap:=h',toks:=t'}→wpAny (model prog w) A.in1.in1 (keyKind' vs.toArray) Q E {s with heap:=h',toks:=t'})
  (hc:∀vs h' t',I vs→(∀b o,s.heap.get? b=some o→h'.get? b=some o)→∀i j (C:Bool→Shared→Prop),i<vs.length→j<vs.length→C (lt i j) {s with heap:=h',toks:=t'}→kas_ask prog w A.in1.in1 κ vs i j C {s with heap:=h',toks:=t'})
  (h:∀vs (p:Array Nat) (h1 h':Heap) t' l e,I vs→Pm vs.length p→Sto lt p vs.length→(∀b o,s.heap.get? b=some o→h1.get? b=some o)→(∀b o,h1.get? b=some o→h'.get? b=some o)→h1.objs.size≤l→h'.get? l=some (seqObj "list" (p.toList.map fun i=>vs.getD i Value.none).toArray e)→Q (.ref l) {s with heap:=h',toks:=t'}):
  wpAny (model prog w) A (call (.builtin "sorted") [v]) Q E s:=by
 refine Calls.call_function_entry kind_sorted plain_sorted entry_sorted (args_sorted1 _) ?_
 unfold Builtin.«sorted»
 refine wpAny_bind (m:=checkCount "sorted" 1 1 _) (wpAny_pure ?_)
 refine wpAny_bind (hcol _ fun vs h1 t1 hI k1=> ?_)
 have h64:=h64 vs hI
 refine wpAny_bind (wpAny_newList ?_ (by rw [sizeLine_eq];omega))
 have hoL:(h1.push (seqObj "list" vs.toArray 0)).get? h1.objs.size=some (seqObj "list" vs.toArray 0):=Heap.get?_push_size _ rfl
 show wpAny _ _ _ _ _ {s with heap:=h1.push (seqObj "list" vs.toArray 0),toks:=t1}
 have k3:∀b o,h1.get? b=some o→b≠h1.objs.size∧(h1.push (seqObj "list" vs.toArray 0)).get? b=some o:=fun b o q=>
  ⟨Nat.ne_of_lt (Heap.lt_size q),Heap.get?_push_of_some _ q⟩
 have k2:∀b o,s.heap.get? b=some o→b≠h1.objs.size∧(h1.push (seqObj "list" vs.toArray 0)).get? b=some o:=fun b o q=>k3 b o (k1 b o q)
 refine wpAny_bind (wpAny_holding (wpAny_call_entry slot_list_sort ⟨_,hoL,rfl⟩ entry_list_sort (list_sort_raw (s:={s with heap:=h1.push (seqObj "list" vs.toArray 0),toks:=t1}) (κ:=κ) O hoL h64 (fun h' k l2 Q q=> ?_) (fun h' k i j C hi hj q=> ?_) fun p hp hs=>⟨_,rfl,?_⟩) (args_list_sort _)))
 ·exact hk vs h' t1 hI (fun b o q=>k b o (k2 b o q).1 (k2 b o q).2) l2 Q q
 ·exact hc vs h' t1 hI (fun b o q=>k b o (k2 b o q).1 (k2 b o q).2) i j C hi hj q
 ·refine wpAny_pure ⟨_,rfl,?_⟩
  have hz:h1.objs.size<(h1.push (seqObj "list" vs.toArray 0)).objs.size:=by rw [size_push'];exact Nat.lt_succ_self _
  obtain ⟨e,he⟩:∃e,(sortedHeap (h1.push (seqObj "list" vs.toArray 0)) h1.objs.size vs (p.toList.map fun i=>vs.getD i Value.none).toArray).get? h1.objs.size=some (seqObj "list" (p.toList.map fun i=>vs.getD i Value.none).toArray e):=by
   unfold sortedHeap
   obtain ⟨e1,ho1⟩:∃e1,((h1.push (seqObj "list" vs.toArray 0)).update h1.objs.size (Obj.mapSeq fun _=> #[])).get? h1.objs.size=some (seqObj "list" #[] e1):=⟨_,get?_update_seq hoL (fun _=> #[])⟩
   have ho6:((((h1.push (seqObj "list" vs.toArray 0)).update h1.objs.size (Obj.mapSeq fun _=> #[])).push (seqObj "tuple" vs.toArray 0)).push (seqObj "list" #[] 0)).get? h1.objs.size=some (seqObj "list" #[] e1):=by
    exact Heap.get?_push_of_some _ (Heap.get?_push_of_some _ ho1)
   exact ⟨_,get?_update_seq ho6 fun _=>_⟩
  refine h vs p h1 _ t1 h1.objs.size e hI hp hs k1 (fun b o q=> ?_) (Nat.le_refl _) he
  have q2:=k3 b o q
  unfold sortedHeap
  rw [Heap.get?_update_ne _ _ _ _ q2.1]
  refine Heap.get?_push_of_some _ (Heap.get?_push_of_some _ ?_)
  rw [Heap.get?_update_ne _ _ _ _ q2.1]
  exact q2.2
end
end Srt
namespace Srt
open PySem PySem.W PyProof.Rows L2
def ltK:Key→Key→Bool
 | .inl a,.inl b=>decide (a<b)
 | .inr a,.inr b=>decide (a.cps.toList<b.cps.toList)
 | .inl _,.inr _=>true
 | .inr _,.inl _=>false
theorem str_ext {a b:Str} (h:a.cps.toList=b.cps.toList):a=b:=by
 cases a;cases b;simp at h;rw [h]
theorem ltK_irr:∀a,ltK a a=false
 | .inl a=>by simp [ltK]
 | .inr a=>by simp [ltK,List.lt_irrefl]
theorem ltK_tr:∀{a b c},ltK a b=true→ltK b c=true→ltK a c=true
 | .inl a,.inl b,.inl c,h1,h2=>by simp only [ltK,decide_eq_true_eq] at *;omega
 | .inr a,.inr b,.inr c,h1,h2=>by simp only [ltK,decide_eq_true_eq] at *;exact List.lt_trans h1 h2
 | .inl _,.inl _,.inr _,_,_=>rfl
 | .inl _,.inr _,.inr _,_,_=>rfl
 | .inl _,.inr _,.inl _,_,h2=>by simp [ltK] at h2
 | .inr _,.inl _,_,h1,_=>by simp [ltK] at h1
 | .inr _,.inr _,.inl _,_,h2=>by simp [ltK] at h2
theorem ltK_tri:∀a b,ltK a b=false→a=b∨ltK b a=true
 | .inl a,.inl b,h=>by
  simp only [ltK,decide_eq_true_eq,decide_eq_false_iff_not] at *
  rcases Int.lt_trichotomy a b with x|x|x
  ·exact absurd x h
  ·exact .inl (by rw [x])
  ·exact .inr x
 | .inr a,.inr b,h=>by
  simp only [ltK,decide_eq_true_eq,decide_eq_false_iff_not] at *
  by_cases e:b.cps.toList<a.cps.toList
  ·exact .inr e
  ·exact .inl (congrArg Sum.inr (str_ext (List.le_antisymm (List.not_lt.mp e) (List.not_lt.mp h))))
 | .inl _,.inr _,h=>by simp [ltK] at h
 | .inr _,.inl _,_=> .inr rfl
theorem Pm.toList {n:Nat} {p:Array Nat} (h:Pm n p):p.toList.Perm (List.range n):=by
 have:=(Array.perm_iff_toList_perm).mp h
 simpa using this
theorem map_range_getD {α:Type} (l:List α) (d:α):(List.range l.length).map (fun i=>l.getD i d)=l:=by
 refine List.ext_getElem? fun i=> ?_
 simp only [List.getElem?_map]
 by_cases hi:i<l.length
 ·simp [hi]
 ·simp [Nat.le_of_not_lt hi]
theorem Sto.pairwise {lt:Nat→Nat→Bool} {p:Array Nat} {n:Nat} (hz:p.size=n) (h:Sto lt p n):p.toList.Pairwise fun i j=>lt j i=false:=by
 rw [List.pairwise_iff_getElem]
 intro i j hi hj hij
 have:=h i j (Nat.le_of_lt hij) (by simpa [←hz] using hj)
 simp only [Array.length_toList] at hi hj
 have e1:g p i=p.toList[i]:=by simp [g,Array.getD,hi]
 have e2:g p j=p.toList[j]:=by simp [g,Array.getD,hj]
 rw [e1,e2] at this
 exact this
theorem vals_map {α:Type} (f:α→V) (f':α→Value) (hf:∀a,RelV (f a) (f' a)):∀l:List α,Vals (l.map f) (l.map f')
 |[]=> .nil
 |a::l=> .cons (hf a) (vals_map f f' hf l)
end Srt
namespace Srt
open PySem PySem.W PyProof.Rows L2
end Srt
namespace Srt
open PySem PySem.W PyProof.Rows L2
end Srt
namespace L2
open PySem PySem.Spec PyProof.Rows
end L2
namespace L2
open PySem PySem.Spec PyProof.Rows
structure PSo (X:Cx) (st:Stmt) (t:TS):Prop where
 of:PS X st t
structure PSso (X:Cx) (st:List Stmt) (t:TS):Prop where
 of:PSs X st t
structure PEo (X:Cx) (e:Expr) (t:TE):Prop where
 of:PE X e t
structure PAo (X:Cx) (es:List Expr) (t:TA):Prop where
 of:PA X es t
section
variable {X:Cx} {st:Stmt} {rest:List Stmt} {t u:TS} {e:Expr} {es:List Expr} {te:TE} {ta:TA} {pos:Pos}
theorem psso_cons (h1:PSo X st t) (h2:PSso X rest u):PSso X (st::rest) (tSeq t u):=⟨Ag h1.of h2.of⟩
theorem psso_one (h1:PSo X st t):PSso X [st] t:=⟨Ah h1.of⟩
theorem pso_of (h:PS X st t):PSo X st t:=⟨h⟩
theorem peo_of (h:PE X e te):PEo X e te:=⟨h⟩
theorem A6 {i:Int} {j:Nat}:PEo X (.Constant (.int i) j pos) (tC (.int i)):=⟨Af⟩
theorem pao_nil:PAo X [] tNil:=⟨Ac⟩
theorem A1 (ha:PEo X e te) (hr:PAo X es ta) (hs:starEach (e::es) X.env=(false,eval e X.env)::starEach es X.env:=by rfl):PAo X (e::es) (tCons te ta):=⟨Aa ha.of hr.of hs⟩
theorem peo_lst (h:PAo X es ta):PEo X (.List es pos) (tLst ta):=⟨Ca h.of⟩
end
end L2
namespace PySem
end PySem
namespace PySem
end PySem
namespace L2
open PySem PySem.Spec PyProof.Rows
end L2
namespace HT
open PySem PyProof.Rows
end HT
namespace L2
open PySem PySem.Spec PyProof.Rows
end L2
namespace HT
open PySem PyProof.Rows L2
section
open PySem.SeqAt
open PySem.AutoSeq1 (wpAny_loadPart')
open PySem.MeetsSeq PySem.MeetsSeq2 PySem.MeetsSeq3
end
end HT
namespace L2
open PySem PySem.Spec PyProof.Rows
end L2
namespace L2
open PySem PySem.Spec PyProof.Rows
theorem op_neNil {X:Cx} (hu:X.A.units+64<cLine):OpR X (compareOp .NotEq) (fun x y H Q=>∃(a b:Addr) (xs:List V),x= .ref a∧y= .ref b∧SqL X.K H a xs∧SqL X.K H b []∧Q (.bl (!xs.isEmpty)) H):=by
 intro pins s σ H x y u v Q I rx ry h
 obtain ⟨a,b,xs,rfl,rfl,ha,hb,q⟩:=h
 cases rx
 cases ry
 cases xs with
 |nil=>exact op_neD hu pins s σ H (.ref a) (.ref b) _ _ Q I rfl rfl ⟨.list [],.list [],.lst ha .nil,.lst hb .nil,rfl,rfl,by decide,q⟩
 |cons x xs=>
  obtain ⟨its,r1,h1,_⟩:=I.list ha
  obtain ⟨its2,r2,h2,_⟩:=I.list hb
  have l1:=r1.length
  have l2:=r2.length
  refine SeqAt.RcNeAt.lists_lengths h1.isList h2.isList (by simp at l1 l2 ⊢;omega) (by omega) X.prog X.w _ _ ⟨.bl _,H,I,rfl,q⟩
end L2
namespace L2
open PySem PySem.Spec PyProof.Rows
end L2
namespace L2
open PySem PySem.Spec PyProof.Rows
end L2
namespace PySem
open PyProof.Rows
end PySem
namespace L2
open PySem PySem.Spec PyProof.Rows
end L2
namespace PySem
open PyProof.Rows
namespace F
end F
end PySem
namespace L2
open PySem PySem.Spec PyProof.Rows
end L2
namespace Wk
open PySem
abbrev T4:=Str×Nat×Nat×Int
def nbT (v:Nat) (t:T4):List (Str×Nat):=(if t.2.1=v then [(t.1,t.2.2.1)] else [])++(if t.2.2.1=v then [(t.1,t.2.1)] else [])
def Bm (S:List T4) (v:Nat):List (Str×Nat):=S.flatMap (nbT v)
abbrev Ws:=List (Option (List Str))
def Bo (w:List Str):List (Str×Nat)→Ws×List Nat→Ws×List Nat
 |[],st=>st
 |(n,u)::r,st=>if st.1[u]? =some none then Bo w r (st.1.set u (some (w++[n])),st.2++[u]) else Bo w r st
def bstep (S:List T4) (st:Ws×List Nat):Ws×List Nat:=
 match st.2 with
 |[]=>st
 |h::rest=>Bo ((st.1[h]?.join).getD []) (Bm S h) (st.1,rest)
def Bx (N p:Nat):Ws×List Nat:=((List.replicate N none).set p (some []),[p])
def iter (S:List T4):Nat→Ws×List Nat→Ws×List Nat
 |0,st=>st
 |n+1,st=>iter S n (bstep S st)
def waysF (N:Nat) (S:List T4) (p:Nat):Ws:=(iter S 64 (Bx N p)).1
theorem iter_nil {S:List T4}:∀(n:Nat) {ws:Ws},iter S n (ws,[])=(ws,[])
 |0,_=>rfl
 |n+1,ws=>iter_nil n (ws:=ws)
theorem iter_snoc {S:List T4}:∀(n:Nat) (st:Ws×List Nat),iter S (n+1) st=bstep S (iter S n st)
 |0,st=>rfl
 |n+1,st=>iter_snoc n (bstep S st)
theorem iter_add {S:List T4} (m:Nat):∀(n:Nat) (st:Ws×List Nat),iter S (n+m) st=iter S m (iter S n st)
 |0,st=>by rw [Nat.zero_add];rfl
 |n+1,st=>by rw [show n+1+m=(n+m)+1 by omega];exact iter_add m n (bstep S st)
theorem ways_of {N p i:Nat} {S:List T4} {ws:Ws} (h:iter S i (Bx N p)=(ws,[])) (hi:i≤64):waysF N S p=ws:=by
 unfold waysF
 rw [show 64=i+(64 - i) by omega,iter_add,h,iter_nil]
inductive Lead (S:List T4) (a:Nat):List Str→Nat→Prop
 |nil:Lead S a [] a
 |snoc {ws:List Str} {b c:Nat} {n:Str}:Lead S a ws b→(n,c)∈Bm S b→Lead S a (ws++[n]) c
def nones (ws:Ws):Nat:=ws.countP (·==none)
def Vis (ws:Ws) (v:Nat) (w:List Str):Prop:=ws[v]? =some (some w)
structure PInv (S:List T4) (N p h:Nat) (w:List Str) (st:Ws×List Nat):Prop where
 len:st.1.length=N
 lead:∀v x,Vis st.1 v x→Lead S p x v
 vis:∀v∈st.2,∃x,Vis st.1 v x
 done:∀v x,Vis st.1 v x→v∈st.2∨v=h∨∀nb∈Bm S v,∃y,Vis st.1 nb.2 y∧y.length≤x.length+1
 sorted:st.2.Pairwise fun a b=>∀x y,Vis st.1 a x→Vis st.1 b y→x.length≤y.length
 top:∀v x b y,Vis st.1 v x→b∈st.2→Vis st.1 b y→x.length≤y.length+1
 hv:Vis st.1 h w
 ht:∀v x,Vis st.1 v x→x.length≤w.length+1
 hb:∀b y,b∈st.2→Vis st.1 b y→w.length≤y.length
theorem Bk {ws:Ws} {u:Nat} {z:List Str} (hu:ws[u]? =some none) {v:Nat} {x:List Str}:Vis (ws.set u (some z)) v x↔(v=u∧x=z)∨Vis ws v x:=by
 unfold Vis
 have hl:u<ws.length:=(List.getElem?_eq_some_iff.mp hu).1
 rw [List.getElem?_set]
 by_cases e:u=v
 ·subst e
  rw [if_pos rfl,if_pos hl,hu]
  constructor
  ·intro q;left;exact ⟨rfl,by simpa using q.symm⟩
  ·rintro (⟨_,rfl⟩|q)
   ·rfl
   ·simp at q
 ·rw [if_neg e]
  constructor
  ·exact .inr
  ·rintro (⟨rfl,_⟩|q)
   ·exact absurd rfl e
   ·exact q
theorem vis_inj {ws:Ws} {v:Nat} {x y:List Str} (a:Vis ws v x) (b:Vis ws v y):x=y:=by
 unfold Vis at a b;rw [a] at b;simpa using b
theorem visit_ok {S:List T4} {N p h:Nat} {w:List Str}:∀(L:List (Str×Nat)) (st:Ws×List Nat),PInv S N p h w st→(∀nb∈L,nb∈Bm S h∧nb.2<N)→
  PInv S N p h w (Bo w L st)∧(∀v x,Vis st.1 v x→Vis (Bo w L st).1 v x)∧(∀nb∈L,∃y,Vis (Bo w L st).1 nb.2 y∧y.length≤w.length+1)∧nones (Bo w L st).1+(Bo w L st).2.length=nones st.1+st.2.length
 |[],st,I,_=>⟨I,fun _ _ e=>e,fun nb h=>(by cases h),rfl⟩
 |(n,u)::r,st,I,hL=>by
  have hr:∀nb∈r,nb∈Bm S h∧nb.2<N:=fun nb q=>hL nb (List.mem_cons_of_mem _ q)
  have hn:=hL (n,u) (List.mem_cons_self ..)
  have hu:u<st.1.length:=by rw [I.len];exact hn.2
  unfold Bo
  by_cases e:st.1[u]? =some none
  ·rw [if_pos e]
   have I':PInv S N p h w (st.1.set u (some (w++[n])),st.2++[u]):=by
    have nu:∀x,¬Vis st.1 u x:=fun x q=>by unfold Vis at q;rw [e] at q;simp at q
    refine ⟨by simp [I.len],?_,?_,?_,?_,?_,?_,?_,?_⟩
    ·intro v x q
     rcases (Bk e).mp q with ⟨rfl,rfl⟩|q
     ·exact .snoc (I.lead h w I.hv) hn.1
     ·exact I.lead v x q
    ·intro v q
     rcases List.mem_append.mp q with q|q
     ·obtain ⟨x,hx⟩:=I.vis v q;exact ⟨x,(Bk e).mpr (.inr hx)⟩
     ·rw [List.mem_singleton.mp q];exact ⟨_,(Bk e).mpr (.inl ⟨rfl,rfl⟩)⟩
    ·intro v x q
     rcases (Bk e).mp q with ⟨rfl,rfl⟩|q
     ·exact .inl (List.mem_append_right _ (List.mem_singleton.mpr rfl))
     ·rcases I.done v x q with a|a|a
      ·exact .inl (List.mem_append_left _ a)
      ·exact .inr (.inl a)
      ·exact .inr (.inr fun nb hb=>let ⟨y,hy,hl⟩:=a nb hb;⟨y,(Bk e).mpr (.inr hy),hl⟩)
    ·refine List.pairwise_append.mpr ⟨?_,List.pairwise_singleton ..,?_⟩
     ·refine (List.Pairwise.imp_of_mem ?_ I.sorted)
      intro a b ha hb k x y hx hy
      have hx':Vis st.1 a x:=by
       rcases (Bk e).mp hx with ⟨rfl,_⟩|q
       ·obtain ⟨z,hz⟩:=I.vis _ ha;exact absurd hz (nu z)
       ·exact q
      have hy':Vis st.1 b y:=by
       rcases (Bk e).mp hy with ⟨rfl,_⟩|q
       ·obtain ⟨z,hz⟩:=I.vis _ hb;exact absurd hz (nu z)
       ·exact q
      exact k x y hx' hy'
     ·intro a ha b hb x y hx hy
      rw [List.mem_singleton.mp hb] at hy
      rcases (Bk e).mp hy with ⟨_,rfl⟩|q
      ·rcases (Bk e).mp hx with ⟨_,rfl⟩|q
       ·exact Nat.le_refl _
       ·have:=I.ht a x q;simp only [List.length_append,List.length_cons,List.length_nil];assumption
      ·exact absurd q (nu y)
    ·intro v x b y hx hb hy
     have hx1:x.length≤w.length+1:=by
      rcases (Bk e).mp hx with ⟨_,rfl⟩|q
      ·simp
      ·exact I.ht v x q
     have hy1:w.length≤y.length:=by
      rcases (Bk e).mp hy with ⟨_,rfl⟩|q
      ·simp
      ·rcases List.mem_append.mp hb with hb|hb
       ·exact I.hb b y hb q
       ·rw [List.mem_singleton.mp hb] at q;exact absurd q (nu y)
     omega
    ·exact (Bk e).mpr (.inr I.hv)
    ·intro v x hx
     rcases (Bk e).mp hx with ⟨_,rfl⟩|q
     ·simp
     ·exact I.ht v x q
    ·intro b y hb hy
     rcases (Bk e).mp hy with ⟨_,rfl⟩|q
     ·simp
     ·rcases List.mem_append.mp hb with hb|hb
      ·exact I.hb b y hb q
      ·rw [List.mem_singleton.mp hb] at q;exact absurd q (nu y)
   obtain ⟨a,b,c,d⟩:=visit_ok r _ I' hr
   refine ⟨a,fun v x q=>b v x ((Bk e).mpr (.inr q)),fun nb q=> ?_,?_⟩
   ·rcases List.mem_cons.mp q with rfl|q
    ·exact ⟨_,b _ _ ((Bk e).mpr (.inl ⟨rfl,rfl⟩)),by simp⟩
    ·exact c nb q
   ·rw [d]
    have:nones (st.1.set u (some (w++[n])))+1=nones st.1:=by
     unfold nones
     have hg:st.1[u]=none:=by have:=List.getElem?_eq_some_iff.mp e;exact this.2
     rw [List.countP_set (h:=hu),hg]
     have:0<st.1.countP (·==none):=List.countP_pos_iff.mpr ⟨none,by rw [←hg];exact List.getElem_mem hu,rfl⟩
     simp only [beq_self_eq_true,if_true]
     show st.1.countP (·==none) - 1+0+1=_
     omega
    simp only [List.length_append,List.length_cons,List.length_nil]
    omega
  ·rw [if_neg e]
   obtain ⟨a,b,c,d⟩:=visit_ok r st I hr
   refine ⟨a,b,fun nb q=> ?_,d⟩
   rcases List.mem_cons.mp q with rfl|q
   ·have:∃y,Vis st.1 u y:=by
     cases hh:st.1[u]? with
     |none=>rw [List.getElem?_eq_getElem hu] at hh;cases hh
     |some z=>cases z with
      |none=>exact absurd hh e
      |some y=>exact ⟨y,hh⟩
    obtain ⟨y,hy⟩:=this
    exact ⟨y,b _ _ hy,I.ht _ _ hy⟩
   ·exact c nb q
structure BInv (S:List T4) (N p:Nat) (st:Ws×List Nat):Prop where
 len:st.1.length=N
 p0:Vis st.1 p []
 lead:∀v x,Vis st.1 v x→Lead S p x v
 vis:∀v∈st.2,∃x,Vis st.1 v x
 done:∀v x,Vis st.1 v x→v∈st.2∨∀nb∈Bm S v,∃y,Vis st.1 nb.2 y∧y.length≤x.length+1
 sorted:st.2.Pairwise fun a b=>∀x y,Vis st.1 a x→Vis st.1 b y→x.length≤y.length
 top:∀v x b y,Vis st.1 v x→b∈st.2→Vis st.1 b y→x.length≤y.length+1
def InN (N:Nat) (S:List T4):Prop:=∀t∈S,t.2.1<N∧t.2.2.1<N
theorem nb_lt {N:Nat} {S:List T4} (h:InN N S) {v:Nat} {nb:Str×Nat} (q:nb∈Bm S v):nb.2<N:=by
 obtain ⟨t,ht,q⟩:=List.mem_flatMap.mp q
 have:=h t ht
 unfold nbT at q
 rcases List.mem_append.mp q with q|q
 ·split at q
  ·rw [List.mem_singleton.mp q];exact this.2
  ·cases q
 ·split at q
  ·rw [List.mem_singleton.mp q];exact this.1
  ·cases q
theorem binv0 {S:List T4} {N p:Nat} (hp:p<N):BInv S N p (Bx N p):=by
 have hu:(List.replicate N (none:Option (List Str)))[p]? =some none:=by rw [List.getElem?_replicate];rw [if_pos hp]
 have nv:∀v x,¬Vis (List.replicate N (none:Option (List Str))) v x:=fun v x q=>by
  unfold Vis at q;rw [List.getElem?_replicate] at q;split at q<;> simp at q
 have key:∀v x,Vis (Bx N p).1 v x→v=p∧x=[]:=fun v x q=>by
  rcases (Bk hu).mp q with q|q
  ·exact q
  ·exact absurd q (nv v x)
 refine ⟨by simp [Bx],(Bk hu).mpr (.inl ⟨rfl,rfl⟩),?_,?_,?_,?_,?_⟩
 ·intro v x q;obtain ⟨rfl,rfl⟩:=key v x q;exact .nil
 ·intro v q;rw [List.mem_singleton.mp q];exact ⟨_,(Bk hu).mpr (.inl ⟨rfl,rfl⟩)⟩
 ·intro v x q;obtain ⟨rfl,rfl⟩:=key v x q;exact .inl (List.mem_singleton.mpr rfl)
 ·exact List.pairwise_singleton ..
 ·intro v x b y q _ q2;obtain ⟨rfl,rfl⟩:=key v x q;simp
theorem binit_vis {N p:Nat} (hp:p<N) {v:Nat} {x:List Str} (q:Vis (Bx N p).1 v x):x=[]:=by
 have hu:(List.replicate N (none:Option (List Str)))[p]? =some none:=by rw [List.getElem?_replicate];rw [if_pos hp]
 rcases (Bk hu).mp q with q|q
 ·exact q.2
 ·unfold Vis at q;rw [List.getElem?_replicate] at q;split at q<;> simp at q
theorem pinv_of {S:List T4} {N p h:Nat} {ws:Ws} {rest:List Nat} (I:BInv S N p (ws,h::rest)):∃w,Vis ws h w∧PInv S N p h w (ws,rest):=by
 obtain ⟨w,hw⟩:=I.vis h (List.mem_cons_self ..)
 refine ⟨w,hw,I.len,I.lead,fun v q=>I.vis v (List.mem_cons_of_mem _ q),?_,(List.pairwise_cons.mp I.sorted).2,fun v x b y a q=>I.top v x b y a (List.mem_cons_of_mem _ q),hw,fun v x q=>I.top v x h w q (List.mem_cons_self ..) hw,fun b y q hb=>(List.pairwise_cons.mp I.sorted).1 b q w y hw hb⟩
 intro v x q
 rcases I.done v x q with a|a
 ·rcases List.mem_cons.mp a with rfl|a
  ·exact .inr (.inl rfl)
  ·exact .inl a
 ·exact .inr (.inr a)
theorem bstep_ok {S:List T4} {N p h:Nat} {ws:Ws} {rest:List Nat} (hS:InN N S) (I:BInv S N p (ws,h::rest)):
  BInv S N p (bstep S (ws,h::rest))∧nones (bstep S (ws,h::rest)).1+(bstep S (ws,h::rest)).2.length+1=nones ws+(h::rest).length:=by
 obtain ⟨w,hw,J⟩:=pinv_of I
 have e:bstep S (ws,h::rest)=Bo w (Bm S h) (ws,rest):=by
  show Bo ((ws[h]?.join).getD []) (Bm S h) (ws,rest)=_
  unfold Vis at hw
  rw [hw];rfl
 rw [e]
 obtain ⟨a,b,c,d⟩:=visit_ok (Bm S h) (ws,rest) J fun nb q=>⟨q,nb_lt hS q⟩
 refine ⟨⟨a.len,b _ _ I.p0,a.lead,a.vis,?_,a.sorted,a.top⟩,by rw [d];rfl⟩
 intro v x q
 rcases a.done v x q with r|rfl|r
 ·exact .inl r
 ·refine .inr fun nb hb=> ?_
  have:=vis_inj q a.hv
  subst this
  exact c nb hb
 ·exact .inr r
theorem iter_ok {S:List T4} {N p:Nat} (hS:InN N S):∀(n:Nat) (st:Ws×List Nat),BInv S N p st→BInv S N p (iter S n st)∧((iter S n st).2=[]∨nones (iter S n st).1+(iter S n st).2.length+n=nones st.1+st.2.length)
 |0,st,I=>⟨I,.inr rfl⟩
 |n+1,(ws,[]),I=>by
  have e:iter S (n+1) (ws,[])=(ws,[]):=iter_nil (n+1)
  rw [e];exact ⟨I,.inl rfl⟩
 |n+1,(ws,h::rest),I=>by
  obtain ⟨a,b⟩:=bstep_ok hS I
  obtain ⟨c,d⟩:=iter_ok hS n _ a
  refine ⟨c,?_⟩
  rcases d with d|d
  ·exact .inl d
  ·refine .inr ?_
   show nones (iter S n (bstep S (ws,h::rest))).1+(iter S n (bstep S (ws,h::rest))).2.length+(n+1)=nones ws+(h::rest).length
   omega
theorem ways_end {S:List T4} {N p:Nat} (hS:InN N S) (hp:p<N) (hN:N≤60):∃ws,iter S 64 (Bx N p)=(ws,[])∧BInv S N p (ws,[]):=by
 obtain ⟨a,b⟩:=iter_ok hS 64 (Bx N p) (binv0 hp)
 have:nones (Bx N p).1+(Bx N p).2.length≤N+1:=by
  have:nones (Bx N p).1≤(Bx N p).1.length:=List.countP_le_length
  simp only [Bx,List.length_set,List.length_replicate,List.length_singleton] at this ⊢
  exact Nat.succ_le_succ (by assumption)
 have e:(iter S 64 (Bx N p)).2=[]:=by
  rcases b with b|b
  ·exact b
  ·omega
 refine ⟨(iter S 64 (Bx N p)).1,Prod.ext rfl e,?_⟩
 have:iter S 64 (Bx N p)=((iter S 64 (Bx N p)).1,[]):=Prod.ext rfl e
 rw [this] at a
 exact a
theorem ways_len {S:List T4} {N p:Nat} (hS:InN N S) (hp:p<N) (hN:N≤60):(waysF N S p).length=N:=by
 obtain ⟨ws,e,I⟩:=ways_end hS hp hN
 rw [ways_of e (Nat.le_refl _)];exact I.len
theorem ways_lead {S:List T4} {N p:Nat} (hS:InN N S) (hp:p<N) (hN:N≤60) {v:Nat} {x:List Str} (h:Vis (waysF N S p) v x):Lead S p x v:=by
 obtain ⟨ws,e,I⟩:=ways_end hS hp hN
 rw [ways_of e (Nat.le_refl _)] at h;exact I.lead v x h
theorem ways_least {S:List T4} {N p:Nat} (hS:InN N S) (hp:p<N) (hN:N≤60) {v:Nat} {x:List Str} (h:Lead S p x v):∃y,Vis (waysF N S p) v y∧y.length≤x.length:=by
 obtain ⟨ws,e,I⟩:=ways_end hS hp hN
 rw [ways_of e (Nat.le_refl _)]
 induction h with
 |nil=>exact ⟨[],I.p0,Nat.le_refl _⟩
 |snoc a b ih=>
  obtain ⟨y,hy,hl⟩:=ih
  rcases I.done _ _ hy with q|q
  ·cases q
  ·obtain ⟨z,hz,hl2⟩:=q _ b
   exact ⟨z,hz,by simp only [List.length_append,List.length_cons,List.length_nil] at hl2 ⊢;omega⟩
def Ao (N:Nat) (S:List T4) (p:Nat):List Nat:=(List.range N).filter fun v=>((waysF N S p)[v]?.join).isSome
def Reach (S:List T4) (a b:Nat):Prop:=∃ws,Lead S a ws b
theorem vis_iff {ws:Ws} {v:Nat}:(ws[v]?.join).isSome=true↔∃x,Vis ws v x:=by
 unfold Vis
 cases ws[v]? with
 |none=>simp
 |some z=>cases z<;> simp
theorem Bg {S:List T4} {N p v:Nat} (hS:InN N S) (hp:p<N) (hN:N≤60):v∈Ao N S p↔v<N∧Reach S p v:=by
 unfold Ao
 rw [List.mem_filter,List.mem_range,vis_iff]
 constructor
 ·rintro ⟨a,x,hx⟩;exact ⟨a,x,ways_lead hS hp hN hx⟩
 ·rintro ⟨a,x,hx⟩;obtain ⟨y,hy,_⟩:=ways_least hS hp hN hx;exact ⟨a,y,hy⟩
theorem Reach.refl {S:List T4} {a:Nat}:Reach S a a:=⟨[],.nil⟩
theorem nb_symm {S:List T4} {a b:Nat} {n:Str} (h:(n,b)∈Bm S a):(n,a)∈Bm S b:=by
 obtain ⟨t,ht,q⟩:=List.mem_flatMap.mp h
 refine List.mem_flatMap.mpr ⟨t,ht,?_⟩
 unfold nbT at q ⊢
 rcases List.mem_append.mp q with q|q
 ·split at q
  ·rename_i e
   have:=List.mem_singleton.mp q
   cases this
   refine List.mem_append_right _ ?_
   rw [if_pos rfl,e];exact List.mem_singleton.mpr rfl
  ·cases q
 ·split at q
  ·rename_i e
   have:=List.mem_singleton.mp q
   cases this
   refine List.mem_append_left _ ?_
   rw [if_pos rfl,e];exact List.mem_singleton.mpr rfl
  ·cases q
theorem Reach.trans {S:List T4} {a b c:Nat} (h:Reach S a b) (g:Reach S b c):Reach S a c:=by
 obtain ⟨x,hx⟩:=h
 obtain ⟨y,hy⟩:=g
 induction hy with
 |nil=>exact ⟨x,hx⟩
 |snoc _ q ih=>obtain ⟨z,hz⟩:=ih;exact ⟨_,.snoc hz q⟩
theorem Reach.step {S:List T4} {a b:Nat} {n:Str} (h:(n,b)∈Bm S a):Reach S a b:=⟨[]++[n],.snoc .nil h⟩
theorem Reach.symm {S:List T4} {a b:Nat} (h:Reach S a b):Reach S b a:=by
 obtain ⟨x,hx⟩:=h
 induction hx with
 |nil=>exact .refl
 |snoc _ q ih=>exact (Reach.step (nb_symm q)).trans ih
theorem nb_of {S:List T4} {t:T4} (h:t∈S):(t.1,t.2.2.1)∈Bm S t.2.1:=List.mem_flatMap.mpr ⟨t,h,List.mem_append_left _ (by rw [if_pos rfl];exact List.mem_singleton.mpr rfl)⟩
theorem nb_elim {S:List T4} {a b:Nat} {n:Str} (h:(n,b)∈Bm S a):∃t∈S,t.1=n∧((t.2.1=a∧t.2.2.1=b)∨(t.2.2.1=a∧t.2.1=b)):=by
 obtain ⟨t,ht,q⟩:=List.mem_flatMap.mp h
 refine ⟨t,ht,?_⟩
 unfold nbT at q
 rcases List.mem_append.mp q with q|q
 ·split at q
  ·rename_i e
   have:=List.mem_singleton.mp q
   cases this
   exact ⟨rfl,.inl ⟨e,rfl⟩⟩
  ·cases q
 ·split at q
  ·rename_i e
   have:=List.mem_singleton.mp q
   cases this
   exact ⟨rfl,.inr ⟨e,rfl⟩⟩
  ·cases q
def relab (l:List Nat) (lo hi:Nat):List Nat:=l.map fun x=>if x=hi then lo else x
def labS (l:List Nat) (t:T4):List Nat:=relab l (min (l.getD t.2.1 0) (l.getD t.2.2.1 0)) (max (l.getD t.2.1 0) (l.getD t.2.2.1 0))
def Bf (N:Nat) (S:List T4):List Nat:=S.foldl labS (List.range N)
theorem labS_len (l:List Nat) (t:T4):(labS l t).length=l.length:=by simp [labS,relab]
theorem labs_len (S:List T4):∀l:List Nat,(S.foldl labS l).length=l.length:=by
 induction S with
 |nil=>intro l;rfl
 |cons t S ih=>intro l;rw [List.foldl_cons,ih,labS_len]
theorem Cl (N:Nat) (S:List T4):(Bf N S).length=N:=by unfold Bf;rw [labs_len,List.length_range]
theorem relab_get {l:List Nat} {lo hi v:Nat} (hv:v<l.length):(relab l lo hi).getD v 0=if l.getD v 0=hi then lo else l.getD v 0:=by
 unfold relab
 rw [List.getD_eq_getElem?_getD,List.getElem?_map,List.getElem?_eq_getElem hv,List.getD_eq_getElem?_getD,List.getElem?_eq_getElem hv];rfl
theorem labS_get {l:List Nat} {t:T4} {v:Nat} (hv:v<l.length):(labS l t).getD v 0=if l.getD v 0=max (l.getD t.2.1 0) (l.getD t.2.2.1 0) then min (l.getD t.2.1 0) (l.getD t.2.2.1 0) else l.getD v 0:=relab_get hv
theorem labs_keep {u v:Nat} (S:List T4):∀l:List Nat,u<l.length→v<l.length→l.getD u 0=l.getD v 0→(S.foldl labS l).getD u 0=(S.foldl labS l).getD v 0:=by
 induction S with
 |nil=>intro l _ _ h;exact h
 |cons t S ih=>
  intro l hu hv h
  rw [List.foldl_cons]
  exact ih _ (by rw [labS_len];exact hu) (by rw [labS_len];exact hv) (by rw [labS_get hu,labS_get hv,h])
theorem labs_tie {N:Nat} (S:List T4):∀l:List Nat,l.length=N→InN N S→∀t∈S,(S.foldl labS l).getD t.2.1 0=(S.foldl labS l).getD t.2.2.1 0:=by
 induction S with
 |nil=>intro l _ _ t h;cases h
 |cons t S ih=>
  intro l hl hN t' h
  rw [List.foldl_cons]
  rcases List.mem_cons.mp h with rfl|h
  ·have:=hN t' (List.mem_cons_self ..)
   refine labs_keep S _ (by rw [labS_len];omega) (by rw [labS_len];omega) ?_
   rw [labS_get (by omega),labS_get (by omega)]
   split<;> split<;> omega
  ·exact ih _ (by rw [labS_len];exact hl) (fun x q=>hN x (List.mem_cons_of_mem _ q)) t' h
theorem nbrs_mono {S S':List T4} (h:∀t∈S,t∈S') {v:Nat} {nb:Str×Nat} (q:nb∈Bm S v):nb∈Bm S' v:=by
 obtain ⟨t,ht,q⟩:=List.mem_flatMap.mp q
 exact List.mem_flatMap.mpr ⟨t,h t ht,q⟩
theorem Reach.mono {S S':List T4} (h:∀t∈S,t∈S') {a b:Nat} (q:Reach S a b):Reach S' a b:=by
 obtain ⟨x,hx⟩:=q
 induction hx with
 |nil=>exact .refl
 |snoc _ q ih=>exact ih.trans (.step (nbrs_mono h q))
theorem labs_reach {N:Nat} {S0:List T4} (S:List T4):∀l:List Nat,l.length=N→InN N S→(∀t∈S,t∈S0)→(∀u v,u<N→v<N→l.getD u 0=l.getD v 0→Reach S0 u v)→∀u v,u<N→v<N→(S.foldl labS l).getD u 0=(S.foldl labS l).getD v 0→Reach S0 u v:=by
 induction S with
 |nil=>intro l _ _ _ h;exact h
 |cons t S ih=>
  intro l hl hN hS h
  rw [List.foldl_cons]
  refine ih _ (by rw [labS_len];exact hl) (fun x q=>hN x (List.mem_cons_of_mem _ q)) (fun x q=>hS x (List.mem_cons_of_mem _ q)) ?_
  intro u v hu hv e
  have ht:=hN t (List.mem_cons_self ..)
  have tt:Reach S0 t.2.1 t.2.2.1:= .step (nb_of (hS t (List.mem_cons_self ..)))
  rw [labS_get (by omega),labS_get (by omega)] at e
  have q1:∀x,x<N→(l.getD x 0=max (l.getD t.2.1 0) (l.getD t.2.2.1 0)∨l.getD x 0=min (l.getD t.2.1 0) (l.getD t.2.2.1 0))→Reach S0 x t.2.1:=by
   intro x hx hm
   have:l.getD x 0=l.getD t.2.1 0∨l.getD x 0=l.getD t.2.2.1 0:=by omega
   rcases this with q|q
   ·exact h x _ hx ht.1 q
   ·exact (h x _ hx ht.2 q).trans tt.symm
  split at e
  ·split at e
   ·exact (q1 u hu (.inl (by assumption))).trans (q1 v hv (.inl (by assumption))).symm
   ·exact (q1 u hu (.inl (by assumption))).trans (q1 v hv (.inr e.symm)).symm
  ·split at e
   ·exact (q1 u hu (.inr e)).trans (q1 v hv (.inl (by assumption))).symm
   ·exact h u v hu hv e
theorem lab_iff {N:Nat} {S:List T4} (hS:InN N S) {u v:Nat} (hu:u<N) (hv:v<N):(Bf N S).getD u 0=(Bf N S).getD v 0↔Reach S u v:=by
 constructor
 ·refine labs_reach S (List.range N) (List.length_range ..) hS (fun _ h=>h) ?_ u v hu hv
  intro a b ha hb e
  rw [List.getD_eq_getElem?_getD,List.getElem?_range ha,List.getD_eq_getElem?_getD,List.getElem?_range hb] at e
  have:a=b:=e
  subst this;exact .refl
 ·rintro ⟨x,hx⟩
  induction hx with
  |nil=>rfl
  | @snoc ws b c n a q ih=>
   have hb:b<N:=by
    cases a with
    |nil=>exact hu
    |snoc _ r=>exact nb_lt hS r
   have hc:c<N:=nb_lt hS q
   refine (ih hb).trans ?_
   obtain ⟨t,ht,_,h⟩:=nb_elim q
   have:=labs_tie S (List.range N) (List.length_range ..) hS t ht
   rcases h with ⟨rfl,rfl⟩|⟨rfl,rfl⟩
   ·exact this
   ·exact this.symm
theorem part_lab {N p:Nat} {S:List T4} (hS:InN N S) (hp:p<N) (hN:N≤60):Ao N S p=(List.range N).filter fun v=>decide ((Bf N S).getD v 0=(Bf N S).getD p 0):=by
 refine List.filter_congr fun v hv=> ?_
 have hv:=List.mem_range.mp hv
 rw [Bool.eq_iff_iff,decide_eq_true_eq,lab_iff hS hv hp]
 have:=Bg (v:=v) hS hp hN
 unfold Ao at this
 rw [List.mem_filter,List.mem_range] at this
 constructor
 ·intro h;exact (this.mp ⟨hv,h⟩).2.symm
 ·intro h;exact (this.mpr ⟨hv,h.symm⟩).2
end Wk
namespace L2
open PySem
theorem while_gh {c:TT} {tb:TS} {D:Ends} {σ:St} {H:Hp} (Pv:Nat→St→Hp→Prop) {m0:Nat} (h0:Pv m0 σ H)
  (hs:∀m σ H,Pv m σ H→c σ H fun b H1=>if b=true then tb {D with nx:=fun σ' H'=>∃m',m'<m∧Pv m' σ' H',ct:=fun σ' H'=>∃m',m'<m∧Pv m' σ' H',bk:=D.nx} σ H1 else D.nx σ H1)
  (mono:∀σ H Q Q',(∀b H1,Q b H1→Q' b H1)→c σ H Q→c σ H Q'):tWhile c tb D σ H:=by
 refine ⟨Pv,⟨m0,h0⟩,fun m σ H p=> ?_⟩
 refine mono σ H _ _ (fun b H1 q=> ?_) (hs m σ H p)
 cases b with
 |true=>exact ⟨_,fun _ _ h=>h,q⟩
 |false=>exact q
theorem A2 {H0 H:Hp} {a:Addr} {o:HO} (s:Same H0 H) (n:H0 a=none):Same H0 (upd H a o):=fun b u e=>by
 rw [A0 (Bj e n)];exact s b u e
theorem A5 {α β:Type} {f:α→β} {l:List α} {i:Nat} {x:β} (h:(l.map f)[i]? =some x):∃z,l[i]? =some z∧x=f z:=by
 rw [List.getElem?_map] at h
 cases q:l[i]? with
 |none=>rw [q] at h;cases h
 |some z=>rw [q] at h;exact ⟨z,rfl,(Option.some.inj h).symm⟩
theorem ixN_nat {n j:Nat} (h:j<n):ixN n (j:Int)=some j:=by
 unfold ixN
 rw [if_pos (by exact Int.natCast_nonneg _),if_pos (by omega)];simp
theorem Bh {α:Type} {l:List α} {i:Nat} (h:i<l.length):l[i]? =some l[i]:=List.getElem?_eq_getElem h
end L2
namespace Wk
open PySem L2
def tieV (t:T4):List V:=[.str t.1,.int (t.2.1:Int),.int (t.2.2.1:Int),.int t.2.2.2]
def TiesAt (H:Hp) (rs:List Addr) (S:List T4):Prop:=rs.length=S.length∧∀(i:Nat) r t,rs[i]? =some r→S[i]? =some t→H r=some (.tup (tieV t))
theorem TiesAt.same {H H':Hp} {rs:List Addr} {S:List T4} (h:TiesAt H rs S) (s:Same H H'):TiesAt H' rs S:=⟨h.1,fun i r t a b=>s _ _ (h.2 i r t a b)⟩
theorem TiesAt.get {H:Hp} {rs:List Addr} {S:List T4} (h:TiesAt H rs S) {i:Nat} {r:Addr} (hr:rs[i]? =some r):∃t,S[i]? =some t∧H r=some (.tup (tieV t)):=by
 have hi:i<S.length:=by rw [←h.1];exact (List.getElem?_eq_some_iff.mp hr).1
 exact ⟨S[i],Bh hi,h.2 i r _ hr (Bh hi)⟩
def PrsAt (H:Hp) (l:Addr) (ps:List (Str×Nat)):Prop:=∃rs:List Addr,H l=some (.lst (rs.map V.ref))∧rs.length=ps.length∧∀(i:Nat) r q,rs[i]? =some r→ps[i]? =some q→H r=some (.tup [.str q.1,.int (q.2:Int)])
theorem PrsAt.same {H H':Hp} {l:Addr} {ps:List (Str×Nat)} (h:PrsAt H l ps) (s:Same H H'):PrsAt H' l ps:=let ⟨rs,a,b,c⟩:=h;⟨rs,s _ _ a,b,fun i r q e f=>s _ _ (c i r q e f)⟩
def BesAt (H:Hp) (b:Addr) (N:Nat) (f:Nat→List (Str×Nat)):Prop:=∃ls:List Addr,H b=some (.lst (ls.map V.ref))∧ls.length=N∧∀(v:Nat) l,ls[v]? =some l→PrsAt H l (f v)
theorem BesAt.same {H H':Hp} {b:Addr} {N:Nat} {f:Nat→List (Str×Nat)} (h:BesAt H b N f) (s:Same H H'):BesAt H' b N f:=let ⟨ls,x,y,z⟩:=h;⟨ls,s _ _ x,y,fun v l e=>(z v l e).same s⟩
structure Bes (H0 H:Hp) (b:Addr) (ls:List Addr) (N:Nat) (f:Nat→List (Str×Nat)):Prop where
 same:Same H0 H
 hb:H b=some (.lst (ls.map V.ref))
 len:ls.length=N
 nd:ls.Nodup
 new:∀l∈ls,H0 l=none∧l≠b
 prs:∀(v:Nat) l,ls[v]? =some l→PrsAt H l (f v)
theorem nd_ix {ls:List Addr} (h:ls.Nodup) {i j:Nat} {l:Addr} (a:ls[i]? =some l) (b:ls[j]? =some l):i=j:=by
 have hi:=(List.getElem?_eq_some_iff.mp a).1
 exact (List.getElem?_inj hi h).mp (by rw [a,b])
theorem Bes.app {H0 H:Hp} {b:Addr} {ls:List Addr} {N v:Nat} {f:Nat→List (Str×Nat)} {l p:Addr} {xs:List V} {n:Str} {u:Nat} (B:Bes H0 H b ls N f) (hv:ls[v]? =some l) (hp:H p=none) (hl:H l=some (.lst xs)):
  Bes H0 (upd (upd H p (.tup [.str n,.int (u:Int)])) l (.lst (xs++[.ref p]))) b ls N (fun x=>if x=v then f v++[(n,u)] else f x):=by
 have lm:l∈ls:=List.mem_of_getElem? hv
 have s1:=Ad (o:= .tup [.str n,.int (u:Int)]) hp
 have lp:l≠p:=Bj hl hp
 refine ⟨A2 (B.same.trans s1) (B.new l lm).1,by rw [A0 (B.new l lm).2.symm];exact s1 _ _ B.hb,B.len,B.nd,B.new,fun x k hx=> ?_⟩
 obtain ⟨rs,h1,h2,h3⟩:=B.prs x k hx
 have tl:∀(r:Addr) ys,H r=some (.tup ys)→upd (upd H p (.tup [.str n,.int (u:Int)])) l (.lst (xs++[.ref p])) r=some (.tup ys):=fun r ys e=>by
  rw [A0 (ne_of e hl (by intro z;cases z))];exact s1 _ _ e
 by_cases e:x=v
 ·subst e
  rw [hv] at hx
  cases hx
  rw [hl] at h1
  injection h1 with h1
  injection h1 with h1
  simp only [if_true]
  refine ⟨rs++[p],by rw [Ab,h1,List.map_append];rfl,by simp [h2],fun i r q hr hq=> ?_⟩
  rw [List.getElem?_append] at hr hq
  by_cases hi:i<rs.length
  ·rw [if_pos hi] at hr
   rw [if_pos (by omega)] at hq
   exact tl _ _ (h3 i r q hr hq)
  ·rw [if_neg hi] at hr
   rw [if_neg (by omega),←h2] at hq
   have:i - rs.length=0:=by
    have:=(List.getElem?_eq_some_iff.mp hr).1
    simp at this;assumption
   rw [this] at hr hq
   cases hr
   cases hq
   rw [A0 lp.symm];exact Ab
 ·simp only [if_neg e]
  have kl:k≠l:=fun q=>by subst q;exact e (nd_ix B.nd hx hv)
  exact ⟨rs,by rw [A0 kl];exact s1 _ _ h1,h2,fun i r q hr hq=>tl _ _ (h3 i r q hr hq)⟩
theorem nbrs_snoc (S:List T4) (t:T4) (v:Nat):Bm (S++[t]) v=Bm S v++nbT v t:=by unfold Bm;rw [List.flatMap_append];simp
theorem nb_two (S:List T4) (t:T4):(fun x=>if x=t.2.2.1 then (fun x=>if x=t.2.1 then Bm S t.2.1++[(t.1,t.2.2.1)] else Bm S x) t.2.2.1++[(t.1,t.2.1)] else (fun x=>if x=t.2.1 then Bm S t.2.1++[(t.1,t.2.2.1)] else Bm S x) x)=Bm (S++[t]):=by
 funext x
 rw [nbrs_snoc]
 unfold nbT
 by_cases a:t.2.1=x
 ·subst a
  rw [if_pos rfl]
  by_cases b:t.2.2.1=t.2.1
  ·rw [if_pos b,if_pos b.symm];dsimp only;rw [if_pos b];simp
  ·rw [if_neg b,if_neg (Ne.symm b)];dsimp only;rw [if_pos rfl];simp
 ·rw [if_neg a]
  by_cases b:t.2.2.1=x
  ·subst b
   rw [if_pos rfl,if_pos rfl];dsimp only;rw [if_neg (Ne.symm a)];simp
  ·rw [if_neg b,if_neg (Ne.symm b)];dsimp only;rw [if_neg (Ne.symm a)];simp
theorem nbrs_len (S:List T4) (v:Nat):(Bm S v).length≤2 * S.length:=by
 unfold Bm
 induction S with
 |nil=>simp
 |cons t S ih=>
  rw [List.flatMap_cons,List.length_append,List.length_cons]
  have:(nbT v t).length≤2:=by unfold nbT;rw [List.length_append];split<;> split<;> simp
  omega
def WayV (H:Hp) (x:V):Option (List Str)→Prop
 |none=>x= .non
 |some w=>∃r,x= .ref r∧H r=some (.tup (w.map V.str))
def WaysAt (H:Hp) (a:Addr) (ws:Ws):Prop:=∃xs,H a=some (.lst xs)∧xs.length=ws.length∧∀(i:Nat) x o,xs[i]? =some x→ws[i]? =some o→WayV H x o
theorem WayV.mono {H H':Hp} {x:V} {o:Option (List Str)} (f:∀r ys,H r=some (.tup ys)→H' r=some (.tup ys)) (h:WayV H x o):WayV H' x o:=by
 cases o with
 |none=>exact h
 |some w=>obtain ⟨r,a,b⟩:=h;exact ⟨r,a,f _ _ b⟩
theorem WaysAt.same {H H':Hp} {a:Addr} {ws:Ws} (h:WaysAt H a ws) (s:Same H H'):WaysAt H' a ws:=let ⟨xs,x,y,z⟩:=h;⟨xs,s _ _ x,y,fun i u o e f=>(z i u o e f).mono fun r ys=>s r (.tup ys)⟩
theorem WaysAt.keep {H:Hp} {a l:Addr} {ws:Ws} {ys zs:List V} (h:WaysAt H a ws) (hl:H l=some (.lst ys)) (n:a≠l):WaysAt (upd H l (.lst zs)) a ws:=by
 obtain ⟨xs,x,y,z⟩:=h
 exact ⟨xs,by rw [A0 n];exact x,y,fun i u o e f=>(z i u o e f).mono fun r ys e=>by rw [A0 (ne_of e hl (by intro z;cases z))];exact e⟩
theorem WaysAt.get {H:Hp} {a:Addr} {ws:Ws} (h:WaysAt H a ws) {v:Nat} {o:Option (List Str)} (hv:ws[v]? =some o):∃xs x,H a=some (.lst xs)∧xs[v]? =some x∧xs.length=ws.length∧WayV H x o:=by
 obtain ⟨xs,x,y,z⟩:=h
 have hl:v<xs.length:=by rw [y];exact (List.getElem?_eq_some_iff.mp hv).1
 exact ⟨xs,xs[v],x,Bh hl,y,z v _ o (Bh hl) hv⟩
theorem WaysAt.set {H:Hp} {a r:Addr} {ws:Ws} {xs:List V} {u:Nat} {w:List Str} (h:WaysAt H a ws) (ha:H a=some (.lst xs)) (hr:H r=some (.tup (w.map V.str))):WaysAt (upd H a (.lst (xs.set u (.ref r)))) a (ws.set u (some w)):=by
 obtain ⟨xs',x,y,z⟩:=h
 rw [ha] at x
 injection x with x
 injection x with x
 subst x
 have tl:∀(q:Addr) ys,H q=some (.tup ys)→upd H a (.lst (xs.set u (.ref r))) q=some (.tup ys):=fun q ys e=>by
  rw [A0 (ne_of e ha (by intro z;cases z))];exact e
 refine ⟨_,Ab,by simp [y],fun i x o hx ho=> ?_⟩
 rw [List.getElem?_set] at hx ho
 by_cases e:u=i
 ·rw [if_pos e] at hx ho
  split at hx
  ·rw [if_pos (by omega)] at ho
   cases hx
   cases ho
   exact ⟨r,rfl,tl _ _ hr⟩
  ·cases hx
 ·rw [if_neg e] at hx ho
  exact (z i x o hx ho).mono tl
def vis1 (w:List Str) (q:Str×Nat) (st:Ws×List Nat):Ws×List Nat:=if st.1[q.2]? =some none then (st.1.set q.2 (some (w++[q.1])),st.2++[q.2]) else st
theorem vis1_no {w:List Str} {q:Str×Nat} {st:Ws×List Nat} (h:¬st.1[q.2]? =some none):vis1 w q st=st:=if_neg h
theorem vis1_yes {w:List Str} {q:Str×Nat} {st:Ws×List Nat} (h:st.1[q.2]? =some none):vis1 w q st=(st.1.set q.2 (some (w++[q.1])),st.2++[q.2]):=if_pos h
theorem visit_snoc (w:List Str) (q:Str×Nat):∀(L:List (Str×Nat)) (st:Ws×List Nat),Bo w (L++[q]) st=vis1 w q (Bo w L st)
 |[],st=>by unfold vis1;show Bo w (q::[]) st=_;unfold Bo;rfl
 |(n,u)::r,st=>by
  show Bo w ((n,u)::(r++[q])) st=_
  unfold Bo
  split
  ·exact visit_snoc w q r _
  ·exact visit_snoc w q r _
theorem visit_vis (w:List Str):∀(L:List (Str×Nat)) (st:Ws×List Nat) {v:Nat} {x:List Str},Vis st.1 v x→Vis (Bo w L st).1 v x
 |[],_,_,_,h=>h
 |(n,u)::r,st,v,x,h=>by
  unfold Bo
  split
  ·rename_i e;exact visit_vis w r _ ((Bk e).mpr (.inr h))
  ·exact visit_vis w r _ h
theorem visit_len (w:List Str):∀(L:List (Str×Nat)) (st:Ws×List Nat),(Bo w L st).1.length=st.1.length∧(Bo w L st).2.length≤st.2.length+L.length
 |[],st=>⟨rfl,Nat.le_refl _⟩
 |(n,u)::r,st=>by
  unfold Bo
  split
  ·obtain ⟨a,b⟩:=visit_len w r (st.1.set u (some (w++[n])),st.2++[u])
   refine ⟨by rw [a];simp,?_⟩
   simp only [List.length_append,List.length_cons,List.length_nil] at b ⊢
   omega
  ·obtain ⟨a,b⟩:=visit_len w r st
   exact ⟨a,by rw [List.length_cons];exact Nat.le_succ_of_le (by assumption)⟩
theorem bstep_short {S:List T4} {N p h i:Nat} {ws:Ws} {rest:List Nat} (hS:InN N S) (I:BInv S N p (ws,h::rest)) (hl:∀v x,Wk.Vis ws v x→x.length≤i):∀v x,Wk.Vis (bstep S (ws,h::rest)).1 v x→x.length≤i+1:=by
 obtain ⟨w,hw,J⟩:=pinv_of I
 have e:bstep S (ws,h::rest)=Bo w (Bm S h) (ws,rest):=by
  show Bo ((ws[h]?.join).getD []) (Bm S h) (ws,rest)=_
  unfold Wk.Vis at hw
  rw [hw];rfl
 rw [e]
 obtain ⟨a,_⟩:=visit_ok (Bm S h) (ws,rest) J fun nb q=>⟨q,nb_lt hS q⟩
 intro v x q
 have:=a.ht v x q
 have:=hl h w hw
 omega
theorem refs_inj {xs ys:List Addr} (h:xs.map V.ref=ys.map V.ref):xs=ys:=(List.map_inj_right (fun _ _ h=>by injection h)).mp h
end Wk
namespace Wk
open PySem L2
abbrev LS:Str:=Str.ofString "abcdefghijklmnopqrstuvwxyz"
theorem LS_eq:LS.cps.toList=(List.range 26).map (97+·):=by decide+kernel
theorem LS_at {v:Int} (h0:0≤v) (h1:v<26):atI LS.cps.toList v=some (97+v.toNat):=by
 obtain ⟨j,rfl⟩:∃j:Nat,v=(j:Int):=⟨v.toNat,by omega⟩
 have hj:j<26:=by omega
 refine Ay ?_
 rw [LS_eq,List.getElem?_map,List.getElem?_range hj]
 rfl
theorem cat_cps (x y:Str):(x++y).cps.toList=x.cps.toList++y.cps.toList:=by
 show (x.cps++y.cps).toList=_
 rw [Array.toList_append]
theorem sg_sum (ws:List Nat):((ws.map fun c=>(⟨#[c]⟩:Str)).map (·.length)).sum=ws.length:=by
 induction ws with
 |nil=>rfl
 |cons c ws ih=>simp only [List.map_cons,List.sum_cons,List.length_cons,ih];show 1+ws.length=_;omega
theorem join_cps:∀ws:List Nat,(Txt.join (Str.ofString "") (ws.map fun c=>(⟨#[c]⟩:Str))).cps.toList=ws:=by
 have key:∀ws:List Nat,(Str.join (Str.ofString "") (ws.map fun c=>(⟨#[c]⟩:Str))).cps.toList=ws:=by
  intro ws
  induction ws with
  |nil=>rfl
  |cons c ws ih=>
   cases ws with
   |nil=>rfl
   |cons d ws=>
    simp only [List.map_cons] at ih ⊢
    rw [Str.join,cat_cps,cat_cps,ih]
    ·rfl
    ·intro q;cases q
 intro ws
 show (Builtin.Str.glued _ _).cps.toList=_
 rw [StrLaws.glued_eq_join]
 exact key ws
theorem cutV_take {xs:List V} {n:Nat} (h:n≤xs.length):cutV xs none (some (n:Int))=xs.take n:=by
 unfold cutV
 rw [HT.sIx_none,HT.sIx_nat,List.drop_zero,Nat.min_eq_left h,Nat.sub_zero]
theorem cutV_drop {xs:List V} {n:Nat}:cutV xs (some (n:Int)) none=xs.drop n:=by
 unfold cutV
 rw [HT.sIx_none,HT.sIx_nat]
 by_cases h:n≤xs.length
 ·rw [Nat.min_eq_left h,List.take_of_length_le (by rw [List.length_drop];exact Nat.le_refl _)]
 ·rw [Nat.min_eq_right (by omega),List.drop_of_length_le (by exact Nat.le_refl _),List.drop_of_length_le (by omega)];simp
theorem int_item (ns:List Int) {v:Int} (h0:0≤v) (h1:v<(ns.length:Int)):∃y,y∈ns∧atI (ns.map V.int) v=some (.int y):=by
 obtain ⟨j,rfl⟩:∃j:Nat,v=(j:Int):=⟨v.toNat,by omega⟩
 have hj:j<ns.length:=by omega
 exact ⟨ns[j],List.getElem_mem hj,Ay (by simp [hj])⟩
theorem nat_of {v:Int} (h0:0≤v):∃j:Nat,v=(j:Int):=⟨v.toNat,by omega⟩
end Wk
namespace Wk
open PySem L2
def TieOk (N:Nat) (t:T4):Prop:=t.2.1<N∧t.2.2.1<N∧t.2.1≠t.2.2.1
end Wk
namespace L2
open PySem
section
variable {X:Cx} {pos:Pos} {e a b:Expr} {te ta tb:TE} {es:List Expr} {t u:TS} {st:Stmt} {rest:List Stmt}
theorem okO {p:TS→Prop} (h:∃t,PSso X rest t∧p t):∃t,PSs X rest t∧p t:=let ⟨t,a,b⟩:=h;⟨t,a.of,b⟩
theorem pso_ret (he:PEo X e te):PSo X (.Return (some e) pos) (tRet te):=⟨Al he.of⟩
theorem peo_ix {r:R2} (hr:IxR X r) (ha:PEo X a ta) (hb:PEo X b tb) (hs:PlainIx b):PEo X (.Subscript a b pos) (tOp r ta tb):=⟨At hr ha.of hb.of hs⟩
theorem peo_op {op:Operator} {r:R2} (ho:OpR X (binaryOp op) r) (ha:PEo X a ta) (hb:PEo X b tb):PEo X (.BinOp a op b pos) (tOp r ta tb):=⟨Am ho ha.of hb.of⟩
end
end L2
namespace Wk
open PySem L2
theorem if_min (a b:Nat):(if (b:Int)<(a:Int) then (b:Int) else (a:Int))=((min a b:Nat):Int):=by
 split<;> omega
theorem if_max (a b:Nat):(if (b:Int) > (a:Int) then (b:Int) else (a:Int))=((max a b:Nat):Int):=by
 split<;> omega
end Wk
namespace Wk
open PySem L2
def NmS (zs:List Str):Prop:=zs.Pairwise fun a b=>Srt.ltK (.inr b) (.inr a)=false
end Wk
namespace Wk
open PySem L2
noncomputable def leastB (P:List T4) (v:Nat):Bool:= @decide (∀u,u<v→¬Reach P u v) (Classical.propDecidable _)
noncomputable def clsF (N:Nat) (P:List T4):Nat:=(List.range N).countP (leastB P)
theorem least_iff {P:List T4} {v:Nat}:leastB P v=true↔∀u,u<v→¬Reach P u v:=by
 unfold leastB
 exact @decide_eq_true_iff _ (Classical.propDecidable _)
theorem cls_congr {N:Nat} {P R:List T4} (h:∀a b,a<N→b<N→(Reach P a b↔Reach R a b)):clsF N P=clsF N R:=by
 unfold clsF
 refine List.countP_congr fun v hv=> ?_
 have hv:=List.mem_range.mp hv
 rw [least_iff,least_iff]
 exact ⟨fun q u hu r=>q u hu ((h u v (by omega) hv).mpr r),fun q u hu r=>q u hu ((h u v (by omega) hv).mp r)⟩
theorem cls_nil (N:Nat):clsF N []=N:=by
 unfold clsF
 have:∀v∈List.range N,leastB [] v=true:=fun v _=>by
  rw [least_iff]
  rintro u hu ⟨x,hx⟩
  cases hx with
  |nil=>omega
  |snoc _ q=>simp [Bm] at q
 rw [List.countP_eq_length.mpr this,List.length_range]
theorem least_of {P:List T4}:∀v:Nat,∃m,m≤v∧Reach P m v∧leastB P m=true:=by
 intro v
 induction v using Nat.strongRecOn with
 |_ v ih=>
  by_cases h:leastB P v=true
  ·exact ⟨v,Nat.le_refl _,.refl,h⟩
  ·rw [least_iff] at h
   simp only [Classical.not_forall,Classical.not_not] at h
   obtain ⟨u,hu,r⟩:=h
   obtain ⟨m,hm,rm,lm⟩:=ih u hu
   exact ⟨m,by omega,rm.trans r,lm⟩
theorem least_uniq {P:List T4} {m n:Nat} (hm:leastB P m=true) (hn:leastB P n=true) (r:Reach P m n):m=n:=by
 rw [least_iff] at hm hn
 rcases Nat.lt_trichotomy m n with h|h|h
 ·exact absurd r (hn m h)
 ·exact h
 ·exact absurd r.symm (hm n h)
theorem reach_snoc {P:List T4} {t:T4} {a b:Nat}:Reach (P++[t]) a b↔Reach P a b∨(Reach P a t.2.1∧Reach P t.2.2.1 b)∨(Reach P a t.2.2.1∧Reach P t.2.1 b):=by
 have mono:∀{a b},Reach P a b→Reach (P++[t]) a b:=fun r=>r.mono fun x hx=>List.mem_append_left _ hx
 have tie:Reach (P++[t]) t.2.1 t.2.2.1:= .step (nb_of (List.mem_append_right _ (List.mem_singleton.mpr rfl)))
 constructor
 ·rintro ⟨x,hx⟩
  induction hx with
  |nil=>exact .inl .refl
  | @snoc ws b c n _ q ih=>
   obtain ⟨t',ht',_,hh⟩:=nb_elim q
   rcases List.mem_append.mp ht' with ht'|ht'
   ·have st:Reach P b c:=by
     rcases hh with ⟨rfl,rfl⟩|⟨rfl,rfl⟩
     ·exact .step (nb_of ht')
     ·exact (Reach.step (nb_of ht')).symm
    rcases ih with h|⟨h1,h2⟩|⟨h1,h2⟩
    ·exact .inl (h.trans st)
    ·exact .inr (.inl ⟨h1,h2.trans st⟩)
    ·exact .inr (.inr ⟨h1,h2.trans st⟩)
   ·rw [List.mem_singleton.mp ht'] at hh
    rcases hh with ⟨e1,e2⟩|⟨e1,e2⟩
    ·subst e1;subst e2
     rcases ih with h|⟨h1,h2⟩|⟨h1,h2⟩
     ·exact .inr (.inl ⟨h,.refl⟩)
     ·exact .inr (.inl ⟨h1,.refl⟩)
     ·exact .inl h1
    ·subst e1;subst e2
     rcases ih with h|⟨h1,h2⟩|⟨h1,h2⟩
     ·exact .inr (.inr ⟨h,.refl⟩)
     ·exact .inl h1
     ·exact .inr (.inr ⟨h1,.refl⟩)
 ·rintro (h|⟨h1,h2⟩|⟨h1,h2⟩)
  ·exact mono h
  ·exact ((mono h1).trans tie).trans (mono h2)
  ·exact ((mono h1).trans tie.symm).trans (mono h2)
theorem cls_same {N:Nat} {P:List T4} {t:T4} (h:Reach P t.2.1 t.2.2.1):clsF N (P++[t])=clsF N P:=by
 refine cls_congr fun a b _ _=> ?_
 rw [reach_snoc]
 constructor
 ·rintro (q|⟨q1,q2⟩|⟨q1,q2⟩)
  ·exact q
  ·exact (q1.trans h).trans q2
  ·exact (q1.trans h.symm).trans q2
 ·exact .inl
theorem countP_one {p q:Nat→Bool} {x N:Nat} (hx:x<N) (px:p x=true) (h:∀v,v<N→(q v=true↔p v=true∧v≠x)):(List.range N).countP q+1=(List.range N).countP p:=by
 induction N with
 |zero=>omega
 |succ N ih=>
  rw [List.range_succ,List.countP_append,List.countP_append,List.countP_singleton,List.countP_singleton]
  by_cases e:x=N
  ·subst e
   have hq:q x=false:=by
    cases z:q x with
    |false=>rfl
    |true=>exact absurd rfl ((h x hx).mp z).2
   have:(List.range x).countP q=(List.range x).countP p:=List.countP_congr fun v hv=>by
    have hv:=List.mem_range.mp hv
    rw [h v (by omega)]
    exact ⟨fun z=>z.1,fun z=>⟨z,by omega⟩⟩
   rw [this,hq,px];simp
  ·have:=ih (by omega) fun v hv=>h v (by omega)
   have e2:q N=p N:=by
    rw [Bool.eq_iff_iff,h N (by omega)]
    exact ⟨fun z=>z.1,fun z=>⟨z,Ne.symm e⟩⟩
   rw [e2];omega
theorem cls_less {N:Nat} {P:List T4} {t:T4} (h1:t.2.1<N) (h2:t.2.2.1<N) (h:¬Reach P t.2.1 t.2.2.1):clsF N (P++[t])+1=clsF N P:=by
 obtain ⟨m1,l1,r1,k1⟩:=least_of (P:=P) t.2.1
 obtain ⟨m2,l2,r2,k2⟩:=least_of (P:=P) t.2.2.1
 have hne:m1≠m2:=fun e=>h (r1.symm.trans (e▸r2))
 have mono:∀{a b},Reach P a b→Reach (P++[t]) a b:=fun r=>r.mono fun x hx=>List.mem_append_left _ hx
 have tie:Reach (P++[t]) t.2.1 t.2.2.1:= .step (nb_of (List.mem_append_right _ (List.mem_singleton.mpr rfl)))
 have r12:Reach (P++[t]) m1 m2:=((mono r1).trans tie).trans (mono r2).symm
 refine countP_one (x:=max m1 m2) (by omega) ?_ fun v hv=> ?_
 ·rcases Nat.le_total m1 m2 with q|q
  ·rw [Nat.max_eq_right q];exact k2
  ·rw [Nat.max_eq_left q];exact k1
 constructor
 ·intro q
  rw [least_iff] at q
  refine ⟨least_iff.mpr fun u hu r=>q u hu (mono r),fun e=> ?_⟩
  rcases Nat.lt_or_gt_of_ne hne with z|z
  ·rw [Nat.max_eq_right (by omega)] at e
   exact q m1 (by omega) (e▸r12)
  ·rw [Nat.max_eq_left (by omega)] at e
   exact q m2 (by omega) (e▸r12.symm)
 ·rintro ⟨q,hx⟩
  have q':=q
  rw [least_iff] at q ⊢
  intro u hu r
  rcases reach_snoc.mp r with z|⟨z1,z2⟩|⟨z1,z2⟩
  ·exact q u hu z
  ·-- v is the least of the other's class,u of the one's
   have ev:m2=v:=least_uniq k2 q' (r2.trans z2)
   have:m1≤u:=by
    obtain ⟨m,lm,rm,km⟩:=least_of (P:=P) u
    have:m1=m:=least_uniq k1 km (r1.trans (z1.symm.trans rm.symm))
    omega
   omega
  ·have ev:m1=v:=least_uniq k1 q' (r1.trans z2)
   have:m2≤u:=by
    obtain ⟨m,lm,rm,km⟩:=least_of (P:=P) u
    have:m2=m:=least_uniq k2 km (r2.trans (z1.symm.trans rm.symm))
    omega
   omega
end Wk
namespace Wk
open PySem L2
end Wk
namespace Wk
open PySem L2
theorem reach_ties {S R:List T4} (h:∀t∈S,Reach R t.2.1 t.2.2.1) {a b:Nat} (r:Reach S a b):Reach R a b:=by
 obtain ⟨x,hx⟩:=r
 induction hx with
 |nil=>exact .refl
 |snoc _ q ih=>
  obtain ⟨t,ht,_,⟨e1,e2⟩|⟨e1,e2⟩⟩:=nb_elim q
  ·exact ih.trans (e1▸e2▸h t ht)
  ·exact ih.trans (e1▸e2▸(h t ht).symm)
section
variable {N:Nat} {S S':List T4} {t:T4} (hS:InN N S) (hN:N≤60) (nd:(S.map (·.1)).Nodup) (hS':InN N S') (hm:∀u,u∈S'↔u∈S∨u=t)
include hS hN hS' hm
end
section
variable {N:Nat} {S S':List T4} {x:T4} (hS:InN N S) (hN:N≤60) (nd:(S.map (·.1)).Nodup) (hx:x∈S) (hm:∀u,u∈S'↔u∈S∧u.1≠x.1)
include hS hN nd hx hm
end
end Wk
namespace Wk
open PySem L2
section
variable {N:Nat} {S S':List T4} {t:T4} (hS:InN N S) (hN:N≤60) (nd:(S.map (·.1)).Nodup) (hn:t.1 ∉ S.map (·.1)) (hp:S'.Perm (S++[t])) (hS':InN N S') (sr':NmS (S'.map (·.1)))
include hS hN nd hn hp hS' sr'
end
section
variable {N:Nat} {S:List T4} {x:T4} (hS:InN N S) (hN:N≤60) (nd:(S.map (·.1)).Nodup) (sr:NmS (S.map (·.1))) (hx:x∈S)
include hS hN nd sr hx
end
end Wk
namespace L2
open PySem PySem.Spec PyProof.Rows
def Flt:V→V→Bool
 | .non,.non=>true
 | .non,.bl _=>true
 | .non,.int _=>true
 | .non,.str _=>true
 | .bl _,.non=>true
 | .bl _,.bl _=>true
 | .bl _,.str _=>true
 | .int _,.non=>true
 | .int _,.int _=>true
 | .int _,.str _=>true
 | .str _,.non=>true
 | .str _,.bl _=>true
 | .str _,.int _=>true
 | .str _,.str _=>true
 |_,_=>false
def Eqs (K:PySem.W.Frag) (H:Hp):Nat→V→V→Bool→Prop
 |0,x,y,b=>Flt x y=true∧b=decide (x=y)
 |n+1,x,y,b=>(Flt x y=true∧b=decide (x=y))∨
  (∃(a c:Addr) (xs ys:List V) (e:Nat→Bool),x= .ref a∧y= .ref c∧((SqT K H a xs∧SqT K H c ys)∨(SqL K H a xs∧SqL K H c ys))∧(∀(j:Nat) p q,xs[j]? =some p→ys[j]? =some q→Eqs K H n p q (e j))∧b=((List.range (min xs.length ys.length)).all e && xs.length==ys.length))∨
  (∃(a:Addr) (xs:List V),x= .ref a∧y= .non∧SqT K H a xs∧b=false)∨
  (∃(a:Addr) (xs:List V),x= .non∧y= .ref a∧SqT K H a xs∧b=false)
theorem Eqs.flat {K:PySem.W.Frag} {H:Hp} {n:Nat} {x y:V} (h:Flt x y=true):Eqs K H n x y (decide (x=y)):=by
 cases n with
 |zero=>exact ⟨h,rfl⟩
 |succ n=>exact .inl ⟨h,rfl⟩
theorem all_dec {α:Type} [DecidableEq α] {xs ys:List V} {ds es:List α} (l1:ds.length=xs.length) (l2:es.length=ys.length):((List.range (min xs.length ys.length)).all (fun j=>decide (ds[j]? =es[j]?)) && xs.length==ys.length)=decide (ds=es):=by
 by_cases h:xs.length=ys.length
 ·rw [Bool.eq_iff_iff,Bool.and_eq_true,List.all_eq_true,decide_eq_true_eq]
  constructor
  ·rintro ⟨ha,_⟩
   refine List.ext_getElem? fun i=> ?_
   by_cases hi:i<xs.length
   ·exact of_decide_eq_true (ha i (List.mem_range.mpr (by omega)))
   ·rw [List.getElem?_eq_none (by omega),List.getElem?_eq_none (by omega)]
  ·rintro rfl
   exact ⟨fun j _=>decide_eq_true rfl,by simpa using h⟩
 ·have:(xs.length==ys.length)=false:=by simpa using h
  rw [this,Bool.and_false,decide_eq_false fun e=>h (by rw [←l1,←l2,e])]
theorem Eqs.seq {K:PySem.W.Frag} {H:Hp} {n:Nat} {a c:Addr} {xs ys:List V} {α:Type} [DecidableEq α] {ds es:List α} (hh:(SqT K H a xs∧SqT K H c ys)∨(SqL K H a xs∧SqL K H c ys)) (l1:ds.length=xs.length) (l2:es.length=ys.length)
  (h:∀(j:Nat) p q d e,xs[j]? =some p→ys[j]? =some q→ds[j]? =some d→es[j]? =some e→Eqs K H n p q (decide (d=e))):Eqs K H (n+1) (.ref a) (.ref c) (decide (ds=es)):=by
 refine .inr (.inl ⟨a,c,xs,ys,fun j=>decide (ds[j]? =es[j]?),rfl,rfl,hh,fun j p q hp hq=> ?_,(all_dec l1 l2).symm⟩)
 have j1:j<ds.length:=by rw [l1];exact (List.getElem?_eq_some_iff.mp hp).1
 have j2:j<es.length:=by rw [l2];exact (List.getElem?_eq_some_iff.mp hq).1
 have:=h j p q ds[j] es[j] hp hq (List.getElem?_eq_getElem j1) (List.getElem?_eq_getElem j2)
 show Eqs K H n p q (decide (ds[j]? =es[j]?))
 rw [List.getElem?_eq_getElem j1,List.getElem?_eq_getElem j2]
 have e:decide (some ds[j]=some es[j])=decide (ds[j]=es[j]):=by
  rw [Bool.eq_iff_iff,decide_eq_true_eq,decide_eq_true_eq]
  exact ⟨fun h=>Option.some.inj h,fun h=>by rw [h]⟩
 rw [e];exact this
theorem Eqs.flats {K:PySem.W.Frag} {H:Hp} {n:Nat} {a c:Addr} {xs ys:List V} (h1:SqT K H a xs) (h2:SqT K H c ys) (h:∀x∈xs,∀y∈ys,Flt x y=true):Eqs K H (n+1) (.ref a) (.ref c) (decide (xs=ys)):=
 Eqs.seq (.inl ⟨h1,h2⟩) rfl rfl fun j p q d e hp hq hd he=>by
  rw [hp] at hd
  rw [hq] at he
  cases hd
  cases he
  exact Eqs.flat (h _ (List.mem_of_getElem? hp) _ (List.mem_of_getElem? hq))
section
variable {X:Cx} {pins:List (Addr×Obj)} {σ:St} {H:Hp} {s:Shared}
theorem eqs_refl (I:Inv X pins σ H s):∀(n:Nat) {x:V} {b:Bool},Eqs X.K H n x x b→b=true
 |0,x,b,⟨_,e⟩=>by rw [e,decide_eq_true rfl]
 |n+1,x,b,h=>by
  rcases h with ⟨_,e⟩|⟨a,c,xs,ys,e,e1,e2,hh,hj,eb⟩|⟨a,xs,e1,e2,_⟩|⟨a,xs,e1,e2,_⟩
  ·rw [e,decide_eq_true rfl]
  ·rw [e1] at e2
   injection e2 with e2
   subst e2
   have ex:xs=ys:=by
    rcases hh with ⟨h1,h2⟩|⟨h1,h2⟩
    ·exact I.tuple_inj h1 h2
    ·exact I.list_inj h1 h2
   subst ex
   rw [eb,Bool.and_eq_true]
   refine ⟨List.all_eq_true.mpr fun j hj'=> ?_,by simp⟩
   have hj':=List.mem_range.mp hj'
   have hjx:j<xs.length:=by omega
   exact eqs_refl I n (hj j _ _ (List.getElem?_eq_getElem hjx) (List.getElem?_eq_getElem hjx))
  ·rw [e1] at e2;cases e2
  ·rw [e1] at e2;cases e2
theorem flt_at {x y:V} {v u:Value} (h:Flt x y=true) (rx:RelV x v) (ry:RelV y u) (A:Around):SeqAt.EqAt A s v u (decide (x=y)):=by
 have sw:∀{b c:Bool},SeqAt.EqAt A s v u b→b=c→SeqAt.EqAt A s v u c:=fun h e=>e▸h
 cases x<;> cases y<;> simp only [Flt,Bool.false_eq_true] at h<;> simp only [RelV] at rx ry
 ·subst rx;subst ry;exact SeqAt.EqAt.same _
 ·subst rx;subst ry;exact sw (SeqAt.EqAt.none_bool _) (by simp)
 ·obtain ⟨t,rfl⟩:=ry;subst rx;exact sw (SeqAt.EqAt.none_int _ _) (by simp)
 ·obtain ⟨t,rfl⟩:=ry;subst rx;exact sw (SeqAt.EqAt.none_str _ _) (by simp)
 ·subst rx;subst ry;exact sw (SeqAt.EqAt.bool_none _) (by simp)
 ·subst rx;subst ry;exact sw (SeqAt.EqAt.bool_bool _ _) (by rw [Bool.eq_iff_iff];simp)
 ·obtain ⟨t,rfl⟩:=ry;subst rx;exact sw (SeqAt.EqAt.bool_str _ _ _) (by simp)
 ·obtain ⟨t,rfl⟩:=rx;subst ry;exact sw (SeqAt.EqAt.int_none _ _) (by simp)
 ·obtain ⟨t,rfl⟩:=rx;obtain ⟨t',rfl⟩:=ry;exact sw (SeqAt.EqAt.int_int _ _ _ _) (by rw [Bool.eq_iff_iff];simp)
 ·obtain ⟨t,rfl⟩:=rx;obtain ⟨t',rfl⟩:=ry;exact sw (SeqAt.EqAt.int_str _ _ _ _) (by simp)
 ·obtain ⟨t,rfl⟩:=rx;subst ry;exact sw (SeqAt.EqAt.str_none _ _) (by simp)
 ·obtain ⟨t,rfl⟩:=rx;subst ry;exact sw (SeqAt.EqAt.str_bool _ _ _) (by simp)
 ·obtain ⟨t,rfl⟩:=rx;obtain ⟨t',rfl⟩:=ry;exact sw (SeqAt.EqAt.str_int _ _ _ _) (by simp)
 ·obtain ⟨t,rfl⟩:=rx;obtain ⟨t',rfl⟩:=ry;exact sw (SeqAt.EqAt.str_str _ _ _ _) (by rw [Bool.eq_iff_iff];simp)
theorem val_at {xs:List V} {its:List Value} (r:Vals xs its) {j:Nat} (h:j<its.toArray.size):∃x,xs[j]? =some x∧RelV x its.toArray[j]:=by
 have l:=r.length
 have hj:j<xs.length:=by simpa [l] using h
 obtain ⟨v,e,rv⟩:=r.get (i:=j) (x:=xs[j]) (by simp [hj])
 have w1:its.toArray[j]=v:=by
  have:=(List.getElem?_eq_some_iff.mp e).2
  simpa using this
 exact ⟨xs[j],by simp [hj],by rw [w1];exact rv⟩
theorem in1_units (A:Around):A.in1.units≤A.units+1:=by first|exact Nat.le_refl _|exact Nat.le_succ _
theorem eqs_at (I:Inv X pins σ H s):∀(n:Nat) {x y:V} {b:Bool} {v u:Value} {A:Around},A.units+n<cLine→Eqs X.K H n x y b→RelV x v→RelV y u→SeqAt.EqAt A s v u b
 |0,x,y,b,v,u,A,_,⟨h,e⟩,rx,ry=>by rw [e];exact flt_at h rx ry A
 |n+1,x,y,b,v,u,A,hu,h,rx,ry=>by
  rcases id h with ⟨h,e⟩|⟨a,c,xs,ys,e,rfl,rfl,hh,hj,eb⟩|⟨a,xs,rfl,rfl,h1,e⟩|⟨a,xs,rfl,rfl,h1,e⟩
  ·rw [e];exact flt_at h rx ry A
  ·cases rx
   cases ry
   by_cases hne:a=c
   ·subst hne
    rw [eqs_refl I (n+1) h]
    exact SeqAt.EqAt.same _
   refine SeqAt.EqAt.of_refs hne ?_
   have iu:=in1_units A
   rcases hh with ⟨h1,h2⟩|⟨h1,h2⟩
   ·obtain ⟨its,r1,p1,_⟩:=I.tuple h1
    obtain ⟨its2,r2,p2,_⟩:=I.tuple h2
    have:=SeqAt.RcAt.tuples (A:=A) (e:=e) p1 p2 (by omega) fun j j1 j2=> ?_
    ·rw [List.size_toArray,List.size_toArray,←r1.length,←r2.length] at this
     rw [eb];exact this
    ·obtain ⟨p,ep,rp⟩:=val_at r1 j1
     obtain ⟨q,eq,rq⟩:=val_at r2 j2
     exact eqs_at I n (by omega) (hj j p q ep eq) rp rq
   ·obtain ⟨its,r1,p1,_⟩:=I.list h1
    obtain ⟨its2,r2,p2,_⟩:=I.list h2
    have m1:=r1.length
    have m2:=r2.length
    by_cases hl:xs.length=ys.length
    ·have:=SeqAt.RcAt.lists (A:=A) (e:=e) p1.isList p2.isList (by rw [List.size_toArray,List.size_toArray];omega) (by omega) fun j j1 j2=> ?_
     ·rw [List.size_toArray,←m1] at this
      rw [eb,hl,Nat.min_self,←hl]
      simpa using this
     ·obtain ⟨p,ep,rp⟩:=val_at r1 j1
      obtain ⟨q,eq,rq⟩:=val_at r2 j2
      exact eqs_at I n (by omega) (hj j p q ep eq) rp rq
    ·have:=SeqAt.RcAt.lists_lengths (A:=A) p1.isList p2.isList (by rw [List.size_toArray,List.size_toArray];simp;omega) (by omega)
     have eb':b=false:=by rw [eb];simp [hl]
     rw [eb'];exact this
  ·cases rx
   cases ry
   obtain ⟨its,r1,p1,_⟩:=I.tuple h1
   rw [e];exact SeqAt.EqAt.tuple_none p1 (by omega)
  ·cases rx
   cases ry
   obtain ⟨its,r1,p1,_⟩:=I.tuple h1
   rw [e];exact SeqAt.EqAt.none_tuple p1 (by omega)
end
section
variable {X:Cx}
inductive RNesP (K:PySem.W.Frag) (x:V) (y:V) (H:Hp) (Q:VK):Prop
 |mk (n:Nat) (b:Bool) (a c:Addr):(x= .ref a)→(y= .ref c)→(n≤30)→(Eqs K H (n+1) x y b)→(Q (.bl (!b)) H)→RNesP K x y H Q
def rNes (K:PySem.W.Frag):V→V→Hp→VK→Prop:=fun x y H Q=>RNesP K x y H Q
theorem op_nes (hu:X.A.units+64<cLine):OpR X (compareOp .NotEq) (rNes X.K):=by
 intro pins s σ H x y v u Q I rx ry h
 obtain ⟨n,b,a,c,rfl,rfl,hn,h,q⟩:=h
 cases rx
 cases ry
 have iu:=in1_units X.A
 rcases h with ⟨h,_⟩|⟨a',c',xs,ys,e,e1,e2,hh,hj,eb⟩|⟨_,_,_,e2,_⟩|⟨_,_,e1,_⟩
 ·cases h
 ·cases e1
  cases e2
  rcases hh with ⟨h1,h2⟩|⟨h1,h2⟩
  ·obtain ⟨its,r1,p1,_⟩:=I.tuple h1
   obtain ⟨its2,r2,p2,_⟩:=I.tuple h2
   refine (SeqAt.RcNeAt.tuples (A:=X.A) (e:=e) p1 p2 (by omega) fun j j1 j2=> ?_) X.prog X.w X.xe _ ⟨.bl _,H,I,rfl,?_⟩
   ·obtain ⟨p,ep,rp⟩:=val_at r1 j1
    obtain ⟨q,eq,rq⟩:=val_at r2 j2
    exact eqs_at I n (by omega) (hj j p q ep eq) rp rq
   ·rw [List.size_toArray,List.size_toArray,←r1.length,←r2.length,←eb]
    exact q
  ·obtain ⟨its,r1,p1,_⟩:=I.list h1
   obtain ⟨its2,r2,p2,_⟩:=I.list h2
   have m1:=r1.length
   have m2:=r2.length
   by_cases hl:xs.length=ys.length
   ·refine (SeqAt.RcNeAt.lists (A:=X.A) (e:=e) p1.isList p2.isList (by rw [List.size_toArray,List.size_toArray];omega) (by omega) fun j j1 j2=> ?_) X.prog X.w X.xe _ ⟨.bl _,H,I,rfl,?_⟩
    ·obtain ⟨p,ep,rp⟩:=val_at r1 j1
     obtain ⟨q,eq,rq⟩:=val_at r2 j2
     exact eqs_at I n (by omega) (hj j p q ep eq) rp rq
    ·have:b=(List.range its.toArray.size).all e:=by
      rw [eb,hl,Nat.min_self,←hl,List.size_toArray,←m1]
      simp
     rw [←this];exact q
   ·refine (SeqAt.RcNeAt.lists_lengths (A:=X.A) p1.isList p2.isList (by rw [List.size_toArray,List.size_toArray];simp;omega) (by omega)) X.prog X.w X.xe _ ⟨.bl _,H,I,rfl,?_⟩
    have eb':b=false:=by rw [eb];simp [hl]
    rw [eb'] at q;exact q
 ·cases e2
 ·cases e1
end
end L2
namespace HT
open PySem PyProof.Rows L2
section
open PySem.SeqAt
open PySem.AutoSeq1 (wpAny_loadPart')
open PySem.MeetsSeq PySem.MeetsSeq2 PySem.MeetsSeq3
end
section
open PySem.SeqAt
open PySem.AutoSeq1 (wpAny_loadPart')
open PySem.MeetsSeq PySem.MeetsSeq2 PySem.MeetsSeq3
end
end HT
namespace L2
open PySem PySem.Spec PyProof.Rows
end L2
namespace Wk
open PySem L2
end Wk
namespace L2
open PySem PySem.Spec PyProof.Rows
end L2
namespace Wk
open PySem L2
theorem take_snoc {α:Type} {l:List α} {i:Nat} {d:α} (h:l[i]? =some d):l.take (i+1)=l.take i++[d]:=by rw [List.take_add_one,h];rfl
end Wk
namespace Wk
open PySem L2
end Wk
namespace L2
open PySem PySem.Spec PyProof.Rows
end L2
namespace Wk
open PySem L2
theorem part_up {N p:Nat} {S:List T4}:(Ao N S p).Pairwise (·<·):=by
 unfold Ao
 exact (List.pairwise_lt_range).sublist List.filter_sublist
end Wk
namespace HT
open PySem PyProof.Rows
end HT
namespace L2
open PySem PySem.Spec PyProof.Rows
end L2
namespace Wk
open PySem L2
theorem cat_any {K:PySem.W.Frag} {H:Hp} {Q:VK} {a b:Addr} {xs ys:List V} (ha:H a=some (.tup xs)) (hb:H b=some (.tup ys)) (hl:xs.length+ys.length≤10000)
  (k:∀t H',Same H H'→H' t=some (.tup (xs++ys))→Q (.ref t) H'):rCatTT K (.ref a) (.ref b) H Q:=by
 refine ⟨a,b,_,_,rfl,rfl,SqT.of ha,SqT.of hb,Ax hl,fun e=>k b H (Bb H) ?_,fun _ e=>k a H (Bb H) ?_,fun _ _ p hp=>k p _ (Ad hp) Ab⟩
 ·rw [e];exact hb
 ·rw [e,List.append_nil];exact ha
theorem cut_any {K:PySem.W.Frag} {H:Hp} {Q:VK} {a:Addr} {xs:List V} {lo hi:Option Int} (ha:H a=some (.tup xs)) (k:∀t H',Same H H'→H' t=some (.tup (cutV xs lo hi))→Q (.ref t) H'):rSlTA K (.ref a) lo hi H Q:=by
 refine ⟨a,xs,rfl,SqT.of ha,fun w=>k a H (Bb H) ?_,fun _ p hp=>k p _ (Ad hp) Ab⟩
 have:cutV xs lo hi=xs:=by
  unfold cutV
  rw [w.1,w.2]
  simp
 rw [this]
 exact ha
theorem noPart {σ:L2.St} {H:Hp} {f:Option Int→Hp→Prop} (h:f none H):tNoPart σ H f:=h
end Wk
namespace Wk
open PySem L2
end Wk
namespace Srt
open PySem PySem.W PyProof.Rows L2
end Srt
namespace PySem
open PySem.Spec PyProof.Rows
end PySem
namespace L2
open PySem PySem.Spec PyProof.Rows
end L2
namespace Wk
open PySem L2
end Wk
namespace L2
open PySem PySem.Spec PyProof.Rows
end L2
namespace L2
open PySem PySem.Spec PyProof.Rows
end L2
namespace L2
open PySem PySem.Spec PyProof.Rows
end L2
namespace Rp
open PySem L2 PySem.Spec PyProof.Rows PySem.P
mutual
inductive RepF (H:Hp):Bool→V→PyData→Prop
 |non {f:Bool}:RepF H f .non .none
 |bl {f:Bool} (b:Bool):RepF H f (.bl b) (.bool b)
 |int {f:Bool} (i:Int):RepF H f (.int i) (.int i)
 |str {f:Bool} (x:Str):RepF H f (.str x) (.str x)
 |tup {f:Bool} {a:Addr} {xs:List V} {ds:List PyData}:H a=some (.tup xs)→RepFs H f xs ds→RepF H f (.ref a) (.tuple ds)
 |lst {a:Addr} {xs:List V} {ds:List PyData}:H a=some (.lst xs)→RepFs H false xs ds→RepF H false (.ref a) (.list ds)
 |dct {a:Addr}:H a=some (.dK [])→RepF H true (.ref a) (.dict [])
 |dc1 {a:Addr} {x:Str} {i:Int}:H a=some (.dK [(.inr x,.int i)])→RepF H true (.ref a) (.dict [(.str x,.int i)])
inductive RepFs (H:Hp):Bool→List V→List PyData→Prop
 |nil {f:Bool}:RepFs H f [] []
 |cons {f:Bool} {x:V} {xs:List V} {d:PyData} {ds:List PyData}:RepF H f x d→RepFs H f xs ds→RepFs H f (x::xs) (d::ds)
end
mutual
theorem RepF.same {H H':Hp} (s:Same H H'):∀{f:Bool} {v:V} {d:PyData},RepF H f v d→RepF H' f v d
 |_,_,_,.non=> .non
 |_,_,_,.bl b=> .bl b
 |_,_,_,.int i=> .int i
 |_,_,_,.str x=> .str x
 |_,_,_,.tup e h=> .tup (s _ _ e) (RepFs.same s h)
 |_,_,_,.lst e h=> .lst (s _ _ e) (RepFs.same s h)
 |_,_,_,.dct e=> .dct (s _ _ e)
 |_,_,_,.dc1 e=> .dc1 (s _ _ e)
theorem RepFs.same {H H':Hp} (s:Same H H'):∀{f:Bool} {vs:List V} {ds:List PyData},RepFs H f vs ds→RepFs H' f vs ds
 |_,_,_,.nil=> .nil
 |_,_,_,.cons h t=> .cons (RepF.same s h) (RepFs.same s t)
end
mutual
theorem RepF.reads {X:Cx} {pins:List (Addr×Obj)} {σ:L2.St} {H:Hp} {s:Shared} (I:Inv X pins σ H s):∀{f:Bool} {v:V} {d:PyData} {u:Value},RepF H f v d→RelV v u→∃as,Reads s.heap u d as∧(f=true→sysModules ∉ as)
 |_,_,_,_,.non,r=>by cases r;exact ⟨_,.none,fun _=>by simp⟩
 |_,_,_,_,.bl b,r=>by cases r;exact ⟨_,.bool b,fun _=>by simp⟩
 |_,_,_,_,.int i,r=>by obtain ⟨t,rfl⟩:=r;exact ⟨_,.int i t,fun _=>by simp⟩
 |_,_,_,_,.str x,r=>by obtain ⟨t,rfl⟩:=r;exact ⟨_,.str x t,fun _=>by simp⟩
 |_,_,_,_,.tup e h,r=>by
  cases r
  obtain ⟨_,its,rv,o,e1,e2,_,n,e3⟩:=I.hok _ _ e
  obtain ⟨as,q,na⟩:=RepFs.reads I h rv
  exact ⟨as,.tuple e1 e2 e3 (by simpa using q),na⟩
 |_,_,_,_,.lst e h,r=>by
  cases r
  obtain ⟨_,its,n,rv,e1⟩:=I.hok _ _ e
  obtain ⟨as,q,na⟩:=RepFs.reads I h rv
  exact ⟨_,.list e1 rfl rfl (by simpa using q),fun z=>by cases z⟩
 |_,_,_,_,.dct (a:=a) e,r=>by
  cases r
  obtain ⟨_,ns,vs,kv,o,es,ep,e1,ex,e3,_,pr,_⟩:=I.hok _ _ e
  have hv:vs=[]:=by cases kv;rfl
  subst hv
  have he:es.toList=[]:=by
   have:=pr.length
   simpa using this
  refine ⟨a::[]++[],.dict (kvs:=[]) e1 ex.1 e3 (by rw [he];exact .nil) (by rw [he];exact .nil),fun _=> ?_⟩
  have:a≠sysModules:=by simpa using ns
  simpa using this.symm
 |_,_,_,_,.dc1 (a:=a) (x:=x) (i:=i) e,r=>by
  cases r
  obtain ⟨_,ns,vs,kv,o,es,ep,e1,ex,e3,_,pr,_⟩:=I.hok _ _ e
  obtain ⟨u,hv,t',hu⟩:∃u,vs=[(Sum.inr x,u)]∧∃t,u=Value.int i t:=by
   cases kv with
   | @cons _ b _ _ r1 r2=>
    cases r2
    obtain ⟨b1,b2⟩:=b
    obtain ⟨z,r1⟩:=r1
    cases z
    exact ⟨_,rfl,r1⟩
  subst hv
  generalize hes:es.toList=el at pr
  cases pr with
  | @cons en _ el _ h1 h2 h3=>
   cases h3
   obtain ⟨t,ht⟩:∃t,en.key=Value.str x t:=by
    rcases Bl (k:=Sum.inr x) (v:=en.key) h1 with ⟨_,_,z,_⟩|⟨y,t,z,e'⟩
    ·cases z
    ·cases z;exact ⟨t,e'⟩
   refine ⟨a::([]++[])++([]++[]),.dict (kvs:=[(.str x,.int i)]) e1 ex.1 e3 ?_ ?_,fun _=> ?_⟩
   ·rw [hes];show ReadsAll s.heap [en.key] [.str x] _;rw [ht];exact .cons (.str x t) .nil
   ·rw [hes];show ReadsAll s.heap [en.val] [.int i] _;rw [h2,hu];exact .cons (.int i t') .nil
   ·have:a≠sysModules:=by simpa using ns
    simpa using this.symm
theorem RepFs.reads {X:Cx} {pins:List (Addr×Obj)} {σ:L2.St} {H:Hp} {s:Shared} (I:Inv X pins σ H s):∀{f:Bool} {vs:List V} {ds:List PyData} {us:List Value},RepFs H f vs ds→Vals vs us→∃as,ReadsAll s.heap us ds as∧(f=true→sysModules ∉ as)
 |_,_,_,_,.nil,r=>by cases r;exact ⟨_,.nil,fun _=>by simp⟩
 |_,_,_,_,.cons h t,r=>by
  cases r with
  |cons r1 r2=>
   obtain ⟨as,q1,n1⟩:=RepF.reads I h r1
   obtain ⟨bs,q2,n2⟩:=RepFs.reads I t r2
   exact ⟨_,.cons q1 q2,fun z=>by simp [n1 z,n2 z]⟩
end
mutual
theorem RepF.nodict {H:Hp}:∀{v:V} {d:PyData},RepF H false v d→d.hasDict=false
 |_,_,.non=>rfl
 |_,_,.bl _=>rfl
 |_,_,.int _=>rfl
 |_,_,.str _=>rfl
 |_,_,.tup _ h=>by rw [PyData.hasDict];exact RepFs.nodict h
 |_,_,.lst _ h=>by rw [PyData.hasDict];exact RepFs.nodict h
theorem RepFs.nodict {H:Hp}:∀{vs:List V} {ds:List PyData},RepFs H false vs ds→PyData.hasDictAll ds=false
 |_,_,.nil=>rfl
 |_,_,.cons h t=>by rw [PyData.hasDictAll,RepF.nodict h,RepFs.nodict t];rfl
end
end Rp
namespace L2
open PySem PySem.Spec PyProof.Rows Rp PySem.P
end L2
namespace Rp
open PySem L2
structure Fine (n k:Nat) (d:PyData):Prop where
 sh:d.showable=true
 ln:d.shown.length≤n
 dp:d.depth≤k
theorem Fine.mono {n k n' k':Nat} {d:PyData} (h:Fine n k d) (h1:n≤n') (h2:k≤k'):Fine n' k' d:=⟨h.sh,Nat.le_trans h.ln h1,Nat.le_trans h.dp h2⟩
theorem len_of (s:String):(Str.ofString s).length=s.toList.length:=by
 rw [Str.ofString_eq_toList]
 simp [Str.length]
theorem int_len {i:Int} (h:i.natAbs<10 ^ 45):((toString i:String):Str).length≤46:=by
 show (Str.ofString (toString i)).length≤46
 rw [len_of]
 cases i with
 |ofNat n=>
  have:=PySem.Flt.repr_len (k:=45) (by decide) (show n<10 ^ 45 from h)
  show (Nat.repr n).toList.length≤46
  omega
 |negSucc n=>
  have:=PySem.Flt.repr_len (k:=45) (by decide) (show n+1<10 ^ 45 from h)
  show (("-":String)++Nat.repr (n+1)).toList.length≤46
  rw [String.toList_append,List.length_append]
  have e:("-":String).toList.length=1:=by decide
  omega
theorem int_log {i:Int} (h:i.natAbs<10 ^ 45):i.natAbs.log2<1920:=by
 refine PySem.Flt.log2_lt_of (by decide) (Nat.lt_of_lt_of_le h ?_)
 exact Nat.le_trans (show (10:Nat) ^ 45≤2 ^ 200 by decide+kernel) (Nat.pow_le_pow_right (by decide) (by decide))
theorem Fine.int {i:Int} (h:i.natAbs<10 ^ 45):Fine 46 0 (.int i):=⟨by simpa [PyData.showable] using int_log h,int_len h,Nat.le_refl _⟩
theorem Fine.non:Fine 46 0 .none:=⟨rfl,by show (Str.ofString "None").length≤46;rw [len_of];decide,Nat.le_refl _⟩
theorem Fine.bl (b:Bool):Fine 46 0 (.bool b):=⟨rfl,by cases b<;> (show (Str.ofString _).length≤46;rw [len_of];decide),Nat.le_refl _⟩
theorem all_fine {n k:Nat}:∀{ds:List PyData},(∀d∈ds,Fine n k d)→PyData.showableAll ds=true∧((PyData.shownAll ds).map (·.length)).sum≤n * ds.length∧(PyData.shownAll ds).length=ds.length∧PyData.depthAll ds≤k
 |[],_=>⟨rfl,by simp [PyData.shownAll],rfl,by simp [PyData.depthAll]⟩
 |d::ds,h=>by
  obtain ⟨a,b,c,e⟩:=all_fine fun d' hd=>h d' (List.mem_cons_of_mem _ hd)
  obtain ⟨h1,h2,h3⟩:=h d List.mem_cons_self
  refine ⟨by rw [PyData.showableAll,h1,a];rfl,?_,by rw [PyData.shownAll,List.length_cons,c,List.length_cons],by rw [PyData.depthAll];omega⟩
  rw [PyData.shownAll,List.map_cons,List.sum_cons,List.length_cons,Nat.mul_succ]
  omega
theorem Fine.tup {n k l:Nat} {ds:List PyData} (h:∀d∈ds,Fine n k d) (hl:ds.length≤l):Fine (n * l+2 * l+3) (k+1) (.tuple ds):=by
 obtain ⟨a,b,c,e⟩:=all_fine h
 have q:=tupleText_len_le (PyData.shownAll ds)
 have m1:=Nat.mul_le_mul_left n hl
 exact ⟨by rw [PyData.showable];exact a,by rw [PyData.shown];omega,by rw [PyData.depth];omega⟩
theorem Fine.lst {n k l:Nat} {ds:List PyData} (h:∀d∈ds,Fine n k d) (hl:ds.length≤l):Fine (n * l+2 * l+3) (k+1) (.list ds):=by
 obtain ⟨a,b,c,e⟩:=all_fine h
 have q:=listText_len_le (PyData.shownAll ds)
 have m1:=Nat.mul_le_mul_left n hl
 exact ⟨by rw [PyData.showable];exact a,by rw [PyData.shown];omega,by rw [PyData.depth];omega⟩
theorem Fine.dct:Fine 46 1 (.dict []):=⟨rfl,by show (dictText []).length≤46;decide+kernel,by simp [PyData.depth,PyData.depthKv]⟩
theorem Fine.txt {x:Str} {n:Nat} (h:x.length≤n) (hc:∀c∈x.cps.toList,c<16 ^ 8):Fine (10 * n+2) 0 (.str x):=⟨rfl,Nat.le_trans (PySem.StrLaws.reprText_len _ hc) (by omega),Nat.le_refl _⟩
end Rp
namespace Wk
open PySem L2
def lsF (N:Nat) (S:List T4):List Nat:=(List.range N).filter fun p=>decide ((Ao N S p)[0]? =some p)
theorem part_eq {N p q:Nat} {S:List T4} (hS:InN N S) (hp:p<N) (hq:q<N) (hN:N≤60) (h:Reach S p q):Ao N S p=Ao N S q:=by
 rw [part_lab hS hp hN,part_lab hS hq hN,(lab_iff hS hp hq).mpr h]
theorem part_self {N p:Nat} {S:List T4} (hS:InN N S) (hp:p<N) (hN:N≤60):p∈Ao N S p:=(Bg hS hp hN).mpr ⟨hp,.refl⟩
theorem part_head {N p:Nat} {S:List T4} (hS:InN N S) (hp:p<N) (hN:N≤60):∃q,(Ao N S p)[0]? =some q∧q∈lsF N S∧Reach S q p:=by
 have hm:=part_self hS hp hN
 have hl:0<(Ao N S p).length:=List.length_pos_of_mem hm
 have h0:=Bh hl
 refine ⟨_,h0,?_⟩
 have hq:=(Bg hS hp hN).mp (List.getElem_mem hl)
 refine ⟨List.mem_filter.mpr ⟨List.mem_range.mpr hq.1,?_⟩,hq.2.symm⟩
 rw [decide_eq_true_eq,←part_eq hS hp hq.1 hN hq.2]
 exact h0
theorem ls_lt {N p:Nat} {S:List T4} (hp:p∈lsF N S):p<N:=List.mem_range.mp (List.mem_filter.mp hp).1
end Wk
namespace Wk
open PySem L2
def LLow (N:Nat) (l:List Nat):Prop:=l.length=N∧∀v,v<N→l.getD v 0≤v∧l.getD (l.getD v 0) 0=l.getD v 0
theorem low_step {N:Nat} {l:List Nat} {t:T4} (h:LLow N l) (h1:t.2.1<N) (h2:t.2.2.1<N):LLow N (labS l t):=by
 obtain ⟨hl,h⟩:=h
 refine ⟨by rw [labS_len];exact hl,fun v hv=> ?_⟩
 have a:=h _ h1
 have b:=h _ h2
 have c:=h v hv
 have g:∀u,u<N→(labS l t).getD u 0=if l.getD u 0=max (l.getD t.2.1 0) (l.getD t.2.2.1 0) then min (l.getD t.2.1 0) (l.getD t.2.2.1 0) else l.getD u 0:=fun u hu=>labS_get (by omega)
 have lo:l.getD (min (l.getD t.2.1 0) (l.getD t.2.2.1 0)) 0=min (l.getD t.2.1 0) (l.getD t.2.2.1 0):=by
  rcases Nat.le_total (l.getD t.2.1 0) (l.getD t.2.2.1 0) with z|z
  ·rw [Nat.min_eq_left z];exact a.2
  ·rw [Nat.min_eq_right z];exact b.2
 rw [g v hv]
 by_cases e:l.getD v 0=max (l.getD t.2.1 0) (l.getD t.2.2.1 0)
 ·rw [if_pos e]
  have hm:min (l.getD t.2.1 0) (l.getD t.2.2.1 0)<N:=by omega
  refine ⟨by omega,?_⟩
  rw [g _ hm,lo]
  split<;> rfl
 ·rw [if_neg e]
  refine ⟨c.1,?_⟩
  rw [g _ (by omega),c.2,if_neg e]
theorem labF_low {N:Nat} {S:List T4} (hS:InN N S):LLow N (Bf N S):=by
 have:∀(S:List T4) (l:List Nat),InN N S→LLow N l→LLow N (S.foldl labS l):=by
  intro S
  induction S with
  |nil=>intro l _ h;exact h
  |cons t S ih=>
   intro l hS h
   have ht:=hS t (List.mem_cons_self ..)
   exact ih _ (fun u hu=>hS u (List.mem_cons_of_mem _ hu)) (low_step h ht.1 ht.2)
 refine this S (List.range N) hS ⟨List.length_range,fun v hv=> ?_⟩
 have e:∀u,u<N→(List.range N).getD u 0=u:=fun u hu=>by rw [List.getD_eq_getElem?_getD,List.getElem?_range hu];rfl
 rw [e v hv,e v hv]
 exact ⟨Nat.le_refl _,rfl⟩
theorem lab_ls {N v:Nat} {S:List T4} (hS:InN N S) (hN:N≤60) (hv:v<N):(Bf N S).getD v 0∈lsF N S∧Reach S ((Bf N S).getD v 0) v:=by
 have low:=labF_low hS
 have c:=low.2 v hv
 have pN:(Bf N S).getD v 0<N:=by omega
 have r:Reach S ((Bf N S).getD v 0) v:=(lab_iff hS pN hv).mp c.2
 refine ⟨List.mem_filter.mpr ⟨List.mem_range.mpr pN,?_⟩,r⟩
 rw [decide_eq_true_eq]
 have hm:=part_self hS pN hN
 have hl:0<(Ao N S ((Bf N S).getD v 0)).length:=List.length_pos_of_mem hm
 have h0:=Bh hl
 rw [h0]
 congr 1
 have hq:=(Bg hS pN hN).mp (List.getElem_mem hl)
 have e:=(lab_iff hS pN hq.1).mpr hq.2
 rw [c.2] at e
 have l1:=(low.2 _ hq.1).1
 obtain ⟨i,hi,ei⟩:=List.mem_iff_getElem.mp hm
 rcases Nat.eq_zero_or_pos i with z|z
 ·subst z;exact ei
 ·have:=List.pairwise_iff_getElem.mp (part_up (N:=N) (p:=(Bf N S).getD v 0) (S:=S)) 0 i hl hi z
  rw [ei] at this
  omega
theorem ls_nil {N:Nat} (hN:N≤60):lsF N []=List.range N∧∀p,p<N→Ao N [] p=[p]:=by
 have hS:InN N []:=fun t ht=>by cases ht
 have hp:∀p,p<N→Ao N [] p=[p]:=fun p hp=>by
  have key:∀v∈Ao N [] p,v=p:=fun v hv=>by
   obtain ⟨_,ws,l⟩:=(Bg hS hp hN).mp hv
   cases l with
   |nil=>rfl
   |snoc _ q=>cases q
  have hm:=part_self hS hp hN
  have up:=part_up (N:=N) (p:=p) (S:=[])
  cases h:Ao N [] p with
  |nil=>rw [h] at hm;cases hm
  |cons a l=>
   rw [h] at key up
   have ea:=key a (List.mem_cons_self ..)
   cases l with
   |nil=>rw [ea]
   |cons b l=>
    have eb:=key b (List.mem_cons_of_mem _ (List.mem_cons_self ..))
    have:=(List.pairwise_cons.mp up).1 b (List.mem_cons_self ..)
    omega
 refine ⟨?_,hp⟩
 unfold lsF
 refine List.filter_eq_self.mpr fun p h=> ?_
 rw [hp p (List.mem_range.mp h)]
 simp
end Wk
namespace StT
open PySem
end StT
namespace StT
open PySem
end StT
namespace StT
open PySem
end StT
namespace StT
open PySem PyProof.Rows
end StT
namespace StT
open PySem PyProof.Rows
end StT
namespace StT
open PySem PyProof.Rows
end StT
namespace StT
open PySem PyProof.Rows
end StT
namespace StT
open PySem PyProof.Rows
end StT
namespace StT
open PySem PyProof.Rows
end StT
namespace Srt
open PySem PySem.W PyProof.Rows
end Srt
namespace StT
open PySem PyProof.Rows L2
end StT
namespace StT
open PySem PySem.W PyProof.Rows L2 Srt
end StT
namespace L2
open PySem PySem.W PyProof.Rows StT
end L2
namespace L2
open PySem PySem.W PySem.Spec PyProof.Rows StT Srt
section
variable {X:Cx}
theorem vals_intsV:∀{ns:List Int} {us:List Value},Vals (ns.map V.int) us→∀y∈us,∃j t',y= .int j t':=by
 intro ns us hv
 induction ns generalizing us with
 |nil=>cases hv;intro y hy;cases hy
 |cons n ns ih=>
  cases hv with
  |cons h tl=>
   intro y hy
   rcases List.mem_cons.mp hy with rfl|hy
   ·obtain ⟨u,rfl⟩:=h;exact ⟨n,u,rfl⟩
   ·exact ih tl y hy
def isIv (i:Int):Value→Bool
 | .int j _=>j==i
 |_=>false
theorem countI {i:Int}:∀{ns:List Int} {us:List Value},Vals (ns.map V.int) us→us.countP (isIv i)=ns.count i
 |[],_,.nil=>rfl
 |n::ns,_,.cons h t=>by
  obtain ⟨u,rfl⟩:=h
  rw [List.countP_cons,List.count_cons,countI t]
  rfl
inductive RCountLP (x:V) (vs:List V) (H:Hp) (Q:VK):Prop
 |mk (a:Addr) (ns:List Int) (i:Int):(x= .ref a)→(vs=[.int i])→(H a=some (.lst (ns.map V.int)))→(Q (.int (ns.count i:Nat)) H)→RCountLP x vs H Q
def rCountL:V→List V→Hp→VK→Prop:=fun x vs H Q=>RCountLP x vs H Q
theorem mt_countL:MtM X "list.count" rCountL:=by
 intro pins s σ H x xs v us Q I rx r h
 obtain ⟨a,ns,i,rfl,rfl,ha,q⟩:=h
 cases rx
 obtain ⟨u,rfl,⟨t,rfl⟩⟩:=vals1 r
 obtain ⟨hz,its,n,rv,hlen,ho⟩:=I.lstM ha
 refine call_meets PySem.F.slot_list_count ⟨_,ho,rfl⟩ PySem.F.entry_list_count (PySem.F.args_list_count_2 _ _) (SeqAt.list_countAt a its.toArray n none #[] (.int i t) (isIv i)) ⟨ho,?_,?_⟩
 ·intro y hy
  have hy:y∈its:=by simpa using hy
  obtain ⟨j,t',rfl⟩:=vals_intsV rv y hy
  exact SeqAt.EqAt.int_int j t' i t
 ·refine ⟨.int _,H,I.tok _,⟨_,rfl⟩,?_⟩
  rw [show its.toArray.toList.countP (isIv i)=ns.count i from countI rv]
  exact q
end
end L2
namespace Srt
open PySem PySem.W PyProof.Rows L2
section
variable {prog:Program} {w:World} {A:Around} {E:Value→Shared→Prop} {s:Shared}
theorem eq_self {C:Bool→Shared→Prop} {u:Value} (h:C true s):wpAny (model prog w) A (eqBool u u) C E s:=by
 unfold eqBool
 try with_reducible refine wpAny_holding ?_
 rw [if_pos (beq_self_eq_true u)]
 exact wpAny_bind (wpAny_rule (wpAny_pure h))
theorem lex_self {b fin:Bool} {C:Bool→Shared→Prop} (h:C fin s):∀(us:List Value) (i:Nat),KatLex prog w A b fin C (us.zip us) i s
 |[],_=>h
 |u::us,i=>kat_cons (eq_self (kat_yes (lex_self h us (i+1))))
end
end Srt
namespace Srt
open PySem PySem.W PyProof.Rows L2
abbrev Pn:=Addr×Str×List V
def nRef (q:Pn):V:= .ref q.1
def d0:Pn:=(0,"",[])
def ltN (ps:List Pn) (i j:Nat):Bool:=ltK (.inr (ps.getD i d0).2.1) (.inr (ps.getD j d0).2.1)
theorem ord_nms (ps:List Pn):Ord (ltN ps) where
 asym:=fun a b h=>by
  unfold ltN at *
  generalize (Sum.inr (ps.getD a d0).2.1:Key)=x at *
  generalize (Sum.inr (ps.getD b d0).2.1:Key)=y at *
  cases e:ltK y x with
  |false=>rfl
  |true=>have:=ltK_tr h e;rw [ltK_irr] at this;cases this
 ntr:=fun a b c h1 h2=>by
  unfold ltN at *
  generalize (Sum.inr (ps.getD a d0).2.1:Key)=x at *
  generalize (Sum.inr (ps.getD b d0).2.1:Key)=y at *
  generalize (Sum.inr (ps.getD c d0).2.1:Key)=z at *
  cases e:ltK x z with
  |false=>rfl
  |true=>
   rcases ltK_tri _ _ h1 with r|r
   ·rw [r,h2] at e;cases e
   ·have:=ltK_tr r e;rw [h2] at this;cases this
theorem tups_nms {X:Cx} {pins:List (Addr×Obj)} {σ:L2.St} {H:Hp} {s:Shared} (I:Inv X pins σ H s):∀(ps:List Pn),(∀q∈ps,SqT X.K H q.1 (.str q.2.1::q.2.2))→
  ∃fs,KatTups s.heap (ps.map fun q=>Value.ref q.1) fs∧fs.length=ps.length∧∀v∈fs,∃i t,v=Value.str i t
 |[],_=>⟨[],trivial,rfl,fun v h=>nomatch h⟩
 |q::ps,h=>by
  obtain ⟨fs,t,l,f⟩:=tups_nms I ps (fun q hq=>h q (.tail _ hq))
  obtain ⟨its,rv,⟨o,ho,hc,n,hd⟩,hz⟩:=I.tuple (h q (.head _))
  cases rv with
  | @cons _ u _ us ru rr=>
   obtain ⟨tt,rfl⟩:=(show ∃t,u=Value.str q.2.1 t from ru)
   refine ⟨Value.str q.2.1 tt::fs,.cons ho hc hd (by simp) t,by simp [l],fun v hv=> ?_⟩
   rcases List.mem_cons.mp hv with rfl|hv
   ·exact ⟨_,_,rfl⟩
   ·exact f v hv
theorem sortN_core {X:Cx} {pins:List (Addr×Obj)} {σ:L2.St} {H:Hp} {s:Shared} (I:Inv X pins σ H s) {v:Value} {ps:List Pn} {Q:VK} (hT:∀q∈ps,SqT X.K H q.1 (.str q.2.1::q.2.2)) (hn:(ps.map (·.2.1)).Nodup) (h64:ps.length<64)
  (hcol:∀(Q:List Value→Shared→Prop),(∀h1 t1,(∀b o,s.heap.get? b=some o→h1.get? b=some o)→Q (ps.map fun q=>Value.ref q.1) {s with heap:=h1,toks:=t1})→wpAny (model X.prog X.w) X.A.in1 (collect v) Q X.xe s)
  (h:∀(l:Addr) (ps':List Pn),H l=none→ps'.Perm ps→ps'.Pairwise (fun a b=>¬b.2.1.cps.toList<a.2.1.cps.toList)→Q (.ref l) (upd H l (.lst (ps'.map nRef)))):
  wpAny (model X.prog X.w) X.A (call (.builtin "sorted") [v]) (EP X pins σ Q) X.xe s:=by
 have lz:(ps.map fun q=>Value.ref q.1).length=ps.length:=List.length_map ..
 refine sorted_raw (κ:=tuples' true) (ord_nms ps) (fun vs=>vs=ps.map fun q=>Value.ref q.1) (fun vs e=>by rw [e,lz];exact h64) (fun Q hq=>hcol Q fun h1 t1 k=>hq _ h1 t1 rfl k) ?_ ?_ ?_
 ·rintro vs h' t' rfl k l2 Q hq
  rw [lz] at l2
  have I':Inv X pins σ H {s with heap:=h',toks:=t'}:=I.kept k
  obtain ⟨fs,t,l,f⟩:=tups_nms I' ps hT
  refine kat_kind (s:={s with heap:=h',toks:=t'}) (T:=Value.type "str") t (by omega) (fun v hv=> ?_) rfl ?_
  ·obtain ⟨i,t,rfl⟩:=f v hv
   exact Looks.of_pure rfl
  ·have:(Value.type "str" !=Value.type "tuple")=true:=rfl
   rw [this];exact hq
 ·rintro vs h' t' rfl k i j C hi hj hC
  rw [lz] at hi hj
  have I':Inv X pins σ H {s with heap:=h',toks:=t'}:=I.kept k
  show wpAny _ _ (keyLt' _ ((ps.map fun q=>Value.ref q.1).getD i Value.none) ((ps.map fun q=>Value.ref q.1).getD j Value.none)) C _ _
  have ei:(ps.map fun q=>Value.ref q.1).getD i Value.none=Value.ref ps[i].1:=by simp [hi]
  have ej:(ps.map fun q=>Value.ref q.1).getD j Value.none=Value.ref ps[j].1:=by simp [hj]
  have fi:ps.getD i d0=ps[i]:=by simp [hi]
  have fj:ps.getD j d0=ps[j]:=by simp [hj]
  rw [ei,ej]
  unfold ltN at hC
  rw [fi,fj] at hC
  obtain ⟨ui,ri,⟨oi,hoi,hci,ni,hdi⟩,zi⟩:=I'.tuple (hT ps[i] (List.getElem_mem hi))
  by_cases hij:i=j
  ·subst hij
   refine kat_lt hoi hdi hoi hdi ?_
   have:decide (ui.toArray.size<ui.toArray.size)=false:=by simp
   rw [this]
   refine lex_self ?_ _ 0
   have z:ltK (.inr ps[i].2.1) (.inr ps[i].2.1)=false:=ltK_irr _
   rw [z] at hC;exact hC
  ·obtain ⟨uj,rj,⟨oj,hoj,hcj,nj,hdj⟩,zj⟩:=I'.tuple (hT ps[j] (List.getElem_mem hj))
   have ne:¬ps[i].2.1=ps[j].2.1:=fun e=>(by
    have pw:=List.pairwise_iff_getElem.mp hn
    rcases Nat.lt_or_gt_of_ne hij with q|q
    ·exact absurd (by rw [List.getElem_map,List.getElem_map];exact e) (pw i j (by simpa using hi) (by simpa using hj) q)
    ·exact absurd (by rw [List.getElem_map,List.getElem_map];exact e.symm) (pw j i (by simpa using hj) (by simpa using hi) q))
   refine kat_lt hoi hdi hoj hdj ?_
   cases ri with
   | @cons _ u _ us ru rr=>
    cases rj with
    | @cons _ u' _ us' ru' rr'=>
     obtain ⟨t1,rfl⟩:=(show ∃t,u=Value.str ps[i].2.1 t from ru)
     obtain ⟨t2,rfl⟩:=(show ∃t,u'=Value.str ps[j].2.1 t from ru')
     refine kat_cons (wpAny_eqBool_str ?_)
     have:decide (ps[i].2.1=ps[j].2.1)=false:=decide_eq_false ne
     rw [this]
     exact kat_no (oneLt_str hC)
 ·rintro vs p h1 h' t' l e rfl pm st k1 k zl hl
  have I:Inv X pins σ H {s with heap:=h1,toks:=t'}:=I.kept k1
  have pl:=pm.toList
  rw [lz] at pl pm st
  have hz:=pm.size
  have mem:∀i∈p.toList,i<ps.length:=fun i hi=>by simpa using pl.mem_iff.mp hi
  have e1:(p.toList.map fun i=>(ps.map fun q=>Value.ref q.1).getD i Value.none)=(p.toList.map fun i=>ps.getD i d0).map fun q=>Value.ref q.1:=by
   rw [List.map_map]
   refine List.map_congr_left fun i hi=> ?_
   have:=mem i hi
   simp [this]
  rw [e1] at hl
  have pp:(p.toList.map fun i=>ps.getD i d0).Perm ps:=by
   have:=pl.map (fun i=>ps.getD i d0)
   rwa [map_range_getD] at this
  have pw:(p.toList.map fun i=>ps.getD i d0).Pairwise (fun a b=>¬b.2.1.cps.toList<a.2.1.cps.toList):=by
   rw [List.pairwise_map]
   refine (st.pairwise hz).imp fun {a b} hab=> ?_
   unfold ltN ltK at hab
   exact of_decide_eq_false hab
  refine ⟨.ref l,_,I.laid (t':=t') (o:= .lst ((p.toList.map fun i=>ps.getD i d0).map nRef)) k zl ⟨?_,_,e,vals_map nRef (fun q=>Value.ref q.1) (fun _=>rfl) _,hl⟩,rfl,h l _ (I.hok.fresh zl) pp pw⟩
  rw [List.length_map,pp.length_eq,sizeLine_eq]
  omega
def rSortN (K:PySem.W.Frag):List V→Hp→VK→Prop:=fun xs H Q=>∃(p:Addr) (ps:List Pn),xs=[.ref p]∧SqL K H p (ps.map nRef)∧(∀q∈ps,SqT K H q.1 (.str q.2.1::q.2.2))∧(ps.map (·.2.1)).Nodup∧ps.length<64∧∀(l:Addr) (ps':List Pn),H l=none→ps'.Perm ps→ps'.Pairwise (fun a b=>¬b.2.1.cps.toList<a.2.1.cps.toList)→Q (.ref l) (upd H l (.lst (ps'.map nRef)))
theorem call_sortedN {X:Cx}:CallR X (.builtin "sorted") (rSortN X.K):=by
 intro pins s σ H xs us Q I r h
 obtain ⟨p,ps,rfl,hq,ok,nd,few,q⟩:=h
 obtain ⟨u,rfl,rx⟩:=vals1 r
 cases rx
 obtain ⟨its,rv,hp,hz⟩:=I.list hq
 have e:its=ps.map fun q=>Value.ref q.1:=by
  clear hq hp hz q r ok nd few
  induction ps generalizing its with
  |nil=>cases rv;rfl
  |cons a ps ih=>
   cases rv with
   |cons ru rr=>rw [List.map_cons,←ih _ rr];cases ru;rfl
 subst e
 refine sortN_core I ok nd few (fun Q hq=>collect_list hp.isList (hq _ _ fun b o ho=> ?_) (by rw [List.length_map,sizeLine_eq];omega)) q
 have hlt:b<s.heap.objs.size:=Heap.lt_size ho
 rw [Heap.get?_update_ne _ _ _ _ (Nat.ne_of_lt hlt)]
 exact Heap.get?_push_of_some _ ho
end Srt
namespace L2
open PySem PySem.Spec PyProof.Rows
section
variable {X:Cx}
theorem num_at (ys:Array (Int×Tok)) {i:Nat} (h:i<ys.size):∃t,(intItems ys)[i]? =some (.int (numAt ys i) t)∧(ys.toList.map (·.1))[i]? =some (numAt ys i):=by
 refine ⟨ys[i].2,?_,?_⟩
 ·unfold intItems numAt
  simp [h]
 ·unfold numAt
  simp [h]
theorem call_maxL (hc:X.calm=true):CallR X (.builtin "max") (fun xs H Q=>∃(p:Addr) (ns:List Int),xs=[.ref p]∧SqL X.K H p (ns.map V.int)∧ns≠[]∧∀m,m∈ns→(∀n∈ns,n≤m)→Q (.int m) H):=by
 intro pins s σ H xs us Q I r h
 obtain ⟨p,ns,rfl,hq,hne,q⟩:=h
 obtain ⟨u,rfl,rx⟩:=vals1 r
 cases rx
 obtain ⟨its,rv,hl,hz⟩:=I.list hq
 have hi:=intsAre_of rv
 obtain ⟨ys,e⟩:=hi.allInts.items
 have hl':=hl.isList
 rw [e] at hl'
 have e2:ys.toList.map (·.1)=ns:=by
  have q2:=nums_intItems ys
  rw [←e] at q2
  rw [←q2]
  exact hi.numsOf
 have sz:ys.size=ns.length:=by rw [←e2];simp
 have pos:0<ys.size:=by rw [sz];exact List.length_pos_iff.mpr hne
 refine max_intList (I.ok.hd hc) hl' pos fun v h' tk hv hk=> ?_
 obtain ⟨b1,b2⟩:=argBest_gt (numAt ys) (ys.size - 1)
 obtain ⟨t,g1,g2⟩:=num_at ys (i:=argBest (fun i j=>decide (numAt ys i > numAt ys j)) (ys.size - 1)) (by omega)
 rw [g1] at hv
 cases hv
 rw [e2] at g2
 refine ⟨.int _,H,I.kept hk,⟨t,rfl⟩,q _ (List.mem_of_getElem? g2) fun n hn=> ?_⟩
 obtain ⟨j,hj,rfl⟩:=List.mem_iff_getElem.mp hn
 obtain ⟨_,_,g3⟩:=num_at ys (i:=j) (by omega)
 rw [e2,List.getElem?_eq_getElem hj] at g3
 rw [Option.some.inj g3]
 exact b2 j (by omega)
end
end L2
namespace PySem
open Builtin
abbrev zL1 (h:Heap) (a:Addr):Heap:=h.push {cls:= .type "list_iterator",data:= .fields #[.ref a,.int 0 0]}
abbrev zL2 (h:Heap) (a b:Addr):Heap:=(zL1 h a).push {cls:= .type "list_iterator",data:= .fields #[.ref b,.int 0 0]}
abbrev zL3 (h:Heap) (a b:Addr):Heap:=(zL2 h a b).push {cls:= .type "tuple",data:= .seq #[.ref h.objs.size,.ref (zL1 h a).objs.size]}
abbrev zL4 (h:Heap) (a b:Addr):Heap:=(zL3 h a b).push {cls:= .type "tuple",data:= .seq #[.none,.none]}
abbrev zL5 (h:Heap) (a b:Addr):Heap:=(zL4 h a b).push {cls:= .type "zip",data:= .fields #[.none,.bool false,.bool false,.ref (zL2 h a b).objs.size,.ref (zL3 h a b).objs.size]}
theorem meets_zip_ll (a b:Addr) (xs ys:Array Value):
  Meets (Builtin.«zip.__new__» ⟨[.type "zip",.ref a,.ref b],[]⟩) (fun _ R s=>s.heap.IsList a xs∧s.heap.IsList b ys∧R (.ok (.ret (.ref (zL4 s.heap a b).objs.size))) {s with heap:=zL5 s.heap a b}):=
 .of_wp fun prog w A R s h=>by
  obtain ⟨hp,g,d,tk,os⟩:=s
  obtain ⟨ta,tb,h⟩:=h
  have hsub:=sub_zip
  have q1:Heap.IsList (Shared.heap ⟨hp,g,d,tk,os⟩) a xs:=ta
  have q2:Heap.IsList (Shared.heap ⟨hp.push {cls:= .type "list_iterator",data:= .fields #[.ref a,.int 0 0]},g,d,tk,os⟩) b ys:=let ⟨o,ho,r⟩:=tb;⟨o,Heap.get?_push_of_some _ ho,r⟩
  wp_walk using wpAny_pyIter_list q1,wpAny_pyIter_list q2
  exact ⟨_,rfl,h⟩
section
variable {prog:Program} {w:World} {A:Around} {E:Value→Shared→Prop} {s:Shared}
theorem call_zip_ll {a b:Addr} {xs ys:Array Value} {Q:Value→Shared→Prop} (ta:s.heap.IsList a xs) (tb:s.heap.IsList b ys)
  (h:∀h',IsZip h' (s.heap.objs.size+4) (s.heap.objs.size+2) (s.heap.objs.size+3) .none→IsPair h' (s.heap.objs.size+2) (.ref s.heap.objs.size) (.ref (s.heap.objs.size+1))→IsPair h' (s.heap.objs.size+3) .none .none→
   h'.IsListIter s.heap.objs.size a 0→h'.IsListIter (s.heap.objs.size+1) b 0→(∀c o,s.heap.get? c=some o→h'.get? c=some o)→Q (.ref (s.heap.objs.size+4)) {s with heap:=h'}):
  wpAny (model prog w) A (call (.type "zip") [.ref a,.ref b]) Q E s:=by
 refine callType_new F.called_zip (by decide) (F.typeCall_zip_2 _ _) (F.newCall_zip_2 _ _) (fun obj=>F.args_object_init_3 obj _ _) F.entry_zip_new (meets_zip_ll a b xs ys) ⟨ta,tb,?_⟩
 have y1:(zL1 s.heap a).objs.size=s.heap.objs.size+1:=Heap.size_push ..
 have y2:(zL2 s.heap a b).objs.size=s.heap.objs.size+2:=by rw [Heap.size_push,y1]
 have y3:(zL3 s.heap a b).objs.size=s.heap.objs.size+3:=by rw [Heap.size_push,y2]
 have y4:(zL4 s.heap a b).objs.size=s.heap.objs.size+4:=by rw [Heap.size_push,y3]
 have e5:(zL5 s.heap a b).get? (zL4 s.heap a b).objs.size=some _:=Heap.get?_push_size _ rfl
 have e4:(zL5 s.heap a b).get? (zL3 s.heap a b).objs.size=some _:=Heap.get?_push_of_some _ (Heap.get?_push_size _ rfl)
 have e3:(zL5 s.heap a b).get? (zL2 s.heap a b).objs.size=some _:=Heap.get?_push_of_some _ (Heap.get?_push_of_some _ (Heap.get?_push_size _ rfl))
 have e2:(zL5 s.heap a b).get? (zL1 s.heap a).objs.size=some _:=Heap.get?_push_of_some _ (Heap.get?_push_of_some _ (Heap.get?_push_of_some _ (Heap.get?_push_size _ rfl)))
 have e1:(zL5 s.heap a b).get? s.heap.objs.size=some _:=Heap.get?_push_of_some _ (Heap.get?_push_of_some _ (Heap.get?_push_of_some _ (Heap.get?_push_of_some _ (Heap.get?_push_size _ rfl))))
 show _∧_
 rw [y2,y3,y4] at e5
 rw [y1,y2] at e3
 rw [y3] at e4
 rw [y1] at e2
 rw [y4]
 refine ⟨⟨_,e5,rfl⟩,h _ e5 e3 e4 ⟨_,e1,rfl,rfl⟩ ⟨_,e2,rfl,rfl⟩ fun c o e=> ?_⟩
 exact Heap.get?_push_of_some _ (Heap.get?_push_of_some _ (Heap.get?_push_of_some _ (Heap.get?_push_of_some _ (Heap.get?_push_of_some _ e))))
end
end PySem
namespace L2
open PySem PySem.Spec PyProof.Rows
def ItzL (K:PySem.W.Frag) (a b:Addr):It:=
 ⟨fun i H=>∃xs ys x y,SqL K H a xs∧SqL K H b ys∧xs[i]? =some x∧ys[i]? =some y,fun i H v H'=>∃T x y,H T=none∧v= .ref T∧H'=upd H T (.tup [x,y])∧(∀xs,SqL K H a xs→xs[i]? =some x)∧∀ys,SqL K H b ys→ys[i]? =some y,
  fun i H=>∃xs ys,SqL K H a xs∧SqL K H b ys∧(i=xs.length∨(i<xs.length∧i=ys.length))⟩
theorem turn_zipL {P:Program} {w:World} {K:PySem.W.Frag} {elts:List Expr} {x1} {pos:Pos} (a b z TI TO i1 i2:Addr) (nd:[z,TI,TO,i1,i2].Nodup) (na:a ∉ [z,TI,TO,i1,i2]) (nb:b ∉ [z,TI,TO,i1,i2]):Turn P w K (.Tuple elts x1 pos) (ItzL K a b) [z,TI,TO,i1,i2] z
  (fun i h=>IsZip h z TI TO .none∧IsPair h TI (.ref i1) (.ref i2)∧(∃u v,IsPair h TO u v)∧h.IsListIter i1 a i∧h.IsListIter i2 b i) where
 mem:=by simp
 obj:=fun i h st c hc=>by
  obtain ⟨h1,h2,⟨u,v,h3⟩,⟨o4,g4,_,d4⟩,⟨o5,g5,_,d5⟩⟩:=st
  simp only [List.mem_cons,List.mem_nil_iff,or_false] at hc
  rcases hc with rfl|rfl|rfl|rfl|rfl
  ·exact ⟨_,h1,fun v q=>by cases q⟩
  ·exact ⟨_,h2,fun v q=>by cases q⟩
  ·exact ⟨_,h3,fun v q=>by cases q⟩
  ·exact ⟨_,g4,fun v q=>by rw [d4] at q;cases q⟩
  ·exact ⟨_,g5,fun v q=>by rw [d5] at q;cases q⟩
 keep:=fun i h h' st k=>by
  obtain ⟨h1,h2,⟨u,v,h3⟩,h4,h5⟩:=st
  exact ⟨k z (by simp) _ h1,k TI (by simp) _ h2,⟨u,v,k TO (by simp) _ h3⟩,h4.at fun o q=>k i1 (by simp) o q,h5.at fun o q=>k i2 (by simp) o q⟩
 item:=by
  intro X hP hw hK hc i pins s σ H E I hf st hg
  subst hP hw hK
  obtain ⟨hZ,pI,⟨u,v,pO⟩,t1,t2⟩:=st
  obtain ⟨xs,ys,x,y,ha,hb,hx,hy⟩:=hg
  obtain ⟨its,rv,p1,_⟩:=I.list ha
  obtain ⟨jts,rw',p2,_⟩:=I.list hb
  obtain ⟨ux,hux,rx⟩:=rv.get hx
  obtain ⟨uy,huy,ry⟩:=rw'.get hy
  have AP:=zap_of nd na nb
  have fresh:H s.heap.objs.size=none:=I.hok.fresh (Nat.le_refl _)
  have ltz:∀c∈[z,TI,TO,i1,i2],c≠s.heap.objs.size:=by
   intro c hc
   obtain ⟨o4,g4,_⟩:=id t1
   obtain ⟨o5,g5,_⟩:=id t2
   simp only [List.mem_cons,List.mem_nil_iff,or_false] at hc
   rcases hc with rfl|rfl|rfl|rfl|rfl
   ·exact Nat.ne_of_lt (Heap.lt_size hZ)
   ·exact Nat.ne_of_lt (Heap.lt_size pI)
   ·exact Nat.ne_of_lt (Heap.lt_size pO)
   ·exact Nat.ne_of_lt (Heap.lt_size g4)
   ·exact Nat.ne_of_lt (Heap.lt_size g5)
  refine pyNext_zip_itemD AP (Draws.list (A:=X.A.in1) (I.ok.hd hc) i1 a (fun q=>na (by simp [q])) its.toArray) (Draws.list (A:=X.A.in1) (I.ok.hd hc) i2 b (fun q=>nb (by simp [q])) jts.toArray) hZ pI pO ⟨t1,p1.isList⟩ ⟨t2,p2.isList⟩
   (by have:=(List.getElem?_eq_some_iff.mp hux).1;simpa using this) (by have:=(List.getElem?_eq_some_iff.mp huy).1;simpa using this) fun h' tk xv yv px py z' pO' s1' s2' pT kk=>⟨_,rfl,?_⟩
  have ex:ux=xv:=Option.some.inj (hux.symm.trans (by simpa using px))
  have ey:uy=yv:=Option.some.inj (huy.symm.trans (by simpa using py))
  subst ex ey
  refine wpAny_letOwnedTupleGo_zip (s:={s with heap:=h',toks:=tk}) z' fun h2 z2 sb=> ?_
  have I1:Inv X pins σ (upd H s.heap.objs.size (.tup [x,y])) {s with heap:=s.heap.push {cls:= .type "tuple",data:= .seq #[ux,uy]},toks:=s.toks}:=
   I.laid (o:= .tup [x,y]) (fun b ob q=>Heap.get?_push_of_some _ q) (Nat.le_refl _) ⟨by rw [sizeLine_eq];simp,[ux,uy],.cons rx (.cons ry .nil),IsTupN.new _ _⟩
  have I2:=I1.turnedL (h':=h2) (t':=tk) [z,TI,TO,i1,i2] (fun c o hc' q=> ?_) (fun c hc'=>(hf c hc').up (ltz c hc'))
  ·refine ⟨.ref s.heap.objs.size,_,I2,rfl,⟨_,x,y,fresh,rfl,rfl,fun ys' hy'=>by rw [I.list_inj hy' ha];exact hx,fun ys' hy'=>by rw [I.list_inj hy' hb];exact hy⟩,
    ⟨z2,(sb.2 TI AP.a1).trans (kk _ _ AP.a1 AP.a5 AP.a6 AP.a7 pI),⟨_,_,(sb.2 TO AP.a2).trans pO'⟩,s1'.1.at fun o q=>(sb.2 i1 AP.a3).trans q,s2'.1.at fun o q=>(sb.2 i2 AP.a4).trans q⟩,fun c hc'=> ?_⟩
   rw [A0 (ltz c hc')];exact (hf c hc').1
  ·have c1:c≠z:=fun q=>hc' (by simp [q])
   have c2:c≠TO:=fun q=>hc' (by simp [q])
   have c3:c≠i1:=fun q=>hc' (by simp [q])
   have c4:c≠i2:=fun q=>hc' (by simp [q])
   refine (sb.2 c c1).trans ?_
   by_cases hcs:c=s.heap.objs.size
   ·subst hcs
    rw [Heap.get?_push_size _ rfl] at q
    cases q
    exact pT
   ·rw [Heap.get?_push_ne _ _ _ hcs] at q
    exact kk c o c1 c2 c3 c4 q
 done:=by
  intro X hP hw hK hc i pins s σ H E I hf st hg
  subst hP hw hK
  obtain ⟨hZ,pI,⟨u,v,pO⟩,t1,t2⟩:=st
  obtain ⟨xs,ys,ha,hb,hend⟩:=hg
  obtain ⟨its,rv,p1,_⟩:=I.list ha
  obtain ⟨jts,rw',p2,_⟩:=I.list hb
  have AP:=zap_of nd na nb
  have l1:=rv.length
  have l2:=rw'.length
  refine pyNext_zip_endD AP (Draws.list (A:=X.A.in1) (I.ok.hd hc) i1 a (fun q=>na (by simp [q])) its.toArray) (Draws.list (A:=X.A.in1) (I.ok.hd hc) i2 b (fun q=>nb (by simp [q])) jts.toArray) hZ pI pO ⟨t1,p1.isList⟩ ⟨t2,p2.isList⟩
   (by simp only [List.size_toArray];omega) fun h' tk kk=>⟨rfl,I.turnedL (t':=tk) [z,TI,TO,i1,i2] (fun c o hc' q=> ?_) hf⟩
  exact kk c o (fun q=>hc' (by simp [q])) (fun q=>hc' (by simp [q])) (fun q=>hc' (by simp [q])) (fun q=>hc' (by simp [q])) q
 self:=fun A i s Q E st h=>wpAny_pyIter_zip st.1 h
def iZipL (K:PySem.W.Frag) (ta:TA):TI:=fun σ H R=>ta σ H fun vs H1=>∃a b xs ys,vs=[.ref a,.ref b]∧SqL K H1 a xs∧SqL K H1 b ys∧R (ItzL K a b) H1
theorem pi_zipL {X:Cx} {elts:List Expr} {x1} {tpos:Pos} {e1 e2:Expr} {ta:TA} {p pos:Pos} (hg:Gl X "zip") (hm:X.mg "zip"=none) (ha:PA X [e1,e2] ta) (hs:starEach [e1,e2] X.env=[(false,eval e1 X.env),(false,eval e2 X.env)]:=by rfl) (hs2:starEach [e2] X.env=[(false,eval e2 X.env)]:=by rfl):
  PI X (.Tuple elts x1 tpos) (.Call (.Name "zip" p) [e1,e2] [] pos) (iZipL X.K ta):=by
 intro pins s σ H R I h
 refine Call_ (ld_blt I hg hm (show bootBuiltins "zip"=some (.type "zip") by decide+kernel) (PyProof.Rows.callWith_type1 (thn (ha pos pins s σ H _ I h) fun us s1 ⟨vs,H1,I1,r1,q1⟩=> ?_) (by rw [hs,hs2]) (by rw [hs2];rfl)))
 obtain ⟨a,b,xs,ys,e,hqa,hqb,q⟩:=q1
 subst e
 cases r1 with
 |cons r rr=>
  cases rr with
  |cons r' rr=>
   cases rr
   cases r
   cases r'
   obtain ⟨its,rv,p1,_⟩:=I1.list hqa
   obtain ⟨jts,rw',p2,_⟩:=I1.list hqb
   refine call_zip_ll p1.isList p2.isList fun h' hZ pI pO t1 t2 kk=>wpAny_pyIter_zip hZ ?_
   obtain ⟨oa,ga,_⟩:=id p1.isList
   obtain ⟨ob,gb,_⟩:=id p2.isList
   have la:=Heap.lt_size ga
   have lb:=Heap.lt_size gb
   have big:∀c∈[s1.heap.objs.size+4,s1.heap.objs.size+2,s1.heap.objs.size+3,s1.heap.objs.size,s1.heap.objs.size+1],s1.heap.objs.size≤c:=by
    intro c hc
    simp only [List.mem_cons,List.mem_nil_iff,or_false] at hc
    rcases hc with rfl|rfl|rfl|rfl|rfl<;> first|exact Nat.le_add_right _ _|exact Nat.le_refl _
   refine ⟨s1.heap.objs.size+4,[s1.heap.objs.size+4,s1.heap.objs.size+2,s1.heap.objs.size+3,s1.heap.objs.size,s1.heap.objs.size+1],_,_,H1,rfl,I1.kept (t':=s1.toks) kk,
    turn_zipL a b _ _ _ _ _ ?_ (fun q=>Nat.lt_irrefl _ (Nat.lt_of_lt_of_le la (big _ q))) (fun q=>Nat.lt_irrefl _ (Nat.lt_of_lt_of_le lb (big _ q))),⟨hZ,pI,⟨_,_,pO⟩,t1,t2⟩,fun c hc=>I1.fpOk (big c hc) (I1.hok.fresh (big c hc)),q⟩
   generalize s1.heap.objs.size=n
   show List.Nodup ([n+4,n+2,n+3,n,n+1]:List Nat)
   simp
section
variable {g:TG} {ti:TT} {te:TE} {Q:VK} {D:Addr} {σ:St} {H:Hp}
theorem comp_zipL {K:PySem.W.Frag} {a b:Addr} {xs ys:List V} (Pv:Nat→St→List V→Hp→Prop) (h0:Pv 0 σ [] (upd H D (.lst []))) (hl:∀i σ zs H,i≤xs.length→i≤ys.length→Pv i σ zs H→SqL K H a xs∧SqL K H b ys∧H D=some (.lst zs))
  (hs:∀i x y σ zs H T,xs[i]? =some x→ys[i]? =some y→Pv i σ zs H→H T=none→cturn g ti te D (.ref T) σ zs (upd H T (.tup [x,y])) (Pv (i+1))) (hd:∀i σ zs H,i=min xs.length ys.length→Pv i σ zs H→Q (.ref D) H):
  cgo (ItzL K a b) g ti te D σ H Q:=by
 refine ⟨fun i m σ zs H=>m=xs.length - i∧i≤xs.length∧i≤ys.length∧Pv i σ zs H,⟨xs.length,by simp,Nat.zero_le _,Nat.zero_le _,h0⟩,?_⟩
 rintro i m σ zs H ⟨rfl,hi,hj,p⟩
 obtain ⟨q1,q2,hD⟩:=hl i σ zs H hi hj p
 refine ⟨hD,?_⟩
 by_cases hlt:i<xs.length∧i<ys.length
 ·refine .inr ⟨⟨xs,ys,xs[i],ys[i],q1,q2,by simp [hlt.1],by simp [hlt.2]⟩,Pv (i+1),fun σ' ys' H' p'=>⟨xs.length - (i+1),by omega,rfl,hlt.1,hlt.2,p'⟩,fun x H' y=> ?_⟩
  obtain ⟨T,x,y,hT,rfl,rfl,y1,y2⟩:=y
  exact hs i x y σ zs H T (y1 xs q1) (y2 ys q2) p hT
 ·exact .inl ⟨⟨xs,ys,q1,q2,by omega⟩,hd i σ zs H (by omega) p⟩
end
end L2
namespace K34
open PySem L2 Wk
def top (i:Nat):Stmt:=PySem.Challenge.pw_joinedever_k34_things_of_anything.main.body.getD i (.Pass ⟨0,0,0,0⟩)
abbrev sWhole:Stmt:=top 1
abbrev sWithin:Stmt:=top 2
abbrev sName:Stmt:=top 7
abbrev sAmount:Stmt:=top 8
abbrev sPlace:Stmt:=top 9
abbrev sTie:Stmt:=top 10
abbrev sShape:Stmt:=top 11
abbrev sBeside:Stmt:=top 13
abbrev sWays:Stmt:=top 14
abbrev sPart:Stmt:=top 15
abbrev sParts:Stmt:=top 16
abbrev sHasR:Stmt:=top 17
abbrev sRoom:Stmt:=top 20
abbrev sMost:Stmt:=top 21
abbrev sTies:Stmt:=top 22
abbrev sKept:Stmt:=top 23
abbrev sRow:Stmt:=top 24
abbrev sForm:Stmt:=top 25
abbrev sHolds:Stmt:=top 26
abbrev sHold:Stmt:=top 27
abbrev sDeck:Stmt:=top 29
abbrev sDraw:Stmt:=top 30
abbrev sNames:Stmt:=top 31
abbrev sMany:Stmt:=top 32
abbrev sWeight:Stmt:=top 33
abbrev sHalved:Stmt:=top 34
abbrev sGreat:Stmt:=top 35
abbrev sTops:Stmt:=top 36
abbrev sLayered:Stmt:=top 37
abbrev sSome:Stmt:=top 38
abbrev sGood:Stmt:=top 39
abbrev sLWhole:Stmt:=top 40
abbrev sLName:Stmt:=top 41
abbrev sLRow:Stmt:=top 42
abbrev sDue:Stmt:=top 43
abbrev sTold:Stmt:=top 44
abbrev sOdd:Stmt:=top 45
abbrev sLaw:Stmt:=top 46
structure Txt (mg:Str→Option Value):Prop where
 isinstance:mg "isinstance"=none
 int:mg "int"=none
 bool:mg "bool"=none
 tuple:mg "tuple"=none
 len:mg "len"=none
 range:mg "range"=none
 sum:mg "sum"=none
 str:mg "str"=none
 max:mg "max"=none
 min:mg "min"=none
 all:mg "all"=none
 zip:mg "zip"=none
 sorted:mg "sorted"=none
 list:mg "list"=none
 enumerate:mg "enumerate"=none
 repr:mg "repr"=none
 places:∃t,mg "MOST_PLACES"=some (.int 24 t)
 tiesM:∃t,mg "MOST_TIES"=some (.int 60 t)
 letters:∃t,mg "MOST_LETTERS"=some (.int 8 t)
 amount:∃t,mg "MOST_AMOUNT"=some (.int 1000000000 t)
def StandAt (H:Hp) (st:Addr) (S:List T4):Prop:=∃rs:List Addr,H st=some (.lst (rs.map V.ref))∧TiesAt H rs S
theorem StandAt.same {H H':Hp} {st:Addr} {S:List T4} (h:StandAt H st S) (s:Same H H'):StandAt H' st S:=let ⟨rs,a,b⟩:=h;⟨rs,s _ _ a,b.same s⟩
def spBeside:Sp:=fun vs H Q _=>∃(N:Nat) (st:Addr) (S:List T4),vs=[.int (N:Int),.ref st]∧StandAt H st S∧InN N S∧N≤60∧S.length≤100∧∀b H',Same H H'→BesAt H' b N (Bm S)→Q (.ref b) H'
def spWays:Sp:=fun vs H Q _=>∃(N:Nat) (st:Addr) (S:List T4) (p:Nat),vs=[.int (N:Int),.ref st,.int (p:Int)]∧StandAt H st S∧InN N S∧N≤60∧S.length≤100∧p<N∧∀a H',Same H H'→WaysAt H' a (waysF N S p)→Q (.ref a) H'
def spPart:Sp:=fun vs H Q _=>∃(N:Nat) (st:Addr) (S:List T4) (p:Nat),vs=[.int (N:Int),.ref st,.int (p:Int)]∧StandAt H st S∧InN N S∧N≤60∧S.length≤100∧p<N∧∀a H',Same H H'→H' a=some (.tup (((Ao N S p).map Int.ofNat).map V.int))→Q (.ref a) H'
section
variable {P:Program} {w:World} {K:PySem.W.Frag} {mg:Str→Option Value} {base:Heap}
theorem scBeside:Av ["many","stand","beside","name","one","other","weight"] ["many","stand"] (Ae sBeside):=⟨rfl,rfl,rfl,by decide+kernel,rfl,by decide+kernel,by decide+kernel⟩
theorem ok_Beside {f:Addr} {fd:FuncData} (F:Fun K "beside_of" "beside_of" sBeside f fd) (T:Txt mg):
  FnOk P w K mg base CX0 1 f fd ["many","stand"] spBeside:=by
 refine F.ok scBeside (fun vs H Q E h=> ?_) (fun cdv A outer s H vs Q E hr h=> ?_)
 ·obtain ⟨_,_,_,rfl,_⟩:=h;rfl
 ·obtain ⟨N,st,S,rfl,⟨rs,hst,hrs⟩,hN,N60,S100,k⟩:=h
  refine ⟨_,Ag (ps_comp (i:=2) (T:=["place"]) (F:=[]) (js:=[]) scBeside.nd rfl (Or.inl rfl) (CS.to (osc:=Ae sBeside) ⟨by rfl,by decide+kernel,by decide+kernel,by decide+kernel,by decide+kernel,by decide+kernel,by decide+kernel⟩ rfl rfl) rfl (By rfl T.range (Aa (pv 0) Ac)) (fun _ _ _ _ _=>Ak (i:=0) (show (["place"]:List Str).Nodup by decide+kernel) rfl (Or.inl rfl)) (fun _ _ _ _ _=>Cd) (fun _ _ _ _ _=>Ca Ac))
   (Ag (ps_for PassesOwn.never rfl (Cj (pv 1)) (pg_tup rfl (Ba (Ak (i:=3) scBeside.nd rfl (Or.inl rfl)) (Ba (Ak (i:=4) scBeside.nd rfl (Or.inl rfl)) (Ba (Ak (i:=5) scBeside.nd rfl (Or.inl rfl)) (Ba (Ak (i:=6) scBeside.nd rfl (Or.inl rfl)) pgs_nil))))) (Ag (ps_expr (pe_bm PySem.F.plainAttrs_list PySem.F.slot_list_append PySem.F.type_list_append mt_append (At A3 (pv 2) (pv 4) (fun _ _=>rfl)) (Aa (Cb (Aa (pv 3) (Aa (pv 5) Ac))) Ac)))
   (Ah (ps_expr (pe_bm PySem.F.plainAttrs_list PySem.F.slot_list_append PySem.F.type_list_append mt_append (At A3 (pv 2) (pv 5) (fun _ _=>rfl)) (Aa (Cb (Aa (pv 3) (Aa (pv 4) Ac))) Ac))))))
   (Ah (Al (pv 2)))),?_⟩
  refine ⟨_,rfl,(N:Int),rfl,by omega,by omega,fun D hD=>comp_range (lo:=0) (n:=(N:Int).toNat) (fun j σ ys H2=>∃(u:Option V) (ls:List Addr),σ=[u]∧ys=ls.map V.ref∧Same H H2∧H2 D=some (.lst ys)∧ls.length=j∧ls.Nodup∧∀l∈ls,H l=none∧l≠D∧H2 l=some (.lst [])) ⟨none,[],rfl,rfl,Ad hD,Ab,rfl,List.nodup_nil,by simp⟩ (fun j σ ys H2 _ ⟨_,_,_,_,_,e,_⟩=>e) ?_ ?_⟩
  ·rintro j σ ys H2 hj ⟨u,ls,rfl,rfl,s2,d2,ll,nd,hl⟩
   have hj:j<N:=by simpa using hj
   refine ⟨Ax (by simp),fun p hp=> ?_⟩
   have pD:p≠D:=(Bj d2 hp).symm
   refine ⟨by rw [A0 pD.symm];exact d2,Ar (by simp;omega),_,ls++[p],rfl,by rw [List.map_append];rfl,A2 (s2.trans (Ad hp)) hD,Ab,by simp [ll],?_,fun l hl'=> ?_⟩
   ·refine List.nodup_append.mpr ⟨nd,List.nodup_cons.mpr ⟨by simp,List.nodup_nil⟩,fun x hx y hy=> ?_⟩
    rw [List.mem_singleton.mp hy]
    exact Bj (hl x hx).2.2 hp
   ·rcases List.mem_append.mp hl' with q|q
    ·obtain ⟨h1,h2,h3⟩:=hl l q
     exact ⟨h1,h2,by rw [A0 h2,A0 (Bj h3 hp)];exact h3⟩
    ·rw [List.mem_singleton.mp q]
     exact ⟨none_of s2 hp,pD,by rw [A0 pD];exact Ab⟩
  rintro σ ys H2 ⟨u,ls,rfl,rfl,s2,d2,ll,nd,hl⟩
  have ll:ls.length=N:=by simpa using ll
  have B0:Bes H H2 D ls N (Bm []):=⟨s2,d2,ll,nd,fun l h=>⟨(hl l h).1,(hl l h).2.1⟩,fun v l h=>⟨[],(hl l (List.mem_of_getElem? h)).2.2,rfl,fun i r q e=>(by simp at e)⟩⟩
  refine ⟨_,rfl,st,rfl,⟨_,SqL.of (s2 _ _ hst)⟩,for_list (K:=K) (a:=st) (xs:=rs.map V.ref) (fun i σ H3=>∃(u3 u4 u5 u6:Option V),σ=[some (.int (N:Int)),some (.ref st),some (.ref D),u3,u4,u5,u6]∧Bes H H3 D ls N (Bm (S.take i))) ⟨_,_,_,_,rfl,B0⟩ (fun i σ H3 _ ⟨_,_,_,_,_,B⟩=>SqL.of (B.same _ _ hst)) ?_ ?_⟩
  ·rintro i x σ H3 hx ⟨u3,u4,u5,u6,rfl,B⟩
   obtain ⟨r,hr',rfl⟩:=A5 hx
   obtain ⟨t,ht,er⟩:=hrs.get hr'
   have er3:=B.same _ _ er
   have tN:=hN t (List.mem_of_getElem? ht)
   have h1:t.2.1<ls.length:=by omega
   have h2:t.2.2.1<ls.length:=by omega
   have tk:S.take (i+1)=S.take i++[t]:=by rw [List.take_add_one,ht];rfl
   have nl:∀v,(Bm (S.take i) v).length≤200:=fun v=>Nat.le_trans (nbrs_len _ _) (by rw [List.length_take];omega)
   have l1:=Bh h1
   have l2:=Bh h2
   obtain ⟨rs1,e1,n1,_⟩:=B.prs _ _ l1
   refine ⟨r,_,rfl,SqT.of er3,rfl,_,_,rfl,_,_,rfl,_,_,rfl,_,_,rfl,rfl,?_⟩
   refine ⟨_,rfl,_,rfl,D,_,_,.ref ls[t.2.1],rfl,rfl,SqL.of B.hb,Ay (by rw [List.getElem?_map,l1];rfl),.inl ⟨rfl,_,SqL.of e1⟩,_,rfl,_,rfl,Ax (by simp),fun p hp=> ?_⟩
   refine ⟨_,_,_,rfl,rfl,Ad hp _ _ e1,Ar (by rw [List.length_map];have:=nl t.2.1;omega),?_⟩
   have B1:=B.app (n:=t.1) (u:=t.2.2.1) l1 hp e1
   generalize upd (upd H3 p _) _ _=H4 at B1
   obtain ⟨rs2,e2,n2,_⟩:=B1.prs _ _ l2
   refine ⟨_,rfl,_,rfl,D,_,_,.ref ls[t.2.2.1],rfl,rfl,SqL.of B1.hb,Ay (by rw [List.getElem?_map,l2];rfl),.inl ⟨rfl,_,SqL.of e2⟩,_,rfl,_,rfl,Ax (by simp),fun p' hp'=> ?_⟩
   have n3:rs2.length≤201:=by
    rw [n2]
    split
    ·rw [List.length_append];have:=nl t.2.1;simp only [List.length_cons,List.length_nil];omega
    ·have:=nl t.2.2.1;omega
   refine ⟨_,_,_,rfl,rfl,Ad hp' _ _ e2,Ar (by rw [List.length_map];omega),_,_,_,_,rfl,?_⟩
   have B2:=B1.app (n:=t.1) (u:=t.2.1) l2 hp' e2
   rw [nb_two,←tk] at B2
   exact B2
  ·rintro σ H3 ⟨u3,u4,u5,u6,rfl,B⟩
   rw [List.length_map,hrs.1,List.take_length] at B
   exact ⟨_,rfl,k D H3 B.same ⟨ls,B.hb,B.len,B.prs⟩⟩
theorem scWays:Av ["many","stand","place","beside","ways","waiting","here","name","there"] ["many","stand","place"] (Ae sWays):=⟨rfl,rfl,rfl,by decide+kernel,rfl,by decide+kernel,by decide+kernel⟩
theorem ok_Ways {f:Addr} {fd:FuncData} (F:Fun K "ways_from" "ways_from" sWays f fd) (T:Txt mg)
  {gBeside:Addr} {fBeside:FuncData} (kBeside:PySem.W.keepIn K (.ref gBeside)=true) (bBeside:Binds K fBeside ["many","stand"] []) (hBeside:mg "beside_of"=some (.ref gBeside)) (GBeside:FnOk P w K mg base CX0 1 gBeside fBeside ["many","stand"] spBeside):
  FnOk P w K mg base CX0 2 f fd ["many","stand","place"] spWays:=by
 refine F.ok scWays (fun vs H Q E h=> ?_) (fun cdv A outer s H vs Q E hr h=> ?_)
 ·obtain ⟨_,_,_,_,rfl,_⟩:=h;rfl
 ·obtain ⟨N,st,S,p,rfl,hst,hN,N60,S100,pN,k⟩:=h
  refine ⟨_,Ag (As (i:=3) scWays.nd rfl (Or.inl rfl) (Ai GBeside hr rfl hBeside kBeside bBeside .nil Aq (Aa (pv 0) (Aa (pv 1) Ac))))
   (Ag (As (i:=4) scWays.nd rfl (Or.inl rfl) (Am op_rep (Ca (Aa pe_non Ac)) (pv 0)))
   (Ag (ps_asg (Cb Ac) (pg_sub (pv 4) (pv 2) set_list))
   (Ag (As (i:=5) scWays.nd rfl (Or.inl rfl) (Ca (Aa (pv 2) Ac)))
   (Ag (ps_while PassesOwn.never (pt_truth (pv 5) (fun _=>rfl)) (Ag (As (i:=6) scWays.nd rfl (Or.inl rfl) (pe_bm PySem.F.plainAttrs_list PySem.F.slot_list_pop PySem.F.type_list_pop mt_popAt (pv 5) (Aa Af Ac)))
   (Ah (ps_for PassesOwn.never rfl (Cj (At A3 (pv 3) (pv 6) (fun _ _=>rfl))) (pg_tup rfl (Ba (Ak (i:=7) scWays.nd rfl (Or.inl rfl)) (Ba (Ak (i:=8) scWays.nd rfl (Or.inl rfl)) pgs_nil))) (Ah (Bs (Az op_isN (At A3 (pv 4) (pv 8) (fun _ _=>rfl)) pe_non (Aw _)) (Ag (ps_asg (Am op_catTT (At A3 (pv 4) (pv 6) (fun _ _=>rfl)) (Cb (Aa (pv 7) Ac))) (pg_sub (pv 4) (pv 8) set_list))
   (Ah (ps_expr (pe_bm PySem.F.plainAttrs_list PySem.F.slot_list_append PySem.F.type_list_append mt_append (pv 5) (Aa (pv 8) Ac))))) A7))))))
   (Ah (Al (pv 4))))))),?_⟩
  refine ⟨_,rfl,_,rfl,N,st,S,rfl,hst,hN,N60,S100,fun b H1 s1 hb=> ?_⟩
  refine ⟨Ax (by simp),fun q hq=>⟨_,rfl,q,_,_,rfl,rfl,Ab,by omega,by omega,Ax (by simp only [List.length_cons,List.length_nil];omega),fun ws hws=> ?_⟩⟩
  have fl:(List.replicate (N:Int).toNat [V.non]).flatten=List.replicate N V.non:=by rw [List.flatten_replicate_singleton];rfl
  rw [fl]
  have s2:=(Ad (H:=H1) (o:= .lst [.non]) hq).trans (Ad (o:= .lst (List.replicate N V.non)) hws)
  have nw:H1 ws=none:=none_of (Ad (H:=H1) (o:= .lst [.non]) hq) hws
  have e2:=Ab (H:=upd H1 q (.lst [.non])) (a:=ws) (o:= .lst (List.replicate N V.non))
  generalize upd (upd H1 q (.lst [.non])) ws (.lst (List.replicate N V.non))=H2 at s2 e2
  have W2:WaysAt H2 ws (List.replicate N none):=⟨_,e2,by simp,fun i x o hx ho=>by
   rw [List.getElem?_replicate] at hx ho
   split at hx
   ·rename_i hi
    rw [if_pos hi] at ho
    cases hx
    cases ho
    rfl
   ·cases hx⟩
  refine ⟨Ax (by simp),fun e he=> ?_⟩
  have s3:=Ad (o:= .tup []) he
  have W3:=W2.same s3
  have e3:=s3 _ _ e2
  have t3:=Ab (H:=H2) (a:=e) (o:= .tup [])
  generalize upd H2 e (.tup [])=H3 at s3 W3 e3 t3
  have W4:WaysAt (upd H3 ws (.lst ((List.replicate N V.non).set p (.ref e)))) ws (Bx N p).1:=WaysAt.set (w:=[]) W3 e3 t3
  have s4:Same H1 (upd H3 ws (.lst ((List.replicate N V.non).set p (.ref e)))):=A2 (s2.trans s3) nw
  refine ⟨_,rfl,_,rfl,ws,_,_,p,rfl,rfl,e3,(by have h:ixN (List.replicate N V.non).length (p:Int)=some p:=ixN_nat (by simpa using pN);exact h),?_⟩
  generalize upd H3 ws _=H4 at W4 s4
  refine ⟨_,rfl,Ax (by simp),fun wt hwt=> ?_⟩
  have s5:=s4.trans (Ad (o:= .lst [.int (p:Int)]) hwt)
  have nt:H1 wt=none:=none_of s4 hwt
  have W5:=W4.same (Ad (o:= .lst [.int (p:Int)]) hwt)
  have t5:=Ab (H:=H4) (a:=wt) (o:= .lst [.int (p:Int)])
  have wwt:ws≠wt:=by obtain ⟨xs,hx,_⟩:=W4;exact Bj hx hwt
  generalize upd H4 wt (.lst [.int (p:Int)])=H5 at s5 W5 t5
  dsimp only [gName,tSeq]
  refine while_gh (fun m σ H6=>∃(i:Nat) (u6 u7 u8:Option V) (wl:Ws) (tl:List Nat),σ=[some (.int (N:Int)),some (.ref st),some (.int (p:Int)),some (.ref b),some (.ref ws),some (.ref wt),u6,u7,u8]∧Same H1 H6∧H6 wt=some (.lst ((tl.map Int.ofNat).map V.int))∧WaysAt H6 ws wl∧iter S i (Bx N p)=(wl,tl)∧BInv S N p (wl,tl)∧m=nones wl+tl.length∧i+m≤64∧tl.length≤64∧∀v x,Wk.Vis wl v x→x.length≤i)
   (m0:=nones (Bx N p).1+1) ⟨0,_,_,_,(Bx N p).1,[p],rfl,s5,t5,W5,rfl,binv0 pN,rfl,?_,by simp,fun v x q=>by rw [binit_vis pN q];simp⟩ ?_ ?_
  ·have:nones (Bx N p).1≤(Bx N p).1.length:=List.countP_le_length
   simp only [Bx,List.length_set,List.length_replicate] at this ⊢
   omega
  ·rintro m σ H6 ⟨i,u6,u7,u8,wl,tl,rfl,s6,t6,W6,it6,I6,hm,hi,tl6,sh6⟩
   refine ⟨_,rfl,_,.inl ⟨_,SqL.of t6,rfl⟩,?_⟩
   cases tl with
   |nil=>
    refine Bi ?_
    rw [←ways_of it6 (by omega)] at W6
    exact ⟨_,rfl,k ws H6 (s1.trans s6) W6⟩
   |cons h rest=>
    refine Be ?_
    obtain ⟨w0,hv0,J⟩:=pinv_of I6
    have hh:h<N:=by have:=(List.getElem?_eq_some_iff.mp hv0).1;rw [←I6.len];exact this
    refine ⟨_,rfl,.inl ⟨rfl,_,SqL.of t6⟩,wt,_,0,0,.int (h:Int),rfl,rfl,t6,by decide,by decide,by simp [seqIndex?],rfl,?_⟩
    have W7:=W6.keep (zs:=(rest.map Int.ofNat).map V.int) t6 wwt
    have s7:Same H1 (upd H6 wt (.lst ((rest.map Int.ofNat).map V.int))):=A2 s6 nt
    have t7:=Ab (H:=H6) (a:=wt) (o:= .lst ((rest.map Int.ofNat).map V.int))
    have eH:upd H6 wt (.lst (List.eraseIdx (List.map V.int (List.map Int.ofNat (h::rest))) 0))=upd H6 wt (.lst ((rest.map Int.ofNat).map V.int)):=rfl
    rw [eH]
    generalize upd H6 wt (.lst ((rest.map Int.ofNat).map V.int))=H7 at W7 s7 t7
    obtain ⟨ls,hls,lls,hpr⟩:=hb.same s7
    have hl:=Bh (l:=ls) (i:=h) (by omega)
    obtain ⟨rs,er,lr,hr3⟩:=hpr h _ hl
    have w0len:w0.length≤64:=by have:=sh6 h w0 hv0;omega
    refine ⟨_,rfl,_,rfl,b,_,_,.ref ls[h],rfl,rfl,SqL.of hls,Ay (by rw [List.getElem?_map,hl];rfl),_,rfl,⟨_,SqL.of er⟩,?_⟩
    have key:∀H8,Same H1 H8→H8 ls[h]=some (.lst (rs.map V.ref))∧∀(i:Nat) r q,rs[i]? =some r→(Bm S h)[i]? =some q→H8 r=some (.tup [.str q.1,.int (q.2:Int)]):=by
     intro H8 s8
     obtain ⟨ls',hls',_,hpr'⟩:=hb
     have e1:ls'=ls:=by
      have:=s7 _ _ hls'
      rw [hls] at this
      injection this with this
      injection this with this
      exact (refs_inj this).symm
     subst e1
     obtain ⟨rs',er',lr',hr'⟩:=hpr' h _ hl
     have e2:rs'=rs:=by
      have:=s7 _ _ er'
      rw [er] at this
      injection this with this
      injection this with this
      exact (refs_inj this).symm
     subst e2
     exact ⟨s8 _ _ er',fun i r q e f=>s8 _ _ (hr' i r q e f)⟩
    refine for_list (K:=K) (a:=ls[h]) (xs:=rs.map V.ref) (fun j σ H8=>∃(u7 u8:Option V),σ=[some (.int (N:Int)),some (.ref st),some (.int (p:Int)),some (.ref b),some (.ref ws),some (.ref wt),some (.int (h:Int)),u7,u8]∧Same H1 H8∧H8 wt=some (.lst (((Bo w0 ((Bm S h).take j) (wl,rest)).2.map Int.ofNat).map V.int))∧WaysAt H8 ws (Bo w0 ((Bm S h).take j) (wl,rest)).1)
     ⟨_,_,rfl,s7,t7,W7⟩ (fun j σ H8 _ ⟨_,_,_,s8,_⟩=>SqL.of (key H8 s8).1) ?_ ?_
    ·rintro j x σ H8 hx ⟨u7',u8',rfl,s8,t8,W8⟩
     obtain ⟨r,hr',rfl⟩:=A5 hx
     have hj:j<(Bm S h).length:=by rw [←lr];exact (List.getElem?_eq_some_iff.mp hr').1
     have hq:=Bh hj
     have er8:=(key H8 s8).2 j r _ hr' hq
     have tk:(Bm S h).take (j+1)=(Bm S h).take j++[(Bm S h)[j]]:=by rw [List.take_add_one,hq];rfl
     have qN:((Bm S h)[j]).2<N:=nb_lt hN (List.getElem_mem hj)
     have jl:j<201:=by have:=nbrs_len S h;omega
     obtain ⟨vl1,vl2⟩:=visit_len w0 ((Bm S h).take j) (wl,rest)
     have vh:=visit_vis w0 ((Bm S h).take j) (wl,rest) hv0
     rw [tk,visit_snoc]
     generalize (Bm S h)[j]=q at er8 qN
     generalize Bo w0 ((Bm S h).take j) (wl,rest)=st' at *
     obtain ⟨wl',tl'⟩:=st'
     dsimp only at *
     have qw:q.2<wl'.length:=by rw [vl1];show _<wl.length;rw [I6.len];exact qN
     refine ⟨r,_,rfl,SqT.of er8,rfl,_,_,rfl,_,_,rfl,rfl,?_⟩
     obtain ⟨xs,x,hxs,hx',lxs,hxo⟩:=W8.get (Bh qw)
     refine ⟨_,rfl,_,rfl,ws,_,_,x,rfl,rfl,SqL.of hxs,Ay hx',rfl,_,rfl,?_⟩
     cases ho:wl'[q.2] with
     |some z=>
      rw [ho] at hxo
      obtain ⟨rz,rfl,_⟩:=hxo
      rw [vis1_no (by dsimp only;rw [Bh qw,ho];simp)]
      refine Ci (fun g=>absurd g (by simp)) fun _=> ?_
      exact ⟨_,_,rfl,s8,t8,W8⟩
     |none=>
      rw [ho] at hxo
      have hxo:x= .non:=hxo
      subst hxo
      rw [vis1_yes (by dsimp only;rw [Bh qw,ho])]
      refine Ci (fun _=> ?_) fun g=>absurd (by simp) g
      obtain ⟨xs2,x2,hxs2,hx2,_,hxo2⟩:=W8.get vh
      obtain ⟨r0,rfl,er0⟩:=hxo2
      rw [hxs] at hxs2
      injection hxs2 with hxs2
      injection hxs2 with hxs2
      subst hxs2
      have tl9:((tl'.map Int.ofNat).map V.int).length≤1000:=by
       simp only [List.length_map,List.length_take,List.length_cons] at vl2 tl6 ⊢
       omega
      refine ⟨_,rfl,_,rfl,ws,_,_,.ref r0,rfl,rfl,SqL.of hxs,Ay hx2,_,rfl,Ax (by simp),fun p1 hp1=> ?_⟩
      have s9:=Ad (o:= .tup [.str q.1]) hp1
      have p9:=Ab (H:=H8) (a:=p1) (o:= .tup [.str q.1])
      have w9:w0.length≤100:=by
       have:=(J.ht h w0 J.hv);have:=w0len;omega
      generalize upd H8 p1 (.tup [.str q.1])=H9 at s9 p9
      refine ⟨r0,p1,_,_,rfl,rfl,SqT.of (s9 _ _ er0),SqT.of p9,Ax (by simp;omega),fun e=> ?_,fun _ e=>absurd e (by simp),fun _ _ p2 hp2=> ?_⟩
      ·have e0:w0=[]:=by simpa using e
       have e9:H9 p1=some (.tup ((w0++[q.1]).map V.str)):=by rw [e0];exact p9
       have hxs9:=s9 _ _ hxs
       have W9:=(W8.same s9).set (u:=q.2) hxs9 e9
       have t9:=s9 _ _ t8
       refine ⟨_,rfl,_,rfl,ws,_,_,q.2,rfl,rfl,hxs9,ixN_nat (by omega),?_⟩
       have s10:Same H1 (upd H9 ws (.lst (xs.set q.2 (.ref p1)))):=A2 (s8.trans s9) nw
       have t10:upd H9 ws (.lst (xs.set q.2 (.ref p1))) wt=some (.lst ((tl'.map Int.ofNat).map V.int)):=by rw [A0 wwt.symm];exact t9
       generalize upd H9 ws (.lst (xs.set q.2 (.ref p1)))=H10 at W9 s10 t10
       refine ⟨_,rfl,.inl ⟨rfl,_,SqL.of t10⟩,_,rfl,wt,_,_,rfl,rfl,t10,Ar tl9,_,_,rfl,A2 s10 nt,?_,W9.keep t10 wwt⟩
       rw [Ab,List.map_append,List.map_append];rfl
      ·have e9:upd H9 p2 (.tup (w0.map V.str++[.str q.1])) p2=some (.tup ((w0++[q.1]).map V.str)):=by rw [Ab,List.map_append];rfl
       have s9:=s9.trans (Ad (o:= .tup (w0.map V.str++[.str q.1])) hp2)
       generalize upd H9 p2 (.tup (w0.map V.str++[.str q.1]))=H9 at s9 e9
       have hxs9:=s9 _ _ hxs
       have W9:=(W8.same s9).set (u:=q.2) hxs9 e9
       have t9:=s9 _ _ t8
       refine ⟨_,rfl,_,rfl,ws,_,_,q.2,rfl,rfl,hxs9,ixN_nat (by omega),?_⟩
       have s10:Same H1 (upd H9 ws (.lst (xs.set q.2 (.ref p2)))):=A2 (s8.trans s9) nw
       have t10:upd H9 ws (.lst (xs.set q.2 (.ref p2))) wt=some (.lst ((tl'.map Int.ofNat).map V.int)):=by rw [A0 wwt.symm];exact t9
       generalize upd H9 ws (.lst (xs.set q.2 (.ref p2)))=H10 at W9 s10 t10
       refine ⟨_,rfl,.inl ⟨rfl,_,SqL.of t10⟩,_,rfl,wt,_,_,rfl,rfl,t10,Ar tl9,_,_,rfl,A2 s10 nt,?_,W9.keep t10 wwt⟩
       rw [Ab,List.map_append,List.map_append];rfl
    ·rintro σ H8 ⟨u7',u8',rfl,s8,t8,W8⟩
     rw [List.length_map,lr,List.take_length] at t8 W8
     have eb:bstep S (wl,h::rest)=Bo w0 (Bm S h) (wl,rest):=by
      show Bo ((wl[h]?.join).getD []) (Bm S h) (wl,rest)=_
      unfold Wk.Vis at hv0
      rw [hv0];rfl
     obtain ⟨I8,m8⟩:=bstep_ok hN I6
     have sh8:=bstep_short hN I6 sh6
     have it8:iter S (i+1) (Bx N p)=Bo w0 (Bm S h) (wl,rest):=by rw [iter_snoc,it6,eb]
     rw [eb] at I8 m8 sh8
     generalize Bo w0 (Bm S h) (wl,rest)=st' at *
     obtain ⟨wl',tl'⟩:=st'
     dsimp only at *
     refine ⟨nones wl'+tl'.length,by omega,i+1,_,_,_,wl',tl',rfl,s8,t8,W8,it8,I8,rfl,by omega,by omega,sh8⟩
  ·rintro σ H6 Q Q' f ⟨v,e,b',h',q⟩
   exact ⟨v,e,b',h',f _ _ q⟩
theorem scPart:Av ["many","stand","place","ways"] ["many","stand","place"] (Ae sPart):=⟨rfl,rfl,rfl,by decide+kernel,rfl,by decide+kernel,by decide+kernel⟩
theorem ok_Part {f:Addr} {fd:FuncData} (F:Fun K "part_of" "part_of" sPart f fd) (T:Txt mg)
  {gWays:Addr} {fWays:FuncData} (kWays:PySem.W.keepIn K (.ref gWays)=true) (bWays:Binds K fWays ["many","stand","place"] []) (hWays:mg "ways_from"=some (.ref gWays)) (GWays:FnOk P w K mg base CX0 2 gWays fWays ["many","stand","place"] spWays):
  FnOk P w K mg base CX0 3 f fd ["many","stand","place"] spPart:=by
 refine F.ok scPart (fun vs H Q E h=> ?_) (fun cdv A outer s H vs Q E hr h=> ?_)
 ·obtain ⟨_,_,_,_,rfl,_⟩:=h;rfl
 ·obtain ⟨N,st,S,p,rfl,hst,hN,N60,S100,pN,k⟩:=h
  refine ⟨_,Ag (As (i:=3) scPart.nd rfl (Or.inr rfl) (Ai GWays hr rfl hWays kWays bWays .nil Aq (Aa (pv 0) (Aa (pv 1) (Aa (pv 2) Ac)))))
   (Ah (Al (Bt call_tuple_of (by rfl) T.tuple (by decide+kernel) (Aa (Bn (T:=["there"]) (F:=["ways"]) (js:=[3]) (CS.to (osc:=Ae sPart) ⟨by rfl,by decide+kernel,by decide+kernel,by decide+kernel,by decide+kernel,by decide+kernel,by decide+kernel⟩ rfl rfl) rfl (By rfl T.range (Aa (pv 0) Ac)) (fun _ _ _ _ _=>Ak (i:=0) (show (["there","ways"]:List Str).Nodup by decide+kernel) rfl (Or.inl rfl)) (fun _ _ _ _ _=>Ch (Az op_notN (At (r:=rIxL K) A3 (pv 1) (pv 0) (fun _ _=>rfl)) pe_non (Aw _))) (fun _ _ _ _ _=>pv 0)) Ac)))),?_⟩
  refine ⟨_,rfl,_,rfl,_,rfl,N,st,S,p,rfl,hst,hN,N60,S100,pN,fun a H1 s1 W1=> ?_⟩
  have wl:=ways_len hN pN N60
  refine ⟨_,rfl,(N:Int),rfl,by omega,by omega,fun D hD=>comp_range (lo:=0) (n:=(N:Int).toNat) (fun j σ ys H2=>∃(u:Option V),σ=[u,some (.ref a)]∧ys=((((List.range j).filter fun v=>((waysF N S p)[v]?.join).isSome).map Int.ofNat).map V.int)∧H2=upd H1 D (.lst ys)) ⟨none,rfl,rfl,rfl⟩ (fun j σ ys H2 _ ⟨_,_,_,e⟩=>by rw [e];exact Ab) ?_ ?_⟩
  ·rintro j σ ys H2 hj ⟨u,rfl,rfl,rfl⟩
   have hj:j<N:=by simpa using hj
   have hjw:j<(waysF N S p).length:=by omega
   obtain ⟨xs,x,hxs,hx,lx,hxo⟩:=(W1.same (Ad (o:= .lst ((((List.range j).filter fun v=>((waysF N S p)[v]?.join).isSome).map Int.ofNat).map V.int)) hD)).get (Bh hjw)
   refine ⟨_,rfl,_,rfl,a,_,_,x,rfl,rfl,SqL.of hxs,by rw [Int.zero_add];exact Ay hx,rfl,_,rfl,?_⟩
   have lf:((List.range j).filter fun v=>((waysF N S p)[v]?.join).isSome).length≤60:=Nat.le_trans (List.length_filter_le _ _) (by rw [List.length_range];omega)
   cases ho:(waysF N S p)[j] with
   |none=>
    rw [ho] at hxo
    have hxo:x= .non:=hxo
    subst hxo
    refine Ci (fun g=>absurd g (by simp)) fun _=>⟨_,rfl,?_,?_⟩
    ·rw [List.range_succ,List.filter_append];simp [Bh hjw,ho]
    ·rfl
   |some z=>
    rw [ho] at hxo
    obtain ⟨r,rfl,_⟩:=hxo
    refine Ci (fun _=>⟨_,rfl,Ab,Ar (by simp only [List.length_map];omega),_,rfl,?_,by rw [upd_upd]⟩) fun g=>absurd (by simp) g
    rw [List.range_succ,List.filter_append,List.map_append,List.map_append]
    simp [Bh hjw,ho]
  ·rintro σ ys H2 ⟨u,rfl,rfl,rfl⟩
   exact ⟨D,_,rfl,.inl ⟨SqL.of Ab,fun l hl=>k l _ (s1.trans ((Ad hD).trans (Ad hl))) Ab⟩⟩
end
end K34
namespace Wk
open PySem L2
theorem part_head_le {N p q u:Nat} {S:List T4} (h:(Ao N S p)[0]? =some q) (hu:u∈Ao N S p):q≤u:=by
 have pw:(Ao N S p).Pairwise (·<·):=(List.pairwise_lt_range (n:=N)).filter _
 cases e:Ao N S p with
 |nil=>rw [e] at hu;cases hu
 |cons a r=>
  rw [e] at h hu pw
  simp at h;subst h
  rcases List.mem_cons.mp hu with rfl|hu
  ·exact Nat.le_refl _
  ·exact Nat.le_of_lt ((List.pairwise_cons.mp pw).1 u hu)
theorem ls_least {N p:Nat} {S:List T4} (hS:InN N S) (hN:N≤60) (hp:p<N):decide ((Ao N S p)[0]? =some p)=leastB S p:=by
 rw [Bool.eq_iff_iff,decide_eq_true_eq,least_iff]
 constructor
 ·intro h u hu r
  have:u∈Ao N S p:=(Bg hS hp hN).mpr ⟨by omega,r.symm⟩
  have:=part_head_le h this
  omega
 ·intro h
  obtain ⟨q,h1,h2,h3⟩:=part_head hS hp hN
  have le:=part_head_le h1 (part_self hS hp hN)
  rcases Nat.lt_or_ge q p with c|c
  ·exact absurd h3 (h q c)
  ·rw [h1,show q=p by omega]
theorem ls_cls {N:Nat} {S:List T4} (hS:InN N S) (hN:N≤60):(lsF N S).length=clsF N S:=by
 unfold lsF clsF
 rw [←List.countP_eq_length_filter]
 exact List.countP_congr fun p hp=>by rw [ls_least hS hN (List.mem_range.mp hp)]
end Wk
namespace K34
open PySem L2 Wk
def nV (ps:List Nat):List V:=(ps.map Int.ofNat).map V.int
theorem nV_at {ps:List Nat} {k v:Nat} (h:ps[k]? =some v):atI (nV ps) (k:Int)=some (.int (v:Int)):=Ay (by unfold nV;rw [List.getElem?_map,List.getElem?_map,h];rfl)
def PtsAt (H:Hp) (as:List Addr) (N:Nat) (S:List T4) (ls:List Nat):Prop:=as.length=ls.length∧∀(i:Nat) r p,as[i]? =some r→ls[i]? =some p→H r=some (.tup (nV (Ao N S p)))
def spParts:Sp:=fun vs H Q _=>∃(N:Nat) (st:Addr) (S:List T4),vs=[.int (N:Int),.ref st]∧StandAt H st S∧InN N S∧N≤60∧S.length≤100∧∀a as H',Same H H'→H' a=some (.tup (as.map V.ref))→PtsAt H' as N S (lsF N S)→Q (.ref a) H'
theorem pts_snoc {H:Hp} {as:List Addr} {N p:Nat} {S:List T4} {ls:List Nat} {r:Addr} (h:PtsAt H as N S ls) (hr:H r=some (.tup (nV (Ao N S p)))):PtsAt H (as++[r]) N S (ls++[p]):=by
 refine ⟨by rw [List.length_append,List.length_append,h.1];rfl,fun i r0 p0 e1 e2=> ?_⟩
 rw [List.getElem?_append] at e1 e2
 rw [h.1] at e1
 split at e1
 ·rename_i z
  rw [if_pos z] at e2
  exact h.2 i r0 p0 e1 e2
 ·rename_i z
  rw [if_neg z] at e2
  have hz:i - ls.length=0:=by
   have:=(List.getElem?_eq_some_iff.mp e1).1
   simp only [List.length_cons,List.length_nil] at this
   omega
  rw [hz] at e1 e2
  cases e1
  cases e2
  exact hr
theorem PtsAt.mono {H H':Hp} {as:List Addr} {N:Nat} {S:List T4} {ls:List Nat} (h:PtsAt H as N S ls) (f:∀r zs,H r=some (.tup zs)→H' r=some (.tup zs)):PtsAt H' as N S ls:=⟨h.1,fun i r p a b=>f _ _ (h.2 i r p a b)⟩
def spHasR:Sp:=fun vs H Q _=>∃(N:Nat) (st:Addr) (F:List T4),vs=[.int (N:Int),.ref st]∧StandAt H st F∧InN N F∧N≤60∧F.length≤100∧∀H',Same H H'→Q (.bl (decide ((N:Int) - ((lsF N F).length:Nat)<(F.length:Nat)))) H'
section
variable {P:Program} {w:World} {K:PySem.W.Frag} {mg:Str→Option Value} {base:Heap}
theorem scParts:Av ["many","stand","parts"] ["many","stand"] (Ae sParts):=⟨rfl,rfl,rfl,by decide+kernel,rfl,by decide+kernel,by decide+kernel⟩
theorem ok_Parts {f:Addr} {fd:FuncData} (F:Fun K "parts_of" "parts_of" sParts f fd) (T:Txt mg)
  {gPart:Addr} {fPart:FuncData} (kPart:PySem.W.keepIn K (.ref gPart)=true) (bPart:Binds K fPart ["many","stand","place"] []) (hPart:mg "part_of"=some (.ref gPart)) (GPart:FnOk P w K mg base CX0 3 gPart fPart ["many","stand","place"] spPart):
  FnOk P w K mg base CX0 4 f fd ["many","stand"] spParts:=by
 refine F.ok scParts (fun vs H Q E h=> ?_) (fun cdv A outer s H vs Q E hr h=> ?_)
 ·obtain ⟨_,_,_,rfl,_⟩:=h;rfl
 ·obtain ⟨N,st,S,rfl,hst,hN,N60,S100,k⟩:=h
  refine ⟨_,Ag (ps_comp (i:=2) (T:=["place"]) (F:=["many","stand"]) (js:=[0,1]) scParts.nd rfl (Or.inl rfl) (CS.to (osc:=Ae sParts) ⟨by rfl,by decide+kernel,by decide+kernel,by decide+kernel,by decide+kernel,by decide+kernel,by decide+kernel⟩ rfl rfl) rfl (By rfl T.range (Aa (pv 0) Ac)) (fun _ _ _ _ _=>Ak (i:=0) (show (["place","many","stand"]:List Str).Nodup by decide+kernel) rfl (Or.inl rfl)) (fun _ _ _ _ _=>Cd) (fun _ _ _ _ _=>Ai GPart hr rfl hPart kPart bPart .nil Aq (Aa (pv 1) (Aa (pv 2) (Aa (pv 0) Ac)))))
   (Ah (Al (Bt call_tuple_of (by rfl) T.tuple (by decide+kernel) (Aa (Bn (T:=["place","part"]) (F:=[]) (js:=[]) (CS.to (osc:=Ae sParts) ⟨by rfl,by decide+kernel,by decide+kernel,by decide+kernel,by decide+kernel,by decide+kernel,by decide+kernel⟩ rfl rfl) rfl (pi_enumL rfl T.enumerate (Aa (pv 2) Ac)) (fun _ _ _ _ _=>pg_tupK K 2 rfl rfl (Ba (Ak (i:=0) (show (["place","part"]:List Str).Nodup by decide+kernel) rfl (Or.inl rfl)) (Ba (Ak (i:=1) (show (["place","part"]:List Str).Nodup by decide+kernel) rfl (Or.inl rfl)) pgs_nil))) (fun _ _ _ _ _=>Ch (Az op_eq (At (r:=rIxT K) A9 (pv 1) Af (fun _ _=>rfl)) (pv 0) (Aw _))) (fun _ _ _ _ _=>pv 1)) Ac)))),?_⟩
  refine ⟨_,rfl,(N:Int),rfl,by omega,by omega,fun D hD=>comp_range (lo:=0) (n:=(N:Int).toNat) (fun j σ ys H2=>∃(u:Option V) (ls:List Addr),σ=[u,some (.int (N:Int)),some (.ref st)]∧ys=ls.map V.ref∧Same H H2∧H2 D=some (.lst ys)∧PtsAt H2 ls N S (List.range j)) ⟨none,[],rfl,rfl,Ad hD,Ab,rfl,fun i r p e=>by simp at e⟩ (fun j σ ys H2 _ ⟨_,_,_,_,_,e,_⟩=>e) ?_ ?_⟩
  ·rintro j σ ys H2 hj ⟨u,ls,rfl,rfl,s2,d2,p2⟩
   have hj:j<N:=by simpa using hj
   have ll:ls.length=j:=by rw [p2.1,List.length_range]
   refine ⟨_,rfl,_,rfl,_,rfl,N,st,S,j,by rw [Int.zero_add];rfl,hst.same s2,hN,N60,S100,hj,fun r H3 s3 e3=> ?_⟩
   have d3:=s3 _ _ d2
   refine ⟨d3,Ar (by rw [List.length_map];omega),_,ls++[r],rfl,by rw [List.map_append];rfl,A2 (s2.trans s3) hD,Ab,?_⟩
   rw [List.range_succ]
   have kp:∀(r:Addr) (zs:List V) (o:HO),H3 r=some (.tup zs)→upd H3 D o r=some (.tup zs):=fun r zs o e=>by rw [A0 (ne_of e d3 (by intro z;cases z))];exact e
   exact pts_snoc ((p2.mono fun r zs e=>s3 _ _ e).mono fun r zs e=>kp r zs _ e) (kp _ _ _ e3)
  rintro σ ys H2 ⟨u,ls,rfl,rfl,s2,d2,p2⟩
  have en:(N:Int).toNat=N:=by omega
  rw [en] at p2
  have ll:ls.length=N:=by rw [p2.1,List.length_range]
  refine ⟨_,rfl,D,_,rfl,SqL.of d2,fun E hE=>comp_enum (K:=K) (a:=D) (xs:=ls.map V.ref) (fun j σ ys H5=>∃(u v:Option V) (qs:List Addr),σ=[u,v]∧Same H2 H5∧H5 E=some (.lst ys)∧ys=qs.map V.ref∧PtsAt H5 qs N S ((List.range j).filter fun p=>decide ((Ao N S p)[0]? =some p))) ⟨none,none,[],rfl,Ad hE,Ab,rfl,rfl,fun i r p e=>by simp at e⟩ (fun j σ ys H5 _ ⟨_,_,_,_,s5,e,_⟩=>⟨SqL.of (s5 _ _ d2),e⟩) ?_ ?_⟩
  ·rintro j x σ ys H5 T hx ⟨u,v,qs,rfl,s5,e5,rfl,p5⟩ hT
   obtain ⟨r,er,rfl⟩:=A5 hx
   have hj:j<N:=by rw [←ll];exact (List.getElem?_eq_some_iff.mp er).1
   have s6:=Ad (o:= .tup [.int (j:Int),.ref r]) hT
   have T6:=Ab (H:=H5) (a:=T) (o:= .tup [.int (j:Int),.ref r])
   have e6:=s6 _ _ e5
   have p6:=p5.mono fun r zs e=>s6 _ _ e
   generalize upd H5 T (.tup [.int (j:Int),.ref r])=H6 at s6 T6 e6 p6
   have S6:=s5.trans s6
   have r6:=S6 _ _ (p2.2 j r j er (List.getElem?_range hj))
   refine ⟨T,_,rfl,SqT.of T6,rfl,_,_,rfl,_,_,rfl,rfl,?_⟩
   have h0:0<(Ao N S j).length:=List.length_pos_of_mem (part_self hN hj N60)
   have hg:=Bh h0
   generalize (Ao N S j)[0]=q at hg
   refine ⟨_,rfl,r,_,0,_,rfl,rfl,SqT.of r6,nV_at (k:=0) hg,_,rfl,rfl,_,rfl,?_⟩
   have ql:qs.length≤100:=by
    rw [p5.1]
    refine Nat.le_trans (List.length_filter_le _ _) ?_
    rw [List.length_range];omega
   by_cases g:q=j
   ·rw [show decide (V.int (q:Int)=V.int (j:Int))=true from decide_eq_true (by rw [g])]
    have ef:(List.range (j+1)).filter (fun p=>decide ((Ao N S p)[0]? =some p))=(List.range j).filter (fun p=>decide ((Ao N S p)[0]? =some p))++[j]:=by
     rw [List.range_succ,List.filter_append,List.filter_cons_of_pos (by rw [decide_eq_true_eq,hg,g]),List.filter_nil]
    have kp:∀(r:Addr) (zs:List V) (o:HO),H6 r=some (.tup zs)→upd H6 E o r=some (.tup zs):=fun r zs o e=>by rw [A0 (ne_of e e6 (by intro z;cases z))];exact e
    refine Be ⟨_,rfl,e6,Ar (by rw [List.length_map];omega),_,_,qs++[r],rfl,A2 S6 hE,Ab,by rw [List.map_append];rfl,?_⟩
    rw [ef]
    exact pts_snoc (p6.mono fun r zs e=>kp r zs _ e) (kp _ _ _ r6)
   ·rw [show decide (V.int (q:Int)=V.int (j:Int))=false from decide_eq_false (fun e=>g (by injection e with e;omega))]
    have ef:(List.range (j+1)).filter (fun p=>decide ((Ao N S p)[0]? =some p))=(List.range j).filter (fun p=>decide ((Ao N S p)[0]? =some p)):=by
     rw [List.range_succ,List.filter_append,List.filter_cons_of_neg (by rw [decide_eq_true_eq,hg];intro z;exact g (Option.some.inj z)),List.filter_nil,List.append_nil]
    refine Bi ⟨_,_,qs,rfl,S6,e6,rfl,?_⟩
    rw [ef];exact p6
  ·rintro σ ys H5 ⟨u,v,qs,rfl,s5,e5,rfl,p5⟩
   rw [List.length_map,ll] at p5
   refine ⟨E,_,rfl,.inl ⟨SqL.of e5,fun l hl=> ?_⟩⟩
   exact k l qs _ ((s2.trans s5).trans (Ad hl)) Ab (p5.mono fun r zs e=>Ad hl _ _ e)
theorem scHasR:Av ["many","stand"] ["many","stand"] (Ae sHasR):=⟨rfl,rfl,rfl,by decide+kernel,rfl,by decide+kernel,by decide+kernel⟩
theorem ok_HasR {f:Addr} {fd:FuncData} (F:Fun K "has_ring" "has_ring" sHasR f fd) (T:Txt mg)
  {gParts:Addr} {fParts:FuncData} (kParts:PySem.W.keepIn K (.ref gParts)=true) (bParts:Binds K fParts ["many","stand"] []) (hParts:mg "parts_of"=some (.ref gParts)) (GParts:FnOk P w K mg base CX0 4 gParts fParts ["many","stand"] spParts):
  FnOk P w K mg base CX0 5 f fd ["many","stand"] spHasR:=by
 refine F.ok scHasR (fun vs H Q E h=> ?_) (fun cdv A outer s H vs Q E hr h=> ?_)
 ·obtain ⟨_,_,_,rfl,_⟩:=h;rfl
 ·obtain ⟨N,st,F,rfl,hst,hN,N60,F100,k⟩:=h
  refine ⟨_,Ah (Al (Ce op_gt (Aj Bc (by rfl) T.len PySem.boot_len (Aa (pv 1) Ac)) (Am op_sub (pv 0) (Aj Bc (by rfl) T.len PySem.boot_len (Aa (Ai GParts hr rfl hParts kParts bParts .nil Aq (Aa (pv 0) (Aa (pv 1) Ac))) Ac))) (Aw _))),?_⟩
  obtain ⟨rs,hst1,hrs⟩:=id hst
  refine ⟨_,rfl,st,_,rfl,.inl (SqL.of hst1),_,rfl,_,rfl,_,rfl,N,st,F,rfl,hst,hN,N60,F100,fun a as H1 s1 ha hp=> ?_⟩
  refine ⟨a,_,rfl,.inr (SqT.of ha),_,_,rfl,rfl,_,_,rfl,rfl,?_⟩
  rw [List.length_map,List.length_map,hp.1,hrs.1]
  exact k H1 s1
end
end K34
namespace L2
open PySem PySem.Spec PyProof.Rows
def NotT (H:Hp) (x:V):Prop:=(x= .non∨(∃b,x= .bl b)∨(∃i,x= .int i)∨∃n,x= .str n)∨(∃a xs,x= .ref a∧H a=some (.lst xs))∨∃a kvs,x= .ref a∧H a=some (.dK kvs)
def An (H:Hp) (x:V):Prop:=NotT H x∨∃a xs,x= .ref a∧H a=some (.tup xs)
theorem NotT.same {H H':Hp} {x:V} (h:NotT H x) (s:Same H H'):NotT H' x:=by
 rcases h with h|⟨a,xs,e,h⟩|⟨a,xs,e,h⟩
 ·exact .inl h
 ·exact .inr (.inl ⟨a,xs,e,s _ _ h⟩)
 ·exact .inr (.inr ⟨a,xs,e,s _ _ h⟩)
theorem An.same {H H':Hp} {x:V} (h:An H x) (s:Same H H'):An H' x:=by
 rcases h with h|⟨a,xs,e,h⟩
 ·exact .inl (h.same s)
 ·exact .inr ⟨a,xs,e,s _ _ h⟩
def isBl:V→Bool
 | .bl _=>true
 |_=>false
def isIn:V→Bool
 | .int _=>true
 |_=>false
def isSt:V→Bool
 | .str _=>true
 |_=>false
theorem NotT.tup {K:PySem.W.Frag} {H:Hp} {x:V} (h:NotT H x):∃t,TyOf K H x t∧PySem.W.kitOne K t (.type "tuple")=some false:=by
 rcases h with (rfl|⟨b,rfl⟩|⟨i,rfl⟩|⟨n,rfl⟩)|⟨a,xs,rfl,h⟩|⟨a,kvs,rfl,h⟩
 ·exact ⟨_,.non,rfl⟩
 ·exact ⟨_,.bl b,rfl⟩
 ·exact ⟨_,.int i,rfl⟩
 ·exact ⟨_,.str n,rfl⟩
 ·exact ⟨_,.lst h,rfl⟩
 ·exact ⟨_,.dK h,rfl⟩
theorem An.str {K:PySem.W.Frag} {H:Hp} {x:V} (h:An H x):∃t,TyOf K H x t∧PySem.W.kitOne K t (.type "str")=some (isSt x):=by
 rcases h with ((rfl|⟨b,rfl⟩|⟨i,rfl⟩|⟨n,rfl⟩)|⟨a,xs,rfl,h⟩|⟨a,kvs,rfl,h⟩)|⟨a,xs,rfl,h⟩
 ·exact ⟨_,.non,rfl⟩
 ·exact ⟨_,.bl b,rfl⟩
 ·exact ⟨_,.int i,rfl⟩
 ·exact ⟨_,.str n,rfl⟩
 ·exact ⟨_,.lst h,rfl⟩
 ·exact ⟨_,.dK h,rfl⟩
 ·exact ⟨_,.tup h,rfl⟩
theorem An.int {K:PySem.W.Frag} {H:Hp} {x:V} (h:An H x):∃t,TyOf K H x t∧PySem.W.kitOne K t (.type "int")=some (isIn x||isBl x):=by
 rcases h with ((rfl|⟨b,rfl⟩|⟨i,rfl⟩|⟨n,rfl⟩)|⟨a,xs,rfl,h⟩|⟨a,kvs,rfl,h⟩)|⟨a,xs,rfl,h⟩
 ·exact ⟨_,.non,rfl⟩
 ·exact ⟨_,.bl b,rfl⟩
 ·exact ⟨_,.int i,rfl⟩
 ·exact ⟨_,.str n,rfl⟩
 ·exact ⟨_,.lst h,rfl⟩
 ·exact ⟨_,.dK h,rfl⟩
 ·exact ⟨_,.tup h,rfl⟩
theorem An.bool {K:PySem.W.Frag} {H:Hp} {x:V} (h:An H x):∃t,TyOf K H x t∧PySem.W.kitOne K t (.type "bool")=some (isBl x):=by
 rcases h with ((rfl|⟨b,rfl⟩|⟨i,rfl⟩|⟨n,rfl⟩)|⟨a,xs,rfl,h⟩|⟨a,kvs,rfl,h⟩)|⟨a,xs,rfl,h⟩
 ·exact ⟨_,.non,rfl⟩
 ·exact ⟨_,.bl b,rfl⟩
 ·exact ⟨_,.int i,rfl⟩
 ·exact ⟨_,.str n,rfl⟩
 ·exact ⟨_,.lst h,rfl⟩
 ·exact ⟨_,.dK h,rfl⟩
 ·exact ⟨_,.tup h,rfl⟩
end L2
namespace K34
open PySem L2 Wk
def lay (m:Int):Int:=if m<4 then 0 else if m<8 then 1 else if m<16 then 2 else 3
theorem lay_0 (m:Int):0≤lay m:=by unfold lay;split<;> (try split)<;> (try split)<;> omega
theorem lay_4 (m:Int):lay m≤3:=by unfold lay;split<;> (try split)<;> (try split)<;> omega
def rm (m k:Int):Int:=m / 2 ^ k.toNat
theorem rm_1 {m k:Int} (h1:1≤m) (h2:m≤24) (k0:0≤k) (h:k≤lay m):1≤rm m k:=by
 have:=lay_4 m
 obtain ⟨j,rfl⟩:∃j:Nat,k=(j:Int):=⟨k.toNat,by omega⟩
 have hj:j=0∨j=1∨j=2∨j=3:=by omega
 unfold lay at h
 unfold rm
 rcases hj with rfl|rfl|rfl|rfl<;> simp<;> revert h<;> split<;> (try split)<;> (try split)<;> omega
theorem rm_ge {m:Int} {k:Nat} (h1:1≤m) (h2:m≤24):2≤rm m ((k:Int)+1)↔(k:Int)+1≤lay m:=by
 unfold lay rm
 by_cases hk:k≤3
 ·have hj:k=0∨k=1∨k=2∨k=3:=by omega
  rcases hj with rfl|rfl|rfl|rfl<;> simp<;> split<;> (try split)<;> (try split)<;> omega
 ·constructor
  ·intro h
   exfalso
   have e:(2:Int) ^ ((k:Int)+1).toNat=2 ^ (k - 3) * 16:=by
    rw [show ((k:Int)+1).toNat=(k - 3)+4 by omega,Int.pow_add];rfl
   rw [e] at h
   have p:(1:Int)≤2 ^ (k - 3):=by
    have:(0:Int)<2 ^ (k - 3):=Int.pow_pos (by decide)
    omega
   have p2:(2:Int)≤2 ^ (k - 3):=by
    rw [show k - 3=(k - 4)+1 by omega,Int.pow_succ]
    have:(0:Int)<2 ^ (k - 4):=Int.pow_pos (by decide)
    omega
   have:m / (2 ^ (k - 3) * 16)=0:=Int.ediv_eq_zero_of_lt (by omega) (by omega)
   omega
  ·intro h
   exfalso
   revert h
   split<;> (try split)<;> (try split)<;> omega
def AnD (H:Hp):Nat→V→Prop
 |0,v=>An H v∧∀z,v= .str z→z.length≤1000
 |n+1,v=>(NotT H v∧∀z,v= .str z→z.length≤1000)∨∃a xs,v= .ref a∧H a=some (.tup xs)∧xs.length≤900∧∀x∈xs,AnD H n x
theorem AnD.an {H:Hp}:∀{n:Nat} {v:V},AnD H n v→An H v
 |0,_,h=>h.1
 |_+1,_,.inl h=> .inl h.1
 |_+1,_,.inr ⟨a,xs,e,h,_⟩=> .inr ⟨a,xs,e,h⟩
theorem AnD.same {H H':Hp} (s:Same H H'):∀{n:Nat} {v:V},AnD H n v→AnD H' n v
 |0,_,h=>⟨h.1.same s,h.2⟩
 |_+1,_,.inl h=> .inl ⟨h.1.same s,h.2⟩
 |_+1,_,.inr ⟨a,xs,e,h,l,q⟩=> .inr ⟨a,xs,e,s _ _ h,l,fun x hx=>AnD.same s (q x hx)⟩
theorem AnD.zero {H:Hp}:∀{n:Nat} {v:V},AnD H n v→AnD H 0 v
 |0,_,h=>h
 |_+1,_,.inl h=>⟨.inl h.1,h.2⟩
 |_+1,_,.inr ⟨a,xs,e,h,_⟩=>⟨.inr ⟨a,xs,e,h⟩,fun z q=>by rw [e] at q;cases q⟩
theorem AnD.down {H:Hp}:∀{n:Nat} {v:V},AnD H (n+1) v→AnD H n v
 |0,_,h=>h.zero
 |_+1,_,.inl h=> .inl h
 |_+1,_,.inr ⟨a,xs,e,h,l,q⟩=> .inr ⟨a,xs,e,h,l,fun x hx=>(q x hx).down⟩
def whV (v:V) (lo hi:Int):Bool:=match v with
 | .int i=>decide (lo≤i) && decide (i≤hi)
 |_=>false
theorem whV_iff {v:V} {lo hi:Int}:whV v lo hi=true↔∃i:Int,v= .int i∧lo≤i∧i≤hi:=by
 cases v with
 |int i=>simp [whV]
 |_=>exact ⟨(fun h=>nomatch h),(fun ⟨i,e,_⟩=>nomatch e)⟩
def spWhole:Sp:=fun vs H Q _=>∃v:V,vs=[v]∧An H v∧Q (.bl (isIn v)) H
def spWithin:Sp:=fun vs H Q _=>∃(v:V) (lo hi:Int),vs=[v,.int lo,.int hi]∧An H v∧Q (.bl (whV v lo hi)) H
def spRoom:Sp:=fun vs H Q _=>∃m k:Int,vs=[.int m,.int k]∧0≤k∧Q (.int (rm m k)) H
def spMost:Sp:=fun vs H Q _=>∃m:Int,vs=[.int m]∧1≤m∧m≤24∧Q (.int (lay m)) H
def NameOk (x:Str):Prop:=1≤x.length∧x.length≤8∧∀c∈x.cps.toList,97≤c∧c≤122
abbrev R6:=T4×Nat×Bool
def rowV (x:R6):List V:=tieV x.1++[.int (x.2.1:Int),.bl x.2.2]
def RowOk (N:Nat) (x:R6):Prop:=NameOk x.1.1∧TieOk N x.1∧(0≤x.1.2.2.2∧x.1.2.2.2≤1000000000)∧(x.2.1:Int)≤lay (N:Int)
def RowsAt (H:Hp) (rs:List Addr) (R:List R6):Prop:=rs.length=R.length∧∀(i:Nat) r x,rs[i]? =some r→R[i]? =some x→H r=some (.tup (rowV x))
theorem RowsAt.mono {H H':Hp} {rs:List Addr} {R:List R6} (h:RowsAt H rs R) (f:∀r xs,H r=some (.tup xs)→H' r=some (.tup xs)):RowsAt H' rs R:=⟨h.1,fun i r x a b=>f _ _ (h.2 i r x a b)⟩
theorem RowsAt.get {H:Hp} {rs:List Addr} {R:List R6} (h:RowsAt H rs R) {i:Nat} {r:Addr} (hr:rs[i]? =some r):∃x,R[i]? =some x∧H r=some (.tup (rowV x)):=by
 have hi:i<R.length:=by rw [←h.1];exact (List.getElem?_eq_some_iff.mp hr).1
 exact ⟨R[i],Bh hi,h.2 i r _ hr (Bh hi)⟩
def LayAt (H:Hp) (h:Addr) (N:Nat) (R:List R6):Prop:=∃(tp:Addr) (rs:List Addr),H h=some (.tup [.int (N:Int),.ref tp])∧H tp=some (.tup (rs.map V.ref))∧RowsAt H rs R
def frB (L:Nat) (x:R6):Bool:=decide (L≤x.2.1)
def kpB (L:Nat) (x:R6):Bool:=decide (L≤x.2.1) && x.2.2
def nameV:V→Bool
 | .str x=>decide (1≤x.length) && decide (x.length≤8) && x.cps.toList.all fun c=>decide (97≤c) && decide (c≤122)
 |_=>false
theorem nameV_iff {v:V}:nameV v=true↔∃x:Str,v= .str x∧NameOk x:=by
 cases v with
 |str x=>
  simp only [nameV,Bool.and_eq_true,decide_eq_true_eq,List.all_eq_true]
  exact ⟨fun ⟨⟨a,b⟩,c⟩=>⟨x,rfl,a,b,c⟩,fun ⟨y,e,a,b,c⟩=>by cases e;exact ⟨⟨a,b⟩,c⟩⟩
 |_=>exact ⟨(fun h=>nomatch h),(fun ⟨i,e,_⟩=>nomatch e)⟩
def tieB (m:Int) (x1 x2 x3 x4:V):Bool:=nameV x1 && whV x4 0 1000000000 && whV x2 0 (m - 1) && whV x3 0 (m - 1) && !decide (x2=x3)
def spName:Sp:=fun vs H Q _=>∃v:V,vs=[v]∧AnD H 0 v∧∀H',Same H H'→Q (.bl (nameV v)) H'
def spAmount:Sp:=fun vs H Q _=>∃v:V,vs=[v]∧An H v∧Q (.bl (whV v 0 1000000000)) H
def spPlace:Sp:=fun vs H Q _=>∃(m:Int) (v:V),vs=[.int m,v]∧An H v∧Q (.bl (whV v 0 (m - 1))) H
def spTie:Sp:=fun vs H Q _=>∃(m:Int) (r:Addr) (x1 x2 x3 x4:V),vs=[.int m,.ref r]∧H r=some (.tup [x1,x2,x3,x4])∧(∀x∈[x1,x2,x3,x4],AnD H 0 x)∧∀H',Same H H'→Q (.bl (tieB m x1 x2 x3 x4)) H'
def ShapeAt (H:Hp) (k:Int) (v:V):Prop:=∃(h tp:Addr) (N:Nat) (xs:List V),v= .ref h∧H h=some (.tup [.int (N:Int),.ref tp])∧1≤N∧N≤24∧H tp=some (.tup xs)∧(xs.length:Int)≤k
def spShape:Sp:=fun vs H Q _=>∃(v:V) (k:Int),vs=[v,.int k]∧AnD H 1 v∧∀b,(b=true↔ShapeAt H k v)→Q (.bl b) H
def RowAt (H:Hp) (N:Nat) (v:V):Prop:=∃(r:Addr) (x:R6),v= .ref r∧H r=some (.tup (rowV x))∧RowOk N x
def spRow:Sp:=fun vs H Q _=>∃(N:Nat) (v:V),vs=[.int (N:Int),v]∧AnD H 1 v∧1≤N∧N≤24∧∀b H',Same H H'→(b=true↔RowAt H N v)→Q (.bl b) H'
def spTies:Sp:=fun vs H Q _=>∃(tp:Addr) (rs:List Addr) (R:List R6) (L:Nat),vs=[.ref tp,.int (L:Int)]∧H tp=some (.tup (rs.map V.ref))∧RowsAt H rs R∧R.length≤60∧∀st H',Same H H'→StandAt H' st ((R.filter (frB L)).map (·.1))→Q (.ref st) H'
def spKept:Sp:=fun vs H Q _=>∃(tp:Addr) (rs:List Addr) (R:List R6) (L:Nat),vs=[.ref tp,.int (L:Int)]∧H tp=some (.tup (rs.map V.ref))∧RowsAt H rs R∧R.length≤60∧∀st H',Same H H'→StandAt H' st ((R.filter (kpB L)).map (·.1))→Q (.ref st) H'
theorem le_one {a b:Nat}:(!decide ([b]<[a]:Prop))=decide (a≤b):=by
 rw [Bool.eq_iff_iff]
 simp only [Bool.not_eq_true',decide_eq_false_iff_not,decide_eq_true_eq,List.cons_lt_cons_iff,List.lt_irrefl,and_false,or_false]
 omega
theorem six {α:Type} {xs:List α} (h:xs.length=6):∃a b c d e f,xs=[a,b,c,d,e,f]:=by
 match xs,h with
 |[a,b,c,d,e,f],_=>exact ⟨a,b,c,d,e,f,rfl⟩
theorem two {α:Type} {xs:List α} (h:xs.length=2):∃a b,xs=[a,b]:=by
 match xs,h with
 |[a,b],_=>exact ⟨a,b,rfl⟩
theorem row_iff {H:Hp} {N:Nat} {r:Addr} {x1 x2 x3 x4 x5 x6:V} (h:H r=some (.tup [x1,x2,x3,x4,x5,x6])):RowAt H N (.ref r)↔tieB N x1 x2 x3 x4=true∧whV x5 0 (lay N)=true∧isBl x6=true:=by
 constructor
 ·rintro ⟨r',x,e,hx,nk,⟨t1,t2,t3⟩,w,l⟩
  cases e
  rw [h] at hx
  injection hx with hx
  injection hx with hx
  simp only [rowV,tieV,List.cons_append,List.nil_append,List.cons.injEq,and_true] at hx
  obtain ⟨rfl,rfl,rfl,rfl,rfl,rfl⟩:=hx
  refine ⟨?_,whV_iff.mpr ⟨_,rfl,by omega,l⟩,rfl⟩
  unfold tieB
  rw [nameV_iff.mpr ⟨_,rfl,nk⟩,whV_iff.mpr ⟨_,rfl,w.1,w.2⟩,whV_iff.mpr ⟨_,rfl,by omega,by omega⟩,whV_iff.mpr ⟨_,rfl,by omega,by omega⟩,decide_eq_false (fun z=>t3 (by injection z with z;omega))]
  rfl
 ·rintro ⟨h1,h2,h3⟩
  unfold tieB at h1
  simp only [Bool.and_eq_true,Bool.not_eq_true',decide_eq_false_iff_not] at h1
  obtain ⟨⟨⟨⟨h11,h12⟩,h13⟩,h14⟩,h15⟩:=h1
  obtain ⟨z,rfl,nk⟩:=nameV_iff.mp h11
  obtain ⟨w,rfl,w0,w1⟩:=whV_iff.mp h12
  obtain ⟨p,rfl,p0,p1⟩:=whV_iff.mp h13
  obtain ⟨q,rfl,q0,q1⟩:=whV_iff.mp h14
  obtain ⟨l,rfl,l0,l1⟩:=whV_iff.mp h2
  cases x6 with
  |bl b=>
   obtain ⟨p,rfl⟩:∃n:Nat,p=(n:Int):=⟨p.toNat,by omega⟩
   obtain ⟨q,rfl⟩:∃n:Nat,q=(n:Int):=⟨q.toNat,by omega⟩
   obtain ⟨l,rfl⟩:∃n:Nat,l=(n:Int):=⟨l.toNat,by omega⟩
   exact ⟨r,((z,p,q,w),l,b),rfl,h,nk,⟨by show p<N;omega,by show q<N;omega,fun e=>h15 (by rw [show p=q from e])⟩,⟨w0,w1⟩,l1⟩
  |_=>exact absurd h3 (by simp [isBl])
theorem row_not6 {H:Hp} {N:Nat} {r:Addr} {xs:List V} (h:H r=some (.tup xs)) (l:xs.length≠6):¬RowAt H N (.ref r):=fun ⟨r',x,e,hx,_⟩=>by
 cases e
 rw [h] at hx
 injection hx with hx
 injection hx with hx
 rw [hx] at l
 exact l rfl
theorem nt_row {H:Hp} {N:Nat} {v:V} (h:NotT H v):¬RowAt H N v:=fun ⟨r,x,e,hx,_⟩=>by
 subst e
 rcases h with (h|⟨b,h⟩|⟨i,h⟩|⟨n,h⟩)|⟨a,xs,h,q⟩|⟨a,xs,h,q⟩
 all_goals cases h
 all_goals rw [q] at hx;cases hx
theorem nt_shape {H:Hp} {k:Int} {v:V} (h:NotT H v):¬ShapeAt H k v:=fun ⟨r,tp,N,xs',e,hx,_⟩=>by
 subst e
 rcases h with (h|⟨b,h⟩|⟨i,h⟩|⟨n,h⟩)|⟨a,xs,h,q⟩|⟨a,xs,h,q⟩
 all_goals cases h
 all_goals rw [q] at hx;cases hx
theorem ff {p:Prop} (h:¬p):(false=true↔p):=⟨(fun z=>nomatch z),fun z=>absurd z h⟩
theorem tt {p:Prop} (h:p):(true=true↔p):=⟨fun _=>h,fun _=>rfl⟩
section
variable {P:Program} {w:World} {K:PySem.W.Frag} {mg:Str→Option Value} {base:Heap}
theorem scWhole:Av ["thing"] ["thing"] (Ae sWhole):=⟨rfl,rfl,rfl,by decide+kernel,rfl,by decide+kernel,by decide+kernel⟩
theorem ok_Whole {f:Addr} {fd:FuncData} (F:Fun K "is_whole" "is_whole" sWhole f fd) (T:Txt mg):
  FnOk P w K mg base CX0 1 f fd ["thing"] spWhole:=by
 refine F.ok scWhole (fun vs H Q E h=> ?_) (fun cdv A outer s H vs Q E hr h=> ?_)
 ·obtain ⟨_,rfl,_⟩:=h;rfl
 ·obtain ⟨v,rfl,hv,k⟩:=h
  refine ⟨_,Ah (Al (Cg (Aj Bq (by rfl) T.isinstance (by decide+kernel) (Aa (pv 0) (Aa (pe_ty (T:="int") (by rfl) T.int (by decide+kernel)) Ac))) (pe_one (pe_not (Aj Bq (by rfl) T.isinstance (by decide+kernel) (Aa (pv 0) (Aa (pe_ty (T:="bool") (by rfl) T.bool (by decide+kernel)) Ac))))))),?_⟩
  obtain ⟨t,h1,h2⟩:=hv.int (K:=K)
  obtain ⟨t2,h3,h4⟩:=hv.bool (K:=K)
  cases v with
  |int i=>exact ⟨_,rfl,_,_,"int",true,rfl,h1,h2,_,rfl,Be ⟨_,rfl,_,_,"bool",false,rfl,h3,h4,_,rfl,k⟩⟩
  |bl y=>exact ⟨_,rfl,_,_,"int",true,rfl,h1,h2,_,rfl,Be ⟨_,rfl,_,_,"bool",true,rfl,h3,h4,_,rfl,k⟩⟩
  |_=>exact ⟨_,rfl,_,_,"int",false,rfl,h1,h2,_,rfl,Bi k⟩
theorem scWithin:Av ["thing","low","high"] ["thing","low","high"] (Ae sWithin):=⟨rfl,rfl,rfl,by decide+kernel,rfl,by decide+kernel,by decide+kernel⟩
theorem ok_Within {f:Addr} {fd:FuncData} (F:Fun K "is_within" "is_within" sWithin f fd) (T:Txt mg)
  {gWhole:Addr} {fWhole:FuncData} (kWhole:PySem.W.keepIn K (.ref gWhole)=true) (bWhole:Binds K fWhole ["thing"] []) (hWhole:mg "is_whole"=some (.ref gWhole)) (GWhole:FnOk P w K mg base CX0 1 gWhole fWhole ["thing"] spWhole):
  FnOk P w K mg base CX0 2 f fd ["thing","low","high"] spWithin:=by
 refine F.ok scWithin (fun vs H Q E h=> ?_) (fun cdv A outer s H vs Q E hr h=> ?_)
 ·obtain ⟨_,_,_,rfl,_⟩:=h;rfl
 ·obtain ⟨v,lo,hi,rfl,hv,k⟩:=h
  refine ⟨_,Ah (Al (Cg (Ai GWhole hr rfl hWhole kWhole bWhole .nil Aq (Aa (pv 0) Ac)) (pe_one (pe_chain op_le op_le (pv 1) (pv 0) (pv 2))))),?_⟩
  refine ⟨_,rfl,v,rfl,hv,_,rfl,?_⟩
  cases v with
  |int i=>
   refine Be ⟨_,rfl,_,rfl,_,_,rfl,rfl,_,rfl,?_⟩
   have k:Q (.bl (decide (lo≤i) && decide (i≤hi))) H:=k
   by_cases g:lo≤i
   ·rw [decide_eq_true g] at k ⊢
    exact Be ⟨_,rfl,_,_,rfl,rfl,k⟩
   ·rw [decide_eq_false g] at k ⊢
    exact Bi k
  |_=>exact Bi k
theorem scRoom:Av ["many","layer"] ["many","layer"] (Ae sRoom):=⟨rfl,rfl,rfl,by decide+kernel,rfl,by decide+kernel,by decide+kernel⟩
theorem ok_Room {f:Addr} {fd:FuncData} (F:Fun K "room_at" "room_at" sRoom f fd) (T:Txt mg):
  FnOk P w K mg base CX0 1 f fd ["many","layer"] spRoom:=by
 refine F.ok scRoom (fun vs H Q E h=> ?_) (fun cdv A outer s H vs Q E hr h=> ?_)
 ·obtain ⟨_,_,rfl,_⟩:=h;rfl
 ·obtain ⟨m,k0,rfl,hk,k⟩:=h
  refine ⟨_,Ah (Al (Am op_shr (pv 0) (pv 1))),?_⟩
  exact ⟨_,rfl,_,rfl,_,_,rfl,rfl,hk,k⟩
theorem scMost:Av ["many","layer"] ["many"] (Ae sMost):=⟨rfl,rfl,rfl,by decide+kernel,rfl,by decide+kernel,by decide+kernel⟩
theorem ok_Most {f:Addr} {fd:FuncData} (F:Fun K "most_layer" "most_layer" sMost f fd) (T:Txt mg)
  {gRoom:Addr} {fRoom:FuncData} (kRoom:PySem.W.keepIn K (.ref gRoom)=true) (bRoom:Binds K fRoom ["many","layer"] []) (hRoom:mg "room_at"=some (.ref gRoom)) (GRoom:FnOk P w K mg base CX0 1 gRoom fRoom ["many","layer"] spRoom):
  FnOk P w K mg base CX0 2 f fd ["many"] spMost:=by
 refine F.ok scMost (fun vs H Q E h=> ?_) (fun cdv A outer s H vs Q E hr h=> ?_)
 ·obtain ⟨_,rfl,_⟩:=h;rfl
 ·obtain ⟨m,rfl,m1,m2,k⟩:=h
  refine ⟨_,Ag (As (i:=1) scMost.nd rfl (Or.inl rfl) Af)
   (Ag (ps_while PassesOwn.never (Az op_ge (Ai GRoom hr rfl hRoom kRoom bRoom .nil Aq (Aa (pv 0) (Aa (Am Bp (pv 1) Af) Ac))) Af (Aw _)) (Ah (ps_aug (i:=1) scMost.nd rfl (Or.inl rfl) Af ip_add)))
   (Ah (Al (pv 1)))),?_⟩
  dsimp only [tSeq,tAsg,gName]
  show tWhile _ _ _ _ _
  refine while_by (fun σ H1=>∃j:Nat,σ=[some (.int m),some (.int (j:Int))]∧(j:Int)≤lay m∧H1=H) (fun σ _=>match σ with|[_,some (.int j)]=>(10 - j).toNat|_=>0) ⟨0,rfl,lay_0 m,rfl⟩ ?_ (fun σ H5 Q Q' f h=>by
   obtain ⟨v,e,v2,e2,i1,i2,q1,q2,m',k',q3,q4,i3,i4,q5,q6,k2,q7,q8⟩:=h
   exact ⟨v,e,v2,e2,i1,i2,q1,q2,m',k',q3,q4,i3,i4,q5,q6,k2,q7,f _ _ q8⟩)
  rintro σ H1 ⟨j,rfl,hj,rfl⟩
  have l4:=lay_4 m
  refine ⟨_,rfl,_,rfl,_,_,rfl,rfl,m,_,rfl,by omega,_,_,rfl,rfl,_,rfl,?_⟩
  refine Ci (fun c=> ?_) fun c=> ?_
  ·have c:=(rm_ge (k:=j) m1 m2).mp (by simpa using c)
   refine ⟨_,rfl,_,_,rfl,rfl,⟨j+1,rfl,by push_cast;omega,rfl⟩,?_⟩
   show (10 - ((j:Int)+1)).toNat<(10 - (j:Int)).toNat
   omega
  ·have c:¬(j:Int)+1≤lay m:=fun q=>c (by simpa using (rm_ge (k:=j) m1 m2).mpr q)
   have e:(j:Int)=lay m:=by omega
   rw [←e] at k
   exact ⟨_,rfl,k⟩
theorem scName:Av ["thing"] ["thing"] (Ae sName):=⟨rfl,rfl,rfl,by decide+kernel,rfl,by decide+kernel,by decide+kernel⟩
theorem ok_Name {f:Addr} {fd:FuncData} (F:Fun K "is_name" "is_name" sName f fd) (T:Txt mg):
  FnOk P w K mg base CX0 1 f fd ["thing"] spName:=by
 refine F.ok scName (fun vs H Q E h=> ?_) (fun cdv A outer s H vs Q E hr h=> ?_)
 ·obtain ⟨_,rfl,_⟩:=h;rfl
 ·obtain ⟨v,rfl,hv,k⟩:=h
  obtain ⟨_,hml⟩:=T.letters
  refine ⟨_,Ag (Bs (PW.pt (pw_or (Bu (Br (Aj Bq (by rfl) T.isinstance (by decide+kernel) (Aa (pv 0) (Aa (pe_ty (T:="str") (by rfl) T.str (by decide+kernel)) Ac))))) (pw_or1 (Bu (pt_chain op_le op_le Af (Aj call_len_str (by rfl) T.len PySem.boot_len (Aa (pv 0) Ac)) (pe_gint (by rfl) hml)))))) (Ah (Al B6)) A7)
   (Ah (Al (Aj (call_all rfl) (by rfl) T.all (by decide+kernel) (Aa (Bn (T:=["sign"]) (F:=[]) (js:=[]) (CS.to (osc:=Ae sName) ⟨by rfl,by decide+kernel,by decide+kernel,by decide+kernel,by decide+kernel,by decide+kernel,by decide+kernel⟩ rfl rfl) rfl (pi_str (pv 0)) (fun _ _ _ _ _=>Ak (i:=0) (show (["sign"]:List Str).Nodup by decide+kernel) rfl (Or.inl rfl)) (fun _ _ _ _ _=>Cd) (fun _ _ _ _ _=>pe_chain op_leS op_leS pe_str (pv 0) pe_str)) Ac)))),?_⟩
  obtain ⟨t,h1,h2⟩:=hv.1.str (K:=K)
  cases v with
  |str z=>
   refine ⟨_,rfl,_,_,"str",true,rfl,h1,h2,true,rfl,Bi ?_⟩
   have zl:z.length=z.cps.size:=rfl
   have k:∀H',Same H H'→Q (.bl (decide (1≤z.length) && decide (z.length≤8) && z.cps.toList.all fun c=>decide (97≤c) && decide (c≤122))) H':=k
   have big:=hv.2 z rfl
   refine ⟨_,rfl,z,rfl,Ax (by omega),_,_,rfl,rfl,_,rfl,?_⟩
   by_cases g1:1≤z.length
   rotate_left
   ·rw [decide_eq_false (show ¬(1:Int)≤(z.length:Int) by omega)]
    rw [decide_eq_false g1,Bool.false_and,Bool.false_and] at k
    exact Bi ⟨_,rfl,Be (k H (Bb H))⟩
   rw [decide_eq_true (show (1:Int)≤(z.length:Int) by omega)]
   refine Be ⟨_,_,rfl,rfl,_,rfl,?_⟩
   by_cases g2:z.length≤8
   rotate_left
   ·rw [decide_eq_false (show ¬(z.length:Int)≤8 by omega)]
    rw [decide_eq_false g2,Bool.and_false,Bool.false_and] at k
    exact Be (k H (Bb H))
   rw [decide_eq_true (show (z.length:Int)≤8 by omega)]
   rw [decide_eq_true g1,decide_eq_true g2,Bool.true_and,Bool.true_and] at k
   refine Bi ?_
   dsimp only [Bv]
   refine ⟨_,rfl,z,rfl,fun D hD=>comp_str (z:=z) (fun i σ ys H2=>∃v,σ=[v]∧Same H H2∧H2 D=some (.lst ys)∧ys=((z.cps.toList.take i).map fun c=>decide (97≤c) && decide (c≤122)).map V.bl) ⟨none,rfl,Ad hD,Ab,rfl⟩ (fun i σ ys H2 _ ⟨_,_,_,e,_⟩=>e) ?_ ?_⟩
   ·rintro i c σ ys H2 hc' ⟨v,rfl,s2,e2,rfl⟩
    have hil:i<z.cps.size:=(Array.getElem?_eq_some_iff.mp hc').1
    have hcl:z.cps.toList[i]? =some c:=by rw [Array.getElem?_toList];exact hc'
    have tk:((z.cps.toList.take (i+1)).map fun c=>decide (97≤c) && decide (c≤122))=((z.cps.toList.take i).map fun c=>decide (97≤c) && decide (c≤122))++[decide (97≤c) && decide (c≤122)]:=by rw [List.take_add_one,hcl,List.map_append];rfl
    have fin:∀b:Bool,b=(decide (97≤c) && decide (c≤122))→H2 D=some (.lst (((z.cps.toList.take i).map fun c=>decide (97≤c) && decide (c≤122)).map V.bl))∧(((z.cps.toList.take i).map fun c=>decide (97≤c) && decide (c≤122)).map V.bl).length<sizeLine∧∃v:Option V,[some (V.str ⟨#[c]⟩)]=[v]∧Same H (upd H2 D (.lst (((z.cps.toList.take i).map fun c=>decide (97≤c) && decide (c≤122)).map V.bl++[.bl b])))∧upd H2 D (.lst (((z.cps.toList.take i).map fun c=>decide (97≤c) && decide (c≤122)).map V.bl++[.bl b])) D=some (.lst (((z.cps.toList.take i).map fun c=>decide (97≤c) && decide (c≤122)).map V.bl++[.bl b]))∧((z.cps.toList.take i).map fun c=>decide (97≤c) && decide (c≤122)).map V.bl++[.bl b]=((z.cps.toList.take (i+1)).map fun c=>decide (97≤c) && decide (c≤122)).map V.bl:=fun b eb=>
     ⟨e2,Ar (by rw [List.length_map,List.length_map,List.length_take];omega),_,rfl,A2 s2 hD,Ab,by rw [tk,List.map_append,eb];rfl⟩
    refine ⟨_,rfl,_,_,rfl,rfl,_,rfl,?_⟩
    rw [show (Str.ofString "a").cps.toList=[97] by decide,le_one]
    by_cases g:97≤c
    ·rw [decide_eq_true g] at fin ⊢
     refine Be ⟨_,_,rfl,rfl,?_⟩
     rw [show (Str.ofString "z").cps.toList=[122] by decide,le_one]
     exact fin _ (by rw [Bool.true_and])
    ·rw [decide_eq_false g] at fin ⊢
     exact Bi (fin false (by rw [Bool.false_and]))
   ·rintro σ ys H2 ⟨v,rfl,s2,e2,rfl⟩
    rw [show z.cps.size=z.cps.toList.length by simp,List.take_length] at e2
    refine ⟨D,_,rfl,SqL.of e2,?_⟩
    rw [List.all_map]
    exact k H2 s2
  |_=>exact ⟨_,rfl,_,_,"str",false,rfl,h1,h2,false,rfl,Be (k H (Bb H))⟩
theorem scAmount:Av ["thing"] ["thing"] (Ae sAmount):=⟨rfl,rfl,rfl,by decide+kernel,rfl,by decide+kernel,by decide+kernel⟩
theorem ok_Amount {f:Addr} {fd:FuncData} (F:Fun K "is_amount" "is_amount" sAmount f fd) (T:Txt mg)
  {gWithin:Addr} {fWithin:FuncData} (kWithin:PySem.W.keepIn K (.ref gWithin)=true) (bWithin:Binds K fWithin ["thing","low","high"] []) (hWithin:mg "is_within"=some (.ref gWithin)) (GWithin:FnOk P w K mg base CX0 2 gWithin fWithin ["thing","low","high"] spWithin):
  FnOk P w K mg base CX0 3 f fd ["thing"] spAmount:=by
 refine F.ok scAmount (fun vs H Q E h=> ?_) (fun cdv A outer s H vs Q E hr h=> ?_)
 ·obtain ⟨_,rfl,_⟩:=h;rfl
 ·obtain ⟨v,rfl,hv,k⟩:=h
  obtain ⟨_,hma⟩:=T.amount
  refine ⟨_,Ah (Al (Ai GWithin hr rfl hWithin kWithin bWithin .nil Aq (Aa (pv 0) (Aa Af (Aa (pe_gint (by rfl) hma) Ac))))),?_⟩
  exact ⟨_,rfl,v,0,1000000000,rfl,hv,k⟩
theorem scPlace:Av ["many","thing"] ["many","thing"] (Ae sPlace):=⟨rfl,rfl,rfl,by decide+kernel,rfl,by decide+kernel,by decide+kernel⟩
theorem ok_Place {f:Addr} {fd:FuncData} (F:Fun K "is_place" "is_place" sPlace f fd) (T:Txt mg)
  {gWithin:Addr} {fWithin:FuncData} (kWithin:PySem.W.keepIn K (.ref gWithin)=true) (bWithin:Binds K fWithin ["thing","low","high"] []) (hWithin:mg "is_within"=some (.ref gWithin)) (GWithin:FnOk P w K mg base CX0 2 gWithin fWithin ["thing","low","high"] spWithin):
  FnOk P w K mg base CX0 3 f fd ["many","thing"] spPlace:=by
 refine F.ok scPlace (fun vs H Q E h=> ?_) (fun cdv A outer s H vs Q E hr h=> ?_)
 ·obtain ⟨_,_,rfl,_⟩:=h;rfl
 ·obtain ⟨m,v,rfl,hv,k⟩:=h
  refine ⟨_,Ah (Al (Ai GWithin hr rfl hWithin kWithin bWithin .nil Aq (Aa (pv 1) (Aa Af (Aa (Am op_sub (pv 0) Af) Ac))))),?_⟩
  exact ⟨_,rfl,_,rfl,_,_,rfl,rfl,v,0,m - 1,rfl,hv,k⟩
theorem scTie:Av ["many","four","name","one","other","weight"] ["many","four"] (Ae sTie):=⟨rfl,rfl,rfl,by decide+kernel,rfl,by decide+kernel,by decide+kernel⟩
theorem ok_Tie {f:Addr} {fd:FuncData} (F:Fun K "is_tie" "is_tie" sTie f fd) (T:Txt mg)
  {gName:Addr} {fName:FuncData} (kName:PySem.W.keepIn K (.ref gName)=true) (bName:Binds K fName ["thing"] []) (hName:mg "is_name"=some (.ref gName)) (GName:FnOk P w K mg base CX0 3 gName fName ["thing"] spName)
  {gAmount:Addr} {fAmount:FuncData} (kAmount:PySem.W.keepIn K (.ref gAmount)=true) (bAmount:Binds K fAmount ["thing"] []) (hAmount:mg "is_amount"=some (.ref gAmount)) (GAmount:FnOk P w K mg base CX0 3 gAmount fAmount ["thing"] spAmount)
  {gPlace:Addr} {fPlace:FuncData} (kPlace:PySem.W.keepIn K (.ref gPlace)=true) (bPlace:Binds K fPlace ["many","thing"] []) (hPlace:mg "is_place"=some (.ref gPlace)) (GPlace:FnOk P w K mg base CX0 3 gPlace fPlace ["many","thing"] spPlace):
  FnOk P w K mg base CX0 4 f fd ["many","four"] spTie:=by
 refine F.ok scTie (fun vs H Q E h=> ?_) (fun cdv A outer s H vs Q E hr h=> ?_)
 ·obtain ⟨_,_,_,_,_,_,rfl,_⟩:=h;rfl
 ·obtain ⟨m,r,x1,x2,x3,x4,rfl,hr0,han,k⟩:=h
  refine ⟨_,Ag (ps_asg (pv 1) (pg_tup rfl (Ba (Ak (i:=2) scTie.nd rfl (Or.inl rfl)) (Ba (Ak (i:=3) scTie.nd rfl (Or.inl rfl)) (Ba (Ak (i:=4) scTie.nd rfl (Or.inl rfl)) (Ba (Ak (i:=5) scTie.nd rfl (Or.inl rfl)) pgs_nil))))))
   (Ag (Bs (PW.pt (pw_or (Bu (Br (Ai GName hr rfl hName kName bName .nil Aq (Aa (pv 2) Ac)))) (pw_or1 (Bu (Br (Ai GAmount hr rfl hAmount kAmount bAmount .nil Aq (Aa (pv 5) Ac))))))) (Ah (Al B6)) A7)
   (Ah (Al (Cg (Ai GPlace hr rfl hPlace kPlace bPlace .nil Aq (Aa (pv 0) (Aa (pv 3) Ac))) (Cg (Ai GPlace hr rfl hPlace kPlace bPlace .nil Aq (Aa (pv 0) (Aa (pv 4) Ac))) (pe_one (Ce op_ne (pv 3) (pv 4) (Aw _)))))))),?_⟩
  have a1:=han x1 (by simp)
  have a2:=han x2 (by simp)
  have a3:=han x3 (by simp)
  have a4:=han x4 (by simp)
  refine ⟨_,rfl,r,_,rfl,SqT.of hr0,rfl,_,_,rfl,_,_,rfl,_,_,rfl,_,_,rfl,rfl,?_⟩
  refine ⟨_,rfl,x1,rfl,a1,fun H1 s1=>⟨_,rfl,?_⟩⟩
  have k:=k H1 s1
  unfold tieB at k
  cases n1:nameV x1 with
  |false=>rw [n1] at k;exact Be k
  |true=>
   refine Bi ⟨_,rfl,x4,rfl,(a4.same s1).an,_,rfl,?_⟩
   cases n4:whV x4 0 1000000000 with
   |false=>rw [n1,n4] at k;exact Be k
   |true=>
    refine Bi ?_
    dsimp only [Bv]
    refine ⟨_,rfl,_,rfl,m,x2,rfl,(a2.same s1).an,_,rfl,?_⟩
    cases n2:whV x2 0 (m - 1) with
    |false=>rw [n1,n4,n2] at k;exact Bi k
    |true=>
     refine Be ⟨_,rfl,_,rfl,m,x3,rfl,(a3.same s1).an,_,rfl,?_⟩
     cases n3:whV x3 0 (m - 1) with
     |false=>rw [n1,n4,n2,n3] at k;exact Bi k
     |true=>
      obtain ⟨i,rfl,_⟩:=whV_iff.mp n2
      obtain ⟨j,rfl,_⟩:=whV_iff.mp n3
      rw [n1,n4,n2,n3] at k
      exact Be ⟨_,rfl,_,rfl,rfl,k⟩
theorem scShape:Av ["thing","most","many","rows"] ["thing","most"] (Ae sShape):=⟨rfl,rfl,rfl,by decide+kernel,rfl,by decide+kernel,by decide+kernel⟩
theorem ok_Shape {f:Addr} {fd:FuncData} (F:Fun K "has_shape" "has_shape" sShape f fd) (T:Txt mg)
  {gWithin:Addr} {fWithin:FuncData} (kWithin:PySem.W.keepIn K (.ref gWithin)=true) (bWithin:Binds K fWithin ["thing","low","high"] []) (hWithin:mg "is_within"=some (.ref gWithin)) (GWithin:FnOk P w K mg base CX0 2 gWithin fWithin ["thing","low","high"] spWithin):
  FnOk P w K mg base CX0 3 f fd ["thing","most"] spShape:=by
 refine F.ok scShape (fun vs H Q E h=> ?_) (fun cdv A outer s H vs Q E hr h=> ?_)
 ·obtain ⟨_,_,rfl,_⟩:=h;rfl
 ·obtain ⟨v,q,rfl,hv,k⟩:=h
  obtain ⟨_,hmp⟩:=T.places
  refine ⟨_,Ag (Bs (PW.pt (pw_or (Bu (Br (Aj Bq (by rfl) T.isinstance (by decide+kernel) (Aa (pv 0) (Aa (pe_ty (T:="tuple") (by rfl) T.tuple (by decide+kernel)) Ac))))) (pw_or1 (Az op_ne (Aj Bc (by rfl) T.len PySem.boot_len (Aa (pv 0) Ac)) Af (Aw _))))) (Ah (Al B6)) A7)
   (Ag (ps_asg (pv 0) (pg_tup rfl (Ba (Ak (i:=2) scShape.nd rfl (Or.inl rfl)) (Ba (Ak (i:=3) scShape.nd rfl (Or.inl rfl)) pgs_nil))))
   (Ah (Al (Cg (Ai GWithin hr rfl hWithin kWithin bWithin .nil Aq (Aa (pv 2) (Aa Af (Aa (pe_gint (by rfl) hmp) Ac)))) (Cg (Aj Bq (by rfl) T.isinstance (by decide+kernel) (Aa (pv 3) (Aa (pe_ty (T:="tuple") (by rfl) T.tuple (by decide+kernel)) Ac))) (pe_one (Ce op_le (Aj Bc (by rfl) T.len PySem.boot_len (Aa (pv 3) Ac)) (pv 1) (Aw _)))))))),?_⟩
  rcases hv with ⟨nt,_⟩|⟨h,xs,rfl,hh,l9,han⟩
  ·obtain ⟨t,h1,h2⟩:=nt.tup (K:=K)
   exact ⟨_,rfl,v,t,"tuple",false,rfl,h1,h2,_,rfl,Be (k false (ff (nt_shape nt)))⟩
  refine ⟨_,rfl,.ref h,.type "tuple","tuple",true,rfl,.tup hh,rfl,_,rfl,Bi ?_⟩
  refine ⟨_,rfl,h,_,rfl,.inr (SqT.of hh),rfl,_,rfl,Ci (fun g=> ?_) fun g=> ?_⟩
  ·refine k false (ff fun ⟨r,tp,N,ys,e,hx,_⟩=> ?_)
   cases e
   rw [hh] at hx
   injection hx with hx
   injection hx with hx
   rw [hx] at g
   exact absurd g (by simp)
  dsimp only [Bv]
  have l2:xs.length=2:=by
   have:(xs.length:Int)=2:=Classical.byContradiction fun z=>g (by simp [z])
   omega
  obtain ⟨x,y,rfl⟩:=two l2
  have ax:=(han x (by simp)).an
  have ay:=(han y (by simp)).an
  refine ⟨_,rfl,h,_,rfl,SqT.of hh,rfl,_,_,rfl,_,_,rfl,rfl,?_⟩
  refine ⟨_,rfl,x,1,24,rfl,ax,_,rfl,?_⟩
  cases nx:whV x 1 24 with
  |false=>
   refine Bi (k false (ff fun ⟨r,tp,N,ys,e,hx,n1,n2,_⟩=> ?_))
   cases e
   rw [hh] at hx
   injection hx with hx
   injection hx with hx
   injection hx with e1 _
   subst e1
   rw [whV_iff.mpr ⟨_,rfl,by omega,by omega⟩] at nx
   cases nx
  |true=>
   obtain ⟨i,rfl,i1,i2⟩:=whV_iff.mp nx
   obtain ⟨N,rfl⟩:∃n:Nat,i=(n:Int):=⟨i.toNat,by omega⟩
   rcases ay with nt|⟨tp,ys,rfl,ht⟩
   ·obtain ⟨t,h1,h2⟩:=nt.tup (K:=K)
    refine Be ⟨_,rfl,y,t,"tuple",false,rfl,h1,h2,_,rfl,Bi (k false (ff fun ⟨r,tp,N',ys,e,hx,_,_,ht,_⟩=> ?_))⟩
    cases e
    rw [hh] at hx
    injection hx with hx
    injection hx with hx
    injection hx with _ hx
    injection hx with hx _
    subst hx
    rcases nt with (h|⟨b,h⟩|⟨i,h⟩|⟨n,h⟩)|⟨a,xs,h,q⟩|⟨a,xs,h,q⟩
    all_goals cases h
    all_goals rw [q] at ht;cases ht
   ·refine Be ⟨_,rfl,.ref tp,.type "tuple","tuple",true,rfl,.tup ht,rfl,_,rfl,Be ⟨_,rfl,tp,_,rfl,.inr (SqT.of ht),_,rfl,_,_,rfl,rfl,k _ ?_⟩⟩
    rw [decide_eq_true_eq]
    constructor
    ·exact fun hl=>⟨h,tp,N,ys,rfl,hh,by omega,by omega,ht,hl⟩
    ·rintro ⟨r,tp',N',ys',e,hx,_,_,ht',hl⟩
     cases e
     rw [hh] at hx
     injection hx with hx
     injection hx with hx
     injection hx with _ hx
     injection hx with hx _
     cases hx
     rw [ht] at ht'
     cases ht'
     exact hl
theorem scRow:Av ["many","thing"] ["many","thing"] (Ae sRow):=⟨rfl,rfl,rfl,by decide+kernel,rfl,by decide+kernel,by decide+kernel⟩
theorem ok_Row {f:Addr} {fd:FuncData} (F:Fun K "is_row" "is_row" sRow f fd) (T:Txt mg)
  {gTie:Addr} {fTie:FuncData} (kTie:PySem.W.keepIn K (.ref gTie)=true) (bTie:Binds K fTie ["many","four"] []) (hTie:mg "is_tie"=some (.ref gTie)) (GTie:FnOk P w K mg base CX0 4 gTie fTie ["many","four"] spTie)
  {gWithin:Addr} {fWithin:FuncData} (kWithin:PySem.W.keepIn K (.ref gWithin)=true) (bWithin:Binds K fWithin ["thing","low","high"] []) (hWithin:mg "is_within"=some (.ref gWithin)) (GWithin:FnOk P w K mg base CX0 4 gWithin fWithin ["thing","low","high"] spWithin)
  {gMost:Addr} {fMost:FuncData} (kMost:PySem.W.keepIn K (.ref gMost)=true) (bMost:Binds K fMost ["many"] []) (hMost:mg "most_layer"=some (.ref gMost)) (GMost:FnOk P w K mg base CX0 4 gMost fMost ["many"] spMost):
  FnOk P w K mg base CX0 5 f fd ["many","thing"] spRow:=by
 refine F.ok scRow (fun vs H Q E h=> ?_) (fun cdv A outer s H vs Q E hr h=> ?_)
 ·obtain ⟨_,_,rfl,_⟩:=h;rfl
 ·obtain ⟨N,v,rfl,hv,N1,N24,k⟩:=h
  refine ⟨_,Ag (Bs (PW.pt (pw_or (Bu (Br (Aj Bq (by rfl) T.isinstance (by decide+kernel) (Aa (pv 1) (Aa (pe_ty (T:="tuple") (by rfl) T.tuple (by decide+kernel)) Ac))))) (pw_or1 (Az op_ne (Aj Bc (by rfl) T.len PySem.boot_len (Aa (pv 1) Ac)) Af (Aw _))))) (Ah (Al B6)) A7)
   (Ah (Al (Cg (Ai GTie hr rfl hTie kTie bTie .nil Aq (Aa (pv 0) (Aa (Bw sl_tupA (pv 1) Cc (B7 Af)) Ac))) (Cg (Ai GWithin hr rfl hWithin kWithin bWithin .nil Aq (Aa (At A9 (pv 1) Af (fun _ _=>rfl)) (Aa Af (Aa (Ai GMost hr rfl hMost kMost bMost .nil Aq (Aa (pv 0) Ac)) Ac)))) (pe_one (Aj Bq (by rfl) T.isinstance (by decide+kernel) (Aa (At A9 (pv 1) Af (fun _ _=>rfl)) (Aa (pe_ty (T:="bool") (by rfl) T.bool (by decide+kernel)) Ac)))))))),?_⟩
  rcases hv with ⟨nt,_⟩|⟨r,xs,rfl,hr0,l9,han⟩
  ·obtain ⟨t,h1,h2⟩:=nt.tup (K:=K)
   exact ⟨_,rfl,v,t,"tuple",false,rfl,h1,h2,_,rfl,Be (k false H (Bb H) (ff (nt_row nt)))⟩
  refine ⟨_,rfl,.ref r,.type "tuple","tuple",true,rfl,.tup hr0,rfl,_,rfl,Bi ?_⟩
  refine ⟨_,rfl,r,_,rfl,.inr (SqT.of hr0),rfl,_,rfl,Ci (fun g=> ?_) fun g=> ?_⟩
  ·refine k false H (Bb H) (ff (row_not6 hr0 fun z=> ?_))
   rw [z] at g
   exact absurd g (by decide)
  dsimp only [Bv]
  have l6:xs.length=6:=by
   have:(xs.length:Int)=6:=Classical.byContradiction fun z=>g (by simp [z])
   omega
  obtain ⟨x1,x2,x3,x4,x5,x6,rfl⟩:=six l6
  refine ⟨_,rfl,_,rfl,_,rfl,cut_any hr0 fun r4 H1 s1 e1=> ?_⟩
  rw [show (some (4:Int))=some ((4:Nat):Int) from rfl,cutV_take (by show 4≤6;decide)] at e1
  refine ⟨(N:Int),r4,x1,x2,x3,x4,rfl,e1,fun x hx=>(han x (by simp only [List.mem_cons,List.not_mem_nil,or_false] at hx ⊢;rcases hx with h|h|h|h<;> simp [h])).same s1,fun H2 s2=>⟨_,rfl,?_⟩⟩
  have s12:=s1.trans s2
  have h2:=s12 _ _ hr0
  have k:=fun b=>k b H2 s12
  rw [row_iff hr0] at k
  cases n1:tieB (N:Int) x1 x2 x3 x4 with
  |false=>exact Bi (k false (ff fun z=>by rw [n1] at z;cases z.1))
  |true=>
   refine Be ⟨_,rfl,r,_,4,_,rfl,rfl,SqT.of h2,Ay (j:=4) rfl,_,rfl,(N:Int),rfl,by omega,by omega,?_⟩
   refine ⟨x5,_,_,rfl,((han x5 (by simp)).same s12).an,_,rfl,?_⟩
   cases n5:whV x5 0 (lay N) with
   |false=>exact Bi (k false (ff fun z=>by rw [n5] at z;cases z.2.1))
   |true=>
    obtain ⟨t,h3,h4⟩:=((han x6 (by simp)).same s12).an.bool (K:=K)
    refine Be ⟨_,rfl,r,_,5,_,rfl,rfl,SqT.of h2,Ay (j:=5) rfl,x6,t,"bool",isBl x6,rfl,h3,h4,k _ ⟨fun z=>⟨n1,n5,z⟩,fun z=>z.2.2⟩⟩
end
end K34
namespace Wk
open PySem L2
end Wk
namespace K34
open PySem L2 Wk
def tiF (R:List R6) (p:R6→Bool):List T4:=(R.filter p).map (·.1)
theorem mem_ti {R:List R6} {p:R6→Bool} {t:T4}:t∈tiF R p↔∃x∈R,p x=true∧x.1=t:=by
 unfold tiF
 rw [List.mem_map]
 constructor
 ·rintro ⟨x,h,e⟩;exact ⟨x,(List.mem_filter.mp h).1,(List.mem_filter.mp h).2,e⟩
 ·rintro ⟨x,h,g,e⟩;exact ⟨x,List.mem_filter.mpr ⟨h,g⟩,e⟩
theorem part_congr {N:Nat} {S S':List T4} (hS:InN N S) (hS':InN N S') (hN:N≤60) (h:∀a b,Reach S a b↔Reach S' a b) {p:Nat} (hp:p<N):Ao N S p=Ao N S' p:=by
 have h1:= @Bg S N p
 have h2:= @Bg S' N p
 unfold Ao at h1 h2 ⊢
 refine List.filter_congr fun v hv=> ?_
 have q1:=h1 (v:=v) hS hp hN
 have q2:=h2 (v:=v) hS' hp hN
 rw [List.mem_filter] at q1 q2
 have:=(q1.trans (and_congr_right fun _=>h p v)).trans q2.symm
 rw [Bool.eq_iff_iff]
 exact ⟨fun z=>(this.mp ⟨hv,z⟩).2,fun z=>(this.mpr ⟨hv,z⟩).2⟩
theorem ls_congr {N:Nat} {S S':List T4} (hS:InN N S) (hS':InN N S') (hN:N≤60) (h:∀a b,Reach S a b↔Reach S' a b):lsF N S=lsF N S':=by
 unfold lsF
 refine List.filter_congr fun v hv=> ?_
 rw [part_congr hS hS' hN h (List.mem_range.mp hv)]
structure LGood (N:Nat) (R:List R6):Prop where
 ok:∀x∈R,RowOk N x
 nd:(R.map (·.1.1)).Nodup
 len:R.length≤60
 same:∀L:Nat,(L:Int)≤lay N→∀a b,Reach (tiF R (frB L)) a b→Reach (tiF R (kpB L)) a b
 size:∀L:Nat,(L:Int)≤lay N→∀p,p<N→((Ao N (tiF R (frB L)) p).length:Int)≤rm N L
 forest:clsF N (tiF R (kpB 0))+(tiF R (kpB 0)).length≤N
theorem LGood.inN {N:Nat} {R:List R6} (h:LGood N R) (p:R6→Bool):InN N (tiF R p):=fun t ht=>by
 obtain ⟨x,hx,_,rfl⟩:=mem_ti.mp ht
 exact ⟨(h.ok x hx).2.1.1,(h.ok x hx).2.1.2.1⟩
theorem kp_sub {R:List R6} {L:Nat}:∀t∈tiF R (kpB L),t∈tiF R (frB L):=fun t ht=>by
 obtain ⟨x,hx,g,rfl⟩:=mem_ti.mp ht
 exact mem_ti.mpr ⟨x,hx,(Bool.and_eq_true _ _▸g:_∧_).1,rfl⟩
theorem ti_perm {R R':List R6} (p:R'.Perm R) (f:R6→Bool):(tiF R' f).Perm (tiF R f):=(p.filter f).map _
theorem reach_perm {S S':List T4} (p:S'.Perm S) (a b:Nat):Reach S' a b↔Reach S a b:=⟨fun h=>h.mono fun t ht=>p.mem_iff.mp ht,fun h=>h.mono fun t ht=>p.mem_iff.mpr ht⟩
theorem LGood.perm {N:Nat} {R R':List R6} (h:LGood N R) (N60:N≤60) (p:R'.Perm R):LGood N R' where
 ok:=fun x hx=>h.ok x (p.mem_iff.mp hx)
 nd:=((p.map _).nodup_iff).mpr h.nd
 len:=by rw [p.length_eq];exact h.len
 same:=fun L hL a b q=>(reach_perm (ti_perm p _) a b).mpr (h.same L hL a b ((reach_perm (ti_perm p _) a b).mp q))
 size:=fun L hL v hv=>by
  have i1:InN N (tiF R' (frB L)):=fun t ht=>h.inN (frB L) t ((ti_perm p _).mem_iff.mp ht)
  rw [part_congr i1 (h.inN _) N60 (fun a b=>reach_perm (ti_perm p _) a b) hv]
  exact h.size L hL v hv
 forest:=by
  rw [cls_congr (R:=tiF R (kpB 0)) fun a b _ _=>reach_perm (ti_perm p _) a b,(ti_perm p _).length_eq]
  exact h.forest
theorem LGood.nil {N:Nat} (N1:1≤N) (N24:N≤24):LGood N [] where
 ok:=fun x hx=>nomatch hx
 nd:=List.nodup_nil
 len:=Nat.zero_le _
 same:=fun L hL a b q=>q
 size:=fun L hL v hv=>by
  rw [show tiF [] (frB L)=[] from rfl,(ls_nil (N:=N) (by omega)).2 v hv]
  exact rm_1 (by omega) (by omega) (by omega) hL
 forest:=by
  rw [show tiF [] (kpB 0)=[] from rfl,cls_nil]
  exact Nat.le_refl _
theorem rm_mono {m:Int} {a b:Nat} (m0:0≤m) (h:a≤b):rm m b≤rm m a:=by
 unfold rm
 obtain ⟨d,rfl⟩:=Nat.exists_eq_add_of_le h
 rw [show ((a:Nat):Int).toNat=a by omega,show (((a+d:Nat)):Int).toNat=a+d by omega,Int.pow_add,←Int.ediv_ediv_of_nonneg (Int.le_of_lt (Int.pow_pos (by decide)))]
 exact Int.ediv_le_self _ (Int.ediv_nonneg m0 (Int.le_of_lt (Int.pow_pos (by decide))))
theorem fr_all {R:List R6} {l L:Nat} (lo:∀x∈R,l≤x.2.1) (h:L≤l):tiF R (frB L)=R.map (·.1):=by
 unfold tiF
 rw [List.filter_eq_self.mpr (show ∀x∈R,frB L x=true from fun x hx=>decide_eq_true (Nat.le_trans h (lo x hx)))]
theorem ti_snoc {R:List R6} {x:R6} {p:R6→Bool}:tiF (R++[x]) p=tiF R p++(if p x=true then [x.1] else []):=by
 unfold tiF
 rw [List.filter_append,List.map_append]
 congr 1
 by_cases g:p x=true
 ·rw [if_pos g,List.filter_cons_of_pos g];rfl
 ·rw [if_neg g,List.filter_cons_of_neg g];rfl
theorem part_two {N:Nat} {S:List T4} {t:T4} (hS:InN N S) (h1:t.2.1<N) (h2:t.2.2.1<N) (hN:N≤60) {p:Nat} (hp:p<N):
  (Ao N (S++[t]) p).length≤(Ao N S t.2.1).length+(Ao N S t.2.2.1).length∨Ao N (S++[t]) p=Ao N S p:=by
 have hS':InN N (S++[t]):=fun u hu=>by
  rcases List.mem_append.mp hu with q|q
  ·exact hS u q
  ·rw [List.mem_singleton.mp q];exact ⟨h1,h2⟩
 by_cases g:Reach S p t.2.1∨Reach S p t.2.2.1
 ·left
  have:∀v∈Ao N (S++[t]) p,v∈Ao N S t.2.1++Ao N S t.2.2.1:=fun v hv=>by
   obtain ⟨vN,r⟩:=(Bg hS' hp hN).mp hv
   rw [List.mem_append,Bg hS h1 hN,Bg hS h2 hN]
   rcases reach_snoc.mp r with r|⟨_,r⟩|⟨_,r⟩
   ·rcases g with g|g
    ·exact .inl ⟨vN,g.symm.trans r⟩
    ·exact .inr ⟨vN,g.symm.trans r⟩
   ·exact .inr ⟨vN,r⟩
   ·exact .inl ⟨vN,r⟩
  have nd:(Ao N (S++[t]) p).Nodup:=(List.nodup_range).sublist List.filter_sublist
  rw [←List.length_append]
  exact List.Nodup.length_le_of_subset nd this
 ·right
  have h1':= @Bg (S++[t]) N p
  have h2':= @Bg S N p
  unfold Ao at h1' h2' ⊢
  refine List.filter_congr fun v hv=> ?_
  have q1:=h1' (v:=v) hS' hp hN
  have q2:=h2' (v:=v) hS hp hN
  rw [List.mem_filter] at q1 q2
  have e:Reach (S++[t]) p v↔Reach S p v:=by
   rw [reach_snoc]
   exact ⟨fun z=>z.elim id fun z=>z.elim (fun z=>absurd (.inl z.1) g) fun z=>absurd (.inr z.1) g,.inl⟩
  have:=(q1.trans (and_congr_right fun _=>e)).trans q2.symm
  rw [Bool.eq_iff_iff]
  exact ⟨fun z=>(this.mp ⟨hv,z⟩).2,fun z=>(this.mpr ⟨hv,z⟩).2⟩
theorem LGood.more {N l:Nat} {R:List R6} (h:LGood N R) (N60:N≤60) (lo:∀x∈R,l≤x.2.1) {t:T4} {b:Bool} (hx:RowOk N (t,l,b)) (fresh:t.1 ∉ R.map (·.1.1)) (len:R.length<60)
  (hb:b=true↔¬Reach (R.map (·.1)) t.2.1 t.2.2.1)
  (hs:b=true→((Ao N (R.map (·.1)) t.2.1).length+(Ao N (R.map (·.1)) t.2.2.1).length:Int)≤rm N l):LGood N (R++[(t,l,b)]):=by
 obtain ⟨t1,t2,_⟩:=hx.2.1
 have kr:∀L,L≤l→(∀a c,Reach (R.map (·.1)) a c→Reach (tiF R (kpB L)) a c):=fun L hL a c q=>by
  have hl:(l:Int)≤lay N:=hx.2.2.2
  rw [←fr_all lo hL] at q
  exact h.same L (by omega) a c q
 refine ⟨?_,?_,by rw [List.length_append];exact len,?_,?_,?_⟩
 ·intro x hx'
  rcases List.mem_append.mp hx' with q|q
  ·exact h.ok x q
  ·rw [List.mem_singleton.mp q];exact hx
 ·rw [List.map_append,List.nodup_append]
  refine ⟨h.nd,by simp,fun a ha c hc=> ?_⟩
  rw [List.map_cons,List.map_nil,List.mem_singleton] at hc
  intro e
  rw [e,hc] at ha
  exact fresh ha
 ·intro L hL a c q
  rw [ti_snoc] at q ⊢
  by_cases g:L≤l
  ·rw [if_pos (show frB L (t,l,b)=true from decide_eq_true g),fr_all lo g] at q
   have ek:kpB L (t,l,b)=b:=by simp [kpB,g]
   rw [ek]
   cases b with
   |false=>
    rw [if_neg (by simp),List.append_nil]
    have r:Reach (R.map (·.1)) t.2.1 t.2.2.1:=Classical.byContradiction fun z=>absurd (hb.mpr z) (by simp)
    refine kr L g a c ?_
    rcases reach_snoc.mp q with q|⟨q1,q2⟩|⟨q1,q2⟩
    ·exact q
    ·exact (q1.trans r).trans q2
    ·exact (q1.trans r.symm).trans q2
   |true=>
    rw [if_pos rfl]
    refine reach_snoc.mpr ?_
    rcases reach_snoc.mp q with q|⟨q1,q2⟩|⟨q1,q2⟩
    ·exact .inl (kr L g _ _ q)
    ·exact .inr (.inl ⟨kr L g _ _ q1,kr L g _ _ q2⟩)
    ·exact .inr (.inr ⟨kr L g _ _ q1,kr L g _ _ q2⟩)
  ·rw [if_neg (show ¬frB L (t,l,b)=true by simp [frB,g]),List.append_nil] at q
   rw [if_neg (show ¬kpB L (t,l,b)=true by simp [kpB,g]),List.append_nil]
   exact h.same L hL a c q
 ·intro L hL p hp
  rw [ti_snoc]
  by_cases g:L≤l
  ·rw [if_pos (show frB L (t,l,b)=true from decide_eq_true g),fr_all lo g]
   have old:=h.size L hL p hp
   rw [fr_all lo g] at old
   have i0:InN N (R.map (·.1)):=by rw [←fr_all lo g];exact h.inN _
   have mo:=rm_mono (m:=(N:Int)) (by omega) g
   rcases part_two i0 t1 t2 N60 hp with q|q
   ·have q:(Ao N (R.map (·.1)++[t]) p).length≤(Ao N (R.map (·.1)) t.2.1).length+(Ao N (R.map (·.1)) t.2.2.1).length:=q
    cases b with
    |true=>
     have:=hs rfl
     show ((Ao N (R.map (·.1)++[t]) p).length:Int)≤_
     omega
    |false=>
     have r:Reach (R.map (·.1)) t.2.1 t.2.2.1:=Classical.byContradiction fun z=>absurd (hb.mpr z) (by simp)
     have i1:InN N (R.map (·.1)++[t]):=fun u hu=>by
      rcases List.mem_append.mp hu with q|q
      ·exact i0 u q
      ·rw [List.mem_singleton.mp q];exact ⟨t1,t2⟩
     rw [part_congr i1 i0 N60 (fun a c=>⟨fun q=> ?_,fun q=>reach_snoc.mpr (.inl q)⟩) hp]
     ·exact old
     ·rcases reach_snoc.mp q with q|⟨q1,q2⟩|⟨q1,q2⟩
      ·exact q
      ·exact (q1.trans r).trans q2
      ·exact (q1.trans r.symm).trans q2
   ·rw [q];exact old
  ·rw [if_neg (show ¬frB L (t,l,b)=true by simp [frB,g]),List.append_nil]
   exact h.size L hL p hp
 ·rw [ti_snoc]
  cases b with
  |false=>rw [if_neg (by simp [kpB]),List.append_nil];exact h.forest
  |true=>
   rw [if_pos (by simp [kpB])]
   have nr:¬Reach (tiF R (kpB 0)) t.2.1 t.2.2.1:=fun z=>hb.mp rfl (z.mono fun u hu=>by
    rw [←fr_all lo (Nat.zero_le _)];exact kp_sub u hu)
   have:=cls_less t1 t2 nr
   have:=h.forest
   rw [List.length_append]
   show _+(_+1)≤N
   omega
def Lds (N:Nat) (l:List Nat) (lab:List Nat):Prop:=l.length=N∧∀v,v<N→l.getD v 0≤v∧lab.getD (l.getD v 0) 0=lab.getD v 0∧(l.getD v 0=v→lab.getD v 0=v)
theorem lds0 (N:Nat):Lds N (List.range N) (List.range N):=⟨List.length_range,fun v hv=>by
 have:(List.range N).getD v 0=v:=by simp [List.getD,hv]
 rw [this];exact ⟨Nat.le_refl _,this,fun _=>rfl⟩⟩
theorem set_get {l:List Nat} {i v x:Nat} (hv:v<l.length):(l.set i x).getD v 0=if i=v then x else l.getD v 0:=by
 simp only [List.getD]
 rw [List.getElem?_set]
 split
 ·rename_i e;subst e;simp [hv]
 ·rfl
theorem lds_step {N:Nat} {l lab:List Nat} {t:T4} (h:Lds N l lab) (low:LLow N lab) (h1:t.2.1<N) (h2:t.2.2.1<N):
  Lds N (l.set (max (lab.getD t.2.1 0) (lab.getD t.2.2.1 0)) (min (lab.getD t.2.1 0) (lab.getD t.2.2.1 0))) (labS lab t):=by
 have a1:=low.2 _ h1
 have a2:=low.2 _ h2
 have ll:=low.1
 have key:∀v,v<N→(labS lab t).getD v 0=if lab.getD v 0=max (lab.getD t.2.1 0) (lab.getD t.2.2.1 0) then min (lab.getD t.2.1 0) (lab.getD t.2.2.1 0) else lab.getD v 0:=fun v hv=>labS_get (by rw [ll];exact hv)
 generalize lab.getD t.2.1 0=x at a1 key
 generalize lab.getD t.2.2.1 0=y at a2 key
 have hx:lab.getD (max x y) 0=max x y:=by
  rcases Nat.le_total x y with q|q
  ·rw [Nat.max_eq_right q];exact a2.2
  ·rw [Nat.max_eq_left q];exact a1.2
 have hy:lab.getD (min x y) 0=min x y:=by
  rcases Nat.le_total x y with q|q
  ·rw [Nat.min_eq_left q];exact a1.2
  ·rw [Nat.min_eq_right q];exact a2.2
 have hm:min x y≤max x y:=by omega
 have hM:max x y<N:=by omega
 generalize max x y=M at *
 generalize min x y=m at *
 refine ⟨by rw [List.length_set];exact h.1,fun v hv=> ?_⟩
 obtain ⟨c1,c2,c3⟩:=h.2 v hv
 rw [set_get (by rw [h.1];exact hv)]
 by_cases e:M=v
 ·subst e
  rw [if_pos rfl,key m (by omega),key M hv,hy,hx,if_pos rfl]
  refine ⟨hm,?_,fun z=>z⟩
  split<;> rfl
 ·rw [if_neg e,key _ (by omega),key v hv,c2]
  refine ⟨c1,rfl,fun z=> ?_⟩
  have:=c3 z
  rw [this,if_neg (fun q=>e q.symm)]
theorem lab_count {N p:Nat} {S:List T4} (hS:InN N S) (hp:p<N) (hN:N≤60):(Bf N S).count ((Bf N S).getD p 0)=(Ao N S p).length:=by
 rw [part_lab hS hp hN]
 have e:Bf N S=(List.range N).map fun v=>(Bf N S).getD v 0:=by
  refine List.ext_getElem? fun i=> ?_
  rw [List.getElem?_map]
  by_cases hi:i<N
  ·rw [List.getElem?_range hi,Bh (by rw [Cl];exact hi)]
   simp [List.getD,Cl,hi]
  ·rw [List.getElem?_eq_none (by rw [Cl];omega),List.getElem?_eq_none (by rw [List.length_range];omega)];rfl
 conv=>lhs;rw [List.count,e,List.countP_map]
 rw [←e,List.countP_eq_length_filter]
 congr 1
def SameL (R:List R6) (L:Nat):Prop:=∀t∈tiF R (frB L),Reach (tiF R (kpB L)) t.2.1 t.2.2.1
def SizeL (N:Nat) (R:List R6) (L:Nat):Prop:=∀p,p<N→((Ao N (tiF R (frB L)) p).length:Int)≤rm N L
theorem part_same {N p q:Nat} {S:List T4} (hS:InN N S) (hN:N≤60) (hp:p<N) (hq:q<N) (h:Reach S p q):Ao N S p=Ao N S q:=by
 have h1:= @Bg S N
 unfold Ao at h1 ⊢
 refine List.filter_congr fun v hv=> ?_
 have q1:=h1 (p:=p) (v:=v) hS hp hN
 have q2:=h1 (p:=q) (v:=v) hS hq hN
 rw [List.mem_filter] at q1 q2
 have e:Reach S p v↔Reach S q v:=⟨fun z=>h.symm.trans z,fun z=>h.trans z⟩
 have:=(q1.trans (and_congr_right fun _=>e)).trans q2.symm
 rw [Bool.eq_iff_iff]
 exact ⟨fun z=>(this.mp ⟨hv,z⟩).2,fun z=>(this.mpr ⟨hv,z⟩).2⟩
def psF (N:Nat) (S:List T4):List (List Nat):=(lsF N S).map (Ao N S)
theorem ps_reach {N:Nat} {S S':List T4} (hS:InN N S) (hS':InN N S') (hN:N≤60) (e:psF N S=psF N S') {a b:Nat} (ha:a<N) (hb:b<N) (h:Reach S a b):Reach S' a b:=by
 obtain ⟨l1,l2⟩:=lab_ls hS hN ha
 have hl:=ls_lt l1
 have m:Ao N S ((Bf N S).getD a 0)∈psF N S':=by rw [←e];exact List.mem_map_of_mem l1
 obtain ⟨l',h1,h2⟩:=List.mem_map.mp m
 have hl':=ls_lt h1
 have pa:a∈Ao N S ((Bf N S).getD a 0):=(Bg hS hl hN).mpr ⟨ha,l2⟩
 have pb:b∈Ao N S ((Bf N S).getD a 0):=(Bg hS hl hN).mpr ⟨hb,l2.trans h⟩
 rw [←h2] at pa pb
 exact ((Bg hS' hl' hN).mp pa).2.symm.trans ((Bg hS' hl' hN).mp pb).2
theorem same_iff {N L:Nat} {R:List R6} (hR:∀p,InN N (tiF R p)) (hN:N≤60):psF N (tiF R (frB L))=psF N (tiF R (kpB L))↔SameL R L:=by
 constructor
 ·intro e t ht
  have:=hR _ t ht
  exact ps_reach (hR _) (hR _) hN e this.1 this.2 (Reach.step (nb_of ht))
 ·intro h
  have i:∀a b,Reach (tiF R (frB L)) a b↔Reach (tiF R (kpB L)) a b:=fun a b=>⟨fun q=>reach_ties h q,fun q=>q.mono kp_sub⟩
  unfold psF
  rw [ls_congr (hR _) (hR _) hN i]
  exact List.map_congr_left fun p hp=>part_congr (hR _) (hR _) hN i (ls_lt hp)
theorem size_iff {N L:Nat} {R:List R6} (hR:∀p,InN N (tiF R p)) (hN:N≤60):(∀p∈lsF N (tiF R (frB L)),((Ao N (tiF R (frB L)) p).length:Int)≤rm N L)↔SizeL N R L:=by
 constructor
 ·intro h p hp
  obtain ⟨l1,l2⟩:=lab_ls (hR (frB L)) hN hp
  rw [←part_same (hR _) hN (ls_lt l1) hp l2]
  exact h _ l1
 ·exact fun h p hp=>h p (ls_lt hp)
theorem cls_ge {N:Nat}:∀(T P:List T4),InN N T→clsF N P≤clsF N (P++T)+T.length
 |[],P,_=>by rw [List.append_nil];exact Nat.le_add_right _ _
 |t::T,P,h=>by
  have ih:=cls_ge T (P++[t]) fun u hu=>h u (List.mem_cons_of_mem _ hu)
  have ht:=h t List.mem_cons_self
  rw [List.append_assoc] at ih
  have:clsF N P≤clsF N (P++[t])+1:=by
   by_cases g:Reach P t.2.1 t.2.2.1
   ·rw [cls_same g];omega
   ·have:=cls_less ht.1 ht.2 g;omega
  rw [List.length_cons]
  show clsF N P≤clsF N (P++([t]++T))+(T.length+1)
  omega
theorem ring_cls {N:Nat} {A B:List T4} {t:T4} (hA:InN N A) (hB:InN N B) (h1:t.2.1<N) (h2:t.2.2.1<N) (r:Reach A t.2.1 t.2.2.1):N<clsF N (A++t::B)+(A++t::B).length:=by
 have e:A++t::B=(A++[t])++B:=by simp
 have h3:=cls_ge B (A++[t]) hB
 have h4:=cls_ge A [] hA
 rw [List.nil_append,cls_nil] at h4
 rw [cls_same r] at h3
 rw [e,List.length_append,List.length_append]
 show N<clsF N ((A++[t])++B)+(A.length+1+B.length)
 omega
theorem Up.pw {R:List R6} (h:∀(i:Nat) x y,R[i]? =some x→R[i+1]? =some y→x.1.1.cps.toList<y.1.1.cps.toList):R.Pairwise fun x y=>x.1.1.cps.toList<y.1.1.cps.toList:=by
 rw [List.pairwise_iff_getElem]
 intro i j hi hj hij
 obtain ⟨d,rfl⟩:∃d,j=i+1+d:=⟨j - i - 1,by omega⟩
 induction d with
 |zero=>exact h i _ _ (Bh hi) (Bh hj)
 |succ d ih=>
  have hj':i+1+d<R.length:=by omega
  exact List.lt_trans (ih hj' (by omega)) (h (i+1+d) _ _ (Bh hj') (Bh hj))
theorem rowV_inj {x y:R6} (h:rowV x=rowV y):x=y:=by
 obtain ⟨⟨z,p,q,w⟩,l,b⟩:=x
 obtain ⟨⟨z',p',q',w'⟩,l',b'⟩:=y
 simp only [rowV,tieV,List.cons_append,List.nil_append,List.cons.injEq,and_true,V.str.injEq,V.int.injEq,V.bl.injEq] at h
 obtain ⟨h1,h2,h3,h4,h5,h6⟩:=h
 rw [h1,h4,h6,show p=p' by omega,show q=q' by omega,show l=l' by omega]
theorem rows_uniq {H:Hp} {rs:List Addr} {R R':List R6} (h:RowsAt H rs R) (h':RowsAt H rs R'):R=R':=by
 refine List.ext_getElem (by rw [←h.1,←h'.1]) fun i h1 h2=> ?_
 have h3:i<rs.length:=by rw [h.1];exact h1
 have e1:=h.2 i _ _ (Bh h3) (Bh h1)
 have e2:=h'.2 i _ _ (Bh h3) (Bh h2)
 rw [e1] at e2
 injection e2 with e2
 injection e2 with e2
 exact rowV_inj e2
theorem lay_uniq {H:Hp} {h:Addr} {N N':Nat} {R R':List R6} (x:LayAt H h N R) (x':LayAt H h N' R'):N=N'∧R=R':=by
 obtain ⟨tp,rs,e1,e2,e3⟩:=x
 obtain ⟨tp',rs',f1,f2,f3⟩:=x'
 rw [e1] at f1
 simp only [Option.some.injEq,HO.tup.injEq,List.cons.injEq,V.int.injEq,V.ref.injEq,and_true] at f1
 obtain ⟨n,rfl⟩:=f1
 rw [e2] at f2
 simp only [Option.some.injEq,HO.tup.injEq] at f2
 have er:rs=rs':=by
  have:=congrArg (List.map fun v=>match v with| .ref a=>a|_=>0) f2
  simpa [Function.comp_def] using this
 subst er
 exact ⟨by omega,rows_uniq e3 f3⟩
structure FormN (N:Nat) (R:List R6):Prop where
 n1:1≤N
 n24:N≤24
 len:R.length≤60
 ok:∀x∈R,RowOk N x
 up:R.Pairwise fun x y=>x.1.1.cps.toList<y.1.1.cps.toList
def FormAt (H:Hp) (v:V):Prop:=∃h N R,v= .ref h∧LayAt H h N R∧FormN N R
def GoodN (N:Nat) (R:List R6):Prop:=FormN N R∧LGood N R
def GoodAt (H:Hp) (v:V):Prop:=∃h N R,v= .ref h∧LayAt H h N R∧GoodN N R
theorem FormN.inN {N:Nat} {R:List R6} (h:FormN N R) (p:R6→Bool):InN N (tiF R p):=fun t ht=>by
 obtain ⟨x,hx,_,rfl⟩:=mem_ti.mp ht
 exact ⟨(h.ok x hx).2.1.1,(h.ok x hx).2.1.2.1⟩
theorem FormN.nd {N:Nat} {R:List R6} (h:FormN N R):(R.map (·.1.1)).Nodup:=by
 rw [List.nodup_iff_pairwise_ne,List.pairwise_map]
 exact h.up.imp fun {x y} q e=>by rw [e] at q;exact List.lt_irrefl _ q
theorem good_iff {N:Nat} {R:List R6} (h:FormN N R):LGood N R↔clsF N (tiF R (kpB 0))+(tiF R (kpB 0)).length≤N∧∀L:Nat,(L:Int)≤lay N→SameL R L∧SizeL N R L:=by
 constructor
 ·exact fun g=>⟨g.forest,fun L hL=>⟨fun t ht=>g.same L hL _ _ (Reach.step (nb_of ht)),g.size L hL⟩⟩
 ·exact fun ⟨g1,g2⟩=>⟨h.ok,h.nd,h.len,fun L hL a b q=>reach_ties (g2 L hL).1 q,fun L hL=>(g2 L hL).2,g1⟩
theorem rows_of {H:Hp} {N:Nat} {xs:List V} (h:∀v∈xs,RowAt H N v):∃(rs:List Addr) (R:List R6),xs=rs.map V.ref∧RowsAt H rs R∧∀x∈R,RowOk N x:=by
 induction xs with
 |nil=>exact ⟨[],[],rfl,⟨rfl,fun i r x e=>by simp at e⟩,fun x hx=>nomatch hx⟩
 |cons v xs ih=>
  obtain ⟨rs,R,e,hR,ok⟩:=ih fun v hv=>h v (List.mem_cons_of_mem _ hv)
  obtain ⟨r,x,e1,hx,ox⟩:=h v List.mem_cons_self
  refine ⟨r::rs,x::R,by rw [e,e1];rfl,⟨by rw [List.length_cons,List.length_cons,hR.1],fun i r' x' a b=> ?_⟩,fun y hy=> ?_⟩
  ·cases i with
   |zero=>cases a;cases b;exact hx
   |succ i=>exact hR.2 i r' x' a b
  ·rcases List.mem_cons.mp hy with rfl|hy
   ·exact ox
   ·exact ok y hy
theorem row_same {H H':Hp} {N:Nat} {v:V} (h:AnD H 1 v) (s:Same H H'):RowAt H' N v↔RowAt H N v:=by
 constructor
 ·rintro ⟨r,x,rfl,hx,ok⟩
  refine ⟨r,x,rfl,?_,ok⟩
  rcases h with ⟨nt,_⟩|⟨a,xs,e,ha,_⟩
  ·exfalso
   rcases nt with (h|⟨b,h⟩|⟨i,h⟩|⟨n,h⟩)|⟨a,xs,h,q⟩|⟨a,xs,h,q⟩
   all_goals cases h
   all_goals rw [s _ _ q] at hx;cases hx
  ·cases e
   rw [s _ _ ha] at hx
   rw [ha];exact hx
 ·rintro ⟨r,x,rfl,hx,ok⟩
  exact ⟨r,x,rfl,s _ _ hx,ok⟩
end K34
namespace K34
open PySem L2 Wk
theorem ties_snoc {H:Hp} {qs:List Addr} {S:List T4} {r:Addr} {t:T4} (h:TiesAt H qs S) (hr:H r=some (.tup (tieV t))):TiesAt H (qs++[r]) (S++[t]):=by
 refine ⟨by rw [List.length_append,List.length_append,h.1];rfl,fun i r0 p0 e1 e2=> ?_⟩
 rw [List.getElem?_append] at e1 e2
 rw [h.1] at e1
 split at e1
 ·rename_i z
  rw [if_pos z] at e2
  exact h.2 i r0 p0 e1 e2
 ·rename_i z
  rw [if_neg z] at e2
  have hz:i - S.length=0:=by
   have:=(List.getElem?_eq_some_iff.mp e1).1
   simp only [List.length_cons,List.length_nil] at this
   omega
  rw [hz] at e1 e2
  cases e1
  cases e2
  exact hr
theorem ties_mono {H H':Hp} {rs:List Addr} {S:List T4} (h:TiesAt H rs S) (f:∀r xs,H r=some (.tup xs)→H' r=some (.tup xs)):TiesAt H' rs S:=⟨h.1,fun i r t a b=>f _ _ (h.2 i r t a b)⟩
theorem cut4 (x:R6):cutV (rowV x) none (some (4:Int))=tieV x.1:=by
 rw [show (some (4:Int))=some ((4:Nat):Int) from rfl,cutV_take (by show 4≤6;decide)];rfl
theorem ti_take {R:List R6} {j:Nat} {y:R6} (e:R[j]? =some y) (p:R6→Bool):tiF (R.take (j+1)) p=tiF (R.take j) p++(if p y=true then [y.1] else []):=by rw [take_snoc e,ti_snoc]
theorem ti_len (R:List R6) (p:R6→Bool):(tiF R p).length≤R.length:=by unfold tiF;rw [List.length_map];exact List.length_filter_le _ _
theorem LayAt.mono {H H':Hp} {h:Addr} {N:Nat} {R:List R6} (x:LayAt H h N R) (f:∀r xs,H r=some (.tup xs)→H' r=some (.tup xs)):LayAt H' h N R:=let ⟨tp,rs,a,b,c⟩:=x;⟨tp,rs,f _ _ a,f _ _ b,c.mono f⟩
theorem LayAt.same {H H':Hp} {h:Addr} {N:Nat} {R:List R6} (x:LayAt H h N R) (s:Same H H'):LayAt H' h N R:=x.mono fun r xs=>s r (.tup xs)
def rLenX (K:PySem.W.Frag):List V→Hp→VK→Prop:=fun xs H Q=>∃p ys,xs=[.ref p]∧(SqL K H p ys∨SqT K H p ys)∧Q (.int ys.length) H
theorem nV_inj {a b:List Nat}:nV a=nV b↔a=b:=by
 constructor
 ·intro h
  have:=congrArg (List.map fun v=>match v with| .int i=>i.toNat|_=>0) h
  simpa [nV,Function.comp_def] using this
 ·intro h;rw [h]
theorem eqs_ps {K:PySem.W.Frag} {H:Hp} {N:Nat} {p q:Addr} {as bs:List Addr} {S S':List T4} (hp:H p=some (.tup (as.map V.ref))) (hq:H q=some (.tup (bs.map V.ref))) (ha:PtsAt H as N S (lsF N S)) (hb:PtsAt H bs N S' (lsF N S')):Eqs K H 2 (.ref p) (.ref q) (decide (psF N S=psF N S')):=by
 refine Eqs.seq (.inl ⟨SqT.of hp,SqT.of hq⟩) (by unfold psF;rw [List.length_map,List.length_map,ha.1]) (by unfold psF;rw [List.length_map,List.length_map,hb.1]) fun j x y d e hx hy hd he=> ?_
 obtain ⟨r,er,rfl⟩:=A5 hx
 obtain ⟨r',er',rfl⟩:=A5 hy
 obtain ⟨l,el,rfl⟩:=A5 hd
 obtain ⟨l',el',rfl⟩:=A5 he
 have e1:=ha.2 j r l er el
 have e2:=hb.2 j r' l' er' el'
 have:=Eqs.flats (K:=K) (H:=H) (n:=0) (SqT.of e1) (SqT.of e2) fun x hx y hy=>by
  obtain ⟨i,_,rfl⟩:=List.mem_map.mp hx
  obtain ⟨i',_,rfl⟩:=List.mem_map.mp hy
  rfl
 rwa [show decide (nV (Ao N S l)=nV (Ao N S' l'))=decide (Ao N S l=Ao N S' l') by rw [Bool.eq_iff_iff,decide_eq_true_eq,decide_eq_true_eq,nV_inj]] at this
def Up (R:List R6):Prop:=∀(i:Nat) x y,R[i]? =some x→R[i+1]? =some y→x.1.1.cps.toList<y.1.1.cps.toList
def spForm:Sp:=fun vs H Q _=>∃v:V,vs=[v]∧AnD H 3 v∧∀b H',Same H H'→(b=true↔FormAt H v)→Q (.bl b) H'
def spHolds:Sp:=fun vs H Q _=>∃(tp:Addr) (rs:List Addr) (N:Nat) (R:List R6) (L:Nat),vs=[.int (N:Int),.ref tp,.int (L:Int)]∧H tp=some (.tup (rs.map V.ref))∧RowsAt H rs R∧FormN N R∧(L:Int)≤lay N∧∀b H',Same H H'→(b=true↔SameL R L∧SizeL N R L)→Q (.bl b) H'
def spHold:Sp:=fun vs H Q _=>∃v:V,vs=[v]∧AnD H 3 v∧∀b H',Same H H'→(b=true↔GoodAt H v)→Q (.bl b) H'
theorem form_lay {H:Hp} {h:Addr} {N:Nat} {R:List R6} (x:LayAt H h N R):FormAt H (.ref h)↔FormN N R:=by
 constructor
 ·rintro ⟨h',N',R',e,l,f⟩
  cases e
  obtain ⟨rfl,rfl⟩:=lay_uniq x l
  exact f
 ·exact fun f=>⟨h,N,R,rfl,x,f⟩
theorem good_lay {H:Hp} {h:Addr} {N:Nat} {R:List R6} (x:LayAt H h N R):GoodAt H (.ref h)↔GoodN N R:=by
 constructor
 ·rintro ⟨h',N',R',e,l,f⟩
  cases e
  obtain ⟨rfl,rfl⟩:=lay_uniq x l
  exact f
 ·exact fun f=>⟨h,N,R,rfl,x,f⟩
theorem all_bl {bs:List Bool}:bs.all id=true↔∀(j:Nat) b,bs[j]? =some b→b=true:=by
 rw [List.all_eq_true]
 constructor
 ·exact fun h j b e=>h b (List.mem_of_getElem? e)
 ·intro h b hb
  obtain ⟨j,hj,e⟩:=List.getElem_of_mem hb
  exact h j b (by rw [←e];exact Bh hj)
theorem snoc_q {α:Type} {bs:List α} {b c:α} {j k:Nat} {p:Nat→α→Prop} (l:bs.length=j) (h:∀(i:Nat) c,bs[i]? =some c→p i c) (hb:p j b) (e:(bs++[b])[k]? =some c):p k c:=by
 rw [List.getElem?_append] at e
 split at e
 ·exact h k c e
 ·have:k=j:=by
   have:=(List.getElem?_eq_some_iff.mp e).1
   simp at this;omega
  subst this
  rw [show k - bs.length=0 by omega] at e
  have:b=c:=by simpa using e
  rw [←this];exact hb
section
variable {P:Program} {w:World} {K:PySem.W.Frag} {mg:Str→Option Value} {base:Heap}
theorem scTies:Av ["rows","layer"] ["rows","layer"] (Ae sTies):=⟨rfl,rfl,rfl,by decide+kernel,rfl,by decide+kernel,by decide+kernel⟩
theorem ok_Ties {f:Addr} {fd:FuncData} (F:Fun K "ties_from" "ties_from" sTies f fd) (T:Txt mg):
  FnOk P w K mg base CX0 1 f fd ["rows","layer"] spTies:=by
 refine F.ok scTies (fun vs H Q E h=> ?_) (fun cdv A outer s H vs Q E hr h=> ?_)
 ·obtain ⟨_,_,_,_,rfl,_⟩:=h;rfl
 ·obtain ⟨tp,rs,R,L,rfl,ht,hR,lR,k⟩:=h
  refine ⟨_,Ah (Al (Bn (T:=["row"]) (F:=["layer"]) (js:=[1]) (CS.to (osc:=Ae sTies) ⟨by rfl,by decide+kernel,by decide+kernel,by decide+kernel,by decide+kernel,by decide+kernel,by decide+kernel⟩ rfl rfl) rfl (pi_tup (pv 0)) (fun _ _ _ _ _=>Ak (i:=0) (show (["row","layer"]:List Str).Nodup by decide+kernel) rfl (Or.inl rfl)) (fun _ _ _ _ _=>Ch (Az op_ge (At (r:=rIxT K) A9 (pv 0) Af (fun _ _=>rfl)) (pv 1) (Aw _))) (fun _ _ _ _ _=>Bw (r:=rSlTA K) sl_tupA (pv 0) Cc (B7 Af)))),?_⟩
  refine ⟨_,rfl,tp,rfl,⟨_,SqT.of ht⟩,fun D hD=>comp_tup (K:=K) (a:=tp) (xs:=rs.map V.ref) (fun j σ ys H2=>∃(u:Option V) (qs:List Addr),σ=[u,some (.int (L:Int))]∧ys=qs.map V.ref∧Same H H2∧H2 D=some (.lst ys)∧TiesAt H2 qs (tiF (R.take j) (frB L))) ⟨none,[],rfl,rfl,Ad hD,Ab,rfl,fun i r t e=>by simp at e⟩ (fun j σ ys H2 _ ⟨_,_,_,_,s,e,_⟩=>⟨SqT.of (s _ _ ht),e⟩) ?_ ?_⟩
  ·rintro j x σ ys H2 hx ⟨u,qs,rfl,rfl,s2,d2,p2⟩
   obtain ⟨r,er,rfl⟩:=A5 hx
   obtain ⟨y,ey,hy⟩:=hR.get er
   have h2:=s2 _ _ hy
   have ql:qs.length≤60:=by
    rw [p2.1]
    exact Nat.le_trans (ti_len _ _) (Nat.le_trans (List.length_take_le' _ _) lR)
   have yes:frB L y=true→tSl (rSlTA K) (tVar 0) tNoPart (tPart (tC (.int 4))) [some (.ref r),some (.int (L:Int))] H2 (fun x H3=>H3 D=some (.lst (qs.map V.ref))∧(qs.map V.ref).length<sizeLine∧(∃(u:Option V) (qs':List Addr),[some (.ref r),some (.int (L:Int))]=[u,some (.int (L:Int))]∧qs.map V.ref++[x]=qs'.map V.ref∧Same H (upd H3 D (.lst (qs.map V.ref++[x])))∧upd H3 D (.lst (qs.map V.ref++[x])) D=some (.lst (qs.map V.ref++[x]))∧TiesAt (upd H3 D (.lst (qs.map V.ref++[x]))) qs' (tiF (R.take (j+1)) (frB L)))):=fun g=>by
    refine ⟨_,rfl,_,rfl,cut_any h2 fun r4 H3 s3 e3=> ?_⟩
    rw [cut4] at e3
    have d3:=s3 _ _ d2
    have kp:∀(r:Addr) (zs:List V) (o:HO),H3 r=some (.tup zs)→upd H3 D o r=some (.tup zs):=fun r zs o e=>by rw [A0 (ne_of e d3 (by intro z;cases z))];exact e
    refine ⟨d3,Ar (by rw [List.length_map];omega),_,qs++[r4],rfl,by rw [List.map_append];rfl,A2 (s2.trans s3) hD,Ab,?_⟩
    rw [ti_take ey,if_pos g]
    exact ties_snoc (ties_mono (p2.same s3) fun r zs e=>kp r zs _ e) (kp _ _ _ e3)
   have no:¬frB L y=true→(∃(u:Option V) (qs':List Addr),[some (.ref r),some (.int (L:Int))]=[u,some (.int (L:Int))]∧qs.map V.ref=qs'.map V.ref∧Same H H2∧H2 D=some (.lst (qs.map V.ref))∧TiesAt H2 qs' (tiF (R.take (j+1)) (frB L))):=fun g=>⟨_,qs,rfl,rfl,s2,d2,by rw [ti_take ey,if_neg g,List.append_nil];exact p2⟩
   refine ⟨_,rfl,r,_,4,_,rfl,rfl,SqT.of h2,Ay (j:=4) rfl,_,rfl,_,_,rfl,rfl,_,rfl,?_⟩
   refine Ci (fun c=> ?_) fun c=> ?_
   ·have c:L≤y.2.1:=by have:=of_decide_eq_true c;omega
    exact yes (show frB L y=true by simp [frB,c])
   ·have c:¬L≤y.2.1:=fun z=>c (decide_eq_true (by omega))
    exact no (show ¬frB L y=true by simp [frB,c])
  rintro σ ys H2 ⟨u,qs,rfl,rfl,s2,d2,p2⟩
  rw [List.length_map,hR.1,List.take_length] at p2
  exact k D H2 s2 ⟨qs,d2,p2⟩
theorem scKept:Av ["rows","layer"] ["rows","layer"] (Ae sKept):=⟨rfl,rfl,rfl,by decide+kernel,rfl,by decide+kernel,by decide+kernel⟩
theorem ok_Kept {f:Addr} {fd:FuncData} (F:Fun K "kept_from" "kept_from" sKept f fd) (T:Txt mg):
  FnOk P w K mg base CX0 1 f fd ["rows","layer"] spKept:=by
 refine F.ok scKept (fun vs H Q E h=> ?_) (fun cdv A outer s H vs Q E hr h=> ?_)
 ·obtain ⟨_,_,_,_,rfl,_⟩:=h;rfl
 ·obtain ⟨tp,rs,R,L,rfl,ht,hR,lR,k⟩:=h
  refine ⟨_,Ah (Al (Bn (T:=["row"]) (F:=["layer"]) (js:=[1]) (CS.to (osc:=Ae sKept) ⟨by rfl,by decide+kernel,by decide+kernel,by decide+kernel,by decide+kernel,by decide+kernel,by decide+kernel⟩ rfl rfl) rfl (pi_tup (pv 0)) (fun _ _ _ _ _=>Ak (i:=0) (show (["row","layer"]:List Str).Nodup by decide+kernel) rfl (Or.inl rfl)) (fun _ _ _ _ _=>Ch (PW.pt (pw_and (Az op_ge (At (r:=rIxT K) A9 (pv 0) Af (fun _ _=>rfl)) (pv 1) (Aw _)) (pw_and1 (Br (At (r:=rIxT K) A9 (pv 0) Af (fun _ _=>rfl))))))) (fun _ _ _ _ _=>Bw (r:=rSlTA K) sl_tupA (pv 0) Cc (B7 Af)))),?_⟩
  refine ⟨_,rfl,tp,rfl,⟨_,SqT.of ht⟩,fun D hD=>comp_tup (K:=K) (a:=tp) (xs:=rs.map V.ref) (fun j σ ys H2=>∃(u:Option V) (qs:List Addr),σ=[u,some (.int (L:Int))]∧ys=qs.map V.ref∧Same H H2∧H2 D=some (.lst ys)∧TiesAt H2 qs (tiF (R.take j) (kpB L))) ⟨none,[],rfl,rfl,Ad hD,Ab,rfl,fun i r t e=>by simp at e⟩ (fun j σ ys H2 _ ⟨_,_,_,_,s,e,_⟩=>⟨SqT.of (s _ _ ht),e⟩) ?_ ?_⟩
  ·rintro j x σ ys H2 hx ⟨u,qs,rfl,rfl,s2,d2,p2⟩
   obtain ⟨r,er,rfl⟩:=A5 hx
   obtain ⟨y,ey,hy⟩:=hR.get er
   have h2:=s2 _ _ hy
   have ql:qs.length≤60:=by
    rw [p2.1]
    exact Nat.le_trans (ti_len _ _) (Nat.le_trans (List.length_take_le' _ _) lR)
   have yes:kpB L y=true→tSl (rSlTA K) (tVar 0) tNoPart (tPart (tC (.int 4))) [some (.ref r),some (.int (L:Int))] H2 (fun x H3=>H3 D=some (.lst (qs.map V.ref))∧(qs.map V.ref).length<sizeLine∧(∃(u:Option V) (qs':List Addr),[some (.ref r),some (.int (L:Int))]=[u,some (.int (L:Int))]∧qs.map V.ref++[x]=qs'.map V.ref∧Same H (upd H3 D (.lst (qs.map V.ref++[x])))∧upd H3 D (.lst (qs.map V.ref++[x])) D=some (.lst (qs.map V.ref++[x]))∧TiesAt (upd H3 D (.lst (qs.map V.ref++[x]))) qs' (tiF (R.take (j+1)) (kpB L)))):=fun g=>by
    refine ⟨_,rfl,_,rfl,cut_any h2 fun r4 H3 s3 e3=> ?_⟩
    rw [cut4] at e3
    have d3:=s3 _ _ d2
    have kp:∀(r:Addr) (zs:List V) (o:HO),H3 r=some (.tup zs)→upd H3 D o r=some (.tup zs):=fun r zs o e=>by rw [A0 (ne_of e d3 (by intro z;cases z))];exact e
    refine ⟨d3,Ar (by rw [List.length_map];omega),_,qs++[r4],rfl,by rw [List.map_append];rfl,A2 (s2.trans s3) hD,Ab,?_⟩
    rw [ti_take ey,if_pos g]
    exact ties_snoc (ties_mono (p2.same s3) fun r zs e=>kp r zs _ e) (kp _ _ _ e3)
   have no:¬kpB L y=true→(∃(u:Option V) (qs':List Addr),[some (.ref r),some (.int (L:Int))]=[u,some (.int (L:Int))]∧qs.map V.ref=qs'.map V.ref∧Same H H2∧H2 D=some (.lst (qs.map V.ref))∧TiesAt H2 qs' (tiF (R.take (j+1)) (kpB L))):=fun g=>⟨_,qs,rfl,rfl,s2,d2,by rw [ti_take ey,if_neg g,List.append_nil];exact p2⟩
   refine ⟨_,rfl,r,_,4,_,rfl,rfl,SqT.of h2,Ay (j:=4) rfl,_,rfl,_,_,rfl,rfl,_,rfl,?_⟩
   refine Ci (fun c=> ?_) fun c=> ?_
   ·have c:L≤y.2.1:=by have:=of_decide_eq_true c;omega
    refine ⟨_,rfl,r,_,5,_,rfl,rfl,SqT.of h2,Ay (j:=5) rfl,_,rfl,?_⟩
    refine Ci (fun c2=> ?_) fun c2=> ?_
    ·have c2:y.2.2=true:=c2
     refine yes (show kpB L y=true by simp [kpB,c,c2])
    ·have c2:¬y.2.2=true:=c2
     exact no (show ¬kpB L y=true by simp [kpB,c2])
   ·have c:¬L≤y.2.1:=fun z=>c (decide_eq_true (by omega))
    exact Bi (no (show ¬kpB L y=true by simp [kpB,c]))
  rintro σ ys H2 ⟨u,qs,rfl,rfl,s2,d2,p2⟩
  rw [List.length_map,hR.1,List.take_length] at p2
  exact k D H2 s2 ⟨qs,d2,p2⟩
theorem scForm:Av ["thing","many","rows"] ["thing"] (Ae sForm):=⟨rfl,rfl,rfl,by decide+kernel,rfl,by decide+kernel,by decide+kernel⟩
theorem ok_Form {f:Addr} {fd:FuncData} (F:Fun K "has_form" "has_form" sForm f fd) (T:Txt mg)
  {gShape:Addr} {fShape:FuncData} (kShape:PySem.W.keepIn K (.ref gShape)=true) (bShape:Binds K fShape ["thing","most"] []) (hShape:mg "has_shape"=some (.ref gShape)) (GShape:FnOk P w K mg base CX0 5 gShape fShape ["thing","most"] spShape)
  {gRow:Addr} {fRow:FuncData} (kRow:PySem.W.keepIn K (.ref gRow)=true) (bRow:Binds K fRow ["many","thing"] []) (hRow:mg "is_row"=some (.ref gRow)) (GRow:FnOk P w K mg base CX0 5 gRow fRow ["many","thing"] spRow):
  FnOk P w K mg base CX0 6 f fd ["thing"] spForm:=by
 refine F.ok scForm (fun vs H Q E h=> ?_) (fun cdv A outer s H vs Q E hr h=> ?_)
 ·obtain ⟨_,rfl,_⟩:=h;rfl
 ·obtain ⟨v,rfl,hv,k⟩:=h
  obtain ⟨_,hmt⟩:=T.tiesM
  refine ⟨_,Ag (Bs (Bu (Br (Ai GShape hr rfl hShape kShape bShape .nil Aq (Aa (pv 0) (Aa (pe_gint (by rfl) hmt) Ac))))) (Ah (Al B6)) A7)
   (Ag (ps_asg (pv 0) (pg_tup rfl (Ba (Ak (i:=1) scForm.nd rfl (Or.inr rfl)) (Ba (Ak (i:=2) scForm.nd rfl (Or.inl rfl)) pgs_nil))))
   (Ag (Bs (Bu (Br (Aj (call_all rfl) (by rfl) T.all (by decide+kernel) (Aa (Bn (T:=["row"]) (F:=["many"]) (js:=[1]) (CS.to (osc:=Ae sForm) ⟨by rfl,by decide+kernel,by decide+kernel,by decide+kernel,by decide+kernel,by decide+kernel,by decide+kernel⟩ rfl rfl) rfl (pi_tup (pv 2)) (fun _ _ _ _ _=>Ak (i:=0) (show (["row","many"]:List Str).Nodup by decide+kernel) rfl (Or.inl rfl)) (fun _ _ _ _ _=>Cd) (fun _ _ _ _ _=>Ai GRow hr rfl hRow kRow bRow .nil Aq (Aa (pv 1) (Aa (pv 0) Ac)))) Ac)))) (Ah (Al B6)) A7)
   (Ah (Al (Aj (call_all rfl) (by rfl) T.all (by decide+kernel) (Aa (Bn (T:=["ahead","row"]) (F:=[]) (js:=[]) (CS.to (osc:=Ae sForm) ⟨by rfl,by decide+kernel,by decide+kernel,by decide+kernel,by decide+kernel,by decide+kernel,by decide+kernel⟩ rfl rfl) rfl (pi_zip rfl T.zip (Aa (pv 2) (Aa (Bw sl_tupA (pv 2) (B7 Af) Cc) Ac))) (fun _ _ _ _ _=>pg_tupK K 2 rfl rfl (Ba (Ak (i:=0) (show (["ahead","row"]:List Str).Nodup by decide+kernel) rfl (Or.inl rfl)) (Ba (Ak (i:=1) (show (["ahead","row"]:List Str).Nodup by decide+kernel) rfl (Or.inl rfl)) pgs_nil))) (fun _ _ _ _ _=>Cd) (fun _ _ _ _ _=>Ce op_lt_str (At (r:=rIxT K) A9 (pv 0) Af (fun _ _=>rfl)) (At (r:=rIxT K) A9 (pv 1) Af (fun _ _=>rfl)) (Aw _))) Ac)))))),?_⟩
  refine ⟨_,rfl,v,60,rfl,hv.down.down,fun b hb=>⟨_,rfl,?_⟩⟩
  cases b with
  |false=>
   refine Be (k false H (Bb H) (ff fun ⟨h,N,R,e,⟨tp,rs,hh,ht,hR⟩,f⟩=> ?_))
   have:=hb.mpr ⟨h,tp,N,rs.map V.ref,e,hh,f.n1,f.n24,ht,by rw [List.length_map,hR.1];have:=f.len;omega⟩
   cases this
  |true=>
   obtain ⟨h,tp,N,xs,rfl,hh,N1,N24,ht,l60⟩:=hb.mp rfl
   refine Bi ?_
   dsimp only [Bv]
   have hxs:∀x∈xs,AnD H 1 x:=by
    rcases hv with ⟨nt,_⟩|⟨a,ys,e,ha,_,q⟩
    ·exfalso
     rcases nt with (h|⟨b,h⟩|⟨i,h⟩|⟨n,h⟩)|⟨a,xs,h,q⟩|⟨a,xs,h,q⟩
     all_goals cases h
     all_goals rw [q] at hh;cases hh
    ·cases e
     rw [hh] at ha
     cases ha
     rcases q (.ref tp) (by simp) with ⟨nt,_⟩|⟨a,ys,e,ha,_,q⟩
     ·exfalso
      rcases nt with (h|⟨b,h⟩|⟨i,h⟩|⟨n,h⟩)|⟨a,xs,h,q⟩|⟨a,xs,h,q⟩
      all_goals cases h
      all_goals rw [q] at ht;cases ht
     ·cases e
      rw [ht] at ha
      cases ha
      exact q
   refine ⟨_,rfl,h,_,rfl,SqT.of hh,rfl,_,_,rfl,_,_,rfl,rfl,?_⟩
   refine ⟨_,rfl,tp,rfl,⟨_,SqT.of ht⟩,fun D hD=>comp_tup (K:=K) (a:=tp) (xs:=xs) (fun j σ ys H2=>∃(u:Option V) (bs:List Bool),σ=[u,some (.int (N:Int))]∧ys=bs.map V.bl∧Same H H2∧H2 D=some (.lst ys)∧bs.length=j∧∀(i:Nat) b,bs[i]? =some b→∀x,xs[i]? =some x→(b=true↔RowAt H N x)) ⟨none,[],rfl,rfl,Ad hD,Ab,rfl,fun i b e=>by simp at e⟩ (fun j σ ys H2 _ ⟨_,_,_,_,s,e,_⟩=>⟨SqT.of (s _ _ ht),e⟩) ?_ ?_⟩
   ·rintro j x σ ys H2 hx ⟨u,bs,rfl,rfl,s2,d2,bl,bq⟩
    have jl:j<xs.length:=(List.getElem?_eq_some_iff.mp hx).1
    have ax:=hxs x (List.mem_of_getElem? hx)
    refine ⟨_,rfl,_,rfl,N,x,rfl,ax.same s2,N1,N24,fun b H3 s3 eb=> ?_⟩
    exact ⟨s3 _ _ d2,Ar (by rw [List.length_map];omega),_,bs++[b],rfl,by rw [List.map_append];rfl,A2 (s2.trans s3) hD,Ab,by rw [List.length_append,bl];rfl,fun i c e=>snoc_q (p:=fun i b=>∀x,xs[i]? =some x→(b=true↔RowAt H N x)) bl bq (fun y hy=>by rw [hx] at hy;cases hy;rw [eb,row_same ax s2]) e⟩
   rintro σ ys H2 ⟨u,bs,rfl,rfl,s2,d2,bl,bq⟩
   refine ⟨D,bs,rfl,SqL.of d2,_,rfl,?_⟩
   cases eall:bs.all id with
   |false=>
    refine Be (k false H2 s2 (ff fun ⟨h',N',R,e,⟨tp',rs,hh',ht',hR⟩,f⟩=> ?_))
    cases e
    rw [hh] at hh'
    simp only [Option.some.injEq,HO.tup.injEq,List.cons.injEq,V.int.injEq,V.ref.injEq,and_true] at hh'
    obtain ⟨n,rfl⟩:=hh'
    have n:N=N':=by omega
    subst n
    rw [ht] at ht'
    simp only [Option.some.injEq,HO.tup.injEq] at ht'
    subst ht'
    have:bs.all id=true:=all_bl.mpr fun j b e=>by
     have hj:j<(rs.map V.ref).length:=by rw [←bl];exact (List.getElem?_eq_some_iff.mp e).1
     refine (bq j b e _ (Bh hj)).mpr ?_
     obtain ⟨r,er,e'⟩:=A5 (Bh hj)
     obtain ⟨x,ex,hx⟩:=hR.get er
     exact ⟨r,x,e',hx,f.ok x (List.mem_of_getElem? ex)⟩
    rw [eall] at this
    cases this
   |true=>
    have rw_:∀x∈xs,RowAt H N x:=fun x hx=>by
     obtain ⟨j,hj,e⟩:=List.getElem_of_mem hx
     have hb:j<bs.length:=by rw [bl];exact hj
     exact (bq j _ (Bh hb) x (by rw [←e];exact Bh hj)).mp (all_bl.mp eall j _ (Bh hb))
    obtain ⟨rs,R,rfl,hR,ok⟩:=rows_of rw_
    have lR:R.length≤60:=by rw [List.length_map,hR.1] at l60;omega
    refine Bi ?_
    dsimp only [Bv]
    refine ⟨_,rfl,_,rfl,_,rfl,cut_any (s2 _ _ ht) fun t2 H3 s3 e3=> ?_⟩
    rw [show (some (1:Int))=some ((1:Nat):Int) from rfl,cutV_drop] at e3
    have T3:=(s2.trans s3) _ _ ht
    have s23:=s2.trans s3
    refine ⟨tp,t2,_,_,rfl,SqT.of T3,SqT.of e3,fun E hE=>comp_zip (K:=K) (a:=tp) (b:=t2) (xs:=rs.map V.ref) (ys:=(rs.map V.ref).drop 1) (fun j σ ys H4=>∃(u v:Option V) (cs:List Bool),σ=[u,v]∧ys=cs.map V.bl∧Same H3 H4∧H4 E=some (.lst ys)∧cs.length=j∧∀(i:Nat) c,cs[i]? =some c→∀x y,R[i]? =some x→R[i+1]? =some y→(c=true↔x.1.1.cps.toList<y.1.1.cps.toList)) ⟨none,none,[],rfl,rfl,Ad hE,Ab,rfl,fun i b e=>by simp at e⟩ (fun j σ ys H4 _ _ ⟨_,_,_,_,_,s,e,_⟩=>⟨SqT.of (s _ _ T3),SqT.of (s _ _ e3),e⟩) ?_ ?_⟩
    ·rintro j x y σ ys H4 C hx hy ⟨u,v,cs,rfl,rfl,s4,d4,cl,cq⟩ hC
     rw [List.getElem?_drop] at hy
     obtain ⟨r,er,rfl⟩:=A5 hx
     obtain ⟨r',er',rfl⟩:=A5 hy
     obtain ⟨z,ez,hz⟩:=hR.get er
     obtain ⟨z',ez',hz'⟩:=hR.get er'
     have jl:j<60:=by have:=(List.getElem?_eq_some_iff.mp ez).1;omega
     have s5:=s4.trans (Ad (o:= .tup [.ref r,.ref r']) hC)
     have C5:=Ab (H:=H4) (a:=C) (o:= .tup [.ref r,.ref r'])
     have d5:=Ad (o:= .tup [.ref r,.ref r']) hC _ _ d4
     generalize upd H4 C (.tup [.ref r,.ref r'])=H5 at s5 C5 d5
     have S5:=s23.trans s5
     refine ⟨C,_,rfl,SqT.of C5,rfl,_,_,rfl,_,_,rfl,rfl,?_⟩
     refine ⟨_,rfl,r,_,0,_,rfl,rfl,SqT.of (S5 _ _ hz),Ay (j:=0) rfl,_,rfl,r',_,0,_,rfl,rfl,SqT.of (S5 _ _ hz'),Ay (j:=0) rfl,_,_,rfl,rfl,?_⟩
     refine ⟨d5,Ar (by rw [List.length_map];omega),_,_,cs++[_],rfl,by rw [List.map_append];rfl,A2 s5 hE,Ab,by rw [List.length_append,cl];rfl,fun i c e=>snoc_q (p:=fun i c=>∀x y,R[i]? =some x→R[i+1]? =some y→(c=true↔x.1.1.cps.toList<y.1.1.cps.toList)) cl cq (fun x y hx hy=> ?_) e⟩
     rw [ez] at hx
     rw [Nat.add_comm] at ez'
     rw [ez'] at hy
     cases hx;cases hy
     exact decide_eq_true_iff
    rintro i σ ys H4 hi ⟨u,v,cs,rfl,rfl,s4,d4,cl,cq⟩
    refine ⟨E,cs,rfl,SqL.of d4,?_⟩
    refine k _ H4 (s23.trans s4) ?_
    rw [form_lay ⟨tp,rs,hh,ht,hR⟩,all_bl]
    constructor
    ·intro h
     refine ⟨N1,N24,lR,ok,Up.pw fun j x y hx hy=> ?_⟩
     have hj:j<cs.length:=by
      rw [cl,hi,List.length_drop,List.length_map,hR.1]
      have:=(List.getElem?_eq_some_iff.mp hy).1
      omega
     exact (cq j _ (Bh hj) x y hx hy).mp (h j _ (Bh hj))
    ·intro f j c e
     have hj:j<cs.length:=(List.getElem?_eq_some_iff.mp e).1
     rw [cl,hi,List.length_drop,List.length_map,hR.1] at hj
     have h1:j<R.length:=by omega
     have h2:j+1<R.length:=by omega
     exact (cq j c e _ _ (Bh h1) (Bh h2)).mpr (List.pairwise_iff_getElem.mp f.up j (j+1) h1 h2 (by omega))
theorem scHolds:Av ["many","rows","layer","parts"] ["many","rows","layer"] (Ae sHolds):=⟨rfl,rfl,rfl,by decide+kernel,rfl,by decide+kernel,by decide+kernel⟩
theorem ok_Holds {f:Addr} {fd:FuncData} (F:Fun K "holds_at" "holds_at" sHolds f fd) (T:Txt mg)
  {gParts:Addr} {fParts:FuncData} (kParts:PySem.W.keepIn K (.ref gParts)=true) (bParts:Binds K fParts ["many","stand"] []) (hParts:mg "parts_of"=some (.ref gParts)) (GParts:FnOk P w K mg base CX0 4 gParts fParts ["many","stand"] spParts)
  {gTies:Addr} {fTies:FuncData} (kTies:PySem.W.keepIn K (.ref gTies)=true) (bTies:Binds K fTies ["rows","layer"] []) (hTies:mg "ties_from"=some (.ref gTies)) (GTies:FnOk P w K mg base CX0 4 gTies fTies ["rows","layer"] spTies)
  {gKept:Addr} {fKept:FuncData} (kKept:PySem.W.keepIn K (.ref gKept)=true) (bKept:Binds K fKept ["rows","layer"] []) (hKept:mg "kept_from"=some (.ref gKept)) (GKept:FnOk P w K mg base CX0 4 gKept fKept ["rows","layer"] spKept)
  {gRoom:Addr} {fRoom:FuncData} (kRoom:PySem.W.keepIn K (.ref gRoom)=true) (bRoom:Binds K fRoom ["many","layer"] []) (hRoom:mg "room_at"=some (.ref gRoom)) (GRoom:FnOk P w K mg base CX0 4 gRoom fRoom ["many","layer"] spRoom):
  FnOk P w K mg base CX0 5 f fd ["many","rows","layer"] spHolds:=by
 refine F.ok scHolds (fun vs H Q E h=> ?_) (fun cdv A outer s H vs Q E hr h=> ?_)
 ·obtain ⟨_,_,_,_,_,rfl,_⟩:=h;rfl
 ·obtain ⟨tp,rs,N,R,L,rfl,ht,hR,f,hL,k⟩:=h
  refine ⟨_,Ag (As (i:=3) scHolds.nd rfl (Or.inl rfl) (Ai GParts hr rfl hParts kParts bParts .nil Aq (Aa (pv 0) (Aa (Ai GTies hr rfl hTies kTies bTies .nil Aq (Aa (pv 1) (Aa (pv 2) Ac))) Ac))))
   (Ag (Bs (Az (op_nes hr.units) (pv 3) (Ai GParts hr rfl hParts kParts bParts .nil Aq (Aa (pv 0) (Aa (Ai GKept hr rfl hKept kKept bKept .nil Aq (Aa (pv 1) (Aa (pv 2) Ac))) Ac))) (Aw _)) (Ah (Al B6)) A7)
   (Ah (Al (Aj (call_all rfl) (by rfl) T.all (by decide+kernel) (Aa (Bn (T:=["part"]) (F:=["many","layer"]) (js:=[0,2]) (CS.to (osc:=Ae sHolds) ⟨by rfl,by decide+kernel,by decide+kernel,by decide+kernel,by decide+kernel,by decide+kernel,by decide+kernel⟩ rfl rfl) rfl (pi_tup (pv 3)) (fun _ _ _ _ _=>Ak (i:=0) (show (["part","many","layer"]:List Str).Nodup by decide+kernel) rfl (Or.inl rfl)) (fun _ _ _ _ _=>Cd) (fun _ _ _ _ _=>Ce op_le (Aj (r:=rLenX K) Bc (by rfl) T.len PySem.boot_len (Aa (pv 0) Ac)) (Ai GRoom hr rfl hRoom kRoom bRoom .nil Aq (Aa (pv 1) (Aa (pv 2) Ac))) (Aw _))) Ac))))),?_⟩
  have N1:=f.n1
  have N24:=f.n24
  have N60:N≤60:=by omega
  have lR:=f.len
  refine ⟨_,rfl,_,rfl,_,rfl,tp,rs,R,L,rfl,ht,hR,f.len,fun st H1 s1 h1=> ?_⟩
  refine ⟨N,st,tiF R (frB L),rfl,h1,f.inN _,N60,Nat.le_trans (ti_len _ _) (by omega),fun p as H2 s2 hp ha=> ?_⟩
  have T2:=s2 _ _ (s1 _ _ ht)
  have R2:=hR.mono fun r xs e=>s2 _ _ (s1 _ _ e)
  refine ⟨_,rfl,_,rfl,_,rfl,_,rfl,tp,rs,R,L,rfl,T2,R2,f.len,fun su H3 s3 h3=> ?_⟩
  refine ⟨N,su,tiF R (kpB L),rfl,h3,f.inN _,N60,Nat.le_trans (ti_len _ _) (by omega),fun q bs H4 s4 hq hb=> ?_⟩
  have p4:=s4 _ _ (s3 _ _ hp)
  have a4:=(ha.mono fun r zs e=>s3 _ _ e).mono fun r zs e=>s4 _ _ e
  have S4:=((s1.trans s2).trans s3).trans s4
  refine ⟨1,_,p,q,rfl,rfl,by decide,eqs_ps p4 hq a4 hb,_,rfl,?_⟩
  have si:=same_iff (L:=L) f.inN N60
  by_cases g:psF N (tiF R (frB L))=psF N (tiF R (kpB L))
  rotate_left
  ·rw [decide_eq_false g]
   exact Be (k false H4 S4 (ff fun z=>g (si.mpr z.1)))
  rw [decide_eq_true g]
  refine Bi ?_
  dsimp only [Bv]
  refine ⟨_,rfl,p,rfl,⟨_,SqT.of p4⟩,fun D hD=>comp_tup (K:=K) (a:=p) (xs:=as.map V.ref) (fun j σ ys H5=>∃(u:Option V) (cs:List Bool),σ=[u,some (.int (N:Int)),some (.int (L:Int))]∧ys=cs.map V.bl∧Same H4 H5∧H5 D=some (.lst ys)∧cs.length=j∧∀(i:Nat) c,cs[i]? =some c→∀l,(lsF N (tiF R (frB L)))[i]? =some l→(c=true↔((Ao N (tiF R (frB L)) l).length:Int)≤rm N L)) ⟨none,[],rfl,rfl,Ad hD,Ab,rfl,fun i b e=>by simp at e⟩ (fun j σ ys H2 _ ⟨_,_,_,_,s,e,_⟩=>⟨SqT.of (s _ _ p4),e⟩) ?_ ?_⟩
  ·rintro j x σ ys H5 hx ⟨u,cs,rfl,rfl,s5,d5,cl,cq⟩
   obtain ⟨r,er,rfl⟩:=A5 hx
   have jl:j<(lsF N (tiF R (frB L))).length:=by rw [←ha.1];exact (List.getElem?_eq_some_iff.mp er).1
   have jl2:j<60:=by
    have:(lsF N (tiF R (frB L))).length≤N:=by
     unfold lsF
     refine Nat.le_trans (List.length_filter_le _ _) ?_
     rw [List.length_range];exact Nat.le_refl _
    omega
   have e1:=s5 _ _ (a4.2 j r _ er (Bh jl))
   refine ⟨_,rfl,r,_,rfl,.inr (SqT.of e1),_,rfl,_,rfl,(N:Int),(L:Int),rfl,by omega,_,_,rfl,rfl,?_⟩
   refine ⟨d5,Ar (by rw [List.length_map];omega),_,cs++[_],rfl,by rw [List.map_append];rfl,A2 s5 hD,Ab,by rw [List.length_append,cl];rfl,fun i c e=>snoc_q (p:=fun i c=>∀l,(lsF N (tiF R (frB L)))[i]? =some l→(c=true↔((Ao N (tiF R (frB L)) l).length:Int)≤rm N L)) cl cq (fun l hl=> ?_) e⟩
   rw [Bh jl] at hl
   cases hl
   rw [decide_eq_true_eq]
   unfold nV
   rw [List.length_map,List.length_map]
  rintro σ ys H5 ⟨u,cs,rfl,rfl,s5,d5,cl,cq⟩
  refine ⟨D,cs,rfl,SqL.of d5,k _ H5 (S4.trans s5) ?_⟩
  rw [all_bl,←size_iff f.inN N60]
  have cl:cs.length=(lsF N (tiF R (frB L))).length:=by rw [cl,List.length_map,ha.1]
  constructor
  ·refine fun h=>⟨si.mp g,fun p hp=> ?_⟩
   obtain ⟨j,hj,e⟩:=List.getElem_of_mem hp
   have hc:j<cs.length:=by rw [cl];exact hj
   exact (cq j _ (Bh hc) p (by rw [←e];exact Bh hj)).mp (h j _ (Bh hc))
  ·rintro ⟨_,h⟩ j c e
   have hj:j<(lsF N (tiF R (frB L))).length:=by rw [←cl];exact (List.getElem?_eq_some_iff.mp e).1
   exact (cq j c e _ (Bh hj)).mpr (h _ (List.getElem_mem hj))
theorem scHold:Av ["thing","many","rows"] ["thing"] (Ae sHold):=⟨rfl,rfl,rfl,by decide+kernel,rfl,by decide+kernel,by decide+kernel⟩
theorem ok_Hold {f:Addr} {fd:FuncData} (F:Fun K "layers_hold" "layers_hold" sHold f fd) (T:Txt mg)
  {gForm:Addr} {fForm:FuncData} (kForm:PySem.W.keepIn K (.ref gForm)=true) (bForm:Binds K fForm ["thing"] []) (hForm:mg "has_form"=some (.ref gForm)) (GForm:FnOk P w K mg base CX0 6 gForm fForm ["thing"] spForm)
  {gHasR:Addr} {fHasR:FuncData} (kHasR:PySem.W.keepIn K (.ref gHasR)=true) (bHasR:Binds K fHasR ["many","stand"] []) (hHasR:mg "has_ring"=some (.ref gHasR)) (GHasR:FnOk P w K mg base CX0 6 gHasR fHasR ["many","stand"] spHasR)
  {gKept:Addr} {fKept:FuncData} (kKept:PySem.W.keepIn K (.ref gKept)=true) (bKept:Binds K fKept ["rows","layer"] []) (hKept:mg "kept_from"=some (.ref gKept)) (GKept:FnOk P w K mg base CX0 6 gKept fKept ["rows","layer"] spKept)
  {gHolds:Addr} {fHolds:FuncData} (kHolds:PySem.W.keepIn K (.ref gHolds)=true) (bHolds:Binds K fHolds ["many","rows","layer"] []) (hHolds:mg "holds_at"=some (.ref gHolds)) (GHolds:FnOk P w K mg base CX0 6 gHolds fHolds ["many","rows","layer"] spHolds)
  {gMost:Addr} {fMost:FuncData} (kMost:PySem.W.keepIn K (.ref gMost)=true) (bMost:Binds K fMost ["many"] []) (hMost:mg "most_layer"=some (.ref gMost)) (GMost:FnOk P w K mg base CX0 6 gMost fMost ["many"] spMost):
  FnOk P w K mg base CX0 7 f fd ["thing"] spHold:=by
 refine F.ok scHold (fun vs H Q E h=> ?_) (fun cdv A outer s H vs Q E hr h=> ?_)
 ·obtain ⟨_,rfl,_⟩:=h;rfl
 ·obtain ⟨v,rfl,hv,k⟩:=h
  refine ⟨_,Ag (Bs (Bu (Br (Ai GForm hr rfl hForm kForm bForm .nil Aq (Aa (pv 0) Ac)))) (Ah (Al B6)) A7)
   (Ag (ps_asg (pv 0) (pg_tup rfl (Ba (Ak (i:=1) scHold.nd rfl (Or.inr rfl)) (Ba (Ak (i:=2) scHold.nd rfl (Or.inr rfl)) pgs_nil))))
   (Ag (Bs (Br (Ai GHasR hr rfl hHasR kHasR bHasR .nil Aq (Aa (pv 1) (Aa (Ai GKept hr rfl hKept kKept bKept .nil Aq (Aa (pv 2) (Aa Af Ac))) Ac)))) (Ah (Al B6)) A7)
   (Ah (Al (Aj (call_all rfl) (by rfl) T.all (by decide+kernel) (Aa (Bn (T:=["layer"]) (F:=["many","rows"]) (js:=[1,2]) (CS.to (osc:=Ae sHold) ⟨by rfl,by decide+kernel,by decide+kernel,by decide+kernel,by decide+kernel,by decide+kernel,by decide+kernel⟩ rfl rfl) rfl (By rfl T.range (Aa (Am Bp (Ai GMost hr rfl hMost kMost bMost .nil Aq (Aa (pv 1) Ac)) Af) Ac)) (fun _ _ _ _ _=>Ak (i:=0) (show (["layer","many","rows"]:List Str).Nodup by decide+kernel) rfl (Or.inl rfl)) (fun _ _ _ _ _=>Cd) (fun _ _ _ _ _=>Ai GHolds hr rfl hHolds kHolds bHolds .nil Aq (Aa (pv 1) (Aa (pv 2) (Aa (pv 0) Ac))))) Ac)))))),?_⟩
  refine ⟨_,rfl,v,rfl,hv,fun b H1 s1 hb=>⟨_,rfl,?_⟩⟩
  cases b with
  |false=>
   refine Be (k false H1 s1 (ff fun ⟨h,N,R,e,l,f,_⟩=> ?_))
   have:=hb.mpr ⟨h,N,R,e,l,f⟩
   cases this
  |true=>
   obtain ⟨h,N,R,rfl,hl,f⟩:=hb.mp rfl
   have N1:=f.n1
   have N24:=f.n24
   have lR:=f.len
   refine Bi ?_
   dsimp only [Bv]
   have k:∀b H',Same H H'→(b=true↔clsF N (tiF R (kpB 0))+(tiF R (kpB 0)).length≤N∧∀L:Nat,(L:Int)≤lay N→SameL R L∧SizeL N R L)→Q (.bl b) H':=fun b H' s e=>k b H' s (by rw [good_lay hl,e,←good_iff f];exact ⟨fun z=>⟨f,z⟩,fun z=>z.2⟩)
   obtain ⟨tp,rs,hh,ht,hR⟩:=hl.same s1
   refine ⟨_,rfl,h,_,rfl,SqT.of hh,rfl,_,_,rfl,_,_,rfl,rfl,?_⟩
   refine ⟨_,rfl,_,rfl,tp,rs,R,0,rfl,ht,hR,f.len,fun st H2 s2 h2=> ?_⟩
   refine ⟨N,st,tiF R (kpB 0),rfl,h2,f.inN _,by omega,Nat.le_trans (ti_len _ _) (by omega),fun H3 s3=>⟨_,rfl,?_⟩⟩
   rw [ls_cls (f.inN (kpB 0)) (by omega)]
   have S3:=s2.trans s3
   by_cases g:clsF N (tiF R (kpB 0))+(tiF R (kpB 0)).length≤N
   rotate_left
   ·rw [decide_eq_true (by omega)]
    exact Be (k false H3 (s1.trans S3) (ff fun z=>g z.1))
   rw [decide_eq_false (by omega)]
   refine Bi ?_
   dsimp only [Bv]
   have l0:=lay_0 (N:Int)
   have l4:=lay_4 (N:Int)
   refine ⟨_,rfl,(N:Int),rfl,by omega,by omega,_,_,rfl,rfl,lay N+1,rfl,by omega,by omega,fun D hD=>comp_range (lo:=0) (n:=(lay (N:Int)+1).toNat) (fun j σ ys H4=>∃(u:Option V) (cs:List Bool),σ=[u,some (.int (N:Int)),some (.ref tp)]∧ys=cs.map V.bl∧Same H3 H4∧H4 D=some (.lst ys)∧cs.length=j∧∀(i:Nat) c,cs[i]? =some c→(c=true↔SameL R i∧SizeL N R i)) ⟨none,[],rfl,rfl,Ad hD,Ab,rfl,fun i b e=>by simp at e⟩ (fun j σ ys H2 _ ⟨_,_,_,_,s,e,_⟩=>e) ?_ ?_⟩
   ·rintro j σ ys H4 hj ⟨u,cs,rfl,rfl,s4,d4,cl,cq⟩
    have S4:=S3.trans s4
    refine ⟨_,rfl,_,rfl,_,rfl,tp,rs,N,R,j,by rw [Int.zero_add];rfl,S4 _ _ ht,hR.mono fun r xs e=>S4 _ _ e,f,by omega,fun b H5 s5 eb=> ?_⟩
    exact ⟨s5 _ _ d4,Ar (by rw [List.length_map];omega),_,cs++[b],rfl,by rw [List.map_append];rfl,A2 (s4.trans s5) hD,Ab,by rw [List.length_append,cl];rfl,fun i c e=>snoc_q (p:=fun i c=>(c=true↔SameL R i∧SizeL N R i)) cl cq eb e⟩
   rintro σ ys H4 ⟨u,cs,rfl,rfl,s4,d4,cl,cq⟩
   refine ⟨D,cs,rfl,SqL.of d4,k _ H4 (s1.trans (S3.trans s4)) ?_⟩
   rw [all_bl]
   constructor
   ·refine fun h=>⟨g,fun L hL=> ?_⟩
    have hc:L<cs.length:=by rw [cl];omega
    exact (cq L _ (Bh hc)).mp (h L _ (Bh hc))
   ·rintro ⟨_,h⟩ j c e
    have hc:j<cs.length:=(List.getElem?_eq_some_iff.mp e).1
    exact (cq j c e).mpr (h j (by omega))
end
end K34
namespace K34
open PySem L2 Wk
def DeckAt (H:Hp) (a:Addr):Prop:=∃(c S:Int) (rs:List Int),H a=some (.lst (.int c:: .int S::rs.map V.int))∧rs.length≤63
def But (a:Addr) (H H':Hp):Prop:=∀b o,H b=some o→b≠a→H' b=some o
def spDeck (K:PySem.W.Frag):Sp:=fun vs H Q _=>∃(s:Addr) (ns:List Int),vs=[.ref s]∧SqL K H s (ns.map V.int)∧ns.length≤63∧∀(a:Addr) (H':Hp),Same H H'→H a=none→DeckAt H' a→Q (.ref a) H'
def spDraw:Sp:=fun vs H Q _=>∃(a:Addr) (m:Int),vs=[.ref a,.int m]∧DeckAt H a∧0<m∧m<2000000∧∀(v:Int) (H':Hp),0≤v→v<m→But a H H'→DeckAt H' a→Q (.int v) H'
theorem cut_ints {ns:List Int} {lo hi:Option Int}:∃ms:List Int,cutV (ns.map V.int) lo hi=ms.map V.int∧ms.length≤ns.length:=by
 refine ⟨(ns.drop (HT.sIx ns.length 0 lo)).take (HT.sIx ns.length ns.length hi - HT.sIx ns.length 0 lo),?_,?_⟩
 ·unfold cutV;rw [List.length_map,List.map_take,List.map_drop]
 ·rw [List.length_take,List.length_drop];omega
theorem int_of {ms:List Int} {j:Nat} {x:V} (h:(ms.map V.int)[j]? =some x):∃c,ms[j]? =some c∧x= .int c:=by
 rw [List.getElem?_map] at h
 cases hq:ms[j]? with
 |none=>rw [hq] at h;cases h
 |some z=>rw [hq] at h;exact ⟨z,rfl,(Option.some.inj h).symm⟩
theorem at0 {x:V} {xs:List V}:atI (x::xs) 0=some x:=Ay (j:=0) rfl
theorem at1 {x y:V} {xs:List V}:atI (x::y::xs) 1=some y:=Ay (j:=1) rfl
theorem ix0 (n:Nat):ixN (n+1) 0=some 0:=by unfold ixN;rw [if_pos (by decide),if_pos (by omega)];rfl
theorem But.of {a:Addr} {H H':Hp} (s:Same H H'):But a H H':=fun b o e _=>s _ _ e
theorem But.trans {a:Addr} {H H1 H2:Hp} (x:But a H H1) (y:But a H1 H2):But a H H2:=fun b o e n=>y _ _ (x _ _ e n) n
theorem But.set {a D:Addr} {H H1:Hp} {o:HO} (x:But a H H1) (h:H D=none):But a H (upd H1 D o):=fun b u e n=>by
 rw [A0 (fun z=>by rw [z,h] at e;cases e)];exact x _ _ e n
theorem DeckAt.same {a:Addr} {H H':Hp} (d:DeckAt H a) (s:Same H H'):DeckAt H' a:=let ⟨c,S,rs,e,l⟩:=d;⟨c,S,rs,s _ _ e,l⟩
theorem DeckAt.upd {a D:Addr} {H:Hp} {o:HO} (d:DeckAt H a) (n:D≠a):DeckAt (upd H D o) a:=let ⟨c,S,rs,e,l⟩:=d;⟨c,S,rs,by rw [A0 n.symm];exact e,l⟩
theorem DeckAt.ne {a D:Addr} {H:Hp} (d:DeckAt H a) (h:H D=none):D≠a:=fun z=>by
 obtain ⟨c,S,rs,e,_⟩:=d
 rw [←z,h] at e;cases e
theorem But.tup {a r:Addr} {H H':Hp} {xs:List V} (x:But a H H') (d:DeckAt H a) (h:H r=some (.tup xs)):H' r=some (.tup xs):=x _ _ h fun z=>by
 obtain ⟨c,S,rs,e,_⟩:=d
 rw [←z,h] at e;cases e
theorem But.none {a l:Addr} {H H':Hp} (x:But a H H') (d:DeckAt H' a) (h:H' l=none):H l=none:=by
 cases e:H l with
 |none=>rfl
 |some o=>have:=x _ _ e (d.ne h);rw [h] at this;cases this
theorem len_toList (z:Str):z.length=z.cps.toList.length:=by simp [Str.length]
theorem cat_len (x y:Str):(x++y).length=x.length+y.length:=by
 show (x.cps++y.cps).size=_
 rw [Array.size_append];rfl
def Nk (f s M k:Nat) (z:Str):Prop:=NameOk z∧z.cps.toList[0]? =some (97+(f+k) % 26)∧(20<M→z.cps.toList[1]? =some (97+(s+k / 26) % 26))
theorem Nk.inj {f s M j k:Nat} {z:Str} (a:Nk f s M j z) (b:Nk f s M k z) (hj:j<M) (hk:k<M) (hM:M≤60):j=k:=by
 have e1:=Option.some.inj (a.2.1.symm.trans b.2.1)
 by_cases h:20<M
 ·have e2:=Option.some.inj ((a.2.2 h).symm.trans (b.2.2 h))
  omega
 ·omega
theorem Nk.nodup {f s M:Nat} {zs:List Str} (h:∀(j:Nat) z,zs[j]? =some z→Nk f s M j z) (hl:zs.length≤M) (hM:M≤60):zs.Nodup:=by
 rw [List.nodup_iff_pairwise_ne,List.pairwise_iff_getElem]
 intro i j hi hj hij e
 have:=Nk.inj (h i _ (Bh hi)) (by rw [e];exact h j _ (Bh hj)) (by omega) (by omega) hM
 omega
theorem zs_snoc {zs:List Str} {i:Nat} {y:Str} {p:Nat→Str→Prop} (zl:zs.length=i) (h:∀(j:Nat) (y:Str),zs[j]? =some y→p j y) (hy:p i y):∀(j:Nat) (x:Str),(zs++[y])[j]? =some x→p j x:=fun j x hx=>by
 rw [List.getElem?_append] at hx
 split at hx
 ·exact h j x hx
 ·have hj:j=i:=by
   have:=(List.getElem?_eq_some_iff.mp hx).1
   simp at this;omega
  subst hj
  rw [show j - zs.length=0 by omega] at hx
  have:y=x:=by simpa using hx
  rw [←this];exact hy
theorem slice_cs {z:Str} {j:Int} (h:0≤j∧j≤z.length):(Txt.slice z none (some j)).cps.toList=z.cps.toList.take j.toNat:=by
 have:=StrLaws.sliceText_to (x:=z) (j:=j) ⟨h.1,by rw [←len_toList];exact h.2⟩
 rw [show Txt.slice z none (some j)=StrLaws.sliceText z none (some j) from rfl,this,Int.sub_zero]
 simp
def spNames:Sp:=fun vs H Q _=>∃(a:Addr) (M:Nat),vs=[.ref a,.int (M:Int)]∧DeckAt H a∧M≤60∧∀(l:Addr) (zs:List Str) (H':Hp),But a H H'→DeckAt H' a→l≠a→H' l=some (.lst (zs.map V.str))→zs.length=M→zs.Nodup→(∀z∈zs,NameOk z)→Q (.ref l) H'
def spMany:Sp:=fun vs H Q _=>∃a:Addr,vs=[.ref a]∧DeckAt H a∧∀(N:Nat) (H':Hp),But a H H'→DeckAt H' a→1≤N→N≤24→Q (.int (N:Int)) H'
def spSome:Sp:=fun vs H Q _=>∃a:Addr,vs=[.ref a]∧DeckAt H a∧∀(N:Nat) (H':Hp),But a H H'→DeckAt H' a→N≤60→Q (.int (N:Int)) H'
def spWeight:Sp:=fun vs H Q _=>∃a:Addr,vs=[.ref a]∧DeckAt H a∧∀(v:Int) (H':Hp),But a H H'→DeckAt H' a→0≤v→v≤1000000000→Q (.int v) H'
def spHalved:Sp:=fun vs H Q _=>∃m k:Int,vs=[.int m,.int k]∧0≤k∧k≤10∧Q (.int (rm m k)) H
def spGreat:Sp:=fun vs H Q _=>∃m:Int,vs=[.int m]∧1≤m∧m≤24∧∀H',Same H H'→Q (.int (lay m)) H'
theorem great_at:∀j:Fin 25,atI ([0,0,0,0,1,1,1,1,2,2,2,2,2,2,2,2,3,3,3,3,3,3,3,3,3].map V.int) ((j.1:Nat):Int)=some (.int (lay ((j.1:Nat):Int))):=by decide+kernel
section
variable {P:Program} {w:World} {K:PySem.W.Frag} {mg:Str→Option Value} {base:Heap}
theorem scDeck:Av ["_law_script","_law_cells"] ["_law_script"] (Ae sDeck):=⟨rfl,rfl,rfl,by decide+kernel,rfl,by decide+kernel,by decide+kernel⟩
theorem ok_Deck {f:Addr} {fd:FuncData} (F:Fun K "_law_deck" "_law_deck" sDeck f fd) (T:Txt mg):
  FnOk P w K mg base CX0 1 f fd ["_law_script"] (spDeck K):=by
 refine F.ok scDeck (fun vs H Q E h=> ?_) (fun cdv A outer s H vs Q E hr h=> ?_)
 ·obtain ⟨_,_,rfl,_⟩:=h;rfl
 ·obtain ⟨sa,ns,rfl,hS,hl,k⟩:=h
  refine ⟨_,Ag (As (i:=1) scDeck.nd rfl (Or.inl rfl) (Bt call_list_of (by rfl) T.list (by decide+kernel) (Aa (Bw sl_list (pv 0) Cc (B7 Af)) Ac)))
   (Ah (Al (Am op_cat (Ca (Aa Af (Aa (Am Bp Af (Am op_mod (Aj (call_sum rfl) (by rfl) T.sum PyProof.Rows.boot_sum (Aa (Bn (T:=["_law_k","_law_cell"]) (F:=[]) (js:=[]) (CS.to (osc:=Ae sDeck) ⟨by rfl,by decide+kernel,by decide+kernel,by decide+kernel,by decide+kernel,by decide+kernel,by decide+kernel⟩ rfl rfl) rfl (pi_enumL rfl T.enumerate (Aa (pv 1) Ac)) (fun _ _ _ _ _=>pg_tupK K 2 rfl rfl (Ba (Ak (i:=0) (show (["_law_k","_law_cell"]:List Str).Nodup by decide+kernel) rfl (Or.inl rfl)) (Ba (Ak (i:=1) (show (["_law_k","_law_cell"]:List Str).Nodup by decide+kernel) rfl (Or.inl rfl)) pgs_nil))) (fun _ _ _ _ _=>Cd) (fun _ _ _ _ _=>Am op_mul (Am op_mod (pv 1) Af) (Am Bp (pv 0) Af))) Ac)) Af)) Ac))) (pe_rev (pv 1) (B7 (pe_un un_neg Af)) (fun o i=>[o,i]) (fun _ _=>by with_unfolding_all rfl))))),?_⟩
  obtain ⟨ms,em,lm⟩:=cut_ints (ns:=ns) (lo:=none) (hi:=some 63)
  refine ⟨_,rfl,_,rfl,sa,_,rfl,hS,fun q hq=> ?_⟩
  rw [em]
  refine ⟨q,_,rfl,.inl (SqL.of Ab),fun cl hcl=> ?_⟩
  have s1:=(Ad (o:= .lst (ms.map V.int)) hq).trans (Ad (o:= .lst (ms.map V.int)) hcl)
  have C1:=Ab (H:=upd H q (.lst (ms.map V.int))) (a:=cl) (o:= .lst (ms.map V.int))
  generalize upd (upd H q (.lst (ms.map V.int))) cl (.lst (ms.map V.int))=H1 at s1 C1
  refine ⟨_,rfl,cl,_,rfl,SqL.of C1,fun D hD=>comp_enum (K:=K) (a:=cl) (xs:=ms.map V.int) (fun j σ ys H2=>∃(u1 u2:Option V) (zs:List Int),σ=[u1,u2]∧Same H1 H2∧H2 D=some (.lst ys)∧ys=zs.map V.int∧zs.length=j)
   ⟨none,none,[],rfl,Ad hD,Ab,rfl,rfl⟩ (fun j σ ys H2 _ ⟨_,_,_,_,s2,e,_⟩=>⟨SqL.of (s2 _ _ C1),e⟩) ?_ ?_⟩
  ·rintro j x σ ys H2 T' hx ⟨u1,u2,zs,rfl,s2,e2,rfl,zl⟩ hT
   obtain ⟨c,hc,rfl⟩:=int_of hx
   have jl:j<ms.length:=(List.getElem?_eq_some_iff.mp hc).1
   have s4:=s2.trans (Ad (o:= .tup [.int (j:Nat),.int c]) hT)
   have T4:=Ab (H:=H2) (a:=T') (o:= .tup [.int (j:Nat),.int c])
   have D4:=Ad (o:= .tup [.int (j:Nat),.int c]) hT _ _ e2
   generalize upd H2 T' (.tup [.int (j:Nat),.int c])=H4 at s4 T4 D4
   have y0:=Int.emod_nonneg c (show (1000003:Int)≠0 by decide)
   have y1:=Int.emod_lt_of_pos c (show (0:Int)<1000003 by decide)
   refine ⟨T',_,rfl,SqT.of T4,rfl,_,_,rfl,_,_,rfl,rfl,?_⟩
   refine ⟨_,rfl,_,_,rfl,rfl,(by show (0:Int)<1000003;decide),_,rfl,_,_,rfl,rfl,_,_,rfl,rfl,.inl ⟨by omega,by omega⟩,D4,Ar (by simp;omega),_,_,zs++[c % 1000003 * ((j:Int)+1)],rfl,fun b o e=>by rw [A0 (Bj e hD)];exact s4 _ _ e,Ab,by simp,by simp [zl]⟩
  rintro σ ys H2 ⟨u1,u2,zs,rfl,s2,e2,rfl,zl⟩
  refine ⟨D,zs,rfl,SqL.of e2,_,_,rfl,rfl,(by show (0:Int)<2147483629;decide),_,_,rfl,rfl,Ax (by simp),fun l1 hl1=> ?_⟩
  generalize hH3:upd H2 l1 _=H3
  have s3:Same H2 H3:=by rw [←hH3];exact Ad hl1
  have L3:H3 l1=some (.lst [.int 0,.int (7+zs.sum % 2147483629)]):=by rw [←hH3];exact Ab
  clear hH3
  have C3:=s3 _ _ (s2 _ _ C1)
  refine ⟨_,rfl,_,rfl,_,rfl,rfl,cl,_,rfl,SqL.of C3,fun p hp=>⟨l1,p,_,_,rfl,rfl,Ad hp _ _ L3,Ab,Ax (by simp;omega),fun a ha=> ?_⟩⟩
  have sA:=((s1.trans s2).trans s3).trans ((Ad (o:= .lst (ms.map V.int).reverse) hp).trans (Ad (o:= .lst ([.int 0,.int (7+zs.sum % 2147483629)]++(ms.map V.int).reverse)) ha))
  exact k a _ sA (none_of (((s1.trans s2).trans s3).trans (Ad (o:= .lst (ms.map V.int).reverse) hp)) ha) ⟨0,_,ms.reverse,by rw [Ab,List.map_reverse];rfl,by simp;omega⟩
theorem scDraw:Av ["_law_deck_here","_law_most","_law_cell","_law_number"] ["_law_deck_here","_law_most"] (Ae sDraw):=⟨rfl,rfl,rfl,by decide+kernel,rfl,by decide+kernel,by decide+kernel⟩
theorem ok_Draw {f:Addr} {fd:FuncData} (F:Fun K "_law_draw" "_law_draw" sDraw f fd) (T:Txt mg):
  FnOk P w K mg base CX0 1 f fd ["_law_deck_here","_law_most"] spDraw:=by
 refine F.ok scDraw (fun vs H Q E h=> ?_) (fun cdv A outer s H vs Q E hr h=> ?_)
 ·obtain ⟨_,_,rfl,_⟩:=h;rfl
 ·obtain ⟨a,m,rfl,⟨c,S,rs,ha,hl⟩,m0,m1,k⟩:=h
  refine ⟨_,Ag (ps_asg (Am Bp (At A3 (pv 0) Af (fun _ _=>rfl)) Af) (pg_sub (pv 0) (Af) set_list))
   (Ag (As (i:=2) scDraw.nd rfl (Or.inl rfl) (Am Bp (At A3 (pv 0) Af (fun _ _=>rfl)) (Am op_mul Af (At A3 (pv 0) Af (fun _ _=>rfl)))))
   (Ag (Bs (Az op_gt (Aj Bc (by rfl) T.len PySem.boot_len (Aa (pv 0) Ac)) Af (Aw _)) (Ag (As (i:=2) scDraw.nd rfl (Or.inl rfl) (pe_bm0 PySem.F.plainAttrs_list PySem.F.slot_list_pop PySem.F.type_list_pop mt_pop (pv 0)))
   (Ah (Bs (Az op_ge (pv 2) (Am op_pow Af Af) (Aw _)) (Ag (ps_expr (pe_bm PySem.F.plainAttrs_list PySem.F.slot_list_append PySem.F.type_list_append mt_append (pv 0) (Aa (Am op_fdiv (pv 2) (pv 1)) Ac)))
   (Ah (Al (Am op_mod (pv 2) (pv 1))))) A7))) A7)
   (Ag (As (i:=3) scDraw.nd rfl (Or.inl rfl) (Am op_mod (Am op_mul (Am Bp (Am op_mod (pv 2) Af) (Am op_mul Af (At A3 (pv 0) Af (fun _ _=>rfl)))) Af) Af))
   (Ag (As (i:=3) scDraw.nd rfl (Or.inl rfl) (Am op_mod (Am Bp (Am Bp (Am op_mul (pv 3) (pv 3)) (Am op_mul Af (pv 3))) (At A3 (pv 0) Af (fun _ _=>rfl))) Af))
   (Ah (Al (Am op_mod (Am op_fdiv (pv 3) Af) (pv 1)))))))),?_⟩
  refine ⟨_,rfl,a,_,0,_,rfl,rfl,SqL.of ha,at0,_,_,rfl,rfl,_,rfl,a,_,0,0,rfl,rfl,ha,ix0 _,?_⟩
  generalize hH1:upd H a _=H1
  have ha1:H1 a=some (.lst (.int (c+1):: .int S::rs.map V.int)):=by rw [←hH1];exact Ab
  have b1:But a H H1:=fun b o e n=>by rw [←hH1,A0 n];exact e
  clear hH1
  refine ⟨_,rfl,a,_,1,_,rfl,rfl,SqL.of ha1,at1,_,rfl,a,_,0,_,rfl,rfl,SqL.of ha1,at0,_,_,rfl,rfl,.inl ⟨by decide,by decide⟩,_,_,rfl,rfl,?_⟩
  refine ⟨_,rfl,a,_,rfl,.inl (SqL.of ha1),_,_,rfl,rfl,_,rfl,Ci (fun g=> ?_) fun g=> ?_⟩
  ·have g:rs≠[]:=fun q=>by subst q;simp at g
   obtain ⟨rs',x,rfl⟩:∃rs' x,rs=rs'++[x]:=⟨rs.dropLast,rs.getLast g,(List.dropLast_concat_getLast g).symm⟩
   have hl':rs'.length≤62:=by simp at hl;omega
   refine ⟨_,rfl,.inl ⟨rfl,_,SqL.of ha1⟩,a,_,.int x,rfl,rfl,ha1,by simp,?_⟩
   generalize hH2:upd H1 a _=H2
   have ha2:H2 a=some (.lst (.int (c+1):: .int S::rs'.map V.int)):=by
    rw [←hH2,Ab]
    have e:V.int (c+1)::V.int S::(rs'++[x]).map V.int=(V.int (c+1)::V.int S::rs'.map V.int)++[V.int x]:=by simp
    rw [e,List.dropLast_concat]
   have b2:But a H H2:=fun b o e n=>by rw [←hH2,A0 n];exact b1 b o e n
   clear hH2
   refine ⟨_,rfl,_,_,rfl,rfl,⟨by decide,by decide,by decide⟩,_,_,rfl,rfl,_,rfl,Ci (fun g2=> ?_) fun g2=> ?_⟩
   ·refine ⟨_,rfl,.inl ⟨rfl,_,SqL.of ha2⟩,_,rfl,_,rfl,_,_,rfl,rfl,⟨m0,by omega⟩,a,_,_,rfl,rfl,ha2,Ar (by simp;omega),?_⟩
    refine ⟨_,rfl,_,rfl,_,_,rfl,rfl,m0,?_⟩
    exact k _ _ (Int.emod_nonneg _ (by omega)) (Int.emod_lt_of_pos _ m0) (fun b o e n=>by rw [A0 n];exact b2 b o e n) ⟨_,_,rs'++[x / m],by rw [Ab,List.map_append];rfl,by simp;omega⟩
   ·dsimp only [Bv]
    refine ⟨_,rfl,_,_,rfl,rfl,(by show (0:Int)<2147483629;decide),_,rfl,a,_,0,_,rfl,rfl,SqL.of ha2,at0,_,_,rfl,rfl,.inl ⟨by decide,by decide⟩,_,_,rfl,rfl,_,_,rfl,rfl,.inr ⟨by decide,by decide⟩,_,_,rfl,rfl,(by show (0:Int)<2147483647;decide),?_⟩
    generalize (x % 2147483629+7919 * (c+1)) * 48271=z1
    have y0:=Int.emod_nonneg z1 (show (2147483647:Int)≠0 by decide)
    have y1:=Int.emod_lt_of_pos z1 (show (0:Int)<2147483647 by decide)
    generalize z1 % 2147483647=z2 at y0 y1
    refine ⟨_,rfl,_,rfl,_,_,rfl,rfl,.inl ⟨by omega,by omega⟩,_,rfl,_,_,rfl,rfl,.inl ⟨by decide,by decide⟩,_,_,rfl,rfl,_,rfl,a,_,0,_,rfl,rfl,SqL.of ha2,at0,_,_,rfl,rfl,_,_,rfl,rfl,(by show (0:Int)<2147483587;decide),?_⟩
    generalize (z2 * z2+69621 * z2+(c+1)) % 2147483587=z3
    refine ⟨_,rfl,_,_,rfl,rfl,⟨by decide,by decide⟩,_,rfl,_,_,rfl,rfl,m0,?_⟩
    exact k _ _ (Int.emod_nonneg _ (by omega)) (Int.emod_lt_of_pos _ m0) b2 ⟨_,_,rs',ha2,by omega⟩
  ·dsimp only [Bv]
   refine ⟨_,rfl,_,_,rfl,rfl,(by show (0:Int)<2147483629;decide),_,rfl,a,_,0,_,rfl,rfl,SqL.of ha1,at0,_,_,rfl,rfl,.inl ⟨by decide,by decide⟩,_,_,rfl,rfl,_,_,rfl,rfl,.inr ⟨by decide,by decide⟩,_,_,rfl,rfl,(by show (0:Int)<2147483647;decide),?_⟩
   generalize ((S+104729 * (c+1)) % 2147483629+7919 * (c+1)) * 48271=z1
   have y0:=Int.emod_nonneg z1 (show (2147483647:Int)≠0 by decide)
   have y1:=Int.emod_lt_of_pos z1 (show (0:Int)<2147483647 by decide)
   generalize z1 % 2147483647=z2 at y0 y1
   refine ⟨_,rfl,_,rfl,_,_,rfl,rfl,.inl ⟨by omega,by omega⟩,_,rfl,_,_,rfl,rfl,.inl ⟨by decide,by decide⟩,_,_,rfl,rfl,_,rfl,a,_,0,_,rfl,rfl,SqL.of ha1,at0,_,_,rfl,rfl,_,_,rfl,rfl,(by show (0:Int)<2147483587;decide),?_⟩
   generalize (z2 * z2+69621 * z2+(c+1)) % 2147483587=z3
   refine ⟨_,rfl,_,_,rfl,rfl,⟨by decide,by decide⟩,_,rfl,_,_,rfl,rfl,m0,?_⟩
   exact k _ _ (Int.emod_nonneg _ (by omega)) (Int.emod_lt_of_pos _ m0) b1 ⟨_,_,rs,ha1,by exact hl⟩
theorem scHalved:Av ["_law_many_here","_law_layer","_law_turn"] ["_law_many_here","_law_layer"] (Ae sHalved):=⟨rfl,rfl,rfl,by decide+kernel,rfl,by decide+kernel,by decide+kernel⟩
theorem ok_Halved {f:Addr} {fd:FuncData} (F:Fun K "_law_halved" "_law_halved" sHalved f fd) (T:Txt mg):
  FnOk P w K mg base CX0 1 f fd ["_law_many_here","_law_layer"] spHalved:=by
 refine F.ok scHalved (fun vs H Q E h=> ?_) (fun cdv A outer s H vs Q E hr h=> ?_)
 ·obtain ⟨_,_,rfl,_⟩:=h;rfl
 ·obtain ⟨m,kk,rfl,k0,k1,k⟩:=h
  refine ⟨_,Ag (ps_for PassesOwn.never rfl (By rfl T.range (Aa (pv 1) Ac)) (Ak (i:=2) scHalved.nd rfl (Or.inl rfl)) (Ah (As (i:=0) scHalved.nd rfl (Or.inl rfl) (Am op_fdiv (pv 0) Af))))
   (Ah (Al (pv 0))),?_⟩
  refine ⟨_,rfl,kk,rfl,by omega,by omega,for_range (lo:=0) (n:=kk.toNat) (fun i σ H1=>∃u:Option V,σ=[some (.int (m / 2 ^ i)),some (.int kk),u]∧H1=H) ⟨none,by simp;rfl,rfl⟩ ?_ ?_⟩
  ·rintro i σ H1 hi ⟨u,rfl,rfl⟩
   refine ⟨_,rfl,_,_,rfl,rfl,⟨by decide,by decide⟩,some (.int (0+(i:Int))),?_,rfl⟩
   show [some (V.int (m / 2 ^ i / 2)),_,_]=_
   rw [Int.ediv_ediv_of_nonneg (Int.le_of_lt (Int.pow_pos (by decide))),Int.pow_succ]
  ·rintro σ H1 ⟨u,rfl,rfl⟩
   exact ⟨_,rfl,k⟩
theorem scNames:Av ["_law_deck_here","_law_many_here","_law_letters","_law_base","_law_first","_law_second","_law_short","_law_found","_law_k","_law_name"] ["_law_deck_here","_law_many_here"] (Ae sNames):=⟨rfl,rfl,rfl,by decide+kernel,rfl,by decide+kernel,by decide+kernel⟩
theorem ok_Names {f:Addr} {fd:FuncData} (F:Fun K "_law_names" "_law_names" sNames f fd) (T:Txt mg)
  {gDraw:Addr} {fDraw:FuncData} (kDraw:PySem.W.keepIn K (.ref gDraw)=true) (bDraw:Binds K fDraw ["_law_deck_here","_law_most"] []) (hDraw:mg "_law_draw"=some (.ref gDraw)) (GDraw:FnOk P w K mg base CX0 1 gDraw fDraw ["_law_deck_here","_law_most"] spDraw):
  FnOk P w K mg base CX0 2 f fd ["_law_deck_here","_law_many_here"] spNames:=by
 refine F.ok scNames (fun vs H Q E h=> ?_) (fun cdv A outer s H vs Q E hr h=> ?_)
 ·obtain ⟨_,_,rfl,_⟩:=h;rfl
 ·obtain ⟨a,M,rfl,hw,M60,k⟩:=h
  refine ⟨_,Ag (As (i:=2) scNames.nd rfl (Or.inr rfl) pe_str)
   (Ag (As (i:=3) scNames.nd rfl (Or.inl rfl) (pe_bm PySem.F.plainAttrs_str PySem.F.slot_str_join PySem.F.type_str_join mt_join pe_str (Aa (Bn (T:=["_law_k"]) (F:=["_law_letters","_law_deck_here"]) (js:=[2,0]) (CS.to (osc:=Ae sNames) ⟨by rfl,by decide+kernel,by decide+kernel,by decide+kernel,by decide+kernel,by decide+kernel,by decide+kernel⟩ rfl rfl) rfl (By rfl T.range (Aa (Ai GDraw hr rfl hDraw kDraw bDraw .nil Aq (Aa (pv 0) (Aa Af Ac))) Ac)) (fun _ _ _ _ _=>Ak (i:=0) (show (["_law_k","_law_letters","_law_deck_here"]:List Str).Nodup by decide+kernel) rfl (Or.inl rfl)) (fun _ _ _ _ _=>Cd) (fun _ _ _ _ _=>At ix_str (pv 1) (Ai GDraw hr rfl hDraw kDraw bDraw .nil Aq (Aa (pv 2) (Aa Af Ac))) (fun _ _=>rfl))) Ac)))
   (Ag (As (i:=4) scNames.nd rfl (Or.inl rfl) (Ai GDraw hr rfl hDraw kDraw bDraw .nil Aq (Aa (pv 0) (Aa Af Ac))))
   (Ag (As (i:=5) scNames.nd rfl (Or.inl rfl) (Ai GDraw hr rfl hDraw kDraw bDraw .nil Aq (Aa (pv 0) (Aa Af Ac))))
   (Ag (As (i:=6) scNames.nd rfl (Or.inl rfl) (Ai GDraw hr rfl hDraw kDraw bDraw .nil Aq (Aa (pv 0) (Aa Af Ac))))
   (Ag (As (i:=7) scNames.nd rfl (Or.inl rfl) (Ca Ac))
   (Ag (ps_for PassesOwn.never rfl (By rfl T.range (Aa (pv 1) Ac)) (Ak (i:=8) scNames.nd rfl (Or.inl rfl)) (Ag (As (i:=9) scNames.nd rfl (Or.inl rfl) (At ix_str (pv 2) (Am op_mod (Am Bp (pv 4) (pv 8)) Af) (fun _ _=>rfl)))
   (Ag (Bs (Az op_gt (pv 1) Af (Aw _)) (Ah (As (i:=9) scNames.nd rfl (Or.inl rfl) (Am op_add_str (pv 9) (At ix_str (pv 2) (Am op_mod (Am Bp (pv 5) (Am op_fdiv (pv 8) Af)) Af) (fun _ _=>rfl))))) A7)
   (Ah (ps_expr (pe_bm PySem.F.plainAttrs_list PySem.F.slot_list_append PySem.F.type_list_append mt_append (pv 7) (Aa (Am op_add_str (pv 9) (Bw sl_str (pv 3) Cc (B7 (Am op_mod (Am Bp (Am op_mul (pv 8) (pv 6)) (Am op_fdiv (pv 8) Af)) (Am Bp (Aj call_len_str (by rfl) T.len PySem.boot_len (Aa (pv 3) Ac)) Af))))) Ac)))))))
   (Ah (Al (pv 7))))))))),?_⟩
  refine ⟨rfl,_,rfl,a,7,rfl,hw,by decide,by decide,fun len H1 n0 n1 b1 w1=> ?_⟩
  obtain ⟨len,rfl⟩:=nat_of n0
  refine ⟨(len:Int),rfl,by omega,by omega,fun D hD=>comp_range (lo:=0) (n:=(len:Int).toNat) (fun j σ ys H2=>∃(u:Option V) (ws:List Nat),σ=[u,some (.str LS),some (.ref a)]∧But a H H2∧DeckAt H2 a∧H2 D=some (.lst ys)∧ys=ws.map (fun c=>V.str ⟨#[c]⟩)∧ws.length=j∧∀x∈ws,97≤x∧x≤122) ?_ (fun j σ ys H2 _ ⟨_,_,_,_,_,e,_⟩=>e) ?_ ?_⟩
  ·exact ⟨none,[],rfl,b1.trans (But.of (Ad hD)),w1.upd (w1.ne hD),Ab,rfl,rfl,by simp⟩
  ·rintro j σ ys H2 hj ⟨u,ws,rfl,b2,w2,e2,rfl,wl,wb⟩
   have DN:D≠a:=w1.ne hD
   refine ⟨_,rfl,_,rfl,a,26,rfl,w2,by decide,by decide,fun x H3 x0 x1 b3 w3=> ?_⟩
   have e3:=b3 _ _ e2 DN
   refine ⟨_,x,_,rfl,rfl,Ax (by decide+kernel),LS_at x0 x1,e3,Ar (by simp;omega),_,ws++[97+x.toNat],rfl,(b2.trans b3).set (b1.none w1 hD),w3.upd DN,Ab,by simp,by simp [wl],fun y hy=> ?_⟩
   rcases List.mem_append.mp hy with q|q
   ·exact wb y q
   ·have:=List.mem_singleton.mp q
    omega
  rintro σ ys H2 ⟨u,ws,rfl,b2,w2,e2,rfl,wl,wb⟩
  have wl:ws.length=len:=by rw [wl];omega
  have hz:=join_cps ws
  have ez:(ws.map fun c=>V.str ⟨#[c]⟩)=((ws.map fun c=>(⟨#[c]⟩:Str)).map V.str):=by rw [List.map_map];rfl
  refine ⟨_,D,_,rfl,rfl,SqL.of (by rw [←ez];exact e2),?_,?_⟩
  ·rw [sg_sum,List.length_map];show _+_ * 0≤_;omega
  generalize Txt.join (Str.ofString "") (ws.map fun c=>(⟨#[c]⟩:Str))=z at hz
  have zl:z.length=len:=by rw [len_toList,hz,wl]
  refine ⟨_,rfl,a,26,rfl,w2,by decide,by decide,fun f H3 f0 f1 b3 w3=> ?_⟩
  obtain ⟨f,rfl⟩:=nat_of f0
  refine ⟨_,rfl,a,26,rfl,w3,by decide,by decide,fun g H4 g0 g1 b4 w4=> ?_⟩
  obtain ⟨g,rfl⟩:=nat_of g0
  refine ⟨_,rfl,a,3,rfl,w4,by decide,by decide,fun sh H5 s0 s1 b5 w5=> ?_⟩
  obtain ⟨sh,rfl⟩:=nat_of s0
  have B5:=((b2.trans b3).trans b4).trans b5
  refine ⟨Ax (by simp),fun l hl=> ?_⟩
  have lH:H l=none:=B5.none w5 hl
  have ln:=w5.ne hl
  refine ⟨_,rfl,(M:Int),rfl,by omega,by omega,for_range (lo:=0) (n:=(M:Int).toNat) (fun i σ H6=>∃(u7 u8:Option V) (zs:List Str),σ=[some (.ref a),some (.int (M:Int)),some (.str LS),some (.str z),some (.int (f:Int)),some (.int (g:Int)),some (.int (sh:Int)),some (.ref l),u7,u8]∧But a H H6∧DeckAt H6 a∧H6 l=some (.lst (zs.map V.str))∧zs.length=i∧∀(j:Nat) (y:Str),zs[j]? =some y→Nk f g M j y) ⟨_,_,[],rfl,B5.set lH,w5.upd ln,Ab,rfl,by simp⟩ ?_ ?_⟩
  ·rintro i σ H6 hi ⟨u7,u8,zs,rfl,b6,w6,l6,zsl,zsw⟩
   have hi:i<M:=by omega
   have m0:=Int.emod_nonneg ((f:Int)+(0+(i:Int))) (show (26:Int)≠0 by decide)
   have m1:=Int.emod_lt_of_pos ((f:Int)+(0+(i:Int))) (show (0:Int)<26 by decide)
   have n0:=Int.emod_nonneg ((g:Int)+(0+(i:Int)) / 26) (show (26:Int)≠0 by decide)
   have n1:=Int.emod_lt_of_pos ((g:Int)+(0+(i:Int)) / 26) (show (0:Int)<26 by decide)
   have c1:97+(((f:Int)+(0+(i:Int))) % 26).toNat=97+(f+i) % 26:=by omega
   have c2:97+(((g:Int)+(0+(i:Int)) / 26) % 26).toNat=97+(g+i / 26) % 26:=by omega
   have tail:∀(y:Str) (u:Option V),y.length≤2→1≤y.length→(∀c∈y.cps.toList,97≤c∧c≤122)→y.cps.toList[0]? =some (97+(f+i) % 26)→(20<M→y.cps.toList[1]? =some (97+(g+i / 26) % 26))→∀v:Int,0≤v→v≤z.length→Nk f g M i (y++Txt.slice z none (some v)):=fun y u y2 y1 yc h0 h1 v v0 v1=>by
    have sc:=slice_cs (z:=z) ⟨v0,v1⟩
    have sl:=Txt.slice_le z none (some v)
    refine ⟨⟨by rw [cat_len];omega,by rw [cat_len];omega,fun c hc=> ?_⟩,?_,fun q=> ?_⟩
    ·rw [cat_cps,sc] at hc
     rcases List.mem_append.mp hc with q|q
     ·exact yc c q
     ·have:=List.mem_of_mem_take q
      rw [hz] at this
      exact wb c this
    ·rw [cat_cps,List.getElem?_append_left (by rw [←len_toList];omega)];exact h0
    ·rw [cat_cps,List.getElem?_append_left (by have:=(List.getElem?_eq_some_iff.mp (h1 q)).1;exact this)];exact h1 q
   have e0:=Int.emod_nonneg ((0+(i:Int)) * (sh:Int)+(0+(i:Int)) / 5) (show ((z.length:Int)+1)≠0 by omega)
   have e1:=Int.emod_lt_of_pos ((0+(i:Int)) * (sh:Int)+(0+(i:Int)) / 5) (show (0:Int)<(z.length:Int)+1 by omega)
   refine ⟨_,rfl,_,rfl,_,rfl,_,_,rfl,rfl,_,_,rfl,rfl,(by show (0:Int)<26;decide),LS,_,_,rfl,rfl,Ax (by decide+kernel),LS_at m0 m1,?_⟩
   refine ⟨_,rfl,_,_,rfl,rfl,_,rfl,Ci (fun c=> ?_) fun c=> ?_⟩
   ·have c:20<M:=by have:=of_decide_eq_true c;omega
    refine ⟨_,rfl,_,rfl,_,rfl,_,rfl,_,_,rfl,rfl,⟨by decide,by decide⟩,_,_,rfl,rfl,_,_,rfl,rfl,(by show (0:Int)<26;decide),LS,_,_,rfl,rfl,Ax (by decide+kernel),LS_at n0 n1,_,_,rfl,rfl,Ax (by show 1+1≤_;omega),?_⟩
    dsimp only [Bv]
    refine ⟨_,rfl,.inl ⟨rfl,_,SqL.of l6⟩,_,rfl,_,rfl,noPart ⟨_,rfl,_,rfl,_,_,rfl,rfl,.inl ⟨by omega,by omega⟩,_,rfl,_,_,rfl,rfl,⟨by decide,by decide⟩,_,_,rfl,rfl,_,rfl,z,rfl,Ax (by omega),_,_,rfl,rfl,_,_,rfl,rfl,by omega,?_⟩⟩
    refine ⟨_,rfl,z,rfl,Ax (by omega),_,_,rfl,rfl,Ax (by have:=Txt.slice_le z none (some (((0+(i:Int)) * (sh:Int)+(0+(i:Int)) / 5) % ((z.length:Int)+1)));show 2+_≤_;omega),?_⟩
    refine ⟨l,_,_,rfl,rfl,l6,Ar (by simp;omega),_,_,zs++[_],rfl,b6.set lH,w6.upd ln,by rw [Ab,List.map_append];rfl,by simp [zsl],?_⟩
    refine zs_snoc zsl zsw (tail _ none (by show 1+1≤2;omega) (by show 1≤1+1;omega) (fun c hc=> ?_) ?_ (fun _=> ?_) _ e0 (by omega))
    ·have hc:c∈[97+(((f:Int)+(0+(i:Int))) % 26).toNat,97+(((g:Int)+(0+(i:Int)) / 26) % 26).toNat]:=hc
     rw [c1,c2] at hc
     simp at hc
     omega
    ·show some (97+(((f:Int)+(0+(i:Int))) % 26).toNat)=_
     rw [c1]
    ·show some (97+(((g:Int)+(0+(i:Int)) / 26) % 26).toNat)=_
     rw [c2]
   ·have c:¬20<M:=fun q=>c (decide_eq_true (by omega))
    dsimp only [Bv]
    refine ⟨_,rfl,.inl ⟨rfl,_,SqL.of l6⟩,_,rfl,_,rfl,noPart ⟨_,rfl,_,rfl,_,_,rfl,rfl,.inl ⟨by omega,by omega⟩,_,rfl,_,_,rfl,rfl,⟨by decide,by decide⟩,_,_,rfl,rfl,_,rfl,z,rfl,Ax (by omega),_,_,rfl,rfl,_,_,rfl,rfl,by omega,?_⟩⟩
    refine ⟨_,rfl,z,rfl,Ax (by omega),_,_,rfl,rfl,Ax (by have:=Txt.slice_le z none (some (((0+(i:Int)) * (sh:Int)+(0+(i:Int)) / 5) % ((z.length:Int)+1)));show 1+_≤_;omega),?_⟩
    refine ⟨l,_,_,rfl,rfl,l6,Ar (by simp;omega),_,_,zs++[_],rfl,b6.set lH,w6.upd ln,by rw [Ab,List.map_append];rfl,by simp [zsl],?_⟩
    refine zs_snoc zsl zsw (tail _ none (by show 1≤2;omega) (by show 1≤1;omega) (fun c hc=> ?_) ?_ (fun q=>absurd q c) _ e0 (by omega))
    ·have hc:c∈[97+(((f:Int)+(0+(i:Int))) % 26).toNat]:=hc
     rw [c1] at hc
     simp at hc
     omega
    ·show some (97+(((f:Int)+(0+(i:Int))) % 26).toNat)=_
     rw [c1]
  ·rintro σ H6 ⟨u7,u8,zs,rfl,b6,w6,l6,zsl,zsw⟩
   refine ⟨_,rfl,k l zs H6 b6 w6 ln l6 (by omega) (Nk.nodup zsw (by omega) M60) fun y hy=> ?_⟩
   obtain ⟨j,hj,e⟩:=List.getElem_of_mem hy
   exact (zsw j y (by rw [←e];exact Bh hj)).1
theorem scMany:Av ["_law_deck_here","_law_way"] ["_law_deck_here"] (Ae sMany):=⟨rfl,rfl,rfl,by decide+kernel,rfl,by decide+kernel,by decide+kernel⟩
theorem ok_Many {f:Addr} {fd:FuncData} (F:Fun K "_law_many" "_law_many" sMany f fd) (T:Txt mg)
  {gDraw:Addr} {fDraw:FuncData} (kDraw:PySem.W.keepIn K (.ref gDraw)=true) (bDraw:Binds K fDraw ["_law_deck_here","_law_most"] []) (hDraw:mg "_law_draw"=some (.ref gDraw)) (GDraw:FnOk P w K mg base CX0 1 gDraw fDraw ["_law_deck_here","_law_most"] spDraw):
  FnOk P w K mg base CX0 2 f fd ["_law_deck_here"] spMany:=by
 refine F.ok scMany (fun vs H Q E h=> ?_) (fun cdv A outer s H vs Q E hr h=> ?_)
 ·obtain ⟨_,rfl,_⟩:=h;rfl
 ·obtain ⟨a,rfl,hD,k⟩:=h
  refine ⟨_,Ag (As (i:=1) scMany.nd rfl (Or.inl rfl) (Ai GDraw hr rfl hDraw kDraw bDraw .nil Aq (Aa (pv 0) (Aa Af Ac))))
   (Ag (Bs (Az op_eq (pv 1) Af (Aw _)) (Ah (Al Af)) A7)
   (Ag (Bs (Az op_eq (pv 1) Af (Aw _)) (Ah (Al (Am Bp Af (Ai GDraw hr rfl hDraw kDraw bDraw .nil Aq (Aa (pv 0) (Aa Af Ac)))))) A7)
   (Ah (Al (Am Bp Af (Ai GDraw hr rfl hDraw kDraw bDraw .nil Aq (Aa (pv 0) (Aa Af Ac)))))))),?_⟩
  refine ⟨_,rfl,a,8,rfl,hD,by decide,by decide,fun v H1 v0 v1 b1 D1=> ?_⟩
  refine ⟨_,rfl,rfl,_,rfl,Ci (fun _=>k 24 H1 b1 D1 (by omega) (by omega)) fun _=> ?_⟩
  dsimp only [Bv]
  refine ⟨_,rfl,rfl,_,rfl,Ci (fun _=>⟨_,rfl,a,3,rfl,D1,by decide,by decide,fun x H2 x0 x1 b2 D2=>⟨_,_,rfl,rfl,?_⟩⟩) fun _=> ?_⟩
  ·obtain ⟨x,rfl⟩:=nat_of x0
   have:=k (1+x) H2 (b1.trans b2) D2 (by omega) (by omega)
   simpa using this
  dsimp only [Bv]
  refine ⟨_,rfl,a,23,rfl,D1,by decide,by decide,fun x H2 x0 x1 b2 D2=>⟨_,_,rfl,rfl,?_⟩⟩
  obtain ⟨x,rfl⟩:=nat_of x0
  have:=k (2+x) H2 (b1.trans b2) D2 (by omega) (by omega)
  simpa using this
theorem scWeight:Av ["_law_deck_here","_law_far"] ["_law_deck_here"] (Ae sWeight):=⟨rfl,rfl,rfl,by decide+kernel,rfl,by decide+kernel,by decide+kernel⟩
theorem ok_Weight {f:Addr} {fd:FuncData} (F:Fun K "_law_weight" "_law_weight" sWeight f fd) (T:Txt mg)
  {gDraw:Addr} {fDraw:FuncData} (kDraw:PySem.W.keepIn K (.ref gDraw)=true) (bDraw:Binds K fDraw ["_law_deck_here","_law_most"] []) (hDraw:mg "_law_draw"=some (.ref gDraw)) (GDraw:FnOk P w K mg base CX0 1 gDraw fDraw ["_law_deck_here","_law_most"] spDraw):
  FnOk P w K mg base CX0 2 f fd ["_law_deck_here"] spWeight:=by
 refine F.ok scWeight (fun vs H Q E h=> ?_) (fun cdv A outer s H vs Q E hr h=> ?_)
 ·obtain ⟨_,rfl,_⟩:=h;rfl
 ·obtain ⟨a,rfl,hD,k⟩:=h
  refine okO ⟨_,psso_cons (pso_of (As (i:=1) scWeight.nd rfl (Or.inl rfl) (Am Bp (Am op_mul (Ai GDraw hr rfl hDraw kDraw bDraw .nil Aq (Aa (pv 0) (Aa Af Ac))) (Am op_pow Af Af)) (Ai GDraw hr rfl hDraw kDraw bDraw .nil Aq (Aa (pv 0) (Aa (Am op_pow Af Af) Ac))))))
   (psso_one (pso_ret (peo_ix A3 (peo_lst (A1 A6 (A1 A6 (A1 A6 (A1 (peo_op op_pow A6 A6) (A1 (peo_of (pv 1)) pao_nil)))))) (peo_of (Ai GDraw hr rfl hDraw kDraw bDraw .nil Aq (Aa (pv 0) (Aa Af Ac)))) (fun _ _=>rfl)))),?_⟩
  refine ⟨_,rfl,a,1000,rfl,hD,by decide,by decide,fun x H1 x0 x1 b1 D1=> ?_⟩
  refine ⟨_,_,rfl,rfl,⟨by decide,by decide,by decide⟩,_,_,rfl,rfl,.inl ⟨by omega,by omega⟩,?_⟩
  refine ⟨_,rfl,_,_,rfl,rfl,⟨by decide,by decide,by decide⟩,a,_,rfl,D1,by decide,by decide,fun y H2 y0 y1 b2 D2=>⟨_,_,rfl,rfl,?_⟩⟩
  have y1:y<1000000:=y1
  refine ⟨_,_,rfl,rfl,⟨by decide,by decide,by decide⟩,_,rfl,Ax (by simp),fun q hq=> ?_⟩
  refine ⟨_,rfl,a,5,rfl,D2.upd (D2.ne hq),by decide,by decide,fun v H3 v0 v1 b3 D3=> ?_⟩
  have q3:=b3 _ _ Ab (D2.ne hq)
  obtain ⟨z,hz,iz⟩:=int_item [0,1,2,10 ^ 9,x * 10 ^ 6+y] v0 (by show v<5;omega)
  have bb:=((b1.trans b2).trans (But.of (Ad hq))).trans b3
  refine ⟨q,_,v,_,rfl,rfl,SqL.of q3,iz,k z _ bb D3 ?_ ?_⟩
  ·simp at hz;omega
  ·simp at hz;omega
theorem scGreat:Av ["_law_many_here"] ["_law_many_here"] (Ae sGreat):=⟨rfl,rfl,rfl,by decide+kernel,rfl,by decide+kernel,by decide+kernel⟩
theorem ok_Great {f:Addr} {fd:FuncData} (F:Fun K "_law_greatest" "_law_greatest" sGreat f fd) (T:Txt mg):
  FnOk P w K mg base CX0 1 f fd ["_law_many_here"] spGreat:=by
 refine F.ok scGreat (fun vs H Q E h=> ?_) (fun cdv A outer s H vs Q E hr h=> ?_)
 ·obtain ⟨_,rfl,_⟩:=h;rfl
 ·obtain ⟨m,rfl,m1,m2,k⟩:=h
  refine okO ⟨_,psso_one (pso_ret (peo_ix A3 (peo_lst (A1 A6 (A1 A6 (A1 A6 (A1 A6 (A1 A6 (A1 A6 (A1 A6 (A1 A6 (A1 A6 (A1 A6 (A1 A6 (A1 A6 (A1 A6 (A1 A6 (A1 A6 (A1 A6 (A1 A6 (A1 A6 (A1 A6 (A1 A6 (A1 A6 (A1 A6 (A1 A6 (A1 A6 (A1 A6 pao_nil)))))))))))))))))))))))))) (peo_of (pv 0)) (fun _ _=>rfl))),?_⟩
  refine ⟨Ax (by simp),fun q hq=> ?_⟩
  obtain ⟨j,rfl⟩:=nat_of (show 0≤m by omega)
  exact ⟨_,rfl,q,_,(j:Int),_,rfl,rfl,SqL.of Ab,great_at ⟨j,by omega⟩,k _ (Ad hq)⟩
theorem scSome:Av ["_law_deck_here"] ["_law_deck_here"] (Ae sSome):=⟨rfl,rfl,rfl,by decide+kernel,rfl,by decide+kernel,by decide+kernel⟩
theorem ok_Some {f:Addr} {fd:FuncData} (F:Fun K "_law_some" "_law_some" sSome f fd) (T:Txt mg)
  {gDraw:Addr} {fDraw:FuncData} (kDraw:PySem.W.keepIn K (.ref gDraw)=true) (bDraw:Binds K fDraw ["_law_deck_here","_law_most"] []) (hDraw:mg "_law_draw"=some (.ref gDraw)) (GDraw:FnOk P w K mg base CX0 1 gDraw fDraw ["_law_deck_here","_law_most"] spDraw):
  FnOk P w K mg base CX0 2 f fd ["_law_deck_here"] spSome:=by
 refine F.ok scSome (fun vs H Q E h=> ?_) (fun cdv A outer s H vs Q E hr h=> ?_)
 ·obtain ⟨_,rfl,_⟩:=h;rfl
 ·obtain ⟨a,rfl,hD,k⟩:=h
  refine ⟨_,Ah (Al (At A3 (Ca (Aa (Ai GDraw hr rfl hDraw kDraw bDraw .nil Aq (Aa (pv 0) (Aa Af Ac))) (Aa Af Ac))) (Bt call_int1 (by rfl) T.int (by decide+kernel) (Aa (Ce op_eq (Ai GDraw hr rfl hDraw kDraw bDraw .nil Aq (Aa (pv 0) (Aa Af Ac))) Af (Aw _)) Ac)) (fun _ _=>rfl))),?_⟩
  refine ⟨_,rfl,a,25,rfl,hD,by decide,by decide,fun x H1 x0 x1 b1 D1=> ?_⟩
  obtain ⟨x,rfl⟩:=nat_of x0
  refine ⟨Ax (by simp),fun q hq=> ?_⟩
  refine ⟨_,rfl,a,8,rfl,D1.upd (D1.ne hq),by decide,by decide,fun y H2 y0 y1 b2 D2=> ?_⟩
  have q2:=b2 _ _ Ab (D1.ne hq)
  have bb:=(b1.trans (But.of (Ad hq))).trans b2
  refine ⟨rfl,?_⟩
  by_cases g:y=5
  ·subst g
   exact .inr ⟨_,rfl,q,_,1,_,rfl,rfl,SqL.of q2,rfl,k 60 _ bb D2 (by omega)⟩
  ·rw [decide_eq_false (fun e=>g (by injection e))]
   exact .inr ⟨_,rfl,q,_,0,_,rfl,rfl,SqL.of q2,rfl,k x _ bb D2 (by omega)⟩
end
end K34
namespace K34
open PySem L2 Wk
theorem perm_map {α β:Type} {f:α→β} {ys zs:List β} (h:ys.Perm zs):∀{l:List α},zs=l.map f→∃l':List α,ys=l'.map f∧l'.Perm l:=by
 induction h with
 |nil=>intro l e;exact ⟨[],rfl,by cases l with|nil=>exact .nil|cons=>cases e⟩
 |cons x _ ih=>
  intro l e
  cases l with
  |nil=>cases e
  |cons y l=>
   injection e with e1 e2
   obtain ⟨l',h1,h2⟩:=ih e2
   exact ⟨y::l',by rw [h1,e1];rfl,h2.cons y⟩
 |swap x y zs=>
  intro l e
  match l,e with
  |[],e=>cases e
  |[_],e=>injection e with _ e;cases e
  |u::v::l,e=>
   injection e with e1 e2
   injection e2 with e2 e3
   exact ⟨v::u::l,by rw [e1,e2,e3];rfl,.swap u v l⟩
 |trans _ _ ih1 ih2=>
  intro l e
  obtain ⟨l1,h1,h2⟩:=ih2 e
  obtain ⟨l2,h3,h4⟩:=ih1 h1
  exact ⟨l2,h3,h4.trans h2⟩
theorem Bz {ps:List Nat} {k:Nat} (h:k<ps.length):atI (nV ps) (k:Int)=some (.int ((ps.getD k 0:Nat):Int)):=nV_at (by rw [List.getD_eq_getElem?_getD,List.getElem?_eq_getElem h];rfl)
theorem nV_set {ps:List Nat} {k x:Nat}:(nV ps).set k (.int (x:Int))=nV (ps.set k x):=by
 unfold nV;rw [List.map_set,List.map_set];rfl
theorem nV_len {ps:List Nat}:(nV ps).length=ps.length:=by unfold nV;rw [List.length_map,List.length_map]
theorem nV_rints (N:Nat):(rints 0 (N:Int).toNat).map V.int=nV (List.range N):=by
 unfold nV rints
 simp [Function.comp_def]
theorem count_nat {l:List Nat} {p:Nat}:(l.map Int.ofNat).count (p:Int)=l.count p:=by
 induction l with
 |nil=>rfl
 |cons x l ih=>
  rw [List.map_cons,List.count_cons,List.count_cons,ih]
  congr 1
  show (if ((x:Int)==(p:Int))=true then 1 else 0)=_
  by_cases e:x=p
  ·rw [e];simp
  ·have:¬((x:Int)=(p:Int)):=by omega
   simp [e,this]
def Fin (N:Nat) (lab l:List Nat) (j:Nat):Prop:=l.length=N∧∀v,v<N→l.getD v 0≤v∧lab.getD (l.getD v 0) 0=lab.getD v 0∧(l.getD v 0=v→lab.getD v 0=v)∧(v<j→l.getD v 0=lab.getD v 0)
theorem Fin.of {N:Nat} {lab l:List Nat} (h:Lds N l lab):Fin N lab l 0:=⟨h.1,fun v hv=>let ⟨a,b,c⟩:=h.2 v hv;⟨a,b,c,fun z=>absurd z (Nat.not_lt_zero _)⟩⟩
theorem Fin.step {N j:Nat} {lab l:List Nat} (low:LLow N lab) (h:Fin N lab l j) (hj:j<N):Fin N lab (l.set j (l.getD (l.getD j 0) 0)) (j+1):=by
 have e:l.getD (l.getD j 0) 0=lab.getD j 0:=by
  obtain ⟨a,b,c,d⟩:=h.2 j hj
  by_cases g:l.getD j 0=j
  ·rw [g,g,c g]
  ·have:=(h.2 (l.getD j 0) (by omega)).2.2.2 (by omega)
   rw [this,b]
 rw [e]
 refine ⟨by rw [List.length_set];exact h.1,fun v hv=> ?_⟩
 rw [set_get (by rw [h.1];exact hv)]
 by_cases g:j=v
 ·subst g
  rw [if_pos rfl]
  have:=low.2 j hj
  exact ⟨this.1,this.2,fun z=>z,fun _=>rfl⟩
 ·rw [if_neg g]
  obtain ⟨a,b,c,d⟩:=h.2 v hv
  exact ⟨a,b,c,fun z=>d (by omega)⟩
theorem Fin.done {N:Nat} {lab l:List Nat} (h:Fin N lab l N) (hl:lab.length=N):l=lab:=by
 refine List.ext_getElem (by rw [h.1,hl]) fun i h1 h2=> ?_
 have:=(h.2 i (by rw [h.1] at h1;exact h1)).2.2.2 (by rw [h.1] at h1;exact h1)
 rw [List.getD_eq_getElem?_getD,List.getElem?_eq_getElem h1,List.getD_eq_getElem?_getD,List.getElem?_eq_getElem h2] at this
 exact this
theorem labF_snoc {N:Nat} {S:List T4} {t:T4}:Bf N (S++[t])=labS (Bf N S) t:=by unfold Bf;rw [List.foldl_append];rfl
def spTops:Sp:=fun vs H Q _=>∃(N:Nat) (l:Addr) (rs:List Addr) (R:List R6),vs=[.int (N:Int),.ref l]∧H l=some (.lst (rs.map V.ref))∧RowsAt H rs R∧InN N (R.map (·.1))∧N≤60∧∀d H',H d=none→Same H H'→H' d=some (.lst (nV (Bf N (R.map (·.1)))))→Q (.ref d) H'
theorem InN.take {N n:Nat} {S:List T4} (h:InN N S):InN N (S.take n):=fun t ht=>h t (List.mem_of_mem_take ht)
theorem row_1 (x:R6):atI (rowV x) 1=some (.int (x.1.2.1:Int)):=rfl
theorem row_2 (x:R6):atI (rowV x) 2=some (.int (x.1.2.2.1:Int)):=rfl
section
variable {P:Program} {w:World} {K:PySem.W.Frag} {mg:Str→Option Value} {base:Heap}
theorem scTops:Av ["_law_many_here","_law_rows","_law_lead","_law_row","_law_one","_law_other","_law_place"] ["_law_many_here","_law_rows"] (Ae sTops):=⟨rfl,rfl,rfl,by decide+kernel,rfl,by decide+kernel,by decide+kernel⟩
theorem ok_Tops {f:Addr} {fd:FuncData} (F:Fun K "_law_tops" "_law_tops" sTops f fd) (T:Txt mg):
  FnOk P w K mg base CX0 1 f fd ["_law_many_here","_law_rows"] spTops:=by
 refine F.ok scTops (fun vs H Q E h=> ?_) (fun cdv A outer s H vs Q E hr h=> ?_)
 ·obtain ⟨_,_,_,_,rfl,_⟩:=h;rfl
 ·obtain ⟨N,l,rs,R,rfl,hl,hR,hN,N60,k⟩:=h
  refine ⟨_,Ag (As (i:=2) scTops.nd rfl (Or.inl rfl) (Bt (call_list_rng rfl) (by rfl) T.list (by decide+kernel) (Aa (Bt call_range1 (by rfl) T.range (by decide+kernel) (Aa (pv 0) Ac)) Ac)))
   (Ag (ps_for PassesOwn.never rfl (Cj (pv 1)) (Ak (i:=3) scTops.nd rfl (Or.inl rfl)) (Ag (As (i:=4) scTops.nd rfl (Or.inl rfl) (At A9 (pv 3) Af (fun _ _=>rfl)))
   (Ag (As (i:=5) scTops.nd rfl (Or.inl rfl) (At A9 (pv 3) Af (fun _ _=>rfl)))
   (Ag (ps_while PassesOwn.never (Az op_ne (At A3 (pv 2) (pv 4) (fun _ _=>rfl)) (pv 4) (Aw _)) (Ah (As (i:=4) scTops.nd rfl (Or.inl rfl) (At A3 (pv 2) (pv 4) (fun _ _=>rfl)))))
   (Ag (ps_while PassesOwn.never (Az op_ne (At A3 (pv 2) (pv 5) (fun _ _=>rfl)) (pv 5) (Aw _)) (Ah (As (i:=5) scTops.nd rfl (Or.inl rfl) (At A3 (pv 2) (pv 5) (fun _ _=>rfl)))))
   (Ah (ps_asg (Aj (call_min2 rfl) (by rfl) T.min (by decide+kernel) (Aa (pv 4) (Aa (pv 5) Ac))) (pg_sub (pv 2) (Aj (call_max2 rfl) (by rfl) T.max (by decide+kernel) (Aa (pv 4) (Aa (pv 5) Ac))) set_list))))))))
   (Ag (ps_for PassesOwn.never rfl (By rfl T.range (Aa (pv 0) Ac)) (Ak (i:=6) scTops.nd rfl (Or.inl rfl)) (Ah (ps_asg (At A3 (pv 2) (At A3 (pv 2) (pv 6) (fun _ _=>rfl)) (fun _ _=>rfl)) (pg_sub (pv 2) (pv 6) set_list))))
   (Ah (Al (pv 2))))),?_⟩
  refine ⟨_,rfl,(N:Int),rfl,fun q hq=>⟨q,0,(N:Int),rfl,Ab,⟨by omega,by omega,by omega,by omega⟩,by omega,fun d hd=> ?_⟩⟩
  rw [Int.sub_zero,nV_rints]
  have s1:=(Ad (H:=H) (o:= .rng 0 (N:Int)) hq).trans (Ad (o:= .lst (nV (List.range N))) hd)
  have l1:=Ab (H:=upd H q (.rng 0 (N:Int))) (a:=d) (o:= .lst (nV (List.range N)))
  have dn:=none_of (Ad (H:=H) (o:= .rng 0 (N:Int)) hq) hd
  generalize upd (upd H q (.rng 0 (N:Int))) d (.lst (nV (List.range N)))=H1 at s1 l1
  clear hq hd q
  refine ⟨_,rfl,l,rfl,⟨_,SqL.of (s1 _ _ hl)⟩,for_list (K:=K) (a:=l) (xs:=rs.map V.ref) (fun i σ H2=>∃(u3 u4 u5 u6:Option V) (ld:List Nat),σ=[some (.int (N:Int)),some (.ref l),some (.ref d),u3,u4,u5,u6]∧Same H H2∧H2 d=some (.lst (nV ld))∧Lds N ld (Bf N ((R.map (·.1)).take i))) ⟨_,_,_,_,_,rfl,s1,l1,lds0 N⟩ (fun i σ H2 _ ⟨_,_,_,_,_,_,s,_⟩=>SqL.of (s _ _ hl)) ?_ ?_⟩
  ·rintro i v σ H2 hx ⟨u3,u4,u5,u6,ld,rfl,s2,l2,hld⟩
   obtain ⟨r,er,rfl⟩:=A5 hx
   obtain ⟨x,ex,hx0⟩:=hR.get er
   have hx2:=s2 _ _ hx0
   have et:(R.map (·.1))[i]? =some x.1:=by rw [List.getElem?_map,ex];rfl
   have tk:(R.map (·.1)).take (i+1)=(R.map (·.1)).take i++[x.1]:=by rw [List.take_add_one,et];rfl
   obtain ⟨t1,t2⟩:=hN _ (List.mem_of_getElem? et)
   have low:=labF_low (InN.take (n:=i) hN)
   have hlab:(Bf N ((R.map (·.1)).take i)).length=N:=low.1
   rw [tk,labF_snoc]
   generalize Bf N ((R.map (·.1)).take i)=lab at hld low hlab ⊢
   have lead:∀p,p<N→ld.getD p 0≤p∧lab.getD (ld.getD p 0) 0=lab.getD p 0∧(ld.getD p 0=p→lab.getD p 0=p):=hld.2
   have ll:=hld.1
   refine ⟨_,rfl,r,_,1,_,rfl,rfl,SqT.of hx2,row_1 x,?_⟩
   refine ⟨_,rfl,r,_,2,_,rfl,rfl,SqT.of hx2,row_2 x,?_⟩
   refine while_by (fun σ H'=>∃(p:Nat),σ=[some (.int (N:Int)),some (.ref l),some (.ref d),some (.ref r),some (.int (p:Int)),some (.int (x.1.2.2.1:Int)),u6]∧H2=H'∧p<N∧lab.getD p 0=lab.getD x.1.2.1 0) (fun (σ:St) (_:Hp)=>match σ[4]? with|some (some (V.int i))=>i.toNat|_=>0) ⟨x.1.2.1,rfl,rfl,t1,rfl⟩ ?_ (fun σ H' Q Q' f h=>by
   obtain ⟨v,e,v2,e2,p,ys,i,x,q1,q2,q3,q4,v3,e3,q5,b,q6,q7⟩:=h
   exact ⟨v,e,v2,e2,p,ys,i,x,q1,q2,q3,q4,v3,e3,q5,b,q6,f _ _ q7⟩)
   ·rintro σ H' ⟨p,rfl,rfl,hp,ep⟩
    obtain ⟨c1,c2,c3⟩:=lead p hp
    refine ⟨_,rfl,_,rfl,d,_,(p:Int),_,rfl,rfl,SqL.of l2,Bz (by omega),_,rfl,rfl,_,rfl,?_⟩
    by_cases g:ld.getD p 0=p
    ·rw [show (!decide (V.int ((ld.getD p 0:Nat):Int)=V.int (p:Int)))=false by rw [g,decide_eq_true rfl];rfl]
     refine Bi ?_
     have ez:p=lab.getD x.1.2.1 0:=by rw [←ep,c3 g]
     subst ez
     clear g c1 c2 c3 hp ep
     refine while_by (fun σ H'=>∃(p:Nat),σ=[some (.int (N:Int)),some (.ref l),some (.ref d),some (.ref r),some (.int ((lab.getD x.1.2.1 0:Nat):Int)),some (.int (p:Int)),u6]∧H2=H'∧p<N∧lab.getD p 0=lab.getD x.1.2.2.1 0) (fun (σ:St) (_:Hp)=>match σ[5]? with|some (some (V.int i))=>i.toNat|_=>0) ⟨x.1.2.2.1,rfl,rfl,t2,rfl⟩ ?_ (fun σ H' Q Q' f h=>by
   obtain ⟨v,e,v2,e2,p,ys,i,x,q1,q2,q3,q4,v3,e3,q5,b,q6,q7⟩:=h
   exact ⟨v,e,v2,e2,p,ys,i,x,q1,q2,q3,q4,v3,e3,q5,b,q6,f _ _ q7⟩)
     rintro σ H' ⟨p,rfl,rfl,hp,ep⟩
     obtain ⟨c1,c2,c3⟩:=lead p hp
     refine ⟨_,rfl,_,rfl,d,_,(p:Int),_,rfl,rfl,SqL.of l2,Bz (by omega),_,rfl,rfl,_,rfl,?_⟩
     by_cases g:ld.getD p 0=p
     ·rw [show (!decide (V.int ((ld.getD p 0:Nat):Int)=V.int (p:Int)))=false by rw [g,decide_eq_true rfl];rfl]
      refine Bi ?_
      have ez:p=lab.getD x.1.2.2.1 0:=by rw [←ep,c3 g]
      subst ez
      have g1:=(low.2 _ t1).1
      have g2:=(low.2 _ t2).1
      refine ⟨_,rfl,_,rfl,_,_,rfl,?_⟩
      rw [if_min]
      refine ⟨_,rfl,_,rfl,_,rfl,_,_,rfl,?_⟩
      rw [if_max]
      refine ⟨d,_,_,_,rfl,rfl,l2,ixN_nat (by rw [nV_len];omega),?_⟩
      rw [nV_set]
      exact ⟨_,_,_,_,_,rfl,A2 s2 dn,Ab,lds_step hld low t1 t2⟩
     ·rw [show (!decide (V.int ((ld.getD p 0:Nat):Int)=V.int (p:Int)))=true by rw [Bool.not_eq_true',decide_eq_false_iff_not];intro z;injection z with z;omega]
      refine Be ⟨_,rfl,_,rfl,d,_,(p:Int),_,rfl,rfl,SqL.of l2,Bz (by omega),⟨ld.getD p 0,rfl,rfl,by omega,by rw [c2,ep]⟩,?_⟩
      show ((ld.getD p 0:Nat):Int).toNat<(p:Int).toNat
      omega
    ·rw [show (!decide (V.int ((ld.getD p 0:Nat):Int)=V.int (p:Int)))=true by rw [Bool.not_eq_true',decide_eq_false_iff_not];intro z;injection z with z;omega]
     refine Be ⟨_,rfl,_,rfl,d,_,(p:Int),_,rfl,rfl,SqL.of l2,Bz (by omega),⟨ld.getD p 0,rfl,rfl,by omega,by rw [c2,ep]⟩,?_⟩
     show ((ld.getD p 0:Nat):Int).toNat<(p:Int).toNat
     omega
  rintro σ H2 ⟨u3,u4,u5,u6,ld,rfl,s2,l2,hld⟩
  have low:=labF_low hN
  have en:(R.map (·.1)).take (rs.map V.ref).length=R.map (·.1):=List.take_of_length_le (by rw [List.length_map,List.length_map,hR.1];exact Nat.le_refl _)
  rw [en] at hld
  refine ⟨_,rfl,(N:Int),rfl,by omega,by omega,for_range (lo:=0) (n:=(N:Int).toNat) (fun j σ H3=>∃(u3 u4 u5 u6:Option V) (ld:List Nat),σ=[some (.int (N:Int)),some (.ref l),some (.ref d),u3,u4,u5,u6]∧Same H H3∧H3 d=some (.lst (nV ld))∧Fin N (Bf N (R.map (·.1))) ld j) ⟨_,_,_,_,_,rfl,s2,l2,Fin.of hld⟩ ?_ ?_⟩
  ·rintro j σ H3 hj ⟨u3,u4,u5,u6,ld,rfl,s3,l3,hf⟩
   have hj:j<N:=by simpa using hj
   have ll:=hf.1
   have c:=(hf.2 j hj).1
   rw [show (0:Int)+(j:Int)=(j:Int) by omega]
   refine ⟨_,rfl,_,rfl,_,rfl,d,_,(j:Int),_,rfl,rfl,SqL.of l3,Bz (by omega),d,_,((ld.getD j 0:Nat):Int),_,rfl,rfl,SqL.of l3,Bz (by omega),?_⟩
   refine ⟨_,rfl,_,rfl,d,_,(j:Int),j,rfl,rfl,l3,ixN_nat (by rw [nV_len];omega),?_⟩
   rw [nV_set]
   exact ⟨_,_,_,_,_,rfl,A2 s3 dn,Ab,hf.step low hj⟩
  ·rintro σ H3 ⟨u3,u4,u5,u6,ld,rfl,s3,l3,hf⟩
   have:=Fin.done (by simpa using hf) low.1
   subst this
   exact ⟨_,rfl,k d H3 dn s3 l3⟩
end
end K34
namespace K34
open PySem L2 Wk
def LInv (H0:Hp) (a ln rl:Addr) (N:Nat) (zs:List Str) (i:Nat) (σ:St) (H:Hp):Prop:=∃(L:Nat) (rs:List Addr) (R:List R6) (u5 u6 u7 u8 u9:Option V),σ=[some (.ref a),some (.int (N:Int)),some (.ref ln),some (.int (L:Int)),some (.ref rl),u5,u6,u7,u8,u9]∧But a H0 H∧DeckAt H a∧H rl=some (.lst (rs.map V.ref))∧RowsAt H rs R∧LGood N R∧(∀x∈R,L≤x.2.1)∧(L:Int)≤lay N∧R.length≤i∧R.map (·.1.1)=zs.take R.length
structure LFix (H0:Hp) (a ln rl:Addr) (N:Nat) (zs:List Str):Prop where
 n2:2≤N
 n24:N≤24
 nm:H0 ln=some (.lst (zs.map V.str))
 la:ln≠a
 ra:rl≠a
 rn:H0 rl=none
 z60:zs.length≤60
 nd:zs.Nodup
 ok:∀z∈zs,NameOk z
def tPick:TS:=fun D σ H=>∃(H0:Hp) (a ln rl:Addr) (N:Nat) (zs:List Str) (i:Nat),LFix H0 a ln rl N zs∧i<zs.length∧LInv H0 a ln rl N zs i σ H∧∀σ' H',LInv H0 a ln rl N zs (i+1) σ' H'→D.nx σ' H'
def tApp:TS:=fun D σ H=>∃(H0:Hp) (a ln rl lt:Addr) (N:Nat) (zs:List Str) (i:Nat) (L:Nat) (rs:List Addr) (R:List R6) (p q:Nat) (u5 u9:Option V),LFix H0 a ln rl N zs∧i<zs.length∧σ=[some (.ref a),some (.int (N:Int)),some (.ref ln),some (.int (L:Int)),some (.ref rl),u5,some (.int (p:Int)),some (.int (q:Int)),some (.ref lt),u9]∧But a H0 H∧DeckAt H a∧H rl=some (.lst (rs.map V.ref))∧RowsAt H rs R∧LGood N R∧(∀x∈R,L≤x.2.1)∧(L:Int)≤lay N∧R.length≤i∧R.map (·.1.1)=zs.take R.length∧H lt=some (.lst (nV (Bf N (R.map (·.1)))))∧lt≠a∧p<N∧q<N∧p≠q∧(¬Reach (R.map (·.1)) p q→((Ao N (R.map (·.1)) p).length+(Ao N (R.map (·.1)) q).length:Int)≤rm N L)∧∀σ' H',LInv H0 a ln rl N zs (i+1) σ' H'→D.nx σ' H'
theorem RowsAt.snoc {H:Hp} {rs:List Addr} {R:List R6} {r:Addr} {x:R6} (h:RowsAt H rs R) (hr:H r=some (.tup (rowV x))):RowsAt H (rs++[r]) (R++[x]):=by
 refine ⟨by rw [List.length_append,List.length_append,h.1];rfl,fun i r0 p0 e1 e2=> ?_⟩
 rw [List.getElem?_append] at e1 e2
 rw [h.1] at e1
 split at e1
 ·rename_i z
  rw [if_pos z] at e2
  exact h.2 i r0 p0 e1 e2
 ·rename_i z
  rw [if_neg z] at e2
  have hz:i - R.length=0:=by
   have:=(List.getElem?_eq_some_iff.mp e1).1
   simp only [List.length_cons,List.length_nil] at this
   omega
  rw [hz] at e1 e2
  cases e1
  cases e2
  exact hr
theorem LGood.in1 {N:Nat} {R:List R6} (h:LGood N R):InN N (R.map (·.1)):=fun t ht=>by
 obtain ⟨x,hx,rfl⟩:=List.mem_map.mp ht
 exact ⟨(h.ok x hx).2.1.1,(h.ok x hx).2.1.2.1⟩
def tailR (x:R6):List V:=[.int (x.1.2.1:Int),.int (x.1.2.2.1:Int),.int x.1.2.2.2,.int (x.2.1:Int),.bl x.2.2]
def pnOf (q:Addr×R6):Srt.Pn:=(q.1,q.2.1.1,tailR q.2)
theorem pn_ref {rs:List Addr} {R:List R6} (h:rs.length=R.length):((rs.zip R).map pnOf).map Srt.nRef=rs.map V.ref:=by
 rw [List.map_map]
 have e:(rs.zip R).map Prod.fst=rs:=List.map_fst_zip (Nat.le_of_eq h)
 conv=>rhs;rw [←e,List.map_map]
 rfl
theorem pn_nm {rs:List Addr} {R:List R6} (h:rs.length=R.length):((rs.zip R).map pnOf).map (·.2.1)=R.map (·.1.1):=by
 rw [List.map_map]
 have e:(rs.zip R).map Prod.snd=R:=List.map_snd_zip (Nat.le_of_eq h.symm)
 conv=>rhs;rw [←e,List.map_map]
 rfl
theorem RowsAt.zip {H:Hp} {rs:List Addr} {R:List R6} (h:RowsAt H rs R):∀q∈rs.zip R,H q.1=some (.tup (rowV q.2)):=fun q hq=>by
 obtain ⟨i,hi,e⟩:=List.getElem_of_mem hq
 rw [List.getElem_zip] at e
 rw [List.length_zip] at hi
 subst e
 exact h.2 i _ _ (Bh (by omega)) (Bh (by omega))
theorem RowsAt.unzip {H:Hp} {l:List (Addr×R6)} (h:∀q∈l,H q.1=some (.tup (rowV q.2))):RowsAt H (l.map (·.1)) (l.map (·.2)):=⟨by rw [List.length_map,List.length_map],fun i r x e1 e2=>by
 rw [List.getElem?_map] at e1 e2
 cases e:l[i]? with
 |none=>rw [e] at e1;cases e1
 |some q=>
  rw [e] at e1 e2
  cases e1
  cases e2
  exact h q (List.mem_of_getElem? e)⟩
theorem str_ext {x y:Str} (h:x.cps.toList=y.cps.toList):x=y:=by
 cases x;cases y;congr 1;exact Array.toList_inj.mp h
def UpP (R:List R6):Prop:=R.Pairwise fun x y=>x.1.1.cps.toList<y.1.1.cps.toList
theorem up_of {R:List R6} (h:R.Pairwise fun x y=>¬y.1.1.cps.toList<x.1.1.cps.toList) (nd:(R.map (·.1.1)).Nodup):UpP R:=by
 rw [List.nodup_iff_pairwise_ne,List.pairwise_map] at nd
 refine (h.and nd).imp fun {x y} ⟨h1,h2⟩=> ?_
 rcases List.le_iff_lt_or_eq.mp (List.not_lt.mp h1) with z|z
 ·exact z
 ·exact absurd (str_ext z) h2
def spLayered:Sp:=fun vs H Q _=>∃(a ln:Addr) (N:Nat) (zs:List Str),vs=[.ref a,.int (N:Int),.ref ln]∧DeckAt H a∧1≤N∧N≤24∧H ln=some (.lst (zs.map V.str))∧ln≠a∧zs.length≤60∧zs.Nodup∧(∀z∈zs,NameOk z)∧∀(tp:Addr) (rs:List Addr) (R:List R6) (H':Hp),But a H H'→DeckAt H' a→H' tp=some (.tup (rs.map V.ref))→RowsAt H' rs R→LGood N R→UpP R→Q (.ref tp) H'
theorem fresh_take {zs:List Str} {k:Nat} (nd:zs.Nodup) (h:k<zs.length):zs.getD k "" ∉ zs.take k:=fun z=>by
 obtain ⟨i,hi,e⟩:=List.getElem_of_mem z
 rw [List.getElem_take] at e
 rw [List.length_take] at hi
 rw [List.getD_eq_getElem?_getD,List.getElem?_eq_getElem h] at e
 have:=List.pairwise_iff_getElem.mp nd i k (by omega) h (by omega)
 exact this e
section
variable {P:Program} {w:World} {K:PySem.W.Frag} {mg:Str→Option Value} {base:Heap}
theorem scLayered:Av ["_law_deck_here","_law_many_here","_law_names_here","_law_layer","_law_rows","_law_k","_law_one","_law_other","_law_tops_here","_law_size"] ["_law_deck_here","_law_many_here","_law_names_here"] (Ae sLayered):=⟨rfl,rfl,rfl,by decide+kernel,rfl,by decide+kernel,by decide+kernel⟩
theorem ok_Layered {f:Addr} {fd:FuncData} (F:Fun K "_law_layered" "_law_layered" sLayered f fd) (T:Txt mg)
  {gGreat:Addr} {fGreat:FuncData} (kGreat:PySem.W.keepIn K (.ref gGreat)=true) (bGreat:Binds K fGreat ["_law_many_here"] []) (hGreat:mg "_law_greatest"=some (.ref gGreat)) (GGreat:FnOk P w K mg base CX0 2 gGreat fGreat ["_law_many_here"] spGreat)
  {gDraw:Addr} {fDraw:FuncData} (kDraw:PySem.W.keepIn K (.ref gDraw)=true) (bDraw:Binds K fDraw ["_law_deck_here","_law_most"] []) (hDraw:mg "_law_draw"=some (.ref gDraw)) (GDraw:FnOk P w K mg base CX0 2 gDraw fDraw ["_law_deck_here","_law_most"] spDraw)
  {gTops:Addr} {fTops:FuncData} (kTops:PySem.W.keepIn K (.ref gTops)=true) (bTops:Binds K fTops ["_law_many_here","_law_rows"] []) (hTops:mg "_law_tops"=some (.ref gTops)) (GTops:FnOk P w K mg base CX0 2 gTops fTops ["_law_many_here","_law_rows"] spTops)
  {gHalved:Addr} {fHalved:FuncData} (kHalved:PySem.W.keepIn K (.ref gHalved)=true) (bHalved:Binds K fHalved ["_law_many_here","_law_layer"] []) (hHalved:mg "_law_halved"=some (.ref gHalved)) (GHalved:FnOk P w K mg base CX0 2 gHalved fHalved ["_law_many_here","_law_layer"] spHalved)
  {gWeight:Addr} {fWeight:FuncData} (kWeight:PySem.W.keepIn K (.ref gWeight)=true) (bWeight:Binds K fWeight ["_law_deck_here"] []) (hWeight:mg "_law_weight"=some (.ref gWeight)) (GWeight:FnOk P w K mg base CX0 2 gWeight fWeight ["_law_deck_here"] spWeight):
  FnOk P w K mg base CX0 3 f fd ["_law_deck_here","_law_many_here","_law_names_here"] spLayered:=by
 refine F.ok scLayered (fun vs H Q E h=> ?_) (fun cdv A outer s H vs Q E hr h=> ?_)
 ·obtain ⟨_,_,_,_,rfl,_⟩:=h;rfl
 ·obtain ⟨a,ln,N,zs,rfl,hD,N1,N24,hn,lna,z60,nd,nok,k⟩:=h
  refine ⟨_,Ag (As (i:=3) scLayered.nd rfl (Or.inl rfl) (Ai GGreat hr rfl hGreat kGreat bGreat .nil Aq (Aa (pv 1) Ac)))
   (Ag (As (i:=4) scLayered.nd rfl (Or.inl rfl) (Ca Ac))
   (Ag (ps_for PassesOwn.never rfl (By rfl T.range (Aa (Am op_mul (Aj Bc (by rfl) T.len PySem.boot_len (Aa (pv 2) Ac)) (Bt call_int1 (by rfl) T.int (by decide+kernel) (Aa (Ce op_gt (pv 1) Af (Aw _)) Ac))) Ac)) (Ak (i:=5) scLayered.nd rfl (Or.inl rfl)) (Ag (Bs (PW.pt (pw_and (Az op_gt (pv 3) Af (Aw _)) (pw_and1 (Az op_eq (Ai GDraw hr rfl hDraw kDraw bDraw .nil Aq (Aa (pv 0) (Aa Af Ac))) Af (Aw _))))) (Ah (As (i:=3) scLayered.nd rfl (Or.inl rfl) (Am op_sub (pv 3) Af))) A7)
   (PSs.imp' (t':=tPick) (Ag (As (i:=6) scLayered.nd rfl (Or.inl rfl) (Ai GDraw hr rfl hDraw kDraw bDraw .nil Aq (Aa (pv 0) (Aa (pv 1) Ac))))
   (Ag (As (i:=7) scLayered.nd rfl (Or.inl rfl) (Am op_mod (Am Bp (Am Bp (pv 6) Af) (Ai GDraw hr rfl hDraw kDraw bDraw .nil Aq (Aa (pv 0) (Aa (Am op_sub (pv 1) Af) Ac)))) (pv 1)))
   (Ag (As (i:=8) scLayered.nd rfl (Or.inl rfl) (Ai GTops hr rfl hTops kTops bTops .nil Aq (Aa (pv 1) (Aa (pv 4) Ac))))
   (Ag (As (i:=9) scLayered.nd rfl (Or.inl rfl) (Am Bp (pe_bm PySem.F.plainAttrs_list PySem.F.slot_list_count PySem.F.type_list_count mt_countL (pv 8) (Aa (At A3 (pv 8) (pv 6) (fun _ _=>rfl)) Ac)) (pe_bm PySem.F.plainAttrs_list PySem.F.slot_list_count PySem.F.type_list_count mt_countL (pv 8) (Aa (At A3 (pv 8) (pv 7) (fun _ _=>rfl)) Ac))))
   (Ah (Bs (PW.pt (pw_or (Az op_eq (At A3 (pv 8) (pv 6) (fun _ _=>rfl)) (At A3 (pv 8) (pv 7) (fun _ _=>rfl)) (Aw _)) (pw_or1 (Az op_le (pv 9) (Ai GHalved hr rfl hHalved kHalved bHalved .nil Aq (Aa (pv 1) (Aa (pv 3) Ac))) (Aw _))))) (PSs.imp' (t':=tApp) (Ah (ps_expr (pe_bm PySem.F.plainAttrs_list PySem.F.slot_list_append PySem.F.type_list_append mt_append (pv 4) (Aa (Cb (Aa (At A3 (pv 2) (Aj Bc (by rfl) T.len PySem.boot_len (Aa (pv 4) Ac)) (fun _ _=>rfl)) (Aa (pv 6) (Aa (pv 7) (Aa (Ai GWeight hr rfl hWeight kWeight bWeight .nil Aq (Aa (pv 0) Ac)) (Aa (pv 3) (Aa (Ce op_ne (At A3 (pv 8) (pv 6) (fun _ _=>rfl)) (At A3 (pv 8) (pv 7) (fun _ _=>rfl)) (Aw _)) Ac))))))) Ac)))) ?app) A7)))))) ?pick)))
   (Ah (Al (Bt call_tuple_of (by rfl) T.tuple (by decide+kernel) (Aa (Aj Srt.call_sortedN (by rfl) T.sorted (by decide+kernel) (Aa (pv 4) Ac)) Ac)))))),?_⟩
  case pick=>
   rintro D σ H ⟨H0,a,ln,rl,N,zs,i,X,hi,⟨L,rs,R,u5,u6,u7,u8,u9,rfl,b0,d0,l0,r0,G,lo,hL,Ri,nm⟩,k⟩
   have N2:=X.n2
   have N24:=X.n24
   have l4:=lay_4 (N:Int)
   have z60:=X.z60
   refine ⟨_,rfl,_,rfl,a,(N:Int),rfl,d0,by omega,by omega,fun p H1 p0 p1 b1 d1=> ?_⟩
   obtain ⟨p,rfl⟩:=nat_of p0
   have p1:p<N:=by omega
   refine ⟨_,rfl,_,_,rfl,rfl,_,rfl,_,rfl,_,_,rfl,rfl,a,(N:Int) - 1,rfl,d1,by omega,by omega,fun w H2 w0 w1 b2 d2=>⟨_,_,rfl,rfl,_,rfl,_,_,rfl,rfl,by omega,?_⟩⟩
   have q0:=Int.emod_nonneg ((p:Int)+1+w) (show (N:Int)≠0 by omega)
   have q1:=Int.emod_lt_of_pos ((p:Int)+1+w) (show (0:Int)<N by omega)
   have pq:((p:Int)+1+w) % (N:Int)≠(p:Int):=by
    intro z
    by_cases g:(p:Int)+1+w<N
    ·rw [Int.emod_eq_of_lt (by omega) g] at z;omega
    ·have:((p:Int)+1+w) % (N:Int)=(p:Int)+1+w - N:=by
      rw [←Int.sub_emod_right,Int.emod_eq_of_lt (by omega) (by omega)]
     omega
   generalize ((p:Int)+1+w) % (N:Int)=q at q0 q1 pq
   obtain ⟨q,rfl⟩:=nat_of q0
   have q1:q<N:=by omega
   have pq:p≠q:=fun z=>pq (by rw [z])
   have b3:=b1.trans b2
   have l2:=b3 _ _ l0 X.ra
   have r2:=r0.mono fun r xs e=>b3.tup d0 e
   refine ⟨_,rfl,_,rfl,N,rl,rs,R,rfl,l2,r2,G.in1,by omega,fun lt H3 ltn s3 h3=> ?_⟩
   have lta:=d2.ne ltn
   have b4:=(b0.trans b3).trans (But.of s3)
   have d3:=d2.same s3
   have l3:=s3 _ _ l2
   have r3:=r2.mono fun r xs e=>s3 _ _ e
   have cp:=lab_count G.in1 p1 (by omega)
   have cq:=lab_count G.in1 q1 (by omega)
   have li:=lab_iff G.in1 p1 q1
   have ll:=Cl (N:=N) (S:=R.map (·.1))
   refine ⟨_,rfl,.inl ⟨rfl,_,SqL.of h3⟩,_,rfl,_,rfl,lt,_,(p:Int),_,rfl,rfl,SqL.of h3,Bz (by omega),lt,_,_,rfl,rfl,h3,?_⟩
   refine ⟨_,rfl,.inl ⟨rfl,_,SqL.of h3⟩,_,rfl,_,rfl,lt,_,(q:Int),_,rfl,rfl,SqL.of h3,Bz (by omega),lt,_,_,rfl,rfl,h3,_,_,rfl,rfl,?_⟩
   rw [count_nat,count_nat,cp,cq]
   refine ⟨_,rfl,_,rfl,lt,_,(p:Int),_,rfl,rfl,SqL.of h3,Bz (by omega),_,rfl,_,rfl,lt,_,(q:Int),_,rfl,rfl,SqL.of h3,Bz (by omega),rfl,_,rfl,?_⟩
   refine Ci (fun c=> ?_) fun c=> ?_
   ·have c:(Bf N (R.map (·.1))).getD p 0=(Bf N (R.map (·.1))).getD q 0:=by
     have:=of_decide_eq_true c
     injection this with this
     omega
    exact Be ⟨H0,a,ln,rl,lt,N,zs,i,L,rs,R,p,q,_,_,X,hi,rfl,b4,d3,l3,r3,G,lo,hL,Ri,nm,h3,lta,p1,q1,pq,fun z=>absurd (li.mp c) z,k⟩
   refine ⟨_,rfl,_,rfl,_,rfl,(N:Int),(L:Int),rfl,by omega,by omega,_,_,rfl,rfl,_,rfl,?_⟩
   refine Ci (fun c=> ?_) fun c=> ?_
   ·exact ⟨H0,a,ln,rl,lt,N,zs,i,L,rs,R,p,q,_,_,X,hi,rfl,b4,d3,l3,r3,G,lo,hL,Ri,nm,h3,lta,p1,q1,pq,fun _=>of_decide_eq_true c,k⟩
   ·exact k _ _ ⟨L,rs,R,_,_,_,_,_,rfl,b4,d3,l3,r3,G,lo,hL,by omega,nm⟩
  case app=>
   rintro D σ H ⟨H0,a,ln,rl,lt,N,zs,i,L,rs,R,p,q,u5,u9,X,hi,rfl,b0,d0,l0,r0,G,lo,hL,Ri,nm,h0,lta,p1,q1,pq,sz,k⟩
   have N2:=X.n2
   have N24:=X.n24
   have z60:=X.z60
   have ln0:=b0 _ _ X.nm X.la
   have rl':rs.length=R.length:=r0.1
   have Rl:R.length<zs.length:=by omega
   have Rz:(zs.map V.str)[R.length]? =some (.str (zs.getD R.length "")):=by rw [List.getElem?_map,List.getD_eq_getElem?_getD,List.getElem?_eq_getElem Rl];rfl
   have li:=lab_iff G.in1 p1 q1
   have ll:=Cl (N:=N) (S:=R.map (·.1))
   refine ⟨_,rfl,.inl ⟨rfl,_,SqL.of l0⟩,_,rfl,_,rfl,rl,_,rfl,.inl (SqL.of l0),?_⟩
   refine ⟨ln,_,_,_,rfl,rfl,SqL.of ln0,by rw [List.length_map,rl'];exact Ay Rz,_,rfl,_,rfl,_,rfl,a,rfl,d0,fun v H1 b1 d1 v0 v1=> ?_⟩
   have h1:=b1 _ _ h0 lta
   have ln1:=b1 _ _ l0 X.ra
   have r1:=r0.mono fun r xs e=>b1.tup d0 e
   refine ⟨_,rfl,_,rfl,_,rfl,lt,_,(p:Int),_,rfl,rfl,SqL.of h1,Bz (by omega),_,rfl,_,rfl,lt,_,(q:Int),_,rfl,rfl,SqL.of h1,Bz (by omega),rfl,Ax (by simp),fun r hr=> ?_⟩
   have hb:(!decide (V.int (((Bf N (R.map (·.1))).getD p 0:Nat):Int)=V.int (((Bf N (R.map (·.1))).getD q 0:Nat):Int)))=true↔¬Reach (R.map (·.1)) p q:=by
    rw [←li,Bool.not_eq_true',decide_eq_false_iff_not]
    exact not_congr ⟨fun e=>by injection e with e;omega,fun e=>by rw [e]⟩
   generalize (!decide (V.int (((Bf N (R.map (·.1))).getD p 0:Nat):Int)=V.int (((Bf N (R.map (·.1))).getD q 0:Nat):Int)))=b at hb ⊢
   generalize hz:zs.getD R.length ""=z at Rz ⊢
   have zm:z∈zs:=by
    rw [←hz,List.getD_eq_getElem?_getD,List.getElem?_eq_getElem Rl]
    exact List.getElem_mem Rl
   have G2:LGood N (R++[((z,p,q,v),L,b)]):=G.more (t:=(z,p,q,v)) (by omega) lo ⟨X.ok z zm,⟨p1,q1,pq⟩,⟨v0,v1⟩,hL⟩ (by rw [nm,←hz];exact fresh_take X.nd Rl) (by omega) hb (fun e=>sz (hb.mp e))
   have s2:=Ad (o:= .tup [.str z,.int (p:Int),.int (q:Int),.int v,.int (L:Int),.bl b]) hr
   have e2:=Ab (H:=H1) (a:=r) (o:= .tup [.str z,.int (p:Int),.int (q:Int),.int v,.int (L:Int),.bl b])
   have d2:=d1.upd (o:= .tup [.str z,.int (p:Int),.int (q:Int),.int v,.int (L:Int),.bl b]) (d1.ne hr)
   have l2:=s2 _ _ ln1
   have r2:=r1.mono fun r xs e=>s2 _ _ e
   generalize upd H1 r (.tup [.str z,.int (p:Int),.int (q:Int),.int v,.int (L:Int),.bl b])=H2 at s2 e2 d2 l2 r2 ⊢
   refine ⟨rl,_,_,rfl,rfl,l2,Ar (by rw [List.length_map];omega),k _ _ ⟨L,rs++[r],R++[((z,p,q,v),L,b)],_,_,_,_,_,rfl,((b0.trans b1).trans (But.of s2)).set X.rn,d2.upd X.ra,?_,?_,G2,?_,hL,?_,?_⟩⟩
   ·rw [Ab,List.map_append];rfl
   ·have kp:∀(r:Addr) (ys:List V) (o:HO),H2 r=some (.tup ys)→upd H2 rl o r=some (.tup ys):=fun r ys o e=>by rw [A0 (ne_of e l2 (by intro z;cases z))];exact e
    exact (r2.mono fun r ys e=>kp r ys _ e).snoc (kp _ _ _ e2)
   ·intro x hx
    rcases List.mem_append.mp hx with g|g
    ·exact lo x g
    ·rw [List.mem_singleton.mp g];exact Nat.le_refl _
   ·rw [List.length_append];show _+1≤_;omega
   ·rw [List.map_append,List.length_append,nm]
    show _++[z]=zs.take (R.length+1)
    rw [List.take_add_one,List.getElem?_eq_getElem Rl,←hz,List.getD_eq_getElem?_getD,List.getElem?_eq_getElem Rl];rfl
  have l4:=lay_4 (N:Int)
  have l0:=lay_0 (N:Int)
  refine ⟨_,rfl,(N:Int),rfl,by omega,by omega,fun H1 s1=>⟨Ax (by simp),fun rl hrl=> ?_⟩⟩
  have b2:=(But.of (a:=a) s1).trans (But.of (Ad (o:= .lst []) hrl))
  have d2:=(hD.same s1).upd (o:= .lst []) ((hD.same s1).ne hrl)
  have rla:=(hD.same s1).ne hrl
  have rn:H rl=none:=none_of s1 hrl
  have e2:=Ab (H:=H1) (a:=rl) (o:= .lst [])
  generalize upd H1 rl (.lst [])=H2 at b2 d2 e2 ⊢
  obtain ⟨L0,hL0⟩:=nat_of l0
  rw [hL0]
  have n2:=b2 _ _ hn lna
  have mz:((zs.map V.str).length:Int) * (if decide ((1:Int)<(N:Int))=true then 1 else 0)=((if 1<N then zs.length else 0:Nat):Int):=by
   rw [List.length_map]
   by_cases g:1<N
   ·rw [if_pos (decide_eq_true (by omega)),if_pos g];omega
   ·rw [if_neg (by rw [decide_eq_true_eq];omega),if_neg g];omega
  refine ⟨_,rfl,ln,_,rfl,.inl (SqL.of n2),_,rfl,_,_,rfl,rfl,.inr ⟨_,rfl,_,_,rfl,rfl,.inl ⟨by rw [List.length_map];omega,by rw [List.length_map];omega⟩,?_⟩⟩
  rw [mz]
  have mz2:(if 1<N then zs.length else 0)≤zs.length:=by split<;> omega
  refine ⟨_,rfl,by omega,by omega,for_range (lo:=0) (fun i σ H3=>LInv H a ln rl N zs i σ H3) ⟨L0,[],[],_,_,_,_,_,rfl,b2,d2,e2,⟨rfl,fun i r x e=>by simp at e⟩,LGood.nil N1 N24,(fun x hx=>nomatch hx),by omega,Nat.le_refl _,rfl⟩ ?_ ?_⟩
  ·rintro i σ H3 hi ⟨L,rs,R,u5,u6,u7,u8,u9,rfl,b3,d3,e3,r3,G,lo,hL,Ri,nm⟩
   have hi:i<(if 1<N then zs.length else 0):=by omega
   have N2:1<N:=by
    by_cases g:1<N
    ·exact g
    ·rw [if_neg g] at hi;omega
   rw [if_pos N2] at hi
   have X:LFix H a ln rl N zs:=⟨N2,N24,hn,lna,rla,rn,z60,nd,nok⟩
   refine ⟨_,rfl,_,_,rfl,rfl,_,rfl,Ci (fun c=> ?_) fun c=> ?_⟩
   ·refine ⟨_,rfl,a,4,rfl,d3,by decide,by decide,fun v H4 v0 v1 b4 d4=>⟨rfl,_,rfl,Ci (fun c2=> ?_) fun c2=> ?_⟩⟩
    ·have Lp:1≤L:=by have:=of_decide_eq_true c;omega
     refine ⟨_,rfl,_,_,rfl,rfl,?_⟩
     rw [show (L:Int) - 1=((L - 1:Nat):Int) by omega]
     exact ⟨H,a,ln,rl,N,zs,i,X,hi,⟨L - 1,rs,R,_,_,_,_,_,rfl,b3.trans b4,d4,b4 _ _ e3 rla,r3.mono fun r xs e=>b4.tup d3 e,G,fun x hx=>by have:=lo x hx;omega,by omega,Ri,nm⟩,fun σ' H' h=>h⟩
    ·exact ⟨H,a,ln,rl,N,zs,i,X,hi,⟨L,rs,R,_,_,_,_,_,rfl,b3.trans b4,d4,b4 _ _ e3 rla,r3.mono fun r xs e=>b4.tup d3 e,G,lo,hL,Ri,nm⟩,fun σ' H' h=>h⟩
   ·exact Bi ⟨H,a,ln,rl,N,zs,i,X,hi,⟨L,rs,R,_,_,_,_,_,rfl,b3,d3,e3,r3,G,lo,hL,Ri,nm⟩,fun σ' H' h=>h⟩
  rintro σ H3 ⟨L,rs,R,u5,u6,u7,u8,u9,rfl,b3,d3,e3,r3,G,lo,hL,Ri,nm⟩
  have R60:R.length≤60:=G.len
  refine ⟨_,rfl,rl,(rs.zip R).map pnOf,rfl,SqL.of (by rw [pn_ref r3.1];exact e3),fun q hq=> ?_,?_,?_,fun l ps' hl hp hw=> ?_⟩
  ·obtain ⟨q',hq',rfl⟩:=List.mem_map.mp hq
   exact SqT.of (r3.zip q' hq')
  ·rw [pn_nm r3.1];exact G.nd
  ·rw [List.length_map,List.length_zip,r3.1];omega
  obtain ⟨l',rfl,hp'⟩:=perm_map hp rfl
  have r4:RowsAt H3 (l'.map (·.1)) (l'.map (·.2)):=RowsAt.unzip fun q hq=>r3.zip q (hp'.mem_iff.mp hq)
  have e2R:(rs.zip R).map (·.2)=R:=List.map_snd_zip (Nat.le_of_eq r3.1.symm)
  have pR:(l'.map (·.2)).Perm R:=by have:=hp'.map (·.2);rwa [e2R] at this
  have G4:=G.perm (by omega) pR
  have up:UpP (l'.map (·.2)):=up_of (by rw [List.pairwise_map] at hw ⊢;exact hw) G4.nd
  have en:(l'.map pnOf).map Srt.nRef=(l'.map (·.1)).map V.ref:=by rw [List.map_map,List.map_map];rfl
  rw [en]
  refine ⟨l,_,rfl,.inl ⟨SqL.of Ab,fun tp htp=> ?_⟩⟩
  have s5:=(Ad (o:= .lst ((l'.map (·.1)).map V.ref)) hl).trans (Ad (o:= .tup ((l'.map (·.1)).map V.ref)) htp)
  exact k tp _ _ _ (b3.trans (But.of s5)) (d3.same s5) Ab (r4.mono fun r xs e=>s5 _ _ e) G4 up
end
end K34
namespace L2
open PySem PySem.Spec PyProof.Rows
theorem pe_bmK {X:Cx} {o e:Expr} {es:List Expr} {to:TE} {t:TA} {name:Str} {apos cpos:Pos} {T id:String} {r:V→List V→Hp→VK→Prop} (K:PySem.W.Frag) (hK:X.K=K) (pa:PlainAttrs T) (slot:Slot T name id) (hty:typeOf (.builtin id)=pure (.type "method_descriptor")) (hm:MtM X id r) (ho:PE X o to) (ha:PA X (e::es) t)
  (hbase:attributeBase o name X.env (eval o X.env)=eval o X.env:=by rfl)
  (hfew:((backTo cpos (starEach (e::es) X.env)).all (fun x=> !x.1) && (backToKw cpos (keywordEach [] X.env)).all (fun x=>x.1.isSome) && decide ((e::es).length+([]:List Keyword).length+(if ([]:List Keyword).isEmpty then 0 else 1)<30))=true:=by rfl)
  (hline:(apos.endLine==cpos.line)=true:=by rfl) (hs:starEach (e::es) X.env=(false,eval e X.env)::starEach es X.env:=by rfl) (hplain:(backTo cpos (starEach es X.env)).any (·.1)=false:=by rfl):
  PE X (.Call (.Attribute o name apos) (e::es) [] cpos) (tBM K T r to t):=by
 subst hK
 exact pe_bm pa slot hty hm ho ha hbase hfew hline hs hplain
end L2
namespace K34
open PySem L2 Wk
theorem found_alpha (c:Nat):(!(!(Builtin.Str.occurrences (Str.ofString "abcdefghijklmnopqrstuvwxyz") ⟨#[c]⟩ 0 (Str.ofString "abcdefghijklmnopqrstuvwxyz").length 1).isEmpty))= !(decide (97≤c) && decide (c≤122)):=by
 rw [StrLaws.found_one]
 congr 1
 have e:(Str.ofString "abcdefghijklmnopqrstuvwxyz").cps.toList=(List.range 26).map (97+·):=by decide+kernel
 rw [e,←Bool.decide_and]
 congr 1
 simp only [List.mem_map,List.mem_range,eq_iff_iff]
 constructor
 ·rintro ⟨k,hk,rfl⟩;omega
 ·intro h;exact ⟨c - 97,by omega,by omega⟩
def RowL (N:Nat) (x:R6):Prop:=NameOk x.1.1∧TieOk N x.1∧(0≤x.1.2.2.2∧x.1.2.2.2≤1000000000)∧(x.2.1:Int)≤10 ^ 41
def RowAtL (H:Hp) (N:Nat) (v:V):Prop:=∃(r:Addr) (x:R6),v= .ref r∧H r=some (.tup (rowV x))∧RowL N x
structure LG (N:Nat) (R:List R6):Prop where
 lo:∀x∈R,(x.2.1:Int)≤lay N
 fo:clsF N (tiF R (kpB 0))+(tiF R (kpB 0)).length≤N
 at_:∀L:Nat,(L:Int)≤lay N→SameL R L∧SizeL N R L
def spLWhole:Sp:=fun vs H Q _=>∃(v:V) (lo hi:Int),vs=[v,.int lo,.int hi]∧An H v∧Q (.bl (whV v lo hi)) H
def spLName:Sp:=fun vs H Q _=>∃v:V,vs=[v]∧AnD H 0 v∧∀H',Same H H'→Q (.bl (nameV v)) H'
def spLRow:Sp:=fun vs H Q _=>∃(v:V) (N:Nat),vs=[v,.int (N:Int)]∧AnD H 1 v∧∀b H',Same H H'→(b=true↔RowAtL H N v)→Q (.bl b) H'
def spGood:Sp:=fun vs H Q _=>∃(tp:Addr) (rs:List Addr) (N:Nat) (R:List R6),vs=[.int (N:Int),.ref tp]∧H tp=some (.tup (rs.map V.ref))∧RowsAt H rs R∧1≤N∧N≤24∧R.length≤60∧(∀x∈R,TieOk N x.1)∧∀b H',Same H H'→(b=true↔LG N R)→Q (.bl b) H'
def spDue:Sp:=fun vs H Q _=>∃v:V,vs=[v]∧AnD H 3 v∧∀b H',Same H H'→(b=true↔GoodAt H v)→Q (.bl b) H'
def spTold:Sp:=fun vs H Q _=>∃v:V,vs=[v]∧AnD H 3 v∧∀H',Same H H'→Q (.bl true) H'
theorem rowL_iff {H:Hp} {N:Nat} {r:Addr} {x1 x2 x3 x4 x5 x6:V} (h:H r=some (.tup [x1,x2,x3,x4,x5,x6])):RowAtL H N (.ref r)↔tieB N x1 x2 x3 x4=true∧whV x5 0 (10 ^ 41)=true∧isBl x6=true:=by
 constructor
 ·rintro ⟨r',x,e,hx,nk,⟨t1,t2,t3⟩,w,l⟩
  cases e
  rw [h] at hx
  injection hx with hx
  injection hx with hx
  simp only [rowV,tieV,List.cons_append,List.nil_append,List.cons.injEq,and_true] at hx
  obtain ⟨rfl,rfl,rfl,rfl,rfl,rfl⟩:=hx
  refine ⟨?_,whV_iff.mpr ⟨_,rfl,by omega,l⟩,rfl⟩
  unfold tieB
  rw [nameV_iff.mpr ⟨_,rfl,nk⟩,whV_iff.mpr ⟨_,rfl,w.1,w.2⟩,whV_iff.mpr ⟨_,rfl,by omega,by omega⟩,whV_iff.mpr ⟨_,rfl,by omega,by omega⟩,decide_eq_false (fun z=>t3 (by injection z with z;omega))]
  rfl
 ·rintro ⟨h1,h2,h3⟩
  unfold tieB at h1
  simp only [Bool.and_eq_true,Bool.not_eq_true',decide_eq_false_iff_not] at h1
  obtain ⟨⟨⟨⟨h11,h12⟩,h13⟩,h14⟩,h15⟩:=h1
  obtain ⟨z,rfl,nk⟩:=nameV_iff.mp h11
  obtain ⟨w,rfl,w0,w1⟩:=whV_iff.mp h12
  obtain ⟨p,rfl,p0,p1⟩:=whV_iff.mp h13
  obtain ⟨q,rfl,q0,q1⟩:=whV_iff.mp h14
  obtain ⟨l,rfl,l0,l1⟩:=whV_iff.mp h2
  cases x6 with
  |bl b=>
   obtain ⟨p,rfl⟩:∃n:Nat,p=(n:Int):=⟨p.toNat,by omega⟩
   obtain ⟨q,rfl⟩:∃n:Nat,q=(n:Int):=⟨q.toNat,by omega⟩
   obtain ⟨l,rfl⟩:∃n:Nat,l=(n:Int):=⟨l.toNat,by omega⟩
   exact ⟨r,((z,p,q,w),l,b),rfl,h,nk,⟨by show p<N;omega,by show q<N;omega,fun e=>h15 (by rw [show p=q from e])⟩,⟨w0,w1⟩,l1⟩
  |_=>exact absurd h3 (by simp [isBl])
theorem rowL_not6 {H:Hp} {N:Nat} {r:Addr} {xs:List V} (h:H r=some (.tup xs)) (l:xs.length≠6):¬RowAtL H N (.ref r):=fun ⟨r',x,e,hx,_⟩=>by
 cases e
 rw [h] at hx
 injection hx with hx
 injection hx with hx
 rw [hx] at l
 exact l rfl
theorem nt_rowL {H:Hp} {N:Nat} {v:V} (h:NotT H v):¬RowAtL H N v:=fun ⟨r,x,e,hx,_⟩=>by
 subst e
 rcases h with (h|⟨b,h⟩|⟨i,h⟩|⟨n,h⟩)|⟨a,xs,h,q⟩|⟨a,xs,h,q⟩
 all_goals cases h
 all_goals rw [q] at hx;cases hx
theorem row_L {H:Hp} {N:Nat} {v:V} (h:RowAt H N v):RowAtL H N v:=let ⟨r,x,e,hx,a,b,c,d⟩:=h;⟨r,x,e,hx,a,b,c,Int.le_trans (Int.le_trans d (lay_4 _)) (by decide)⟩
theorem rowL_same {H H':Hp} {N:Nat} {v:V} (h:AnD H 1 v) (s:Same H H'):RowAtL H' N v↔RowAtL H N v:=by
 constructor
 ·rintro ⟨r,x,rfl,hx,ok⟩
  refine ⟨r,x,rfl,?_,ok⟩
  rcases h with ⟨nt,_⟩|⟨a,xs,e,ha,_⟩
  ·exfalso
   rcases nt with (h|⟨b,h⟩|⟨i,h⟩|⟨n,h⟩)|⟨a,xs,h,q⟩|⟨a,xs,h,q⟩
   all_goals cases h
   all_goals rw [s _ _ q] at hx;cases hx
  ·cases e
   rw [s _ _ ha] at hx
   rw [ha];exact hx
 ·rintro ⟨r,x,rfl,hx,ok⟩
  exact ⟨r,x,rfl,s _ _ hx,ok⟩
theorem rowsL_of {H:Hp} {N:Nat} {xs:List V} (h:∀v∈xs,RowAtL H N v):∃(rs:List Addr) (R:List R6),xs=rs.map V.ref∧RowsAt H rs R∧∀x∈R,RowL N x:=by
 induction xs with
 |nil=>exact ⟨[],[],rfl,⟨rfl,fun i r x e=>by simp at e⟩,fun x hx=>nomatch hx⟩
 |cons v xs ih=>
  obtain ⟨rs,R,e,hR,ok⟩:=ih fun v hv=>h v (List.mem_cons_of_mem _ hv)
  obtain ⟨r,x,e1,hx,ox⟩:=h v List.mem_cons_self
  refine ⟨r::rs,x::R,by rw [e,e1];rfl,⟨by rw [List.length_cons,List.length_cons,hR.1],fun i r' x' a b=> ?_⟩,fun y hy=> ?_⟩
  ·cases i with
   |zero=>cases a;cases b;exact hx
   |succ i=>exact hR.2 i r' x' a b
  ·rcases List.mem_cons.mp hy with rfl|hy
   ·exact ox
   ·exact ok y hy
theorem eqs_nil {K:PySem.W.Frag} {H:Hp} {n:Nat} {a b:Addr} {xs:List V} (h1:SqL K H a xs) (h2:SqL K H b []):Eqs K H (n+1) (.ref a) (.ref b) xs.isEmpty:=by
 refine .inr (.inl ⟨a,b,xs,[],fun _=>true,rfl,rfl,.inr ⟨h1,h2⟩,fun j p q _ hq=>by simp at hq,?_⟩)
 cases xs<;> simp
theorem fr_fr {R:List R6} {L:Nat}:(R.filter (frB L)).filter (frB (L+1))=R.filter (frB (L+1)):=by
 rw [List.filter_filter]
 refine List.filter_congr fun x _=> ?_
 simp only [frB]
 rw [Bool.eq_iff_iff,Bool.and_eq_true,decide_eq_true_eq,decide_eq_true_eq]
 omega
theorem fr_kp {R:List R6} {L:Nat}:(R.filter (frB L)).filter (fun x=>x.2.2)=R.filter (kpB L):=by
 rw [List.filter_filter]
 refine List.filter_congr fun x _=> ?_
 simp only [frB,kpB]
 cases x.2.2<;> simp
theorem fr_0 (R:List R6):R.filter (frB 0)=R:=List.filter_eq_self.mpr fun x _=>decide_eq_true (Nat.zero_le _)
theorem kp0_snoc {R:List R6} {i:Nat} {x:R6} (e:R[i]? =some x):tiF (R.take (i+1)) (kpB 0)=tiF (R.take i) (kpB 0)++(if x.2.2=true then [x.1] else []):=by
 rw [List.take_add_one,e]
 show tiF (R.take i++[x]) (kpB 0)=_
 rw [ti_snoc]
 congr 1
theorem kp0_split {R:List R6} {i:Nat} {x:R6} (e:R[i]? =some x) (k:x.2.2=true):tiF R (kpB 0)=tiF (R.take i) (kpB 0)++x.1::tiF (R.drop (i+1)) (kpB 0):=by
 have hi:=(List.getElem?_eq_some_iff.mp e).1
 have:R=R.take i++x::R.drop (i+1):=by
  have e':R[i]=x:=(List.getElem?_eq_some_iff.mp e).2
  rw [←e',List.getElem_cons_drop,List.take_append_drop]
 conv=>lhs;rw [this]
 unfold tiF
 rw [List.filter_append,List.map_append,List.filter_cons_of_pos (by simp [kpB,k])]
 rfl
theorem row_5 (x:R6):atI (rowV x) 5=some (.bl x.2.2):=rfl
theorem row_4 (x:R6):atI (rowV x) 4=some (.int (x.2.1:Int)):=rfl
theorem rows_fil {H:Hp} {qs:List Addr} {F:List R6} {j:Nat} {x:R6} {r:Addr} {p:R6→Bool} (h:RowsAt H qs ((F.take j).filter p)) (e:F[j]? =some x) (hr:H r=some (.tup (rowV x))) (c:p x=true):RowsAt H (qs++[r]) ((F.take (j+1)).filter p):=by
 rw [List.take_add_one,e]
 show RowsAt H (qs++[r]) ((F.take j++[x]).filter p)
 rw [List.filter_append,List.filter_cons_of_pos c,List.filter_nil]
 exact h.snoc hr
theorem rows_skip {H:Hp} {qs:List Addr} {F:List R6} {j:Nat} {x:R6} {p:R6→Bool} (h:RowsAt H qs ((F.take j).filter p)) (e:F[j]? =some x) (c:¬p x=true):RowsAt H qs ((F.take (j+1)).filter p):=by
 rw [List.take_add_one,e]
 show RowsAt H qs ((F.take j++[x]).filter p)
 rw [List.filter_append,List.filter_cons_of_neg c,List.filter_nil,List.append_nil]
 exact h
theorem rm_lt {m:Int} {k:Nat} (h1:1≤m) (h2:m≤24) (h:(k:Int)=lay m+1):rm m k<2:=by
 have l0:=lay_0 m
 obtain ⟨j,rfl⟩:∃j,k=j+1:=⟨k - 1,by omega⟩
 have:=(rm_ge (m:=m) (k:=j) h1 h2)
 rw [show (((j+1:Nat)):Int)=(j:Int)+1 by omega] at h ⊢
 exact Int.not_le.mp fun z=>by have:=this.mp z;omega
theorem tops_map {N:Nat} {S:List T4}:(Bf N S).map (fun l=>(Bf N S).count l)=(List.range N).map fun v=>(Bf N S).count ((Bf N S).getD v 0):=by
 have e:Bf N S=(List.range N).map fun v=>(Bf N S).getD v 0:=by
  refine List.ext_getElem? fun i=> ?_
  rw [List.getElem?_map]
  by_cases hi:i<N
  ·rw [List.getElem?_range hi,Bh (by rw [Cl];exact hi)]
   simp [List.getD,Cl,hi]
  ·rw [List.getElem?_eq_none (by rw [Cl];omega),List.getElem?_eq_none (by rw [List.length_range];omega)];rfl
 conv=>lhs;arg 2;rw [e]
 rw [List.map_map];rfl
section
variable {P:Program} {w:World} {K:PySem.W.Frag} {mg:Str→Option Value} {base:Heap}
theorem scLWhole:Av ["_law_thing","_law_least","_law_most"] ["_law_thing","_law_least","_law_most"] (Ae sLWhole):=⟨rfl,rfl,rfl,by decide+kernel,rfl,by decide+kernel,by decide+kernel⟩
theorem ok_LWhole {f:Addr} {fd:FuncData} (F:Fun K "_law_whole" "_law_whole" sLWhole f fd) (T:Txt mg):
  FnOk P w K mg base CX0 1 f fd ["_law_thing","_law_least","_law_most"] spLWhole:=by
 refine F.ok scLWhole (fun vs H Q E h=> ?_) (fun cdv A outer s H vs Q E hr h=> ?_)
 ·obtain ⟨_,_,_,rfl,_⟩:=h;rfl
 ·obtain ⟨v,lo,hi,rfl,hv,k⟩:=h
  refine ⟨_,Ah (Al (Cg (Aj Bq (by rfl) T.isinstance (by decide+kernel) (Aa (pv 0) (Aa (pe_ty (T:="int") (by rfl) T.int (by decide+kernel)) Ac))) (Cg (pe_not (Aj Bq (by rfl) T.isinstance (by decide+kernel) (Aa (pv 0) (Aa (pe_ty (T:="bool") (by rfl) T.bool (by decide+kernel)) Ac)))) (pe_one (pe_chain op_le op_le (pv 1) (pv 0) (pv 2)))))),?_⟩
  obtain ⟨t,h1,h2⟩:=hv.int (K:=K)
  obtain ⟨t2,h3,h4⟩:=hv.bool (K:=K)
  cases v with
  |int i=>
   refine ⟨_,rfl,_,_,"int",true,rfl,h1,h2,_,rfl,Be ⟨_,rfl,_,_,"bool",false,rfl,h3,h4,_,rfl,?_⟩⟩
   refine ⟨_,rfl,Be ⟨_,rfl,_,rfl,_,_,rfl,rfl,_,rfl,?_⟩⟩
   have k:Q (.bl (decide (lo≤i) && decide (i≤hi))) H:=k
   by_cases g:lo≤i
   ·rw [decide_eq_true g] at k ⊢
    exact Be ⟨_,rfl,_,_,rfl,rfl,k⟩
   ·rw [decide_eq_false g] at k ⊢
    exact Bi k
  |bl y=>exact ⟨_,rfl,_,_,"int",true,rfl,h1,h2,_,rfl,Be ⟨_,rfl,_,_,"bool",true,rfl,h3,h4,_,rfl,_,rfl,Bi k⟩⟩
  |_=>exact ⟨_,rfl,_,_,"int",false,rfl,h1,h2,_,rfl,Bi k⟩
theorem scLName:Av ["_law_thing"] ["_law_thing"] (Ae sLName):=⟨rfl,rfl,rfl,by decide+kernel,rfl,by decide+kernel,by decide+kernel⟩
theorem ok_LName {f:Addr} {fd:FuncData} (F:Fun K "_law_is_name" "_law_is_name" sLName f fd) (T:Txt mg):
  FnOk P w K mg base CX0 1 f fd ["_law_thing"] spLName:=by
 refine F.ok scLName (fun vs H Q E h=> ?_) (fun cdv A outer s H vs Q E hr h=> ?_)
 ·obtain ⟨_,rfl,_⟩:=h;rfl
 ·obtain ⟨v,rfl,hv,k⟩:=h
  refine ⟨_,Ag (Bs (PW.pt (pw_or (Bu (Br (Aj Bq (by rfl) T.isinstance (by decide+kernel) (Aa (pv 0) (Aa (pe_ty (T:="str") (by rfl) T.str (by decide+kernel)) Ac))))) (pw_or1 (Bu (pt_chain op_le op_le Af (Aj call_len_str (by rfl) T.len PySem.boot_len (Aa (pv 0) Ac)) Af))))) (Ah (Al B6)) A7)
   (Ah (Al (Ce (op_eqNil hr.units) (Bn (T:=["_law_sign"]) (F:=[]) (js:=[]) (CS.to (osc:=Ae sLName) ⟨by rfl,by decide+kernel,by decide+kernel,by decide+kernel,by decide+kernel,by decide+kernel,by decide+kernel⟩ rfl rfl) rfl (pi_str (pv 0)) (fun _ _ _ _ _=>Ak (i:=0) (show (["_law_sign"]:List Str).Nodup by decide+kernel) rfl (Or.inl rfl)) (fun _ _ _ _ _=>Ch (Az op_notIn_str (pv 0) pe_str (by rfl))) (fun _ _ _ _ _=>pv 0)) (Ca Ac) (Aw _)))),?_⟩
  obtain ⟨t,h1,h2⟩:=hv.1.str (K:=K)
  cases v with
  |str z=>
   refine ⟨_,rfl,_,_,"str",true,rfl,h1,h2,true,rfl,Bi ?_⟩
   have zl:z.length=z.cps.size:=rfl
   have k:∀H',Same H H'→Q (.bl (decide (1≤z.length) && decide (z.length≤8) && z.cps.toList.all fun c=>decide (97≤c) && decide (c≤122))) H':=k
   have big:=hv.2 z rfl
   refine ⟨_,rfl,z,rfl,Ax (by omega),_,_,rfl,rfl,_,rfl,?_⟩
   by_cases g1:1≤z.length
   rotate_left
   ·rw [decide_eq_false (show ¬(1:Int)≤(z.length:Int) by omega)]
    rw [decide_eq_false g1,Bool.false_and,Bool.false_and] at k
    exact Bi ⟨_,rfl,Be (k H (Bb H))⟩
   rw [decide_eq_true (show (1:Int)≤(z.length:Int) by omega)]
   refine Be ⟨_,_,rfl,rfl,_,rfl,?_⟩
   by_cases g2:z.length≤8
   rotate_left
   ·rw [decide_eq_false (show ¬(z.length:Int)≤8 by omega)]
    rw [decide_eq_false g2,Bool.and_false,Bool.false_and] at k
    exact Be (k H (Bb H))
   rw [decide_eq_true (show (z.length:Int)≤8 by omega)]
   rw [decide_eq_true g1,decide_eq_true g2,Bool.true_and,Bool.true_and] at k
   refine Bi ?_
   dsimp only [Bv]
   refine ⟨_,rfl,z,rfl,fun D hD=>comp_str (z:=z) (fun i σ ys H2=>∃v,σ=[v]∧Same H H2∧H2 D=some (.lst ys)∧ys=((z.cps.toList.take i).filter fun c=> !(decide (97≤c) && decide (c≤122))).map fun c=>V.str ⟨#[c]⟩) ⟨none,rfl,Ad hD,Ab,rfl⟩ (fun i σ ys H2 _ ⟨_,_,_,e,_⟩=>e) ?_ ?_⟩
   ·rintro i c σ ys H2 hc' ⟨v,rfl,s2,e2,rfl⟩
    have hil:i<z.cps.size:=(Array.getElem?_eq_some_iff.mp hc').1
    have hcl:z.cps.toList[i]? =some c:=by rw [Array.getElem?_toList];exact hc'
    have tk:((z.cps.toList.take (i+1)).filter fun c=> !(decide (97≤c) && decide (c≤122)))=((z.cps.toList.take i).filter fun c=> !(decide (97≤c) && decide (c≤122)))++(if (!(decide (97≤c) && decide (c≤122)))=true then [c] else []):=by
     rw [List.take_add_one,hcl,List.filter_append]
     congr 1
     show [c].filter _=_
     rw [List.filter_cons,List.filter_nil]
    refine ⟨_,rfl,_,_,rfl,rfl,?_⟩
    rw [found_alpha]
    refine ⟨_,rfl,Ci (fun g=> ?_) fun g=> ?_⟩
    ·rw [if_pos g] at tk
     exact ⟨_,rfl,e2,Ar (by rw [List.length_map];have:=List.length_filter_le (fun c=> !(decide (97≤c) && decide (c≤122))) (z.cps.toList.take i);rw [List.length_take] at this;omega),_,rfl,A2 s2 hD,Ab,by rw [tk,List.map_append];rfl⟩
    ·rw [if_neg g,List.append_nil] at tk
     exact ⟨_,rfl,s2,e2,by rw [tk]⟩
   ·rintro σ ys H2 ⟨v,rfl,s2,e2,rfl⟩
    rw [show z.cps.size=z.cps.toList.length by simp,List.take_length] at e2
    refine ⟨Ax (by simp),fun q hq=>⟨D,q,_,rfl,rfl,SqL.of (Ad hq _ _ e2),SqL.of Ab,?_⟩⟩
    rw [show ((z.cps.toList.filter fun c=> !(decide (97≤c) && decide (c≤122))).map fun c=>V.str ⟨#[c]⟩).isEmpty=z.cps.toList.all fun c=>decide (97≤c) && decide (c≤122) by
     rw [List.isEmpty_map,Bool.eq_iff_iff,List.isEmpty_iff,List.filter_eq_nil_iff,List.all_eq_true]
     exact forall_congr' fun c=>forall_congr' fun _=>by simp]
    exact k _ (s2.trans (Ad hq))
  |_=>exact ⟨_,rfl,_,_,"str",false,rfl,h1,h2,false,rfl,Be (k H (Bb H))⟩
theorem scLRow:Av ["_law_thing","_law_many_here"] ["_law_thing","_law_many_here"] (Ae sLRow):=⟨rfl,rfl,rfl,by decide+kernel,rfl,by decide+kernel,by decide+kernel⟩
theorem ok_LRow {f:Addr} {fd:FuncData} (F:Fun K "_law_is_row" "_law_is_row" sLRow f fd) (T:Txt mg)
  {gLName:Addr} {fLName:FuncData} (kLName:PySem.W.keepIn K (.ref gLName)=true) (bLName:Binds K fLName ["_law_thing"] []) (hLName:mg "_law_is_name"=some (.ref gLName)) (GLName:FnOk P w K mg base CX0 1 gLName fLName ["_law_thing"] spLName)
  {gLWhole:Addr} {fLWhole:FuncData} (kLWhole:PySem.W.keepIn K (.ref gLWhole)=true) (bLWhole:Binds K fLWhole ["_law_thing","_law_least","_law_most"] []) (hLWhole:mg "_law_whole"=some (.ref gLWhole)) (GLWhole:FnOk P w K mg base CX0 1 gLWhole fLWhole ["_law_thing","_law_least","_law_most"] spLWhole):
  FnOk P w K mg base CX0 2 f fd ["_law_thing","_law_many_here"] spLRow:=by
 refine F.ok scLRow (fun vs H Q E h=> ?_) (fun cdv A outer s H vs Q E hr h=> ?_)
 ·obtain ⟨_,_,rfl,_⟩:=h;rfl
 ·obtain ⟨v,N,rfl,hv,k⟩:=h
  refine ⟨_,Ag (Bs (PW.pt (pw_or (Bu (Br (Aj Bq (by rfl) T.isinstance (by decide+kernel) (Aa (pv 0) (Aa (pe_ty (T:="tuple") (by rfl) T.tuple (by decide+kernel)) Ac))))) (pw_or (Az op_ne (Aj Bc (by rfl) T.len PySem.boot_len (Aa (pv 0) Ac)) Af (Aw _)) (pw_or1 (Bu (Br (Ai GLName hr rfl hLName kLName bLName .nil Aq (Aa (At A9 (pv 0) Af (fun _ _=>rfl)) Ac)))))))) (Ah (Al B6)) A7)
   (Ag (Bs (PW.pt (pw_or (Bu (Br (Ai GLWhole hr rfl hLWhole kLWhole bLWhole .nil Aq (Aa (At A9 (pv 0) Af (fun _ _=>rfl)) (Aa Af (Aa (Am op_sub (pv 1) Af) Ac)))))) (pw_or (Bu (Br (Ai GLWhole hr rfl hLWhole kLWhole bLWhole .nil Aq (Aa (At A9 (pv 0) Af (fun _ _=>rfl)) (Aa Af (Aa (Am op_sub (pv 1) Af) Ac)))))) (pw_or1 (Az op_eq (At A9 (pv 0) Af (fun _ _=>rfl)) (At A9 (pv 0) Af (fun _ _=>rfl)) (Aw _)))))) (Ah (Al B6)) A7)
   (Ah (Al (Cg (Ai GLWhole hr rfl hLWhole kLWhole bLWhole .nil Aq (Aa (At A9 (pv 0) Af (fun _ _=>rfl)) (Aa Af (Aa (Am op_pow Af Af) Ac)))) (Cg (Ai GLWhole hr rfl hLWhole kLWhole bLWhole .nil Aq (Aa (At A9 (pv 0) Af (fun _ _=>rfl)) (Aa Af (Aa (Am op_pow Af Af) Ac)))) (pe_one (Aj Bq (by rfl) T.isinstance (by decide+kernel) (Aa (At A9 (pv 0) Af (fun _ _=>rfl)) (Aa (pe_ty (T:="bool") (by rfl) T.bool (by decide+kernel)) Ac))))))))),?_⟩
  rcases hv with ⟨nt,_⟩|⟨r,xs,rfl,hr0,l9,han⟩
  ·obtain ⟨t,h1,h2⟩:=nt.tup (K:=K)
   exact ⟨_,rfl,v,t,"tuple",false,rfl,h1,h2,_,rfl,Be (k false H (Bb H) (ff (nt_rowL nt)))⟩
  refine ⟨_,rfl,.ref r,.type "tuple","tuple",true,rfl,.tup hr0,rfl,_,rfl,Bi ?_⟩
  refine ⟨_,rfl,r,_,rfl,.inr (SqT.of hr0),rfl,_,rfl,Ci (fun g=> ?_) fun g=> ?_⟩
  ·refine k false H (Bb H) (ff (rowL_not6 hr0 fun z=> ?_))
   rw [z] at g
   exact absurd g (by decide)
  have l6:xs.length=6:=by
   have:(xs.length:Int)=6:=Classical.byContradiction fun z=>g (by simp [z])
   omega
  obtain ⟨x1,x2,x3,x4,x5,x6,rfl⟩:=six l6
  have a1:=han x1 (by simp)
  have a2:=han x2 (by simp)
  have a3:=han x3 (by simp)
  have a4:=han x4 (by simp)
  have a5:=han x5 (by simp)
  have a6:=han x6 (by simp)
  refine ⟨_,rfl,r,_,0,_,rfl,rfl,SqT.of hr0,Ay (j:=0) rfl,x1,rfl,a1,fun H1 s1=>⟨_,rfl,?_⟩⟩
  have h1:=s1 _ _ hr0
  have k:=fun b=>k b H1 s1
  rw [rowL_iff hr0] at k
  unfold tieB at k
  cases n1:nameV x1 with
  |false=>exact Be (k false (ff fun z=>by rw [n1] at z;cases z.1))
  |true=>
   refine Bi ?_
   dsimp only [Bv]
   refine ⟨_,rfl,r,_,1,_,rfl,rfl,SqT.of h1,Ay (j:=1) rfl,_,rfl,_,_,rfl,rfl,x2,_,_,rfl,(a2.same s1).an,_,rfl,?_⟩
   cases n2:whV x2 0 ((N:Int) - 1) with
   |false=>exact Be (k false (ff fun z=>by rw [n2] at z;simp at z))
   |true=>
    refine Bi ⟨_,rfl,r,_,2,_,rfl,rfl,SqT.of h1,Ay (j:=2) rfl,_,rfl,_,_,rfl,rfl,x3,_,_,rfl,(a3.same s1).an,_,rfl,?_⟩
    cases n3:whV x3 0 ((N:Int) - 1) with
    |false=>exact Be (k false (ff fun z=>by rw [n3] at z;simp at z))
    |true=>
     obtain ⟨i,rfl,_⟩:=whV_iff.mp n2
     obtain ⟨j,rfl,_⟩:=whV_iff.mp n3
     refine Bi ⟨_,rfl,r,_,1,_,rfl,rfl,SqT.of h1,Ay (j:=1) rfl,_,rfl,r,_,2,_,rfl,rfl,SqT.of h1,Ay (j:=2) rfl,rfl,_,rfl,Ci (fun g=>k false (ff fun z=>by rw [g] at z;simp at z)) fun g=> ?_⟩
     have g:decide (V.int i=V.int j)=false:=by simpa using g
     dsimp only [Bv]
     refine ⟨_,rfl,r,_,3,_,rfl,rfl,SqT.of h1,Ay (j:=3) rfl,_,_,rfl,rfl,⟨by decide,by decide,by decide⟩,x4,_,_,rfl,(a4.same s1).an,_,rfl,?_⟩
     rw [show (10:Int) ^ (9:Int).toNat=1000000000 by decide]
     cases n4:whV x4 0 1000000000 with
     |false=>exact Bi (k false (ff fun z=>by rw [n4] at z;simp at z))
     |true=>
      refine Be ⟨_,rfl,r,_,4,_,rfl,rfl,SqT.of h1,Ay (j:=4) rfl,_,_,rfl,rfl,⟨by decide,by decide,by decide⟩,x5,_,_,rfl,(a5.same s1).an,_,rfl,?_⟩
      rw [show (41:Int).toNat=41 from rfl]
      cases n5:whV x5 0 (10 ^ 41) with
      |false=>exact Bi (k false (ff fun z=>by rw [n5] at z;cases z.2.1))
      |true=>
       obtain ⟨t,h3,h4⟩:=(a6.same s1).an.bool (K:=K)
       refine Be ⟨_,rfl,r,_,5,_,rfl,rfl,SqT.of h1,Ay (j:=5) rfl,x6,t,"bool",isBl x6,rfl,h3,h4,k _ ⟨fun z=>⟨?_,n5,z⟩,fun z=>z.2.2⟩⟩
       rw [n1,n2,n3,n4,g];rfl
end
end K34
namespace K34
open PySem L2 Wk
def GInv (H0:Hp) (N:Nat) (R:List R6) (tp d:Addr) (u3 u4 u5:Option V) (m:Nat) (σ:St) (H:Hp):Prop:=∃(L:Nat) (hr:Addr) (qs:List Addr) (u8:Option V),σ=[some (.int (N:Int)),some (.ref tp),some (.ref d),u3,u4,u5,some (.int (L:Int)),some (.ref hr),u8]∧m=10 - L∧Same H0 H∧H hr=some (.lst (qs.map V.ref))∧RowsAt H qs (R.filter (frB L))∧(L:Int)≤lay N+1∧∀L':Nat,L'<L→SameL R L'∧SizeL N R L'
section
variable {P:Program} {w:World} {K:PySem.W.Frag} {mg:Str→Option Value} {base:Heap}
theorem scGood:Av ["_law_many_here","_law_rows","_law_lead","_law_row","_law_one","_law_other","_law_layer","_law_here","_law_tops_here"] ["_law_many_here","_law_rows"] (Ae sGood):=⟨rfl,rfl,rfl,by decide+kernel,rfl,by decide+kernel,by decide+kernel⟩
theorem ok_Good {f:Addr} {fd:FuncData} (F:Fun K "_law_good" "_law_good" sGood f fd) (T:Txt mg)
  {gTops:Addr} {fTops:FuncData} (kTops:PySem.W.keepIn K (.ref gTops)=true) (bTops:Binds K fTops ["_law_many_here","_law_rows"] []) (hTops:mg "_law_tops"=some (.ref gTops)) (GTops:FnOk P w K mg base CX0 1 gTops fTops ["_law_many_here","_law_rows"] spTops)
  {gHalved:Addr} {fHalved:FuncData} (kHalved:PySem.W.keepIn K (.ref gHalved)=true) (bHalved:Binds K fHalved ["_law_many_here","_law_layer"] []) (hHalved:mg "_law_halved"=some (.ref gHalved)) (GHalved:FnOk P w K mg base CX0 1 gHalved fHalved ["_law_many_here","_law_layer"] spHalved):
  FnOk P w K mg base CX0 2 f fd ["_law_many_here","_law_rows"] spGood:=by
 refine F.ok scGood (fun vs H Q E h=> ?_) (fun cdv A outer s H vs Q E hr h=> ?_)
 ·obtain ⟨_,_,_,_,rfl,_⟩:=h;rfl
 ·obtain ⟨tp,rs,N,R,rfl,ht,hR,N1,N24,R60,tok,k⟩:=h
  refine ⟨_,Ag (As (i:=2) scGood.nd rfl (Or.inl rfl) (Bt (call_list_rng rfl) (by rfl) T.list (by decide+kernel) (Aa (Bt call_range1 (by rfl) T.range (by decide+kernel) (Aa (pv 0) Ac)) Ac)))
   (Ag (ps_for PassesOwn.never rfl (pi_tup (pv 1)) (Ak (i:=3) scGood.nd rfl (Or.inl rfl)) (Ag (As (i:=4) scGood.nd rfl (Or.inl rfl) (At A9 (pv 3) Af (fun _ _=>rfl)))
   (Ag (As (i:=5) scGood.nd rfl (Or.inl rfl) (At A9 (pv 3) Af (fun _ _=>rfl)))
   (Ag (ps_while PassesOwn.never (Az op_ne (At A3 (pv 2) (pv 4) (fun _ _=>rfl)) (pv 4) (Aw _)) (Ah (As (i:=4) scGood.nd rfl (Or.inl rfl) (At A3 (pv 2) (pv 4) (fun _ _=>rfl)))))
   (Ag (ps_while PassesOwn.never (Az op_ne (At A3 (pv 2) (pv 5) (fun _ _=>rfl)) (pv 5) (Aw _)) (Ah (As (i:=5) scGood.nd rfl (Or.inl rfl) (At A3 (pv 2) (pv 5) (fun _ _=>rfl)))))
   (Ag (Bs (PW.pt (pw_and (Br (At A9 (pv 3) Af (fun _ _=>rfl))) (pw_and1 (Az op_eq (pv 4) (pv 5) (Aw _))))) (Ah (Al B6)) A7)
   (Ah (Bs (Br (At A9 (pv 3) Af (fun _ _=>rfl))) (Ah (ps_asg (Aj (call_min2 rfl) (by rfl) T.min (by decide+kernel) (Aa (pv 4) (Aa (pv 5) Ac))) (pg_sub (pv 2) (Aj (call_max2 rfl) (by rfl) T.max (by decide+kernel) (Aa (pv 4) (Aa (pv 5) Ac))) set_list))) A7))))))))
   (Ag (As (i:=6) scGood.nd rfl (Or.inr rfl) Af)
   (Ag (As (i:=7) scGood.nd rfl (Or.inl rfl) (Bt call_list_of (by rfl) T.list (by decide+kernel) (Aa (pv 1) Ac)))
   (Ag (ps_while PassesOwn.never (Az (op_nes hr.units) (pv 7) (Ca Ac) (Aw _)) (Ag (As (i:=8) scGood.nd rfl (Or.inr rfl) (Ai GTops hr rfl hTops kTops bTops .nil Aq (Aa (pv 0) (Aa (Bn (T:=["_law_row"]) (F:=[]) (js:=[]) (CS.to (osc:=Ae sGood) ⟨by rfl,by decide+kernel,by decide+kernel,by decide+kernel,by decide+kernel,by decide+kernel,by decide+kernel⟩ rfl rfl) rfl (Cj (pv 7)) (fun _ _ _ _ _=>Ak (i:=0) (show (["_law_row"]:List Str).Nodup by decide+kernel) rfl (Or.inl rfl)) (fun _ _ _ _ _=>Ch (Br (At (r:=rIxT K) A9 (pv 0) Af (fun _ _=>rfl)))) (fun _ _ _ _ _=>pv 0)) Ac))))
   (Ag (Bs (Az (op_nes hr.units) (Bn (T:=["_law_row"]) (F:=["_law_tops_here"]) (js:=[8]) (CS.to (osc:=Ae sGood) ⟨by rfl,by decide+kernel,by decide+kernel,by decide+kernel,by decide+kernel,by decide+kernel,by decide+kernel⟩ rfl rfl) rfl (Cj (pv 7)) (fun _ _ _ _ _=>Ak (i:=0) (show (["_law_row","_law_tops_here"]:List Str).Nodup by decide+kernel) rfl (Or.inl rfl)) (fun _ _ _ _ _=>Ch (Az op_ne (At (r:=rIxL K) A3 (pv 1) (At (r:=rIxT K) A9 (pv 0) Af (fun _ _=>rfl)) (fun _ _=>rfl)) (At (r:=rIxL K) A3 (pv 1) (At (r:=rIxT K) A9 (pv 0) Af (fun _ _=>rfl)) (fun _ _=>rfl)) (Aw _))) (fun _ _ _ _ _=>pv 0)) (Ca Ac) (Aw _)) (Ah (Al B6)) A7)
   (Ag (Bs (Az op_gt (Aj (call_maxL rfl) (by rfl) T.max (by decide+kernel) (Aa (Bn (T:=["_law_top"]) (F:=["_law_tops_here"]) (js:=[8]) (CS.to (osc:=Ae sGood) ⟨by rfl,by decide+kernel,by decide+kernel,by decide+kernel,by decide+kernel,by decide+kernel,by decide+kernel⟩ rfl rfl) rfl (Cj (pv 8)) (fun _ _ _ _ _=>Ak (i:=0) (show (["_law_top","_law_tops_here"]:List Str).Nodup by decide+kernel) rfl (Or.inl rfl)) (fun _ _ _ _ _=>Cd) (fun _ _ _ _ _=>pe_bmK K rfl PySem.F.plainAttrs_list PySem.F.slot_list_count PySem.F.type_list_count mt_countL (pv 1) (Aa (pv 0) Ac))) Ac)) (Ai GHalved hr rfl hHalved kHalved bHalved .nil Aq (Aa (pv 0) (Aa (pv 6) Ac))) (Aw _)) (Ah (Al B6)) A7)
   (Ag (As (i:=6) scGood.nd rfl (Or.inr rfl) (Am Bp (pv 6) Af))
   (Ah (ps_comp (i:=7) (T:=["_law_row"]) (F:=["_law_layer"]) (js:=[6]) scGood.nd rfl (Or.inl rfl) (CS.to (osc:=Ae sGood) ⟨by rfl,by decide+kernel,by decide+kernel,by decide+kernel,by decide+kernel,by decide+kernel,by decide+kernel⟩ rfl rfl) rfl (Cj (pv 7)) (fun _ _ _ _ _=>Ak (i:=0) (show (["_law_row","_law_layer"]:List Str).Nodup by decide+kernel) rfl (Or.inl rfl)) (fun _ _ _ _ _=>Ch (Az op_ge (At (r:=rIxT K) A9 (pv 0) Af (fun _ _=>rfl)) (pv 1) (Aw _))) (fun _ _ _ _ _=>pv 0))))))))
   (Ah (Al B6)))))),?_⟩
  have N60:N≤60:=by omega
  have inN:∀p,InN N (tiF R p):=fun p t ht=>by
   obtain ⟨x,hx,_,rfl⟩:=mem_ti.mp ht
   exact ⟨(tok x hx).1,(tok x hx).2.1⟩
  have inT:∀i,InN N (tiF (R.take i) (kpB 0)):=fun i t ht=>by
   obtain ⟨x,hx,_,rfl⟩:=mem_ti.mp ht
   have:=tok x (List.mem_of_mem_take hx)
   exact ⟨this.1,this.2.1⟩
  have inD:∀i,InN N (tiF (R.drop i) (kpB 0)):=fun i t ht=>by
   obtain ⟨x,hx,_,rfl⟩:=mem_ti.mp ht
   have:=tok x (List.mem_of_mem_drop hx)
   exact ⟨this.1,this.2.1⟩
  refine ⟨_,rfl,(N:Int),rfl,fun q hq=>⟨q,0,(N:Int),rfl,Ab,⟨by omega,by omega,by omega,by omega⟩,by omega,fun d hd=> ?_⟩⟩
  rw [Int.sub_zero,nV_rints]
  have s1:=(Ad (H:=H) (o:= .rng 0 (N:Int)) hq).trans (Ad (o:= .lst (nV (List.range N))) hd)
  have l1:=Ab (H:=upd H q (.rng 0 (N:Int))) (a:=d) (o:= .lst (nV (List.range N)))
  have dn:=none_of (Ad (H:=H) (o:= .rng 0 (N:Int)) hq) hd
  generalize upd (upd H q (.rng 0 (N:Int))) d (.lst (nV (List.range N)))=H1 at s1 l1
  clear hq hd q
  refine ⟨_,rfl,tp,rfl,⟨_,SqT.of (s1 _ _ ht)⟩,for_tup (K:=K) (a:=tp) (xs:=rs.map V.ref) (fun i σ H2=>∃(u3 u4 u5:Option V) (ld:List Nat),σ=[some (.int (N:Int)),some (.ref tp),some (.ref d),u3,u4,u5,none,none,none]∧Same H H2∧H2 d=some (.lst (nV ld))∧Lds N ld (Bf N (tiF (R.take i) (kpB 0)))∧clsF N (tiF (R.take i) (kpB 0))+(tiF (R.take i) (kpB 0)).length=N) ⟨_,_,_,_,rfl,s1,l1,lds0 N,cls_nil N⟩ (fun i σ H2 _ ⟨_,_,_,_,_,s,_⟩=>SqT.of (s _ _ ht)) ?_ ?_⟩
  ·rintro i v σ H2 hx ⟨u3,u4,u5,ld,rfl,s2,l2,hld,cl⟩
   obtain ⟨r,er,rfl⟩:=A5 hx
   obtain ⟨x,ex,hx0⟩:=hR.get er
   have hx2:=s2 _ _ hx0
   obtain ⟨t1,t2,t3⟩:=tok x (List.mem_of_getElem? ex)
   have low:=labF_low (inT i)
   have hlab:(Bf N (tiF (R.take i) (kpB 0))).length=N:=low.1
   have li:=lab_iff (inT i) t1 t2
   have sn:∀t,Bf N (tiF (R.take i) (kpB 0)++[t])=labS (Bf N (tiF (R.take i) (kpB 0))) t:=fun t=>labF_snoc
   have kp:=kp0_snoc ex
   have ks:=kp0_split ex
   have i1:=inT i
   have i2:=inD (i+1)
   generalize hT:tiF (R.take i) (kpB 0)=T at *
   generalize hlb:Bf N T=lab at hld low hlab li sn
   have lead:∀p,p<N→ld.getD p 0≤p∧lab.getD (ld.getD p 0) 0=lab.getD p 0∧(ld.getD p 0=p→lab.getD p 0=p):=hld.2
   have ll:=hld.1
   refine ⟨_,rfl,r,_,1,_,rfl,rfl,SqT.of hx2,row_1 x,?_⟩
   refine ⟨_,rfl,r,_,2,_,rfl,rfl,SqT.of hx2,row_2 x,?_⟩
   refine while_by (fun σ H'=>∃p:Nat,σ=[some (.int (N:Int)),some (.ref tp),some (.ref d),some (.ref r),some (.int (p:Int)),some (.int (x.1.2.2.1:Int)),none,none,none]∧H2=H'∧p<N∧lab.getD p 0=lab.getD x.1.2.1 0) (fun (σ:St) (_:Hp)=>match σ[4]? with|some (some (V.int i))=>i.toNat|_=>0) ⟨x.1.2.1,rfl,rfl,t1,rfl⟩ ?_ (fun σ H' Q Q' f h=>by
   obtain ⟨v,e,v2,e2,p,ys,i,x,q1,q2,q3,q4,v3,e3,q5,b,q6,q7⟩:=h
   exact ⟨v,e,v2,e2,p,ys,i,x,q1,q2,q3,q4,v3,e3,q5,b,q6,f _ _ q7⟩)
   rintro σ H' ⟨p,rfl,rfl,hp,ep⟩
   obtain ⟨c1,c2,c3⟩:=lead p hp
   refine ⟨_,rfl,_,rfl,d,_,(p:Int),_,rfl,rfl,SqL.of l2,Bz (by omega),_,rfl,rfl,_,rfl,?_⟩
   by_cases g:ld.getD p 0=p
   rotate_left
   ·rw [show (!decide (V.int ((ld.getD p 0:Nat):Int)=V.int (p:Int)))=true by rw [Bool.not_eq_true',decide_eq_false_iff_not];intro z;injection z with z;omega]
    refine Be ⟨_,rfl,_,rfl,d,_,(p:Int),_,rfl,rfl,SqL.of l2,Bz (by omega),⟨ld.getD p 0,rfl,rfl,by omega,by rw [c2,ep]⟩,?_⟩
    show ((ld.getD p 0:Nat):Int).toNat<(p:Int).toNat
    omega
   rw [show (!decide (V.int ((ld.getD p 0:Nat):Int)=V.int (p:Int)))=false by rw [g,decide_eq_true rfl];rfl]
   refine Bi ?_
   have ez:p=lab.getD x.1.2.1 0:=by rw [←ep,c3 g]
   subst ez
   clear g c1 c2 c3 hp ep
   refine while_by (fun σ H'=>∃p:Nat,σ=[some (.int (N:Int)),some (.ref tp),some (.ref d),some (.ref r),some (.int ((lab.getD x.1.2.1 0:Nat):Int)),some (.int (p:Int)),none,none,none]∧H2=H'∧p<N∧lab.getD p 0=lab.getD x.1.2.2.1 0) (fun (σ:St) (_:Hp)=>match σ[5]? with|some (some (V.int i))=>i.toNat|_=>0) ⟨x.1.2.2.1,rfl,rfl,t2,rfl⟩ ?_ (fun σ H' Q Q' f h=>by
   obtain ⟨v,e,v2,e2,p,ys,i,x,q1,q2,q3,q4,v3,e3,q5,b,q6,q7⟩:=h
   exact ⟨v,e,v2,e2,p,ys,i,x,q1,q2,q3,q4,v3,e3,q5,b,q6,f _ _ q7⟩)
   rintro σ H' ⟨p,rfl,rfl,hp,ep⟩
   obtain ⟨c1,c2,c3⟩:=lead p hp
   refine ⟨_,rfl,_,rfl,d,_,(p:Int),_,rfl,rfl,SqL.of l2,Bz (by omega),_,rfl,rfl,_,rfl,?_⟩
   by_cases g:ld.getD p 0=p
   rotate_left
   ·rw [show (!decide (V.int ((ld.getD p 0:Nat):Int)=V.int (p:Int)))=true by rw [Bool.not_eq_true',decide_eq_false_iff_not];intro z;injection z with z;omega]
    refine Be ⟨_,rfl,_,rfl,d,_,(p:Int),_,rfl,rfl,SqL.of l2,Bz (by omega),⟨ld.getD p 0,rfl,rfl,by omega,by rw [c2,ep]⟩,?_⟩
    show ((ld.getD p 0:Nat):Int).toNat<(p:Int).toNat
    omega
   rw [show (!decide (V.int ((ld.getD p 0:Nat):Int)=V.int (p:Int)))=false by rw [g,decide_eq_true rfl];rfl]
   refine Bi ?_
   have ez:p=lab.getD x.1.2.2.1 0:=by rw [←ep,c3 g]
   subst ez
   have g1:=(low.2 _ t1).1
   have g2:=(low.2 _ t2).1
   refine ⟨_,rfl,r,_,5,_,rfl,rfl,SqT.of hx2,row_5 x,_,rfl,?_⟩
   cases kb:x.2.2 with
   |false=>
    refine Bi (Bi ?_)
    dsimp only [Bv]
    refine ⟨_,rfl,r,_,5,_,rfl,rfl,SqT.of hx2,by rw [row_5,kb],_,rfl,Bi ?_⟩
    rw [kb,if_neg (by simp),List.append_nil] at kp
    exact ⟨_,_,_,ld,rfl,s2,l2,by rw [kp,hlb];exact hld,by rw [kp];exact cl⟩
   |true=>
    refine Be ⟨_,rfl,_,rfl,rfl,_,rfl,?_⟩
    rw [kb,if_pos rfl] at kp
    by_cases e:lab.getD x.1.2.1 0=lab.getD x.1.2.2.1 0
    ·rw [decide_eq_true (by rw [e])]
     refine Be (k false H2 s2 (ff fun z=> ?_))
     have:=ring_cls i1 i2 t1 t2 (li.mp e)
     rw [←ks kb] at this
     have:=z.fo
     omega
    ·rw [decide_eq_false (fun z=>e (by injection z with z;omega))]
     refine Bi ?_
     dsimp only [Bv]
     refine ⟨_,rfl,r,_,5,_,rfl,rfl,SqT.of hx2,by rw [row_5,kb],_,rfl,Be ?_⟩
     refine ⟨_,rfl,_,rfl,_,_,rfl,?_⟩
     rw [if_min]
     refine ⟨_,rfl,_,rfl,_,rfl,_,_,rfl,?_⟩
     rw [if_max]
     refine ⟨d,_,_,_,rfl,rfl,l2,ixN_nat (by rw [nV_len];omega),?_⟩
     rw [nV_set]
     have cs:=cls_less t1 t2 (fun z=>e (li.mpr z))
     exact ⟨_,_,_,_,rfl,A2 s2 dn,Ab,by rw [kp,sn];exact lds_step hld low t1 t2,by rw [kp,List.length_append];show _+(_+1)=N;omega⟩
  rintro σ H2 ⟨u3,u4,u5,ld,rfl,s2,l2,hld,cl⟩
  rw [List.length_map,hR.1,List.take_length] at cl
  have l0:=lay_0 (N:Int)
  have l4:=lay_4 (N:Int)
  clear l1 s1 H1 l2 hld dn
  refine ⟨_,rfl,tp,_,rfl,.inr (SqT.of (s2 _ _ ht)),fun hr hhr=> ?_⟩
  have s3:=s2.trans (Ad (o:= .lst (rs.map V.ref)) hhr)
  have g0:GInv H N R tp d u3 u4 u5 10 [some (.int (N:Int)),some (.ref tp),some (.ref d),u3,u4,u5,some (.int ((0:Nat):Int)),some (.ref hr),none] (upd H2 hr (.lst (rs.map V.ref))):=⟨0,hr,rs,_,rfl,rfl,s3,Ab,by rw [fr_0];exact hR.mono fun r xs e=>s3 _ _ e,by omega,fun L' h=>absurd h (Nat.not_lt_zero _)⟩
  refine while_gh (fun m σ H'=>GInv H N R tp d u3 u4 u5 m σ H') g0 ?_ (fun σ H' Q Q' f h=>by
   obtain ⟨v,e,z,g⟩:=h
   exact ⟨v,e,z,fun p hp=>by
    obtain ⟨n,b,a,c,q1,q2,q3,q4,b2,q5,q6⟩:=g p hp
    exact ⟨n,b,a,c,q1,q2,q3,q4,b2,q5,f _ _ q6⟩⟩)
  rintro m σ H3 ⟨L,hr,qs,u8,rfl,rfl,s3,h3,r3,hL,done⟩
  refine ⟨_,rfl,Ax (by simp),fun e he=> ?_⟩
  have s4:=s3.trans (Ad (o:= .lst []) he)
  have h4:=Ad (o:= .lst []) he _ _ h3
  have e4:=Ab (H:=H3) (a:=e) (o:= .lst [])
  have r4:=r3.mono fun r xs q=>Ad (o:= .lst []) he _ _ q
  generalize upd H3 e (.lst [])=H4 at s4 h4 e4 r4 ⊢
  refine ⟨0,_,hr,e,rfl,rfl,by decide,eqs_nil (SqL.of h4) (SqL.of e4),_,rfl,?_⟩
  cases hq:qs with
  |nil=>
   refine Bi (k true H4 s4 (tt ?_))
   rw [hq] at r4
   have nil:R.filter (frB L)=[]:=List.eq_nil_of_length_eq_zero r4.1.symm
   have none':∀x∈R,x.2.1<L:=fun x hx=>Nat.lt_of_not_le fun z=>by
    have:=List.mem_filter.mpr ⟨hx,(show frB L x=true from decide_eq_true z)⟩
    rw [nil] at this
    cases this
   refine ⟨fun x hx=>by have:=none' x hx;omega,by omega,fun L' hL'=> ?_⟩
   by_cases g:L'<L
   ·exact done L' g
   ·have nil':tiF R (frB L')=[]:=by
     unfold tiF
     rw [List.map_eq_nil_iff,List.filter_eq_nil_iff]
     intro x hx
     have:=none' x hx
     simp only [frB,decide_eq_true_eq]
     omega
    refine ⟨(fun t ht=>by rw [nil'] at ht;cases ht),fun p hp=> ?_⟩
    rw [nil',(ls_nil (N:=N) (by omega)).2 p hp]
    exact rm_1 (by omega) (by omega) (by omega) hL'
  |cons q0 qs0=>
   refine Be ?_
   have ql:qs.length≤60:=by rw [r4.1];exact Nat.le_trans (List.length_filter_le _ _) R60
   have bad:¬(SameL R L∧SizeL N R L)∨lay N<(L:Int)→¬LG N R:=fun h z=>by
    rcases h with h|h
    ·by_cases g:(L:Int)≤lay N
     ·exact h (z.at_ L g)
     ·have:q0::qs0≠[]:=by simp
      rw [←hq] at this
      have ne:R.filter (frB L)≠[]:=fun e=>this (List.eq_nil_of_length_eq_zero (by rw [r4.1,e];rfl))
      obtain ⟨x,hx⟩:=List.exists_mem_of_ne_nil _ ne
      obtain ⟨hx1,hx2⟩:=List.mem_filter.mp hx
      have:=z.lo x hx1
      have:L≤x.2.1:=of_decide_eq_true hx2
      omega
    ·have:q0::qs0≠[]:=by simp
     rw [←hq] at this
     have ne:R.filter (frB L)≠[]:=fun e=>this (List.eq_nil_of_length_eq_zero (by rw [r4.1,e];rfl))
     obtain ⟨x,hx⟩:=List.exists_mem_of_ne_nil _ ne
     obtain ⟨hx1,hx2⟩:=List.mem_filter.mp hx
     have:=z.lo x hx1
     have:L≤x.2.1:=of_decide_eq_true hx2
     omega
   have last:(L:Int)=lay N+1→SameL R L→¬SizeL N R L:=fun h sm sz=>by
    have:q0::qs0≠[]:=by simp
    rw [←hq] at this
    have ne:R.filter (frB L)≠[]:=fun e=>this (List.eq_nil_of_length_eq_zero (by rw [r4.1,e];rfl))
    obtain ⟨x,hx⟩:=List.exists_mem_of_ne_nil _ ne
    obtain ⟨t1,t2,t3⟩:=tok x (List.mem_filter.mp hx).1
    have mt:x.1∈tiF R (frB L):=List.mem_map_of_mem hx
    have rr:Reach (tiF R (frB L)) x.1.2.1 x.1.2.2.1:=Reach.step (nb_of mt)
    have m1:=part_self (inN (frB L)) t1 N60
    have m2:x.1.2.2.1∈Ao N (tiF R (frB L)) x.1.2.1:=(Bg (inN (frB L)) t1 N60).mpr ⟨t2,rr⟩
    have nd:(Ao N (tiF R (frB L)) x.1.2.1).Nodup:=(List.nodup_range).sublist List.filter_sublist
    have two:[x.1.2.1,x.1.2.2.1].length≤(Ao N (tiF R (frB L)) x.1.2.1).length:=List.Nodup.length_le_of_subset (by simp [t3]) fun y hy=>by
     simp only [List.mem_cons,List.not_mem_nil,or_false] at hy
     rcases hy with rfl|rfl
     ·exact m1
     ·exact m2
    have two:2≤(Ao N (tiF R (frB L)) x.1.2.1).length:=two
    have:=sz _ t1
    have:=rm_lt (m:=(N:Int)) (k:=L) (by omega) (by omega) h
    omega
   refine ⟨_,rfl,_,rfl,hr,rfl,⟨_,SqL.of h4⟩,fun D hD=>comp_list (K:=K) (a:=hr) (xs:=qs.map V.ref) (fun j σ ys H5=>∃(u:Option V) (ps:List Addr),σ=[u]∧ys=ps.map V.ref∧Same H4 H5∧H5 D=some (.lst ys)∧RowsAt H5 ps (((R.filter (frB L)).take j).filter fun x=>x.2.2)) ⟨none,[],rfl,rfl,Ad hD,Ab,rfl,fun i r t e=>by simp at e⟩ (fun j σ ys H5 _ ⟨_,_,_,_,s,e,_⟩=>⟨SqL.of (s _ _ h4),e⟩) ?_ ?_⟩
   ·rintro j v σ ys H5 hx ⟨u,ps,rfl,rfl,s5,d5,p5⟩
    obtain ⟨r,er,rfl⟩:=A5 hx
    obtain ⟨y,ey,hy⟩:=r4.get er
    have hy5:=s5 _ _ hy
    have pl:ps.length≤60:=by rw [p5.1];exact Nat.le_trans (List.length_filter_le _ _) (Nat.le_trans (List.length_take_le' _ _) (by rw [←r4.1];exact ql))
    refine ⟨_,rfl,r,_,5,_,rfl,rfl,SqT.of hy5,row_5 y,_,rfl,Ci (fun c=> ?_) fun c=> ?_⟩
    ·have kp:∀(r:Addr) (zs:List V) (o:HO),H5 r=some (.tup zs)→upd H5 D o r=some (.tup zs):=fun r zs o e=>by rw [A0 (ne_of e d5 (by intro z;cases z))];exact e
     exact ⟨_,rfl,d5,Ar (by rw [List.length_map];omega),_,ps++[r],rfl,by rw [List.map_append];rfl,A2 s5 hD,Ab,rows_fil (p5.mono fun r zs e=>kp r zs _ e) ey (kp _ _ _ hy5) c⟩
    ·exact ⟨_,ps,rfl,rfl,s5,d5,rows_skip p5 ey c⟩
   rintro σ ys H5 ⟨u,ps,rfl,rfl,s5,d5,p5⟩
   rw [List.length_map,r4.1,List.take_length,fr_kp] at p5
   refine ⟨N,D,ps,R.filter (kpB L),rfl,d5,p5,inN (kpB L),N60,fun lt H6 ltn s6 h6=> ?_⟩
   have h6:H6 lt=some (.lst (nV (Bf N (tiF R (kpB L))))):=h6
   have S6:=s5.trans s6
   have hr6:=S6 _ _ h4
   have r6:=r4.mono fun r xs e=>S6 _ _ e
   have ll:=Cl (N:=N) (S:=tiF R (kpB L))
   clear d5 p5 hD
   refine ⟨_,rfl,hr,rfl,⟨_,SqL.of hr6⟩,fun E hE=>comp_list (K:=K) (a:=hr) (xs:=qs.map V.ref) (fun j σ ys H7=>∃(u:Option V) (ps:List Addr),σ=[u,some (.ref lt)]∧ys=ps.map V.ref∧Same H6 H7∧H7 E=some (.lst ys)∧ps.length≤j∧(ps=[]↔∀x∈(R.filter (frB L)).take j,Reach (tiF R (kpB L)) x.1.2.1 x.1.2.2.1)) ⟨none,[],rfl,rfl,Ad hE,Ab,Nat.le_refl _,by simp⟩ (fun j σ ys H5 _ ⟨_,_,_,_,s,e,_⟩=>⟨SqL.of (s _ _ hr6),e⟩) ?_ ?_⟩
   ·rintro j v σ ys H7 hx ⟨u,ps,rfl,rfl,s7,d7,pl,pq⟩
    obtain ⟨r,er,rfl⟩:=A5 hx
    have hj:j<qs.length:=(List.getElem?_eq_some_iff.mp er).1
    obtain ⟨y,ey,hy⟩:=r6.get er
    have hy7:=s7 _ _ hy
    have h7:=s7 _ _ h6
    have my:=List.mem_of_getElem? ey
    obtain ⟨t1,t2,t3⟩:=tok y (List.mem_filter.mp my).1
    have li:=lab_iff (inN (kpB L)) t1 t2
    have tk:(R.filter (frB L)).take (j+1)=(R.filter (frB L)).take j++[y]:=by rw [List.take_add_one,ey];rfl
    refine ⟨_,rfl,_,rfl,r,_,1,_,rfl,rfl,SqT.of hy7,row_1 y,lt,_,(y.1.2.1:Int),_,rfl,rfl,SqL.of h7,Bz (by omega),_,rfl,_,rfl,r,_,2,_,rfl,rfl,SqT.of hy7,row_2 y,lt,_,(y.1.2.2.1:Int),_,rfl,rfl,SqL.of h7,Bz (by omega),rfl,_,rfl,Ci (fun c=> ?_) fun c=> ?_⟩
    ·refine ⟨_,rfl,d7,Ar (by rw [List.length_map];omega),_,ps++[r],rfl,by rw [List.map_append];rfl,A2 s7 hE,Ab,by rw [List.length_append];show _+1≤_;omega,⟨fun z=>absurd z (by simp),fun z=> ?_⟩⟩
     have:=li.mpr (z y (by rw [tk];simp))
     rw [this] at c
     simp at c
    ·refine ⟨_,ps,rfl,rfl,s7,d7,by omega,?_⟩
     have rr:Reach (tiF R (kpB L)) y.1.2.1 y.1.2.2.1:=li.mp (Classical.byContradiction fun z=>c (by rw [Bool.not_eq_true',decide_eq_false_iff_not];intro w;injection w with w;omega))
     rw [pq,tk]
     constructor
     ·intro z x hx
      rcases List.mem_append.mp hx with h|h
      ·exact z x h
      ·rw [List.mem_singleton.mp h];exact rr
     ·exact fun z x hx=>z x (List.mem_append_left _ hx)
   rintro σ ys H7 ⟨u,ps,rfl,rfl,s7,d7,pl,pq⟩
   rw [List.length_map,r4.1,List.take_length] at pq
   have sm:ps=[]↔SameL R L:=by
    rw [pq]
    constructor
    ·intro z t ht
     obtain ⟨x,hx,g,rfl⟩:=mem_ti.mp ht
     exact z x (List.mem_filter.mpr ⟨hx,g⟩)
    ·exact fun z x hx=>z x.1 (List.mem_map_of_mem hx)
   refine ⟨Ax (by simp),fun w hw=> ?_⟩
   have s8:=(S6.trans s7).trans (Ad (o:= .lst []) hw)
   have s78:=s7.trans (Ad (o:= .lst []) hw)
   have E8:=Ad (o:= .lst []) hw _ _ d7
   have w8:=Ab (H:=H7) (a:=w) (o:= .lst [])
   generalize upd H7 w (.lst [])=H8 at s8 s78 E8 w8 ⊢
   refine ⟨0,_,E,w,rfl,rfl,by decide,eqs_nil (SqL.of E8) (SqL.of w8),_,rfl,?_⟩
   have S8:=s4.trans s8
   cases hp:ps with
   |cons p0 ps0=>
    exact Be (k false H8 S8 (ff (bad (.inl fun z=>by have:=sm.mpr z.1;rw [hp] at this;cases this))))
   |nil=>
    have sm:=sm.mp hp
    refine Bi ?_
    dsimp only [Bv]
    have h8:=s78 _ _ h6
    refine ⟨_,rfl,lt,rfl,⟨_,SqL.of h8⟩,fun G hG=>comp_list (K:=K) (a:=lt) (xs:=nV (Bf N (tiF R (kpB L)))) (fun j σ ys H9=>∃(u:Option V),σ=[u,some (.ref lt)]∧ys=((((Bf N (tiF R (kpB L))).take j).map fun l=>(Bf N (tiF R (kpB L))).count l).map Int.ofNat).map V.int∧Same H8 H9∧H9 G=some (.lst ys)) ⟨none,rfl,rfl,Ad hG,Ab⟩ (fun j σ ys H9 _ ⟨_,_,_,s,e⟩=>⟨SqL.of (s _ _ h8),e⟩) ?_ ?_⟩
    ·rintro j v σ ys H9 hx ⟨u,rfl,rfl,s9,d9⟩
     unfold nV at hx
     obtain ⟨v1,hv1,rfl⟩:=A5 hx
     obtain ⟨l,hl,rfl⟩:=A5 hv1
     have hj:j<N:=by have:=(List.getElem?_eq_some_iff.mp hl).1;omega
     have h9:=s9 _ _ h8
     refine ⟨_,rfl,.inl ⟨rfl,_,SqL.of h9⟩,_,rfl,lt,_,_,rfl,rfl,h9,?_⟩
     rw [show (Int.ofNat l)=(l:Int) from rfl,count_nat]
     refine ⟨d9,Ar (by rw [List.length_map,List.length_map,List.length_map,List.length_take];omega),_,rfl,?_,A2 s9 hG,Ab⟩
     rw [List.take_add_one,hl,List.map_append,List.map_append,List.map_append];rfl
    rintro σ ys H9 ⟨u,rfl,rfl,s9,d9⟩
    rw [show (nV (Bf N (tiF R (kpB L)))).length=(Bf N (tiF R (kpB L))).length from nV_len,List.take_length,tops_map] at d9
    refine ⟨G,_,rfl,SqL.of d9,?_,fun mx hm hle=> ?_⟩
    ·intro z
     have:=congrArg List.length z
     simp at this
     omega
    have S9:=S8.trans s9
    have ec:∀v,v<N→(Bf N (tiF R (kpB L))).count ((Bf N (tiF R (kpB L))).getD v 0)=(Ao N (tiF R (frB L)) v).length:=fun v hv=>by
     rw [lab_count (inN (kpB L)) hv N60]
     rw [part_congr (inN (frB L)) (inN (kpB L)) N60 (fun a b=>⟨fun q=>reach_ties sm q,fun q=>q.mono kp_sub⟩) hv]
    refine ⟨_,rfl,_,rfl,(N:Int),(L:Int),rfl,by omega,by omega,_,_,rfl,rfl,_,rfl,Ci (fun c=> ?_) fun c=> ?_⟩
    ·have c:rm N L<mx:=of_decide_eq_true c
     refine k false H9 S9 (ff (bad (.inl fun z=> ?_)))
     obtain ⟨y,hy,rfl⟩:=List.mem_map.mp hm
     obtain ⟨v,hv,rfl⟩:=List.mem_map.mp hy
     have hv:=List.mem_range.mp hv
     have:=z.2 v hv
     rw [←ec v hv] at this
     have c:rm (N:Int) (L:Int)<(((Bf N (tiF R (kpB L))).count ((Bf N (tiF R (kpB L))).getD v 0):Nat):Int):=c
     omega
    ·have c:¬rm N L<mx:=fun z=>c (decide_eq_true z)
     have sz:SizeL N R L:=fun v hv=>by
      rw [←ec v hv]
      have:=hle (Int.ofNat ((Bf N (tiF R (kpB L))).count ((Bf N (tiF R (kpB L))).getD v 0))) (List.mem_map_of_mem (List.mem_map.mpr ⟨v,List.mem_range.mpr hv,rfl⟩))
      have this:(((Bf N (tiF R (kpB L))).count ((Bf N (tiF R (kpB L))).getD v 0):Nat):Int)≤mx:=this
      omega
     have hL2:(L:Int)+1≤lay N+1:=by
      by_cases q:(L:Int)=lay N+1
      ·exact absurd sz (last q sm)
      ·omega
     dsimp only [Bv]
     refine ⟨_,rfl,_,_,rfl,rfl,?_⟩
     have hr9:=(s8.trans s9) _ _ h4
     have r9:=r4.mono fun r xs e=>(s8.trans s9) _ _ e
     rw [show (L:Int)+1=((L+1:Nat):Int) by omega]
     refine ⟨_,rfl,hr,rfl,⟨_,SqL.of hr9⟩,fun D2 hD2=>comp_list (K:=K) (a:=hr) (xs:=qs.map V.ref) (fun j σ ys HA=>∃(u:Option V) (ps:List Addr),σ=[u,some (.int ((L+1:Nat):Int))]∧ys=ps.map V.ref∧Same H9 HA∧HA D2=some (.lst ys)∧RowsAt HA ps (((R.filter (frB L)).take j).filter (frB (L+1)))) ⟨none,[],rfl,rfl,Ad hD2,Ab,rfl,fun i r t e=>by simp at e⟩ (fun j σ ys H5 _ ⟨_,_,_,_,s,e,_⟩=>⟨SqL.of (s _ _ hr9),e⟩) ?_ ?_⟩
     ·rintro j v σ ys HA hx ⟨u,ps,rfl,rfl,sA,dA,pA⟩
      obtain ⟨r,er,rfl⟩:=A5 hx
      obtain ⟨y,ey,hy⟩:=r9.get er
      have hyA:=sA _ _ hy
      have pl:ps.length≤60:=by rw [pA.1];exact Nat.le_trans (List.length_filter_le _ _) (Nat.le_trans (List.length_take_le' _ _) (by rw [←r4.1];exact ql))
      refine ⟨_,rfl,r,_,4,_,rfl,rfl,SqT.of hyA,row_4 y,_,rfl,_,_,rfl,rfl,_,rfl,Ci (fun c=> ?_) fun c=> ?_⟩
      ·have c:frB (L+1) y=true:=decide_eq_true (by have:=of_decide_eq_true c;omega)
       have kp:∀(r:Addr) (zs:List V) (o:HO),HA r=some (.tup zs)→upd HA D2 o r=some (.tup zs):=fun r zs o e=>by rw [A0 (ne_of e dA (by intro z;cases z))];exact e
       exact ⟨_,rfl,dA,Ar (by rw [List.length_map];omega),_,ps++[r],rfl,by rw [List.map_append];rfl,A2 sA hD2,Ab,rows_fil (pA.mono fun r zs e=>kp r zs _ e) ey (kp _ _ _ hyA) c⟩
      ·have c:¬frB (L+1) y=true:=fun z=>c (decide_eq_true (by have:L+1≤y.2.1:=of_decide_eq_true z;omega))
       exact ⟨_,ps,rfl,rfl,sA,dA,rows_skip pA ey c⟩
     rintro σ ys HA ⟨u,ps,rfl,rfl,sA,dA,pA⟩
     rw [List.length_map,r4.1,List.take_length,fr_fr] at pA
     refine ⟨10 - (L+1),by omega,L+1,D2,ps,_,rfl,rfl,S9.trans sA,dA,pA,by omega,fun L' hL'=> ?_⟩
     by_cases g:L'<L
     ·exact done L' g
     ·rw [show L'=L by omega];exact ⟨sm,sz⟩
end
end K34
namespace K34
open PySem L2 Wk
theorem good_shape {H:Hp} {v:V} (g:GoodAt H v):ShapeAt H 60 v:=by
 obtain ⟨h,N,R,e,⟨tp,rs,hh,ht,hR⟩,f,_⟩:=g
 exact ⟨h,tp,N,rs.map V.ref,e,hh,f.n1,f.n24,ht,by rw [List.length_map,hR.1];have:=f.len;omega⟩
theorem good_LG {N:Nat} {R:List R6} (N1:1≤N) (N24:N≤24) (len:R.length≤60) (ok:∀x∈R,RowL N x) (up:R.Pairwise fun x y=>x.1.1.cps.toList<y.1.1.cps.toList):GoodN N R↔LG N R:=by
 constructor
 ·rintro ⟨f,g⟩
  obtain ⟨g1,g2⟩:=(good_iff f).mp g
  exact ⟨fun x hx=>(f.ok x hx).2.2.2,g1,g2⟩
 ·intro g
  have f:FormN N R:=⟨N1,N24,len,fun x hx=>let ⟨a,b,c,_⟩:=ok x hx;⟨a,b,c,g.lo x hx⟩,up⟩
  exact ⟨f,(good_iff f).mpr ⟨g.fo,g.at_⟩⟩
theorem rows_all {H:Hp} {h tp:Addr} {N:Nat} {xs:List V} (hh:H h=some (.tup [.int (N:Int),.ref tp])) (ht:H tp=some (.tup xs)) (g:GoodAt H (.ref h)):∀x∈xs,RowAt H N x:=by
 obtain ⟨h',N',R,e,⟨tp',rs,hh',ht',hR⟩,f,_⟩:=g
 cases e
 rw [hh] at hh'
 simp only [Option.some.injEq,HO.tup.injEq,List.cons.injEq,V.int.injEq,V.ref.injEq,and_true] at hh'
 obtain ⟨n,rfl⟩:=hh'
 have n:N=N':=by omega
 subst n
 rw [ht] at ht'
 simp only [Option.some.injEq,HO.tup.injEq] at ht'
 subst ht'
 intro x hx
 obtain ⟨r,hr,rfl⟩:=List.mem_map.mp hx
 obtain ⟨i,hi,e⟩:=List.getElem_of_mem hr
 obtain ⟨y,ey,hy⟩:=hR.get (Bh hi)
 exact ⟨r,y,rfl,by rw [←e];exact hy,f.ok y (List.mem_of_getElem? ey)⟩
theorem nt_ref {H:Hp} {r:Addr} {xs:List V} (h:NotT H (.ref r)) (e:H r=some (.tup xs)):False:=by
 rcases h with (h|⟨b,h⟩|⟨i,h⟩|⟨n,h⟩)|⟨a,xs,h,q⟩|⟨a,xs,h,q⟩
 all_goals cases h
 all_goals rw [q] at e;cases e
theorem and_tup {H H':Hp} {n:Nat} {r:Addr} {xs:List V} (h:AnD H (n+1) (.ref r)) (s:Same H H') (e:H' r=some (.tup xs)):H r=some (.tup xs)∧∀x∈xs,AnD H n x:=by
 rcases h with ⟨nt,_⟩|⟨a,ys,z,ha,_,q⟩
 ·exact (nt_ref (nt.same s) e).elim
 ·cases z
  have:=s _ _ ha
  rw [e] at this
  cases this
  exact ⟨ha,q⟩
theorem lay_same {H H':Hp} {h:Addr} {N:Nat} {R:List R6} (hv:AnD H 3 (.ref h)) (s:Same H H') (l:LayAt H' h N R):LayAt H h N R:=by
 obtain ⟨tp,rs,e1,e2,e3⟩:=l
 obtain ⟨f1,q1⟩:=and_tup hv s e1
 obtain ⟨f2,q2⟩:=and_tup (q1 (.ref tp) (by simp)) s e2
 exact ⟨tp,rs,f1,f2,e3.1,fun i r x a b=>(and_tup (n:=0) (q2 (.ref r) (List.mem_map_of_mem (List.mem_of_getElem? a))) s (e3.2 i r x a b)).1⟩
theorem good_same {H H':Hp} {v:V} (hv:AnD H 3 v) (s:Same H H'):GoodAt H' v↔GoodAt H v:=by
 constructor
 ·rintro ⟨h,N,R,rfl,l,g⟩
  exact ⟨h,N,R,rfl,lay_same hv s l,g⟩
 ·rintro ⟨h,N,R,rfl,l,g⟩
  exact ⟨h,N,R,rfl,l.same s,g⟩
section
variable {P:Program} {w:World} {K:PySem.W.Frag} {mg:Str→Option Value} {base:Heap}
theorem scDue:Av ["_law_thing","_law_names_here"] ["_law_thing"] (Ae sDue):=⟨rfl,rfl,rfl,by decide+kernel,rfl,by decide+kernel,by decide+kernel⟩
theorem ok_Due {f:Addr} {fd:FuncData} (F:Fun K "_law_due" "_law_due" sDue f fd) (T:Txt mg)
  {gLWhole:Addr} {fLWhole:FuncData} (kLWhole:PySem.W.keepIn K (.ref gLWhole)=true) (bLWhole:Binds K fLWhole ["_law_thing","_law_least","_law_most"] []) (hLWhole:mg "_law_whole"=some (.ref gLWhole)) (GLWhole:FnOk P w K mg base CX0 2 gLWhole fLWhole ["_law_thing","_law_least","_law_most"] spLWhole)
  {gLRow:Addr} {fLRow:FuncData} (kLRow:PySem.W.keepIn K (.ref gLRow)=true) (bLRow:Binds K fLRow ["_law_thing","_law_many_here"] []) (hLRow:mg "_law_is_row"=some (.ref gLRow)) (GLRow:FnOk P w K mg base CX0 2 gLRow fLRow ["_law_thing","_law_many_here"] spLRow)
  {gGood:Addr} {fGood:FuncData} (kGood:PySem.W.keepIn K (.ref gGood)=true) (bGood:Binds K fGood ["_law_many_here","_law_rows"] []) (hGood:mg "_law_good"=some (.ref gGood)) (GGood:FnOk P w K mg base CX0 2 gGood fGood ["_law_many_here","_law_rows"] spGood):
  FnOk P w K mg base CX0 3 f fd ["_law_thing"] spDue:=by
 refine F.ok scDue (fun vs H Q E h=> ?_) (fun cdv A outer s H vs Q E hr h=> ?_)
 ·obtain ⟨_,rfl,_⟩:=h;rfl
 ·obtain ⟨v,rfl,hv,k⟩:=h
  refine ⟨_,Ag (Bs (PW.pt (pw_or (Bu (Br (Aj Bq (by rfl) T.isinstance (by decide+kernel) (Aa (pv 0) (Aa (pe_ty (T:="tuple") (by rfl) T.tuple (by decide+kernel)) Ac))))) (pw_or (Az op_ne (Aj Bc (by rfl) T.len PySem.boot_len (Aa (pv 0) Ac)) Af (Aw _)) (pw_or1 (Bu (Br (Ai GLWhole hr rfl hLWhole kLWhole bLWhole .nil Aq (Aa (At A9 (pv 0) Af (fun _ _=>rfl)) (Aa Af (Aa Af Ac)))))))))) (Ah (Al B6)) A7)
   (Ag (Bs (PW.pt (pw_or (Bu (Br (Aj Bq (by rfl) T.isinstance (by decide+kernel) (Aa (At A9 (pv 0) Af (fun _ _=>rfl)) (Aa (pe_ty (T:="tuple") (by rfl) T.tuple (by decide+kernel)) Ac))))) (pw_or1 (Az op_gt (Aj Bc (by rfl) T.len PySem.boot_len (Aa (At A9 (pv 0) Af (fun _ _=>rfl)) Ac)) Af (Aw _))))) (Ah (Al B6)) A7)
   (Ag (Bs (Az (op_nes hr.units) (Bn (T:=["_law_row"]) (F:=["_law_thing"]) (js:=[0]) (CS.to (osc:=Ae sDue) ⟨by rfl,by decide+kernel,by decide+kernel,by decide+kernel,by decide+kernel,by decide+kernel,by decide+kernel⟩ rfl rfl) rfl (pi_tup (At A9 (pv 0) Af (fun _ _=>rfl))) (fun _ _ _ _ _=>Ak (i:=0) (show (["_law_row","_law_thing"]:List Str).Nodup by decide+kernel) rfl (Or.inl rfl)) (fun _ _ _ _ _=>Ch (Bu (Br (Ai GLRow hr rfl hLRow kLRow bLRow .nil Aq (Aa (pv 0) (Aa (At (r:=rIxT K) A9 (pv 1) Af (fun _ _=>rfl)) Ac)))))) (fun _ _ _ _ _=>pv 0)) (Ca Ac) (Aw _)) (Ah (Al B6)) A7)
   (Ag (ps_comp (i:=1) (T:=["_law_row"]) (F:=[]) (js:=[]) scDue.nd rfl (Or.inl rfl) (CS.to (osc:=Ae sDue) ⟨by rfl,by decide+kernel,by decide+kernel,by decide+kernel,by decide+kernel,by decide+kernel,by decide+kernel⟩ rfl rfl) rfl (pi_tup (At A9 (pv 0) Af (fun _ _=>rfl))) (fun _ _ _ _ _=>Ak (i:=0) (show (["_law_row"]:List Str).Nodup by decide+kernel) rfl (Or.inl rfl)) (fun _ _ _ _ _=>Cd) (fun _ _ _ _ _=>At (r:=rIxT K) A9 (pv 0) Af (fun _ _=>rfl)))
   (Ag (Bs (Az (op_nes hr.units) (Bn (T:=["_law_one","_law_other"]) (F:=[]) (js:=[]) (CS.to (osc:=Ae sDue) ⟨by rfl,by decide+kernel,by decide+kernel,by decide+kernel,by decide+kernel,by decide+kernel,by decide+kernel⟩ rfl rfl) rfl (pi_zipL rfl T.zip (Aa (pv 1) (Aa (Bw sl_list (pv 1) (B7 Af) Cc) Ac))) (fun _ _ _ _ _=>pg_tupK K 2 rfl rfl (Ba (Ak (i:=0) (show (["_law_one","_law_other"]:List Str).Nodup by decide+kernel) rfl (Or.inl rfl)) (Ba (Ak (i:=1) (show (["_law_one","_law_other"]:List Str).Nodup by decide+kernel) rfl (Or.inl rfl)) pgs_nil))) (fun _ _ _ _ _=>Ch (Bu (Az op_lt_str (pv 0) (pv 1) (Aw _)))) (fun _ _ _ _ _=>Af)) (Ca Ac) (Aw _)) (Ah (Al B6)) A7)
   (Ah (Al (Ai GGood hr rfl hGood kGood bGood .nil Aq (Aa (At A9 (pv 0) Af (fun _ _=>rfl)) (Aa (At A9 (pv 0) Af (fun _ _=>rfl)) Ac))))))))),?_⟩
  have no:∀{H'},Same H H'→¬ShapeAt H 60 v→Q (.bl false) H':=fun s z=>k false _ s (ff fun g=>z (good_shape g))
  rcases hv with ⟨nt,_⟩|⟨h,xs,rfl,hh,l9,han⟩
  ·obtain ⟨t,h1,h2⟩:=nt.tup (K:=K)
   exact ⟨_,rfl,v,t,"tuple",false,rfl,h1,h2,_,rfl,Be (no (Bb H) (nt_shape nt))⟩
  refine ⟨_,rfl,.ref h,.type "tuple","tuple",true,rfl,.tup hh,rfl,_,rfl,Bi ?_⟩
  refine ⟨_,rfl,h,_,rfl,.inr (SqT.of hh),rfl,_,rfl,Ci (fun g=> ?_) fun g=> ?_⟩
  ·refine no (Bb H) fun ⟨r,tp,N,ys,e,hx,_⟩=> ?_
   cases e
   rw [hh] at hx
   injection hx with hx
   injection hx with hx
   rw [hx] at g
   exact absurd g (by simp)
  have l2:xs.length=2:=by
   have:(xs.length:Int)=2:=Classical.byContradiction fun z=>g (by simp [z])
   omega
  obtain ⟨x,y,rfl⟩:=two l2
  have ax:=han x (by simp)
  have ay:=han y (by simp)
  clear g l9 l2 han
  refine ⟨_,rfl,h,_,0,_,rfl,rfl,SqT.of hh,Ay (j:=0) rfl,x,1,24,rfl,ax.an,_,rfl,?_⟩
  cases nx:whV x 1 24 with
  |false=>
   refine Be (no (Bb H) fun ⟨r,tp,N,ys,e,hx,n1,n2,_⟩=> ?_)
   cases e
   rw [hh] at hx
   injection hx with hx
   injection hx with hx
   injection hx with e1 _
   subst e1
   rw [whV_iff.mpr ⟨_,rfl,by omega,by omega⟩] at nx
   cases nx
  |true=>
   obtain ⟨i,rfl,i1,i2⟩:=whV_iff.mp nx
   obtain ⟨N,rfl⟩:∃n:Nat,i=(n:Int):=⟨i.toNat,by omega⟩
   have N1:1≤N:=by omega
   have N24:N≤24:=by omega
   refine Bi ?_
   dsimp only [Bv]
   rcases ay with ⟨nt,_⟩|⟨tp,ys,rfl,ht,l9,hxs⟩
   ·obtain ⟨t,h1,h2⟩:=nt.tup (K:=K)
    refine ⟨_,rfl,h,_,1,_,rfl,rfl,SqT.of hh,Ay (j:=1) rfl,y,t,"tuple",false,rfl,h1,h2,_,rfl,Be (no (Bb H) fun ⟨r,tp,N',ys,e,hx,_,_,ht,_⟩=> ?_)⟩
    cases e
    rw [hh] at hx
    injection hx with hx
    injection hx with hx
    injection hx with _ hx
    injection hx with hx _
    subst hx
    rcases nt with (h|⟨b,h⟩|⟨i,h⟩|⟨n,h⟩)|⟨a,xs,h,q⟩|⟨a,xs,h,q⟩
    all_goals cases h
    all_goals rw [q] at ht;cases ht
   refine ⟨_,rfl,h,_,1,_,rfl,rfl,SqT.of hh,Ay (j:=1) rfl,.ref tp,.type "tuple","tuple",true,rfl,.tup ht,rfl,_,rfl,Bi ?_⟩
   refine ⟨_,rfl,h,_,1,_,rfl,rfl,SqT.of hh,Ay (j:=1) rfl,tp,_,rfl,.inr (SqT.of ht),_,_,rfl,rfl,_,rfl,Ci (fun g=> ?_) fun g=> ?_⟩
   ·refine no (Bb H) fun ⟨r,tp',N',ys',e,hx,_,_,ht',hl⟩=> ?_
    cases e
    rw [hh] at hx
    injection hx with hx
    injection hx with hx
    injection hx with _ hx
    injection hx with hx _
    cases hx
    rw [ht] at ht'
    cases ht'
    have:=of_decide_eq_true g
    omega
   have l60:ys.length≤60:=by
    have:¬(60:Int)<(ys.length:Int):=fun z=>g (decide_eq_true z)
    omega
   dsimp only [Bv]
   clear g nx ax i1 i2 no
   refine ⟨_,rfl,h,_,1,_,rfl,rfl,SqT.of hh,Ay (j:=1) rfl,tp,rfl,⟨_,SqT.of ht⟩,fun D hD=>comp_tup (K:=K) (a:=tp) (xs:=ys) (fun j σ zs H2=>∃(u:Option V),σ=[u,some (.ref h)]∧Same H H2∧H2 D=some (.lst zs)∧zs.length≤j∧(zs=[]↔∀x∈ys.take j,RowAtL H N x)) ⟨none,rfl,Ad hD,Ab,Nat.le_refl _,by simp⟩ (fun j σ zs H2 _ ⟨_,_,s,e,_⟩=>⟨SqT.of (s _ _ ht),e⟩) ?_ ?_⟩
   ·rintro j x σ zs H2 hx ⟨u,rfl,s2,d2,zl,zq⟩
    have hj:j<ys.length:=(List.getElem?_eq_some_iff.mp hx).1
    have ax:=hxs x (List.mem_of_getElem? hx)
    have tk:ys.take (j+1)=ys.take j++[x]:=by rw [List.take_add_one,hx];rfl
    refine ⟨_,rfl,_,rfl,h,_,0,_,rfl,rfl,SqT.of (s2 _ _ hh),Ay (j:=0) rfl,x,N,rfl,ax.same s2,fun b H3 s3 eb=>⟨_,rfl,?_⟩⟩
    rw [rowL_same ax s2] at eb
    have d3:=s3 _ _ d2
    cases b with
    |false=>
     refine Be ⟨_,rfl,d3,Ar (by omega),_,rfl,A2 (s2.trans s3) hD,Ab,by rw [List.length_append];show _+1≤_;omega,⟨fun z=>absurd z (by simp),fun z=> ?_⟩⟩
     have:=eb.mpr (z x (by rw [tk];simp))
     cases this
    |true=>
     refine Bi ⟨_,rfl,s2.trans s3,d3,by omega,?_⟩
     rw [zq,tk]
     constructor
     ·intro z w hw
      rcases List.mem_append.mp hw with q|q
      ·exact z w q
      ·rw [List.mem_singleton.mp q];exact eb.mp rfl
     ·exact fun z w hw=>z w (List.mem_append_left _ hw)
   rintro σ zs H2 ⟨u,rfl,s2,d2,zl,zq⟩
   rw [List.take_length] at zq
   refine ⟨Ax (by simp),fun w hw=> ?_⟩
   have s3:=s2.trans (Ad (o:= .lst []) hw)
   have d3:=Ad (o:= .lst []) hw _ _ d2
   have w3:=Ab (H:=H2) (a:=w) (o:= .lst [])
   generalize upd H2 w (.lst [])=H3 at s3 d3 w3 ⊢
   refine ⟨0,_,D,w,rfl,rfl,by decide,eqs_nil (SqL.of d3) (SqL.of w3),_,rfl,?_⟩
   cases hz:zs with
   |cons z0 zs0=>
    refine Be (k false H3 s3 (ff fun g=> ?_))
    have:=zq.mpr fun x hx=>row_L (rows_all hh ht g x hx)
    rw [hz] at this
    cases this
   |nil=>
    obtain ⟨rs,R,rfl,hR,ok⟩:=rowsL_of (zq.mp hz)
    clear d2 d3 w3 hw hD hz zq zl hxs l9
    have R60:R.length≤60:=by rw [List.length_map,hR.1] at l60;omega
    refine Bi ?_
    dsimp only [Bv]
    have hR3:=hR.mono fun r xs e=>s3 _ _ e
    have hh3:=s3 _ _ hh
    have ht3:=s3 _ _ ht
    refine ⟨_,rfl,h,_,1,_,rfl,rfl,SqT.of hh3,Ay (j:=1) rfl,tp,rfl,⟨_,SqT.of ht3⟩,fun D hD=>comp_tup (K:=K) (a:=tp) (xs:=rs.map V.ref) (fun j σ zs H4=>∃u:Option V,σ=[u]∧zs=((R.take j).map (·.1.1)).map V.str∧Same H3 H4∧H4 D=some (.lst zs)) ⟨none,rfl,rfl,Ad hD,Ab⟩ (fun j σ ys H2 _ ⟨_,_,_,s,e⟩=>⟨SqT.of (s _ _ ht3),e⟩) ?_ ?_⟩
    ·rintro j x σ zs H4 hx ⟨u,rfl,rfl,s4,d4⟩
     obtain ⟨r',er,rfl⟩:=A5 hx
     obtain ⟨y,ey,hy⟩:=hR3.get er
     refine ⟨_,rfl,r',_,0,_,rfl,rfl,SqT.of (s4 _ _ hy),Ay (j:=0) rfl,d4,Ar (by rw [List.length_map,List.length_map,List.length_take];omega),_,rfl,?_,A2 s4 hD,Ab⟩
     rw [List.take_add_one,ey,List.map_append,List.map_append];rfl
    rintro σ zs' H4 ⟨u,rfl,rfl,s4,d4⟩
    rw [List.length_map,hR.1,List.take_length] at d4
    have S4:=s3.trans s4
    refine ⟨_,rfl,_,rfl,_,rfl,D,_,rfl,SqL.of d4,fun D2 hD2=> ?_⟩
    have e2:cutV (((R.map (·.1.1))).map V.str) (some (1:Int)) none=((R.map (·.1.1)).drop 1).map V.str:=by rw [show (some (1:Int))=some ((1:Nat):Int) from rfl,cutV_drop,List.map_drop]
    have S5:=S4.trans (Ad (o:= .lst (cutV (((R.map (·.1.1))).map V.str) (some (1:Int)) none)) hD2)
    have d5:=Ad (o:= .lst (cutV (((R.map (·.1.1))).map V.str) (some (1:Int)) none)) hD2 _ _ d4
    have f5:=Ab (H:=H4) (a:=D2) (o:= .lst (cutV (((R.map (·.1.1))).map V.str) (some (1:Int)) none))
    rw [e2] at S5 d5 f5 ⊢
    generalize upd H4 D2 (.lst (((R.map (·.1.1)).drop 1).map V.str))=H5 at S5 d5 f5 ⊢
    refine ⟨D,D2,_,_,rfl,SqL.of d5,SqL.of f5,fun E hE=>comp_zipL (K:=K) (a:=D) (b:=D2) (xs:=(R.map (·.1.1)).map V.str) (ys:=((R.map (·.1.1)).drop 1).map V.str) (fun j σ zs H6=>∃(u v:Option V),σ=[u,v]∧Same H5 H6∧H6 E=some (.lst zs)∧zs.length≤j∧(zs=[]↔∀i,i<j→∀x y,R[i]? =some x→R[i+1]? =some y→x.1.1.cps.toList<y.1.1.cps.toList)) ⟨none,none,rfl,Ad hE,Ab,Nat.le_refl _,by simp⟩ (fun j σ zs H6 _ _ ⟨_,_,_,s,e,_⟩=>⟨SqL.of (s _ _ d5),SqL.of (s _ _ f5),e⟩) ?_ ?_⟩
    ·rintro j x y σ zs H6 C hx hy ⟨u,v,rfl,s6,d6,zl,zq⟩ hC
     obtain ⟨z,ez,rfl⟩:=A5 hx
     obtain ⟨z',ez',rfl⟩:=A5 hy
     rw [List.getElem?_drop] at ez'
     obtain ⟨x,ex,rfl⟩:=A5 ez
     obtain ⟨y,ey,rfl⟩:=A5 ez'
     rw [Nat.add_comm] at ey
     have jl:j<60:=by have:=(List.getElem?_eq_some_iff.mp ex).1;omega
     have s7:=s6.trans (Ad (o:= .tup [.str x.1.1,.str y.1.1]) hC)
     have C7:=Ab (H:=H6) (a:=C) (o:= .tup [.str x.1.1,.str y.1.1])
     have d7:=Ad (o:= .tup [.str x.1.1,.str y.1.1]) hC _ _ d6
     generalize upd H6 C (.tup [.str x.1.1,.str y.1.1])=H7 at s7 C7 d7
     refine ⟨C,_,rfl,SqT.of C7,rfl,_,_,rfl,_,_,rfl,rfl,?_⟩
     refine ⟨_,rfl,_,rfl,_,_,rfl,rfl,_,rfl,?_⟩
     by_cases g:x.1.1.cps.toList<y.1.1.cps.toList
     ·rw [decide_eq_true g]
      refine Bi ⟨_,_,rfl,s7,d7,by omega,?_⟩
      rw [zq]
      constructor
      ·intro h i hi a b ea eb
       by_cases q:i<j
       ·exact h i q a b ea eb
       ·have q:i=j:=by omega
        subst q
        rw [ex] at ea;rw [ey] at eb
        cases ea;cases eb
        exact g
      ·exact fun h i hi=>h i (by omega)
     ·rw [decide_eq_false g]
      refine Be ⟨d7,Ar (by omega),_,_,rfl,A2 s7 hE,Ab,by rw [List.length_append];show _+1≤_;omega,⟨fun z=>absurd z (by simp),fun z=>absurd (z j (by omega) x y ex ey) g⟩⟩
    rintro i σ zs H6 hi ⟨u,v,rfl,s6,d6,zl,zq⟩
    have zq:zs=[]↔R.Pairwise fun x y=>x.1.1.cps.toList<y.1.1.cps.toList:=by
     rw [zq]
     constructor
     ·refine fun h=>Up.pw fun j x y ex ey=>h j ?_ x y ex ey
      have:=(List.getElem?_eq_some_iff.mp ey).1
      rw [hi,List.length_map,List.length_map,List.length_map,List.length_drop,List.length_map]
      omega
     ·intro h j hj x y ex ey
      obtain ⟨h1,rfl⟩:=List.getElem?_eq_some_iff.mp ex
      obtain ⟨h2,rfl⟩:=List.getElem?_eq_some_iff.mp ey
      exact List.pairwise_iff_getElem.mp h j (j+1) h1 h2 (by omega)
    refine ⟨Ax (by simp),fun w hw=> ?_⟩
    have S7:=(S5.trans s6).trans (Ad (o:= .lst []) hw)
    have d7:=Ad (o:= .lst []) hw _ _ d6
    have w7:=Ab (H:=H6) (a:=w) (o:= .lst [])
    generalize upd H6 w (.lst [])=H7 at S7 d7 w7 ⊢
    refine ⟨0,_,E,w,rfl,rfl,by decide,eqs_nil (SqL.of d7) (SqL.of w7),_,rfl,?_⟩
    have lay:LayAt H h N R:=⟨tp,rs,hh,ht,hR⟩
    cases hz:zs with
    |cons z0 zs0=>
     refine Be (k false H7 S7 (ff fun g=> ?_))
     have:=zq.mpr ((good_lay lay).mp g).1.up
     rw [hz] at this
     cases this
    |nil=>
     have up:=zq.mp hz
     refine Bi ?_
     dsimp only [Bv]
     have hh7:=S7 _ _ hh
     refine ⟨_,rfl,h,_,0,_,rfl,rfl,SqT.of hh7,Ay (j:=0) rfl,_,rfl,h,_,1,_,rfl,rfl,SqT.of hh7,Ay (j:=1) rfl,tp,rs,N,R,rfl,S7 _ _ ht,hR.mono fun r xs e=>S7 _ _ e,N1,N24,R60,fun x hx=>(ok x hx).2.1,fun b H8 s8 eb=> ?_⟩
     exact k b H8 (S7.trans s8) (by rw [eb,good_lay lay,good_LG N1 N24 R60 ok up])
theorem scTold:Av ["_law_thing","_law_found"] ["_law_thing"] (Ae sTold):=⟨rfl,rfl,rfl,by decide+kernel,rfl,by decide+kernel,by decide+kernel⟩
theorem ok_Told {f:Addr} {fd:FuncData} (F:Fun K "_law_told" "_law_told" sTold f fd) (T:Txt mg)
  {gHold:Addr} {fHold:FuncData} (kHold:PySem.W.keepIn K (.ref gHold)=true) (bHold:Binds K fHold ["thing"] []) (hHold:mg "layers_hold"=some (.ref gHold)) (GHold:FnOk P w K mg base CX0 7 gHold fHold ["thing"] spHold)
  {gDue:Addr} {fDue:FuncData} (kDue:PySem.W.keepIn K (.ref gDue)=true) (bDue:Binds K fDue ["_law_thing"] []) (hDue:mg "_law_due"=some (.ref gDue)) (GDue:FnOk P w K mg base CX0 7 gDue fDue ["_law_thing"] spDue):
  FnOk P w K mg base CX0 8 f fd ["_law_thing"] spTold:=by
 refine F.ok scTold (fun vs H Q E h=> ?_) (fun cdv A outer s H vs Q E hr h=> ?_)
 ·obtain ⟨_,rfl,_⟩:=h;rfl
 ·obtain ⟨v,rfl,hv,k⟩:=h
  refine ⟨_,Ag (As (i:=1) scTold.nd rfl (Or.inl rfl) (Ai GHold hr rfl hHold kHold bHold .nil Aq (Aa (pv 0) Ac)))
   (Ah (Al (Cg (Aj Bq (by rfl) T.isinstance (by decide+kernel) (Aa (pv 1) (Aa (pe_ty (T:="bool") (by rfl) T.bool (by decide+kernel)) Ac))) (Cg (Ce op_eq (pv 1) (Ai GDue hr rfl hDue kDue bDue .nil Aq (Aa (pv 0) Ac)) (Aw _)) (pe_one (Ce op_eq (Ai GHold hr rfl hHold kHold bHold .nil Aq (Aa (pv 0) Ac)) (pv 1) (Aw _))))))),?_⟩
  refine ⟨_,rfl,v,rfl,hv,fun b H1 s1 e1=> ?_⟩
  refine ⟨_,rfl,.bl b,.type "bool","bool",true,rfl,.bl b,rfl,_,rfl,Be ?_⟩
  refine ⟨_,rfl,_,rfl,v,rfl,hv.same s1,fun c H2 s2 e2=> ?_⟩
  rw [good_same hv s1] at e2
  have:b=c:=by rw [Bool.eq_iff_iff,e1,e2]
  subst this
  refine ⟨rfl,_,rfl,?_⟩
  rw [decide_eq_true rfl]
  have s12:=s1.trans s2
  refine Be ⟨_,rfl,v,rfl,hv.same s12,fun c H3 s3 e3=> ?_⟩
  rw [good_same hv s12] at e3
  have:b=c:=by rw [Bool.eq_iff_iff,e1,e3]
  subst this
  refine ⟨_,rfl,rfl,?_⟩
  rw [decide_eq_true rfl]
  exact k H3 (s12.trans s3)
end
end K34
namespace L2
open PySem
theorem st_L {es rest:List Expr} {pos:Pos} {env:Env}:starEach (.List es pos::rest) env=(false,eval (.List es pos) env)::starEach rest env:=rfl
theorem st_T {es rest:List Expr} {b} {pos:Pos} {env:Env}:starEach (.Tuple es b pos::rest) env=(false,eval (.Tuple es b pos) env)::starEach rest env:=rfl
theorem st_D {ks vs} {rest:List Expr} {pos:Pos} {env:Env}:starEach (.Dict ks vs pos::rest) env=(false,eval (.Dict ks vs pos) env)::starEach rest env:=rfl
theorem st_C {c j} {rest:List Expr} {pos:Pos} {env:Env}:starEach (.Constant c j pos::rest) env=(false,eval (.Constant c j pos) env)::starEach rest env:=rfl
theorem st_N {x} {rest:List Expr} {pos:Pos} {env:Env}:starEach (.Name x pos::rest) env=(false,eval (.Name x pos) env)::starEach rest env:=rfl
theorem st_K {f as ks} {rest:List Expr} {pos:Pos} {env:Env}:starEach (.Call f as ks pos::rest) env=(false,eval (.Call f as ks pos) env)::starEach rest env:=rfl
theorem st_B {l o r} {rest:List Expr} {pos:Pos} {env:Env}:starEach (.BinOp l o r pos::rest) env=(false,eval (.BinOp l o r pos) env)::starEach rest env:=rfl
theorem st_U {o r} {rest:List Expr} {pos:Pos} {env:Env}:starEach (.UnaryOp o r pos::rest) env=(false,eval (.UnaryOp o r pos) env)::starEach rest env:=rfl
structure PEw (X:Cx) (e:Expr) (t:TE):Prop where
 out:PE X e t
structure PAw (X:Cx) (es:List Expr) (t:TA):Prop where
 out:PA X es t
section
variable {X:Cx} {e a b:Expr} {es:List Expr} {te ta tb:TE} {t:TA} {pos:Pos} {op:Operator} {r:R2}
theorem Ck (h:PE X e te):PEw X e te:=⟨h⟩
theorem w_nil:PAw X [] tNil:=⟨Ac⟩
theorem A8 (h:PEw X e te) (g:PAw X es t) (hs:starEach (e::es) X.env=(false,eval e X.env)::starEach es X.env):PAw X (e::es) (tCons te t):=⟨Aa h.out g.out hs⟩
theorem w_lst (h:PAw X es t):PEw X (.List es pos) (tLst t):=⟨Ca h.out⟩
theorem w_tup {k} (h:PAw X es t):PEw X (.Tuple es k pos) (tTup t):=⟨Cb h.out⟩
theorem w_op (ho:OpR X (binaryOp op) r) (ha:PEw X a ta) (hb:PEw X b tb):PEw X (.BinOp a op b pos) (tOp r ta tb):=⟨Am ho ha.out hb.out⟩
end
end L2
namespace Rp
open PySem L2 PySem.Spec PyProof.Rows PySem.P
def keyM:Key→PyData
 | .inl i=> .int i
 | .inr x=> .str x
inductive RepM (H:Hp):V→PyData→Prop
 |non:RepM H .non .none
 |bl (b:Bool):RepM H (.bl b) (.bool b)
 |int (i:Int):RepM H (.int i) (.int i)
 |str (x:Str):x.length≤1000→RepM H (.str x) (.str x)
 |tup {a:Addr} {xs:List V} {ds:List PyData}:H a=some (.tup xs)→xs.length≤900→xs.length=ds.length→(∀p∈xs.zip ds,RepM H p.1 p.2)→RepM H (.ref a) (.tuple ds)
 |lst {a:Addr} {xs:List V} {ds:List PyData}:H a=some (.lst xs)→a≠sysModules→xs.length=ds.length→(∀p∈xs.zip ds,RepM H p.1 p.2)→RepM H (.ref a) (.list ds)
 |dct {a:Addr}:H a=some (.dK [])→RepM H (.ref a) (.dict [])
 |dc1 {a:Addr} {k:Key} {v:V} {d:PyData}:H a=some (.dK [(k,v)])→RepM H v d→RepM H (.ref a) (.dict [(keyM k,d)])
theorem RepM.mono {H H':Hp} {v:V} {d:PyData} (h:RepM H v d) (s:∀a o,H a=some o→H' a=some o):RepM H' v d:=by
 induction h with
 |non=>exact .non
 |bl b=>exact .bl b
 |int i=>exact .int i
 |str x l=>exact .str x l
 |tup e l z _ ih=>exact .tup (s _ _ e) l z ih
 |lst e ns z _ ih=>exact .lst (s _ _ e) ns z ih
 |dct e=>exact .dct (s _ _ e)
 |dc1 e _ ih=>exact .dc1 (s _ _ e) ih
theorem readsAll_of {H:Hp} {hp:Heap}:∀{xs:List V} {ds:List PyData} {us:List Value},xs.length=ds.length→Vals xs us→(∀p∈xs.zip ds,∀u,RelV p.1 u→∃as,Reads hp u p.2 as∧sysModules ∉ as)→∃as,ReadsAll hp us ds as∧sysModules ∉ as
 |[],[],_,_,r,_=>by cases r;exact ⟨_,.nil,by simp⟩
 |[],_::_,_,z,_,_=>nomatch z
 |_::_,[],_,z,_,_=>nomatch z
 |x::xs,d::ds,_,z,r,h=>by
  cases r with
  |cons r1 r2=>
   obtain ⟨as,q1,n1⟩:=h (x,d) (by simp) _ r1
   obtain ⟨bs,q2,n2⟩:=readsAll_of (H:=H) (by simpa using z) r2 fun p hp=>h p (by simp [hp])
   exact ⟨_,.cons q1 q2,by simp [n1,n2]⟩
theorem RepM.reads {X:Cx} {pins:List (Addr×Obj)} {σ:L2.St} {H:Hp} {s:Shared} (I:Inv X pins σ H s) {v:V} {d:PyData} (h:RepM H v d):∀u,RelV v u→∃as,Reads s.heap u d as∧sysModules ∉ as:=by
 induction h with
 |non=>intro u r;cases r;exact ⟨_,.none,by simp⟩
 |bl b=>intro u r;cases r;exact ⟨_,.bool b,by simp⟩
 |int i=>intro u r;obtain ⟨t,rfl⟩:=r;exact ⟨_,.int i t,by simp⟩
 |str x _=>intro u r;obtain ⟨t,rfl⟩:=r;exact ⟨_,.str x t,by simp⟩
 |tup e l z _ ih=>
  intro u r
  cases r
  obtain ⟨_,its,rv,o,e1,e2,_,n,e3⟩:=I.hok _ _ e
  obtain ⟨as,q,na⟩:=readsAll_of (H:=H) z rv ih
  exact ⟨as,.tuple e1 e2 e3 (by simpa using q),na⟩
 | @lst a xs ds e this z _ ih=>
  intro u r
  cases r
  obtain ⟨_,its,n,rv,e1⟩:=I.hok _ _ e
  obtain ⟨as,q,na⟩:=readsAll_of (H:=H) z rv ih
  refine ⟨_,.list e1 rfl rfl (by simpa using q),?_⟩
  simp [na,this.symm]
 | @dct a e=>
  intro u r
  cases r
  obtain ⟨_,ns,vs,kv,o,es,ep,e1,ex,e3,_,pr,_⟩:=I.hok _ _ e
  have hv:vs=[]:=by cases kv;rfl
  subst hv
  have he:es.toList=[]:=by
   have:=pr.length
   simpa using this
  refine ⟨a::[]++[],.dict (kvs:=[]) e1 ex.1 e3 (by rw [he];exact .nil) (by rw [he];exact .nil),?_⟩
  have:a≠sysModules:=by simpa using ns
  simpa using this.symm
 | @dc1 a k v d e _ ih=>
  intro u r
  cases r
  obtain ⟨_,ns,vs,kv,o,es,ep,e1,ex,e3,_,pr,_⟩:=I.hok _ _ e
  obtain ⟨u,hv,hu⟩:∃u,vs=[(k,u)]∧RelV v u:=by
   cases kv with
   | @cons _ b _ _ r1 r2=>
    cases r2
    obtain ⟨b1,b2⟩:=b
    obtain ⟨z,r1⟩:=r1
    cases z
    exact ⟨_,rfl,r1⟩
  subst hv
  obtain ⟨bs,q2,n2⟩:=ih u hu
  generalize hes:es.toList=el at pr
  cases pr with
  | @cons en _ el _ h1 h2 h3=>
   cases h3
   have hk:∃as,Reads s.heap en.key (keyM k) as∧as=[]:=by
    rcases Bl (k:=k) (v:=en.key) h1 with ⟨y,t,z,e'⟩|⟨y,t,z,e'⟩
    ·subst z;rw [e'];exact ⟨_,.int y t,rfl⟩
    ·subst z;rw [e'];exact ⟨_,.str y t,rfl⟩
   obtain ⟨as,q1,rfl⟩:=hk
   refine ⟨a::([]++[])++(bs++[]),.dict (kvs:=[(keyM k,d)]) e1 ex.1 e3 ?_ ?_,?_⟩
   ·rw [hes];show ReadsAll s.heap [en.key] [keyM k] _;exact .cons q1 .nil
   ·rw [hes];show ReadsAll s.heap [en.val] [d] _;rw [h2];exact .cons q2 .nil
   ·have h0:a≠sysModules:=by simpa using ns
    intro z
    rcases List.mem_append.mp z with z|z
    ·rcases List.mem_cons.mp z with z|z
     ·exact h0 z.symm
     ·simp at z
    ·rw [List.append_nil] at z
     exact n2 z
end Rp
namespace L2
open PySem PySem.Spec PyProof.Rows Rp PySem.P
section
variable {X:Cx}
theorem call_reprM (hu:X.A.units+64<cLine) (hg:X.A.guards=some []):CallR X (.builtin "repr") (fun xs H Q=>∃(v:V) (d:PyData),xs=[v]∧RepM H v d∧d.showable=true∧d.depth≤30∧d.shown.length≤sizeLine∧Q (.str d.shown) H):=by
 intro pins s σ H xs us Q I r h
 obtain ⟨v,d,rfl,hp,h1,h3,h4,q⟩:=h
 obtain ⟨u,rfl,rx⟩:=vals1 r
 have hr:=hp.reads I u rx
 obtain ⟨as,r1,na⟩:=hr
 cases hp with
 |non=>cases rx;exact repr_of_none ⟨.str _,H,I.tok _,⟨_,rfl⟩,q⟩
 |bl b=>cases rx;exact repr_of_bool ⟨.str _,H,I.tok _,⟨_,rfl⟩,by cases b<;> exact q⟩
 |int i=>
  obtain ⟨t,rfl⟩:=rx
  exact repr_of_int (by simpa [PyData.showable] using h1) ⟨.str _,H,I.tok _,⟨_,rfl⟩,q⟩
 |str x _=>
  obtain ⟨t,rfl⟩:=rx
  exact repr_of_str ⟨.str _,H,I.tok _,⟨_,rfl⟩,q⟩ h4
 |tup e l z h=>cases rx;exact repr_of_reads' r1 h1 (fun _=>na) hg (by omega) (fun _ _ e=>e) (fun h' u tk hk=>⟨.str _,H,I.kept hk,⟨u,rfl⟩,q⟩) h4
 |lst e ns z h=>cases rx;exact repr_of_reads' r1 h1 (fun _=>na) hg (by omega) (fun _ _ e=>e) (fun h' u tk hk=>⟨.str _,H,I.kept hk,⟨u,rfl⟩,q⟩) h4
 |dct e=>cases rx;exact repr_of_reads' r1 h1 (fun _=>na) hg (by omega) (fun _ _ e=>e) (fun h' u tk hk=>⟨.str _,H,I.kept hk,⟨u,rfl⟩,q⟩) h4
 |dc1 e hv=>cases rx;exact repr_of_reads' r1 h1 (fun _=>na) hg (by omega) (fun _ _ e=>e) (fun h' u tk hk=>⟨.str _,H,I.kept hk,⟨u,rfl⟩,q⟩) h4
end
end L2
namespace L2
open PySem
def tLstN (t:TA):TE:=fun σ H Q=>t σ H fun xs H1=>xs.length≤sizeLine∧∀p,H1 p=none→p≠sysModules→Q (.ref p) (upd H1 p (.lst xs))
section
variable {X:Cx} {es:List Expr} {t:TA} {pos:Pos}
theorem pe_lstN (h:PA X es t):PE X (.List es pos) (tLstN t):=by
 intro pins s σ H Q I hq
 refine wpAny_List_spliced (thn (h pos pins s σ H _ I hq) fun us s1 ⟨xs,H1,I1,r,z,q⟩=>⟨by rw [←r.length];exact z,?_⟩)
 have hf:H1 s1.heap.objs.size=none:=I1.hok.fresh (Nat.le_refl _)
 refine ⟨.ref s1.heap.objs.size,upd H1 s1.heap.objs.size (.lst xs),I1.laid (t':=s1.toks) (fun b u e=>Heap.get?_push_of_some _ e) (Nat.le_refl _) ?_,rfl,q _ hf (Nat.ne_of_gt I1.big)⟩
 exact ⟨z,us,0,r,Heap.get?_push_size _ rfl⟩
theorem w_lstN (h:PAw X es t):PEw X (.List es pos) (tLstN t):=⟨pe_lstN h.out⟩
open PySem.Spec PyProof.Rows in
theorem call_list_ofN:CallR X (.type "list") (fun xs H Q=>∃p ys,xs=[.ref p]∧SqT X.K H p ys∧∀l,H l=none→l≠sysModules→Q (.ref l) (upd H l (.lst ys))):=by
 intro pins s σ H xs us Q I r h
 obtain ⟨p,ys,rfl,hq,q⟩:=h
 obtain ⟨u,rfl,rx⟩:=vals1 r
 cases rx
 have fin:∀(its:List Value),Vals ys its→ys.length≤sizeLine→∀(h':Heap) (c':Nat),(∀b o',s.heap.get? b=some o'→h'.get? b=some o')→
   h'.get? s.heap.objs.size=some {cls:= .type "list",dict:=none,data:= .seq its.toArray c',slots:= #[]}→EP X pins σ Q (.ref s.heap.objs.size) {s with heap:=h'}:=fun its r' hz h' c' kp e=>
  ⟨.ref s.heap.objs.size,_,I.laid (t':=s.toks) kp (Nat.le_refl _) (show ObjOk X.prog X.w _ h' _ (.lst ys) from ⟨hz,its,c',r',e⟩),rfl,q _ (I.hok.fresh (Nat.le_refl _)) (Nat.ne_of_gt I.big)⟩
 obtain ⟨its,r',pl,hz⟩:=I.tuple hq
 have hlen:=r'.length
 obtain ⟨o,ho,hc,n,hd⟩:=pl
 exact call_list_seq p (.inr rfl) ho hc hd (fun h' c' kp e=>fin its r' hz h' c' kp e) (by simp only [List.size_toArray]<;> omega)
end
end L2
namespace Rp
open PySem L2
def offM (d:Addr) (H:Hp):Hp:=fun a=>if a=d then none else H a
theorem offM_some {d a:Addr} {H:Hp} {o:HO} (h:H a=some o) (n:a≠d):offM d H a=some o:=by unfold offM;rw [if_neg n];exact h
theorem offM_in {d:Addr} {H:Hp} {a:Addr} {o:HO} (h:offM d H a=some o):H a=some o:=by
 unfold offM at h
 split at h
 ·cases h
 ·exact h
theorem offM_ne {d a:Addr} {H:Hp} {o:HO} (h:offM d H a=some o):a≠d:=fun z=>by
 unfold offM at h
 rw [if_pos z] at h;cases h
def ButM (a:Addr) (H H':Hp):Prop:=∀b o,H b=some o→b≠a→H' b=some o
theorem offM_but {d:Addr} {H H':Hp} (b:ButM d H H'):∀a o,offM d H a=some o→offM d H' a=some o:=fun a o h=>offM_some (b a o (offM_in h) (offM_ne h)) (offM_ne h)
def On (n k:Nat) (d:Addr) (H:Hp) (x:V):Prop:=∃dd,RepM (offM d H) x dd∧Fine n k dd
theorem On.but {n k:Nat} {d:Addr} {H H':Hp} {x:V} (h:On n k d H x) (b:ButM d H H'):On n k d H' x:=let ⟨dd,r,g⟩:=h;⟨dd,r.mono (offM_but b),g⟩
theorem On.same {n k:Nat} {d:Addr} {H H':Hp} {x:V} (h:On n k d H x) (s:Same H H'):On n k d H' x:=h.but fun b o e _=>s b o e
theorem On.mono {n k n' k':Nat} {d:Addr} {H:Hp} {x:V} (h:On n k d H x) (h1:n≤n') (h2:k≤k'):On n' k' d H x:=let ⟨dd,r,g⟩:=h;⟨dd,r,g.mono h1 h2⟩
theorem On.non {d:Addr} {H:Hp}:On 100 0 d H .non:=⟨_,.non,Fine.non.mono (by decide) (by decide)⟩
theorem On.bl {d:Addr} {H:Hp} (b:Bool):On 100 0 d H (.bl b):=⟨_,.bl b,(Fine.bl b).mono (by decide) (by decide)⟩
theorem On.int {d:Addr} {H:Hp} {i:Int} (h:i.natAbs<10 ^ 45):On 100 0 d H (.int i):=⟨_,.int i,(Fine.int h).mono (by decide) (by decide)⟩
theorem On.str {d:Addr} {H:Hp} {z:Str} (h:z.length≤9) (hc:∀c∈z.cps.toList,c<16 ^ 8):On 100 0 d H (.str z):=⟨_,.str z (by omega),(Fine.txt h hc).mono (by decide) (by decide)⟩
theorem onAll {n k:Nat} {d:Addr} {H:Hp}:∀{xs:List V},(∀x∈xs,On n k d H x)→∃ds:List PyData,xs.length=ds.length∧(∀p∈xs.zip ds,RepM (offM d H) p.1 p.2)∧∀dd∈ds,Fine n k dd
 |[],_=>⟨[],rfl,by simp,by simp⟩
 |x::xs,h=>by
  obtain ⟨dd,r,g⟩:=h x (List.mem_cons_self ..)
  obtain ⟨ds,l,rs,gs⟩:=onAll fun y hy=>h y (List.mem_cons_of_mem _ hy)
  refine ⟨dd::ds,by simp [l],fun p hp=> ?_,fun e he=> ?_⟩
  ·rw [List.zip_cons_cons] at hp
   rcases List.mem_cons.mp hp with rfl|hp
   ·exact r
   ·exact rs p hp
  ·rcases List.mem_cons.mp he with rfl|he
   ·exact g
   ·exact gs e he
theorem On.tup {n k l:Nat} {d a:Addr} {H:Hp} {xs:List V} (e:H a=some (.tup xs)) (na:a≠d) (hl:xs.length≤l) (l9:l≤900) (h:∀x∈xs,On n k d H x):On (n * l+2 * l+3) (k+1) d H (.ref a):=by
 obtain ⟨ds,len,rs,gs⟩:=onAll h
 exact ⟨_,.tup (offM_some e na) (Nat.le_trans hl l9) len rs,Fine.tup gs (by rw [←len];exact hl)⟩
theorem On.lst {n k l:Nat} {d a:Addr} {H:Hp} {xs:List V} (e:H a=some (.lst xs)) (ns:a≠sysModules) (na:a≠d) (hl:xs.length≤l) (h:∀x∈xs,On n k d H x):On (n * l+2 * l+3) (k+1) d H (.ref a):=by
 obtain ⟨ds,len,rs,gs⟩:=onAll h
 exact ⟨_,.lst (offM_some e na) ns len rs,Fine.lst gs (by rw [←len];exact hl)⟩
theorem On.dct {d a:Addr} {H:Hp} (e:H a=some (.dK [])) (na:a≠d):On 100 1 d H (.ref a):=⟨_,.dct (offM_some e na),Fine.dct.mono (by decide) (by decide)⟩
open PySem.Spec PyProof.Rows PySem.P in
theorem fineM {n k:Nat} {key:Key} {dd:PyData} (hk:Fine 46 0 (keyM key)) (h:Fine n k dd):Fine (n+60) (k+1) (.dict [(keyM key,dd)]):=by
 refine ⟨?_,?_,?_⟩
 ·have a:=hk.sh
  have b:=h.sh
  simp only [PyData.showable,PyData.showableKv,a,b]
  rfl
 ·have h1:=hk.ln
  have h2:=h.ln
  have q:=dictText_len_le [PyData.shown (keyM key)++": "++PyData.shown dd]
  have e:(PyData.shown (keyM key)++": "++PyData.shown dd).length=(PyData.shown (keyM key)).length+2+(PyData.shown dd).length:=by rw [strLen_append,strLen_append];rfl
  simp only [List.map_cons,List.map_nil,List.sum_cons,List.sum_nil,List.length_cons,List.length_nil] at q
  show (dictText [PyData.shown (keyM key)++": "++PyData.shown dd]).length≤n+60
  omega
 ·have h1:=hk.dp
  have h2:=h.dp
  simp only [PyData.depth,PyData.depthKv] at *
  omega
theorem On.dc {n k:Nat} {d a:Addr} {H:Hp} {key:Key} {v:V} (hk:Fine 46 0 (keyM key)) (e:H a=some (.dK [(key,v)])) (na:a≠d) (h:On n k d H v):On (n+60) (k+1) d H (.ref a):=by
 obtain ⟨dd,r,g⟩:=h
 exact ⟨_,.dc1 (offM_some e na) r,fineM hk g⟩
theorem fineA:Fine 46 0 (keyM (Sum.inr (Str.ofString "a"))):=⟨rfl,by decide+kernel,Nat.le_refl _⟩
def OnS (S k:Nat) (d:Addr) (H:Hp) (xs:List V):Prop:=∃ds:List PyData,xs.length=ds.length∧(∀p∈xs.zip ds,RepM (offM d H) p.1 p.2)∧PyData.showableAll ds=true∧((PyData.shownAll ds).map (·.length)).sum≤S∧(PyData.shownAll ds).length=ds.length∧PyData.depthAll ds≤k
theorem OnS.nil {k:Nat} {d:Addr} {H:Hp}:OnS 0 k d H []:=⟨[],rfl,by simp,rfl,by simp [PyData.shownAll],rfl,by simp [PyData.depthAll]⟩
theorem OnS.cons {n S k:Nat} {d:Addr} {H:Hp} {x:V} {xs:List V} (h:On n k d H x) (g:OnS S k d H xs):OnS (n+S) k d H (x::xs):=by
 obtain ⟨dd,r,f⟩:=h
 obtain ⟨ds,l,rs,a,b,c,e⟩:=g
 refine ⟨dd::ds,by simp [l],fun p hp=> ?_,by rw [PyData.showableAll,f.sh,a];rfl,?_,by rw [PyData.shownAll,List.length_cons,c,List.length_cons],by have:=f.dp;rw [PyData.depthAll];omega⟩
 ·rw [List.zip_cons_cons] at hp
  rcases List.mem_cons.mp hp with rfl|hp
  ·exact r
  ·exact rs p hp
 ·have:=f.ln
  rw [PyData.shownAll,List.map_cons,List.sum_cons]
  omega
theorem OnS.mono {S k S' k':Nat} {d:Addr} {H:Hp} {xs:List V} (h:OnS S k d H xs) (h1:S≤S') (h2:k≤k'):OnS S' k' d H xs:=let ⟨ds,l,rs,a,b,c,e⟩:=h;⟨ds,l,rs,a,Nat.le_trans b h1,c,Nat.le_trans e h2⟩
theorem OnS.app {S S' k:Nat} {d:Addr} {H:Hp}:∀{xs ys:List V},OnS S k d H xs→OnS S' k d H ys→OnS (S+S') k d H (xs++ys)
 |[],ys,_,g=>g.mono (by omega) (Nat.le_refl _)
 |x::xs,ys,⟨ds,l,rs,a,b,c,e⟩,g=>by
  cases ds with
  |nil=>cases l
  |cons dd ds=>
   rw [PyData.showableAll,Bool.and_eq_true] at a
   rw [PyData.shownAll,List.map_cons,List.sum_cons] at b
   rw [PyData.shownAll,List.length_cons,List.length_cons] at c
   rw [PyData.depthAll] at e
   have h1:On (PyData.shown dd).length k d H x:=⟨dd,rs (x,dd) (by simp),a.1,Nat.le_refl _,by omega⟩
   have h2:OnS (S - (PyData.shown dd).length) k d H xs:=⟨ds,by simpa using l,fun p hp=>rs p (by simp [hp]),a.2,by omega,by omega,by omega⟩
   exact (OnS.cons h1 (OnS.app h2 g)).mono (by omega) (Nat.le_refl _)
theorem OnS.all {n k:Nat} {d:Addr} {H:Hp} {xs:List V} (h:∀x∈xs,On n k d H x) {l:Nat} (hl:xs.length≤l):OnS (n * l) k d H xs:=by
 obtain ⟨ds,len,rs,gs⟩:=onAll h
 obtain ⟨a,b,c,e⟩:=all_fine gs
 exact ⟨ds,len,rs,a,Nat.le_trans b (Nat.mul_le_mul_left n (by omega)),c,e⟩
theorem On.tupS {S k:Nat} {d a:Addr} {H:Hp} {xs:List V} (e:H a=some (.tup xs)) (na:a≠d) (h:OnS S k d H xs) (l9:xs.length≤900):On (S+2 * xs.length+3) (k+1) d H (.ref a):=by
 obtain ⟨ds,len,rs,s,b,c,g⟩:=h
 have q:=tupleText_len_le (PyData.shownAll ds)
 exact ⟨_,.tup (offM_some e na) l9 len rs,by rw [PyData.showable];exact s,by rw [PyData.shown];omega,by rw [PyData.depth];omega⟩
end Rp
namespace L2
open PySem
structure PSw (X:Cx) (s:Stmt) (t:TS):Prop where
 out:PS X s t
structure PSsw (X:Cx) (ss:List Stmt) (t:TS):Prop where
 out:PSs X ss t
section
variable {X:Cx} {st:Stmt} {rest:List Stmt} {t u:TS} {e a b:Expr} {te ta tb:TE} {pos:Pos} {r:R2} {c:TT}
theorem w_ix (hr:IxR X r) (ha:PEw X a ta) (hb:PEw X b tb) (hs:PlainIx b):PEw X (.Subscript a b pos) (tOp r ta tb):=⟨At hr ha.out hb.out hs⟩
theorem s_of (h:PS X st t):PSw X st t:=⟨h⟩
theorem s_one (h:PSw X st t):PSsw X [st] t:=⟨Ah h.out⟩
theorem s_cons (h:PSw X st t) (g:PSsw X rest u):PSsw X (st::rest) (tSeq t u):=⟨Ag h.out g.out⟩
theorem s_ret (he:PEw X e te):PSw X (.Return (some e) pos) (tRet te):=⟨Al he.out⟩
theorem s_set {i:Nat} {x:Str} {pos':Pos} (hN:X.N.Nodup) (hi:X.N[i]? =some x) (hx:Loc X.env.scope x) (he:PEw X e te) (hs:swapsWith e (some (.Name x pos')) pos.line X.env=pure false:=by rfl) (hf:X.fn x=true∨X.env.scope.names.lookup x=some .local:=by first|exact .inl rfl|exact .inr rfl|assumption):
  PSw X (.Assign [.Name x pos'] e pos) (tAsg te (gName i)):=⟨As hN hi hx he.out hs hf⟩
end
end L2
namespace K34
open PySem L2 Wk
def Short (R:List R6):Prop:=∀x∈R,x.1.1.length≤1000
theorem row_and {H:Hp} {r:Addr} {x:R6} (h:H r=some (.tup (rowV x))) (s:x.1.1.length≤1000):AnD H 1 (.ref r):=by
 refine .inr ⟨r,rowV x,rfl,h,by show 6≤900;decide,fun v hv=> ?_⟩
 simp only [rowV,tieV,List.cons_append,List.nil_append,List.mem_cons,List.not_mem_nil,or_false] at hv
 rcases hv with rfl|rfl|rfl|rfl|rfl|rfl
 ·exact ⟨.inl (.inl (.inr (.inr (.inr ⟨_,rfl⟩)))),fun z e=>by cases e;exact s⟩
 ·exact ⟨.inl (.inl (.inr (.inr (.inl ⟨_,rfl⟩)))),fun z e=>nomatch e⟩
 ·exact ⟨.inl (.inl (.inr (.inr (.inl ⟨_,rfl⟩)))),fun z e=>nomatch e⟩
 ·exact ⟨.inl (.inl (.inr (.inr (.inl ⟨_,rfl⟩)))),fun z e=>nomatch e⟩
 ·exact ⟨.inl (.inl (.inr (.inr (.inl ⟨_,rfl⟩)))),fun z e=>nomatch e⟩
 ·exact ⟨.inl (.inl (.inr (.inl ⟨_,rfl⟩))),fun z e=>nomatch e⟩
theorem rows_and {H:Hp} {tp:Addr} {rs:List Addr} {R:List R6} (ht:H tp=some (.tup (rs.map V.ref))) (hR:RowsAt H rs R) (l:R.length≤900) (s:Short R):AnD H 2 (.ref tp):=by
 refine .inr ⟨tp,_,rfl,ht,by rw [List.length_map,hR.1];exact l,fun v hv=> ?_⟩
 obtain ⟨r,hr,rfl⟩:=List.mem_map.mp hv
 obtain ⟨i,hi,e⟩:=List.getElem_of_mem hr
 obtain ⟨x,ex,hx⟩:=hR.get (Bh hi)
 rw [e] at hx
 exact row_and hx (s x (List.mem_of_getElem? ex))
theorem lay_and {H:Hp} {h:Addr} {N:Nat} {R:List R6} (x:LayAt H h N R) (l:R.length≤900) (s:Short R):AnD H 3 (.ref h):=by
 obtain ⟨tp,rs,e1,e2,e3⟩:=x
 refine .inr ⟨h,_,rfl,e1,by show 2≤900;decide,fun v hv=> ?_⟩
 simp only [List.mem_cons,List.not_mem_nil,or_false] at hv
 rcases hv with rfl|rfl
 ·exact .inl ⟨.inl (.inr (.inr (.inl ⟨_,rfl⟩))),fun z e=>nomatch e⟩
 ·exact rows_and e2 e3 l s
theorem LGood.short {N:Nat} {R:List R6} (h:LGood N R):Short R:=fun x hx=>by have:=(h.ok x hx).1.2.1;omega
theorem good_at {H:Hp} {h:Addr} {N:Nat} {R:List R6} (l:LayAt H h N R) (N1:1≤N) (N24:N≤24) (g:LGood N R) (u:UpP R):GoodAt H (.ref h):=⟨h,N,R,rfl,l,⟨N1,N24,g.len,g.ok,u⟩,g⟩
theorem eqs_nilT {K:PySem.W.Frag} {H:Hp} {n:Nat} {a b:Addr} {xs:List V} (h1:SqT K H a xs) (h2:SqT K H b []):Eqs K H (n+1) (.ref a) (.ref b) xs.isEmpty:=by
 refine .inr (.inl ⟨a,b,xs,[],fun _=>true,rfl,rfl,.inl ⟨h1,h2⟩,fun j p q _ hq=>by simp at hq,?_⟩)
 cases xs<;> simp
theorem rows_mono2 {H H':Hp} {rs:List Addr} {R:List R6} (h:RowsAt H rs R) (s:Same H H'):RowsAt H' rs R:=h.mono fun r xs=>s r (.tup xs)
theorem butM {a:Addr} {H H':Hp} (b:But a H H'):Rp.ButM a H H':=fun c o e n=>b c o e n
theorem rep_and {H:Hp} {v:V} {d:PyData} (h:Rp.RepM H v d):∀n,AnD H n v:=by
 have nt:∀{v:V} (n:Nat),NotT H v→(∀z,v= .str z→z.length≤1000)→AnD H n v:=fun n h1 h2=>by
  cases n with
  |zero=>exact ⟨.inl h1,h2⟩
  |succ n=>exact .inl ⟨h1,h2⟩
 induction h with
 |non=>exact fun n=>nt n (.inl (.inl rfl)) (fun z e=>nomatch e)
 |bl b=>exact fun n=>nt n (.inl (.inr (.inl ⟨_,rfl⟩))) (fun z e=>nomatch e)
 |int i=>exact fun n=>nt n (.inl (.inr (.inr (.inl ⟨_,rfl⟩)))) (fun z e=>nomatch e)
 |str x l=>exact fun n=>nt n (.inl (.inr (.inr (.inr ⟨_,rfl⟩)))) (fun z e=>by cases e;exact l)
 | @tup t xs ds e l z _ ih=>
  intro n
  cases n with
  |zero=>exact ⟨.inr ⟨_,_,rfl,e⟩,fun z e=>nomatch e⟩
  |succ n=>
   refine .inr ⟨_,_,rfl,e,l,fun x hx=> ?_⟩
   obtain ⟨i,hi,rfl⟩:=List.mem_iff_getElem.mp hx
   exact ih (xs[i],ds[i]'(by omega)) (List.mem_iff_getElem.mpr ⟨i,by rw [List.length_zip];omega,by rw [List.getElem_zip]⟩) n
 |lst e _ _ _ _=>exact fun n=>nt n (.inr (.inl ⟨_,_,rfl,e⟩)) (fun z e=>nomatch e)
 |dct e=>exact fun n=>nt n (.inr (.inr ⟨_,_,rfl,e⟩)) (fun z e=>nomatch e)
 |dc1 e _ _=>exact fun n=>nt n (.inr (.inr ⟨_,_,rfl,e⟩)) (fun z e=>nomatch e)
def OkL (a:Addr) (H:Hp) (zs:List V):Prop:=∀z∈zs,Rp.On 160000 20 a H z
theorem OkL.nil {a:Addr} {H:Hp}:OkL a H []:=fun z h=>nomatch h
theorem OkL.snoc {a:Addr} {H H':Hp} {zs:List V} {z:V} {n k:Nat} (h:OkL a H zs) (s:Same H H') (q:Rp.On n k a H' z) (h1:n≤160000:=by decide) (h2:k≤20:=by decide):OkL a H' (zs++[z]):=fun y hy=>by
 rcases List.mem_append.mp hy with hy|hy
 ·exact (h y hy).same s
 ·rw [List.mem_singleton.mp hy];exact q.mono h1 h2
theorem OkL.same {a:Addr} {H H':Hp} {zs:List V} (h:OkL a H zs) (s:Same H H'):OkL a H' zs:=fun y hy=>(h y hy).same s
theorem at_mem {xs:List V} {y:Int} (h0:0≤y) (h1:y<xs.length):∃v,atI xs y=some v∧v∈xs:=by
 obtain ⟨n,rfl⟩:∃n:Nat,y=(n:Int):=⟨y.toNat,by omega⟩
 have hn:n<xs.length:=by omega
 exact ⟨xs[n],Ay (Bh hn),List.getElem_mem hn⟩
theorem on_nilT {a e:Addr} {H:Hp} (h:H e=some (.tup [])) (n:e≠a):Rp.On 3 1 a H (.ref e):=Rp.On.tupS h n (Rp.OnS.nil (k:=0)) (by decide)
theorem on_one {a e:Addr} {H:Hp} {v:V} {n k:Nat} (h:H e=some (.tup [v])) (ne:e≠a) (q:Rp.On n k a H v):Rp.On (n+5) (k+1) a H (.ref e):=(Rp.On.tupS h ne (Rp.OnS.cons q (Rp.OnS.nil (k:=k))) (by show 1≤900;decide)).mono (by show n+0+2 * 1+3≤_;omega) (Nat.le_refl _)
theorem on_two {a e:Addr} {H:Hp} {v w:V} {n m k:Nat} (h:H e=some (.tup [v,w])) (ne:e≠a) (q:Rp.On n k a H v) (r:Rp.On m k a H w):Rp.On (n+m+7) (k+1) a H (.ref e):=(Rp.On.tupS h ne (Rp.OnS.cons q (Rp.OnS.cons r (Rp.OnS.nil (k:=k)))) (by show 2≤900;decide)).mono (by show n+(m+0)+2 * 2+3≤_;omega) (Nat.le_refl _)
theorem on_lst {a e:Addr} {H:Hp} {xs:List V} {n k l:Nat} (h:H e=some (.lst xs)) (ns:e≠sysModules) (ne:e≠a) (q:∀x∈xs,Rp.On n k a H x) (hl:xs.length≤l):Rp.On (n * l+2 * l+3) (k+1) a H (.ref e):=Rp.On.lst h ns ne hl q
def spOdd:Sp:=fun vs H Q _=>∃(a g:Addr) (x y:V),vs=[.ref a,.ref g]∧DeckAt H a∧g≠a∧H g=some (.tup [x,y])∧Rp.On 100 0 a H x∧Rp.On 38000 2 a H y∧∀(l:Addr) (zs:List V) (H':Hp),But a H H'→DeckAt H' a→l≠a→H' l=some (.lst zs)→zs.length≤30→OkL a H' zs→Q (.ref l) H'
section
variable {P:Program} {w:World} {K:PySem.W.Frag} {mg:Str→Option Value} {base:Heap}
theorem scOdd:Av ["_law_deck_here","_law_good_here","_law_deep","_law_k","_law_some_here"] ["_law_deck_here","_law_good_here"] (Ae sOdd):=⟨rfl,rfl,rfl,by decide+kernel,rfl,by decide+kernel,by decide+kernel⟩
theorem ok_Odd {f:Addr} {fd:FuncData} (F:Fun K "_law_odd" "_law_odd" sOdd f fd) (T:Txt mg)
  {gDraw:Addr} {fDraw:FuncData} (kDraw:PySem.W.keepIn K (.ref gDraw)=true) (bDraw:Binds K fDraw ["_law_deck_here","_law_most"] []) (hDraw:mg "_law_draw"=some (.ref gDraw)) (GDraw:FnOk P w K mg base CX0 1 gDraw fDraw ["_law_deck_here","_law_most"] spDraw):
  FnOk P w K mg base CX0 2 f fd ["_law_deck_here","_law_good_here"] spOdd:=by
 refine F.ok scOdd (fun vs H Q E h=> ?_) (fun cdv A outer s H vs Q E hr h=> ?_)
 ·obtain ⟨_,_,_,_,rfl,_⟩:=h;rfl
 ·obtain ⟨a,g,x,y,rfl,d0,ng,hg,ox,oy,k⟩:=h
  refine ⟨_,PSsw.out (s_cons (s_set (i:=2) scOdd.nd rfl (Or.inl rfl) (w_ix A3 (w_lst (A8 (w_tup w_nil) (A8 (Ck Af) (A8 (Ck pe_str) (A8 (Ck pe_non) w_nil st_C) st_C) st_C) st_T)) (Ck (Ai GDraw hr rfl hDraw kDraw bDraw .nil Aq (Aa (pv 0) (Aa Af Ac)))) (fun _ _=>rfl)))
   (s_cons (s_of (ps_for PassesOwn.never rfl (By rfl T.range (Aa (Ai GDraw hr rfl hDraw kDraw bDraw .nil Aq (Aa (pv 0) (Aa Af Ac))) Ac)) (Ak (i:=3) scOdd.nd rfl (Or.inl rfl)) (Ah (PSw.out (s_set (i:=2) scOdd.nd rfl (Or.inl rfl) (w_ix A3 (w_lst (A8 (w_lstN (A8 (Ck (pv 2)) w_nil st_N)) (A8 (w_tup (A8 (Ck (pv 2)) w_nil st_N)) (A8 (Ck (pe_disp (pps_cons pe_str (pv 2) pps_nil) rfl rfl (by simp) (by simp))) w_nil st_D) st_T) st_L)) (Ck (Ai GDraw hr rfl hDraw kDraw bDraw .nil Aq (Aa (pv 0) (Aa Af Ac)))) (fun _ _=>rfl)))))))
   (s_cons (s_set (i:=4) scOdd.nd rfl (Or.inl rfl) (w_lst (A8 (Ck pe_non) (A8 (Ck B6) (A8 (Ck B6) (A8 (Ck pe_str) (A8 (Ck pe_str) (A8 (Ck pe_str) (A8 (Ck Af) (A8 (Ck Af) (A8 (Ck (pe_un un_neg Af)) (A8 (Ck (Am op_pow Af Af)) (A8 (Ck (Am op_sub Af (Am op_pow Af Af))) (A8 (w_lstN w_nil) (A8 (Ck pe_dnewK) (A8 (w_tup w_nil) (A8 (w_tup (A8 (w_tup w_nil) w_nil st_T)) (A8 (w_tup (A8 (Ck pe_str) w_nil st_C)) (A8 (Ck (pv 2)) w_nil st_N) st_T) st_T) st_T) st_D) st_L) st_B) st_B) st_U) st_C) st_C) st_C) st_C) st_C) st_C) st_C) st_C)))
   (s_one (s_ret (w_op op_cat (Ck (pv 4)) (w_lst (A8 (w_lstN (A8 (Ck (pv 1)) w_nil st_N)) (A8 (w_tup (A8 (Ck (pv 1)) w_nil st_N)) (A8 (Ck (pe_disp (pps_cons pe_str (pv 1) pps_nil) rfl rfl (by simp) (by simp))) (A8 (w_tup (A8 (Ck (pv 1)) (A8 (Ck (pv 1)) w_nil st_N) st_N)) (A8 (Ck (Bt call_list_ofN (by rfl) T.list (by decide+kernel) (Aa (pv 1) Ac))) w_nil st_K) st_T) st_D) st_T) st_L)))))))),?_⟩
  refine ⟨Ax (by simp),fun e1 h1=>⟨Ax (by simp),fun l1 g1=> ?_⟩⟩
  have na:=d0.ne h1
  have s1:=Ad (o:= .tup []) h1
  have o1:Rp.On 100 1 a (upd H e1 (.tup [])) (.ref e1):=(on_nilT Ab na).mono (by decide) (by decide)
  have d1:=d0.same s1
  have B1:But a H (upd H e1 (.tup [])):=But.of s1
  generalize upd H e1 (.tup [])=H1 at s1 o1 d1 B1 g1 ⊢
  have n1:=d1.ne g1
  have s2:=Ad (o:= .lst [.ref e1,.int 0,.str "a",.non]) g1
  have q2:=Ab (H:=H1) (a:=l1) (o:= .lst [.ref e1,.int 0,.str "a",.non])
  have ok2:∀v∈([.ref e1,.int 0,.str "a",.non]:List V),Rp.On 100 1 a (upd H1 l1 (.lst [.ref e1,.int 0,.str "a",.non])) v:=fun v hv=>by
   simp only [List.mem_cons,List.not_mem_nil,or_false] at hv
   rcases hv with rfl|rfl|rfl|rfl
   ·exact o1.same s2
   ·exact (Rp.On.int (by decide)).mono (by decide) (by decide)
   ·exact (Rp.On.str (by decide+kernel) (by decide+kernel)).mono (by decide) (by decide)
   ·exact Rp.On.non.mono (by decide) (by decide)
  have d2:=d1.same s2
  have B2:=B1.trans (But.of s2)
  generalize upd H1 l1 (.lst [.ref e1,.int 0,.str "a",.non])=H2 at q2 ok2 d2 B2 ⊢
  refine ⟨_,rfl,a,4,rfl,d2,by decide,by decide,fun y' H3 y0 y1 b3 d3=> ?_⟩
  obtain ⟨v,hv,mv⟩:=at_mem (xs:=[.ref e1,.int 0,.str "a",.non]) y0 y1
  refine ⟨l1,_,y',v,rfl,rfl,SqL.of (b3 _ _ q2 n1),hv,?_⟩
  have ov:=(ok2 v mv).but (butM b3)
  have B3:=B2.trans b3
  refine ⟨_,rfl,a,16,rfl,d3,by decide,by decide,fun n H4 i0 i1 b4 d4=> ?_⟩
  obtain ⟨n,rfl⟩:=nat_of i0
  have B4:=B3.trans b4
  refine ⟨(n:Int),rfl,by omega,by omega,for_range (lo:=0) (n:=(n:Int).toNat) (fun i σ H5=>∃(v:V) (u3:Option V),σ=[some (.ref a),some (.ref g),some v,u3,none]∧But a H H5∧DeckAt H5 a∧Rp.On (100+60 * i) (1+i) a H5 v) ⟨v,_,rfl,B4,d4,(ov.but (butM b4)).mono (by omega) (by omega)⟩ ?_ ?_⟩
  ·rintro i σ H5 hi ⟨v,u3,rfl,b5,d5,o5⟩
   refine ⟨_,rfl,Ax (by simp),fun t1 ht1 ns1=>⟨_,rfl,Ax (by simp),fun t2 ht2=> ?_⟩⟩
   have n1:=d5.ne ht1
   have s6:=Ad (o:= .lst [v]) ht1
   have q1:Rp.On (100+60 * (i+1)) (1+(i+1)) a (upd H5 t1 (.lst [v])) (.ref t1):=(on_lst (l:=1) Ab ns1 n1 (fun z hz=>by rw [List.mem_singleton.mp hz];exact o5.same s6) (by simp)).mono (by omega) (by omega)
   have o6:=o5.same s6
   have d6:=d5.same s6
   have b6:=b5.trans (But.of s6)
   generalize upd H5 t1 (.lst [v])=H6 at q1 o6 d6 b6 ht2 ⊢
   have n2:=d6.ne ht2
   have s7:=Ad (o:= .tup [v]) ht2
   have q2:Rp.On (100+60 * (i+1)) (1+(i+1)) a (upd H6 t2 (.tup [v])) (.ref t2):=(on_one Ab n2 (o6.same s7)).mono (by omega) (by omega)
   have q1:=q1.same s7
   have o7:=o6.same s7
   have d7:=d6.same s7
   have b7:=b6.trans (But.of s7)
   generalize upd H6 t2 (.tup [v])=H7 at q1 q2 o7 d7 b7 ⊢
   refine fun t3 ht3=> ?_
   refine ⟨_,rfl,Ab,[(.inr (Str.ofString "a"),v)],rfl,by simp,?_⟩
   have ez:upd (upd H7 t3 (.dK [])) t3 (.dK (mergeK [] [(Sum.inr (Str.ofString "a"),v)]))=upd H7 t3 (.dK [(.inr (Str.ofString "a"),v)]):=by rw [upd_upd];rfl
   rw [ez]
   have n3:=d7.ne ht3
   have s8:=Ad (o:= .dK [(.inr (Str.ofString "a"),v)]) ht3
   have q3:Rp.On (100+60 * (i+1)) (1+(i+1)) a (upd H7 t3 (.dK [(.inr (Str.ofString "a"),v)])) (.ref t3):=(Rp.On.dc Rp.fineA Ab n3 (o7.same s8)).mono (by omega) (by omega)
   have q1:=q1.same s8
   have q2:=q2.same s8
   have d8:=d7.same s8
   have b8:=b7.trans (But.of s8)
   generalize upd H7 t3 (.dK [(.inr (Str.ofString "a"),v)])=H8 at q1 q2 q3 d8 b8 ⊢
   refine ⟨Ax (by simp),fun l hl=> ?_⟩
   have nl:=d8.ne hl
   have s9:=Ad (o:= .lst [.ref t1,.ref t2,.ref t3]) hl
   have l9:=Ab (H:=H8) (a:=l) (o:= .lst [.ref t1,.ref t2,.ref t3])
   have ok9:∀z∈([.ref t1,.ref t2,.ref t3]:List V),Rp.On (100+60 * (i+1)) (1+(i+1)) a (upd H8 l (.lst [.ref t1,.ref t2,.ref t3])) z:=fun z hz=>by
    simp only [List.mem_cons,List.not_mem_nil,or_false] at hz
    rcases hz with rfl|rfl|rfl
    ·exact q1.same s9
    ·exact q2.same s9
    ·exact q3.same s9
   have d9:=d8.same s9
   have b9:=b8.trans (But.of s9)
   generalize upd H8 l (.lst [.ref t1,.ref t2,.ref t3])=H9 at l9 ok9 d9 b9 ⊢
   refine ⟨_,rfl,a,3,rfl,d9,by decide,by decide,fun w HA w0 w1 bA dA=> ?_⟩
   obtain ⟨z,hz,mz⟩:=at_mem (xs:=[.ref t1,.ref t2,.ref t3]) w0 w1
   exact ⟨l,_,w,z,rfl,rfl,SqL.of (bA _ _ l9 nl),hz,z,_,rfl,b9.trans bA,dA,(ok9 z mz).but (butM bA)⟩
  rintro σ H5 ⟨v,u3,rfl,b5,d5,o5⟩
  have o5:Rp.On 1500 20 a H5 v:=o5.mono (by omega) (by omega)
  have hg5:=b5 _ _ hg ng
  have x5:=ox.but (butM b5)
  have y5:=oy.but (butM b5)
  refine ⟨_,rfl,_,_,rfl,rfl,⟨by decide,by decide,by decide⟩,_,_,rfl,rfl,⟨by decide,by decide,by decide⟩,_,_,rfl,rfl,Ax (by simp),fun e1 h1 m1=> ?_⟩
  have L0:OkL a H5 [.non,.bl true,.bl false,.str "",.str "a",.str "abcdefgh",.int 0,.int 1,.int (-1),.int (10 ^ Int.toNat 39),.int (0 - 10 ^ Int.toNat 39)]:=fun z hz=>by
   simp only [List.mem_cons,List.not_mem_nil,or_false] at hz
   have S:∀s:Str,s.length≤9→(∀c∈s.cps.toList,c<16 ^ 8)→Rp.On 160000 20 a H5 (.str s):=fun s h1 h2=>(Rp.On.str h1 h2).mono (by decide) (by decide)
   have I:∀i:Int,i.natAbs<10 ^ 45→Rp.On 160000 20 a H5 (.int i):=fun i h=>(Rp.On.int h).mono (by decide) (by decide)
   rcases hz with rfl|rfl|rfl|rfl|rfl|rfl|rfl|rfl|rfl|rfl|rfl
   ·exact Rp.On.non.mono (by decide) (by decide)
   ·exact (Rp.On.bl _).mono (by decide) (by decide)
   ·exact (Rp.On.bl _).mono (by decide) (by decide)
   ·exact S _ (by decide+kernel) (by decide+kernel)
   ·exact S _ (by decide+kernel) (by decide+kernel)
   ·exact S _ (by decide+kernel) (by decide+kernel)
   ·exact I _ (by decide)
   ·exact I _ (by decide)
   ·exact I _ (by decide)
   ·exact I _ (by decide+kernel)
   ·exact I _ (by decide+kernel)
  have s1:=Ad (o:= .lst []) h1
  have L1:=L0.snoc s1 (on_lst (l:=0) (n:=0) (k:=0) Ab m1 (d5.ne h1) (fun z hz=>nomatch hz) (by simp))
  have S1:=s1
  have d6:=d5.same s1
  generalize upd H5 e1 (.lst [])=H6 at L1 S1 d6 ⊢
  refine fun e2 h2=> ?_
  have s2:=Ad (o:= .dK []) h2
  have L2:=L1.snoc s2 (Rp.On.dct Ab (d6.ne h2))
  have S2:=S1.trans s2
  have d7:=d6.same s2
  generalize upd H6 e2 (.dK [])=H7 at L2 S2 d7 ⊢
  refine ⟨Ax (by simp),fun e3 h3=>⟨Ax (by simp),fun e4 h4=> ?_⟩⟩
  have s3:=Ad (o:= .tup []) h3
  have L3:=L2.snoc s3 (on_nilT Ab (d7.ne h3))
  have S3:=S2.trans s3
  have d8:=d7.same s3
  generalize upd H7 e3 (.tup [])=H8 at L3 S3 d8 h4 ⊢
  have s4:=Ad (o:= .tup []) h4
  have o4:Rp.On 3 1 a (upd H8 e4 (.tup [])) (.ref e4):=on_nilT Ab (d8.ne h4)
  have L3:=L3.same s4
  have S4:=S3.trans s4
  have d9:=d8.same s4
  generalize upd H8 e4 (.tup [])=H9 at L3 S4 d9 o4 ⊢
  refine ⟨Ax (by simp),fun e6 h6=>⟨Ax (by simp),fun e7 h7=> ?_⟩⟩
  have s6:=Ad (o:= .tup [.ref e4]) h6
  have L4:=L3.snoc s6 (on_one Ab (d9.ne h6) (o4.same s6))
  have S6:=S4.trans s6
  have dA:=d9.same s6
  generalize upd H9 e6 (.tup [.ref e4])=HA at L4 S6 dA h7 ⊢
  have s7:=Ad (o:= .tup [.str "a"]) h7
  have L5:=L4.snoc s7 (on_one Ab (dA.ne h7) (Rp.On.str (by decide+kernel) (by decide+kernel)))
  have S7:=S6.trans s7
  have dB:=dA.same s7
  generalize upd HA e7 (.tup [.str "a"])=HB at L5 S7 dB ⊢
  have L6:=L5.snoc (Bb _) (o5.same S7)
  refine ⟨_,rfl,Ax (by simp),fun l hl=> ?_⟩
  have nl:=dB.ne hl
  have L6:OkL a HB [.non,.bl true,.bl false,.str "",.str "a",.str "abcdefgh",.int 0,.int 1,.int (-1),.int (10 ^ Int.toNat 39),.int (0 - 10 ^ Int.toNat 39),.ref e1,.ref e2,.ref e3,.ref e6,.ref e7,v]:=L6
  have len:([.non,.bl true,.bl false,.str "",.str "a",.str "abcdefgh",.int 0,.int 1,.int (-1),.int (10 ^ Int.toNat 39),.int (0 - 10 ^ Int.toNat 39),.ref e1,.ref e2,.ref e3,.ref e6,.ref e7,v]:List V).length=17:=rfl
  generalize ([.non,.bl true,.bl false,.str "",.str "a",.str "abcdefgh",.int 0,.int 1,.int (-1),.int (10 ^ Int.toNat 39),.int (0 - 10 ^ Int.toNat 39),.ref e1,.ref e2,.ref e3,.ref e6,.ref e7,v]:List V)=XS at L6 len ⊢
  have s8:=Ad (o:= .lst XS) hl
  have l8:=Ab (H:=HB) (a:=l) (o:= .lst XS)
  have L7:=L6.same s8
  have S8:=S7.trans s8
  have dC:=dB.same s8
  generalize upd HB l (.lst XS)=HC at l8 L7 S8 dC ⊢
  have gC:=S8 _ _ hg5
  have xC:=x5.same S8
  have yC:=y5.same S8
  have oG:Rp.On 39000 3 a HC (.ref g):=(on_two gC ng (xC.mono (Nat.le_refl _) (by decide)) yC).mono (by decide) (by decide)
  refine ⟨_,rfl,_,rfl,Ax (by simp),fun f1 g1 m1=>⟨_,rfl,Ax (by simp),fun f2 g2=> ?_⟩⟩
  have t1:=Ad (o:= .lst [.ref g]) g1
  have M1:=OkL.nil.snoc (z:= .ref f1) t1 (on_lst (l:=1) Ab m1 (dC.ne g1) (fun z hz=>by rw [List.mem_singleton.mp hz];exact oG.same t1) (by simp))
  have T1:=t1
  have dD:=dC.same t1
  generalize upd HC f1 (.lst [.ref g])=HD at M1 T1 dD g2 ⊢
  have t2:=Ad (o:= .tup [.ref g]) g2
  have M2:=M1.snoc t2 (on_one Ab (dD.ne g2) (oG.same (T1.trans t2)))
  have T2:=T1.trans t2
  have dE:=dD.same t2
  generalize upd HD f2 (.tup [.ref g])=HE at M2 T2 dE ⊢
  refine fun f3 g3=> ?_
  refine ⟨_,rfl,Ab,[(.inr (Str.ofString "a"),.ref g)],rfl,by simp,?_⟩
  have ez:upd (upd HE f3 (.dK [])) f3 (.dK (mergeK [] [(Sum.inr (Str.ofString "a"),V.ref g)]))=upd HE f3 (.dK [(.inr (Str.ofString "a"),.ref g)]):=by rw [upd_upd];rfl
  rw [ez]
  have t3:=Ad (o:= .dK [(.inr (Str.ofString "a"),.ref g)]) g3
  have M3:=M2.snoc t3 (Rp.On.dc Rp.fineA Ab (dE.ne g3) (oG.same (T2.trans t3)))
  have T3:=T2.trans t3
  have dF:=dE.same t3
  generalize upd HE f3 (.dK [(.inr (Str.ofString "a"),.ref g)])=HF at M3 T3 dF ⊢
  refine ⟨_,rfl,_,rfl,Ax (by simp),fun f4 g4=> ?_⟩
  have t4:=Ad (o:= .tup [.ref g,.ref g]) g4
  have M4:=M3.snoc t4 (on_two Ab (dF.ne g4) (oG.same (T3.trans t4)) (oG.same (T3.trans t4)))
  have T4:=T3.trans t4
  have dG:=dF.same t4
  generalize upd HF f4 (.tup [.ref g,.ref g])=HG at M4 T4 dG ⊢
  refine ⟨_,rfl,g,_,rfl,SqT.of (T4 _ _ gC),fun f5 g5 m5=> ?_⟩
  have t5:=Ad (o:= .lst [x,y]) g5
  have M5:=M4.snoc t5 (on_lst (l:=2) (n:=38000) (k:=2) Ab m5 (dG.ne g5) (fun z hz=>by
   simp only [List.mem_cons,List.not_mem_nil,or_false] at hz
   rcases hz with rfl|rfl
   ·exact (xC.same (T4.trans t5)).mono (by decide) (by decide)
   ·exact yC.same (T4.trans t5)) (by simp))
  have T5:=T4.trans t5
  have dH:=dG.same t5
  generalize upd HG f5 (.lst [x,y])=HI at M5 T5 dH ⊢
  refine ⟨Ax (by simp),fun L hL=> ?_⟩
  have nL:=dH.ne hL
  have M5:OkL a HI [.ref f1,.ref f2,.ref f3,.ref f4,.ref f5]:=M5
  have t6:=Ad (o:= .lst [.ref f1,.ref f2,.ref f3,.ref f4,.ref f5]) hL
  have l6:=Ab (H:=HI) (a:=L) (o:= .lst [.ref f1,.ref f2,.ref f3,.ref f4,.ref f5])
  have M6:=M5.same t6
  have T6:=T5.trans t6
  have dI:=dH.same t6
  generalize upd HI L (.lst [.ref f1,.ref f2,.ref f3,.ref f4,.ref f5])=HJ at l6 M6 T6 dI ⊢
  refine ⟨l,L,_,_,rfl,rfl,T6 _ _ l8,l6,Ax (by rw [len];show 17+5≤10000;decide),fun Z hZ=> ?_⟩
  have nZ:=dI.ne hZ
  have t7:=Ad (o:= .lst (XS++[.ref f1,.ref f2,.ref f3,.ref f4,.ref f5])) hZ
  refine k Z _ _ ((b5.trans (But.of (S8.trans T6))).trans (But.of t7)) (dI.same t7) nZ Ab (by rw [List.length_append,len];show 17+5≤30;decide) fun z hz=> ?_
  rcases List.mem_append.mp hz with hz|hz
  ·exact ((L7 z hz).same T6).same t7
  ·exact (M6 z hz).same t7
end
end K34
namespace K34
open PySem L2 Wk
def spLaw (K:PySem.W.Frag):Sp:=fun vs H Q _=>∃(s:Addr) (ns:List Int),vs=[.ref s]∧SqL K H s (ns.map V.int)∧ns.length≤63∧∀H',Q (.bl true) H'
theorem DeckAt.neT {H:Hp} {a r:Addr} {xs:List V} (h:DeckAt H a) (e:H r=some (.tup xs)):r≠a:=fun z=>by
 obtain ⟨c,S,rs,q,_⟩:=h
 rw [z,q] at e;cases e
theorem on_parts {H:Hp} {a:Addr} {N:Nat} {x:R6} (d:DeckAt H a) (N24:N≤24) (ok:RowOk N x):∀v∈rowV x,Rp.On 100 0 a H v:=fun y hy=>by
 obtain ⟨⟨_,n8,nc⟩,⟨t1,t2,_⟩,⟨w0,w1⟩,ly⟩:=ok
 have l3:=lay_4 (N:Int)
 have hy:y∈[V.str x.1.1,.int (x.1.2.1:Int),.int (x.1.2.2.1:Int),.int x.1.2.2.2,.int (x.2.1:Int),.bl x.2.2]:=hy
 simp only [List.mem_cons,List.not_mem_nil,or_false] at hy
 rcases hy with rfl|rfl|rfl|rfl|rfl|rfl
 ·exact Rp.On.str (by omega) (fun c hc=>by have:=nc c hc;omega)
 ·exact Rp.On.int (by omega)
 ·exact Rp.On.int (by omega)
 ·exact Rp.On.int (by omega)
 ·exact Rp.On.int (by omega)
 ·exact Rp.On.bl _
theorem on_row {H:Hp} {a r:Addr} {N:Nat} {x:R6} (d:DeckAt H a) (e:H r=some (.tup (rowV x))) (N24:N≤24) (ok:RowOk N x):Rp.On 615 1 a H (.ref r):=by
 exact (Rp.On.tup (n:=100) (k:=0) (l:=6) e (d.neT e) (by show 6≤6;decide) (by decide) (on_parts d N24 ok)).mono (by decide) (by decide)
theorem rows_on {H:Hp} {a:Addr} {N:Nat} {rs:List Addr} {R:List R6} (d:DeckAt H a) (hR:RowsAt H rs R) (N24:N≤24) (ok:∀x∈R,RowOk N x):∀v∈rs.map V.ref,Rp.On 615 1 a H v:=fun v hv=>by
 obtain ⟨r,hr,rfl⟩:=List.mem_map.mp hv
 obtain ⟨i,hi,rfl⟩:=List.mem_iff_getElem.mp hr
 obtain ⟨x,ex,hx⟩:=hR.get (Bh hi)
 exact on_row d hx N24 (ok x (List.mem_of_getElem? ex))
theorem on_rows {H:Hp} {a tp:Addr} {N:Nat} {rs:List Addr} {R:List R6} (d:DeckAt H a) (e:H tp=some (.tup (rs.map V.ref))) (hR:RowsAt H rs R) (N24:N≤24) (R60:R.length≤60) (ok:∀x∈R,RowOk N x):Rp.On 38000 2 a H (.ref tp):=
 (Rp.On.tup (n:=615) (k:=1) (l:=60) e (d.neT e) (by rw [List.length_map,hR.1];exact R60) (by decide) (rows_on d hR N24 ok)).mono (by decide) (by decide)
theorem cut_mem {xs:List V} {lo hi:Option Int} {v:V} (h:v∈cutV xs lo hi):v∈xs:=List.mem_of_mem_drop (List.mem_of_mem_take h)
theorem on_mid {H:Hp} {a t:Addr} {xs ys:List V} {z:V} {n m k l:Nat} (e:H t=some (.tup ((xs++[z])++ys))) (d:DeckAt H a) (h1:∀v∈xs,Rp.On n k a H v) (h2:∀v∈ys,Rp.On n k a H v) (hz:Rp.On m k a H z) (l1:xs.length≤l) (l2:ys.length≤l) (l9:2 * l+1≤900):Rp.On (n * l+m+n * l+4 * l+5) (k+1) a H (.ref t):=by
 have q:=Rp.OnS.app (Rp.OnS.app (Rp.OnS.all h1 l1) (Rp.OnS.cons hz (Rp.OnS.nil (k:=k)))) (Rp.OnS.all h2 l2)
 have len:((xs++[z])++ys).length≤2 * l+1:=by simp only [List.length_append,List.length_cons,List.length_nil];omega
 exact (Rp.On.tupS e (d.neT e) q (by omega)).mono (by omega) (Nat.le_refl _)
def LSt (a tp g:Addr) (N:Nat) (rs:List Addr) (R:List R6) (H:Hp):Prop:=DeckAt H a∧H tp=some (.tup (rs.map V.ref))∧RowsAt H rs R∧H g=some (.tup [.int (N:Int),.ref tp])
theorem LSt.same {a tp g:Addr} {N:Nat} {rs:List Addr} {R:List R6} {H H':Hp} (h:LSt a tp g N rs R H) (s:Same H H'):LSt a tp g N rs R H':=⟨h.1.same s,s _ _ h.2.1,rows_mono2 h.2.2.1 s,s _ _ h.2.2.2⟩
theorem LSt.but {a tp g:Addr} {N:Nat} {rs:List Addr} {R:List R6} {H H':Hp} (h:LSt a tp g N rs R H) (b:But a H H') (d:DeckAt H' a):LSt a tp g N rs R H':=⟨d,b _ _ h.2.1 (h.1.neT h.2.1),h.2.2.1.mono fun r xs e=>b _ _ e (h.1.neT e),b _ _ h.2.2.2 (h.1.neT h.2.2.2)⟩
def tAhead:TS:=fun D σ H=>∃(u0 u1 u2 u3 u4 u5 u7 u8 u9 u10:Option V) (a so:Addr) (xs:List V),σ=[u0,u1,u2,u3,u4,u5,some (.ref so),u7,u8,u9,u10]∧H so=some (.lst xs)∧xs.length≤10∧(∀x∈xs,Rp.On 1000000 25 a H x)∧∀(u10:Option V) H',Same H H'→D.nx [u0,u1,u2,u3,u4,u5,some (.ref so),u7,u8,u9,u10] H'
theorem ons_rep {n k:Nat} {d:Addr} {H:Hp} {xs:List V} (h:∀x∈xs,Rp.On n k d H x):∃ds:List PyData,xs.length=ds.length∧∀(i:Nat) x,xs[i]? =some x→∃e,ds[i]? =some e∧Rp.RepM H x e∧Rp.Fine n k e:=by
 obtain ⟨ds,l,r,f⟩:=Rp.onAll h
 refine ⟨ds,l,fun i x hx=> ?_⟩
 obtain ⟨hi,rfl⟩:=List.getElem?_eq_some_iff.mp hx
 refine ⟨ds[i]'(by omega),List.getElem?_eq_getElem (by omega),?_,f _ (List.getElem_mem _)⟩
 exact (r (xs[i],ds[i]'(by omega)) (List.mem_iff_getElem.mpr ⟨i,by rw [List.length_zip];omega,by rw [List.getElem_zip]⟩)).mono fun a o e=>Rp.offM_in e
theorem eqs_txt {K:PySem.W.Frag} {H:Hp} {n:Nat} {a c:Addr} {xs ys:List V} (h1:SqL K H a xs) (h2:SqL K H c ys) (h:∀x∈xs,∀y∈ys,Flt x y=true):Eqs K H (n+1) (.ref a) (.ref c) (decide (xs=ys)):=
 Eqs.seq (.inr ⟨h1,h2⟩) rfl rfl fun j p q d e hp hq hd he=>by
  rw [hp] at hd
  rw [hq] at he
  cases hd
  cases he
  exact Eqs.flat (h p (List.mem_of_getElem? hp) q (List.mem_of_getElem? hq))
section
variable {P:Program} {w:World} {K:PySem.W.Frag} {mg:Str→Option Value} {base:Heap}
theorem scLaw:Av ["_law_script","_law_deck_here","_law_many_here","_law_rows","_law_good_here","_law_odd_here","_law_some_here","_law_at","_law_k","_law_row","_law_ahead"] ["_law_script"] (Ae sLaw):=⟨rfl,rfl,rfl,by decide+kernel,rfl,by decide+kernel,by decide+kernel⟩
theorem ok_Law {f:Addr} {fd:FuncData} (F:Fun K "law" "law" sLaw f fd) (T:Txt mg)
  {gDeck:Addr} {fDeck:FuncData} (kDeck:PySem.W.keepIn K (.ref gDeck)=true) (bDeck:Binds K fDeck ["_law_script"] []) (hDeck:mg "_law_deck"=some (.ref gDeck)) (GDeck:FnOk P w K mg base CX0 8 gDeck fDeck ["_law_script"] (spDeck K))
  {gMany:Addr} {fMany:FuncData} (kMany:PySem.W.keepIn K (.ref gMany)=true) (bMany:Binds K fMany ["_law_deck_here"] []) (hMany:mg "_law_many"=some (.ref gMany)) (GMany:FnOk P w K mg base CX0 8 gMany fMany ["_law_deck_here"] spMany)
  {gLayered:Addr} {fLayered:FuncData} (kLayered:PySem.W.keepIn K (.ref gLayered)=true) (bLayered:Binds K fLayered ["_law_deck_here","_law_many_here","_law_names_here"] []) (hLayered:mg "_law_layered"=some (.ref gLayered)) (GLayered:FnOk P w K mg base CX0 8 gLayered fLayered ["_law_deck_here","_law_many_here","_law_names_here"] spLayered)
  {gNames:Addr} {fNames:FuncData} (kNames:PySem.W.keepIn K (.ref gNames)=true) (bNames:Binds K fNames ["_law_deck_here","_law_many_here"] []) (hNames:mg "_law_names"=some (.ref gNames)) (GNames:FnOk P w K mg base CX0 8 gNames fNames ["_law_deck_here","_law_many_here"] spNames)
  {gSome:Addr} {fSome:FuncData} (kSome:PySem.W.keepIn K (.ref gSome)=true) (bSome:Binds K fSome ["_law_deck_here"] []) (hSome:mg "_law_some"=some (.ref gSome)) (GSome:FnOk P w K mg base CX0 8 gSome fSome ["_law_deck_here"] spSome)
  {gDraw:Addr} {fDraw:FuncData} (kDraw:PySem.W.keepIn K (.ref gDraw)=true) (bDraw:Binds K fDraw ["_law_deck_here","_law_most"] []) (hDraw:mg "_law_draw"=some (.ref gDraw)) (GDraw:FnOk P w K mg base CX0 8 gDraw fDraw ["_law_deck_here","_law_most"] spDraw)
  {gOdd:Addr} {fOdd:FuncData} (kOdd:PySem.W.keepIn K (.ref gOdd)=true) (bOdd:Binds K fOdd ["_law_deck_here","_law_good_here"] []) (hOdd:mg "_law_odd"=some (.ref gOdd)) (GOdd:FnOk P w K mg base CX0 8 gOdd fOdd ["_law_deck_here","_law_good_here"] spOdd)
  {gTold:Addr} {fTold:FuncData} (kTold:PySem.W.keepIn K (.ref gTold)=true) (bTold:Binds K fTold ["_law_thing"] []) (hTold:mg "_law_told"=some (.ref gTold)) (GTold:FnOk P w K mg base CX0 8 gTold fTold ["_law_thing"] spTold)
  {gHold:Addr} {fHold:FuncData} (kHold:PySem.W.keepIn K (.ref gHold)=true) (bHold:Binds K fHold ["thing"] []) (hHold:mg "layers_hold"=some (.ref gHold)) (GHold:FnOk P w K mg base CX0 8 gHold fHold ["thing"] spHold):
  FnOk P w K mg base CX0 9 f fd ["_law_script"] (spLaw K):=by
 refine F.ok scLaw (fun vs H Q E h=> ?_) (fun cdv A outer s H vs Q E hr h=> ?_)
 ·obtain ⟨_,_,rfl,_⟩:=h;rfl
 ·obtain ⟨sa,ns,rfl,hS,hl,k⟩:=h
  refine ⟨_,Ag (As (i:=1) scLaw.nd rfl (Or.inl rfl) (Ai GDeck hr rfl hDeck kDeck bDeck .nil Aq (Aa (pv 0) Ac)))
   (Ag (As (i:=2) scLaw.nd rfl (Or.inl rfl) (Ai GMany hr rfl hMany kMany bMany .nil Aq (Aa (pv 1) Ac)))
   (Ag (As (i:=3) scLaw.nd rfl (Or.inl rfl) (Ai GLayered hr rfl hLayered kLayered bLayered .nil Aq (Aa (pv 1) (Aa (pv 2) (Aa (Ai GNames hr rfl hNames kNames bNames .nil Aq (Aa (pv 1) (Aa (Aj (call_max2 rfl) (by rfl) T.max (by decide+kernel) (Aa Af (Aa (Ai GSome hr rfl hSome kSome bSome .nil Aq (Aa (pv 1) Ac)) Ac))) Ac))) Ac)))))
   (Ag (As (i:=4) scLaw.nd rfl (Or.inl rfl) (Cb (Aa (pv 2) (Aa (pv 3) Ac))))
   (Ag (ps_for PassesOwn.never rfl (Cj (Ai GOdd hr rfl hOdd kOdd bOdd .nil Aq (Aa (pv 1) (Aa (pv 4) Ac)))) (Ak (i:=5) scLaw.nd rfl (Or.inl rfl)) (Ag (As (i:=6) scLaw.nd rfl (Or.inl rfl) (Ca (Aa (pv 5) (Aa (Cb (Aa (pv 5) (Aa (pv 3) Ac))) (Aa (Cb (Aa (pv 2) (Aa (pv 5) Ac))) (Aa (Cb (Aa (pv 2) (Aa (Am op_catTT (pv 3) (Cb (Aa (pv 5) Ac))) Ac))) Ac))))))
   (Ag (Bs (Az (op_nes hr.units) (pv 3) (Cb Ac) (Aw _)) (Ag (As (i:=7) scLaw.nd rfl (Or.inl rfl) (Ai GDraw hr rfl hDraw kDraw bDraw .nil Aq (Aa (pv 1) (Aa (Aj Bc (by rfl) T.len PySem.boot_len (Aa (pv 3) Ac)) Ac))))
   (Ag (As (i:=8) scLaw.nd rfl (Or.inl rfl) (Ai GDraw hr rfl hDraw kDraw bDraw .nil Aq (Aa (pv 1) (Aa Af Ac))))
   (Ag (As (i:=9) scLaw.nd rfl (Or.inl rfl) (Am op_catTT (Am op_catTT (Bw (r:=rSlTA K) sl_tupA (At A9 (pv 3) (pv 7) (fun _ _=>rfl)) Cc (B7 (pv 8))) (Cb (Aa (pv 5) Ac))) (Bw (r:=rSlTA K) sl_tupA (At A9 (pv 3) (pv 7) (fun _ _=>rfl)) (B7 (Am Bp (pv 8) Af)) Cc)))
   (Ah (As (i:=6) scLaw.nd rfl (Or.inl rfl) (Am op_cat (pv 6) (Ca (Aa (Cb (Aa (pv 2) (Aa (Am op_catTT (Am op_catTT (Bw (r:=rSlTA K) sl_tupA (pv 3) Cc (B7 (pv 7))) (Cb (Aa (pv 5) Ac))) (Bw (r:=rSlTA K) sl_tupA (pv 3) (B7 (Am Bp (pv 7) Af)) Cc)) Ac))) (Aa (Cb (Aa (pv 2) (Aa (Am op_catTT (Am op_catTT (Bw (r:=rSlTA K) sl_tupA (pv 3) Cc (B7 (pv 7))) (Cb (Aa (pv 9) Ac))) (Bw (r:=rSlTA K) sl_tupA (pv 3) (B7 (Am Bp (pv 7) Af)) Cc)) Ac))) Ac))))))))) A7)
   (PSs.imp' (t':=tAhead) (Ag (ps_comp (i:=10) (T:=["_law_thing"]) (F:=[]) (js:=[]) scLaw.nd rfl (Or.inl rfl) (CS.to (osc:=Ae sLaw) ⟨by rfl,by decide+kernel,by decide+kernel,by decide+kernel,by decide+kernel,by decide+kernel,by decide+kernel⟩ rfl rfl) rfl (Cj (pv 6)) (fun _ _ _ _ _=>Ak (i:=0) (show (["_law_thing"]:List Str).Nodup by decide+kernel) rfl (Or.inl rfl)) (fun _ _ _ _ _=>Cd) (fun _ _ _ _ _=>Aj (call_reprM hr.units hr.gd) (by rfl) T.repr (by decide+kernel) (Aa (pv 0) Ac)))
   (Ah (Bs (PW.pt (pw_or (Az (op_neNil hr.units) (Bn (T:=["_law_thing"]) (F:=[]) (js:=[]) (CS.to (osc:=Ae sLaw) ⟨by rfl,by decide+kernel,by decide+kernel,by decide+kernel,by decide+kernel,by decide+kernel,by decide+kernel⟩ rfl rfl) rfl (Cj (pv 6)) (fun _ _ _ _ _=>Ak (i:=0) (show (["_law_thing"]:List Str).Nodup by decide+kernel) rfl (Or.inl rfl)) (fun _ _ _ _ _=>Ch (Bu (Br (Ai GTold hr rfl hTold kTold bTold .nil Aq (Aa (pv 0) Ac))))) (fun _ _ _ _ _=>pv 0)) (Ca Ac) (Aw _)) (pw_or1 (Az (op_nes hr.units) (Bn (T:=["_law_thing"]) (F:=[]) (js:=[]) (CS.to (osc:=Ae sLaw) ⟨by rfl,by decide+kernel,by decide+kernel,by decide+kernel,by decide+kernel,by decide+kernel,by decide+kernel⟩ rfl rfl) rfl (Cj (pv 6)) (fun _ _ _ _ _=>Ak (i:=0) (show (["_law_thing"]:List Str).Nodup by decide+kernel) rfl (Or.inl rfl)) (fun _ _ _ _ _=>Cd) (fun _ _ _ _ _=>Aj (call_reprM hr.units hr.gd) (by rfl) T.repr (by decide+kernel) (Aa (pv 0) Ac))) (pv 10) (Aw _))))) (Ah (Al B6)) A7))) ?ahead))))
   (Ah (Al (Ce op_isB (Ai GHold hr rfl hHold kHold bHold .nil Aq (Aa (pv 4) Ac)) B6 (Aw _)))))))),?_⟩
  case ahead=>
   rintro D σ H ⟨u0,u1,u2,u3,u4,u5,u7,u8,u9,u10,a,so,xs,rfl,hs,x10,on,k⟩
   obtain ⟨ds,dl,dr⟩:=ons_rep on
   have d10:∀j,((ds.take j).map fun e=>V.str (PyData.shown e)).length≤10:=fun j=>by rw [List.length_map,List.length_take];omega
   refine ⟨_,rfl,so,rfl,⟨_,SqL.of hs⟩,fun E hE=>comp_list (K:=K) (a:=so) (xs:=xs) (fun j σ ys H5=>∃(u:Option V),σ=[u]∧ys=(ds.take j).map (fun e=>V.str (PyData.shown e))∧Same H H5∧H5 E=some (.lst ys)) ⟨none,rfl,rfl,Ad hE,Ab⟩ (fun j σ ys H5 _ ⟨_,_,_,s,e⟩=>⟨SqL.of (s _ _ hs),e⟩) ?_ ?_⟩
   ·rintro j x σ ys H5 hx ⟨u,rfl,rfl,s5,e5⟩
    obtain ⟨e,he,r,f⟩:=dr j x hx
    refine ⟨_,rfl,x,e,rfl,r.mono s5,f.sh,Nat.le_trans f.dp (by decide),by rw [sizeLine_eq];exact Nat.le_trans f.ln (by decide),e5,Ar (Nat.le_trans (d10 j) (by decide)),_,rfl,?_,A2 s5 hE,Ab⟩
    rw [take_snoc he,List.map_append];rfl
   rintro σ ys H5 ⟨u,rfl,rfl,s5,e5⟩
   have e5:H5 E=some (.lst (ds.map fun e=>V.str (PyData.shown e))):=by rw [e5,dl,List.take_length]
   refine ⟨_,rfl,so,rfl,⟨_,SqL.of (s5 _ _ hs)⟩,fun G hG=>comp_list (K:=K) (a:=so) (xs:=xs) (fun j σ ys H6=>∃(u:Option V),σ=[u]∧ys=[]∧Same H5 H6∧H6 G=some (.lst ys)) ⟨none,rfl,rfl,Ad hG,Ab⟩ (fun j σ ys H6 _ ⟨_,_,_,s,e⟩=>⟨SqL.of (s _ _ (s5 _ _ hs)),e⟩) ?_ ?_⟩
   ·rintro j x σ ys H6 hx ⟨u,rfl,rfl,s6,e6⟩
    obtain ⟨e,he,r,f⟩:=dr j x hx
    refine ⟨_,rfl,x,rfl,rep_and (r.mono (s5.trans s6)) 3,fun H7 s7=>⟨_,rfl,?_⟩⟩
    exact ⟨_,rfl,rfl,s6.trans s7,s7 _ _ e6⟩
   rintro σ ys H6 ⟨u,rfl,rfl,s6,e6⟩
   refine ⟨Ax (by simp),fun e0 h0=>⟨G,e0,_,rfl,rfl,SqL.of (Ad h0 _ _ e6),SqL.of Ab,_,rfl,Bi ?_⟩⟩
   have s7:=Ad (o:= .lst []) h0
   have S7:=(s5.trans s6).trans s7
   have E7:=s7 _ _ (s6 _ _ e5)
   generalize upd H6 e0 (.lst [])=H7 at s7 S7 E7 ⊢
   refine ⟨_,rfl,so,rfl,⟨_,SqL.of (S7 _ _ hs)⟩,fun G hG=>comp_list (K:=K) (a:=so) (xs:=xs) (fun j σ ys H8=>∃(u:Option V),σ=[u]∧ys=(ds.take j).map (fun e=>V.str (PyData.shown e))∧Same H7 H8∧H8 G=some (.lst ys)) ⟨none,rfl,rfl,Ad hG,Ab⟩ (fun j σ ys H8 _ ⟨_,_,_,s,e⟩=>⟨SqL.of (s _ _ (S7 _ _ hs)),e⟩) ?_ ?_⟩
   ·rintro j x σ ys H8 hx ⟨u,rfl,rfl,s8,e8⟩
    obtain ⟨e,he,r,f⟩:=dr j x hx
    refine ⟨_,rfl,x,e,rfl,r.mono (S7.trans s8),f.sh,Nat.le_trans f.dp (by decide),by rw [sizeLine_eq];exact Nat.le_trans f.ln (by decide),e8,Ar (Nat.le_trans (d10 j) (by decide)),_,rfl,?_,A2 s8 hG,Ab⟩
    rw [take_snoc he,List.map_append];rfl
   rintro σ ys H8 ⟨u,rfl,rfl,s8,e8⟩
   have e8:H8 G=some (.lst (ds.map fun e=>V.str (PyData.shown e))):=by rw [e8,dl,List.take_length]
   refine ⟨_,rfl,0,_,G,E,rfl,rfl,by decide,eqs_txt (SqL.of e8) (SqL.of (s8 _ _ E7)) (fun x hx y hy=> ?_),_,rfl,?_⟩
   ·obtain ⟨_,_,rfl⟩:=List.mem_map.mp hx
    obtain ⟨_,_,rfl⟩:=List.mem_map.mp hy
    rfl
   rw [decide_eq_true rfl]
   exact Bi (k _ H8 (S7.trans s8))
  refine ⟨_,rfl,sa,ns,rfl,hS,hl,fun a H1 s1 na D1=> ?_⟩
  refine ⟨_,rfl,a,rfl,D1,fun N H2 b2 D2 N1 N24=> ?_⟩
  refine ⟨_,rfl,_,rfl,_,rfl,_,rfl,a,rfl,D2,fun M H3 b3 D3 M60=>⟨_,_,rfl,?_⟩⟩
  have e1:(if ((M:Nat):Int) > 1 then ((M:Nat):Int) else 1)=((max 1 M:Nat):Int):=by split<;> omega
  rw [e1]
  refine ⟨a,max 1 M,rfl,D3,by omega,fun ln zs H4 b4 D4 lna hn zl nd ok=> ?_⟩
  refine ⟨a,ln,N,zs,rfl,D4,N1,N24,hn,lna,by omega,nd,ok,fun tp rs R H5 b5 D5 ht hR G0 up=> ?_⟩
  have R60:=G0.len
  refine ⟨_,rfl,_,rfl,Ax (by simp),fun g hg=> ?_⟩
  have s6:=Ad (o:= .tup [.int (N:Int),.ref tp]) hg
  have L6:LSt a tp g N rs R (upd H5 g (.tup [.int (N:Int),.ref tp])):=⟨D5.same s6,s6 _ _ ht,rows_mono2 hR s6,Ab⟩
  generalize upd H5 g (.tup [.int (N:Int),.ref tp])=H6 at L6 ⊢
  have oN:∀H,Rp.On 100 0 a H (.int (N:Int)):=fun H=>Rp.On.int (by omega)
  refine ⟨_,rfl,_,rfl,a,g,_,_,rfl,L6.1,L6.1.neT L6.2.2.2,L6.2.2.2,oN _,on_rows L6.1 L6.2.1 L6.2.2.1 N24 R60 G0.ok,fun l os H7 b7 d7 nl hl7 o30 oko=> ?_⟩
  have L7:=L6.but b7 d7
  refine ⟨l,rfl,⟨_,SqL.of hl7⟩,for_list (K:=K) (a:=l) (xs:=os) (fun i σ H=>∃u5 u6 u7 u8 u9 u10:Option V,σ=[some (.ref sa),some (.ref a),some (.int (N:Int)),some (.ref tp),some (.ref g),u5,u6,u7,u8,u9,u10]∧LSt a tp g N rs R H∧H l=some (.lst os)∧OkL a H os) ⟨_,_,_,_,_,_,rfl,L7,hl7,oko⟩ (fun i σ H _ ⟨_,_,_,_,_,_,_,_,e,_⟩=>SqL.of e) ?_ ?_⟩
  ·rintro i o σ H hi ⟨u5,u6,u7,u8,u9,u10,rfl,L,hlo,oks⟩
   have oo:=oks o (List.mem_of_getElem? hi)
   have fin:∀(u6 u7 u8 u9 u10:Option V) H',LSt a tp g N rs R H'→H' l=some (.lst os)→OkL a H' os→∃v5 v6 v7 v8 v9 v10:Option V,[some (.ref sa),some (.ref a),some (.int (N:Int)),some (.ref tp),some (.ref g),some o,u6,u7,u8,u9,u10]=[some (.ref sa),some (.ref a),some (.int (N:Int)),some (.ref tp),some (.ref g),v5,v6,v7,v8,v9,v10]∧LSt a tp g N rs R H'∧H' l=some (.lst os)∧OkL a H' os:=fun u6 u7 u8 u9 u10 H' x y z=>⟨_,_,_,_,_,_,rfl,x,y,z⟩
   have rl:rs.length≤60:=by rw [L.2.2.1.1];exact R60
   refine ⟨_,rfl,_,rfl,_,rfl,Ax (by simp),fun t1 h1=> ?_⟩
   have s1:=Ad (o:= .tup [o,.ref tp]) h1
   have q1:=on_two Ab (L.1.ne h1) ((oo.mono (Nat.le_refl _) (by decide:20≤22)).same s1) (((on_rows L.1 L.2.1 L.2.2.1 N24 R60 G0.ok).mono (Nat.le_refl _) (by decide:2≤22)).same s1)
   have o1:=oo.same s1
   have L1:=L.same s1
   have l1:=s1 _ _ hlo
   have k1:=oks.same s1
   generalize upd H t1 (.tup [o,.ref tp])=H1 at q1 o1 L1 l1 k1 ⊢
   refine ⟨_,rfl,_,rfl,Ax (by simp),fun t2 h2=> ?_⟩
   have s2:=Ad (o:= .tup [.int (N:Int),o]) h2
   have q2:=on_two Ab (L1.1.ne h2) ((oN _).mono (Nat.le_refl _) (by decide:0≤22)) ((o1.mono (Nat.le_refl _) (by decide:20≤22)).same s2)
   have q1:=q1.same s2
   have o2:=o1.same s2
   have L2:=L1.same s2
   have l2:=s2 _ _ l1
   have k2:=k1.same s2
   generalize upd H1 t2 (.tup [.int (N:Int),o])=H2 at q1 q2 o2 L2 l2 k2 ⊢
   refine ⟨_,rfl,_,rfl,_,rfl,Ax (by simp),fun t3 h3=> ?_⟩
   have s3:=Ad (o:= .tup [o]) h3
   have L3:=L2.same s3
   have e3:=Ab (H:=H2) (a:=t3) (o:= .tup [o])
   have q1:=q1.same s3
   have q2:=q2.same s3
   have o3:=o2.same s3
   have l3:=s3 _ _ l2
   have k3:=k2.same s3
   generalize upd H2 t3 (.tup [o])=H3 at q1 q2 o3 L3 l3 k3 e3 ⊢
   refine cat_any L3.2.1 e3 (by rw [List.length_map];show rs.length+1≤10000;omega) fun t4 H4 s4 e4=> ?_
   have q1:=q1.same s4
   have q2:=q2.same s4
   have o4:=o3.same s4
   have L4:=L3.same s4
   have l4:=s4 _ _ l3
   have k4:=k3.same s4
   have p4:Rp.On 240000 21 a H4 (.ref t4):=(on_mid (n:=615) (k:=20) (l:=60) (ys:=[]) (by rw [List.append_nil];exact e4) L4.1 (fun v hv=>(rows_on L4.1 L4.2.2.1 N24 G0.ok v hv).mono (Nat.le_refl _) (by decide)) (fun v hv=>nomatch hv) o4 (by rw [List.length_map];exact rl) (by simp) (by decide)).mono (by decide) (by decide)
   refine ⟨Ax (by simp),fun t5 h5=>⟨Ax (by simp),fun so hso=> ?_⟩⟩
   have s5:=Ad (o:= .tup [.int (N:Int),.ref t4]) h5
   have q5:=on_two Ab (L4.1.ne h5) ((oN _).mono (Nat.le_refl _) (by decide:0≤22)) ((p4.mono (Nat.le_refl _) (by decide:21≤22)).same s5)
   have q1:=q1.same s5
   have q2:=q2.same s5
   have o5:=o4.same s5
   have L5:=L4.same s5
   have l5:=s5 _ _ l4
   have k5:=k4.same s5
   generalize upd H4 t5 (.tup [.int (N:Int),.ref t4])=H5 at q1 q2 q5 o5 L5 l5 k5 hso ⊢
   have s6:=Ad (o:= .lst [o,.ref t1,.ref t2,.ref t5]) hso
   have e6:=Ab (H:=H5) (a:=so) (o:= .lst [o,.ref t1,.ref t2,.ref t5])
   have nso:=L5.1.ne hso
   have on6:∀z∈([o,.ref t1,.ref t2,.ref t5]:List V),Rp.On 1000000 25 a (upd H5 so (.lst [o,.ref t1,.ref t2,.ref t5])) z:=fun z hz=>by
    simp only [List.mem_cons,List.not_mem_nil,or_false] at hz
    rcases hz with rfl|rfl|rfl|rfl
    ·exact (o5.same s6).mono (by decide) (by decide)
    ·exact (q1.same s6).mono (by decide) (by decide)
    ·exact (q2.same s6).mono (by decide) (by decide)
    ·exact (q5.same s6).mono (by decide) (by decide)
   have L6:=L5.same s6
   have l6:=s6 _ _ l5
   have k6:=k5.same s6
   have o6:=o5.same s6
   generalize upd H5 so (.lst [o,.ref t1,.ref t2,.ref t5])=H6 at e6 on6 L6 l6 k6 o6 ⊢
   refine ⟨_,rfl,Ax (by simp),fun e0 h0=> ?_⟩
   have s7:=Ad (o:= .tup []) h0
   have z7:=Ab (H:=H6) (a:=e0) (o:= .tup [])
   have L7:=L6.same s7
   have l7:=s7 _ _ l6
   have k7:=k6.same s7
   have o7:=o6.same s7
   have e7:=s7 _ _ e6
   have on7:∀z∈([o,.ref t1,.ref t2,.ref t5]:List V),Rp.On 1000000 25 a _ z:=fun z hz=>(on6 z hz).same s7
   generalize upd H6 e0 (.tup [])=H7 at z7 L7 l7 k7 o7 e7 on7 ⊢
   refine ⟨0,_,tp,e0,rfl,rfl,by decide,eqs_nilT (SqT.of L7.2.1) (SqT.of z7),_,rfl,Ci (fun c=> ?_) fun c=> ?_⟩
   rotate_left
   ·exact ⟨_,_,_,_,_,_,_,_,_,_,a,so,_,rfl,e7,by show 4≤10;decide,on7,fun u10 H' s'=>fin _ _ _ _ _ H' (L7.same s') (s' _ _ l7) (k7.same s')⟩
   have rp:1≤rs.length:=by
    cases hrs:rs with
    |nil=>rw [hrs] at c;cases c
    |cons _ _=>exact Nat.succ_pos _
   dsimp only [Bv]
   refine ⟨_,rfl,_,rfl,tp,_,rfl,.inr (SqT.of L7.2.1),a,_,rfl,L7.1,by rw [List.length_map];omega,by rw [List.length_map];omega,fun at_ H8 a0 a1 b8 d8=> ?_⟩
   obtain ⟨at_,rfl⟩:=nat_of a0
   have a1:at_<rs.length:=by rw [List.length_map] at a1;omega
   refine ⟨_,rfl,a,6,rfl,d8,by decide,by decide,fun kk H9 k0 k1 b9 d9=> ?_⟩
   have B9:=b8.trans b9
   have L9:=L7.but B9 d9
   have l9:=B9 _ _ l7 nl
   have k9:OkL a H9 os:=fun z hz=>(k7 z hz).but (butM B9)
   have o9:=o7.but (butM B9)
   have e9:=B9 _ _ e7 nso
   have on9:∀z∈([o,.ref t1,.ref t2,.ref t5]:List V),Rp.On 1000000 25 a H9 z:=fun z hz=>(on7 z hz).but (butM B9)
   obtain ⟨x,ex,hx⟩:=L9.2.2.1.get (Bh a1)
   have on_x:∀v∈rowV x,Rp.On 100 0 a H9 v:=on_parts L9.1 N24 (G0.ok x (List.mem_of_getElem? ex))
   have x6:(rowV x).length=6:=rfl
   have six:∀lo hi,(cutV (rowV x) lo hi).length≤6:=fun lo hi=>Nat.le_trans (cutV_length _ _ _) (Nat.le_of_eq x6)
   have rix:atI (rs.map V.ref) (at_:Int)=some (.ref rs[at_]):=Ay (by rw [List.getElem?_map,Bh a1];rfl)
   refine ⟨_,rfl,_,rfl,tp,_,_,.ref rs[at_],rfl,rfl,SqT.of L9.2.1,rix,_,rfl,_,rfl,cut_any hx fun c1 HA sA eA=> ?_⟩
   refine ⟨_,rfl,Ax (by simp),fun c2 hc2=> ?_⟩
   have sB:=Ad (o:= .tup [o]) hc2
   refine cat_any (sB _ _ eA) Ab (by have:=six none (some kk);show (cutV (rowV x) none (some kk)).length+1≤10000;omega) fun c3 HC sC eC=> ?_
   have SC:=(sA.trans sB).trans sC
   have LC:=L9.same SC
   refine ⟨_,rfl,_,rfl,tp,_,_,.ref rs[at_],rfl,rfl,SqT.of LC.2.1,rix,_,rfl,_,_,rfl,rfl,_,rfl,cut_any (SC _ _ hx) fun c4 HD sD eD=> ?_⟩
   refine cat_any (sD _ _ eC) eD (by have:=six none (some kk);have:=six (some (kk+1)) none;simp only [List.length_append,List.length_cons,List.length_nil];omega) fun rw_ HE sE eE=> ?_
   have SE:=(SC.trans sD).trans sE
   have LE:=L9.same SE
   have oE:=o9.same SE
   have row_on:Rp.On 165000 21 a HE (.ref rw_):=(on_mid (n:=100) (k:=20) (l:=6) eE LE.1 (fun v hv=>((on_x v (cut_mem hv)).same SE).mono (Nat.le_refl _) (by decide)) (fun v hv=>((on_x v (cut_mem hv)).same SE).mono (Nat.le_refl _) (by decide)) oE (six _ _) (six _ _) (by decide)).mono (by decide) (by decide)
   have lE:=SE _ _ l9
   have kE:OkL a HE os:=k9.same SE
   have eE':=SE _ _ e9
   have onE:∀z∈([o,.ref t1,.ref t2,.ref t5]:List V),Rp.On 1000000 25 a HE z:=fun z hz=>(on9 z hz).same SE
   have rsl:∀lo hi,(cutV (rs.map V.ref) lo hi).length≤60:=fun lo hi=>Nat.le_trans (cutV_length _ _ _) (by rw [List.length_map];exact rl)
   refine ⟨_,rfl,_,rfl,_,rfl,_,rfl,_,rfl,cut_any LE.2.1 fun c5 HF sF eF=> ?_⟩
   refine ⟨_,rfl,Ax (by simp),fun c6 hc6=> ?_⟩
   have sG:=Ad (o:= .tup [o]) hc6
   refine cat_any (sG _ _ eF) Ab (by have:=rsl none (some (at_:Int));show (cutV (rs.map V.ref) none (some (at_:Int))).length+1≤10000;omega) fun c7 HH sH eH=> ?_
   have SH:=(sF.trans sG).trans sH
   refine ⟨_,rfl,_,rfl,_,_,rfl,rfl,_,rfl,cut_any (SH _ _ LE.2.1) fun c8 HI sI eI=> ?_⟩
   refine cat_any (sI _ _ eH) eI (by have:=rsl none (some (at_:Int));have:=rsl (some ((at_:Int)+1)) none;simp only [List.length_append,List.length_cons,List.length_nil];omega) fun c9 HJ sJ eJ=> ?_
   have SJ:=(SH.trans sI).trans sJ
   have LJ:=LE.same SJ
   have rJ:=rows_on LJ.1 LJ.2.2.1 N24 G0.ok
   have p1:Rp.On 240000 21 a HJ (.ref c9):=(on_mid (n:=615) (k:=20) (l:=60) eJ LJ.1 (fun v hv=>(rJ v (cut_mem hv)).mono (Nat.le_refl _) (by decide)) (fun v hv=>(rJ v (cut_mem hv)).mono (Nat.le_refl _) (by decide)) (oE.same SJ) (rsl _ _) (rsl _ _) (by decide)).mono (by decide) (by decide)
   refine ⟨Ax (by simp),fun w1 hw1=> ?_⟩
   have sK:=Ad (o:= .tup [.int (N:Int),.ref c9]) hw1
   have p2:=on_two Ab (LJ.1.ne hw1) ((oN _).mono (Nat.le_refl _) (by decide:0≤22)) ((p1.mono (Nat.le_refl _) (by decide:21≤22)).same sK)
   have SK:=SJ.trans sK
   have LK:=LE.same SK
   generalize upd HJ w1 (.tup [.int (N:Int),.ref c9])=HK at p2 SK LK ⊢
   refine ⟨_,rfl,_,rfl,_,rfl,_,rfl,cut_any LK.2.1 fun d1 HL sL eL=> ?_⟩
   refine ⟨_,rfl,Ax (by simp),fun d2 hd2=> ?_⟩
   have sM:=Ad (o:= .tup [.ref rw_]) hd2
   refine cat_any (sM _ _ eL) Ab (by have:=rsl none (some (at_:Int));show (cutV (rs.map V.ref) none (some (at_:Int))).length+1≤10000;omega) fun d3 HM sM2 eM=> ?_
   have SM:=(sL.trans sM).trans sM2
   refine ⟨_,rfl,_,rfl,_,_,rfl,rfl,_,rfl,cut_any (SM _ _ LK.2.1) fun d4 HN sN eN=> ?_⟩
   refine cat_any (sN _ _ eM) eN (by have:=rsl none (some (at_:Int));have:=rsl (some ((at_:Int)+1)) none;simp only [List.length_append,List.length_cons,List.length_nil];omega) fun d5 HO sO eO=> ?_
   have SO:=(SM.trans sN).trans sO
   have LO:=LK.same SO
   have rO:=rows_on LO.1 LO.2.2.1 N24 G0.ok
   have p3:Rp.On 245000 22 a HO (.ref d5):=(on_mid (n:=615) (k:=21) (l:=60) eO LO.1 (fun v hv=>(rO v (cut_mem hv)).mono (Nat.le_refl _) (by decide)) (fun v hv=>(rO v (cut_mem hv)).mono (Nat.le_refl _) (by decide)) (row_on.same (SK.trans SO)) (rsl _ _) (rsl _ _) (by decide)).mono (by decide) (by decide)
   refine ⟨Ax (by simp),fun w2 hw2=>⟨Ax (by simp),fun L2 hL2=> ?_⟩⟩
   have sP:=Ad (o:= .tup [.int (N:Int),.ref d5]) hw2
   have p4':=on_two Ab (LO.1.ne hw2) ((oN _).mono (Nat.le_refl _) (by decide:0≤22)) (p3.same sP)
   have SP:=(SK.trans SO).trans sP
   have p2:=p2.same (SO.trans sP)
   have LP:=LE.same SP
   generalize upd HO w2 (.tup [.int (N:Int),.ref d5])=HP at p2 p4' SP LP hL2 ⊢
   have sQ:=Ad (o:= .lst [.ref w1,.ref w2]) hL2
   have eQ:=Ab (H:=HP) (a:=L2) (o:= .lst [.ref w1,.ref w2])
   have SQ:=SP.trans sQ
   have p2:=p2.same sQ
   have p4':=p4'.same sQ
   generalize upd HP L2 (.lst [.ref w1,.ref w2])=HQ at eQ SQ p2 p4' ⊢
   refine ⟨so,L2,_,_,rfl,rfl,SQ _ _ eE',eQ,Ax (by show 4+2≤10000;decide),fun so2 hso2=> ?_⟩
   have sR:=Ad (o:= .lst ([o,.ref t1,.ref t2,.ref t5]++[.ref w1,.ref w2])) hso2
   have SR:=SQ.trans sR
   refine ⟨_,_,_,_,_,_,_,_,_,_,a,so2,_,rfl,Ab,by show 4+2≤10;decide,fun z hz=> ?_,fun u10 H' s'=>fin _ _ _ _ _ H' ((LE.same SR).same s') (s' _ _ (SR _ _ lE)) ((kE.same SR).same s')⟩
   rcases List.mem_append.mp hz with hz|hz
   ·exact (onE z hz).same SR
   ·simp only [List.mem_cons,List.not_mem_nil,or_false] at hz
    rcases hz with rfl|rfl
    ·exact (p2.same sR).mono (by decide) (by decide)
    ·exact (p4'.same sR).mono (by decide) (by decide)
  rintro σ H ⟨u5,u6,u7,u8,u9,u10,rfl,L,hlo,oks⟩
  have LF:LayAt H g N R:=⟨tp,rs,L.2.2.2,L.2.1,L.2.2.1⟩
  refine ⟨_,rfl,_,rfl,lay_and LF (by omega) G0.short,fun b HG sG eb=> ?_⟩
  rw [eb.mpr (good_at LF N1 N24 G0 up)]
  exact ⟨_,_,rfl,rfl,k _⟩
end
end K34
namespace K34
open PySem L2 Wk
theorem us1 {fd:FuncData} {ps:List Str} (hp:ps.length=1) (h:∀a0:Value,bindArgs fd ⟨[a0],[]⟩=pure (ps.zip [a0])):∀us:List Value,us.length=ps.length→bindArgs fd ⟨us,[]⟩=pure (ps.zip us):=fun us hl=>match us,hl.trans hp with|[a0],_=>h a0
theorem us2 {fd:FuncData} {ps:List Str} (hp:ps.length=2) (h:∀a0 a1:Value,bindArgs fd ⟨[a0,a1],[]⟩=pure (ps.zip [a0,a1])):∀us:List Value,us.length=ps.length→bindArgs fd ⟨us,[]⟩=pure (ps.zip us):=fun us hl=>match us,hl.trans hp with|[a0,a1],_=>h a0 a1
theorem us3 {fd:FuncData} {ps:List Str} (hp:ps.length=3) (h:∀a0 a1 a2:Value,bindArgs fd ⟨[a0,a1,a2],[]⟩=pure (ps.zip [a0,a1,a2])):∀us:List Value,us.length=ps.length→bindArgs fd ⟨us,[]⟩=pure (ps.zip us):=fun us hl=>match us,hl.trans hp with|[a0,a1,a2],_=>h a0 a1 a2
theorem all_mk {l:PySem.W.OpenLaw} {w:World} {K:PySem.W.Frag} {h:Heap} {mg:Str→Option Value} {fa f0 f1 f2 f3 f4 f5 f6 f7 f8 f9 f10 f11 f12 f13 f14 f15 f16 f17 f18 f19 f20 f21 f22 f23 f24 f25 f26 f27 f28 f29 f30 f31 f32 f33 f34 f35 f36 f37:Addr} (X:K.In h) (G:h.Ns mainGlobals mg) (hfa:mg "law"=some (.ref fa))
  {od0 an0 od1 an1 od2 an2 od3 an3 od4 an4 od5 an5 od6 an6 od7 an7 od8 an8 od9 an9 od10 an10 od11 an11 od12 an12 od13 an13 od14 an14 od15 an15 od16 an16 od17 an17 od18 an18 od19 an19 od20 an20 od21 an21 od22 an22 od23 an23 od24 an24 od25 an25 od26 an26 od27 an27 od28 an28 od29 an29 od30 an30 od31 an31 od32 an32 od33 an33 od34 an34 od35 an35 od36 an36 od37 an37:Option Addr} {sl0 sl1 sl2 sl3 sl4 sl5 sl6 sl7 sl8 sl9 sl10 sl11 sl12 sl13 sl14 sl15 sl16 sl17 sl18 sl19 sl20 sl21 sl22 sl23 sl24 sl25 sl26 sl27 sl28 sl29 sl30 sl31 sl32 sl33 sl34 sl35 sl36 sl37:Array (Option Value)} {oc0 kV0 dc0 pm0 cd0 ct0 oc1 kV1 dc1 pm1 cd1 ct1 oc2 kV2 dc2 pm2 cd2 ct2 oc3 kV3 dc3 pm3 cd3 ct3 oc4 kV4 dc4 pm4 cd4 ct4 oc5 kV5 dc5 pm5 cd5 ct5 oc6 kV6 dc6 pm6 cd6 ct6 oc7 kV7 dc7 pm7 cd7 ct7 oc8 kV8 dc8 pm8 cd8 ct8 oc9 kV9 dc9 pm9 cd9 ct9 oc10 kV10 dc10 pm10 cd10 ct10 oc11 kV11 dc11 pm11 cd11 ct11 oc12 kV12 dc12 pm12 cd12 ct12 oc13 kV13 dc13 pm13 cd13 ct13 oc14 kV14 dc14 pm14 cd14 ct14 oc15 kV15 dc15 pm15 cd15 ct15 oc16 kV16 dc16 pm16 cd16 ct16 oc17 kV17 dc17 pm17 cd17 ct17 oc18 kV18 dc18 pm18 cd18 ct18 oc19 kV19 dc19 pm19 cd19 ct19 oc20 kV20 dc20 pm20 cd20 ct20 oc21 kV21 dc21 pm21 cd21 ct21 oc22 kV22 dc22 pm22 cd22 ct22 oc23 kV23 dc23 pm23 cd23 ct23 oc24 kV24 dc24 pm24 cd24 ct24 oc25 kV25 dc25 pm25 cd25 ct25 oc26 kV26 dc26 pm26 cd26 ct26 oc27 kV27 dc27 pm27 cd27 ct27 oc28 kV28 dc28 pm28 cd28 ct28 oc29 kV29 dc29 pm29 cd29 ct29 oc30 kV30 dc30 pm30 cd30 ct30 oc31 kV31 dc31 pm31 cd31 ct31 oc32 kV32 dc32 pm32 cd32 ct32 oc33 kV33 dc33 pm33 cd33 ct33 oc34 kV34 dc34 pm34 cd34 ct34 oc35 kV35 dc35 pm35 cd35 ct35 oc36 kV36 dc36 pm36 cd36 ct36 oc37 kV37 dc37 pm37 cd37 ct37:Value}
  {t0 t1 t2 t3:Tok}
  (a0:PySem.W.nsIn K mainGlobals "is_whole"=some (some (.ref f0))) (l0:K.lookup f0=some ⟨oc0,od0,.func (PySem.W.fnOf "is_whole" "is_whole" (Au sWhole) (Ap sWhole) (Ae sWhole) .none kV0 dc0 pm0 an0 cd0 ct0),sl0⟩) (c0:PySem.W.codeIn K cd0 "is_whole"=true) (k0:PySem.W.keepIn K (.ref f0)=true)
  (a1:PySem.W.nsIn K mainGlobals "is_within"=some (some (.ref f1))) (l1:K.lookup f1=some ⟨oc1,od1,.func (PySem.W.fnOf "is_within" "is_within" (Au sWithin) (Ap sWithin) (Ae sWithin) .none kV1 dc1 pm1 an1 cd1 ct1),sl1⟩) (c1:PySem.W.codeIn K cd1 "is_within"=true) (k1:PySem.W.keepIn K (.ref f1)=true)
  (a2:PySem.W.nsIn K mainGlobals "is_name"=some (some (.ref f2))) (l2:K.lookup f2=some ⟨oc2,od2,.func (PySem.W.fnOf "is_name" "is_name" (Au sName) (Ap sName) (Ae sName) .none kV2 dc2 pm2 an2 cd2 ct2),sl2⟩) (c2:PySem.W.codeIn K cd2 "is_name"=true) (k2:PySem.W.keepIn K (.ref f2)=true)
  (a3:PySem.W.nsIn K mainGlobals "is_amount"=some (some (.ref f3))) (l3:K.lookup f3=some ⟨oc3,od3,.func (PySem.W.fnOf "is_amount" "is_amount" (Au sAmount) (Ap sAmount) (Ae sAmount) .none kV3 dc3 pm3 an3 cd3 ct3),sl3⟩) (c3:PySem.W.codeIn K cd3 "is_amount"=true) (k3:PySem.W.keepIn K (.ref f3)=true)
  (a4:PySem.W.nsIn K mainGlobals "is_place"=some (some (.ref f4))) (l4:K.lookup f4=some ⟨oc4,od4,.func (PySem.W.fnOf "is_place" "is_place" (Au sPlace) (Ap sPlace) (Ae sPlace) .none kV4 dc4 pm4 an4 cd4 ct4),sl4⟩) (c4:PySem.W.codeIn K cd4 "is_place"=true) (k4:PySem.W.keepIn K (.ref f4)=true)
  (a5:PySem.W.nsIn K mainGlobals "is_tie"=some (some (.ref f5))) (l5:K.lookup f5=some ⟨oc5,od5,.func (PySem.W.fnOf "is_tie" "is_tie" (Au sTie) (Ap sTie) (Ae sTie) .none kV5 dc5 pm5 an5 cd5 ct5),sl5⟩) (c5:PySem.W.codeIn K cd5 "is_tie"=true) (k5:PySem.W.keepIn K (.ref f5)=true)
  (a6:PySem.W.nsIn K mainGlobals "has_shape"=some (some (.ref f6))) (l6:K.lookup f6=some ⟨oc6,od6,.func (PySem.W.fnOf "has_shape" "has_shape" (Au sShape) (Ap sShape) (Ae sShape) .none kV6 dc6 pm6 an6 cd6 ct6),sl6⟩) (c6:PySem.W.codeIn K cd6 "has_shape"=true) (k6:PySem.W.keepIn K (.ref f6)=true)
  (a7:PySem.W.nsIn K mainGlobals "beside_of"=some (some (.ref f7))) (l7:K.lookup f7=some ⟨oc7,od7,.func (PySem.W.fnOf "beside_of" "beside_of" (Au sBeside) (Ap sBeside) (Ae sBeside) .none kV7 dc7 pm7 an7 cd7 ct7),sl7⟩) (c7:PySem.W.codeIn K cd7 "beside_of"=true) (k7:PySem.W.keepIn K (.ref f7)=true)
  (a8:PySem.W.nsIn K mainGlobals "ways_from"=some (some (.ref f8))) (l8:K.lookup f8=some ⟨oc8,od8,.func (PySem.W.fnOf "ways_from" "ways_from" (Au sWays) (Ap sWays) (Ae sWays) .none kV8 dc8 pm8 an8 cd8 ct8),sl8⟩) (c8:PySem.W.codeIn K cd8 "ways_from"=true) (k8:PySem.W.keepIn K (.ref f8)=true)
  (a9:PySem.W.nsIn K mainGlobals "part_of"=some (some (.ref f9))) (l9:K.lookup f9=some ⟨oc9,od9,.func (PySem.W.fnOf "part_of" "part_of" (Au sPart) (Ap sPart) (Ae sPart) .none kV9 dc9 pm9 an9 cd9 ct9),sl9⟩) (c9:PySem.W.codeIn K cd9 "part_of"=true) (k9:PySem.W.keepIn K (.ref f9)=true)
  (a10:PySem.W.nsIn K mainGlobals "parts_of"=some (some (.ref f10))) (l10:K.lookup f10=some ⟨oc10,od10,.func (PySem.W.fnOf "parts_of" "parts_of" (Au sParts) (Ap sParts) (Ae sParts) .none kV10 dc10 pm10 an10 cd10 ct10),sl10⟩) (c10:PySem.W.codeIn K cd10 "parts_of"=true) (k10:PySem.W.keepIn K (.ref f10)=true)
  (a11:PySem.W.nsIn K mainGlobals "has_ring"=some (some (.ref f11))) (l11:K.lookup f11=some ⟨oc11,od11,.func (PySem.W.fnOf "has_ring" "has_ring" (Au sHasR) (Ap sHasR) (Ae sHasR) .none kV11 dc11 pm11 an11 cd11 ct11),sl11⟩) (c11:PySem.W.codeIn K cd11 "has_ring"=true) (k11:PySem.W.keepIn K (.ref f11)=true)
  (a12:PySem.W.nsIn K mainGlobals "room_at"=some (some (.ref f12))) (l12:K.lookup f12=some ⟨oc12,od12,.func (PySem.W.fnOf "room_at" "room_at" (Au sRoom) (Ap sRoom) (Ae sRoom) .none kV12 dc12 pm12 an12 cd12 ct12),sl12⟩) (c12:PySem.W.codeIn K cd12 "room_at"=true) (k12:PySem.W.keepIn K (.ref f12)=true)
  (a13:PySem.W.nsIn K mainGlobals "most_layer"=some (some (.ref f13))) (l13:K.lookup f13=some ⟨oc13,od13,.func (PySem.W.fnOf "most_layer" "most_layer" (Au sMost) (Ap sMost) (Ae sMost) .none kV13 dc13 pm13 an13 cd13 ct13),sl13⟩) (c13:PySem.W.codeIn K cd13 "most_layer"=true) (k13:PySem.W.keepIn K (.ref f13)=true)
  (a14:PySem.W.nsIn K mainGlobals "ties_from"=some (some (.ref f14))) (l14:K.lookup f14=some ⟨oc14,od14,.func (PySem.W.fnOf "ties_from" "ties_from" (Au sTies) (Ap sTies) (Ae sTies) .none kV14 dc14 pm14 an14 cd14 ct14),sl14⟩) (c14:PySem.W.codeIn K cd14 "ties_from"=true) (k14:PySem.W.keepIn K (.ref f14)=true)
  (a15:PySem.W.nsIn K mainGlobals "kept_from"=some (some (.ref f15))) (l15:K.lookup f15=some ⟨oc15,od15,.func (PySem.W.fnOf "kept_from" "kept_from" (Au sKept) (Ap sKept) (Ae sKept) .none kV15 dc15 pm15 an15 cd15 ct15),sl15⟩) (c15:PySem.W.codeIn K cd15 "kept_from"=true) (k15:PySem.W.keepIn K (.ref f15)=true)
  (a16:PySem.W.nsIn K mainGlobals "is_row"=some (some (.ref f16))) (l16:K.lookup f16=some ⟨oc16,od16,.func (PySem.W.fnOf "is_row" "is_row" (Au sRow) (Ap sRow) (Ae sRow) .none kV16 dc16 pm16 an16 cd16 ct16),sl16⟩) (c16:PySem.W.codeIn K cd16 "is_row"=true) (k16:PySem.W.keepIn K (.ref f16)=true)
  (a17:PySem.W.nsIn K mainGlobals "has_form"=some (some (.ref f17))) (l17:K.lookup f17=some ⟨oc17,od17,.func (PySem.W.fnOf "has_form" "has_form" (Au sForm) (Ap sForm) (Ae sForm) .none kV17 dc17 pm17 an17 cd17 ct17),sl17⟩) (c17:PySem.W.codeIn K cd17 "has_form"=true) (k17:PySem.W.keepIn K (.ref f17)=true)
  (a18:PySem.W.nsIn K mainGlobals "holds_at"=some (some (.ref f18))) (l18:K.lookup f18=some ⟨oc18,od18,.func (PySem.W.fnOf "holds_at" "holds_at" (Au sHolds) (Ap sHolds) (Ae sHolds) .none kV18 dc18 pm18 an18 cd18 ct18),sl18⟩) (c18:PySem.W.codeIn K cd18 "holds_at"=true) (k18:PySem.W.keepIn K (.ref f18)=true)
  (a19:PySem.W.nsIn K mainGlobals "layers_hold"=some (some (.ref f19))) (l19:K.lookup f19=some ⟨oc19,od19,.func (PySem.W.fnOf "layers_hold" "layers_hold" (Au sHold) (Ap sHold) (Ae sHold) .none kV19 dc19 pm19 an19 cd19 ct19),sl19⟩) (c19:PySem.W.codeIn K cd19 "layers_hold"=true) (k19:PySem.W.keepIn K (.ref f19)=true)
  (a20:PySem.W.nsIn K mainGlobals "_law_deck"=some (some (.ref f20))) (l20:K.lookup f20=some ⟨oc20,od20,.func (PySem.W.fnOf "_law_deck" "_law_deck" (Au sDeck) (Ap sDeck) (Ae sDeck) .none kV20 dc20 pm20 an20 cd20 ct20),sl20⟩) (c20:PySem.W.codeIn K cd20 "_law_deck"=true) (k20:PySem.W.keepIn K (.ref f20)=true)
  (a21:PySem.W.nsIn K mainGlobals "_law_draw"=some (some (.ref f21))) (l21:K.lookup f21=some ⟨oc21,od21,.func (PySem.W.fnOf "_law_draw" "_law_draw" (Au sDraw) (Ap sDraw) (Ae sDraw) .none kV21 dc21 pm21 an21 cd21 ct21),sl21⟩) (c21:PySem.W.codeIn K cd21 "_law_draw"=true) (k21:PySem.W.keepIn K (.ref f21)=true)
  (a22:PySem.W.nsIn K mainGlobals "_law_names"=some (some (.ref f22))) (l22:K.lookup f22=some ⟨oc22,od22,.func (PySem.W.fnOf "_law_names" "_law_names" (Au sNames) (Ap sNames) (Ae sNames) .none kV22 dc22 pm22 an22 cd22 ct22),sl22⟩) (c22:PySem.W.codeIn K cd22 "_law_names"=true) (k22:PySem.W.keepIn K (.ref f22)=true)
  (a23:PySem.W.nsIn K mainGlobals "_law_many"=some (some (.ref f23))) (l23:K.lookup f23=some ⟨oc23,od23,.func (PySem.W.fnOf "_law_many" "_law_many" (Au sMany) (Ap sMany) (Ae sMany) .none kV23 dc23 pm23 an23 cd23 ct23),sl23⟩) (c23:PySem.W.codeIn K cd23 "_law_many"=true) (k23:PySem.W.keepIn K (.ref f23)=true)
  (a24:PySem.W.nsIn K mainGlobals "_law_weight"=some (some (.ref f24))) (l24:K.lookup f24=some ⟨oc24,od24,.func (PySem.W.fnOf "_law_weight" "_law_weight" (Au sWeight) (Ap sWeight) (Ae sWeight) .none kV24 dc24 pm24 an24 cd24 ct24),sl24⟩) (c24:PySem.W.codeIn K cd24 "_law_weight"=true) (k24:PySem.W.keepIn K (.ref f24)=true)
  (a25:PySem.W.nsIn K mainGlobals "_law_halved"=some (some (.ref f25))) (l25:K.lookup f25=some ⟨oc25,od25,.func (PySem.W.fnOf "_law_halved" "_law_halved" (Au sHalved) (Ap sHalved) (Ae sHalved) .none kV25 dc25 pm25 an25 cd25 ct25),sl25⟩) (c25:PySem.W.codeIn K cd25 "_law_halved"=true) (k25:PySem.W.keepIn K (.ref f25)=true)
  (a26:PySem.W.nsIn K mainGlobals "_law_greatest"=some (some (.ref f26))) (l26:K.lookup f26=some ⟨oc26,od26,.func (PySem.W.fnOf "_law_greatest" "_law_greatest" (Au sGreat) (Ap sGreat) (Ae sGreat) .none kV26 dc26 pm26 an26 cd26 ct26),sl26⟩) (c26:PySem.W.codeIn K cd26 "_law_greatest"=true) (k26:PySem.W.keepIn K (.ref f26)=true)
  (a27:PySem.W.nsIn K mainGlobals "_law_tops"=some (some (.ref f27))) (l27:K.lookup f27=some ⟨oc27,od27,.func (PySem.W.fnOf "_law_tops" "_law_tops" (Au sTops) (Ap sTops) (Ae sTops) .none kV27 dc27 pm27 an27 cd27 ct27),sl27⟩) (c27:PySem.W.codeIn K cd27 "_law_tops"=true) (k27:PySem.W.keepIn K (.ref f27)=true)
  (a28:PySem.W.nsIn K mainGlobals "_law_layered"=some (some (.ref f28))) (l28:K.lookup f28=some ⟨oc28,od28,.func (PySem.W.fnOf "_law_layered" "_law_layered" (Au sLayered) (Ap sLayered) (Ae sLayered) .none kV28 dc28 pm28 an28 cd28 ct28),sl28⟩) (c28:PySem.W.codeIn K cd28 "_law_layered"=true) (k28:PySem.W.keepIn K (.ref f28)=true)
  (a29:PySem.W.nsIn K mainGlobals "_law_some"=some (some (.ref f29))) (l29:K.lookup f29=some ⟨oc29,od29,.func (PySem.W.fnOf "_law_some" "_law_some" (Au sSome) (Ap sSome) (Ae sSome) .none kV29 dc29 pm29 an29 cd29 ct29),sl29⟩) (c29:PySem.W.codeIn K cd29 "_law_some"=true) (k29:PySem.W.keepIn K (.ref f29)=true)
  (a30:PySem.W.nsIn K mainGlobals "_law_good"=some (some (.ref f30))) (l30:K.lookup f30=some ⟨oc30,od30,.func (PySem.W.fnOf "_law_good" "_law_good" (Au sGood) (Ap sGood) (Ae sGood) .none kV30 dc30 pm30 an30 cd30 ct30),sl30⟩) (c30:PySem.W.codeIn K cd30 "_law_good"=true) (k30:PySem.W.keepIn K (.ref f30)=true)
  (a31:PySem.W.nsIn K mainGlobals "_law_whole"=some (some (.ref f31))) (l31:K.lookup f31=some ⟨oc31,od31,.func (PySem.W.fnOf "_law_whole" "_law_whole" (Au sLWhole) (Ap sLWhole) (Ae sLWhole) .none kV31 dc31 pm31 an31 cd31 ct31),sl31⟩) (c31:PySem.W.codeIn K cd31 "_law_whole"=true) (k31:PySem.W.keepIn K (.ref f31)=true)
  (a32:PySem.W.nsIn K mainGlobals "_law_is_name"=some (some (.ref f32))) (l32:K.lookup f32=some ⟨oc32,od32,.func (PySem.W.fnOf "_law_is_name" "_law_is_name" (Au sLName) (Ap sLName) (Ae sLName) .none kV32 dc32 pm32 an32 cd32 ct32),sl32⟩) (c32:PySem.W.codeIn K cd32 "_law_is_name"=true) (k32:PySem.W.keepIn K (.ref f32)=true)
  (a33:PySem.W.nsIn K mainGlobals "_law_is_row"=some (some (.ref f33))) (l33:K.lookup f33=some ⟨oc33,od33,.func (PySem.W.fnOf "_law_is_row" "_law_is_row" (Au sLRow) (Ap sLRow) (Ae sLRow) .none kV33 dc33 pm33 an33 cd33 ct33),sl33⟩) (c33:PySem.W.codeIn K cd33 "_law_is_row"=true) (k33:PySem.W.keepIn K (.ref f33)=true)
  (a34:PySem.W.nsIn K mainGlobals "_law_due"=some (some (.ref f34))) (l34:K.lookup f34=some ⟨oc34,od34,.func (PySem.W.fnOf "_law_due" "_law_due" (Au sDue) (Ap sDue) (Ae sDue) .none kV34 dc34 pm34 an34 cd34 ct34),sl34⟩) (c34:PySem.W.codeIn K cd34 "_law_due"=true) (k34:PySem.W.keepIn K (.ref f34)=true)
  (a35:PySem.W.nsIn K mainGlobals "_law_told"=some (some (.ref f35))) (l35:K.lookup f35=some ⟨oc35,od35,.func (PySem.W.fnOf "_law_told" "_law_told" (Au sTold) (Ap sTold) (Ae sTold) .none kV35 dc35 pm35 an35 cd35 ct35),sl35⟩) (c35:PySem.W.codeIn K cd35 "_law_told"=true) (k35:PySem.W.keepIn K (.ref f35)=true)
  (a36:PySem.W.nsIn K mainGlobals "_law_odd"=some (some (.ref f36))) (l36:K.lookup f36=some ⟨oc36,od36,.func (PySem.W.fnOf "_law_odd" "_law_odd" (Au sOdd) (Ap sOdd) (Ae sOdd) .none kV36 dc36 pm36 an36 cd36 ct36),sl36⟩) (c36:PySem.W.codeIn K cd36 "_law_odd"=true) (k36:PySem.W.keepIn K (.ref f36)=true)
  (a37:PySem.W.nsIn K mainGlobals "law"=some (some (.ref f37))) (l37:K.lookup f37=some ⟨oc37,od37,.func (PySem.W.fnOf "law" "law" (Au sLaw) (Ap sLaw) (Ae sLaw) .none kV37 dc37 pm37 an37 cd37 ct37),sl37⟩) (c37:PySem.W.codeIn K cd37 "law"=true) (k37:PySem.W.keepIn K (.ref f37)=true)
  (i0:PySem.W.nsIn K mainGlobals "MOST_PLACES"=some (some (.int 24 t0)))
  (i1:PySem.W.nsIn K mainGlobals "MOST_TIES"=some (some (.int 60 t1)))
  (i2:PySem.W.nsIn K mainGlobals "MOST_LETTERS"=some (some (.int 8 t2)))
  (i3:PySem.W.nsIn K mainGlobals "MOST_AMOUNT"=some (some (.int 1000000000 t3)))
  (z0:PySem.W.nsIn K mainGlobals "isinstance"=some none) (z1:PySem.W.nsIn K mainGlobals "int"=some none) (z2:PySem.W.nsIn K mainGlobals "bool"=some none) (z3:PySem.W.nsIn K mainGlobals "tuple"=some none) (z4:PySem.W.nsIn K mainGlobals "len"=some none) (z5:PySem.W.nsIn K mainGlobals "range"=some none) (z6:PySem.W.nsIn K mainGlobals "sum"=some none) (z7:PySem.W.nsIn K mainGlobals "str"=some none) (z8:PySem.W.nsIn K mainGlobals "max"=some none) (z9:PySem.W.nsIn K mainGlobals "min"=some none) (z10:PySem.W.nsIn K mainGlobals "all"=some none) (z11:PySem.W.nsIn K mainGlobals "zip"=some none) (z12:PySem.W.nsIn K mainGlobals "sorted"=some none) (z13:PySem.W.nsIn K mainGlobals "list"=some none) (z14:PySem.W.nsIn K mainGlobals "enumerate"=some none) (z15:PySem.W.nsIn K mainGlobals "repr"=some none):
  ∃fd:FuncData,(∀(s:Shared) (v:Value),BindsTo s fd ⟨[v],[]⟩ [("_law_script",v)])∧∀base:Heap,K.In base→base.Ns mainGlobals mg→FnOk l.prog w K mg base CX0 9 fa fd ["_law_script"] (spLaw K):=by
 have e:=hfa.symm.trans (PySem.W.mg_of X G a37)
 cases e
 have T:Txt mg:=⟨PySem.W.mg_none_of X G z0,PySem.W.mg_none_of X G z1,PySem.W.mg_none_of X G z2,PySem.W.mg_none_of X G z3,PySem.W.mg_none_of X G z4,PySem.W.mg_none_of X G z5,PySem.W.mg_none_of X G z6,PySem.W.mg_none_of X G z7,PySem.W.mg_none_of X G z8,PySem.W.mg_none_of X G z9,PySem.W.mg_none_of X G z10,PySem.W.mg_none_of X G z11,PySem.W.mg_none_of X G z12,PySem.W.mg_none_of X G z13,PySem.W.mg_none_of X G z14,PySem.W.mg_none_of X G z15,⟨_,PySem.W.mg_of X G i0⟩,⟨_,PySem.W.mg_of X G i1⟩,⟨_,PySem.W.mg_of X G i2⟩,⟨_,PySem.W.mg_of X G i3⟩⟩
 have F0:=A4 (st:=sWhole) l0 c0 k0
 have b0:=F0.binds (ps:=["thing"]) fun _ _ _ _ _ _=>us1 rfl fun _=>rfl
 have m0:=PySem.W.mg_of X G a0
 have F1:=A4 (st:=sWithin) l1 c1 k1
 have b1:=F1.binds (ps:=["thing","low","high"]) fun _ _ _ _ _ _=>us3 rfl fun _ _ _=>rfl
 have m1:=PySem.W.mg_of X G a1
 have F2:=A4 (st:=sName) l2 c2 k2
 have b2:=F2.binds (ps:=["thing"]) fun _ _ _ _ _ _=>us1 rfl fun _=>rfl
 have m2:=PySem.W.mg_of X G a2
 have F3:=A4 (st:=sAmount) l3 c3 k3
 have b3:=F3.binds (ps:=["thing"]) fun _ _ _ _ _ _=>us1 rfl fun _=>rfl
 have m3:=PySem.W.mg_of X G a3
 have F4:=A4 (st:=sPlace) l4 c4 k4
 have b4:=F4.binds (ps:=["many","thing"]) fun _ _ _ _ _ _=>us2 rfl fun _ _=>rfl
 have m4:=PySem.W.mg_of X G a4
 have F5:=A4 (st:=sTie) l5 c5 k5
 have b5:=F5.binds (ps:=["many","four"]) fun _ _ _ _ _ _=>us2 rfl fun _ _=>rfl
 have m5:=PySem.W.mg_of X G a5
 have F6:=A4 (st:=sShape) l6 c6 k6
 have b6:=F6.binds (ps:=["thing","most"]) fun _ _ _ _ _ _=>us2 rfl fun _ _=>rfl
 have m6:=PySem.W.mg_of X G a6
 have F7:=A4 (st:=sBeside) l7 c7 k7
 have b7:=F7.binds (ps:=["many","stand"]) fun _ _ _ _ _ _=>us2 rfl fun _ _=>rfl
 have m7:=PySem.W.mg_of X G a7
 have F8:=A4 (st:=sWays) l8 c8 k8
 have b8:=F8.binds (ps:=["many","stand","place"]) fun _ _ _ _ _ _=>us3 rfl fun _ _ _=>rfl
 have m8:=PySem.W.mg_of X G a8
 have F9:=A4 (st:=sPart) l9 c9 k9
 have b9:=F9.binds (ps:=["many","stand","place"]) fun _ _ _ _ _ _=>us3 rfl fun _ _ _=>rfl
 have m9:=PySem.W.mg_of X G a9
 have F10:=A4 (st:=sParts) l10 c10 k10
 have b10:=F10.binds (ps:=["many","stand"]) fun _ _ _ _ _ _=>us2 rfl fun _ _=>rfl
 have m10:=PySem.W.mg_of X G a10
 have F11:=A4 (st:=sHasR) l11 c11 k11
 have b11:=F11.binds (ps:=["many","stand"]) fun _ _ _ _ _ _=>us2 rfl fun _ _=>rfl
 have m11:=PySem.W.mg_of X G a11
 have F12:=A4 (st:=sRoom) l12 c12 k12
 have b12:=F12.binds (ps:=["many","layer"]) fun _ _ _ _ _ _=>us2 rfl fun _ _=>rfl
 have m12:=PySem.W.mg_of X G a12
 have F13:=A4 (st:=sMost) l13 c13 k13
 have b13:=F13.binds (ps:=["many"]) fun _ _ _ _ _ _=>us1 rfl fun _=>rfl
 have m13:=PySem.W.mg_of X G a13
 have F14:=A4 (st:=sTies) l14 c14 k14
 have b14:=F14.binds (ps:=["rows","layer"]) fun _ _ _ _ _ _=>us2 rfl fun _ _=>rfl
 have m14:=PySem.W.mg_of X G a14
 have F15:=A4 (st:=sKept) l15 c15 k15
 have b15:=F15.binds (ps:=["rows","layer"]) fun _ _ _ _ _ _=>us2 rfl fun _ _=>rfl
 have m15:=PySem.W.mg_of X G a15
 have F16:=A4 (st:=sRow) l16 c16 k16
 have b16:=F16.binds (ps:=["many","thing"]) fun _ _ _ _ _ _=>us2 rfl fun _ _=>rfl
 have m16:=PySem.W.mg_of X G a16
 have F17:=A4 (st:=sForm) l17 c17 k17
 have b17:=F17.binds (ps:=["thing"]) fun _ _ _ _ _ _=>us1 rfl fun _=>rfl
 have m17:=PySem.W.mg_of X G a17
 have F18:=A4 (st:=sHolds) l18 c18 k18
 have b18:=F18.binds (ps:=["many","rows","layer"]) fun _ _ _ _ _ _=>us3 rfl fun _ _ _=>rfl
 have m18:=PySem.W.mg_of X G a18
 have F19:=A4 (st:=sHold) l19 c19 k19
 have b19:=F19.binds (ps:=["thing"]) fun _ _ _ _ _ _=>us1 rfl fun _=>rfl
 have m19:=PySem.W.mg_of X G a19
 have F20:=A4 (st:=sDeck) l20 c20 k20
 have b20:=F20.binds (ps:=["_law_script"]) fun _ _ _ _ _ _=>us1 rfl fun _=>rfl
 have m20:=PySem.W.mg_of X G a20
 have F21:=A4 (st:=sDraw) l21 c21 k21
 have b21:=F21.binds (ps:=["_law_deck_here","_law_most"]) fun _ _ _ _ _ _=>us2 rfl fun _ _=>rfl
 have m21:=PySem.W.mg_of X G a21
 have F22:=A4 (st:=sNames) l22 c22 k22
 have b22:=F22.binds (ps:=["_law_deck_here","_law_many_here"]) fun _ _ _ _ _ _=>us2 rfl fun _ _=>rfl
 have m22:=PySem.W.mg_of X G a22
 have F23:=A4 (st:=sMany) l23 c23 k23
 have b23:=F23.binds (ps:=["_law_deck_here"]) fun _ _ _ _ _ _=>us1 rfl fun _=>rfl
 have m23:=PySem.W.mg_of X G a23
 have F24:=A4 (st:=sWeight) l24 c24 k24
 have b24:=F24.binds (ps:=["_law_deck_here"]) fun _ _ _ _ _ _=>us1 rfl fun _=>rfl
 have m24:=PySem.W.mg_of X G a24
 have F25:=A4 (st:=sHalved) l25 c25 k25
 have b25:=F25.binds (ps:=["_law_many_here","_law_layer"]) fun _ _ _ _ _ _=>us2 rfl fun _ _=>rfl
 have m25:=PySem.W.mg_of X G a25
 have F26:=A4 (st:=sGreat) l26 c26 k26
 have b26:=F26.binds (ps:=["_law_many_here"]) fun _ _ _ _ _ _=>us1 rfl fun _=>rfl
 have m26:=PySem.W.mg_of X G a26
 have F27:=A4 (st:=sTops) l27 c27 k27
 have b27:=F27.binds (ps:=["_law_many_here","_law_rows"]) fun _ _ _ _ _ _=>us2 rfl fun _ _=>rfl
 have m27:=PySem.W.mg_of X G a27
 have F28:=A4 (st:=sLayered) l28 c28 k28
 have b28:=F28.binds (ps:=["_law_deck_here","_law_many_here","_law_names_here"]) fun _ _ _ _ _ _=>us3 rfl fun _ _ _=>rfl
 have m28:=PySem.W.mg_of X G a28
 have F29:=A4 (st:=sSome) l29 c29 k29
 have b29:=F29.binds (ps:=["_law_deck_here"]) fun _ _ _ _ _ _=>us1 rfl fun _=>rfl
 have m29:=PySem.W.mg_of X G a29
 have F30:=A4 (st:=sGood) l30 c30 k30
 have b30:=F30.binds (ps:=["_law_many_here","_law_rows"]) fun _ _ _ _ _ _=>us2 rfl fun _ _=>rfl
 have m30:=PySem.W.mg_of X G a30
 have F31:=A4 (st:=sLWhole) l31 c31 k31
 have b31:=F31.binds (ps:=["_law_thing","_law_least","_law_most"]) fun _ _ _ _ _ _=>us3 rfl fun _ _ _=>rfl
 have m31:=PySem.W.mg_of X G a31
 have F32:=A4 (st:=sLName) l32 c32 k32
 have b32:=F32.binds (ps:=["_law_thing"]) fun _ _ _ _ _ _=>us1 rfl fun _=>rfl
 have m32:=PySem.W.mg_of X G a32
 have F33:=A4 (st:=sLRow) l33 c33 k33
 have b33:=F33.binds (ps:=["_law_thing","_law_many_here"]) fun _ _ _ _ _ _=>us2 rfl fun _ _=>rfl
 have m33:=PySem.W.mg_of X G a33
 have F34:=A4 (st:=sDue) l34 c34 k34
 have b34:=F34.binds (ps:=["_law_thing"]) fun _ _ _ _ _ _=>us1 rfl fun _=>rfl
 have m34:=PySem.W.mg_of X G a34
 have F35:=A4 (st:=sTold) l35 c35 k35
 have b35:=F35.binds (ps:=["_law_thing"]) fun _ _ _ _ _ _=>us1 rfl fun _=>rfl
 have m35:=PySem.W.mg_of X G a35
 have F36:=A4 (st:=sOdd) l36 c36 k36
 have b36:=F36.binds (ps:=["_law_deck_here","_law_good_here"]) fun _ _ _ _ _ _=>us2 rfl fun _ _=>rfl
 have m36:=PySem.W.mg_of X G a36
 have F37:=A4 (st:=sLaw) l37 c37 k37
 have b37:=F37.binds (ps:=["_law_script"]) fun _ _ _ _ _ _=>us1 rfl fun _=>rfl
 have m37:=PySem.W.mg_of X G a37
 refine ⟨PySem.W.fnOf "law" "law" (Au sLaw) (Ap sLaw) (Ae sLaw) .none kV37 dc37 pm37 an37 cd37 ct37,fun s v=> .of_eq rfl,fun base _ _=> ?_⟩
 have Q0:FnOk l.prog w K mg base CX0 1 f0 _ ["thing"] spWhole:=ok_Whole F0 T 
 have Q1:FnOk l.prog w K mg base CX0 2 f1 _ ["thing","low","high"] spWithin:=ok_Within F1 T k0 b0 m0 (Q0.mono (by decide))
 have Q2:FnOk l.prog w K mg base CX0 1 f2 _ ["thing"] spName:=ok_Name F2 T 
 have Q3:FnOk l.prog w K mg base CX0 3 f3 _ ["thing"] spAmount:=ok_Amount F3 T k1 b1 m1 (Q1.mono (by decide))
 have Q4:FnOk l.prog w K mg base CX0 3 f4 _ ["many","thing"] spPlace:=ok_Place F4 T k1 b1 m1 (Q1.mono (by decide))
 have Q5:FnOk l.prog w K mg base CX0 4 f5 _ ["many","four"] spTie:=ok_Tie F5 T k2 b2 m2 (Q2.mono (by decide)) k3 b3 m3 (Q3.mono (by decide)) k4 b4 m4 (Q4.mono (by decide))
 have Q6:FnOk l.prog w K mg base CX0 3 f6 _ ["thing","most"] spShape:=ok_Shape F6 T k1 b1 m1 (Q1.mono (by decide))
 have Q7:FnOk l.prog w K mg base CX0 1 f7 _ ["many","stand"] spBeside:=ok_Beside F7 T 
 have Q8:FnOk l.prog w K mg base CX0 2 f8 _ ["many","stand","place"] spWays:=ok_Ways F8 T k7 b7 m7 (Q7.mono (by decide))
 have Q9:FnOk l.prog w K mg base CX0 3 f9 _ ["many","stand","place"] spPart:=ok_Part F9 T k8 b8 m8 (Q8.mono (by decide))
 have Q10:FnOk l.prog w K mg base CX0 4 f10 _ ["many","stand"] spParts:=ok_Parts F10 T k9 b9 m9 (Q9.mono (by decide))
 have Q11:FnOk l.prog w K mg base CX0 5 f11 _ ["many","stand"] spHasR:=ok_HasR F11 T k10 b10 m10 (Q10.mono (by decide))
 have Q12:FnOk l.prog w K mg base CX0 1 f12 _ ["many","layer"] spRoom:=ok_Room F12 T 
 have Q13:FnOk l.prog w K mg base CX0 2 f13 _ ["many"] spMost:=ok_Most F13 T k12 b12 m12 (Q12.mono (by decide))
 have Q14:FnOk l.prog w K mg base CX0 1 f14 _ ["rows","layer"] spTies:=ok_Ties F14 T 
 have Q15:FnOk l.prog w K mg base CX0 1 f15 _ ["rows","layer"] spKept:=ok_Kept F15 T 
 have Q16:FnOk l.prog w K mg base CX0 5 f16 _ ["many","thing"] spRow:=ok_Row F16 T k5 b5 m5 (Q5.mono (by decide)) k1 b1 m1 (Q1.mono (by decide)) k13 b13 m13 (Q13.mono (by decide))
 have Q17:FnOk l.prog w K mg base CX0 6 f17 _ ["thing"] spForm:=ok_Form F17 T k6 b6 m6 (Q6.mono (by decide)) k16 b16 m16 (Q16.mono (by decide))
 have Q18:FnOk l.prog w K mg base CX0 5 f18 _ ["many","rows","layer"] spHolds:=ok_Holds F18 T k10 b10 m10 (Q10.mono (by decide)) k14 b14 m14 (Q14.mono (by decide)) k15 b15 m15 (Q15.mono (by decide)) k12 b12 m12 (Q12.mono (by decide))
 have Q19:FnOk l.prog w K mg base CX0 7 f19 _ ["thing"] spHold:=ok_Hold F19 T k17 b17 m17 (Q17.mono (by decide)) k11 b11 m11 (Q11.mono (by decide)) k15 b15 m15 (Q15.mono (by decide)) k18 b18 m18 (Q18.mono (by decide)) k13 b13 m13 (Q13.mono (by decide))
 have Q20:FnOk l.prog w K mg base CX0 1 f20 _ ["_law_script"] (spDeck K):=ok_Deck F20 T 
 have Q21:FnOk l.prog w K mg base CX0 1 f21 _ ["_law_deck_here","_law_most"] spDraw:=ok_Draw F21 T 
 have Q22:FnOk l.prog w K mg base CX0 2 f22 _ ["_law_deck_here","_law_many_here"] spNames:=ok_Names F22 T k21 b21 m21 (Q21.mono (by decide))
 have Q23:FnOk l.prog w K mg base CX0 2 f23 _ ["_law_deck_here"] spMany:=ok_Many F23 T k21 b21 m21 (Q21.mono (by decide))
 have Q24:FnOk l.prog w K mg base CX0 2 f24 _ ["_law_deck_here"] spWeight:=ok_Weight F24 T k21 b21 m21 (Q21.mono (by decide))
 have Q25:FnOk l.prog w K mg base CX0 1 f25 _ ["_law_many_here","_law_layer"] spHalved:=ok_Halved F25 T 
 have Q26:FnOk l.prog w K mg base CX0 1 f26 _ ["_law_many_here"] spGreat:=ok_Great F26 T 
 have Q27:FnOk l.prog w K mg base CX0 1 f27 _ ["_law_many_here","_law_rows"] spTops:=ok_Tops F27 T 
 have Q28:FnOk l.prog w K mg base CX0 3 f28 _ ["_law_deck_here","_law_many_here","_law_names_here"] spLayered:=ok_Layered F28 T k26 b26 m26 (Q26.mono (by decide)) k21 b21 m21 (Q21.mono (by decide)) k27 b27 m27 (Q27.mono (by decide)) k25 b25 m25 (Q25.mono (by decide)) k24 b24 m24 (Q24.mono (by decide))
 have Q29:FnOk l.prog w K mg base CX0 2 f29 _ ["_law_deck_here"] spSome:=ok_Some F29 T k21 b21 m21 (Q21.mono (by decide))
 have Q30:FnOk l.prog w K mg base CX0 2 f30 _ ["_law_many_here","_law_rows"] spGood:=ok_Good F30 T k27 b27 m27 (Q27.mono (by decide)) k25 b25 m25 (Q25.mono (by decide))
 have Q31:FnOk l.prog w K mg base CX0 1 f31 _ ["_law_thing","_law_least","_law_most"] spLWhole:=ok_LWhole F31 T 
 have Q32:FnOk l.prog w K mg base CX0 1 f32 _ ["_law_thing"] spLName:=ok_LName F32 T 
 have Q33:FnOk l.prog w K mg base CX0 2 f33 _ ["_law_thing","_law_many_here"] spLRow:=ok_LRow F33 T k32 b32 m32 (Q32.mono (by decide)) k31 b31 m31 (Q31.mono (by decide))
 have Q34:FnOk l.prog w K mg base CX0 3 f34 _ ["_law_thing"] spDue:=ok_Due F34 T k31 b31 m31 (Q31.mono (by decide)) k33 b33 m33 (Q33.mono (by decide)) k30 b30 m30 (Q30.mono (by decide))
 have Q35:FnOk l.prog w K mg base CX0 8 f35 _ ["_law_thing"] spTold:=ok_Told F35 T k19 b19 m19 (Q19.mono (by decide)) k34 b34 m34 (Q34.mono (by decide))
 have Q36:FnOk l.prog w K mg base CX0 2 f36 _ ["_law_deck_here","_law_good_here"] spOdd:=ok_Odd F36 T k21 b21 m21 (Q21.mono (by decide))
 exact ok_Law F37 T k20 b20 m20 (Q20.mono (by decide)) k23 b23 m23 (Q23.mono (by decide)) k28 b28 m28 (Q28.mono (by decide)) k22 b22 m22 (Q22.mono (by decide)) k29 b29 m29 (Q29.mono (by decide)) k21 b21 m21 (Q21.mono (by decide)) k36 b36 m36 (Q36.mono (by decide)) k35 b35 m35 (Q35.mono (by decide)) k19 b19 m19 (Q19.mono (by decide))
theorem walk {l:PySem.W.OpenLaw} {q:Program} {loose:List Str} {XP:(Str→Option Value)→Heap→Prop} {YP:World→Heap→Prop} {d:DefRec} {K:Params→PySem.W.Frag} (hn:l.most=some 63) (hdf:d.params.defaults=[])
  (hY:∀(w:World) (h:Heap),YP w h→(K w.params).In h)
  (F:∀(w:World) (mg:Str→Option Value) (fa:Addr) (h:Heap),(K w.params).In h→h.Ns mainGlobals mg→mg d.name=some (.ref fa)→
   ∃fd:FuncData,(∀(s:Shared) (u:Value),BindsTo s fd ⟨[u],[]⟩ [("_law_script",u)])∧∀base:Heap,(K w.params).In base→base.Ns mainGlobals mg→FnOk l.prog w (K w.params) mg base CX0 9 fa fd ["_law_script"] (spLaw (K w.params))):
  PySem.W.WalkO q loose XP YP l.row.toRowW d [] (fun f vs=>PySem.call f vs):=
 L2.walk_of (n:=63) (k:=9) (x:="_law_script") (CX:=fun _=>CX0) (sp:=fun w=>spLaw (K w.params)) hn (by decide) hdf ⟨rfl,by decide,by decide,rfl⟩ hY F (fun _ _ a ns hl _ hS=>⟨a,ns,rfl,hS,hl,fun _=>rfl⟩) fun _ _ _ _ _ z=>z
end K34
namespace PySem.W.Fast
def tw12601281596915211470:=0
def tw3505567445128357075:=0
def tw6427742454204497587:=0
def tw12978398013604802080:=0
def tw712320929599442804:=0
def tw14575005556016872069:=0
def tw1940855670413084545:=0
def tw13897739214485177359:=0
def tw1240391932957716308:=0
def tw15581871109857767695:=0
def tw2814140214541615329:=0
def tw15137712972657641558:=0
def tw299934094307293885:=0
def tw5315184516867771936:=0
def tw7257507070591114320:=0
def tw15329117193579218761:=0
def tw7055650568980436828:=0
def tw10143623217520351600:=0
def tw2594221194670221993:=0
def tw7449758991051482850:=0
def tw5666968398330229266:=0
def tw5250097935453407632:=0
def tw6757443283030849029:=0
def tw6130560399416386030:=0
def tw5371012358348648082:=0
def tw9409023238684074154:=0
def tw14333376888767541621:=0
def tw11850662200051442897:=0
def tw9661617830609697553:=0
def tw3292966210964246135:=0
def tw7251992965735253393:=0
def tw13905922341077129897:=0
def tw10345074795048078997:=0
def tw11407913892871711181:=0
def tw9977342808531227192:=0
def tw15691511517190481541:=0
def tw16461449462811118671:=0
def tw12250878552142700792:=0
def tw16068142932027985138:=0
def tw578761710926446658:=0
def tw7104726791353314916:=0
def tw18295061778288981675:=0
def tw13265844803467108244:=0
def tw2136509333072531823:=0
def tw12287881060065825711:=0
def tw5491925983308883195:=0
def tw10536557128115687256:=0
def tw4409856454896999707:=0
def tw16584404508111836392:=0
def tw16656013060588107919:=0
def tw10177671192551010762:=0
def tw1789658611713857442:=0
def tw3204323326413684382:=0
def tw201287332333929365:=0
def tw4860995633948958170:=0
def tw10661566391752800695:=0
def tw17091992745398516813:=0
def tw14428862555078971820:=0
def tw10369695674429908643:=0
def tw6224973267547942319:=0
def tw15072672303968092185:=0
def tw10719135640781824534:=0
def tw3601201131484119233:=0
def tw7354418701856947942:=0
def tw6695419426826499440:=0
def tw3672405622418484285:=0
def tw7057778531524505256:=0
def tw12443363773858632518:=0
def tw2159193394711787308:=0
def tw17128798483520970437:=0
def tw14686867260032399427:=0
def tw13371515993328482897:=0
def tw9786709626685981854:=0
def tw16780690342751121493:=0
def tw9162644024223523195:=0
def tw18415698200517284982:=0
def tw2437749343399209520:=0
def tw4401636774761382277:=0
def tw385599353229454452:=0
def tw10332764197132805333:=0
def tw13446588690161692720:=0
def tw1506217024067282784:=0
def tw1835397581870045671:=0
def tw16940688086253565375:=0
def tw5060527297534098588:=0
def tw1908358308252495404:=0
def tw5221648179675507638:=0
def tw2417097821115282283:=0
def tw6187383085676786965:=0
def tw5000041436840479333:=0
def tw18361575353527362471:=0
def tw13325458141323737886:=0
def tw13112907161529593499:=0
def tw10621571998395410138:=0
def tw16652438645681584186:=0
def tw7381657661674799614:=0
def tw2743857578335872760:=0
def tw12522265853854387260:=0
def tw12266439065735722193:=0
def tw4175238424438286721:=0
def tw2615712341334195896:=0
def tw12287052836159531235:=0
def tw16324296138907149233:=0
def tw13038286996305000779:=0
def tw13190004060957157609:=0
def tw12983191450931133501:=0
def tw10318669756356095730:=0
def tw5307134370638325464:=0
def tw6920684664505317763:=0
def tw802365790568567253:=0
def tw3535330001621898039:=0
def tw3322891038917659651:=0
def tw13884078887753059497:=0
def tw11369296305812241208:=0
def tw4342175144104439056:=0
def tw11090485740372638322:=0
def tw17017828067065693283:=0
def tw15834277912087208810:=0
def tw6099028832410491412:=0
def tw16087488246351214614:=0
def tw8494691403738874501:=0
def tw7143457518762265792:=0
def tw1507489408269437753:=0
def tw11765826262048275123:=0
def tw10058439698081562496:=0
def tw7191282728694456230:=0
def tw1498421858565779293:=0
def tw10518783770209535618:=0
def tw2762935802139509387:=0
def tw3046286980581630485:=0
def tw16381986938289596854:=0
def tw691650318562595226:=0
def tw16349447429908809336:=0
def tw11204820649554263911:=0
def tw7549069562776357978:=0
def tw8379352605693020282:=0
def tw445155952908165041:=0
def tw3028170947329206055:=0
def tw2754094492272543467:=0
def tw6904003996960777800:=0
end PySem.W.Fast
open PySem PySem.W PyProof.Rows
set_option maxRecDepth 100000 in
set_option maxHeartbeats 0 in
theorem PySem.Challenge.cw_joinedever_k34_things_of_anything_holds : PySem.Challenge.rw_joinedever_k34_things_of_anything.Holds := by
 w_on;o_law;k_head;(case hw=>w_witness2)
 k_fill
 refine K34.walk (l:=PySem.Challenge.rw_joinedever_k34_things_of_anything) rfl rfl (fun w h Y=>PySem.W.kIn_of Y) ?F
 case F=>
  intro w mg fa h KX G hmg
  refine' K34.all_mk KX G hmg ?a0 ?l0 ?c0 ?k0 ?a1 ?l1 ?c1 ?k1 ?a2 ?l2 ?c2 ?k2 ?a3 ?l3 ?c3 ?k3 ?a4 ?l4 ?c4 ?k4 ?a5 ?l5 ?c5 ?k5 ?a6 ?l6 ?c6 ?k6 ?a7 ?l7 ?c7 ?k7 ?a8 ?l8 ?c8 ?k8 ?a9 ?l9 ?c9 ?k9 ?a10 ?l10 ?c10 ?k10 ?a11 ?l11 ?c11 ?k11 ?a12 ?l12 ?c12 ?k12 ?a13 ?l13 ?c13 ?k13 ?a14 ?l14 ?c14 ?k14 ?a15 ?l15 ?c15 ?k15 ?a16 ?l16 ?c16 ?k16 ?a17 ?l17 ?c17 ?k17 ?a18 ?l18 ?c18 ?k18 ?a19 ?l19 ?c19 ?k19 ?a20 ?l20 ?c20 ?k20 ?a21 ?l21 ?c21 ?k21 ?a22 ?l22 ?c22 ?k22 ?a23 ?l23 ?c23 ?k23 ?a24 ?l24 ?c24 ?k24 ?a25 ?l25 ?c25 ?k25 ?a26 ?l26 ?c26 ?k26 ?a27 ?l27 ?c27 ?k27 ?a28 ?l28 ?c28 ?k28 ?a29 ?l29 ?c29 ?k29 ?a30 ?l30 ?c30 ?k30 ?a31 ?l31 ?c31 ?k31 ?a32 ?l32 ?c32 ?k32 ?a33 ?l33 ?c33 ?k33 ?a34 ?l34 ?c34 ?k34 ?a35 ?l35 ?c35 ?k35 ?a36 ?l36 ?c36 ?k36 ?a37 ?l37 ?c37 ?k37 ?i0 ?i1 ?i2 ?i3 ?z0 ?z1 ?z2 ?z3 ?z4 ?z5 ?z6 ?z7 ?z8 ?z9 ?z10 ?z11 ?z12 ?z13 ?z14 ?z15
  (case a0=>k_is)
  (case l0=>k_is)
  (case c0=>k_is)
  (case k0=>k_is)
  (case a1=>k_is)
  (case l1=>k_is)
  (case c1=>k_is)
  (case k1=>k_is)
  (case a2=>k_is)
  (case l2=>k_is)
  (case c2=>k_is)
  (case k2=>k_is)
  (case a3=>k_is)
  (case l3=>k_is)
  (case c3=>k_is)
  (case k3=>k_is)
  (case a4=>k_is)
  (case l4=>k_is)
  (case c4=>k_is)
  (case k4=>k_is)
  (case a5=>k_is)
  (case l5=>k_is)
  (case c5=>k_is)
  (case k5=>k_is)
  (case a6=>k_is)
  (case l6=>k_is)
  (case c6=>k_is)
  (case k6=>k_is)
  (case a7=>k_is)
  (case l7=>k_is)
  (case c7=>k_is)
  (case k7=>k_is)
  (case a8=>k_is)
  (case l8=>k_is)
  (case c8=>k_is)
  (case k8=>k_is)
  (case a9=>k_is)
  (case l9=>k_is)
  (case c9=>k_is)
  (case k9=>k_is)
  (case a10=>k_is)
  (case l10=>k_is)
  (case c10=>k_is)
  (case k10=>k_is)
  (case a11=>k_is)
  (case l11=>k_is)
  (case c11=>k_is)
  (case k11=>k_is)
  (case a12=>k_is)
  (case l12=>k_is)
  (case c12=>k_is)
  (case k12=>k_is)
  (case a13=>k_is)
  (case l13=>k_is)
  (case c13=>k_is)
  (case k13=>k_is)
  (case a14=>k_is)
  (case l14=>k_is)
  (case c14=>k_is)
  (case k14=>k_is)
  (case a15=>k_is)
  (case l15=>k_is)
  (case c15=>k_is)
  (case k15=>k_is)
  (case a16=>k_is)
  (case l16=>k_is)
  (case c16=>k_is)
  (case k16=>k_is)
  (case a17=>k_is)
  (case l17=>k_is)
  (case c17=>k_is)
  (case k17=>k_is)
  (case a18=>k_is)
  (case l18=>k_is)
  (case c18=>k_is)
  (case k18=>k_is)
  (case a19=>k_is)
  (case l19=>k_is)
  (case c19=>k_is)
  (case k19=>k_is)
  (case a20=>k_is)
  (case l20=>k_is)
  (case c20=>k_is)
  (case k20=>k_is)
  (case a21=>k_is)
  (case l21=>k_is)
  (case c21=>k_is)
  (case k21=>k_is)
  (case a22=>k_is)
  (case l22=>k_is)
  (case c22=>k_is)
  (case k22=>k_is)
  (case a23=>k_is)
  (case l23=>k_is)
  (case c23=>k_is)
  (case k23=>k_is)
  (case a24=>k_is)
  (case l24=>k_is)
  (case c24=>k_is)
  (case k24=>k_is)
  (case a25=>k_is)
  (case l25=>k_is)
  (case c25=>k_is)
  (case k25=>k_is)
  (case a26=>k_is)
  (case l26=>k_is)
  (case c26=>k_is)
  (case k26=>k_is)
  (case a27=>k_is)
  (case l27=>k_is)
  (case c27=>k_is)
  (case k27=>k_is)
  (case a28=>k_is)
  (case l28=>k_is)
  (case c28=>k_is)
  (case k28=>k_is)
  (case a29=>k_is)
  (case l29=>k_is)
  (case c29=>k_is)
  (case k29=>k_is)
  (case a30=>k_is)
  (case l30=>k_is)
  (case c30=>k_is)
  (case k30=>k_is)
  (case a31=>k_is)
  (case l31=>k_is)
  (case c31=>k_is)
  (case k31=>k_is)
  (case a32=>k_is)
  (case l32=>k_is)
  (case c32=>k_is)
  (case k32=>k_is)
  (case a33=>k_is)
  (case l33=>k_is)
  (case c33=>k_is)
  (case k33=>k_is)
  (case a34=>k_is)
  (case l34=>k_is)
  (case c34=>k_is)
  (case k34=>k_is)
  (case a35=>k_is)
  (case l35=>k_is)
  (case c35=>k_is)
  (case k35=>k_is)
  (case a36=>k_is)
  (case l36=>k_is)
  (case c36=>k_is)
  (case k36=>k_is)
  (case a37=>k_is)
  (case l37=>k_is)
  (case c37=>k_is)
  (case k37=>k_is)
  (case i0=>k_is)
  (case i1=>k_is)
  (case i2=>k_is)
  (case i3=>k_is)
  (case z0=>k_is)
  (case z1=>k_is)
  (case z2=>k_is)
  (case z3=>k_is)
  (case z4=>k_is)
  (case z5=>k_is)
  (case z6=>k_is)
  (case z7=>k_is)
  (case z8=>k_is)
  (case z9=>k_is)
  (case z10=>k_is)
  (case z11=>k_is)
  (case z12=>k_is)
  (case z13=>k_is)
  (case z14=>k_is)
  (case z15=>k_is)
