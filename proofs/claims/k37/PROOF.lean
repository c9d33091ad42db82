import PyProof.Rows.All
import Wide.All
import OpenK.AllK
import Wide.FinOn
import Lean
import PyProof.EqAt
import PyProof.EqKinds
import PyProof.TupleCall
import PySem.Challenge.RW_joinedever_k37_ties_not_kept_go
import PyProof.Draws
import PyProof.ZipIter
import PyProof.TupleIter
import PyProof.ListRange
import PyProof.CollectWalk
import KE.KSortTup
import KE.KDictSum
import PyProof.Rows.Range3
import KE.KEqDict
import KE.KRevIter
import PyProof.EnumStmt
import Flt.Len
set_option Elab.async false
set_option linter.all false
set_option maxRecDepth 100000
set_option maxHeartbeats 4000000
namespace L2
open PySem PySem.Spec PyProof.Rows
abbrev Key:=Sum Int Str
def keyIs:Key→Value→Bool
 | .inl k,v=>Value.isInt k v
 | .inr x,v=>Value.isStrOf x v
def keyH (w:World):Key→Int
 | .inl k=>hashInt k
 | .inr x=>hashStr w x
theorem A5:∀{k:Key} {v:Value},keyIs k v=true→(∃i t,k=Sum.inl i∧v=Value.int i t)∨(∃x t,k=Sum.inr x∧v=Value.str x t)
 | .inl i,v,h=>by
  obtain ⟨t,e⟩:=Value.isInt_shape (k:=i) (v:=v) h
  exact .inl ⟨i,t,rfl,e⟩
 | .inr x,v,h=>by
  obtain ⟨t,e⟩:=Value.isStrOf_shape (x:=x) (v:=v) h
  exact .inr ⟨x,t,rfl,e⟩
theorem keyIs_int (i:Int) (t:Tok):keyIs (.inl i) (.int i t)=true:=by simp [keyIs,Value.isInt]
theorem keyIs_str (x:Str) (t:Tok):keyIs (.inr x) (.str x t)=true:=by simp [keyIs,Value.isStrOf]
theorem key_ll (a b:Int):decide ((Sum.inl a:Key)=Sum.inl b)=(a==b):=by
 by_cases e:a=b
 ·subst e;simp
 ·have h:¬(Sum.inl a:Key)=Sum.inl b:=fun q=>e (Sum.inl.inj q)
  rw [decide_eq_false h]
  exact (beq_eq_false_iff_ne.mpr e).symm
theorem key_rr (a b:Str):decide ((Sum.inr a:Key)=Sum.inr b)=decide (a=b):=by
 by_cases e:a=b
 ·subst e;simp
 ·have h:¬(Sum.inr a:Key)=Sum.inr b:=fun q=>e (Sum.inr.inj q)
  rw [decide_eq_false h,decide_eq_false e]
theorem key_lr (a:Int) (b:Str):decide ((Sum.inl a:Key)=Sum.inr b)=false:=decide_eq_false (fun q=>nomatch q)
theorem key_rl (a:Str) (b:Int):decide ((Sum.inr a:Key)=Sum.inl b)=false:=decide_eq_false (fun q=>nomatch q)
def Bd (prog:Program) (w:World):PySem.KeyKind prog w Key where
 is:=keyIs
 hash:=keyH w
 inj:=fun v a b ha hb=>by
  rcases A5 ha with ⟨i,t,rfl,rfl⟩|⟨x,t,rfl,rfl⟩
  ·rcases A5 hb with ⟨j,u,rfl,e⟩|⟨y,u,rfl,e⟩
   ·injection e with e1 _;rw [e1]
   ·exact nomatch e
  ·rcases A5 hb with ⟨j,u,rfl,e⟩|⟨y,u,rfl,e⟩
   ·exact nomatch e
   ·injection e with e1 _;rw [e1]
 byValue:=fun k v h=>by
  rcases A5 h with ⟨i,t,rfl,rfl⟩|⟨x,t,rfl,rfl⟩<;> rfl
 pyHash:=fun hv h=>by
  rcases A5 hv with ⟨i,t,rfl,rfl⟩|⟨x,t,rfl,rfl⟩
  ·exact wpAny_pyHash_int h
  ·exact wpAny_pyHash_str h
 eqBool:=fun hu hv h=>by
  rcases A5 hu with ⟨i,t,rfl,rfl⟩|⟨x,t,rfl,rfl⟩
  ·rcases A5 hv with ⟨j,u,rfl,rfl⟩|⟨y,u,rfl,rfl⟩
   ·rw [key_ll] at h;exact wpAny_eqBool_int h
   ·rw [key_lr] at h;exact SeqAt.EqAt.int_str i t y u _ _ _ _ h
  ·rcases A5 hv with ⟨j,u,rfl,rfl⟩|⟨y,u,rfl,rfl⟩
   ·rw [key_rl] at h;exact SeqAt.EqAt.str_int x t j u _ _ _ _ h
   ·rw [key_rr] at h;exact wpAny_eqBool_str h
 «strs» :=fun k x t v h=>by
  rcases A5 h with ⟨i,u,rfl,e⟩|⟨y,u,rfl,e⟩
  ·exact nomatch e
  ·injection e with e1 _
   subst e1
   cases v<;> rfl
theorem mixKind_int (prog:Program) (w:World) (i:Int) (t:Tok):(Bd prog w).is (.inl i) (.int i t)=true:=keyIs_int i t
theorem mixKind_str (prog:Program) (w:World) (x:Str) (t:Tok):(Bd prog w).is (.inr x) (.str x t)=true:=keyIs_str x t
end L2
namespace L2
open PySem PySem.Spec PyProof.Rows
inductive V where
 |non|bl (b:Bool)|int (i:Int)|str (x:Str)|byt (b:Array UInt8)|flt (b:UInt64)|ref (a:Addr)|ty (n:String)
 deriving DecidableEq
def RelV:V→Value→Prop
 | .non,u=>u=Value.none
 | .bl b,u=>u=Value.bool b
 | .int i,u=>∃t,u=Value.int i t
 | .str x,u=>∃t,u=Value.str x t
 | .byt b,u=>∃t,u=Value.bytes b t
 | .flt b,u=>∃t,u=Value.float b t
 | .ref a,u=>u=Value.ref a
 | .ty n,u=>u=Value.type n
abbrev Vals:List V→List Value→Prop:=Paired RelV
theorem Vals.length {xs:List V} {us:List Value} (r:Vals xs us):xs.length=us.length:=Paired.length r
theorem Vals.get:∀{xs:List V} {us:List Value} {i:Nat} {x:V},Vals xs us→xs[i]? =some x→∃u,us[i]? =some u∧RelV x u
 |_,_,_,_,.nil,e=>by simp at e
 |_,_,0,_,.cons r _,e=>by simp at e;subst e;exact ⟨_,rfl,r⟩
 |_,_,i+1,x,.cons _ t,e=>by
  obtain ⟨u,h1,h2⟩:=Vals.get (i:=i) (x:=x) t (by simpa using e)
  exact ⟨u,by simpa using h1,h2⟩
theorem Vals.append:∀{xs ys:List V} {us ws:List Value},Vals xs us→Vals ys ws→Vals (xs++ys) (us++ws)
 |_,_,_,_,.nil,s=>s
 |_,_,_,_,.cons r t,s=> .cons r (Vals.append t s)
theorem Vals.take:∀{xs:List V} {us:List Value} (n:Nat),Vals xs us→Vals (xs.take n) (us.take n)
 |_,_,0,_=> .nil
 |_,_,_+1,.nil=> .nil
 |_,_,n+1,.cons r t=> .cons r (Vals.take n t)
theorem Vals.drop:∀{xs:List V} {us:List Value} (n:Nat),Vals xs us→Vals (xs.drop n) (us.drop n)
 |_,_,0,r=>r
 |_,_,_+1,.nil=> .nil
 |_,_,n+1,.cons _ t=>Vals.drop n t
def RelO:Option V→Option Value→Prop
 |some v,some u=>RelV v u
 |none,none=>True
 |_,_=>False
def KV {κ:Type}:List (κ×V)→List (κ×Value)→Prop:=Paired fun (p:κ×V) (q:κ×Value)=>p.1=q.1∧RelV p.2 q.2
def kV:Key→V
 | .inl i=> .int i
 | .inr x=> .str x
inductive HO where
 |lst (xs:List V)
 |tup (xs:List V)
 |dK (kvs:List (Key×V))|dT (kvs:List (List Key×V))
 |set (S:Int→Bool) (n:Nat)
 |ins (C dx:Addr) (fs:List (Str×V))
 |own (x:Addr)
 |xd (fs:List (Str×V))
 |met (f x:Addr)
 |rng (lo hi:Int)
 |frz (o:Obj) (u:HO)
 |tbl (ps:Array Value)
 |ext (φ:Heap→Prop)
abbrev Hp:=Addr→Option HO
def upd (H:Hp) (a:Addr) (o:HO):Hp:=fun b=>if b=a then some o else H b
theorem Ab {H:Hp} {a:Addr} {o:HO}:upd H a o a=some o:=by unfold upd;rw [if_pos rfl]
theorem Ah {H:Hp} {a b:Addr} {o:HO} (h:b≠a):upd H a o b=H b:=by unfold upd;rw [if_neg h]
theorem ne_of {H:Hp} {a b:Addr} {o u:HO} (h:H a=some o) (h':H b=some u) (d:o≠u):a≠b:=by
 intro e;subst e;rw [h] at h';exact d (Option.some.inj h')
theorem Ai {H:Hp} {a b:Addr} {o:HO} (h:H a=some o) (h':H b=none):a≠b:=by
 intro e;subst e;rw [h] at h';cases h'
def IsTupN (h:Heap) (a:Addr) (items:Array Value):Prop:=∃o,h.get? a=some o∧o.cls= .type "tuple"∧o.dict=none∧∃n,o.data= .seq items n
theorem IsTupN.new (h:Heap) (items:Array Value):IsTupN (h.push {cls:= .type "tuple",data:= .seq items}) h.objs.size items:=⟨_,Heap.get?_push_size _ rfl,rfl,rfl,_,rfl⟩
theorem IsTupN.tup {h:Heap} {a:Addr} {items:Array Value} (x:IsTupN h a items):IsTup h a items:=let ⟨o,e,c,_,n,d⟩:=x;⟨o,e,c,n,d⟩
section
variable (P:Program) (w:World)
def ObjOk (H:Hp) (h:Heap) (a:Addr):HO→Prop
 | .lst xs=>xs.length≤sizeLine∧∃(its:List Value) (n:Nat),Vals xs its∧h.get? a=some {cls:= .type "list",data:= .seq its.toArray n}
 | .tup xs=>xs.length≤sizeLine∧∃its:List Value,Vals xs its∧IsTupN h a its.toArray
 | .dK kvs=>kvs.length≤sizeLine∧(a==sysModules)=false∧∃vs,KV kvs vs∧h.DictOf (Bd P w) a vs
 | .dT kvs=>kvs.length≤sizeLine∧(a==sysModules)=false∧∃xs:List (List Key×Addr×Value),
   Paired (fun (p:List Key×V) (q:List Key×Addr×Value)=>p.1=q.1∧H q.2.1=some (.tup (p.1.map kV))∧RelV p.2 q.2.2) kvs xs∧
   ∃o es ep,h.get? a=some o∧o.ExactDict∧o.data= .dict es ep∧es.toList=xs.map (entryOfKey (tupleKind (Bd P w)))∧(xs.map (·.1)).Nodup
 | .set S n=>h.SetOf (intKind P w) a S n
 | .ins C dx fs=>H dx=some (.own a)∧fs.length≤1000∧dx≠a∧h.get? a=some (PySem.W.instObj C dx)∧
   ∃mA,h.Ns1 dx mA∧(∀f,RelO (fs.lookup f) (mA f))∧PySem.Within mA (fs.map (·.1))
 | .own _=>∃o,h.get? a=some o
 | .xd fs=>∃mA,h.Ns1 a mA∧∀f,RelO (fs.lookup f) (mA f)
 | .rng lo hi=>∃t u v,h.get? a=some {cls:= .type "range",data:= .fields #[.int lo t,.int hi u,.int 1 v]}
 | .frz o u=>h.get? a=some o∧ObjOk H h a u
 | .tbl ps=>h.get? a=some {cls:= .none,data:= .fields ps}
 | .met f x=>h.get? a=some (PySem.W.methodObj (.ref f) (.ref x))
 | .ext φ=>φ h∧(∃o,h.get? a=some o)∧∀h1 h2:Heap,φ h1→(∀o,h1.get? a=some o→h2.get? a=some o)→φ h2
def HOk (H:Hp) (h:Heap):Prop:=∀a o,H a=some o→ObjOk P w H h a o
end
section
variable {P:Program} {w:World} {H H':Hp} {h h':Heap} {a:Addr} {o:HO}
theorem ObjOk.lt (x:ObjOk P w H h a o):a<h.objs.size:=by
 cases o with
 |lst xs=>obtain ⟨_,_,_,_,e⟩:=x;exact Heap.lt_size e
 |tup xs=>obtain ⟨_,_,_,p⟩:=x;exact p.tup.lt
 |dK kvs=>obtain ⟨_,_,_,_,o,_,_,e,_⟩:=x;exact Heap.lt_size e
 |dT kvs=>obtain ⟨_,_,_,_,o,_,_,e,_⟩:=x;exact Heap.lt_size e
 |set S n=>obtain ⟨o,_,_,_,e,_⟩:=x;exact Heap.lt_size e
 |ins C dx fs=>obtain ⟨_,_,_,e,_⟩:=x;exact Heap.lt_size e
 |own y=>obtain ⟨_,e⟩:=x;exact Heap.lt_size e
 |xd fs=>obtain ⟨_,⟨_,_,_,e,_⟩,_⟩:=x;exact Heap.lt_size e
 |rng lo hi=>obtain ⟨_,_,_,e⟩:=x;exact Heap.lt_size e
 |frz ob u=>obtain ⟨e,_⟩:=x;exact Heap.lt_size e
 |tbl ps=>exact Heap.lt_size (show h.get? a=some _ from x)
 |met f y=>exact Heap.lt_size (show h.get? a=some _ from x)
 |ext φ=>obtain ⟨_,⟨_,e⟩,_⟩:=x;exact Heap.lt_size e
theorem Paired.mapP {α β:Type} {F G:α→β→Prop}:∀{l₁:List α} {l₂:List β},Paired F l₁ l₂→(∀a b,F a b→G a b)→Paired G l₁ l₂
 |_,_,.nil,_=> .nil
 |_,_,.cons r t,f=> .cons (f _ _ r) (Paired.mapP t f)
theorem ObjOk.stay (x:ObjOk P w H h a o) (k:∀b u,(b=a∨H b=some (.own a))→h.get? b=some u→h'.get? b=some u)
  (ho:∀b,H b=some (.own a)→H' b=some (.own a)) (ht:∀b xs,H b=some (.tup xs)→H' b=some (.tup xs)):ObjOk P w H' h' a o:=by
 induction o with
 |lst xs=>obtain ⟨z,its,n,r,e⟩:=x;exact ⟨z,its,n,r,k _ _ (.inl rfl) e⟩
 |tup xs=>obtain ⟨z,its,r,ob,e,c⟩:=x;exact ⟨z,its,r,ob,k _ _ (.inl rfl) e,c⟩
 |dK kvs=>obtain ⟨z,y,vs,r,ob,es,ep,e,c⟩:=x;exact ⟨z,y,vs,r,ob,es,ep,k _ _ (.inl rfl) e,c⟩
 |dT kvs=>
  obtain ⟨z,y,xs,r,ob,es,ep,e,c⟩:=x
  exact ⟨z,y,xs,Paired.mapP r fun p q z=>⟨z.1,ht _ _ z.2.1,z.2.2⟩,ob,es,ep,k _ _ (.inl rfl) e,c⟩
 |set S n=>obtain ⟨ob,es,ep,t,e,c⟩:=x;exact ⟨ob,es,ep,t,k _ _ (.inl rfl) e,c⟩
 |ins C dx fs=>
  obtain ⟨d,z,ne,e,mA,⟨od,es,ep,e2,c⟩,r⟩:=x
  exact ⟨ho _ d,z,ne,k _ _ (.inl rfl) e,mA,⟨od,es,ep,k _ _ (.inr d) e2,c⟩,r⟩
 |own y=>obtain ⟨ob,e⟩:=x;exact ⟨ob,k _ _ (.inl rfl) e⟩
 |xd fs=>obtain ⟨mA,⟨od,es,ep,e,c⟩,r⟩:=x;exact ⟨mA,⟨od,es,ep,k _ _ (.inl rfl) e,c⟩,r⟩
 |rng lo hi=>obtain ⟨t,u,v,e⟩:=x;exact ⟨t,u,v,k _ _ (.inl rfl) e⟩
 |frz ob u ih=>obtain ⟨e,q⟩:=x;exact ⟨k _ _ (.inl rfl) e,ih q⟩
 |tbl ps=>
  have e:h.get? a=some {cls:= .none,data:= .fields ps}:=x
  show h'.get? a=some {cls:= .none,data:= .fields ps}
  exact k a _ (.inl rfl) e
 |met f y=>
  have e:h.get? a=some (PySem.W.methodObj (.ref f) (.ref y)):=x
  show h'.get? a=some (PySem.W.methodObj (.ref f) (.ref y))
  exact k a _ (.inl rfl) e
 |ext φ=>obtain ⟨p,⟨o,e⟩,st⟩:=x;exact ⟨st _ _ p fun o q=>k _ _ (.inl rfl) q,⟨o,k _ _ (.inl rfl) e⟩,st⟩
theorem HOk.lt (x:HOk P w H h) (e:H a=some o):a<h.objs.size:=(x a o e).lt
theorem HOk.fresh (x:HOk P w H h) (e:h.objs.size≤a):H a=none:=by
 cases q:H a with
 |none=>rfl
 |some u=>exact absurd (Nat.lt_of_lt_of_le (x.lt q) e) (Nat.lt_irrefl _)
theorem HOk.kept (x:HOk P w H h) (k:∀b u,h.get? b=some u→h'.get? b=some u):HOk P w H h':=fun a o e=>
 (x a o e).stay (fun b u _ q=>k b u q) (fun _ q=>q) fun _ _ q=>q
theorem HOk.laid (x:HOk P w H h) (k:∀b u,h.get? b=some u→h'.get? b=some u) (hp:h.objs.size≤a) (new:ObjOk P w (upd H a o) h' a o):HOk P w (upd H a o) h':=fun b u e=>by
 have hn:=x.fresh hp
 by_cases hb:b=a
 ·subst hb;rw [Ab] at e;cases e;exact new
 ·rw [Ah hb] at e
  exact (x b u e).stay (fun c v _ q=>k c v q) (fun c q=>by rw [Ah (Ai q hn)];exact q) fun c xs q=>by rw [Ah (Ai q hn)];exact q
end
def Rd (H:Hp) (a:Addr) (u:HO):Prop:=H a=some u∨∃o,H a=some (.frz o u)
theorem Rd.ok {P:Program} {w:World} {H:Hp} {h:Heap} {a:Addr} {u:HO} (r:Rd H a u) (x:HOk P w H h):ObjOk P w H h a u:=by
 rcases r with r|⟨o,r⟩
 ·exact x a u r
 ·obtain ⟨_,q⟩:=x a _ r
  exact q
def Mut:Option HO→Prop
 |some (.lst _)=>True
 |some (.dK _)=>True
 |some (.dT _)=>True
 |some (.set _ _)=>True
 |some (.ins _ _ _)=>True
 |some (.ext _)=>True
 |_=>False
section
variable {P:Program} {w:World} {H:Hp} {h h':Heap} {x e:Addr} {o':HO}
theorem HOk.write (ok:HOk P w H h) (mu:Mut (H x)) (he:e=x∨H e=some (.own x)) (k:∀b u,b≠e→h.get? b=some u→h'.get? b=some u) (heo:∃u,h'.get? e=some u)
  (new:ObjOk P w (upd H x o') h' x o'):HOk P w (upd H x o') h':=fun b u q=>by
 have nown:∀c y,H c=some (.own y)→c≠x:=fun c y r z=>by subst z;rw [r] at mu;exact mu
 have ntup:∀c xs,H c=some (.tup xs)→c≠x:=fun c xs r z=>by subst z;rw [r] at mu;exact mu
 by_cases hb:b=x
 ·subst hb;rw [Ab] at q;cases q;exact new
 ·rw [Ah hb] at q
  by_cases hbe:b=e
  ·have q':H b=some (.own x):=by
    rcases he with z|z
    ·exact absurd (hbe.trans z) hb
    ·rw [hbe];exact z
   rw [q] at q';cases q'
   obtain ⟨v,hv⟩:=heo
   exact ⟨v,by rw [hbe];exact hv⟩
  ·refine (ok b u q).stay (fun c v hc r=>k c v ?_ r) (fun c r=>by rw [Ah (nown c b r)];exact r) fun c xs r=>by rw [Ah (ntup c xs r)];exact r
   rcases hc with rfl|hc
   ·exact hbe
   ·rintro rfl
    rcases he with z|z
    ·exact nown c b hc z
    ·rw [hc] at z;cases z;exact hb rfl
end
structure Un (fs ex:List Addr) (H H':Hp) (h h':Heap):Prop where
 keep:∀b o,h.get? b=some o→H b=none→b ∉ fs→b ∉ ex→h'.get? b=some o
 slot:∀b o,h.get? b=some o→H b=none→b∈fs→b ∉ ex→∃sl,h'.get? b=some {o with slots:=sl}
 free:∀b o,h.get? b=some o→H b=none→b ∉ ex→H' b=none
 there:∀b o,h.get? b=some o→b ∉ ex→∃o',h'.get? b=some o'
 tups:∀b xs,H b=some (.tup xs)→H' b=some (.tup xs)
 frzs:∀b o u,H b=some (.frz o u)→H' b=some (.frz o u)
 tbls:∀b ps,H b=some (.tbl ps)→∃more,H' b=some (.tbl (ps++more))
section
variable {fs fs' ex ex':List Addr} {H H1 H2:Hp} {h h1 h2 h':Heap} {a x e:Addr} {o:HO}
theorem Un.any (u:Un fs ex H H1 h h1) {b:Addr} {ob:Obj} (q:h.get? b=some ob) (n:H b=none) (hx:b ∉ ex):∃sl,h1.get? b=some {ob with slots:=sl}:=by
 by_cases hb:b∈fs
 ·exact u.slot b ob q n hb hx
 ·exact ⟨ob.slots,u.keep b ob q n hb hx⟩
theorem Un.trans (a:Un fs ex H H1 h h1) (b:Un fs ex H1 H2 h1 h2):Un fs ex H H2 h h2 where
 keep:=fun c ob q n hc hx=>b.keep c ob (a.keep c ob q n hc hx) (a.free c ob q n hx) hc hx
 slot:=fun c ob q n hc hx=>by
  obtain ⟨sl,e1⟩:=a.slot c ob q n hc hx
  obtain ⟨sl',e2⟩:=b.slot c _ e1 (a.free c ob q n hx) hc hx
  exact ⟨sl',e2⟩
 free:=fun c ob q n hx=>by
  obtain ⟨o',e1⟩:=a.there c ob q hx
  exact b.free c o' e1 (a.free c ob q n hx) hx
 there:=fun c ob q hx=>by
  obtain ⟨o',e1⟩:=a.there c ob q hx
  exact b.there c o' e1 hx
 tups:=fun c xs q=>b.tups c xs (a.tups c xs q)
 frzs:=fun c ob xs q=>b.frzs c ob xs (a.frzs c ob xs q)
 tbls:=fun c ps q=>by
  obtain ⟨m1,e1⟩:=a.tbls c ps q
  obtain ⟨m2,e2⟩:=b.tbls c _ e1
  exact ⟨m1++m2,by rw [e2,Array.append_assoc]⟩
theorem Un.kept (k:∀b u,h.get? b=some u→h'.get? b=some u):Un fs ex H H h h':=
 ⟨fun b ob q _ _ _=>k b ob q,fun b ob q _ _ _=>⟨ob.slots,k b ob q⟩,fun _ _ _ n _=>n,fun b ob q _=>⟨ob,k b ob q⟩,fun _ _ q=>q,fun _ _ _ q=>q,fun _ ps q=>⟨#[],by rw [q];simp⟩⟩
theorem Un.refl:Un fs ex H H h h:=Un.kept fun _ _ q=>q
theorem Un.laid (k:∀b u,h.get? b=some u→h'.get? b=some u) (hp:h.objs.size≤a) (hn:H a=none):Un fs ex H (upd H a o) h h' where
 keep:=fun b u q _ _ _=>k b u q
 slot:=fun b u q _ _ _=>⟨u.slots,k b u q⟩
 free:=fun b u q n _=>by rw [Ah (Nat.ne_of_lt (Nat.lt_of_lt_of_le (Heap.lt_size q) hp))];exact n
 there:=fun b u q _=>⟨u,k b u q⟩
 tups:=fun b xs q=>by rw [Ah (Ai q hn)];exact q
 frzs:=fun b u xs q=>by rw [Ah (Ai q hn)];exact q
 tbls:=fun b ps q=>⟨#[],by rw [Ah (Ai q hn),q];simp⟩
theorem Un.write (mu:Mut (H x)) (he:e=x∨H e=some (.own x)) (k:∀b u,b≠e→h.get? b=some u→h'.get? b=some u) (heo:∃u,h'.get? e=some u):Un fs ex H (upd H x o) h h':=by
 have hx:∀b,H b=none→b≠x:=fun b n z=>by subst z;rw [n] at mu;exact mu
 have hb:∀b,H b=none→b≠e:=fun b n z=>by
  subst z
  rcases he with r|r
  ·exact hx b n r
  ·rw [n] at r;cases r
 have hm:∀b u,H b=some u→¬Mut (some u)→b≠x:=fun b u q nm z=>by subst z;rw [q] at mu;exact nm mu
 refine ⟨fun b u q n _ _=>k b u (hb b n) q,fun b u q n _ _=>⟨u.slots,k b u (hb b n) q⟩,fun b u q n _=>by rw [Ah (hx b n)];exact n,fun b u q _=> ?_,
  fun b xs q=>by rw [Ah (hm b _ q fun z=>z)];exact q,fun b u xs q=>by rw [Ah (hm b _ q fun z=>z)];exact q,fun b ps q=>⟨#[],by rw [Ah (hm b _ q fun z=>z),q];simp⟩⟩
 by_cases hbe:b=e
 ·subst hbe;exact heo
 ·exact ⟨u,k b u hbe q⟩
end
def trk (h:Heap) (H:Hp):List Addr:=(List.range h.objs.size).filter fun a=>(H a).isSome
def hidT (h:Heap) (H:Hp):Heap:=PySem.W.hideAll h (trk h H)
theorem hidT_size (h:Heap) (H:Hp):(hidT h H).objs.size=h.objs.size:=PySem.W.hideAll_size _ _
theorem hidT_get {h:Heap} {H:Hp} {b:Addr} {o:Obj} (e:h.get? b=some o) (n:H b=none):(hidT h H).get? b=some o:=
 PySem.W.hideAll_get _ e fun hm=>by
  have q:(H b).isSome=true:=(List.mem_filter.mp hm).2
  rw [n] at q;simp at q
theorem of_hidT {h:Heap} {H:Hp} {b:Addr} {o:Obj} (e:(hidT h H).get? b=some o):h.get? b=some o∧H b=none:=by
 have e':h.get? b=some o:=PySem.W.of_hideAll (trk h H) e
 refine ⟨e',?_⟩
 cases q:H b with
 |none=>rfl
 |some x=>
  have hm:b∈trk h H:=List.mem_filter.mpr ⟨List.mem_range.mpr (Heap.lt_size e'),by simp [q]⟩
  have z:(hidT h H).get? b=none:=PySem.W.hideAll_none (trk h H) hm
  rw [z] at e;cases e
end L2
namespace L2
open PySem PySem.Spec PyProof.Rows
structure Mod (K:PySem.W.Frag) (mg:Str→Option Value) (base:Heap):Prop where
 kin:K.In base
 glob:base.Ns mainGlobals mg
 blt:∃mb,base.Ns builtinsNs mb∧∀x:Str,x≠"__name__"→mb x=bootBuiltins x
 nolimit:base.NoLimit
structure Cx where
 prog:Program
 w:World
 K:PySem.W.Frag
 mg:Str→Option Value
 base:Heap
 A:Around
 N:List Str
 s₀:Shared
 H₀:Hp
 env:Env
 outer:List Env
 stack:List Env
 ex:List Addr
 fn:Str→Bool
 calm:Bool
 pn:List (Addr×Obj)
 xe:Value→Shared→Prop
def frs (l:List Env):List Addr:=l.filterMap (·.frame)
abbrev Cx.fs (X:Cx):List Addr:=frs X.outer
def Vis (sc:Scope) (x:Str):Prop:=sc.names.lookup x=some .local∨sc.names.lookup x=some .cell∨sc.names.lookup x=some .free
def Loc (sc:Scope) (x:Str):Prop:=sc.names.lookup x=some .local∨sc.names.lookup x=some .cell
def Look (env:Env) (h:Heap) (m:Str→Option Value) (x:Str) (u:Value):Prop:=
 (env.kindOf x=some .local∧m x=some u)∨((env.kindOf x=some .cell∨env.kindOf x=some .free)∧∃c,env.cells.lookup x=some c∧h.IsCell c (some u))
structure Cx.Ok (X:Cx):Prop where
 mod:Mod X.K X.mg X.base
 kind:X.env.scope.kind= .function
 glob:X.env.globals=mainGlobals
 blt:X.env.builtins=builtinsNs
 above:X.s₀.heap.objs.size≤X.env.locals
 inj:∀x y c,X.env.cells.lookup x=some c→X.env.cells.lookup y=some c→x=y
 has:∀x,(X.env.kindOf x=some .cell∨X.env.kindOf x=some .free)→∃c,X.env.cells.lookup x=some c
 cab:∀x c,X.fn x=true→X.env.cells.lookup x=some c→X.s₀.heap.objs.size≤c
 hd:X.calm=true→X.A.handled=none
 frames:X.A.frames=some X.stack
 stk:X.stack=X.outer∨(X.stack=X.env::X.outer∧X.env.frame=some X.env.locals)
 exf:∀b∈X.ex,b≠X.env.locals∧∀x c,X.env.cells.lookup x=some c→c≠b
 bs:∀b o,X.base.get? b=some o→X.s₀.heap.get? b=some o∧X.H₀ b=none
 bsz:X.base.objs.size≤X.s₀.heap.objs.size
 noex:∀b o,X.base.get? b=some o→b ∉ X.ex
 exfs:∀b∈X.ex,b ∉ X.fs
 funs:X.s₀.heap.FunFrames X.base X.outer
 frf:∀b∈X.fs,X.H₀ b=none
structure Inv (X:Cx) (pins:List (Addr×Obj)) (σ:List (Option V)) (H:Hp) (s:Shared):Prop where
 ok:X.Ok
 os:s.os=X.s₀.os
 bare:AllBare s.gens
 base:Un X.fs X.ex X.H₀ H X.s₀.heap s.heap
 loc:∃m,s.heap.Ns X.env.locals m∧∀(i:Nat) (x:Str) (v:V),X.N[i]? =some x→σ[i]? =some (some v)→Vis X.env.scope x→∃u,RelV v u∧Look X.env s.heap m x u
 cell:∀x c,X.env.cells.lookup x=some c→∃v,s.heap.IsCell c v
 free:H X.env.locals=none
 freeC:∀x c,X.env.cells.lookup x=some c→H c=none
 pin:∀p∈X.pn++pins,s.heap.get? p.1=some p.2∧H p.1=none∧p.1≠X.env.locals∧p.1 ∉ X.fs∧∀v,p.2.data≠ .cell v
 hok:HOk X.prog X.w H s.heap
 len:σ.length=X.N.length
section
variable {X:Cx} {pins:List (Addr×Obj)} {σ:List (Option V)} {H H':Hp} {s:Shared} {h':Heap}
theorem Cx.Ok.nofr (ok:X.Ok) {b:Addr} {o:Obj} (e:X.base.get? b=some o):b ∉ X.fs:=fun hb=>by
 have:=(ok.funs.mem hb).1
 rw [e] at this;cases this
theorem Inv.bs (I:Inv X pins σ H s):∀b o,X.base.get? b=some o→s.heap.get? b=some o∧H b=none:=fun b o e=>
 ⟨I.base.keep b o (I.ok.bs b o e).1 (I.ok.bs b o e).2 (I.ok.nofr e) (I.ok.noex b o e),I.base.free b o (I.ok.bs b o e).1 (I.ok.bs b o e).2 (I.ok.noex b o e)⟩
theorem Inv.bk (I:Inv X pins σ H s):∀b o,X.base.get? b=some o→s.heap.get? b=some o:=fun b o e=>(I.bs b o e).1
theorem Inv.mod (I:Inv X pins σ H s):Mod X.K X.mg X.base:=I.ok.mod
theorem Inv.kIn (I:Inv X pins σ H s):X.K.In s.heap:=I.ok.mod.kin.keeps I.bk
theorem Inv.lt (I:Inv X pins σ H s):X.env.locals<s.heap.objs.size:=let ⟨_,hn,_⟩:=I.loc;hn.lt
theorem Inv.sz (I:Inv X pins σ H s):X.s₀.heap.objs.size≤s.heap.objs.size:=Nat.le_trans I.ok.above (Nat.le_of_lt I.lt)
theorem Inv.nofs (I:Inv X pins σ H s) {a:Addr} (h:s.heap.objs.size≤a):a ∉ X.fs:=fun hb=>by
 obtain ⟨_,o,ho,_⟩:=I.ok.funs.mem hb
 exact absurd (Nat.lt_of_lt_of_le (Heap.lt_size ho) (Nat.le_trans I.sz h)) (Nat.lt_irrefl _)
theorem Inv.cne (I:Inv X pins σ H s):∀x c,X.env.cells.lookup x=some c→c≠X.env.locals:=fun x c e z=>by
 obtain ⟨v,o,ho,hd⟩:=I.cell x c e
 obtain ⟨m,⟨o',es,ep,ho',hd',_⟩,_⟩:=I.loc
 rw [z,ho'] at ho;cases ho;rw [hd'] at hd;cases hd
theorem Inv.funs (I:Inv X pins σ H s):s.heap.FunFrames X.base X.outer:=by
 have all:∀(l:List Env),(∀b∈frs l,b∈X.fs)→X.s₀.heap.FunFrames X.base l→s.heap.FunFrames X.base l:=by
  intro l
  induction l with
  |nil=>intro _ _;trivial
  |cons env r ih=>
   intro hs hl
   obtain ⟨hk,⟨L,o,hf,hn,ho,hd⟩,hr⟩:=hl
   have hL:L∈X.fs:=hs L (by unfold frs;rw [List.filterMap_cons,hf];exact List.mem_cons_self)
   obtain ⟨sl,e⟩:=I.base.slot L o ho (I.ok.frf L hL) hL fun z=>I.ok.exfs L z hL
   exact ⟨hk,⟨L,_,hf,hn,e,hd⟩,ih (fun b hb=>hs b (by unfold frs;rw [List.filterMap_cons,hf];exact List.mem_cons_of_mem _ hb)) hr⟩
 exact all X.outer (fun _ hb=>hb) I.ok.funs
theorem Inv.stack (I:Inv X pins σ H s):s.heap.FunFrames X.base X.stack:=by
 rcases I.ok.stk with e|⟨e,hf⟩
 ·rw [e];exact I.funs
 ·rw [e]
  obtain ⟨m,hn,_⟩:=I.loc
  refine .cons (by rw [I.ok.kind];decide) hf hn ?_ I.funs
  exact Heap.get?_none_of_le (Nat.le_trans I.ok.bsz I.ok.above)
theorem Inv.stkSub (I:Inv X pins σ H s):∀b∈frs X.stack,b∈X.env.locals::X.fs:=fun b hb=>by
 rcases I.ok.stk with e|⟨e,hf⟩
 ·rw [e] at hb;exact List.mem_cons_of_mem _ hb
 ·rw [e] at hb
  unfold frs at hb
  rw [List.filterMap_cons,hf] at hb
  exact hb
theorem Inv.stkFree (I:Inv X pins σ H s):∀b∈frs X.stack,H b=none:=fun b hb=>by
 rcases List.mem_cons.mp (I.stkSub b hb) with e|hb
 ·rw [e];exact I.free
 ·obtain ⟨_,o,ho,_⟩:=I.ok.funs.mem hb
  exact I.base.free b o ho (I.ok.frf b hb) fun z=>I.ok.exfs b z hb
theorem Inv.step {g':Array GenState} {t':Nat} {d':Drawn} {ch:List Addr} (I:Inv X pins σ H s)
  (hch:∀b∈ch,(b∈X.ex∨X.s₀.heap.objs.size≤b)∧b≠X.env.locals∧(∀x c,X.env.cells.lookup x=some c→c≠b)∧∀p∈X.pn++pins,p.1≠b)
  (keep:∀b o,b≠X.env.locals→b ∉ X.fs→b ∉ ch→s.heap.get? b=some o→H b=none→h'.get? b=some o)
  (slot:∀b o,b≠X.env.locals→b∈X.fs→b ∉ ch→s.heap.get? b=some o→H b=none→∃sl,h'.get? b=some {o with slots:=sl}) (free:∀b o,b ∉ ch→s.heap.get? b=some o→H b=none→H' b=none)
  (there:∀b o,b ∉ ch→s.heap.get? b=some o→∃o',h'.get? b=some o')
  (tups:∀b xs,H b=some (.tup xs)→H' b=some (.tup xs)) (frzs:∀b o u,H b=some (.frz o u)→H' b=some (.frz o u)) (tbls:∀b ps,H b=some (.tbl ps)→∃more,H' b=some (.tbl (ps++more)))
  (ns:∀m,s.heap.Ns X.env.locals m→h'.Ns X.env.locals m) (hok:HOk X.prog X.w H' h') (hg:AllBare g'):
  Inv X pins σ H' {s with heap:=h',gens:=g',drawn:=d',toks:=t'}:=by
 have neL:∀b o,X.s₀.heap.get? b=some o→b≠X.env.locals:=fun b o e=>Nat.ne_of_lt (Nat.lt_of_lt_of_le (Heap.lt_size e) I.ok.above)
 have neC:∀b o,X.s₀.heap.get? b=some o→b ∉ X.ex→b ∉ ch:=fun b o e hx hb=>by
  rcases (hch b hb).1 with z|z
  ·exact hx z
  ·exact absurd (Nat.lt_of_lt_of_le (Heap.lt_size e) z) (Nat.lt_irrefl _)
 have cellK:∀x c,X.env.cells.lookup x=some c→∀v,s.heap.IsCell c v→h'.IsCell c v:=fun x c e v ⟨o,ho,hd⟩=>by
  have nch:c ∉ ch:=fun z=>(hch c z).2.2.1 x c e rfl
  by_cases hc:c∈X.fs
  ·obtain ⟨sl,q⟩:=slot c o (I.cne x c e) hc nch ho (I.freeC x c e)
   exact ⟨_,q,hd⟩
  ·exact ⟨o,keep c o (I.cne x c e) hc nch ho (I.freeC x c e),hd⟩
 refine ⟨I.ok,I.os,hg,⟨fun b o e n hb hx=> ?_,fun b o e n hb hx=> ?_,fun b o e n hx=> ?_,fun b o e hx=> ?_,fun b xs e=>tups b xs (I.base.tups b xs e),fun b o xs e=>frzs b o xs (I.base.frzs b o xs e),fun b ps e=> ?_⟩,?_,fun x c e=> ?_,?_,fun x c e=> ?_,fun p hp=> ?_,hok,I.len⟩
 ·exact keep b o (neL b o e) hb (neC b o e hx) (I.base.keep b o e n hb hx) (I.base.free b o e n hx)
 ·obtain ⟨sl,e1⟩:=I.base.slot b o e n hb hx
  obtain ⟨sl',e2⟩:=slot b _ (neL b o e) hb (neC b o e hx) e1 (I.base.free b o e n hx)
  exact ⟨sl',e2⟩
 ·obtain ⟨o',e1⟩:=I.base.there b o e hx
  exact free b o' (neC b o e hx) e1 (I.base.free b o e n hx)
 ·obtain ⟨o',e1⟩:=I.base.there b o e hx
  exact there b o' (neC b o e hx) e1
 ·obtain ⟨m1,e1⟩:=I.base.tbls b ps e
  obtain ⟨m2,e2⟩:=tbls b _ e1
  exact ⟨m1++m2,by rw [e2,Array.append_assoc]⟩
 ·obtain ⟨m,hn,hl⟩:=I.loc
  refine ⟨m,ns m hn,fun i x v e1 e2 e3=> ?_⟩
  obtain ⟨u,r,l⟩:=hl i x v e1 e2 e3
  refine ⟨u,r,?_⟩
  rcases l with l|⟨k,c,e,z⟩
  ·exact .inl l
  ·exact .inr ⟨k,c,e,cellK x c e _ z⟩
 ·obtain ⟨v,z⟩:=I.cell x c e
  exact ⟨v,cellK x c e v z⟩
 ·obtain ⟨m,⟨o,_,_,ho,_⟩,_⟩:=I.loc
  exact free _ o (fun z=>(hch _ z).2.1 rfl) ho I.free
 ·obtain ⟨v,o,ho,hd⟩:=I.cell x c e
  exact free c o (fun z=>(hch c z).2.2.1 x c e rfl) ho (I.freeC x c e)
 ·obtain ⟨e,n,ne,nf,d⟩:=I.pin p hp
  have nch:p.1 ∉ ch:=fun z=>(hch p.1 z).2.2.2 p hp rfl
  exact ⟨keep p.1 p.2 ne nf nch e n,free p.1 p.2 nch e n,ne,nf,d⟩
theorem Inv.un {t':Nat} (I:Inv X pins σ H s) (u:Un X.fs [] H H' s.heap h') (hok:HOk X.prog X.w H' h'):Inv X pins σ H' {s with heap:=h',toks:=t'}:=by
 obtain ⟨m,⟨o,es,ep,ho,r⟩,_⟩:=id I.loc
 obtain ⟨sl,hL⟩:=u.any ho I.free (by simp)
 exact I.step (g':=s.gens) (d':=s.drawn) (ch:=[]) (fun _ z=>nomatch z) (fun b o _ hb _ e n=>u.keep b o e n hb (by simp)) (fun b o _ hb _ e n=>u.slot b o e n hb (by simp)) (fun b o _ e n=>u.free b o e n (by simp)) (fun b o _ e=>u.there b o e (by simp)) u.tups u.frzs u.tbls (fun m' hm=>by
  obtain ⟨o',es',ep',ho',r'⟩:=hm
  rw [ho] at ho';cases ho'
  exact ⟨_,es',ep',hL,r'⟩) hok I.bare
theorem Inv.call {g':Array GenState} {t':Nat} {d':Drawn} {ch:List Addr} (I:Inv X pins σ H s) (u:Un (frs X.stack) ch H H' s.heap h') (hok:HOk X.prog X.w H' h') (hg:AllBare g')
  (hch:∀b∈ch,(b∈X.ex∨X.s₀.heap.objs.size≤b)∧b≠X.env.locals∧(∀x c,X.env.cells.lookup x=some c→c≠b)∧∀p∈X.pn++pins,p.1≠b):
  Inv X pins σ H' {s with heap:=h',gens:=g',drawn:=d',toks:=t'}:=by
 obtain ⟨m,⟨o,es,ep,ho,r⟩,_⟩:=id I.loc
 obtain ⟨sl,hL⟩:=u.any ho I.free fun z=>(hch _ z).2.1 rfl
 exact I.step (ch:=ch) hch (fun b o hL hb hc e n=>u.keep b o e n (fun z=>(List.mem_cons.mp (I.stkSub b z)).elim hL hb) hc) (fun b o _ _ hc e n=>u.any e n hc) (fun b o hc e n=>u.free b o e n hc) (fun b o hc e=>u.there b o e hc) u.tups u.frzs u.tbls (fun m' hm=>by
  obtain ⟨o',es',ep',ho',r'⟩:=hm
  rw [ho] at ho';cases ho'
  exact ⟨_,es',ep',hL,r'⟩) hok hg
theorem Inv.turned {t':Nat} {it:Addr} (I:Inv X pins σ H s) (k:∀b o,b≠it→s.heap.get? b=some o→h'.get? b=some o) (hn:H it=none) (hL:it≠X.env.locals)
  (h1:it∈X.ex∨X.s₀.heap.objs.size≤it) (h2:∀x c,X.env.cells.lookup x=some c→c≠it) (h3:∀p∈X.pn++pins,p.1≠it):Inv X pins σ H {s with heap:=h',toks:=t'}:=by
 have nit:∀b u,H b=some u→b≠it:=fun b u e z=>by rw [z,hn] at e;cases e
 refine I.step (g':=s.gens) (d':=s.drawn) (ch:=[it]) (fun b hb=> ?_) (fun b o _ _ hc e _=>k b o (fun z=>hc (by simp [z])) e) (fun b o _ _ hc e _=>⟨o.slots,k b o (fun z=>hc (by simp [z])) e⟩) (fun _ _ _ _ n=>n)
  (fun b o hc e=>⟨o,k b o (fun z=>hc (by simp [z])) e⟩) (fun _ _ e=>e) (fun _ _ _ e=>e) (fun b ps e=>⟨#[],by rw [e];simp⟩) (fun m hm=> ?_) (fun b u e=> ?_) I.bare
 ·have e:b=it:=by simpa using hb
  subst e
  exact ⟨h1,hL,h2,h3⟩
 ·obtain ⟨o,es,ep,ho,r⟩:=hm
  exact ⟨o,es,ep,k _ o (Ne.symm hL) ho,r⟩
 ·refine (I.hok b u e).stay (fun c v hc q=>k c v ?_ q) (fun _ q=>q) fun _ _ q=>q
  rcases hc with z|z
  ·rw [z];exact nit b u e
  ·exact nit c _ z
theorem Inv.tok (I:Inv X pins σ H s) (t:Nat):Inv X pins σ H {s with toks:=t}:=I.un (h':=s.heap) (t':=t) Un.refl I.hok
theorem Inv.kept {t':Nat} (I:Inv X pins σ H s) (k:∀b u,s.heap.get? b=some u→h'.get? b=some u):Inv X pins σ H {s with heap:=h',toks:=t'}:=I.un (Un.kept k) (I.hok.kept k)
theorem Inv.laid {a:Addr} {o:HO} {t':Nat} (I:Inv X pins σ H s) (k:∀b u,s.heap.get? b=some u→h'.get? b=some u) (hp:s.heap.objs.size≤a) (new:ObjOk X.prog X.w (upd H a o) h' a o):
  Inv X pins σ (upd H a o) {s with heap:=h',toks:=t'}:=I.un (Un.laid k hp (I.hok.fresh hp)) (I.hok.laid k hp new)
theorem Inv.write {x e:Addr} {o:HO} {t':Nat} (I:Inv X pins σ H s) (mu:Mut (H x)) (he:e=x∨H e=some (.own x)) (k:∀b u,b≠e→s.heap.get? b=some u→h'.get? b=some u) (heo:∃u,h'.get? e=some u)
  (new:ObjOk X.prog X.w (upd H x o) h' x o):Inv X pins σ (upd H x o) {s with heap:=h',toks:=t'}:=I.un (Un.write mu he k heo) (I.hok.write mu he k heo new)
theorem Inv.pins_of {pins':List (Addr×Obj)} (I:Inv X pins σ H s) (h:∀p∈pins',s.heap.get? p.1=some p.2∧H p.1=none∧p.1≠X.env.locals∧p.1 ∉ X.fs∧∀v,p.2.data≠ .cell v):Inv X pins' σ H s:=
 ⟨I.ok,I.os,I.bare,I.base,I.loc,I.cell,I.free,I.freeC,fun p hp=>(List.mem_append.mp hp).elim (fun z=>I.pin p (List.mem_append_left _ z)) (h p),I.hok,I.len⟩
theorem nodup_ix {N:List Str} (hN:N.Nodup) {i j:Nat} {x:Str} (a:N[i]? =some x) (b:N[j]? =some x):i=j:=by
 obtain ⟨h1,e1⟩:=List.getElem?_eq_some_iff.mp a
 obtain ⟨h2,e2⟩:=List.getElem?_eq_some_iff.mp b
 exact (List.getElem_inj hN).mp (e1.trans e2.symm)
theorem store_ok2 {M:Model} {A:Around} {E:Value→Shared→Prop} {i:Nat} {x:Str} {v:V} {u:Value} {Q:Unit→Shared→Prop} (I:Inv X pins σ H s) (hN:X.N.Nodup) (hi:X.N[i]? =some x) (hx:Loc X.env.scope x) (r:RelV v u)
  (h:∀s',Inv X pins (σ.set i (some v)) H s'→(∃a,Heap.SameBut a s.heap s'.heap∧(a=X.env.locals∨X.env.cells.lookup x=some a))→Q () s') (hf:X.fn x=true∨X.env.scope.names.lookup x=some .local:=by first|exact .inl rfl|exact .inr rfl|assumption):wpAny M A (storeName X.env x u) Q E s:=by
 obtain ⟨m,hn,hl⟩:=id I.loc
 have hcls:(X.env.scope.kind== .class||(X.env.scope.kind== .module && X.env.locals !=X.env.globals))=false:=by rw [I.ok.kind];rfl
 have hiσ:i<σ.length:=by rw [I.len];exact (List.getElem?_eq_some_iff.mp hi).1
 have cne:=I.cne
 have tracked:∀{a:Addr} {h':Heap},(∃o,s.heap.get? a=some o∧H a=none)→Heap.SameBut a s.heap h'→HOk X.prog X.w H h':=fun {a h'} ha hs b ob e=>by
  obtain ⟨_,_,hfree⟩:=ha
  refine (I.hok b ob e).stay (fun c w' hc q=>(hs.2 c ?_).trans q) (fun _ q=>q) fun _ _ q=>q
  rintro rfl
  rcases hc with rfl|hc
  ·rw [hfree] at e;cases e
  ·rw [hfree] at hc;cases hc
 rcases hx with hk|hk
 ·refine wpAny_storeName_local hk hn (fun h' hn' hs=> ?_) hcls
  obtain ⟨oL,_,_,hoL,_⟩:=id hn
  refine h _ ⟨I.ok,I.os,I.bare,⟨fun b o e n hb hx=> ?_,fun b o e n hb hx=> ?_,I.base.free,fun b o e hx=> ?_,I.base.tups,I.base.frzs,I.base.tbls⟩,⟨_,hn',fun j y v' e1 e2 e3=> ?_⟩,fun y c e=> ?_,I.free,I.freeC,fun p hp=> ?_,tracked ⟨oL,hoL,I.free⟩ hs,by simpa using I.len⟩ ⟨_,hs,.inl rfl⟩
  ·exact (hs.2 b (Nat.ne_of_lt (Nat.lt_of_lt_of_le (Heap.lt_size e) I.ok.above))).trans (I.base.keep b o e n hb hx)
  ·obtain ⟨sl,e1⟩:=I.base.slot b o e n hb hx
   exact ⟨sl,(hs.2 b (Nat.ne_of_lt (Nat.lt_of_lt_of_le (Heap.lt_size e) I.ok.above))).trans e1⟩
  ·obtain ⟨o',e1⟩:=I.base.there b o e hx
   exact ⟨o',(hs.2 b (Nat.ne_of_lt (Nat.lt_of_lt_of_le (Heap.lt_size e) I.ok.above))).trans e1⟩
  ·by_cases hj:j=i
   ·subst hj
    rw [hi] at e1;cases e1
    rw [List.getElem?_set_self hiσ] at e2
    cases e2
    exact ⟨u,r,.inl ⟨hk,by simp⟩⟩
   ·rw [List.getElem?_set_ne (Ne.symm hj)] at e2
    obtain ⟨u',r',q⟩:=hl j y v' e1 e2 e3
    refine ⟨u',r',?_⟩
    rcases q with ⟨k,e⟩|⟨k,c,e,z⟩
    ·refine .inl ⟨k,?_⟩
     have:y≠x:=fun e=>hj (nodup_ix hN e1 (e▸hi))
     simp [this,e]
    ·exact .inr ⟨k,c,e,z.sameBut hs (cne y c e)⟩
  ·obtain ⟨w',z⟩:=I.cell y c e
   exact ⟨w',z.sameBut hs (cne y c e)⟩
  ·obtain ⟨e,n,ne,nf,d⟩:=I.pin p hp
   exact ⟨(hs.2 p.1 ne).trans e,n,ne,nf,d⟩
 ·have hfn:X.fn x=true:=by
   rcases hf with z|z
   ·exact z
   ·rw [z] at hk;cases hk
  obtain ⟨c,hc⟩:=I.ok.has x (.inl hk)
  obtain ⟨w',z⟩:=I.cell x c hc
  refine wpAny_storeName_cell I.ok.kind hk hc z (fun h' hc' hs=> ?_)
  obtain ⟨oc,hoc,hocd⟩:=id z
  refine h {s with heap:=h'} ⟨I.ok,I.os,I.bare,⟨fun b o e n hb hx=> ?_,fun b o e n hb hx=> ?_,I.base.free,fun b o e hx=> ?_,I.base.tups,I.base.frzs,I.base.tbls⟩,⟨m,hn.sameBut hs (Ne.symm (cne x c hc)),fun j y v' e1 e2 e3=> ?_⟩,fun y c' e=> ?_,I.free,I.freeC,fun p hp=> ?_,tracked ⟨oc,hoc,I.freeC x c hc⟩ hs,by simpa using I.len⟩ ⟨c,hs,.inr hc⟩
  ·exact (hs.2 b (Nat.ne_of_lt (Nat.lt_of_lt_of_le (Heap.lt_size e) (I.ok.cab x c hfn hc)))).trans (I.base.keep b o e n hb hx)
  ·obtain ⟨sl,e1⟩:=I.base.slot b o e n hb hx
   exact ⟨sl,(hs.2 b (Nat.ne_of_lt (Nat.lt_of_lt_of_le (Heap.lt_size e) (I.ok.cab x c hfn hc)))).trans e1⟩
  ·obtain ⟨o',e1⟩:=I.base.there b o e hx
   exact ⟨o',(hs.2 b (Nat.ne_of_lt (Nat.lt_of_lt_of_le (Heap.lt_size e) (I.ok.cab x c hfn hc)))).trans e1⟩
  ·by_cases hj:j=i
   ·subst hj
    rw [hi] at e1;cases e1
    rw [List.getElem?_set_self hiσ] at e2
    cases e2
    exact ⟨u,r,.inr ⟨.inl hk,c,hc,hc'⟩⟩
   ·rw [List.getElem?_set_ne (Ne.symm hj)] at e2
    obtain ⟨u',r',q⟩:=hl j y v' e1 e2 e3
    refine ⟨u',r',?_⟩
    rcases q with q|⟨k,c',e,z'⟩
    ·exact .inl q
    ·refine .inr ⟨k,c',e,z'.sameBut hs ?_⟩
     rintro rfl
     exact hj (nodup_ix hN e1 (I.ok.inj _ _ _ e hc▸hi))
  ·by_cases hcc:c'=c
   ·subst hcc;exact ⟨_,hc'⟩
   ·obtain ⟨w2,z2⟩:=I.cell y c' e
    exact ⟨w2,z2.sameBut hs hcc⟩
  ·obtain ⟨e,n,ne,nf,d⟩:=I.pin p hp
   refine ⟨(hs.2 p.1 ?_).trans e,n,ne,nf,d⟩
   intro q
   rw [q,hoc] at e
   have q':oc=p.2:=Option.some.inj e
   exact d w' (by rw [←q'];exact hocd)
theorem store_ok {M:Model} {A:Around} {E:Value→Shared→Prop} {i:Nat} {x:Str} {v:V} {u:Value} {Q:Unit→Shared→Prop} (I:Inv X pins σ H s) (hN:X.N.Nodup) (hi:X.N[i]? =some x) (hx:Loc X.env.scope x) (r:RelV v u)
  (h:∀s',Inv X pins (σ.set i (some v)) H s'→Q () s') (hf:X.fn x=true∨X.env.scope.names.lookup x=some .local:=by first|exact .inl rfl|exact .inr rfl|assumption):wpAny M A (storeName X.env x u) Q E s:=
 store_ok2 I hN hi hx r (fun s' I' _=>h s' I') hf
theorem Inv.call' {s':Shared} {ch:List Addr} (I:Inv X pins σ H s) (ho:s'.os=s.os) (u:Un (frs X.stack) ch H H' s.heap s'.heap) (hok:HOk X.prog X.w H' s'.heap) (hg:AllBare s'.gens)
  (hch:∀b∈ch,(b∈X.ex∨X.s₀.heap.objs.size≤b)∧b≠X.env.locals∧(∀x c,X.env.cells.lookup x=some c→c≠b)∧∀p∈X.pn++pins,p.1≠b):Inv X pins σ H' s':=by
 obtain ⟨h',g',d',t',o'⟩:=s'
 have e:o'=s.os:=ho
 subst e
 exact I.call (g':=g') (t':=t') (d':=d') u hok hg hch
end
abbrev XK:=Value→Option Addr→Hp→Prop
abbrev St:=List (Option V)
abbrev VK:=V→Hp→Prop
abbrev TE:=St→Hp→VK→Prop
abbrev TT:=St→Hp→(Bool→Hp→Prop)→Prop
abbrev TA:=St→Hp→(List V→Hp→Prop)→Prop
structure Ends where
 nx:St→Hp→Prop
 rt:VK
 bk:St→Hp→Prop:=fun _ _=>False
 ct:St→Hp→Prop:=fun _ _=>False
abbrev TS:=Ends→St→Hp→Prop
def EP (X:Cx) (pins:List (Addr×Obj)) (σ:St) (Q:VK) (u:Value) (s':Shared):Prop:=∃v H',Inv X pins σ H' s'∧RelV v u∧Q v H'
def TP (X:Cx) (pins:List (Addr×Obj)) (σ:St) (Q:Bool→Hp→Prop) (b:Bool) (s':Shared):Prop:=∃H',Inv X pins σ H' s'∧Q b H'
def AP (X:Cx) (pins:List (Addr×Obj)) (σ:St) (Q:List V→Hp→Prop) (us:List Value) (s':Shared):Prop:=∃vs H',Inv X pins σ H' s'∧Vals vs us∧Q vs H'
def SP (X:Cx) (pins:List (Addr×Obj)) (D:Ends) (f:Flow) (s':Shared):Prop:=
 match f with
 | .next=>∃σ' H',Inv X pins σ' H' s'∧D.nx σ' H'
 | .brk=>∃σ' H',Inv X pins σ' H' s'∧D.bk σ' H'
 | .cont=>∃σ' H',Inv X pins σ' H' s'∧D.ct σ' H'
 | .ret u=>∃v σ' H',Inv X pins σ' H' s'∧RelV v u∧D.rt v H'
def PE (X:Cx) (e:Expr) (t:TE):Prop:=
 ∀(pins:List (Addr×Obj)) (s:Shared) (σ:St) (H:Hp) (Q:VK),Inv X pins σ H s→t σ H Q→wpAny (model X.prog X.w) X.A (eval e X.env) (EP X pins σ Q) X.xe s
def PT (X:Cx) (e:Expr) (t:TT):Prop:=
 ∀(pins:List (Addr×Obj)) (s:Shared) (σ:St) (H:Hp) (Q:Bool→Hp→Prop),Inv X pins σ H s→t σ H Q→wpAny (model X.prog X.w) X.A (isTrue e X.env (eval e X.env)) (TP X pins σ Q) X.xe s
def PW (X:Cx) (e:Expr) (t:TT):Prop:=
 ∀(whole:Sem Value) (pins:List (Addr×Obj)) (s:Shared) (σ:St) (H:Hp) (Q:Bool→Hp→Prop),Inv X pins σ H s→t σ H Q→wpAny (model X.prog X.w) X.A (isTrue e X.env whole) (TP X pins σ Q) X.xe s
theorem PW.pt {X:Cx} {e:Expr} {t:TT} (h:PW X e t):PT X e t:=h _
def PA (X:Cx) (es:List Expr) (t:TA):Prop:=
 ∀(pos:Pos) (pins:List (Addr×Obj)) (s:Shared) (σ:St) (H:Hp) (Q:List V→Hp→Prop),Inv X pins σ H s→t σ H Q→wpAny (model X.prog X.w) X.A (spliced (backTo pos (starEach es X.env))) (AP X pins σ Q) X.xe s
def PS (X:Cx) (st:Stmt) (t:TS):Prop:=
 ∀(pins:List (Addr×Obj)) (s:Shared) (σ:St) (H:Hp) (D:Ends),Inv X pins σ H s→t D σ H→wpAny (model X.prog X.w) X.A (exec st X.env) (SP X pins D) X.xe s
def PSs (X:Cx) (st:List Stmt) (t:TS):Prop:=
 ∀(pins:List (Addr×Obj)) (s:Shared) (σ:St) (H:Hp) (D:Ends),Inv X pins σ H s→t D σ H→wpAny (model X.prog X.w) X.A (execs st X.env) (SP X pins D) X.xe s
theorem thn {α:Type} {t:Sem α} {Q Q':α→Shared→Prop} {M:Model} {A:Around} {E:Value→Shared→Prop} {s:Shared} (h:wpAny M A t Q E s) (hQ:∀a s,Q a s→Q' a s):wpAny M A t Q' E s:=wpAny_mono h hQ fun _ _ x=>x
end L2
namespace L2
open PySem PySem.Spec PyProof.Rows
section
variable {X:Cx}
inductive TVarP (i:Nat) (σ:St) (H:Hp) (Q:VK):Prop
 |mk (v:_):(σ[i]? =some (some v))→(Q v H)→TVarP i σ H Q
def tVar (i:Nat):TE:=fun σ H Q=>TVarP i σ H Q
def tC (v:V):TE:=fun _ H Q=>Q v H
theorem pe_var {i:Nat} {x:Str} {pos:Pos} (hN:X.N[i]? =some x) (hv:Vis X.env.scope x) (hd:(x==("__debug__":Str))=false:=by decide) (hcd:(x==("__classdict__":Str))=false:=by decide):PE X (.Name x pos) (tVar i):=by
 intro pins s σ H Q I h
 obtain ⟨v,e,h⟩:=h
 obtain ⟨m,hn,hl⟩:=I.loc
 obtain ⟨u,r,l⟩:=hl i x v hN e hv
 have fin:EP X pins σ Q u s:=⟨v,H,I,r,h⟩
 rcases l with ⟨hk,hm⟩|⟨hk,c,hc,hcell⟩
 ·exact wpAny_Name (wpAny_loadName_local I.ok.kind hk hn hm fin) hd
 ·rcases hk with hk|hk
  ·exact wpAny_Name (wpAny_loadName_cell I.ok.kind hk hc hcell fin) hd
  ·exact wpAny_Name (wpAny_loadName_free I.ok.kind hk hc hcell fin hcd) hd
theorem Af {i j pos}:PE X (.Constant (.int i) j pos) (tC (.int i)):=fun _ _ _ H _ I h=>wpAny_Constant_int ⟨.int i,H,I.tok _,⟨_,rfl⟩,h⟩
theorem pe_bl {b j pos}:PE X (.Constant (.bool b) j pos) (tC (.bl b)):=fun _ _ _ H _ I h=>Constant_bool ⟨.bl b,H,I,rfl,h⟩
theorem pe_non {j pos}:PE X (.Constant .none j pos) (tC .non):=fun _ _ _ H _ I h=>Constant_none ⟨.non,H,I,rfl,h⟩
theorem A3 {x j pos}:PE X (.Constant (.str x) j pos) (tC (.str x)):=fun _ _ _ H _ I h=>Calls.Constant_str ⟨.str x,H,I.tok _,⟨_,rfl⟩,h⟩
def Gl (X:Cx) (x:Str):Prop:=X.env.kindOf x=some .globalImplicit
theorem ld_glob {E:Value→Shared→Prop} {pins:List (Addr×Obj)} {s:Shared} {σ:St} {H:Hp} {x:Str} {u:Value} {pos:Pos} {Q:Value→Shared→Prop} (I:Inv X pins σ H s) (hg:Gl X x) (hm:X.mg x=some u) (h:Q u s)
  (hd:(x==("__debug__":Str))=false:=by decide):wpAny (model X.prog X.w) X.A (eval (.Name x pos) X.env) Q E s:=
 Calls.Name_function_global I.ok.kind hg (Calls.loadGlobal_global (by rw [I.ok.glob];exact I.mod.glob.keeps I.bk) hm h) hd
theorem ld_blt {E:Value→Shared→Prop} {pins:List (Addr×Obj)} {s:Shared} {σ:St} {H:Hp} {x:Str} {u:Value} {pos:Pos} {Q:Value→Shared→Prop} (I:Inv X pins σ H s) (hg:Gl X x) (hm:X.mg x=none) (hv:bootBuiltins x=some u) (h:Q u s)
  (hn:x≠"__name__":=by decide) (hd:(x==("__debug__":Str))=false:=by decide):wpAny (model X.prog X.w) X.A (eval (.Name x pos) X.env) Q E s:=by
 obtain ⟨mb,h1,h2⟩:=I.mod.blt
 exact Calls.Name_function_global I.ok.kind hg (Calls.loadGlobal_builtin (by rw [I.ok.glob];exact I.mod.glob.keeps I.bk) hm (by rw [I.ok.blt];exact h1.keeps I.bk) ((h2 x hn).trans hv) h) hd
theorem pe_glob {x:Str} {v:V} {u:Value} {pos:Pos} (hg:Gl X x) (hm:X.mg x=some u) (r:RelV v u) (hd:(x==("__debug__":Str))=false:=by decide):PE X (.Name x pos) (tC v):=
 fun _ _ _ H _ I h=>ld_glob I hg hm ⟨v,H,I,r,h⟩ hd
variable {a b:Expr} {ta tb:TE} {pos:Pos}
inductive BlP (x:V) (H:Hp) (Q:Bool→Hp→Prop):Prop
 |mk (c:Bool):(x= .bl c)→(Q c H)→BlP x H Q
def tB (t:TE):TT:=fun σ H Q=>t σ H fun x H1=>BlP x H1 Q
theorem pt_val {e:Expr} {t:TE} (h:PE X e t) (he:∀whole,isTrue e X.env whole=(do let v ←whole;standAt e.pos;holding [v] (truthy v)):=by intro _;rfl):PT X e (tB t):=by
 intro pins s σ H Q I hw
 refine isTrue_plain (thn (h pins s σ H _ I hw) fun v s1 ⟨x,H1,I1,r1,q1⟩=> ?_) (he _)
 obtain ⟨d,rfl,q⟩:=q1
 cases r1
 exact wpAny_truthy_bool ⟨H1,I1,q⟩
variable {tA tB':TT} {rest:List Expr}
def tAnd (t u:TT):TT:=fun σ H Q=>t σ H fun c H1=>if c=true then u σ H1 Q else Q false H1
def tOr (t u:TT):TT:=fun σ H Q=>t σ H fun c H1=>if c=true then Q true H1 else u σ H1 Q
def tNot (t:TT):TT:=fun σ H Q=>t σ H fun c H1=>Q (!c) H1
theorem pw_and1 (ha:PT X a tA):PW X (.BoolOp .And [a] pos) tA:=by
 intro wh pins s σ H Q I h
 refine isTrue_and (thn (ha pins s σ H Q I h) fun c s1 e=> ?_)
 cases c with
 |true=>exact isTrue_and_nil e
 |false=>exact e
theorem pw_or1 (ha:PT X a tA):PW X (.BoolOp .Or [a] pos) tA:=by
 intro wh pins s σ H Q I h
 refine isTrue_or (thn (ha pins s σ H Q I h) fun c s1 e=> ?_)
 cases c with
 |false=>exact isTrue_or_nil e
 |true=>exact e
theorem pw_and (ha:PT X a tA) (hb:PW X (.BoolOp .And (b::rest) pos) tB'):PW X (.BoolOp .And (a::b::rest) pos) (tAnd tA tB'):=by
 intro wh pins s σ H Q I h
 refine isTrue_and (thn (ha pins s σ H _ I h) fun c s1 ⟨H1,I1,q1⟩=> ?_)
 cases c with
 |true=>exact hb wh pins s1 σ H1 Q I1 q1
 |false=>exact ⟨H1,I1,q1⟩
theorem pw_or (ha:PT X a tA) (hb:PW X (.BoolOp .Or (b::rest) pos) tB'):PW X (.BoolOp .Or (a::b::rest) pos) (tOr tA tB'):=by
 intro wh pins s σ H Q I h
 refine isTrue_or (thn (ha pins s σ H _ I h) fun c s1 ⟨H1,I1,q1⟩=> ?_)
 cases c with
 |true=>exact ⟨H1,I1,q1⟩
 |false=>exact hb wh pins s1 σ H1 Q I1 q1
theorem pt_not (ha:PT X a tA):PT X (.UnaryOp .Not a pos) (tNot tA):=by
 intro pins s σ H Q I h
 exact isTrue_not (ha pins s σ H (fun c H1=>Q (!c) H1) I h)
def tAndV (ta tb:TE):TE:=fun σ H Q=>ta σ H fun x H1=>∃c,x= .bl c∧if c=true then tb σ H1 Q else Q (.bl false) H1
def tNotV (ta:TE):TE:=fun σ H Q=>ta σ H fun x H1=>∃c,x= .bl c∧Q (.bl (!c)) H1
theorem pe_one {op} {t:TE} (h:PE X a t):PE X (.BoolOp op [a] pos) t:=fun pins s σ H Q I hw=>BoolOp_one (h pins s σ H Q I hw)
theorem pe_and (ha:PE X a ta) (hb:PE X (.BoolOp .And (b::rest) pos) tb):PE X (.BoolOp .And (a::b::rest) pos) (tAndV ta tb):=by
 intro pins s σ H Q I h
 refine BoolOp_and (thn (ha pins s σ H _ I h) fun v s1 ⟨x,H1,I1,r1,q1⟩=> ?_)
 obtain ⟨c,rfl,q1⟩:=q1
 cases r1
 refine wpAny_truthy_bool ?_
 cases c with
 |true=>exact hb pins s1 σ H1 Q I1 q1
 |false=>exact ⟨.bl false,H1,I1,rfl,q1⟩
theorem pe_not (ha:PE X a ta):PE X (.UnaryOp .Not a pos) (tNotV ta):=by
 intro pins s σ H Q I h
 refine UnaryOp_ (thn (ha pins s σ H _ I h) fun v s1 ⟨x,H1,I1,r1,q1⟩=> ?_)
 obtain ⟨c,rfl,q1⟩:=q1
 cases r1
 exact not_of (wpAny_truthy_bool ⟨.bl (!c),H1,I1,rfl,q1⟩)
def tIf (t:TT) (ta tb:TE):TE:=fun σ H Q=>t σ H fun c H1=>if c=true then ta σ H1 Q else tb σ H1 Q
theorem pe_ifExp {c:Expr} (hc:PT X c tA) (ha:PE X a ta) (hb:PE X b tb):PE X (.IfExp c a b pos) (tIf tA ta tb):=by
 intro pins s σ H Q I h
 refine wpAny_IfExp (thn (hc pins s σ H _ I h) fun d s1 ⟨H1,I1,q1⟩=> ?_)
 cases d with
 |true=>exact ha pins s1 σ H1 Q I1 q1
 |false=>exact hb pins s1 σ H1 Q I1 q1
end
end L2
namespace L2
open PySem PySem.Spec PyProof.Rows
def SqL (K:PySem.W.Frag) (H:Hp) (a:Addr) (xs:List V):Prop:=
 Rd H a (.lst xs)∨
  ∃(o:Obj) (its:Array Value) (n:Nat),K.lookup a=some o∧o.cls= .type "list"∧o.dict=none∧o.data= .seq its n∧its.size≤sizeLine∧Vals xs its.toList
def SqT (K:PySem.W.Frag) (H:Hp) (a:Addr) (xs:List V):Prop:=
 Rd H a (.tup xs)∨
  ∃(o:Obj) (its:Array Value) (n:Nat),K.lookup a=some o∧o.cls= .type "tuple"∧o.data= .seq its n∧its.size≤sizeLine∧Vals xs its.toList
def absV:Value→Option V
 | .none=>some .non
 | .bool b=>some (.bl b)
 | .int i _=>some (.int i)
 | .str x _=>some (.str x)
 | .bytes b _=>some (.byt b)
 | .float b _=>some (.flt b)
 | .ref a=>some (.ref a)
 | .type n=>some (.ty n)
 |_=>none
theorem RelV.abs {x:V} {u:Value} (r:RelV x u):absV u=some x:=by
 cases x with
 |non=>cases r;rfl
 |bl _=>cases r;rfl
 |int _=>obtain ⟨t,rfl⟩:=r;rfl
 |str _=>obtain ⟨t,rfl⟩:=r;rfl
 |byt _=>obtain ⟨t,rfl⟩:=r;rfl
 |flt _=>obtain ⟨t,rfl⟩:=r;rfl
 |ref _=>cases r;rfl
 |ty _=>cases r;rfl
theorem RelV.inj {x y:V} {u:Value} (r:RelV x u) (q:RelV y u):x=y:=Option.some.inj (r.abs.symm.trans q.abs)
theorem Vals.inj:∀{xs ys:List V} {us:List Value},Vals xs us→Vals ys us→xs=ys
 |_,_,_,.nil,.nil=>rfl
 |_,_,_,.cons r t,.cons r' t'=>by rw [r.inj r',Vals.inj t t']
section
variable {X:Cx} {pins:List (Addr×Obj)} {σ:St} {H:Hp} {s:Shared} {a:Addr} {xs ys:List V}
theorem SqL.of {K:PySem.W.Frag} (h:H a=some (.lst xs)):SqL K H a xs:= .inl (.inl h)
theorem SqT.of {K:PySem.W.Frag} (h:H a=some (.tup xs)):SqT K H a xs:= .inl (.inl h)
theorem Inv.list (I:Inv X pins σ H s) (h:SqL X.K H a xs):∃its:List Value,Vals xs its∧PlainL s.heap a its.toArray∧xs.length≤sizeLine:=by
 rcases h with h|⟨o,its,n,hk,hc,hd,hs,hz,r⟩
 ·obtain ⟨z,its,n,r,e⟩:=h.ok I.hok
  exact ⟨its,r,⟨_,n,e,rfl,rfl,rfl⟩,z⟩
 ·refine ⟨its.toList,r,⟨o,n,I.kIn a o hk,hc,hd,by simpa using hs⟩,?_⟩
  have e:=r.length
  simp only [Array.length_toList] at e
  omega
theorem Inv.tuple (I:Inv X pins σ H s) (h:SqT X.K H a xs):∃its:List Value,Vals xs its∧IsTup s.heap a its.toArray∧xs.length≤sizeLine:=by
 rcases h with h|⟨o,its,n,hk,hc,hs,hz,r⟩
 ·obtain ⟨z,its,r,p⟩:=h.ok I.hok
  exact ⟨its,r,p.tup,z⟩
 ·refine ⟨its.toList,r,⟨o,I.kIn a o hk,hc,n,by simpa using hs⟩,?_⟩
  have e:=r.length
  simp only [Array.length_toList] at e
  omega
theorem Inv.list_inj (I:Inv X pins σ H s) (h:SqL X.K H a xs) (h':SqL X.K H a ys):xs=ys:=by
 obtain ⟨its,r,⟨o,n,e,_,_,d⟩,_⟩:=I.list h
 obtain ⟨its',r',⟨o',n',e',_,_,d'⟩,_⟩:=I.list h'
 rw [e] at e';cases e'
 rw [d] at d'
 injection d' with d1 _
 have:its=its':=by simpa using congrArg Array.toList d1
 subst this
 exact r.inj r'
theorem Inv.tuple_inj (I:Inv X pins σ H s) (h:SqT X.K H a xs) (h':SqT X.K H a ys):xs=ys:=by
 obtain ⟨its,r,⟨o,e,_,n,d⟩,_⟩:=I.tuple h
 obtain ⟨its',r',⟨o',e',_,n',d'⟩,_⟩:=I.tuple h'
 rw [e] at e';cases e'
 rw [d] at d'
 injection d' with d1 _
 have:its=its':=by simpa using congrArg Array.toList d1
 subst this
 exact r.inj r'
end
abbrev Cx.wish (X:Cx) (E:Value→Shared→Prop):Cx:={X with xe:=E}
abbrev Cx.nox (X:Cx):Cx:=X.wish fun _ _=>False
theorem Cx.Ok.wish {X:Cx} (ok:X.Ok) (E:Value→Shared→Prop):(X.wish E).Ok:=
 ⟨ok.mod,ok.kind,ok.glob,ok.blt,ok.above,ok.inj,ok.has,ok.cab,ok.hd,ok.frames,ok.stk,ok.exf,ok.bs,ok.bsz,ok.noex,ok.exfs,ok.funs,ok.frf⟩
theorem Cx.Ok.unwish {X:Cx} {E:Value→Shared→Prop} (ok:(X.wish E).Ok):X.Ok:=
 ⟨ok.mod,ok.kind,ok.glob,ok.blt,ok.above,ok.inj,ok.has,ok.cab,ok.hd,ok.frames,ok.stk,ok.exf,ok.bs,ok.bsz,ok.noex,ok.exfs,ok.funs,ok.frf⟩
section
variable {X:Cx} {pins:List (Addr×Obj)} {σ:St} {H:Hp} {s:Shared} {E:Value→Shared→Prop}
theorem Inv.wish (I:Inv X pins σ H s) (E:Value→Shared→Prop):Inv (X.wish E) pins σ H s:=⟨I.ok.wish E,I.os,I.bare,I.base,I.loc,I.cell,I.free,I.freeC,I.pin,I.hok,I.len⟩
theorem Inv.unwish (I:Inv (X.wish E) pins σ H s):Inv X pins σ H s:=⟨I.ok.unwish,I.os,I.bare,I.base,I.loc,I.cell,I.free,I.freeC,I.pin,I.hok,I.len⟩
theorem SP.unwish {D:Ends} {f:Flow} {s':Shared} (h:SP (X.wish E) pins D f s'):SP X pins D f s':=by
 cases f with
 |next=>obtain ⟨σ',H',I,q⟩:=h;exact ⟨σ',H',I.unwish,q⟩
 |brk=>obtain ⟨σ',H',I,q⟩:=h;exact ⟨σ',H',I.unwish,q⟩
 |cont=>obtain ⟨σ',H',I,q⟩:=h;exact ⟨σ',H',I.unwish,q⟩
 |ret u=>obtain ⟨v,σ',H',I,r,q⟩:=h;exact ⟨v,σ',H',I.unwish,r,q⟩
theorem PSs.nox {st:List Stmt} {t:TS} (h:PSs X.nox st t):PSs X st t:=fun pins s σ H D I hw=>
 wpAny_mono (h pins s σ H D (I.wish _) hw) (fun _ _ q=>q.unwish) fun _ _ z=>False.elim z
end
section
variable {X:Cx} {st:Stmt} {rest:List Stmt} {t u:TS} {e:Expr} {te:TE} {pos:Pos}
def Bj:TS:=fun D σ H=>D.nx σ H
def tSeq (t u:TS):TS:=fun D σ H=>t {D with nx:=u D} σ H
theorem Au:PSs X [] Bj:=fun _ _ σ H _ I h=>wpAny_execs_nil ⟨σ,H,I,h⟩
theorem Ae (h1:PS X st t) (h2:PSs X rest u):PSs X (st::rest) (tSeq t u):=by
 intro pins s σ H D I h
 refine wpAny_execs_cons (thn (h1 pins s σ H {D with nx:=u D} I h) fun f s1 q=> ?_)
 cases f with
 |next=>
  obtain ⟨σ',H',I',q⟩:=q
  exact h2 pins s1 σ' H' D I' q
 |ret v=>exact q
 |brk=>exact q
 |cont=>exact q
theorem Aj (h1:PS X st t):PSs X [st] t:=by
 intro pins s σ H D I h
 refine wpAny_execs_cons (thn (h1 pins s σ H D I h) fun f s1 q=> ?_)
 cases f with
 |next=>exact wpAny_execs_nil q
 |ret v=>exact q
 |brk=>exact q
 |cont=>exact q
theorem Inv.quiet {pins:List (Addr×Obj)} {σ:St} {H:Hp} {s:Shared} (I:Inv X pins σ H s):interactive X.env=false:=by simp [interactive,I.ok.kind]
def tDrop (te:TE):TS:=fun D σ H=>te σ H fun _ H1=>D.nx σ H1
theorem ps_expr (he:PE X e te) (hs:swapsWith e none pos.line X.env=pure false:=by rfl):PS X (.Expr e pos) (tDrop te):=by
 intro pins s σ H D I h
 exact wpAny_Expr_any (thn (he pins s σ H _ I h) fun v s1 ⟨x,H1,I1,r1,q1⟩=>⟨σ,H1,I1,q1⟩) I.quiet hs
def tRet (te:TE):TS:=fun D σ H=>te σ H D.rt
theorem At (he:PE X e te):PS X (.Return (some e) pos) (tRet te):=by
 intro pins s σ H D I h
 exact wpAny_Return_some (thn (he pins s σ H _ I h) fun v s1 ⟨x,H1,I1,r1,q1⟩=>⟨x,σ,H1,I1,r1,q1⟩)
def tIfS (c:TT) (t u:TS):TS:=fun D σ H=>c σ H fun b H1=>if b=true then t D σ H1 else u D σ H1
theorem Bk {c:Expr} {a b:List Stmt} {tc:TT} (hc:PT X c tc) (ha:PSs X a t) (hb:PSs X b u):PS X (.If c a b pos) (tIfS tc t u):=by
 intro pins s σ H D I h
 refine wpAny_If (thn (hc pins s σ H _ I h) fun d s1 ⟨H1,I1,q1⟩=> ?_)
 cases d with
 |true=>exact ha pins s1 σ H1 D I1 q1
 |false=>exact hb pins s1 σ H1 D I1 q1
def tNever:TS:=fun _ _ _=>False
theorem ps_never:PS X st tNever:=fun _ _ _ _ _ _ h=>h.elim
theorem pss_never {sts:List Stmt}:PSs X sts tNever:=fun _ _ _ _ _ _ h=>h.elim
end
abbrev TG:=V→St→Hp→(St→Hp→Prop)→Prop
abbrev TGs:=List V→St→Hp→(St→Hp→Prop)→Prop
def PG (X:Cx) (target:Expr) (t:TG):Prop:=
 ∀(pins:List (Addr×Obj)) (s:Shared) (σ:St) (H:Hp) (v:V) (u:Value) (Q:St→Hp→Prop),Inv X pins σ H s→RelV v u→t v σ H Q→
  wpAny (model X.prog X.w) X.A (assign target X.env u) (fun _ s'=>∃σ' H',Inv X pins σ' H' s'∧Q σ' H') X.xe s
def PGs (X:Cx) (ts:List Expr) (t:TGs):Prop:=
 ∀(pins:List (Addr×Obj)) (s:Shared) (σ:St) (H:Hp) (vs:List V) (us:List Value) (Q:St→Hp→Prop),Inv X pins σ H s→Vals vs us→t vs σ H Q→
  wpAny (model X.prog X.w) X.A (assignInOrder ((assignEach ts X.env).map (·.2)) us) (fun _ s'=>∃σ' H',Inv X pins σ' H' s'∧Q σ' H') X.xe s
section
variable {X:Cx} {pos:Pos}
def gName (i:Nat):TG:=fun v σ H Q=>Q (σ.set i (some v)) H
theorem Ao {i:Nat} {x:Str} (hN:X.N.Nodup) (hi:X.N[i]? =some x) (hx:Loc X.env.scope x) (hf:X.fn x=true∨X.env.scope.names.lookup x=some .local:=by first|exact .inl rfl|exact .inr rfl|assumption):PG X (.Name x pos) (gName i):=by
 intro pins s σ H v u Q I r h
 exact wpAny_assign_Name (store_ok I hN hi hx r (fun s' I'=>⟨_,H,I',h⟩) hf)
def gNil:TGs:=fun vs σ H Q=>vs=[]∧Q σ H
def gCons (t:TG) (u:TGs):TGs:=fun vs σ H Q=>∃v r,vs=v::r∧t v σ H fun σ' H'=>u r σ' H' Q
theorem pgs_nil:PGs X [] gNil:=by
 intro pins s σ H vs us Q I r h
 obtain ⟨e,h⟩:=h
 subst e
 cases r
 exact assignInOrder_nil ⟨σ,H,I,h⟩
theorem A2 {e:Expr} {es:List Expr} {t:TG} {u:TGs} (h1:PG X e t) (h2:PGs X es u)
  (hs:(assignEach (e::es) X.env).map (·.2)=assign e X.env::(assignEach es X.env).map (·.2):=by rfl):PGs X (e::es) (gCons t u):=by
 intro pins s σ H vs us Q I r h
 obtain ⟨v,vr,e1,h⟩:=h
 subst e1
 cases r with
 |cons r rr=>
  rw [hs]
  refine assignInOrder_cons (thn (h1 pins s σ H _ _ _ I r h) fun _ s1 ⟨σ1,H1,I1,q1⟩=> ?_)
  exact h2 pins s1 σ1 H1 _ _ Q I1 rr q1
def gTup (K:PySem.W.Frag) (n:Nat) (t:TGs):TG:=fun v σ H Q=>∃a xs,v= .ref a∧SqT K H a xs∧xs.length=n∧t xs σ H Q
theorem pg_tup {es:List Expr} {k:Nat} {t:TGs} {n:Nat} (hc:X.calm=true) (h:PGs X es t)
  (hn:(assignEach es X.env).length=n:=by rfl) (hst:(assignEach es X.env).findIdx? (·.1)=none:=by rfl):PG X (.Tuple es k pos) (gTup X.K n t):=by
 intro pins s σ H v u Q I r hw
 obtain ⟨a,xs,e1,hq,hl,hw⟩:=hw
 subst e1
 cases r
 obtain ⟨its,rv,ht,hz⟩:=I.tuple hq
 refine assign_Tuple_tuple (I.ok.hd hc) ht (by simp [hn,←hl,rv.length]) hst fun h' hx=> ?_
 have I1:Inv X pins σ H {s with heap:=h'}:=I.kept (t':=s.toks) fun b o e=>hx b o (Nat.ne_of_lt (Heap.lt_size e)) e
 exact h pins _ σ H xs _ Q I1 (by simpa using rv) hw
def tAsg (te:TE) (g:TG):TS:=fun D σ H=>te σ H fun x H1=>g x σ H1 D.nx
theorem ps_asg {tg e:Expr} {te:TE} {g:TG} (he:PE X e te) (hg:PG X tg g) (hs:swapsWithSole [tg] e pos.line X.env=pure false:=by rfl) (hw:swappedStores [tg] e X.env=pure none:=by rfl)
  (h1:(assignEach [tg] X.env).map (·.2)=[assign tg X.env]:=by rfl):PS X (.Assign [tg] e pos) (tAsg te g):=by
 intro pins s σ H D I h
 refine wpAny_Assign_stores (thn (he pins s σ H _ I h) fun v s1 ⟨x,H1,I1,r1,q1⟩=> ?_) hs hw
 rw [h1]
 exact thn (hg pins s1 σ H1 x v _ I1 r1 q1) fun _ s2 q=>q
theorem Aq {i:Nat} {x:Str} {e:Expr} {te:TE} {pos':Pos} (hN:X.N.Nodup) (hi:X.N[i]? =some x) (hx:Loc X.env.scope x) (he:PE X e te) (hs:swapsWith e (some (.Name x pos')) pos.line X.env=pure false:=by rfl) (hf:X.fn x=true∨X.env.scope.names.lookup x=some .local:=by first|exact .inl rfl|exact .inr rfl|assumption):
  PS X (.Assign [.Name x pos'] e pos) (tAsg te (gName i)):=by
 intro pins s σ H D I h
 refine wpAny_Assign_Name (thn (he pins s σ H _ I h) fun v s1 ⟨y,H1,I1,r1,q1⟩=> ?_) hs
 exact store_ok I1 hN hi hx r1 (fun s2 I2=>⟨_,H1,I2,q1⟩) hf
end
section
variable {X:Cx} {pos:Pos}
def tWhile (c:TT) (tb:TS):TS:=fun D σ H=>∃W:Nat→St→Hp→Prop,(∃m,W m σ H)∧∀m σ H,W m σ H→
 c σ H fun b H1=>if b=true then ∃N:St→Hp→Prop,(∀σ' H',N σ' H'→∃m',m'<m∧W m' σ' H')∧tb {D with nx:=N,ct:=N,bk:=D.nx} σ H1 else D.nx σ H1
theorem ps_while {c:Expr} {body:List Stmt} {tc:TT} {tb:TS} (hp:PassesOwn (model X.prog X.w) X.A X.env X.xe) (hc:PT X c tc) (hb:PSs X body tb):PS X (.While c body [] pos) (tWhile tc tb):=by
 intro pins s σ H D I h
 obtain ⟨W,⟨m0,w0⟩,turn⟩:=h
 refine wpAny_While (codeAny_whileLoop (fun n s'=>∃σ' H',Inv X pins σ' H' s'∧W n σ' H') ?_ m0 ⟨σ,H,I,w0⟩)
 rintro n s1 ⟨σ1,H1,I1,w1⟩
 refine wpAny_passesOwn hp (thn (hc pins s1 σ1 H1 _ I1 (turn n σ1 H1 w1)) fun b s2 ⟨H2,I2,q2⟩=> ?_)
 cases b with
 |true=>
  obtain ⟨N,hN,q2⟩:=q2
  rw [if_pos rfl]
  refine wpAny_passesOwn hp (thn (hb pins s2 σ1 H2 _ I2 q2) fun f s3 q3=> ?_)
  cases f with
  |next=>
   obtain ⟨σ3,H3,I3,n3⟩:=q3
   obtain ⟨m',hm,w3⟩:=hN σ3 H3 n3
   exact ⟨m',hm,σ3,H3,I3,w3⟩
  |cont=>
   obtain ⟨σ3,H3,I3,n3⟩:=q3
   obtain ⟨m',hm,w3⟩:=hN σ3 H3 n3
   exact ⟨m',hm,σ3,H3,I3,w3⟩
  |brk=>exact q3
  |ret v=>exact q3
 |false=>
  rw [if_neg Bool.false_ne_true]
  exact wpAny_execs_nil ⟨σ1,H2,I2,q2⟩
end
structure It where
 go:Nat→Hp→Prop
 yld:Nat→Hp→V→Hp→Prop
 stop:Nat→Hp→Prop
def FpOk (X:Cx) (pins:List (Addr×Obj)) (H:Hp) (b:Addr):Prop:=
 H b=none∧b≠X.env.locals∧b ∉ X.fs∧(b∈X.ex∨X.s₀.heap.objs.size≤b)∧(∀x c,X.env.cells.lookup x=some c→c≠b)∧∀p∈X.pn++pins,p.1≠b
theorem Inv.fpOk {X:Cx} {pins:List (Addr×Obj)} {σ:St} {H H':Hp} {s:Shared} {b:Addr} (I:Inv X pins σ H s) (hb:s.heap.objs.size≤b) (hn:H' b=none):FpOk X pins H' b:=by
 refine ⟨hn,Nat.ne_of_gt (Nat.lt_of_lt_of_le I.lt hb),I.nofs hb,.inr (Nat.le_trans I.sz hb),fun x c e z=> ?_,fun p hp z=> ?_⟩
 ·obtain ⟨v,q⟩:=I.cell x c e
  exact absurd (Nat.lt_of_lt_of_le q.lt (by rw [z];exact hb)) (Nat.lt_irrefl _)
 ·exact absurd (Nat.lt_of_lt_of_le (Heap.lt_size (I.pin p hp).1) (by rw [z];exact hb)) (Nat.lt_irrefl _)
structure Turn (P:Program) (w:World) (K:PySem.W.Frag) (tg:Expr) (J:It) (fp:List Addr) (it:Addr) (tn:Nat→Heap→Prop):Prop where
 mem:it∈fp
 obj:∀i h,tn i h→∀b∈fp,∃o,h.get? b=some o∧∀v,o.data≠ .cell v
 keep:∀i h h',tn i h→(∀b∈fp,∀o,h.get? b=some o→h'.get? b=some o)→tn i h'
 item:∀(X:Cx),X.prog=P→X.w=w→X.K=K→X.calm=true→∀(i:Nat) (pins:List (Addr×Obj)) (s:Shared) (σ:St) (H:Hp) (E:Value→Shared→Prop),Inv X pins σ H s→(∀b∈fp,FpOk X pins H b)→tn i s.heap→J.go i H→
  wpAny (model P w) X.A (pyNext (.ref it)) (fun r s1=>∃u,r=some u∧
   wpAny (model P w) X.A (letOwnedTupleGo tg (.ref it) u) (fun _ s2=>∃x H',Inv X pins σ H' s2∧RelV x u∧J.yld i H x H'∧tn (i+1) s2.heap∧∀b∈fp,H' b=none) E s1) E s
 done:∀(X:Cx),X.prog=P→X.w=w→X.K=K→X.calm=true→∀(i:Nat) (pins:List (Addr×Obj)) (s:Shared) (σ:St) (H:Hp) (E:Value→Shared→Prop),Inv X pins σ H s→(∀b∈fp,FpOk X pins H b)→tn i s.heap→J.stop i H→
  wpAny (model P w) X.A (pyNext (.ref it)) (fun r s1=>r=none∧Inv X pins σ H s1) E s
 self:∀(A:Around) (i:Nat) (s:Shared) (Q:Value→Shared→Prop) (E:Value→Shared→Prop),tn i s.heap→Q (.ref it) s→wpAny (model P w) A (pyIter (.ref it)) Q E s
abbrev TI:=St→Hp→(It→Hp→Prop)→Prop
def PIE (X:Cx) (pins:List (Addr×Obj)) (σ:St) (tg:Expr) (R:It→Hp→Prop) (itv:Value) (s2:Shared):Prop:=
 ∃(it:Addr) (fp:List Addr) (tn:Nat→Heap→Prop) (J:It) (H':Hp),itv= .ref it∧Inv X pins σ H' s2∧Turn X.prog X.w X.K tg J fp it tn∧tn 0 s2.heap∧(∀b∈fp,FpOk X pins H' b)∧R J H'
def PI (X:Cx) (tg iter:Expr) (wi:TI):Prop:=
 ∀(pins:List (Addr×Obj)) (s:Shared) (σ:St) (H:Hp) (R:It→Hp→Prop),Inv X pins σ H s→wi σ H R→
  wpAny (model X.prog X.w) X.A (eval iter X.env) (fun v s1=>wpAny (model X.prog X.w) X.A (pyIter v) (PIE X pins σ tg R) X.xe s1) X.xe s
theorem go_of {M:Model} {A:Around} {E:Value→Shared→Prop} {s:Shared} {tg:Expr} {it:Addr} {u:Value} {o:Obj} {n:String} {vs:Array Value} {Q:Unit→Shared→Prop} (ho:s.heap.get? it=some o) (hc:o.cls= .type n) (hd:o.data= .fields vs)
  (hn:["enumerate","zip","dict_itemiterator","dict_reverseitemiterator","odict_iterator","itertools.zip_longest","itertools.pairwise"].contains n=false) (hQ:Q () s):wpAny M A (letOwnedTupleGo tg (.ref it) u) Q E s:=by
 unfold letOwnedTupleGo
 cases tg<;> first
  |exact wpAny_pure hQ
  |(cases u<;> first
   |exact wpAny_pure hQ
   |(refine wpAny_bind (wpAny_load ho ?_)
     rw [hc,hd]
     show wpAny M A (if (["enumerate","zip","dict_itemiterator","dict_reverseitemiterator","odict_iterator","itertools.zip_longest","itertools.pairwise"].contains n && vs[0]? ==some (rawInt _))=true then _ else _) Q E s
     rw [if_neg (by intro h;rw [hn,Bool.false_and] at h;cases h)]
     exact wpAny_pure hQ))
def Itl (K:PySem.W.Frag) (a:Addr):It:=
 ⟨fun i H=>∃xs x,SqL K H a xs∧xs[i]? =some x,fun i H x H'=>H'=H∧∀xs,SqL K H a xs→xs[i]? =some x,fun i H=>∃xs,SqL K H a xs∧xs.length≤i⟩
def Itt (K:PySem.W.Frag) (a:Addr):It:=
 ⟨fun i H=>∃xs x,SqT K H a xs∧xs[i]? =some x,fun i H x H'=>H'=H∧∀xs,SqT K H a xs→xs[i]? =some x,fun i H=>∃xs,SqT K H a xs∧xs.length≤i⟩
def Itr (lo:Int) (n:Nat):It:=⟨fun i _=>i<n,fun i H x H'=>H'=H∧x= .int (lo+i),fun i _=>n≤i⟩
theorem turn_list {P:Program} {w:World} {K:PySem.W.Frag} {tg:Expr} (a it:Addr):Turn P w K tg (Itl K a) [it] it (fun i h=>h.IsListIter it a i) where
 mem:=by simp
 obj:=fun i h st b hb=>by
  have e:b=it:=by simpa using hb
  subst e
  obtain ⟨o,e,c,d⟩:=st
  exact ⟨o,e,fun v z=>by rw [d] at z;cases z⟩
 keep:=fun i h h' st k=>st.at fun o e=>k it (by simp) o e
 item:=by
  intro X hP hw hK hc i pins s σ H E I hf st hg
  subst hP hw hK
  obtain ⟨xs,x,hq,hx⟩:=hg
  obtain ⟨its,rv,p,hz⟩:=I.list hq
  obtain ⟨u,hu,ru⟩:=rv.get hx
  obtain ⟨f0,f1,f2,f3,f4,f5⟩:=hf it (by simp)
  refine wpAny_pyNext_list_item st p.isList (x:=u) (by simpa using hu) fun h' st' sb=> ?_
  have I1:Inv X pins σ H {s with heap:=h'}:=I.turned (t':=s.toks) (fun b o hb e=>(sb.2 b hb).trans e) f0 f1 f3 f4 f5
  obtain ⟨o,e,c,d⟩:=id st'
  exact ⟨u,rfl,go_of (s:={s with heap:=h'}) e c d (by decide) ⟨x,H,I1,ru,⟨rfl,fun ys hy=>by rw [I.list_inj hy hq];exact hx⟩,st',fun b hb=>(hf b hb).1⟩⟩
 done:=by
  intro X hP hw hK hc i pins s σ H E I hf st hg
  subst hP hw hK
  obtain ⟨xs,hq,hx⟩:=hg
  obtain ⟨its,rv,p,hz⟩:=I.list hq
  obtain ⟨f0,f1,f2,f3,f4,f5⟩:=hf it (by simp)
  have hl:=rv.length
  exact wpAny_pyNext_list_end (I.ok.hd hc) st p.isList (by simp;omega) fun h' eb=>⟨rfl,I.turned (t':=s.toks) (fun b o hb e=>eb b o hb e) f0 f1 f3 f4 f5⟩
 self:=fun _ _ _ _ _ st h=>wpAny_pyIter_listiter st h
theorem turn_tuple {P:Program} {w:World} {K:PySem.W.Frag} {tg:Expr} (a it:Addr):Turn P w K tg (Itt K a) [it] it (fun i h=>h.IsTupleIter it a i) where
 mem:=by simp
 obj:=fun i h st b hb=>by
  have e:b=it:=by simpa using hb
  subst e
  obtain ⟨o,e,c,d⟩:=st
  exact ⟨o,e,fun v z=>by rw [d] at z;cases z⟩
 keep:=fun i h h' st k=>st.at fun o e=>k it (by simp) o e
 item:=by
  intro X hP hw hK hc i pins s σ H E I hf st hg
  subst hP hw hK
  obtain ⟨xs,x,hq,hx⟩:=hg
  obtain ⟨its,rv,p,hz⟩:=I.tuple hq
  obtain ⟨u,hu,ru⟩:=rv.get hx
  obtain ⟨f0,f1,f2,f3,f4,f5⟩:=hf it (by simp)
  refine wpAny_pyNext_tuple_item st (show s.heap.IsTuple a its.toArray from p) (x:=u) (by simpa using hu) fun h' st' sb=> ?_
  have I1:Inv X pins σ H {s with heap:=h'}:=I.turned (t':=s.toks) (fun b o hb e=>(sb.2 b hb).trans e) f0 f1 f3 f4 f5
  obtain ⟨o,e,c,d⟩:=id st'
  exact ⟨u,rfl,go_of (s:={s with heap:=h'}) e c d (by decide) ⟨x,H,I1,ru,⟨rfl,fun ys hy=>by rw [I.tuple_inj hy hq];exact hx⟩,st',fun b hb=>(hf b hb).1⟩⟩
 done:=by
  intro X hP hw hK hc i pins s σ H E I hf st hg
  subst hP hw hK
  obtain ⟨xs,hq,hx⟩:=hg
  obtain ⟨its,rv,p,hz⟩:=I.tuple hq
  obtain ⟨f0,f1,f2,f3,f4,f5⟩:=hf it (by simp)
  have hl:=rv.length
  exact wpAny_pyNext_tuple_end (I.ok.hd hc) st (show s.heap.IsTuple a its.toArray from p) (by simp;omega) fun h' eb=>⟨rfl,I.turned (t':=s.toks) (fun b o hb e=>eb b o hb e) f0 f1 f3 f4 f5⟩
 self:=fun _ _ _ _ _ st h=>wpAny_pyIter_tupleiter st h
theorem turn_range {P:Program} {w:World} {K:PySem.W.Frag} {tg:Expr} (it:Addr) (lo:Int) (n:Nat):Turn P w K tg (Itr lo n) [it] it (fun i h=>IsRangeIter h it (lo+(i:Nat) * 1) ((n:Int) - (i:Nat)) 1) where
 mem:=by simp
 obj:=fun i h st b hb=>by
  have e:b=it:=by simpa using hb
  subst e
  exact ⟨_,st,fun v z=>by
   have z':Data.fields _=Data.cell v:=z
   cases z'⟩
 keep:=fun i h h' st k=>k it (by simp) _ st
 item:=by
  intro X hP hw hK hc i pins s σ H E I hf st hg
  subst hP hw hK
  obtain ⟨f0,f1,f2,f3,f4,f5⟩:=hf it (by simp)
  have W:=Walks.range (prog:=X.prog) (w:=X.w) (I.ok.hd hc) it lo 1 n
  refine W.item i s _ _ hg st fun v h' tk hv st' kk=> ?_
  obtain ⟨t,rfl⟩:=hv
  have I1:Inv X pins σ H {s with heap:=h',toks:=tk}:=I.turned (fun b o hb e=>kk b o (by simpa using hb) e) f0 f1 f3 f4 f5
  refine ⟨_,rfl,go_of (s:={s with heap:=h',toks:=tk}) (n:="range_iterator") st' rfl rfl (by decide) ⟨.int (lo+i),H,I1,⟨t,?_⟩,⟨rfl,rfl⟩,st',fun b hb=>(hf b hb).1⟩⟩
  rw [Int.mul_one]
 done:=by
  intro X hP hw hK hc i pins s σ H E I hf st hg
  subst hP hw hK
  obtain ⟨f0,f1,f2,f3,f4,f5⟩:=hf it (by simp)
  exact wpAny_pyNext_range_end (I.ok.hd hc) st (by have:n≤i:=hg;omega) fun h' eb=>⟨rfl,I.turned (t':=s.toks) (fun b o hb e=>eb b o hb e) f0 f1 f3 f4 f5⟩
 self:=fun _ _ _ _ _ st h=>wpAny_pyIter_rangeiter st h
end L2
namespace L2
open PySem PySem.Spec PyProof.Rows
section
variable {X:Cx} {tg:Expr}
def iList (K:PySem.W.Frag) (tl:TE):TI:=fun σ H R=>tl σ H fun x H1=>∃a,x= .ref a∧(∃xs,SqL K H1 a xs)∧R (Itl K a) H1
def iTup (K:PySem.W.Frag) (tl:TE):TI:=fun σ H R=>tl σ H fun x H1=>∃a,x= .ref a∧(∃xs,SqT K H1 a xs)∧R (Itt K a) H1
theorem pi_list {l:Expr} {tl:TE} (hl:PE X l tl):PI X tg l (iList X.K tl):=by
 intro pins s σ H R I h
 refine thn (hl pins s σ H _ I h) fun v s1 ⟨x,H1,I1,r1,q1⟩=> ?_
 obtain ⟨a,e,⟨xs,hq⟩,q⟩:=q1
 subst e
 cases r1
 obtain ⟨its,rv,p,hz⟩:=I1.list hq
 refine wpAny_pyIter_list p.isList ?_
 refine ⟨s1.heap.objs.size,[s1.heap.objs.size],_,_,H1,rfl,I1.kept (t':=s1.toks) fun b o e=>Heap.get?_push_of_some _ e,turn_list a _,⟨_,Heap.get?_push_size _ rfl,rfl,rfl⟩,fun b hb=> ?_,q⟩
 have e:b=s1.heap.objs.size:=by simpa using hb
 subst e
 exact I1.fpOk (Nat.le_refl _) (I1.hok.fresh (Nat.le_refl _))
theorem pi_tup {l:Expr} {tl:TE} (hl:PE X l tl):PI X tg l (iTup X.K tl):=by
 intro pins s σ H R I h
 refine thn (hl pins s σ H _ I h) fun v s1 ⟨x,H1,I1,r1,q1⟩=> ?_
 obtain ⟨a,e,⟨xs,hq⟩,q⟩:=q1
 subst e
 cases r1
 obtain ⟨its,rv,p,hz⟩:=I1.tuple hq
 refine wpAny_pyIter_tuple (show s1.heap.IsTuple a its.toArray from p) ?_
 refine ⟨s1.heap.objs.size,[s1.heap.objs.size],_,_,H1,rfl,I1.kept (t':=s1.toks) fun b o e=>Heap.get?_push_of_some _ e,turn_tuple a _,⟨_,Heap.get?_push_size _ rfl,rfl,rfl⟩,fun b hb=> ?_,q⟩
 have e:b=s1.heap.objs.size:=by simpa using hb
 subst e
 exact I1.fpOk (Nat.le_refl _) (I1.hok.fresh (Nat.le_refl _))
theorem range_it {pins:List (Addr×Obj)} {σ:St} {H:Hp} {s:Shared} {R:It→Hp→Prop} {E:Value→Shared→Prop} {lo hi:Int} {t u v:Tok} {tk:Nat} (I:Inv X pins σ H s) (h1: -(2 ^ 62)≤lo) (h2:lo<2 ^ 62) (h3: -(2 ^ 62)≤hi) (h4:hi<2 ^ 62)
  (q:R (Itr lo (hi - lo).toNat) H):wpAny (model X.prog X.w) X.A (pyIter (.ref s.heap.objs.size)) (PIE X pins σ tg R) E {s with heap:=s.heap.push {cls:= .type "range",data:= .fields #[.int lo t,.int hi u,.int 1 v]},toks:=tk}:=by
 refine wpAny_pyIter_range (IsRange.new ..) (small_one h1 h2 h3 h4) ?_
 have I1:Inv X pins σ H {s with heap:=s.heap.push {cls:= .type "range",data:= .fields #[.int lo t,.int hi u,.int 1 v]},toks:=tk}:=I.kept fun b o e=>Heap.get?_push_of_some _ e
 refine ⟨(s.heap.push {cls:= .type "range",data:= .fields #[.int lo t,.int hi u,.int 1 v]}).objs.size,[(s.heap.push {cls:= .type "range",data:= .fields #[.int lo t,.int hi u,.int 1 v]}).objs.size],_,_,H,rfl,
  I1.kept (t':=tk) fun b o e=>Heap.get?_push_of_some _ e,turn_range _ lo (hi - lo).toNat,?_,fun b hb=> ?_,q⟩
 ·have e1:lo+((0:Nat):Int) * 1=lo:=by simp
  have e2:(((hi - lo).toNat:Nat):Int) - ((0:Nat):Int)=Builtin.Range.rangeSize lo hi 1:=by rw [rangeSize_one];split<;> omega
  show IsRangeIter _ _ (lo+((0:Nat):Int) * 1) ((((hi - lo).toNat:Nat):Int) - ((0:Nat):Int)) 1
  rw [e1,e2]
  exact Heap.get?_push_size _ rfl
 ·have e:b=(s.heap.push {cls:= .type "range",data:= .fields #[.int lo t,.int hi u,.int 1 v]}).objs.size:=by simpa using hb
  subst e
  exact I1.fpOk (Nat.le_refl _) (I1.hok.fresh (Nat.le_refl _))
def iRng1 (ta:TA):TI:=fun σ H R=>ta σ H fun vs H1=>∃j:Int,vs=[.int j]∧ -(2 ^ 62)≤j∧j<2 ^ 62∧R (Itr 0 j.toNat) H1
theorem pi_range1 {a:Expr} {ta:TA} {p pos:Pos} (hg:Gl X "range") (hm:X.mg "range"=none) (ha:PA X [a] ta) (hs:starEach [a] X.env=[(false,eval a X.env)]:=by rfl):PI X tg (.Call (.Name "range" p) [a] [] pos) (iRng1 ta):=by
 intro pins s σ H R I h
 refine Call_ (ld_blt I hg hm boot_range (PyProof.Rows.callWith_type1 (thn (ha pos pins s σ H _ I h) fun us s1 ⟨vs,H1,I1,r1,q1⟩=> ?_) hs rfl))
 obtain ⟨j,e,q1,q2,q⟩:=q1
 subst e
 cases r1 with
 |cons r rr=>
  cases rr
  obtain ⟨t,rfl⟩:=r
  exact call_range_1 (range_it I1 (by decide) (by decide) q1 q2 (by simpa using q))
def tFor (wi:TI) (g:TG) (tb:TS):TS:=fun D σ H=>wi σ H fun J H1=>∃W:Nat→Nat→St→Hp→Prop,(∃m,W 0 m σ H1)∧∀i m σ H,W i m σ H→
 (J.stop i H∧D.nx σ H)∨(J.go i H∧∃N:St→Hp→Prop,(∀σ' H',N σ' H'→∃m',m'<m∧W (i+1) m' σ' H')∧∀x H',J.yld i H x H'→g x σ H' fun σ2 H2=>tb {D with nx:=N,ct:=N,bk:=D.nx} σ2 H2)
def pinsAt (fp:List Addr) (h:Heap):List (Addr×Obj):=fp.filterMap fun b=>(h.get? b).map fun o=>(b,o)
theorem mem_pinsAt {fp:List Addr} {h:Heap} {b:Addr} {o:Obj} (hb:b∈fp) (e:h.get? b=some o):(b,o)∈pinsAt fp h:=List.mem_filterMap.mpr ⟨b,hb,by rw [e];rfl⟩
theorem of_pinsAt {fp:List Addr} {h:Heap} {p:Addr×Obj} (hp:p∈pinsAt fp h):p.1∈fp∧h.get? p.1=some p.2:=by
 obtain ⟨b,hb,e⟩:=List.mem_filterMap.mp hp
 cases q:h.get? b with
 |none=>rw [q] at e;cases e
 |some o=>
  rw [q] at e
  have e':(b,o)=p:=Option.some.inj e
  subst e'
  exact ⟨hb,q⟩
theorem Inv.pinned {pins:List (Addr×Obj)} {σ:St} {H:Hp} {s:Shared} {fp:List Addr} (I:Inv X pins σ H s) (hf:∀b∈fp,FpOk X pins H b) (ho:∀b∈fp,∃o,s.heap.get? b=some o∧∀v,o.data≠ .cell v):Inv X (pins++pinsAt fp s.heap) σ H s:=
 I.pins_of fun p hp=>(List.mem_append.mp hp).elim (fun z=>I.pin p (List.mem_append_right _ z)) fun z=>by
  obtain ⟨hb,e⟩:=of_pinsAt z
  obtain ⟨f0,f1,f2,_⟩:=hf p.1 hb
  obtain ⟨o,e',d⟩:=ho p.1 hb
  rw [e] at e';cases e'
  exact ⟨e,f0,f1,f2,d⟩
theorem Inv.unpinned {pins pl:List (Addr×Obj)} {σ:St} {H:Hp} {s:Shared} (I:Inv X (pins++pl) σ H s):Inv X pins σ H s:=I.pins_of fun p hp=>I.pin p (List.mem_append_right _ (List.mem_append_left _ hp))
theorem ps_for {iter:Expr} {body:List Stmt} {wi:TI} {g:TG} {tb:TS} {pos:Pos} (hp:PassesOwn (model X.prog X.w) X.A X.env X.xe) (hc:X.calm=true) (hi:PI X tg iter wi) (hg:PG X tg g) (hb:PSs X body tb)
  (hs:∀x,foldedSetIterable iter X.env x=pure x:=by intro _;rfl):PS X (.For tg iter body [] pos) (tFor wi g tb):=by
 intro pins s σ H D I h
 refine wpAny_For (thn (hi pins s σ H _ I h) fun v s1 h1=>thn h1 fun itv s2 h2=> ?_) hs
 obtain ⟨it,fp,tn,J,H2,e,I2,T,st2,f2,W,⟨m0,w0⟩,turn⟩:=h2
 subst e
 have stat:∀{H':Hp},(∀b∈fp,H' b=none)→∀b∈fp,FpOk X pins H' b:=fun hn b hb=>⟨hn b hb,(f2 b hb).2⟩
 refine codeAny_forLoop_any (fun n s'=>∃i σ' H',Inv X pins σ' H' s'∧tn i s'.heap∧(∀b∈fp,H' b=none)∧W i n σ' H') ?_ m0 ⟨0,σ,H2,I2,st2,fun b hb=>(f2 b hb).1,w0⟩
 rintro n s3 ⟨i,σ3,H3,I3,st3,fr3,w3⟩
 rcases turn i n σ3 H3 w3 with ⟨stop,qn⟩|⟨go,N,hN,step⟩
 ·refine wpAny_passesOwn hp (thn (T.done X rfl rfl rfl hc i pins s3 σ3 H3 X.xe I3 (stat fr3) st3 stop) fun r s4 ⟨hr,I4⟩=> ?_)
  subst hr
  exact wpAny_execs_nil ⟨σ3,H3,I4,qn⟩
 ·refine wpAny_passesOwn hp (thn (T.item X rfl rfl rfl hc i pins s3 σ3 H3 X.xe I3 (stat fr3) st3 go) fun r s4 ⟨u,hr,h4⟩=> ?_)
  subst hr
  refine wpAny_passesOwn hp (thn h4 fun _ s5 ⟨x,H5,I5,r5,y5,st5,fr5⟩=> ?_)
  have I5':=I5.pinned (stat fr5) (T.obj _ _ st5)
  refine wpAny_passesOwn hp (thn (hg _ s5 σ3 H5 x u _ I5' r5 (step x H5 y5)) fun _ s6 ⟨σ6,H6,I6,q6⟩=> ?_)
  refine wpAny_passesOwn hp (thn (hb _ s6 σ6 H6 _ I6 q6) fun f s7 q7=> ?_)
  have again:∀{σ7:St} {H7:Hp},Inv X (pins++pinsAt fp s5.heap) σ7 H7 s7→N σ7 H7→∃m,m<n∧∃i σ' H',Inv X pins σ' H' s7∧tn i s7.heap∧(∀b∈fp,H' b=none)∧W i m σ' H':=fun {σ7 H7} I7 n7=>by
   obtain ⟨m',hm,w7⟩:=hN σ7 H7 n7
   refine ⟨m',hm,i+1,σ7,H7,I7.unpinned,T.keep _ _ _ st5 fun b hb o e=>(I7.pin (b,o) (List.mem_append_right _ (List.mem_append_right _ (mem_pinsAt hb e)))).1,fun b hb=> ?_,w7⟩
   obtain ⟨o,e,d⟩:=T.obj _ _ st5 b hb
   exact (I7.pin (b,o) (List.mem_append_right _ (List.mem_append_right _ (mem_pinsAt hb e)))).2.1
  cases f with
  |next=>obtain ⟨σ7,H7,I7,n7⟩:=q7;exact again I7 n7
  |cont=>obtain ⟨σ7,H7,I7,n7⟩:=q7;exact again I7 n7
  |brk=>obtain ⟨σ7,H7,I7,q7⟩:=q7;exact ⟨σ7,H7,I7.unpinned,q7⟩
  |ret v=>obtain ⟨x7,σ7,H7,I7,r7,q7⟩:=q7;exact ⟨x7,σ7,H7,I7.unpinned,r7,q7⟩
end
theorem for_list {K:PySem.W.Frag} {a:Addr} {xs:List V} {g:TG} {tb:TS} {D:Ends} {σ:St} {H:Hp} (Pv:Nat→St→Hp→Prop) (h0:Pv 0 σ H) (hl:∀i σ H,i≤xs.length→Pv i σ H→SqL K H a xs)
  (hs:∀i x σ H,xs[i]? =some x→Pv i σ H→g x σ H fun σ2 H2=>tb {D with nx:=Pv (i+1),ct:=Pv (i+1),bk:=D.nx} σ2 H2) (hd:∀σ H,Pv xs.length σ H→D.nx σ H):
  ∃W:Nat→Nat→St→Hp→Prop,(∃m,W 0 m σ H)∧∀i m σ H,W i m σ H→
   ((Itl K a).stop i H∧D.nx σ H)∨((Itl K a).go i H∧∃N:St→Hp→Prop,(∀σ' H',N σ' H'→∃m',m'<m∧W (i+1) m' σ' H')∧∀x H',(Itl K a).yld i H x H'→g x σ H' fun σ2 H2=>tb {D with nx:=N,ct:=N,bk:=D.nx} σ2 H2):=by
 refine ⟨fun i m σ H=>m=xs.length - i∧i≤xs.length∧Pv i σ H,⟨xs.length,by simp,Nat.zero_le _,h0⟩,?_⟩
 rintro i m σ H ⟨rfl,hi,p⟩
 have q:=hl i σ H hi p
 by_cases hlt:i<xs.length
 ·refine .inr ⟨⟨xs,xs[i],q,by simp [hlt]⟩,Pv (i+1),fun σ' H' p'=>⟨xs.length - (i+1),by omega,rfl,hlt,p'⟩,fun x H' y=> ?_⟩
  obtain ⟨e,y⟩:=y
  subst e
  exact hs i x σ _ (y xs q) p
 ·have e:i=xs.length:=by omega
  subst e
  exact .inl ⟨⟨xs,q,Nat.le_refl _⟩,hd σ H p⟩
theorem for_tup {K:PySem.W.Frag} {a:Addr} {xs:List V} {g:TG} {tb:TS} {D:Ends} {σ:St} {H:Hp} (Pv:Nat→St→Hp→Prop) (h0:Pv 0 σ H) (hl:∀i σ H,i≤xs.length→Pv i σ H→SqT K H a xs)
  (hs:∀i x σ H,xs[i]? =some x→Pv i σ H→g x σ H fun σ2 H2=>tb {D with nx:=Pv (i+1),ct:=Pv (i+1),bk:=D.nx} σ2 H2) (hd:∀σ H,Pv xs.length σ H→D.nx σ H):
  ∃W:Nat→Nat→St→Hp→Prop,(∃m,W 0 m σ H)∧∀i m σ H,W i m σ H→
   ((Itt K a).stop i H∧D.nx σ H)∨((Itt K a).go i H∧∃N:St→Hp→Prop,(∀σ' H',N σ' H'→∃m',m'<m∧W (i+1) m' σ' H')∧∀x H',(Itt K a).yld i H x H'→g x σ H' fun σ2 H2=>tb {D with nx:=N,ct:=N,bk:=D.nx} σ2 H2):=by
 refine ⟨fun i m σ H=>m=xs.length - i∧i≤xs.length∧Pv i σ H,⟨xs.length,by simp,Nat.zero_le _,h0⟩,?_⟩
 rintro i m σ H ⟨rfl,hi,p⟩
 have q:=hl i σ H hi p
 by_cases hlt:i<xs.length
 ·refine .inr ⟨⟨xs,xs[i],q,by simp [hlt]⟩,Pv (i+1),fun σ' H' p'=>⟨xs.length - (i+1),by omega,rfl,hlt,p'⟩,fun x H' y=> ?_⟩
  obtain ⟨e,y⟩:=y
  subst e
  exact hs i x σ _ (y xs q) p
 ·have e:i=xs.length:=by omega
  subst e
  exact .inl ⟨⟨xs,q,Nat.le_refl _⟩,hd σ H p⟩
theorem for_range {lo:Int} {n:Nat} {g:TG} {tb:TS} {D:Ends} {σ:St} {H:Hp} (Pv:Nat→St→Hp→Prop) (h0:Pv 0 σ H)
  (hs:∀i σ H,i<n→Pv i σ H→g (.int (lo+i)) σ H fun σ2 H2=>tb {D with nx:=Pv (i+1),ct:=Pv (i+1),bk:=D.nx} σ2 H2) (hd:∀σ H,Pv n σ H→D.nx σ H):
  ∃W:Nat→Nat→St→Hp→Prop,(∃m,W 0 m σ H)∧∀i m σ H,W i m σ H→
   ((Itr lo n).stop i H∧D.nx σ H)∨((Itr lo n).go i H∧∃N:St→Hp→Prop,(∀σ' H',N σ' H'→∃m',m'<m∧W (i+1) m' σ' H')∧∀x H',(Itr lo n).yld i H x H'→g x σ H' fun σ2 H2=>tb {D with nx:=N,ct:=N,bk:=D.nx} σ2 H2):=by
 refine ⟨fun i m σ H=>m=n - i∧i≤n∧Pv i σ H,⟨n,by simp,Nat.zero_le _,h0⟩,?_⟩
 rintro i m σ H ⟨rfl,hi,p⟩
 by_cases hlt:i<n
 ·refine .inr ⟨hlt,Pv (i+1),fun σ' H' p'=>⟨n - (i+1),by omega,rfl,hlt,p'⟩,fun x H' y=> ?_⟩
  obtain ⟨e,y⟩:=y
  subst e y
  exact hs i σ _ hlt p
 ·have e:i=n:=by omega
  subst e
  exact .inl ⟨Nat.le_refl _,hd σ H p⟩
end L2
namespace L2
open PySem PySem.Spec PyProof.Rows
abbrev R2:=V→V→Hp→VK→Prop
def OpR (X:Cx) (f:Value→Value→Sem Value) (r:R2):Prop:=
 ∀(pins:List (Addr×Obj)) (s:Shared) (σ:St) (H:Hp) (x y:V) (v u:Value) (Q:VK),Inv X pins σ H s→RelV x v→RelV y u→r x y H Q→
  wpAny (model X.prog X.w) X.A (f v u) (EP X pins σ Q) X.xe s
def UnR (X:Cx) (f:Value→Sem Value) (r:V→Hp→VK→Prop):Prop:=
 ∀(pins:List (Addr×Obj)) (s:Shared) (σ:St) (H:Hp) (x:V) (v:Value) (Q:VK),Inv X pins σ H s→RelV x v→r x H Q→
  wpAny (model X.prog X.w) X.A (f v) (EP X pins σ Q) X.xe s
def CallR (X:Cx) (f:Value) (r:List V→Hp→VK→Prop):Prop:=
 ∀(pins:List (Addr×Obj)) (s:Shared) (σ:St) (H:Hp) (xs:List V) (us:List Value) (Q:VK),Inv X pins σ H s→Vals xs us→r xs H Q→
  wpAny (model X.prog X.w) X.A (call f us) (EP X pins σ Q) X.xe s
def tOp (r:R2) (ta tb:TE):TE:=fun σ H Q=>ta σ H fun x H1=>tb σ H1 fun y H2=>r x y H2 Q
def tUn (r:V→Hp→VK→Prop) (ta:TE):TE:=fun σ H Q=>ta σ H fun x H1=>r x H1 Q
inductive RIP (C:Int→Int→Prop) (g:Int→Int→V) (x:V) (y:V) (H:Hp) (Q:VK):Prop
 |mk (i j:_):(x= .int i)→(y= .int j)→(C i j)→(Q (g i j) H)→RIP C g x y H Q
def rI (C:Int→Int→Prop) (g:Int→Int→V):R2:=fun x y H Q=>RIP C g x y H Q
inductive RI0P (g:Int→Int→V) (x:V) (y:V) (H:Hp) (Q:VK):Prop
 |mk (i j:_):(x= .int i)→(y= .int j)→(Q (g i j) H)→RI0P g x y H Q
def rI0 (g:Int→Int→V):R2:=fun x y H Q=>RI0P g x y H Q
inductive RUP (g:Int→V) (x:V) (H:Hp) (Q:VK):Prop
 |mk (i:_):(x= .int i)→(Q (g i) H)→RUP g x H Q
def rU (g:Int→V):V→Hp→VK→Prop:=fun x H Q=>RUP g x H Q
section
variable {X:Cx} {a b c:Expr} {ta tb tc:TE} {pos:Pos}
theorem binT (ha:PE X a ta) (hb:PE X b tb) {pins:List (Addr×Obj)} {s:Shared} {σ:St} {H:Hp} {R:V→V→Hp→Prop} (I:Inv X pins σ H s)
  (h:ta σ H fun x H1=>tb σ H1 fun y H2=>R x y H2) {Q:Value→Shared→Prop} {f:Value→Value→Sem Value}
  (hf:∀v u s2 x y H2,Inv X pins σ H2 s2→RelV x v→RelV y u→R x y H2→wpAny (model X.prog X.w) X.A (f v u) Q X.xe s2):
  wpAny (model X.prog X.w) X.A (eval a X.env) (fun v s₁=>wpAny (model X.prog X.w) X.A (eval b X.env) (fun u s₂=>wpAny (model X.prog X.w) X.A (f v u) Q X.xe s₂) X.xe s₁) X.xe s:=by
 refine thn (ha pins s σ H _ I h) fun v s1 ⟨x,H1,I1,r1,q1⟩=> ?_
 refine thn (hb pins s1 σ H1 _ I1 q1) fun u s2 ⟨y,H2,I2,r2,q2⟩=> ?_
 exact hf v u s2 x y H2 I2 r1 r2 q2
theorem Al {op:Operator} {r:R2} (ho:OpR X (binaryOp op) r) (ha:PE X a ta) (hb:PE X b tb):PE X (.BinOp a op b pos) (tOp r ta tb):=by
 intro pins s σ H Q I h
 exact wpAny_BinOp (binT ha hb I h fun v u s2 x y H2 I2 rx ry q=>ho pins s2 σ H2 x y v u Q I2 rx ry q)
theorem pe_un {op:UnaryOp} {r:V→Hp→VK→Prop} (ho:UnR X (unaryOp op) r) (ha:PE X a ta):PE X (.UnaryOp op a pos) (tUn r ta):=by
 intro pins s σ H Q I h
 exact UnaryOp_ (thn (ha pins s σ H _ I h) fun v s1 ⟨x,H1,I1,r1,q1⟩=>ho pins s1 σ H1 x v Q I1 r1 q1)
theorem opI {f:Value→Value→Sem Value} {C:Int→Int→Prop} {g:Int→Int→Int}
  (rule:∀(i j:Int) (t u:Tok) (s:Shared) (Q:Value→Shared→Prop) (E:Value→Shared→Prop),C i j→Q (.int (g i j) s.toks) {s with toks:=s.toks+1}→wpAny (model X.prog X.w) X.A (f (.int i t) (.int j u)) Q E s):
  OpR X f (rI C fun i j=> .int (g i j)):=by
 intro pins s σ H x y v u Q I rx ry h
 obtain ⟨i,j,rfl,rfl,hc,q⟩:=h
 obtain ⟨t,rfl⟩:=rx
 obtain ⟨t',rfl⟩:=ry
 exact rule i j t t' s _ _ hc ⟨.int (g i j),H,I.tok _,⟨_,rfl⟩,q⟩
theorem opI0 {f:Value→Value→Sem Value} {g:Int→Int→Int}
  (rule:∀(i j:Int) (t u:Tok) (s:Shared) (Q:Value→Shared→Prop) (E:Value→Shared→Prop),Q (.int (g i j) s.toks) {s with toks:=s.toks+1}→wpAny (model X.prog X.w) X.A (f (.int i t) (.int j u)) Q E s):
  OpR X f (rI0 fun i j=> .int (g i j)):=by
 intro pins s σ H x y v u Q I rx ry h
 obtain ⟨i,j,rfl,rfl,q⟩:=h
 obtain ⟨t,rfl⟩:=rx
 obtain ⟨t',rfl⟩:=ry
 exact rule i j t t' s _ _ ⟨.int (g i j),H,I.tok _,⟨_,rfl⟩,q⟩
theorem opB0 {f:Value→Value→Sem Value} {g:Int→Int→Bool}
  (rule:∀(i j:Int) (t u:Tok) (s:Shared) (Q:Value→Shared→Prop) (E:Value→Shared→Prop),Q (.bool (g i j)) s→wpAny (model X.prog X.w) X.A (f (.int i t) (.int j u)) Q E s):
  OpR X f (rI0 fun i j=> .bl (g i j)):=by
 intro pins s σ H x y v u Q I rx ry h
 obtain ⟨i,j,rfl,rfl,q⟩:=h
 obtain ⟨t,rfl⟩:=rx
 obtain ⟨t',rfl⟩:=ry
 exact rule i j t t' s _ _ ⟨.bl (g i j),H,I,rfl,q⟩
def CDiv (i j:Int):Prop:=0<j∧j<1073741824
def CPow (i j:Int):Prop:=0≤j∧j≤1000000∧i.natAbs<2 ^ 64
def CMul (i j:Int):Prop:=(-(2 ^ 64)<i∧i<2 ^ 64)∨(-(2 ^ 64)<j∧j<2 ^ 64)
theorem CMul.ok {i j:Int} (h:CMul i j):IntMulOk i j:=by
 rcases h with ⟨h1,h2⟩|⟨h1,h2⟩
 ·exact .of_left (intBits_le_64 h1 h2)
 ·exact .of_right (intBits_le_64 h1 h2)
theorem A7:OpR X (binaryOp .Add) (rI0 fun i j=> .int (i+j)):=opI0 fun _ _ _ _ _ _ _ q=>add_int q
theorem op_sub:OpR X (binaryOp .Sub) (rI0 fun i j=> .int (i - j)):=opI0 fun _ _ _ _ _ _ _ q=>sub_int q
theorem op_mul:OpR X (binaryOp .Mult) (rI CMul fun i j=> .int (i * j)):=opI fun _ _ _ _ _ _ _ hc q=>mul_int q hc.ok
theorem op_fdiv:OpR X (binaryOp .FloorDiv) (rI CDiv fun i j=> .int (i / j)):=opI fun i j _ _ _ _ _ hc q=>by
 have h1:(0:Int)<j:=hc.1
 have h2:j<1073741824:=hc.2
 exact floordiv_int (by omega) (by rw [Int.fdiv_eq_ediv_of_nonneg i (by omega)];exact q) (.inl (PyProof.noPylong_small (by omega)))
theorem op_mod:OpR X (binaryOp .Mod) (rI (fun _ j=>0<j) fun i j=> .int (i % j)):=opI fun i j _ _ _ _ _ hc q=>by
 have h1:(0:Int)<j:=hc
 exact mod_int' (by omega) (by rw [Int.fmod_eq_emod_of_nonneg i (by omega)];exact q)
theorem op_pow:OpR X (binaryOp .Pow) (rI CPow fun i j=> .int (i ^ j.toNat)):=opI fun _ _ _ _ _ _ _ hc q=>pow_int_small hc.1 hc.2.1 hc.2.2 q
theorem unI {f:Value→Sem Value} {g:Int→Int}
  (rule:∀(i:Int) (t:Tok) (s:Shared) (Q:Value→Shared→Prop) (E:Value→Shared→Prop),Q (.int (g i) s.toks) {s with toks:=s.toks+1}→wpAny (model X.prog X.w) X.A (f (.int i t)) Q E s):
  UnR X f (rU fun i=> .int (g i)):=by
 intro pins s σ H x v Q I rx h
 obtain ⟨i,rfl,q⟩:=h
 obtain ⟨t,rfl⟩:=rx
 exact rule i t s _ _ ⟨.int (g i),H,I.tok _,⟨_,rfl⟩,q⟩
theorem un_neg:UnR X (unaryOp .USub) (rU fun i=> .int (-i)):=unI fun _ _ _ _ _ q=>neg_int q
end
def scal:V→V→Bool
 | .non,.non=>true| .non,.int _=>true| .int _,.non=>true| .non,.bl _=>true| .bl _,.non=>true| .non,.str _=>true| .str _,.non=>true
 | .int _,.int _=>true| .bl _,.bl _=>true| .str _,.str _=>true| .byt _,.byt _=>true
 | .int _,.str _=>true| .str _,.int _=>true| .bl _,.str _=>true| .str _,.bl _=>true
 |_,_=>false
def rEq:R2:=fun x y H Q=>scal x y=true∧Q (.bl (decide (x=y))) H
def rNe:R2:=fun x y H Q=>scal x y=true∧Q (.bl (!decide (x=y))) H
theorem dec_int {i j:Int}:decide (V.int i=V.int j)=(i==j):=by
 rw [Bool.eq_iff_iff]
 simp
theorem dec_bl {i j:Bool}:decide (V.bl i=V.bl j)=(i==j):=by
 rw [Bool.eq_iff_iff]
 simp
theorem dec_str {i j:Str}:decide (V.str i=V.str j)=(i==j):=by
 rw [Bool.eq_iff_iff]
 simp
theorem dec_byt {i j:Array UInt8}:decide (V.byt i=V.byt j)=(i.toList==j.toList):=by
 rw [Bool.eq_iff_iff]
 cases i
 cases j
 simp
section
variable {X:Cx} {a b c:Expr} {ta tb tc:TE} {pos:Pos}
theorem As {pins:List (Addr×Obj)} {σ:St} {H:Hp} {s:Shared} {Q:VK} {k k':Bool} (I:Inv X pins σ H s) (q:Q (.bl k) H) (e:k=k'):EP X pins σ Q (.bool k') s:=by
 subst e
 exact ⟨.bl k,H,I,rfl,q⟩
theorem op_eq:OpR X (compareOp .Eq) rEq:=by
 intro pins s σ H x y v u Q I rx ry h
 obtain ⟨hs,q⟩:=h
 cases x with
 |non=>
  cases rx
  cases y with
  |non=>cases ry;exact PySem.EqNone.eq_none_none (As I q (by simp))
  |bl j=>cases ry;exact PySem.EqNone.eq_none_bool (As I q (by simp))
  |int j=>obtain ⟨t',rfl⟩:=ry;exact PySem.EqNone.eq_none_int (As I q (by simp))
  |str j=>obtain ⟨t',rfl⟩:=ry;exact PySem.EqNone.eq_none_str (As I q (by simp))
  |_=>exact absurd (show false=true from hs) Bool.false_ne_true
 |bl i=>
  cases rx
  cases y with
  |non=>cases ry;exact PySem.EqNone.eq_bool_none (As I q (by simp))
  |bl j=>cases ry;exact eq_bool (As I q dec_bl)
  |str j=>obtain ⟨t',rfl⟩:=ry;exact PySem.EqMixed.eq_bool_str (As I q (by simp))
  |_=>exact absurd (show false=true from hs) Bool.false_ne_true
 |int i=>
  obtain ⟨t,rfl⟩:=rx
  cases y with
  |non=>cases ry;exact PySem.EqNone.eq_int_none (As I q (by simp))
  |int j=>obtain ⟨t',rfl⟩:=ry;exact eq_int (As I q dec_int)
  |str j=>obtain ⟨t',rfl⟩:=ry;exact PySem.EqMixed.eq_int_str (As I q (by simp))
  |_=>exact absurd (show false=true from hs) Bool.false_ne_true
 |str i=>
  obtain ⟨t,rfl⟩:=rx
  cases y with
  |non=>cases ry;exact PySem.EqNone.eq_str_none (As I q (by simp))
  |bl j=>cases ry;exact PySem.EqMixed.eq_str_bool (As I q (by simp))
  |int j=>obtain ⟨t',rfl⟩:=ry;exact PySem.EqMixed.eq_str_int (As I q (by simp))
  |str j=>obtain ⟨t',rfl⟩:=ry;exact eq_str (As I q dec_str)
  |_=>exact absurd (show false=true from hs) Bool.false_ne_true
 |byt i=>
  obtain ⟨t,rfl⟩:=rx
  cases y with
  |byt j=>obtain ⟨t',rfl⟩:=ry;exact PySem.W.eq_bytes (As I q dec_byt)
  |_=>exact absurd (show false=true from hs) Bool.false_ne_true
 |_=>cases y<;> exact absurd (show false=true from hs) Bool.false_ne_true
theorem op_ne:OpR X (compareOp .NotEq) rNe:=by
 intro pins s σ H x y v u Q I rx ry h
 obtain ⟨hs,q⟩:=h
 cases x with
 |non=>
  cases rx
  cases y with
  |non=>cases ry;exact PySem.EqNone.ne_none_none (As I q (by simp))
  |bl j=>cases ry;exact PySem.EqNone.ne_none_bool (As I q (by simp))
  |int j=>obtain ⟨t',rfl⟩:=ry;exact PySem.EqNone.ne_none_int (As I q (by simp))
  |str j=>obtain ⟨t',rfl⟩:=ry;exact PySem.EqNone.ne_none_str (As I q (by simp))
  |_=>exact absurd (show false=true from hs) Bool.false_ne_true
 |bl i=>
  cases rx
  cases y with
  |non=>cases ry;exact PySem.EqNone.ne_bool_none (As I q (by simp))
  |bl j=>cases ry;exact ne_bool (As I q (congrArg not dec_bl))
  |str j=>obtain ⟨t',rfl⟩:=ry;exact PySem.EqMixed.ne_bool_str (As I q (by simp))
  |_=>exact absurd (show false=true from hs) Bool.false_ne_true
 |int i=>
  obtain ⟨t,rfl⟩:=rx
  cases y with
  |non=>cases ry;exact PySem.EqNone.ne_int_none (As I q (by simp))
  |int j=>obtain ⟨t',rfl⟩:=ry;exact ne_int (As I q (congrArg not dec_int))
  |str j=>obtain ⟨t',rfl⟩:=ry;exact PySem.EqMixed.ne_int_str (As I q (by simp))
  |_=>exact absurd (show false=true from hs) Bool.false_ne_true
 |str i=>
  obtain ⟨t,rfl⟩:=rx
  cases y with
  |non=>cases ry;exact PySem.EqNone.ne_str_none (As I q (by simp))
  |bl j=>cases ry;exact PySem.EqMixed.ne_str_bool (As I q (by simp))
  |int j=>obtain ⟨t',rfl⟩:=ry;exact PySem.EqMixed.ne_str_int (As I q (by simp))
  |str j=>obtain ⟨t',rfl⟩:=ry;exact ne_str (As I q (congrArg not dec_str))
  |_=>exact absurd (show false=true from hs) Bool.false_ne_true
 |byt i=>
  obtain ⟨t,rfl⟩:=rx
  cases y with
  |byt j=>obtain ⟨t',rfl⟩:=ry;exact PySem.W.ne_bytes (As I q (congrArg not dec_byt))
  |_=>exact absurd (show false=true from hs) Bool.false_ne_true
 |_=>cases y<;> exact absurd (show false=true from hs) Bool.false_ne_true
theorem op_lt:OpR X (compareOp .Lt) (rI0 fun i j=> .bl (decide (i<j))):=opB0 fun _ _ _ _ _ _ _ q=>lt_int q
theorem op_le:OpR X (compareOp .LtE) (rI0 fun i j=> .bl (decide (i≤j))):=opB0 fun _ _ _ _ _ _ _ q=>le_int q
theorem op_gt:OpR X (compareOp .Gt) (rI0 fun i j=> .bl (decide (j<i))):=opB0 fun _ _ _ _ _ _ _ q=>gt_int q
theorem op_ge:OpR X (compareOp .GtE) (rI0 fun i j=> .bl (decide (j≤i))):=opB0 fun _ _ _ _ _ _ _ q=>ge_int q
theorem op_isN:OpR X (compareOp .Is) (fun x y H Q=>y= .non∧Q (.bl (decide (x= .non))) H):=by
 intro pins s σ H x y v u Q I rx ry h
 obtain ⟨rfl,q⟩:=h
 cases ry
 refine is_none_gen (As I q ?_)
 cases x<;> first
  |(cases rx;rfl)
  |(obtain ⟨t,rfl⟩:=rx;rfl)
theorem Ap (b:Expr) {op:CmpOp} (h:op≠ .In:=by decide) (h2:op≠ .NotIn:=by decide):behindInMarks op b=false:=by
 have e1:(op==CmpOp.In)=false:=by cases op<;> first|rfl|exact absurd rfl h
 have e2:(op==CmpOp.NotIn)=false:=by cases op<;> first|rfl|exact absurd rfl h2
 cases b<;> simp [behindInMarks,e1,e2]
theorem Bi {op:CmpOp} {r:R2} (ho:OpR X (compareOp op) r) (ha:PE X a ta) (hb:PE X b tb) (hm:behindInMarks op b=false):PE X (.Compare a [op] [b] pos) (tOp r ta tb):=by
 intro pins s σ H Q I h
 exact wpAny_Compare1 (binT ha hb I h fun v u s2 x y H2 I2 rx ry q=>ho pins s2 σ H2 x y v u Q I2 rx ry q) hm
def tTest (t:TE):TT:=fun σ H Q=>t σ H fun x H'=>BlP x H' Q
theorem Ar {op:CmpOp} {r:R2} (ho:OpR X (compareOp op) r) (ha:PE X a ta) (hb:PE X b tb) (hm:behindInMarks op b=false):PT X (.Compare a [op] [b] pos) (tTest (tOp r ta tb)):=by
 intro pins s σ H Q I h
 refine wpAny_isTrue_Compare1 (thn (ha pins s σ H _ I h) fun v s1 ⟨x,H1,I1,r1,q1⟩=>thn (hb pins s1 σ H1 _ I1 q1) fun u s2 ⟨y,H2,I2,r2,q2⟩=>
  thn (ho pins s2 σ H2 x y v u _ I2 r1 r2 q2) fun c s3 ⟨z,H3,I3,r3,k,e,q3⟩=> ?_) hm
 subst e
 cases r3
 exact wpAny_truthy_bool ⟨H3,I3,q3⟩
theorem line63:(sizeLine:Nat)<2 ^ 63:=by rw [sizeLine_eq];decide
theorem op_add_str:OpR X (binaryOp .Add) (fun x y H Q=>∃i j,x= .str i∧y= .str j∧i.length+j.length≤sizeLine∧Q (.str (i++j)) H):=by
 intro pins s σ H x y v u Q I rx ry h
 obtain ⟨i,j,rfl,rfl,hz,q⟩:=h
 obtain ⟨t,rfl⟩:=rx
 obtain ⟨t',rfl⟩:=ry
 exact add_str (fun t' tk=>⟨.str (i++j),H,I.tok _,⟨_,rfl⟩,q⟩) hz
theorem vals1 {x:V} {us:List Value} (r:Vals [x] us):∃u,us=[u]∧RelV x u:=by
 cases r with
 |cons r1 r2=>cases r2;exact ⟨_,rfl,r1⟩
theorem vals2 {x y:V} {us:List Value} (r:Vals [x,y] us):∃u w',us=[u,w']∧RelV x u∧RelV y w':=by
 cases r with
 |cons r1 r2=>
  cases r2 with
  |cons r3 r4=>cases r4;exact ⟨_,_,rfl,r1,r3⟩
theorem call_max2 (hc:X.calm=true):CallR X (.builtin "max") (fun xs H Q=>∃i j,xs=[.int i,.int j]∧Q (.int (if j > i then j else i)) H):=by
 intro pins s σ H xs us Q I r h
 obtain ⟨i,j,rfl,q⟩:=h
 obtain ⟨u,w',rfl,⟨t,rfl⟩,⟨t',rfl⟩⟩:=vals2 r
 refine max_two_ints (I.ok.hd hc) fun h' tk k=>⟨_,H,I.kept k,?_,q⟩
 by_cases hj:j > i
 ·rw [if_pos hj,if_pos hj];exact ⟨_,rfl⟩
 ·rw [if_neg hj,if_neg hj];exact ⟨_,rfl⟩
theorem call_int1:CallR X (.type "int") (fun xs H Q=>(∃i,xs=[.int i]∧Q (.int i) H)∨∃k,xs=[.bl k]∧Q (.int (if k then 1 else 0)) H):=by
 intro pins s σ H xs us Q I r h
 rcases h with ⟨i,rfl,q⟩|⟨k,rfl,q⟩
 ·obtain ⟨u,rfl,t,rfl⟩:=vals1 r
  exact call_int_int ⟨.int i,H,I,⟨_,rfl⟩,q⟩
 ·obtain ⟨u,rfl,r1⟩:=vals1 r
  cases r1
  exact call_int_bool ⟨.int (if k then 1 else 0),H,I.tok _,⟨_,rfl⟩,q⟩
end
end L2
namespace L2
open PySem PySem.Spec PyProof.Rows
structure ObjM (h:Heap) (x dx C:Addr) (mA:Str→Option Value):Prop where
 obj:h.get? x=some (PySem.W.instObj C dx)
 ns:h.Ns1 dx mA
 ne:dx≠x
theorem lookIn_ns {h:Heap} {dx:Addr} {mA:Str→Option Value} (n:h.Ns1 dx mA):∃od,h.get? dx=some od∧∀name,PySem.W.lookIn name od=some (mA name):=by
 obtain ⟨o,es,ep,ho,hd,hk,_,hm⟩:=n
 refine ⟨o,ho,fun name=> ?_⟩
 have e:=hm name
 unfold nsFind findBy at e
 rw [←Array.find?_toList] at e
 unfold PySem.W.lookIn
 rw [hd]
 dsimp only
 split
 ·rename_i y q
  rw [q] at e
  exact congrArg some e
 ·rename_i q
  rw [q] at e
  have a:es.toList.any (·.refKey)=false:=by
   rw [List.any_eq_false]
   intro y hy
   obtain ⟨z,t,hkey⟩:=hk y (Array.mem_toList_iff.mp hy)
   simp [DictEntry.refKey,hkey]
  have a':¬es.toList.any (·.refKey)=true:=by rw [a];exact Bool.false_ne_true
  rw [if_neg a']
  exact congrArg some e
theorem ObjM.look {h:Heap} {x dx C:Addr} {mA:Str→Option Value} (I:ObjM h x dx C mA):∃od,PySem.W.InstAt h x (PySem.W.instObj C dx) C (some od)∧∀name,PySem.W.lookIn name od=some (mA name):=
 let ⟨od,ho,hl⟩:=lookIn_ns I.ns
 ⟨od,⟨I.obj,rfl,rfl,ho⟩,hl⟩
theorem RelO.some_of {v:V} {o:Option Value} (r:RelO (some v) o):∃u,o=some u∧RelV v u:=by
 cases o with
 |none=>exact (show False from r).elim
 |some u=>exact ⟨u,rfl,r⟩
theorem handed_of {v:V} {u:Value} (r:RelV v u):PySem.W.handedIn u=true:=by
 cases v with
 |non=>cases (show u=Value.none from r);rfl
 |bl b=>cases (show u=Value.bool b from r);rfl
 |int i=>obtain ⟨t,e⟩:=(show ∃t,u=Value.int i t from r);cases e;rfl
 |str x=>obtain ⟨t,e⟩:=(show ∃t,u=Value.str x t from r);cases e;rfl
 |byt b=>obtain ⟨t,e⟩:=(show ∃t,u=Value.bytes b t from r);cases e;rfl
 |flt b=>obtain ⟨t,e⟩:=(show ∃t,u=Value.float b t from r);cases e;rfl
 |ref a=>cases (show u=Value.ref a from r);rfl
 |ty n=>cases (show u=Value.type n from r);rfl
section
variable {P:Program} {w:World} {H H':Hp} {h h':Heap} {a C dx:Addr} {fs fs':List (Str×V)}
theorem ins_get (hok:HOk P w H h) (e:H a=some (.ins C dx fs)):∃mA,ObjM h a dx C mA∧(∀f,RelO (fs.lookup f) (mA f))∧PySem.Within mA (fs.map (·.1))∧fs.length≤1000∧H dx=some (.own a):=by
 obtain ⟨d,z,ne,ob,mA,n,r,q⟩:=(show ObjOk P w H h a (.ins C dx fs) from hok a _ e)
 exact ⟨mA,⟨ob,n,ne⟩,r,q,z,d⟩
end
structure Cls (K:PySem.W.Frag) (C:Addr):Prop where
 pg:PySem.W.plainGet K C Str.empty=true
 hd:PySem.W.hasDictIn K C=true
 po:PySem.W.plainOver K C=true
 sa:PySem.W.findIn K (.ref C) "__setattr__"=some (some (.builtin "object.__setattr__"))
theorem Cls.get {K:PySem.W.Frag} {C:Addr} (c:Cls K C) (f:Str):PySem.W.plainGet K C f=true:=c.pg
def NoAttr (K:PySem.W.Frag) (C:Addr) (f:Str):Prop:=PySem.W.findIn K (.ref C) f=some none
section
variable {X:Cx} {pins:List (Addr×Obj)} {σ:St} {H:Hp} {s:Shared} {a C dx:Addr} {fs:List (Str×V)} {f:Str} {v:V} {A:Around} {E:Value→Shared→Prop}
theorem attr_of {prog:Program} {w:World} {env:Env} {e:Expr} {f:Str} {pos:Pos} {s:Shared} {Q:Value→Shared→Prop} (hb:attributeBase e f env (eval e env)=eval e env)
  (h:wpAny (model prog w) A (eval e env) (fun o s₁=>wpAny (model prog w) A (getAttr o f true) Q E s₁) E s):wpAny (model prog w) A (eval (.Attribute e f pos) env) Q E s:=
 Attribute_any_ h (by rw [arm_eval_Attribute,hb])
end
section
variable {X:Cx} {pins:List (Addr×Obj)} {σ:St} {H:Hp} {s:Shared} {A:Around} {E:Value→Shared→Prop} {Q:Value→Shared→Prop} {c:Value} {b:Bool}
inductive TyOf (K:PySem.W.Frag) (H:Hp):V→Value→Prop where
 |non:TyOf K H .non (.type "NoneType")
 |bl (x:Bool):TyOf K H (.bl x) (.type "bool")
 |int (i:Int):TyOf K H (.int i) (.type "int")
 |str (x:Str):TyOf K H (.str x) (.type "str")
 |flt (x:UInt64):TyOf K H (.flt x) (.type "float")
 |lst {a:Addr} {xs:List V} (e:H a=some (.lst xs)):TyOf K H (.ref a) (.type "list")
 |frz {a:Addr} {o:Obj} {xs:List V} (e:H a=some (.frz o (.lst xs))):TyOf K H (.ref a) (.type "list")
 |tup {a:Addr} {xs:List V} (e:H a=some (.tup xs)):TyOf K H (.ref a) (.type "tuple")
 |dK {a:Addr} {kvs:List (Key×V)} (e:H a=some (.dK kvs)):TyOf K H (.ref a) (.type "dict")
 |dT {a:Addr} {kvs:List (List Key×V)} (e:H a=some (.dT kvs)):TyOf K H (.ref a) (.type "dict")
 |ins {a C dx:Addr} {fs:List (Str×V)} (e:H a=some (.ins C dx fs)) (cl:Cls K C) (ha:PySem.W.findIn K (.ref C) "__class__"=some (some (.builtin "object.__class__")))
  (hn:PySem.W.specialIn K (.builtin "object.__class__") "__get__"=some (some (.builtin "getset_descriptor.__get__"))) (htk:PySem.W.takesIn K (.builtin "object.__class__")=some true)
  (hm:PySem.W.mroIn K C (.type "object")=some true):TyOf K H (.ref a) (.ref C)
theorem isinst_ok {x:V} {u t:Value} (I:Inv X pins σ H s) (rx:RelV x u) (ty:TyOf X.K H x t) (e:PySem.W.kitOne X.K t c=some b) (h:∀tk,Q (.bool b) {s with toks:=tk}):
  wpAny (model X.prog X.w) A (call (.builtin "isinstance") [u,c]) Q E s:=by
 cases ty with
 |non=>cases (show u=Value.none from rx);exact PySem.W.kia_one PySem.W.kitx_none I.kIn True.intro e (fun z=>nomatch z) h
 |bl y=>cases (show u=Value.bool y from rx);exact PySem.W.kia_one PySem.W.kitx_bool I.kIn True.intro e (fun z=>nomatch z) h
 |int i=>obtain ⟨t,q⟩:=(show ∃t,u=Value.int i t from rx);cases q;exact PySem.W.kia_one PySem.W.kitx_int I.kIn True.intro e (fun z=>nomatch z) h
 |str y=>obtain ⟨t,q⟩:=(show ∃t,u=Value.str y t from rx);cases q;exact PySem.W.kia_one PySem.W.kitx_str I.kIn True.intro e (fun z=>nomatch z) h
 |flt y=>obtain ⟨t,q⟩:=(show ∃t,u=Value.float y t from rx);cases q;exact PySem.W.kia_one PySem.W.kitx_float I.kIn True.intro e (fun z=>nomatch z) h
 | @lst a xs ea=>
  cases (show u=Value.ref a from rx)
  obtain ⟨_,_,n,_,h1⟩:=(show ObjOk X.prog X.w H s.heap a (.lst xs) from I.hok a _ ea)
  exact PySem.W.kia_one PySem.W.kitx_list I.kIn ⟨_,h1,rfl⟩ e (fun z=>nomatch z) h
 | @frz a ob xs ea=>
  cases (show u=Value.ref a from rx)
  obtain ⟨_,_,_,n,_,h1⟩:=(show ObjOk X.prog X.w H s.heap a (.frz ob (.lst xs)) from I.hok a _ ea)
  exact PySem.W.kia_one PySem.W.kitx_list I.kIn ⟨_,h1,rfl⟩ e (fun z=>nomatch z) h
 | @tup a xs ea=>
  cases (show u=Value.ref a from rx)
  obtain ⟨_,_,_,p⟩:=(show ObjOk X.prog X.w H s.heap a (.tup xs) from I.hok a _ ea)
  obtain ⟨o,h1,h2,_⟩:=p
  exact PySem.W.kia_one PySem.W.kitx_tuple I.kIn ⟨o,h1,h2⟩ e (fun z=>nomatch z) h
 | @dK a kvs ea=>
  cases (show u=Value.ref a from rx)
  obtain ⟨_,_,vs,_,p⟩:=(show ObjOk X.prog X.w H s.heap a (.dK kvs) from I.hok a _ ea)
  obtain ⟨o,es,ep,h1,h2,_⟩:=p
  exact PySem.W.kia_one PySem.W.kitx_dict I.kIn ⟨o,h1,h2.1⟩ e (fun z=>nomatch z) h
 | @dT a kvs ea=>
  cases (show u=Value.ref a from rx)
  obtain ⟨_,_,xs,_,o,es,ep,h1,h2,_⟩:=(show ObjOk X.prog X.w H s.heap a (.dT kvs) from I.hok a _ ea)
  exact PySem.W.kia_one PySem.W.kitx_dict I.kIn ⟨o,h1,h2.1⟩ e (fun z=>nomatch z) h
 | @ins a C dx fs ea cl ha hn htk hm=>
  cases (show u=Value.ref a from rx)
  obtain ⟨mA,O,_⟩:=ins_get I.hok ea
  obtain ⟨od,J,_⟩:=O.look
  exact PySem.W.kia_one (PySem.W.kitx_own (cl.get _) cl.hd ha hn htk hm) I.kIn J e (fun z=>nomatch z) h
end
end L2
namespace L2
open PySem PySem.Spec PyProof.Rows
structure Room (k:Nat) (A:Around):Prop where
 hd:A.handled=none
 dp:A.depth+3 * k+5<recursionLimit
 un:A.units+16 * k+200<cLine
 gd:A.guards=some []
theorem Room.mono {j k:Nat} {A:Around} (r:Room k A) (h:j≤k):Room j A:=⟨r.hd,by have:=r.dp;omega,by have:=r.un;omega,r.gd⟩
theorem Room.deeper {k:Nat} {A:Around} (r:Room (k+1) A) (env:Env):Room k (A.deeper env):=
 ⟨r.hd,by have:=r.dp;show A.depth+1+3 * k+5<_;omega,by have:=r.un;show A.units+3+16 * k+200<_;omega,by show pushGuards [] A.guards=some [];rw [r.gd];rfl⟩
theorem make_depth {A:Around} {C:Addr} {us:List Value} {kw:List (Str×Value)}:(A.under (.builtin "type.__call__" ⟨.ref C::us,kw⟩)).depth=A.depth+1:=by
 first|rfl|simp [Around.under,Code.weight,Code.isCreation,Code.isGuard,Code.isCaller,Code.frames,Code.isFrame,guardIds]
theorem make_units {A:Around} {C:Addr} {us:List Value} {kw:List (Str×Value)}:(A.under (.builtin "type.__call__" ⟨.ref C::us,kw⟩)).units=A.units+1:=by
 first|rfl|simp [Around.under,Code.cUnits,Code.frames,Code.isFrame]
theorem make_guards {A:Around} {C:Addr} {us:List Value} {kw:List (Str×Value)}:(A.under (.builtin "type.__call__" ⟨.ref C::us,kw⟩)).guards=A.guards:=by
 cases h:A.guards<;> simp [Around.under,Code.guards,Code.isGuard,guardIds,pushGuards,h]
theorem Room.make {k:Nat} {A:Around} (r:Room (k+1) A) (C:Addr) (us:List Value) (kw:List (Str×Value)):Room k (A.under (.builtin "type.__call__" ⟨.ref C::us,kw⟩)):=
 ⟨r.hd,by have:=r.dp;rw [make_depth];omega,by have:=r.un;rw [make_units];omega,by rw [make_guards];exact r.gd⟩
theorem Room.depth {k:Nat} {A:Around} (r:Room k A):A.depth<recursionLimit:=by have:=r.dp;omega
theorem Room.units {k:Nat} {A:Around} (r:Room k A):A.units+64<cLine:=by have:=r.un;omega
def tNil:TA:=fun _ H Q=>Q [] H
def tCons (ta:TE) (tr:TA):TA:=fun σ H Q=>ta σ H fun x H1=>tr σ H1 fun xs H2=>Q (x::xs) H2
section
variable {X:Cx} {e:Expr} {es:List Expr} {te:TE} {t:TA} {pos:Pos}
theorem Ac:PA X [] tNil:=fun _ _ _ _ H Q I h=>Calls.spliced_nil ⟨[],H,I,.nil,h⟩
theorem Aa (ha:PE X e te) (hr:PA X es t) (hs:starEach (e::es) X.env=(false,eval e X.env)::starEach es X.env:=by rfl):PA X (e::es) (tCons te t):=by
 intro pos pins s σ H Q I h
 rw [hs]
 show wpAny _ _ (spliced ((false,eval e X.env)::backTo pos (starEach es X.env))) _ _ s
 refine Calls.spliced_cons (thn (ha pins s σ H _ I h) fun u s1 ⟨x,H1,I1,r1,q1⟩=> ?_)
 exact thn (hr pos pins s1 σ H1 _ I1 q1) fun us s2 ⟨xs,H2,I2,r2,q2⟩=>⟨x::xs,H2,I2,.cons r1 r2,q2⟩
def tTup (t:TA):TE:=fun σ H Q=>t σ H fun xs H1=>xs.length≤sizeLine∧∀p,H1 p=none→Q (.ref p) (upd H1 p (.tup xs))
def tLst (t:TA):TE:=fun σ H Q=>t σ H fun xs H1=>xs.length≤sizeLine∧∀p,H1 p=none→Q (.ref p) (upd H1 p (.lst xs))
theorem A6 {x1} (h:PA X es t):PE X (.Tuple es x1 pos) (tTup t):=by
 intro pins s σ H Q I hq
 refine wpAny_Tuple_spliced (thn (h pos pins s σ H _ I hq) fun us s1 ⟨xs,H1,I1,r,z,q⟩=>⟨by rw [←r.length];exact z,?_⟩)
 have hf:H1 s1.heap.objs.size=none:=I1.hok.fresh (Nat.le_refl _)
 refine ⟨.ref s1.heap.objs.size,upd H1 s1.heap.objs.size (.tup xs),I1.laid (t':=s1.toks) (fun b u e=>Heap.get?_push_of_some _ e) (Nat.le_refl _) ?_,rfl,q _ hf⟩
 exact ⟨z,us,r,IsTupN.new _ _⟩
theorem Bo (h:PA X es t):PE X (.List es pos) (tLst t):=by
 intro pins s σ H Q I hq
 refine wpAny_List_spliced (thn (h pos pins s σ H _ I hq) fun us s1 ⟨xs,H1,I1,r,z,q⟩=>⟨by rw [←r.length];exact z,?_⟩)
 have hf:H1 s1.heap.objs.size=none:=I1.hok.fresh (Nat.le_refl _)
 refine ⟨.ref s1.heap.objs.size,upd H1 s1.heap.objs.size (.lst xs),I1.laid (t':=s1.toks) (fun b u e=>Heap.get?_push_of_some _ e) (Nat.le_refl _) ?_,rfl,q _ hf⟩
 exact ⟨z,us,0,r,Heap.get?_push_size _ rfl⟩
end
abbrev Sp:=List V→Hp→VK→XK→Prop
abbrev CXT:=List Env→Hp→Shared→XK→Value→Shared→Prop
structure Env0 (P:Program) (w:World) (K:PySem.W.Frag) (mg:Str→Option Value) (base:Heap) (A:Around) (outer:List Env) (s:Shared) (H:Hp):Prop where
 frames:A.frames=some outer
 mod:Mod K mg base
 bs:∀b o,base.get? b=some o→s.heap.get? b=some o∧H b=none
 bsz:base.objs.size≤s.heap.objs.size
 funs:s.heap.FunFrames base outer
 frf:∀b∈frs outer,H b=none
 hok:HOk P w H s.heap
 bare:AllBare s.gens
def CE (outer:List Env) (P:Program) (w:World) (H:Hp) (s:Shared) (Q:VK) (u:Value) (s':Shared):Prop:=
 ∃v H',s'.os=s.os∧AllBare s'.gens∧Un (frs outer) [] H H' s.heap s'.heap∧HOk P w H' s'.heap∧RelV v u∧Q v H'
def CR (CX:CXT) (outer:List Env) (P:Program) (w:World) (H:Hp) (s:Shared) (Q:VK) (E:XK) (r:Result) (s':Shared):Prop:=
 match r with
 | .ok (.ret u)=>CE outer P w H s Q u s'
 | .ok _=>False
 | .error e=>CX outer H s E e s'
structure FnOk (P:Program) (w:World) (K:PySem.W.Frag) (mg:Str→Option Value) (base:Heap) (CX:CXT) (k:Nat) (f:Addr) (fd:FuncData) (ps:List Str) (sp:Sp):Prop where
 len:∀vs H Q E,sp vs H Q E→vs.length=ps.length
 run:∀(A:Around) (outer:List Env) (s:Shared) (H:Hp) (args:Args) (us:List Value) (vs:List V) (Q:VK) (E:XK),Room k A→Env0 P w K mg base A outer s H→BindsTo s fd args (ps.zip us)→Vals vs us→sp vs H Q E→
  codeAny (model P w) A (.call (.ref f) args) (CR CX outer P w H s Q E) s
theorem FnOk.mono {P:Program} {w:World} {K:PySem.W.Frag} {mg:Str→Option Value} {base:Heap} {CX:CXT} {j k:Nat} {f:Addr} {fd:FuncData} {ps:List Str} {sp:Sp} (F:FnOk P w K mg base CX j f fd ps sp) (h:j≤k):
  FnOk P w K mg base CX k f fd ps sp:=⟨F.len,fun A outer s H args us vs Q E hr=>F.run A outer s H args us vs Q E (hr.mono h)⟩
theorem FnOk.imp {P:Program} {w:World} {K:PySem.W.Frag} {mg:Str→Option Value} {base:Heap} {CX:CXT} {k:Nat} {f:Addr} {fd:FuncData} {ps:List Str} {sp sp':Sp} (F:FnOk P w K mg base CX k f fd ps sp)
  (h:∀vs H Q E,sp' vs H Q E→sp vs H Q E):FnOk P w K mg base CX k f fd ps sp':=
 ⟨fun vs H Q E q=>F.len vs H Q E (h _ _ _ _ q),fun A outer s H args us vs Q E hr he hb hv hs=>F.run A outer s H args us vs Q E hr he hb hv (h _ _ _ _ hs)⟩
theorem Env0.make {P:Program} {w:World} {K:PySem.W.Frag} {mg:Str→Option Value} {base:Heap} {A:Around} {outer:List Env} {s:Shared} {H:Hp} (e:Env0 P w K mg base A outer s H) (C:Addr) (us:List Value) (kw:List (Str×Value)):
  Env0 P w K mg base (A.under (.builtin "type.__call__" ⟨.ref C::us,kw⟩)) outer s H:=⟨by first|exact e.frames|(simpa [Around.under,Code.envs,Code.isFrame,pushEnvs] using e.frames),e.mod,e.bs,e.bsz,e.funs,e.frf,e.hok,e.bare⟩
section
variable {X:Cx} {pins:List (Addr×Obj)} {σ:St} {H:Hp} {s s':Shared}
theorem Inv.env0 (I:Inv X pins σ H s):Env0 X.prog X.w X.K X.mg X.base X.A X.stack s H:=
 ⟨I.ok.frames,I.ok.mod,I.bs,Nat.le_trans I.ok.bsz I.sz,I.stack,I.stkFree,I.hok,I.bare⟩
theorem Inv.after {Q:VK} {u:Value} (I:Inv X pins σ H s) (h:CE X.stack X.prog X.w H s Q u s'):EP X pins σ Q u s':=by
 obtain ⟨v,H',os,bare,un,hok,r,q⟩:=h
 obtain ⟨hh,g,d,t,os'⟩:=s'
 obtain rfl:os'=s.os:=os
 exact ⟨v,H',I.call (h':=hh) (g':=g) (d':=d) (t':=t) (ch:=[]) un hok bare (fun b z=>absurd z (by simp)),r,q⟩
end
def tCall (sp:Sp) (dvs:List V) (E:XK) (t:TA):TE:=fun σ H Q=>t σ H fun vs H1=>sp (vs++dvs) H1 Q E
def Binds (K:PySem.W.Frag) (fd:FuncData) (ps:List Str) (ds:List Value):Prop:=
 ∀(s:Shared) (us:List Value),K.In s.heap→(us++ds).length=ps.length→BindsTo s fd ⟨us,[]⟩ (ps.zip (us++ds))
theorem Binds.all {K:PySem.W.Frag} {fd:FuncData} {ps:List Str} (h:∀us:List Value,us.length=ps.length→bindArgs fd ⟨us,[]⟩=pure (ps.zip us)):Binds K fd ps []:=fun s us _ hl=>by
 rw [List.append_nil] at hl ⊢
 exact .of_eq (h us hl)
def Passes (CX:CXT) (X:Cx) (E:XK):Prop:=∀(pins:List (Addr×Obj)) (σ:St) (H:Hp) (s:Shared) (e:Value) (s':Shared),Inv X pins σ H s→CX X.stack H s E e s'→X.xe e s'
section
variable {X:Cx} {CX:CXT} {k:Nat} {f C:Addr} {fd:FuncData} {ps:List Str} {sp:Sp} {dvs:List V} {ds:List Value} {E:XK} {x m:Str} {p pos apos:Pos} {e o:Expr} {es:List Expr} {ta:TE} {t:TA}
theorem run_fn {pins:List (Addr×Obj)} {σ:St} {H:Hp} {s:Shared} {Q:VK} {us:List Value} {vs:List V} (F:FnOk X.prog X.w X.K X.mg X.base CX k f fd ps sp) (hr:Room k X.A) (hb:Binds X.K fd ps ds) (hd:Vals dvs ds) (hx:Passes CX X E)
  (I:Inv X pins σ H s) (r:Vals vs us) (h:sp (vs++dvs) H Q E):wpAny (model X.prog X.w) X.A (call (.ref f) us) (EP X pins σ Q) X.xe s:=by
 have r2:Vals (vs++dvs) (us++ds):=r.append hd
 have hl:(us++ds).length=ps.length:=by rw [←r2.length];exact F.len _ _ _ _ h
 refine wpAny_call (codeAny_mono (F.run X.A X.stack s H ⟨us,[]⟩ (us++ds) (vs++dvs) Q E hr I.env0 (hb s us I.kIn hl) r2 h) fun r s' hq=> ?_)
 cases r with
 |error e=>exact hx pins σ H s e s' I hq
 |ok fl=>
  cases fl with
  |ret u=>exact I.after hq
  |next=>exact False.elim hq
  |brk=>exact False.elim hq
  |cont=>exact False.elim hq
theorem Am (F:FnOk X.prog X.w X.K X.mg X.base CX k f fd ps sp) (hr:Room k X.A) (hg:Gl X x) (hm:X.mg x=some (.ref f)) (hk:PySem.W.keepIn X.K (.ref f)=true) (hb:Binds X.K fd ps ds) (hd:Vals dvs ds) (hx:Passes CX X E)
  (ha:PA X (e::es) t) (hdb:(x==("__debug__":Str))=false:=by decide) (he:starEach (e::es) X.env=(false,eval e X.env)::starEach es X.env:=by rfl) (hpl:(backTo pos (starEach es X.env)).any (·.1)=false:=by rfl):
  PE X (.Call (.Name x p) (e::es) [] pos) (tCall sp dvs E t):=by
 intro pins s σ H Q I h
 refine wpAny_Call_Name_kw (ld_glob I hg hm ?_ hdb)
 refine PySem.W.callWith_K (h₀:=X.base) I.ok.mod.kin hk (thn (ha pos pins s σ H _ I h) fun us s1 ⟨vs,H1,I1,r,q⟩=>⟨I1.kIn,?_⟩) he hpl
 exact run_fn F hr hb hd hx I1 r q
end
section
variable {X:Cx} {CX:CXT} {k:Nat} {f C:Addr} {fd:FuncData} {ps ks:List Str} {sp:Sp} {E:XK} {x m:Str} {p pos apos kpos:Pos} {e o:Expr} {es:List Expr} {kws:List Keyword} {te ta:TE} {t tk:TA} {nm:Option Str}
variable {g:List Value→List Value→List Value} {gV:List V→List V→List V}
end
structure Az (N P:List Str) (sc:Scope):Prop where
 kind:sc.kind= .function
 co:sc.isCoroutine=false
 gen:sc.isGenerator=false
 nd:N.Nodup
 pre:N.take P.length=P
 par:∀x∈P,sc.names.lookup x=some .local∨sc.names.lookup x=some .cell
 nofree:∀y∈sc.names,y.2≠ .free
theorem bindL_out {kindOf:Str→Option NameKind} {x:Str}:∀{binds:List (Str×Value)} {m:Str→Option Value},(∀v,(x,v) ∉ binds)→bindL kindOf binds m x=m x
 |[],_,_=>rfl
 |(n,v)::r,m,h=>by
  unfold bindL
  rw [bindL_out fun w hw=>h w (List.mem_cons_of_mem _ hw)]
  split
  ·have:x≠n:=by rintro rfl;exact h v List.mem_cons_self
   simp [this]
  ·rfl
theorem bindC_out {kindOf:Str→Option NameKind} {x:Str}:∀{binds:List (Str×Value)} {m:Str→Option Value},(∀v,(x,v) ∉ binds)→bindC kindOf binds m x=m x
 |[],_,_=>rfl
 |(n,v)::r,m,h=>by
  unfold bindC
  rw [bindC_out fun w hw=>h w (List.mem_cons_of_mem _ hw)]
  split
  ·rfl
  ·have:x≠n:=by rintro rfl;exact h v List.mem_cons_self
   simp [this]
theorem bindL_get {kindOf:Str→Option NameKind} {x:Str} {v:Value}:∀{P:List Str} {vs:List Value} {i:Nat} {m:Str→Option Value},P.Nodup→P[i]? =some x→vs[i]? =some v→kindOf x=some .local→
  bindL kindOf (P.zip vs) m x=some v
 |[],_,_,_,_,h,_,_=>by simp at h
 |_::_,[],_,_,_,_,h,_=>by simp at h
 |p::P,w::vs,0,m,nd,h1,h2,hk=>by
  simp at h1 h2;subst h1;subst h2
  show bindL kindOf ((p,w)::P.zip vs) m p=_
  unfold bindL
  rw [bindL_out fun v hv=>(List.nodup_cons.mp nd).1 (List.of_mem_zip hv).1,if_pos hk]
  simp
 |p::P,w::vs,i+1,m,nd,h1,h2,hk=>by
  show bindL kindOf ((p,w)::P.zip vs) m x=_
  unfold bindL
  exact bindL_get (i:=i) (List.nodup_cons.mp nd).2 (by simpa using h1) (by simpa using h2) hk
theorem bindC_get {kindOf:Str→Option NameKind} {x:Str} {v:Value}:∀{P:List Str} {vs:List Value} {i:Nat} {m:Str→Option Value},P.Nodup→P[i]? =some x→vs[i]? =some v→kindOf x≠some .local→
  bindC kindOf (P.zip vs) m x=some v
 |[],_,_,_,_,h,_,_=>by simp at h
 |_::_,[],_,_,_,_,h,_=>by simp at h
 |p::P,w::vs,0,m,nd,h1,h2,hk=>by
  simp at h1 h2;subst h1;subst h2
  show bindC kindOf ((p,w)::P.zip vs) m p=_
  unfold bindC
  rw [bindC_out fun v hv=>(List.nodup_cons.mp nd).1 (List.of_mem_zip hv).1,if_neg hk]
  simp
 |p::P,w::vs,i+1,m,nd,h1,h2,hk=>by
  show bindC kindOf ((p,w)::P.zip vs) m x=_
  unfold bindC
  exact bindC_get (i:=i) (List.nodup_cons.mp nd).2 (by simpa using h1) (by simpa using h2) hk
def start (N:List Str) (vs:List V):St:=vs.map some++List.replicate (N.length - vs.length) none
def cxOf (CX:CXT) (P:Program) (w:World) (K:PySem.W.Frag) (mg:Str→Option Value) (base:Heap) (N:List Str) (qual:Str) (scope:Scope) (f:Addr) (cd:Value) (A:Around) (outer:List Env) (s:Shared) (H:Hp) (E:XK):Cx where
 prog:=P
 w:=w
 K:=K
 mg:=mg
 base:=base
 A:=A.deeper (envOfC qual scope s.heap.objs.size f cd)
 N:=N
 s₀:=s
 H₀:=H
 env:=envOfC qual scope s.heap.objs.size f cd
 outer:=outer
 stack:=envOfC qual scope s.heap.objs.size f cd::outer
 ex:=[]
 calm:=true
 fn:=fun _=>true
 pn:=[]
 xe:=fun e s'=>wpAny (model P w) (A.deeper (envOfC qual scope s.heap.objs.size f cd)) (leaving (envOfC qual scope s.heap.objs.size f cd) e) (fun _ s''=>CX outer H s E e s'') (fun e' s''=>CX outer H s E e' s'') s'
theorem cell_has {sc:Scope} {n:Nat} {x:Str} (h:sc.names.lookup x=some .cell):∃c,(cellsFrom n sc.names []).lookup x=some c:=by
 have q:=PySem.W.cellsFrom_some sc.names n [] (.inl h)
 exact Option.isSome_iff_exists.mp q
theorem inv_start {CX:CXT} {P:Program} {w:World} {K:PySem.W.Frag} {mg:Str→Option Value} {base:Heap} {N ps:List Str} {qual:Str} {scope:Scope} {f:Addr} {cd:Value} {A:Around} {outer:List Env} {s s1:Shared} {H:Hp} {E:XK} {us:List Value} {vs:List V}
  (S:Az N ps scope) (hd:A.handled=none) (e0:Env0 P w K mg base A outer s H) (hl:vs.length=ps.length) (r:Vals vs us)
  (x:InCallC s s.heap.objs.size (bindL (envOfC qual scope s.heap.objs.size f cd).kindOf (ps.zip us) fun _=>none) (cellsFrom (s.heap.objs.size+1) scope.names []) (bindC (envOfC qual scope s.heap.objs.size f cd).kindOf (ps.zip us) fun _=>none) s1):
  Inv (cxOf CX P w K mg base N qual scope f cd A outer s H E) [] (start N vs) H s1:=by
 have hpl:ps.length≤N.length:=by have:=congrArg List.length S.pre;rw [List.length_take] at this;omega
 obtain ⟨h1,tk,rfl,hk⟩:=x.done
 have noA:∀b:Addr,b ∉ (cxOf CX P w K mg base N qual scope f cd A outer s H E).ex:=fun b z=>absurd (show b∈([]:List Addr) from z) (by simp)
 refine ⟨⟨e0.mod,S.kind,rfl,rfl,Nat.le_refl _,fun y z c h1 h2=> ?_,fun y hy=> ?_,fun y c _ h=> ?_,fun _=>hd,Around.frames_deeper e0.frames,.inr ⟨rfl,rfl⟩,fun b z=>absurd z (noA b),e0.bs,e0.bsz,fun b _ _=>noA b,fun b z=>absurd z (noA b),e0.funs,e0.frf⟩,
  rfl,e0.bare,Un.kept hk,⟨_,x.toInCall.ns,fun i y v h1 h2 h3=> ?_⟩,fun y c h=>⟨_,x.cell y c h⟩,e0.hok.fresh (Nat.le_refl _),fun y c h=> ?_,fun p hp=>absurd (show p∈([]:List (Addr×Obj)) from hp) (by simp),e0.hok.kept hk,?_⟩
 ·exact name_of_addr x.apart (PySem.mem_of_lookup h1) (PySem.mem_of_lookup h2)
 ·have hy:scope.names.lookup y=some .cell∨scope.names.lookup y=some .free:=hy
  rcases hy with hy|hy
  ·exact cell_has hy
  ·exact absurd rfl (S.nofree _ (PySem.mem_of_lookup hy))
 ·exact Nat.le_of_lt (x.above y c (PySem.mem_of_lookup h))
 ·have hi:i<vs.length:=by
   unfold start at h2
   by_cases hi:i<vs.length
   ·exact hi
   ·rw [List.getElem?_append_right (by simpa using hi)] at h2
    rw [List.getElem?_replicate] at h2
    split at h2<;> cases h2
  have ha:vs[i]? =some v:=by
   unfold start at h2
   rw [List.getElem?_append_left (by simpa using hi),List.getElem?_map] at h2
   cases e:vs[i]? with
   |none=>rw [e] at h2;cases h2
   |some a=>rw [e] at h2;cases h2;rfl
  obtain ⟨u,hu,rv⟩:=r.get ha
  have hp:ps[i]? =some y:=by
   rw [←S.pre,List.getElem?_take_of_lt (by omega)];exact h1
  have ndP:ps.Nodup:=by rw [←S.pre];exact S.nd.sublist (List.take_sublist _ _)
  refine ⟨u,rv,?_⟩
  rcases S.par y (List.mem_of_getElem? hp) with k|k
  ·exact .inl ⟨k,bindL_get ndP hp hu k⟩
  ·obtain ⟨c,e⟩:=cell_has (n:=s.heap.objs.size+1) k
   refine .inr ⟨.inl k,c,e,?_⟩
   have q:=x.cell y c e
   rw [bindC_get ndP hp hu (by show scope.names.lookup y≠_;rw [k];decide)] at q
   exact q
 ·exact e0.hok.fresh (Nat.le_of_lt (x.above y c (PySem.mem_of_lookup h)))
 ·unfold start
  show _=N.length
  rw [List.length_append,List.length_map,List.length_replicate]
  omega
theorem fn_of {CX:CXT} {P:Program} {w:World} {K:PySem.W.Frag} {mg:Str→Option Value} {base:Heap} {k:Nat} {f:Addr} {name qual:Str} {params:Arguments} {body:List Stmt} {scope:Scope} {dV kV doc pm cdv ct oc:Value} {an od:Option Addr}
  {osl:Array (Option Value)} {N ps:List Str} {sp:Sp} (lk:K.lookup f=some ⟨oc,od,.func (PySem.W.fnOf name qual params body scope dV kV doc pm an cdv ct),osl⟩) (hcd:PySem.W.codeIn K cdv qual=true) (S:Az N ps scope)
  (len:∀vs H Q E,sp vs H Q E→vs.length=ps.length)
  (hbody:∀(A:Around) (outer:List Env) (s:Shared) (H:Hp) (vs:List V) (Q:VK) (E:XK),Room k (A.deeper (envOfC qual scope s.heap.objs.size f cdv))→sp vs H Q E→
   ∃t,PSs (cxOf CX P w K mg base N qual scope f cdv A outer s H E) body t∧t {nx:=fun _ H'=>Q .non H',rt:=Q} (start N vs) H):
  FnOk P w K mg base CX (k+1) f (PySem.W.fnOf name qual params body scope dV kV doc pm an cdv ct) ps sp:=by
 refine ⟨len,fun A outer s H args us vs Q E hr e0 hb r hsp=> ?_⟩
 have hl:=len _ _ _ _ hsp
 have KX:K.In s.heap:=e0.mod.kin.keeps fun b o e=>(e0.bs b o e).1
 have lim:s.heap.NoLimit:=e0.mod.nolimit.keeps fun b o e=>(e0.bs b o e).1
 have hkind:∀y∈ps.zip us,scope.names.lookup y.1=some .local∨(scope.names.lookup y.1=some .cell∧((cellsFrom (s.heap.objs.size+1) scope.names []).lookup y.1).isSome=true):=fun ⟨n,v⟩ hy=>by
  rcases S.par n (List.of_mem_zip hy).1 with q|q
  ·exact .inl q
  ·exact .inr ⟨q,PySem.W.cellsFrom_some _ _ _ (.inl q)⟩
 refine codeAny_call_function hr.depth (KX _ _ lk) rfl S.co S.gen rfl (PySem.W.codeRec_of KX hcd) (hb _ _ _ _ ?_)
 refine wpAny_newFunctionEnv_cells S.kind hkind fun env he s1 x=> ?_
 subst he
 refine ⟨lim.keeps x.toInCall.keep,codeAny_func ?_⟩
 obtain ⟨t,ht,hq⟩:=hbody A outer s H vs Q E (hr.deeper _) hsp
 have I:Inv (cxOf CX P w K mg base N qual scope f cdv A outer s H E) [] (start N vs) H s1:=inv_start S hr.hd e0 hl r x
 refine wpAny_mono (ht [] s1 (start N vs) H _ I hq) (fun fl s' hs=> ?_) fun e s' hs=>hs
 have fin:∀{σ':St} {H':Hp} {v:V} {u:Value},Inv (cxOf CX P w K mg base N qual scope f cdv A outer s H E) [] σ' H' s'→RelV v u→Q v H'→CE outer P w H s Q u s':=
  fun {σ' H' v u} J rv q=>⟨v,H',J.os,J.bare,J.base,J.hok,rv,q⟩
 cases fl with
 |ret u=>
  obtain ⟨v,σ',H',J,rv,q⟩:=hs
  exact fin J rv q
 |next=>
  obtain ⟨σ',H',J,q⟩:=hs
  exact fin (v:=V.non) (u:=Value.none) J rfl q
 |brk=>
  obtain ⟨_,_,_,q⟩:=hs
  exact False.elim q
 |cont=>
  obtain ⟨_,_,_,q⟩:=hs
  exact False.elim q
end L2
namespace L2
open PySem PySem.Spec PyProof.Rows
section
variable {X:Cx} {x:Str} {p pos:Pos} {e:Expr} {es:List Expr} {t:TA} {id T:String} {r:List V→Hp→VK→Prop}
def tCB (r:List V→Hp→VK→Prop) (t:TA):TE:=fun σ H Q=>t σ H fun vs H1=>r vs H1 Q
theorem An (hc:CallR X (.builtin id) r) (hg:Gl X x) (hm:X.mg x=none) (hv:bootBuiltins x=some (.builtin id)) (ha:PA X (e::es) t) (hn:x≠"__name__":=by decide) (hdb:(x==("__debug__":Str))=false:=by decide)
  (he:starEach (e::es) X.env=(false,eval e X.env)::starEach es X.env:=by rfl) (hpl:(backTo pos (starEach es X.env)).any (·.1)=false:=by rfl):PE X (.Call (.Name x p) (e::es) [] pos) (tCB r t):=by
 intro pins s σ H Q I h
 refine wpAny_Call_Name_kw (ld_blt I hg hm hv ?_ hn hdb)
 exact PyProof.Rows.callWith_builtin1 (thn (ha pos pins s σ H _ I h) fun us s1 ⟨vs,H1,I1,r1,q1⟩=>hc pins s1 σ H1 vs us Q I1 r1 q1) he hpl
theorem Bp (hc:CallR X (.type T) r) (hg:Gl X x) (hm:X.mg x=none) (hv:bootBuiltins x=some (.type T)) (ha:PA X (e::es) t) (hn:x≠"__name__":=by decide) (hdb:(x==("__debug__":Str))=false:=by decide)
  (he:starEach (e::es) X.env=(false,eval e X.env)::starEach es X.env:=by rfl) (hpl:(backTo pos (starEach es X.env)).any (·.1)=false:=by rfl):PE X (.Call (.Name x p) (e::es) [] pos) (tCB r t):=by
 intro pins s σ H Q I h
 refine wpAny_Call_Name_kw (ld_blt I hg hm hv ?_ hn hdb)
 exact PyProof.Rows.callWith_type1 (thn (ha pos pins s σ H _ I h) fun us s1 ⟨vs,H1,I1,r1,q1⟩=>hc pins s1 σ H1 vs us Q I1 r1 q1) he hpl
end
end L2
namespace HT
open PySem PyProof.Rows
section
open PySem.SeqAt
open PySem.AutoSeq1 (wpAny_loadPart')
open PySem.MeetsSeq PySem.MeetsSeq2 PySem.MeetsSeq3
end
section
variable {prog:Program} {w:World} {A:Around} {E:Value→Shared→Prop} {s:Shared}
theorem cat_tup {t b:Addr} {vs ws:List Value} {Q:Value→Shared→Prop} (ht:IsTup s.heap t vs.toArray) (hb:IsTup s.heap b ws.toArray) (hv:vs≠[])
  (h1:ws=[]→Q (.ref t) s) (h2:ws≠[]→Q (.ref s.heap.objs.size) {s with heap:=s.heap.push {cls:= .type "tuple",data:= .seq (vs++ws).toArray}})
  (hsz:vs.length+ws.length≤sizeLine):wpAny (model prog w) A (binaryOp .Add (.ref t) (.ref b)) Q E s:=by
 obtain ⟨⟨cls,dd,data,sl⟩,ho,hc,n,hd⟩:=id ht
 obtain ⟨⟨cls2,dd2,data2,sl2⟩,ho2,hc2,n2,hd2⟩:=id hb
 simp only at hc hd hc2 hd2
 subst hc hd hc2 hd2
 have e:vs.toArray++ws.toArray=(vs++ws).toArray:=by simp
 by_cases hw:ws=[]
 ·exact concat_meets ⟨_,ho,rfl⟩ ⟨_,ho2,rfl⟩ noFill_tuple_add seq_tuple_add PySem.F.slot_tuple_add PySem.F.entry_tuple_add (PySem.F.args_tuple_add_2 _ _)
   (tuple_addW1 t b vs.toArray ws.toArray n n2 dd dd2 sl sl2 (by simpa using hv) (by simp [hw])) ⟨ho,ho2,h1 hw⟩
 ·refine concat_meets ⟨_,ho,rfl⟩ ⟨_,ho2,rfl⟩ noFill_tuple_add seq_tuple_add PySem.F.slot_tuple_add PySem.F.entry_tuple_add (PySem.F.args_tuple_add_2 _ _)
   (tuple_addW2 t b vs.toArray ws.toArray n n2 dd dd2 sl sl2 (by simpa using hv) (by simpa using hw) (by rw [List.size_toArray,List.size_toArray];exact hsz)) ⟨ho,ho2,?_⟩
  rw [e]
  exact h2 hw
def sIx (n d:Nat):Option Int→Nat
 |none=>d
 |some v=>if v<0 then (v+(n:Int)).toNat else min v.toNat n
theorem sIx_le (n d:Nat) (hd:d≤n) (o:Option Int):sIx n d o≤n:=by
 cases o with
 |none=>exact hd
 |some v=>
  show (if v<0 then (v+(n:Int)).toNat else min v.toNat n)≤n
  by_cases hv:v<0
  ·rw [if_pos hv];omega
  ·rw [if_neg hv];exact Nat.min_le_right _ _
theorem clip_eq (v:Int) (n d:Nat):(if v<0 then max (v+(n:Int)) 0 else min v (n:Int))=((sIx n d (some v):Nat):Int):=by
 show (if v<0 then max (v+(n:Int)) 0 else min v (n:Int))=(((if v<0 then (v+(n:Int)).toNat else min v.toNat n):Nat):Int)
 by_cases hv:v<0
 ·simp only [if_pos hv];omega
 ·simp only [if_neg hv];omega
theorem adjust_gen (lo hi:Option Int) (n:Nat):Builtin.Slice.sliceAdjust lo hi 1 (n:Int)=(((sIx n 0 lo:Nat):Int),((sIx n n hi:Nat):Int)):=by
 have h1:¬((1:Int)<0):=by decide
 unfold Builtin.Slice.sliceAdjust
 simp only [h1,if_false]
 refine Prod.ext ?_ ?_
 ·cases lo with
  |none=>rfl
  |some v=>exact clip_eq v n 0
 ·cases hi with
  |none=>rfl
  |some v=>exact clip_eq v n n
theorem places_gen (i j:Nat):Builtin.Slice.slicePlaces (i:Int) (j:Int) 1=j - i:=by
 unfold Builtin.Slice.slicePlaces
 have h1:(1:Int) > 0:=by decide
 simp only [h1,if_true,Int.ediv_one]
 split<;> omega
theorem slicePart_ {v:Value} {o:Option Int} {Q:Option Int→Shared→Prop} (p:IsPart v o) (h:Q o s):wpAny (model prog w) A (Builtin.Slice.slicePartIndex v) Q E s:=by
 cases p with
 |none=>exact slicePart_none h
 |int i t=>exact slicePart_int h
theorem sliceApplied_gen {sl:Addr} {vl vu:Value} {lo hi:Option Int} {n:Nat} {Q:Int×Int×Nat→Shared→Prop} (hs:s.heap.IsSliceOf sl vl vu .none) (pl:IsPart vl lo) (pu:IsPart vu hi)
  (h:Q (((sIx n 0 lo:Nat):Int),1,sIx n n hi - sIx n 0 lo) s):wpAny (model prog w) A (Builtin.Slice.sliceApplied (.ref sl) (pure (n:Int))) Q E s:=by
 obtain ⟨os,hos,hcs,hds⟩:=id hs
 unfold Builtin.Slice.sliceApplied Builtin.Slice.sliceFields
 refine wpAny_bind (wpAny_bind (wpAny_field hos hds (x:=vl) rfl (wpAny_bind (wpAny_field hos hds (x:=vu) rfl (wpAny_bind (wpAny_field hos hds (x:= .none) rfl (wpAny_pure ?_)))))))
 refine wpAny_bind (slicePart_none ?_)
 show wpAny _ _ (if ((1:Int)==0)=true then _ else _) _ _ s
 rw [if_neg (by decide)]
 refine wpAny_bind (slicePart_ pl (wpAny_bind (slicePart_ pu (wpAny_bind (wpAny_pure ?_)))))
 show wpAny _ _ (match Builtin.Slice.sliceAdjust lo hi 1 (n:Int) with|(lo,hi)=>pure (lo,(1:Int),Builtin.Slice.slicePlaces lo hi 1)) _ _ s
 rw [adjust_gen lo hi n]
 show wpAny _ _ (pure (((sIx n 0 lo:Nat):Int),(1:Int),Builtin.Slice.slicePlaces ((sIx n 0 lo:Nat):Int) ((sIx n n hi:Nat):Int) 1)) _ _ s
 rw [places_gen]
 exact wpAny_pure h
theorem pick_gen (xs:Array Value) (i k:Nat):((List.range k).filterMap fun (m:Nat)=>xs[((i:Int)+(m:Int) * 1).toNat]?).toArray=((xs.toList.drop i).take k).toArray:=by
 have e:(fun (m:Nat)=>xs[((i:Int)+(m:Int) * 1).toNat]?)=fun m=>xs[i+m]? :=by
  funext m
  have:((i:Int)+(m:Int) * 1).toNat=i+m:=by omega
  rw [this]
 rw [e]
 have:=pick_run xs i k
 rw [List.filterMap_map] at this
 have e2:((fun x=>xs[x]?)∘fun x=>i+x)=fun m=>xs[i+m]? :=rfl
 rw [e2] at this
 rw [this]
theorem getItem_tuple_cut {t sl:Addr} {items:Array Value} {vl vu:Value} {lo hi:Option Int} {Q:Value→Shared→Prop} (ht:IsTup s.heap t items) (hs:s.heap.IsSliceOf sl vl vu .none) (pl:IsPart vl lo) (pu:IsPart vu hi)
  (hw:¬(sIx items.size 0 lo=0∧sIx items.size items.size hi=items.size))
  (h:Q (.ref s.heap.objs.size) {s with heap:=s.heap.push {cls:= .type "tuple",data:= .seq ((items.toList.drop (sIx items.size 0 lo)).take (sIx items.size items.size hi - sIx items.size 0 lo)).toArray}})
  (hsz:items.size≤sizeLine):wpAny (model prog w) A (getItem (.ref t) (.ref sl)) Q E s:=by
 have htake:sizeOk (.seq ((items.toList.drop (sIx items.size 0 lo)).take (sIx items.size items.size hi - sIx items.size 0 lo)).toArray):=by
  show ((items.toList.drop (sIx items.size 0 lo)).take (sIx items.size items.size hi - sIx items.size 0 lo)).toArray.size≤sizeLine
  rw [List.size_toArray,List.length_take,List.length_drop,Array.length_toList]
  omega
 have hj:sIx items.size items.size hi≤items.size:=sIx_le _ _ (Nat.le_refl _) hi
 obtain ⟨os,hos,hcs,hds⟩:=id hs
 have hTs:s.TypeIs (.ref sl) "slice":=⟨os,hos,hcs⟩
 unfold getItem
 try with_reducible refine wpAny_holding ?_
 first|refine wpAny_bind (wpAny_pure ?_)|skip
 refine wpAny_bind (wpAny_sequenceKey ht.typeIs (by decide) ?_)
 refine wpAny_bind (wpAny_callSpecial?_slot (name:=Str.ofString "__getitem__") ht.typeIs PyProof.Rows.slot_tuple_getitem
  (wpAny_call_entry PyProof.Rows.slot_tuple_getitem ht.typeIs entry_tuple_getitem ?_ (args_tuple_getitem _ _)))
 show wpAny _ _ (Builtin.Tuple.tupleItemsOf (.ref t) >>=_) _ _ s
 refine wpAny_bind (tupleItemsOf_ ht ?_)
 refine wpAny_bind (wpAny_typeOf hTs ?_)
 rw [if_pos (by decide)]
 refine wpAny_bind (sliceApplied_gen hs pl pu ?_)
 have hno:¬((((sIx items.size 0 lo:Nat):Int)==0 && (1:Int)==1 && (sIx items.size items.size hi - sIx items.size 0 lo)==items.size)=true):=by
  intro q
  rw [Bool.and_eq_true,Bool.and_eq_true] at q
  have q1:((sIx items.size 0 lo:Nat):Int)=0:=eq_of_beq q.1.1
  have q2:sIx items.size items.size hi - sIx items.size 0 lo=items.size:=eq_of_beq q.2
  exact hw ⟨by omega,by omega⟩
 show wpAny _ _ (if (((sIx items.size 0 lo:Nat):Int)==0 && (1:Int)==1 && (sIx items.size items.size hi - sIx items.size 0 lo)==items.size)=true then _ else _) _ _ s
 rw [if_neg hno,pick_gen]
 first
  |exact wpAny_bind (m:=Builtin.Tuple.tupleExact _) (wpAny_newObj_type (wpAny_pure ⟨_,rfl,wpAny_pure h⟩) htake)
  |exact wpAny_bind (m:=Builtin.Tuple.tupleExact _) (wpAny_newObj_type (wpAny_bind (wpAny_pure (wpAny_pure ⟨_,rfl,wpAny_pure h⟩))) htake)
  |exact wpAny_bind (wpAny_bind (m:=Builtin.Tuple.tupleExact _) (wpAny_newObj_type (wpAny_pure (wpAny_pure ⟨_,rfl,wpAny_pure h⟩)) htake))
  |exact wpAny_bind (wpAny_bind (m:=Builtin.Tuple.tupleExact _) (wpAny_newObj_type (wpAny_pure ⟨_,rfl,wpAny_pure h⟩) htake))
end
end HT
namespace L2
open PySem PySem.Spec PyProof.Rows
abbrev TO:=St→Hp→(Option Int→Hp→Prop)→Prop
def PO (X:Cx) (e:Option Expr) (t:TO):Prop:=
 ∀(pins:List (Addr×Obj)) (s:Shared) (σ:St) (H:Hp) (Q:Option Int→Hp→Prop),Inv X pins σ H s→t σ H Q→
  wpAny (model X.prog X.w) X.A (evalPart e X.env) (fun u s'=>∃o H',Inv X pins σ H' s'∧IsPart u o∧Q o H') X.xe s
def tNoPart:TO:=fun _ H Q=>Q none H
def tPart (t:TE):TO:=fun σ H Q=>t σ H fun x H1=>∃i,x= .int i∧Q (some i) H1
theorem intsAre_of {ns:List Int}:∀{us:List Value},Vals (ns.map V.int) us→IntsAre us ns:=by
 induction ns with
 |nil=>intro us r;rw [List.map_nil] at r;cases r;exact .nil
 |cons n ns ih=>
  intro us r
  rw [List.map_cons] at r
  cases r with
  |cons r1 r2=>
   obtain ⟨t,e⟩:=r1
   subst e
   exact .cons n t (ih r2)
section
variable {X:Cx} {e:Expr} {te:TE} {lo hi:Option Expr} {tl th:TO} {pos p2:Pos}
theorem po_none:PO X none tNoPart:=by
 intro pins s σ H Q I h
 rw [evalPart_none]
 exact wpAny_pure ⟨none,H,I,.none,h⟩
theorem Bh (h:PE X e te):PO X (some e) (tPart te):=by
 intro pins s σ H Q I hw
 rw [evalPart_some]
 refine thn (h pins s σ H _ I hw) fun u s1 ⟨x,H1,I1,r1,q1⟩=> ?_
 obtain ⟨i,rfl,q⟩:=q1
 obtain ⟨t,rfl⟩:=r1
 exact ⟨some i,H1,I1,.int i t,q⟩
def SlR (X:Cx) (r:V→Option Int→Option Int→Hp→VK→Prop):Prop:=
 ∀(pins:List (Addr×Obj)) (s:Shared) (σ:St) (H:Hp) (x:V) (v vl vu:Value) (lo hi:Option Int) (sl:Addr) (Q:VK),Inv X pins σ H s→RelV x v→s.heap.IsSliceOf sl vl vu .none→IsPart vl lo→IsPart vu hi→r x lo hi H Q→
  ∃T id,typeLookup (.type T) "__getitem__"=pure (some (.builtin id))∧s.TypeIs v T∧wpAny (model X.prog X.w) X.A (getItem v (.ref sl)) (EP X pins σ Q) X.xe s
def tSl (r:V→Option Int→Option Int→Hp→VK→Prop) (te:TE) (tl th:TO):TE:=fun σ H Q=>te σ H fun x H1=>tl σ H1 fun l H2=>th σ H2 fun u H3=>r x l u H3 Q
theorem Bn {r:V→Option Int→Option Int→Hp→VK→Prop} (hr:SlR X r) (he:PE X e te) (hl:PO X lo tl) (hu:PO X hi th):PE X (.Subscript e (.Slice lo hi none p2) pos) (tSl r te tl th):=by
 intro pins s σ H Q I h
 refine Subscript_ (thn (he pins s σ H _ I h) fun v s1 ⟨x,H1,I1,r1,q1⟩=> ?_)
 refine wpAny_Slice (thn (hl pins s1 σ H1 _ I1 q1) fun vl s2 ⟨l,H2,I2,pl,q2⟩=>thn (hu pins s2 σ H2 _ I2 q2) fun vu s3 ⟨u,H3,I3,pu,q3⟩=> ?_)
 rw [evalPart_none]
 refine wpAny_pure ?_
 have I4:Inv X pins σ H3 {s3 with heap:=s3.heap.push {cls:= .type "slice",data:= .fields #[vl,vu,.none]}}:=I3.kept (t':=s3.toks) fun b ob q=>Heap.get?_push_of_some _ q
 obtain ⟨T,id,hT,ht,hg⟩:=hr pins {s3 with heap:=s3.heap.push {cls:= .type "slice",data:= .fields #[vl,vu,.none]}} σ H3 x v vl vu l u s3.heap.objs.size Q I4 r1 (Heap.IsSliceOf.new ..) pl pu q3
 show wpAny (model X.prog X.w) X.A (subscriptTail e (.Slice lo hi none p2) v (.ref s3.heap.objs.size)) (EP X pins σ Q) X.xe {s3 with heap:=s3.heap.push {cls:= .type "slice",data:= .fields #[vl,vu,.none]}}
 exact tail_any (ops:=[.ref s3.heap.objs.size,v]) ht hT hg (by with_unfolding_all rfl)
def cutV (xs:List V) (lo hi:Option Int):List V:=(xs.drop (HT.sIx xs.length 0 lo)).take (HT.sIx xs.length xs.length hi - HT.sIx xs.length 0 lo)
theorem cutV_length (xs:List V) (lo hi:Option Int):(cutV xs lo hi).length≤xs.length:=by
 unfold cutV
 rw [List.length_take,List.length_drop]
 omega
inductive RSlTP (K:PySem.W.Frag) (x:V) (lo:Option Int) (hi:Option Int) (H:Hp) (Q:VK):Prop
 |mk (a xs:_):(x= .ref a)→(SqT K H a xs)→(¬(HT.sIx xs.length 0 lo=0∧HT.sIx xs.length xs.length hi=xs.length))→(∀p,H p=none→Q (.ref p) (upd H p (.tup (cutV xs lo hi))))→RSlTP K x lo hi H Q
def rSlT (K:PySem.W.Frag):V→Option Int→Option Int→Hp→VK→Prop:=fun x lo hi H Q=>RSlTP K x lo hi H Q
theorem sl_tup:SlR X (rSlT X.K):=by
 intro pins s σ H x v vl vu lo hi sl Q I rx hs pl pu h
 obtain ⟨a,xs,rfl,hx,hw,q⟩:=h
 cases rx
 obtain ⟨its,r,ht,hz⟩:=I.tuple hx
 have hlen:its.toArray.size=xs.length:=by rw [List.size_toArray];exact r.length.symm
 refine ⟨"tuple",_,PyProof.Rows.slot_tuple_getitem.lookup,ht.typeIs,?_⟩
 refine HT.getItem_tuple_cut ht hs pl pu (by rw [hlen];exact hw) ?_ (by rw [hlen];exact hz)
 rw [hlen]
 refine ⟨.ref s.heap.objs.size,_,I.laid (t':=s.toks) (o:= .tup (cutV xs lo hi)) (fun b ob q=>Heap.get?_push_of_some _ q) (Nat.le_refl _) ?_,rfl,q _ (I.hok.fresh (Nat.le_refl _))⟩
 exact ⟨Nat.le_trans (cutV_length xs lo hi) hz,_,(r.drop (HT.sIx xs.length 0 lo)).take (HT.sIx xs.length xs.length hi - HT.sIx xs.length 0 lo),IsTupN.new _ _⟩
theorem Vals.nil_iff {xs:List V} {us:List Value} (r:Vals xs us):us=[]↔xs=[]:=by
 cases r with
 |nil=>simp
 |cons _ _=>simp
end
end L2
namespace L2
open PySem PySem.Spec PyProof.Rows
def ixN (n:Nat) (i:Int):Option Nat:=if 0≤i then (if i<n then some i.toNat else none) else if -(n:Int)≤i then some (i+n).toNat else none
def atI {α:Type} (xs:List α) (i:Int):Option α:=(ixN xs.length i).bind fun j=>xs[j]?
theorem ixN_seq {n:Nat} {i:Int} {j:Nat} (h:ixN n i=some j):seqIndex? i n=some j∧j<n∧ -(n:Int)≤i∧i<n:=by
 unfold ixN at h
 by_cases h0:0≤i
 ·rw [if_pos h0] at h
  by_cases h1:i<n
  ·rw [if_pos h1] at h
   have e:i.toNat=j:=Option.some.inj h
   exact ⟨by rw [seqIndex_of h0 h1,e],by omega,by omega,h1⟩
  ·rw [if_neg h1] at h;cases h
 ·rw [if_neg h0] at h
  by_cases h1: -(n:Int)≤i
  ·rw [if_pos h1] at h
   have e:(i+n).toNat=j:=Option.some.inj h
   exact ⟨by rw [seqIndex_neg (by omega) h1,e],by omega,h1,by omega⟩
  ·rw [if_neg h1] at h;cases h
theorem atI_get {α:Type} {xs:List α} {i:Int} {v:α} (h:atI xs i=some v):∃j,seqIndex? i xs.length=some j∧xs[j]? =some v∧j<xs.length∧ -(xs.length:Int)≤i∧i<xs.length:=by
 unfold atI at h
 cases e:ixN xs.length i with
 |none=>rw [e] at h;cases h
 |some j=>
  rw [e] at h
  obtain ⟨h1,h2,h3,h4⟩:=ixN_seq e
  exact ⟨j,h1,h,h2,h3,h4⟩
theorem Av {α:Type} {xs:List α} {j:Nat} {v:α} (h:xs[j]? =some v):atI xs (j:Int)=some v:=by
 have hj:j<xs.length:=(List.getElem?_eq_some_iff.mp h).1
 have e:ixN xs.length (j:Int)=some j:=by
  unfold ixN
  rw [if_pos (by exact Int.natCast_nonneg _),if_pos (by omega)];simp
 unfold atI;rw [e];exact h
def PlainIx (b:Expr):Prop:=∀o i,subscripted b false o i=operate [o,i] (getItem o i)
def IxR (X:Cx) (r:R2):Prop:=
 ∀(value slice:Expr) (pins:List (Addr×Obj)) (s:Shared) (σ:St) (H:Hp) (x y:V) (v u:Value) (Q:VK),Inv X pins σ H s→RelV x v→RelV y u→r x y H Q→
  subscripted slice false v u=operate [v,u] (getItem v u)→wpAny (model X.prog X.w) X.A (subscriptTail value slice v u) (EP X pins σ Q) X.xe s
def MtR (X:Cx) (id:String) (r:V→List V→Hp→VK→Prop):Prop:=
 ∀(pins:List (Addr×Obj)) (s:Shared) (σ:St) (H:Hp) (x:V) (xs:List V) (v:Value) (us:List Value) (Q:VK),Inv X pins σ H s→RelV x v→Vals xs us→r x xs H Q→
  wpAny (model X.prog X.w) X.A (call (.builtin id) (v::us)) (EP X pins σ Q) X.xe s
section
variable {X:Cx} {a b:Expr} {ta tb:TE} {pos:Pos}
theorem A8 {r:R2} (hr:IxR X r) (ha:PE X a ta) (hb:PE X b tb) (hs:PlainIx b):PE X (.Subscript a b pos) (tOp r ta tb):=by
 intro pins s σ H Q I h
 exact Subscript_ (binT ha hb I h fun v u s2 x y H2 I2 rx ry q=>hr a b pins s2 σ H2 x y v u Q I2 rx ry q (hs _ _))
inductive RIxLP (K:PySem.W.Frag) (x:V) (y:V) (H:Hp) (Q:VK):Prop
 |mk (p xs i v:_):(x= .ref p)→(y= .int i)→(SqL K H p xs)→(atI xs i=some v)→(Q v H)→RIxLP K x y H Q
def rIxL (K:PySem.W.Frag):R2:=fun x y H Q=>RIxLP K x y H Q
inductive RIxTP (K:PySem.W.Frag) (x:V) (y:V) (H:Hp) (Q:VK):Prop
 |mk (p xs i v:_):(x= .ref p)→(y= .int i)→(SqT K H p xs)→(atI xs i=some v)→(Q v H)→RIxTP K x y H Q
def rIxT (K:PySem.W.Frag):R2:=fun x y H Q=>RIxTP K x y H Q
inductive RIxSP (x:V) (y:V) (H:Hp) (Q:VK):Prop
 |mk (z i c:_):(x= .str z)→(y= .int i)→(z.length≤sizeLine)→(atI z.cps.toList i=some c)→(Q (.str ⟨#[c]⟩) H)→RIxSP x y H Q
def rIxS:R2:=fun x y H Q=>RIxSP x y H Q
theorem A0:IxR X (rIxL X.K):=by
 intro value slice pins s σ H x y v u Q I rx ry h hs
 obtain ⟨p,xs,i,z,rfl,rfl,hq,he,q⟩:=h
 cases rx
 obtain ⟨t,rfl⟩:=ry
 obtain ⟨its,r,pl,hz⟩:=I.list hq
 obtain ⟨j,h1,h2,h3,h4,h5⟩:=atI_get he
 obtain ⟨w,ew,rw'⟩:=r.get h2
 have hl:=r.length
 have hn:=line63
 have fin:EP X pins σ Q w s:=⟨z,H,I,rw',q⟩
 by_cases h0:0≤i
 ·have hj:i.toNat=j:=by
   rw [seqIndex_of h0 h5] at h1
   exact Option.some.inj h1
  exact item_listR pl.isList h0 (by omega) (by rw [hj];simpa using ew) fin hs
 ·have hj:(i+(its.toArray.size:Int)).toNat=j:=by
   rw [seqIndex_neg (by omega) h4] at h1
   rw [List.size_toArray,←hl]
   exact Option.some.inj h1
  exact subscriptTail_builtinR (x:=w) pl.isList.typeIs slot_list_getitem.lookup
   (wpAny_getItem_list_neg (Q:=fun r s'=>r=w∧EP X pins σ Q r s') pl.isList (by omega) (by rw [List.size_toArray]<;> omega) (by omega) (by rw [hj];simpa using ew) ⟨rfl,fin⟩) hs
theorem ix_tup:IxR X (rIxT X.K):=by
 intro value slice pins s σ H x y v u Q I rx ry h hs
 obtain ⟨p,xs,i,z,rfl,rfl,hq,he,q⟩:=h
 cases rx
 obtain ⟨t,rfl⟩:=ry
 obtain ⟨its,r,pl,hz⟩:=I.tuple hq
 obtain ⟨j,h1,h2,h3,h4,h5⟩:=atI_get he
 obtain ⟨w,ew,rw'⟩:=r.get h2
 have hl:=r.length
 have hn:=line63
 have fin:EP X pins σ Q w s:=⟨z,H,I,rw',q⟩
 exact subscriptTail_builtinR (x:=w) pl.typeIs slot_tuple_getitem.lookup
  (getItem_tuple (j:=j) (Q:=fun r s'=>r=w∧EP X pins σ Q r s') pl (by omega) (by omega) (by rw [List.size_toArray,←hl];exact h1) (by simpa using ew) ⟨rfl,fin⟩) hs
theorem ix_str:IxR X rIxS:=by
 intro value slice pins s σ H x y v u Q I rx ry h hs
 obtain ⟨z,i,c,rfl,rfl,hz,he,q⟩:=h
 obtain ⟨t,rfl⟩:=rx
 obtain ⟨t',rfl⟩:=ry
 obtain ⟨j,h1,h2,h3,h4,h5⟩:=atI_get he
 have hl:z.cps.toList.length=z.length:=by simp [Str.length]
 rw [hl] at h1 h4 h5
 have hn:=line63
 exact tail_any (typeIs_str s z t) slot_str_getitem.lookup (getItem_str (c:=c) (by
  have e1:decide (i< -(2 ^ 63:Int))=false:=decide_eq_false (by omega)
  have e2:decide (i ≥ 2 ^ 63)=false:=decide_eq_false (by omega)
  rw [e1,e2,Bool.or_false]) (by rw [h1];simpa using h2) ⟨.str ⟨#[c]⟩,H,I.tok _,⟨_,rfl⟩,q⟩) hs
theorem slice_bounds (lo hi:Option Int) (n:Nat):(sliceBounds lo hi none n).1=((HT.sIx n 0 lo:Nat):Int)∧(sliceBounds lo hi none n).2.1=((HT.sIx n n hi:Nat):Int)∧(sliceBounds lo hi none n).2.2=1:=by
 refine ⟨?_,?_,rfl⟩
 ·cases lo with
  |none=>simp [sliceBounds,HT.sIx]
  |some i=>
   simp only [sliceBounds,HT.sIx,Option.getD_none,show (1:Int) > 0 by decide,if_true]
   by_cases h:i<0
   ·simp only [h,if_true]<;> omega
   ·simp only [h,if_false]<;> omega
 ·cases hi with
  |none=>simp [sliceBounds,HT.sIx]
  |some i=>
   simp only [sliceBounds,HT.sIx,Option.getD_none,show (1:Int) > 0 by decide,if_true]
   by_cases h:i<0
   ·simp only [h,if_true]<;> omega
   ·simp only [h,if_false]<;> omega
theorem slicePick_cut (its:List Value) (lo hi:Option Int):slicePick its.toArray lo hi none=((its.drop (HT.sIx its.length 0 lo)).take (HT.sIx its.length its.length hi - HT.sIx its.length 0 lo)).toArray:=by
 obtain ⟨h1,h2,h3⟩:=slice_bounds lo hi its.toArray.size
 unfold slicePick
 rw [h1,h2,h3]
 simp only [sliceRange_one,pick_run,List.size_toArray]<;> rfl
inductive RSlLP (K:PySem.W.Frag) (x:V) (lo:Option Int) (hi:Option Int) (H:Hp) (Q:VK):Prop
 |mk (a xs:_):(x= .ref a)→(SqL K H a xs)→(∀p,H p=none→Q (.ref p) (upd H p (.lst (cutV xs lo hi))))→RSlLP K x lo hi H Q
def rSlL (K:PySem.W.Frag):V→Option Int→Option Int→Hp→VK→Prop:=fun x lo hi H Q=>RSlLP K x lo hi H Q
theorem sl_list:SlR X (rSlL X.K):=by
 intro pins s σ H x v vl vu lo hi sl Q I rx hs pl pu h
 obtain ⟨a,xs,rfl,hx,q⟩:=h
 cases rx
 obtain ⟨its,r,ht,hz⟩:=I.list hx
 have hlen:=r.length
 refine ⟨"list",_,slot_list_getitem.lookup,ht.isList.typeIs,?_⟩
 refine wpAny_getItem_list_slice ht.isList hs pl pu .none (by simp) ?_ (by rw [List.size_toArray]<;> omega)
 rw [slicePick_cut,←hlen]
 refine ⟨.ref s.heap.objs.size,_,I.laid (t':=s.toks) (o:= .lst (cutV xs lo hi)) (fun b ob q=>Heap.get?_push_of_some _ q) (Nat.le_refl _) ?_,rfl,q _ (I.hok.fresh (Nat.le_refl _))⟩
 exact ⟨Nat.le_trans (cutV_length xs lo hi) hz,_,0,(r.drop (HT.sIx xs.length 0 lo)).take (HT.sIx xs.length xs.length hi - HT.sIx xs.length 0 lo),Heap.get?_push_size _ rfl⟩
def flatV:V→Bool
 | .non=>true
 | .bl _=>true
 | .int _=>true
 | .str _=>true
 |_=>false
def eqV:V→V→Bool
 | .non,.non=>true
 | .bl a,.bl b=>a==b
 | .bl a,.int b=>(if a then 1 else 0)==b
 | .int a,.bl b=>a==(if b then 1 else 0)
 | .int a,.int b=>a==b
 | .str a,.str b=>a==b
 |_,_=>false
theorem eqAt_V {A:Around} {s:Shared} {y x:V} {u v:Value} (ry:RelV y u) (rx:RelV x v) (fy:flatV y=true) (fx:flatV x=true):SeqAt.EqAt A s u v (eqV y x):=by
 cases y with
 |non=>
  cases ry
  cases x with
  |non=>cases rx;exact SeqAt.EqAt.same _
  |bl b=>cases rx;exact SeqAt.EqAt.none_bool b
  |int b=>obtain ⟨t,rfl⟩:=rx;exact SeqAt.EqAt.none_int b t
  |str b=>obtain ⟨t,rfl⟩:=rx;exact SeqAt.EqAt.none_str b t
  |_=>exact absurd (show false=true from fx) Bool.false_ne_true
 |bl a=>
  cases ry
  cases x with
  |non=>cases rx;exact SeqAt.EqAt.bool_none a
  |bl b=>cases rx;exact SeqAt.EqAt.bool_bool a b
  |int b=>obtain ⟨t,rfl⟩:=rx;exact SeqAt.EqAt.bool_int a b t
  |str b=>obtain ⟨t,rfl⟩:=rx;exact SeqAt.EqAt.bool_str a b t
  |_=>exact absurd (show false=true from fx) Bool.false_ne_true
 |int a=>
  obtain ⟨t',rfl⟩:=ry
  cases x with
  |non=>cases rx;exact SeqAt.EqAt.int_none a t'
  |bl b=>cases rx;exact SeqAt.EqAt.int_bool a t' b
  |int b=>obtain ⟨t,rfl⟩:=rx;exact SeqAt.EqAt.int_int a t' b t
  |str b=>obtain ⟨t,rfl⟩:=rx;exact SeqAt.EqAt.int_str a t' b t
  |_=>exact absurd (show false=true from fx) Bool.false_ne_true
 |str a=>
  obtain ⟨t',rfl⟩:=ry
  cases x with
  |non=>cases rx;exact SeqAt.EqAt.str_none a t'
  |bl b=>cases rx;exact SeqAt.EqAt.str_bool a t' b
  |int b=>obtain ⟨t,rfl⟩:=rx;exact SeqAt.EqAt.str_int a t' b t
  |str b=>obtain ⟨t,rfl⟩:=rx;exact SeqAt.EqAt.str_str a t' b t
  |_=>exact absurd (show false=true from fx) Bool.false_ne_true
 |_=>exact absurd (show false=true from fy) Bool.false_ne_true
def eqU (x:V) (u:Value):Bool:=match u with
 | .none=>eqV .non x
 | .bool b=>eqV (.bl b) x
 | .int i _=>eqV (.int i) x
 | .str z _=>eqV (.str z) x
 |_=>false
theorem eqU_of {x y:V} {u:Value} (r:RelV y u) (f:flatV y=true):eqU x u=eqV y x:=by
 cases y with
 |non=>cases r;rfl
 |bl b=>cases r;rfl
 |int i=>obtain ⟨t,rfl⟩:=r;rfl
 |str z=>obtain ⟨t,rfl⟩:=r;rfl
 |_=>exact absurd (show false=true from f) Bool.false_ne_true
theorem any_eqU {x:V}:∀{xs:List V} {us:List Value},Vals xs us→xs.all flatV=true→us.any (eqU x)=xs.any fun y=>eqV y x
 |_,_,.nil,_=>rfl
 |y::xs,u::us,.cons r t,f=>by
  rw [List.all_cons,Bool.and_eq_true] at f
  rw [List.any_cons,List.any_cons,eqU_of r f.1,any_eqU t f.2]
theorem mem_eqAt {A:Around} {s:Shared} {x:V} {v:Value} (rx:RelV x v) (fx:flatV x=true):∀{xs:List V} {us:List Value},Vals xs us→xs.all flatV=true→∀u∈us,SeqAt.EqAt A s u v (eqU x u)
 |_,_,.nil,_=>fun u hu=>by cases hu
 |y::xs,u::us,.cons r t,f=>fun u' hu=>by
  rw [List.all_cons,Bool.and_eq_true] at f
  rcases List.mem_cons.mp hu with rfl|hu
  ·rw [eqU_of r f.1];exact eqAt_V r rx f.1 fx
  ·exact mem_eqAt rx fx t f.2 u' hu
def inV (x:V) (xs:List V):Bool:=xs.any fun y=>eqV y x
inductive RInP (K:PySem.W.Frag) (neg:Bool) (x:V) (y:V) (H:Hp) (Q:VK):Prop
 |mk (p xs:_):(y= .ref p)→((SqL K H p xs∨SqT K H p xs))→(flatV x=true)→(xs.all flatV=true)→(Q (.bl (if neg then !inV x xs else inV x xs)) H)→RInP K neg x y H Q
def rIn (K:PySem.W.Frag) (neg:Bool):R2:=fun x y H Q=>RInP K neg x y H Q
theorem op_notIn_seq:OpR X (compareOp .NotIn) (rIn X.K true):=by
 intro pins s σ H x y v u Q I rx ry h
 obtain ⟨p,xs,rfl,hq,fx,fs,q⟩:=h
 cases ry
 rcases hq with hq|hq
 ·obtain ⟨its,r,pl,hz⟩:=I.list hq
  refine SeqAt.notIn_listAt (eqU x) pl.isList (fun w hw=>mem_eqAt rx fx r fs w (by simpa using hw)) ⟨.bl _,H,I,rfl,?_⟩
  rw [show its.toArray.any (eqU x)=its.any (eqU x) by simp,any_eqU r fs]
  exact q
 ·obtain ⟨its,r,pl,hz⟩:=I.tuple hq
  refine SeqAt.notIn_tupleAt (eqU x) pl (fun w hw=>mem_eqAt rx fx r fs w (by simpa using hw)) ⟨.bl _,H,I,rfl,?_⟩
  rw [show its.toArray.any (eqU x)=its.any (eqU x) by simp,any_eqU r fs]
  exact q
theorem A4:CallR X (.builtin "len") (fun xs H Q=>∃p ys,xs=[.ref p]∧(SqL X.K H p ys∨SqT X.K H p ys)∧Q (.int ys.length) H):=by
 intro pins s σ H xs us Q I r h
 obtain ⟨p,ys,rfl,hq,q⟩:=h
 obtain ⟨u,rfl,rx⟩:=vals1 r
 cases rx
 have hn:=line63
 rcases hq with hq|hq
 ·obtain ⟨its,r',pl,hz⟩:=I.list hq
  have hlen:=r'.length
  exact Calls.call_len_list pl.isList (by simp only [List.size_toArray]<;> omega) ⟨.int ys.length,H,I.tok _,⟨s.toks+1,by rw [List.size_toArray,hlen]⟩,q⟩
 ·obtain ⟨its,r',pl,hz⟩:=I.tuple hq
  have hlen:=r'.length
  exact len_tuple pl (by simp only [List.size_toArray]<;> omega) ⟨.int ys.length,H,I.tok _,⟨s.toks+1,by rw [List.size_toArray,hlen]⟩,q⟩
theorem call_list_of:CallR X (.type "list") (fun xs H Q=>∃p ys,xs=[.ref p]∧(SqL X.K H p ys∨SqT X.K H p ys)∧∀l,H l=none→Q (.ref l) (upd H l (.lst ys))):=by
 intro pins s σ H xs us Q I r h
 obtain ⟨p,ys,rfl,hq,q⟩:=h
 obtain ⟨u,rfl,rx⟩:=vals1 r
 cases rx
 have fin:∀(its:List Value),Vals ys its→ys.length≤sizeLine→∀(h':Heap) (c':Nat),(∀b o',s.heap.get? b=some o'→h'.get? b=some o')→
   h'.get? s.heap.objs.size=some {cls:= .type "list",dict:=none,data:= .seq its.toArray c',slots:= #[]}→EP X pins σ Q (.ref s.heap.objs.size) {s with heap:=h'}:=fun its r' hz h' c' kp e=>
  ⟨.ref s.heap.objs.size,_,I.laid (t':=s.toks) kp (Nat.le_refl _) (show ObjOk X.prog X.w _ h' _ (.lst ys) from ⟨hz,its,c',r',e⟩),rfl,q _ (I.hok.fresh (Nat.le_refl _))⟩
 rcases hq with hq|hq
 ·obtain ⟨its,r',pl,hz⟩:=I.list hq
  have hlen:=r'.length
  obtain ⟨o,ho,hc,n,hd⟩:=pl.isList
  exact call_list_seq p (.inl rfl) ho hc hd (fun h' c' kp e=>fin its r' hz h' c' kp e) (by simp only [List.size_toArray]<;> omega)
 ·obtain ⟨its,r',pl,hz⟩:=I.tuple hq
  have hlen:=r'.length
  obtain ⟨o,ho,hc,n,hd⟩:=pl
  exact call_list_seq p (.inr rfl) ho hc hd (fun h' c' kp e=>fin its r' hz h' c' kp e) (by simp only [List.size_toArray]<;> omega)
theorem call_tuple_of:CallR X (.type "tuple") (fun xs H Q=>∃p ys,xs=[.ref p]∧((SqL X.K H p ys∧∀l,H l=none→Q (.ref l) (upd H l (.tup ys)))∨(SqT X.K H p ys∧Q (.ref p) H))):=by
 intro pins s σ H xs us Q I r h
 obtain ⟨p,ys,rfl,h⟩:=h
 obtain ⟨u,rfl,rx⟩:=vals1 r
 cases rx
 rcases h with ⟨hq,q⟩|⟨hq,q⟩
 ·obtain ⟨its,r',pl,hz⟩:=I.list hq
  have hlen:=r'.length
  refine call_tuple_list pl.isList (fun h' kp=> ?_) (by simp only [List.size_toArray]<;> omega)
  have I1:Inv X pins σ H {s with heap:=h'}:=I.kept (t':=s.toks) kp
  have I2:Inv X pins σ (upd H h'.objs.size (.tup ys)) {s with heap:=h'.push {cls:= .type "tuple",data:= .seq its.toArray}}:=
   I1.laid (t':=s.toks) (fun b o e=>Heap.get?_push_of_some _ e) (Nat.le_refl _) (show ObjOk X.prog X.w _ _ _ (.tup ys) from ⟨hz,its,r',IsTupN.new _ _⟩)
  exact ⟨.ref h'.objs.size,_,I2,rfl,q _ (I1.hok.fresh (Nat.le_refl _))⟩
 ·obtain ⟨its,r',pl,hz⟩:=I.tuple hq
  exact call_tuple_same pl ⟨.ref p,H,I,rfl,q⟩
def tyV (K:PySem.W.Frag) (T:String) (x:V) (H:Hp):Prop:=match x with
 | .str _=>T="str"
 | .int _=>T="int"
 | .ref p=>(T="list"∧∃xs,SqL K H p xs)∨(T="tuple"∧((∃o,K.lookup p=some o∧o.cls= .type "tuple"∧o.dict=none)∨∃xs,H p=some (.tup xs)))∨
   (T="dict"∧((∃kvs,H p=some (.dK kvs))∨∃kvs,H p=some (.dT kvs)))∨(T="set"∧∃S n,H p=some (.set S n))
 |_=>False
theorem tyV_is {pins:List (Addr×Obj)} {σ:St} {H:Hp} {s:Shared} {T:String} {x:V} {v:Value} (I:Inv X pins σ H s) (r:RelV x v) (ty:tyV X.K T x H):
  s.TypeIs v T∧∀a,v= .ref a→∃ob,s.heap.get? a=some ob∧ob.dict=none:=by
 cases x with
 |str z=>
  obtain ⟨t,rfl⟩:=r
  cases (show T="str" from ty)
  exact ⟨typeIs_str s z t,fun _ e=>nomatch e⟩
 |int i=>
  obtain ⟨t,rfl⟩:=r
  cases (show T="int" from ty)
  exact ⟨typeIs_int s i t,fun _ e=>nomatch e⟩
 |ref p=>
  cases r
  rcases ty with ⟨rfl,xs,hq⟩|⟨rfl,⟨o,hk,hc,hd⟩|⟨xs,hx⟩⟩|⟨rfl,hk⟩|⟨rfl,S,n,hk⟩
  ·obtain ⟨its,_,pl,_⟩:=I.list hq
   refine ⟨pl.isList.typeIs,fun a e=> ?_⟩
   cases e
   obtain ⟨o,n,e,c,hd,_⟩:=pl
   exact ⟨o,e,hd⟩
  ·refine ⟨⟨o,I.kIn p o hk,hc⟩,fun a e=> ?_⟩
   cases e
   exact ⟨o,I.kIn _ o hk,hd⟩
  ·obtain ⟨_,_,_,o,e,c,d,_⟩:=(show ObjOk X.prog X.w H s.heap p (.tup xs) from I.hok p _ hx)
   refine ⟨⟨o,e,c⟩,fun a e2=> ?_⟩
   cases e2
   exact ⟨o,e,d⟩
  ·have z:∃o,s.heap.get? p=some o∧o.ExactDict:=by
    rcases hk with ⟨kvs,hk⟩|⟨kvs,hk⟩
    ·obtain ⟨_,_,_,_,o,_,_,e,ex,_⟩:=I.hok p _ hk
     exact ⟨o,e,ex⟩
    ·obtain ⟨_,_,_,_,o,_,_,e,ex,_⟩:=I.hok p _ hk
     exact ⟨o,e,ex⟩
   obtain ⟨o,e,ex⟩:=z
   refine ⟨⟨o,e,ex.1⟩,fun a e2=> ?_⟩
   cases e2
   exact ⟨o,e,ex.2.1⟩
  ·obtain ⟨o,_,_,_,e,ex,_⟩:=I.hok p _ hk
   refine ⟨⟨o,e,ex.1⟩,fun a e2=> ?_⟩
   cases e2
   exact ⟨o,e,ex.2.1⟩
 |_=>exact False.elim ty
def tBM0 (K:PySem.W.Frag) (T:String) (r:V→List V→Hp→VK→Prop) (to:TE):TE:=fun σ H Q=>to σ H fun x H1=>tyV K T x H1∧r x [] H1 Q
def tBM (K:PySem.W.Frag) (T:String) (r:V→List V→Hp→VK→Prop) (to:TE) (t:TA):TE:=fun σ H Q=>to σ H fun x H1=>tyV K T x H1∧t σ H1 fun xs H2=>r x xs H2 Q
variable {o e:Expr} {es:List Expr} {to:TE} {t:TA} {name:Str} {apos cpos:Pos} {T id:String} {r:V→List V→Hp→VK→Prop}
theorem pe_bm0 (pa:PlainAttrs T) (slot:Slot T name id) (hty:typeOf (.builtin id)=pure (.type "method_descriptor")) (hm:MtR X id r) (ho:PE X o to)
  (hbase:attributeBase o name X.env (eval o X.env)=eval o X.env:=by rfl) (hline:(apos.endLine==cpos.line)=true:=by rfl):PE X (.Call (.Attribute o name apos) [] [] cpos) (tBM0 X.K T r to):=by
 intro pins s σ H Q I h
 refine wpAny_Call_method0_late hbase hline (thn (ho pins s σ H _ I h) fun v s1 ⟨x,H1,I1,r1,ty,q1⟩=> ?_)
 obtain ⟨h1,h2⟩:=tyV_is I1 r1 ty
 exact ⟨T,id,pa,slot,hty,h1,h2,Calls.callWith_builtin rfl (PySem.evalArgs_none (hm pins s1 σ H1 x [] v [] Q I1 r1 .nil q1))⟩
theorem pe_bm (pa:PlainAttrs T) (slot:Slot T name id) (hty:typeOf (.builtin id)=pure (.type "method_descriptor")) (hm:MtR X id r) (ho:PE X o to) (ha:PA X (e::es) t)
  (hbase:attributeBase o name X.env (eval o X.env)=eval o X.env:=by rfl)
  (hfew:((backTo cpos (starEach (e::es) X.env)).all (fun x=> !x.1) && (backToKw cpos (keywordEach [] X.env)).all (fun x=>x.1.isSome)
   && decide ((e::es).length+([]:List Keyword).length+(if ([]:List Keyword).isEmpty then 0 else 1)<30))=true:=by rfl)
  (hline:(apos.endLine==cpos.line)=true:=by rfl) (hs:starEach (e::es) X.env=(false,eval e X.env)::starEach es X.env:=by rfl) (hplain:(backTo cpos (starEach es X.env)).any (·.1)=false:=by rfl):
  PE X (.Call (.Attribute o name apos) (e::es) [] cpos) (tBM X.K T r to t):=by
 intro pins s σ H Q I h
 refine wpAny_Call_method_late hbase hfew hline rfl (thn (ho pins s σ H _ I h) fun v s1 ⟨x,H1,I1,r1,ty,q1⟩=> ?_)
 obtain ⟨h1,h2⟩:=tyV_is I1 r1 ty
 refine ⟨T,id,pa,slot,hty,h1,h2,?_⟩
 have hA:=ha cpos pins s1 σ H1 _ I1 q1
 rw [hs] at hA ⊢
 refine Calls.callWith_builtin (by show (false||(backTo cpos (starEach es X.env)).any (·.1))=false;rw [hplain]<;> rfl) (Calls.evalArgs_plain ?_)
 exact thn hA fun us s2 ⟨vs,H2,I2,r2,q2⟩=>hm pins s2 σ H2 x vs v us Q I2 r1 r2 q2
end
end L2
namespace L2
open PySem PySem.Spec PyProof.Rows
def MtM (X:Cx) (id:String) (r:V→List V→Hp→VK→Prop):Prop:=
 ∀(pins:List (Addr×Obj)) (s:Shared) (σ:St) (H:Hp) (x:V) (xs:List V) (v:Value) (us:List Value) (Q:VK),Inv X pins σ H s→RelV x v→Vals xs us→r x xs H Q→
  wpAny (model X.prog X.w) X.A (call (.builtin id) (v::us)) (EP X pins σ Q) X.xe s
theorem Vals.one:∀{x:V} {us:List Value},Vals [x] us→∃u,us=[u]∧RelV x u
 |_,_,.cons r .nil=>⟨_,rfl,r⟩
theorem Vals.zero:∀{us:List Value},Vals [] us→us=[]
 |_,.nil=>rfl
theorem Vals.dropLast {xs:List V} {us:List Value} (h:Vals xs us):Vals xs.dropLast us.dropLast:=by
 induction h with
 |nil=>exact .nil
 |cons r t ih=>
  cases t with
  |nil=>exact .nil
  |cons q t'=>exact .cons r ih
theorem Vals.reverse {xs:List V} {us:List Value} (h:Vals xs us):Vals xs.reverse us.reverse:=by
 induction h with
 |nil=>exact .nil
 |cons r t ih=>rw [List.reverse_cons,List.reverse_cons];exact Vals.append ih (.cons r .nil)
theorem erase_last {α:Type} (l:List α):l.eraseIdx (l.length - 1)=l.dropLast:=by
 induction l with
 |nil=>rfl
 |cons a r ih=>
  cases r with
  |nil=>rfl
  |cons b r=>
   have e:(a::b::r).length - 1=((b::r).length - 1)+1:=by
    have h1:(a::b::r).length=r.length+2:=rfl
    have h2:(b::r).length=r.length+1:=rfl
    assumption
   rw [e,List.eraseIdx_cons_succ,ih]
   all_goals rfl
section
variable {X:Cx} {pins:List (Addr×Obj)} {σ:St} {H:Hp} {s:Shared} {l b:Addr} {xs ys zs:List V}
theorem Inv.lset {its its':List Value} {n:Nat} {f:Array Value→Array Value} {t':Nat} (I:Inv X pins σ H s) (hH:H l=some (.lst xs))
  (e:s.heap.get? l=some {cls:= .type "list",data:= .seq its.toArray n}) (hf:f its.toArray=its'.toArray) (hv:Vals ys its') (hz:ys.length≤sizeLine):
  Inv X pins σ (upd H l (.lst ys)) {s with heap:=s.heap.update l (Obj.mapSeq f),toks:=t'}:=by
 have q:=PySem.IsL.update e f
 rw [hf] at q
 refine I.write (x:=l) (e:=l) (by rw [hH];exact trivial) (.inl rfl) (fun b' u hb hu=>(Heap.get?_update_other s.heap (Obj.mapSeq f) (Ne.symm hb)).trans hu) ⟨_,q⟩ ?_
 exact ⟨hz,its',_,hv,q⟩
theorem Inv.lnew {its:List Value} {t':Nat} (I:Inv X pins σ H s) (hv:Vals ys its) (hz:ys.length≤sizeLine):
  Inv X pins σ (upd H s.heap.objs.size (.lst ys)) {s with heap:=s.heap.push {cls:= .type "list",data:= .seq its.toArray},toks:=t'}:=
 I.laid (fun _ _ q=>Heap.get?_push_of_some _ q) (Nat.le_refl _) ⟨hz,its,0,hv,Heap.get?_push_size _ rfl⟩
theorem Inv.fresh (I:Inv X pins σ H s):H s.heap.objs.size=none:=I.hok.fresh (Nat.le_refl _)
theorem Inv.lstM (I:Inv X pins σ H s) (hH:H l=some (.lst xs)):xs.length≤sizeLine∧∃(its:List Value) (n:Nat),Vals xs its∧xs.length=its.length∧s.heap.get? l=some {cls:= .type "list",data:= .seq its.toArray n}:=by
 obtain ⟨z,its,n,r,e⟩:=I.hok l _ hH
 exact ⟨z,its,n,r,r.length,e⟩
end
section
variable {X:Cx}
inductive RAppendP (x:V) (vs:List V) (H:Hp) (Q:VK):Prop
 |mk (l xs y:_):(x= .ref l)→(vs=[y])→(H l=some (.lst xs))→(xs.length<sizeLine)→(Q .non (upd H l (.lst (xs++[y]))))→RAppendP x vs H Q
def rAppend:V→List V→Hp→VK→Prop:=fun x vs H Q=>RAppendP x vs H Q
theorem mt_append:MtM X "list.append" rAppend:=by
 intro pins s σ H x vs v us Q I rx rv h
 obtain ⟨l,xs,y,rfl,rfl,hH,hz,q⟩:=h
 cases rx
 obtain ⟨u,rfl,ru⟩:=rv.one
 obtain ⟨z,its,n,r,hl,e⟩:=I.lstM hH
 refine call_meets F.slot_list_append ⟨_,e,rfl⟩ F.entry_list_append (F.args_list_append_2 _ _) (PySem.list_append l its.toArray n u (by rw [List.size_toArray];omega)) ⟨e,?_⟩
 refine ⟨.non,_,I.lset (its':=its++[u]) hH e (by simp) (r.append (.cons ru .nil)) ?_,rfl,q⟩
 rw [List.length_append,List.length_singleton]
 assumption
inductive RPopP (x:V) (vs:List V) (H:Hp) (Q:VK):Prop
 |mk (l xs y:_):(x= .ref l)→(vs=[])→(H l=some (.lst xs))→(xs[xs.length - 1]? =some y)→(Q y (upd H l (.lst xs.dropLast)))→RPopP x vs H Q
def rPop:V→List V→Hp→VK→Prop:=fun x vs H Q=>RPopP x vs H Q
theorem mt_pop:MtM X "list.pop" rPop:=by
 intro pins s σ H x vs v us Q I rx rv h
 obtain ⟨l,xs,y,rfl,rfl,hH,hy,q⟩:=h
 cases rx
 have hus:=rv.zero
 subst hus
 obtain ⟨z,its,n,r,hl,e⟩:=I.lstM hH
 obtain ⟨u,hu,ru⟩:=r.get hy
 have hy':its.toArray[its.toArray.size - 1]? =some u:=by
  show its.toArray[its.length - 1]? =some u
  rw [←Array.getElem?_toList,←hl]
  exact hu
 refine call_meets F.slot_list_pop ⟨_,e,rfl⟩ F.entry_list_pop (F.args_list_pop_1 _) (MeetsSeq.list_pop_last l its.toArray n u hy' (by rw [List.size_toArray];omega)) ⟨e,?_⟩
 refine ⟨y,_,I.lset (its':=its.dropLast) hH e ?_ r.dropLast ?_,ru,q⟩
 ·show its.toArray.eraseIdxIfInBounds (its.toArray.size - 1)=its.dropLast.toArray
  rw [List.size_toArray,List.eraseIdxIfInBounds_toArray,erase_last]
 ·rw [List.length_dropLast]
  omega
inductive RCatP (x:V) (y:V) (H:Hp) (Q:VK):Prop
 |mk (l b xs zs:_):(x= .ref l)→(y= .ref b)→(H l=some (.lst xs))→(H b=some (.lst zs))→(xs.length+zs.length≤sizeLine)→(∀p,H p=none→Q (.ref p) (upd H p (.lst (xs++zs))))→RCatP x y H Q
def rCat:R2:=fun x y H Q=>RCatP x y H Q
theorem op_cat:OpR X (binaryOp .Add) rCat:=by
 intro pins s σ H x y v u Q I rx ry h
 obtain ⟨l,b,xs,zs,rfl,rfl,hH,hB,hz,q⟩:=h
 cases rx
 cases ry
 obtain ⟨z,its,n,r,hl,e⟩:=I.lstM hH
 obtain ⟨z2,its2,n2,r2,hl2,e2⟩:=I.lstM hB
 refine PySem.P.add_list e e2 ?_ (by rw [List.size_toArray,List.size_toArray];omega)
 have ea:its.toArray++its2.toArray=(its++its2).toArray:=by simp
 rw [ea]
 exact ⟨.ref _,_,I.lnew (t':=s.toks) (r.append r2) (by rw [List.length_append];assumption),rfl,q _ I.fresh⟩
end
end L2
namespace L2
open PySem PySem.Spec PyProof.Rows
section
variable {κ:Type} [DecidableEq κ]
def valV (kvs:List (κ×V)) (k:κ):Option V:=(kvs.find? fun kv=>decide (kv.1=k)).map (·.2)
def putK (kvs:List (κ×V)) (k:κ) (v:V):List (κ×V):=
 if (kvs.any fun kv=>decide (kv.1=k))=true then kvs.map (fun kv=>if kv.1=k then (kv.1,v) else kv) else kvs++[(k,v)]
theorem valV_pos {p:κ×V} {r:List (κ×V)} {k:κ} (e:p.1=k):valV (p::r) k=some p.2:=by simp [valV,List.find?_cons,e]
theorem valV_neg {p:κ×V} {r:List (κ×V)} {k:κ} (e:¬p.1=k):valV (p::r) k=valV r k:=by simp [valV,List.find?_cons,e]
theorem valV_any (k:κ):∀kvs:List (κ×V),(kvs.any fun kv=>decide (kv.1=k))=(valV kvs k).isSome
 |[]=>rfl
 |p::r=>by
  rw [List.any_cons]
  by_cases e:p.1=k
  ·simp only [valV_pos e,decide_eq_true e,Bool.true_or,Option.isSome_some]
  ·rw [valV_neg e,decide_eq_false e,Bool.false_or];exact valV_any k r
theorem length_putK (kvs:List (κ×V)) (k:κ) (v:V):(putK kvs k v).length≤kvs.length+1:=by
 unfold putK
 split
 ·rw [List.length_map];exact Nat.le_add_right _ _
 ·rw [List.length_append,List.length_cons,List.length_nil];exact Nat.add_le_add_left (by decide) _
theorem RelO.isSome_eq {o:Option V} {u:Option Value} (r:RelO o u):o.isSome=u.isSome:=by
 cases o with
 |none=>cases u with
  |none=>rfl
  |some _=>exact (show False from r).elim
 |some _=>cases u with
  |none=>exact (show False from r).elim
  |some _=>rfl
theorem KV.val {kvs:List (κ×V)} {vs:List (κ×Value)} (r:KV kvs vs) (k:κ):RelO (valV kvs k) (valueAt vs k):=by
 unfold KV at r
 induction r with
 |nil=>exact True.intro
 | @cons p q ps qs h t ih=>
  obtain ⟨h1,h2⟩:=h
  by_cases e:p.1=k
  ·have e':q.1=k:=h1.symm.trans e
   have b:valueAt (q::qs) k=some q.2:=by simp [valueAt,List.find?_cons,e']
   rw [valV_pos e,b];exact h2
  ·have e':¬q.1=k:=fun z=>e (h1.trans z)
   have b:valueAt (q::qs) k=valueAt qs k:=by simp [valueAt,List.find?_cons,e']
   rw [valV_neg e,b];exact ih
theorem KV.any {kvs:List (κ×V)} {vs:List (κ×Value)} (r:KV kvs vs) (k:κ):(kvs.any fun kv=>decide (kv.1=k))=vs.any fun kv=>decide (kv.1=k):=by
 unfold KV at r
 induction r with
 |nil=>rfl
 |cons h t ih=>rw [List.any_cons,List.any_cons,ih,h.1]
theorem KV.repl {kvs:List (κ×V)} {vs:List (κ×Value)} (r:KV kvs vs) (k:κ) {y:V} {u:Value} (ry:RelV y u):
  KV (kvs.map fun kv=>if kv.1=k then (kv.1,y) else kv) (vs.map fun kv=>if kv.1=k then (kv.1,u) else kv):=by
 unfold KV at r ⊢
 induction r with
 |nil=>exact .nil
 | @cons p q ps qs h t ih=>
  rw [List.map_cons,List.map_cons]
  refine .cons ?_ ih
  obtain ⟨h1,h2⟩:=h
  by_cases e:p.1=k
  ·rw [if_pos e,if_pos (h1.symm.trans e)];exact ⟨h1,ry⟩
  ·rw [if_neg e,if_neg (fun z=>e (h1.trans z))];exact ⟨h1,h2⟩
theorem KV.put {kvs:List (κ×V)} {vs:List (κ×Value)} (r:KV kvs vs) (k:κ) {y:V} {u:Value} (ry:RelV y u):KV (putK kvs k y) (stored vs k u):=by
 unfold putK stored
 rw [r.any k]
 by_cases e:(vs.any fun kv=>decide (kv.1=k))=true
 ·rw [if_pos e,if_pos e];exact r.repl k ry
 ·rw [if_neg e,if_neg e];exact Paired.snoc r ⟨rfl,ry⟩
theorem KV.length {kvs:List (κ×V)} {vs:List (κ×Value)} (r:KV kvs vs):kvs.length=vs.length:=Paired.length r
end
theorem kV_is {P:Program} {w:World} {k:Key} {u:Value} (r:RelV (kV k) u):(Bd P w).is k u=true:=by
 cases k with
 |inl i=>obtain ⟨t,e⟩:=(show ∃t,u=Value.int i t from r);subst e;exact mixKind_int P w i t
 |inr x=>obtain ⟨t,e⟩:=(show ∃t,u=Value.str x t from r);subst e;exact mixKind_str P w x t
theorem items_are {P:Program} {w:World}:∀{ks:List Key} {us:List Value},Vals (ks.map kV) us→ItemsAre (Bd P w) ks us
 |[],_,r=>by rw [List.map_nil] at r;cases r;exact .nil
 |k::ks,_,r=>by
  rw [List.map_cons] at r
  cases r with
  |cons h t=>exact .cons (kV_is h) (items_are t)
abbrev KT (H:Hp):List (List Key×V)→List (List Key×Addr×Value)→Prop:=Paired fun p q=>p.1=q.1∧H q.2.1=some (.tup (p.1.map kV))∧RelV p.2 q.2.2
theorem KT.val {H:Hp} {kvs:List (List Key×V)} {xs:List (List Key×Addr×Value)} (r:KT H kvs xs) (k:List Key):RelO (valV kvs k) ((atKey xs k).map (·.2)):=by
 induction r with
 |nil=>exact True.intro
 | @cons p q ps qs h t ih=>
  obtain ⟨h1,_,h2⟩:=h
  by_cases e:p.1=k
  ·have e':q.1=k:=h1.symm.trans e
   have b:atKey (q::qs) k=some q.2:=by simp [atKey,List.find?_cons,e']
   rw [valV_pos e,b];exact h2
  ·have e':¬q.1=k:=fun z=>e (h1.trans z)
   have b:atKey (q::qs) k=atKey qs k:=by simp [atKey,List.find?_cons,e']
   rw [valV_neg e,b];exact ih
theorem KT.repl {H:Hp} {kvs:List (List Key×V)} {xs:List (List Key×Addr×Value)} (r:KT H kvs xs) (k:List Key) {y:V} {u:Value} (ry:RelV y u):
  KT H (kvs.map fun kv=>if kv.1=k then (kv.1,y) else kv) (xs.map (putAt k u)):=by
 induction r with
 |nil=>exact .nil
 | @cons p q ps qs h t ih=>
  rw [List.map_cons,List.map_cons]
  refine .cons ?_ ih
  obtain ⟨h1,h2,h3⟩:=h
  unfold putAt
  by_cases e:p.1=k
  ·rw [if_pos e,if_pos (h1.symm.trans e)];exact ⟨h1,h2,ry⟩
  ·rw [if_neg e,if_neg (fun z=>e (h1.trans z))];exact ⟨h1,h2,h3⟩
theorem KT.put {H:Hp} {kvs:List (List Key×V)} {xs:List (List Key×Addr×Value)} (r:KT H kvs xs) (k:List Key) {b:Addr} {y:V} {u:Value} (hb:H b=some (.tup (k.map kV))) (ry:RelV y u):
  KT H (putK kvs k y) (storedH xs k b u):=by
 have e:(kvs.any fun kv=>decide (kv.1=k))=(atKey xs k).isSome:=by
  rw [valV_any,(r.val k).isSome_eq,Option.isSome_map]
 unfold putK storedH
 rw [e]
 by_cases q:(atKey xs k).isSome=true
 ·rw [if_pos q,if_pos q];exact r.repl k ry
 ·rw [if_neg q,if_neg q];exact Paired.snoc r ⟨rfl,hb,ry⟩
theorem KT.keeps {H H':Hp} {kvs:List (List Key×V)} {xs:List (List Key×Addr×Value)} (r:KT H kvs xs) (ht:∀b ys,H b=some (.tup ys)→H' b=some (.tup ys)):KT H' kvs xs:=
 Paired.mapP r fun _ _ z=>⟨z.1,ht _ _ z.2.1,z.2.2⟩
section
variable {P:Program} {w:World} {H:Hp} {h:Heap} {a:Addr}
theorem rd_of {u:HO} (ok:HOk P w H h) (e:Rd H a u):ObjOk P w H h a u:=e.ok ok
theorem dk_rd {kvs:List (Key×V)} (ok:HOk P w H h) (e:Rd H a (.dK kvs)):kvs.length≤sizeLine∧(a==sysModules)=false∧∃vs,KV kvs vs∧h.DictOf (Bd P w) a vs:=
 show ObjOk P w H h a (.dK kvs) from rd_of ok e
theorem dk_of {kvs:List (Key×V)} (ok:HOk P w H h) (e:H a=some (.dK kvs)):kvs.length≤sizeLine∧(a==sysModules)=false∧∃vs,KV kvs vs∧h.DictOf (Bd P w) a vs:=dk_rd ok (.inl e)
theorem key_of {ks:List Key} (ok:HOk P w H h) (e:H a=some (.tup (ks.map kV))):(tupleKind (Bd P w)).is h ks a:=by
 obtain ⟨_,its,r,o,h1,h2,_,n,h3⟩:=(show ObjOk P w H h a (.tup (ks.map kV)) from ok a _ e)
 exact ⟨o,its.toArray,n,h1,h2,h3,by simpa using items_are r⟩
theorem dt_rd {kvs:List (List Key×V)} (ok:HOk P w H h) (e:Rd H a (.dT kvs)):kvs.length≤sizeLine∧(a==sysModules)=false∧
  ∃xs,KT H kvs xs∧h.DictOfH (tupleKind (Bd P w)) a xs:=by
 obtain ⟨z,y,xs,r,o,es,ep,h1,h2,h3,h4,h5⟩:=(show ObjOk P w H h a (.dT kvs) from rd_of ok e)
 refine ⟨z,y,xs,r,o,es,ep,h1,h2,h3,h4,fun x hx=> ?_,h5⟩
 have all:∀{l:List (List Key×V)} {m:List (List Key×Addr×Value)},KT H l m→∀x∈m,(tupleKind (Bd P w)).is h x.1 x.2.1:=by
  intro l m q
  induction q with
  |nil=>intro x hx;exact nomatch hx
  | @cons p q ps qs hq t ih=>
   intro x hx
   rcases List.mem_cons.mp hx with e|hx
   ·subst e
    exact key_of ok (by rw [←hq.1];exact hq.2.1)
   ·exact ih x hx
 exact all r x hx
theorem dt_of {kvs:List (List Key×V)} (ok:HOk P w H h) (e:H a=some (.dT kvs)):kvs.length≤sizeLine∧(a==sysModules)=false∧
  ∃xs,KT H kvs xs∧h.DictOfH (tupleKind (Bd P w)) a xs:=dt_rd ok (.inl e)
end
def DGet (H:Hp) (a:Addr) (y:V) (r:Option V):Prop:=
 (∃kvs k,Rd H a (.dK kvs)∧y=kV k∧r=valV kvs k)∨∃kvs k b,Rd H a (.dT kvs)∧y= .ref b∧H b=some (.tup (k.map kV))∧r=valV kvs k
def DPut (H:Hp) (a:Addr) (y v:V) (H':Hp):Prop:=
 (∃kvs k,H a=some (.dK kvs)∧y=kV k∧kvs.length<sizeLine∧H'=upd H a (.dK (putK kvs k v)))∨
 ∃kvs k b,H a=some (.dT kvs)∧y= .ref b∧H b=some (.tup (k.map kV))∧kvs.length<sizeLine∧H'=upd H a (.dT (putK kvs k v))
theorem DGet.k {H:Hp} {a:Addr} {kvs:List (Key×V)} {k:Key} (e:H a=some (.dK kvs)):DGet H a (kV k) (valV kvs k):= .inl ⟨kvs,k,.inl e,rfl,rfl⟩
section
variable {X:Cx} {pins:List (Addr×Obj)} {σ:St} {H:Hp} {s:Shared} {a:Addr} {y v:V} {u r:Value} {o:Option V} {A:Around} {E:Value→Shared→Prop}
theorem Inv.big (I:Inv X pins σ H s):sysModules<s.heap.objs.size:=by
 have h:mainGlobals<s.heap.objs.size:=(I.mod.glob.keeps I.bk).lt
 exact Nat.lt_trans (by decide) h
theorem d_getItem {Q:Value→Shared→Prop} (hu:A.units+1<cLine) (I:Inv X pins σ H s) (g:DGet H a y (some v)) (ry:RelV y u) (h:∀w' s',Inv X pins σ H s'→RelV v w'→Q w' s'):
  wpAny (model X.prog X.w) A (getItem (.ref a) u) Q E s:=by
 rcases g with ⟨kvs,k,e,ey,l⟩|⟨kvs,k,b,e,ey,eb,l⟩
 ·subst ey
  obtain ⟨z,hd,vs,rel,dd⟩:=dk_rd I.hok e
  obtain ⟨w',hw,rw'⟩:=RelO.some_of (v:=v) (o:=valueAt vs k) (by rw [l];exact rel.val k)
  exact wpAny_getItem_of (kV_is ry) dd.mapOf hw (h w' _ (I.tok _) rw')
 ·subst ey
  cases (show u=Value.ref b from ry)
  obtain ⟨z,hd,xs,rel,dd⟩:=dt_rd I.hok e
  obtain ⟨w',hw,rw'⟩:=RelO.some_of (v:=v) (o:=(atKey xs k).map (·.2)) (by rw [l];exact rel.val k)
  obtain ⟨p,hp,hp2⟩:=Option.map_eq_some_iff.mp hw
  refine wpAny_getItem_heap (tupleKind_room_in1 hu) (key_of I.hok eb) dd hp ?_
  rw [hp2]
  exact h w' _ (I.tok _) rw'
theorem d_write {h':Heap} {t':Nat} {ob:HO} (I:Inv X pins σ H s) (mu:Mut (H a)) (hs:Heap.SameBut a s.heap h') (he:∃q,h'.get? a=some q) (new:ObjOk X.prog X.w (upd H a ob) h' a ob):
  Inv X pins σ (upd H a ob) {s with heap:=h',toks:=t'}:=
 I.write (x:=a) (e:=a) mu (.inl rfl) (fun b q hb z=>(hs.2 b hb).trans z) he new
theorem dk_new {P:Program} {w:World} {H':Hp} {h':Heap} {kvs:List (Key×V)} {vs:List (Key×Value)} (z:kvs.length≤sizeLine) (hd:(a==sysModules)=false) (rel:KV kvs vs) (dd:h'.DictOf (Bd P w) a vs):
  ObjOk P w H' h' a (.dK kvs):=⟨z,hd,vs,rel,dd⟩
theorem d_setItem {H':Hp} {Q:Unit→Shared→Prop} (hu:A.units+1<cLine) (I:Inv X pins σ H s) (g:DPut H a y v H') (ry:RelV y u) (rv:RelV v r) (h:∀s',Inv X pins σ H' s'→Q () s'):
  wpAny (model X.prog X.w) A (setItem (.ref a) u r) Q E s:=by
 rcases g with ⟨kvs,k,e,ey,l,eH⟩|⟨kvs,k,b,e,ey,eb,l,eH⟩
 ·subst ey eH
  obtain ⟨z,hd,vs,rel,dd⟩:=dk_of I.hok e
  have hz:vs.length≤sizeLine:=by rw [←rel.length];exact z
  have hl:(putK kvs k v).length≤sizeLine:=by have:=length_putK kvs k v;exact Nat.le_trans (by assumption) (by assumption)
  refine wpAny_setItem_pairs (hsz:=hz) (kV_is ry) dd fun h' dd' hs=>h _ ?_
  have he:∃q,h'.get? a=some q:=let ⟨q,_,_,hq,_⟩:=dd';⟨q,hq⟩
  exact d_write I (by rw [e];exact True.intro) hs he (dk_new hl hd (rel.put k rv) dd')
 ·subst ey eH
  cases (show u=Value.ref b from ry)
  obtain ⟨z,hd,xs,rel,dd⟩:=dt_of I.hok e
  have hz:xs.length≤sizeLine:=by rw [←Paired.length rel];exact z
  have hl:(putK kvs k v).length≤sizeLine:=by have:=length_putK kvs k v;exact Nat.le_trans (by assumption) (by assumption)
  refine wpAny_setItem_heap (hsz:=hz) (tupleKind_room_in1 hu) (key_of I.hok eb) dd fun h' dd' hs=>h _ ?_
  obtain ⟨q,es,ep,hq,h2,h3,h4,_,h5⟩:=dd'
  refine d_write I (by rw [e];exact True.intro) hs ⟨q,hq⟩ ⟨hl,hd,_,(rel.put k eb rv).keeps fun c ys ec=> ?_,q,es,ep,hq,h2,h3,h4,h5⟩
  rw [Ah (ne_of ec e (fun z=>nomatch z))]
  exact ec
end
def NoSl (i:Expr):Prop:=∀ov iv,subscripted i false ov iv=operate [ov,iv] (getItem ov iv)
theorem subD_of {prog:Program} {w:World} {A:Around} {E:Value→Shared→Prop} {s:Shared} {env:Env} {value slice:Expr} {pos:Pos} {T id:String} {Q:Value→Shared→Prop}
  (hl:typeLookup (.type T) "__getitem__"=pure (some (.builtin id))) (hs:NoSl slice)
  (h:wpAny (model prog w) A (eval value env) (fun o s₁=>wpAny (model prog w) A (eval slice env) (fun i s₂=>s₂.TypeIs o T∧wpAny (model prog w) A (getItem o i) Q E s₂) E s₁) E s):
  wpAny (model prog w) A (eval (.Subscript value slice pos) env) Q E s:=by
 refine Subscript_ (wpAny_mono h (fun o s₁ h₁=>wpAny_mono h₁ (fun i s₂ h₂=> ?_) fun _ _ x=>x) fun _ _ x=>x)
 obtain ⟨hT,h₂⟩:=h₂
 unfold subscriptTail
 refine wpAny_bind ?_
 rw [getitemInPython_of_ne hT.not_modules]
 refine wpAny_bind (wpAny_specialOf hT hl ?_)
 have fin:wpAny (model prog w) A (subscripted slice false o i) (fun r s₃=>wpAny (model prog w) A (letTemporaryGo value o r >>=fun _=>pure r) Q E s₃) E s₂:=by
  rw [hs o i]
  exact wpAny_operating (wpAny_mono h₂ (fun r s₃ h₃=>wpAny_bind (wpAny_letTemporaryGo (wpAny_pure h₃))) fun _ _ x=>x)
 first
  |exact wpAny_pure (wpAny_bind fin)
  |exact wpAny_bind (wpAny_pure (wpAny_bind fin))
  |exact wpAny_bind fin
theorem dict_typeIs {X:Cx} {pins:List (Addr×Obj)} {σ:St} {H:Hp} {s:Shared} {a:Addr} {y:V} {o:Option V} (I:Inv X pins σ H s) (g:DGet H a y o):s.TypeIs (.ref a) "dict":=by
 rcases g with ⟨kvs,k,e,_,_⟩|⟨kvs,k,b,e,_,_,_⟩
 ·obtain ⟨_,_,vs,_,dd⟩:=dk_rd I.hok e
  exact dd.typeIs
 ·obtain ⟨_,_,xs,_,dd⟩:=dt_rd I.hok e
  exact dd.typeIs
def tDGet (td ty:TE):TE:=fun σ H Q=>td σ H fun x H1=>ty σ H1 fun y H2=>∃a v,x= .ref a∧DGet H2 a y (some v)∧Q v H2
def sDPut (td ty tv:TE):TS:=fun D σ H=>tv σ H fun v H1=>td σ H1 fun x H2=>ty σ H2 fun y H3=>∃a H4,x= .ref a∧DPut H3 a y v H4∧D.nx σ H4
section
variable {X:Cx} {o i e value:Expr} {pos pos' tpos:Pos} {td ty tv:TE}
theorem pe_dget (hu:X.A.units+1<cLine) (ho:PE X o td) (hi:PE X i ty) (hs:NoSl i):PE X (.Subscript o i pos) (tDGet td ty):=by
 intro pins s σ H Q I h
 refine subD_of PySem.F.slot_dict_getitem.lookup hs (thn (ho pins s σ H _ I h) fun u s1 ⟨x,H1,I1,rx,q1⟩=>thn (hi pins s1 σ H1 _ I1 q1) fun iv s2 ⟨y,H2,I2,ry,a,v,ex,g,q2⟩=> ?_)
 subst ex
 obtain rfl:u=Value.ref a:=rx
 exact ⟨dict_typeIs I2 g,d_getItem hu I2 g ry fun w' s3 I3 rw'=>⟨v,H2,I3,rw',q2⟩⟩
theorem ps_dput (hu:X.A.units+1<cLine) (ho:PE X o td) (hi:PE X i ty) (hv:PE X value tv) (hs:swapsWith value (some (.Subscript o i pos')) pos.line X.env=pure false):
  PS X (.Assign [.Subscript o i pos'] value pos) (sDPut td ty tv):=by
 intro pins s σ H D I h
 refine wpAny_Assign_Subscript (thn (hv pins s σ H _ I h) fun r s1 ⟨v,H1,I1,rv,q1⟩=>thn (ho pins s1 σ H1 _ I1 q1) fun u s2 ⟨x,H2,I2,rx,q2⟩=>thn (hi pins s2 σ H2 _ I2 q2) fun iv s3 ⟨y,H3,I3,ry,a,H4,ex,g,q3⟩=> ?_) hs
 subst ex
 obtain rfl:u=Value.ref a:=rx
 exact d_setItem hu I3 g ry rv fun s4 I4=>⟨σ,H4,I4,q3⟩
end
theorem dk_empty {P:Program} {w:World} {H:Hp} (h:Heap) (hb:sysModules<h.objs.size):ObjOk P w H (h.push {cls:= .type "dict",data:= .dict #[]}) h.objs.size (.dK []):=
 ⟨Nat.zero_le _,beq_eq_false_iff_ne.mpr (Ne.symm (Nat.ne_of_lt hb)),[],.nil,Heap.DictOf.new h⟩
def tPairs:List (TE×TE)→St→Hp→(List (V×V)→Hp→Prop)→Prop
 |[],_,H,Q=>Q [] H
 |(tk,tv)::r,σ,H,Q=>tk σ H fun x H1=>tv σ H1 fun y H2=>tPairs r σ H2 fun ps H3=>Q ((x,y)::ps) H3
abbrev VV:List (V×V)→List (Value×Value)→Prop:=Paired fun p q=>RelV p.1 q.1∧RelV p.2 q.2
def PPs (X:Cx) (pos:Pos) (keys:List (Option Expr)) (values:List Expr) (trs:List (TE×TE)):Prop:=
 ∀(pins:List (Addr×Obj)) (s:Shared) (σ:St) (H:Hp) (Q:List (V×V)→Hp→Prop),Inv X pins σ H s→tPairs trs σ H Q→
  wpAny (model X.prog X.w) X.A (evalPairs (pairTrees keys values X.env pos)) (fun vs s'=>∃ps H',Inv X pins σ H' s'∧VV ps vs∧Q ps H') X.xe s
theorem pps_nil {X:Cx} {pos:Pos}:PPs X pos [] [] []:=fun pins s σ H Q I h=>pairTrees_nil_walk ⟨[],H,I,.nil,h⟩
theorem pps_cons {X:Cx} {pos:Pos} {k v:Expr} {ks:List (Option Expr)} {vs:List Expr} {tk tv:TE} {trs:List (TE×TE)} (hk:PE X k tk) (hv:PE X v tv) (hr:PPs X pos ks vs trs):
  PPs X pos (some k::ks) (v::vs) ((tk,tv)::trs):=fun pins s σ H Q I h=>
 pairTrees_cons_walk (thn (hk pins s σ H _ I h) fun u s1 ⟨x,H1,I1,rx,q1⟩=>thn (hv pins s1 σ H1 _ I1 q1) fun w2 s2 ⟨y,H2,I2,ry,q2⟩=>
  thn (hr pins s2 σ H2 _ I2 q2) fun ws s3 ⟨ps,H3,I3,rel,q3⟩=>⟨(x,y)::ps,H3,I3,.cons ⟨rx,ry⟩ rel,q3⟩)
def mergeK (kvs more:List (Key×V)):List (Key×V):=more.foldl (fun acc kv=>putK acc kv.1 kv.2) kvs
theorem KV.merge:∀{more:List (Key×V)} {rs:List (Key×Value)} {kvs:List (Key×V)} {vs:List (Key×Value)},KV more rs→KV kvs vs→KV (mergeK kvs more) (merged vs rs):=by
 intro more rs kvs vs r
 unfold KV at r
 induction r generalizing kvs vs with
 |nil=>intro q;exact q
 | @cons p q ps qs h t ih=>
  intro r0
  have e:KV (putK kvs p.1 p.2) (stored vs q.1 q.2):=by
   have:=r0.put p.1 h.2
   rw [←h.1];exact this
  exact ih e
theorem length_mergeK:∀(more kvs:List (Key×V)),(mergeK kvs more).length≤kvs.length+more.length
 |[],kvs=>by show kvs.length≤kvs.length+0;exact Nat.le_add_right _ _
 |p::r,kvs=>by
  have h1:=length_mergeK r (putK kvs p.1 p.2)
  have h2:=length_putK kvs p.1 p.2
  show (mergeK (putK kvs p.1 p.2) r).length≤_
  rw [List.length_cons];omega
theorem carries_of {P:Program} {w:World}:∀{kvs:List (Key×V)} {ws:List (Value×Value)},VV (kvs.map fun kv=>(kV kv.1,kv.2)) ws→∃rs,Carries (Bd P w) ws rs∧KV kvs rs
 |[],_,r=>by rw [List.map_nil] at r;cases r;exact ⟨[],True.intro,.nil⟩
 |p::kvs,_,r=>by
  rw [List.map_cons] at r
  cases r with
  | @cons a b as bs h t=>
   obtain ⟨rs,c,q⟩:=carries_of (P:=P) (w:=w) t
   obtain ⟨b1,b2⟩:=b
   exact ⟨(p.1,b2)::rs,⟨kV_is h.1,rfl,c⟩,.cons ⟨rfl,h.2⟩ q⟩
def tDisp (trs:List (TE×TE)):TE:=fun σ H Q=>∀p,H p=none→tPairs trs σ (upd H p (.dK [])) fun ps H2=>H2 p=some (.dK [])∧∃kvs:List (Key×V),ps=kvs.map (fun kv=>(kV kv.1,kv.2))∧kvs.length≤15∧Q (.ref p) (upd H2 p (.dK (mergeK [] kvs)))
theorem pe_disp {X:Cx} {pos:Pos} {keys:List (Option Expr)} {values:List Expr} {trs:List (TE×TE)} (h:PPs X pos keys values trs) (hall:keys.all (·.isSome)=true) (hl:keys.length=values.length) (h0:keys≠[])
  (h15:keys.length≤15):PE X (.Dict keys values pos) (tDisp trs):=by
 intro pins s σ H Q I q
 have hn:=I.hok.fresh (Nat.le_refl s.heap.objs.size)
 have I1:=I.laid (a:=s.heap.objs.size) (o:= .dK []) (h':=s.heap.push {cls:= .type "dict",data:= .dict #[]}) (t':=s.toks) (fun _ _ q=>Heap.get?_push_of_some _ q) (Nat.le_refl _) (dk_empty s.heap I.big)
 refine wpAny_Dict_walk (knd:=Bd X.prog X.w) hall hl h0 h15 (thn (h pins _ σ _ _ I1 (q _ hn)) fun ws s2 ⟨ps,H2,I2,rel,e,kvs,ep,lk,q2⟩=> ?_)
 subst ep
 obtain ⟨rs,c,rk⟩:=carries_of (P:=X.prog) (w:=X.w) rel
 obtain ⟨z,hd,vs0,r0,dd⟩:=dk_of I2.hok e
 cases r0
 refine ⟨rs,c,dd,fun h' dd' hs=>⟨.ref s.heap.objs.size,_,?_,rfl,q2⟩⟩
 have hz:(mergeK [] kvs).length≤sizeLine:=by
  have h1:=length_mergeK kvs []
  rw [List.length_nil] at h1
  rw [sizeLine_eq];omega
 have he:∃q,h'.get? s.heap.objs.size=some q:=let ⟨q,_,_,hq,_⟩:=dd';⟨q,hq⟩
 exact d_write I2 (by rw [e];exact True.intro) hs he (dk_new hz hd (rk.merge .nil) dd')
end L2
namespace Att
open PySem PySem.W PySem.Calls PyProof.Rows
theorem ints_of_wellAll {P:Params} {h:Heap}:∀(ns:List Int) (vs:List Value),WellAll P h vs (ns.map WData.int)→IntsAre vs ns:=by
 intro ns
 induction ns with
 |nil=>
  intro vs w
  rw [List.map_nil] at w
  cases w
  exact .nil
 |cons n ns ih=>
  intro vs w
  rw [List.map_cons] at w
  cases w with
  |cons a b=>
   cases a
   exact .cons _ _ (ih _ b)
theorem script_of {l:OpenLaw} {n:Nat} (hn:l.most=some n) {P:Params} {h:Heap} {args:List WData} {vals:List Value}
  (hpre:l.row.toRowW.claim.pre args=true) (hwl:WellAll P h vals args):
  ∃a vs ns,vals=[Value.ref a]∧args=[WData.list (ns.map WData.int)]∧h.get? a=some {cls:= .type "list",data:= .seq vs.toArray}∧IntsAre vs ns∧ns.length≤n:=by
 have hsh:WShape.hasAll [] args [.list .int]=true:=(pre_splitW hpre).1
 have hc:l.pre.holds [] {args:=args}=true:=(pre_splitW hpre).2
 obtain ⟨d,r,rfl,h1,h2⟩:=hasAllW_cons hsh
 obtain rfl:=hasAllW_nil h2
 obtain ⟨xs,rfl,h3⟩:=hasW_list h1
 obtain ⟨ns,rfl⟩:=items_int h3
 have hlen:ns.length≤n:=by
  unfold OpenLaw.pre at hc
  have h4:(WTm.not (.lt (.lit (.int (n:Int))) (.len (.arg 0)))).holds [] {args:=[.list (ns.map .int)]}=true:=by
   have h4:=(holds_andW hc).1
   rw [hn] at h4
   exact h4
  have h5:=condW_of h4 (w_not (w_lt w_lit (w_len_list (w_arg rfl))))
  rw [List.length_map] at h5
  refine Nat.le_of_not_lt fun q=> ?_
  have q':(n:Int)<((ns.length:Nat):Int):=by omega
  first
   |(rw [decide_eq_true q'] at h5;exact absurd h5 (by decide))
   |(simp at h5;omega)
 cases hwl with
 |cons w1 w2=>
  cases w2
  cases w1 with
  |list ho hall=>exact ⟨_,_,ns,rfl,rfl,ho,ints_of_wellAll ns _ hall,hlen⟩
theorem post_true (l:OpenLaw) (args:List WData):l.row.toRowW.claim.post args (.bool true) args=true:=
 postW_of (r:=l.row.toRowW) (X:=(true==true))
  (show WShape.has [] (.bool true) .bool=true by first|rfl|decide|simp [WShape.has,WShape.arms,WShape.armsAll])
  (show (WTm.eq .res (.lit (.bool true))).value [] {args:=args,res:=some (.bool true),after:=args}=some (.bool (true==true)) from w_eq_bool (w_res rfl) w_lit) rfl
theorem attach_call {l:OpenLaw} {n:Nat} {q:Program} {loose:List Str} {XP:(Str→Option Value)→Heap→Prop} {YP:World→Heap→Prop} {d:DefRec}
  (hn:l.most=some n) (hdf:d.params.defaults=[])
  (call:∀(w:World) (s₀ s₁:Shared) (mg mb:Str→Option Value) (fa:Addr) (o:Obj) (pm cd doc:Value) (a:Addr) (vs:List Value) (ns:List Int),
   Ground q loose [] XP w s₀ mg mb s₁.heap→YP w s₁.heap→
   s₁.heap.get? fa=some o→o.data= .func (docDef d.name d.params d.body d.scope pm cd doc)→s₁.heap.CodeRec cd d.name→mg d.name=some (.ref fa)→
   s₁.heap.get? a=some {cls:= .type "list",data:= .seq vs.toArray}→IntsAre vs ns→ns.length≤n→s₁.gens= #[]→
   codeAny (model l.prog w) callerA (.call (.ref fa) ⟨[.ref a],[]⟩) (fun r s'=>r= .ok (.ret (.bool true))∧OldK s₁.heap s'.heap∧s'.os=s₁.os∧AllBare s'.gens) s₁):
  WalkO q loose XP YP l.row.toRowW d [] (fun f vs=>PySem.call f vs):=by
 intro w s₀ s₁ mg mb G Y fa o pm cd doc dV kV ho hd hcd hD hmg hg args vals as hpre hlay hrd hwl hlo
 obtain rfl:dV= .none:=Dflts.none hD hdf
 obtain rfl:kV= .none:=Dflts.noKw hD
 obtain ⟨a,vs,ns,rfl,rfl,hobj,hints,hlen⟩:=script_of hn hpre hwl
 refine enter_call (codeAny_mono (call w s₀ s₁ mg mb fa o pm cd doc a vs ns G Y ho (fd_plain hd) hcd hmg hobj hints hlen hg) fun r s' hq=> ?_)
 obtain ⟨rfl,h2,h3,h4⟩:=hq
 exact ⟨.inl ⟨.bool true,.bool true,[],rfl,fun _=>rfl,.bool true,post_true l _,fun _=>⟨List.Pairwise.nil,fun _ hm=>(nomatch hm)⟩⟩,h2,h3,h4⟩
end Att
namespace L2
open PySem PySem.Spec PyProof.Rows
theorem vals_ints:∀{vs:List Value} {ns:List Int},IntsAre vs ns→Vals (ns.map V.int) vs
 |_,_,.nil=> .nil
 |_,_,.cons n t h=> .cons ⟨t,rfl⟩ (vals_ints h)
def Only (H:Hp):Prop:=∀b,H b=none∨∃o xs,H b=some (.frz o (.lst xs))
theorem law_call {P:Program} {w:World} {K:PySem.W.Frag} {mg mb:Str→Option Value} {CX:CXT} {k:Nat} {fa a:Addr} {fd:FuncData} {x:Str} {sp:Sp} {s₁:Shared} {vs:List Value} {ns:List Int}
  (KX:K.In s₁.heap) (hns:s₁.heap.Ns mainGlobals mg) (hb:s₁.heap.Ns builtinsNs mb) (hbb:∀x:Str,x≠"__name__"→mb x=bootBuiltins x) (hlim:s₁.heap.NoLimit) (hg:s₁.gens= #[])
  (ha:s₁.heap.get? a=some {cls:= .type "list",data:= .seq vs.toArray}) (hi:IntsAre vs ns) (hl:ns.length≤sizeLine) (hr:Room k callerA)
  (F:∀base:Heap,K.In base→base.Ns mainGlobals mg→FnOk P w K mg base CX k fa fd [x] sp) (hbind:∀(s:Shared) (u:Value),BindsTo s fd ⟨[u],[]⟩ [(x,u)])
  (hsp:∀H:Hp,Only H→SqL K H a (ns.map V.int)→sp [.ref a] H (fun v _=>v= .bl true) fun _ _ _=>False)
  (hCX:∀H e s',CX [] H s₁ (fun _ _ _=>False) e s'→False):
  codeAny (model P w) callerA (.call (.ref fa) ⟨[.ref a],[]⟩) (fun r s'=>r= .ok (.ret (.bool true))∧OldK s₁.heap s'.heap∧s'.os=s₁.os∧AllBare s'.gens) s₁:=by
 have rv:=vals_ints hi
 have lenV:=hi.length
 have core:∀H:Hp,Only H→SqL K H a (ns.map V.int)→HOk P w H s₁.heap→(∀b,H b≠none→b=a)→(H a≠none→K.lookup a=none)→
   codeAny (model P w) callerA (.call (.ref fa) ⟨[.ref a],[]⟩) (fun r s'=>r= .ok (.ret (.bool true))∧OldK s₁.heap s'.heap∧s'.os=s₁.os∧AllBare s'.gens) s₁:=by
  intro H hO hS hok hA hK
  have base_of:∀{b:Addr} {o:Obj},s₁.heap.get? b=some o→H b=none→(hidT s₁.heap H).get? b=some o:=fun e n=>hidT_get e n
  have noA:∀{b:Addr} {o:Obj} {es:Array DictEntry} {ep:Nat},s₁.heap.get? b=some o→o.data= .dict es ep→H b=none:=fun {b o es ep} e d=>by
   cases q:H b with
   |none=>rfl
   |some u=>
    have e':b=a:=hA b (by rw [q];simp)
    subst e'
    rw [ha] at e;cases e
    have d':Data.seq vs.toArray _=Data.dict es ep:=d
    cases d'
  have nsK:∀{b:Addr} {m:Str→Option Value},s₁.heap.Ns b m→(hidT s₁.heap H).Ns b m:=fun {b m} ⟨o,es,ep,e,d,r⟩=>⟨o,es,ep,base_of e (noA e d),d,r⟩
  have hKb:K.In (hidT s₁.heap H):=fun b o e=>base_of (KX b o e) (by
   cases q:H b with
   |none=>rfl
   |some u=>
    have e':b=a:=hA b (by rw [q];simp)
    subst e'
    rw [hK (by rw [q];simp)] at e;cases e)
  have hM:Mod K mg (hidT s₁.heap H):=⟨hKb,nsK hns,⟨mb,nsK hb,hbb⟩,let ⟨mc,h1,h2⟩:=hlim;⟨mc,nsK h1,h2⟩⟩
  have e0:Env0 P w K mg (hidT s₁.heap H) callerA [] s₁ H:=⟨rfl,hM,fun b o e=>of_hidT e,Nat.le_of_eq (hidT_size _ _),trivial,fun b hb=>absurd (show b∈([]:List Addr) from hb) (by simp),hok,.of_eq hg⟩
  refine codeAny_mono ((F _ hKb (nsK hns)).run callerA [] s₁ H ⟨[.ref a],[]⟩ [.ref a] [.ref a] _ _ hr e0 (hbind s₁ (.ref a)) (.cons rfl .nil) (hsp H hO hS)) fun r s' h=> ?_
  cases r with
  |error e=>exact (hCX H e s' h).elim
  |ok fl=>
   cases fl with
   |next=>exact False.elim h
   |brk=>exact False.elim h
   |cont=>exact False.elim h
   |ret u=>
    obtain ⟨v,H',os,bare,un,hok',r',q⟩:=h
    have q':v= .bl true:=q
    subst q'
    obtain rfl:u=Value.bool true:=r'
    refine ⟨rfl,OldK.of_keep fun b o e=> ?_,os,bare⟩
    cases q:H b with
    |none=>exact un.keep b o e q (by intro z;exact absurd (show b∈([]:List Addr) from z) (by simp)) (by simp)
    |some u=>
     rcases hO b with z|⟨ob,xs,z⟩
     ·rw [q] at z;cases z
     ·have z2:=un.frzs b ob _ z
      obtain ⟨e1,_⟩:=hok b _ z
      obtain ⟨e2,_⟩:=hok' b _ z2
      rw [e] at e1;cases e1
      exact e2
 cases hk:K.lookup a with
 |some o=>
  have e:=KX a o hk
  rw [ha] at e
  cases e
  refine core (fun _=>none) (fun _=> .inl rfl) (.inr ⟨_,vs.toArray,_,hk,rfl,rfl,rfl,by rw [List.size_toArray,lenV];exact hl,by simpa using rv⟩) (fun b u z=>by have z':(none:Option HO)=some u:=z;cases z') (fun b z=>absurd rfl z) fun z=>absurd rfl z
 |none=>
  refine core (fun b=>if b=a then some (.frz {cls:= .type "list",data:= .seq vs.toArray} (.lst (ns.map V.int))) else none) (fun b=> ?_) (.inl (.inr ⟨{cls:= .type "list",data:= .seq vs.toArray},if_pos rfl⟩)) (fun b u z=> ?_) (fun b z=> ?_) fun _=>hk
  ·by_cases hb:b=a
   ·exact .inr ⟨_,_,if_pos hb⟩
   ·exact .inl (if_neg hb)
  ·by_cases hb:b=a
   ·have z':=(if_pos hb).symm.trans z
    cases z'
    subst hb
    exact ⟨ha,by rw [List.length_map];exact hl,vs,_,rv,ha⟩
   ·have z':=(if_neg hb).symm.trans z
    cases z'
  ·by_cases hb:b=a
   ·exact hb
   ·exact absurd (if_neg hb) z
end L2
namespace L2
open PySem PySem.Spec PyProof.Rows
theorem walk_of {l:PySem.W.OpenLaw} {n k:Nat} {q:Program} {loose:List Str} {XP:(Str→Option Value)→Heap→Prop} {YP:World→Heap→Prop} {d:DefRec} {K:Params→PySem.W.Frag} {CX:World→CXT} {sp:World→Sp} {x:Str}
  (hn:l.most=some n) (hn2:n≤sizeLine) (hdf:d.params.defaults=[]) (hr:Room k callerA)
  (hY:∀(w:World) (h:Heap),YP w h→(K w.params).In h)
  (F:∀(w:World) (mg:Str→Option Value) (fa:Addr) (h:Heap),(K w.params).In h→h.Ns mainGlobals mg→mg d.name=some (.ref fa)→
   ∃fd:FuncData,(∀(s:Shared) (u:Value),BindsTo s fd ⟨[u],[]⟩ [(x,u)])∧
    ∀base:Heap,(K w.params).In base→base.Ns mainGlobals mg→FnOk l.prog w (K w.params) mg base (CX w) k fa fd [x] (sp w))
  (hsp:∀(w:World) (H:Hp) (a:Addr) (ns:List Int),ns.length≤n→Only H→SqL (K w.params) H a (ns.map V.int)→sp w [.ref a] H (fun v _=>v= .bl true) fun _ _ _=>False)
  (hCX:∀(w:World) (H:Hp) (s:Shared) (e:Value) (s':Shared),CX w [] H s (fun _ _ _=>False) e s'→False):
  PySem.W.WalkO q loose XP YP l.row.toRowW d [] (fun f vs=>PySem.call f vs):=by
 refine Att.attach_call hn hdf fun w s₀ s₁ mg mb fa o pm cd doc a vs ns G Y ho hd hcd hmg hobj hints hlen hg=> ?_
 have KX:=hY w _ Y
 obtain ⟨fd,hb,hF⟩:=F w mg fa _ KX G.T.g hmg
 exact law_call KX G.T.g G.T.b G.T.builtins G.T.nolimit hg hobj hints (Nat.le_trans hlen hn2) hr hF hb (fun H hO hS=>hsp w H a ns hlen hO hS) fun H e s'=>hCX w H s₁ e s'
end L2
/- THE LAST THEOREM (shape;LID,My.* are yours):
  My.Adr:a structure of the addresses that your layer names (classes,functions);My.Txt K t:a structure (Prop) of the equations over K;
  My.txt_mk:{K} {implicit addresses ..} (e1:nsIn K mainGlobals "law"=some (some (.ref f))) (e2:K.lookup f=some ⟨oc,od,.func (fnOf "law" "law" params body scope dV kV doc pm an cdv ct),sl⟩) (e3:codeIn K cdv "law"=true) .. :∃t,My.Txt K t
set_option maxRecDepth 100000 in
set_option maxHeartbeats 0 in
theorem PySem.Challenge.cw_LID_holds : PySem.Challenge.rw_LID.Holds := by
 w_on;o_law;k_head;(case hw=>w_witness2)
 k_fill
 refine L2.walk_of (l:=PySem.Challenge.rw_LID) (n:=63) (k:=40) (x:="script") (CX:=fun w=> ..) (sp:=fun _=>My.sp_law) rfl (by decide) rfl ⟨rfl,by decide,by decide⟩ (fun w h Y=>PySem.W.kIn_of Y) ?F ?S ?C
 case F=>
  intro w mg fa h KX G hmg
  have T:∃t,My.Txt (L2.KOf KX) t:=by
   dsimp only [L2.KOf]                          -- K must stand as «<heap const> w.params» for k_is
   refine' My.txt_mk ?e1 ?e2 ?e3 ..
   (case e1=>PySem.W.k_is)                    -- in the order:a name -> its address -> its object -> its parts
   (case e2=>PySem.W.k_is)
   ..
  obtain ⟨t,T⟩:=T
  have e0:=hmg.symm.trans (PySem.W.mg_of KX G T.law)
  cases e0                                       -- fa is the law's own address
  exact ⟨_,fun s u=> .of_eq rfl,fun base kb nb=>My.law_fn T kb nb⟩     -- if «.of_eq rfl» comes too early:refine' ⟨_,?b,fun base kb nb=>My.law_fn T kb nb⟩;exact fun s u=> .of_eq rfl
 case S=>exact fun w H a ns hl hO hS=> ..
 case C=>exact ..
(the tactic k_is has no namespace:write k_is) -/
namespace L2
open PySem PySem.Spec PyProof.Rows
def Ax (s:Stmt):Arguments:=match s with
 | .FunctionDef _ a _ _ _ _ _ _ _ _=>a
 |_=>{posonlyargs:=[],args:=[],vararg:=none,kwonlyargs:=[],kw_defaults:=[],kwarg:=none,defaults:=[]}
def Aw (s:Stmt):List Stmt:=match s with
 | .FunctionDef _ _ b _ _ _ _ _ _ _=>b
 |_=>[]
def Ag (s:Stmt):Scope:=match s with
 | .FunctionDef _ _ _ _ _ _ sc _ _ _=>sc
 |_=>{kind:= .function,names:=[],isGenerator:=false,isCoroutine:=false}
abbrev CX0:CXT:=fun _ _ _ _ _ _=>False
abbrev E0:XK:=fun _ _ _=>False
theorem Ay {X:Cx}:Passes CX0 X E0:=fun _ _ _ _ _ _ _ h=>h.elim
structure Fun (K:PySem.W.Frag) (x qual:Str) (st:Stmt) (f:Addr) (fd:FuncData):Prop where
 ex:∃(oc:Value) (od:Option Addr) (kV doc pm:Value) (an:Option Addr) (cdv ct:Value) (osl:Array (Option Value)),
  fd=PySem.W.fnOf x qual (Ax st) (Aw st) (Ag st) .none kV doc pm an cdv ct∧K.lookup f=some ⟨oc,od,.func fd,osl⟩∧PySem.W.codeIn K cdv qual=true
 kp:PySem.W.keepIn K (.ref f)=true
section
variable {P:Program} {w:World} {K:PySem.W.Frag} {mg:Str→Option Value} {base:Heap}
theorem Fun.ok {x qual:Str} {st:Stmt} {f:Addr} {fd:FuncData} {N ps:List Str} {k:Nat} {sp:Sp} (F:Fun K x qual st f fd) (S:Az N ps (Ag st)) (len:∀vs H Q E,sp vs H Q E→vs.length=ps.length)
  (hbody:∀(cdv:Value) (A:Around) (outer:List Env) (s:Shared) (H:Hp) (vs:List V) (Q:VK) (E:XK),Room k (A.deeper (envOfC qual (Ag st) s.heap.objs.size f cdv))→sp vs H Q E→
   ∃t,PSs (cxOf CX0 P w K mg base N qual (Ag st) f cdv A outer s H E).nox (Aw st) t∧t {nx:=fun _ H'=>Q .non H',rt:=Q} (start N vs) H):FnOk P w K mg base CX0 (k+1) f fd ps sp:=by
 obtain ⟨oc,od,kV,doc,pm,an,cdv,ct,osl,rfl,lk,hcd⟩:=F.ex
 refine fn_of lk hcd S len fun A outer s H vs Q E hr hsp=> ?_
 obtain ⟨t,h,q⟩:=hbody cdv A outer s H vs Q E hr hsp
 exact ⟨t,h.nox,q⟩
theorem Fun.binds {x qual:Str} {st:Stmt} {f:Addr} {fd:FuncData} {ps:List Str} (F:Fun K x qual st f fd)
  (h:∀(kV doc pm:Value) (an:Option Addr) (cdv ct:Value) (us:List Value),us.length=ps.length→bindArgs (PySem.W.fnOf x qual (Ax st) (Aw st) (Ag st) .none kV doc pm an cdv ct) ⟨us,[]⟩=pure (ps.zip us)):Binds K fd ps []:=by
 obtain ⟨oc,od,kV,doc,pm,an,cdv,ct,osl,rfl,lk,hcd⟩:=F.ex
 exact .all (h kV doc pm an cdv ct)
theorem Bm {x qual:Str} {st:Stmt} {f:Addr} {oc:Value} {od an:Option Addr} {osl:Array (Option Value)} {kV doc pm cdv ct:Value} (l:K.lookup f=some ⟨oc,od,.func (PySem.W.fnOf x qual (Ax st) (Aw st) (Ag st) .none kV doc pm an cdv ct),osl⟩)
  (c:PySem.W.codeIn K cdv qual=true) (k:PySem.W.keepIn K (.ref f)=true):Fun K x qual st f (PySem.W.fnOf x qual (Ax st) (Aw st) (Ag st) .none kV doc pm an cdv ct):=⟨⟨oc,od,kV,doc,pm,an,cdv,ct,osl,rfl,l,c⟩,k⟩
end
theorem hu_of {A:Around} {k:Nat} (hr:Room k A):A.units+1<cLine:=Nat.lt_of_le_of_lt (Nat.add_le_add_left (by decide:1≤64) _) hr.units
theorem Ak {n:Nat} (h:n≤1000):n<sizeLine:=Nat.lt_of_le_of_lt h (by decide)
section
variable {X:Cx}
theorem pv (i:Nat) {x:Str} {pos:Pos} (hN:X.N[i]? =some x:=by rfl) (hv:Vis X.env.scope x:=by first|exact Or.inl rfl|exact Or.inr (Or.inl rfl)|exact Or.inr (Or.inr rfl)) (hd:(x==("__debug__":Str))=false:=by decide)
  (hcd:(x==("__classdict__":Str))=false:=by decide):PE X (.Name x pos) (tVar i):=pe_var hN hv hd hcd
end
theorem iteF {A B:Prop} (h:B):if false=true then A else B:=by
 rw [if_neg Bool.false_ne_true]
 exact h
theorem iteT {A B:Prop} (h:A):if true=true then A else B:=by
 rw [if_pos rfl]
 exact h
theorem ite2 {c A B:Prop} [Decidable c] (h1:c→A) (h2:¬c→B):if c then A else B:=by
 by_cases h:c
 ·rw [if_pos h]
  exact h1 h
 ·rw [if_neg h]
  exact h2 h
def Same (H H':Hp):Prop:=∀b o,H b=some o→H' b=some o
theorem Same.trans {H H1 H2:Hp} (a:Same H H1) (b:Same H1 H2):Same H H2:=fun c o h=>b c o (a c o h)
end L2
namespace L2
open PySem PySem.Spec PyProof.Rows
def Bq (env:Env):List (Str×NameKind)→List (Str×Addr)→List (Str×Addr)
 |[],cs=>cs
 |(n,k)::r,cs=>Bq env r (if k= .free then (n,(env.cells.lookup n).getD 0)::cs else cs)
theorem closes_ok {env:Env}:∀(ns:List (Str×NameKind)) (cs:List (Str×Addr)),(∀p∈ns,p.2= .free→(env.cells.lookup p.1).isSome=true)→
  (forIn ns cs fun (x:Str×NameKind) r=>(do
   let mut cs:=r
   if x.2== .free then cs:=(x.1,←cellOf env x.1)::cs
   pure (ForInStep.yield cs):Sem (ForInStep (List (Str×Addr)))))=pure (Bq env ns cs)
 |[],cs,_=>rfl
 |(n,k)::r,cs,h=>by
  have ih:=fun cs=>closes_ok (env:=env) r cs fun p hp=>h p (List.mem_cons_of_mem _ hp)
  rw [List.forIn_cons]
  by_cases hk:k= .free
  ·subst hk
   have q:=h (n,.free) List.mem_cons_self rfl
   obtain ⟨c,hc⟩:=Option.isSome_iff_exists.mp q
   have e:cellOf env n=pure c:=by unfold cellOf;rw [hc]
   simp only [e]
   simp [Bq,hc,ih]
   have:=ih ((n,c)::cs)
   simpa using this
  ·have hb:(k==NameKind.free)=false:=by simpa using hk
   simp [Bq,hk]
   have:=ih cs
   simpa using this
theorem closureFor_closes {scope:Scope} {env:Env} (h:∀p∈scope.names,p.2= .free→(env.cells.lookup p.1).isSome=true):closureFor scope env=pure (Bq env scope.names []):=by
 have q:=closes_ok (env:=env) scope.names [] h
 unfold closureFor
 simp at q ⊢
 exact q
theorem closes_sub {env:Env}:∀(ns:List (Str×NameKind)) (cs:List (Str×Addr)),(∀p∈ns,p.2= .free→(env.cells.lookup p.1).isSome=true)→(∀y c,cs.lookup y=some c→env.cells.lookup y=some c)→
  ∀y c,(Bq env ns cs).lookup y=some c→env.cells.lookup y=some c
 |[],cs,_,h,y,c,e=>h y c e
 |(n,k)::r,cs,h,hc,y,c,e=>by
  unfold Bq at e
  refine closes_sub r _ (fun p hp=>h p (List.mem_cons_of_mem _ hp)) ?_ y c e
  intro y c e
  by_cases hk:k= .free
  ·subst hk
   rw [if_pos rfl] at e
   obtain ⟨d,hd⟩:=Option.isSome_iff_exists.mp (h (n,.free) List.mem_cons_self rfl)
   rw [List.lookup_cons] at e
   cases q:y==n with
   |true=>
    rw [q] at e
    have:y=n:=by simpa using q
    subst this
    rw [hd] at e ⊢
    exact e
   |false=>
    rw [q] at e
    exact hc y c e
  ·rw [if_neg hk] at e
   exact hc y c e
theorem closes_keep {env:Env} {y:Str}:∀(ns:List (Str×NameKind)) (cs:List (Str×Addr)),(cs.lookup y).isSome=true→((Bq env ns cs).lookup y).isSome=true
 |[],cs,h=>h
 |(n,k)::r,cs,h=>by
  unfold Bq
  refine closes_keep r _ ?_
  split
  ·rw [List.lookup_cons]
   split
   ·rfl
   ·exact h
  ·exact h
theorem closes_has {env:Env} {y:Str}:∀(ns:List (Str×NameKind)) (cs:List (Str×Addr)),(y,NameKind.free)∈ns→((Bq env ns cs).lookup y).isSome=true
 |(n,k)::r,cs,h=>by
  unfold Bq
  rcases List.mem_cons.mp h with e|e
  ·cases e
   refine closes_keep r _ ?_
   rw [if_pos rfl,List.lookup_cons]
   simp
  ·exact closes_has r _ e
def Bg (X:Cx) (scope:Scope) (N:List Str) (C:Addr) (s:Shared) (H:Hp) (ex:List Addr) (pins:List (Addr×Obj)):Cx where
 prog:=X.prog
 w:=X.w
 K:=X.K
 mg:=X.mg
 base:=X.base
 A:=X.A
 N:=N
 s₀:=s
 H₀:=H
 env:=compEnvC scope (Bq X.env scope.names []) C X.env
 outer:=X.stack
 stack:=X.stack
 ex:=ex
 fn:=fun _=>false
 calm:=X.calm
 pn:=X.pn++pins
 xe:=fun _ _=>False
def cst (nT:Nat) (js:List Nat) (σ:St):St:=List.replicate nT none++js.map fun j=>(σ[j]?).join
structure CScope (X:Cx) (scope:Scope) (T F:List Str) (js:List Nat):Prop where
 kind:scope.kind= .function
 nocell:∀y∈scope.names,y.2≠ .cell
 names:∀x∈scope.names,x.2= .local→scope.names.lookup x.1=some .local
 free:∀x∈scope.names,x.2= .free→X.env.kindOf x.1=some .cell
 loc:∀y∈T,(relabel scope X.env).names.lookup y=some .local
 cel:∀y∈F,(relabel scope X.env).names.lookup y=some .cell∧X.env.kindOf y=some .cell∧(y,NameKind.free)∈scope.names
 all:∀x∈(relabel scope X.env).names,(x.2= .cell∨x.2= .free)→(x.1,NameKind.free)∈scope.names
 js:js.map (fun j=>X.N[j]?)=F.map some
section
variable {X:Cx} {scope:Scope} {T F:List Str} {js:List Nat}
theorem comp_inv {pins:List (Addr×Obj)} {σ:St} {H:Hp} {s:Shared} {h1:Heap} {tk:Nat} {fp:List Addr} {m:Str→Option Value} (S:CScope X scope T F js) (I:Inv X pins σ H s)
  (hn:h1.Ns s.heap.objs.size m) (kk:∀b o,s.heap.get? b=some o→h1.get? b=some o) (hf:∀b∈fp,FpOk X pins H b∧∃o,s.heap.get? b=some o∧∀v,o.data≠ .cell v):
  Inv (Bg X scope (T++F) s.heap.objs.size s H fp pins) [] (cst T.length js σ) H {s with heap:=h1,toks:=tk}:=by
 have sub:=closes_sub (env:=X.env) scope.names [] (fun p hp hk=>by
  obtain ⟨c,e⟩:=I.ok.has p.1 (.inl (S.free p hp hk))
  rw [e];rfl) (fun y c e=>by simp at e)
 have ltC:∀y c,X.env.cells.lookup y=some c→c<s.heap.objs.size:=fun y c e=>by
  obtain ⟨v,z⟩:=I.cell y c e
  exact z.lt
 refine ⟨⟨I.ok.mod,?_,I.ok.glob,I.ok.blt,Nat.le_refl _,fun x y c e1 e2=>I.ok.inj x y c (sub x c e1) (sub y c e2),fun x hx=> ?_,fun x c hx=>absurd hx Bool.false_ne_true,I.ok.hd,I.ok.frames,.inl rfl,fun b hb=> ?_,I.bs,?_,fun b o e hb=> ?_,fun b hb hs=> ?_,I.stack,I.stkFree⟩,
  rfl,I.bare,Un.kept kk,⟨m,hn,fun i x v e1 e2 e3=> ?_⟩,fun x c e=> ?_,I.hok.fresh (Nat.le_refl _),fun x c e=>I.freeC x c (sub x c e),fun p hp=> ?_,I.hok.kept kk,?_⟩
 ·show (relabel scope X.env).kind= .function
  exact S.kind
 ·have hx:(relabel scope X.env).names.lookup x=some .cell∨(relabel scope X.env).names.lookup x=some .free:=hx
  have hm:(x,NameKind.free)∈scope.names:=by
   rcases hx with h|h
   ·exact S.all _ (PySem.mem_of_lookup h) (.inl rfl)
   ·exact S.all _ (PySem.mem_of_lookup h) (.inr rfl)
  exact Option.isSome_iff_exists.mp (closes_has scope.names [] hm)
 ·obtain ⟨⟨f0,f1,f2,f3,f4,f5⟩,o,ho,_⟩:=hf b hb
  exact ⟨Nat.ne_of_lt (Heap.lt_size ho),fun x c e=>f4 x c (sub x c e)⟩
 ·exact Nat.le_trans I.ok.bsz I.sz
 ·obtain ⟨⟨f0,f1,f2,f3,f4,f5⟩,_⟩:=hf b hb
  rcases f3 with z|z
  ·exact I.ok.noex b o e z
  ·exact absurd (Nat.lt_of_lt_of_le (Heap.lt_size e) (Nat.le_trans I.ok.bsz z)) (Nat.lt_irrefl _)
 ·obtain ⟨⟨f0,f1,f2,f3,f4,f5⟩,_⟩:=hf b hb
  rcases List.mem_cons.mp (I.stkSub b hs) with z|z
  ·exact f1 z
  ·exact f2 z
 ·-- a name's value
  have hi:T.length≤i:=by
   by_cases hi:i<T.length
   ·unfold cst at e2
    rw [List.getElem?_append_left (by simpa using hi),List.getElem?_replicate] at e2
    split at e2<;> cases e2
   ·exact Nat.not_lt.mp (by assumption)
  obtain ⟨k,rfl⟩:∃k,i=T.length+k:=⟨i - T.length,by omega⟩
  have e1:(T++F)[T.length+k]? =some x:=e1
  rw [List.getElem?_append_right (by assumption)] at e1
  have e1:F[k]? =some x:=by simpa using e1
  unfold cst at e2
  rw [List.getElem?_append_right (by simp)] at e2
  have e2:(js.map fun j=>(σ[j]?).join)[k]? =some (some v):=by simpa using e2
  rw [List.getElem?_map] at e2
  cases ej:js[k]? with
  |none=>rw [ej] at e2;cases e2
  |some j=>
   rw [ej] at e2
   have e2:(σ[j]?).join=some v:=by simpa using e2
   have e3':σ[j]? =some (some v):=by
    cases q:σ[j]? with
    |none=>rw [q] at e2;cases e2
    |some z=>rw [q] at e2;cases z with
     |none=>cases e2
     |some z=>simp at e2;rw [e2]
   have eN:X.N[j]? =some x:=by
    have q:=congrArg (fun l=>l[k]?) S.js
    simp only [List.getElem?_map,ej,e1] at q
    simpa using q
   obtain ⟨c1,c2,c3⟩:=S.cel x (List.mem_of_getElem? e1)
   obtain ⟨m0,hn0,hl⟩:=I.loc
   obtain ⟨u,ru,lk⟩:=hl j x v eN e3' (.inr (.inl c2))
   refine ⟨u,ru,?_⟩
   rcases lk with ⟨z,_⟩|⟨_,c,ec,hc⟩
   ·rw [c2] at z;cases z
   ·obtain ⟨c',ec'⟩:=Option.isSome_iff_exists.mp (closes_has (env:=X.env) scope.names [] c3)
    have:=sub x c' ec'
    rw [ec] at this;cases this
    refine .inr ⟨.inl c1,c,ec',?_⟩
    obtain ⟨o,ho,hd⟩:=hc
    exact ⟨o,kk _ _ ho,hd⟩
 ·obtain ⟨v,o,ho,hd⟩:=I.cell x c (sub x c e)
  exact ⟨v,o,kk _ _ ho,hd⟩
 ·have hp:p∈(X.pn++pins)++[]:=hp
  rw [List.append_nil] at hp
  obtain ⟨e,n,ne,nf,d⟩:=I.pin p hp
  refine ⟨kk _ _ e,n,Nat.ne_of_lt (Heap.lt_size e),fun z=> ?_,d⟩
  rcases List.mem_cons.mp (I.stkSub p.1 z) with q|q
  ·exact ne q
  ·exact nf q
 ·unfold cst
  show _=(T++F).length
  have q:=congrArg List.length S.js
  simp at q
  simp [q]
def PIf (X:Cx) (ifs:List Expr) (t:TT):Prop:=
 ∀(pins:List (Addr×Obj)) (s:Shared) (σ:St) (H:Hp) (Q:Bool→Hp→Prop),Inv X pins σ H s→t σ H Q→
  wpAny (model X.prog X.w) X.A (forIn ifs true fun c r=>if r=true then do let ok ←isTrue c X.env (eval c X.env);pure (ForInStep.yield ok) else pure (ForInStep.yield r)) (TP X pins σ Q) X.xe s
def tYes:TT:=fun _ H Q=>Q true H
theorem pif_nil:PIf X [] tYes:=fun pins s σ H Q I h=>wpAny_tests_nil ⟨H,I,h⟩
theorem pif_one {c:Expr} {t:TT} (h:PT X c t):PIf X [c] t:=fun pins s σ H Q I hw=>wpAny_tests_one (h pins s σ H Q I hw)
def cturn (g:TG) (ti:TT) (te:TE) (D:Addr) (x:V) (σ:St) (ys:List V) (H:Hp) (N:St→List V→Hp→Prop):Prop:=
 g x σ H fun σ2 H2=>ti σ2 H2 fun b H3=>if b=true then te σ2 H3 fun y H4=>H4 D=some (.lst ys)∧ys.length<sizeLine∧N σ2 (ys++[y]) (upd H4 D (.lst (ys++[y]))) else N σ2 ys H3
def cgo (J:It) (g:TG) (ti:TT) (te:TE) (D:Addr) (σ:St) (H:Hp) (Q:VK):Prop:=
 ∃W:Nat→Nat→St→List V→Hp→Prop,(∃m,W 0 m σ [] (upd H D (.lst [])))∧∀i m σ ys H,W i m σ ys H→H D=some (.lst ys)∧
  ((J.stop i H∧Q (.ref D) H)∨(J.go i H∧∃N:St→List V→Hp→Prop,(∀σ' ys' H',N σ' ys' H'→∃m',m'<m∧W (i+1) m' σ' ys' H')∧∀x H',J.yld i H x H'→cturn g ti te D x σ ys H' N))
def tComp (wi:TI) (g:TG) (ti:TT) (te:TE) (nT:Nat) (js:List Nat):TE:=fun σ H Q=>wi σ H fun J H1=>∀D,H1 D=none→cgo J g ti te D (cst nT js σ) H1 Q
theorem comp_out {pins:List (Addr×Obj)} {σ σ':St} {H H':Hp} {s s':Shared} {h':Heap} {N:List Str} {fp:List Addr} (I:Inv X pins σ H s) (hf:∀b∈fp,FpOk X pins H b)
  (J:Inv (Bg X scope N s.heap.objs.size s H fp pins) [] σ' H' s') (sb:Heap.SameBut s.heap.objs.size s'.heap h'):Inv X pins σ H' {s' with heap:=h'}:=by
 have ne:∀b o,s.heap.get? b=some o→b≠s.heap.objs.size:=fun b o e=>Nat.ne_of_lt (Heap.lt_size e)
 have u:=J.base
 have u':Un (frs X.stack) fp H H' s.heap h':=
  ⟨fun b o e n h1 h2=>sb.extBut b o (ne b o e) (u.keep b o e n h1 h2),fun b o e n h1 h2=>by
   obtain ⟨sl,q⟩:=u.slot b o e n h1 h2
   exact ⟨sl,sb.extBut b _ (ne b o e) q⟩,u.free,fun b o e h=>by
   obtain ⟨o',q⟩:=u.there b o e h
   exact ⟨o',sb.extBut b _ (ne b o e) q⟩,u.tups,u.frzs,u.tbls⟩
 have nC:H' s.heap.objs.size=none:=J.free
 have hok:HOk X.prog X.w H' h':=fun b o e=>by
  refine (J.hok b o e).stay (fun c v hc q=>sb.extBut c v ?_ q) (fun _ q=>q) fun _ _ q=>q
  rcases hc with z|z
  ·rw [z];intro z';rw [z',nC] at e;cases e
  ·intro z';rw [z',nC] at z;cases z
 exact I.call' (s':={s' with heap:=h'}) J.os u' hok J.bare fun b hb=>by
  obtain ⟨f0,f1,f2,f3,f4,f5⟩:=hf b hb
  exact ⟨f3,f1,f4,f5⟩
theorem comp_go {tg elt iter:Expr} {ifs:List Expr} {pos:Pos} {g:TG} {ti:TT} {te:TE} {wi:TI} {pins:List (Addr×Obj)} {σ:St} {H:Hp} {s:Shared} {use:Option (Value→Sem Unit)} {QQ:Value→Shared→Prop} {Q:VK} (S:CScope X scope T F js) (hc:X.calm=true)
  (hi:PI X tg iter wi) (hg:∀C s H ex pins,PG (Bg X scope (T++F) C s H ex pins) tg g) (hif:∀C s H ex pins,PIf (Bg X scope (T++F) C s H ex pins) ifs ti) (he:∀C s H ex pins,PE (Bg X scope (T++F) C s H ex pins) elt te)
  (I:Inv X pins σ H s) (h:tComp wi g ti te T.length js σ H Q)
  (fin:∀(D C:Addr) (s':Shared) (H':Hp) (m:Str→Option Value),s'.heap.Ns C m→Q (.ref D) H'→FpOk X pins H' C→(∀h',Heap.SameBut C s'.heap h'→Inv X pins σ H' {s' with heap:=h'})→
   compPost (model X.prog X.w) X.A X.xe use QQ (.ref D) C (.ok .next) s')
  (hs:∀x,foldedSetIterable iter X.env x=pure x):
  wpAny (model X.prog X.w) X.A (comprehension (.ListComp elt [⟨tg,iter,ifs,0⟩] scope pos) scope X.env (firstIterPos [⟨tg,iter,ifs,0⟩] pos) (newList []) false (eval iter X.env) use) QQ X.xe s:=by
 refine wpAny_comprehension_free (use:=use) rfl hs (closureFor_closes fun p hp hk=> ?_) S.kind S.names (thn (hi pins s σ H _ I h) fun v s1 h1=>thn h1 fun itv s2 h2=> ?_)
 ·obtain ⟨c,e⟩:=I.ok.has p.1 (.inl (S.free p hp hk))
  rw [e];rfl
 obtain ⟨it,fp,tn,J,H2,rfl,I2,Tn,st2,f2,h2⟩:=h2
 obtain ⟨W,⟨m0,w0⟩,turn⟩:=h2 s2.heap.objs.size I2.fresh
 refine wpAny_newObj_type (wpAny_newFunctionEnv S.nocell (by intro y hy;simp at hy) (fun h₁ hns₁ hsb₁=> ?_) S.kind)
 have I3:=I2.lnew (t':=s2.toks) (ys:=[]) (its:=[]) Paired.nil (Nat.zero_le _)
 generalize hs3:({s2 with heap:=s2.heap.push {cls:= .type "list",data:= .seq ([]:List Value).toArray},toks:=s2.toks}:Shared)=s3 at I3
 have hf3:∀b∈fp,FpOk X pins (upd H2 s2.heap.objs.size (.lst [])) b∧∃o,s3.heap.get? b=some o∧∀v,o.data≠ .cell v:=fun b hb=>by
  obtain ⟨f0,fr⟩:=f2 b hb
  obtain ⟨o,e,d⟩:=Tn.obj _ _ st2 b hb
  refine ⟨⟨by rw [Ah (Nat.ne_of_lt (Heap.lt_size e))];exact f0,fr⟩,o,?_,d⟩
  rw [←hs3]
  exact Heap.get?_push_of_some _ e
 have e3:s3.heap=s2.heap.push {cls:= .type "list",data:= .seq ([]:List Value).toArray}:=by rw [←hs3]
 have kk:∀b o,s3.heap.get? b=some o→h₁.get? b=some o:=fun b o e=>by
  rw [e3] at e
  exact hsb₁.extBut b o (Nat.ne_of_lt (Heap.lt_size e)) (Heap.get?_push_of_some _ e)
 have hns:h₁.Ns s3.heap.objs.size (fun x=>([]:List (Str×Value)).reverse.lookup x):=by rw [e3];exact hns₁
 have I4:=comp_inv (tk:=s3.toks+([]:List (Str×Value)).length) S I3 hns kk hf3
 have stat:∀{H':Hp} {pl:List (Addr×Obj)},(∀p∈pl,∀b∈fp,p.1≠b)→(∀b∈fp,H' b=none)→∀b∈fp,FpOk (Bg X scope (T++F) s3.heap.objs.size s3 (upd H2 s2.heap.objs.size (.lst [])) fp pins) pl H' b:=fun {H' pl} hp hn b hb=>by
  obtain ⟨⟨f0,f1,f2,f3,f4,f5⟩,o,e,d⟩:=hf3 b hb
  obtain ⟨x1,x2⟩:=I4.ok.exf b hb
  refine ⟨hn b hb,x1,I4.ok.exfs b hb,.inl hb,x2,fun p hq=> ?_⟩
  rcases List.mem_append.mp hq with z|z
  ·exact f5 p z
  ·exact hp p z b hb
 have loop:codeAny (model X.prog X.w) X.A (.compLoop (.ListComp elt [⟨tg,iter,ifs,0⟩] scope pos) 0 (.ref it) (.ref s2.heap.objs.size) (compEnvC scope (Bq X.env scope.names []) s3.heap.objs.size X.env))
   (compPost (model X.prog X.w) X.A X.xe use QQ (.ref s2.heap.objs.size) s3.heap.objs.size) {s3 with heap:=h₁,toks:=s3.toks+([]:List (Str×Value)).length}:=by
  refine codeAny_loop rfl (fun n s'=>∃i σ' ys H',Inv (Bg X scope (T++F) s3.heap.objs.size s3 (upd H2 s2.heap.objs.size (.lst [])) fp pins) [] σ' H' s'∧tn i s'.heap∧(∀b∈fp,H' b=none)∧W i n σ' ys H') ?_ m0 ⟨0,_,[],_,I4,?_,fun b hb=>(hf3 b hb).1.1,w0⟩
  ·rintro n s5 ⟨i,σ5,ys,H5,I5,st5,fr5,w5⟩
   show wpAny _ X.A ((compTurn (.ListComp elt [⟨tg,iter,ifs,0⟩] scope pos) 0 (.ref it) (.ref s2.heap.objs.size) (compEnvC scope (Bq X.env scope.names []) s3.heap.objs.size X.env)).onRaise (fun x=>do noteFrame x _;theTreesLotGoes x)) _ _ s5
   refine wpAny_noted ?_
   rw [compTurn_list]
   refine wpAny_bind (wpAny_standAt (wpAny_bind ?_))
   obtain ⟨hD,tu⟩:=turn i n σ5 ys H5 w5
   rcases tu with ⟨stop,qq⟩|⟨go,NN,hNN,step⟩
   ·refine thn (Tn.done (Bg X scope (T++F) s3.heap.objs.size s3 (upd H2 s2.heap.objs.size (.lst [])) fp pins) rfl rfl rfl hc i [] s5 σ5 H5 _ I5 (stat (pl:=[]) (fun _ hp=>absurd hp List.not_mem_nil) fr5) st5 stop) fun r s6 ⟨hr,I6⟩=> ?_
    subst hr
    refine wpAny_pure ?_
    obtain ⟨m6,hn6,_⟩:=I6.loc
    have lC:s.heap.objs.size≤s.heap.objs.size:=Nat.le_refl _
    exact fin _ _ s6 H5 m6 hn6 qq (I3.fpOk (Nat.le_refl _) I6.free) fun h' sb=>comp_out I3 (fun b hb=>(hf3 b hb).1) I6 sb
   ·refine thn (Tn.item (Bg X scope (T++F) s3.heap.objs.size s3 (upd H2 s2.heap.objs.size (.lst [])) fp pins) rfl rfl rfl hc i [] s5 σ5 H5 _ I5 (stat (pl:=[]) (fun _ hp=>absurd hp List.not_mem_nil) fr5) st5 go) fun r s6 ⟨u,hr,h6⟩=> ?_
    subst hr
    refine wpAny_bind (thn h6 fun _ s7 ⟨x,H7,I7,r7,y7,st7,fr7⟩=> ?_)
    have I7':=I7.pinned (stat (pl:=[]) (fun _ hp=>absurd hp List.not_mem_nil) fr7) (Tn.obj _ _ st7)
    have back:∀{σ8:St} {H8:Hp} {s8:Shared} {ys8:List V} {m':Nat},Inv (Bg X scope (T++F) s3.heap.objs.size s3 (upd H2 s2.heap.objs.size (.lst [])) fp pins) ([]++pinsAt fp s7.heap) σ8 H8 s8→m'<n→W (i+1) m' σ8 ys8 H8→
      ∃m,m<n∧∃i σ' ys H',Inv (Bg X scope (T++F) s3.heap.objs.size s3 (upd H2 s2.heap.objs.size (.lst [])) fp pins) [] σ' H' s8∧tn i s8.heap∧(∀b∈fp,H' b=none)∧W i m σ' ys H':=fun {σ8 H8 s8 ys8 m'} I8 hm w8=>by
     refine ⟨m',hm,i+1,σ8,ys8,H8,I8.unpinned,Tn.keep _ _ _ st7 fun b hb o e=>(I8.pin (b,o) (List.mem_append_right _ (List.mem_append_right _ (mem_pinsAt hb e)))).1,fun b hb=> ?_,w8⟩
     obtain ⟨o,e,d⟩:=Tn.obj _ _ st7 b hb
     exact (I8.pin (b,o) (List.mem_append_right _ (List.mem_append_right _ (mem_pinsAt hb e)))).2.1
    refine wpAny_bind (wpAny_mono (hg _ _ _ _ _ _ s7 σ5 H7 x u _ I7' r7 (step x H7 y7)) (fun _ s8 ⟨σ8,H8,I8,q8⟩=> ?_) fun _ _ z=>z.elim)
    refine wpAny_bind (wpAny_mono (hif _ _ _ _ _ _ s8 σ8 H8 _ I8 q8) (fun ok s9 ⟨H9,I9,q9⟩=> ?_) fun _ _ z=>z.elim)
    cases ok with
    |false=>
     rw [if_neg Bool.false_ne_true] at q9
     obtain ⟨m',hm,w9⟩:=hNN _ _ _ q9
     exact wpAny_pure ⟨rfl,back I9 hm w9⟩
    |true=>
     rw [if_pos rfl] at q9
     refine wpAny_bind (wpAny_bind (wpAny_mono (he _ _ _ _ _ _ s9 σ8 H9 _ I9 q9) (fun yv s10 ⟨y,H10,I10,r10,d10,l10,q10⟩=> ?_) fun _ _ z=>z.elim))
     obtain ⟨m',hm,w10⟩:=hNN _ _ _ q10
     obtain ⟨z10,its,n10,rv,el,eo⟩:=I10.lstM d10
     refine wpAny_bind (wpAny_list_append_plain (items:=its.toArray) ⟨n10,eo⟩ (fun h' hl' sb'=> ?_) (by simp;omega))
     obtain ⟨n11,eo'⟩:=hl'
     have I11:=I10.write (x:=s2.heap.objs.size) (e:=s2.heap.objs.size) (o:= .lst (ys++[y])) (t':=s10.toks) (by rw [d10];exact trivial) (.inl rfl) (fun b o hb e=>sb'.extBut b o hb e) ⟨_,eo'⟩ ⟨by simp;assumption,its++[yv],n11,rv.append (.cons r10 .nil),by simpa using eo'⟩
     exact wpAny_pure (wpAny_pure ⟨rfl,back I11 hm w10⟩)
  ·refine Tn.keep _ _ _ st2 fun b hb o e=>kk b o ?_
   rw [e3]
   exact Heap.get?_push_of_some _ e
 have st1:tn 0 h₁:=Tn.keep _ _ _ st2 fun b hb o e=>kk b o (by rw [e3];exact Heap.get?_push_of_some _ e)
 exact codeAny_compStart_list loop (Tn.self _ 0 _ _ _ st1 loop)
theorem pe_comp {tg elt iter:Expr} {ifs:List Expr} {pos:Pos} {g:TG} {ti:TT} {te:TE} {wi:TI} (S:CScope X scope T F js) (hc:X.calm=true)
  (hi:PI X tg iter wi) (hg:∀C s H ex pins,PG (Bg X scope (T++F) C s H ex pins) tg g) (hif:∀C s H ex pins,PIf (Bg X scope (T++F) C s H ex pins) ifs ti) (he:∀C s H ex pins,PE (Bg X scope (T++F) C s H ex pins) elt te)
  (hs:∀x,foldedSetIterable iter X.env x=pure x:=by intro _;rfl):PE X (.ListComp elt [⟨tg,iter,ifs,0⟩] scope pos) (tComp wi g ti te T.length js):=by
 intro pins s σ H Q I h
 rw [eval_ListComp]
 exact comp_go (use:=none) S hc hi hg hif he I h (fun D C s' H' m hn q _ hinv=>⟨m,hn,fun h' sb=>⟨.ref D,H',hinv h' sb,rfl,q⟩⟩) hs
theorem ps_comp {i:Nat} {x:Str} {pos' spos:Pos} {tg elt iter:Expr} {ifs:List Expr} {pos:Pos} {g:TG} {ti:TT} {te:TE} {wi:TI} (hN:X.N.Nodup) (hx1:X.N[i]? =some x) (hx2:Loc X.env.scope x) (S:CScope X scope T F js) (hc:X.calm=true)
  (hi:PI X tg iter wi) (hg:∀C s H ex pins,PG (Bg X scope (T++F) C s H ex pins) tg g) (hif:∀C s H ex pins,PIf (Bg X scope (T++F) C s H ex pins) ifs ti) (he:∀C s H ex pins,PE (Bg X scope (T++F) C s H ex pins) elt te)
  (hsw:swapsWith (.ListComp elt [⟨tg,iter,ifs,0⟩] scope pos) (some (.Name x pos')) spos.line X.env=pure true:=by rfl)
  (hf:X.fn x=true∨X.env.scope.names.lookup x=some .local:=by first|exact .inl rfl|exact .inr rfl|assumption)
  (hs:∀x,foldedSetIterable iter X.env x=pure x:=by intro _;rfl):PS X (.Assign [.Name x pos'] (.ListComp elt [⟨tg,iter,ifs,0⟩] scope pos) spos) (tAsg (tComp wi g ti te T.length js) (gName i)):=by
 intro pins s σ H D I h
 rw [exec_Assign_Name_used _ _ _ _ hsw]
 refine wpAny_bind (wpAny_standAt (wpAny_bind ?_))
 show wpAny _ X.A (do let _ ←comprehension (.ListComp elt [⟨tg,iter,ifs,0⟩] scope pos) scope X.env _ (newList []) false (eval iter X.env) (some (assign (.Name x pos') X.env))) _ _ s
 refine wpAny_bind (wpAny_mono (comp_go (use:=some (assign (.Name x pos') X.env)) (QQ:=fun _ s'=>SP X pins D .next s') S hc hi hg hif he I h (fun d C s' H' m hn q fC hinv=> ?_) hs) (fun _ s' hq=>wpAny_pure (wpAny_pure hq)) fun _ _ e=>e)
 have I1:Inv X pins σ H' s':=hinv s'.heap (Heap.SameBut.refl ..)
 obtain ⟨oC,es,ep,ho,hd,hr⟩:=id hn
 obtain ⟨f0,f1,f2,f3,f4,f5⟩:=fC
 have I2:Inv X (pins++[(C,oC)]) σ H' s':=I1.pins_of fun p hp=>(List.mem_append.mp hp).elim (fun z=>I1.pin p (List.mem_append_right _ z)) fun z=>by
  have e:=List.mem_singleton.mp z
  subst e
  exact ⟨ho,f0,f1,f2,fun v z=>by rw [hd] at z;cases z⟩
 show wpAny _ X.A (assign (.Name x pos') X.env (.ref d)) _ _ _
 refine wpAny_assign_Name (store_ok (v:= .ref d) I2 hN hx1 hx2 rfl (fun s'' I''=> ?_) hf)
 have e2:=(I''.pin (C,oC) (List.mem_append_right _ (List.mem_append_right _ (List.mem_singleton.mpr rfl)))).1
 refine ⟨m,⟨oC,es,ep,e2,hd,hr⟩,fun h' sb=> ?_⟩
 exact ⟨_,H',I''.unpinned.turned (t':=s''.toks) (it:=C) (fun b o hb e=>sb.extBut b o hb e) f0 f1 f3 f4 f5,q⟩
end
section
variable {g:TG} {ti:TT} {te:TE} {Q:VK} {D:Addr} {σ:St} {H:Hp}
theorem comp_list {K:PySem.W.Frag} {a:Addr} {xs:List V} (Pv:Nat→St→List V→Hp→Prop) (h0:Pv 0 σ [] (upd H D (.lst []))) (hl:∀i σ ys H,i≤xs.length→Pv i σ ys H→SqL K H a xs∧H D=some (.lst ys))
  (hs:∀i x σ ys H,xs[i]? =some x→Pv i σ ys H→cturn g ti te D x σ ys H (Pv (i+1))) (hd:∀σ ys H,Pv xs.length σ ys H→Q (.ref D) H):
  cgo (Itl K a) g ti te D σ H Q:=by
 refine ⟨fun i m σ ys H=>m=xs.length - i∧i≤xs.length∧Pv i σ ys H,⟨xs.length,by simp,Nat.zero_le _,h0⟩,?_⟩
 rintro i m σ ys H ⟨rfl,hi,p⟩
 obtain ⟨q,hD⟩:=hl i σ ys H hi p
 refine ⟨hD,?_⟩
 by_cases hlt:i<xs.length
 ·refine .inr ⟨⟨xs,xs[i],q,by simp [hlt]⟩,Pv (i+1),fun σ' ys' H' p'=>⟨xs.length - (i+1),by omega,rfl,hlt,p'⟩,fun x H' y=> ?_⟩
  obtain ⟨e,y⟩:=y
  subst e
  exact (hs i x σ ys _ (y xs q) p)
 ·have e:i=xs.length:=by omega
  subst e
  exact .inl ⟨⟨xs,q,Nat.le_refl _⟩,hd σ ys H p⟩
theorem comp_tup {K:PySem.W.Frag} {a:Addr} {xs:List V} (Pv:Nat→St→List V→Hp→Prop) (h0:Pv 0 σ [] (upd H D (.lst []))) (hl:∀i σ ys H,i≤xs.length→Pv i σ ys H→SqT K H a xs∧H D=some (.lst ys))
  (hs:∀i x σ ys H,xs[i]? =some x→Pv i σ ys H→cturn g ti te D x σ ys H (Pv (i+1))) (hd:∀σ ys H,Pv xs.length σ ys H→Q (.ref D) H):
  cgo (Itt K a) g ti te D σ H Q:=by
 refine ⟨fun i m σ ys H=>m=xs.length - i∧i≤xs.length∧Pv i σ ys H,⟨xs.length,by simp,Nat.zero_le _,h0⟩,?_⟩
 rintro i m σ ys H ⟨rfl,hi,p⟩
 obtain ⟨q,hD⟩:=hl i σ ys H hi p
 refine ⟨hD,?_⟩
 by_cases hlt:i<xs.length
 ·refine .inr ⟨⟨xs,xs[i],q,by simp [hlt]⟩,Pv (i+1),fun σ' ys' H' p'=>⟨xs.length - (i+1),by omega,rfl,hlt,p'⟩,fun x H' y=> ?_⟩
  obtain ⟨e,y⟩:=y
  subst e
  exact (hs i x σ ys _ (y xs q) p)
 ·have e:i=xs.length:=by omega
  subst e
  exact .inl ⟨⟨xs,q,Nat.le_refl _⟩,hd σ ys H p⟩
theorem comp_range {lo:Int} {n:Nat} (Pv:Nat→St→List V→Hp→Prop) (h0:Pv 0 σ [] (upd H D (.lst []))) (hl:∀i σ ys H,i≤n→Pv i σ ys H→H D=some (.lst ys))
  (hs:∀i σ ys H,i<n→Pv i σ ys H→cturn g ti te D (.int (lo+i)) σ ys H (Pv (i+1))) (hd:∀σ ys H,Pv n σ ys H→Q (.ref D) H):
  cgo (Itr lo n) g ti te D σ H Q:=by
 refine ⟨fun i m σ ys H=>m=n - i∧i≤n∧Pv i σ ys H,⟨n,by simp,Nat.zero_le _,h0⟩,?_⟩
 rintro i m σ ys H ⟨rfl,hi,p⟩
 have hD:=hl i σ ys H hi p
 refine ⟨hD,?_⟩
 by_cases hlt:i<n
 ·refine .inr ⟨hlt,Pv (i+1),fun σ' ys' H' p'=>⟨n - (i+1),by omega,rfl,hlt,p'⟩,fun x H' y=> ?_⟩
  obtain ⟨e,y⟩:=y
  subst e y
  exact (hs i σ ys _ hlt p)
 ·have e:i=n:=by omega
  subst e
  exact .inl ⟨Nat.le_refl _,hd σ ys H p⟩
end
end L2
namespace L2
open PySem PySem.Spec PyProof.Rows
mutual
inductive Rep (K:PySem.W.Frag) (H:Hp):V→PyData→Prop
 |non:Rep K H .non .none
 |bl (b:Bool):Rep K H (.bl b) (.bool b)
 |int (i:Int):Rep K H (.int i) (.int i)
 |str (x:Str):Rep K H (.str x) (.str x)
 |lst {a:Addr} {xs:List V} {ds:List PyData}:SqL K H a xs→RepAll K H xs ds→Rep K H (.ref a) (.list ds)
 |tup {a:Addr} {xs:List V} {ds:List PyData}:SqT K H a xs→RepAll K H xs ds→Rep K H (.ref a) (.tuple ds)
inductive RepAll (K:PySem.W.Frag) (H:Hp):List V→List PyData→Prop
 |nil:RepAll K H [] []
 |cons {x:V} {xs:List V} {d:PyData} {ds:List PyData}:Rep K H x d→RepAll K H xs ds→RepAll K H (x::xs) (d::ds)
end
mutual
theorem Rep.reads {X:Cx} {pins:List (Addr×Obj)} {σ:St} {H:Hp} {s:Shared} (I:Inv X pins σ H s):∀{v:V} {d:PyData} {u:Value},Rep X.K H v d→RelV v u→∃as,Reads s.heap u d as
 |_,_,_,.non,r=>by cases r;exact ⟨_,.none⟩
 |_,_,_,.bl b,r=>by cases r;exact ⟨_,.bool b⟩
 |_,_,_,.int i,r=>by obtain ⟨t,rfl⟩:=r;exact ⟨_,.int i t⟩
 |_,_,_,.str x,r=>by obtain ⟨t,rfl⟩:=r;exact ⟨_,.str x t⟩
 |_,_,_,.lst hq hx,r=>by
  cases r
  obtain ⟨its,rv,hl,hz⟩:=I.list hq
  obtain ⟨as,ra⟩:=RepAll.reads I hx rv
  obtain ⟨o,ho,hc,n,hd⟩:=hl.isList
  exact ⟨_,.list ho hc hd ra⟩
 |_,_,_,.tup hq hx,r=>by
  cases r
  obtain ⟨its,rv,hl,hz⟩:=I.tuple hq
  obtain ⟨as,ra⟩:=RepAll.reads I hx rv
  obtain ⟨o,ho,hc,n,hd⟩:=hl
  exact ⟨_,.tuple ho hc hd ra⟩
theorem RepAll.reads {X:Cx} {pins:List (Addr×Obj)} {σ:St} {H:Hp} {s:Shared} (I:Inv X pins σ H s):∀{xs:List V} {ds:List PyData} {us:List Value},RepAll X.K H xs ds→Vals xs us→∃as,ReadsAll s.heap us ds as
 |_,_,_,.nil,.nil=>⟨_,.nil⟩
 |_,_,_,.cons h t,.cons r rs=>by
  obtain ⟨a,ra⟩:=Rep.reads I h r
  obtain ⟨b,rb⟩:=RepAll.reads I t rs
  exact ⟨_,.cons ra rb⟩
end
section
variable {X:Cx} {a b c e:Expr} {ta tb tc te:TE} {pos p2:Pos}
inductive RNeDP (K:PySem.W.Frag) (x:V) (y:V) (H:Hp) (Q:VK):Prop
 |mk (da db:_):(Rep K H x da)→(Rep K H y db)→(da.canLay0=true)→(db.canLay0=true)→(da.depth≤20)→(Q (.bl (!PyData.eqv da db)) H)→RNeDP K x y H Q
def rNeD (K:PySem.W.Frag):R2:=fun x y H Q=>RNeDP K x y H Q
theorem op_neD (hu:X.A.units+64<cLine):OpR X (compareOp .NotEq) (rNeD X.K):=by
 intro pins s σ H x y u v Q I rx ry h
 obtain ⟨da,db,h1,h2,h3,h4,h5,q⟩:=h
 obtain ⟨as,r1⟩:=h1.reads I rx
 obtain ⟨bs,r2⟩:=h2.reads I ry
 exact SeqAt.compareNe_reads r1 r2 h3 h4 (by omega) ⟨.bl _,H,I,rfl,q⟩
theorem call_sum (hc:X.calm=true):CallR X (.builtin "sum") (fun xs H Q=>∃(p:Addr) (ns:List Int),xs=[.ref p]∧SqL X.K H p (ns.map V.int)∧Q (.int ns.sum) H):=by
 intro pins s σ H xs us Q I r h
 obtain ⟨p,ns,rfl,hq,q⟩:=h
 obtain ⟨u,rfl,rx⟩:=vals1 r
 cases rx
 obtain ⟨its,rv,hl,hz⟩:=I.list hq
 have hi:=intsAre_of rv
 obtain ⟨ys,e⟩:=hi.allInts.items
 have hl':=hl.isList
 rw [e] at hl'
 refine sum_intListG (I.ok.hd hc) hl' fun h' tk t' hk=>⟨.int ns.sum,H,I.kept hk,⟨t',?_⟩,q⟩
 have e2:ys.toList.map (·.1)=ns:=by
  have q2:=nums_intItems ys
  rw [←e] at q2
  rw [←q2]
  exact hi.numsOf
 rw [preSum_eq,e2,List.take_of_length_le (by rw [←e2];simp)]
theorem Be:CallR X (.builtin "isinstance") (fun xs H Q=>∃(x:V) (t:Value) (c:String) (b:Bool),xs=[x,.ty c]∧TyOf X.K H x t∧PySem.W.kitOne X.K t (.type c)=some b∧Q (.bl b) H):=by
 intro pins s σ H xs us Q I r h
 obtain ⟨x,t,c,b,rfl,ty,e,q⟩:=h
 obtain ⟨u,v,rfl,rx,ry⟩:=vals2 r
 cases ry
 exact isinst_ok I rx ty e fun tk=>⟨.bl b,H,I.tok tk,rfl,q⟩
theorem pe_ty {x:Str} {T:String} (hg:Gl X x) (hm:X.mg x=none) (hv:bootBuiltins x=some (.type T)) (hn:x≠"__name__":=by decide) (hd:(x==("__debug__":Str))=false:=by decide):PE X (.Name x pos) (tC (.ty T)):=
 fun pins s σ H Q I h=>ld_blt I hg hm hv ⟨.ty T,H,I,rfl,h⟩ hn hd
def rints (i:Int) (n:Nat):List Int:=(List.range n).map fun (k:Nat)=>i+(k:Int)
theorem call_list_rng (hc:X.calm=true):CallR X (.type "list") (fun xs H Q=>∃(p:Addr) (i j:Int),xs=[.ref p]∧H p=some (.rng i j)∧(-(2 ^ 62)≤i∧i<2 ^ 62∧ -(2 ^ 62)≤j∧j<2 ^ 62)∧j - i≤1000000∧∀l,H l=none→Q (.ref l) (upd H l (.lst ((rints i (j - i).toNat).map V.int)))):=by
 intro pins s σ H xs us Q I r h
 obtain ⟨p,i,j,rfl,hp,⟨b1,b2,b3,b4⟩,hj,q⟩:=h
 obtain ⟨u,rfl,rx⟩:=vals1 r
 cases rx
 obtain ⟨t,u,v,ho⟩:=(show ObjOk X.prog X.w H s.heap p (.rng i j) from I.hok p _ hp)
 refine call_list_range (n:=(j - i).toNat) (I.ok.hd hc) (show IsRange s.heap p i j 1 t u v from ho) (small_one b1 b2 b3 b4) (by rw [rangeSize_one];split<;> omega) (by omega) fun h' tk acc c' hk hS hacc=> ?_
 have len:acc.toList.length=(j - i).toNat:=by simpa using hacc.1
 refine ⟨.ref s.heap.objs.size,_,I.laid (o:= .lst ((rints i (j - i).toNat).map V.int)) hk (Nat.le_refl _) ⟨?_,acc.toList,c',?_,by simpa using hS⟩,rfl,q _ I.fresh⟩
 ·simp [rints,sizeLine_eq];exact Int.le_trans (by assumption) (by decide)
 ·have key:∀(l:List Value) (k:Nat) (i:Int),(∀(n:Nat) (x:Value),l[n]? =some x→∃t,x= .int (i+n) t)→l.length=k→Vals ((rints i k).map V.int) l:=by
   intro l
   induction l with
   |nil=>intro k i _ e;cases e;exact .nil
   |cons x l ih=>
    intro k i h e
    cases k with
    |zero=>cases e
    |succ k=>
     have h0:=h 0 x rfl
     have e1:rints i (k+1)=i::rints (i+1) k:=by
      simp only [rints,List.range_succ_eq_map,List.map_cons,List.map_map]
      refine congr (congrArg List.cons (by simp)) (List.map_congr_left fun a _=> ?_)
      simp only [Function.comp];omega
     rw [e1]
     refine .cons (by obtain ⟨t,q⟩:=h0;exact ⟨t,by simpa using q⟩) (ih k (i+1) (fun n y hy=> ?_) (by simpa using e))
     obtain ⟨t,q⟩:=h (n+1) y (by simpa using hy)
     exact ⟨t,by rw [q];congr 1;omega⟩
  refine key acc.toList _ i (fun n x hx=> ?_) len
  obtain ⟨t,q⟩:=hacc.2 n x (by simpa using hx)
  exact ⟨t,by rw [q,Int.mul_one]⟩
def tRev (K:PySem.W.Frag) (te:TE) (ts:TO):TE:=fun σ H Q=>te σ H fun x H1=>ts σ H1 fun o H2=>o=some (-1)∧∃(a:Addr) (xs:List V),x= .ref a∧SqL K H2 a xs∧∀p,H2 p=none→Q (.ref p) (upd H2 p (.lst xs.reverse))
theorem pe_rev {st:Expr} {ts:TO} (he:PE X e te) (hs:PO X (some st) ts) (ops:Value→Value→List Value) (hsub:∀o i,subscripted (.Slice none none (some st) p2) false o i=operate (ops o i) (getItem o i)):PE X (.Subscript e (.Slice none none (some st) p2) pos) (tRev X.K te ts):=by
 intro pins s σ H Q I h
 refine Subscript_ (thn (he pins s σ H _ I h) fun v s1 ⟨x,H1,I1,r1,q1⟩=> ?_)
 refine wpAny_Slice ?_
 rw [evalPart_none]
 refine wpAny_pure (wpAny_pure (thn (hs pins s1 σ H1 _ I1 q1) fun vs s2 ⟨o,H2,I2,ps,q2⟩=> ?_))
 obtain ⟨rfl,a,xs,rfl,hq,q⟩:=q2
 cases r1
 have I4:Inv X pins σ H2 {s2 with heap:=s2.heap.push {cls:= .type "slice",data:= .fields #[.none,.none,vs]}}:=I2.kept (t':=s2.toks) fun b ob q=>Heap.get?_push_of_some _ q
 obtain ⟨its,r,ht,hz⟩:=I4.list hq
 have hlen:=r.length
 show wpAny (model X.prog X.w) X.A (subscriptTail e (.Slice none none (some st) p2) (.ref a) (.ref s2.heap.objs.size)) (EP X pins σ Q) X.xe {s2 with heap:=s2.heap.push {cls:= .type "slice",data:= .fields #[.none,.none,vs]}}
 refine tail_any (ops:=ops (.ref a) (.ref s2.heap.objs.size)) ht.isList.typeIs slot_list_getitem.lookup ?_ (hsub _ _)
 refine wpAny_getItem_list_slice ht.isList (Heap.IsSliceOf.new ..) .none .none ps (by decide) ?_ (by rw [List.size_toArray]<;> omega)
 rw [PySem.W.krv_pick]
 refine ⟨.ref _,_,I4.laid (t':=s2.toks) (o:= .lst xs.reverse) (fun b ob q=>Heap.get?_push_of_some _ q) (Nat.le_refl _) ⟨by simpa using hz,its.reverse,0,r.reverse,Heap.get?_push_size _ rfl⟩,rfl,q _ I4.fresh⟩
inductive RCatTTP (K:PySem.W.Frag) (x:V) (y:V) (H:Hp) (Q:VK):Prop
 |mk (a b:Addr) (xs ys:List V):(x= .ref a)→(y= .ref b)→(SqT K H a xs)→(SqT K H b ys)→(xs.length+ys.length≤sizeLine)→((xs=[]→Q (.ref b) H))→((xs≠[]→ys=[]→Q (.ref a) H))→((xs≠[]→ys≠[]→∀p,H p=none→Q (.ref p) (upd H p (.tup (xs++ys)))))→RCatTTP K x y H Q
def rCatTT (K:PySem.W.Frag):R2:=fun x y H Q=>RCatTTP K x y H Q
theorem op_catTT:OpR X (binaryOp .Add) (rCatTT X.K):=by
 intro pins s σ H x y u v Q I rx ry h
 obtain ⟨p,q,xs,ys,rfl,rfl,hx,hy,hz,h1,h2,h3⟩:=h
 cases rx;cases ry
 obtain ⟨its,r1,t1,z1⟩:=I.tuple hx
 obtain ⟨its2,r2,t2,z2⟩:=I.tuple hy
 have l1:=r1.length
 have l2:=r2.length
 by_cases e:xs=[]
 ·subst e
  have ei:its=[]:=by cases its with|nil=>rfl|cons _ _=>cases l1
  subst ei
  obtain ⟨⟨cls,dd,data,sl⟩,ho,hc,n,hd⟩:=id t1
  obtain ⟨⟨cls2,dd2,data2,sl2⟩,ho2,hc2,n2,hd2⟩:=id t2
  simp only at hc hd hc2 hd2
  subst hc hd hc2 hd2
  exact PySem.concat_meets ⟨_,ho,rfl⟩ ⟨_,ho2,rfl⟩ noFill_tuple_add seq_tuple_add PySem.F.slot_tuple_add PySem.F.entry_tuple_add (PySem.F.args_tuple_add_2 _ _)
   (tuple_addW0 p q _ _ n n2 dd dd2 sl sl2 (by rfl)) ⟨ho,ho2,⟨.ref q,H,I,rfl,h1 rfl⟩⟩
 ·refine HT.cat_tup t1 t2 (fun z=>e ((Vals.nil_iff r1).mp z)) (fun z=>⟨.ref p,H,I,rfl,h2 e ((Vals.nil_iff r2).mp z)⟩) (fun z=> ?_) (by omega)
  exact ⟨.ref s.heap.objs.size,_,I.laid (t':=s.toks) (o:= .tup (xs++ys)) (fun b ob q=>Heap.get?_push_of_some _ q) (Nat.le_refl _) ⟨by simpa using hz,its++its2,r1.append r2,IsTupN.new _ _⟩,rfl,h3 e (fun z'=>z ((Vals.nil_iff r2).mpr z')) _ I.fresh⟩
end
section
variable {prog:Program} {w:World} {A:Around} {E:Value→Shared→Prop}
variable {s:Shared}
end
end L2
namespace L2
open PySem PySem.Spec PyProof.Rows
section
variable {X:Cx} {a b c e:Expr} {ta tb tc te:TE} {pos p2:Pos}
inductive RSlSP (x:V) (lo:Option Int) (hi:Option Int) (H:Hp) (Q:VK):Prop
 |mk (z:_):(x= .str z)→(z.length≤sizeLine)→(Q (.str (Txt.slice z lo hi)) H)→RSlSP x lo hi H Q
def rSlS:V→Option Int→Option Int→Hp→VK→Prop:=fun x lo hi H Q=>RSlSP x lo hi H Q
theorem sl_str:SlR X rSlS:=by
 intro pins s σ H x v vl vu lo hi sl Q I rx hs pl pu h
 obtain ⟨z,rfl,hz,q⟩:=h
 obtain ⟨t,rfl⟩:=rx
 refine ⟨"str",_,PySem.F.slot_str_getitem.lookup,typeIs_str _ _ _,?_⟩
 have fin:∀t' k,EP X pins σ Q (.str (Txt.slice z lo hi) t') {s with toks:=k}:=fun t' k=>⟨.str _,H,I.tok k,⟨t',rfl⟩,q⟩
 cases pl with
 |none=>
  cases pu with
  |none=>exact wpAny_getItem_str_slice (l:=none) (u:=none) (st:=none) hs rfl (post_val_or_str ⟨Nat.le_trans (Txt.slice_le z _ _) hz,fin⟩)
  |int j tj=>exact wpAny_getItem_str_slice (l:=none) (u:=some (j,tj)) (st:=none) hs rfl (post_val_or_str ⟨Nat.le_trans (Txt.slice_le z _ _) hz,fin⟩)
 |int i ti=>
  cases pu with
  |none=>exact wpAny_getItem_str_slice (l:=some (i,ti)) (u:=none) (st:=none) hs rfl (post_val_or_str ⟨Nat.le_trans (Txt.slice_le z _ _) hz,fin⟩)
  |int j tj=>exact wpAny_getItem_str_slice (l:=some (i,ti)) (u:=some (j,tj)) (st:=none) hs rfl (post_val_or_str ⟨Nat.le_trans (Txt.slice_le z _ _) hz,fin⟩)
theorem strsAre_of:∀{ys:List Str} {us:List Value},Vals (ys.map V.str) us→StrsAre us ys
 |[],_,.nil=> .nil
 |y::ys,_,.cons h t=>by
  obtain ⟨u,rfl⟩:=h
  exact .cons y u (strsAre_of t)
inductive RJoinP (K:PySem.W.Frag) (x:V) (vs:List V) (H:Hp) (Q:VK):Prop
 |mk (z:Str) (l:Addr) (ys:List Str):(x= .str z)→(vs=[.ref l])→(SqL K H l (ys.map V.str))→((ys.map (·.length)).sum+ys.length * z.length≤16777216)→(Q (.str (Txt.join z ys)) H)→RJoinP K x vs H Q
def rJoin (K:PySem.W.Frag):V→List V→Hp→VK→Prop:=fun x vs H Q=>RJoinP K x vs H Q
theorem mt_join:MtM X "str.join" (rJoin X.K):=by
 intro pins s σ H x xs v us Q I rx r h
 obtain ⟨z,l,ys,rfl,rfl,hl,hz,q⟩:=h
 obtain ⟨t,rfl⟩:=rx
 obtain ⟨u,rfl,ru⟩:=vals1 r
 cases ru
 obtain ⟨its,rv,hp,_⟩:=I.list hl
 exact join_list hp.isList (strsAre_of rv) hz fun t' k=>⟨.str _,H,I.tok k,⟨t',rfl⟩,q⟩
end
def relab (scope osc:Scope):Scope:={scope with names:=scope.names.map fun (n,k)=>if (k== .free && osc.kind== .function && osc.names.lookup n==some .cell) then (n,.cell) else (n,k)}
structure CS (osc scope:Scope) (T F:List Str):Prop where
 kind:scope.kind= .function
 nocell:∀y∈scope.names,y.2≠ .cell
 names:∀x∈scope.names,x.2= .local→scope.names.lookup x.1=some .local
 free:∀x∈scope.names,x.2= .free→osc.names.lookup x.1=some .cell
 loc:∀y∈T,(relab scope osc).names.lookup y=some .local
 cel:∀y∈F,(relab scope osc).names.lookup y=some .cell∧osc.names.lookup y=some .cell∧(y,NameKind.free)∈scope.names
 all:∀x∈(relab scope osc).names,(x.2= .cell∨x.2= .free)→(x.1,NameKind.free)∈scope.names
theorem CS.to {X:Cx} {scope osc:Scope} {T F:List Str} {js:List Nat} (h:CS osc scope T F) (hj:js.map (fun j=>X.N[j]?)=F.map some) (ho:X.env.scope=osc):CScope X scope T F js:=by
 subst ho
 exact ⟨h.kind,h.nocell,h.names,h.free,h.loc,h.cel,h.all,hj⟩
theorem PSs.imp' {X:Cx} {st:List PySem.Stmt} {t t':TS} (h:PSs X st t) (f:∀D σ H,t' D σ H→t D σ H):PSs X st t':=fun pins s σ H D I h'=>h pins s σ H D I (f D σ H h')
end L2
namespace L2
open PySem PySem.Spec PyProof.Rows
section
variable {X:Cx} {pins:List (Addr×Obj)} {σ:St} {H:Hp} {s:Shared}
theorem Inv.turnedL {t':Nat} {h':Heap} (ch:List Addr) (I:Inv X pins σ H s) (k:∀b o,b ∉ ch→s.heap.get? b=some o→h'.get? b=some o) (hf:∀b∈ch,FpOk X pins H b):Inv X pins σ H {s with heap:=h',toks:=t'}:=by
 have out:∀b u,H b=some u→b ∉ ch:=fun b u e z=>by rw [(hf b z).1] at e;cases e
 have outL:X.env.locals ∉ ch:=fun z=>(hf _ z).2.1 rfl
 refine I.step (g':=s.gens) (d':=s.drawn) (ch:=ch) (fun b hb=>⟨(hf b hb).2.2.2.1,(hf b hb).2.1,(hf b hb).2.2.2.2.1,(hf b hb).2.2.2.2.2⟩) (fun b o _ _ hc e _=>k b o hc e) (fun b o _ _ hc e _=>⟨o.slots,k b o hc e⟩)
  (fun _ _ _ _ n=>n) (fun b o hc e=>⟨o,k b o hc e⟩) (fun _ _ e=>e) (fun _ _ _ e=>e) (fun b ps e=>⟨#[],by rw [e];simp⟩) (fun m hm=> ?_) (fun b u e=> ?_) I.bare
 ·obtain ⟨o,es,ep,ho,r⟩:=hm
  exact ⟨o,es,ep,k _ o outL ho,r⟩
 ·refine (I.hok b u e).stay (fun c v hc q=>k c v ?_ q) (fun _ q=>q) fun _ _ q=>q
  rcases hc with z|z
  ·rw [z];exact out b u e
  ·exact out c _ z
theorem FpOk.up {b T:Addr} {o:HO} (h:FpOk X pins H b) (n:b≠T):FpOk X pins (upd H T o) b:=⟨by rw [Ah n];exact h.1,h.2⟩
end
end L2
namespace PySem
open Builtin
section
variable {prog:Program} {w:World} {A:Around} {E:Value→Shared→Prop} {s:Shared}
theorem nextOf_tup {it t:Addr} {i:Nat} {its:Array Value} {x:Value} {Q:Value→Shared→Prop} (hi:s.heap.IsTupleIter it t i) (ht:s.heap.IsTuple t its) (hx:its[i]? =some x)
  (hQ:∀h',h'.IsTupleIter it t (i+1)→Heap.SameBut it s.heap h'→Q x {s with heap:=h'}):wpAny (model prog w) A (Builtin.SmallTypes.nextOf (.ref it)) Q E s:=by
 obtain ⟨oi,gi,ci,di⟩:=id hi
 obtain ⟨ot,gt,_,nt,dt⟩:=ht
 unfold Builtin.SmallTypes.nextOf
 refine wpAny_bind (wpAny_callSpecial?_slot (name:=Str.ofString "__next__") hi.typeIs F.slot_tuple_iterator_next (wpAny_call_entry F.slot_tuple_iterator_next hi.typeIs F.entry_tuple_iterator_next ?_ (F.args_tuple_iterator_next_1 _)))
 show wpAny _ _ (field (.ref it) 0 >>=fun _=>_) _ _ s
 refine wpAny_bind (wpAny_field gi di (x:= .ref t) rfl ?_)
 show wpAny _ _ (ite ((Value.ref t==Value.none)=true) _ _) _ _ s
 have ng:¬((Value.ref t==Value.none)=true):=Bool.false_ne_true
 rw [if_neg ng]
 show wpAny _ _ (field (.ref it) 1 >>=fun _=>_) _ _ s
 refine wpAny_bind (wpAny_field gi di (x:= .int i 0) rfl ?_)
 show wpAny _ _ (seqItems? (.ref t) >>=fun _=>_) _ _ s
 refine wpAny_bind (wpAny_seqItems gt dt ?_)
 simp only [Int.toNat_natCast,hx]
 refine wpAny_bind (wpAny_setField gi di (by simp) (wpAny_pure ⟨x,rfl,wpAny_pure (hQ _ ⟨_,Heap.get?_update_self _ gi (Obj.isFreed_of_fields (Obj.data_mapFields di _)),(Obj.cls_mapFields ..).trans ci,?_⟩ (Heap.SameBut.update ..))⟩))
 rw [Obj.data_mapFields di]
 simp [rawInt]
theorem nextOf_tup_end {it t:Addr} {i:Nat} {its:Array Value} {Q:Value→Shared→Prop} (hh:A.handled=none) (hi:s.heap.IsTupleIter it t i) (ht:s.heap.IsTuple t its) (hx:its[i]? =none)
  (hE:∀h' e,Heap.ExtBut it s.heap h'→(∃o,h'.get? e=some o∧o.cls= .type "StopIteration")→E (.ref e) {s with heap:=h'}):wpAny (model prog w) A (Builtin.SmallTypes.nextOf (.ref it)) Q E s:=by
 obtain ⟨oi,gi,ci,di⟩:=id hi
 obtain ⟨ot,gt,_,nt,dt⟩:=ht
 unfold Builtin.SmallTypes.nextOf
 refine wpAny_bind (wpAny_callSpecial?_slot (name:=Str.ofString "__next__") hi.typeIs F.slot_tuple_iterator_next (wpAny_call_entry F.slot_tuple_iterator_next hi.typeIs F.entry_tuple_iterator_next ?_ (F.args_tuple_iterator_next_1 _)))
 show wpAny _ _ (field (.ref it) 0 >>=fun _=>_) _ _ s
 refine wpAny_bind (wpAny_field gi di (x:= .ref t) rfl ?_)
 show wpAny _ _ (ite ((Value.ref t==Value.none)=true) _ _) _ _ s
 have ng:¬((Value.ref t==Value.none)=true):=Bool.false_ne_true
 rw [if_neg ng]
 show wpAny _ _ (field (.ref it) 1 >>=fun _=>_) _ _ s
 refine wpAny_bind (wpAny_field gi di (x:= .int i 0) rfl ?_)
 show wpAny _ _ (seqItems? (.ref t) >>=fun _=>_) _ _ s
 refine wpAny_bind (wpAny_seqItems gt dt ?_)
 simp only [Int.toNat_natCast,hx]
 refine wpAny_bind (wpAny_rule (wpAny_bind (wpAny_setField gi di (by simp) ?_)))
 show wpAny _ _ (newExc (.type "StopIteration") [] >>=fun _=>_) _ _ _
 refine wpAny_bind ?_
 simp only [newExc,newTuple]
 refine wpAny_bind (wpAny_newObj_type ?_ (by size_fits))
 refine wpAny_bind (m:=firstArgMember _ _) (wpAny_of_eq (a:=Value.none) (by first|rfl|(simp only [firstArgMember];rfl)) ?_)
 refine wpAny_newObj_type ?_ (by size_fits)
 simp only [raiseNew]
 refine wpAny_bind (wpAny_handled ?_)
 first|rw [show A.in1.handled=none from hh]|rw [hh]
 exact wpAny_bind (wpAny_pure (wpAny_throw (hE _ _ (((Heap.SameBut.update ..).extBut.push _).push _) ⟨_,Heap.get?_push_size _ rfl,rfl⟩)))
theorem Draws.tup {prog:Program} {w:World} {A:Around} (hh:A.handled=none) (it t:Addr) (hne:t≠it) (its:Array Value):
  Draws prog w A it [it,t] its.size (fun i v=>its[i]? =some v) (fun i h=>h.IsTupleIter it t i∧h.IsTuple t its) where
 live:=fun _ _ st=>⟨st.1.choose,st.1.choose_spec.1⟩
 frame:=fun _ _ _ st hk=>⟨st.1.at fun o e=>hk it (by simp) o e,let ⟨o,ho,r⟩:=st.2;⟨o,hk t (by simp) o ho,r⟩⟩
 item:=fun i s Q E hi st hQ=>by
  refine nextOf_tup st.1 st.2 (x:=its[i]) (by simp [hi]) fun h' hit' hs'=> ?_
  exact hQ _ h' s.toks (by simp [hi]) ⟨hit',let ⟨o,ho,r⟩:=st.2;⟨o,hs'.extBut _ _ hne ho,r⟩⟩ hs'
 done:=fun s Q E st hE=>nextOf_tup_end hh st.1 st.2 (by simp) hE
end
end PySem
namespace PySem
open Builtin
structure ZAp (z TI TO i1 i2:Addr) (f1 f2:List Addr):Prop where
 a1:TI≠z
 a2:TO≠z
 a3:i1≠z
 a4:i2≠z
 a5:TI≠TO
 a6:TI≠i1
 a7:TI≠i2
 a8:TO≠i1
 a9:TO≠i2
 b1:i1≠i2
 b2:z ∉ f1
 b3:z ∉ f2
 b4:TO ∉ f1
 b5:TO ∉ f2
 b6:i1 ∉ f2
 b7:i2 ∉ f1
section
variable {prog:Program} {w:World} {A:Around} {E:Value→Shared→Prop} {s:Shared} {z TI TO i1 i2:Addr} {f1 f2:List Addr} {n1 n2:Nat} {P1 P2:Nat→Value→Prop} {S1 S2:Nat→Heap→Prop}
theorem zip_itemD {k:Nat} {a b:Value} {Q:Value→Shared→Prop} (D:ZAp z TI TO i1 i2 f1 f2) (D1:Draws prog w A i1 f1 n1 P1 S1) (D2:Draws prog w A i2 f2 n2 P2 S2)
  (hZ:IsZip s.heap z TI TO .none) (pI:IsPair s.heap TI (.ref i1) (.ref i2)) (pO:IsPair s.heap TO a b) (t1:S1 k s.heap) (t2:S2 k s.heap) (l1:k<n1) (l2:k<n2)
  (hQ:∀h' tk x y,P1 k x→P2 k y→IsZip h' z TI TO (rawInt s.heap.objs.size)→IsPair h' TO x y→S1 (k+1) h'→S2 (k+1) h'→IsPair h' s.heap.objs.size x y→
   (∀c o,c≠z→c≠TO→c≠i1→c≠i2→s.heap.get? c=some o→h'.get? c=some o)→Q (.ref s.heap.objs.size) {s with heap:=h',toks:=tk}):
  wpAny (model prog w) A (Builtin.«zip.__next__» ⟨[.ref z],[]⟩) (fun fin s'=>∃v,fin= .done (.ret v)∧Q v s') E s:=by
 show wpAny _ _ (field (.ref z) 2 >>=fun _=>_) _ _ _
 refine wpAny_bind (wpAny_field hZ rfl (x:= .bool false) rfl ?_)
 show wpAny _ _ (field (.ref z) 3 >>=fun _=>_) _ _ _
 refine wpAny_bind (wpAny_field hZ rfl (x:= .ref TI) rfl ?_)
 refine wpAny_bind (wpAny_seqItems pI rfl ?_)
 show wpAny _ _ (Builtin.SmallTypes.ownedTupleIsFree (.ref z) >>=fun _=>_) _ _ _
 refine wpAny_bind ?_
 unfold Builtin.SmallTypes.ownedTupleIsFree
 refine wpAny_bind (wpAny_field hZ rfl (x:= .none) rfl (wpAny_pure ?_))
 simp only [if_true]
 refine wpAny_bind (wpAny_rule (wpAny_bind (wpAny_field hZ rfl (x:= .ref TO) rfl ?_)))
 refine wpAny_bind (wpAny_setField_rec hZ (by simp) fun g1 zg1 k1=> ?_)
 replace zg1:IsZip g1 z TI TO .ellipsis:=zg1
 refine wpAny_bind ?_
 simp only [List.zipIdx_cons,List.zipIdx_nil,List.forIn_cons,List.forIn_nil]
 refine wpAny_bind (wpAny_bind (wpAny_onRaise ?_))
 show wpAny _ _ (Builtin.SmallTypes.nextOf (.ref i1) >>=fun _=>_) _ _ _
 refine wpAny_bind (D1.item k _ _ _ l1 (D1.frame _ _ _ t1 fun c hc o e=>k1.extBut _ _ (fun q=>D.b2 (q▸hc)) e) fun x g2 tk2 px sg2 k2=>wpAny_pure ?_)
 have pO2:IsPair g2 TO a b:=k2.extBut _ _ D.a8 (k1.extBut _ _ D.a2 pO)
 refine wpAny_bind (wpAny_seqItems pO2 rfl (wpAny_bind (wpAny_updateSeq_pair pO2 fun g3 pO3 k3=> ?_)))
 replace pO3:IsPair g3 TO x b:=pO3
 refine wpAny_bind (wpAny_letGo (wpAny_pure (wpAny_bind (wpAny_bind (wpAny_onRaise ?_)))))
 show wpAny _ _ (Builtin.SmallTypes.nextOf (.ref i2) >>=fun _=>_) _ _ _
 have t2':S2 k g3:=D2.frame _ _ _ t2 fun c hc o e=>k3.extBut _ _ (fun q=>D.b5 (q▸hc)) (k2.extBut _ _ (fun q=>D.b6 (q▸hc)) (k1.extBut _ _ (fun q=>D.b3 (q▸hc)) e))
 refine wpAny_bind (D2.item k _ _ _ l2 t2' fun y g4 tk4 py sg4 k4=>wpAny_pure ?_)
 have pO4:IsPair g4 TO x b:=k4.extBut _ _ D.a9 pO3
 refine wpAny_bind (wpAny_seqItems pO4 rfl (wpAny_bind (wpAny_updateSeq_pair pO4 fun g5 pO5 k5=> ?_)))
 replace pO5:IsPair g5 TO x y:=pO5
 refine wpAny_bind (wpAny_letGo (wpAny_pure (wpAny_pure (wpAny_bind (wpAny_seqItems pO5 rfl (wpAny_bind (wpAny_newTuple ?_)))))))
 have sz:g5.objs.size=s.heap.objs.size:=by rw [k5.1,k4.1,k3.1,k2.1,k1.1]
 have zg5:IsZip g5 z TI TO .ellipsis:=k5.extBut _ _ D.a2.symm (k4.extBut _ _ D.a4.symm (k3.extBut _ _ D.a2.symm (k2.extBut _ _ D.a3.symm zg1)))
 have kk:∀c o,c≠z→c≠TO→c≠i1→c≠i2→s.heap.get? c=some o→g5.get? c=some o:=fun c o c1 c2 c3 c4 e=>k5.extBut _ _ c2 (k4.extBut _ _ c4 (k3.extBut _ _ c2 (k2.extBut _ _ c3 (k1.extBut _ _ c1 e))))
 have u1:S1 (k+1) g5:=D1.frame _ _ _ sg2 fun c hc o e=>k5.extBut _ _ (fun q=>D.b4 (q▸hc)) (k4.extBut _ _ (fun q=>D.b7 (q▸hc)) (k3.extBut _ _ (fun q=>D.b4 (q▸hc)) e))
 have u2:S2 (k+1) g5:=D2.frame _ _ _ sg4 fun c hc o e=>k5.extBut _ _ (fun q=>D.b5 (q▸hc)) e
 have zlt:z<g5.objs.size:=Heap.lt_size zg5
 show wpAny _ _ (Builtin.SmallTypes.ownedTupleHandOut (.ref z) (.ref g5.objs.size) >>=fun _=>_) _ _ _
 refine wpAny_bind ?_
 unfold Builtin.SmallTypes.ownedTupleHandOut
 have zg6:IsZip (g5.push {cls:= .type "tuple",data:= .seq #[x,y]}) z TI TO .ellipsis:=Heap.get?_push_of_some _ zg5
 refine wpAny_bind (wpAny_setField_rec zg6 (by simp) fun g7 zg7 k7=> ?_)
 replace zg7:IsZip g7 z TI TO (rawInt g5.objs.size):=zg7
 refine wpAny_setField_rec zg7 (by simp) fun g8 zg8 k8=> ?_
 replace zg8:IsZip g8 z TI TO (rawInt g5.objs.size):=zg8
 have up:∀c o,c≠z→g5.get? c=some o→g8.get? c=some o:=fun c o c1 e=>k8.extBut _ _ c1 (k7.extBut _ _ c1 (Heap.get?_push_of_some _ e))
 have pT:IsPair g8 g5.objs.size x y:=k8.extBut _ _ (Nat.ne_of_gt zlt) (k7.extBut _ _ (Nat.ne_of_gt zlt) (Heap.get?_push_size _ rfl))
 rw [sz] at zg8 pT
 refine wpAny_pure ⟨_,rfl,?_⟩
 show Q (.ref g5.objs.size) _
 rw [sz]
 exact hQ g8 _ x y px py zg8 (up _ _ D.a2 pO5) (D1.frame _ _ _ u1 fun c hc o e=>up c o (fun q=>D.b2 (q▸hc)) e) (D2.frame _ _ _ u2 fun c hc o e=>up c o (fun q=>D.b3 (q▸hc)) e) pT fun c o c1 c2 c3 c4 e=>up c o c1 (kk c o c1 c2 c3 c4 e)
theorem zip_endD {k:Nat} {a b:Value} {Q:Fin→Shared→Prop} (D:ZAp z TI TO i1 i2 f1 f2) (D1:Draws prog w A i1 f1 n1 P1 S1) (D2:Draws prog w A i2 f2 n2 P2 S2)
  (hZ:IsZip s.heap z TI TO .none) (pI:IsPair s.heap TI (.ref i1) (.ref i2)) (pO:IsPair s.heap TO a b) (t1:S1 k s.heap) (t2:S2 k s.heap) (hend:k=n1∨(k<n1∧k=n2))
  (hE:∀h' tk e,(∀c o,c≠z→c≠TO→c≠i1→c≠i2→s.heap.get? c=some o→h'.get? c=some o)→(∃o,h'.get? e=some o∧o.cls= .type "StopIteration")→E (.ref e) {s with heap:=h',toks:=tk}):
  wpAny (model prog w) A (Builtin.«zip.__next__» ⟨[.ref z],[]⟩) Q E s:=by
 show wpAny _ _ (field (.ref z) 2 >>=fun _=>_) _ _ _
 refine wpAny_bind (wpAny_field hZ rfl (x:= .bool false) rfl ?_)
 show wpAny _ _ (field (.ref z) 3 >>=fun _=>_) _ _ _
 refine wpAny_bind (wpAny_field hZ rfl (x:= .ref TI) rfl ?_)
 refine wpAny_bind (wpAny_seqItems pI rfl ?_)
 show wpAny _ _ (Builtin.SmallTypes.ownedTupleIsFree (.ref z) >>=fun _=>_) _ _ _
 refine wpAny_bind ?_
 unfold Builtin.SmallTypes.ownedTupleIsFree
 refine wpAny_bind (wpAny_field hZ rfl (x:= .none) rfl (wpAny_pure ?_))
 simp only [if_true]
 refine wpAny_bind (wpAny_rule (wpAny_bind (wpAny_field hZ rfl (x:= .ref TO) rfl ?_)))
 refine wpAny_bind (wpAny_setField_rec hZ (by simp) fun g1 zg1 k1=> ?_)
 replace zg1:IsZip g1 z TI TO .ellipsis:=zg1
 refine wpAny_bind ?_
 simp only [List.zipIdx_cons,List.zipIdx_nil,List.forIn_cons,List.forIn_nil]
 refine wpAny_bind (wpAny_bind (wpAny_onRaise ?_))
 show wpAny _ _ (Builtin.SmallTypes.nextOf (.ref i1) >>=fun _=>_) _ _ _
 have t1':S1 k g1:=D1.frame _ _ _ t1 fun c hc o e=>k1.extBut _ _ (fun q=>D.b2 (q▸hc)) e
 rcases hend with rfl|⟨l1,rfl⟩
 ·refine wpAny_bind (D1.done _ _ _ t1' fun g2 e k2 he=> ?_)
  obtain ⟨oe,ge,ce⟩:=he
  have zg2:IsZip g2 z TI TO .ellipsis:=k2 _ _ D.a3.symm zg1
  have ne:e≠z:=fun q=>by subst q;rw [zg2] at ge;cases ge;simp at ce
  exact wpAny_setField_rec zg2 (by simp) fun g3 _ k3=>hE g3 _ e (fun c o c1 _ c3 _ q=>k3.extBut _ _ c1 (k2 _ _ c3 (k1.extBut _ _ c1 q))) ⟨oe,k3.extBut _ _ ne ge,ce⟩
 ·refine wpAny_bind (D1.item k _ _ _ l1 t1' fun x g2 tk2 px sg2 k2=>wpAny_pure ?_)
  have pO2:IsPair g2 TO a b:=k2.extBut _ _ D.a8 (k1.extBut _ _ D.a2 pO)
  refine wpAny_bind (wpAny_seqItems pO2 rfl (wpAny_bind (wpAny_updateSeq_pair pO2 fun g3 pO3 k3=> ?_)))
  refine wpAny_bind (wpAny_letGo (wpAny_pure (wpAny_bind (wpAny_bind (wpAny_onRaise ?_)))))
  show wpAny _ _ (Builtin.SmallTypes.nextOf (.ref i2) >>=fun _=>_) _ _ _
  have t2':S2 k g3:=D2.frame _ _ _ t2 fun c hc o e=>k3.extBut _ _ (fun q=>D.b5 (q▸hc)) (k2.extBut _ _ (fun q=>D.b6 (q▸hc)) (k1.extBut _ _ (fun q=>D.b3 (q▸hc)) e))
  refine wpAny_bind (D2.done _ _ _ t2' fun g4 e k4 he=> ?_)
  obtain ⟨oe,ge,ce⟩:=he
  have zg4:IsZip g4 z TI TO .ellipsis:=k4 _ _ D.a4.symm (k3.extBut _ _ D.a2.symm (k2.extBut _ _ D.a3.symm zg1))
  have ne:e≠z:=fun q=>by subst q;rw [zg4] at ge;cases ge;simp at ce
  exact wpAny_setField_rec zg4 (by simp) fun g5 _ k5=>hE g5 _ e (fun c o c1 c2 c3 c4 q=>k5.extBut _ _ c1 (k4 _ _ c4 (k3.extBut _ _ c2 (k2.extBut _ _ c3 (k1.extBut _ _ c1 q))))) ⟨oe,k5.extBut _ _ ne ge,ce⟩
end
end PySem
namespace PySem
open Builtin
section
variable {prog:Program} {w:World} {A:Around} {E:Value→Shared→Prop} {s:Shared} {z TI TO i1 i2:Addr} {f1 f2:List Addr} {n1 n2:Nat} {P1 P2:Nat→Value→Prop} {S1 S2:Nat→Heap→Prop}
theorem pyNext_zip_itemD {k:Nat} {a b:Value} {Q:Option Value→Shared→Prop} (D:ZAp z TI TO i1 i2 f1 f2) (D1:Draws prog w A.in1 i1 f1 n1 P1 S1) (D2:Draws prog w A.in1 i2 f2 n2 P2 S2)
  (hZ:IsZip s.heap z TI TO .none) (pI:IsPair s.heap TI (.ref i1) (.ref i2)) (pO:IsPair s.heap TO a b) (t1:S1 k s.heap) (t2:S2 k s.heap) (l1:k<n1) (l2:k<n2)
  (hQ:∀h' tk x y,P1 k x→P2 k y→IsZip h' z TI TO (rawInt s.heap.objs.size)→IsPair h' TO x y→S1 (k+1) h'→S2 (k+1) h'→IsPair h' s.heap.objs.size x y→
   (∀c o,c≠z→c≠TO→c≠i1→c≠i2→s.heap.get? c=some o→h'.get? c=some o)→Q (some (.ref s.heap.objs.size)) {s with heap:=h',toks:=tk}):
  wpAny (model prog w) A (pyNext (.ref z)) Q E s:=by
 have tz:s.TypeIs (.ref z) "zip":=⟨_,hZ,rfl⟩
 unfold pyNext
 exact wpAny_bind (wpAny_attempt (wpAny_callSpecial?_slot (name:=Str.ofString "__next__") tz F.slot_zip_next (wpAny_call_entry F.slot_zip_next tz F.entry_zip_next
   (zip_itemD D D1 D2 hZ pI pO t1 t2 l1 l2 fun h' tk x y a1 a2 a3 a4 a5 a6 a7 a8=>wpAny_pure (hQ h' tk x y a1 a2 a3 a4 a5 a6 a7 a8)) (F.args_zip_next_1 _))))
theorem pyNext_zip_endD {k:Nat} {a b:Value} {Q:Option Value→Shared→Prop} (D:ZAp z TI TO i1 i2 f1 f2) (D1:Draws prog w A.in1 i1 f1 n1 P1 S1) (D2:Draws prog w A.in1 i2 f2 n2 P2 S2)
  (hZ:IsZip s.heap z TI TO .none) (pI:IsPair s.heap TI (.ref i1) (.ref i2)) (pO:IsPair s.heap TO a b) (t1:S1 k s.heap) (t2:S2 k s.heap) (hend:k=n1∨(k<n1∧k=n2))
  (hQ:∀h' tk,(∀c o,c≠z→c≠TO→c≠i1→c≠i2→s.heap.get? c=some o→h'.get? c=some o)→Q none {s with heap:=h',toks:=tk}):
  wpAny (model prog w) A (pyNext (.ref z)) Q E s:=by
 have tz:s.TypeIs (.ref z) "zip":=⟨_,hZ,rfl⟩
 unfold pyNext
 refine wpAny_bind (wpAny_attempt (wpAny_callSpecial?_slot (name:=Str.ofString "__next__") tz F.slot_zip_next (wpAny_call_entry F.slot_zip_next tz F.entry_zip_next (zip_endD D D1 D2 hZ pI pO t1 t2 hend fun h' tk e hk he=> ?_) (F.args_zip_next_1 _))))
 obtain ⟨o,ho,hc⟩:=he
 exact wpAny_bind (wpAny_isInstance (T:="StopIteration") (b:=true) ⟨o,ho,hc⟩ isSubtype_stop (wpAny_pure (hQ _ _ hk)))
end
abbrev zT1 (h:Heap) (a:Addr):Heap:=h.push {cls:= .type "tuple_iterator",data:= .fields #[.ref a,.int 0 0]}
abbrev zT2 (h:Heap) (a b:Addr):Heap:=(zT1 h a).push {cls:= .type "tuple_iterator",data:= .fields #[.ref b,.int 0 0]}
abbrev zT3 (h:Heap) (a b:Addr):Heap:=(zT2 h a b).push {cls:= .type "tuple",data:= .seq #[.ref h.objs.size,.ref (zT1 h a).objs.size]}
abbrev zT4 (h:Heap) (a b:Addr):Heap:=(zT3 h a b).push {cls:= .type "tuple",data:= .seq #[.none,.none]}
abbrev zT5 (h:Heap) (a b:Addr):Heap:=(zT4 h a b).push {cls:= .type "zip",data:= .fields #[.none,.bool false,.bool false,.ref (zT2 h a b).objs.size,.ref (zT3 h a b).objs.size]}
theorem meets_zip_tt (a b:Addr) (xs ys:Array Value):
  Meets (Builtin.«zip.__new__» ⟨[.type "zip",.ref a,.ref b],[]⟩) (fun _ R s=>s.heap.IsTuple a xs∧s.heap.IsTuple b ys∧R (.ok (.ret (.ref (zT4 s.heap a b).objs.size))) {s with heap:=zT5 s.heap a b}):=
 .of_wp fun prog w A R s h=>by
  obtain ⟨hp,g,d,tk,os⟩:=s
  obtain ⟨ta,tb,h⟩:=h
  have hsub:=sub_zip
  have q1:Heap.IsTuple (Shared.heap ⟨hp,g,d,tk,os⟩) a xs:=ta
  have q2:Heap.IsTuple (Shared.heap ⟨hp.push {cls:= .type "tuple_iterator",data:= .fields #[.ref a,.int 0 0]},g,d,tk,os⟩) b ys:=let ⟨o,ho,r⟩:=tb;⟨o,Heap.get?_push_of_some _ ho,r⟩
  wp_walk using wpAny_pyIter_tuple q1,wpAny_pyIter_tuple q2
  exact ⟨_,rfl,h⟩
section
variable {prog:Program} {w:World} {A:Around} {E:Value→Shared→Prop} {s:Shared}
theorem call_zip_tt {a b:Addr} {xs ys:Array Value} {Q:Value→Shared→Prop} (ta:s.heap.IsTuple a xs) (tb:s.heap.IsTuple b ys)
  (h:∀h',IsZip h' (s.heap.objs.size+4) (s.heap.objs.size+2) (s.heap.objs.size+3) .none→IsPair h' (s.heap.objs.size+2) (.ref s.heap.objs.size) (.ref (s.heap.objs.size+1))→IsPair h' (s.heap.objs.size+3) .none .none→
   h'.IsTupleIter s.heap.objs.size a 0→h'.IsTupleIter (s.heap.objs.size+1) b 0→(∀c o,s.heap.get? c=some o→h'.get? c=some o)→Q (.ref (s.heap.objs.size+4)) {s with heap:=h'}):
  wpAny (model prog w) A (call (.type "zip") [.ref a,.ref b]) Q E s:=by
 refine callType_new F.called_zip (by decide) (F.typeCall_zip_2 _ _) (F.newCall_zip_2 _ _) (fun obj=>F.args_object_init_3 obj _ _) F.entry_zip_new (meets_zip_tt a b xs ys) ⟨ta,tb,?_⟩
 have y1:(zT1 s.heap a).objs.size=s.heap.objs.size+1:=Heap.size_push ..
 have y2:(zT2 s.heap a b).objs.size=s.heap.objs.size+2:=by rw [Heap.size_push,y1]
 have y3:(zT3 s.heap a b).objs.size=s.heap.objs.size+3:=by rw [Heap.size_push,y2]
 have y4:(zT4 s.heap a b).objs.size=s.heap.objs.size+4:=by rw [Heap.size_push,y3]
 have e5:(zT5 s.heap a b).get? (zT4 s.heap a b).objs.size=some _:=Heap.get?_push_size _ rfl
 have e4:(zT5 s.heap a b).get? (zT3 s.heap a b).objs.size=some _:=Heap.get?_push_of_some _ (Heap.get?_push_size _ rfl)
 have e3:(zT5 s.heap a b).get? (zT2 s.heap a b).objs.size=some _:=Heap.get?_push_of_some _ (Heap.get?_push_of_some _ (Heap.get?_push_size _ rfl))
 have e2:(zT5 s.heap a b).get? (zT1 s.heap a).objs.size=some _:=Heap.get?_push_of_some _ (Heap.get?_push_of_some _ (Heap.get?_push_of_some _ (Heap.get?_push_size _ rfl)))
 have e1:(zT5 s.heap a b).get? s.heap.objs.size=some _:=Heap.get?_push_of_some _ (Heap.get?_push_of_some _ (Heap.get?_push_of_some _ (Heap.get?_push_of_some _ (Heap.get?_push_size _ rfl))))
 show _∧_
 rw [y2,y3,y4] at e5
 rw [y1,y2] at e3
 rw [y3] at e4
 rw [y1] at e2
 rw [y4]
 refine ⟨⟨_,e5,rfl⟩,h _ e5 e3 e4 ⟨_,e1,rfl,rfl⟩ ⟨_,e2,rfl,rfl⟩ fun c o e=> ?_⟩
 exact Heap.get?_push_of_some _ (Heap.get?_push_of_some _ (Heap.get?_push_of_some _ (Heap.get?_push_of_some _ (Heap.get?_push_of_some _ e))))
end
end PySem
namespace L2
open PySem PySem.Spec PyProof.Rows
def Itz (K:PySem.W.Frag) (a b:Addr):It:=
 ⟨fun i H=>∃xs ys x y,SqT K H a xs∧SqT K H b ys∧xs[i]? =some x∧ys[i]? =some y,fun i H v H'=>∃T x y,H T=none∧v= .ref T∧H'=upd H T (.tup [x,y])∧(∀xs,SqT K H a xs→xs[i]? =some x)∧∀ys,SqT K H b ys→ys[i]? =some y,
  fun i H=>∃xs ys,SqT K H a xs∧SqT K H b ys∧(i=xs.length∨(i<xs.length∧i=ys.length))⟩
theorem zap_of {z TI TO i1 i2 a b:Addr} (nd:[z,TI,TO,i1,i2].Nodup) (na:a ∉ [z,TI,TO,i1,i2]) (nb:b ∉ [z,TI,TO,i1,i2]):ZAp z TI TO i1 i2 [i1,a] [i2,b]:=by
 simp only [List.nodup_cons,List.mem_cons,List.mem_nil_iff,or_false,not_or,List.nodup_nil,and_true,not_false_eq_true] at nd na nb
 obtain ⟨⟨q1,q2,q3,q4⟩,⟨q5,q6,q7⟩,⟨q8,q9⟩,q10⟩:=nd
 obtain ⟨r1,r2,r3,r4,r5⟩:=na
 obtain ⟨s1,s2,s3,s4,s5⟩:=nb
 constructor<;> first|exact Ne.symm ‹_›|assumption|(simp only [List.mem_cons,List.mem_nil_iff,or_false,not_or];constructor<;> first|assumption|exact Ne.symm ‹_›)
theorem turn_zip {P:Program} {w:World} {K:PySem.W.Frag} {elts:List Expr} {x1} {pos:Pos} (a b z TI TO i1 i2:Addr) (nd:[z,TI,TO,i1,i2].Nodup) (na:a ∉ [z,TI,TO,i1,i2]) (nb:b ∉ [z,TI,TO,i1,i2]):Turn P w K (.Tuple elts x1 pos) (Itz K a b) [z,TI,TO,i1,i2] z
  (fun i h=>IsZip h z TI TO .none∧IsPair h TI (.ref i1) (.ref i2)∧(∃u v,IsPair h TO u v)∧h.IsTupleIter i1 a i∧h.IsTupleIter i2 b i) where
 mem:=by simp
 obj:=fun i h st c hc=>by
  obtain ⟨h1,h2,⟨u,v,h3⟩,⟨o4,g4,_,d4⟩,⟨o5,g5,_,d5⟩⟩:=st
  simp only [List.mem_cons,List.mem_nil_iff,or_false] at hc
  rcases hc with rfl|rfl|rfl|rfl|rfl
  ·exact ⟨_,h1,fun v q=>by cases q⟩
  ·exact ⟨_,h2,fun v q=>by cases q⟩
  ·exact ⟨_,h3,fun v q=>by cases q⟩
  ·exact ⟨_,g4,fun v q=>by rw [d4] at q;cases q⟩
  ·exact ⟨_,g5,fun v q=>by rw [d5] at q;cases q⟩
 keep:=fun i h h' st k=>by
  obtain ⟨h1,h2,⟨u,v,h3⟩,h4,h5⟩:=st
  exact ⟨k z (by simp) _ h1,k TI (by simp) _ h2,⟨u,v,k TO (by simp) _ h3⟩,h4.at fun o q=>k i1 (by simp) o q,h5.at fun o q=>k i2 (by simp) o q⟩
 item:=by
  intro X hP hw hK hc i pins s σ H E I hf st hg
  subst hP hw hK
  obtain ⟨hZ,pI,⟨u,v,pO⟩,t1,t2⟩:=st
  obtain ⟨xs,ys,x,y,ha,hb,hx,hy⟩:=hg
  obtain ⟨its,rv,p1,_⟩:=I.tuple ha
  obtain ⟨jts,rw',p2,_⟩:=I.tuple hb
  obtain ⟨ux,hux,rx⟩:=rv.get hx
  obtain ⟨uy,huy,ry⟩:=rw'.get hy
  have AP:=zap_of nd na nb
  have fresh:H s.heap.objs.size=none:=I.hok.fresh (Nat.le_refl _)
  have ltz:∀c∈[z,TI,TO,i1,i2],c≠s.heap.objs.size:=by
   intro c hc
   obtain ⟨o4,g4,_⟩:=id t1
   obtain ⟨o5,g5,_⟩:=id t2
   simp only [List.mem_cons,List.mem_nil_iff,or_false] at hc
   rcases hc with rfl|rfl|rfl|rfl|rfl
   ·exact Nat.ne_of_lt (Heap.lt_size hZ)
   ·exact Nat.ne_of_lt (Heap.lt_size pI)
   ·exact Nat.ne_of_lt (Heap.lt_size pO)
   ·exact Nat.ne_of_lt (Heap.lt_size g4)
   ·exact Nat.ne_of_lt (Heap.lt_size g5)
  refine pyNext_zip_itemD AP (Draws.tup (A:=X.A.in1) (I.ok.hd hc) i1 a (fun q=>na (by simp [q])) its.toArray) (Draws.tup (A:=X.A.in1) (I.ok.hd hc) i2 b (fun q=>nb (by simp [q])) jts.toArray) hZ pI pO ⟨t1,p1⟩ ⟨t2,p2⟩
   (by have:=(List.getElem?_eq_some_iff.mp hux).1;simpa using this) (by have:=(List.getElem?_eq_some_iff.mp huy).1;simpa using this) fun h' tk xv yv px py z' pO' s1' s2' pT kk=>⟨_,rfl,?_⟩
  have ex:ux=xv:=Option.some.inj (hux.symm.trans (by simpa using px))
  have ey:uy=yv:=Option.some.inj (huy.symm.trans (by simpa using py))
  subst ex ey
  refine wpAny_letOwnedTupleGo_zip (s:={s with heap:=h',toks:=tk}) z' fun h2 z2 sb=> ?_
  have I1:Inv X pins σ (upd H s.heap.objs.size (.tup [x,y])) {s with heap:=s.heap.push {cls:= .type "tuple",data:= .seq #[ux,uy]},toks:=s.toks}:=
   I.laid (o:= .tup [x,y]) (fun b ob q=>Heap.get?_push_of_some _ q) (Nat.le_refl _) ⟨by rw [sizeLine_eq];simp,[ux,uy],.cons rx (.cons ry .nil),IsTupN.new _ _⟩
  have I2:=I1.turnedL (h':=h2) (t':=tk) [z,TI,TO,i1,i2] (fun c o hc' q=> ?_) (fun c hc'=>(hf c hc').up (ltz c hc'))
  ·refine ⟨.ref s.heap.objs.size,_,I2,rfl,⟨_,x,y,fresh,rfl,rfl,fun ys' hy'=>by rw [I.tuple_inj hy' ha];exact hx,fun ys' hy'=>by rw [I.tuple_inj hy' hb];exact hy⟩,
    ⟨z2,(sb.2 TI AP.a1).trans (kk _ _ AP.a1 AP.a5 AP.a6 AP.a7 pI),⟨_,_,(sb.2 TO AP.a2).trans pO'⟩,s1'.1.at fun o q=>(sb.2 i1 AP.a3).trans q,s2'.1.at fun o q=>(sb.2 i2 AP.a4).trans q⟩,fun c hc'=> ?_⟩
   rw [Ah (ltz c hc')];exact (hf c hc').1
  ·have c1:c≠z:=fun q=>hc' (by simp [q])
   have c2:c≠TO:=fun q=>hc' (by simp [q])
   have c3:c≠i1:=fun q=>hc' (by simp [q])
   have c4:c≠i2:=fun q=>hc' (by simp [q])
   refine (sb.2 c c1).trans ?_
   by_cases hcs:c=s.heap.objs.size
   ·subst hcs
    rw [Heap.get?_push_size _ rfl] at q
    cases q
    exact pT
   ·rw [Heap.get?_push_ne _ _ _ hcs] at q
    exact kk c o c1 c2 c3 c4 q
 done:=by
  intro X hP hw hK hc i pins s σ H E I hf st hg
  subst hP hw hK
  obtain ⟨hZ,pI,⟨u,v,pO⟩,t1,t2⟩:=st
  obtain ⟨xs,ys,ha,hb,hend⟩:=hg
  obtain ⟨its,rv,p1,_⟩:=I.tuple ha
  obtain ⟨jts,rw',p2,_⟩:=I.tuple hb
  have AP:=zap_of nd na nb
  have l1:=rv.length
  have l2:=rw'.length
  refine pyNext_zip_endD AP (Draws.tup (A:=X.A.in1) (I.ok.hd hc) i1 a (fun q=>na (by simp [q])) its.toArray) (Draws.tup (A:=X.A.in1) (I.ok.hd hc) i2 b (fun q=>nb (by simp [q])) jts.toArray) hZ pI pO ⟨t1,p1⟩ ⟨t2,p2⟩
   (by simp only [List.size_toArray];omega) fun h' tk kk=>⟨rfl,I.turnedL (t':=tk) [z,TI,TO,i1,i2] (fun c o hc' q=> ?_) hf⟩
  exact kk c o (fun q=>hc' (by simp [q])) (fun q=>hc' (by simp [q])) (fun q=>hc' (by simp [q])) (fun q=>hc' (by simp [q])) q
 self:=fun A i s Q E st h=>wpAny_pyIter_zip st.1 h
def iZip (K:PySem.W.Frag) (ta:TA):TI:=fun σ H R=>ta σ H fun vs H1=>∃a b xs ys,vs=[.ref a,.ref b]∧SqT K H1 a xs∧SqT K H1 b ys∧R (Itz K a b) H1
theorem pi_zip {X:Cx} {elts:List Expr} {x1} {tpos:Pos} {e1 e2:Expr} {ta:TA} {p pos:Pos} (hg:Gl X "zip") (hm:X.mg "zip"=none) (ha:PA X [e1,e2] ta) (hs:starEach [e1,e2] X.env=[(false,eval e1 X.env),(false,eval e2 X.env)]:=by rfl) (hs2:starEach [e2] X.env=[(false,eval e2 X.env)]:=by rfl):
  PI X (.Tuple elts x1 tpos) (.Call (.Name "zip" p) [e1,e2] [] pos) (iZip X.K ta):=by
 intro pins s σ H R I h
 refine Call_ (ld_blt I hg hm (show bootBuiltins "zip"=some (.type "zip") by decide+kernel) (PyProof.Rows.callWith_type1 (thn (ha pos pins s σ H _ I h) fun us s1 ⟨vs,H1,I1,r1,q1⟩=> ?_) (by rw [hs,hs2]) (by rw [hs2];rfl)))
 obtain ⟨a,b,xs,ys,e,hqa,hqb,q⟩:=q1
 subst e
 cases r1 with
 |cons r rr=>
  cases rr with
  |cons r' rr=>
   cases rr
   cases r
   cases r'
   obtain ⟨its,rv,p1,_⟩:=I1.tuple hqa
   obtain ⟨jts,rw',p2,_⟩:=I1.tuple hqb
   refine call_zip_tt p1 p2 fun h' hZ pI pO t1 t2 kk=>wpAny_pyIter_zip hZ ?_
   obtain ⟨oa,ga,_⟩:=id p1
   obtain ⟨ob,gb,_⟩:=id p2
   have la:=Heap.lt_size ga
   have lb:=Heap.lt_size gb
   have big:∀c∈[s1.heap.objs.size+4,s1.heap.objs.size+2,s1.heap.objs.size+3,s1.heap.objs.size,s1.heap.objs.size+1],s1.heap.objs.size≤c:=by
    intro c hc
    simp only [List.mem_cons,List.mem_nil_iff,or_false] at hc
    rcases hc with rfl|rfl|rfl|rfl|rfl<;> first|exact Nat.le_add_right _ _|exact Nat.le_refl _
   refine ⟨s1.heap.objs.size+4,[s1.heap.objs.size+4,s1.heap.objs.size+2,s1.heap.objs.size+3,s1.heap.objs.size,s1.heap.objs.size+1],_,_,H1,rfl,I1.kept (t':=s1.toks) kk,
    turn_zip a b _ _ _ _ _ ?_ (fun q=>Nat.lt_irrefl _ (Nat.lt_of_lt_of_le la (big _ q))) (fun q=>Nat.lt_irrefl _ (Nat.lt_of_lt_of_le lb (big _ q))),⟨hZ,pI,⟨_,_,pO⟩,t1,t2⟩,fun c hc=>I1.fpOk (big c hc) (I1.hok.fresh (big c hc)),q⟩
   generalize s1.heap.objs.size=n
   show List.Nodup ([n+4,n+2,n+3,n,n+1]:List Nat)
   simp
section
variable {g:TG} {ti:TT} {te:TE} {Q:VK} {D:Addr} {σ:St} {H:Hp}
theorem comp_zip {K:PySem.W.Frag} {a b:Addr} {xs ys:List V} (Pv:Nat→St→List V→Hp→Prop) (h0:Pv 0 σ [] (upd H D (.lst []))) (hl:∀i σ zs H,i≤xs.length→i≤ys.length→Pv i σ zs H→SqT K H a xs∧SqT K H b ys∧H D=some (.lst zs))
  (hs:∀i x y σ zs H T,xs[i]? =some x→ys[i]? =some y→Pv i σ zs H→H T=none→cturn g ti te D (.ref T) σ zs (upd H T (.tup [x,y])) (Pv (i+1))) (hd:∀i σ zs H,i=min xs.length ys.length→Pv i σ zs H→Q (.ref D) H):
  cgo (Itz K a b) g ti te D σ H Q:=by
 refine ⟨fun i m σ zs H=>m=xs.length - i∧i≤xs.length∧i≤ys.length∧Pv i σ zs H,⟨xs.length,by simp,Nat.zero_le _,Nat.zero_le _,h0⟩,?_⟩
 rintro i m σ zs H ⟨rfl,hi,hj,p⟩
 obtain ⟨q1,q2,hD⟩:=hl i σ zs H hi hj p
 refine ⟨hD,?_⟩
 by_cases hlt:i<xs.length∧i<ys.length
 ·refine .inr ⟨⟨xs,ys,xs[i],ys[i],q1,q2,by simp [hlt.1],by simp [hlt.2]⟩,Pv (i+1),fun σ' ys' H' p'=>⟨xs.length - (i+1),by omega,rfl,hlt.1,hlt.2,p'⟩,fun x H' y=> ?_⟩
  obtain ⟨T,x,y,hT,rfl,rfl,y1,y2⟩:=y
  exact hs i x y σ zs H T (y1 xs q1) (y2 ys q2) p hT
 ·exact .inl ⟨⟨xs,ys,q1,q2,by omega⟩,hd i σ zs H (by omega) p⟩
end
end L2
namespace HT
open PySem PyProof.Rows
section
variable {prog:Program} {w:World} {A:Around} {E:Value→Shared→Prop} {s:Shared}
theorem getItem_tuple_self {t sl:Addr} {items:Array Value} {vl vu:Value} {lo hi:Option Int} {Q:Value→Shared→Prop} (ht:IsTup s.heap t items) (hs:s.heap.IsSliceOf sl vl vu .none) (pl:IsPart vl lo) (pu:IsPart vu hi)
  (hw:sIx items.size 0 lo=0∧sIx items.size items.size hi=items.size) (h:Q (.ref t) s):wpAny (model prog w) A (getItem (.ref t) (.ref sl)) Q E s:=by
 obtain ⟨os,hos,hcs,hds⟩:=id hs
 have tsl:s.TypeIs (.ref sl) "slice":=⟨os,hos,hcs⟩
 unfold getItem
 try with_reducible refine wpAny_holding ?_
 first|refine wpAny_bind (wpAny_pure ?_)|skip
 refine wpAny_bind (wpAny_sequenceKey ht.typeIs (by decide) (wpAny_bind (wpAny_callSpecial?_slot (name:=Str.ofString "__getitem__") ht.typeIs PyProof.Rows.slot_tuple_getitem (wpAny_call_entry PyProof.Rows.slot_tuple_getitem ht.typeIs entry_tuple_getitem ?_ (args_tuple_getitem _ _)))))
 show wpAny _ _ (Builtin.Tuple.tupleItemsOf (.ref t) >>=fun _=>_) _ _ s
 refine wpAny_bind (tupleItemsOf_ ht (wpAny_bind (wpAny_typeOf tsl ?_)))
 rw [if_pos (by decide)]
 refine wpAny_bind (sliceApplied_gen hs pl pu ?_)
 have yes:(((sIx items.size 0 lo:Nat):Int)==0 && (1:Int)==1 && (sIx items.size items.size hi - sIx items.size 0 lo)==items.size)=true:=by rw [hw.1,hw.2];simp
 show wpAny _ _ (ite ((((sIx items.size 0 lo:Nat):Int)==0 && (1:Int)==1 && (sIx items.size items.size hi - sIx items.size 0 lo)==items.size)=true) _ _) _ _ s
 rw [if_pos yes]
 refine wpAny_bind (m:=Builtin.Tuple.tupleIsExact (.ref t)) ?_
 unfold Builtin.Tuple.tupleIsExact
 refine wpAny_bind (wpAny_typeOf ht.typeIs (wpAny_pure ?_))
 rw [if_pos (by decide)]
 exact wpAny_bind (wpAny_rule (wpAny_pure ⟨_,rfl,wpAny_pure h⟩))
end
end HT
namespace L2
open PySem PySem.Spec PyProof.Rows
section
variable {X:Cx}
inductive RSlTAP (K:PySem.W.Frag) (x:V) (lo:Option Int) (hi:Option Int) (H:Hp) (Q:VK):Prop
 |mk (a xs:_):(x= .ref a)→(SqT K H a xs)→(((HT.sIx xs.length 0 lo=0∧HT.sIx xs.length xs.length hi=xs.length)→Q (.ref a) H))→((¬(HT.sIx xs.length 0 lo=0∧HT.sIx xs.length xs.length hi=xs.length)→∀p,H p=none→Q (.ref p) (upd H p (.tup (cutV xs lo hi)))))→RSlTAP K x lo hi H Q
def rSlTA (K:PySem.W.Frag):V→Option Int→Option Int→Hp→VK→Prop:=fun x lo hi H Q=>RSlTAP K x lo hi H Q
theorem sl_tupA:SlR X (rSlTA X.K):=by
 intro pins s σ H x v vl vu lo hi sl Q I rx hs pl pu h
 obtain ⟨a,xs,rfl,hx,q1,q2⟩:=h
 by_cases hw:HT.sIx xs.length 0 lo=0∧HT.sIx xs.length xs.length hi=xs.length
 ·cases rx
  obtain ⟨its,r,ht,hz⟩:=I.tuple hx
  have hlen:its.toArray.size=xs.length:=by rw [List.size_toArray];exact r.length.symm
  exact ⟨"tuple",_,PyProof.Rows.slot_tuple_getitem.lookup,ht.typeIs,HT.getItem_tuple_self ht hs pl pu (by rw [hlen];exact hw) ⟨.ref a,H,I,rfl,q1 hw⟩⟩
 ·exact sl_tup pins s σ H _ v vl vu lo hi sl Q I rx hs pl pu ⟨a,xs,rfl,hx,hw,q2 hw⟩
end
theorem Ad {H:Hp} {p:Addr} {o:HO} (h:H p=none):Same H (upd H p o):=fun b u e=>by rw [Ah (Ai e h)];exact e
theorem A9 (H:Hp):Same H H:=fun _ _ e=>e
theorem small {n:Nat} (h:n≤10000):n≤sizeLine:=by rw [sizeLine_eq];exact Nat.le_trans (by assumption) (by decide)
theorem none_of {H H':Hp} {a:Addr} (s:Same H H') (h:H' a=none):H a=none:=by
 cases e:H a with
 |none=>rfl
 |some o=>rw [s _ _ e] at h;cases h
theorem pg_tupK {X:Cx} {es:List Expr} {k:Nat} {t:TGs} {pos:Pos} (K:PySem.W.Frag) (n:Nat) (hK:X.K=K) (hc:X.calm=true) (h:PGs X es t) (hn:(assignEach es X.env).length=n:=by rfl) (hst:(assignEach es X.env).findIdx? (·.1)=none:=by rfl):PG X (.Tuple es k pos) (gTup K n t):=by
 subst hK
 exact pg_tup hc h hn hst
end L2
namespace PySem
open Builtin
end PySem
namespace PySem
open Builtin
end PySem
namespace L2
open PySem PySem.Spec PyProof.Rows
section
variable {X:Cx}
theorem call_range1:CallR X (.type "range") (fun xs H Q=>∃j:Int,xs=[.int j]∧∀l,H l=none→Q (.ref l) (upd H l (.rng 0 j))):=by
 intro pins s σ H xs us Q I r h
 obtain ⟨j,rfl,q⟩:=h
 obtain ⟨u,rfl,⟨t,rfl⟩⟩:=vals1 r
 exact call_range_1 ⟨.ref s.heap.objs.size,_,I.laid (o:= .rng 0 j) (fun _ _ q=>Heap.get?_push_of_some _ q) (Nat.le_refl _) ⟨_,_,_,Heap.get?_push_size _ rfl⟩,rfl,q _ I.fresh⟩
end
end L2
namespace PySem
open Builtin
end PySem
namespace L2
open PySem PySem.Spec PyProof.Rows
end L2
namespace PySem
open Builtin
end PySem
namespace L2
open PySem PySem.Spec PyProof.Rows
end L2
namespace Srt
open PySem PySem.W PyProof.Rows
structure Ord (lt:Nat→Nat→Bool):Prop where
 asym:∀a b,lt a b=true→lt b a=false
 ntr:∀a b c,lt a b=false→lt b c=false→lt a c=false
def ev {α:Type} (lt:Nat→Nat→Bool):KasT α→α
 | .ret a=>a
 | .ask i j k=>ev lt (k (lt i j))
theorem ev_bind {α β:Type} (lt:Nat→Nat→Bool) (f:α→KasT β):∀t:KasT α,ev lt (t.bind f)=ev lt (f (ev lt t))
 | .ret _=>rfl
 | .ask i j k=>ev_bind lt f (k (lt i j))
def AsksP {α:Type} (n:Nat) (P:α→Prop):KasT α→Prop
 | .ret a=>P a
 | .ask i j k=>i<n∧j<n∧∀b,AsksP n P (k b)
theorem AsksP.bind {α β:Type} {n:Nat} {P:α→Prop} {R:β→Prop} {f:α→KasT β} (hf:∀a,P a→AsksP n R (f a)):∀{t:KasT α},AsksP n P t→AsksP n R (t.bind f)
 | .ret a,h=>hf a h
 | .ask i j k,h=>⟨h.1,h.2.1,fun b=>AsksP.bind hf (h.2.2 b)⟩
theorem AsksP.ev {α:Type} {n:Nat} {P:α→Prop} (lt:Nat→Nat→Bool):∀{t:KasT α},AsksP n P t→P (Srt.ev lt t)
 | .ret _,h=>h
 | .ask i j k,h=>AsksP.ev (n:=n) (P:=P) lt (t:=k (lt i j)) (h.2.2 (lt i j))
theorem AsksP.wp {α:Type} {n:Nat} {P:α→Prop} {cmp:Nat→Nat→(Bool→Shared→Prop)→Shared→Prop} {lt:Nat→Nat→Bool} {s:Shared} (hc:∀i j (C:Bool→Shared→Prop),i<n→j<n→C (lt i j) s→cmp i j C s) {Q:α→Shared→Prop}:∀{t:KasT α},AsksP n P t→Q (Srt.ev lt t) s→t.kasWp cmp Q s
 | .ret _,_,q=>q
 | .ask i j k,h,q=>hc i j _ h.1 h.2.1 (AsksP.wp hc (h.2.2 (lt i j)) q)
abbrev g (p:Array Nat) (k:Nat):Nat:=p.getD k 0
theorem g_eq (p:Array Nat) (k:Nat):g p k=(p[k]?).getD 0:=by
 show p.getD k 0=_
 simp [Array.getD_eq_getD_getElem?]
theorem g_rev {p:Array Nat} {i j:Nat} (hj:j≤p.size) (k:Nat):g (kas_rev p i j) k=if i≤k∧k<j then g p (i+j - 1 - k) else g p k:=by
 rw [g_eq]
 unfold kas_rev
 rw [getElem?_mirror_all hj]
 split<;> rw [g_eq]
theorem g_bub {p:Array Nat} {src d:Nat} (hs:src<p.size) (hd:d≤src) (k:Nat):g (bubble p src d) k=if k=src - d then g p src else if src - d<k∧k≤src then g p (k - 1) else g p k:=by
 rw [g_eq,getElem?_bubble hs d hd,g_eq,g_eq,g_eq]
 split
 ·rfl
 ·split<;> rfl
theorem rev_size (p:Array Nat) (i j:Nat):(kas_rev p i j).size=p.size:=mirror_size _ _ _ _
theorem rev_perm (p:Array Nat) (i j:Nat):(kas_rev p i j).Perm p:=mirror_perm _ _ _ _
def Pm (n:Nat) (p:Array Nat):Prop:=p.Perm (List.range n).toArray
theorem Pm.size {n:Nat} {p:Array Nat} (h:Pm n p):p.size=n:=by
 have:=Array.Perm.size_eq h
 simpa using this
theorem Pm.lt {n:Nat} {p:Array Nat} (h:Pm n p) (h0:0<n) (k:Nat):g p k<n:=by
 rw [g_eq]
 cases e:p[k]? with
 |none=>exact h0
 |some x=>
  have hx:x∈p:=Array.mem_of_getElem? e
  have:=(Array.Perm.mem_iff h).mp hx
  simpa using this
section
variable {n:Nat} (h0:0<n)
include h0
theorem asks_asc {p:Array Nat} (h:Pm n p):∀f m,AsksP n (fun _=>True) (kas_asc p f m)
 |0,_=>trivial
 |f+1,m=>⟨h.lt h0 _,h.lt h0 _,fun b=>by cases b<;> first|exact trivial|exact asks_asc h f (m+1)⟩
theorem asks_desc:∀f {p:Array Nat} (m q:Nat),Pm n p→AsksP n (fun r=>Pm n r.1) (kas_desc f p m q)
 |0,_,_,_,h=>h
 |f+1,p,m,q,h=>by
  refine ⟨h.lt h0 _,h.lt h0 _,fun b=> ?_⟩
  cases b with
  |true=>
   show AsksP n _ (if q > 0 then _ else _)
   by_cases hq:q > 0
   ·rw [if_pos hq];exact asks_desc f _ _ ((rev_perm _ _ _).trans h)
   ·rw [if_neg hq];exact asks_desc f _ _ h
  |false=>
   refine ⟨h.lt h0 _,h.lt h0 _,fun d=> ?_⟩
   cases d with
   |true=>exact h
   |false=>exact asks_desc f _ _ h
theorem asks_tail3 {p:Array Nat} (m nrem:Nat) (h:Pm n p):AsksP n (fun r=>Pm n r.2) (kas_tail3 m nrem p):=by
 have hr:Pm n (kas_rev p 0 m):=(rev_perm _ _ _).trans h
 refine AsksP.bind (n:=n) (P:=fun _=>True) (R:=fun r:Nat×Array Nat=>Pm n r.2) (fun k _=> ?_) (asks_asc h0 hr _ _)
 exact hr
theorem asks_descPart {p:Array Nat} (m nrem:Nat) (h:Pm n p):AsksP n (fun r=>Pm n r.2) (kas_descPart m nrem p):=
 (asks_desc h0 _ _ _ h).bind fun r hr=>by
  by_cases hq:r.2.2 > 0
  ·rw [if_pos hq];exact asks_tail3 h0 _ _ ((rev_perm _ _ _).trans hr)
  ·rw [if_neg hq];exact asks_tail3 h0 _ _ hr
theorem asks_count {p:Array Nat} (nrem:Nat) (h:Pm n p):AsksP n (fun r=>Pm n r.2) (kas_count nrem p):=
 (asks_asc h0 h _ _).bind fun m _=>by
  by_cases h1:(m==nrem)=true
  ·rw [if_pos h1];exact h
  ·rw [if_neg h1]
   by_cases h2:m > 1
   ·rw [if_pos h2]
    refine ⟨h.lt h0 _,h.lt h0 _,fun c=> ?_⟩
    cases c with
    |true=>exact h
    |false=>exact asks_descPart h0 _ _ ((rev_perm _ _ _).trans h)
   ·rw [if_neg h2];exact asks_descPart h0 _ _ h
theorem asks_place {p:Array Nat} (k:Nat) (h:Pm n p):∀f l r,AsksP n (fun _=>True) (kas_place p k f l r)
 |0,_,_=>trivial
 |f+1,l,r=>by
  show AsksP n _ (if l ≥ r then _ else _)
  by_cases hl:l ≥ r
  ·rw [if_pos hl];trivial
  ·rw [if_neg hl]
   refine ⟨h.lt h0 _,h.lt h0 _,fun c=> ?_⟩
   cases c with
   |true=>exact asks_place k h f _ _
   |false=>exact asks_place k h f _ _
theorem asks_bin:∀f {p:Array Nat} (k:Nat),Pm n p→AsksP n (Pm n) (kas_bin f p k)
 |0,_,_,h=>h
 |f+1,p,k,h=>(asks_place h0 k h _ _ _).bind fun l _=>asks_bin f (k+1) ((bubble_perm _ _ _).trans h)
theorem asks_sort:AsksP n (Pm n) (kas_sort n):=
 (asks_count h0 n (Array.Perm.refl _)).bind fun r hr=>by
  by_cases h1:r.1<n
  ·rw [if_pos h1];exact asks_bin h0 _ _ hr
  ·rw [if_neg h1];exact hr
end
section
variable {lt:Nat→Nat→Bool} (O:Ord lt)
def Sto (lt:Nat→Nat→Bool) (p:Array Nat) (k:Nat):Prop:=∀i j,i≤j→j<k→lt (g p j) (g p i)=false
def Dto (lt:Nat→Nat→Bool) (p:Array Nat) (k:Nat):Prop:=∀i j,i≤j→j<k→lt (g p i) (g p j)=false
def Eqv (lt:Nat→Nat→Bool) (a b:Nat):Prop:=lt a b=false∧lt b a=false
include O
theorem irr (a:Nat):lt a a=false:=by
 cases h:lt a a with
 |false=>rfl
 |true=>have:=O.asym a a h;rw [h] at this;cases this
theorem ev_asc {p:Array Nat}:∀f m,1≤m→Sto lt p m→m≤ev lt (kas_asc p f m)∧ev lt (kas_asc p f m)≤m+f∧Sto lt p (ev lt (kas_asc p f m))∧(ev lt (kas_asc p f m)<m+f→lt (g p (ev lt (kas_asc p f m))) (g p (ev lt (kas_asc p f m) - 1))=true)
 |0,m,_,hs=>⟨Nat.le_refl _,Nat.le_refl _,hs,fun h=>absurd h (Nat.lt_irrefl _)⟩
 |f+1,m,h1,hs=>by
  show m≤ev lt (if lt (g p m) (g p (m - 1))=true then .ret m else kas_asc p f (m+1))∧ev lt (if lt (g p m) (g p (m - 1))=true then .ret m else kas_asc p f (m+1))≤m+(f+1)∧Sto lt p (ev lt (if lt (g p m) (g p (m - 1))=true then .ret m else kas_asc p f (m+1)))∧(ev lt (if lt (g p m) (g p (m - 1))=true then .ret m else kas_asc p f (m+1))<m+(f+1)→lt (g p (ev lt (if lt (g p m) (g p (m - 1))=true then .ret m else kas_asc p f (m+1)))) (g p (ev lt (if lt (g p m) (g p (m - 1))=true then .ret m else kas_asc p f (m+1)) - 1))=true)
  by_cases c:lt (g p m) (g p (m - 1))=true
  ·rw [if_pos c]
   exact ⟨Nat.le_refl _,Nat.le_add_right _ _,hs,fun _=>c⟩
  ·rw [if_neg c]
   have c:lt (g p m) (g p (m - 1))=false:=by simpa using c
   have hs':Sto lt p (m+1):=fun i j hij hj=>by
    by_cases e:j=m
    ·subst e
     by_cases e2:i=j
     ·subst e2;exact irr O _
     ·exact O.ntr _ _ _ c (hs i (j - 1) (by omega) (by exact Nat.sub_lt (by assumption) (by decide)))
    ·exact hs i j hij (by omega)
   obtain ⟨a,b,d,e⟩:=ev_asc f (m+1) (by exact Nat.lt_succ_of_lt (by assumption)) hs'
   exact ⟨by exact Nat.le_of_lt (by assumption),by omega,d,fun h=>e (by omega)⟩
theorem Dto.eqv {p p1:Array Nat} {k:Nat} (h:Dto lt p k) (he:∀i,i<k→Eqv lt (g p1 i) (g p i)):Dto lt p1 k:=fun i j hij hj=>
 O.ntr _ _ _ (he i (by exact Nat.lt_of_le_of_lt (by assumption) (by assumption))).1 (O.ntr _ _ _ (h i j hij hj) (he j hj).2)
def Blk (lt:Nat→Nat→Bool) (p:Array Nat) (m q:Nat):Prop:=q+1≤m∧∀i j,m - (q+1)≤i→i<m→m - (q+1)≤j→j<m→Eqv lt (g p i) (g p j)
theorem rev_blk {p:Array Nat} {m q:Nat} (hm:m≤p.size) (hb:Blk lt p m q):∀i,Eqv lt (g (kas_rev p (m - (q+1)) m) i) (g p i):=fun i=>by
 have h1:=hb.1
 rw [g_rev hm]
 split
 ·exact hb.2 _ _ (by omega) (by omega) (by omega) (by omega)
 ·exact ⟨irr O _,irr O _⟩
theorem ev_desc:∀f {p:Array Nat} (m q:Nat),1≤m→m+f≤p.size→Dto lt p m→Blk lt p m q→
  let r:=ev lt (kas_desc f p m q);m≤r.2.1∧r.2.1≤m+f∧r.1.size=p.size∧Dto lt r.1 r.2.1∧Blk lt r.1 r.2.1 r.2.2
 |0,p,m,q,_,_,hd,hb=>⟨Nat.le_refl _,Nat.le_refl _,rfl,hd,hb⟩
 |f+1,p,m,q,h1,hz,hd,hb=>by
  intro r
  have b1:=hb.1
  have single:∀(p':Array Nat),Blk lt p' (m+1) 0:=fun p'=>⟨by exact Nat.lt_succ_of_lt (by assumption),fun i j a b c d=>by
   have:i=j:=by omega
   subst this;exact ⟨irr O _,irr O _⟩⟩
  have low:lt (g p (m - 1)) (g p m)=false→Dto lt p (m+1):=fun c i j hij hj=>by
   by_cases e:j=m
   ·subst e
    by_cases e2:i=j
    ·subst e2;exact irr O _
    ·exact O.ntr _ _ _ (hd i (j - 1) (by omega) (by exact Nat.sub_lt (by assumption) (by decide))) c
   ·exact hd i j hij (by omega)
  by_cases c:lt (g p m) (g p (m - 1))=true
  ·have cl:=low (O.asym _ _ c)
   by_cases hq:q > 0
   ·have e:r=ev lt (kas_desc f (kas_rev p (m - (q+1)) m) (m+1) 0):=by
     show ev lt (if lt (g p m) (g p (m - 1))=true then (if q > 0 then _ else _) else _)=_
     rw [if_pos c,if_pos hq]
    obtain ⟨a,b,s,d,k⟩:=ev_desc f (p:=kas_rev p (m - (q+1)) m) (m+1) 0 (by exact Nat.lt_succ_of_lt (by assumption)) (by rw [rev_size];omega) (Dto.eqv O cl fun i _=>rev_blk O (by omega) hb i) (single _)
    rw [e]
    exact ⟨by exact Nat.le_of_lt (by assumption),by omega,by rw [s,rev_size],d,k⟩
   ·have e:r=ev lt (kas_desc f p (m+1) 0):=by
     show ev lt (if lt (g p m) (g p (m - 1))=true then (if q > 0 then _ else _) else _)=_
     rw [if_pos c,if_neg hq]
    obtain ⟨a,b,s,d,k⟩:=ev_desc f (p:=p) (m+1) 0 (by exact Nat.lt_succ_of_lt (by assumption)) (by omega) cl (single _)
    rw [e]
    exact ⟨by exact Nat.le_of_lt (by assumption),by omega,s,d,k⟩
  ·have c':lt (g p m) (g p (m - 1))=false:=by simpa using c
   by_cases d1:lt (g p (m - 1)) (g p m)=true
   ·have e:r=(p,m,q):=by
     show ev lt (if lt (g p m) (g p (m - 1))=true then _ else KasT.ask _ _ fun d=>if d=true then _ else _)=_
     rw [if_neg c]
     show ev lt (if lt (g p (m - 1)) (g p m)=true then KasT.ret (p,m,q) else _)=_
     rw [if_pos d1]
     rfl
    rw [e]
    exact ⟨Nat.le_refl _,Nat.le_add_right _ _,rfl,hd,hb⟩
   ·have d':lt (g p (m - 1)) (g p m)=false:=by simpa using d1
    have e:r=ev lt (kas_desc f p (m+1) (q+1)):=by
     show ev lt (if lt (g p m) (g p (m - 1))=true then _ else KasT.ask _ _ fun d=>if d=true then _ else _)=_
     rw [if_neg c]
     show ev lt (if lt (g p (m - 1)) (g p m)=true then KasT.ret (p,m,q) else _)=_
     rw [if_neg d1]
    have blk:Blk lt p (m+1) (q+1):=⟨by exact Nat.succ_le_succ (by assumption),fun i j i1 i2 j1 j2=>by
     have to:∀k,m - (q+1)≤k→k<m+1→Eqv lt (g p k) (g p (m - 1)):=fun k k1 k2=>by
      by_cases z:k=m
      ·subst z;exact ⟨c',d'⟩
      ·exact hb.2 k (m - 1) k1 (by omega) (by omega) (by exact Nat.sub_lt (by assumption) (by decide))
     have a:=to i (by omega) i2
     have b:=to j (by omega) j2
     exact ⟨O.ntr _ _ _ a.1 b.2,O.ntr _ _ _ b.1 a.2⟩⟩
    obtain ⟨a,b,s,d,k⟩:=ev_desc f (p:=p) (m+1) (q+1) (by exact Nat.lt_succ_of_lt (by assumption)) (by omega) (low d') blk
    rw [e]
    exact ⟨by exact Nat.le_of_lt (by assumption),by omega,s,d,k⟩
theorem Dto.rev {p:Array Nat} {m:Nat} (hm:m≤p.size) (h:Dto lt p m):Sto lt (kas_rev p 0 m) m:=fun i j hij hj=>by
 rw [g_rev hm,g_rev hm,if_pos ⟨by exact Nat.zero_le _,by assumption⟩,if_pos ⟨by exact Nat.zero_le _,by exact Nat.lt_of_le_of_lt (by assumption) (by assumption)⟩]
 exact h _ _ (by omega) (by omega)
theorem ev_tail3 {p:Array Nat} {m nrem:Nat} (h1:1≤m) (hn:m≤nrem) (hz:nrem≤p.size) (h:Dto lt p m):let r:=ev lt (kas_tail3 m nrem p);1≤r.1∧r.1≤nrem∧Sto lt r.2 r.1:=by
 intro r
 have e:r=(ev lt (kas_asc (kas_rev p 0 m) (nrem - m) m),kas_rev p 0 m):=ev_bind lt _ _
 obtain ⟨a,b,c,_⟩:=ev_asc O (p:=kas_rev p 0 m) (nrem - m) m h1 (Dto.rev O (by exact Nat.le_trans (by assumption) (by assumption)) h)
 rw [e]
 exact ⟨by show 1≤_;exact Nat.le_trans (by assumption) (by assumption),by show _≤nrem;omega,c⟩
theorem ev_descPart {p:Array Nat} {m nrem:Nat} (hn:m+1≤nrem) (hz:nrem≤p.size) (h:Dto lt p (m+1)):let r:=ev lt (kas_descPart m nrem p);1≤r.1∧r.1≤nrem∧Sto lt r.2 r.1:=by
 intro r
 have single:Blk lt p (m+1) 0:=⟨by omega,fun i j a b c d=>by
  have:i=j:=by omega
  subst this;exact ⟨irr O _,irr O _⟩⟩
 obtain ⟨a,b,s,d,k⟩:=ev_desc O (nrem - (m+1)) (p:=p) (m+1) 0 (by omega) (by omega) h single
 have e:r=ev lt (if (ev lt (kas_desc (nrem - (m+1)) p (m+1) 0)).2.2 > 0 then kas_tail3 (ev lt (kas_desc (nrem - (m+1)) p (m+1) 0)).2.1 nrem (kas_rev (ev lt (kas_desc (nrem - (m+1)) p (m+1) 0)).1 ((ev lt (kas_desc (nrem - (m+1)) p (m+1) 0)).2.1 - ((ev lt (kas_desc (nrem - (m+1)) p (m+1) 0)).2.2+1)) (ev lt (kas_desc (nrem - (m+1)) p (m+1) 0)).2.1) else kas_tail3 (ev lt (kas_desc (nrem - (m+1)) p (m+1) 0)).2.1 nrem (ev lt (kas_desc (nrem - (m+1)) p (m+1) 0)).1):=ev_bind lt _ _
 rw [e]
 generalize ev lt (kas_desc (nrem - (m+1)) p (m+1) 0)=x at a b s d k
 by_cases hq:x.2.2 > 0
 ·rw [if_pos hq]
  exact ev_tail3 O (by omega) (by omega) (by rw [rev_size];omega) (Dto.eqv O d fun i _=>rev_blk O (by omega) k i)
 ·rw [if_neg hq]
  exact ev_tail3 O (by omega) (by omega) (by omega) d
theorem ev_count {p:Array Nat} {nrem:Nat} (h1:1≤nrem) (hz:nrem≤p.size):let r:=ev lt (kas_count nrem p);1≤r.1∧r.1≤nrem∧Sto lt r.2 r.1:=by
 intro r
 have s1:Sto lt p 1:=fun i j hij hj=>by
  have a:i=0:=by omega
  have b:j=0:=by omega
  subst a b;exact irr O _
 obtain ⟨a,b,c,e⟩:=ev_asc O (p:=p) (nrem - 1) 1 (Nat.le_refl _) s1
 have er:r=ev lt ((fun n=>if (n==nrem)=true then KasT.ret (n,p) else if n > 1 then KasT.ask (p.getD 0 0) (p.getD (n - 1) 0) fun c=>if c=true then KasT.ret (n,p) else kas_descPart n nrem (kas_rev p 0 n) else kas_descPart n nrem p) (ev lt (kas_asc p (nrem - 1) 1))):=ev_bind lt _ _
 rw [er]
 generalize ev lt (kas_asc p (nrem - 1) 1)=m at a b c e
 dsimp only
 by_cases h2:(m==nrem)=true
 ·rw [if_pos h2]
  exact ⟨a,by show m≤nrem;omega,c⟩
 ·rw [if_neg h2]
  have hm:m<nrem:=by
   have:m≠nrem:=by simpa using h2
   omega
  have last:=e (by omega)
  by_cases h3:m > 1
  ·rw [if_pos h3]
   show let r:=ev lt (if lt (g p 0) (g p (m - 1))=true then KasT.ret (m,p) else kas_descPart m nrem (kas_rev p 0 m));1≤r.1∧r.1≤nrem∧Sto lt r.2 r.1
   by_cases h4:lt (g p 0) (g p (m - 1))=true
   ·rw [if_pos h4]
    exact ⟨a,by show m≤nrem;exact Nat.le_of_lt (by assumption),c⟩
   ·rw [if_neg h4]
    have h4:lt (g p 0) (g p (m - 1))=false:=by simpa using h4
    have all:∀i j,i<m→j<m→lt (g p i) (g p j)=false:=fun i j hi hj=>O.ntr _ _ _ (O.ntr _ _ _ (c 0 i (by exact Nat.zero_le _) hi) h4) (c j (m - 1) (by omega) (by exact Nat.sub_lt (by assumption) (by decide)))
    have blk:Blk lt p m (m - 1):=⟨by exact Nat.sub_lt (by assumption) (by decide),fun i j _ i2 _ j2=>⟨all i j i2 j2,all j i j2 i2⟩⟩
    have d1:Dto lt p (m+1):=fun i j hij hj=>by
     by_cases z:j=m
     ·subst z
      by_cases z2:i=j
      ·subst z2;exact irr O _
      ·exact O.ntr _ _ _ (all i (j - 1) (by omega) (by exact Nat.sub_lt (by assumption) (by decide))) (O.asym _ _ last)
     ·exact all i j (by omega) (by omega)
    have rb:=rev_blk O (by omega) blk
    rw [show m - (m - 1+1)=0 by omega] at rb
    exact ev_descPart O (by assumption) (by rw [rev_size];assumption) (Dto.eqv O d1 fun i _=>rb i)
  ·rw [if_neg h3]
   have:m=1:=by omega
   subst this
   refine ev_descPart O (by assumption) hz fun i j hij hj=> ?_
   by_cases z:i=j
   ·subst z;exact irr O _
   ·have a0:i=0:=by omega
    have b1:j=1:=by omega
    subst a0 b1
    exact O.asym _ _ last
theorem ev_place {p:Array Nat} {k:Nat}:∀f l r,r - l≤f→l≤r→r≤k→(∀i,i<l→lt (g p k) (g p i)=false)→(∀i,r≤i→i<k→lt (g p k) (g p i)=true)→Sto lt p k→
  let x:=ev lt (kas_place p k f l r);x≤k∧(∀i,i<x→lt (g p k) (g p i)=false)∧∀i,x≤i→i<k→lt (g p k) (g p i)=true
 |0,l,r,hf,hlr,hrk,h1,h2,_=>by
  have:l=r:=by omega
  subst this
  exact ⟨hrk,h1,h2⟩
 |f+1,l,r,hf,hlr,hrk,h1,h2,hs=>by
  intro x
  by_cases hl:l ≥ r
  ·have e:x=l:=by
    show ev lt (if l ≥ r then KasT.ret l else _)=l
    rw [if_pos hl];rfl
   have:l=r:=by omega
   subst this
   rw [e]
   exact ⟨hrk,h1,h2⟩
  ·by_cases c:lt (g p k) (g p ((l+r) / 2))=true
   ·have e:x=ev lt (kas_place p k f l ((l+r) / 2)):=by
     show ev lt (if l ≥ r then KasT.ret l else KasT.ask _ _ fun c=>if c=true then _ else _)=_
     rw [if_neg hl]
     show ev lt (if lt (g p k) (g p ((l+r) / 2))=true then _ else _)=_
     rw [if_pos c]
    rw [e]
    refine ev_place f l ((l+r) / 2) (by omega) (by omega) (by omega) h1 (fun i i1 i2=> ?_) hs
    cases z:lt (g p k) (g p i) with
    |true=>rfl
    |false=>
     have:=O.ntr _ _ _ z (hs ((l+r) / 2) i i1 i2)
     rw [c] at this;cases this
   ·have c':lt (g p k) (g p ((l+r) / 2))=false:=by simpa using c
    have e:x=ev lt (kas_place p k f ((l+r) / 2+1) r):=by
     show ev lt (if l ≥ r then KasT.ret l else KasT.ask _ _ fun c=>if c=true then _ else _)=_
     rw [if_neg hl]
     show ev lt (if lt (g p k) (g p ((l+r) / 2))=true then _ else _)=_
     rw [if_neg c]
    rw [e]
    refine ev_place f ((l+r) / 2+1) r (by omega) (by omega) hrk (fun i i1=>O.ntr _ _ _ c' (hs i ((l+r) / 2) (by omega) (by omega))) h2 hs
theorem ev_bin:∀f {p:Array Nat} (k:Nat),k+f=p.size→Sto lt p k→Sto lt (ev lt (kas_bin f p k)) p.size
 |0,p,k,hz,hs=>by
  have:k=p.size:=by assumption
  subst this;exact hs
 |f+1,p,k,hz,hs=>by
  have e:ev lt (kas_bin (f+1) p k)=ev lt (kas_bin f (bubble p k (k - ev lt (kas_place p k k 0 k))) (k+1)):=ev_bind lt _ _
  obtain ⟨x1,x2,x3⟩:=ev_place O (p:=p) (k:=k) k 0 k (by exact Nat.le_refl _) (by exact Nat.zero_le _) (Nat.le_refl _) (fun i hi=>by omega) (fun i i1 i2=>by omega) hs
  rw [e]
  generalize ev lt (kas_place p k k 0 k)=x at x1 x2 x3
  have hs':Sto lt (bubble p k (k - x)) (k+1):=fun i j hij hj=>by
   rw [g_bub (by omega) (by exact Nat.sub_le _ _),g_bub (by omega) (by exact Nat.sub_le _ _),show k - (k - x)=x by omega]
   by_cases j1:j=x
   ·rw [if_pos j1]
    by_cases i1:i=x
    ·rw [if_pos i1];exact irr O _
    ·rw [if_neg i1,if_neg (by omega)]
     exact x2 i (by omega)
   ·rw [if_neg j1]
    by_cases j2:x<j∧j≤k
    ·rw [if_pos j2]
     by_cases i1:i=x
     ·rw [if_pos i1];exact O.asym _ _ (x3 (j - 1) (by omega) (by omega))
     ·rw [if_neg i1]
      by_cases i2:x<i∧i≤k
      ·rw [if_pos i2];exact hs (i - 1) (j - 1) (by omega) (by omega)
      ·rw [if_neg i2];exact hs i (j - 1) (by omega) (by omega)
    ·rw [if_neg j2,if_neg (by omega),if_neg (by omega)]
     exact hs i j hij (by omega)
  have:=ev_bin f (p:=bubble p k (k - x)) (k+1) (by rw [bubble_size];omega) hs'
  rw [bubble_size] at this
  exact this
theorem ev_sort {n:Nat} (h1:1≤n):Sto lt (ev lt (kas_sort n)) n:=by
 have hz:(List.range n).toArray.size=n:=by simp
 have e:ev lt (kas_sort n)=ev lt ((fun r:Nat×Array Nat=>if r.1<n then kas_bin (n - max r.1 1) r.2 (max r.1 1) else .ret r.2) (ev lt (kas_count n (List.range n).toArray))):=ev_bind lt _ _
 obtain ⟨a,b,c⟩:=ev_count O (p:=(List.range n).toArray) h1 (by omega)
 have pm:Pm n (ev lt (kas_count n (List.range n).toArray)).2:=(asks_count (by assumption) n (Array.Perm.refl _)).ev lt
 rw [e]
 generalize ev lt (kas_count n (List.range n).toArray)=r at a b c pm
 dsimp only
 have sz:=pm.size
 by_cases h:r.1<n
 ·rw [if_pos h,show max r.1 1=r.1 by omega]
  have:=ev_bin O (n - r.1) (p:=r.2) r.1 (by omega) c
  rw [sz] at this
  exact this
 ·rw [if_neg h]
  have:r.1=n:=by omega
  rw [this] at c
  exact c
end
end Srt
namespace Srt
open PySem PySem.W PyProof.Rows
section
variable {prog:Program} {w:World} {A:Around} {E:Value→Shared→Prop} {s:Shared}
theorem list_sort_raw {κ:SortKind} {lt:Nat→Nat→Bool} (O:Ord lt) {a:Addr} {vs:List Value} {n:Nat} {P:PySem.Fin→Shared→Prop} (ho:s.heap.get? a=some (seqObj "list" vs.toArray n)) (h64:vs.length<64)
  (hk:∀h',(∀b o,b≠a→s.heap.get? b=some o→h'.get? b=some o)→2≤vs.length→∀Q:SortKind→Shared→Prop,Q κ {s with heap:=h'}→wpAny (model prog w) A (keyKind' vs.toArray) Q E {s with heap:=h'})
  (hc:∀h',(∀b o,b≠a→s.heap.get? b=some o→h'.get? b=some o)→∀i j (C:Bool→Shared→Prop),i<vs.length→j<vs.length→C (lt i j) {s with heap:=h'}→kas_ask prog w A κ vs i j C {s with heap:=h'})
  (h:∀p:Array Nat,Pm vs.length p→Sto lt p vs.length→P (.done (.ret .none)) {s with heap:=sortedHeap s.heap a vs (p.toList.map fun i=>vs.getD i Value.none).toArray}):
  wpAny (model prog w) A (Builtin.«list.sort» ⟨[.ref a],[]⟩) P E s:=by
 rw [list_sort_plain]
 have ha:a<s.heap.objs.size:=Heap.lt_size ho
 refine wpAny_bind (listItems_at ho rfl ?_)
 refine wpAny_bind (listUpdate_at ho rfl ?_ (by rw [List.size_toArray,sizeLine_eq];omega) (Nat.zero_le _))
 obtain ⟨e1,ho1⟩:∃e1,(s.heap.update a (Obj.mapSeq fun _=> #[])).get? a=some (seqObj "list" #[] e1):=⟨_,get?_update_seq ho (fun _=> #[])⟩
 refine wpAny_bind (seqEpoch_at ho1 rfl ?_)
 refine wpAny_bind (wpAny_newTuple ?_ (by show vs.length≤_;rw [sizeLine_eq];omega))
 refine wpAny_bind (wpAny_newList ?_ (Nat.zero_le _))
 refine wpAny_holding ?_
 have keep:∀b o,b≠a→s.heap.get? b=some o→(((s.heap.update a (Obj.mapSeq fun _=> #[])).push (seqObj "tuple" vs.toArray 0)).push (seqObj "list" #[] 0)).get? b=some o:=fun b o ne q=>by
  have hlt:b<s.heap.objs.size:=Heap.lt_size q
  rw [Heap.get?_push_ne _ _ _ (by rw [size_push',Heap.size_update];exact Nat.ne_of_lt (Nat.lt_succ_of_lt hlt)),Heap.get?_push_ne _ _ _ (by rw [Heap.size_update];exact Nat.ne_of_lt hlt),Heap.get?_update_ne _ _ _ _ ne]
  exact q
 have ho6:(((s.heap.update a (Obj.mapSeq fun _=> #[])).push (seqObj "tuple" vs.toArray 0)).push (seqObj "list" #[] 0)).get? a=some (seqObj "list" #[] e1):=by
  rw [Heap.get?_push_ne _ _ _ (by rw [size_push',Heap.size_update];exact Nat.ne_of_lt (Nat.lt_succ_of_lt ha)),Heap.get?_push_ne _ _ _ (by rw [Heap.size_update];exact Nat.ne_of_lt ha)]
  exact ho1
 show wpAny (model prog w) A _ P E {s with heap:=((s.heap.update a (Obj.mapSeq fun _=> #[])).push (seqObj "tuple" vs.toArray 0)).push (seqObj "list" #[] 0)}
 dsimp only
 have hsz:vs.toArray.size=vs.length:=by simp
 by_cases h2:vs.toArray.size<2
 ·rw [if_pos h2,if_pos h2]
  refine wpAny_bind (wpAny_pure ?_)
  rw [StateT.run_pure]
  refine wpAny_bind (wpAny_pure ?_)
  dsimp only
  refine wpAny_bind (seqEpoch_at ho6 rfl ?_)
  refine wpAny_bind (listUpdate_at ho6 rfl ?_ (hsz2:=by rw [Array.size_map];show (pairsOf vs).size≤_;rw [pairsOf_size,sizeLine_eq];omega))
  simp only [bne_self_eq_false,Bool.false_eq_true,if_false]
  have fin:=h (List.range vs.length).toArray (Array.Perm.refl _) (fun i j hij hj=>by
   have:i=j:=by omega
   subst this;exact irr O _)
  have e:(List.range vs.length).toArray.toList.map (fun i=>vs.getD i Value.none)=vs:=by
   refine List.ext_getElem? fun i=> ?_
   simp only [List.getElem?_map]
   by_cases hi:i<vs.length
   ·simp [hi]
   ·simp [Nat.le_of_not_lt hi]
  rw [e] at fin
  have e2:(Array.map (fun x=>x.snd) (vs.toArray.zip vs.toArray))=vs.toArray:=by
   apply Array.toList_inj.mp
   simp [List.map_snd_zip]
  rw [show Array.map (fun x:Keyed=>x.snd) (arrOf (SortSt.mk' general' (vs.toArray.zip vs.toArray) #[] 7 none))=vs.toArray from e2]
  exact wpAny_pure fin
 ·rw [if_neg h2,if_neg h2]
  have h2':2≤vs.length:=by rw [hsz] at h2;exact Nat.not_lt.mp (by assumption)
  refine wpAny_bind (hk _ keep h2' _ ?_)
  refine wpAny_bind (wpAny_mono (kat_run (ks:=vs) (vs:=vs) (κ:=κ) (Q:=fun st' s'=>∃p:Array Nat,s'={s with heap:=((s.heap.update a (Obj.mapSeq fun _=> #[])).push (seqObj "tuple" vs.toArray 0)).push (seqObj "list" #[] 0)}∧Pm vs.length p∧Sto lt p vs.length∧arrOf st'=p.map (kas_item (vs.toArray.zip vs.toArray))∧failedOf st'=none)
   rfl h2' h64 (G:=fun p s'=>s'={s with heap:=((s.heap.update a (Obj.mapSeq fun _=> #[])).push (seqObj "tuple" vs.toArray 0)).push (seqObj "list" #[] 0)}∧Pm vs.length p∧Sto lt p vs.length) (fun p st' s' a1 a2 a3 a4=>⟨p,a4.1,a4.2.1,a4.2.2,a2,a3⟩) ?_) ?_ fun _ _ e=>e)
  ·exact AsksP.wp (lt:=lt) (hc _ keep) (asks_sort (by exact Nat.le_of_lt (by assumption))) ⟨rfl,(asks_sort (by exact Nat.le_of_lt (by assumption))).ev lt,ev_sort O (by exact Nat.le_of_lt (by assumption))⟩
  ·rintro ⟨⟨⟩,st'⟩ s' ⟨p,rfl,hp,hs,har,hf⟩
   dsimp only
   rw [kat_snds rfl har]
   refine wpAny_bind (seqEpoch_at ho6 rfl ?_)
   refine wpAny_bind (listUpdate_at ho6 rfl ?_ (Nat.zero_le _) (by rw [List.size_toArray,List.length_map,Array.length_toList,hp.size,sizeLine_eq];omega))
   rw [hf]
   simp only [bne_self_eq_false,Bool.false_eq_true,if_false]
   exact wpAny_pure (h p hp hs)
theorem sorted_raw {κ:SortKind} {lt:Nat→Nat→Bool} (O:Ord lt) {v:Value} (I:List Value→Prop) {Q:Value→Shared→Prop} (h64:∀vs,I vs→vs.length<64)
  (hcol:∀(Q:List Value→Shared→Prop),(∀vs h1 t1,I vs→(∀b o,s.heap.get? b=some o→h1.get? b=some o)→Q vs {s with heap:=h1,toks:=t1})→wpAny (model prog w) A.in1 (collect v) Q E s)
  (hk:∀vs h' t',I vs→(∀b o,s.heap.get? b=some o→h'.get? b=some o)→2≤vs.length→∀Q:SortKind→Shared→Prop,Q κ {s with heap:=h',toks:=t'}→wpAny (model prog w) A.in1.in1 (keyKind' vs.toArray) Q E {s with heap:=h',toks:=t'})
  (hc:∀vs h' t',I vs→(∀b o,s.heap.get? b=some o→h'.get? b=some o)→∀i j (C:Bool→Shared→Prop),i<vs.length→j<vs.length→C (lt i j) {s with heap:=h',toks:=t'}→kas_ask prog w A.in1.in1 κ vs i j C {s with heap:=h',toks:=t'})
  (h:∀vs (p:Array Nat) (h1 h':Heap) t' l e,I vs→Pm vs.length p→Sto lt p vs.length→(∀b o,s.heap.get? b=some o→h1.get? b=some o)→(∀b o,h1.get? b=some o→h'.get? b=some o)→h1.objs.size≤l→h'.get? l=some (seqObj "list" (p.toList.map fun i=>vs.getD i Value.none).toArray e)→Q (.ref l) {s with heap:=h',toks:=t'}):
  wpAny (model prog w) A (call (.builtin "sorted") [v]) Q E s:=by
 refine Calls.call_function_entry kind_sorted plain_sorted entry_sorted (args_sorted1 _) ?_
 unfold Builtin.«sorted»
 refine wpAny_bind (m:=checkCount "sorted" 1 1 _) (wpAny_pure ?_)
 refine wpAny_bind (hcol _ fun vs h1 t1 hI k1=> ?_)
 have h64:=h64 vs hI
 refine wpAny_bind (wpAny_newList ?_ (by rw [sizeLine_eq];omega))
 have hoL:(h1.push (seqObj "list" vs.toArray 0)).get? h1.objs.size=some (seqObj "list" vs.toArray 0):=Heap.get?_push_size _ rfl
 show wpAny _ _ _ _ _ {s with heap:=h1.push (seqObj "list" vs.toArray 0),toks:=t1}
 have k3:∀b o,h1.get? b=some o→b≠h1.objs.size∧(h1.push (seqObj "list" vs.toArray 0)).get? b=some o:=fun b o q=>
  ⟨Nat.ne_of_lt (Heap.lt_size q),Heap.get?_push_of_some _ q⟩
 have k2:∀b o,s.heap.get? b=some o→b≠h1.objs.size∧(h1.push (seqObj "list" vs.toArray 0)).get? b=some o:=fun b o q=>k3 b o (k1 b o q)
 refine wpAny_bind (wpAny_holding (wpAny_call_entry slot_list_sort ⟨_,hoL,rfl⟩ entry_list_sort (list_sort_raw (s:={s with heap:=h1.push (seqObj "list" vs.toArray 0),toks:=t1}) (κ:=κ) O hoL h64 (fun h' k l2 Q q=> ?_) (fun h' k i j C hi hj q=> ?_) fun p hp hs=>⟨_,rfl,?_⟩) (args_list_sort _)))
 ·exact hk vs h' t1 hI (fun b o q=>k b o (k2 b o q).1 (k2 b o q).2) l2 Q q
 ·exact hc vs h' t1 hI (fun b o q=>k b o (k2 b o q).1 (k2 b o q).2) i j C hi hj q
 ·refine wpAny_pure ⟨_,rfl,?_⟩
  have hz:h1.objs.size<(h1.push (seqObj "list" vs.toArray 0)).objs.size:=by rw [size_push'];exact Nat.lt_succ_self _
  obtain ⟨e,he⟩:∃e,(sortedHeap (h1.push (seqObj "list" vs.toArray 0)) h1.objs.size vs (p.toList.map fun i=>vs.getD i Value.none).toArray).get? h1.objs.size=some (seqObj "list" (p.toList.map fun i=>vs.getD i Value.none).toArray e):=by
   unfold sortedHeap
   obtain ⟨e1,ho1⟩:∃e1,((h1.push (seqObj "list" vs.toArray 0)).update h1.objs.size (Obj.mapSeq fun _=> #[])).get? h1.objs.size=some (seqObj "list" #[] e1):=⟨_,get?_update_seq hoL (fun _=> #[])⟩
   have ho6:((((h1.push (seqObj "list" vs.toArray 0)).update h1.objs.size (Obj.mapSeq fun _=> #[])).push (seqObj "tuple" vs.toArray 0)).push (seqObj "list" #[] 0)).get? h1.objs.size=some (seqObj "list" #[] e1):=by
    exact Heap.get?_push_of_some _ (Heap.get?_push_of_some _ ho1)
   exact ⟨_,get?_update_seq ho6 fun _=>_⟩
  refine h vs p h1 _ t1 h1.objs.size e hI hp hs k1 (fun b o q=> ?_) (Nat.le_refl _) he
  have q2:=k3 b o q
  unfold sortedHeap
  rw [Heap.get?_update_ne _ _ _ _ q2.1]
  refine Heap.get?_push_of_some _ (Heap.get?_push_of_some _ ?_)
  rw [Heap.get?_update_ne _ _ _ _ q2.1]
  exact q2.2
end
end Srt
namespace Srt
open PySem PySem.W PyProof.Rows L2
def ltK:Key→Key→Bool
 | .inl a,.inl b=>decide (a<b)
 | .inr a,.inr b=>decide (a.cps.toList<b.cps.toList)
 | .inl _,.inr _=>true
 | .inr _,.inl _=>false
theorem str_ext {a b:Str} (h:a.cps.toList=b.cps.toList):a=b:=by
 cases a;cases b;simp at h;rw [h]
theorem ltK_irr:∀a,ltK a a=false
 | .inl a=>by simp [ltK]
 | .inr a=>by simp [ltK,List.lt_irrefl]
theorem ltK_tr:∀{a b c},ltK a b=true→ltK b c=true→ltK a c=true
 | .inl a,.inl b,.inl c,h1,h2=>by simp only [ltK,decide_eq_true_eq] at *;omega
 | .inr a,.inr b,.inr c,h1,h2=>by simp only [ltK,decide_eq_true_eq] at *;exact List.lt_trans h1 h2
 | .inl _,.inl _,.inr _,_,_=>rfl
 | .inl _,.inr _,.inr _,_,_=>rfl
 | .inl _,.inr _,.inl _,_,h2=>by simp [ltK] at h2
 | .inr _,.inl _,_,h1,_=>by simp [ltK] at h1
 | .inr _,.inr _,.inl _,_,h2=>by simp [ltK] at h2
theorem ltK_tri:∀a b,ltK a b=false→a=b∨ltK b a=true
 | .inl a,.inl b,h=>by
  simp only [ltK,decide_eq_true_eq,decide_eq_false_iff_not] at *
  rcases Int.lt_trichotomy a b with x|x|x
  ·exact absurd x h
  ·exact .inl (by rw [x])
  ·exact .inr x
 | .inr a,.inr b,h=>by
  simp only [ltK,decide_eq_true_eq,decide_eq_false_iff_not] at *
  by_cases e:b.cps.toList<a.cps.toList
  ·exact .inr e
  ·exact .inl (congrArg Sum.inr (str_ext (List.le_antisymm (List.not_lt.mp e) (List.not_lt.mp h))))
 | .inl _,.inr _,h=>by simp [ltK] at h
 | .inr _,.inl _,_=> .inr rfl
theorem Pm.toList {n:Nat} {p:Array Nat} (h:Pm n p):p.toList.Perm (List.range n):=by
 have:=(Array.perm_iff_toList_perm).mp h
 simpa using this
theorem map_range_getD {α:Type} (l:List α) (d:α):(List.range l.length).map (fun i=>l.getD i d)=l:=by
 refine List.ext_getElem? fun i=> ?_
 simp only [List.getElem?_map]
 by_cases hi:i<l.length
 ·simp [hi]
 ·simp [Nat.le_of_not_lt hi]
theorem Sto.pairwise {lt:Nat→Nat→Bool} {p:Array Nat} {n:Nat} (hz:p.size=n) (h:Sto lt p n):p.toList.Pairwise fun i j=>lt j i=false:=by
 rw [List.pairwise_iff_getElem]
 intro i j hi hj hij
 have:=h i j (Nat.le_of_lt hij) (by simpa [←hz] using hj)
 simp only [Array.length_toList] at hi hj
 have e1:g p i=p.toList[i]:=by simp [g,Array.getD,hi]
 have e2:g p j=p.toList[j]:=by simp [g,Array.getD,hj]
 rw [e1,e2] at this
 exact this
theorem vals_map {α:Type} (f:α→V) (f':α→Value) (hf:∀a,RelV (f a) (f' a)):∀l:List α,Vals (l.map f) (l.map f')
 |[]=> .nil
 |a::l=> .cons (hf a) (vals_map f f' hf l)
end Srt
namespace Srt
open PySem PySem.W PyProof.Rows L2
end Srt
namespace L2
open PySem PySem.Spec PyProof.Rows
def Itd (lo:Int) (n:Nat):It:=⟨fun i _=>i<n,fun i H x H'=>H'=H∧x= .int (lo - i),fun i _=>n≤i⟩
theorem turn_rangeD {P:Program} {w:World} {K:PySem.W.Frag} {tg:Expr} (it:Addr) (lo:Int) (n:Nat):Turn P w K tg (Itd lo n) [it] it (fun i h=>IsRangeIter h it (lo+(i:Nat) * (-1)) ((n:Int) - (i:Nat)) (-1)) where
 mem:=by simp
 obj:=fun i h st b hb=>by
  have e:b=it:=by simpa using hb
  subst e
  exact ⟨_,st,fun v z=>by
   have z':Data.fields _=Data.cell v:=z
   cases z'⟩
 keep:=fun i h h' st k=>k it (by simp) _ st
 item:=by
  intro X hP hw hK hc i pins s σ H E I hf st hg
  subst hP hw hK
  obtain ⟨f0,f1,f2,f3,f4,f5⟩:=hf it (by simp)
  have W:=Walks.range (prog:=X.prog) (w:=X.w) (I.ok.hd hc) it lo (-1) n
  refine W.item i s _ _ hg st fun v h' tk hv st' kk=> ?_
  obtain ⟨t,rfl⟩:=hv
  have I1:Inv X pins σ H {s with heap:=h',toks:=tk}:=I.turned (fun b o hb e=>kk b o (by simpa using hb) e) f0 f1 f3 f4 f5
  refine ⟨_,rfl,go_of (s:={s with heap:=h',toks:=tk}) (n:="range_iterator") st' rfl rfl (by decide) ⟨.int (lo - i),H,I1,⟨t,?_⟩,⟨rfl,rfl⟩,st',fun b hb=>(hf b hb).1⟩⟩
  rw [show lo+(i:Int) * (-1)=lo - i by omega]
 done:=by
  intro X hP hw hK hc i pins s σ H E I hf st hg
  subst hP hw hK
  obtain ⟨f0,f1,f2,f3,f4,f5⟩:=hf it (by simp)
  exact wpAny_pyNext_range_end (I.ok.hd hc) st (by have:n≤i:=hg;omega) fun h' eb=>⟨rfl,I.turned (t':=s.toks) (fun b o hb e=>eb b o hb e) f0 f1 f3 f4 f5⟩
 self:=fun _ _ _ _ _ st h=>wpAny_pyIter_rangeiter st h
theorem rangeSize_down (a b:Int):Builtin.Range.rangeSize a b (-1)=if b<a then a - b else 0:=by
 unfold Builtin.Range.rangeSize
 simp only [show ¬((-1:Int) > 0) by decide,if_false,show (- (-1:Int))=1 by decide,Int.ediv_one]
 split<;> omega
theorem small_down {a b:Int} (ha: -(2 ^ 62)≤a) (ha':a<2 ^ 62) (hb: -(2 ^ 62)≤b) (hb':b<2 ^ 62):Builtin.Range.small a b (-1)=true:=by
 unfold Builtin.Range.small
 rw [rangeSize_down]
 simp only [Builtin.Range.rangeFitsLong,Bool.and_eq_true,Bool.or_eq_true,decide_eq_true_eq,beq_iff_eq,show ¬((-1:Int) > 0) by decide,if_false]
 split<;> omega
section
variable {X:Cx} {tg:Expr}
theorem range_itD {pins:List (Addr×Obj)} {σ:St} {H:Hp} {s:Shared} {R:It→Hp→Prop} {E:Value→Shared→Prop} {lo hi:Int} {t u v:Tok} {tk:Nat} (I:Inv X pins σ H s) (h1: -(2 ^ 62)≤lo) (h2:lo<2 ^ 62) (h3: -(2 ^ 62)≤hi) (h4:hi<2 ^ 62)
  (q:R (Itd lo (lo - hi).toNat) H):wpAny (model X.prog X.w) X.A (pyIter (.ref s.heap.objs.size)) (PIE X pins σ tg R) E {s with heap:=s.heap.push {cls:= .type "range",data:= .fields #[.int lo t,.int hi u,.int (-1) v]},toks:=tk}:=by
 refine wpAny_pyIter_range (IsRange.new ..) (small_down h1 h2 h3 h4) ?_
 have I1:Inv X pins σ H {s with heap:=s.heap.push {cls:= .type "range",data:= .fields #[.int lo t,.int hi u,.int (-1) v]},toks:=tk}:=I.kept fun b o e=>Heap.get?_push_of_some _ e
 refine ⟨(s.heap.push {cls:= .type "range",data:= .fields #[.int lo t,.int hi u,.int (-1) v]}).objs.size,[(s.heap.push {cls:= .type "range",data:= .fields #[.int lo t,.int hi u,.int (-1) v]}).objs.size],_,_,H,rfl,
  I1.kept (t':=tk) fun b o e=>Heap.get?_push_of_some _ e,turn_rangeD _ lo (lo - hi).toNat,?_,fun b hb=> ?_,q⟩
 ·have e1:lo+((0:Nat):Int) * (-1)=lo:=by simp
  have e2:(((lo - hi).toNat:Nat):Int) - ((0:Nat):Int)=Builtin.Range.rangeSize lo hi (-1):=by rw [rangeSize_down];split<;> omega
  show IsRangeIter _ _ (lo+((0:Nat):Int) * (-1)) ((((lo - hi).toNat:Nat):Int) - ((0:Nat):Int)) (-1)
  rw [e1,e2]
  exact Heap.get?_push_size _ rfl
 ·have e:b=(s.heap.push {cls:= .type "range",data:= .fields #[.int lo t,.int hi u,.int (-1) v]}).objs.size:=by simpa using hb
  subst e
  exact I1.fpOk (Nat.le_refl _) (I1.hok.fresh (Nat.le_refl _))
def iRngD (ta:TA):TI:=fun σ H R=>ta σ H fun vs H1=>∃i j:Int,vs=[.int i,.int j,.int (-1)]∧(-(2 ^ 62)≤i∧i<2 ^ 62∧ -(2 ^ 62)≤j∧j<2 ^ 62)∧R (Itd i (i - j).toNat) H1
theorem pi_rangeD {a b c:Expr} {ta:TA} {p pos:Pos} (hg:Gl X "range") (hm:X.mg "range"=none) (ha:PA X [a,b,c] ta) (hs:starEach [a,b,c] X.env=[(false,eval a X.env),(false,eval b X.env),(false,eval c X.env)]:=by rfl) (hs2:starEach [b,c] X.env=[(false,eval b X.env),(false,eval c X.env)]:=by rfl):
  PI X tg (.Call (.Name "range" p) [a,b,c] [] pos) (iRngD ta):=by
 intro pins s σ H R I h
 refine Call_ (ld_blt I hg hm boot_range (PyProof.Rows.callWith_type1 (thn (ha pos pins s σ H _ I h) fun us s1 ⟨vs,H1,I1,r1,q1⟩=> ?_) (by rw [hs,hs2]) (by rw [hs2];rfl)))
 obtain ⟨i,j,e,⟨q1,q2,q3,q4⟩,q⟩:=q1
 subst e
 cases r1 with
 |cons r rr=>
  cases rr with
  |cons r' rr=>
   cases rr with
   |cons r2 rr=>
    cases rr
    obtain ⟨t,rfl⟩:=r
    obtain ⟨t',rfl⟩:=r'
    obtain ⟨t2,rfl⟩:=r2
    exact call_range_3 (by decide) (range_itD I1 q1 q2 q3 q4 q)
end
theorem for_rangeD {lo:Int} {n:Nat} {g:TG} {tb:TS} {D:Ends} {σ:St} {H:Hp} (Pv:Nat→St→Hp→Prop) (h0:Pv 0 σ H)
  (hs:∀i σ H,i<n→Pv i σ H→g (.int (lo - i)) σ H fun σ2 H2=>tb {D with nx:=Pv (i+1),ct:=Pv (i+1),bk:=D.nx} σ2 H2) (hd:∀σ H,Pv n σ H→D.nx σ H):
  ∃W:Nat→Nat→St→Hp→Prop,(∃m,W 0 m σ H)∧∀i m σ H,W i m σ H→
   ((Itd lo n).stop i H∧D.nx σ H)∨((Itd lo n).go i H∧∃N:St→Hp→Prop,(∀σ' H',N σ' H'→∃m',m'<m∧W (i+1) m' σ' H')∧∀x H',(Itd lo n).yld i H x H'→g x σ H' fun σ2 H2=>tb {D with nx:=N,ct:=N,bk:=D.nx} σ2 H2):=by
 refine ⟨fun i m σ H=>m=n - i∧i≤n∧Pv i σ H,⟨n,by simp,Nat.zero_le _,h0⟩,?_⟩
 rintro i m σ H ⟨rfl,hi,p⟩
 by_cases hlt:i<n
 ·refine .inr ⟨hlt,Pv (i+1),fun σ' H' p'=>⟨n - (i+1),by omega,rfl,hlt,p'⟩,fun x H' y=> ?_⟩
  obtain ⟨e,y⟩:=y
  subst e y
  exact hs i σ _ hlt p
 ·have e:i=n:=by omega
  subst e
  exact .inl ⟨Nat.le_refl _,hd σ H p⟩
end L2
namespace L2
open PySem PySem.Spec PyProof.Rows
end L2
namespace PySem
end PySem
namespace PySem
end PySem
namespace L2
open PySem PySem.Spec PyProof.Rows
end L2
namespace HT
open PySem PyProof.Rows
end HT
namespace L2
open PySem PySem.Spec PyProof.Rows
end L2
namespace HT
open PySem PyProof.Rows L2
section
open PySem.SeqAt
open PySem.AutoSeq1 (wpAny_loadPart')
open PySem.MeetsSeq PySem.MeetsSeq2 PySem.MeetsSeq3
end
end HT
namespace L2
open PySem PySem.Spec PyProof.Rows
end L2
namespace L2
open PySem PySem.Spec PyProof.Rows
theorem op_neNil {X:Cx} (hu:X.A.units+64<cLine):OpR X (compareOp .NotEq) (fun x y H Q=>∃(a b:Addr) (xs:List V),x= .ref a∧y= .ref b∧SqL X.K H a xs∧SqL X.K H b []∧Q (.bl (!xs.isEmpty)) H):=by
 intro pins s σ H x y u v Q I rx ry h
 obtain ⟨a,b,xs,rfl,rfl,ha,hb,q⟩:=h
 cases rx
 cases ry
 cases xs with
 |nil=>exact op_neD hu pins s σ H (.ref a) (.ref b) _ _ Q I rfl rfl ⟨.list [],.list [],.lst ha .nil,.lst hb .nil,rfl,rfl,by decide,q⟩
 |cons x xs=>
  obtain ⟨its,r1,h1,_⟩:=I.list ha
  obtain ⟨its2,r2,h2,_⟩:=I.list hb
  have l1:=r1.length
  have l2:=r2.length
  refine SeqAt.RcNeAt.lists_lengths h1.isList h2.isList (by simp at l1 l2 ⊢;omega) (by omega) X.prog X.w _ _ ⟨.bl _,H,I,rfl,q⟩
end L2
namespace L2
open PySem PySem.Spec PyProof.Rows
end L2
namespace L2
open PySem PySem.Spec PyProof.Rows
def Flt:V→V→Bool
 | .non,.non=>true
 | .non,.bl _=>true
 | .non,.int _=>true
 | .non,.str _=>true
 | .bl _,.non=>true
 | .bl _,.bl _=>true
 | .bl _,.str _=>true
 | .int _,.non=>true
 | .int _,.int _=>true
 | .int _,.str _=>true
 | .str _,.non=>true
 | .str _,.bl _=>true
 | .str _,.int _=>true
 | .str _,.str _=>true
 |_,_=>false
def Eqs (K:PySem.W.Frag) (H:Hp):Nat→V→V→Bool→Prop
 |0,x,y,b=>Flt x y=true∧b=decide (x=y)
 |n+1,x,y,b=>(Flt x y=true∧b=decide (x=y))∨
  (∃(a c:Addr) (xs ys:List V) (e:Nat→Bool),x= .ref a∧y= .ref c∧((SqT K H a xs∧SqT K H c ys)∨(SqL K H a xs∧SqL K H c ys))∧(∀(j:Nat) p q,xs[j]? =some p→ys[j]? =some q→Eqs K H n p q (e j))∧b=((List.range (min xs.length ys.length)).all e && xs.length==ys.length))∨
  (∃(a:Addr) (xs:List V),x= .ref a∧y= .non∧SqT K H a xs∧b=false)∨
  (∃(a:Addr) (xs:List V),x= .non∧y= .ref a∧SqT K H a xs∧b=false)
theorem Eqs.flat {K:PySem.W.Frag} {H:Hp} {n:Nat} {x y:V} (h:Flt x y=true):Eqs K H n x y (decide (x=y)):=by
 cases n with
 |zero=>exact ⟨h,rfl⟩
 |succ n=>exact .inl ⟨h,rfl⟩
theorem all_dec {α:Type} [DecidableEq α] {xs ys:List V} {ds es:List α} (l1:ds.length=xs.length) (l2:es.length=ys.length):((List.range (min xs.length ys.length)).all (fun j=>decide (ds[j]? =es[j]?)) && xs.length==ys.length)=decide (ds=es):=by
 by_cases h:xs.length=ys.length
 ·rw [Bool.eq_iff_iff,Bool.and_eq_true,List.all_eq_true,decide_eq_true_eq]
  constructor
  ·rintro ⟨ha,_⟩
   refine List.ext_getElem? fun i=> ?_
   by_cases hi:i<xs.length
   ·exact of_decide_eq_true (ha i (List.mem_range.mpr (by omega)))
   ·rw [List.getElem?_eq_none (by omega),List.getElem?_eq_none (by omega)]
  ·rintro rfl
   exact ⟨fun j _=>decide_eq_true rfl,by simpa using h⟩
 ·have:(xs.length==ys.length)=false:=by simpa using h
  rw [this,Bool.and_false,decide_eq_false fun e=>h (by rw [←l1,←l2,e])]
theorem Eqs.seq {K:PySem.W.Frag} {H:Hp} {n:Nat} {a c:Addr} {xs ys:List V} {α:Type} [DecidableEq α] {ds es:List α} (hh:(SqT K H a xs∧SqT K H c ys)∨(SqL K H a xs∧SqL K H c ys)) (l1:ds.length=xs.length) (l2:es.length=ys.length)
  (h:∀(j:Nat) p q d e,xs[j]? =some p→ys[j]? =some q→ds[j]? =some d→es[j]? =some e→Eqs K H n p q (decide (d=e))):Eqs K H (n+1) (.ref a) (.ref c) (decide (ds=es)):=by
 refine .inr (.inl ⟨a,c,xs,ys,fun j=>decide (ds[j]? =es[j]?),rfl,rfl,hh,fun j p q hp hq=> ?_,(all_dec l1 l2).symm⟩)
 have j1:j<ds.length:=by rw [l1];exact (List.getElem?_eq_some_iff.mp hp).1
 have j2:j<es.length:=by rw [l2];exact (List.getElem?_eq_some_iff.mp hq).1
 have:=h j p q ds[j] es[j] hp hq (List.getElem?_eq_getElem j1) (List.getElem?_eq_getElem j2)
 show Eqs K H n p q (decide (ds[j]? =es[j]?))
 rw [List.getElem?_eq_getElem j1,List.getElem?_eq_getElem j2]
 have e:decide (some ds[j]=some es[j])=decide (ds[j]=es[j]):=by
  rw [Bool.eq_iff_iff,decide_eq_true_eq,decide_eq_true_eq]
  exact ⟨fun h=>Option.some.inj h,fun h=>by rw [h]⟩
 rw [e];exact this
section
variable {X:Cx} {pins:List (Addr×Obj)} {σ:St} {H:Hp} {s:Shared}
theorem eqs_refl (I:Inv X pins σ H s):∀(n:Nat) {x:V} {b:Bool},Eqs X.K H n x x b→b=true
 |0,x,b,⟨_,e⟩=>by rw [e,decide_eq_true rfl]
 |n+1,x,b,h=>by
  rcases h with ⟨_,e⟩|⟨a,c,xs,ys,e,e1,e2,hh,hj,eb⟩|⟨a,xs,e1,e2,_⟩|⟨a,xs,e1,e2,_⟩
  ·rw [e,decide_eq_true rfl]
  ·rw [e1] at e2
   injection e2 with e2
   subst e2
   have ex:xs=ys:=by
    rcases hh with ⟨h1,h2⟩|⟨h1,h2⟩
    ·exact I.tuple_inj h1 h2
    ·exact I.list_inj h1 h2
   subst ex
   rw [eb,Bool.and_eq_true]
   refine ⟨List.all_eq_true.mpr fun j hj'=> ?_,by simp⟩
   have hj':=List.mem_range.mp hj'
   have hjx:j<xs.length:=by omega
   exact eqs_refl I n (hj j _ _ (List.getElem?_eq_getElem hjx) (List.getElem?_eq_getElem hjx))
  ·rw [e1] at e2;cases e2
  ·rw [e1] at e2;cases e2
theorem flt_at {x y:V} {v u:Value} (h:Flt x y=true) (rx:RelV x v) (ry:RelV y u) (A:Around):SeqAt.EqAt A s v u (decide (x=y)):=by
 have sw:∀{b c:Bool},SeqAt.EqAt A s v u b→b=c→SeqAt.EqAt A s v u c:=fun h e=>e▸h
 cases x<;> cases y<;> simp only [Flt,Bool.false_eq_true] at h<;> simp only [RelV] at rx ry
 ·subst rx;subst ry;exact SeqAt.EqAt.same _
 ·subst rx;subst ry;exact sw (SeqAt.EqAt.none_bool _) (by simp)
 ·obtain ⟨t,rfl⟩:=ry;subst rx;exact sw (SeqAt.EqAt.none_int _ _) (by simp)
 ·obtain ⟨t,rfl⟩:=ry;subst rx;exact sw (SeqAt.EqAt.none_str _ _) (by simp)
 ·subst rx;subst ry;exact sw (SeqAt.EqAt.bool_none _) (by simp)
 ·subst rx;subst ry;exact sw (SeqAt.EqAt.bool_bool _ _) (by rw [Bool.eq_iff_iff];simp)
 ·obtain ⟨t,rfl⟩:=ry;subst rx;exact sw (SeqAt.EqAt.bool_str _ _ _) (by simp)
 ·obtain ⟨t,rfl⟩:=rx;subst ry;exact sw (SeqAt.EqAt.int_none _ _) (by simp)
 ·obtain ⟨t,rfl⟩:=rx;obtain ⟨t',rfl⟩:=ry;exact sw (SeqAt.EqAt.int_int _ _ _ _) (by rw [Bool.eq_iff_iff];simp)
 ·obtain ⟨t,rfl⟩:=rx;obtain ⟨t',rfl⟩:=ry;exact sw (SeqAt.EqAt.int_str _ _ _ _) (by simp)
 ·obtain ⟨t,rfl⟩:=rx;subst ry;exact sw (SeqAt.EqAt.str_none _ _) (by simp)
 ·obtain ⟨t,rfl⟩:=rx;subst ry;exact sw (SeqAt.EqAt.str_bool _ _ _) (by simp)
 ·obtain ⟨t,rfl⟩:=rx;obtain ⟨t',rfl⟩:=ry;exact sw (SeqAt.EqAt.str_int _ _ _ _) (by simp)
 ·obtain ⟨t,rfl⟩:=rx;obtain ⟨t',rfl⟩:=ry;exact sw (SeqAt.EqAt.str_str _ _ _ _) (by rw [Bool.eq_iff_iff];simp)
theorem val_at {xs:List V} {its:List Value} (r:Vals xs its) {j:Nat} (h:j<its.toArray.size):∃x,xs[j]? =some x∧RelV x its.toArray[j]:=by
 have l:=r.length
 have hj:j<xs.length:=by simpa [l] using h
 obtain ⟨v,e,rv⟩:=r.get (i:=j) (x:=xs[j]) (by simp [hj])
 have w1:its.toArray[j]=v:=by
  have:=(List.getElem?_eq_some_iff.mp e).2
  simpa using this
 exact ⟨xs[j],by simp [hj],by rw [w1];exact rv⟩
theorem in1_units (A:Around):A.in1.units≤A.units+1:=by first|exact Nat.le_refl _|exact Nat.le_succ _
theorem eqs_at (I:Inv X pins σ H s):∀(n:Nat) {x y:V} {b:Bool} {v u:Value} {A:Around},A.units+n<cLine→Eqs X.K H n x y b→RelV x v→RelV y u→SeqAt.EqAt A s v u b
 |0,x,y,b,v,u,A,_,⟨h,e⟩,rx,ry=>by rw [e];exact flt_at h rx ry A
 |n+1,x,y,b,v,u,A,hu,h,rx,ry=>by
  rcases id h with ⟨h,e⟩|⟨a,c,xs,ys,e,rfl,rfl,hh,hj,eb⟩|⟨a,xs,rfl,rfl,h1,e⟩|⟨a,xs,rfl,rfl,h1,e⟩
  ·rw [e];exact flt_at h rx ry A
  ·cases rx
   cases ry
   by_cases hne:a=c
   ·subst hne
    rw [eqs_refl I (n+1) h]
    exact SeqAt.EqAt.same _
   refine SeqAt.EqAt.of_refs hne ?_
   have iu:=in1_units A
   rcases hh with ⟨h1,h2⟩|⟨h1,h2⟩
   ·obtain ⟨its,r1,p1,_⟩:=I.tuple h1
    obtain ⟨its2,r2,p2,_⟩:=I.tuple h2
    have:=SeqAt.RcAt.tuples (A:=A) (e:=e) p1 p2 (by omega) fun j j1 j2=> ?_
    ·rw [List.size_toArray,List.size_toArray,←r1.length,←r2.length] at this
     rw [eb];exact this
    ·obtain ⟨p,ep,rp⟩:=val_at r1 j1
     obtain ⟨q,eq,rq⟩:=val_at r2 j2
     exact eqs_at I n (by omega) (hj j p q ep eq) rp rq
   ·obtain ⟨its,r1,p1,_⟩:=I.list h1
    obtain ⟨its2,r2,p2,_⟩:=I.list h2
    have m1:=r1.length
    have m2:=r2.length
    by_cases hl:xs.length=ys.length
    ·have:=SeqAt.RcAt.lists (A:=A) (e:=e) p1.isList p2.isList (by rw [List.size_toArray,List.size_toArray];omega) (by omega) fun j j1 j2=> ?_
     ·rw [List.size_toArray,←m1] at this
      rw [eb,hl,Nat.min_self,←hl]
      simpa using this
     ·obtain ⟨p,ep,rp⟩:=val_at r1 j1
      obtain ⟨q,eq,rq⟩:=val_at r2 j2
      exact eqs_at I n (by omega) (hj j p q ep eq) rp rq
    ·have:=SeqAt.RcAt.lists_lengths (A:=A) p1.isList p2.isList (by rw [List.size_toArray,List.size_toArray];simp;omega) (by omega)
     have eb':b=false:=by rw [eb];simp [hl]
     rw [eb'];exact this
  ·cases rx
   cases ry
   obtain ⟨its,r1,p1,_⟩:=I.tuple h1
   rw [e];exact SeqAt.EqAt.tuple_none p1 (by omega)
  ·cases rx
   cases ry
   obtain ⟨its,r1,p1,_⟩:=I.tuple h1
   rw [e];exact SeqAt.EqAt.none_tuple p1 (by omega)
end
section
variable {X:Cx}
inductive REqsP (K:PySem.W.Frag) (x:V) (y:V) (H:Hp) (Q:VK):Prop
 |mk (n:Nat) (b:Bool) (a c:Addr):(x= .ref a)→(y= .ref c)→(n≤30)→(Eqs K H (n+1) x y b)→(Q (.bl b) H)→REqsP K x y H Q
def rEqs (K:PySem.W.Frag):V→V→Hp→VK→Prop:=fun x y H Q=>REqsP K x y H Q
inductive RNesP (K:PySem.W.Frag) (x:V) (y:V) (H:Hp) (Q:VK):Prop
 |mk (n:Nat) (b:Bool) (a c:Addr):(x= .ref a)→(y= .ref c)→(n≤30)→(Eqs K H (n+1) x y b)→(Q (.bl (!b)) H)→RNesP K x y H Q
def rNes (K:PySem.W.Frag):V→V→Hp→VK→Prop:=fun x y H Q=>RNesP K x y H Q
theorem op_eqs (hu:X.A.units+64<cLine):OpR X (compareOp .Eq) (rEqs X.K):=by
 intro pins s σ H x y v u Q I rx ry h
 obtain ⟨n,b,a,c,rfl,rfl,hn,h,q⟩:=h
 cases rx
 cases ry
 have iu:=in1_units X.A
 rcases h with ⟨h,_⟩|⟨a',c',xs,ys,e,e1,e2,hh,hj,eb⟩|⟨_,_,_,e2,_⟩|⟨_,_,e1,_⟩
 ·cases h
 ·cases e1
  cases e2
  rcases hh with ⟨h1,h2⟩|⟨h1,h2⟩
  ·obtain ⟨its,r1,p1,_⟩:=I.tuple h1
   obtain ⟨its2,r2,p2,_⟩:=I.tuple h2
   refine (SeqAt.RcAt.tuples (A:=X.A) (e:=e) p1 p2 (by omega) fun j j1 j2=> ?_) X.prog X.w X.xe _ ⟨.bl _,H,I,rfl,?_⟩
   ·obtain ⟨p,ep,rp⟩:=val_at r1 j1
    obtain ⟨q,eq,rq⟩:=val_at r2 j2
    exact eqs_at I n (by omega) (hj j p q ep eq) rp rq
   ·rw [List.size_toArray,List.size_toArray,←r1.length,←r2.length,←eb]
    exact q
  ·obtain ⟨its,r1,p1,_⟩:=I.list h1
   obtain ⟨its2,r2,p2,_⟩:=I.list h2
   have m1:=r1.length
   have m2:=r2.length
   by_cases hl:xs.length=ys.length
   ·refine (SeqAt.RcAt.lists (A:=X.A) (e:=e) p1.isList p2.isList (by rw [List.size_toArray,List.size_toArray];omega) (by omega) fun j j1 j2=> ?_) X.prog X.w X.xe _ ⟨.bl _,H,I,rfl,?_⟩
    ·obtain ⟨p,ep,rp⟩:=val_at r1 j1
     obtain ⟨q,eq,rq⟩:=val_at r2 j2
     exact eqs_at I n (by omega) (hj j p q ep eq) rp rq
    ·have:b=(List.range its.toArray.size).all e:=by
      rw [eb,hl,Nat.min_self,←hl,List.size_toArray,←m1]
      simp
     rw [←this];exact q
   ·refine (SeqAt.RcAt.lists_lengths (A:=X.A) p1.isList p2.isList (by rw [List.size_toArray,List.size_toArray];simp;omega) (by omega)) X.prog X.w X.xe _ ⟨.bl _,H,I,rfl,?_⟩
    have eb':b=false:=by rw [eb];simp [hl]
    rw [←eb'];exact q
 ·cases e2
 ·cases e1
theorem op_nes (hu:X.A.units+64<cLine):OpR X (compareOp .NotEq) (rNes X.K):=by
 intro pins s σ H x y v u Q I rx ry h
 obtain ⟨n,b,a,c,rfl,rfl,hn,h,q⟩:=h
 cases rx
 cases ry
 have iu:=in1_units X.A
 rcases h with ⟨h,_⟩|⟨a',c',xs,ys,e,e1,e2,hh,hj,eb⟩|⟨_,_,_,e2,_⟩|⟨_,_,e1,_⟩
 ·cases h
 ·cases e1
  cases e2
  rcases hh with ⟨h1,h2⟩|⟨h1,h2⟩
  ·obtain ⟨its,r1,p1,_⟩:=I.tuple h1
   obtain ⟨its2,r2,p2,_⟩:=I.tuple h2
   refine (SeqAt.RcNeAt.tuples (A:=X.A) (e:=e) p1 p2 (by omega) fun j j1 j2=> ?_) X.prog X.w X.xe _ ⟨.bl _,H,I,rfl,?_⟩
   ·obtain ⟨p,ep,rp⟩:=val_at r1 j1
    obtain ⟨q,eq,rq⟩:=val_at r2 j2
    exact eqs_at I n (by omega) (hj j p q ep eq) rp rq
   ·rw [List.size_toArray,List.size_toArray,←r1.length,←r2.length,←eb]
    exact q
  ·obtain ⟨its,r1,p1,_⟩:=I.list h1
   obtain ⟨its2,r2,p2,_⟩:=I.list h2
   have m1:=r1.length
   have m2:=r2.length
   by_cases hl:xs.length=ys.length
   ·refine (SeqAt.RcNeAt.lists (A:=X.A) (e:=e) p1.isList p2.isList (by rw [List.size_toArray,List.size_toArray];omega) (by omega) fun j j1 j2=> ?_) X.prog X.w X.xe _ ⟨.bl _,H,I,rfl,?_⟩
    ·obtain ⟨p,ep,rp⟩:=val_at r1 j1
     obtain ⟨q,eq,rq⟩:=val_at r2 j2
     exact eqs_at I n (by omega) (hj j p q ep eq) rp rq
    ·have:b=(List.range its.toArray.size).all e:=by
      rw [eb,hl,Nat.min_self,←hl,List.size_toArray,←m1]
      simp
     rw [←this];exact q
   ·refine (SeqAt.RcNeAt.lists_lengths (A:=X.A) p1.isList p2.isList (by rw [List.size_toArray,List.size_toArray];simp;omega) (by omega)) X.prog X.w X.xe _ ⟨.bl _,H,I,rfl,?_⟩
    have eb':b=false:=by rw [eb];simp [hl]
    rw [eb'] at q;exact q
 ·cases e2
 ·cases e1
end
end L2
namespace L2
open PySem PySem.Spec PyProof.Rows
end L2
namespace PySem
open PyProof.Rows
end PySem
namespace L2
open PySem PySem.Spec PyProof.Rows
end L2
namespace PySem
open PyProof.Rows
namespace F
end F
end PySem
namespace L2
open PySem PySem.Spec PyProof.Rows
end L2
namespace Wk
open PySem
abbrev T4:=Str×Nat×Nat×Int
end Wk
namespace L2
open PySem
theorem while_gh {c:TT} {tb:TS} {D:Ends} {σ:St} {H:Hp} (Pv:Nat→St→Hp→Prop) {m0:Nat} (h0:Pv m0 σ H)
  (hs:∀m σ H,Pv m σ H→c σ H fun b H1=>if b=true then tb {D with nx:=fun σ' H'=>∃m',m'<m∧Pv m' σ' H',ct:=fun σ' H'=>∃m',m'<m∧Pv m' σ' H',bk:=D.nx} σ H1 else D.nx σ H1)
  (mono:∀σ H Q Q',(∀b H1,Q b H1→Q' b H1)→c σ H Q→c σ H Q'):tWhile c tb D σ H:=by
 refine ⟨Pv,⟨m0,h0⟩,fun m σ H p=> ?_⟩
 refine mono σ H _ _ (fun b H1 q=> ?_) (hs m σ H p)
 cases b with
 |true=>exact ⟨_,fun _ _ h=>h,q⟩
 |false=>exact q
theorem Bf {H0 H:Hp} {a:Addr} {o:HO} (s:Same H0 H) (n:H0 a=none):Same H0 (upd H a o):=fun b u e=>by
 rw [Ah (Ai e n)];exact s b u e
theorem A1 {α β:Type} {f:α→β} {l:List α} {i:Nat} {x:β} (h:(l.map f)[i]? =some x):∃z,l[i]? =some z∧x=f z:=by
 rw [List.getElem?_map] at h
 cases q:l[i]? with
 |none=>rw [q] at h;cases h
 |some z=>rw [q] at h;exact ⟨z,rfl,(Option.some.inj h).symm⟩
theorem getq {α:Type} {l:List α} {i:Nat} (h:i<l.length):l[i]? =some l[i]:=List.getElem?_eq_getElem h
end L2
namespace Wk
open PySem L2
def tieV (t:T4):List V:=[.str t.1,.int (t.2.1:Int),.int (t.2.2.1:Int),.int t.2.2.2]
end Wk
namespace Wk
open PySem L2
abbrev LS:Str:=Str.ofString "abcdefghijklmnopqrstuvwxyz"
theorem LS_eq:LS.cps.toList=(List.range 26).map (97+·):=by decide+kernel
theorem LS_at {v:Int} (h0:0≤v) (h1:v<26):atI LS.cps.toList v=some (97+v.toNat):=by
 obtain ⟨j,rfl⟩:∃j:Nat,v=(j:Int):=⟨v.toNat,by omega⟩
 have hj:j<26:=by omega
 refine Av ?_
 rw [LS_eq,List.getElem?_map,List.getElem?_range hj]
 rfl
theorem cat_cps (x y:Str):(x++y).cps.toList=x.cps.toList++y.cps.toList:=by
 show (x.cps++y.cps).toList=_
 rw [Array.toList_append]
def sg (c:Nat):V:= .str ⟨#[c]⟩
theorem sg_map (ws:List Nat):ws.map sg=(ws.map fun c=>(⟨#[c]⟩:Str)).map V.str:=by rw [List.map_map];rfl
theorem sg_sum (ws:List Nat):((ws.map fun c=>(⟨#[c]⟩:Str)).map (·.length)).sum=ws.length:=by
 induction ws with
 |nil=>rfl
 |cons c ws ih=>simp only [List.map_cons,List.sum_cons,List.length_cons,ih];show 1+ws.length=_;omega
theorem join_cps:∀ws:List Nat,(Txt.join (Str.ofString "") (ws.map fun c=>(⟨#[c]⟩:Str))).cps.toList=ws:=by
 have key:∀ws:List Nat,(Str.join (Str.ofString "") (ws.map fun c=>(⟨#[c]⟩:Str))).cps.toList=ws:=by
  intro ws
  induction ws with
  |nil=>rfl
  |cons c ws ih=>
   cases ws with
   |nil=>rfl
   |cons d ws=>
    simp only [List.map_cons] at ih ⊢
    rw [Str.join,cat_cps,cat_cps,ih]
    ·rfl
    ·intro q;cases q
 intro ws
 show (Builtin.Str.glued _ _).cps.toList=_
 rw [StrLaws.glued_eq_join]
 exact key ws
theorem len_cps (z:Str):z.length=z.cps.toList.length:=by show z.cps.size=_;simp
theorem inV_strs (x:Str) (zs:List Str):inV (.str x) (zs.map V.str)=decide (x∈zs):=by
 unfold inV
 induction zs with
 |nil=>simp
 |cons z zs ih=>
  rw [List.map_cons,List.any_cons,ih]
  have:eqV (.str z) (.str x)=decide (x=z):=by
   show (z==x)=_
   rw [Bool.eq_iff_iff,beq_iff_eq,decide_eq_true_eq];exact eq_comm
  rw [this,Bool.eq_iff_iff];simp
theorem Bl {v:Int} (h0:0≤v):∃j:Nat,v=(j:Int):=⟨v.toNat,by omega⟩
end Wk
namespace Wk
open PySem L2
end Wk
namespace L2
open PySem
end L2
namespace Wk
open PySem L2
end Wk
namespace L2
open PySem PySem.Spec PyProof.Rows
end L2
namespace Wk
open PySem L2
end Wk
namespace Wk
open PySem L2
end Wk
namespace Wk
open PySem L2
end Wk
namespace L2
open PySem PySem.Spec PyProof.Rows
end L2
namespace Wk
open PySem L2
end Wk
namespace HT
open PySem PyProof.Rows
end HT
namespace L2
open PySem PySem.Spec PyProof.Rows
end L2
namespace Wk
open PySem L2
theorem cat_any {K:PySem.W.Frag} {H:Hp} {Q:VK} {a b:Addr} {xs ys:List V} (ha:H a=some (.tup xs)) (hb:H b=some (.tup ys)) (hl:xs.length+ys.length≤10000)
  (k:∀t H',Same H H'→H' t=some (.tup (xs++ys))→Q (.ref t) H'):rCatTT K (.ref a) (.ref b) H Q:=by
 refine ⟨a,b,_,_,rfl,rfl,SqT.of ha,SqT.of hb,small hl,fun e=>k b H (A9 H) ?_,fun _ e=>k a H (A9 H) ?_,fun _ _ p hp=>k p _ (Ad hp) Ab⟩
 ·rw [e];exact hb
 ·rw [e,List.append_nil];exact ha
theorem cut_any {K:PySem.W.Frag} {H:Hp} {Q:VK} {a:Addr} {xs:List V} {lo hi:Option Int} (ha:H a=some (.tup xs)) (k:∀t H',Same H H'→H' t=some (.tup (cutV xs lo hi))→Q (.ref t) H'):rSlTA K (.ref a) lo hi H Q:=by
 refine ⟨a,xs,rfl,SqT.of ha,fun w=>k a H (A9 H) ?_,fun _ p hp=>k p _ (Ad hp) Ab⟩
 have:cutV xs lo hi=xs:=by
  unfold cutV
  rw [w.1,w.2]
  simp
 rw [this]
 exact ha
end Wk
namespace PySem
open PySem.Spec PyProof.Rows
end PySem
namespace L2
open PySem PySem.Spec PyProof.Rows
end L2
namespace Srt
open PySem PySem.W PyProof.Rows L2
end Srt
namespace Wk
open PySem L2
def NmS (zs:List Str):Prop:=zs.Pairwise fun a b=>Srt.ltK (.inr b) (.inr a)=false
end Wk
namespace Wk
open PySem L2
end Wk
namespace L2
open PySem PySem.Spec PyProof.Rows
end L2
namespace L2
open PySem PySem.Spec PyProof.Rows
end L2
namespace L2
open PySem PySem.Spec PyProof.Rows
end L2
namespace StT
open PySem
end StT
namespace StT
open PySem
end StT
namespace StT
open PySem
end StT
namespace StT
open PySem PyProof.Rows
end StT
namespace StT
open PySem PyProof.Rows
end StT
namespace StT
open PySem PyProof.Rows
end StT
namespace StT
open PySem PyProof.Rows
end StT
namespace StT
open PySem PyProof.Rows
end StT
namespace StT
open PySem PyProof.Rows
end StT
namespace Srt
open PySem PySem.W PyProof.Rows
end Srt
namespace StT
open PySem PyProof.Rows L2
end StT
namespace StT
open PySem PySem.W PyProof.Rows L2 Srt
end StT
namespace L2
open PySem PySem.W PyProof.Rows StT
end L2
namespace L2
open PySem PySem.W PySem.Spec PyProof.Rows StT Srt
section
variable {X:Cx}
theorem vals_intsV:∀{ns:List Int} {us:List Value},Vals (ns.map V.int) us→∀y∈us,∃j t',y= .int j t':=by
 intro ns us hv
 induction ns generalizing us with
 |nil=>cases hv;intro y hy;cases hy
 |cons n ns ih=>
  cases hv with
  |cons h tl=>
   intro y hy
   rcases List.mem_cons.mp hy with rfl|hy
   ·obtain ⟨u,rfl⟩:=h;exact ⟨n,u,rfl⟩
   ·exact ih tl y hy
def isIv (i:Int):Value→Bool
 | .int j _=>j==i
 |_=>false
theorem countI {i:Int}:∀{ns:List Int} {us:List Value},Vals (ns.map V.int) us→us.countP (isIv i)=ns.count i
 |[],_,.nil=>rfl
 |n::ns,_,.cons h t=>by
  obtain ⟨u,rfl⟩:=h
  rw [List.countP_cons,List.count_cons,countI t]
  rfl
inductive RCountLP (x:V) (vs:List V) (H:Hp) (Q:VK):Prop
 |mk (a:Addr) (ns:List Int) (i:Int):(x= .ref a)→(vs=[.int i])→(H a=some (.lst (ns.map V.int)))→(Q (.int (ns.count i:Nat)) H)→RCountLP x vs H Q
def rCountL:V→List V→Hp→VK→Prop:=fun x vs H Q=>RCountLP x vs H Q
theorem mt_countL:MtM X "list.count" rCountL:=by
 intro pins s σ H x xs v us Q I rx r h
 obtain ⟨a,ns,i,rfl,rfl,ha,q⟩:=h
 cases rx
 obtain ⟨u,rfl,⟨t,rfl⟩⟩:=vals1 r
 obtain ⟨hz,its,n,rv,hlen,ho⟩:=I.lstM ha
 refine call_meets PySem.F.slot_list_count ⟨_,ho,rfl⟩ PySem.F.entry_list_count (PySem.F.args_list_count_2 _ _) (SeqAt.list_countAt a its.toArray n none #[] (.int i t) (isIv i)) ⟨ho,?_,?_⟩
 ·intro y hy
  have hy:y∈its:=by simpa using hy
  obtain ⟨j,t',rfl⟩:=vals_intsV rv y hy
  exact SeqAt.EqAt.int_int j t' i t
 ·refine ⟨.int _,H,I.tok _,⟨_,rfl⟩,?_⟩
  rw [show its.toArray.toList.countP (isIv i)=ns.count i from countI rv]
  exact q
end
end L2
namespace L2
open PySem PySem.Spec PyProof.Rows
abbrev vE:List Value:=[.type "ValueError",.type "Exception",.type "BaseException",.type "object"]
inductive Tl:List Value→Prop
 |base:Tl vE
 |own {A:Addr} {tl:List Value}:Tl tl→Tl (.ref A::tl)
theorem Tl.has {tl:List Value} (T:Tl tl) {X:String} {b:Bool} (hb:vE.contains (.type X)=b):tl.contains (.type X)=b:=by
 induction T with
 |base=>exact hb
 |own _ ih=>rw [List.contains_cons,ih];rfl
theorem Tl.refuse {tl:List Value} (T:Tl tl) (self:Value):refuseLoop self "__setattr__" tl=pure ():=by
 induction T with
 |base=>exact PySem.F.store_ValueError.passes self
 |own _ ih=>rw [refuseLoop_ref];exact ih
structure XAt (K:PySem.W.Frag) (C:Addr) (bm:List Value):Prop where
 at_:∃nm q N bs sn sub ab col dd k0 k1 k2 k3 k5,K.lookup C=some (excClassObj nm q C N bs bm true sn sub ab col dd k0 k1 k2 k3 k5 "ValueError.__new__")
 tl:Tl bm
structure XCls (K:PySem.W.Frag) (C:Addr) (bm:List Value):Prop extends XAt K C bm where
 sa:PySem.W.findIn K (.ref C) "__setattr__"=some (some (.builtin "object.__setattr__"))
 kp:PySem.W.keepIn K (.ref C)=true
end L2
namespace PySem
open Sem (wp)
open L2 (Tl XAt)
section
variable {prog:Program} {w:World} {A:Around} {E:Value→Shared→Prop} {h:Heap} {g:Array GenState} {d:Drawn} {t:Nat} {os:OsState} {K:PySem.W.Frag}
variable {nm q:Str} {C N f:Addr} {bs bm:List Value} {hdct:Bool} {sn:List Str} {sub:List Value} {ab:Bool} {col:Option Bool} {dd:Option Addr} {k0 k1 k2 k3 k5:Option Value}
theorem check_newX (T:Tl bm) {M:Model} {rest:List Value} {Q:Unit→Shared→Prop} (hC:h.get? C=some (excClassObj nm q C N bs bm hdct sn sub ab col dd k0 k1 k2 k3 k5 "ValueError.__new__"))
  (hq:Q () ⟨h,g,d,t,os⟩):wpAny M A (checkBuiltinCall "ValueError.__new__" ⟨.ref C::rest,[]⟩) Q E ⟨h,g,d,t,os⟩:=by
 have F:=PySem.F.excBase_ValueError
 have hcont:(Value.ref C::bm).contains (.type "ValueError")=true:=by rw [List.contains_cons,T.has F.hasB,Bool.or_true]
 have hstar:=F.noStar
 simp only [checkBuiltinCall,F.newKind,F.newSplit,F.newRow]
 repeat (first|refine wpAny_loadPart_at hC ?_|(refine wpAny_isSubtype_exc hC ?_;rw [hcont])|refine wpAny_staticBase_exc hC ?_|refine wpAny_madeBy_exc hC ?_|simp only [bne_self_eq_false,Bool.false_eq_true,if_false]|wp_step)
 exact hq
theorem exc_newX (T:Tl bm) {rest:List Value} {R:Result→Shared→Prop} (hC:h.get? C=some (excClassObj nm q C N bs bm hdct sn sub ab col dd k0 k1 k2 k3 k5 "ValueError.__new__"))
  (hq:R (.ok (.ret (.ref (h.objs.size+1)))) ⟨(h.push {cls:= .type "tuple",data:= .seq rest.toArray}).push {cls:= .ref C,data:= .fields #[.ref h.objs.size,.none,.none,.none,.bool false,.none]},g,d,t,os⟩) (hrest:rest.length≤sizeLine):
  codeAny (model prog w) A (.builtin "ValueError.__new__" ⟨.ref C::rest,[]⟩) R ⟨h,g,d,t,os⟩:=by
 have F:=PySem.F.excBase_ValueError
 have hends:=F.ends
 have hcB:(Value.ref C::bm).contains (.type "ValueError")=true:=by rw [List.contains_cons,T.has F.hasB,Bool.or_true]
 have hcA:(Value.ref C::bm).contains (.type "AttributeError")=false:=by rw [List.contains_cons,T.has F.noAttr];rfl
 have hcN:(Value.ref C::bm).contains (.type "NameError")=false:=by rw [List.contains_cons,T.has F.noName];rfl
 refine codeAny_builtinAt F.entry ?_
 unfold Builtin.«BaseException.__new__»
 refine wpAt_bind ?_
 show wpAt _ _ _ (stack >>=_) _ _ _
 refine wpAt_bind (wpAt_stack fun p below=>wpAt_of_wpAny ?_)
 wp_walk
 refine wpAt_of_wpAny ?_
 rw [F.owner]
 repeat (first|with_reducible refine wpAny_madeHere_exc F.canon hC ?_|with_reducible refine wpAny_loadPart_at hC ?_|(with_reducible refine wpAny_isSubtype_exc hC ?_;first|rw [hcB]|rw [hcA]|rw [hcN])|wp_step)
 show R _ _
 rw [Heap.size_push]
 exact hq
theorem type_callX (X:K.In h) (T:Tl bm) (hC:h.get? C=some (excClassObj nm q C N bs bm hdct sn sub ab col dd k0 k1 k2 k3 k5 "ValueError.__new__")) (hi:PySem.W.findIn K (.ref C) "__init__"=some (some (.ref f))) (hf:PySem.W.isFn K (.ref f)=true) {rest:List Value} {Q:Fin→Shared→Prop} (hrest:rest.length≤sizeLine)
  (hq:wpAny (model prog w) A (call (.ref f) (.ref (h.objs.size+1)::rest)) (fun r s'=>r= .none∧Q (.done (.ret (.ref (h.objs.size+1)))) s') E
   ⟨(h.push {cls:= .type "tuple",data:= .seq rest.toArray}).push {cls:= .ref C,data:= .fields #[.ref h.objs.size,.none,.none,.none,.bool false,.none]},g,d,t,os⟩):
  wpAny (model prog w) A (Builtin.«type.__call__» ⟨.ref C::rest,[]⟩) Q E ⟨h,g,d,t,os⟩:=by
 have F:=PySem.F.excBase_ValueError
 repeat (first|with_reducible refine wpAny_loadPart_at hC ?_|with_reducible refine wpAny_madeBy_exc hC ?_|wp_step)
 refine codeAny_call_builtin_code (Code.quiet_builtin _ F.quiet) (check_newX T hC ?_)
 refine exc_newX T hC ?_ hrest
 show wpAny _ _ _ _ _ _
 have k:∀b o,h.get? b=some o→((h.push {cls:= .type "tuple",data:= .seq rest.toArray}).push {cls:= .ref C,data:= .fields #[.ref h.objs.size,.none,.none,.none,.bool false,.none]}).get? b=some o:=fun b o e=>Heap.get?_push_of_some _ (Heap.get?_push_of_some _ e)
 have hC₁:=k _ _ hC
 have hget:((h.push {cls:= .type "tuple",data:= .seq rest.toArray}).push {cls:= .ref C,data:= .fields #[.ref h.objs.size,.none,.none,.none,.bool false,.none]}).get? (h.objs.size+1)=some {cls:= .ref C,data:= .fields #[.ref h.objs.size,.none,.none,.none,.bool false,.none]}:=by heap_get
 have hcC:(Value.ref C::bm).contains (.ref C)=true:=by simp
 have X₁:K.In ((h.push {cls:= .type "tuple",data:= .seq rest.toArray}).push {cls:= .ref C,data:= .fields #[.ref h.objs.size,.none,.none,.none,.bool false,.none]}):=X.keeps k
 have i1:=PySem.W.looks_findIn (M:=model prog w) X₁ hi
 have b1:=PySem.W.bind_fn (M:=model prog w) X₁ (.ref (h.objs.size+1)) (beq_iff_eq.mp hf)
 unfold isInstance
 repeat (first|with_reducible refine wpAny_loadPart_at hget ?_|(with_reducible refine wpAny_isSubtype_exc hC₁ ?_;rw [hcC])|wp_step)
 show wpAny _ _ (typeLookup (.ref C) _) _ _ _
 refine i1.here ?_
 refine wpAny_holding (wpAny_bind (b1.here ?_))
 refine wpAny_bind (wpAny_mono hq (fun r s' hr=> ?_) fun _ _ x=>x)
 obtain ⟨rfl,hQ⟩:=hr
 wp_walk
 exact hQ
theorem exc_call (X:K.In h) (c:XAt K C bm) (hi:PySem.W.findIn K (.ref C) "__init__"=some (some (.ref f))) (hf:PySem.W.isFn K (.ref f)=true) {rest:List Value} {Q:Value→Shared→Prop} (hrest:rest.length≤sizeLine)
  (hq:wpAny (model prog w) (A.under (.builtin "type.__call__" ⟨.ref C::rest,[]⟩)) (call (.ref f) (.ref (h.objs.size+1)::rest)) (fun r s'=>r= .none∧Q (.ref (h.objs.size+1)) s') E
   ⟨(h.push {cls:= .type "tuple",data:= .seq rest.toArray}).push {cls:= .ref C,data:= .fields #[.ref h.objs.size,.none,.none,.none,.bool false,.none]},g,d,t,os⟩):
  wpAny (model prog w) A (call (.ref C) rest) Q E ⟨h,g,d,t,os⟩:=by
 obtain ⟨nm,q,N,bs,sn,sub,ab,col,dd,k0,k1,k2,k3,k5,lk⟩:=c.at_
 have hC:=X _ _ lk
 have f1:=tc_lookup
 have f2:=tc_bind (.ref C)
 have hT:(⟨h,g,d,t,os⟩:Shared).TypeIs (.ref C) "type":=⟨_,hC,rfl⟩
 refine wpAny_call (codeAny_of_tree ?_)
 show wpAny _ _ (callAny (.ref C) _) _ _ _
 repeat (any_goals (first|assumption|with_reducible refine wpAny_loadPart_at hC ?_|wp_step))
 refine ⟨rfl,?_⟩
 exact codeAny_call_builtin_at (Code.quiet_builtin _ (by decide+kernel)) entry_typeCall (wpAny_check_type_call_sub hC (type_callX (hrest:=hrest) X c.tl hC hi hf hq))
end
end PySem
namespace L2
open PySem PySem.Spec PyProof.Rows
def ExcV (e C:Addr) (od:Option Addr) (vs:Array Value) (h:Heap):Prop:=∃oe,h.get? e=some oe∧oe.cls= .ref C∧oe.dict=od∧oe.data= .fields vs
def ExcO (e C:Addr) (od:Option Addr) (h:Heap):Prop:=∃oe vs,h.get? e=some oe∧oe.cls= .ref C∧oe.dict=od∧oe.data= .fields vs
def XdO (d:Addr) (fs:List (Str×V)) (h:Heap):Prop:=∃mA,h.Ns1 d mA∧(∀f,RelO (fs.lookup f) (mA f))∧PySem.Within mA (fs.map (·.1))
theorem ExcV.ok {P:Program} {w:World} {H:Hp} {h:Heap} {e C:Addr} {od:Option Addr} {vs:Array Value} (x:ExcV e C od vs h):ObjOk P w H h e (.ext (ExcV e C od vs)):=
 ⟨x,let ⟨oe,h1,_⟩:=x;⟨oe,h1⟩,fun _ _ ⟨oe,h1,r⟩ k=>⟨oe,k oe h1,r⟩⟩
theorem ExcO.ok {P:Program} {w:World} {H:Hp} {h:Heap} {e C:Addr} {od:Option Addr} (x:ExcO e C od h):ObjOk P w H h e (.ext (ExcO e C od)):=
 ⟨x,let ⟨oe,_,h1,_⟩:=x;⟨oe,h1⟩,fun _ _ ⟨oe,vs,h1,r⟩ k=>⟨oe,vs,k oe h1,r⟩⟩
theorem XdO.ok {P:Program} {w:World} {H:Hp} {h:Heap} {d:Addr} {fs:List (Str×V)} (x:XdO d fs h):ObjOk P w H h d (.ext (XdO d fs)):=
 ⟨x,let ⟨_,⟨o,_,_,h1,_⟩,_⟩:=x;⟨o,h1⟩,fun h1 h2 ⟨mA,n,r⟩ k=>⟨mA,n.at fun o q=>k o q,r⟩⟩
theorem XAt.cls {K:PySem.W.Frag} {C:Addr} {bm:List Value} (c:XAt K C bm):∃cd:ClassData,PySem.W.clsIn K C=some cd∧cd.mro= .ref C::bm∧cd.hasDict=true:=by
 obtain ⟨nm,q,N,bs,sn,sub,ab,col,dd,k0,k1,k2,k3,k5,lk⟩:=c.at_
 refine ⟨{name:=nm,bases:=bs,mro:= .ref C::bm,ns:=N,qualname:=q,hasDict:=true,slotNames:=sn,subclasses:=sub,abstract:=ab,collection:=col,hasDel:=false},?_,rfl,rfl⟩
 unfold PySem.W.clsIn
 rw [lk]
theorem osa_openX {prog:Program} {w:World} {A:Around} {s:Shared} {K:PySem.W.Frag} {x C:Addr} {bm:List Value} {R:Result→Shared→Prop} {ox:Obj} {od:Option Obj} {name:Str} {tk:Tok} {v:Value} (X:K.In s.heap) (I:PySem.W.InstAt s.heap x ox C od) (c:XAt K C bm) (ht:PySem.W.findIn K (.ref C) name=some none)
  (h:wpAny (model prog w) A.in1 (Builtin.ObjectAttr.storeInOwnDict (.ref x) (.ref C) (.str name tk) name v false)
   (fun fin s'=>match fin with| .done f=>R (.ok f) s'| .again c'=>c'.quiet=true∧codeAny (model prog w) A c' R s') (fun e s'=>R (.error e) s') s):
  codeAny (model prog w) A (.call (.builtin "object.__setattr__") ⟨[.ref x,.str name tk,v],[]⟩) R s:=by
 have SF:=PySem.F.store_object
 obtain ⟨cd,hc,hcm,_⟩:=c.cls
 have ho:(Value.ref C::bm).contains (.type "object")=true:=by rw [List.contains_cons,c.tl.has (by decide+kernel:vE.contains (.type "object")=true),Bool.or_true]
 have sub:PySem.W.Looks (model prog w) s.heap (isInstance (.ref x) (.type "object")) true:=I.type.andThen (PySem.W.looks_mroIn X (by unfold PySem.W.mroIn;rw [hc,Option.bind_some,hcm];exact congrArg some ho))
 refine codeAny_call_builtin SF.slot.plain SF.entry (@PySem.W.check_slot (model prog w) _ _ s "object.__setattr__" "object" "__setattr__" (.ref x) [.str name tk,v] [] _ SF.kind SF.split sub (SF.args (.ref x) (.str name tk) v) ?_)
 have hm:PySem.W.Looks (model prog w) s.heap (mroOf (.ref C)) (Value.ref C::bm):=hcm▸((PySem.W.looks_clsIn X hc).andThen .now)
 have L3:PySem.W.Looks (model prog w) s.heap (Builtin.ObjectAttr.storeTaker? none) none:= .now
 rw [PySem.W.osa_eq,refuse_eq]
 refine wpAny_bind (wpAny_bind (I.type.here (wpAny_bind (hm.here ?_))))
 rw [refuseLoop_ref,c.tl.refuse]
 exact wpAny_pure (wpAny_bind (I.type.here (wpAny_bind ((PySem.W.looks_findIn X ht).here (wpAny_bind (L3.here h))))))
section
variable {X:Cx} {pins:List (Addr×Obj)} {σ:St} {H:Hp} {s:Shared} {e C d:Addr} {bm:List Value} {f:Str} {y:V} {u:Value} {A:Around} {E:Value→Shared→Prop} {vs:Array Value} {Q:Unit→Shared→Prop}
theorem setattrX_new (I:Inv X pins σ H s) (he:H e=some (.ext (ExcV e C none vs))) (c:XCls X.K C bm) (n:NoAttr X.K C f) (ry:RelV y u)
  (h:∀d s',H d=none→d≠e→Inv X pins σ (upd (upd (upd H d (.ext (XdO d []))) e (.ext (ExcV e C (some d) vs))) d (.ext (XdO d [(f,y)]))) s'→Q () s'):wpAny (model X.prog X.w) A (setAttr (.ref e) f u) Q E s:=by
 obtain ⟨⟨oe,hx,hcl,hdn,hdat⟩,_,_⟩:=I.hok e _ he
 have J:PySem.W.InstAt s.heap e oe C none:=⟨hx,hcl,by unfold PySem.W.notCls;rw [hdat],by rw [hdn];trivial⟩
 refine PySem.W.set_plain I.kIn J c.sa (osa_openX (s:={s with toks:=s.toks+1}) I.kIn J c.toXAt n ?_)
 obtain ⟨cd,hc,_,hd'⟩:=c.toXAt.cls
 refine wpAny_bind (wpAny_pure (wpAny_bind (wpAny_bind (wpAny_loadPart hx ?_))))
 rw [hcl]
 refine wpAny_bind (PySem.W.Looks.here (s:={s with toks:=s.toks+1}) (PySem.W.looks_clsIn I.kIn hc) ?_)
 rw [hd',hdn]
 rw [hdat]
 have hxs:e≠s.heap.objs.size:=Nat.ne_of_lt (Heap.lt_size hx)
 have hx₁:=Heap.get?_push_of_some (h:=s.heap) {cls:= .type "dict",data:= .dict #[]} hx
 refine wpAny_bind (wpAny_alloc' ?_)
 refine wpAny_bind (wpAny_update' hx₁ ?_)
 refine wpAny_pure ?_
 have hgd0:(s.heap.push {cls:= .type "dict",data:= .dict #[]}).get? s.heap.objs.size=some {cls:= .type "dict",data:= .dict #[]}:=Heap.get?_push_at rfl rfl
 have hn0:(s.heap.push {cls:= .type "dict",data:= .dict #[]}).Ns s.heap.objs.size (fun _=>none):=⟨_,#[],_,hgd0,rfl,fun e he=>absurd he (by simp),fun _=>rfl⟩
 have I1:Inv X pins σ (upd H s.heap.objs.size (.ext (XdO s.heap.objs.size []))) {s with heap:=s.heap.push {cls:= .type "dict",data:= .dict #[]},toks:=s.toks+1}:=
  I.laid (fun b u q=>Heap.get?_push_of_some _ q) (Nat.le_refl _) (XdO.ok ⟨fun _=>none,Heap.Ns1.of_empty hn0,fun _=>True.intro,fun y hy=>absurd rfl hy⟩)
 have hx2:((s.heap.push {cls:= .type "dict",data:= .dict #[]}).update e fun o=>{cls:=o.cls,dict:=some s.heap.objs.size,data:=o.data,slots:=o.slots}).get? e=some {cls:=oe.cls,dict:=some s.heap.objs.size,data:=oe.data,slots:=oe.slots}:=
  Heap.get?_update_self _ hx₁ (by rw [hdat];rfl)
 have I2:Inv X pins σ (upd (upd H s.heap.objs.size (.ext (XdO s.heap.objs.size []))) e (.ext (ExcV e C (some s.heap.objs.size) vs)))
   {s with heap:=(s.heap.push {cls:= .type "dict",data:= .dict #[]}).update e fun o=>{cls:=o.cls,dict:=some s.heap.objs.size,data:=o.data,slots:=o.slots},toks:=s.toks+1}:=
  I1.write (x:=e) (e:=e) (by rw [Ah hxs,he];exact True.intro) (.inl rfl) (fun b u hb q=>(Heap.get?_update_ne _ _ _ _ hb).trans q) ⟨_,hx2⟩ (ExcV.ok ⟨_,hx2,hcl,rfl,hdat⟩)
 have hnd:((s.heap.push {cls:= .type "dict",data:= .dict #[]}).update e fun o=>{cls:=o.cls,dict:=some s.heap.objs.size,data:=o.data,slots:=o.slots}).Ns s.heap.objs.size (fun _=>none):=
  ⟨_,#[],_,(Heap.get?_update_ne _ _ _ _ hxs.symm).trans hgd0,rfl,fun e he=>absurd he (by simp),fun _=>rfl⟩
 show wpAny _ _ (Builtin.ObjectAttr.storeInDict s.heap.objs.size (.str f s.toks) f u) _ _ _
 unfold Builtin.ObjectAttr.storeInDict Builtin.ObjectAttr.newKeyGuard
 refine wpAny_bind (wpAny_pure (wpAny_bind (wpAny_nsSet1 (Heap.Ns1.of_empty hnd) fun h' hn' hs=> ?_)))
 obtain ⟨oD,esD,epD,hoD,hdD,hcD⟩:=hn'.count (Within.cons f u Within.nil)
 refine wpAny_bind (wpAny_lookBehind hoD (by rw [hdD];exact pastItsLine_dict (Nat.le_trans hcD (by rw [List.length_cons,List.length_nil,sizeLine_eq];omega))) ?_)
 refine wpAny_pure (h s.heap.objs.size _ (I.hok.fresh (Nat.le_refl _)) hxs.symm (I2.write (x:=s.heap.objs.size) (e:=s.heap.objs.size) (by rw [Ah hxs.symm,Ab];exact True.intro) (.inl rfl) (fun b o hb q=>(hs.2 b hb).trans q) ⟨_,hoD⟩ (XdO.ok ⟨_,hn',fun g=> ?_,fun g hg=> ?_⟩)))
 ·show RelO (List.lookup g [(f,y)]) (if g=f then some u else none)
  by_cases q:g=f
  ·subst q;rw [if_pos rfl];simp;exact ry
  ·rw [if_neg q];simp [List.lookup_cons,beq_false_of_ne q];trivial
 ·by_cases q:g=f
  ·rw [q];simp
  ·exact absurd (if_neg q) hg
end
end L2
namespace PySem
open Sem (wp)
structure NF (fr:List Addr) (e:Addr) (T? :Option Addr) (h h':Heap) (oe:Obj) (vs:Array Value) (fl:Value):Prop where
 keep:∀b o,h.get? b=some o→b≠e→T? ≠some b→b ∉ fr→h'.get? b=some o
 slot:∀b o,h.get? b=some o→b≠e→T? ≠some b→∃sl,h'.get? b=some {o with slots:=sl}
 exc:∃oe' vs' T',h'.get? e=some oe'∧oe'.cls=oe.cls∧oe'.dict=oe.dict∧oe'.data= .fields vs'∧vs'[0]? =vs[0]? ∧vs'[1]? =some (.ref T')∧T'≠e∧h.get? T'=none∧
  ∃oT ts,h'.get? T'=some oT∧oT.data= .fields ts∧ts[3]? =some fl
section
variable {M:Model} {A:Around} {E:Value→Shared→Prop} {s:Shared} {base:Heap} {env:Env} {outer:List Env} {L e:Addr} {oe:Obj} {vs:Array Value} {Q:Unit→Shared→Prop}
theorem dict_mapFields (o:Obj) (g:Array Value→Array Value):(o.mapFields g).dict=o.dict:=by
 unfold Obj.mapFields;split<;> rfl
theorem entry_NF {head:Value} {hadNext:Bool} (hfr:A.frames=some (env::outer)) (hl:s.heap.FunFrames base (env::outer)) (hf:env.frame=some L)
  (he:s.heap.get? e=some oe) (hd:oe.data= .fields vs) (hsz:1<vs.size)
  (h:∀h',NF ((env::outer).filterMap (·.frame)) e none s.heap h' oe vs (rawInt L)→Q () {s with heap:=h'}):
  wpAny M A (do let a ←frameOf env;let pl ←entryPlaceOf L hadNext;let b ←EntryCells.newEntry head a .none (rawInt L) .none pl;setField (.ref e) 1 b) Q E s:=by
 have hene:e ∉ (env::outer).filterMap (·.frame):=fun hm=>by
  obtain ⟨_,o,ho,hnf⟩:=hl.mem hm
  rw [he] at ho;injection ho with ho;subst ho;exact hnf vs hd
 refine wpAny_bind (wpAny_frameOf_fun hfr hl hf fun h₁ hs₁=> ?_)
 refine wpAny_bind (wpAny_entryPlaceOf fun pl hpl=> ?_)
 unfold EntryCells.newEntry newFields
 refine wpAny_bind (wpAny_newObj_type ?_ (hpl.sizeOk5 _ _ _ _ _))
 have he₁:h₁.get? e=some oe:=(hs₁.2.1 e hene).trans he
 have he₂:=Heap.get?_push_of_some (h:=h₁) {cls:= .type "traceback",dict:=none,data:= .fields ([head,.ref L,.none,rawInt L,.none]++(if pl.isEmpty then List.replicate 6 Value.none else pl)).toArray} he₁
 refine wpAny_setField he₂ hd hsz (h _ ?_)
 have hTe:h₁.objs.size≠e:=Nat.ne_of_gt (Heap.lt_size he₁)
 have hd₃:=Obj.data_mapFields hd (·.setIfInBounds 1 (Value.ref h₁.objs.size))
 have he₃:=Heap.get?_update_self (Obj.mapFields (·.setIfInBounds 1 (Value.ref h₁.objs.size))) he₂ (Obj.isFreed_of_fields hd₃)
 have hT₃:=(Heap.get?_update_other (h₁.push {cls:= .type "traceback",dict:=none,data:= .fields ([head,.ref L,.none,rawInt L,.none]++(if pl.isEmpty then List.replicate 6 Value.none else pl)).toArray})
  (Obj.mapFields (·.setIfInBounds 1 (Value.ref h₁.objs.size))) (Ne.symm hTe)).trans (Heap.get?_push_size h₁ rfl)
 have keep:∀b o,b≠e→h₁.get? b=some o→
   ((h₁.push {cls:= .type "traceback",dict:=none,data:= .fields ([head,.ref L,.none,rawInt L,.none]++(if pl.isEmpty then List.replicate 6 Value.none else pl)).toArray}).update e (Obj.mapFields (·.setIfInBounds 1 (Value.ref h₁.objs.size)))).get? b=some o:=
  fun b o hbe hb=>by
   rw [Heap.get?_update_other _ _ (Ne.symm hbe)]
   exact Heap.get?_push_of_some _ hb
 refine ⟨fun b o hb hbe _ hfr=>keep b o hbe ((hs₁.2.1 b hfr).trans hb),fun b o hb hbe _=> ?_,_,_,h₁.objs.size,he₃,Obj.cls_mapFields _ _,dict_mapFields _ _,hd₃,by rw [Array.getElem?_setIfInBounds_ne (by decide)],by simp [hsz],hTe,?_,_,_,hT₃,rfl,?_⟩
 ·obtain ⟨sl,hs⟩:=hs₁.2.2 b o hb
  exact ⟨sl,keep b _ hbe hs⟩
 ·rw [hs₁.1];exact Heap.get?_none_of_le (Nat.le_refl _)
 ·first|(simp;done)|(rcases hpl with rfl|⟨_,_,_,_,_,_,_,rfl⟩<;> simp)
def Trc (h:Heap) (e:Addr) (vs:Array Value) (T? :Option Addr):Prop:=
 (vs[1]? =some .none∧T? =none)∨∃T oT ts,T? =some T∧vs[1]? =some (.ref T)∧T≠e∧h.get? T=some oT∧oT.data= .fields ts∧ts[3]? =some .none
theorem noteFrame_NF {T? :Option Addr} (hfr:A.frames=some (env::outer)) (hl:s.heap.FunFrames base (env::outer)) (hf:env.frame=some L)
  (he:s.heap.get? e=some oe) (hd:oe.data= .fields vs) (ht:Trc s.heap e vs T?)
  (h:∀h',NF ((env::outer).filterMap (·.frame)) e T? s.heap h' oe vs (rawInt L)→Q () {s with heap:=h'}):wpAny M A (noteFrame (.ref e) env) Q E s:=by
 unfold noteFrame
 simp only [hf]
 rcases ht with ⟨h1,rfl⟩|⟨T,oT,ts,rfl,h1,hTe,hT,hdT,h3⟩
 ·refine wpAny_bind (wpAny_field he hd h1 ?_)
  rw [if_neg (by decide)]
  exact entry_NF hfr hl hf he hd (Array.getElem?_eq_some_iff.mp h1).1 h
 ·refine wpAny_bind (wpAny_field he hd h1 ?_)
  rw [if_pos (show (Value.ref T !=Value.none)=true from by simp)]
  refine wpAny_bind (wpAny_field hT hdT h3 ?_)
  rw [if_neg (show ¬((Value.none==rawInt L)=true) from by simp [rawInt])]
  refine wpAny_bind (wpAny_setField hT hdT (Array.getElem?_eq_some_iff.mp h3).1 ?_)
  have other:∀b,b≠T→(s.heap.update T (Obj.mapFields (·.setIfInBounds 3 Value.none))).get? b=s.heap.get? b:=fun b hb=>Heap.get?_update_other _ _ (Ne.symm hb)
  have noRecord:∀b o,s.heap.get? b=some o→(∀vs,o.data≠ .fields vs)→b≠T:=fun b o hb hnf q=>by
   rw [q,hT] at hb;injection hb with hb;subst hb;exact hnf ts hdT
  have hT':=Heap.get?_update_self (Obj.mapFields (·.setIfInBounds 3 Value.none)) hT (Obj.isFreed_of_fields (Obj.data_mapFields hdT _))
  refine entry_NF hfr (hl.of_keeps fun b o hb hnf=>⟨o,(other b (noRecord b o hb hnf)).trans hb,rfl⟩) hf ((other e (Ne.symm hTe)).trans he) hd (Array.getElem?_eq_some_iff.mp h1).1 fun h' N=>h h' ?_
  obtain ⟨k1,k2,oe',vs',T',x1,x2,x3,x4,x5,x6,x7,x8,x9⟩:=N
  refine ⟨fun b o hb hbe hbT hfr=> ?_,fun b o hb hbe hbT=> ?_,oe',vs',T',x1,x2,x3,x4,x5,x6,x7,?_,x9⟩
  ·exact k1 b o ((other b fun z=>hbT (by rw [z])).trans hb) hbe (by simp) hfr
  ·exact k2 b o ((other b fun z=>hbT (by rw [z])).trans hb) hbe (by simp)
  ·by_cases hq:T'=T
   ·rw [hq,hT'] at x8;cases x8
   ·rw [←other T' hq];exact x8
theorem flight_NF {h:Heap} {T? :Option Addr} {fr:List Addr} {fl:Value} (N:NF fr e T? h s.heap oe vs fl) (hq:∀h',NF fr e T? h h' oe vs .none→Q () {s with heap:=h'}):wpAny M A (setFlight (.ref e) none) Q E s:=by
 obtain ⟨k1,k2,oe',vs',T',x1,x2,x3,x4,x5,x6,x7,x8,oT,ts,y1,y2,y3⟩:=N
 have hsz3:3<ts.size:=(Array.getElem?_eq_some_iff.mp y3).1
 have other:∀b,b≠T'→(s.heap.update T' (Obj.mapFields (·.setIfInBounds 3 ((none:Option Addr).elim Value.none fun f=>rawInt f)))).get? b=s.heap.get? b:=
  fun b hb=>Heap.get?_update_other _ _ (Ne.symm hb)
 have hne:∀b o,h.get? b=some o→b≠T':=fun b o hb z=>by rw [z,x8] at hb;cases hb
 unfold setFlight
 refine wpAny_bind (wpAny_field x1 x4 x6 ?_)
 rw [if_pos (show (Value.ref T' !=Value.none)=true from by simp)]
 refine wpAny_setField y1 y2 hsz3 (hq _ ⟨fun b o hb h1 h2 h3=>(other b (hne b o hb)).trans (k1 b o hb h1 h2 h3),fun b o hb h1 h2=> ?_,oe',vs',T',(other e (Ne.symm x7)).trans x1,x2,x3,x4,x5,x6,x7,x8,_,_,Heap.get?_update_self _ y1 (Obj.isFreed_of_fields (Obj.data_mapFields y2 _)),Obj.data_mapFields y2 _,by simp [hsz3]⟩)
 obtain ⟨sl,q⟩:=k2 b o hb h1 h2
 exact ⟨sl,(other b (hne b o hb)).trans q⟩
theorem leaving_NF {T? :Option Addr} (hfr:A.frames=some (env::outer)) (hl:s.heap.FunFrames base (env::outer)) (hf:env.frame=some L)
  (he:s.heap.get? e=some oe) (hd:oe.data= .fields vs) (ht:Trc s.heap e vs T?)
  (h:∀h',NF ((env::outer).filterMap (·.frame)) e T? s.heap h' oe vs .none→Q () {s with heap:=h'}):wpAny M A (leaving env (.ref e)) Q E s:=by
 unfold leaving
 refine wpAny_bind (noteFrame_NF hfr hl hf he hd ht fun h' N=>flight_NF (s:={s with heap:=h'}) N h)
end
end PySem
namespace L2
open PySem PySem.Spec PyProof.Rows
theorem ObjOk.thereX {P:Program} {w:World} {H:Hp} {h:Heap} {a:Addr} {o:HO} (x:ObjOk P w H h a o):∃u,h.get? a=some u:=by
 cases o with
 |lst xs=>obtain ⟨_,_,_,_,e⟩:=x;exact ⟨_,e⟩
 |tup xs=>obtain ⟨_,_,_,o,e,_⟩:=x;exact ⟨_,e⟩
 |dK kvs=>obtain ⟨_,_,_,_,o,_,_,e,_⟩:=x;exact ⟨_,e⟩
 |dT kvs=>obtain ⟨_,_,_,_,o,_,_,e,_⟩:=x;exact ⟨_,e⟩
 |set S n=>obtain ⟨o,_,_,_,e,_⟩:=x;exact ⟨_,e⟩
 |ins C dx fs=>obtain ⟨_,_,_,e,_⟩:=x;exact ⟨_,e⟩
 |own y=>exact x
 |xd fs=>obtain ⟨_,⟨_,_,_,e,_⟩,_⟩:=x;exact ⟨_,e⟩
 |rng lo hi=>obtain ⟨_,_,_,e⟩:=x;exact ⟨_,e⟩
 |frz ob u=>obtain ⟨e,_⟩:=x;exact ⟨_,e⟩
 |tbl ps=>exact ⟨_,x⟩
 |met f y=>exact ⟨_,x⟩
 |ext φ=>obtain ⟨_,e,_⟩:=x;exact e
structure CXD (P:Program) (w:World) (outer:List Env) (H:Hp) (s:Shared) (s':Shared) (e C:Addr) (od:Option Addr) (H':Hp) (oe:Obj) (vs:Array Value) (T? :Option Addr):Prop where
 os:s'.os=s.os
 bare:AllBare s'.gens
 un:Un (frs outer) [] H H' s.heap s'.heap
 hok:HOk P w H' s'.heap
 at_:H' e=some (.ext (ExcO e C od))
 new:s.heap.get? e=none
 obj:s'.heap.get? e=some oe
 dat:oe.data= .fields vs
 trc:Trc s'.heap e vs T?
 tn:∀T,T? =some T→H' T=none∧s.heap.get? T=none
def CXU (P:Program) (w:World):CXT:=fun outer H s E ev s'=>∃e C od H' oe vs T?,ev= .ref e∧CXD P w outer H s s' e C od H' oe vs T? ∧E (.ref C) (some e) H'
section
variable {P:Program} {w:World} {outer:List Env} {H H':Hp} {s s':Shared} {e C:Addr} {od:Option Addr} {oe:Obj} {vs:Array Value} {T? :Option Addr} {h':Heap} {fl:Value}
theorem CXD.noted (c:CXD P w outer H s s' e C od H' oe vs T?) (fr:∀b∈frs outer,H' b=none) (N:NF (frs outer) e T? s'.heap h' oe vs fl):
  Un (frs outer) [] H H' s.heap h'∧HOk P w H' h'∧∃oe' vs' T',h'.get? e=some oe'∧oe'.data= .fields vs'∧vs'[1]? =some (.ref T')∧T'≠e∧H' T'=none∧s.heap.get? T'=none∧∃oT ts,h'.get? T'=some oT∧oT.data= .fields ts∧ts[3]? =some fl:=by
 have ne:∀b o,s.heap.get? b=some o→b≠e:=fun b o q z=>by rw [z,c.new] at q;cases q
 have nT:∀b o,s.heap.get? b=some o→T? ≠some b:=fun b o q z=>by rw [(c.tn b z).2] at q;cases q
 obtain ⟨oe',vs',T',x1,x2,x3,x4,x5,x6,x7,x8,x9⟩:=N.exc
 have hT':H' T'=none:=by
  cases q:H' T' with
  |none=>rfl
  |some o=>
   obtain ⟨u,z⟩:=(c.hok T' o q).thereX
   rw [x8] at z;cases z
 refine ⟨⟨fun b o q n hb hx=>N.keep b o (c.un.keep b o q n hb hx) (ne b o q) (nT b o q) hb,fun b o q n hb hx=> ?_,c.un.free,fun b o q hx=> ?_,c.un.tups,c.un.frzs,c.un.tbls⟩,fun b o q=> ?_,oe',vs',T',x1,x4,x6,x7,hT',?_,x9⟩
 ·obtain ⟨sl,q1⟩:=c.un.slot b o q n hb hx
  obtain ⟨sl',q2⟩:=N.slot b _ q1 (ne b o q) (nT b o q)
  exact ⟨sl',q2⟩
 ·obtain ⟨o',q1⟩:=c.un.there b o q hx
  obtain ⟨sl',q2⟩:=N.slot b _ q1 (ne b o q) (nT b o q)
  exact ⟨_,q2⟩
 ·by_cases hb:b=e
  ·subst hb
   rw [c.at_] at q;cases q
   obtain ⟨⟨oe2,vs2,z1,z2,z3,z4⟩,_,_⟩:=c.hok b _ c.at_
   rw [c.obj] at z1;cases z1
   exact ExcO.ok ⟨oe',vs',x1,x2.trans z2,x3.trans z3,x4⟩
  ·refine (c.hok b o q).stay (fun x v hx r=>N.keep x v r ?_ ?_ ?_) (fun _ q=>q) fun _ _ q=>q
   ·rcases hx with z|z
    ·rw [z];exact hb
    ·intro z2;rw [z2,c.at_] at z;cases z
   ·intro z2
    have z3:=(c.tn x z2).1
    rcases hx with z|z
    ·rw [z,q] at z3;cases z3
    ·rw [z] at z3;cases z3
   ·intro z2
    have z3:=fr x z2
    rcases hx with z|z
    ·rw [z,q] at z3;cases z3
    ·rw [z] at z3;cases z3
 ·cases q:s.heap.get? T' with
  |none=>rfl
  |some o=>
   obtain ⟨o',q1⟩:=c.un.there T' o q (by simp)
   rw [x8] at q1;cases q1
end
def XPq (X:Cx) (pins:List (Addr×Obj)) (σ:St) (E:XK) (ev:Value) (s1:Shared):Prop:=∃s H,Inv X pins σ H s∧CXU X.prog X.w X.stack H s E ev s1
def XE (X:Cx) (pins:List (Addr×Obj)) (Ex:St→XK) (ev:Value) (s1:Shared):Prop:=X.xe ev s1∨∃σ',XPq X pins σ' (Ex σ') ev s1
abbrev TEX:=XK→TE
abbrev TSX:=(St→XK)→TS
def PEX (X:Cx) (e:Expr) (t:TEX):Prop:=∀(pins:List (Addr×Obj)) (s:Shared) (σ:St) (H:Hp) (Q:VK) (E:XK),Inv X pins σ H s→t E σ H Q→
 wpAny (model X.prog X.w) X.A (eval e X.env) (EP X pins σ Q) (fun ev s1=>X.xe ev s1∨XPq X pins σ E ev s1) s
def PSX (X:Cx) (st:Stmt) (t:TSX):Prop:=∀(pins:List (Addr×Obj)) (s:Shared) (σ:St) (H:Hp) (D:Ends) (Ex:St→XK),Inv X pins σ H s→t Ex D σ H→
 wpAny (model X.prog X.w) X.A (exec st X.env) (SP X pins D) (XE X pins Ex) s
def PSXs (X:Cx) (st:List Stmt) (t:TSX):Prop:=∀(pins:List (Addr×Obj)) (s:Shared) (σ:St) (H:Hp) (D:Ends) (Ex:St→XK),Inv X pins σ H s→t Ex D σ H→
 wpAny (model X.prog X.w) X.A (execs st X.env) (SP X pins D) (XE X pins Ex) s
section
variable {X:Cx} {st:Stmt} {rest:List Stmt} {t u:TSX} {e:Expr} {pos:Pos}
theorem psx_of {t:TS} (h:PS X st t):PSX X st fun _=>t:=fun pins s σ H D Ex I hw=>wpAny_mono (h pins s σ H D I hw) (fun _ _ q=>q) fun _ _ z=> .inl z
theorem psxs_of {sts:List Stmt} {t:TS} (h:PSs X sts t):PSXs X sts fun _=>t:=fun pins s σ H D Ex I hw=>wpAny_mono (h pins s σ H D I hw) (fun _ _ q=>q) fun _ _ z=> .inl z
theorem psxs_nil:PSXs X [] fun _=>Bj:=psxs_of Au
theorem psxs_cons (h1:PSX X st t) (h2:PSXs X rest u):PSXs X (st::rest) fun Ex=>tSeq (t Ex) (u Ex):=by
 intro pins s σ H D Ex I h
 refine wpAny_execs_cons (thn (h1 pins s σ H {D with nx:=u Ex D} Ex I h) fun f s1 q=> ?_)
 cases f with
 |next=>
  obtain ⟨σ',H',I',q⟩:=q
  exact h2 pins s1 σ' H' D Ex I' q
 |ret v=>exact q
 |brk=>exact q
 |cont=>exact q
theorem psxs_one (h1:PSX X st t):PSXs X [st] t:=by
 intro pins s σ H D Ex I h
 refine wpAny_execs_cons (thn (h1 pins s σ H D Ex I h) fun f s1 q=> ?_)
 cases f with
 |next=>exact wpAny_execs_nil q
 |ret v=>exact q
 |brk=>exact q
 |cont=>exact q
theorem psx_if {c:Expr} {a b:List Stmt} {tc:TT} (hc:PT X c tc) (ha:PSXs X a t) (hb:PSXs X b u):PSX X (.If c a b pos) fun Ex=>tIfS tc (t Ex) (u Ex):=by
 intro pins s σ H D Ex I h
 refine wpAny_If (wpAny_mono (hc pins s σ H _ I h) (fun d s1 ⟨H1,I1,q1⟩=> ?_) fun _ _ z=> .inl z)
 cases d with
 |true=>exact ha pins s1 σ H1 D Ex I1 q1
 |false=>exact hb pins s1 σ H1 D Ex I1 q1
theorem psx_expr {t:TEX} (he:PEX X e t) (hs:swapsWith e none pos.line X.env=pure false:=by rfl):PSX X (.Expr e pos) fun Ex D σ H=>t (Ex σ) σ H fun _ H1=>D.nx σ H1:=by
 intro pins s σ H D Ex I h
 exact wpAny_Expr_any (wpAny_mono (he pins s σ H _ (Ex σ) I h) (fun v s1 ⟨x,H1,I1,r1,q1⟩=>⟨σ,H1,I1,q1⟩) fun _ _ z=>z.elim .inl fun z=> .inr ⟨σ,z⟩) I.quiet hs
end
section
variable {X:Cx} {k:Nat} {f C:Addr} {fd:FuncData} {ps:List Str} {sp:Sp} {x m:Str} {p pos apos:Pos} {e o:Expr} {es:List Expr} {ta:TE} {t:TA}
theorem run_fnX {pins:List (Addr×Obj)} {σ:St} {H:Hp} {s:Shared} {Q:VK} {E:XK} {us:List Value} {vs:List V} (F:FnOk X.prog X.w X.K X.mg X.base (CXU X.prog X.w) k f fd ps sp) (hr:Room k X.A) (hb:Binds X.K fd ps [])
  (I:Inv X pins σ H s) (r:Vals vs us) (h:sp vs H Q E):wpAny (model X.prog X.w) X.A (call (.ref f) us) (EP X pins σ Q) (fun ev s1=>X.xe ev s1∨XPq X pins σ E ev s1) s:=by
 have hl:(us++[]).length=ps.length:=by rw [List.append_nil,←r.length];exact F.len _ _ _ _ h
 refine wpAny_call (codeAny_mono (F.run X.A X.stack s H ⟨us,[]⟩ (us++[]) vs Q E hr I.env0 (hb s us I.kIn hl) (by rw [List.append_nil];exact r) h) fun r s' hq=> ?_)
 cases r with
 |error e=>exact .inr ⟨s,H,I,hq⟩
 |ok fl=>
  cases fl with
  |ret u=>exact I.after hq
  |next=>exact False.elim hq
  |brk=>exact False.elim hq
  |cont=>exact False.elim hq
theorem pex_call (F:FnOk X.prog X.w X.K X.mg X.base (CXU X.prog X.w) k f fd ps sp) (hr:Room k X.A) (hg:Gl X x) (hm:X.mg x=some (.ref f)) (hk:PySem.W.keepIn X.K (.ref f)=true) (hb:Binds X.K fd ps [])
  (ha:PA X (e::es) t) (hdb:(x==("__debug__":Str))=false:=by decide) (he:starEach (e::es) X.env=(false,eval e X.env)::starEach es X.env:=by rfl) (hpl:(backTo pos (starEach es X.env)).any (·.1)=false:=by rfl):
  PEX X (.Call (.Name x p) (e::es) [] pos) fun E σ H Q=>t σ H fun vs H1=>sp vs H1 Q E:=by
 intro pins s σ H Q E I h
 refine wpAny_Call_Name_kw (ld_glob I hg hm ?_ hdb)
 refine PySem.W.callWith_K (h₀:=X.base) I.ok.mod.kin hk (wpAny_mono (ha pos pins s σ H _ I h) (fun us s1 ⟨vs,H1,I1,r,q⟩=>⟨I1.kIn,?_⟩) fun _ _ z=> .inl z) he hpl
 exact run_fnX F hr hb I1 r q
end
end L2
namespace PySem
open Sem (wp)
open L2 (Tl XAt)
section
variable {M:Model} {A:Around} {E:Value→Shared→Prop} {s:Shared} {env:Env} {K:PySem.W.Frag} {C:Addr} {bm:List Value}
theorem raiseX {x:Expr} {pos:Pos} {Q:Flow→Shared→Prop} (c:XAt K C bm) (hh:A.handled=none)
  (h:wpAny M A (eval x env) (fun v s₁=>∃e t od sl,v= .ref e∧K.In s₁.heap∧s₁.heap.get? e=some {cls:= .ref C,dict:=od,data:= .fields #[.ref t,.none,.none,.none,.bool false,.none],slots:=sl}∧E (.ref e) s₁) E s):
  wpAny M A (exec (.Raise (some x) none pos) env) Q E s:=by
 obtain ⟨nm,q,N,bs,sn,sub,ab,col,dd,k0,k1,k2,k3,k5,lk⟩:=c.at_
 have hcB:(Value.ref C::bm).contains (.type "BaseException")=true:=by rw [List.contains_cons,c.tl.has (by decide+kernel:L2.vE.contains (.type "BaseException")=true),Bool.or_true]
 have core:wpAny M A (raiseStmt env (some (do let v ←eval x env;standAt pos;pure v)) none) Q E s:=by
  unfold raiseStmt
  refine wpAny_bind (wpAny_bind (wpAny_mono h (fun v s₁ h₁=>wpAny_bind (wpAny_standAt (wpAny_pure ?_))) fun _ _ x=>x))
  obtain ⟨e,t,od,sl,rfl,X,he,hE⟩:=h₁
  have hC:=X _ _ lk
  obtain ⟨hp,g,d,tk,os⟩:=s₁
  repeat (first|with_reducible refine wpAny_loadPart_at he ?_|with_reducible refine wpAny_loadPart_at hC ?_|(with_reducible refine wpAny_isSubtype_exc hC ?_;rw [hcB])|wp_step)
  exact wpAny_raiseNew_none hh hE
 rw [arm_exec_Raise]
 first
  |exact wpAny_bind (wpAny_standAt core)
  |(simp only [evalOpt,Option.map];exact wpAny_bind (wpAny_standAt core))
theorem excMatchesX {h:Heap} {g:Array GenState} {d:Drawn} {t:Nat} {os:OsState} {e D:Addr} {bmD:List Value} {oe:Obj} {Q:Bool→Shared→Prop} (X:K.In h) (c:XAt K C bm) (cD:XAt K D bmD) (hsub:(Value.ref C::bm).contains (.ref D)=true)
  (he:h.get? e=some oe) (hcls:oe.cls= .ref C) (hq:Q true ⟨h,g,d,t,os⟩):wpAny M A (excMatches (.ref e) (.ref D)) Q E ⟨h,g,d,t,os⟩:=by
 obtain ⟨nm,q,N,bs,sn,sub,ab,col,dd,k0,k1,k2,k3,k5,lk⟩:=c.at_
 obtain ⟨nm',q',N',bs',sn',sub',ab',col',dd',k0',k1',k2',k3',k5',lk'⟩:=cD.at_
 have hC:=X _ _ lk
 have hD:=X _ _ lk'
 have hcB:(Value.ref D::bmD).contains (.type "BaseException")=true:=by rw [List.contains_cons,cD.tl.has (by decide+kernel:L2.vE.contains (.type "BaseException")=true),Bool.or_true]
 have f:=tc_notTuple
 unfold excMatches
 repeat (first|(with_reducible refine wpAny_loadPart_at he ?_;rw [hcls])|with_reducible refine wpAny_loadPart_at hD ?_|(with_reducible refine wpAny_isSubtype_exc hD ?_;rw [hcB])|(with_reducible refine wpAny_isSubtype_exc hC ?_;rw [hsub])|wp_step)
 exact hq
end
end PySem
namespace L2
open PySem PySem.Spec PyProof.Rows
abbrev xvs (tt:Addr):Array Value:= #[.ref tt,.none,.none,.none,.bool false,.none]
def tRaise (C:Addr) (sp:Sp) (t:TA):TSX:=fun Ex D σ H=>t σ H fun vs H1=>vs.length≤1000∧∀ex tt,H1 ex=none→sp (.ref ex::vs) (upd H1 ex (.ext (ExcV ex C none (xvs tt))))
 (fun v H2=>v= .non∧∃od,H2 ex=some (.ext (ExcV ex C od (xvs tt)))∧Ex σ (.ref C) (some ex) (upd H2 ex (.ext (ExcO ex C od)))) E0
section
variable {X:Cx} {k:Nat} {f C:Addr} {fd:FuncData} {ps:List Str} {sp:Sp} {x m:Str} {p pos apos rpos:Pos} {e o:Expr} {es:List Expr} {ta:TE} {t:TA} {bm:List Value}
theorem psx_raise (c:XCls X.K C bm) (hi:PySem.W.findIn X.K (.ref C) "__init__"=some (some (.ref f))) (hf:PySem.W.isFn X.K (.ref f)=true) (F:FnOk X.prog X.w X.K X.mg X.base CX0 k f fd ps sp) (hr:Room (k+1) X.A) (hg:Gl X x) (hm:X.mg x=some (.ref C)) (hb:Binds X.K fd ps [])
  (ha:PA X (e::es) t) (hdb:(x==("__debug__":Str))=false:=by decide) (he:starEach (e::es) X.env=(false,eval e X.env)::starEach es X.env:=by rfl) (hpl:(backTo pos (starEach es X.env)).any (·.1)=false:=by rfl):
  PSX X (.Raise (some (.Call (.Name x p) (e::es) [] pos)) none rpos) (tRaise C sp t):=by
 intro pins s σ H D Ex I h
 refine raiseX c.toXAt hr.hd ?_
 refine wpAny_Call_Name_kw (ld_glob I hg hm ?_ hdb)
 refine PySem.W.callWith_K (h₀:=X.base) I.ok.mod.kin c.kp (wpAny_mono (ha pos pins s σ H _ I h) (fun us s1 ⟨vs,H1,I1,r,hlen,q⟩=>⟨I1.kIn,?_⟩) fun _ _ z=> .inl z) he hpl
 obtain ⟨h1,g1,d1,t1,o1⟩:=s1
 have hul:us.length≤sizeLine:=by rw [←r.length,sizeLine_eq];exact Nat.le_trans hlen (by decide)
 refine exc_call (h:=h1) I1.kIn c.toXAt hi hf (by simpa using hul) ?_
 have hq:=q (h1.objs.size+1) h1.objs.size (I1.hok.fresh (Nat.le_succ _))
 have hget:((h1.push {cls:= .type "tuple",data:= .seq us.toArray}).push {cls:= .ref C,data:= .fields #[.ref h1.objs.size,.none,.none,.none,.bool false,.none]}).get? (h1.objs.size+1)=some {cls:= .ref C,data:= .fields #[.ref h1.objs.size,.none,.none,.none,.bool false,.none]}:=by heap_get
 have kk:∀b o,h1.get? b=some o→((h1.push {cls:= .type "tuple",data:= .seq us.toArray}).push {cls:= .ref C,data:= .fields #[.ref h1.objs.size,.none,.none,.none,.bool false,.none]}).get? b=some o:=fun b o e=>Heap.get?_push_of_some _ (Heap.get?_push_of_some _ e)
 have I2:Inv X pins σ (upd H1 (h1.objs.size+1) (.ext (ExcV (h1.objs.size+1) C none (xvs h1.objs.size)))) ⟨(h1.push {cls:= .type "tuple",data:= .seq us.toArray}).push {cls:= .ref C,data:= .fields #[.ref h1.objs.size,.none,.none,.none,.bool false,.none]},g1,d1,t1,o1⟩:=
  I1.laid (a:=h1.objs.size+1) (t':=t1) kk (Nat.le_succ _) (ExcV.ok ⟨_,hget,rfl,rfl,rfl⟩)
 have r2:Vals (V.ref (h1.objs.size+1)::vs) (Value.ref (h1.objs.size+1)::us):= .cons rfl r
 have hl:(Value.ref (h1.objs.size+1)::us++[]).length=ps.length:=by
  rw [List.append_nil,←r2.length];exact F.len _ _ _ _ hq
 show wpAny _ _ (call (.ref f) (Value.ref (h1.objs.size+1)::us)) _ _ _
 refine wpAny_call (codeAny_mono (F.run _ X.stack _ _ ⟨Value.ref (h1.objs.size+1)::us,[]⟩ (Value.ref (h1.objs.size+1)::us++[]) _ _ E0 (hr.make C us []) (I2.env0.make C us []) (hb _ (Value.ref (h1.objs.size+1)::us) I2.kIn hl) (by rw [List.append_nil];exact r2) hq) fun r s' hq'=> ?_)
 cases r with
 |error e=>exact False.elim hq'
 |ok fl=>
  cases fl with
  |next=>exact False.elim hq'
  |brk=>exact False.elim hq'
  |cont=>exact False.elim hq'
  |ret u=>
   obtain ⟨v,H',os,bare,un,hok,rv,ev,od,hex,hE⟩:=hq'
   subst ev
   refine ⟨rv,?_⟩
   obtain ⟨⟨oe,z1,z2,z3,z4⟩,_,_⟩:=hok _ _ hex
   have kin:X.K.In s'.heap:=(I2.call' os un hok bare (fun b z=>absurd z (by simp))).kIn
   have z1':s'.heap.get? (h1.objs.size+1)=some {cls:= .ref C,dict:=od,data:= .fields #[.ref h1.objs.size,.none,.none,.none,.bool false,.none],slots:=oe.slots}:=by
    rw [z1,←z2,←z3,←z4]
   refine ⟨_,_,_,_,rfl,kin,z1',.inr ⟨σ,⟨h1,g1,d1,t1,o1⟩,H1,I1,h1.objs.size+1,C,od,_,oe,_,none,rfl,⟨os,bare,?_,?_,Ab,Heap.get?_none_of_le (Nat.le_succ _),z1,z4,.inl ⟨rfl,rfl⟩,fun T z=>by cases z⟩,hE⟩⟩
   ·exact ((Un.laid kk (Nat.le_succ _) (I1.hok.fresh (Nat.le_succ _))).trans un).trans (Un.write (x:=h1.objs.size+1) (e:=h1.objs.size+1) (by rw [hex];exact True.intro) (.inl rfl) (fun b u _ q=>q) ⟨_,z1⟩)
   ·exact hok.write (x:=h1.objs.size+1) (e:=h1.objs.size+1) (by rw [hex];exact True.intro) (.inl rfl) (fun b u _ q=>q) ⟨_,z1⟩ (ExcO.ok ⟨oe,_,z1,z2,z3,z4⟩)
end
theorem leaveX {X:Cx} {pins:List (Addr×Obj)} {σ:St} {H:Hp} {s s1:Shared} {E:XK} {ev:Value} {M:Model} {A:Around} {F:Value→Shared→Prop} (I:Inv X pins σ H s) (c:CXU X.prog X.w X.stack H s E ev s1) (hst:X.stack=X.env::X.outer) (hfr:X.env.frame=some X.env.locals) (hex:X.ex=[]) (hA:A.frames=some (X.env::X.outer)):
  wpAny M A (leaving X.env ev) (fun _ s''=>CXU X.prog X.w X.outer X.H₀ X.s₀ E ev s'') F s1:=by
 obtain ⟨e,C,od,H',oe,vs,T?,rfl,c,hE⟩:=c
 have I1:Inv X pins σ H' s1:=I.call' c.os c.un c.hok c.bare (fun b z=>absurd z (by simp))
 have hfun:=I1.stack
 rw [hst] at hfun
 refine leaving_NF hA hfun hfr c.obj c.dat c.trc fun h' N=> ?_
 have N':NF (frs X.stack) e T? s1.heap h' oe vs .none:=by rw [hst];exact N
 obtain ⟨un,hok,oe',vs',T',x1,x2,x3,x4,x5,x6,oT,ts,y1,y2,y3⟩:=c.noted I1.stkFree N'
 have I2:Inv X pins σ H' {s1 with heap:=h'}:=I.call' (s':={s1 with heap:=h'}) c.os un hok c.bare (fun b z=>absurd z (by simp))
 have un2:=I2.base
 rw [hex] at un2
 have old:∀b,s.heap.get? b=none→X.s₀.heap.get? b=none:=fun b hb=>by
  cases q:X.s₀.heap.get? b with
  |none=>rfl
  |some o=>
   obtain ⟨o',q1⟩:=I.base.there b o q (by rw [hex];simp)
   rw [hb] at q1;cases q1
 exact ⟨e,C,od,H',oe',vs',some T',rfl,⟨I2.os,I2.bare,un2,hok,c.at_,old e c.new,x1,x2,.inr ⟨T',oT,ts,rfl,x3,x4,y1,y2,y3⟩,fun T z=>by cases z;exact ⟨x5,old _ x6⟩⟩,hE⟩
theorem Fun.okX {P:Program} {w:World} {K:PySem.W.Frag} {mg:Str→Option Value} {base:Heap} {x qual:Str} {st:Stmt} {f:Addr} {fd:FuncData} {N ps:List Str} {k:Nat} {sp:Sp} (F:Fun K x qual st f fd) (S:Az N ps (Ag st)) (len:∀vs H Q E,sp vs H Q E→vs.length=ps.length)
  (hbody:∀(cdv:Value) (A:Around) (outer:List Env) (s:Shared) (H:Hp) (vs:List V) (Q:VK) (E:XK),Room k (A.deeper (envOfC qual (Ag st) s.heap.objs.size f cdv))→sp vs H Q E→
   ∃t,PSXs (cxOf (CXU P w) P w K mg base N qual (Ag st) f cdv A outer s H E).nox (Aw st) t∧t (fun _=>E) {nx:=fun _ H'=>Q .non H',rt:=Q} (start N vs) H):FnOk P w K mg base (CXU P w) (k+1) f fd ps sp:=by
 obtain ⟨oc,od,kV,doc,pm,an,cdv,ct,osl,rfl,lk,hcd⟩:=F.ex
 refine fn_of lk hcd S len fun A outer s H vs Q E hr hsp=> ?_
 obtain ⟨t,h,q⟩:=hbody cdv A outer s H vs Q E hr hsp
 refine ⟨t (fun _=>E),fun pins s1 σ H1 D I hw=> ?_,q⟩
 refine wpAny_mono (h pins s1 σ H1 D (fun _=>E) (I.wish _) hw) (fun _ _ q=>q.unwish) fun ev s2 z=> ?_
 rcases z with z|⟨σ',s3,H3,I3,z⟩
 ·exact False.elim z
 ·exact leaveX (X:=cxOf (CXU P w) P w K mg base N qual (Ag st) f cdv A outer s H E) I3.unwish z rfl rfl rfl I.ok.frames
end L2
namespace L2
open PySem PySem.Spec PyProof.Rows
abbrev Cx.hold (X:Cx) (ev:Value):Cx:={X with A:=X.A.mark (some ev),calm:=false,xe:=fun _ _=>False}
section
variable {X:Cx} {pins:List (Addr×Obj)} {σ:St} {H:Hp} {s:Shared} {ev:Value}
theorem Inv.hold (I:Inv X pins σ H s) (ev:Value):Inv (X.hold ev) pins σ H s:=
 ⟨⟨I.ok.mod,I.ok.kind,I.ok.glob,I.ok.blt,I.ok.above,I.ok.inj,I.ok.has,I.ok.cab,fun z=>Bool.noConfusion z,I.ok.frames,I.ok.stk,I.ok.exf,I.ok.bs,I.ok.bsz,I.ok.noex,I.ok.exfs,I.ok.funs,I.ok.frf⟩,I.os,I.bare,I.base,I.loc,I.cell,I.free,I.freeC,I.pin,I.hok,I.len⟩
theorem Inv.unhold (ok:X.Ok) (I:Inv (X.hold ev) pins σ H s):Inv X pins σ H s:=⟨ok,I.os,I.bare,I.base,I.loc,I.cell,I.free,I.freeC,I.pin,I.hok,I.len⟩
theorem caughtX {s1:Shared} {E:XK} {ev:Value} {M:Model} {A:Around} {F:Value→Shared→Prop} {Q:Unit→Shared→Prop} (I:Inv X pins σ H s) (c:CXU X.prog X.w X.stack H s E ev s1) (hst:X.stack=X.env::X.outer) (hfr:X.env.frame=some X.env.locals) (hA:A.frames=some (X.env::X.outer))
  (h:∀s3 e C od H' oe (vs:Option Addr×Array Value),ev= .ref e→Inv X pins σ H' s3→H' e=some (.ext (ExcO e C od))→NF (frs X.stack) e vs.1 s1.heap s3.heap oe vs.2 .none→E (.ref C) (some e) H'→(∀h',NF (frs X.stack) e vs.1 s1.heap h' oe vs.2 .none→Inv X pins σ H' {s3 with heap:=h'})→Q () s3):
  wpAny M A (noteFrame ev X.env) (fun _ s2=>wpAny M A (setFlight ev none) Q F s2) F s1:=by
 obtain ⟨e,C,od,H',oe,vs,T?,rfl,c,hE⟩:=c
 have I1:Inv X pins σ H' s1:=I.call' c.os c.un c.hok c.bare (fun b z=>absurd z (by simp))
 have hfun:=I1.stack
 rw [hst] at hfun
 refine noteFrame_NF hA hfun hfr c.obj c.dat c.trc fun h' N=>flight_NF (s:={s1 with heap:=h'}) N fun h3 N3=> ?_
 have inv:∀h',NF (frs X.stack) e T? s1.heap h' oe vs .none→Inv X pins σ H' {s1 with heap:=h'}:=fun h' N'=>by
  obtain ⟨un,hok,_⟩:=c.noted I1.stkFree N'
  exact I.call' (s':={s1 with heap:=h'}) c.os un hok c.bare (fun b z=>absurd z (by simp))
 have N3':NF (frs X.stack) e T? s1.heap h3 oe vs .none:=by rw [hst];exact N3
 exact h {s1 with heap:=h3} e C od H' oe (T?,vs) rfl (inv h3 N3') c.at_ N3' hE inv
end
end L2
namespace L2
open PySem PySem.Spec PyProof.Rows
def sXF (K:PySem.W.Frag) (ta tv:TE) (f:Str):TS:=fun D σ H=>tv σ H fun y H1=>ta σ H1 fun x H2=>∃(e C:Addr) (bm:List Value) (vs:Array Value),x= .ref e∧H2 e=some (.ext (ExcV e C none vs))∧XCls K C bm∧NoAttr K C f∧
 ∀d,H2 d=none→d≠e→D.nx σ (upd (upd (upd H2 d (.ext (XdO d []))) e (.ext (ExcV e C (some d) vs))) d (.ext (XdO d [(f,y)])))
section
variable {X:Cx} {o e value:Expr} {f:Str} {pos pos':Pos} {ta tv:TE}
theorem ps_xf (ha:PE X o ta) (hv:PE X value tv) (hs:swapsWith value (some (.Attribute o f pos')) pos.line X.env=pure false:=by rfl):PS X (.Assign [.Attribute o f pos'] value pos) (sXF X.K ta tv f):=by
 intro pins s σ H D I h
 refine plainObj_wpAny_Assign_Attribute (thn (hv pins s σ H _ I h) fun u s1 ⟨y,H1,I1,ry,q⟩=>thn (ha pins s1 σ H1 _ I1 q) fun ov s2 ⟨x,H2,I2,rx,a,C,bm,vs,ex,ea,c,n,q2⟩=> ?_) hs
 subst ex
 obtain rfl:ov=Value.ref a:=rx
 exact setattrX_new I2 ea c n ry fun d s3 hd hne I3=>⟨σ,_,I3,q2 d hd hne⟩
end
end L2
namespace PySem
open Sem (wp)
open L2 (Tl XAt)
section
variable {prog:Program} {w:World} {A:Around} {E:Value→Shared→Prop} {h:Heap} {g:Array GenState} {d:Drawn} {t:Nat} {os:OsState} {K:PySem.W.Frag} {x C:Addr} {bm:List Value} {ox:Obj} {od:Option Obj} {name:Str} {v:Value}
theorem isBaseX (X:K.In h) (c:XAt K C bm) {M:Model} (I:PySem.W.InstAt h x ox C od) {T:String} (hT:L2.vE.contains (.type T)=true):PySem.W.Looks M h (isInstance (.ref x) (.type T)) true:=by
 obtain ⟨nm,q,N,bs,sn,sub,ab,col,dd,k0,k1,k2,k3,k5,lk⟩:=c.at_
 have hc:PySem.W.clsIn K C=some {name:=nm,bases:=bs,mro:= .ref C::bm,ns:=N,qualname:=q,hasDict:=true,slotNames:=sn,subclasses:=sub,abstract:=ab,collection:=col,hasDel:=false}:=by
  unfold PySem.W.clsIn;rw [lk]
 refine I.type.andThen (PySem.W.looks_mroIn X ?_)
 unfold PySem.W.mroIn
 rw [hc,Option.bind_some]
 show some ((Value.ref C::bm).contains (.type T))=some true
 rw [List.contains_cons,c.tl.has hT,Bool.or_true]
theorem getX_call {tk:Tok} {R:Result→Shared→Prop} (X:K.In h) (c:XAt K C bm) (I:PySem.W.InstAt h x ox C od) (hf:PySem.W.findObj K C od name=some (.value v)) (hq:R (.ok (.ret v)) ⟨h,g,d,t,os⟩):
  codeAny (model prog w) A (.call (.builtin "BaseException.__getattribute__") ⟨[.ref x,.str name tk],[]⟩) R ⟨h,g,d,t,os⟩:=by
 have L0:=I.type (M:=model prog w)
 have L1:=PySem.W.looks_find (M:=model prog w) X I hf
 refine codeAny_call_builtin PySem.F.attr_ValueError.ga.plain F.entry_bexc_ga (@PySem.W.check_slot (model prog w) _ _ ⟨h,g,d,t,os⟩ "BaseException.__getattribute__" "BaseException" "__getattribute__" (.ref x) [.str name tk] [] _ (by decide+kernel) (by decide+kernel) (isBaseX X c I (by decide+kernel)) (F.args_bexc_ga (.ref x) (.str name tk)) ?_)
 unfold Builtin.«object.__getattribute__»
 refine wpAny_bind (wpAny_pure (wpAny_bind (wpAny_pure (wpAny_bind (L0.at (wpAny_bind (L1.at ?_)))))))
 exact wpAny_pure hq
theorem getX {expr:Bool} {Q:Value→Shared→Prop} (X:K.In h) (c:XAt K C bm) (I:PySem.W.InstAt h x ox C od) (hga:PySem.W.findIn K (.ref C) "__getattribute__"=some (some (.builtin "BaseException.__getattribute__"))) (hgn:PySem.W.findIn K (.ref C) "__getattr__"=some none)
  (hf:PySem.W.findObj K C od name=some (.value v)) (hh:PySem.W.handedIn v=true) (hq:Q v ⟨h,g,d,t+1,os⟩):wpAny (model prog w) A (getAttr (.ref x) name expr) Q E ⟨h,g,d,t,os⟩:=by
 have L0:=I.type (M:=model prog w)
 have L1:=PySem.W.looks_findIn (M:=model prog w) X hga
 have L2:=PySem.W.looks_findIn (M:=model prog w) X hgn
 have f3:=PySem.F.attr_ValueError.ga.bind (.ref x)
 have hx0:(expr && onTheHeap (Value.builtin "BaseException.__getattribute__"))=false:=by cases expr<;> rfl
 have hx2:(Value.builtin "BaseException.__getattribute__"==Value.builtin "object.__getattribute__")=false:=by decide+kernel
 have hx1:(onTheHeap (Value.ref C) && Value.builtin "BaseException.__getattribute__"==Value.builtin "object.__getattribute__")=false:=by rw [hx2];rfl
 unfold getAttr getAttrBy
 refine wpAny_bind (wpAny_mkText (wpAny_holding (wpAny_bind (L0.at (wpAny_bind (L1.at ?_))))))
 dsimp only
 rw [if_neg (by rw [hx1];exact Bool.false_ne_true)]
 unfold getAttrByItsOwn
 refine wpAny_bind ?_
 show wpAny _ _ (typeLookup (Value.ref C) _) _ _ _
 refine L2.at (wpAny_bind (wpAny_attempt (wpAny_holding ?_)))
 unfold callGetattribute
 rw [if_neg (by rw [hx0];exact Bool.false_ne_true)]
 unfold boundAndCalled
 rw [f3]
 refine wpAny_bind (wpAny_pure (wpAny_call (getX_call X c I hf ?_)))
 show wpAny _ _ (handedOut v) _ _ _
 rw [PySem.W.handedOut_of hh]
 exact wpAny_pure hq
end
end PySem
namespace L2
open PySem PySem.Spec PyProof.Rows
structure XGet (K:PySem.W.Frag) (C:Addr):Prop where
 ga:PySem.W.findIn K (.ref C) "__getattribute__"=some (some (.builtin "BaseException.__getattribute__"))
 gn:PySem.W.findIn K (.ref C) "__getattr__"=some none
theorem getattrX {X:Cx} {pins:List (Addr×Obj)} {σ:St} {H:Hp} {s:Shared} {e C d:Addr} {bm:List Value} {f:Str} {y:V} {A:Around} {E:Value→Shared→Prop} {fs:List (Str×V)} {b:Bool} {Q:Value→Shared→Prop} (I:Inv X pins σ H s) (he:H e=some (.ext (ExcO e C (some d)))) (hd:H d=some (.ext (XdO d fs))) (c:XAt X.K C bm) (gt:XGet X.K C) (n:NoAttr X.K C f) (hv:fs.lookup f=some y)
  (h:∀u s',Inv X pins σ H s'→RelV y u→Q u s'):wpAny (model X.prog X.w) A (getAttr (.ref e) f b) Q E s:=by
 obtain ⟨⟨oe,vs,hx,hcl,hdn,hdat⟩,_,_⟩:=I.hok e _ he
 obtain ⟨⟨mA,hns,hr,hwi⟩,_,_⟩:=I.hok d _ hd
 obtain ⟨od,hod,hl⟩:=lookIn_ns hns
 have J:PySem.W.InstAt s.heap e oe C (some od):=⟨hx,hcl,by unfold PySem.W.notCls;rw [hdat],by rw [hdn];exact hod⟩
 obtain ⟨u,hu,ru⟩:=RelO.some_of (v:=y) (o:=mA f) (by rw [←hv];exact hr f)
 obtain ⟨cd,hc,_,hd'⟩:=c.cls
 have hh:PySem.W.hasDictIn X.K C=true:=by unfold PySem.W.hasDictIn;rw [hc];simp [hd']
 obtain ⟨hp,g,dr,tk,os⟩:=s
 exact getX I.kIn c J gt.ga gt.gn (PySem.W.findObj_own hh n rfl (by rw [hl,hu])) (handed_of ru) (h u _ (I.tok _) ru)
def tXf (K:PySem.W.Frag) (ta:TE) (f:Str):TE:=fun σ H Q=>ta σ H fun x H1=>∃(e C d:Addr) (bm:List Value) (fs:List (Str×V)) (y:V),x= .ref e∧H1 e=some (.ext (ExcO e C (some d)))∧H1 d=some (.ext (XdO d fs))∧XAt K C bm∧XGet K C∧NoAttr K C f∧fs.lookup f=some y∧Q y H1
theorem pe_xf {X:Cx} {e:Expr} {ta:TE} {f:Str} {pos:Pos} (he:PE X e ta) (hb:attributeBase e f X.env (eval e X.env)=eval e X.env:=by rfl):PE X (.Attribute e f pos) (tXf X.K ta f):=by
 intro pins s σ H Q I h
 refine attr_of hb (thn (he pins s σ H _ I h) fun u s1 ⟨x,H1,I1,rx,a,C,d,bm,fs,y,ex,ea,ed,c,g,n,l,q⟩=> ?_)
 subst ex
 obtain rfl:u=Value.ref a:=rx
 exact getattrX I1 ea ed c g n l fun u' s2 I2 ru=>⟨y,H1,I2,ru,q⟩
end L2
namespace L2
open PySem PySem.Spec PyProof.Rows
theorem gone_ok {X:Cx} {pins:List (Addr×Obj)} {σ:St} {H:Hp} {s:Shared} {M:Model} {A:Around} {E:Value→Shared→Prop} {i:Nat} {x:Str} {pos:Pos} {Q:Unit→Shared→Prop} (I:Inv X pins σ H s) (hN:X.N.Nodup) (hi:X.N[i]? =some x) (hk:X.env.scope.names.lookup x=some .local)
  (h:∀s',Inv X pins (σ.set i none) H s'→Q () s'):wpAny M A (do bindName X.env x .none;unbindBehindTheSuite X.env x pos) Q E s:=by
 obtain ⟨m,hn,hl⟩:=id I.loc
 have hcls:(X.env.scope.kind== .class||(X.env.scope.kind== .module && X.env.locals !=X.env.globals))=false:=by rw [I.ok.kind];rfl
 have cne:=I.cne
 obtain ⟨oL,_,_,hoL,_⟩:=id hn
 refine wpAny_nameGoes_keeps hk hn hcls fun h' v hn' hs=> ?_
 have lt:∀b o,X.s₀.heap.get? b=some o→b≠X.env.locals:=fun b o e=>Nat.ne_of_lt (Nat.lt_of_lt_of_le (Heap.lt_size e) I.ok.above)
 have hok':HOk X.prog X.w H h':=fun b ob e=>by
  refine (I.hok b ob e).stay (fun c w' hc q=>(hs.2 c ?_).trans q) (fun _ q=>q) fun _ _ q=>q
  rintro rfl
  have fr:=I.free
  rcases hc with z|hc
  ·rw [z,e] at fr;cases fr
  ·rw [fr] at hc;cases hc
 refine h _ ⟨I.ok,I.os,I.bare,⟨fun b o e n hb hx=>(hs.2 b (lt b o e)).trans (I.base.keep b o e n hb hx),fun b o e n hb hx=> ?_,I.base.free,fun b o e hx=> ?_,I.base.tups,I.base.frzs,I.base.tbls⟩,⟨_,hn',fun j y v' e1 e2 e3=> ?_⟩,fun y c e=> ?_,I.free,I.freeC,fun p hp=> ?_,hok',by simpa using I.len⟩
 ·obtain ⟨sl,e1⟩:=I.base.slot b o e n hb hx
  exact ⟨sl,(hs.2 b (lt b o e)).trans e1⟩
 ·obtain ⟨o',e1⟩:=I.base.there b o e hx
  exact ⟨o',(hs.2 b (lt b o e)).trans e1⟩
 ·have hj:j≠i:=fun z=>by
   rw [z] at e2
   by_cases hlt:i<σ.length
   ·rw [List.getElem?_set_self hlt] at e2;cases e2
   ·rw [List.getElem?_eq_none (by simpa using hlt)] at e2;cases e2
  rw [List.getElem?_set_ne (Ne.symm hj)] at e2
  obtain ⟨u',r',q⟩:=hl j y v' e1 e2 e3
  refine ⟨u',r',?_⟩
  rcases q with ⟨k,e⟩|⟨k,c,e,z⟩
  ·refine .inl ⟨k,?_⟩
   have:y≠x:=fun e=>hj (nodup_ix hN e1 (e▸hi))
   simp [this,e]
  ·exact .inr ⟨k,c,e,z.sameBut hs (cne y c e)⟩
 ·obtain ⟨w',z⟩:=I.cell y c e
  exact ⟨w',z.sameBut hs (cne y c e)⟩
 ·obtain ⟨e,n,ne,nf,d⟩:=I.pin p hp
  exact ⟨(hs.2 p.1 ne).trans e,n,ne,nf,d⟩
def tTryAs (K:PySem.W.Frag) (D:Addr) (i:Nat) (tb:TSX) (ts:TS):TS:=fun En σ H=>tb (fun σ' cls oe H'=>∃C e bm od,cls= .ref C∧oe=some e∧XAt K C bm∧(Value.ref C::bm).contains (.ref D)=true∧H' e=some (.ext (ExcO e C od))∧
 ts {nx:=fun σ2 H2=>En.nx (σ2.set i none) H2,rt:=En.rt,bk:=fun σ2 H2=>En.bk (σ2.set i none) H2,ct:=fun σ2 H2=>En.ct (σ2.set i none) H2} (σ'.set i (some (.ref e))) H') En σ H
theorem ps_tryAs {X:Cx} {body:List Stmt} {b₀:Stmt} {suite:List Stmt} {x n:Str} {np hpos pos:Pos} {D:Addr} {bmD:List Value} {i:Nat} {tb:TSX} {ts:TS} (hx:∀ev s,¬X.xe ev s) (hst:X.stack=X.env::X.outer) (hfr:X.env.frame=some X.env.locals) (hb:PSXs X body tb) (cD:XAt X.K D bmD)
  (hg:Gl X x) (hm:X.mg x=some (.ref D)) (hN:X.N.Nodup) (hi:X.N[i]? =some n) (hk:X.env.scope.names.lookup n=some .local) (hs:∀ev,PSs (X.hold ev) (b₀::suite) ts) (hd:(x==("__debug__":Str))=false:=by decide):PS X (.Try body [.ExceptHandler (some (.Name x np)) (some n) (b₀::suite) hpos] [] [] pos) (tTryAs X.K D i tb ts):=by
 intro pins s σ H En I h
 have hA:X.A.frames=some (X.env::X.outer):=I.ok.frames.trans (by rw [hst])
 refine wpAny_Try_except (wpAny_mono (hb pins s σ H En _ I h) (fun f s1 q=> ?_) fun ev s1 z=> ?_)
 ·cases f with
  |next=>exact wpAny_execs_nil q
  |ret v=>exact q
  |brk=>exact q
  |cont=>exact q
 rcases z with z|⟨σ',s',H₁,I',z⟩
 ·exact absurd z (hx _ _)
 refine caughtX I' z hst hfr hA fun s3 e C od H' oe vs hev I3 hat N hE inv=> ?_
 subst hev
 obtain ⟨C',e',bm,od',z1,z2,cC,hsub,_,hts⟩:=hE
 cases z1
 cases z2
 refine wpAny_handleBy_cons (codeAny_handlers_test (ld_glob (X:=X.hold (.ref e)) (I3.hold _) hg hm ?_ hd)) (by intro q;cases q)
 obtain ⟨⟨oe',vs',y1,y2,y3,y4⟩,_,_⟩:=I3.hok e _ hat
 obtain ⟨h3,g3,d3,t3,o3⟩:=s3
 refine excMatchesX I3.kIn cC cD hsub y1 y2 ?_
 refine codeAny_handlers_suite_as (flight_NF (s:=⟨h3,g3,d3,t3,o3⟩) N fun h4 N4=> ?_)
 have I4:=inv h4 N4
 refine store_ok (X:=X.hold (.ref e)) (v:=V.ref e) (I4.hold _) hN hi (.inl hk) rfl (fun s5 I5=> ?_) (.inr hk)
 refine wpAny_mono (hs (.ref e) pins _ _ H' _ I5 hts) (fun f s6 q=> ?_) fun _ _ z=>False.elim z
 cases f with
 |next=>
  obtain ⟨σ6,H6,I6,q6⟩:=q
  exact gone_ok (I6.unhold I4.ok) hN hi hk fun s7 I7=>⟨_,H6,I7,q6⟩
 |brk=>
  obtain ⟨σ6,H6,I6,q6⟩:=q
  exact gone_ok (I6.unhold I4.ok) hN hi hk fun s7 I7=>⟨_,H6,I7,q6⟩
 |cont=>
  obtain ⟨σ6,H6,I6,q6⟩:=q
  exact gone_ok (I6.unhold I4.ok) hN hi hk fun s7 I7=>⟨_,H6,I7,q6⟩
 |ret u=>
  obtain ⟨v,σ6,H6,I6,r6,q6⟩:=q
  exact gone_ok (I6.unhold I4.ok) hN hi hk fun s7 I7=>⟨v,_,H6,I7,r6,q6⟩
end L2
namespace PySem
open Sem (wp)
open L2 (Tl XAt XGet)
section
variable {prog:Program} {w:World} {A:Around} {E:Value→Shared→Prop} {h:Heap} {g:Array GenState} {d:Drawn} {t:Nat} {os:OsState} {K:PySem.W.Frag} {x C:Addr} {bm:List Value} {ox:Obj} {od:Option Obj} {name:Str} {v:Value}
theorem classX_call {tk:Tok} {R:Result→Shared→Prop} (X:K.In h) (c:XAt K C bm) (I:PySem.W.InstAt h x ox C od) (hf:PySem.W.findObj K C od "__class__"=some (.bind (.builtin "getset_descriptor.__get__") (.builtin "object.__class__"))) (hm:PySem.W.mroIn K C (.type "object")=some true) (hq:R (.ok (.ret (.ref C))) ⟨h,g,d,t,os⟩):
  codeAny (model prog w) A (.call (.builtin "BaseException.__getattribute__") ⟨[.ref x,.str "__class__" tk],[]⟩) R ⟨h,g,d,t,os⟩:=by
 have L0:=I.type (M:=model prog w)
 have L1:=PySem.W.looks_find (M:=model prog w) X I hf
 refine codeAny_call_builtin PySem.F.attr_ValueError.ga.plain F.entry_bexc_ga (@PySem.W.check_slot (model prog w) _ _ ⟨h,g,d,t,os⟩ "BaseException.__getattribute__" "BaseException" "__getattribute__" (.ref x) [.str "__class__" tk] [] _ (by decide+kernel) (by decide+kernel) (isBaseX X c I (by decide+kernel)) (F.args_bexc_ga (.ref x) (.str "__class__" tk)) ?_)
 unfold Builtin.«object.__getattribute__»
 refine wpAny_bind (wpAny_pure (wpAny_bind (wpAny_pure (wpAny_bind (L0.at (wpAny_bind (L1.at ?_)))))))
 show wpAny _ _ (Builtin.ObjectAttr.bindTo (.builtin "getset_descriptor.__get__") (.builtin "object.__class__") (.ref x) (.ref C)) _ _ _
 unfold Builtin.ObjectAttr.bindTo
 refine wpAny_bind (wpAny_holding (wpAny_call (PySem.W.class_get (s:=⟨h,g,d,t,os⟩) X I hm ?_)))
 exact wpAny_pure hq
theorem classX {Q:Option Value→Shared→Prop} (X:K.In h) (c:XAt K C bm) (I:PySem.W.InstAt h x ox C od) (gt:XGet K C)
  (hf:PySem.W.findObj K C od "__class__"=some (.bind (.builtin "getset_descriptor.__get__") (.builtin "object.__class__"))) (hm:PySem.W.mroIn K C (.type "object")=some true) (hq:Q (some (.ref C)) ⟨h,g,d,t+1,os⟩):wpAny (model prog w) A (getAttr? (.ref x) "__class__") Q E ⟨h,g,d,t,os⟩:=by
 have L0:=I.type (M:=model prog w)
 have L1:=PySem.W.looks_findIn (M:=model prog w) X gt.ga
 have L2:=PySem.W.looks_findIn (M:=model prog w) X gt.gn
 have f3:=PySem.F.attr_ValueError.ga.bind (.ref x)
 have hx2:(Value.builtin "BaseException.__getattribute__"==Value.builtin "object.__getattribute__")=false:=by decide+kernel
 have hx1:(onTheHeap (Value.ref C) && Value.builtin "BaseException.__getattribute__"==Value.builtin "object.__getattribute__")=false:=by rw [hx2];rfl
 unfold getAttr? getAttrBy? getAttrBy
 refine wpAny_bind (wpAny_mkText (wpAny_bind (wpAny_attempt (wpAny_holding (wpAny_bind (L0.at (wpAny_bind (L1.at ?_))))))))
 dsimp only
 rw [if_neg (by rw [hx1];exact Bool.false_ne_true)]
 unfold getAttrByItsOwn
 refine wpAny_bind ?_
 show wpAny _ _ (typeLookup (Value.ref C) _) _ _ _
 refine L2.at (wpAny_bind (wpAny_attempt (wpAny_holding ?_)))
 unfold callGetattribute
 rw [if_neg (by simp)]
 unfold boundAndCalled
 rw [f3]
 refine wpAny_bind (wpAny_pure (wpAny_call (classX_call X c I hf hm ?_)))
 show wpAny _ _ (handedOut (.ref C)) _ _ _
 rw [PySem.W.handedOut_of rfl]
 exact wpAny_pure (wpAny_pure hq)
end
end PySem
namespace L2
open PySem PySem.Spec PyProof.Rows
structure XIsi (K:PySem.W.Frag) (C:Addr):Prop where
 ha:PySem.W.findIn K (.ref C) "__class__"=some (some (.builtin "object.__class__"))
 hn:PySem.W.specialIn K (.builtin "object.__class__") "__get__"=some (some (.builtin "getset_descriptor.__get__"))
 htk:PySem.W.takesIn K (.builtin "object.__class__")=some true
theorem XAt.mro {K:PySem.W.Frag} {C:Addr} {bm:List Value} (c:XAt K C bm) (base:Value):PySem.W.mroIn K C base=some ((Value.ref C::bm).contains base):=by
 obtain ⟨cd,hc,hcm,_⟩:=c.cls
 unfold PySem.W.mroIn
 rw [hc,Option.bind_some,hcm]
 rfl
theorem findObj_dataX {K:PySem.W.Frag} {C:Addr} {od:Option Obj} {name:Str} {a g:Value} {cd:ClassData} (hc:PySem.W.clsIn K C=some cd) (ha:PySem.W.findIn K (.ref C) name=some (some a)) (hg:PySem.W.specialIn K a "__get__"=some (some g)) (ht:PySem.W.takesIn K a=some true):PySem.W.findObj K C od name=some (.bind g a):=by
 unfold PySem.W.findObj
 rw [hc,Option.bind_some,ha,Option.bind_some]
 simp [hg,ht]
theorem kitx_exc {K:PySem.W.Frag} {x C:Addr} {bm:List Value} (c:XAt K C bm) (gt:XGet K C) (is:XIsi K C):PySem.W.KitX K (.ref x) (.ref C) (fun h=>∃ox od,PySem.W.InstAt h x ox C od) where
 ty:=fun _ _ _ ⟨_,_,I⟩=>I.type
 it:=fun _ _ X _=>by
  obtain ⟨nm,q,N,bs,sn,sub,ab,col,dd,k0,k1,k2,k3,k5,lk⟩:=c.at_
  intro A' Q' E' s' k q
  unfold isType loadHead
  exact wpAny_bind (wpAny_loadPart (k _ _ (X _ _ lk)) (wpAny_pure q))
 ne:=fun h tp dd its n sl X htp=>by
  obtain ⟨nm,q,N,bs,sn,sub,ab,col,dd',k0,k1,k2,k3,k5,lk⟩:=c.at_
  refine Bool.eq_false_iff.mpr fun z=> ?_
  have e:C=tp:=Value.ref.inj (beq_iff_eq.mp z)
  subst e
  have z:=congrArg Obj.data (Option.some.inj ((X _ _ lk).symm.trans htp))
  cases z
 ca:=fun {prog w A E Q s} X ⟨ox,od,I⟩ k=>by
  obtain ⟨hp,g,d,t,os⟩:=s
  have ho:(Value.ref C::bm).contains (.type "object")=true:=by rw [List.contains_cons,c.tl.has (by decide+kernel:vE.contains (.type "object")=true),Bool.or_true]
  obtain ⟨cd,hc,_,hd'⟩:=c.cls
  exact classX X c I gt (findObj_dataX hc is.ha is.hn is.htk) (by rw [c.mro,ho]) k
section
variable {X:Cx}
theorem inst_exc {pins:List (Addr×Obj)} {σ:St} {H:Hp} {s:Shared} {e C:Addr} {od:Option Addr} (I:Inv X pins σ H s) (he:H e=some (.ext (ExcO e C od))) (hd:∀d,od=some d→∃o,H d=some o):∃ox od',PySem.W.InstAt s.heap e ox C od':=by
 obtain ⟨⟨oe,vs,hx,hcl,hdn,hdat⟩,_,_⟩:=I.hok e _ he
 cases od with
 |none=>exact ⟨oe,none,hx,hcl,by unfold PySem.W.notCls;rw [hdat],by rw [hdn];trivial⟩
 |some d=>
  obtain ⟨o,ho⟩:=hd d rfl
  obtain ⟨u,hu⟩:=(I.hok d o ho).thereX
  exact ⟨oe,some u,hx,hcl,by unfold PySem.W.notCls;rw [hdat],by rw [hdn];exact hu⟩
inductive ClsV:V→Value→Prop
 |own (D:Addr):ClsV (.ref D) (.ref D)
 |ty (T:String):ClsV (.ty T) (.type T)
theorem ClsV.rel {y:V} {c u:Value} (h:ClsV y c) (r:RelV y u):u=c:=by
 cases h with
 |own D=>exact r
 |ty T=>exact r
def rIsX (K:PySem.W.Frag):List V→Hp→VK→Prop:=fun xs H Q=>∃(e C:Addr) (bm:List Value) (od:Option Addr) (y:V) (c:Value) (b:Bool),xs=[.ref e,y]∧H e=some (.ext (ExcO e C od))∧(∀d,od=some d→∃o,H d=some o)∧XAt K C bm∧XGet K C∧XIsi K C∧ClsV y c∧PySem.W.kitOne K (.ref C) c=some b∧Q (.bl b) H
theorem call_isX:CallR X (.builtin "isinstance") (rIsX X.K):=by
 intro pins s σ H xs us Q I r h
 obtain ⟨e,C,bm,od,y,c,b,rfl,he,hd,xa,xg,xi,cv,ek,q⟩:=h
 obtain ⟨u,v,rfl,rx,ry⟩:=vals2 r
 obtain rfl:u=Value.ref e:=rx
 obtain rfl:=cv.rel ry
 obtain ⟨ox,od',J⟩:=inst_exc I he hd
 exact PySem.W.kia_one (kitx_exc xa xg xi) I.kIn ⟨ox,od',J⟩ ek (fun z=>nomatch z) fun tk=>⟨.bl b,H,I.tok tk,rfl,q⟩
theorem vals_refsX:∀{Ds:List Addr} {its:List Value},Vals (Ds.map V.ref) its→its=Ds.map Value.ref
 |[],_,.nil=>rfl
 |a::Ds,_,.cons ru rr=>by rw [List.map_cons,←vals_refsX rr];cases ru;rfl
def rIsT (K:PySem.W.Frag):List V→Hp→VK→Prop:=fun xs H Q=>∃(e C tp:Addr) (bm:List Value) (od:Option Addr) (Ds:List Addr) (b:Bool),xs=[.ref e,.ref tp]∧H e=some (.ext (ExcO e C od))∧(∀d,od=some d→∃o,H d=some o)∧XAt K C bm∧XGet K C∧XIsi K C∧H tp=some (.tup (Ds.map V.ref))∧PySem.W.kitAny K (.ref C) (Ds.map Value.ref)=some b∧Q (.bl b) H
theorem call_isT:CallR X (.builtin "isinstance") (rIsT X.K):=by
 intro pins s σ H xs us Q I r h
 obtain ⟨e,C,tp,bm,od,Ds,b,rfl,he,hd,xa,xg,xi,ht,ek,q⟩:=h
 obtain ⟨u,v,rfl,rx,ry⟩:=vals2 r
 obtain rfl:u=Value.ref e:=rx
 obtain rfl:v=Value.ref tp:=ry
 obtain ⟨ox,od',J⟩:=inst_exc I he hd
 obtain ⟨_,its,rv,o,h1,h2,h3,n,h4⟩:=(show ObjOk X.prog X.w H s.heap tp (.tup (Ds.map V.ref)) from I.hok tp _ ht)
 have e1:=vals_refsX rv
 subst e1
 obtain ⟨oc,odd,oda,osl⟩:=o
 dsimp only at h2 h3 h4
 subst h2 h3 h4
 exact PySem.W.kia_tup (kitx_exc xa xg xi) I.kIn ⟨ox,od',J⟩ h1 ek (fun z=>nomatch z) fun tk=>⟨.bl b,H,I.tok tk,rfl,q⟩
end
theorem kit_self {K:PySem.W.Frag} {C:Addr}:PySem.W.kitOne K (.ref C) (.ref C)=some true:=by unfold PySem.W.kitOne;simp
theorem kit_own {K:PySem.W.Frag} {C D:Addr} {bm bmD:List Value} (c:XAt K C bm) (cD:XAt K D bmD):PySem.W.kitOne K (.ref C) (.ref D)=some ((Value.ref C::bm).contains (.ref D)):=by
 unfold PySem.W.kitOne
 by_cases h:C=D
 ·subst h;simp
 ·rw [if_neg (by simpa using h)]
  obtain ⟨nm,q,N,bs,sn,sub,ab,col,dd,k0,k1,k2,k3,k5,lk⟩:=cD.at_
  obtain ⟨cd,hc,_,_⟩:=cD.cls
  unfold PySem.W.kitCls
  have e1:PySem.W.typeIn K (.ref D)=some (.type "type"):=by show (K.lookup D).map (·.cls)=_;rw [lk];rfl
  dsimp only
  rw [hc,e1,if_pos (by simp)]
  exact c.mro _
theorem kit_val {K:PySem.W.Frag} {C:Addr} {bm:List Value} (c:XAt K C bm):PySem.W.kitOne K (.ref C) (.type "ValueError")=some true:=by
 unfold PySem.W.kitOne
 rw [if_neg (by simp)]
 unfold PySem.W.kitCls
 dsimp only
 rw [if_pos (by decide+kernel)]
 show PySem.W.mroIn K C (.type "ValueError")=some true
 rw [c.mro,List.contains_cons,c.tl.has (by decide+kernel:vE.contains (.type "ValueError")=true),Bool.or_true]
end L2
namespace L2
open PySem PySem.Spec PyProof.Rows
section
variable {X:Cx} {K:PySem.W.Frag} {T:String} {name:Str} {id:String} {r:V→List V→Hp→VK→Prop} {o e:Expr} {es:List Expr} {apos cpos:Pos} {to:TE} {t:TA}
theorem pe_bmK (hK:X.K=K) (pa:PlainAttrs T) (slot:Slot T name id) (hty:typeOf (.builtin id)=pure (.type "method_descriptor")) (hm:MtR X id r) (ho:PE X o to) (ha:PA X (e::es) t)
  (hbase:attributeBase o name X.env (eval o X.env)=eval o X.env:=by rfl)
  (hfew:((backTo cpos (starEach (e::es) X.env)).all (fun x=> !x.1) && (backToKw cpos (keywordEach [] X.env)).all (fun x=>x.1.isSome)
   && decide ((e::es).length+([]:List Keyword).length+(if ([]:List Keyword).isEmpty then 0 else 1)<30))=true:=by rfl)
  (hline:(apos.endLine==cpos.line)=true:=by rfl) (hs:starEach (e::es) X.env=(false,eval e X.env)::starEach es X.env:=by rfl) (hplain:(backTo cpos (starEach es X.env)).any (·.1)=false:=by rfl):
  PE X (.Call (.Attribute o name apos) (e::es) [] cpos) (tBM K T r to t):=by
 subst hK
 exact pe_bm pa slot hty hm ho ha hbase hfew hline hs hplain
theorem pe_xfK {f:Str} {pos:Pos} (hK:X.K=K) (he:PE X e to) (hb:attributeBase e f X.env (eval e X.env)=eval e X.env:=by rfl):PE X (.Attribute e f pos) (tXf K to f):=by
 subst hK
 exact pe_xf he hb
end
end L2
namespace L2
open PySem
end L2
namespace L2
open PySem PySem.Spec PyProof.Rows
theorem FnOk.or {P:Program} {w:World} {K:PySem.W.Frag} {mg:Str→Option Value} {base:Heap} {CX:CXT} {k:Nat} {f:Addr} {fd:FuncData} {ps:List Str} {sp sp':Sp} (F:FnOk P w K mg base CX k f fd ps sp) (G:FnOk P w K mg base CX k f fd ps sp'):
  FnOk P w K mg base CX k f fd ps fun vs H Q E=>sp vs H Q E∨sp' vs H Q E:=
 ⟨fun vs H Q E h=>h.elim (F.len vs H Q E) (G.len vs H Q E),fun A outer s H args us vs Q E hr he hb hv h=>h.elim (F.run A outer s H args us vs Q E hr he hb hv) (G.run A outer s H args us vs Q E hr he hb hv)⟩
end L2
namespace Srt
open PySem PySem.W PyProof.Rows L2
section
variable {prog:Program} {w:World} {A:Around} {E:Value→Shared→Prop} {s:Shared}
theorem eq_self {C:Bool→Shared→Prop} {u:Value} (h:C true s):wpAny (model prog w) A (eqBool u u) C E s:=by
 unfold eqBool
 try with_reducible refine wpAny_holding ?_
 rw [if_pos (beq_self_eq_true u)]
 exact wpAny_bind (wpAny_rule (wpAny_pure h))
theorem lex_self {b fin:Bool} {C:Bool→Shared→Prop} (h:C fin s):∀(us:List Value) (i:Nat),KatLex prog w A b fin C (us.zip us) i s
 |[],_=>h
 |u::us,i=>kat_cons (eq_self (kat_yes (lex_self h us (i+1))))
end
end Srt
namespace Srt
open PySem PySem.W PyProof.Rows L2
abbrev Pn:=Addr×Str×List V
def nRef (q:Pn):V:= .ref q.1
def d0:Pn:=(0,"",[])
def ltN (ps:List Pn) (i j:Nat):Bool:=ltK (.inr (ps.getD i d0).2.1) (.inr (ps.getD j d0).2.1)
theorem ord_nms (ps:List Pn):Ord (ltN ps) where
 asym:=fun a b h=>by
  unfold ltN at *
  generalize (Sum.inr (ps.getD a d0).2.1:Key)=x at *
  generalize (Sum.inr (ps.getD b d0).2.1:Key)=y at *
  cases e:ltK y x with
  |false=>rfl
  |true=>have:=ltK_tr h e;rw [ltK_irr] at this;cases this
 ntr:=fun a b c h1 h2=>by
  unfold ltN at *
  generalize (Sum.inr (ps.getD a d0).2.1:Key)=x at *
  generalize (Sum.inr (ps.getD b d0).2.1:Key)=y at *
  generalize (Sum.inr (ps.getD c d0).2.1:Key)=z at *
  cases e:ltK x z with
  |false=>rfl
  |true=>
   rcases ltK_tri _ _ h1 with r|r
   ·rw [r,h2] at e;cases e
   ·have:=ltK_tr r e;rw [h2] at this;cases this
theorem tups_nms {X:Cx} {pins:List (Addr×Obj)} {σ:L2.St} {H:Hp} {s:Shared} (I:Inv X pins σ H s):∀(ps:List Pn),(∀q∈ps,SqT X.K H q.1 (.str q.2.1::q.2.2))→
  ∃fs,KatTups s.heap (ps.map fun q=>Value.ref q.1) fs∧fs.length=ps.length∧∀v∈fs,∃i t,v=Value.str i t
 |[],_=>⟨[],trivial,rfl,fun v h=>nomatch h⟩
 |q::ps,h=>by
  obtain ⟨fs,t,l,f⟩:=tups_nms I ps (fun q hq=>h q (.tail _ hq))
  obtain ⟨its,rv,⟨o,ho,hc,n,hd⟩,hz⟩:=I.tuple (h q (.head _))
  cases rv with
  | @cons _ u _ us ru rr=>
   obtain ⟨tt,rfl⟩:=(show ∃t,u=Value.str q.2.1 t from ru)
   refine ⟨Value.str q.2.1 tt::fs,.cons ho hc hd (by simp) t,by simp [l],fun v hv=> ?_⟩
   rcases List.mem_cons.mp hv with rfl|hv
   ·exact ⟨_,_,rfl⟩
   ·exact f v hv
theorem sortN_core {X:Cx} {pins:List (Addr×Obj)} {σ:L2.St} {H:Hp} {s:Shared} (I:Inv X pins σ H s) {v:Value} {ps:List Pn} {Q:VK} (hT:∀q∈ps,SqT X.K H q.1 (.str q.2.1::q.2.2)) (hn:(ps.map (·.2.1)).Nodup) (h64:ps.length<64)
  (hcol:∀(Q:List Value→Shared→Prop),(∀h1 t1,(∀b o,s.heap.get? b=some o→h1.get? b=some o)→Q (ps.map fun q=>Value.ref q.1) {s with heap:=h1,toks:=t1})→wpAny (model X.prog X.w) X.A.in1 (collect v) Q X.xe s)
  (h:∀(l:Addr) (ps':List Pn),H l=none→ps'.Perm ps→ps'.Pairwise (fun a b=>¬b.2.1.cps.toList<a.2.1.cps.toList)→Q (.ref l) (upd H l (.lst (ps'.map nRef)))):
  wpAny (model X.prog X.w) X.A (call (.builtin "sorted") [v]) (EP X pins σ Q) X.xe s:=by
 have lz:(ps.map fun q=>Value.ref q.1).length=ps.length:=List.length_map ..
 refine sorted_raw (κ:=tuples' true) (ord_nms ps) (fun vs=>vs=ps.map fun q=>Value.ref q.1) (fun vs e=>by rw [e,lz];exact h64) (fun Q hq=>hcol Q fun h1 t1 k=>hq _ h1 t1 rfl k) ?_ ?_ ?_
 ·rintro vs h' t' rfl k l2 Q hq
  rw [lz] at l2
  have I':Inv X pins σ H {s with heap:=h',toks:=t'}:=I.kept k
  obtain ⟨fs,t,l,f⟩:=tups_nms I' ps hT
  refine kat_kind (s:={s with heap:=h',toks:=t'}) (T:=Value.type "str") t (by omega) (fun v hv=> ?_) rfl ?_
  ·obtain ⟨i,t,rfl⟩:=f v hv
   exact Looks.of_pure rfl
  ·have:(Value.type "str" !=Value.type "tuple")=true:=rfl
   rw [this];exact hq
 ·rintro vs h' t' rfl k i j C hi hj hC
  rw [lz] at hi hj
  have I':Inv X pins σ H {s with heap:=h',toks:=t'}:=I.kept k
  show wpAny _ _ (keyLt' _ ((ps.map fun q=>Value.ref q.1).getD i Value.none) ((ps.map fun q=>Value.ref q.1).getD j Value.none)) C _ _
  have ei:(ps.map fun q=>Value.ref q.1).getD i Value.none=Value.ref ps[i].1:=by simp [hi]
  have ej:(ps.map fun q=>Value.ref q.1).getD j Value.none=Value.ref ps[j].1:=by simp [hj]
  have fi:ps.getD i d0=ps[i]:=by simp [hi]
  have fj:ps.getD j d0=ps[j]:=by simp [hj]
  rw [ei,ej]
  unfold ltN at hC
  rw [fi,fj] at hC
  obtain ⟨ui,ri,⟨oi,hoi,hci,ni,hdi⟩,zi⟩:=I'.tuple (hT ps[i] (List.getElem_mem hi))
  by_cases hij:i=j
  ·subst hij
   refine kat_lt hoi hdi hoi hdi ?_
   have:decide (ui.toArray.size<ui.toArray.size)=false:=by simp
   rw [this]
   refine lex_self ?_ _ 0
   have z:ltK (.inr ps[i].2.1) (.inr ps[i].2.1)=false:=ltK_irr _
   rw [z] at hC;exact hC
  ·obtain ⟨uj,rj,⟨oj,hoj,hcj,nj,hdj⟩,zj⟩:=I'.tuple (hT ps[j] (List.getElem_mem hj))
   have ne:¬ps[i].2.1=ps[j].2.1:=fun e=>(by
    have pw:=List.pairwise_iff_getElem.mp hn
    rcases Nat.lt_or_gt_of_ne hij with q|q
    ·exact absurd (by rw [List.getElem_map,List.getElem_map];exact e) (pw i j (by simpa using hi) (by simpa using hj) q)
    ·exact absurd (by rw [List.getElem_map,List.getElem_map];exact e.symm) (pw j i (by simpa using hj) (by simpa using hi) q))
   refine kat_lt hoi hdi hoj hdj ?_
   cases ri with
   | @cons _ u _ us ru rr=>
    cases rj with
    | @cons _ u' _ us' ru' rr'=>
     obtain ⟨t1,rfl⟩:=(show ∃t,u=Value.str ps[i].2.1 t from ru)
     obtain ⟨t2,rfl⟩:=(show ∃t,u'=Value.str ps[j].2.1 t from ru')
     refine kat_cons (wpAny_eqBool_str ?_)
     have:decide (ps[i].2.1=ps[j].2.1)=false:=decide_eq_false ne
     rw [this]
     exact kat_no (oneLt_str hC)
 ·rintro vs p h1 h' t' l e rfl pm st k1 k zl hl
  have I:Inv X pins σ H {s with heap:=h1,toks:=t'}:=I.kept k1
  have pl:=pm.toList
  rw [lz] at pl pm st
  have hz:=pm.size
  have mem:∀i∈p.toList,i<ps.length:=fun i hi=>by simpa using pl.mem_iff.mp hi
  have e1:(p.toList.map fun i=>(ps.map fun q=>Value.ref q.1).getD i Value.none)=(p.toList.map fun i=>ps.getD i d0).map fun q=>Value.ref q.1:=by
   rw [List.map_map]
   refine List.map_congr_left fun i hi=> ?_
   have:=mem i hi
   simp [this]
  rw [e1] at hl
  have pp:(p.toList.map fun i=>ps.getD i d0).Perm ps:=by
   have:=pl.map (fun i=>ps.getD i d0)
   rwa [map_range_getD] at this
  have pw:(p.toList.map fun i=>ps.getD i d0).Pairwise (fun a b=>¬b.2.1.cps.toList<a.2.1.cps.toList):=by
   rw [List.pairwise_map]
   refine (st.pairwise hz).imp fun {a b} hab=> ?_
   unfold ltN ltK at hab
   exact of_decide_eq_false hab
  refine ⟨.ref l,_,I.laid (t':=t') (o:= .lst ((p.toList.map fun i=>ps.getD i d0).map nRef)) k zl ⟨?_,_,e,vals_map nRef (fun q=>Value.ref q.1) (fun _=>rfl) _,hl⟩,rfl,h l _ (I.hok.fresh zl) pp pw⟩
  rw [List.length_map,pp.length_eq,sizeLine_eq]
  omega
def rSortN (K:PySem.W.Frag):List V→Hp→VK→Prop:=fun xs H Q=>∃(p:Addr) (ps:List Pn),xs=[.ref p]∧SqL K H p (ps.map nRef)∧(∀q∈ps,SqT K H q.1 (.str q.2.1::q.2.2))∧(ps.map (·.2.1)).Nodup∧ps.length<64∧∀(l:Addr) (ps':List Pn),H l=none→ps'.Perm ps→ps'.Pairwise (fun a b=>¬b.2.1.cps.toList<a.2.1.cps.toList)→Q (.ref l) (upd H l (.lst (ps'.map nRef)))
theorem call_sortedN {X:Cx}:CallR X (.builtin "sorted") (rSortN X.K):=by
 intro pins s σ H xs us Q I r h
 obtain ⟨p,ps,rfl,hq,ok,nd,few,q⟩:=h
 obtain ⟨u,rfl,rx⟩:=vals1 r
 cases rx
 obtain ⟨its,rv,hp,hz⟩:=I.list hq
 have e:its=ps.map fun q=>Value.ref q.1:=by
  clear hq hp hz q r ok nd few
  induction ps generalizing its with
  |nil=>cases rv;rfl
  |cons a ps ih=>
   cases rv with
   |cons ru rr=>rw [List.map_cons,←ih _ rr];cases ru;rfl
 subst e
 refine sortN_core I ok nd few (fun Q hq=>collect_list hp.isList (hq _ _ fun b o ho=> ?_) (by rw [List.length_map,sizeLine_eq];omega)) q
 have hlt:b<s.heap.objs.size:=Heap.lt_size ho
 rw [Heap.get?_update_ne _ _ _ _ (Nat.ne_of_lt hlt)]
 exact Heap.get?_push_of_some _ ho
end Srt
namespace Srt
open PySem PySem.W PyProof.Rows L2
end Srt
namespace Srt
open PySem PySem.W PyProof.Rows L2
end Srt
namespace PySem
open Builtin
abbrev zL1 (h:Heap) (a:Addr):Heap:=h.push {cls:= .type "list_iterator",data:= .fields #[.ref a,.int 0 0]}
abbrev zL2 (h:Heap) (a b:Addr):Heap:=(zL1 h a).push {cls:= .type "list_iterator",data:= .fields #[.ref b,.int 0 0]}
abbrev zL3 (h:Heap) (a b:Addr):Heap:=(zL2 h a b).push {cls:= .type "tuple",data:= .seq #[.ref h.objs.size,.ref (zL1 h a).objs.size]}
abbrev zL4 (h:Heap) (a b:Addr):Heap:=(zL3 h a b).push {cls:= .type "tuple",data:= .seq #[.none,.none]}
abbrev zL5 (h:Heap) (a b:Addr):Heap:=(zL4 h a b).push {cls:= .type "zip",data:= .fields #[.none,.bool false,.bool false,.ref (zL2 h a b).objs.size,.ref (zL3 h a b).objs.size]}
theorem meets_zip_ll (a b:Addr) (xs ys:Array Value):
  Meets (Builtin.«zip.__new__» ⟨[.type "zip",.ref a,.ref b],[]⟩) (fun _ R s=>s.heap.IsList a xs∧s.heap.IsList b ys∧R (.ok (.ret (.ref (zL4 s.heap a b).objs.size))) {s with heap:=zL5 s.heap a b}):=
 .of_wp fun prog w A R s h=>by
  obtain ⟨hp,g,d,tk,os⟩:=s
  obtain ⟨ta,tb,h⟩:=h
  have hsub:=sub_zip
  have q1:Heap.IsList (Shared.heap ⟨hp,g,d,tk,os⟩) a xs:=ta
  have q2:Heap.IsList (Shared.heap ⟨hp.push {cls:= .type "list_iterator",data:= .fields #[.ref a,.int 0 0]},g,d,tk,os⟩) b ys:=let ⟨o,ho,r⟩:=tb;⟨o,Heap.get?_push_of_some _ ho,r⟩
  wp_walk using wpAny_pyIter_list q1,wpAny_pyIter_list q2
  exact ⟨_,rfl,h⟩
section
variable {prog:Program} {w:World} {A:Around} {E:Value→Shared→Prop} {s:Shared}
theorem call_zip_ll {a b:Addr} {xs ys:Array Value} {Q:Value→Shared→Prop} (ta:s.heap.IsList a xs) (tb:s.heap.IsList b ys)
  (h:∀h',IsZip h' (s.heap.objs.size+4) (s.heap.objs.size+2) (s.heap.objs.size+3) .none→IsPair h' (s.heap.objs.size+2) (.ref s.heap.objs.size) (.ref (s.heap.objs.size+1))→IsPair h' (s.heap.objs.size+3) .none .none→
   h'.IsListIter s.heap.objs.size a 0→h'.IsListIter (s.heap.objs.size+1) b 0→(∀c o,s.heap.get? c=some o→h'.get? c=some o)→Q (.ref (s.heap.objs.size+4)) {s with heap:=h'}):
  wpAny (model prog w) A (call (.type "zip") [.ref a,.ref b]) Q E s:=by
 refine callType_new F.called_zip (by decide) (F.typeCall_zip_2 _ _) (F.newCall_zip_2 _ _) (fun obj=>F.args_object_init_3 obj _ _) F.entry_zip_new (meets_zip_ll a b xs ys) ⟨ta,tb,?_⟩
 have y1:(zL1 s.heap a).objs.size=s.heap.objs.size+1:=Heap.size_push ..
 have y2:(zL2 s.heap a b).objs.size=s.heap.objs.size+2:=by rw [Heap.size_push,y1]
 have y3:(zL3 s.heap a b).objs.size=s.heap.objs.size+3:=by rw [Heap.size_push,y2]
 have y4:(zL4 s.heap a b).objs.size=s.heap.objs.size+4:=by rw [Heap.size_push,y3]
 have e5:(zL5 s.heap a b).get? (zL4 s.heap a b).objs.size=some _:=Heap.get?_push_size _ rfl
 have e4:(zL5 s.heap a b).get? (zL3 s.heap a b).objs.size=some _:=Heap.get?_push_of_some _ (Heap.get?_push_size _ rfl)
 have e3:(zL5 s.heap a b).get? (zL2 s.heap a b).objs.size=some _:=Heap.get?_push_of_some _ (Heap.get?_push_of_some _ (Heap.get?_push_size _ rfl))
 have e2:(zL5 s.heap a b).get? (zL1 s.heap a).objs.size=some _:=Heap.get?_push_of_some _ (Heap.get?_push_of_some _ (Heap.get?_push_of_some _ (Heap.get?_push_size _ rfl)))
 have e1:(zL5 s.heap a b).get? s.heap.objs.size=some _:=Heap.get?_push_of_some _ (Heap.get?_push_of_some _ (Heap.get?_push_of_some _ (Heap.get?_push_of_some _ (Heap.get?_push_size _ rfl))))
 show _∧_
 rw [y2,y3,y4] at e5
 rw [y1,y2] at e3
 rw [y3] at e4
 rw [y1] at e2
 rw [y4]
 refine ⟨⟨_,e5,rfl⟩,h _ e5 e3 e4 ⟨_,e1,rfl,rfl⟩ ⟨_,e2,rfl,rfl⟩ fun c o e=> ?_⟩
 exact Heap.get?_push_of_some _ (Heap.get?_push_of_some _ (Heap.get?_push_of_some _ (Heap.get?_push_of_some _ (Heap.get?_push_of_some _ e))))
end
end PySem
namespace L2
open PySem PySem.Spec PyProof.Rows
def ItzL (K:PySem.W.Frag) (a b:Addr):It:=
 ⟨fun i H=>∃xs ys x y,SqL K H a xs∧SqL K H b ys∧xs[i]? =some x∧ys[i]? =some y,fun i H v H'=>∃T x y,H T=none∧v= .ref T∧H'=upd H T (.tup [x,y])∧(∀xs,SqL K H a xs→xs[i]? =some x)∧∀ys,SqL K H b ys→ys[i]? =some y,
  fun i H=>∃xs ys,SqL K H a xs∧SqL K H b ys∧(i=xs.length∨(i<xs.length∧i=ys.length))⟩
theorem turn_zipL {P:Program} {w:World} {K:PySem.W.Frag} {elts:List Expr} {x1} {pos:Pos} (a b z TI TO i1 i2:Addr) (nd:[z,TI,TO,i1,i2].Nodup) (na:a ∉ [z,TI,TO,i1,i2]) (nb:b ∉ [z,TI,TO,i1,i2]):Turn P w K (.Tuple elts x1 pos) (ItzL K a b) [z,TI,TO,i1,i2] z
  (fun i h=>IsZip h z TI TO .none∧IsPair h TI (.ref i1) (.ref i2)∧(∃u v,IsPair h TO u v)∧h.IsListIter i1 a i∧h.IsListIter i2 b i) where
 mem:=by simp
 obj:=fun i h st c hc=>by
  obtain ⟨h1,h2,⟨u,v,h3⟩,⟨o4,g4,_,d4⟩,⟨o5,g5,_,d5⟩⟩:=st
  simp only [List.mem_cons,List.mem_nil_iff,or_false] at hc
  rcases hc with rfl|rfl|rfl|rfl|rfl
  ·exact ⟨_,h1,fun v q=>by cases q⟩
  ·exact ⟨_,h2,fun v q=>by cases q⟩
  ·exact ⟨_,h3,fun v q=>by cases q⟩
  ·exact ⟨_,g4,fun v q=>by rw [d4] at q;cases q⟩
  ·exact ⟨_,g5,fun v q=>by rw [d5] at q;cases q⟩
 keep:=fun i h h' st k=>by
  obtain ⟨h1,h2,⟨u,v,h3⟩,h4,h5⟩:=st
  exact ⟨k z (by simp) _ h1,k TI (by simp) _ h2,⟨u,v,k TO (by simp) _ h3⟩,h4.at fun o q=>k i1 (by simp) o q,h5.at fun o q=>k i2 (by simp) o q⟩
 item:=by
  intro X hP hw hK hc i pins s σ H E I hf st hg
  subst hP hw hK
  obtain ⟨hZ,pI,⟨u,v,pO⟩,t1,t2⟩:=st
  obtain ⟨xs,ys,x,y,ha,hb,hx,hy⟩:=hg
  obtain ⟨its,rv,p1,_⟩:=I.list ha
  obtain ⟨jts,rw',p2,_⟩:=I.list hb
  obtain ⟨ux,hux,rx⟩:=rv.get hx
  obtain ⟨uy,huy,ry⟩:=rw'.get hy
  have AP:=zap_of nd na nb
  have fresh:H s.heap.objs.size=none:=I.hok.fresh (Nat.le_refl _)
  have ltz:∀c∈[z,TI,TO,i1,i2],c≠s.heap.objs.size:=by
   intro c hc
   obtain ⟨o4,g4,_⟩:=id t1
   obtain ⟨o5,g5,_⟩:=id t2
   simp only [List.mem_cons,List.mem_nil_iff,or_false] at hc
   rcases hc with rfl|rfl|rfl|rfl|rfl
   ·exact Nat.ne_of_lt (Heap.lt_size hZ)
   ·exact Nat.ne_of_lt (Heap.lt_size pI)
   ·exact Nat.ne_of_lt (Heap.lt_size pO)
   ·exact Nat.ne_of_lt (Heap.lt_size g4)
   ·exact Nat.ne_of_lt (Heap.lt_size g5)
  refine pyNext_zip_itemD AP (Draws.list (A:=X.A.in1) (I.ok.hd hc) i1 a (fun q=>na (by simp [q])) its.toArray) (Draws.list (A:=X.A.in1) (I.ok.hd hc) i2 b (fun q=>nb (by simp [q])) jts.toArray) hZ pI pO ⟨t1,p1.isList⟩ ⟨t2,p2.isList⟩
   (by have:=(List.getElem?_eq_some_iff.mp hux).1;simpa using this) (by have:=(List.getElem?_eq_some_iff.mp huy).1;simpa using this) fun h' tk xv yv px py z' pO' s1' s2' pT kk=>⟨_,rfl,?_⟩
  have ex:ux=xv:=Option.some.inj (hux.symm.trans (by simpa using px))
  have ey:uy=yv:=Option.some.inj (huy.symm.trans (by simpa using py))
  subst ex ey
  refine wpAny_letOwnedTupleGo_zip (s:={s with heap:=h',toks:=tk}) z' fun h2 z2 sb=> ?_
  have I1:Inv X pins σ (upd H s.heap.objs.size (.tup [x,y])) {s with heap:=s.heap.push {cls:= .type "tuple",data:= .seq #[ux,uy]},toks:=s.toks}:=
   I.laid (o:= .tup [x,y]) (fun b ob q=>Heap.get?_push_of_some _ q) (Nat.le_refl _) ⟨by rw [sizeLine_eq];simp,[ux,uy],.cons rx (.cons ry .nil),IsTupN.new _ _⟩
  have I2:=I1.turnedL (h':=h2) (t':=tk) [z,TI,TO,i1,i2] (fun c o hc' q=> ?_) (fun c hc'=>(hf c hc').up (ltz c hc'))
  ·refine ⟨.ref s.heap.objs.size,_,I2,rfl,⟨_,x,y,fresh,rfl,rfl,fun ys' hy'=>by rw [I.list_inj hy' ha];exact hx,fun ys' hy'=>by rw [I.list_inj hy' hb];exact hy⟩,
    ⟨z2,(sb.2 TI AP.a1).trans (kk _ _ AP.a1 AP.a5 AP.a6 AP.a7 pI),⟨_,_,(sb.2 TO AP.a2).trans pO'⟩,s1'.1.at fun o q=>(sb.2 i1 AP.a3).trans q,s2'.1.at fun o q=>(sb.2 i2 AP.a4).trans q⟩,fun c hc'=> ?_⟩
   rw [Ah (ltz c hc')];exact (hf c hc').1
  ·have c1:c≠z:=fun q=>hc' (by simp [q])
   have c2:c≠TO:=fun q=>hc' (by simp [q])
   have c3:c≠i1:=fun q=>hc' (by simp [q])
   have c4:c≠i2:=fun q=>hc' (by simp [q])
   refine (sb.2 c c1).trans ?_
   by_cases hcs:c=s.heap.objs.size
   ·subst hcs
    rw [Heap.get?_push_size _ rfl] at q
    cases q
    exact pT
   ·rw [Heap.get?_push_ne _ _ _ hcs] at q
    exact kk c o c1 c2 c3 c4 q
 done:=by
  intro X hP hw hK hc i pins s σ H E I hf st hg
  subst hP hw hK
  obtain ⟨hZ,pI,⟨u,v,pO⟩,t1,t2⟩:=st
  obtain ⟨xs,ys,ha,hb,hend⟩:=hg
  obtain ⟨its,rv,p1,_⟩:=I.list ha
  obtain ⟨jts,rw',p2,_⟩:=I.list hb
  have AP:=zap_of nd na nb
  have l1:=rv.length
  have l2:=rw'.length
  refine pyNext_zip_endD AP (Draws.list (A:=X.A.in1) (I.ok.hd hc) i1 a (fun q=>na (by simp [q])) its.toArray) (Draws.list (A:=X.A.in1) (I.ok.hd hc) i2 b (fun q=>nb (by simp [q])) jts.toArray) hZ pI pO ⟨t1,p1.isList⟩ ⟨t2,p2.isList⟩
   (by simp only [List.size_toArray];omega) fun h' tk kk=>⟨rfl,I.turnedL (t':=tk) [z,TI,TO,i1,i2] (fun c o hc' q=> ?_) hf⟩
  exact kk c o (fun q=>hc' (by simp [q])) (fun q=>hc' (by simp [q])) (fun q=>hc' (by simp [q])) (fun q=>hc' (by simp [q])) q
 self:=fun A i s Q E st h=>wpAny_pyIter_zip st.1 h
def iZipL (K:PySem.W.Frag) (ta:TA):TI:=fun σ H R=>ta σ H fun vs H1=>∃a b xs ys,vs=[.ref a,.ref b]∧SqL K H1 a xs∧SqL K H1 b ys∧R (ItzL K a b) H1
theorem pi_zipL {X:Cx} {elts:List Expr} {x1} {tpos:Pos} {e1 e2:Expr} {ta:TA} {p pos:Pos} (hg:Gl X "zip") (hm:X.mg "zip"=none) (ha:PA X [e1,e2] ta) (hs:starEach [e1,e2] X.env=[(false,eval e1 X.env),(false,eval e2 X.env)]:=by rfl) (hs2:starEach [e2] X.env=[(false,eval e2 X.env)]:=by rfl):
  PI X (.Tuple elts x1 tpos) (.Call (.Name "zip" p) [e1,e2] [] pos) (iZipL X.K ta):=by
 intro pins s σ H R I h
 refine Call_ (ld_blt I hg hm (show bootBuiltins "zip"=some (.type "zip") by decide+kernel) (PyProof.Rows.callWith_type1 (thn (ha pos pins s σ H _ I h) fun us s1 ⟨vs,H1,I1,r1,q1⟩=> ?_) (by rw [hs,hs2]) (by rw [hs2];rfl)))
 obtain ⟨a,b,xs,ys,e,hqa,hqb,q⟩:=q1
 subst e
 cases r1 with
 |cons r rr=>
  cases rr with
  |cons r' rr=>
   cases rr
   cases r
   cases r'
   obtain ⟨its,rv,p1,_⟩:=I1.list hqa
   obtain ⟨jts,rw',p2,_⟩:=I1.list hqb
   refine call_zip_ll p1.isList p2.isList fun h' hZ pI pO t1 t2 kk=>wpAny_pyIter_zip hZ ?_
   obtain ⟨oa,ga,_⟩:=id p1.isList
   obtain ⟨ob,gb,_⟩:=id p2.isList
   have la:=Heap.lt_size ga
   have lb:=Heap.lt_size gb
   have big:∀c∈[s1.heap.objs.size+4,s1.heap.objs.size+2,s1.heap.objs.size+3,s1.heap.objs.size,s1.heap.objs.size+1],s1.heap.objs.size≤c:=by
    intro c hc
    simp only [List.mem_cons,List.mem_nil_iff,or_false] at hc
    rcases hc with rfl|rfl|rfl|rfl|rfl<;> first|exact Nat.le_add_right _ _|exact Nat.le_refl _
   refine ⟨s1.heap.objs.size+4,[s1.heap.objs.size+4,s1.heap.objs.size+2,s1.heap.objs.size+3,s1.heap.objs.size,s1.heap.objs.size+1],_,_,H1,rfl,I1.kept (t':=s1.toks) kk,
    turn_zipL a b _ _ _ _ _ ?_ (fun q=>Nat.lt_irrefl _ (Nat.lt_of_lt_of_le la (big _ q))) (fun q=>Nat.lt_irrefl _ (Nat.lt_of_lt_of_le lb (big _ q))),⟨hZ,pI,⟨_,_,pO⟩,t1,t2⟩,fun c hc=>I1.fpOk (big c hc) (I1.hok.fresh (big c hc)),q⟩
   generalize s1.heap.objs.size=n
   show List.Nodup ([n+4,n+2,n+3,n,n+1]:List Nat)
   simp
end L2
namespace K37
open PySem L2 Wk
def top (i:Nat):Stmt:=PySem.Challenge.pw_joinedever_k37_ties_not_kept_go.main.body.getD i (.Pass ⟨0,0,0,0⟩)
def meth (i j:Nat):Stmt:=match top i with
 | .ClassDef (body:=b) .. =>b.getD j (.Pass ⟨0,0,0,0⟩)
 |s=>s
abbrev sNInit:Stmt:=meth 3 0
abbrev sRowOf:Stmt:=top 14
abbrev sWithout:Stmt:=top 15
abbrev sGone:Stmt:=top 21
abbrev sMixed:Stmt:=top 23
abbrev sDeck:Stmt:=top 24
abbrev sTake:Stmt:=top 25
abbrev sNames:Stmt:=top 26
abbrev sMany:Stmt:=top 27
abbrev sWeight:Stmt:=top 28
abbrev sMerged:Stmt:=top 29
abbrev sLayered:Stmt:=top 30
abbrev sStand:Stmt:=top 31
abbrev sSame:Stmt:=top 32
abbrev sRefused:Stmt:=top 33
abbrev sLaw:Stmt:=top 34
structure Txt (K:PySem.W.Frag) (mg:Str→Option Value) (ZN ZJ ZB:Addr):Prop where
 xN:XCls K ZN (.ref ZB::vE)
 xB:XAt K ZB vE
 nW:NoAttr K ZN "word"
 iN:PySem.W.findIn K (.ref ZN) "__init__"=some (some (.ref ZJ))
 fN:PySem.W.isFn K (.ref ZJ)=true
 mgN:mg "NoDeed"=some (.ref ZN)
 mgB:mg "TieError"=some (.ref ZB)
 xg:XGet K ZN
 xi:XIsi K ZN
 oth:∃d1 d2 d3 d4:Addr,mg "NoHistory"=some (.ref d1)∧mg "NoMark"=some (.ref d2)∧mg "NoText"=some (.ref d3)∧mg "NoRow"=some (.ref d4)∧PySem.W.kitAny K (.ref ZN) [.ref d1,.ref d2,.ref d3,.ref d4]=some false
 isinstance:mg "isinstance"=none
 int:mg "int"=none
 bool:mg "bool"=none
 tuple:mg "tuple"=none
 len:mg "len"=none
 range:mg "range"=none
 sum:mg "sum"=none
 str:mg "str"=none
 max:mg "max"=none
 min:mg "min"=none
 zip:mg "zip"=none
 sorted:mg "sorted"=none
 list:mg "list"=none
 ValueError:mg "ValueError"=none
def NameOk (x:Str):Prop:=1≤x.length∧x.length≤8∧∀c∈x.cps.toList,97≤c∧c≤122
abbrev R6:=T4×Nat×Bool
def rowV (x:R6):List V:=tieV x.1++[.int (x.2.1:Int),.bl x.2.2]
def RowsAt (H:Hp) (rs:List Addr) (R:List R6):Prop:=rs.length=R.length∧∀(i:Nat) r x,rs[i]? =some r→R[i]? =some x→H r=some (.tup (rowV x))
theorem RowsAt.mono {H H':Hp} {rs:List Addr} {R:List R6} (h:RowsAt H rs R) (f:∀r xs,H r=some (.tup xs)→H' r=some (.tup xs)):RowsAt H' rs R:=⟨h.1,fun i r x a b=>f _ _ (h.2 i r x a b)⟩
theorem RowsAt.get {H:Hp} {rs:List Addr} {R:List R6} (h:RowsAt H rs R) {i:Nat} {r:Addr} (hr:rs[i]? =some r):∃x,R[i]? =some x∧H r=some (.tup (rowV x)):=by
 have hi:i<R.length:=by rw [←h.1];exact (List.getElem?_eq_some_iff.mp hr).1
 exact ⟨R[i],getq hi,h.2 i r _ hr (getq hi)⟩
def LayAt (H:Hp) (h:Addr) (N:Nat) (R:List R6):Prop:=∃(tp:Addr) (rs:List Addr),H h=some (.tup [.int (N:Int),.ref tp])∧H tp=some (.tup (rs.map V.ref))∧RowsAt H rs R
theorem RowsAt.snoc {H:Hp} {rs:List Addr} {R:List R6} {r:Addr} {x:R6} (h:RowsAt H rs R) (hr:H r=some (.tup (rowV x))):RowsAt H (rs++[r]) (R++[x]):=by
 refine ⟨by rw [List.length_append,List.length_append,h.1];rfl,fun i r0 p0 e1 e2=> ?_⟩
 rw [List.getElem?_append] at e1 e2
 rw [h.1] at e1
 split at e1
 ·rename_i z
  rw [if_pos z] at e2
  exact h.2 i r0 p0 e1 e2
 ·rename_i z
  rw [if_neg z] at e2
  have hz:i - R.length=0:=by
   have:=(List.getElem?_eq_some_iff.mp e1).1
   simp only [List.length_cons,List.length_nil] at this
   omega
  rw [hz] at e1 e2
  cases e1
  cases e2
  exact hr
def tailR (x:R6):List V:=[.int (x.1.2.1:Int),.int (x.1.2.2.1:Int),.int x.1.2.2.2,.int (x.2.1:Int),.bl x.2.2]
def pnOf (q:Addr×R6):Srt.Pn:=(q.1,q.2.1.1,tailR q.2)
theorem pn_ref {rs:List Addr} {R:List R6} (h:rs.length=R.length):((rs.zip R).map pnOf).map Srt.nRef=rs.map V.ref:=by
 rw [List.map_map]
 have e:(rs.zip R).map Prod.fst=rs:=List.map_fst_zip (Nat.le_of_eq h)
 conv=>rhs;rw [←e,List.map_map]
 rfl
theorem pn_nm {rs:List Addr} {R:List R6} (h:rs.length=R.length):((rs.zip R).map pnOf).map (·.2.1)=R.map (·.1.1):=by
 rw [List.map_map]
 have e:(rs.zip R).map Prod.snd=R:=List.map_snd_zip (Nat.le_of_eq h.symm)
 conv=>rhs;rw [←e,List.map_map]
 rfl
theorem RowsAt.zip {H:Hp} {rs:List Addr} {R:List R6} (h:RowsAt H rs R):∀q∈rs.zip R,H q.1=some (.tup (rowV q.2)):=fun q hq=>by
 obtain ⟨i,hi,e⟩:=List.getElem_of_mem hq
 rw [List.getElem_zip] at e
 rw [List.length_zip] at hi
 subst e
 exact h.2 i _ _ (getq (by omega)) (getq (by omega))
theorem RowsAt.unzip {H:Hp} {l:List (Addr×R6)} (h:∀q∈l,H q.1=some (.tup (rowV q.2))):RowsAt H (l.map (·.1)) (l.map (·.2)):=⟨by rw [List.length_map,List.length_map],fun i r x e1 e2=>by
 rw [List.getElem?_map] at e1 e2
 cases e:l[i]? with
 |none=>rw [e] at e1;cases e1
 |some q=>
  rw [e] at e1 e2
  cases e1
  cases e2
  exact h q (List.mem_of_getElem? e)⟩
theorem str_ext {x y:Str} (h:x.cps.toList=y.cps.toList):x=y:=by
 cases x;cases y;congr 1;exact Array.toList_inj.mp h
def UpP (R:List R6):Prop:=R.Pairwise fun x y=>x.1.1.cps.toList<y.1.1.cps.toList
structure XcAt (N:Addr) (H:Hp) (e:Addr) (v:V):Prop where
 ex:∃d,H e=some (.ext (ExcO e N (some d)))∧H d=some (.ext (XdO d [("word",v)]))
def spNInit (N:Addr):Sp:=fun vs H Q _=>∃(e:Addr) (v:V) (fs:Array Value),vs=[.ref e,v]∧H e=some (.ext (ExcV e N none fs))∧∀(d:Addr) (H':Hp),d≠e→(∀b o,H b=some o→b≠e→H' b=some o)→H' e=some (.ext (ExcV e N (some d) fs))→H' d=some (.ext (XdO d [("word",v)]))→Q .non H'
def dropN (R:List R6) (n:Str):List R6:=R.filter fun x=> !decide (x.1.1=n)
def spRowOf:Sp:=fun vs H Q _=>∃(tp:Addr) (rs:List Addr) (R:List R6) (n:Str),vs=[.ref tp,.str n]∧H tp=some (.tup (rs.map V.ref))∧RowsAt H rs R∧(∀(r:Addr) (x:R6),H r=some (.tup (rowV x))→x∈R→x.1.1=n→Q (.ref r) H)∧(n ∉ R.map (·.1.1)→Q .non H)
def spWithout:Sp:=fun vs H Q _=>∃(tp:Addr) (rs:List Addr) (R:List R6) (n:Str),vs=[.ref tp,.str n]∧H tp=some (.tup (rs.map V.ref))∧RowsAt H rs R∧R.length≤60∧∀(tq:Addr) (qs:List Addr) (H':Hp),Same H H'→H' tq=some (.tup (qs.map V.ref))→RowsAt H' qs (dropN R n)→Q (.ref tq) H'
def spGone:Sp:=fun vs H Q _=>∃(h:Addr) (N:Nat) (R:List R6) (n:Str),vs=[.ref h,.str n]∧LayAt H h N R∧R.length≤60∧(∀x∈R,x.1.1=n→x.2.2=false)∧n∈R.map (·.1.1)∧∀(g h' p:Addr) (H':Hp),Same H H'→H' g=some (.tup [.ref h',.ref p])→LayAt H' h' N (dropN R n)→H' p=some (.tup [])→Q (.ref g) H'
def spGoneX (K:PySem.W.Frag) (C:Addr):Sp:=fun vs H Q E=>∃(h:Addr) (N:Nat) (R:List R6) (n:Str),vs=[.ref h,.str n]∧LayAt H h N R∧n ∉ R.map (·.1.1)∧∀(e:Addr) (H':Hp),Same H H'→XcAt C H' e (.str "gone")→E (.ref C) (some e) H'
def spRefused:Sp:=fun vs H Q _=>∃(h:Addr) (N:Nat) (R:List R6) (n:Str),vs=[.ref h,.str n]∧LayAt H h N R∧n ∉ R.map (·.1.1)∧∀H',Same H H'→Q (.bl true) H'
theorem get_mem {R:List R6} {j:Nat} {y:R6} (h:R[j]? =some y):y∈R:=List.mem_of_getElem? h
section
variable {P:Program} {w:World} {K:PySem.W.Frag} {mg:Str→Option Value} {base:Heap} {ZN ZJ ZB:Addr}
theorem scNInit:Az ["self","word"] ["self","word"] (Ag sNInit):=⟨rfl,rfl,rfl,by decide+kernel,rfl,by decide+kernel,by decide+kernel⟩
theorem ok_NInit {f:Addr} {fd:FuncData} (F:Fun K "__init__" "NoDeed.__init__" sNInit f fd) (T:Txt K mg ZN ZJ ZB):
  FnOk P w K mg base CX0 1 f fd ["self","word"] (spNInit ZN):=by
 refine F.ok scNInit (fun vs H Q E h=> ?_) (fun cdv A outer s H vs Q E hr h=> ?_)
 ·obtain ⟨_,_,_,rfl,_⟩:=h;rfl
 ·obtain ⟨e,v,fs,rfl,he,k⟩:=h
  refine ⟨_,Aj (ps_xf (pv 0) (pv 1)),?_⟩
  refine ⟨_,rfl,_,rfl,e,ZN,_,fs,rfl,he,T.xN,T.nW,fun d hd hne=> ?_⟩
  refine k d _ hne (fun b o hb hbe=> ?_) (by rw [Ah hne.symm,Ab]) Ab
  have nd:b≠d:=Ai hb hd
  rw [Ah nd,Ah hbe,Ah nd];exact hb
theorem scRowOf:Az ["rows","name","row"] ["rows","name"] (Ag sRowOf):=⟨rfl,rfl,rfl,by decide+kernel,rfl,by decide+kernel,by decide+kernel⟩
theorem ok_RowOf {f:Addr} {fd:FuncData} (F:Fun K "row_of" "row_of" sRowOf f fd) (T:Txt K mg ZN ZJ ZB):
  FnOk P w K mg base CX0 1 f fd ["rows","name"] spRowOf:=by
 refine F.ok scRowOf (fun vs H Q E h=> ?_) (fun cdv A outer s H vs Q E hr h=> ?_)
 ·obtain ⟨_,_,_,_,rfl,_⟩:=h;rfl
 ·obtain ⟨tp,rs,R,n,rfl,ht,hR,k1,k2⟩:=h
  refine ⟨_,Ae (ps_for PassesOwn.never rfl (pi_tup (pv 0)) (Ao (i:=2) scRowOf.nd rfl (Or.inl rfl)) (Aj (Bk (Ar op_eq (A8 ix_tup (pv 2) Af (fun _ _=>rfl)) (pv 1) (Ap _)) (Aj (At (pv 2))) Au)))
   (Aj (At pe_non)),?_⟩
  refine ⟨_,rfl,tp,rfl,⟨_,SqT.of ht⟩,for_tup (K:=K) (a:=tp) (xs:=rs.map V.ref) (fun j σ H2=>∃u:Option V,σ=[some (.ref tp),some (.str n),u]∧H2=H∧n ∉ (R.take j).map (·.1.1)) ⟨none,rfl,rfl,by simp⟩ (fun j σ H2 _ ⟨_,_,e,_⟩=>SqT.of (e▸ht)) ?_ ?_⟩
  ·rintro j x σ H2 hx ⟨u,rfl,rfl,hn⟩
   obtain ⟨r,er,rfl⟩:=A1 hx
   obtain ⟨y,ey,hy⟩:=hR.get er
   refine ⟨_,rfl,r,_,0,_,rfl,rfl,SqT.of hy,Av (j:=0) rfl,_,rfl,rfl,_,rfl,ite2 (fun c=> ?_) fun c=> ?_⟩
   ·have c:y.1.1=n:=by simpa using c
    exact ⟨_,rfl,k1 r y hy (get_mem ey) c⟩
   ·have c:¬y.1.1=n:=by simpa using c
    refine ⟨_,rfl,rfl,?_⟩
    rw [List.take_add_one,ey,List.map_append,List.mem_append]
    rintro (z|z)
    ·exact hn z
    ·exact c (List.mem_singleton.mp z).symm
  rintro σ H2 ⟨u,rfl,rfl,hn⟩
  rw [List.length_map,hR.1,List.take_length] at hn
  exact k2 hn
theorem scWithout:Az ["rows","name"] ["rows","name"] (Ag sWithout):=⟨rfl,rfl,rfl,by decide+kernel,rfl,by decide+kernel,by decide+kernel⟩
theorem ok_Without {f:Addr} {fd:FuncData} (F:Fun K "rows_without" "rows_without" sWithout f fd) (T:Txt K mg ZN ZJ ZB):
  FnOk P w K mg base CX0 1 f fd ["rows","name"] spWithout:=by
 refine F.ok scWithout (fun vs H Q E h=> ?_) (fun cdv A outer s H vs Q E hr h=> ?_)
 ·obtain ⟨_,_,_,_,rfl,_⟩:=h;rfl
 ·obtain ⟨tp,rs,R,n,rfl,ht,hR,R60,k⟩:=h
  refine ⟨_,Aj (At (Bp call_tuple_of (by rfl) T.tuple (by decide+kernel) (Aa (pe_comp (T:=["row"]) (F:=["name"]) (js:=[1]) (CS.to (osc:=Ag sWithout) ⟨by rfl,by decide+kernel,by decide+kernel,by decide+kernel,by decide+kernel,by decide+kernel,by decide+kernel⟩ rfl rfl) rfl (pi_tup (pv 0)) (fun _ _ _ _ _=>Ao (i:=0) (show (["row","name"]:List Str).Nodup by decide+kernel) rfl (Or.inl rfl)) (fun _ _ _ _ _=>pif_one (Ar op_ne (A8 (r:=rIxT K) ix_tup (pv 0) Af (fun _ _=>rfl)) (pv 1) (Ap _))) (fun _ _ _ _ _=>pv 0)) Ac))),?_⟩
  refine ⟨_,rfl,tp,rfl,⟨_,SqT.of ht⟩,fun D hD=>comp_tup (K:=K) (a:=tp) (xs:=rs.map V.ref) (fun j σ ys H2=>∃(u:Option V) (qs:List Addr),σ=[u,some (.str n)]∧ys=qs.map V.ref∧Same H H2∧H2 D=some (.lst ys)∧RowsAt H2 qs (dropN (R.take j) n)) ⟨none,[],rfl,rfl,Ad hD,Ab,rfl,fun i r t e=>by simp at e⟩ (fun j σ ys H2 _ ⟨_,_,_,_,s,e,_⟩=>⟨SqT.of (s _ _ ht),e⟩) ?_ ?_⟩
  ·rintro j x σ ys H2 hx ⟨u,qs,rfl,rfl,s2,d2,p2⟩
   obtain ⟨r,er,rfl⟩:=A1 hx
   obtain ⟨y,ey,hy⟩:=hR.get er
   have h2:=s2 _ _ hy
   have ql:qs.length≤60:=by
    rw [p2.1]
    refine Nat.le_trans (List.length_filter_le _ _) ?_
    rw [List.length_take];omega
   have tk:R.take (j+1)=R.take j++[y]:=by rw [List.take_add_one,ey];rfl
   refine ⟨_,rfl,r,_,0,_,rfl,rfl,SqT.of h2,Av (j:=0) rfl,_,rfl,rfl,_,rfl,ite2 (fun c=> ?_) fun c=> ?_⟩
   ·have c:¬y.1.1=n:=by simpa using c
    have kp:∀(r:Addr) (zs:List V) (o:HO),H2 r=some (.tup zs)→upd H2 D o r=some (.tup zs):=fun r zs o e=>by rw [Ah (ne_of e d2 (by intro z;cases z))];exact e
    refine ⟨_,rfl,d2,Ak (by rw [List.length_map];omega),_,qs++[r],rfl,by rw [List.map_append];rfl,Bf s2 hD,Ab,?_⟩
    rw [tk]
    unfold dropN
    rw [List.filter_append,List.filter_cons_of_pos (by simpa using c)]
    exact (p2.mono fun r zs e=>kp r zs _ e).snoc (kp _ _ _ h2)
   ·have c:y.1.1=n:=by simpa using c
    refine ⟨_,qs,rfl,rfl,s2,d2,?_⟩
    rw [tk]
    unfold dropN
    rw [List.filter_append,List.filter_cons_of_neg (by simpa using c),List.filter_nil,List.append_nil]
    exact p2
  rintro σ ys H2 ⟨u,qs,rfl,rfl,s2,d2,p2⟩
  rw [List.length_map,hR.1,List.take_length] at p2
  refine ⟨D,_,rfl,.inl ⟨SqL.of d2,fun tq htq=> ?_⟩⟩
  exact k tq qs _ (s2.trans (Ad htq)) Ab (p2.mono fun r zs e=>Ad htq _ _ e)
theorem scGone:Az ["layers","name","many","rows","tie","paper","layer","told"] ["layers","name"] (Ag sGone):=⟨rfl,rfl,rfl,by decide+kernel,rfl,by decide+kernel,by decide+kernel⟩
theorem ok_Gone {f:Addr} {fd:FuncData} (F:Fun K "gone" "gone" sGone f fd) (T:Txt K mg ZN ZJ ZB)
  {gRowOf:Addr} {fRowOf:FuncData} (kRowOf:PySem.W.keepIn K (.ref gRowOf)=true) (bRowOf:Binds K fRowOf ["rows","name"] []) (hRowOf:mg "row_of"=some (.ref gRowOf)) (GRowOf:FnOk P w K mg base CX0 2 gRowOf fRowOf ["rows","name"] spRowOf)
  {gWithout:Addr} {fWithout:FuncData} (kWithout:PySem.W.keepIn K (.ref gWithout)=true) (bWithout:Binds K fWithout ["rows","name"] []) (hWithout:mg "rows_without"=some (.ref gWithout)) (GWithout:FnOk P w K mg base CX0 2 gWithout fWithout ["rows","name"] spWithout):
  FnOk P w K mg base CX0 3 f fd ["layers","name"] spGone:=by
 refine F.ok scGone (fun vs H Q E h=> ?_) (fun cdv A outer s H vs Q E hr h=> ?_)
 ·obtain ⟨_,_,_,_,rfl,_⟩:=h;rfl
 ·obtain ⟨h,N,R,n,rfl,⟨tp,rs,hh,ht,hR⟩,R60,nk,hn,k⟩:=h
  refine ⟨_,Ae (ps_asg (pv 0) (pg_tup rfl (A2 (Ao (i:=2) scGone.nd rfl (Or.inl rfl)) (A2 (Ao (i:=3) scGone.nd rfl (Or.inl rfl)) pgs_nil))))
   (Ae (Aq (i:=4) scGone.nd rfl (Or.inl rfl) (Am GRowOf hr rfl hRowOf kRowOf bRowOf .nil Ay (Aa (pv 3) (Aa (pv 1) Ac))))
   (Ae (Bk (Ar op_isN (pv 4) pe_non (Ap _)) (Aj ps_never) Au)
   (Ae (Aq (i:=3) scGone.nd rfl (Or.inl rfl) (Am GWithout hr rfl hWithout kWithout bWithout .nil Ay (Aa (pv 3) (Aa (pv 1) Ac))))
   (Ae (Bk (pt_not (pt_val (A8 ix_tup (pv 4) Af (fun _ _=>rfl)))) (Aj (At (A6 (Aa (A6 (Aa (pv 2) (Aa (pv 3) Ac))) (Aa (A6 Ac) Ac))))) Au)
   pss_never)))),?_⟩
  refine ⟨_,rfl,h,_,rfl,SqT.of hh,rfl,_,_,rfl,_,_,rfl,rfl,?_⟩
  refine ⟨_,rfl,_,rfl,tp,rs,R,n,rfl,ht,hR,fun r x hr0 hx xn=> ?_,fun z=>absurd hn z⟩
  refine ⟨_,rfl,rfl,_,rfl,iteF ?_⟩
  dsimp only [Bj]
  refine ⟨_,rfl,_,rfl,tp,rs,R,n,rfl,ht,hR,R60,fun tq qs H1 s1 e1 p1=> ?_⟩
  refine ⟨_,rfl,r,_,5,_,rfl,rfl,SqT.of (s1 _ _ hr0),Av (j:=5) rfl,_,rfl,?_⟩
  rw [nk x hx xn]
  refine iteT ?_
  refine ⟨_,rfl,_,rfl,small (by simp),fun u hu=>⟨small (by simp),fun p hp=>⟨small (by simp),fun g hg=> ?_⟩⟩⟩
  have s2:=Ad (o:= .tup [.int (N:Int),.ref tq]) hu
  have s3:=Ad (o:= .tup []) hp
  have s4:=Ad (o:= .tup [.ref u,.ref p]) hg
  exact k g u p _ (((s1.trans s2).trans s3).trans s4) Ab ⟨tq,qs,s4 _ _ (s3 _ _ Ab),s4 _ _ (s3 _ _ (s2 _ _ e1)),p1.mono fun r xs e=>s4 _ _ (s3 _ _ (s2 _ _ e))⟩ (s4 _ _ Ab)
theorem ok_GoneX {f:Addr} {fd:FuncData} (F:Fun K "gone" "gone" sGone f fd) (T:Txt K mg ZN ZJ ZB)
  {gRowOf:Addr} {fRowOf:FuncData} (kRowOf:PySem.W.keepIn K (.ref gRowOf)=true) (bRowOf:Binds K fRowOf ["rows","name"] []) (hRowOf:mg "row_of"=some (.ref gRowOf)) (GRowOf:FnOk P w K mg base CX0 2 gRowOf fRowOf ["rows","name"] spRowOf)
  {fNInit:FuncData} (bNInit:Binds K fNInit ["self","word"] []) (GNInit:FnOk P w K mg base CX0 1 ZJ fNInit ["self","word"] (spNInit ZN)):
  FnOk P w K mg base (CXU P w) 3 f fd ["layers","name"] (spGoneX K ZN):=by
 refine F.okX scGone (fun vs H Q E h=> ?_) (fun cdv A outer s H vs Q E hr h=> ?_)
 ·obtain ⟨_,_,_,_,rfl,_⟩:=h;rfl
 ·obtain ⟨h,N,R,n,rfl,⟨tp,rs,hh,ht,hR⟩,hn,k⟩:=h
  refine ⟨_,psxs_cons (psx_of (ps_asg (pv 0) (pg_tup rfl (A2 (Ao (i:=2) scGone.nd rfl (Or.inl rfl)) (A2 (Ao (i:=3) scGone.nd rfl (Or.inl rfl)) pgs_nil)))))
   (psxs_cons (psx_of (Aq (i:=4) scGone.nd rfl (Or.inl rfl) (Am GRowOf hr rfl hRowOf kRowOf bRowOf .nil Ay (Aa (pv 3) (Aa (pv 1) Ac)))))
   (psxs_cons (psx_if (Ar op_isN (pv 4) pe_non (Ap _)) (psxs_one (psx_raise T.xN T.iN T.fN GNInit (hr.mono (by decide)) rfl T.mgN bNInit (Aa A3 Ac))) psxs_nil) (psxs_of pss_never))),?_⟩
  refine ⟨_,rfl,h,_,rfl,SqT.of hh,rfl,_,_,rfl,_,_,rfl,rfl,?_⟩
  refine ⟨_,rfl,_,rfl,tp,rs,R,n,rfl,ht,hR,fun r x hr0 hx xn=>absurd (List.mem_map.mpr ⟨x,hx,xn⟩) hn,fun _=> ?_⟩
  refine ⟨_,rfl,rfl,_,rfl,iteT ⟨(show 1≤1000 by decide),fun ex tt hex=> ?_⟩⟩
  refine ⟨ex,.str "gone",_,rfl,Ab,fun d H' ned hk he hd=>⟨rfl,some d,he,?_⟩⟩
  refine k ex _ (fun b o hb=> ?_) ⟨d,Ab,by rw [Ah ned];exact hd⟩
  have nb:b≠ex:=Ai hb hex
  rw [Ah nb]
  exact hk b o (by rw [Ah nb];exact hb) nb
end
end K37
namespace K37
open PySem L2 Wk
theorem LayAt.same {H H':Hp} {h:Addr} {N:Nat} {R:List R6} (l:LayAt H h N R) (s:Same H H'):LayAt H' h N R:=by
 obtain ⟨tp,rs,a,b,c⟩:=l
 exact ⟨tp,rs,s _ _ a,s _ _ b,c.mono fun r xs e=>s _ _ e⟩
section
variable {P:Program} {w:World} {K:PySem.W.Frag} {mg:Str→Option Value} {base:Heap} {ZN ZJ ZB:Addr}
theorem scRefused:Az ["_law_layers","_law_name","_law_told","e"] ["_law_layers","_law_name"] (Ag sRefused):=⟨rfl,rfl,rfl,by decide+kernel,rfl,by decide+kernel,by decide+kernel⟩
theorem ok_Refused {f:Addr} {fd:FuncData} (F:Fun K "_law_refused" "_law_refused" sRefused f fd) (T:Txt K mg ZN ZJ ZB)
  {gGone:Addr} {fGone:FuncData} (kGone:PySem.W.keepIn K (.ref gGone)=true) (bGone:Binds K fGone ["layers","name"] []) (hGone:mg "gone"=some (.ref gGone)) (GGone:FnOk P w K mg base (CXU P w) 3 gGone fGone ["layers","name"] (spGoneX K ZN)):
  FnOk P w K mg base CX0 4 f fd ["_law_layers","_law_name"] spRefused:=by
 refine F.ok scRefused (fun vs H Q E h=> ?_) (fun cdv A outer s H vs Q E hr h=> ?_)
 ·obtain ⟨_,_,_,_,rfl,_⟩:=h;rfl
 ·obtain ⟨h,N,R,n,rfl,hl,hn,k⟩:=h
  obtain ⟨d1,d2,d3,d4,m1,m2,m3,m4,hkit⟩:=T.oth
  refine ⟨_,Ae (Aq (i:=2) scRefused.nd rfl (Or.inl rfl) (Bo Ac))
   (Ae (ps_tryAs (i:=3) (fun _ _ z=>z) rfl rfl (psxs_one (psx_expr (pex_call GGone hr rfl hGone kGone bGone (Aa (pv 0) (Aa (pv 1) Ac))))) T.xB (by rfl) T.mgB scRefused.nd rfl rfl (fun ev=>Ae (Aq (i:=2) scRefused.nd rfl (Or.inl rfl) (Bo (Aa (pe_and (An (r:=rIsX K) (call_isX) (by rfl) T.isinstance (by decide+kernel) (Aa (pv 3) (Aa (pe_glob (v:= .ref ZN) (by rfl) T.mgN rfl) Ac))) (pe_one (Bi op_eq (pe_xfK (K:=K) rfl (pv 3)) A3 (Ap _)))) (Aa (An (r:=rIsX K) (call_isX) (by rfl) T.isinstance (by decide+kernel) (Aa (pv 3) (Aa (pe_ty (T:="ValueError") (by rfl) T.ValueError (by decide+kernel)) Ac))) Ac))))
    (Aj (ps_expr (pe_bmK (K:=K) rfl PySem.F.plainAttrs_list PySem.F.slot_list_append PySem.F.type_list_append mt_append (pv 2) (Aa (pe_not (An (r:=rIsT K) (call_isT) (by rfl) T.isinstance (by decide+kernel) (Aa (pv 3) (Aa (A6 (Aa (pe_glob (v:= .ref d1) (by rfl) m1 rfl) (Aa (pe_glob (v:= .ref d2) (by rfl) m2 rfl) (Aa (pe_glob (v:= .ref d3) (by rfl) m3 rfl) (Aa (pe_glob (v:= .ref d4) (by rfl) m4 rfl) Ac))))) Ac)))) Ac))))))
   (Aj (At (Bi (op_eqs hr.units) (pv 2) (Bo (Aa pe_bl (Aa pe_bl (Aa pe_bl Ac)))) (Ap _))))),?_⟩
  refine ⟨small (by simp),fun D hD=> ?_⟩
  have s0:=Ad (o:= .lst []) hD
  refine ⟨_,rfl,_,rfl,h,N,R,n,rfl,hl.same s0,hn,fun e H1 s1 X=> ?_⟩
  have S1:=s0.trans s1
  obtain ⟨d,he,hd⟩:=id X.ex
  refine ⟨ZN,e,_,some d,rfl,rfl,T.xN.toXAt,by simp,he,?_⟩
  have hdd:∀{H2:Hp},Same H1 H2→∀d',some d=some d'→∃o,H2 d'=some o:=fun s d' z=>by cases z;exact ⟨_,s _ _ hd⟩
  refine ⟨_,rfl,e,ZN,_,some d,.ref ZN,.ref ZN,true,rfl,he,hdd (A9 _),T.xN.toXAt,T.xg,T.xi,.own ZN,kit_self,_,rfl,iteT ?_⟩
  refine ⟨_,rfl,e,ZN,d,_,_,.str "gone",rfl,he,hd,T.xN.toXAt,T.xg,T.nW,rfl,rfl,?_⟩
  rw [decide_eq_true rfl]
  refine ⟨_,rfl,e,ZN,_,some d,.ty "ValueError",.type "ValueError",true,rfl,he,hdd (A9 _),T.xN.toXAt,T.xg,T.xi,.ty _,kit_val T.xN.toXAt,small (by simp),fun L hL=> ?_⟩
  have s2:=Ad (o:= .lst [.bl true,.bl true]) hL
  have l2:=Ab (H:=H1) (a:=L) (o:= .lst [.bl true,.bl true])
  generalize upd H1 L (.lst [.bl true,.bl true])=H2 at s2 l2 ⊢
  refine ⟨_,rfl,.inl ⟨rfl,_,SqL.of l2⟩,_,rfl,small (by simp),fun tp htp=> ?_⟩
  have s3:=Ad (o:= .tup [.ref d1,.ref d2,.ref d3,.ref d4]) htp
  have t3:=Ab (H:=H2) (a:=tp) (o:= .tup [.ref d1,.ref d2,.ref d3,.ref d4])
  generalize upd H2 tp (.tup [.ref d1,.ref d2,.ref d3,.ref d4])=H3 at s3 t3 ⊢
  have S3:=s2.trans s3
  refine ⟨e,ZN,tp,_,some d,[d1,d2,d3,d4],false,rfl,S3 _ _ he,hdd S3,T.xN.toXAt,T.xg,T.xi,t3,hkit,_,rfl,?_⟩
  refine ⟨L,_,_,rfl,rfl,s3 _ _ l2,small (by simp),?_⟩
  have lL:H1 L=none:=hL
  have e4:=Ab (H:=H3) (a:=L) (o:= .lst [.bl true,.bl true,.bl true])
  have S4:Same H (upd H3 L (.lst [.bl true,.bl true,.bl true])):=Bf (S1.trans S3) (none_of S1 hL)
  refine ⟨_,rfl,small (by simp),fun M hM=> ?_⟩
  have s5:=Ad (o:= .lst [.bl true,.bl true,.bl true]) hM
  refine ⟨1,true,L,M,rfl,rfl,by decide,?_,k _ (S4.trans s5)⟩
  have fl:∀Hx:Hp,Eqs K Hx 1 (.bl true) (.bl true) true:=fun Hx=>by
   have:=Eqs.flat (K:=K) (H:=Hx) (n:=1) (show Flt (V.bl true) (.bl true)=true from rfl)
   rwa [decide_eq_true rfl] at this
  have q:=Eqs.seq (K:=K) (n:=1) (ds:=[true,true,true]) (es:=[true,true,true]) (.inr ⟨SqL.of (s5 _ _ e4),SqL.of Ab⟩) rfl rfl fun j p q d e hp hq hd he=>by
   match j,hp,hq,hd,he with
   |0,hp,hq,hd,he=>cases hp;cases hq;cases hd;cases he;rw [decide_eq_true rfl];exact fl _
   |1,hp,hq,hd,he=>cases hp;cases hq;cases hd;cases he;rw [decide_eq_true rfl];exact fl _
   |2,hp,hq,hd,he=>cases hp;cases hq;cases hd;cases he;rw [decide_eq_true rfl];exact fl _
   |j+3,hp,_,_,_=>cases hp
  rwa [decide_eq_true rfl] at q
end
end K37
namespace K37
open PySem L2 Wk
theorem cut_ints {ns:List Int} {lo hi:Option Int}:∃ms:List Int,cutV (ns.map V.int) lo hi=ms.map V.int∧ms.length≤ns.length:=by
 unfold cutV
 rw [List.length_map]
 exact ⟨_,by rw [←List.map_drop,←List.map_take],by simp;omega⟩
def kd (c:Addr) (S k g:Int):List (Key×V):=[(.inr "cells",.ref c),(.inr "seed",.int S),(.inr "turn",.int k),(.inr "great",.int g)]
theorem kd_c (c:Addr) (S k g:Int):valV (kd c S k g) (.inr "cells")=some (.ref c):=by
 unfold kd
 rfl
theorem kd_s (c:Addr) (S k g:Int):valV (kd c S k g) (.inr "seed")=some (.int S):=by
 unfold kd
 rfl
theorem kd_k (c:Addr) (S k g:Int):valV (kd c S k g) (.inr "turn")=some (.int k):=by
 unfold kd
 rfl
theorem kd_g (c:Addr) (S k g:Int):valV (kd c S k g) (.inr "great")=some (.int g):=by
 unfold kd
 rfl
theorem kd_putk (c:Addr) (S k g z:Int):putK (kd c S k g) (.inr "turn") (.int z)=kd c S z g:=by
 unfold kd
 rfl
theorem kd_putg (c:Addr) (S k g z:Int):putK (kd c S k g) (.inr "great") (.int z)=kd c S k z:=by
 unfold kd
 rfl
theorem kd_new (c:Addr) (S k g:Int):mergeK [] [(.inr "cells",.ref c),(.inr "seed",.int S),(.inr "turn",.int k),(.inr "great",.int g)]=kd c S k g:=by
 unfold kd
 rfl
def DeckAt (H:Hp) (d c:Addr):Prop:=∃(cs:List Int) (S k g:Int),H d=some (.dK (kd c S k g))∧H c=some (.lst (cs.map V.int))∧cs.length≤63∧d≠c
def But (d c:Addr) (H H':Hp):Prop:=∀b o,H b=some o→b≠d→b≠c→H' b=some o
theorem But.trans {d c:Addr} {H H1 H2:Hp} (h:But d c H H1) (h':But d c H1 H2):But d c H H2:=fun b o e n1 n2=>h' b o (h b o e n1 n2) n1 n2
theorem But.tup {d c:Addr} {H H':Hp} (h:But d c H H') (D:DeckAt H d c) {b:Addr} {xs:List V} (e:H b=some (.tup xs)):H' b=some (.tup xs):=by
 obtain ⟨_,_,_,_,h1,h2,_⟩:=D
 exact h b _ e (fun z=>by rw [z,h1] at e;cases e) fun z=>by rw [z,h2] at e;cases e
theorem DeckAt.same {H H':Hp} {d c:Addr} (h:DeckAt H d c) (s:Same H H'):DeckAt H' d c:=by
 obtain ⟨cs,S,k,g,h1,h2,r⟩:=h
 exact ⟨cs,S,k,g,s _ _ h1,s _ _ h2,r⟩
theorem DeckAt.nd {H:Hp} {d c b:Addr} (h:DeckAt H d c) (e:H b=none):b≠d:=by
 obtain ⟨_,_,_,_,h1,_⟩:=h
 exact (Ai h1 e).symm
theorem DeckAt.nc {H:Hp} {d c b:Addr} (h:DeckAt H d c) (e:H b=none):b≠c:=by
 obtain ⟨_,_,_,_,_,h2,_⟩:=h
 exact (Ai h2 e).symm
theorem But.of {d c:Addr} {H H':Hp} (s:Same H H'):But d c H H':=fun b o e _ _=>s b o e
def spDeck (K:PySem.W.Frag):Sp:=fun vs H Q _=>∃(s:Addr) (ns:List Int),vs=[.ref s]∧SqL K H s (ns.map V.int)∧ns.length≤63∧∀(d c:Addr) (H':Hp),Same H H'→DeckAt H' d c→Q (.ref d) H'
def spMixed:Sp:=fun vs H Q _=>∃c k:Int,vs=[.int c,.int k]∧∀v,Q (.int v) H
def spTake:Sp:=fun vs H Q _=>∃(d c:Addr) (m:Int),vs=[.ref d,.int m]∧DeckAt H d c∧0<m∧m<1073741824∧∀(v:Int) (H':Hp),0≤v→v<m→But d c H H'→DeckAt H' d c→Q (.int v) H'
def spMany:Sp:=fun vs H Q _=>∃d c:Addr,vs=[.ref d]∧DeckAt H d c∧∀(N:Nat) (H':Hp),1≤N→N≤24→But d c H H'→DeckAt H' d c→Q (.int (N:Int)) H'
def spWeight:Sp:=fun vs H Q _=>∃d c:Addr,vs=[.ref d]∧DeckAt H d c∧∀(v:Int) (H':Hp),0≤v→v≤1000000000→But d c H H'→DeckAt H' d c→Q (.int v) H'
section
variable {P:Program} {w:World} {K:PySem.W.Frag} {mg:Str→Option Value} {base:Heap} {ZN ZJ ZB:Addr}
theorem scMixed:Az ["_law_cell","_law_turn","_law_number"] ["_law_cell","_law_turn"] (Ag sMixed):=⟨rfl,rfl,rfl,by decide+kernel,rfl,by decide+kernel,by decide+kernel⟩
theorem ok_Mixed {f:Addr} {fd:FuncData} (F:Fun K "_law_mixed" "_law_mixed" sMixed f fd) (T:Txt K mg ZN ZJ ZB):
  FnOk P w K mg base CX0 1 f fd ["_law_cell","_law_turn"] spMixed:=by
 refine F.ok scMixed (fun vs H Q E h=> ?_) (fun cdv A outer s H vs Q E hr h=> ?_)
 ·obtain ⟨_,_,rfl,_⟩:=h;rfl
 ·obtain ⟨c,k0,rfl,k⟩:=h
  refine ⟨_,Ae (Aq (i:=2) scMixed.nd rfl (Or.inl rfl) (Al op_mod (Al op_mul (Al A7 (Al A7 (Al op_mod (pv 0) Af) (Al op_mul Af (pv 1))) Af) Af) Af))
   (Ae (Aq (i:=2) scMixed.nd rfl (Or.inl rfl) (Al op_mod (Al A7 (Al A7 (Al op_mul (pv 2) (pv 2)) (Al op_mul Af (pv 1))) (pv 2)) Af))
   (Aj (At (Al op_fdiv (pv 2) Af)))),?_⟩
  refine ⟨_,rfl,_,_,rfl,rfl,(show (0:Int)<2147483647 by decide),_,rfl,_,_,rfl,rfl,.inl ⟨by decide,by decide⟩,_,_,rfl,rfl,_,_,rfl,rfl,_,_,rfl,rfl,.inr ⟨by decide,by decide⟩,_,_,rfl,rfl,(show (0:Int)<2147483629 by decide),?_⟩
  dsimp only
  generalize (c % 2147483647+16807 * k0+3) * 48271=z1
  have y0:=Int.emod_nonneg z1 (show (2147483629:Int)≠0 by decide)
  have y1:=Int.emod_lt_of_pos z1 (show (0:Int)<2147483629 by decide)
  generalize z1 % 2147483629=z2 at y0 y1
  refine ⟨_,rfl,_,rfl,_,_,rfl,rfl,.inl ⟨by omega,by omega⟩,_,rfl,_,_,rfl,rfl,.inl ⟨by decide,by decide⟩,_,_,rfl,rfl,_,rfl,_,_,rfl,rfl,_,_,rfl,rfl,(show (0:Int)<2147483587 by decide),?_⟩
  exact ⟨_,rfl,_,_,rfl,rfl,⟨by decide,by decide⟩,k _⟩
theorem scDeck:Az ["_law_script","_law_cells","_law_seed"] ["_law_script"] (Ag sDeck):=⟨rfl,rfl,rfl,by decide+kernel,rfl,by decide+kernel,by decide+kernel⟩
theorem ok_Deck {f:Addr} {fd:FuncData} (F:Fun K "_law_deck" "_law_deck" sDeck f fd) (T:Txt K mg ZN ZJ ZB):
  FnOk P w K mg base CX0 1 f fd ["_law_script"] (spDeck K):=by
 refine F.ok scDeck (fun vs H Q E h=> ?_) (fun cdv A outer s H vs Q E hr h=> ?_)
 ·obtain ⟨_,_,rfl,_⟩:=h;rfl
 ·obtain ⟨s,ns,rfl,hS,hl,k⟩:=h
  refine ⟨_,Ae (Aq (i:=1) scDeck.nd rfl (Or.inl rfl) (Bp call_list_of (by rfl) T.list (by decide+kernel) (Aa (Bn sl_list (pv 0) po_none (Bh Af)) Ac)))
   (Ae (Aq (i:=2) scDeck.nd rfl (Or.inl rfl) (Al A7 (An (call_sum rfl) (by rfl) T.sum PyProof.Rows.boot_sum (Aa (pe_comp (T:=["_law_cell"]) (F:=[]) (js:=[]) (CS.to (osc:=Ag sDeck) ⟨by rfl,by decide+kernel,by decide+kernel,by decide+kernel,by decide+kernel,by decide+kernel,by decide+kernel⟩ rfl rfl) rfl (pi_list (pv 1)) (fun _ _ _ _ _=>Ao (i:=0) (show (["_law_cell"]:List Str).Nodup by decide+kernel) rfl (Or.inl rfl)) (fun _ _ _ _ _=>pif_nil) (fun _ _ _ _ _=>Al op_mod (pv 0) Af)) Ac)) (Al op_mul Af (An A4 (by rfl) T.len PySem.boot_len (Aa (pv 1) Ac)))))
   (Aj (At (pe_disp (pps_cons A3 (pe_rev (pv 1) (Bh (pe_un un_neg Af)) (fun o i=>[o,i]) (fun _ _=>by with_unfolding_all rfl)) (pps_cons A3 (pv 2) (pps_cons A3 Af (pps_cons A3 Af pps_nil)))) rfl rfl (by simp) (by simp))))),?_⟩
  obtain ⟨ms,em,lm⟩:=cut_ints (ns:=ns) (lo:=none) (hi:=some 63)
  refine ⟨_,rfl,_,rfl,s,_,rfl,hS,fun q hq=> ?_⟩
  rw [em]
  have s1:=Ad (o:= .lst (ms.map V.int)) hq
  have q1:=Ab (H:=H) (a:=q) (o:= .lst (ms.map V.int))
  generalize upd H q (.lst (ms.map V.int))=H1 at s1 q1
  refine ⟨q,_,rfl,.inl (SqL.of q1),fun cl hc=> ?_⟩
  have s2:=s1.trans (Ad (o:= .lst (ms.map V.int)) hc)
  have c2:=Ab (H:=H1) (a:=cl) (o:= .lst (ms.map V.int))
  generalize upd H1 cl (.lst (ms.map V.int))=H2 at s2 c2
  refine ⟨_,rfl,cl,rfl,⟨_,SqL.of c2⟩,fun D hD=>comp_list (K:=K) (a:=cl) (xs:=ms.map V.int) (fun j σ ys H3=>∃(u:Option V) (zs:List Int),σ=[u]∧ys=zs.map V.int∧Same H2 H3∧H3 D=some (.lst ys)∧zs.length=j) ⟨none,[],rfl,rfl,Ad hD,Ab,rfl⟩ (fun j σ ys H3 _ ⟨_,_,_,_,s,e,_⟩=>⟨SqL.of (s _ _ c2),e⟩) ?_ ?_⟩
  ·rintro j x σ ys H3 hx ⟨u,zs,rfl,rfl,s3,d3,zl⟩
   have jl:j<ms.length:=by have:=(List.getElem?_eq_some_iff.mp hx).1;rwa [List.length_map] at this
   obtain ⟨c,hc,rfl⟩:=A1 hx
   exact ⟨_,rfl,_,_,rfl,rfl,(by show (0:Int)<1000003;decide),d3,Ak (by simp;omega),_,zs++[c % 1000003],rfl,by simp,Bf s3 hD,Ab,by simp [zl]⟩
  rintro σ ys H3 ⟨u,zs,rfl,rfl,s3,d3,zl⟩
  have c3:=s3 _ _ c2
  refine ⟨D,zs,rfl,SqL.of d3,_,rfl,cl,_,rfl,.inl (SqL.of c3),_,_,rfl,rfl,.inl ⟨by decide,by decide⟩,_,_,rfl,rfl,?_⟩
  refine fun d hd=> ?_
  have s4:=Ad (o:= .dK []) hd
  have d4:=Ab (H:=H3) (a:=d) (o:= .dK [])
  have S4:=(s2.trans s3).trans s4
  have dn:H d=none:=none_of (s2.trans s3) hd
  generalize upd H3 d (.dK [])=H4 at s4 d4 S4
  refine ⟨_,rfl,_,rfl,_,rfl,rfl,cl,_,rfl,SqL.of (s4 _ _ c3),fun p hp=> ?_⟩
  have s5:=Ad (o:= .lst (ms.map V.int).reverse) hp
  have p5:=Ab (H:=H4) (a:=p) (o:= .lst (ms.map V.int).reverse)
  have dp:d≠p:=Ai d4 hp
  generalize upd H4 p (.lst (ms.map V.int).reverse)=H5 at s5 p5
  refine ⟨_,rfl,s5 _ _ d4,[(.inr "cells",.ref p),(.inr "seed",.int (zs.sum+7 * ((ms.map V.int).length:Int))),(.inr "turn",.int 0),(.inr "great",.int 0)],rfl,by simp,?_⟩
  rw [kd_new]
  have S5:=S4.trans s5
  refine k d p _ (fun b o e=> ?_) ⟨ms.reverse,_,0,0,Ab,by rw [Ah dp.symm,p5,List.map_reverse],by simp;omega,dp⟩
  rw [Ah (Ai e dn)]
  exact S5 _ _ e
theorem scTake:Az ["_law_deck_here","_law_most","_law_cell"] ["_law_deck_here","_law_most"] (Ag sTake):=⟨rfl,rfl,rfl,by decide+kernel,rfl,by decide+kernel,by decide+kernel⟩
theorem ok_Take {f:Addr} {fd:FuncData} (F:Fun K "_law_take" "_law_take" sTake f fd) (T:Txt K mg ZN ZJ ZB)
  {gMixed:Addr} {fMixed:FuncData} (kMixed:PySem.W.keepIn K (.ref gMixed)=true) (bMixed:Binds K fMixed ["_law_cell","_law_turn"] []) (hMixed:mg "_law_mixed"=some (.ref gMixed)) (GMixed:FnOk P w K mg base CX0 1 gMixed fMixed ["_law_cell","_law_turn"] spMixed):
  FnOk P w K mg base CX0 2 f fd ["_law_deck_here","_law_most"] spTake:=by
 refine F.ok scTake (fun vs H Q E h=> ?_) (fun cdv A outer s H vs Q E hr h=> ?_)
 ·obtain ⟨_,_,_,rfl,_⟩:=h;rfl
 ·obtain ⟨d,c,m,rfl,⟨cs,S,k0,g0,hd,hc,cl,ndc⟩,m0,m1,k⟩:=h
  refine ⟨_,Ae (Bk (Ar op_gt (pe_dget (hu_of hr) (pv 0) A3 (fun _ _=>rfl)) Af (Ap _)) (Ae (Aq (i:=2) scTake.nd rfl (Or.inl rfl) (pe_dget (hu_of hr) (pv 0) A3 (fun _ _=>rfl)))
   (Ae (ps_dput (hu_of hr) (pv 0) A3 (Al op_fdiv (pv 2) (pv 1)) rfl)
   (Aj (At (Al op_mod (pv 2) (pv 1)))))) Au)
   (Ae (ps_dput (hu_of hr) (pv 0) A3 (Al A7 (pe_dget (hu_of hr) (pv 0) A3 (fun _ _=>rfl)) Af) rfl)
   (Ae (Aq (i:=2) scTake.nd rfl (Or.inl rfl) (pe_dget (hu_of hr) (pv 0) A3 (fun _ _=>rfl)))
   (Ae (Bk (Ar (op_neNil hr.units) (pe_dget (hu_of hr) (pv 0) A3 (fun _ _=>rfl)) (Bo Ac) (Ap _)) (Aj (Aq (i:=2) scTake.nd rfl (Or.inl rfl) (pe_bm0 PySem.F.plainAttrs_list PySem.F.slot_list_pop PySem.F.type_list_pop mt_pop (pe_dget (hu_of hr) (pv 0) A3 (fun _ _=>rfl))))) Au)
   (Ae (Bk (Ar op_ge (pv 2) (Al op_pow Af Af) (Ap _)) (Ae (ps_dput (hu_of hr) (pv 0) A3 (Al op_fdiv (pv 2) (pv 1)) rfl)
   (Aj (At (Al op_mod (pv 2) (pv 1))))) Au)
   (Aj (At (Al op_mod (Am GMixed hr rfl hMixed kMixed bMixed .nil Ay (Aa (pv 2) (Aa (pe_dget (hu_of hr) (pv 0) A3 (fun _ _=>rfl)) Ac))) (pv 1)))))))),?_⟩
  have last:∀(v:Int) (H':Hp),But d c H H'→DeckAt H' d c→Q (.int (v % m)) H':=fun v H' b e=>k _ _ (Int.emod_nonneg _ (by omega)) (Int.emod_lt_of_pos _ m0) b e
  refine ⟨_,rfl,d,_,rfl,kd_g c S k0 g0▸DGet.k (k:= .inr "great") hd,_,_,rfl,rfl,_,rfl,ite2 (fun g=> ?_) fun g=> ?_⟩
  ·refine ⟨_,rfl,d,_,rfl,kd_g c S k0 g0▸DGet.k (k:= .inr "great") hd,?_⟩
   refine ⟨_,rfl,_,rfl,_,_,rfl,rfl,⟨m0,by omega⟩,_,rfl,d,_,rfl,.inl ⟨_,.inr "great",hd,rfl,Ak (by simp [kd]),rfl⟩,?_⟩
   rw [kd_putg]
   exact ⟨_,rfl,_,rfl,_,_,rfl,rfl,m0,last g0 _ (fun b o e n1 n2=>by rw [Ah n1];exact e) ⟨cs,_,_,_,Ab,by rw [Ah ndc.symm];exact hc,cl,ndc⟩⟩
  dsimp only [Bj]
  refine ⟨_,rfl,d,_,rfl,kd_k c S k0 g0▸DGet.k (k:= .inr "turn") hd,_,_,rfl,rfl,_,rfl,d,_,rfl,.inl ⟨_,.inr "turn",hd,rfl,Ak (by simp [kd]),rfl⟩,?_⟩
  rw [kd_putk]
  have d1:=Ab (H:=H) (a:=d) (o:= .dK (kd c S (k0+1) g0))
  have c1:upd H d (.dK (kd c S (k0+1) g0)) c=some (.lst (cs.map V.int)):=by rw [Ah ndc.symm];exact hc
  have b1:But d c H (upd H d (.dK (kd c S (k0+1) g0))):=fun b o e n1 n2=>by rw [Ah n1];exact e
  generalize upd H d (.dK (kd c S (k0+1) g0))=H1 at d1 c1 b1
  refine ⟨_,rfl,d,_,rfl,kd_s c S (k0+1) g0▸DGet.k (k:= .inr "seed") d1,?_⟩
  refine ⟨_,rfl,d,_,rfl,kd_c c S (k0+1) g0▸DGet.k (k:= .inr "cells") d1,small (by simp),fun q hq=> ?_⟩
  have s2:=Ad (o:= .lst []) hq
  have q2:=Ab (H:=H1) (a:=q) (o:= .lst [])
  generalize upd H1 q (.lst [])=H2 at s2 q2
  have d2:=s2 _ _ d1
  have c2:=s2 _ _ c1
  have b2:But d c H H2:=fun b o e n1 n2=>s2 _ _ (b1 b o e n1 n2)
  refine ⟨c,q,_,rfl,rfl,SqL.of c2,SqL.of q2,_,rfl,ite2 (fun g1=> ?_) fun g1=> ?_⟩
  ·have g1:cs≠[]:=fun z=>by subst z;simp at g1
   obtain ⟨cs',x,rfl⟩:∃cs' x,cs=cs'++[x]:=⟨cs.dropLast,cs.getLast g1,(List.dropLast_concat_getLast g1).symm⟩
   have lc:cs'.length≤63:=by simp at cl;omega
   refine ⟨_,rfl,d,_,rfl,kd_c c S (k0+1) g0▸DGet.k (k:= .inr "cells") d2,?_⟩
   refine ⟨.inl ⟨rfl,_,SqL.of c2⟩,c,_,.int x,rfl,rfl,c2,by simp,?_⟩
   generalize hH3:upd H2 c _=H3
   have c3:H3 c=some (.lst (cs'.map V.int)):=by
    rw [←hH3,Ab,List.map_append,List.map_cons,List.map_nil,List.dropLast_concat]
   have d3:H3 d=some (.dK (kd c S (k0+1) g0)):=by rw [←hH3,Ah ndc];exact d2
   have b3:But d c H H3:=fun b o e n1 n2=>by rw [←hH3,Ah n2];exact b2 b o e n1 n2
   clear hH3
   have b3:But d c H H3:=b3
   refine ⟨_,rfl,_,_,rfl,rfl,⟨by decide,by decide,by decide⟩,_,_,rfl,rfl,_,rfl,ite2 (fun g=> ?_) fun g=> ?_⟩
   ·refine ⟨_,rfl,_,rfl,_,_,rfl,rfl,⟨m0,by omega⟩,_,rfl,d,_,rfl,.inl ⟨_,.inr "great",d3,rfl,Ak (by simp [kd]),rfl⟩,?_⟩
    rw [kd_putg]
    exact ⟨_,rfl,_,rfl,_,_,rfl,rfl,m0,last x _ (fun b o e n1 n2=>by rw [Ah n1];exact b3 b o e n1 n2) ⟨cs',_,_,_,Ab,by rw [Ah ndc.symm];exact c3,lc,ndc⟩⟩
   ·dsimp only [Bj]
    exact ⟨_,rfl,_,rfl,d,_,rfl,kd_k c S (k0+1) g0▸DGet.k (k:= .inr "turn") d3,_,_,rfl,fun v=>⟨_,rfl,_,_,rfl,rfl,m0,last v _ b3 ⟨cs',_,_,_,d3,c3,lc,ndc⟩⟩⟩
  ·dsimp only [Bj]
   have lc:=cl
   have d3:=d2
   have c3:=c2
   have b3:=b2
   generalize H2=H3 at *
   generalize cs=cs' at *
   have b3:But d c H H3:=b3
   refine ⟨_,rfl,_,_,rfl,rfl,⟨by decide,by decide,by decide⟩,_,_,rfl,rfl,_,rfl,ite2 (fun g=> ?_) fun g=> ?_⟩
   ·refine ⟨_,rfl,_,rfl,_,_,rfl,rfl,⟨m0,by omega⟩,_,rfl,d,_,rfl,.inl ⟨_,.inr "great",d3,rfl,Ak (by simp [kd]),rfl⟩,?_⟩
    rw [kd_putg]
    exact ⟨_,rfl,_,rfl,_,_,rfl,rfl,m0,last _ _ (fun b o e n1 n2=>by rw [Ah n1];exact b3 b o e n1 n2) ⟨cs',_,_,_,Ab,by rw [Ah ndc.symm];exact c3,lc,ndc⟩⟩
   ·dsimp only [Bj]
    exact ⟨_,rfl,_,rfl,d,_,rfl,kd_k c S (k0+1) g0▸DGet.k (k:= .inr "turn") d3,_,_,rfl,fun v=>⟨_,rfl,_,_,rfl,rfl,m0,last v _ b3 ⟨cs',_,_,_,d3,c3,lc,ndc⟩⟩⟩
theorem scMany:Az ["_law_deck_here","_law_way"] ["_law_deck_here"] (Ag sMany):=⟨rfl,rfl,rfl,by decide+kernel,rfl,by decide+kernel,by decide+kernel⟩
theorem ok_Many {f:Addr} {fd:FuncData} (F:Fun K "_law_many" "_law_many" sMany f fd) (T:Txt K mg ZN ZJ ZB)
  {gTake:Addr} {fTake:FuncData} (kTake:PySem.W.keepIn K (.ref gTake)=true) (bTake:Binds K fTake ["_law_deck_here","_law_most"] []) (hTake:mg "_law_take"=some (.ref gTake)) (GTake:FnOk P w K mg base CX0 2 gTake fTake ["_law_deck_here","_law_most"] spTake):
  FnOk P w K mg base CX0 3 f fd ["_law_deck_here"] spMany:=by
 refine F.ok scMany (fun vs H Q E h=> ?_) (fun cdv A outer s H vs Q E hr h=> ?_)
 ·obtain ⟨_,_,rfl,_⟩:=h;rfl
 ·obtain ⟨d,c,rfl,hD,k⟩:=h
  refine ⟨_,Ae (Aq (i:=1) scMany.nd rfl (Or.inl rfl) (Am GTake hr rfl hTake kTake bTake .nil Ay (Aa (pv 0) (Aa Af Ac))))
   (Ae (Bk (Ar op_eq (pv 1) Af (Ap _)) (Aj (At Af)) Au)
   (Ae (Bk (Ar op_eq (pv 1) Af (Ap _)) (Aj (At (Al A7 Af (Am GTake hr rfl hTake kTake bTake .nil Ay (Aa (pv 0) (Aa Af Ac)))))) Au)
   (Aj (At (Al A7 Af (Am GTake hr rfl hTake kTake bTake .nil Ay (Aa (pv 0) (Aa (A8 A0 (Bo (Aa Af (Aa Af Ac))) (Bp call_int1 (by rfl) T.int (by decide+kernel) (Aa (Bi op_gt (pv 1) Af (Ap _)) Ac)) (fun _ _=>rfl)) Ac)))))))),?_⟩
  refine ⟨_,rfl,d,c,8,rfl,hD,by decide,by decide,fun v H1 v0 v1 b1 D1=> ?_⟩
  refine ⟨_,rfl,rfl,_,rfl,ite2 (fun g=> ?_) fun g=> ?_⟩
  ·exact k 24 _ (by decide) (by decide) b1 D1
  dsimp only [Bj]
  refine ⟨_,rfl,rfl,_,rfl,ite2 (fun g=> ?_) fun g=> ?_⟩
  ·refine ⟨_,rfl,d,c,4,rfl,D1,by decide,by decide,fun w H2 w0 w1 b2 D2=>⟨_,_,rfl,rfl,?_⟩⟩
   obtain ⟨w,rfl⟩:=Bl w0
   have q:=k (1+w) _ (by omega) (by omega) (b1.trans b2) D2
   rw [show ((1+w:Nat):Int)=1+(w:Int) by omega] at q
   exact q
  dsimp only [Bj]
  refine ⟨_,rfl,small (by simp),fun l hl=> ?_⟩
  have s2:=Ad (o:= .lst [.int 7,.int 15]) hl
  have l2:=Ab (H:=H1) (a:=l) (o:= .lst [.int 7,.int 15])
  generalize upd H1 l (.lst [.int 7,.int 15])=H2 at s2 l2
  have fin:∀m:Int,0<m→m≤15→∀(w:Int) (H':Hp),0≤w→w<m→But d c H2 H'→DeckAt H' d c→Q (.int (2+w)) H':=fun m m0 m1 w H' w0 w1 b2 D2=>by
   obtain ⟨w,rfl⟩:=Bl w0
   have q:=k (2+w) _ (by omega) (by omega) ((b1.trans (But.of s2)).trans b2) D2
   rw [show ((2+w:Nat):Int)=2+(w:Int) by omega] at q
   exact q
  refine ⟨_,rfl,_,_,rfl,rfl,.inr ⟨_,rfl,?_⟩⟩
  by_cases g3:(5:Int)<v
  ·rw [decide_eq_true g3]
   exact ⟨l,_,1,_,rfl,rfl,SqL.of l2,Av (j:=1) rfl,d,c,15,rfl,D1.same s2,by decide,by decide,fun w H3 w0 w1 b3 D3=>⟨_,_,rfl,rfl,fin 15 (by decide) (by decide) w H3 w0 w1 b3 D3⟩⟩
  ·rw [decide_eq_false g3]
   exact ⟨l,_,0,_,rfl,rfl,SqL.of l2,Av (j:=0) rfl,d,c,7,rfl,D1.same s2,by decide,by decide,fun w H3 w0 w1 b3 D3=>⟨_,_,rfl,rfl,fin 7 (by decide) (by decide) w H3 w0 w1 b3 D3⟩⟩
theorem scWeight:Az ["_law_deck_here","_law_way"] ["_law_deck_here"] (Ag sWeight):=⟨rfl,rfl,rfl,by decide+kernel,rfl,by decide+kernel,by decide+kernel⟩
theorem ok_Weight {f:Addr} {fd:FuncData} (F:Fun K "_law_weight" "_law_weight" sWeight f fd) (T:Txt K mg ZN ZJ ZB)
  {gTake:Addr} {fTake:FuncData} (kTake:PySem.W.keepIn K (.ref gTake)=true) (bTake:Binds K fTake ["_law_deck_here","_law_most"] []) (hTake:mg "_law_take"=some (.ref gTake)) (GTake:FnOk P w K mg base CX0 2 gTake fTake ["_law_deck_here","_law_most"] spTake):
  FnOk P w K mg base CX0 3 f fd ["_law_deck_here"] spWeight:=by
 refine F.ok scWeight (fun vs H Q E h=> ?_) (fun cdv A outer s H vs Q E hr h=> ?_)
 ·obtain ⟨_,_,rfl,_⟩:=h;rfl
 ·obtain ⟨d,c,rfl,hD,k⟩:=h
  refine ⟨_,Ae (Aq (i:=1) scWeight.nd rfl (Or.inl rfl) (Am GTake hr rfl hTake kTake bTake .nil Ay (Aa (pv 0) (Aa Af Ac))))
   (Ae (Bk (Ar op_lt (pv 1) Af (Ap _)) (Aj (At (A8 A0 (Bo (Aa Af (Aa (Al op_pow Af Af) (Aa Af Ac)))) (pv 1) (fun _ _=>rfl)))) Au)
   (Aj (At (Am GTake hr rfl hTake kTake bTake .nil Ay (Aa (pv 0) (Aa (Al A7 (Al op_pow Af Af) Af) Ac)))))),?_⟩
  refine ⟨_,rfl,d,c,4,rfl,hD,by decide,by decide,fun v H1 v0 v1 b1 D1=> ?_⟩
  refine ⟨_,rfl,_,_,rfl,rfl,_,rfl,ite2 (fun g=> ?_) fun g=> ?_⟩
  ·have g:v<3:=by simpa using g
   obtain ⟨v,rfl⟩:=Bl v0
   refine ⟨_,_,rfl,rfl,⟨by decide,by decide,by decide⟩,small (by simp),fun l hl=>⟨_,rfl,l,_,_,V.int ([0,1000000000,5].getD v 0),rfl,rfl,SqL.of Ab,Av ?_,?_⟩⟩
   ·have hv:v=0∨v=1∨v=2:=by omega
    rcases hv with rfl|rfl|rfl<;> rfl
   ·have hv:v=0∨v=1∨v=2:=by omega
    refine k _ _ ?_ ?_ (b1.trans (But.of (Ad hl))) (D1.same (Ad hl))
    ·rcases hv with rfl|rfl|rfl<;> decide
    ·rcases hv with rfl|rfl|rfl<;> decide
  dsimp only [Bj]
  refine ⟨_,rfl,_,_,rfl,rfl,⟨by decide,by decide,by decide⟩,_,_,rfl,rfl,d,c,1000000001,rfl,D1,by decide,by decide,fun w H2 w0 w1 b2 D2=>k w _ w0 (by omega) (b1.trans b2) D2⟩
end
end K37
namespace K37
open PySem L2 Wk
theorem slice_cs {z:Str} {j:Int} (h:0≤j∧j≤z.length):(Txt.slice z none (some j)).cps.toList=z.cps.toList.take j.toNat:=by
 have:=StrLaws.sliceText_to (x:=z) (j:=j) ⟨h.1,by rw [←len_cps];exact h.2⟩
 rw [show Txt.slice z none (some j)=StrLaws.sliceText z none (some j) from rfl,this,Int.sub_zero]
 simp
def NmT (f s st k:Nat) (z:Str):Prop:=z.cps.toList[0]? =some (97+(f+st * k) % 26)∧((z.cps.toList[1]? =none∧k<26)∨z.cps.toList[1]? =some (97+(s+k / 26) % 26))
theorem NmT.inj {f s st j k:Nat} {z:Str} (hs:st=1∨st=3∨st=5∨st=7) (a:NmT f s st j z) (b:NmT f s st k z) (jk:j<k) (k60:k<60):False:=by
 have e1:=Option.some.inj (a.1.symm.trans b.1)
 rcases b.2 with ⟨_,q⟩|q
 ·rcases hs with rfl|rfl|rfl|rfl<;> omega
 ·rcases a.2 with ⟨p,_⟩|p
  ·rw [p] at q;cases q
  ·have e2:=Option.some.inj (p.symm.trans q)
   rcases hs with rfl|rfl|rfl|rfl<;> omega
theorem NmT.nodup {f s st:Nat} {zs:List Str} (hs:st=1∨st=3∨st=5∨st=7) (h:∀(j:Nat) z,zs[j]? =some z→NmT f s st j z) (hl:zs.length≤60):zs.Nodup:=by
 rw [List.nodup_iff_pairwise_ne,List.pairwise_iff_getElem]
 intro i j hi hj hij e
 exact NmT.inj hs (h i _ (getq hi)) (by rw [e];exact h j _ (getq hj)) hij (by omega)
def spNames:Sp:=fun vs H Q _=>∃(d c:Addr) (M:Nat),vs=[.ref d,.int (M:Int)]∧DeckAt H d c∧M≤60∧∀(l:Addr) (zs:List Str) (H':Hp),But d c H H'→DeckAt H' d c→H l=none→H' l=some (.lst (zs.map V.str))→zs.length=M→zs.Nodup→(∀z∈zs,NameOk z)→Q (.ref l) H'
theorem But.none {d c:Addr} {H H':Hp} (h:But d c H H') (D:DeckAt H d c) (D':DeckAt H' d c) {b:Addr} (e:H' b=none):H b=none:=by
 cases g:H b with
 |none=>rfl
 |some o=>rw [h b o g (D'.nd e) (D'.nc e)] at e;cases e
theorem DeckAt.set {H:Hp} {d c b:Addr} {o:HO} (h:DeckAt H d c) (n1:b≠d) (n2:b≠c):DeckAt (upd H b o) d c:=by
 obtain ⟨cs,S,k,g,h1,h2,r⟩:=h
 exact ⟨cs,S,k,g,by rw [Ah n1.symm];exact h1,by rw [Ah n2.symm];exact h2,r⟩
theorem nm_cut {f s st i:Nat} {ws:List Nat} {nm:Str} {L:Int} (h:nm.cps.toList=(97+(f+st * i) % 26)::(97+(s+i / 26) % 26)::ws) (hw:ws.length=6) (wr:∀x∈ws,97≤x∧x≤122) (L1:1≤L) (L8:L≤8) (L2:25<i→2≤L):NmT f s st i (Txt.slice nm none (some L))∧NameOk (Txt.slice nm none (some L)):=by
 obtain ⟨n,rfl⟩:∃n:Nat,L=(n:Int):=⟨L.toNat,by omega⟩
 have len:nm.length=8:=by rw [len_cps,h,List.length_cons,List.length_cons,hw]
 have e:(Txt.slice nm none (some (n:Int))).cps.toList=nm.cps.toList.take n:=by rw [slice_cs ⟨by omega,by rw [len];omega⟩,Int.toNat_natCast]
 have el:(Txt.slice nm none (some (n:Int))).length=n:=by rw [len_cps,e,List.length_take,←len_cps,len];omega
 refine ⟨?_,by omega,by omega,fun c hc=> ?_⟩
 ·unfold NmT
  rw [e,h]
  obtain ⟨m,rfl⟩:∃m,n=m+1:=⟨n - 1,by omega⟩
  refine ⟨rfl,?_⟩
  cases m with
  |zero=>exact .inl ⟨rfl,by omega⟩
  |succ m=>exact .inr rfl
 ·rw [e] at hc
  have hm:=List.mem_of_mem_take hc
  rw [h,List.mem_cons,List.mem_cons] at hm
  rcases hm with rfl|rfl|hx
  ·omega
  ·omega
  ·exact wr c hx
section
variable {P:Program} {w:World} {K:PySem.W.Frag} {mg:Str→Option Value} {base:Heap} {ZN ZJ ZB:Addr}
theorem scNames:Az ["_law_deck_here","_law_many_here","_law_letters","_law_first","_law_second","_law_step","_law_cut","_law_wide","_law_tail","_law_found","_law_k","_law_front","_law_name"] ["_law_deck_here","_law_many_here"] (Ag sNames):=⟨rfl,rfl,rfl,by decide+kernel,rfl,by decide+kernel,by decide+kernel⟩
theorem ok_Names {f:Addr} {fd:FuncData} (F:Fun K "_law_names" "_law_names" sNames f fd) (T:Txt K mg ZN ZJ ZB)
  {gTake:Addr} {fTake:FuncData} (kTake:PySem.W.keepIn K (.ref gTake)=true) (bTake:Binds K fTake ["_law_deck_here","_law_most"] []) (hTake:mg "_law_take"=some (.ref gTake)) (GTake:FnOk P w K mg base CX0 2 gTake fTake ["_law_deck_here","_law_most"] spTake):
  FnOk P w K mg base CX0 3 f fd ["_law_deck_here","_law_many_here"] spNames:=by
 refine F.ok scNames (fun vs H Q E h=> ?_) (fun cdv A outer s H vs Q E hr h=> ?_)
 ·obtain ⟨_,_,_,rfl,_⟩:=h;rfl
 ·obtain ⟨d,c,M,rfl,hD,M60,k⟩:=h
  refine ⟨_,Ae (Aq (i:=2) scNames.nd rfl (Or.inr rfl) A3)
   (Ae (Aq (i:=3) scNames.nd rfl (Or.inl rfl) (Am GTake hr rfl hTake kTake bTake .nil Ay (Aa (pv 0) (Aa Af Ac))))
   (Ae (Aq (i:=4) scNames.nd rfl (Or.inl rfl) (Am GTake hr rfl hTake kTake bTake .nil Ay (Aa (pv 0) (Aa Af Ac))))
   (Ae (Aq (i:=5) scNames.nd rfl (Or.inl rfl) (A8 A0 (Bo (Aa Af (Aa Af (Aa Af (Aa Af Ac))))) (Am GTake hr rfl hTake kTake bTake .nil Ay (Aa (pv 0) (Aa Af Ac))) (fun _ _=>rfl)))
   (Ae (Aq (i:=6) scNames.nd rfl (Or.inl rfl) (Am GTake hr rfl hTake kTake bTake .nil Ay (Aa (pv 0) (Aa Af Ac))))
   (Ae (Aq (i:=7) scNames.nd rfl (Or.inl rfl) (Am GTake hr rfl hTake kTake bTake .nil Ay (Aa (pv 0) (Aa Af Ac))))
   (Ae (Aq (i:=8) scNames.nd rfl (Or.inl rfl) (pe_bm PySem.F.plainAttrs_str PySem.F.slot_str_join PySem.F.type_str_join mt_join A3 (Aa (pe_comp (T:=["_law_k"]) (F:=["_law_letters","_law_deck_here"]) (js:=[2,0]) (CS.to (osc:=Ag sNames) ⟨by rfl,by decide+kernel,by decide+kernel,by decide+kernel,by decide+kernel,by decide+kernel,by decide+kernel⟩ rfl rfl) rfl (pi_range1 rfl T.range (Aa Af Ac)) (fun _ _ _ _ _=>Ao (i:=0) (show (["_law_k","_law_letters","_law_deck_here"]:List Str).Nodup by decide+kernel) rfl (Or.inl rfl)) (fun _ _ _ _ _=>pif_nil) (fun _ _ _ _ _=>A8 ix_str (pv 1) (Am GTake hr rfl hTake kTake bTake .nil Ay (Aa (pv 2) (Aa Af Ac))) (fun _ _=>rfl))) Ac)))
   (Ae (Aq (i:=9) scNames.nd rfl (Or.inl rfl) (Bo Ac))
   (Ae (ps_for PassesOwn.never rfl (pi_range1 rfl T.range (Aa (pv 1) Ac)) (Ao (i:=10) scNames.nd rfl (Or.inl rfl)) (Ae (Aq (i:=11) scNames.nd rfl (Or.inl rfl) (A8 ix_str (pv 2) (Al op_mod (Al A7 (pv 3) (Al op_mul (pv 5) (pv 10))) Af) (fun _ _=>rfl)))
   (Ae (Aq (i:=12) scNames.nd rfl (Or.inl rfl) (Al op_add_str (Al op_add_str (pv 11) (A8 ix_str (pv 2) (Al op_mod (Al A7 (pv 4) (Al op_fdiv (pv 10) Af)) Af) (fun _ _=>rfl))) (pv 8)))
   (Aj (ps_expr (pe_bm PySem.F.plainAttrs_list PySem.F.slot_list_append PySem.F.type_list_append mt_append (pv 9) (Aa (Bn sl_str (pv 12) po_none (Bh (An (call_max2 rfl) (by rfl) T.max (by decide+kernel) (Aa (Al A7 Af (Bp call_int1 (by rfl) T.int (by decide+kernel) (Aa (Bi op_gt (pv 10) Af (Ap _)) Ac))) (Aa (Al A7 Af (Al op_mod (Al A7 (pv 6) (Al op_mul (pv 7) (pv 10))) Af)) Ac))))) Ac)))))))
   (Aj (At (pv 9))))))))))),?_⟩
  refine ⟨_,rfl,d,c,26,rfl,hD,by decide,by decide,fun f H1 f0 f1 b1 D1=>⟨_,rfl,d,c,26,rfl,D1,by decide,by decide,fun s2 H2 g0 g1 b2 D2=> ?_⟩⟩
  obtain ⟨f,rfl⟩:=Bl f0
  obtain ⟨s2,rfl⟩:=Bl g0
  have B2:=b1.trans b2
  clear b1 b2 D1 f0 g0
  refine ⟨small (by simp),fun l0 hl0=> ?_⟩
  have s3:=Ad (o:= .lst [.int 1,.int 3,.int 5,.int 7]) hl0
  have l3:=Ab (H:=H2) (a:=l0) (o:= .lst [.int 1,.int 3,.int 5,.int 7])
  have n3:l0≠d:=D2.nd hl0
  have n3':l0≠c:=D2.nc hl0
  have D3:=D2.same s3
  have B3:=B2.trans (But.of s3)
  clear B2
  generalize upd H2 l0 (.lst [.int 1,.int 3,.int 5,.int 7])=H3 at s3 l3 D3 B3
  refine ⟨_,rfl,d,c,4,rfl,D3,by decide,by decide,fun w H4 w0 w1 b4 D4=> ?_⟩
  obtain ⟨w,rfl⟩:=Bl w0
  have B4:=B3.trans b4
  have l4:=b4 _ _ l3 n3 n3'
  obtain ⟨st,est,hst⟩:∃st:Nat,([V.int 1,.int 3,.int 5,.int 7]:List V)[w]? =some (.int (st:Int))∧(st=1∨st=3∨st=5∨st=7):=by
   have hw:w=0∨w=1∨w=2∨w=3:=by omega
   rcases hw with rfl|rfl|rfl|rfl
   ·exact ⟨1,rfl,by decide⟩
   ·exact ⟨3,rfl,by decide⟩
   ·exact ⟨5,rfl,by decide⟩
   ·exact ⟨7,rfl,by decide⟩
  refine ⟨l0,_,_,_,rfl,rfl,SqL.of l4,Av est,?_⟩
  clear B3 b4 l3 l4 D3 s3 w0 w1 D2
  refine ⟨_,rfl,d,c,8,rfl,D4,by decide,by decide,fun cu H5 u0 u1 b5 D5=>⟨_,rfl,d,c,8,rfl,D5,by decide,by decide,fun wi H6 i0 i1 b6 D6=> ?_⟩⟩
  obtain ⟨cu,rfl⟩:=Bl u0
  obtain ⟨wi,rfl⟩:=Bl i0
  have B6:=(B4.trans b5).trans b6
  clear B4 b5 b6 D5 D4 u0 i0
  refine ⟨rfl,6,rfl,by decide,by decide,fun W hWn=>comp_range (lo:=0) (n:=6) (fun j σ ys H2=>∃(u:Option V) (ws:List Nat),σ=[u,some (.str LS),some (.ref d)]∧But d c H6 H2∧DeckAt H2 d c∧H2 W=some (.lst ys)∧ys=ws.map sg∧ws.length=j∧∀x∈ws,97≤x∧x≤122) ?_ (fun j σ ys H2 _ ⟨_,_,_,_,_,e,_⟩=>e) ?_ ?_⟩
  ·exact ⟨none,[],rfl,But.of (Ad hWn),D6.same (Ad hWn),Ab,rfl,rfl,by simp⟩
  ·rintro j σ ys H2 hj ⟨u,ws,rfl,b2,D2,e2,rfl,wl,wr⟩
   refine ⟨_,rfl,_,rfl,d,c,26,rfl,D2,by decide,by decide,fun x H3 x0 x1 b3 D3=> ?_⟩
   have e3:=b3 _ _ e2 (D6.nd hWn) (D6.nc hWn)
   refine ⟨_,x,_,rfl,rfl,small (by decide+kernel),LS_at x0 x1,e3,Ak (by simp;omega),_,ws++[97+x.toNat],rfl,fun b o e q1 q2=> ?_,?_,Ab,by rw [List.map_append];rfl,by simp [wl],?_⟩
   ·rw [Ah (Ai e hWn)];exact b3 _ _ (b2 _ _ e q1 q2) q1 q2
   ·exact D3.set (D6.nd hWn) (D6.nc hWn)
   ·intro y hy
    rcases List.mem_append.mp hy with hy|hy
    ·exact wr y hy
    ·rw [List.mem_singleton.mp hy];omega
  rintro σ ys H7 ⟨u,ws,rfl,b7,D7,e7,rfl,wl,wr⟩
  rw [sg_map] at e7
  refine ⟨Str.ofString "",W,_,rfl,rfl,SqL.of e7,?_,?_⟩
  ·rw [sg_sum,List.length_map];show _+_ * 0≤_;rw [wl];decide
  have hz:=join_cps ws
  generalize Txt.join (Str.ofString "") (ws.map fun c=>(⟨#[c]⟩:Str))=tl at hz
  have B7:=B6.trans b7
  have tl6:tl.length=6:=by rw [len_cps,hz,wl]
  refine ⟨small (by simp),fun l hl=> ?_⟩
  have s8:=Ad (o:= .lst []) hl
  have l8:=Ab (H:=H7) (a:=l) (o:= .lst [])
  generalize upd H7 l (.lst [])=H8 at s8 l8
  refine ⟨_,rfl,(M:Int),rfl,by omega,by omega,for_range (lo:=0) (n:=M) (fun i σ H5=>∃(u10 u11 u12:Option V) (zs:List Str),σ=[some (.ref d),some (.int (M:Int)),some (.str LS),some (.int (f:Int)),some (.int (s2:Int)),some (.int (st:Int)),some (.int (cu:Int)),some (.int (wi:Int)),some (.str tl),some (.ref l),u10,u11,u12]∧Same H7 H5∧H5 l=some (.lst (zs.map V.str))∧zs.length=i∧(∀(j:Nat) z,zs[j]? =some z→NmT f s2 st j z)∧∀z∈zs,NameOk z) ⟨_,_,_,[],rfl,s8,l8,rfl,fun j z e=>by simp at e,by simp⟩ ?_ ?_⟩
  ·rintro i σ H5 hi ⟨u10,u11,u12,zs,rfl,s5,l5,zl,zn,zo⟩
   have hi:i<M:=hi
   have m0:=Int.emod_nonneg ((f:Int)+(st:Int) * (0+(i:Int))) (show (26:Int)≠0 by decide)
   have m1:=Int.emod_lt_of_pos ((f:Int)+(st:Int) * (0+(i:Int))) (show (0:Int)<26 by decide)
   have p0:=Int.emod_nonneg ((s2:Int)+(0+(i:Int)) / 26) (show (26:Int)≠0 by decide)
   have p1:=Int.emod_lt_of_pos ((s2:Int)+(0+(i:Int)) / 26) (show (0:Int)<26 by decide)
   have c1:97+(((f:Int)+(st:Int) * (0+(i:Int))) % 26).toNat=97+(f+st * i) % 26:=by rcases hst with rfl|rfl|rfl|rfl<;> omega
   have c2:97+(((s2:Int)+(0+(i:Int)) / 26) % 26).toNat=97+(s2+i / 26) % 26:=by omega
   refine ⟨_,rfl,_,rfl,_,rfl,_,rfl,_,_,rfl,rfl,.inl ⟨by omega,by omega⟩,_,_,rfl,rfl,_,_,rfl,rfl,(by show (0:Int)<26;decide),LS,_,_,rfl,rfl,small (by decide+kernel),LS_at m0 m1,?_⟩
   rw [c1]
   refine ⟨_,rfl,_,rfl,_,rfl,_,rfl,_,_,rfl,rfl,⟨by decide,by decide⟩,_,_,rfl,rfl,_,_,rfl,rfl,(by show (0:Int)<26;decide),LS,_,_,rfl,rfl,small (by decide+kernel),LS_at p0 p1,_,_,rfl,rfl,(by show 1+1≤_;decide),_,rfl,_,_,rfl,rfl,?_,?_⟩
   ·rw [show ∀a b:Str,(a++b).length=(a++b).cps.toList.length from fun a b=>len_cps _,cat_cps,List.length_append,tl6];show 1+1+6≤_;decide
   rw [c2]
   have en:((⟨#[97+(f+st * i) % 26]⟩:Str)++(⟨#[97+(s2+i / 26) % 26]⟩:Str)++tl).cps.toList=(97+(f+st * i) % 26)::(97+(s2+i / 26) % 26)::ws:=by
    rw [cat_cps,cat_cps,hz];rfl
   generalize ((⟨#[97+(f+st * i) % 26]⟩:Str)++(⟨#[97+(s2+i / 26) % 26]⟩:Str)++tl)=nm at en
   have len:nm.length=8:=by rw [len_cps,en,List.length_cons,List.length_cons,wl]
   have y0:=Int.emod_nonneg ((cu:Int)+(wi:Int) * (0+(i:Int))) (show (8:Int)≠0 by decide)
   have y1:=Int.emod_lt_of_pos ((cu:Int)+(wi:Int) * (0+(i:Int))) (show (0:Int)<8 by decide)
   refine ⟨_,rfl,.inl ⟨rfl,_,SqL.of l5⟩,_,rfl,_,rfl,_,_,rfl,rfl,.inr ⟨_,rfl,_,_,rfl,rfl,_,rfl,_,rfl,_,rfl,_,_,rfl,rfl,.inl ⟨by omega,by omega⟩,_,_,rfl,rfl,_,_,rfl,rfl,(by show (0:Int)<8;decide),_,_,rfl,rfl,_,_,rfl,_,rfl,nm,rfl,by rw [len];decide,l,_,_,rfl,rfl,l5,Ak (by simp;omega),?_⟩⟩
   generalize ((cu:Int)+(wi:Int) * (0+(i:Int))) % 8=y at y0 y1 ⊢
   obtain ⟨n1,n2⟩:=nm_cut (L:=if 1+y > 1+(if decide ((25:Int)<0+(i:Int))=true then 1 else 0) then 1+y else 1+(if decide ((25:Int)<0+(i:Int))=true then 1 else 0)) en wl wr (by split<;> split<;> omega) (by split<;> split<;> omega) (fun h=>by
    rw [decide_eq_true (show (25:Int)<0+(i:Int) by omega),if_pos rfl];split<;> omega)
   refine ⟨_,_,_,zs++[_],rfl,Bf s5 hl,by rw [Ab,List.map_append];rfl,by simp [zl],fun j z e=> ?_,fun z hz=> ?_⟩
   ·rw [List.getElem?_append] at e
    split at e
    ·exact zn j z e
    ·have hj:j=i:=by
      have:=(List.getElem?_eq_some_iff.mp e).1
      simp at this;omega
     subst hj
     rw [show j - zs.length=0 by omega,List.getElem?_cons_zero] at e
     cases e
     exact n1
   ·rcases List.mem_append.mp hz with hz|hz
    ·exact zo z hz
    ·rw [List.mem_singleton.mp hz];exact n2
  rintro σ H5 ⟨u10,u11,u12,zs,rfl,s5,l5,zl,zn,zo⟩
  exact ⟨_,rfl,k l zs _ (B7.trans (But.of s5)) (D7.same s5) (B7.none hD D7 hl) l5 zl (NmT.nodup hst zn (by omega)) zo⟩
end
end K37
namespace K37
open PySem L2 Wk
abbrev M4:=Nat×Nat×Nat×Bool
def m4V (x:M4):List V:=[.int (x.1:Int),.int (x.2.1:Int),.int (x.2.2.1:Int),.bl x.2.2.2]
def M4At (H:Hp) (ts:List Addr) (T:List M4):Prop:=ts.length=T.length∧∀(i:Nat) r x,ts[i]? =some r→T[i]? =some x→H r=some (.tup (m4V x))
theorem M4At.mono {H H':Hp} {ts:List Addr} {T:List M4} (h:M4At H ts T) (f:∀r xs,H r=some (.tup xs)→H' r=some (.tup xs)):M4At H' ts T:=⟨h.1,fun i r x a b=>f _ _ (h.2 i r x a b)⟩
theorem M4At.get {H:Hp} {ts:List Addr} {T:List M4} (h:M4At H ts T) {i:Nat} {r:Addr} (hr:ts[i]? =some r):∃x,T[i]? =some x∧H r=some (.tup (m4V x)):=by
 have hi:i<T.length:=by rw [←h.1];exact (List.getElem?_eq_some_iff.mp hr).1
 exact ⟨T[i],getq hi,h.2 i r _ hr (getq hi)⟩
theorem M4At.snoc {H:Hp} {ts:List Addr} {T:List M4} {r:Addr} {x:M4} (h:M4At H ts T) (hr:H r=some (.tup (m4V x))):M4At H (ts++[r]) (T++[x]):=by
 refine ⟨by rw [List.length_append,List.length_append,h.1];rfl,fun i r0 p0 e1 e2=> ?_⟩
 rw [List.getElem?_append] at e1 e2
 rw [h.1] at e1
 split at e1
 ·rename_i z
  rw [if_pos z] at e2
  exact h.2 i r0 p0 e1 e2
 ·rename_i z
  rw [if_neg z] at e2
  have hz:i - T.length=0:=by
   have:=(List.getElem?_eq_some_iff.mp e1).1
   simp only [List.length_cons,List.length_nil] at this
   omega
  rw [hz] at e1 e2
  cases e1
  cases e2
  exact hr
def M4Ok (N:Nat) (x:M4):Prop:=x.1<N∧x.2.1<N∧x.1≠x.2.1∧x.2.2.1≤3
def PrsAt (H:Hp) (N:Nat) (qs:List Addr):Prop:=∀q∈qs,∃i j:Nat,i<N∧j<N∧H q=some (.tup [.int (i:Int),.int (j:Int)])
theorem PrsAt.mono {H H':Hp} {N:Nat} {qs:List Addr} (h:PrsAt H N qs) (f:∀r xs,H r=some (.tup xs)→H' r=some (.tup xs)):PrsAt H' N qs:=fun q hq=>by
 obtain ⟨i,j,a,b,e⟩:=h q hq
 exact ⟨i,j,a,b,f _ _ e⟩
theorem PrsAt.snoc {H:Hp} {N:Nat} {qs:List Addr} {r:Addr} {i j:Nat} (h:PrsAt H N qs) (hi:i<N) (hj:j<N) (e:H r=some (.tup [.int (i:Int),.int (j:Int)])):PrsAt H N (qs++[r]):=fun q hq=>by
 rcases List.mem_append.mp hq with hq|hq
 ·exact h q hq
 ·rw [List.mem_singleton.mp hq];exact ⟨i,j,hi,hj,e⟩
def But3 (d c ti:Addr) (H H':Hp):Prop:=∀b o,H b=some o→b≠d→b≠c→b≠ti→H' b=some o
theorem But3.trans {d c ti:Addr} {H H1 H2:Hp} (h:But3 d c ti H H1) (h':But3 d c ti H1 H2):But3 d c ti H H2:=fun b o e n1 n2 n3=>h' b o (h b o e n1 n2 n3) n1 n2 n3
theorem But.b3 {d c ti:Addr} {H H':Hp} (h:But d c H H'):But3 d c ti H H':=fun b o e n1 n2 _=>h b o e n1 n2
theorem But.tp {d c:Addr} {H H':Hp} (h:But d c H H') (D:DeckAt H d c):∀r xs,H r=some (.tup xs)→H' r=some (.tup xs):=fun r xs e=>h.tup D e
def MOut (d c ti lb:Addr) (N:Nat) (H:Hp) (m:Nat) (F:Addr→Hp→Prop):Prop:=∀(lb':Addr) (ls':List Int) (ts':List Addr) (T':List M4) (H':Hp),But3 d c ti H H'→DeckAt H' d c→H' lb'=some (.lst (ls'.map V.int))→ls'.length=N→H' ti=some (.lst (ts'.map V.ref))→M4At H' ts' T'→T'.length≤m→(∀x∈T',M4Ok N x)→(lb'=lb∨H lb'=none)→F lb' H'
theorem MOut.mono {d c ti lb:Addr} {N m:Nat} {H H':Hp} {F:Addr→Hp→Prop} (k:MOut d c ti lb N H m F) (b:But d c H H') (D:DeckAt H d c) (D':DeckAt H' d c):MOut d c ti lb N H' m F:=fun lb' ls' ts' T' H2 b3 D2 e l t M q o f=>k lb' ls' ts' T' H2 (b.b3.trans b3) D2 e l t M q o (f.imp_right fun z=>b.none D D' z)
def spMerged:Sp:=fun vs H Q _=>∃(d c lb ti:Addr) (N L:Nat) (Li rm:Int) (ls:List Int) (ts:List Addr) (T:List M4),vs=[.ref d,.int (N:Int),.int Li,.int rm,.ref lb,.ref ti]∧Li=(L:Int)∧DeckAt H d c∧1≤N∧N≤24∧L≤3∧H lb=some (.lst (ls.map V.int))∧ls.length=N∧lb≠d∧lb≠c∧H ti=some (.lst (ts.map V.ref))∧ti≠d∧ti≠c∧M4At H ts T∧T.length≤200∧(∀x∈T,M4Ok N x)∧MOut d c ti lb N H (T.length+N) fun r H'=>Q (.ref r) H'
def tPrs:TS:=fun D σ H=>∃(d c lb ti pr:Addr) (N L:Nat) (rm:Int) (ls:List Int) (ts qs:List Addr) (T:List M4),σ=[some (.ref d),some (.int (N:Int)),some (.int (L:Int)),some (.int rm),some (.ref lb),some (.ref ti),some (.ref pr),none,none,none,none,none]∧DeckAt H d c∧1≤N∧N≤24∧L≤3∧H lb=some (.lst (ls.map V.int))∧ls.length=N∧H ti=some (.lst (ts.map V.ref))∧ti≠d∧ti≠c∧M4At H ts T∧T.length≤200∧(∀x∈T,M4Ok N x)∧H pr=some (.lst (qs.map V.ref))∧pr≠ti∧PrsAt H N qs∧qs.length≤N∧MOut d c ti lb N H (T.length+N) fun r H'=>D.rt (.ref r) H'
theorem lb_ti {H:Hp} {lb ti:Addr} {ls:List Int} {ts:List Addr} (h1:H lb=some (.lst (ls.map V.int))) (h2:H ti=some (.lst (ts.map V.ref))) (h:1≤ls.length):lb≠ti:=fun z=>by
 rw [z,h2] at h1
 injection h1 with h1
 injection h1 with h1
 match ls,ts,h1,h with
 |[],_,_,h=>exact absurd h (by simp)
 |_::_,[],h1,_=>cases h1
 |_::_,_::_,h1,_=>cases h1
theorem ixL {xs:List Int} {i:Nat} (h:i<xs.length):(xs.map V.int)[i]? =some (.int xs[i]):=by rw [List.getElem?_map,getq h];rfl
section
variable {P:Program} {w:World} {K:PySem.W.Frag} {mg:Str→Option Value} {base:Heap} {ZN ZJ ZB:Addr}
theorem scMerged:Az ["_law_deck_here","_law_many_here","_law_layer","_law_room","_law_labels","_law_ties","_law_pairs","_law_one","_law_other","_law_size","_law_near","_law_far"] ["_law_deck_here","_law_many_here","_law_layer","_law_room","_law_labels","_law_ties"] (Ag sMerged):=⟨rfl,rfl,rfl,by decide+kernel,rfl,by decide+kernel,by decide+kernel⟩
theorem ok_Merged {f:Addr} {fd:FuncData} (F:Fun K "_law_merged" "_law_merged" sMerged f fd) (T:Txt K mg ZN ZJ ZB)
  {gTake:Addr} {fTake:FuncData} (kTake:PySem.W.keepIn K (.ref gTake)=true) (bTake:Binds K fTake ["_law_deck_here","_law_most"] []) (hTake:mg "_law_take"=some (.ref gTake)) (GTake:FnOk P w K mg base CX0 2 gTake fTake ["_law_deck_here","_law_most"] spTake):
  FnOk P w K mg base CX0 3 f fd ["_law_deck_here","_law_many_here","_law_layer","_law_room","_law_labels","_law_ties"] spMerged:=by
 refine F.ok scMerged (fun vs H Q E h=> ?_) (fun cdv A outer s H vs Q E hr h=> ?_)
 ·obtain ⟨_,_,_,_,_,_,_,_,_,_,_,rfl,_⟩:=h;rfl
 ·obtain ⟨d,c,lb,ti,N,L,Li,rm,ls,ts,T',rfl,rfl,hD,N1,N24,L3,hlb,lsl,nbd,nbc,hti,ntd,ntc,hT,T200,Tok,k⟩:=h
  refine ⟨_,Ae (ps_comp (i:=6) (T:=["_law_place"]) (F:=[]) (js:=[]) scMerged.nd rfl (Or.inl rfl) (CS.to (osc:=Ag sMerged) ⟨by rfl,by decide+kernel,by decide+kernel,by decide+kernel,by decide+kernel,by decide+kernel,by decide+kernel⟩ rfl rfl) rfl (pi_range1 rfl T.range (Aa (Al op_sub (pv 1) Af) Ac)) (fun _ _ _ _ _=>Ao (i:=0) (show (["_law_place"]:List Str).Nodup by decide+kernel) rfl (Or.inl rfl)) (fun _ _ _ _ _=>pif_nil) (fun _ _ _ _ _=>A6 (Aa (pv 0) (Aa (Al A7 (pv 0) Af) Ac))))
   (Ae (Bk (PW.pt (pw_or (Ar op_gt (pv 2) Af (Ap _)) (pw_or1 (Ar op_ne (Am GTake hr rfl hTake kTake bTake .nil Ay (Aa (pv 0) (Aa Af Ac))) Af (Ap _))))) (Aj (ps_comp (i:=6) (T:=["_law_turn"]) (F:=["_law_deck_here","_law_many_here"]) (js:=[0,1]) scMerged.nd rfl (Or.inl rfl) (CS.to (osc:=Ag sMerged) ⟨by rfl,by decide+kernel,by decide+kernel,by decide+kernel,by decide+kernel,by decide+kernel,by decide+kernel⟩ rfl rfl) rfl (pi_range1 rfl T.range (Aa (Am GTake hr rfl hTake kTake bTake .nil Ay (Aa (pv 0) (Aa (Al A7 (pv 1) Af) Ac))) Ac)) (fun _ _ _ _ _=>Ao (i:=0) (show (["_law_turn","_law_deck_here","_law_many_here"]:List Str).Nodup by decide+kernel) rfl (Or.inl rfl)) (fun _ _ _ _ _=>pif_nil) (fun _ _ _ _ _=>A6 (Aa (Am GTake hr rfl hTake kTake bTake .nil Ay (Aa (pv 1) (Aa (pv 2) Ac))) (Aa (Am GTake hr rfl hTake kTake bTake .nil Ay (Aa (pv 1) (Aa (pv 2) Ac))) Ac))))) Au)
   (PSs.imp' (t':=tPrs) (Ae (ps_for PassesOwn.never rfl (pi_list (pv 6)) (pg_tup rfl (A2 (Ao (i:=7) scMerged.nd rfl (Or.inl rfl)) (A2 (Ao (i:=8) scMerged.nd rfl (Or.inl rfl)) pgs_nil))) (Ae (Aq (i:=9) scMerged.nd rfl (Or.inl rfl) (Al A7 (pe_bm PySem.F.plainAttrs_list PySem.F.slot_list_count PySem.F.type_list_count mt_countL (pv 4) (Aa (A8 A0 (pv 4) (pv 7) (fun _ _=>rfl)) Ac)) (pe_bm PySem.F.plainAttrs_list PySem.F.slot_list_count PySem.F.type_list_count mt_countL (pv 4) (Aa (A8 A0 (pv 4) (pv 8) (fun _ _=>rfl)) Ac))))
   (Aj (Bk (PW.pt (pw_and (Ar op_ne (A8 A0 (pv 4) (pv 7) (fun _ _=>rfl)) (A8 A0 (pv 4) (pv 8) (fun _ _=>rfl)) (Ap _)) (pw_and1 (Ar op_le (pv 9) (pv 3) (Ap _))))) (Ae (ps_expr (pe_bm PySem.F.plainAttrs_list PySem.F.slot_list_append PySem.F.type_list_append mt_append (pv 5) (Aa (A6 (Aa (pv 7) (Aa (pv 8) (Aa (pv 2) (Aa pe_bl Ac))))) Ac)))
   (Ae (ps_asg (A6 (Aa (A8 A0 (pv 4) (pv 7) (fun _ _=>rfl)) (Aa (A8 A0 (pv 4) (pv 8) (fun _ _=>rfl)) Ac))) (pg_tup rfl (A2 (Ao (i:=10) scMerged.nd rfl (Or.inr rfl)) (A2 (Ao (i:=11) scMerged.nd rfl (Or.inr rfl)) pgs_nil))))
   (Aj (ps_comp (i:=4) (T:=["_law_label"]) (F:=["_law_near","_law_far"]) (js:=[10,11]) scMerged.nd rfl (Or.inl rfl) (CS.to (osc:=Ag sMerged) ⟨by rfl,by decide+kernel,by decide+kernel,by decide+kernel,by decide+kernel,by decide+kernel,by decide+kernel⟩ rfl rfl) rfl (pi_list (pv 4)) (fun _ _ _ _ _=>Ao (i:=0) (show (["_law_label","_law_near","_law_far"]:List Str).Nodup by decide+kernel) rfl (Or.inl rfl)) (fun _ _ _ _ _=>pif_nil) (fun _ _ _ _ _=>pe_ifExp (Ar op_eq (pv 0) (pv 2) (Ap _)) (pv 1) (pv 0)))))) Au))))
   (Aj (At (pv 4)))) ?prs)),?_⟩
  case prs=>
   clear k hD hlb hti hT
   rintro Dd σ H ⟨d,c,lb,ti,pr,N,L,rm,ls,ts,qs,T,rfl,hD,N1,N24,L3,hlb,lsl,hti,ntd,ntc,hT,T200,Tok,hpr,npt,hP,ql,k⟩
   refine ⟨_,rfl,pr,rfl,⟨_,SqL.of hpr⟩,for_list (K:=K) (a:=pr) (xs:=qs.map V.ref) (fun j σ H2=>∃(lb':Addr) (ls':List Int) (ts':List Addr) (T':List M4) (u7 u8 u9 u10 u11:Option V),σ=[some (.ref d),some (.int (N:Int)),some (.int (L:Int)),some (.int rm),some (.ref lb'),some (.ref ti),some (.ref pr),u7,u8,u9,u10,u11]∧(∀b o,H b=some o→b≠ti→H2 b=some o)∧H2 lb'=some (.lst (ls'.map V.int))∧ls'.length=N∧H2 ti=some (.lst (ts'.map V.ref))∧M4At H2 ts' T'∧T'.length≤T.length+j∧(∀x∈T',M4Ok N x)∧(lb'=lb∨H lb'=none)) ⟨lb,ls,ts,T,_,_,_,_,_,rfl,fun b o e _=>e,hlb,lsl,hti,hT,Nat.le_refl _,Tok,.inl rfl⟩ (fun j σ H2 _ ⟨_,_,_,_,_,_,_,_,_,_,b2,_⟩=>SqL.of (b2 _ _ hpr npt)) ?_ ?_⟩
   ·rintro j x σ H2 hx ⟨lb',ls',ts',T',u7,u8,u9,u10,u11,rfl,b2,h2,lsl',ti2,hT',Tl,Tok',fr⟩
    obtain ⟨q,eq,rfl⟩:=A1 hx
    obtain ⟨p,r,hp,hr0,hq⟩:=hP q (List.mem_of_getElem? eq)
    have jq:j<qs.length:=(List.getElem?_eq_some_iff.mp eq).1
    have hq2:=b2 _ _ hq (ne_of hq hti (by intro z;cases z))
    have ip:=ixL (xs:=ls') (i:=p) (by omega)
    have ir:=ixL (xs:=ls') (i:=r) (by omega)
    refine ⟨q,_,rfl,SqT.of hq2,rfl,_,_,rfl,_,_,rfl,rfl,?_⟩
    refine ⟨_,rfl,.inl ⟨rfl,_,SqL.of h2⟩,_,rfl,_,rfl,lb',_,_,_,rfl,rfl,SqL.of h2,Av ip,lb',ls',_,rfl,rfl,h2,_,rfl,.inl ⟨rfl,_,SqL.of h2⟩,_,rfl,_,rfl,lb',_,_,_,rfl,rfl,SqL.of h2,Av ir,lb',ls',_,rfl,rfl,h2,_,_,rfl,rfl,?_⟩
    refine ⟨_,rfl,_,rfl,lb',_,_,_,rfl,rfl,SqL.of h2,Av ip,_,rfl,_,rfl,lb',_,_,_,rfl,rfl,SqL.of h2,Av ir,rfl,_,rfl,ite2 (fun g=> ?_) fun g=> ?_⟩
    ·refine ⟨_,rfl,_,rfl,_,_,rfl,rfl,_,rfl,ite2 (fun g2=> ?_) fun g2=> ?_⟩
     ·have pr':p≠r:=fun z=>by subst z;simp at g
      have nlt:=lb_ti h2 ti2 (by omega)
      refine ⟨_,rfl,.inl ⟨rfl,_,SqL.of ti2⟩,_,rfl,_,rfl,_,rfl,small (by simp),fun r1 hr1=> ?_⟩
      have s3:=Ad (o:= .tup (m4V (p,r,L,true))) hr1
      have e3:=Ab (H:=H2) (a:=r1) (o:= .tup (m4V (p,r,L,true)))
      refine ⟨ti,_,_,rfl,rfl,s3 _ _ ti2,Ak (by rw [List.length_map,hT'.1];omega),?_⟩
      have s3:Same H2 (upd H2 r1 (.tup [.int (p:Int),.int (r:Int),.int (L:Int),.bl true])):=s3
      have e3:upd H2 r1 (.tup [.int (p:Int),.int (r:Int),.int (L:Int),.bl true]) r1=some (.tup (m4V (p,r,L,true))):=e3
      generalize upd H2 r1 (.tup [.int (p:Int),.int (r:Int),.int (L:Int),.bl true])=H3 at s3 e3 ⊢
      have B4:∀b o,H b=some o→b≠ti→upd H3 ti (.lst (ts'.map V.ref++[.ref r1])) b=some o:=fun b o e n=>by rw [Ah n];exact s3 _ _ (b2 b o e n)
      have h4:upd H3 ti (.lst (ts'.map V.ref++[.ref r1])) lb'=some (.lst (ls'.map V.int)):=by rw [Ah nlt];exact s3 _ _ h2
      have ti4:upd H3 ti (.lst (ts'.map V.ref++[.ref r1])) ti=some (.lst ((ts'++[r1]).map V.ref)):=by rw [Ab,List.map_append];rfl
      have kp:∀(r:Addr) (zs:List V),H3 r=some (.tup zs)→upd H3 ti (.lst (ts'.map V.ref++[.ref r1])) r=some (.tup zs):=fun r zs e=>by rw [Ah (ne_of e (s3 _ _ ti2) (by intro z;cases z))];exact e
      have M5:M4At (upd H3 ti (.lst (ts'.map V.ref++[.ref r1]))) (ts'++[r1]) (T'++[(p,r,L,true)]):=(hT'.mono fun r xs e=>kp _ _ (s3 _ _ e)).snoc (kp _ _ e3)
      generalize upd H3 ti (.lst (ts'.map V.ref++[.ref r1]))=H4 at B4 h4 ti4 M5 ⊢
      refine ⟨_,rfl,_,rfl,lb',_,_,_,rfl,rfl,SqL.of h4,Av ip,_,rfl,_,rfl,lb',_,_,_,rfl,rfl,SqL.of h4,Av ir,small (by simp),fun t2 ht2=> ?_⟩
      refine ⟨t2,_,rfl,SqT.of Ab,rfl,_,_,rfl,_,_,rfl,rfl,?_⟩
      have s5:=Ad (o:= .tup [.int ls'[p],.int ls'[r]]) ht2
      generalize upd H4 t2 (.tup [.int ls'[p],.int ls'[r]])=H5 at s5 ⊢
      generalize ls'[p]=na
      generalize ls'[r]=fa
      refine ⟨_,rfl,lb',rfl,⟨_,SqL.of (s5 _ _ h4)⟩,fun Dn hDn=>comp_list (K:=K) (a:=lb') (xs:=ls'.map V.int) (fun j σ ys H6=>∃(u:Option V) (zs:List Int),σ=[u,some (.int na),some (.int fa)]∧ys=zs.map V.int∧Same H5 H6∧H6 Dn=some (.lst ys)∧zs.length=j) ⟨none,[],rfl,rfl,Ad hDn,Ab,rfl⟩ (fun j σ ys H6 _ ⟨_,_,_,_,s,e,_⟩=>⟨SqL.of (s _ _ (s5 _ _ h4)),e⟩) ?_ ?_⟩
      ·rintro i x σ ys H6 hx ⟨u,zs,rfl,rfl,s6,d6,zl⟩
       have il:i<ls'.length:=by have:=(List.getElem?_eq_some_iff.mp hx).1;rwa [List.length_map] at this
       obtain ⟨v,hv,rfl⟩:=A1 hx
       refine ⟨_,rfl,_,rfl,rfl,_,rfl,ite2 (fun g=> ?_) fun g=> ?_⟩
       ·exact ⟨_,rfl,d6,Ak (by rw [List.length_map];omega),_,zs++[na],rfl,by rw [List.map_append];rfl,Bf s6 hDn,Ab,by simp [zl]⟩
       ·exact ⟨_,rfl,d6,Ak (by rw [List.length_map];omega),_,zs++[v],rfl,by rw [List.map_append];rfl,Bf s6 hDn,Ab,by simp [zl]⟩
      rintro σ ys H6 ⟨u,zs,rfl,rfl,s6,d6,zl⟩
      rw [List.length_map] at zl
      have B6:∀b o,H b=some o→b≠ti→H6 b=some o:=fun b o e n=>s6 _ _ (s5 _ _ (B4 b o e n))
      refine ⟨Dn,zs,ts'++[r1],T'++[(p,r,L,true)],_,_,_,_,_,rfl,B6,d6,by omega,s6 _ _ (s5 _ _ ti4),M5.mono fun r xs e=>s6 _ _ (s5 _ _ e),by rw [List.length_append];simp;omega,fun x hx=> ?_,.inr ?_⟩
      ·rcases List.mem_append.mp hx with hx|hx
       ·exact Tok' x hx
       ·rw [List.mem_singleton.mp hx];exact ⟨hp,hr0,pr',L3⟩
      ·cases g9:H Dn with
       |none=>rfl
       |some o=>
        have nD:Dn≠ti:=fun z=>by rw [z,s5 _ _ ti4] at hDn;cases hDn
        rw [s5 _ _ (B4 _ _ g9 nD)] at hDn
        cases hDn
     ·exact ⟨lb',ls',ts',T',_,_,_,_,_,rfl,b2,h2,lsl',ti2,hT',by omega,Tok',fr⟩
    ·exact ⟨lb',ls',ts',T',_,_,_,_,_,rfl,b2,h2,lsl',ti2,hT',by omega,Tok',fr⟩
   rintro σ H2 ⟨lb',ls',ts',T',u7,u8,u9,u10,u11,rfl,b2,h2,lsl',ti2,hT',Tl,Tok',fr⟩
   rw [List.length_map] at Tl
   refine ⟨_,rfl,k lb' ls' ts' T' H2 (fun b o e _ _ n3=>b2 b o e n3) ?_ h2 lsl' ti2 hT' (by omega) Tok' fr⟩
   obtain ⟨cs,S,k0,g,h1,h3,r⟩:=hD
   exact ⟨cs,S,k0,g,b2 _ _ h1 ntd.symm,b2 _ _ h3 ntc.symm,r⟩
  refine ⟨_,rfl,_,_,rfl,rfl,(N:Int) - 1,rfl,by omega,by omega,fun Dp hDp=>comp_range (lo:=0) (n:=((N:Int) - 1).toNat) (fun j σ ys H2=>∃(u:Option V) (qs:List Addr),σ=[u]∧ys=qs.map V.ref∧Same H H2∧H2 Dp=some (.lst ys)∧PrsAt H2 N qs∧qs.length=j) ⟨none,[],rfl,rfl,Ad hDp,Ab,(fun q hq=>by cases hq),rfl⟩ (fun j σ ys H2 _ ⟨_,_,_,_,_,e,_⟩=>e) ?_ ?_⟩
  ·rintro j σ ys H2 hj ⟨u,qs,rfl,rfl,s2,d2,p2,l2⟩
   refine ⟨_,rfl,_,rfl,_,_,rfl,rfl,small (by simp),fun t ht=> ?_⟩
   have s8:=Ad (o:= .tup [.int (0+(j:Int)),.int (0+(j:Int)+1)]) ht
   have kp:∀(r:Addr) (zs:List V) (o:HO),upd H2 t (.tup [.int (0+(j:Int)),.int (0+(j:Int)+1)]) r=some (.tup zs)→upd (upd H2 t (.tup [.int (0+(j:Int)),.int (0+(j:Int)+1)])) Dp o r=some (.tup zs):=fun r zs o e=>by rw [Ah (ne_of e (s8 _ _ d2) (by intro z;cases z))];exact e
   refine ⟨s8 _ _ d2,Ak (by rw [List.length_map];omega),_,qs++[t],rfl,by rw [List.map_append];rfl,Bf (s2.trans s8) hDp,Ab,?_,by simp [l2]⟩
   refine (p2.mono fun r zs e=>kp _ _ _ (s8 _ _ e)).snoc (i:=j) (j:=j+1) (by omega) (by omega) (kp _ _ _ ?_)
   rw [Ab,Int.zero_add];rfl
  rintro σ ys H2 ⟨u,qs,rfl,rfl,s2,d2,p2,l2⟩
  have D2:=hD.same s2
  refine ⟨_,rfl,_,_,rfl,rfl,_,rfl,ite2 (fun g=> ?_) fun g=> ?_⟩
  ·refine ⟨_,rfl,_,rfl,_,_,rfl,rfl,d,c,_,rfl,D2,by omega,by omega,fun m H4 m0 m1 b4 D4=>⟨m,rfl,by omega,by omega,fun Dp hDp=>comp_range (lo:=0) (n:=m.toNat) (fun j σ ys H5=>∃(u:Option V) (qs:List Addr),σ=[u,some (.ref d),some (.int (N:Int))]∧ys=qs.map V.ref∧But d c H4 H5∧DeckAt H5 d c∧H5 Dp=some (.lst ys)∧PrsAt H5 N qs∧qs.length=j) ⟨none,[],rfl,rfl,But.of (Ad hDp),D4.same (Ad hDp),Ab,(fun q hq=>by cases hq),rfl⟩ (fun j σ ys H5 _ ⟨_,_,_,_,_,_,e,_⟩=>e) ?_ ?_⟩⟩
   ·rintro j σ ys H5 hj ⟨u,qs,rfl,rfl,b5,D5,d5,p5,l5⟩
    have nDd:=D4.nd hDp
    have nDc:=D4.nc hDp
    refine ⟨_,rfl,_,rfl,d,c,_,rfl,D5,by omega,by omega,fun x H6 x0 x1 b6 D6=>⟨_,rfl,_,rfl,d,c,_,rfl,D6,by omega,by omega,fun y H7 y0 y1 b7 D7=>⟨small (by simp),fun t ht=> ?_⟩⟩⟩
    obtain ⟨x,rfl⟩:=Bl x0
    obtain ⟨y,rfl⟩:=Bl y0
    have d7:=b7 _ _ (b6 _ _ d5 nDd nDc) nDd nDc
    have s8:=Ad (o:= .tup [.int (x:Int),.int (y:Int)]) ht
    have kp:∀(r:Addr) (zs:List V) (o:HO),upd H7 t (.tup [.int (x:Int),.int (y:Int)]) r=some (.tup zs)→upd (upd H7 t (.tup [.int (x:Int),.int (y:Int)])) Dp o r=some (.tup zs):=fun r zs o e=>by rw [Ah (ne_of e (s8 _ _ d7) (by intro z;cases z))];exact e
    refine ⟨s8 _ _ d7,Ak (by rw [List.length_map];omega),_,qs++[t],rfl,by rw [List.map_append];rfl,fun b o e n1 n2=> ?_,(D7.same s8).set nDd nDc,Ab,?_,by simp [l5]⟩
    ·rw [Ah (Ai e hDp)]
     exact s8 _ _ (b7 _ _ (b6 _ _ (b5 _ _ e n1 n2) n1 n2) n1 n2)
    ·exact ((p5.mono fun r zs e=>kp _ _ _ (s8 _ _ (b7.tp D6 _ _ (b6.tp D5 _ _ e)))).snoc (by omega) (by omega) (kp _ _ _ Ab))
   rintro σ ys H5 ⟨u,qs,rfl,rfl,b5,D5,d5,p5,l5⟩
   have B5:=((But.of s2).trans b4).trans b5
   have hti5:=B5 _ _ hti ntd ntc
   have tpl:Dp≠ti:=fun z=>by
    rw [z,b4 _ _ (s2 _ _ hti) ntd ntc] at hDp
    cases hDp
   exact ⟨d,c,lb,ti,Dp,N,L,rm,ls,ts,qs,T',rfl,D5,N1,N24,L3,B5 _ _ hlb nbd nbc,lsl,hti5,ntd,ntc,hT.mono (B5.tp hD),T200,Tok,d5,tpl,p5,by omega,k.mono B5 hD D5⟩
  refine ⟨_,rfl,d,c,8,rfl,D2,by decide,by decide,fun v H3 v0 v1 b3 D3=>⟨rfl,_,rfl,ite2 (fun g=> ?_) fun g=> ?_⟩⟩
  ·refine ⟨_,rfl,_,rfl,_,_,rfl,rfl,d,c,_,rfl,D3,by omega,by omega,fun m H4 m0 m1 b4 D4=>⟨m,rfl,by omega,by omega,fun Dp hDp=>comp_range (lo:=0) (n:=m.toNat) (fun j σ ys H5=>∃(u:Option V) (qs:List Addr),σ=[u,some (.ref d),some (.int (N:Int))]∧ys=qs.map V.ref∧But d c H4 H5∧DeckAt H5 d c∧H5 Dp=some (.lst ys)∧PrsAt H5 N qs∧qs.length=j) ⟨none,[],rfl,rfl,But.of (Ad hDp),D4.same (Ad hDp),Ab,(fun q hq=>by cases hq),rfl⟩ (fun j σ ys H5 _ ⟨_,_,_,_,_,_,e,_⟩=>e) ?_ ?_⟩⟩
   ·rintro j σ ys H5 hj ⟨u,qs,rfl,rfl,b5,D5,d5,p5,l5⟩
    have nDd:=D4.nd hDp
    have nDc:=D4.nc hDp
    refine ⟨_,rfl,_,rfl,d,c,_,rfl,D5,by omega,by omega,fun x H6 x0 x1 b6 D6=>⟨_,rfl,_,rfl,d,c,_,rfl,D6,by omega,by omega,fun y H7 y0 y1 b7 D7=>⟨small (by simp),fun t ht=> ?_⟩⟩⟩
    obtain ⟨x,rfl⟩:=Bl x0
    obtain ⟨y,rfl⟩:=Bl y0
    have d7:=b7 _ _ (b6 _ _ d5 nDd nDc) nDd nDc
    have s8:=Ad (o:= .tup [.int (x:Int),.int (y:Int)]) ht
    have kp:∀(r:Addr) (zs:List V) (o:HO),upd H7 t (.tup [.int (x:Int),.int (y:Int)]) r=some (.tup zs)→upd (upd H7 t (.tup [.int (x:Int),.int (y:Int)])) Dp o r=some (.tup zs):=fun r zs o e=>by rw [Ah (ne_of e (s8 _ _ d7) (by intro z;cases z))];exact e
    refine ⟨s8 _ _ d7,Ak (by rw [List.length_map];omega),_,qs++[t],rfl,by rw [List.map_append];rfl,fun b o e n1 n2=> ?_,(D7.same s8).set nDd nDc,Ab,?_,by simp [l5]⟩
    ·rw [Ah (Ai e hDp)]
     exact s8 _ _ (b7 _ _ (b6 _ _ (b5 _ _ e n1 n2) n1 n2) n1 n2)
    ·exact ((p5.mono fun r zs e=>kp _ _ _ (s8 _ _ (b7.tp D6 _ _ (b6.tp D5 _ _ e)))).snoc (by omega) (by omega) (kp _ _ _ Ab))
   rintro σ ys H5 ⟨u,qs,rfl,rfl,b5,D5,d5,p5,l5⟩
   have B5:=(((But.of s2).trans b3).trans b4).trans b5
   have hti5:=B5 _ _ hti ntd ntc
   have tpl:Dp≠ti:=fun z=>by
    rw [z,b4 _ _ (b3 _ _ (s2 _ _ hti) ntd ntc) ntd ntc] at hDp
    cases hDp
   exact ⟨d,c,lb,ti,Dp,N,L,rm,ls,ts,qs,T',rfl,D5,N1,N24,L3,B5 _ _ hlb nbd nbc,lsl,hti5,ntd,ntc,hT.mono (B5.tp hD),T200,Tok,d5,tpl,p5,by omega,k.mono B5 hD D5⟩
  ·dsimp only [Bj]
   have B5:=(But.of (d:=d) (c:=c) s2).trans b3
   have hti5:=B5 _ _ hti ntd ntc
   have tpl:Dp≠ti:=(Ai hti hDp).symm
   have d3:=b3 _ _ d2 (hD.nd hDp) (hD.nc hDp)
   exact ⟨d,c,lb,ti,Dp,N,L,rm,ls,ts,qs,T',rfl,D3,N1,N24,L3,B5 _ _ hlb nbd nbc,lsl,hti5,ntd,ntc,hT.mono (B5.tp hD),T200,Tok,d3,tpl,p2.mono (b3.tp D2),by omega,k.mono B5 hD D3⟩
end
end K37
namespace L2
open PySem PySem.Spec PyProof.Rows
theorem for_zipL {K:PySem.W.Frag} {a b:Addr} {xs ys:List V} {g:TG} {tb:TS} {D:Ends} {σ:St} {H:Hp} (Pv:Nat→St→Hp→Prop) (h0:Pv 0 σ H) (hl:∀i σ H,i≤xs.length→i≤ys.length→Pv i σ H→SqL K H a xs∧SqL K H b ys)
  (hs:∀i x y σ H T,xs[i]? =some x→ys[i]? =some y→Pv i σ H→H T=none→g (.ref T) σ (upd H T (.tup [x,y])) fun σ2 H2=>tb {D with nx:=Pv (i+1),ct:=Pv (i+1),bk:=D.nx} σ2 H2) (hd:∀i σ H,i=min xs.length ys.length→Pv i σ H→D.nx σ H):
  ∃W:Nat→Nat→St→Hp→Prop,(∃m,W 0 m σ H)∧∀i m σ H,W i m σ H→
   ((ItzL K a b).stop i H∧D.nx σ H)∨((ItzL K a b).go i H∧∃N:St→Hp→Prop,(∀σ' H',N σ' H'→∃m',m'<m∧W (i+1) m' σ' H')∧∀x H',(ItzL K a b).yld i H x H'→g x σ H' fun σ2 H2=>tb {D with nx:=N,ct:=N,bk:=D.nx} σ2 H2):=by
 refine ⟨fun i m σ H=>m=xs.length - i∧i≤xs.length∧i≤ys.length∧Pv i σ H,⟨xs.length,by simp,Nat.zero_le _,Nat.zero_le _,h0⟩,?_⟩
 rintro i m σ H ⟨rfl,hi,hj,p⟩
 obtain ⟨q1,q2⟩:=hl i σ H hi hj p
 by_cases hlt:i<xs.length∧i<ys.length
 ·refine .inr ⟨⟨xs,ys,xs[i],ys[i],q1,q2,by simp [hlt.1],by simp [hlt.2]⟩,Pv (i+1),fun σ' H' p'=>⟨xs.length - (i+1),by omega,rfl,hlt.1,hlt.2,p'⟩,fun x H' y=> ?_⟩
  obtain ⟨T,x,y,hT,rfl,rfl,y1,y2⟩:=y
  exact hs i x y σ H T (y1 xs q1) (y2 ys q2) p hT
 ·exact .inl ⟨⟨xs,ys,q1,q2,by omega⟩,hd i σ H (by omega) p⟩
theorem pick_tl:∀its:List Value,its.length≤5→slicePick its.toArray none (some 0) (some (-1))=its.tail.reverse.toArray
 |[],_=>rfl
 |[_],_=>rfl
 |[a,b],_=>by
  have e1:sliceBounds none (some 0) (some (-1)) ([a,b]:List Value).toArray.size=(1,0,-1):=by rfl
  have e2:sliceRange 1 0 (-1)=[1]:=by decide+kernel
  unfold slicePick
  rw [e1]
  show ((sliceRange 1 0 (-1)).filterMap _).toArray=_
  rw [e2]
  rfl
 |[a,b,c],_=>by
  have e1:sliceBounds none (some 0) (some (-1)) ([a,b,c]:List Value).toArray.size=(2,0,-1):=by rfl
  have e2:sliceRange 2 0 (-1)=[2,1]:=by decide+kernel
  unfold slicePick
  rw [e1]
  show ((sliceRange 2 0 (-1)).filterMap _).toArray=_
  rw [e2]
  rfl
 |[a,b,c,d],_=>by
  have e1:sliceBounds none (some 0) (some (-1)) ([a,b,c,d]:List Value).toArray.size=(3,0,-1):=by rfl
  have e2:sliceRange 3 0 (-1)=[3,2,1]:=by decide+kernel
  unfold slicePick
  rw [e1]
  show ((sliceRange 3 0 (-1)).filterMap _).toArray=_
  rw [e2]
  rfl
 |[a,b,c,d,e],_=>by
  have e1:sliceBounds none (some 0) (some (-1)) ([a,b,c,d,e]:List Value).toArray.size=(4,0,-1):=by rfl
  have e2:sliceRange 4 0 (-1)=[4,3,2,1]:=by decide+kernel
  unfold slicePick
  rw [e1]
  show ((sliceRange 4 0 (-1)).filterMap _).toArray=_
  rw [e2]
  rfl
 |_::_::_::_::_::_::_,h=>by simp at h
theorem Vals.tail' {xs:List V} {us:List Value} (r:Vals xs us):Vals xs.tail us.tail:=by
 cases r with
 |nil=>exact .nil
 |cons _ t=>exact t
def tRevZ (K:PySem.W.Frag) (te:TE) (th ts:TO):TE:=fun σ H Q=>te σ H fun x H0=>th σ H0 fun u H1=>ts σ H1 fun o H2=>u=some 0∧o=some (-1)∧∃(a:Addr) (xs:List V),x= .ref a∧SqL K H2 a xs∧xs.length≤5∧∀p,H2 p=none→Q (.ref p) (upd H2 p (.lst xs.tail.reverse))
section
variable {X:Cx}
theorem pe_revZ {e up st:Expr} {te:TE} {th ts:TO} {p2 pos:Pos} (he:PE X e te) (hu:PO X (some up) th) (hs:PO X (some st) ts) (ops:Value→Value→List Value) (hsub:∀o i,subscripted (.Slice none (some up) (some st) p2) false o i=operate (ops o i) (getItem o i)):PE X (.Subscript e (.Slice none (some up) (some st) p2) pos) (tRevZ X.K te th ts):=by
 intro pins s σ H Q I h
 refine Subscript_ (thn (he pins s σ H _ I h) fun v s1 ⟨x,H1,I1,r1,q1⟩=> ?_)
 refine wpAny_Slice ?_
 rw [evalPart_none]
 refine wpAny_pure (thn (hu pins s1 σ H1 _ I1 q1) fun vu s2 ⟨u,H2,I2,pu,q2⟩=>thn (hs pins s2 σ H2 _ I2 q2) fun vs s3 ⟨o,H3,I3,ps,q3⟩=> ?_)
 obtain ⟨rfl,rfl,a,xs,rfl,hq,h5,q⟩:=q3
 cases r1
 have I4:Inv X pins σ H3 {s3 with heap:=s3.heap.push {cls:= .type "slice",data:= .fields #[.none,vu,vs]}}:=I3.kept (t':=s3.toks) fun b ob q=>Heap.get?_push_of_some _ q
 obtain ⟨its,r,ht,hz⟩:=I4.list hq
 have hlen:=r.length
 show wpAny (model X.prog X.w) X.A (subscriptTail e (.Slice none (some up) (some st) p2) (.ref a) (.ref s3.heap.objs.size)) (EP X pins σ Q) X.xe {s3 with heap:=s3.heap.push {cls:= .type "slice",data:= .fields #[.none,vu,vs]}}
 refine tail_any (ops:=ops (.ref a) (.ref s3.heap.objs.size)) ht.isList.typeIs slot_list_getitem.lookup ?_ (hsub _ _)
 refine wpAny_getItem_list_slice ht.isList (Heap.IsSliceOf.new ..) .none pu ps (by decide) ?_ (by rw [List.size_toArray]<;> omega)
 rw [pick_tl its (by omega)]
 refine ⟨.ref _,_,I4.laid (t':=s3.toks) (o:= .lst xs.tail.reverse) (fun b ob q=>Heap.get?_push_of_some _ q) (Nat.le_refl _) ⟨by rw [List.length_reverse,List.length_tail];omega,its.tail.reverse,0,(Vals.tail' r).reverse,Heap.get?_push_size _ rfl⟩,rfl,q _ I4.fresh⟩
end
end L2
namespace K37
open PySem L2 Wk
theorem up_of {R:List R6} (h:R.Pairwise fun x y=>¬y.1.1.cps.toList<x.1.1.cps.toList) (nd:(R.map (·.1.1)).Nodup):UpP R:=by
 rw [List.nodup_iff_pairwise_ne,List.pairwise_map] at nd
 refine (h.and nd).imp fun {x y} ⟨h1,h2⟩=> ?_
 rcases List.le_iff_lt_or_eq.mp (List.not_lt.mp h1) with z|z
 ·exact z
 ·exact absurd (str_ext z) h2
theorem perm_map {α β:Type} {f:α→β} {ys zs:List β} (h:ys.Perm zs):∀{l:List α},zs=l.map f→∃l':List α,ys=l'.map f∧l'.Perm l:=by
 induction h with
 |nil=>intro l e;exact ⟨[],rfl,by cases l with|nil=>exact .nil|cons=>cases e⟩
 |cons x _ ih=>
  intro l e
  cases l with
  |nil=>cases e
  |cons y l=>
   injection e with e1 e2
   obtain ⟨l',h1,h2⟩:=ih e2
   exact ⟨y::l',by rw [h1,e1];rfl,h2.cons y⟩
 |swap x y zs=>
  intro l e
  match l,e with
  |[],e=>cases e
  |[_],e=>injection e with _ e;cases e
  |u::v::l,e=>
   injection e with e1 e2
   injection e2 with e2 e3
   exact ⟨v::u::l,by rw [e1,e2,e3];rfl,.swap u v l⟩
 |trans _ _ ih1 ih2=>
  intro l e
  obtain ⟨l1,h1,h2⟩:=ih2 e
  obtain ⟨l2,h3,h4⟩:=ih1 h1
  exact ⟨l2,h3,h4.trans h2⟩
theorem sort_rowsL {K:PySem.W.Frag} {H:Hp} {Q:VK} {w:Addr} {rs:List Addr} {R:List R6} (hw:H w=some (.lst (rs.map V.ref))) (hR:RowsAt H rs R) (nd:(R.map (·.1.1)).Nodup) (few:R.length<64)
  (k:∀(l:Addr) (rs':List Addr) (R':List R6),H l=none→RowsAt H rs' R'→R'.Perm R→UpP R'→Q (.ref l) (upd H l (.lst (rs'.map V.ref)))):Srt.rSortN K [.ref w] H Q:=by
 refine ⟨w,(rs.zip R).map pnOf,rfl,SqL.of (by rw [pn_ref hR.1];exact hw),fun q hq=> ?_,?_,?_,fun l ps' hl hp hw=> ?_⟩
 ·obtain ⟨q',hq',rfl⟩:=List.mem_map.mp hq
  exact SqT.of (hR.zip q' hq')
 ·rw [pn_nm hR.1];exact nd
 ·rw [List.length_map,List.length_zip,hR.1];omega
 obtain ⟨l',rfl,hp'⟩:=perm_map hp rfl
 have r8:RowsAt H (l'.map (·.1)) (l'.map (·.2)):=RowsAt.unzip fun q hq=>hR.zip q (hp'.mem_iff.mp hq)
 have e2R:(rs.zip R).map (·.2)=R:=List.map_snd_zip (Nat.le_of_eq hR.1.symm)
 have pR:(l'.map (·.2)).Perm R:=by have:=hp'.map (·.2);rwa [e2R] at this
 have up:UpP (l'.map (·.2)):=up_of (by rw [List.pairwise_map] at hw ⊢;exact hw) (((pR.map _).nodup_iff).mpr nd)
 have en:(l'.map pnOf).map Srt.nRef=(l'.map (·.1)).map V.ref:=by rw [List.map_map,List.map_map];rfl
 rw [en]
 exact k l _ _ hl r8 pR up
theorem m4_lo (x:M4):cutV (m4V x) none (some 2)=[.int (x.1:Int),.int (x.2.1:Int)]:=by
 unfold cutV m4V;rfl
theorem m4_hi (x:M4):cutV (m4V x) (some 2) none=[.int (x.2.2.1:Int),.bl x.2.2.2]:=by
 unfold cutV m4V;rfl
structure Stand (N:Nat) (R:List R6):Prop where
 nd:(R.map (·.1.1)).Nodup
 ok:∀x∈R,NameOk x.1.1∧(x.1.2.1<N∧x.1.2.2.1<N∧x.1.2.1≠x.1.2.2.1)∧(0≤x.1.2.2.2∧x.1.2.2.2≤1000000000)∧x.2.1≤3
 len:R.length≤60
 up:UpP R
def spLayered:Sp:=fun vs H Q _=>∃(d c ln:Addr) (N most:Nat) (zs:List Str),vs=[.ref d,.int (N:Int),.ref ln,.int (most:Int)]∧DeckAt H d c∧1≤N∧N≤24∧most≤36∧H ln=some (.lst (zs.map V.str))∧ln≠d∧ln≠c∧zs.length≤60∧zs.Nodup∧(∀z∈zs,NameOk z)∧∀(tp:Addr) (rs:List Addr) (R:List R6) (H':Hp),But d c H H'→DeckAt H' d c→H' tp=some (.tup (rs.map V.ref))→RowsAt H' rs R→Stand N R→Q (.ref tp) H'
theorem at_last {xs:List V} {x:V}:atI (xs++[x]) (-1)=some x:=by
 have l:(xs++[x]).length=xs.length+1:=by rw [List.length_append];rfl
 unfold atI ixN
 rw [if_neg (by decide),if_pos (by rw [l];omega),l,show (-1+((xs.length+1:Nat):Int)).toNat=xs.length by omega]
 show (xs++[x])[xs.length]? =_
 rw [List.getElem?_append_right (Nat.le_refl _),Nat.sub_self];rfl
def StgAt (H:Hp) (N:Nat) (ss:List Addr) (no:List Addr):Prop:=∀l∈ss,l ∉ no∧∃ls:List Int,ls.length=N∧H l=some (.lst (ls.map V.int))
theorem StgAt.mono {H H':Hp} {N:Nat} {ss no:List Addr} (h:StgAt H N ss no) (f:∀l xs,l ∉ no→H l=some (.lst xs)→H' l=some (.lst xs)):StgAt H' N ss no:=fun l hl=>by
 obtain ⟨a,ls,b,e⟩:=h l hl
 exact ⟨a,ls,b,f _ _ a e⟩
section
variable {P:Program} {w:World} {K:PySem.W.Frag} {mg:Str→Option Value} {base:Heap} {ZN ZJ ZB:Addr}
theorem scLayered:Az ["_law_deck_here","_law_many_here","_law_names_here","_law_most","_law_rooms","_law_ties","_law_stages","_law_layer","_law_turn","_law_one","_law_other","_law_levels","_law_rows","_law_name","_law_tie"] ["_law_deck_here","_law_many_here","_law_names_here","_law_most"] (Ag sLayered):=⟨rfl,rfl,rfl,by decide+kernel,rfl,by decide+kernel,by decide+kernel⟩
theorem ok_Layered {f:Addr} {fd:FuncData} (F:Fun K "_law_layered" "_law_layered" sLayered f fd) (T:Txt K mg ZN ZJ ZB)
  {gTake:Addr} {fTake:FuncData} (kTake:PySem.W.keepIn K (.ref gTake)=true) (bTake:Binds K fTake ["_law_deck_here","_law_most"] []) (hTake:mg "_law_take"=some (.ref gTake)) (GTake:FnOk P w K mg base CX0 3 gTake fTake ["_law_deck_here","_law_most"] spTake)
  {gMerged:Addr} {fMerged:FuncData} (kMerged:PySem.W.keepIn K (.ref gMerged)=true) (bMerged:Binds K fMerged ["_law_deck_here","_law_many_here","_law_layer","_law_room","_law_labels","_law_ties"] []) (hMerged:mg "_law_merged"=some (.ref gMerged)) (GMerged:FnOk P w K mg base CX0 3 gMerged fMerged ["_law_deck_here","_law_many_here","_law_layer","_law_room","_law_labels","_law_ties"] spMerged)
  {gWeight:Addr} {fWeight:FuncData} (kWeight:PySem.W.keepIn K (.ref gWeight)=true) (bWeight:Binds K fWeight ["_law_deck_here"] []) (hWeight:mg "_law_weight"=some (.ref gWeight)) (GWeight:FnOk P w K mg base CX0 3 gWeight fWeight ["_law_deck_here"] spWeight):
  FnOk P w K mg base CX0 4 f fd ["_law_deck_here","_law_many_here","_law_names_here","_law_most"] spLayered:=by
 refine F.ok scLayered (fun vs H Q E h=> ?_) (fun cdv A outer s H vs Q E hr h=> ?_)
 ·obtain ⟨_,_,_,_,_,_,rfl,_⟩:=h;rfl
 ·obtain ⟨d,c,ln,N,most,zs,rfl,hD,N1,N24,m36,hln,nnd,nnc,z60,znd,zok,k⟩:=h
  refine ⟨_,Ae (Aq (i:=4) scLayered.nd rfl (Or.inl rfl) (Bo (Aa (pv 1) Ac)))
   (Ae (ps_while PassesOwn.never (Ar op_gt (Al op_fdiv (A8 A0 (pv 4) (pe_un un_neg Af) (fun _ _=>rfl)) Af) Af (Ap _)) (Aj (ps_expr (pe_bm PySem.F.plainAttrs_list PySem.F.slot_list_append PySem.F.type_list_append mt_append (pv 4) (Aa (Al op_fdiv (A8 A0 (pv 4) (pe_un un_neg Af) (fun _ _=>rfl)) Af) Ac)))))
   (Ae (Aq (i:=5) scLayered.nd rfl (Or.inl rfl) (Bo Ac))
   (Ae (Aq (i:=6) scLayered.nd rfl (Or.inr rfl) (Bo (Aa (Bp (call_list_rng rfl) (by rfl) T.list (by decide+kernel) (Aa (Bp call_range1 (by rfl) T.range (by decide+kernel) (Aa (pv 1) Ac)) Ac)) Ac)))
   (Ae (ps_for PassesOwn.never rfl (pi_rangeD rfl T.range (Aa (Al op_sub (An A4 (by rfl) T.len PySem.boot_len (Aa (pv 4) Ac)) Af) (Aa (pe_un un_neg Af) (Aa (pe_un un_neg Af) Ac)))) (Ao (i:=7) scLayered.nd rfl (Or.inl rfl)) (Aj (ps_expr (pe_bm PySem.F.plainAttrs_list PySem.F.slot_list_append PySem.F.type_list_append mt_append (pv 6) (Aa (Am GMerged hr rfl hMerged kMerged bMerged .nil Ay (Aa (pv 0) (Aa (pv 1) (Aa (pv 7) (Aa (A8 A0 (pv 4) (pv 7) (fun _ _=>rfl)) (Aa (A8 A0 (pv 6) (pe_un un_neg Af) (fun _ _=>rfl)) (Aa (pv 5) Ac))))))) Ac)))))
   (Ae (Aq (i:=6) scLayered.nd rfl (Or.inr rfl) (pe_revZ (pv 6) (Bh Af) (Bh (pe_un un_neg Af)) (fun o i=>[o,i]) (fun _ _=>by with_unfolding_all rfl)))
   (Ae (ps_for PassesOwn.never rfl (pi_range1 rfl T.range (Aa (Am GTake hr rfl hTake kTake bTake .nil Ay (Aa (pv 0) (Aa (Al A7 (pv 3) Af) Ac))) Ac)) (Ao (i:=8) scLayered.nd rfl (Or.inl rfl)) (Ae (Aq (i:=9) scLayered.nd rfl (Or.inr rfl) (Am GTake hr rfl hTake kTake bTake .nil Ay (Aa (pv 0) (Aa (pv 1) Ac))))
   (Ae (Aq (i:=10) scLayered.nd rfl (Or.inr rfl) (Al op_mod (Al A7 (Al A7 (pv 9) Af) (Am GTake hr rfl hTake kTake bTake .nil Ay (Aa (pv 0) (Aa (An (call_max2 rfl) (by rfl) T.max (by decide+kernel) (Aa Af (Aa (Al op_sub (pv 1) Af) Ac))) Ac)))) (pv 1)))
   (Ae (ps_comp (i:=11) (T:=["_law_layer"]) (F:=["_law_one","_law_other","_law_stages"]) (js:=[9,10,6]) scLayered.nd rfl (Or.inl rfl) (CS.to (osc:=Ag sLayered) ⟨by rfl,by decide+kernel,by decide+kernel,by decide+kernel,by decide+kernel,by decide+kernel,by decide+kernel⟩ rfl rfl) rfl (pi_range1 rfl T.range (Aa (An A4 (by rfl) T.len PySem.boot_len (Aa (pv 4) Ac)) Ac)) (fun _ _ _ _ _=>Ao (i:=0) (show (["_law_layer","_law_one","_law_other","_law_stages"]:List Str).Nodup by decide+kernel) rfl (Or.inl rfl)) (fun _ _ _ _ _=>pif_one (PW.pt (pw_and (Ar op_ne (pv 1) (pv 2) (Ap _)) (pw_and1 (Ar op_eq (A8 (r:=rIxL K) A0 (A8 (r:=rIxL K) A0 (pv 3) (pv 0) (fun _ _=>rfl)) (pv 1) (fun _ _=>rfl)) (A8 (r:=rIxL K) A0 (A8 (r:=rIxL K) A0 (pv 3) (pv 0) (fun _ _=>rfl)) (pv 2) (fun _ _=>rfl)) (Ap _)))))) (fun _ _ _ _ _=>pv 0))
   (Aj (Bk (Ar (op_neNil hr.units) (pv 11) (Bo Ac) (Ap _)) (Aj (ps_expr (pe_bm PySem.F.plainAttrs_list PySem.F.slot_list_append PySem.F.type_list_append mt_append (pv 5) (Aa (A6 (Aa (pv 9) (Aa (pv 10) (Aa (A8 A0 (pv 11) (Am GTake hr rfl hTake kTake bTake .nil Ay (Aa (pv 0) (Aa (An A4 (by rfl) T.len PySem.boot_len (Aa (pv 11) Ac)) Ac))) (fun _ _=>rfl)) (Aa pe_bl Ac))))) Ac)))) Au))))))
   (Ae (Aq (i:=12) scLayered.nd rfl (Or.inl rfl) (Bo Ac))
   (Ae (ps_for PassesOwn.never rfl (pi_zipL rfl T.zip (Aa (pv 2) (Aa (pv 5) Ac))) (pg_tup rfl (A2 (Ao (i:=13) scLayered.nd rfl (Or.inl rfl)) (A2 (Ao (i:=14) scLayered.nd rfl (Or.inl rfl)) pgs_nil))) (Aj (ps_expr (pe_bm PySem.F.plainAttrs_list PySem.F.slot_list_append PySem.F.type_list_append mt_append (pv 12) (Aa (Al op_catTT (Al op_catTT (Al op_catTT (A6 (Aa (pv 13) Ac)) (Bn (r:=rSlTA K) sl_tupA (pv 14) po_none (Bh Af))) (A6 (Aa (Am GWeight hr rfl hWeight kWeight bWeight .nil Ay (Aa (pv 0) Ac)) Ac))) (Bn (r:=rSlTA K) sl_tupA (pv 14) (Bh Af) po_none)) Ac)))))
   (Aj (At (Bp call_tuple_of (by rfl) T.tuple (by decide+kernel) (Aa (An Srt.call_sortedN (by rfl) T.sorted (by decide+kernel) (Aa (pv 12) Ac)) Ac)))))))))))),?_⟩
  refine ⟨_,rfl,small (by simp),fun ro hro=> ?_⟩
  have s1:=Ad (o:= .lst [.int (N:Int)]) hro
  have r1:=Ab (H:=H) (a:=ro) (o:= .lst [.int (N:Int)])
  generalize upd H ro (.lst [.int (N:Int)])=H1 at s1 r1
  dsimp only [gName,tSeq]
  refine while_gh (fun m σ H'=>∃(ns:List Int) (x:Int),σ=[some (.ref d),some (.int (N:Int)),some (.ref ln),some (.int (most:Int)),some (.ref ro),none,none,none,none,none,none,none,none,none,none]∧Same H H'∧H' ro=some (.lst ((ns++[x]).map V.int))∧((ns.length=0∧x≤24)∨(ns.length=1∧x≤12)∨(ns.length=2∧x≤6)∨(ns.length=3∧x≤3))∧m=x.toNat) (m0:=N) ⟨[],(N:Int),rfl,s1,r1,by simp;omega,by simp⟩ ?_ ?_
  ·rintro m σ H2 ⟨ns,x,rfl,s2,r2,hx,rfl⟩
   have al:atI ((ns++[x]).map V.int) (-1)=some (.int x):=by rw [List.map_append];exact at_last
   refine ⟨_,rfl,_,rfl,ro,_,_,_,rfl,rfl,SqL.of r2,al,_,_,rfl,rfl,⟨by decide,by decide⟩,_,_,rfl,rfl,_,rfl,ite2 (fun g=> ?_) fun g=> ?_⟩
   ·have g:1<x / 2:=by simpa using g
    refine ⟨_,rfl,.inl ⟨rfl,_,SqL.of r2⟩,_,rfl,_,rfl,ro,_,_,_,rfl,rfl,SqL.of r2,al,_,_,rfl,rfl,⟨by decide,by decide⟩,ro,_,_,rfl,rfl,r2,Ak (by simp;omega),?_⟩
    exact ⟨(x / 2).toNat,by omega,ns++[x],x / 2,rfl,Bf s2 hro,by rw [Ab,List.map_append (l₂:=[x / 2])];rfl,by rw [List.length_append,List.length_singleton];omega,rfl⟩
   ·clear s1 r1
    have rl:(ns++[x]).length≤4∧1≤(ns++[x]).length:=by rw [List.length_append,List.length_singleton];omega
    generalize ns++[x]=rm at r2 rl
    refine ⟨small (by simp),fun ti hti=> ?_⟩
    have s3:=s2.trans (Ad (o:= .lst []) hti)
    have r3:=Ad (o:= .lst []) hti _ _ r2
    have t3:=Ab (H:=H2) (a:=ti) (o:= .lst [])
    have D3:=hD.same s3
    have nro:ro≠ti:=Ai r2 hti
    have nroD:=hD.nd hro
    have nroC:=hD.nc hro
    have ntd:=(hD.same s2).nd hti
    have ntc:=(hD.same s2).nc hti
    generalize upd H2 ti (.lst [])=H3 at s3 r3 t3 D3
    refine ⟨_,rfl,(N:Int),rfl,fun q hq=>⟨q,0,(N:Int),rfl,Ab,⟨by decide,by decide,by omega,by omega⟩,by omega,fun lb hlb=> ?_⟩⟩
    have s4:=(Ad (o:= .rng 0 (N:Int)) hq).trans (Ad (o:= .lst ((rints 0 ((N:Int) - 0).toNat).map V.int)) hlb)
    have lb4:=Ab (H:=upd H3 q (.rng 0 (N:Int))) (a:=lb) (o:= .lst ((rints 0 ((N:Int) - 0).toNat).map V.int))
    have fl:H3 lb=none:=none_of (Ad (o:= .rng 0 (N:Int)) hq) hlb
    generalize upd (upd H3 q (.rng 0 (N:Int))) lb (.lst ((rints 0 ((N:Int) - 0).toNat).map V.int))=H4 at s4 lb4
    have ll:(rints 0 ((N:Int) - 0).toNat).length=N:=by
     unfold rints
     simp
    generalize rints 0 ((N:Int) - 0).toNat=ls0 at lb4 ll
    refine ⟨small (by simp),fun sg hsg=> ?_⟩
    have s5:=s4.trans (Ad (o:= .lst [.ref lb]) hsg)
    have sg5:=Ab (H:=H4) (a:=sg) (o:= .lst [.ref lb])
    have lb5:=Ad (o:= .lst [.ref lb]) hsg _ _ lb4
    have nsl:lb≠sg:=Ai lb4 hsg
    have fs:H3 sg=none:=none_of s4 hsg
    generalize upd H4 sg (.lst [.ref lb])=H5 at s5 sg5 lb5
    have D5:=D3.same s5
    have B5:But d c H H5:=But.of (s3.trans s5)
    have r5:=s5 _ _ r3
    have t5:=s5 _ _ t3
    have nsd:=D3.nd fs
    have nsc:=D3.nc fs
    have nst:sg≠ti:=(Ai t3 fs).symm
    have nsr:sg≠ro:=(Ai r3 fs).symm
    have st5:StgAt H5 N [lb] [d,c,ti,sg]:=fun l hl=>by
     rw [List.mem_singleton.mp hl]
     refine ⟨?_,ls0,ll,lb5⟩
     simp only [List.mem_cons,List.not_mem_nil,or_false,not_or]
     exact ⟨D3.nd fl,D3.nc fl,(Ai t3 fl).symm,nsl⟩
    have nT:H ti=none:=none_of s2 hti
    have nS:H sg=none:=none_of s3 fs
    clear lb4 lb5 s4 s3 r3 t3 D3 fl fs nsl hlb hsg hq hti hro r2 s2 s5 ll
    refine ⟨_,rfl,ro,_,rfl,.inl (SqL.of r5),_,_,rfl,rfl,_,rfl,_,rfl,_,_,rfl,⟨by rw [List.length_map];omega,by rw [List.length_map];omega,by decide,by decide⟩,for_rangeD (fun i σ H'=>∃(u7:Option V) (ts:List Addr) (T:List M4) (ss:List Addr),σ=[some (.ref d),some (.int (N:Int)),some (.ref ln),some (.int (most:Int)),some (.ref ro),some (.ref ti),some (.ref sg),u7,none,none,none,none,none,none,none]∧But d c H H'∧DeckAt H' d c∧H' ro=some (.lst (rm.map V.int))∧H' ti=some (.lst (ts.map V.ref))∧M4At H' ts T∧T.length≤24 * i∧(∀x∈T,M4Ok N x)∧H' sg=some (.lst (ss.map V.ref))∧ss.length=i+1∧StgAt H' N ss [d,c,ti,sg]) ⟨none,[],[],[lb],rfl,B5,D5,r5,t5,⟨rfl,fun i r t e=>by simp at e⟩,Nat.le_refl _,by simp,sg5,rfl,st5⟩ ?_ ?_⟩
    ·rintro i σ H6 hi ⟨u7,ts,T,ss,rfl,B6,D6,r6,t6,M6,Tl,Tok,sg6,sl,st6⟩
     rw [List.length_map] at hi
     have hi:i<rm.length:=by omega
     obtain ⟨ss',l,rfl⟩:∃ss' l,ss=ss'++[l]:=by
      rcases List.eq_nil_or_concat ss with z|⟨ss',l,z⟩
      ·rw [z] at sl;simp at sl
      ·exact ⟨ss',l,by rw [z,List.concat_eq_append]⟩
     have al:atI ((ss'++[l]).map V.ref) (-1)=some (.ref l):=by rw [List.map_append];exact at_last
     obtain ⟨hno,ls,hls,hl⟩:=st6 l (by simp)
     have hno':=hno
     simp only [List.mem_cons,List.not_mem_nil,or_false,not_or] at hno
     have eL:((rm.map V.int).length:Int) - 1 - (i:Int)=((rm.length - 1 - i:Nat):Int):=by rw [List.length_map];omega
     have ar:atI (rm.map V.int) (((rm.map V.int).length:Int) - 1 - (i:Int))=some (.int rm[rm.length - 1 - i]):=by rw [eL];exact Av (ixL (by omega))
     refine ⟨_,rfl,.inl ⟨rfl,_,SqL.of sg6⟩,_,rfl,_,rfl,_,rfl,_,rfl,_,rfl,ro,_,_,_,rfl,rfl,SqL.of r6,ar,_,rfl,_,rfl,sg,_,_,_,rfl,rfl,SqL.of sg6,al,_,rfl,d,c,l,ti,N,rm.length - 1 - i,_,_,ls,ts,T,rfl,eL,D6,N1,N24,by omega,hl,hls,hno.1,hno.2.1,t6,ntd,ntc,M6,by omega,Tok,fun lb' ls' ts' T' H7 b7 D7 e7 l7 t7 M7 q7 o7 f7=> ?_⟩
     have sg7:=b7 _ _ sg6 nsd nsc nst
     refine ⟨sg,_,_,rfl,rfl,sg7,Ak (by rw [List.length_map];omega),?_⟩
     have kp:∀(r:Addr) (zs:List V) (o:HO),H7 r=some (.tup zs)→upd H7 sg o r=some (.tup zs):=fun r zs o e=>by rw [Ah (ne_of e sg7 (by intro z;cases z))];exact e
     refine ⟨_,ts',T',(ss'++[l])++[lb'],rfl,fun b o e n1 n2=> ?_,D7.set nsd nsc,?_,?_,M7.mono fun r xs e=>kp r xs _ e,by omega,o7,by rw [Ab,List.map_append (l₂:=[lb'])];rfl,by rw [List.length_append,sl];rfl,fun l2 hl2=> ?_⟩
     ·rw [Ah (Ai e nS)]
      exact b7 _ _ (B6 _ _ e n1 n2) n1 n2 (Ai e nT)
     ·rw [Ah nsr.symm];exact b7 _ _ r6 nroD nroC nro
     ·rw [Ah nst.symm];exact t7
     ·have old:∀l2∈ss'++[l],l2 ∉ [d,c,ti,sg]∧∃ls:List Int,ls.length=N∧upd H7 sg (.lst ((ss'++[l]).map V.ref++[.ref lb'])) l2=some (.lst (ls.map V.int)):=fun l2 hl2=>by
       obtain ⟨h1,ls2,h2,h3⟩:=st6 l2 hl2
       have h1':=h1
       simp only [List.mem_cons,List.not_mem_nil,or_false,not_or] at h1'
       exact ⟨h1,ls2,h2,by rw [Ah h1'.2.2.2];exact b7 _ _ h3 h1'.1 h1'.2.1 h1'.2.2.1⟩
      rcases List.mem_append.mp hl2 with hl2|hl2
      ·exact old l2 hl2
      ·rw [List.mem_singleton.mp hl2]
       rcases f7 with rfl|f7
       ·exact old _ (by simp)
       ·have m1:=D6.nd f7
        have m2:=D6.nc f7
        have m3:lb'≠ti:=(Ai t6 f7).symm
        have m4:lb'≠sg:=(Ai sg6 f7).symm
        refine ⟨?_,ls',l7,by rw [Ah m4];exact e7⟩
        simp only [List.mem_cons,List.not_mem_nil,or_false,not_or]
        exact ⟨m1,m2,m3,m4⟩
    rintro σ H6 ⟨u7,ts,T,ss,rfl,B6,D6,r6,t6,M6,Tl,Tok,sg6,sl,st6⟩
    rw [List.length_map] at Tl sl
    have sl:ss.length=rm.length+1:=by omega
    have Tl:T.length≤96:=by omega
    refine ⟨_,rfl,_,rfl,_,rfl,_,rfl,rfl,rfl,sg,_,rfl,SqL.of sg6,by rw [List.length_map];omega,fun sv hsv=> ?_⟩
    have es:(ss.map V.ref).tail.reverse=ss.tail.reverse.map V.ref:=by rw [←List.map_tail,List.map_reverse]
    rw [es]
    have lv:ss.tail.reverse.length=rm.length:=by rw [List.length_reverse,List.length_tail,sl];rfl
    have sv5:StgAt H6 N ss.tail.reverse [d,c,ti,sg]:=fun l hl=>st6 l (List.mem_of_mem_tail (List.mem_reverse.mp hl))
    generalize ss.tail.reverse=sw at lv sv5
    have s7:=Ad (o:= .lst (sw.map V.ref)) hsv
    have sv7:=Ab (H:=H6) (a:=sv) (o:= .lst (sw.map V.ref))
    have B7:=B6.trans (But.of s7)
    have D7:=D6.same s7
    have r7:=s7 _ _ r6
    have t7:=s7 _ _ t6
    have M7:=M6.mono fun r xs e=>s7 _ _ e
    have st7:StgAt (upd H6 sv (.lst (sw.map V.ref))) N sw [d,c,ti,sg]:=sv5.mono fun l xs _ e=>s7 _ _ e
    have nvd:=D6.nd hsv
    have nvc:=D6.nc hsv
    have nvt:sv≠ti:=(Ai t6 hsv).symm
    generalize upd H6 sv (.lst (sw.map V.ref))=H7 at sv7 B7 D7 r7 t7 M7 st7
    clear s7 hsv sv5 es B6 D6 r6 t6 M6 st6 sg6 sl sg5 st5 B5 D5 r5 t5
    refine ⟨_,rfl,_,rfl,_,_,rfl,rfl,d,c,_,rfl,D7,by omega,by omega,fun m H8 m0 m1 b8 D8=>⟨m,rfl,by omega,by omega,for_range (lo:=0) (n:=m.toNat) (fun i σ H'=>∃(u8 u9 u10 u11:Option V) (ts:List Addr) (T:List M4),σ=[some (.ref d),some (.int (N:Int)),some (.ref ln),some (.int (most:Int)),some (.ref ro),some (.ref ti),some (.ref sv),u7,u8,u9,u10,u11,none,none,none]∧But d c H H'∧DeckAt H' d c∧H' ro=some (.lst (rm.map V.int))∧H' ti=some (.lst (ts.map V.ref))∧M4At H' ts T∧T.length≤96+i∧(∀x∈T,M4Ok N x)∧H' sv=some (.lst (sw.map V.ref))∧StgAt H' N sw [d,c,ti,sg]) ⟨none,none,none,none,ts,T,rfl,B7.trans b8,D8,b8 _ _ r7 nroD nroC,b8 _ _ t7 ntd ntc,M7.mono (b8.tp D7),Tl,Tok,b8 _ _ sv7 nvd nvc,st7.mono fun l xs hn e=>b8 _ _ e (fun z=>hn (by simp [z])) fun z=>hn (by simp [z])⟩ ?_ ?_⟩⟩
    ·clear B7 D7 r7 t7 M7 st7 sv7 b8 D8 Tok Tl
     rintro i σ H9 hi ⟨u8,u9,u10,u11,ts,T,rfl,B9,D9,r9,t9,M9,Tl,Tok,sv9,st9⟩
     have hi:i<37:=by omega
     refine ⟨_,rfl,_,rfl,d,c,_,rfl,D9,by omega,by omega,fun x Ha x0 x1 ba Da=> ?_⟩
     obtain ⟨x,rfl⟩:=Bl x0
     refine ⟨_,rfl,_,_,rfl,rfl,_,rfl,_,rfl,_,_,rfl,rfl,_,_,rfl,d,c,_,rfl,Da,by split<;> omega,by split<;> omega,fun w Hb w0 w1 bb Db=>⟨_,_,rfl,rfl,_,rfl,_,_,rfl,rfl,by omega,?_⟩⟩
     dsimp only
     have y0:=Int.emod_nonneg ((x:Int)+1+w) (show (N:Int)≠0 by omega)
     have y1:=Int.emod_lt_of_pos ((x:Int)+1+w) (show (0:Int)<(N:Int) by omega)
     generalize ((x:Int)+1+w) % (N:Int)=y at y0 y1
     obtain ⟨y,rfl⟩:=Bl y0
     have bab:=ba.trans bb
     have rb:=bab _ _ r9 nroD nroC
     have svb:=bab _ _ sv9 nvd nvc
     have tb:=bab _ _ t9 ntd ntc
     have Mb:=M9.mono (bab.tp D9)
     have stb:StgAt Hb N sw [d,c,ti,sg]:=st9.mono fun l xs hn e=>bab _ _ e (fun z=>hn (by simp [z])) fun z=>hn (by simp [z])
     have Bb:=B9.trans bab
     clear bab ba bb Da r9 sv9 t9 M9 st9 B9 D9 w0 w1 x0 y0
     refine ⟨_,rfl,ro,_,rfl,.inl (SqL.of rb),_,rfl,by omega,by rw [List.length_map];omega,fun Dl hDl=>comp_range (lo:=0) (n:=(rm.map V.int).length) (fun j σ ys H'=>∃(u:Option V) (lv:List Int),σ=[u,some (.int (x:Int)),some (.int (y:Int)),some (.ref sv)]∧ys=lv.map V.int∧Same Hb H'∧H' Dl=some (.lst ys)∧(∀z∈lv,0≤z∧z≤3)∧(lv≠[]→x≠y)∧lv.length≤j) ⟨none,[],rfl,rfl,Ad hDl,Ab,by simp,by simp,Nat.le_refl _⟩ (fun j σ ys H' _ ⟨_,_,_,_,_,e,_⟩=>e) ?_ ?_⟩
     ·rintro j σ ys Hc hj ⟨u,lv,rfl,rfl,sc,dc,lz,ln0,ll⟩
      rw [List.length_map] at hj
      refine ⟨_,rfl,_,rfl,rfl,_,rfl,ite2 (fun g=> ?_) fun g=> ?_⟩
      ·have g:x≠y:=fun z=>by subst z;simp at g
       have hj':j<sw.length:=by omega
       obtain ⟨hno,ls,hls,hl⟩:=stb sw[j] (List.getElem_mem _)
       have aj:atI (sw.map V.ref) (0+(j:Int))=some (.ref sw[j]):=by rw [Int.zero_add];exact Av (by rw [List.getElem?_map,getq hj'];rfl)
       refine ⟨_,rfl,_,rfl,sv,_,_,_,rfl,rfl,SqL.of (sc _ _ svb),aj,_,rfl,sw[j],_,_,_,rfl,rfl,SqL.of (sc _ _ hl),Av (ixL (by omega)),_,rfl,_,rfl,sv,_,_,_,rfl,rfl,SqL.of (sc _ _ svb),aj,_,rfl,sw[j],_,_,_,rfl,rfl,SqL.of (sc _ _ hl),Av (ixL (by omega)),rfl,_,rfl,ite2 (fun g2=> ?_) fun g2=> ?_⟩
       ·refine ⟨_,rfl,dc,Ak (by rw [List.length_map];omega),_,lv++[0+(j:Int)],rfl,by rw [List.map_append];rfl,Bf sc hDl,Ab,fun z hz=> ?_,fun _=>g,by rw [List.length_append,List.length_singleton];omega⟩
        rcases List.mem_append.mp hz with hz|hz
        ·exact lz z hz
        ·rw [List.mem_singleton.mp hz];omega
       ·exact ⟨_,lv,rfl,rfl,sc,dc,lz,ln0,by omega⟩
      ·exact ⟨_,lv,rfl,rfl,sc,dc,lz,ln0,by omega⟩
     rintro σ ys Hc ⟨u,lv,rfl,rfl,sc,dc,lz,ln0,ll⟩
     rw [List.length_map] at ll
     have Dc:=Db.same sc
     have rc:=sc _ _ rb
     have svc:=sc _ _ svb
     have tc:=sc _ _ tb
     have Mc:=Mb.mono fun r xs e=>sc _ _ e
     have stc:StgAt Hc N sw [d,c,ti,sg]:=stb.mono fun l xs _ e=>sc _ _ e
     have Bc:=Bb.trans (But.of sc)
     have nDd:=Db.nd hDl
     have nDc:=Db.nc hDl
     have nDt:Dl≠ti:=(Ai tb hDl).symm
     clear rb svb tb Mb stb Bb Db sc hDl
     refine ⟨_,rfl,small (by simp),fun q hq=> ?_⟩
     have sq:=Ad (o:= .lst []) hq
     have q1:=Ab (H:=Hc) (a:=q) (o:= .lst [])
     generalize upd Hc q (.lst [])=He at sq q1
     refine ⟨Dl,q,_,rfl,rfl,SqL.of (sq _ _ dc),SqL.of q1,_,rfl,ite2 (fun g=> ?_) fun g=> ?_⟩
     ·have g:lv≠[]:=fun z=>by subst z;simp at g
      have l1:1≤lv.length:=List.length_pos_iff.mpr g
      refine ⟨_,rfl,.inl ⟨rfl,_,SqL.of (sq _ _ tc)⟩,_,rfl,_,rfl,_,rfl,_,rfl,_,rfl,Dl,_,rfl,.inl (SqL.of (sq _ _ dc)),d,c,_,rfl,Dc.same sq,by rw [List.length_map];omega,by rw [List.length_map];omega,fun v Hg v0 v1 bg Dg=> ?_⟩
      rw [List.length_map] at v1
      obtain ⟨v,rfl⟩:=Bl v0
      have hv:v<lv.length:=by omega
      have zv:=lz lv[v] (List.getElem_mem _)
      have bcg:=(But.of (d:=d) (c:=c) sq).trans bg
      refine ⟨Dl,_,_,_,rfl,rfl,SqL.of (bcg _ _ dc nDd nDc),Av (ixL hv),small (by simp),fun r1 hr1=> ?_⟩
      obtain ⟨L,eL⟩:=Bl zv.1
      have L3:L≤3:=by omega
      rw [eL]
      have s3:=Ad (o:= .tup (m4V (x,y,L,false))) hr1
      have e3:=Ab (H:=Hg) (a:=r1) (o:= .tup (m4V (x,y,L,false)))
      have s3:Same Hg (upd Hg r1 (.tup [.int (x:Int),.int (y:Int),.int (L:Int),.bl false])):=s3
      have e3:upd Hg r1 (.tup [.int (x:Int),.int (y:Int),.int (L:Int),.bl false]) r1=some (.tup (m4V (x,y,L,false))):=e3
      generalize upd Hg r1 (.tup [.int (x:Int),.int (y:Int),.int (L:Int),.bl false])=H3 at s3 e3 ⊢
      have bc3:=bcg.trans (But.of s3)
      have t3:=bc3 _ _ tc ntd ntc
      refine ⟨ti,_,_,rfl,rfl,t3,Ak (by rw [List.length_map,Mc.1];omega),?_⟩
      have kp:∀(r:Addr) (zs:List V) (o:HO),H3 r=some (.tup zs)→upd H3 ti o r=some (.tup zs):=fun r zs o e=>by rw [Ah (ne_of e t3 (by intro z;cases z))];exact e
      refine ⟨_,_,_,_,ts++[r1],T++[(x,y,L,false)],rfl,fun b o e n1 n2=> ?_,(Dg.same s3).set ntd ntc,?_,by rw [Ab,List.map_append];rfl,(Mc.mono fun r xs e=>kp r xs _ (bc3.tp Dc _ _ e)).snoc (kp _ _ _ e3),by rw [List.length_append,List.length_singleton];omega,fun z hz=> ?_,?_,stc.mono fun l xs hn e=> ?_⟩
      ·rw [Ah (Ai e nT)];exact bc3 _ _ (Bc _ _ e n1 n2) n1 n2
      ·rw [Ah nro];exact bc3 _ _ rc nroD nroC
      ·rcases List.mem_append.mp hz with hz|hz
       ·exact Tok z hz
       ·rw [List.mem_singleton.mp hz];exact ⟨show x<N by omega,show y<N by omega,ln0 g,L3⟩
      ·rw [Ah nvt];exact bc3 _ _ svc nvd nvc
      ·rw [Ah (fun z=>hn (by simp [z]))]
       exact bc3 _ _ e (fun z=>hn (by simp [z])) fun z=>hn (by simp [z])
     ·dsimp only [Bj]
      exact ⟨_,_,_,_,ts,T,rfl,Bc.trans (But.of sq),Dc.same sq,sq _ _ rc,sq _ _ tc,Mc.mono fun r xs e=>sq _ _ e,by omega,Tok,sq _ _ svc,stc.mono fun l xs _ e=>sq _ _ e⟩
    clear B7 D7 r7 t7 M7 st7 sv7 b8 D8 Tok Tl
    rintro σ H9 ⟨u8,u9,u10,u11,ts,T,rfl,B9,D9,r9,t9,M9,Tl,Tok,sv9,st9⟩
    clear r9 sv9 st9
    have ln9:=B9 _ _ hln nnd nnc
    refine ⟨small (by simp),fun rw' hrw=> ?_⟩
    have sr:=Ad (o:= .lst []) hrw
    have rw1:=Ab (H:=H9) (a:=rw') (o:= .lst [])
    have Ba:=B9.trans (But.of sr)
    have Da:=D9.same sr
    have ta:=sr _ _ t9
    have Ma:=M9.mono fun r xs e=>sr _ _ e
    have lna:=sr _ _ ln9
    have nrd:=D9.nd hrw
    have nrc:=D9.nc hrw
    have nrt:rw'≠ti:=(Ai t9 hrw).symm
    have nrl:rw'≠ln:=(Ai ln9 hrw).symm
    have nR:H rw'=none:=B9.none hD D9 hrw
    generalize upd H9 rw' (.lst [])=Ha at sr rw1 Ba Da ta Ma lna
    clear sr B9 D9 t9 M9 ln9 hrw
    refine ⟨_,rfl,_,rfl,ln,ti,_,_,rfl,SqL.of lna,SqL.of ta,for_zipL (K:=K) (a:=ln) (b:=ti) (xs:=zs.map V.str) (ys:=ts.map V.ref) (fun i σ H'=>∃(u13 u14:Option V) (rs:List Addr) (R:List R6),σ=[some (.ref d),some (.int (N:Int)),some (.ref ln),some (.int (most:Int)),some (.ref ro),some (.ref ti),some (.ref sv),u7,u8,u9,u10,u11,some (.ref rw'),u13,u14]∧But d c H H'∧DeckAt H' d c∧H' ln=some (.lst (zs.map V.str))∧H' ti=some (.lst (ts.map V.ref))∧M4At H' ts T∧H' rw'=some (.lst (rs.map V.ref))∧RowsAt H' rs R∧R.map (·.1.1)=zs.take i∧R.length=i∧∀x∈R,NameOk x.1.1∧(x.1.2.1<N∧x.1.2.2.1<N∧x.1.2.1≠x.1.2.2.1)∧(0≤x.1.2.2.2∧x.1.2.2.2≤1000000000)∧x.2.1≤3) ⟨none,none,[],[],rfl,Ba,Da,lna,ta,Ma,rw1,⟨rfl,fun i r t e=>by simp at e⟩,rfl,rfl,by simp⟩ (fun i σ H' _ _ ⟨_,_,_,_,_,_,_,a,b,_⟩=>⟨SqL.of a,SqL.of b⟩) ?_ ?_⟩
    ·clear Ba Da ta Ma lna rw1
     rintro i nx tx σ Hb Tt hnx htx ⟨u13,u14,rs,R,rfl,Bb,Db,lnb,tb,Mb,rwb,Rb,Rn,Rl,Rok⟩ hTt
     obtain ⟨n,hn,rfl⟩:=A1 hnx
     obtain ⟨r,hr0,rfl⟩:=A1 htx
     obtain ⟨x,hx,er⟩:=Mb.get hr0
     have zi:i<zs.length:=(List.getElem?_eq_some_iff.mp hn).1
     have nok:=zok n (List.mem_of_getElem? hn)
     have xok:=Tok x (List.mem_of_getElem? hx)
     have s0:=Ad (o:= .tup [.str n,.ref r]) hTt
     refine ⟨Tt,_,rfl,SqT.of Ab,rfl,_,_,rfl,_,_,rfl,rfl,?_⟩
     generalize upd Hb Tt (.tup [.str n,.ref r])=Hc at s0
     refine ⟨_,rfl,.inl ⟨rfl,_,SqL.of (s0 _ _ rwb)⟩,_,rfl,small (by simp),fun t1 ht1=> ?_⟩
     have s1:=s0.trans (Ad (o:= .tup [.str n]) ht1)
     have e1:=Ab (H:=Hc) (a:=t1) (o:= .tup [.str n])
     generalize upd Hc t1 (.tup [.str n])=Hd at s1 e1
     refine ⟨_,rfl,_,rfl,cut_any (s1 _ _ er) fun t2 He s2 e2=> ?_⟩
     rw [m4_lo] at e2
     refine cat_any (s2 _ _ e1) e2 (by show 1+2≤_;decide) fun t3 Hf s3 e3=> ?_
     have S3:=(s1.trans s2).trans s3
     refine ⟨_,rfl,d,c,rfl,Db.same S3,fun w Hg w0 w1 bg Dg=>⟨small (by simp),fun t4 ht4=> ?_⟩⟩
     have s4:=Ad (o:= .tup [.int w]) ht4
     have e4:=Ab (H:=Hg) (a:=t4) (o:= .tup [.int w])
     have D4:=Dg.same s4
     have B4:=bg.trans (But.of s4)
     generalize upd Hg t4 (.tup [.int w])=Hh at s4 e4 D4 B4
     refine cat_any (B4.tup (Db.same S3) e3) e4 (by show 1+2+1≤_;decide) fun t5 Hi s5 e5=> ?_
     refine ⟨_,rfl,_,rfl,cut_any (s5 _ _ (B4.tup (Db.same S3) (S3 _ _ er))) fun t6 Hj s6 e6=> ?_⟩
     rw [m4_hi] at e6
     refine cat_any (s6 _ _ e5) e6 (by show 1+2+1+2≤_;decide) fun t7 Hk s7 e7=> ?_
     have S7:=(s5.trans s6).trans s7
     have BB:But d c Hb Hk:=((But.of S3).trans B4).trans (But.of S7)
     have rwk:=BB _ _ rwb nrd nrc
     refine ⟨rw',_,_,rfl,rfl,rwk,Ak (by rw [List.length_map,Rb.1];omega),?_⟩
     have kp:∀(r:Addr) (zs:List V) (o:HO),Hk r=some (.tup zs)→upd Hk rw' o r=some (.tup zs):=fun r zs o e=>by rw [Ah (ne_of e rwk (by intro z;cases z))];exact e
     have e8:Hk t7=some (.tup (rowV ((n,x.1,x.2.1,w),x.2.2.1,x.2.2.2))):=e7
     refine ⟨_,_,rs++[t7],R++[((n,x.1,x.2.1,w),x.2.2.1,x.2.2.2)],rfl,fun b o e n1 n2=> ?_,(D4.same S7).set nrd nrc,?_,?_,Mb.mono fun r xs e=>kp _ _ _ (BB.tup Db e),by rw [Ab,List.map_append];rfl,(Rb.mono fun r xs e=>kp _ _ _ (BB.tup Db e)).snoc (kp _ _ _ e8),?_,by rw [List.length_append,Rl];rfl,fun y hy=> ?_⟩
     ·rw [Ah (Ai e nR)];exact BB _ _ (Bb _ _ e n1 n2) n1 n2
     ·rw [Ah nrl.symm];exact BB _ _ lnb nnd nnc
     ·rw [Ah nrt.symm];exact BB _ _ tb ntd ntc
     ·rw [List.map_append,Rn,List.take_add_one,hn];rfl
     ·rcases List.mem_append.mp hy with hy|hy
      ·exact Rok y hy
      ·rw [List.mem_singleton.mp hy];exact ⟨nok,⟨xok.1,xok.2.1,xok.2.2.1⟩,⟨w0,w1⟩,xok.2.2.2⟩
    clear Ba Da ta Ma lna rw1
    rintro i σ Hb hi ⟨u13,u14,rs,R,rfl,Bb,Db,lnb,tb,Mb,rwb,Rb,Rn,Rl,Rok⟩
    have nd:(R.map (·.1.1)).Nodup:=by rw [Rn];exact List.Sublist.nodup (List.take_sublist _ _) znd
    have R60:R.length≤60:=by
     have:=congrArg List.length Rn
     rw [List.length_map,List.length_take] at this
     omega
    refine ⟨_,rfl,?_⟩
    dsimp only [tNil]
    show Srt.rSortN K [.ref rw'] Hb _
    refine sort_rowsL (K:=K) rwb Rb nd (by omega) fun l rs' R' hl Rb' pm up=> ?_
    refine ⟨l,_,rfl,.inl ⟨SqL.of Ab,fun tq htq=> ?_⟩⟩
    have s9:=(Ad (o:= .lst (rs'.map V.ref)) hl).trans (Ad (o:= .tup (rs'.map V.ref)) htq)
    exact k tq rs' R' _ (Bb.trans (But.of s9)) (Db.same s9) Ab (Rb'.mono fun r xs e=>s9 _ _ e) ⟨((pm.map _).nodup_iff).mpr nd,fun x hx=>Rok x (pm.mem_iff.mp hx),by rw [pm.length_eq];exact R60,up⟩
  ·intro σ H' Q1 Q2 f h
   obtain ⟨v,e,i2,e2,h⟩:=h
   obtain ⟨a1,a2,a3,a4,h1,h2,h3,h4,h⟩:=h
   obtain ⟨b1,b2,h5,h6,h7,h⟩:=h
   obtain ⟨c1,c2,h8,h9,t,ht,h⟩:=h
   exact ⟨v,e,i2,e2,⟨a1,a2,a3,a4,h1,h2,h3,h4,⟨b1,b2,h5,h6,h7,⟨c1,c2,h8,h9,t,ht,f _ _ h⟩⟩⟩⟩
end
def spStand:Sp:=fun vs H Q _=>∃(d c:Addr) (most:Nat),vs=[.ref d,.int (most:Int)]∧DeckAt H d c∧most≤36∧∀(r tp ln:Addr) (N:Nat) (rs:List Addr) (R:List R6) (zs:List Str) (H':Hp),But d c H H'→DeckAt H' d c→H' r=some (.tup [.int (N:Int),.ref tp,.ref ln])→1≤N→N≤24→H' tp=some (.tup (rs.map V.ref))→RowsAt H' rs R→Stand N R→H' ln=some (.lst (zs.map V.str))→zs.length=24+most→ln≠d→ln≠c→Q (.ref r) H'
section
variable {P:Program} {w:World} {K:PySem.W.Frag} {mg:Str→Option Value} {base:Heap} {ZN ZJ ZB:Addr}
theorem scStand:Az ["_law_deck_here","_law_most","_law_many_here","_law_names_here"] ["_law_deck_here","_law_most"] (Ag sStand):=⟨rfl,rfl,rfl,by decide+kernel,rfl,by decide+kernel,by decide+kernel⟩
theorem ok_Stand {f:Addr} {fd:FuncData} (F:Fun K "_law_stand" "_law_stand" sStand f fd) (T:Txt K mg ZN ZJ ZB)
  {gMany:Addr} {fMany:FuncData} (kMany:PySem.W.keepIn K (.ref gMany)=true) (bMany:Binds K fMany ["_law_deck_here"] []) (hMany:mg "_law_many"=some (.ref gMany)) (GMany:FnOk P w K mg base CX0 4 gMany fMany ["_law_deck_here"] spMany)
  {gNames:Addr} {fNames:FuncData} (kNames:PySem.W.keepIn K (.ref gNames)=true) (bNames:Binds K fNames ["_law_deck_here","_law_many_here"] []) (hNames:mg "_law_names"=some (.ref gNames)) (GNames:FnOk P w K mg base CX0 4 gNames fNames ["_law_deck_here","_law_many_here"] spNames)
  {gLayered:Addr} {fLayered:FuncData} (kLayered:PySem.W.keepIn K (.ref gLayered)=true) (bLayered:Binds K fLayered ["_law_deck_here","_law_many_here","_law_names_here","_law_most"] []) (hLayered:mg "_law_layered"=some (.ref gLayered)) (GLayered:FnOk P w K mg base CX0 4 gLayered fLayered ["_law_deck_here","_law_many_here","_law_names_here","_law_most"] spLayered):
  FnOk P w K mg base CX0 5 f fd ["_law_deck_here","_law_most"] spStand:=by
 refine F.ok scStand (fun vs H Q E h=> ?_) (fun cdv A outer s H vs Q E hr h=> ?_)
 ·obtain ⟨_,_,_,rfl,_⟩:=h;rfl
 ·obtain ⟨d,c,most,rfl,hD,m36,k⟩:=h
  refine ⟨_,Ae (Aq (i:=2) scStand.nd rfl (Or.inl rfl) (Am GMany hr rfl hMany kMany bMany .nil Ay (Aa (pv 0) Ac)))
   (Ae (Aq (i:=3) scStand.nd rfl (Or.inl rfl) (Am GNames hr rfl hNames kNames bNames .nil Ay (Aa (pv 0) (Aa (Al A7 Af (pv 1)) Ac))))
   (Aj (At (A6 (Aa (pv 2) (Aa (Am GLayered hr rfl hLayered kLayered bLayered .nil Ay (Aa (pv 0) (Aa (pv 2) (Aa (pv 3) (Aa (pv 1) Ac))))) (Aa (pv 3) Ac))))))),?_⟩
  refine ⟨_,rfl,d,c,rfl,hD,fun N H1 N1 N24 b1 D1=> ?_⟩
  refine ⟨_,rfl,_,rfl,_,_,rfl,rfl,d,c,24+most,?_,D1,by omega,fun ln zs H2 b2 D2 hl0 hl zl znd zok=> ?_⟩
  ·rw [show ((24+most:Nat):Int)=24+(most:Int) by omega];rfl
  have nd:ln≠d:=D1.nd hl0
  have nc:ln≠c:=D1.nc hl0
  refine ⟨_,rfl,_,rfl,_,rfl,_,rfl,_,rfl,d,c,ln,N,most,zs,rfl,D2,N1,N24,m36,hl,nd,nc,by omega,znd,zok,fun tp rs R H3 b3 D3 ht hR S=>⟨_,rfl,small (by simp),fun r hr=> ?_⟩⟩
  have s4:=Ad (o:= .tup [.int (N:Int),.ref tp,.ref ln]) hr
  exact k r tp ln N rs R zs _ (((b1.trans b2).trans b3).trans (But.of s4)) (D3.same s4) Ab N1 N24 (s4 _ _ ht) (hR.mono fun r xs e=>s4 _ _ e) S (s4 _ _ (b3 _ _ hl nd nc)) zl nd nc
end
end K37
namespace L2
open PySem PySem.Spec PyProof.Rows
section
variable {X:Cx}
theorem vals_tys:∀{cs:List String} {its:List Value},Vals (cs.map V.ty) its→its=cs.map Value.type
 |[],_,.nil=>rfl
 |c::cs,_,.cons ru rr=>by rw [List.map_cons,←vals_tys rr];cases ru;rfl
inductive FlT:V→Value→Prop
 |int (i:Int):FlT (.int i) (.type "int")
 |str (z:Str):FlT (.str z) (.type "str")
 |bl (b:Bool):FlT (.bl b) (.type "bool")
 |non:FlT .non (.type "NoneType")
def rIsTy (K:PySem.W.Frag):List V→Hp→VK→Prop:=fun xs H Q=>∃(x:V) (t:Value) (tp:Addr) (cs:List String) (b:Bool),xs=[x,.ref tp]∧FlT x t∧H tp=some (.tup (cs.map V.ty))∧PySem.W.kitAny K t (cs.map Value.type)=some b∧Q (.bl b) H
theorem call_isTy:CallR X (.builtin "isinstance") (rIsTy X.K):=by
 intro pins s σ H xs us Q I r h
 obtain ⟨x,t,tp,cs,b,rfl,ft,ht,ek,q⟩:=h
 obtain ⟨u,v,rfl,rx,ry⟩:=vals2 r
 obtain rfl:v=Value.ref tp:=ry
 obtain ⟨_,its,rv,o,h1,h2,h3,n,h4⟩:=(show ObjOk X.prog X.w H s.heap tp (.tup (cs.map V.ty)) from I.hok tp _ ht)
 have e1:=vals_tys rv
 subst e1
 obtain ⟨oc,odd,oda,osl⟩:=o
 dsimp only at h2 h3 h4
 subst h2 h3 h4
 cases ft with
 |non=>cases (show u=Value.none from rx);exact PySem.W.kia_tup PySem.W.kitx_none I.kIn True.intro h1 ek (fun z=>nomatch z) fun tk=>⟨.bl b,H,I.tok tk,rfl,q⟩
 |bl y=>cases (show u=Value.bool y from rx);exact PySem.W.kia_tup PySem.W.kitx_bool I.kIn True.intro h1 ek (fun z=>nomatch z) fun tk=>⟨.bl b,H,I.tok tk,rfl,q⟩
 |int i=>obtain ⟨t,q1⟩:=(show ∃t,u=Value.int i t from rx);cases q1;exact PySem.W.kia_tup PySem.W.kitx_int I.kIn True.intro h1 ek (fun z=>nomatch z) fun tk=>⟨.bl b,H,I.tok tk,rfl,q⟩
 |str y=>obtain ⟨t,q1⟩:=(show ∃t,u=Value.str y t from rx);cases q1;exact PySem.W.kia_tup PySem.W.kitx_str I.kIn True.intro h1 ek (fun z=>nomatch z) fun tk=>⟨.bl b,H,I.tok tk,rfl,q⟩
end
theorem kit_is1 {K:PySem.W.Frag}:PySem.W.kitAny K (.type "int") (["int","str"].map Value.type)=some true:=rfl
theorem kit_is2 {K:PySem.W.Frag}:PySem.W.kitAny K (.type "str") (["int","str"].map Value.type)=some true:=rfl
end L2
namespace K37
open PySem L2 Wk
def Lf (x y:V):Prop:=x=y∧((∃i,x= .int i)∨(∃s,x= .str s)∨(∃c,x= .bl c)∨x= .non)
def SmV:Nat→Hp→V→V→Prop
 |0,_,x,y=>Lf x y
 |n+1,H,x,y=>Lf x y∨∃(a b:Addr) (xs ys:List V),x= .ref a∧y= .ref b∧H a=some (.tup xs)∧H b=some (.tup ys)∧xs.length=ys.length∧xs.length≤100∧∀(i:Nat) u v,xs[i]? =some u→ys[i]? =some v→SmV n H u v
theorem SmV.same:∀{n:Nat} {H H':Hp} {x y:V},Same H H'→SmV n H x y→SmV n H' x y
 |0,_,_,_,_,_,h=>h
 |n+1,_,_,_,_,s,.inl h=> .inl h
 |n+1,_,_,_,_,s,.inr ⟨a,b,xs,ys,e1,e2,h1,h2,l,z,h⟩=> .inr ⟨a,b,xs,ys,e1,e2,s _ _ h1,s _ _ h2,l,z,fun i u v e e'=>SmV.same s (h i u v e e')⟩
def spSame (n:Nat):Sp:=fun vs H Q _=>∃x y:V,vs=[x,y]∧SmV n H x y∧∀H',Same H H'→Q (.bl true) H'
def spSameT (n:Nat):Sp:=fun vs H Q _=>∃(a b:Addr) (xs ys:List V),vs=[.ref a,.ref b]∧H a=some (.tup xs)∧H b=some (.tup ys)∧xs.length=ys.length∧xs.length≤100∧(∀(i:Nat) u v,xs[i]? =some u→ys[i]? =some v→SmV n H u v)∧∀H',Same H H'→Q (.bl true) H'
section
variable {P:Program} {w:World} {K:PySem.W.Frag} {mg:Str→Option Value} {base:Heap} {ZN ZJ ZB:Addr}
theorem scSame:Az ["_law_thing","_law_due"] ["_law_thing","_law_due"] (Ag sSame):=⟨rfl,rfl,rfl,by decide+kernel,rfl,by decide+kernel,by decide+kernel⟩
theorem ok_Same0 {f:Addr} {fd:FuncData} (F:Fun K "_law_same" "_law_same" sSame f fd) (T:Txt K mg ZN ZJ ZB):
  FnOk P w K mg base CX0 1 f fd ["_law_thing","_law_due"] (spSame 0):=by
 refine F.ok scSame (fun vs H Q E h=> ?_) (fun cdv A outer s H vs Q E hr h=> ?_)
 ·obtain ⟨_,_,rfl,_⟩:=h;rfl
 ·obtain ⟨x,y,rfl,⟨rfl,hx⟩,k⟩:=h
  refine ⟨_,Ae (Bk (pt_val (An Be (by rfl) T.isinstance (by decide+kernel) (Aa (pv 1) (Aa (pe_ty (T:="tuple") (by rfl) T.tuple (by decide+kernel)) Ac)))) (Ae (Bk (PW.pt (pw_or (pt_not (pt_val (An Be (by rfl) T.isinstance (by decide+kernel) (Aa (pv 0) (Aa (pe_ty (T:="tuple") (by rfl) T.tuple (by decide+kernel)) Ac))))) (pw_or1 (Ar op_ne (An A4 (by rfl) T.len PySem.boot_len (Aa (pv 0) Ac)) (An A4 (by rfl) T.len PySem.boot_len (Aa (pv 1) Ac)) (Ap _))))) (Aj (At pe_bl)) Au)
   (Aj ps_never)) Au)
   (Ae (Bk (PW.pt (pw_or (pt_val (An Be (by rfl) T.isinstance (by decide+kernel) (Aa (pv 1) (Aa (pe_ty (T:="bool") (by rfl) T.bool (by decide+kernel)) Ac)))) (pw_or1 (pt_val (An Be (by rfl) T.isinstance (by decide+kernel) (Aa (pv 0) (Aa (pe_ty (T:="bool") (by rfl) T.bool (by decide+kernel)) Ac))))))) (Aj (At (pe_and (An Be (by rfl) T.isinstance (by decide+kernel) (Aa (pv 1) (Aa (pe_ty (T:="bool") (by rfl) T.bool (by decide+kernel)) Ac))) (pe_and (An Be (by rfl) T.isinstance (by decide+kernel) (Aa (pv 0) (Aa (pe_ty (T:="bool") (by rfl) T.bool (by decide+kernel)) Ac))) (pe_one (Bi op_eq (pv 0) (pv 1) (Ap _))))))) Au)
   (Ae (Bk (PW.pt (pw_or (Ar op_isN (pv 1) pe_non (Ap _)) (pw_or1 (Ar op_isN (pv 0) pe_non (Ap _))))) (Aj (At (pe_and (Bi op_isN (pv 1) pe_non (Ap _)) (pe_one (Bi op_isN (pv 0) pe_non (Ap _)))))) Au)
   (Aj (At (pe_and (An (r:=rIsTy K) call_isTy (by rfl) T.isinstance (by decide+kernel) (Aa (pv 0) (Aa (A6 (Aa (pe_ty (T:="int") (by rfl) T.int (by decide+kernel)) (Aa (pe_ty (T:="str") (by rfl) T.str (by decide+kernel)) Ac))) Ac))) (pe_one (Bi op_eq (pv 0) (pv 1) (Ap _)))))))),?_⟩
  rcases hx with ⟨i,rfl⟩|⟨z,rfl⟩|⟨c,rfl⟩|rfl
  ·refine ⟨_,rfl,.int i,.type "int","tuple",false,rfl,.int i,rfl,_,rfl,iteF ?_⟩
   dsimp only [Bj]
   refine ⟨_,rfl,.int i,.type "int","bool",false,rfl,.int i,rfl,_,rfl,iteF ⟨_,rfl,.int i,.type "int","bool",false,rfl,.int i,rfl,_,rfl,iteF ?_⟩⟩
   dsimp only [Bj]
   refine ⟨_,rfl,rfl,_,rfl,iteF ⟨_,rfl,rfl,_,rfl,iteF ?_⟩⟩
   dsimp only [Bj]
   refine ⟨_,rfl,small (by simp),fun tp htp=>⟨.int i,.type "int",tp,["int","str"],true,rfl,.int i,Ab,kit_is1,_,rfl,iteT ⟨_,rfl,_,rfl,rfl,?_⟩⟩⟩
   rw [decide_eq_true rfl]
   exact k _ (Ad htp)
  ·refine ⟨_,rfl,.str z,.type "str","tuple",false,rfl,.str z,rfl,_,rfl,iteF ?_⟩
   dsimp only [Bj]
   refine ⟨_,rfl,.str z,.type "str","bool",false,rfl,.str z,rfl,_,rfl,iteF ⟨_,rfl,.str z,.type "str","bool",false,rfl,.str z,rfl,_,rfl,iteF ?_⟩⟩
   dsimp only [Bj]
   refine ⟨_,rfl,rfl,_,rfl,iteF ⟨_,rfl,rfl,_,rfl,iteF ?_⟩⟩
   dsimp only [Bj]
   refine ⟨_,rfl,small (by simp),fun tp htp=>⟨.str z,.type "str",tp,["int","str"],true,rfl,.str z,Ab,kit_is2,_,rfl,iteT ⟨_,rfl,_,rfl,rfl,?_⟩⟩⟩
   rw [decide_eq_true rfl]
   exact k _ (Ad htp)
  ·refine ⟨_,rfl,.bl c,.type "bool","tuple",false,rfl,.bl c,rfl,_,rfl,iteF ?_⟩
   dsimp only [Bj]
   refine ⟨_,rfl,.bl c,.type "bool","bool",true,rfl,.bl c,rfl,_,rfl,iteT ?_⟩
   refine ⟨_,rfl,.bl c,.type "bool","bool",true,rfl,.bl c,rfl,_,rfl,iteT ⟨_,rfl,.bl c,.type "bool","bool",true,rfl,.bl c,rfl,_,rfl,iteT ⟨_,rfl,_,rfl,rfl,?_⟩⟩⟩
   rw [decide_eq_true rfl]
   exact k _ (A9 _)
  ·refine ⟨_,rfl,.non,.type "NoneType","tuple",false,rfl,.non,rfl,_,rfl,iteF ?_⟩
   dsimp only [Bj]
   refine ⟨_,rfl,.non,.type "NoneType","bool",false,rfl,.non,rfl,_,rfl,iteF ⟨_,rfl,.non,.type "NoneType","bool",false,rfl,.non,rfl,_,rfl,iteF ?_⟩⟩
   dsimp only [Bj]
   refine ⟨_,rfl,rfl,_,rfl,iteT ?_⟩
   refine ⟨_,rfl,rfl,_,rfl,iteT ⟨_,rfl,rfl,?_⟩⟩
   rw [decide_eq_true rfl]
   exact k _ (A9 _)
theorem ok_SameS {n l:Nat} {f:Addr} {fd:FuncData} (F:Fun K "_law_same" "_law_same" sSame f fd) (T:Txt K mg ZN ZJ ZB)
  {gSame:Addr} {fSame:FuncData} (kSame:PySem.W.keepIn K (.ref gSame)=true) (bSame:Binds K fSame ["_law_thing","_law_due"] []) (hSame:mg "_law_same"=some (.ref gSame)) (GSame:FnOk P w K mg base CX0 l gSame fSame ["_law_thing","_law_due"] (spSame n)):
  FnOk P w K mg base CX0 (l+1) f fd ["_law_thing","_law_due"] (spSameT n):=by
 refine F.ok scSame (fun vs H Q E h=> ?_) (fun cdv A outer s H vs Q E hr h=> ?_)
 ·obtain ⟨_,_,_,_,rfl,_⟩:=h;rfl
 ·obtain ⟨a,b,xs,ys,rfl,ha,hb,hl,hz,hs,k⟩:=h
  refine ⟨_,Ae (Bk (pt_val (An Be (by rfl) T.isinstance (by decide+kernel) (Aa (pv 1) (Aa (pe_ty (T:="tuple") (by rfl) T.tuple (by decide+kernel)) Ac)))) (Ae (Bk (PW.pt (pw_or (pt_not (pt_val (An Be (by rfl) T.isinstance (by decide+kernel) (Aa (pv 0) (Aa (pe_ty (T:="tuple") (by rfl) T.tuple (by decide+kernel)) Ac))))) (pw_or1 (Ar op_ne (An A4 (by rfl) T.len PySem.boot_len (Aa (pv 0) Ac)) (An A4 (by rfl) T.len PySem.boot_len (Aa (pv 1) Ac)) (Ap _))))) (Aj (At pe_bl)) Au)
   (Aj (At (Bi op_notIn_seq pe_bl (pe_comp (T:=["_law_part","_law_other"]) (F:=[]) (js:=[]) (CS.to (osc:=Ag sSame) ⟨by rfl,by decide+kernel,by decide+kernel,by decide+kernel,by decide+kernel,by decide+kernel,by decide+kernel⟩ rfl rfl) rfl (pi_zip rfl T.zip (Aa (pv 0) (Aa (pv 1) Ac))) (fun _ _ _ _ _=>pg_tupK K 2 rfl rfl (A2 (Ao (i:=0) (show (["_law_part","_law_other"]:List Str).Nodup by decide+kernel) rfl (Or.inl rfl)) (A2 (Ao (i:=1) (show (["_law_part","_law_other"]:List Str).Nodup by decide+kernel) rfl (Or.inl rfl)) pgs_nil))) (fun _ _ _ _ _=>pif_nil) (fun _ _ _ _ _=>Am GSame hr rfl hSame kSame bSame .nil Ay (Aa (pv 0) (Aa (pv 1) Ac)))) (by rfl))))) Au)
   (Ae (Bk (PW.pt (pw_or (pt_val (An Be (by rfl) T.isinstance (by decide+kernel) (Aa (pv 1) (Aa (pe_ty (T:="bool") (by rfl) T.bool (by decide+kernel)) Ac)))) (pw_or1 (pt_val (An Be (by rfl) T.isinstance (by decide+kernel) (Aa (pv 0) (Aa (pe_ty (T:="bool") (by rfl) T.bool (by decide+kernel)) Ac))))))) (Aj (At (pe_and (An Be (by rfl) T.isinstance (by decide+kernel) (Aa (pv 1) (Aa (pe_ty (T:="bool") (by rfl) T.bool (by decide+kernel)) Ac))) (pe_and (An Be (by rfl) T.isinstance (by decide+kernel) (Aa (pv 0) (Aa (pe_ty (T:="bool") (by rfl) T.bool (by decide+kernel)) Ac))) (pe_one (Bi op_eq (pv 0) (pv 1) (Ap _))))))) Au)
   (Ae (Bk (PW.pt (pw_or (Ar op_isN (pv 1) pe_non (Ap _)) (pw_or1 (Ar op_isN (pv 0) pe_non (Ap _))))) (Aj (At (pe_and (Bi op_isN (pv 1) pe_non (Ap _)) (pe_one (Bi op_isN (pv 0) pe_non (Ap _)))))) Au)
   (Aj (At (pe_and (An (r:=rIsTy K) call_isTy (by rfl) T.isinstance (by decide+kernel) (Aa (pv 0) (Aa (A6 (Aa (pe_ty (T:="int") (by rfl) T.int (by decide+kernel)) (Aa (pe_ty (T:="str") (by rfl) T.str (by decide+kernel)) Ac))) Ac))) (pe_one (Bi op_eq (pv 0) (pv 1) (Ap _)))))))),?_⟩
  refine ⟨_,rfl,.ref b,.type "tuple","tuple",true,rfl,.tup hb,rfl,_,rfl,iteT ?_⟩
  refine ⟨_,rfl,.ref a,.type "tuple","tuple",true,rfl,.tup ha,rfl,_,rfl,iteF ⟨_,rfl,a,_,rfl,.inr (SqT.of ha),_,rfl,b,_,rfl,.inr (SqT.of hb),rfl,_,rfl,ite2 (fun g=>absurd g (by simp [hl])) fun _=> ?_⟩⟩
  dsimp only [Bj]
  refine ⟨_,rfl,_,rfl,a,b,xs,ys,rfl,SqT.of ha,SqT.of hb,fun D hD=>comp_zip (K:=K) (a:=a) (b:=b) (xs:=xs) (ys:=ys) (fun j σ zs H2=>∃(u v:Option V) (bs:List Bool),σ=[u,v]∧Same H H2∧H2 D=some (.lst zs)∧zs=bs.map V.bl∧bs=List.replicate j true) ⟨none,none,[],rfl,Ad hD,Ab,rfl,rfl⟩ (fun j σ zs H2 _ _ ⟨_,_,_,_,s2,e,_⟩=>⟨SqT.of (s2 _ _ ha),SqT.of (s2 _ _ hb),e⟩) ?_ ?_⟩
  ·rintro j u v σ zs H2 t hu hv ⟨u',v',bs,rfl,s2,d2,rfl,rfl⟩ ht
   have s3:=s2.trans (Ad (o:= .tup [u,v]) ht)
   have d3:=Ad (o:= .tup [u,v]) ht _ _ d2
   have t3:=Ab (H:=H2) (a:=t) (o:= .tup [u,v])
   generalize upd H2 t (.tup [u,v])=H3 at s3 d3 t3
   have j100:j<xs.length:=(List.getElem?_eq_some_iff.mp hu).1
   refine ⟨t,_,rfl,SqT.of t3,rfl,_,_,rfl,_,_,rfl,rfl,_,rfl,_,rfl,u,v,rfl,(hs j u v hu hv).same s3,fun H4 s4=>⟨s4 _ _ d3,Ak (by simp;omega),_,_,List.replicate (j+1) true,rfl,fun c o e=> ?_,Ab,by rw [List.replicate_succ',List.map_append];rfl,rfl⟩⟩
   rw [Ah (Ai e hD)]
   exact s4 _ _ (s3 _ _ e)
  ·rintro j σ zs H2 _ ⟨u',v',bs,rfl,s2,d2,rfl,rfl⟩
   have fl:((List.replicate j true).map V.bl).all flatV=true:=by
    rw [List.all_eq_true]
    intro x hx
    obtain ⟨z,_,rfl⟩:=List.mem_map.mp hx
    rfl
   have ni:inV (.bl false) ((List.replicate j true).map V.bl)=false:=by
    unfold inV
    refine List.any_eq_false.mpr fun y hy=> ?_
    obtain ⟨z,hz,rfl⟩:=List.mem_map.mp hy
    rw [List.eq_of_mem_replicate hz]
    decide
   refine ⟨D,_,rfl,.inl (SqL.of d2),rfl,fl,?_⟩
   rw [ni]
   exact k _ s2
theorem same_or {l n:Nat} {f:Addr} {fd:FuncData} {ps:List Str} (h0:FnOk P w K mg base CX0 l f fd ps (spSame 0)) (h1:FnOk P w K mg base CX0 l f fd ps (spSameT n)):FnOk P w K mg base CX0 l f fd ps (spSame (n+1)):=
 (h0.or h1).imp fun vs H Q E ⟨x,y,e,sm,k⟩=>sm.elim (fun h=> .inl ⟨x,y,e,h,k⟩) fun ⟨a,b,xs,ys,e1,e2,h1,h2,l,z,h⟩=> .inr ⟨a,b,xs,ys,by rw [e,e1,e2],h1,h2,l,z,h,k⟩
theorem ok_Same4 {f:Addr} {fd:FuncData} (F:Fun K "_law_same" "_law_same" sSame f fd) (T:Txt K mg ZN ZJ ZB)
  (kSame:PySem.W.keepIn K (.ref f)=true) (bSame:Binds K fd ["_law_thing","_law_due"] []) (hSame:mg "_law_same"=some (.ref f)):FnOk P w K mg base CX0 5 f fd ["_law_thing","_law_due"] (spSame 4):=by
 have S0:=ok_Same0 (P:=P) (w:=w) (base:=base) F T
 have S1:=same_or (S0.mono (by decide)) (ok_SameS F T kSame bSame hSame S0)
 have S2:=same_or (S0.mono (by decide)) (ok_SameS F T kSame bSame hSame S1)
 have S3:=same_or (S0.mono (by decide)) (ok_SameS F T kSame bSame hSame S2)
 exact same_or (S0.mono (by decide)) (ok_SameS F T kSame bSame hSame S3)
end
end K37
namespace K37
open PySem L2 Wk
theorem eqs_row {K:PySem.W.Frag} {H:Hp} {a b:Addr} {y x:R6} (h1:H a=some (.tup (rowV y))) (h2:H b=some (.tup (rowV x))):Eqs K H 1 (.ref a) (.ref b) (decide (rowV y=rowV x)):=
 Eqs.seq (n:=0) (.inl ⟨SqT.of h1,SqT.of h2⟩) rfl rfl fun j p q d e hp hq hd he=>by
  rw [hp] at hd
  rw [hq] at he
  cases hd
  cases he
  match j,hp,hq with
  |0,hp,hq=>cases hp;cases hq;exact Eqs.flat rfl
  |1,hp,hq=>cases hp;cases hq;exact Eqs.flat rfl
  |2,hp,hq=>cases hp;cases hq;exact Eqs.flat rfl
  |3,hp,hq=>cases hp;cases hq;exact Eqs.flat rfl
  |4,hp,hq=>cases hp;cases hq;exact Eqs.flat rfl
  |5,hp,hq=>cases hp;cases hq;exact Eqs.flat rfl
  |j+6,hp,_=>simp [rowV,tieV] at hp
theorem row_inj {R:List R6} (nd:(R.map (·.1.1)).Nodup) {x y:R6} (hx:x∈R) (hy:y∈R) (e:y.1.1=x.1.1):y=x:=by
 obtain ⟨i,hi,rfl⟩:=List.getElem_of_mem hx
 obtain ⟨j,hj,rfl⟩:=List.getElem_of_mem hy
 rw [List.nodup_iff_pairwise_ne,List.pairwise_map,List.pairwise_iff_getElem] at nd
 rcases Nat.lt_trichotomy i j with h|h|h
 ·exact absurd e.symm (nd i j hi hj h)
 ·subst h;rfl
 ·exact absurd e (nd j i hj hi h)
theorem row_eq {R:List R6} (nd:(R.map (·.1.1)).Nodup) {x y:R6} (hx:x∈R) (hy:y∈R):rowV y=rowV x↔y.1.1=x.1.1:=by
 constructor
 ·intro h
  have:(V.str y.1.1)= .str x.1.1:=(List.cons.inj h).1
  exact V.str.inj this
 ·intro h;rw [row_inj nd hx hy h]
theorem sm_row {H:Hp} {a b:Addr} {x:R6} (h1:H a=some (.tup (rowV x))) (h2:H b=some (.tup (rowV x))):SmV 1 H (.ref a) (.ref b):=
 .inr ⟨a,b,_,_,rfl,rfl,h1,h2,rfl,by show 6≤100;decide,fun i u v hu hv=>by
  rw [hu] at hv
  cases hv
  refine ⟨rfl,?_⟩
  match i,hu with
  |0,hu=>cases hu;exact .inr (.inl ⟨_,rfl⟩)
  |1,hu=>cases hu;exact .inl ⟨_,rfl⟩
  |2,hu=>cases hu;exact .inl ⟨_,rfl⟩
  |3,hu=>cases hu;exact .inl ⟨_,rfl⟩
  |4,hu=>cases hu;exact .inl ⟨_,rfl⟩
  |5,hu=>cases hu;exact .inr (.inr (.inl ⟨_,rfl⟩))
  |i+6,hu=>simp [rowV,tieV] at hu⟩
theorem sm_rows {H:Hp} {a b:Addr} {rs qs:List Addr} {R:List R6} (h1:H a=some (.tup (rs.map V.ref))) (h2:H b=some (.tup (qs.map V.ref))) (r1:RowsAt H rs R) (r2:RowsAt H qs R) (l:R.length≤60):SmV 2 H (.ref a) (.ref b):=
 .inr ⟨a,b,_,_,rfl,rfl,h1,h2,by rw [List.length_map,List.length_map,r1.1,r2.1],by rw [List.length_map,r1.1];omega,fun i u v hu hv=>by
  obtain ⟨r,er,rfl⟩:=A1 hu
  obtain ⟨q,eq,rfl⟩:=A1 hv
  obtain ⟨x,hx,e1⟩:=r1.get er
  exact sm_row e1 (r2.2 i q x eq hx)⟩
theorem sm_lay {H:Hp} {h b tq:Addr} {N:Nat} {qs:List Addr} {R:List R6} (h1:LayAt H h N R) (h2:H b=some (.tup [.int (N:Int),.ref tq])) (h3:H tq=some (.tup (qs.map V.ref))) (r2:RowsAt H qs R) (l:R.length≤60):SmV 3 H (.ref h) (.ref b):=by
 obtain ⟨tp,rs,e1,e2,e3⟩:=h1
 exact .inr ⟨h,b,_,_,rfl,rfl,e1,h2,rfl,by show 2≤100;decide,fun i u v hu hv=>by
  match i,hu,hv with
  |0,hu,hv=>cases hu;cases hv;exact .inl ⟨rfl,.inl ⟨_,rfl⟩⟩
  |1,hu,hv=>cases hu;cases hv;exact sm_rows e2 h3 e3 r2 l
  |i+2,hu,_=>simp at hu⟩
theorem sm_pair {H:Hp} {g du h b p q:Addr} (h1:H g=some (.tup [.ref h,.ref p])) (h2:H du=some (.tup [.ref b,.ref q])) (s:SmV 3 H (.ref h) (.ref b)) (e1:H p=some (.tup [])) (e2:H q=some (.tup [])):SmV 4 H (.ref g) (.ref du):=
 .inr ⟨g,du,_,_,rfl,rfl,h1,h2,rfl,by show 2≤100;decide,fun i u v hu hv=>by
  match i,hu,hv with
  |0,hu,hv=>cases hu;cases hv;exact s
  |1,hu,hv=>cases hu;cases hv;exact .inr ⟨p,q,_,_,rfl,rfl,e1,e2,rfl,by simp,fun i u v hu _=>by simp at hu⟩
  |i+2,hu,_=>simp at hu⟩
theorem cut_strs {zs:List Str} {lo hi:Option Int}:∃ms:List Str,cutV (zs.map V.str) lo hi=ms.map V.str∧ms.length≤zs.length∧∀z∈ms,z∈zs:=by
 unfold cutV
 rw [List.length_map,←List.map_drop,←List.map_take]
 exact ⟨_,rfl,by simp;omega,fun z hz=>List.mem_of_mem_drop (List.mem_of_mem_take hz)⟩
def spLaw (K:PySem.W.Frag):Sp:=fun vs H Q _=>∃(s:Addr) (ns:List Int),vs=[.ref s]∧SqL K H s (ns.map V.int)∧ns.length≤63∧∀H',Q (.bl true) H'
section
variable {P:Program} {w:World} {K:PySem.W.Frag} {mg:Str→Option Value} {base:Heap} {ZN ZJ ZB:Addr}
theorem scLaw:Az ["_law_script","_law_deck_here","_law_many_here","_law_rows","_law_names_here","_law_there","_law_row","_law_due","_law_turn","_law_some","_law_name"] ["_law_script"] (Ag sLaw):=⟨rfl,rfl,rfl,by decide+kernel,rfl,by decide+kernel,by decide+kernel⟩
theorem ok_Law {f:Addr} {fd:FuncData} (F:Fun K "law" "law" sLaw f fd) (T:Txt K mg ZN ZJ ZB)
  {gDeck:Addr} {fDeck:FuncData} (kDeck:PySem.W.keepIn K (.ref gDeck)=true) (bDeck:Binds K fDeck ["_law_script"] []) (hDeck:mg "_law_deck"=some (.ref gDeck)) (GDeck:FnOk P w K mg base CX0 8 gDeck fDeck ["_law_script"] (spDeck K))
  {gStand:Addr} {fStand:FuncData} (kStand:PySem.W.keepIn K (.ref gStand)=true) (bStand:Binds K fStand ["_law_deck_here","_law_most"] []) (hStand:mg "_law_stand"=some (.ref gStand)) (GStand:FnOk P w K mg base CX0 8 gStand fStand ["_law_deck_here","_law_most"] spStand)
  {gGone:Addr} {fGone:FuncData} (kGone:PySem.W.keepIn K (.ref gGone)=true) (bGone:Binds K fGone ["layers","name"] []) (hGone:mg "gone"=some (.ref gGone)) (GGone:FnOk P w K mg base CX0 8 gGone fGone ["layers","name"] spGone)
  {gSame:Addr} {fSame:FuncData} (kSame:PySem.W.keepIn K (.ref gSame)=true) (bSame:Binds K fSame ["_law_thing","_law_due"] []) (hSame:mg "_law_same"=some (.ref gSame)) (GSame:FnOk P w K mg base CX0 8 gSame fSame ["_law_thing","_law_due"] (spSame 4))
  {gRefused:Addr} {fRefused:FuncData} (kRefused:PySem.W.keepIn K (.ref gRefused)=true) (bRefused:Binds K fRefused ["_law_layers","_law_name"] []) (hRefused:mg "_law_refused"=some (.ref gRefused)) (GRefused:FnOk P w K mg base CX0 8 gRefused fRefused ["_law_layers","_law_name"] spRefused):
  FnOk P w K mg base CX0 9 f fd ["_law_script"] (spLaw K):=by
 refine F.ok scLaw (fun vs H Q E h=> ?_) (fun cdv A outer s H vs Q E hr h=> ?_)
 ·obtain ⟨_,_,rfl,_⟩:=h;rfl
 ·obtain ⟨s,ns,rfl,hS,hl,k⟩:=h
  refine ⟨_,Ae (Aq (i:=1) scLaw.nd rfl (Or.inl rfl) (Am GDeck hr rfl hDeck kDeck bDeck .nil Ay (Aa (pv 0) Ac)))
   (Ae (ps_asg (Am GStand hr rfl hStand kStand bStand .nil Ay (Aa (pv 1) (Aa Af Ac))) (pg_tup rfl (A2 (Ao (i:=2) scLaw.nd rfl (Or.inl rfl)) (A2 (Ao (i:=3) scLaw.nd rfl (Or.inl rfl)) (A2 (Ao (i:=4) scLaw.nd rfl (Or.inl rfl)) pgs_nil)))))
   (Ae (ps_comp (i:=5) (T:=["_law_row"]) (F:=[]) (js:=[]) scLaw.nd rfl (Or.inl rfl) (CS.to (osc:=Ag sLaw) ⟨by rfl,by decide+kernel,by decide+kernel,by decide+kernel,by decide+kernel,by decide+kernel,by decide+kernel⟩ rfl rfl) rfl (pi_tup (pv 3)) (fun _ _ _ _ _=>Ao (i:=0) (show (["_law_row"]:List Str).Nodup by decide+kernel) rfl (Or.inl rfl)) (fun _ _ _ _ _=>pif_nil) (fun _ _ _ _ _=>A8 (r:=rIxT K) ix_tup (pv 0) Af (fun _ _=>rfl)))
   (Ae (ps_for PassesOwn.never rfl (pi_list (pe_comp (T:=["_law_one"]) (F:=[]) (js:=[]) (CS.to (osc:=Ag sLaw) ⟨by rfl,by decide+kernel,by decide+kernel,by decide+kernel,by decide+kernel,by decide+kernel,by decide+kernel⟩ rfl rfl) rfl (pi_tup (pv 3)) (fun _ _ _ _ _=>Ao (i:=0) (show (["_law_one"]:List Str).Nodup by decide+kernel) rfl (Or.inl rfl)) (fun _ _ _ _ _=>pif_one (pt_not (pt_val (A8 (r:=rIxT K) ix_tup (pv 0) Af (fun _ _=>rfl))))) (fun _ _ _ _ _=>pv 0))) (Ao (i:=6) scLaw.nd rfl (Or.inr rfl)) (Ae (Aq (i:=7) scLaw.nd rfl (Or.inl rfl) (A6 (Aa (A6 (Aa (pv 2) (Aa (Bp call_tuple_of (by rfl) T.tuple (by decide+kernel) (Aa (pe_comp (T:=["_law_one"]) (F:=["_law_row"]) (js:=[6]) (CS.to (osc:=Ag sLaw) ⟨by rfl,by decide+kernel,by decide+kernel,by decide+kernel,by decide+kernel,by decide+kernel,by decide+kernel⟩ rfl rfl) rfl (pi_tup (pv 3)) (fun _ _ _ _ _=>Ao (i:=0) (show (["_law_one","_law_row"]:List Str).Nodup by decide+kernel) rfl (Or.inl rfl)) (fun _ _ _ _ _=>pif_one (Ar (r:=rNes K) (op_nes hr.units) (pv 0) (pv 1) (Ap _))) (fun _ _ _ _ _=>pv 0)) Ac)) Ac))) (Aa (A6 Ac) Ac))))
   (Aj (ps_for PassesOwn.never rfl (pi_range1 rfl T.range (Aa Af Ac)) (Ao (i:=8) scLaw.nd rfl (Or.inl rfl)) (Aj (Bk (pt_not (pt_val (Am GSame hr rfl hSame kSame bSame .nil Ay (Aa (Am GGone hr rfl hGone kGone bGone .nil Ay (Aa (A6 (Aa (pv 2) (Aa (pv 3) Ac))) (Aa (A8 ix_tup (pv 6) Af (fun _ _=>rfl)) Ac))) (Aa (pv 7) Ac))))) (Aj (At pe_bl)) Au))))))
   (Ae (Aq (i:=9) scLaw.nd rfl (Or.inl rfl) (Al op_cat (Bn sl_list (pv 4) (Bh (pe_un un_neg Af)) po_none) (Bo (Aa A3 (Aa A3 (Aa A3 Ac))))))
   (Ae (ps_for PassesOwn.never rfl (pi_list (Al op_cat (Bn sl_list (pv 5) po_none (Bh Af)) (Bn sl_list (pv 5) (Bh (pe_un un_neg Af)) po_none))) (Ao (i:=10) scLaw.nd rfl (Or.inl rfl)) (Aj (Aq (i:=9) scLaw.nd rfl (Or.inl rfl) (Al op_cat (pv 9) (Bo (Aa (Bn sl_str (pv 10) po_none (Bh (pe_un un_neg Af))) (Aa (Bn sl_str (Al op_add_str (pv 10) A3) po_none (Bh Af)) (Aa (Bn sl_str (pv 10) (Bh Af) po_none) Ac))))))))
   (Ae (ps_for PassesOwn.never rfl (pi_list (pv 9)) (Ao (i:=10) scLaw.nd rfl (Or.inl rfl)) (Aj (Bk (PW.pt (pw_and (Ar op_ne (pv 10) A3 (Ap _)) (pw_and (Ar op_notIn_seq (pv 10) (pv 5) (by rfl)) (pw_and1 (pt_not (pt_val (Am GRefused hr rfl hRefused kRefused bRefused .nil Ay (Aa (A6 (Aa (pv 2) (Aa (pv 3) Ac))) (Aa (pv 10) Ac))))))))) (Aj (At pe_bl)) Au)))
   (Aj (At (Am GRefused hr rfl hRefused kRefused bRefused .nil Ay (Aa (A6 (Aa (pv 2) (Aa (A6 Ac) Ac))) (Aa (A8 A0 (Al op_cat (pv 5) (pv 4)) Af (fun _ _=>rfl)) Ac))))))))))),?_⟩
  refine ⟨_,rfl,s,ns,rfl,hS,hl,fun d c H1 s1 D1=> ?_⟩
  refine ⟨_,rfl,d,c,36,rfl,D1,by decide,fun r tp ln N rs R zs H2 b2 D2 er N1 N24 ht hR S hln zl nd nc=>⟨r,_,rfl,SqT.of er,rfl,_,_,rfl,_,_,rfl,_,_,rfl,rfl,?_⟩⟩
  clear b2 s1 er hS
  have R60:=S.len
  refine ⟨_,rfl,tp,rfl,⟨_,SqT.of ht⟩,fun D hD=>comp_tup (K:=K) (a:=tp) (xs:=rs.map V.ref) (fun j σ ys H3=>∃u:Option V,σ=[u]∧ys=((R.take j).map (·.1.1)).map V.str∧Same H2 H3∧H3 D=some (.lst ys)) ⟨none,rfl,rfl,Ad hD,Ab⟩ (fun j σ ys H3 _ ⟨_,_,_,s,e⟩=>⟨SqT.of (s _ _ ht),e⟩) ?_ ?_⟩
  ·rintro j x σ ys H3 hx ⟨u,rfl,rfl,s3,d3⟩
   obtain ⟨r',er,rfl⟩:=A1 hx
   obtain ⟨y,ey,hy⟩:=hR.get er
   refine ⟨_,rfl,r',_,0,_,rfl,rfl,SqT.of (s3 _ _ hy),Av (j:=0) rfl,d3,Ak (by rw [List.length_map,List.length_map,List.length_take];omega),_,rfl,?_,Bf s3 hD,Ab⟩
   rw [List.take_add_one,ey,List.map_append,List.map_append];rfl
  rintro σ ys H3 ⟨u,rfl,rfl,s3,d3⟩
  rw [List.length_map,hR.1,List.take_length] at d3
  have D3:=D2.same s3
  have ht3:=s3 _ _ ht
  have hR3:=hR.mono fun r xs e=>s3 _ _ e
  have ln3:=s3 _ _ hln
  clear ht hln s3 D2 D1 hD
  generalize hth:R.map (·.1.1)=th at d3
  refine ⟨_,rfl,tp,rfl,⟨_,SqT.of ht3⟩,fun Dq hDq=>comp_tup (K:=K) (a:=tp) (xs:=rs.map V.ref) (fun j σ ys H4=>∃(u:Option V) (qs:List Addr),σ=[u]∧ys=qs.map V.ref∧Same H3 H4∧H4 Dq=some (.lst ys)∧qs.length≤j∧∀q∈qs,∃x∈R,x.2.2=false∧H3 q=some (.tup (rowV x))) ⟨none,[],rfl,rfl,Ad hDq,Ab,Nat.le_refl _,by simp⟩ (fun j σ ys H4 _ ⟨_,_,_,_,s,e,_⟩=>⟨SqT.of (s _ _ ht3),e⟩) ?_ ?_⟩
  ·rintro j x σ ys H4 hx ⟨u,qs,rfl,rfl,s4,d4,ql,qq⟩
   obtain ⟨r',er,rfl⟩:=A1 hx
   obtain ⟨y,ey,hy⟩:=hR3.get er
   have jl:j<R.length:=(List.getElem?_eq_some_iff.mp ey).1
   refine ⟨_,rfl,r',_,5,_,rfl,rfl,SqT.of (s4 _ _ hy),Av (j:=5) rfl,_,rfl,ite2 (fun g=> ?_) fun g=> ?_⟩
   ·have g:y.2.2=false:=by
     cases h:y.2.2 with
     |false=>rfl
     |true=>rw [h] at g;cases g
    refine ⟨_,rfl,d4,Ak (by rw [List.length_map];omega),_,qs++[r'],rfl,by rw [List.map_append];rfl,Bf s4 hDq,Ab,by rw [List.length_append,List.length_singleton];omega,fun q hq=> ?_⟩
    rcases List.mem_append.mp hq with hq|hq
    ·exact qq q hq
    ·rw [List.mem_singleton.mp hq];exact ⟨y,List.mem_of_getElem? ey,g,hy⟩
   ·exact ⟨_,qs,rfl,rfl,s4,d4,by omega,qq⟩
  rintro σ ys H4 ⟨u,qs,rfl,rfl,s4,d4,ql,qq⟩
  rw [List.length_map,hR.1] at ql
  refine ⟨Dq,rfl,⟨_,SqL.of d4⟩,for_list (K:=K) (a:=Dq) (xs:=qs.map V.ref) (fun j σ H5=>∃u6 u7 u8:Option V,σ=[some (.ref s),some (.ref d),some (.int (N:Int)),some (.ref tp),some (.ref ln),some (.ref D),u6,u7,u8,none,none]∧Same H4 H5) ⟨none,none,none,rfl,A9 _⟩ (fun j σ H5 _ ⟨_,_,_,_,s5⟩=>SqL.of (s5 _ _ d4)) ?_ ?_⟩
  ·rintro j x0 σ H5 hx ⟨u6,u7,u8,rfl,s5⟩
   obtain ⟨q,eq,rfl⟩:=A1 hx
   obtain ⟨x,hxR,xk,hq3⟩:=qq q (List.mem_of_getElem? eq)
   have S5:=s4.trans s5
   have hq5:=S5 _ _ hq3
   have ht5:=S5 _ _ ht3
   have hR5:=hR3.mono fun r xs e=>S5 _ _ e
   have eN:∀y∈R,decide (rowV y=rowV x)=decide (y.1.1=x.1.1):=fun y hy=>by
    rw [Bool.eq_iff_iff,decide_eq_true_eq,decide_eq_true_eq]
    exact row_eq S.nd hxR hy
   refine ⟨_,rfl,_,rfl,tp,rfl,⟨_,SqT.of ht5⟩,fun De hDe=>comp_tup (K:=K) (a:=tp) (xs:=rs.map V.ref) (fun j σ ys H6=>∃(u:Option V) (ps:List Addr),σ=[u,some (.ref q)]∧ys=ps.map V.ref∧Same H5 H6∧H6 De=some (.lst ys)∧RowsAt H6 ps (dropN (R.take j) x.1.1)) ⟨none,[],rfl,rfl,Ad hDe,Ab,rfl,fun i r t e=>by simp at e⟩ (fun j σ ys H6 _ ⟨_,_,_,_,s,e,_⟩=>⟨SqT.of (s _ _ ht5),e⟩) ?_ ?_⟩
   ·rintro j z σ ys H6 hx ⟨u,ps,rfl,rfl,s6,d6,p6⟩
    obtain ⟨r',er,rfl⟩:=A1 hx
    obtain ⟨y,ey,hy⟩:=hR5.get er
    have h6:=s6 _ _ hy
    have yR:=List.mem_of_getElem? ey
    have pl:ps.length≤60:=by
     rw [p6.1]
     refine Nat.le_trans (List.length_filter_le _ _) ?_
     rw [List.length_take];omega
    have tk:R.take (j+1)=R.take j++[y]:=by rw [List.take_add_one,ey];rfl
    refine ⟨_,rfl,_,rfl,0,decide (rowV y=rowV x),r',q,rfl,rfl,by decide,eqs_row h6 (s6 _ _ hq5),_,rfl,ite2 (fun g=> ?_) fun g=> ?_⟩
    ·have g:¬y.1.1=x.1.1:=by
      intro e
      rw [eN y yR,decide_eq_true e] at g
      cases g
     have kp:∀(r:Addr) (zs:List V) (o:HO),H6 r=some (.tup zs)→upd H6 De o r=some (.tup zs):=fun r zs o e=>by rw [Ah (ne_of e d6 (by intro z;cases z))];exact e
     refine ⟨_,rfl,d6,Ak (by rw [List.length_map];omega),_,ps++[r'],rfl,by rw [List.map_append];rfl,Bf s6 hDe,Ab,?_⟩
     rw [tk]
     unfold dropN
     rw [List.filter_append,List.filter_cons_of_pos (by simpa using g)]
     exact (p6.mono fun r zs e=>kp r zs _ e).snoc (kp _ _ _ h6)
    ·have g:y.1.1=x.1.1:=by
      rw [eN y yR] at g
      simpa using g
     refine ⟨_,ps,rfl,rfl,s6,d6,?_⟩
     rw [tk]
     unfold dropN
     rw [List.filter_append,List.filter_cons_of_neg (by simpa using g),List.filter_nil,List.append_nil]
     exact p6
   rintro σ ys H6 ⟨u,ps,rfl,rfl,s6,d6,p6⟩
   rw [List.length_map,hR.1,List.take_length] at p6
   refine ⟨De,_,rfl,.inl ⟨SqL.of d6,fun tq htq=>⟨small (by simp),fun b1 hb1=>⟨small (by simp),fun e1 he1=>⟨small (by simp),fun du hdu=> ?_⟩⟩⟩⟩⟩
   have t1:=Ad (o:= .tup (ps.map V.ref)) htq
   have t2:=Ad (o:= .tup [.int (N:Int),.ref tq]) hb1
   have t3:=Ad (o:= .tup []) he1
   have t4:=Ad (o:= .tup [.ref b1,.ref e1]) hdu
   have S7:=(((s6.trans t1).trans t2).trans t3).trans t4
   have htq7:=t4 _ _ (t3 _ _ (t2 _ _ (Ab (H:=H6) (a:=tq) (o:= .tup (ps.map V.ref)))))
   have hb17:=t4 _ _ (t3 _ _ (Ab (H:=upd H6 tq (.tup (ps.map V.ref))) (a:=b1) (o:= .tup [.int (N:Int),.ref tq])))
   have he17:=t4 _ _ (Ab (H:=upd (upd H6 tq (.tup (ps.map V.ref))) b1 (.tup [.int (N:Int),.ref tq])) (a:=e1) (o:= .tup []))
   have hdu7:=Ab (H:=upd (upd (upd H6 tq (.tup (ps.map V.ref))) b1 (.tup [.int (N:Int),.ref tq])) e1 (.tup [])) (a:=du) (o:= .tup [.ref b1,.ref e1])
   have p7:RowsAt _ ps (dropN R x.1.1):=p6.mono fun r xs e=>t4 _ _ (t3 _ _ (t2 _ _ (t1 _ _ e)))
   generalize upd (upd (upd (upd H6 tq (.tup (ps.map V.ref))) b1 (.tup [.int (N:Int),.ref tq])) e1 (.tup [])) du (.tup [.ref b1,.ref e1])=H7 at S7 htq7 hb17 he17 hdu7 p7
   clear t1 t2 t3 t4 hdu he1 hb1 htq p6 d6 s6 hDe
   have S57:=S5.trans S7
   refine ⟨2,rfl,by decide,by decide,for_range (lo:=0) (n:=2) (fun i σ H8=>∃u8:Option V,σ=[some (.ref s),some (.ref d),some (.int (N:Int)),some (.ref tp),some (.ref ln),some (.ref D),some (.ref q),some (.ref du),u8,none,none]∧Same H7 H8) ⟨_,rfl,A9 _⟩ ?_ ?_⟩
   ·rintro i σ H8 hi ⟨u8,rfl,s8⟩
    have S8:=S57.trans s8
    refine ⟨_,rfl,_,rfl,small (by simp),fun hh hhh=> ?_⟩
    have s9:=Ad (o:= .tup [.int (N:Int),.ref tp]) hhh
    refine ⟨_,rfl,q,_,0,_,rfl,rfl,SqT.of (s9 _ _ (S8 _ _ hq3)),Av (j:=0) rfl,hh,N,R,x.1.1,rfl,⟨tp,rs,Ab,s9 _ _ (S8 _ _ ht3),hR3.mono fun r xs e=>s9 _ _ (S8 _ _ e)⟩,R60,fun y hy e=>by rw [row_inj S.nd hxR hy e];exact xk,List.mem_map.mpr ⟨x,hxR,rfl⟩,fun g h' p H9 sA eg lay ep=> ?_⟩
    have sB:=(s8.trans s9).trans sA
    have dl:(dropN R x.1.1).length≤60:=Nat.le_trans (List.length_filter_le _ _) R60
    refine ⟨_,rfl,.ref g,.ref du,rfl,sm_pair eg (sB _ _ hdu7) (sm_lay lay (sB _ _ hb17) (sB _ _ htq7) (p7.mono fun r xs e=>sB _ _ e) dl) ep (sB _ _ he17),fun H10 sC=>⟨_,rfl,iteF ?_⟩⟩
    exact ⟨_,rfl,sB.trans sC⟩
   rintro σ H8 ⟨u8,rfl,s8⟩
   exact ⟨_,_,_,rfl,(s5.trans S7).trans s8⟩
  rintro σ H5 ⟨u6,u7,u8,rfl,s5⟩
  have S5:=s4.trans s5
  have d5:=S5 _ _ d3
  have ln5:=S5 _ _ ln3
  have ht5:=S5 _ _ ht3
  have hR5:=hR3.mono fun r xs e=>S5 _ _ e
  have th60:th.length≤60:=by rw [←hth,List.length_map];exact R60
  have th8:∀z∈th,z.length≤8:=fun z hz=>by
   rw [←hth] at hz
   obtain ⟨x,hx,rfl⟩:=List.mem_map.mp hz
   exact (S.ok x hx).1.2.1
  clear S5 s5 s4 d4 qq ql hDq D3 d3 ln3 ht3 hR3 H4
  refine ⟨_,rfl,_,rfl,_,rfl,ln,_,rfl,SqL.of ln5,fun p1 hp1=>⟨small (by simp),fun p2 hp2=> ?_⟩⟩
  obtain ⟨ms,em,lm,_⟩:=cut_strs (zs:=zs) (lo:=some (-3)) (hi:=none)
  rw [em] at hp2 ⊢
  have t1:=Ad (o:= .lst (ms.map V.str)) hp1
  have t2:=Ad (o:= .lst [.str "a",.str "zzzzzzzz",.str "gone"]) hp2
  have e1:=t2 _ _ (Ab (H:=H5) (a:=p1) (o:= .lst (ms.map V.str)))
  have e2:=Ab (H:=upd H5 p1 (.lst (ms.map V.str))) (a:=p2) (o:= .lst [.str "a",.str "zzzzzzzz",.str "gone"])
  have S6:=t1.trans t2
  generalize upd (upd H5 p1 (.lst (ms.map V.str))) p2 (.lst [.str "a",.str "zzzzzzzz",.str "gone"])=H6 at e1 e2 S6
  clear t1 t2 hp1 hp2
  refine ⟨p1,p2,_,_,rfl,rfl,e1,e2,Nat.le_of_lt (Ak (by rw [List.length_map];simp;omega)),fun so hso=> ?_⟩
  have s7:=Ad (o:= .lst (ms.map V.str++[.str "a",.str "zzzzzzzz",.str "gone"])) hso
  have S7:=S6.trans s7
  obtain ⟨ws,hws,wl,e7⟩:∃ws:List Str,ms.map V.str++[.str "a",.str "zzzzzzzz",.str "gone"]=ws.map V.str∧ws.length≤63∧upd H6 so (.lst (ms.map V.str++[.str "a",.str "zzzzzzzz",.str "gone"])) so=some (.lst (ws.map V.str)):=⟨ms++[("a":Str),"zzzzzzzz","gone"],by rw [List.map_append];rfl,by simp;omega,by rw [Ab,List.map_append];rfl⟩
  generalize upd H6 so (.lst (ms.map V.str++[.str "a",.str "zzzzzzzz",.str "gone"]))=H7 at s7 S7 e7
  clear e1 e2 S6 s7 hso hws em
  obtain ⟨m1,em1,lm1,hm1⟩:=cut_strs (zs:=th) (lo:=none) (hi:=some 4)
  obtain ⟨m2,em2,lm2,hm2⟩:=cut_strs (zs:=th) (lo:=some (-4)) (hi:=none)
  refine ⟨_,rfl,_,rfl,D,_,rfl,SqL.of (S7 _ _ d5),fun p3 hp3=> ?_⟩
  rw [em1]
  have t3:=Ad (o:= .lst (m1.map V.str)) hp3
  have e3:=Ab (H:=H7) (a:=p3) (o:= .lst (m1.map V.str))
  generalize upd H7 p3 (.lst (m1.map V.str))=H8 at t3 e3
  refine ⟨_,rfl,_,rfl,_,rfl,D,_,rfl,SqL.of (t3 _ _ (S7 _ _ d5)),fun p4 hp4=> ?_⟩
  rw [em2]
  have t4:=Ad (o:= .lst (m2.map V.str)) hp4
  have e4:=Ab (H:=H8) (a:=p4) (o:= .lst (m2.map V.str))
  generalize upd H8 p4 (.lst (m2.map V.str))=H9 at t4 e4
  refine ⟨p3,p4,_,_,rfl,rfl,t4 _ _ e3,e4,Nat.le_of_lt (Ak (by rw [List.length_map,List.length_map];omega)),fun li hli=> ?_⟩
  have t5:=Ad (o:= .lst (m1.map V.str++m2.map V.str)) hli
  have e5:upd H9 li (.lst (m1.map V.str++m2.map V.str)) li=some (.lst ((m1++m2).map V.str)):=by rw [Ab,List.map_append]
  generalize upd H9 li (.lst (m1.map V.str++m2.map V.str))=Ha at t5 e5
  have sA:=(t3.trans t4).trans t5
  have SA:=S7.trans sA
  have eA:=sA _ _ e7
  have mth:∀z∈m1++m2,z.length≤8:=fun z hz=>(List.mem_append.mp hz).elim (fun h=>th8 z (hm1 z h)) fun h=>th8 z (hm2 z h)
  have ml:(m1++m2).length≤120:=by rw [List.length_append];omega
  generalize m1++m2=mm at e5 mth ml
  clear t3 t4 t5 e3 e4 sA S7 e7 hli hp3 hp4 hm1 hm2 lm1 lm2 em1 em2
  refine ⟨li,rfl,⟨_,SqL.of e5⟩,for_list (K:=K) (a:=li) (xs:=mm.map V.str) (fun j σ Hb=>∃(u10:Option V) (so:Addr) (ws:List Str),σ=[some (.ref s),some (.ref d),some (.int (N:Int)),some (.ref tp),some (.ref ln),some (.ref D),u6,u7,u8,some (.ref so),u10]∧Same Ha Hb∧Hb so=some (.lst (ws.map V.str))∧ws.length≤63+3 * j) ⟨none,so,ws,rfl,A9 _,eA,wl⟩ (fun j σ Hb _ ⟨_,_,_,_,sb,_⟩=>SqL.of (sb _ _ e5)) ?_ ?_⟩
  ·clear eA wl
   rintro j x σ Hb hx ⟨u10,so,ws,rfl,sb,eb,wl⟩
   obtain ⟨z,ez,rfl⟩:=A1 hx
   have z8:=mth z (List.mem_of_getElem? ez)
   have jl:j<mm.length:=(List.getElem?_eq_some_iff.mp ez).1
   have zz:z.length≤sizeLine:=Nat.le_of_lt (Ak (by omega))
   have za:(z++("a":Str)).length≤sizeLine:=by
    rw [show (z++("a":Str)).length=(z++("a":Str)).cps.toList.length from len_cps _,cat_cps,List.length_append,←len_cps]
    exact Nat.le_of_lt (Ak (by show z.length+1≤1000;omega))
   refine ⟨_,rfl,_,rfl,_,rfl,_,rfl,z,rfl,zz,_,rfl,_,_,rfl,rfl,?_,_,rfl,_,rfl,za,_,rfl,_,rfl,_,rfl,zz,small (by simp),fun p5 hp5=> ?_⟩
   ·exact Nat.le_of_lt (Ak (by show z.length+1≤1000;omega))
   have t1:=Ad (o:= .lst [.str (Txt.slice z none (some (-1))),.str (Txt.slice (z++("a":Str)) none (some 8)),.str (Txt.slice z (some 1) none)]) hp5
   refine ⟨so,p5,_,_,rfl,rfl,t1 _ _ eb,Ab,Nat.le_of_lt (Ak (by rw [List.length_map];simp;omega)),fun so2 hso2=> ?_⟩
   exact ⟨_,so2,ws++[Txt.slice z none (some (-1)),Txt.slice (z++("a":Str)) none (some 8),Txt.slice z (some 1) none],rfl,(sb.trans t1).trans (Ad hso2),by rw [Ab,List.map_append];rfl,by rw [List.length_append];simp;omega⟩
  rintro σ Hb ⟨u10,so,ws,rfl,sb,eb,wl⟩
  rw [List.length_map] at wl
  have SB:=SA.trans sb
  have thN:∀{w:Str} {Hc:Hp},Same Hb Hc→w ∉ th→∀hh:Addr,Hc hh=some (.tup [.int (N:Int),.ref tp])→LayAt Hc hh N R∧w ∉ R.map (·.1.1):=fun sc hw hh e=>⟨⟨tp,rs,e,sc _ _ (SB _ _ ht5),hR5.mono fun r xs e=>sc _ _ (SB _ _ e)⟩,by rw [hth];exact hw⟩
  have dB:=SB _ _ d5
  have lB:=SB _ _ ln5
  have fl:(th.map V.str).all flatV=true:=by
   rw [List.all_eq_true]
   intro x hx
   obtain ⟨z,_,rfl⟩:=List.mem_map.mp hx
   rfl
  clear SA sb SB ht5 hR5 d5 ln5 e5 mth ml
  refine ⟨_,rfl,so,rfl,⟨_,SqL.of eb⟩,for_list (K:=K) (a:=so) (xs:=ws.map V.str) (fun j σ Hc=>∃u10:Option V,σ=[some (.ref s),some (.ref d),some (.int (N:Int)),some (.ref tp),some (.ref ln),some (.ref D),u6,u7,u8,some (.ref so),u10]∧Same Hb Hc) ⟨_,rfl,A9 _⟩ (fun j σ Hc _ ⟨_,_,sc⟩=>SqL.of (sc _ _ eb)) ?_ ?_⟩
  ·rintro j x σ Hc hx ⟨u10,rfl,sc⟩
   obtain ⟨w,ew,rfl⟩:=A1 hx
   refine ⟨_,rfl,rfl,_,rfl,ite2 (fun g=> ?_) fun g=>⟨_,rfl,sc⟩⟩
   refine ⟨_,rfl,_,rfl,D,_,rfl,.inl (SqL.of (sc _ _ dB)),rfl,fl,_,rfl,ite2 (fun g2=> ?_) fun g2=>⟨_,rfl,sc⟩⟩
   have hw:w ∉ th:=by
    rw [if_pos rfl,inV_strs] at g2
    simpa using g2
   refine ⟨_,rfl,_,rfl,small (by simp),fun hh hhh=> ?_⟩
   have sd:=sc.trans (Ad (o:= .tup [.int (N:Int),.ref tp]) hhh)
   obtain ⟨q1,q2⟩:=thN sd hw hh Ab
   exact ⟨_,rfl,hh,N,R,w,rfl,q1,q2,fun Hd sd2=>⟨_,rfl,iteF ⟨_,rfl,sd.trans sd2⟩⟩⟩
  rintro σ Hc ⟨u10,rfl,sc⟩
  refine ⟨_,rfl,small (by simp),fun e1 he1=>⟨small (by simp),fun hh hhh=> ?_⟩⟩
  have t1:=Ad (o:= .tup []) he1
  have t2:=Ad (o:= .tup [.int (N:Int),.ref e1]) hhh
  have t12:=sc.trans (t1.trans t2)
  refine ⟨_,rfl,_,rfl,D,ln,_,_,rfl,rfl,t12 _ _ dB,t12 _ _ lB,Nat.le_of_lt (Ak (by rw [List.length_map,List.length_map];omega)),fun cc hcc=> ?_⟩
  have t3:=Ad (o:= .lst (th.map V.str++zs.map V.str)) hcc
  obtain ⟨w0,ws0,ew0⟩:∃w0 ws0,th++zs=w0::ws0:=by
   match th,zs,zl with
   |a::t,zs,_=>exact ⟨a,t++zs,rfl⟩
   |[],a::t,_=>exact ⟨a,t,rfl⟩
   |[],[],h=>simp at h
  refine ⟨cc,_,0,.str w0,rfl,rfl,SqL.of Ab,Av (j:=0) (by rw [←List.map_append,ew0];rfl),hh,N,[],w0,rfl,⟨e1,[],t3 _ _ Ab,t3 _ _ (t2 _ _ Ab),rfl,fun i r x e=>by simp at e⟩,by simp,fun Hd _=>k Hd⟩
end
end K37
namespace K37
open PySem L2 Wk
theorem us1 {fd:FuncData} {ps:List Str} (hp:ps.length=1) (h:∀a0:Value,bindArgs fd ⟨[a0],[]⟩=pure (ps.zip [a0])):∀us:List Value,us.length=ps.length→bindArgs fd ⟨us,[]⟩=pure (ps.zip us):=fun us hl=>match us,hl.trans hp with|[a0],_=>h a0
theorem us2 {fd:FuncData} {ps:List Str} (hp:ps.length=2) (h:∀a0 a1:Value,bindArgs fd ⟨[a0,a1],[]⟩=pure (ps.zip [a0,a1])):∀us:List Value,us.length=ps.length→bindArgs fd ⟨us,[]⟩=pure (ps.zip us):=fun us hl=>match us,hl.trans hp with|[a0,a1],_=>h a0 a1
theorem us4 {fd:FuncData} {ps:List Str} (hp:ps.length=4) (h:∀a0 a1 a2 a3:Value,bindArgs fd ⟨[a0,a1,a2,a3],[]⟩=pure (ps.zip [a0,a1,a2,a3])):∀us:List Value,us.length=ps.length→bindArgs fd ⟨us,[]⟩=pure (ps.zip us):=fun us hl=>match us,hl.trans hp with|[a0,a1,a2,a3],_=>h a0 a1 a2 a3
theorem us6 {fd:FuncData} {ps:List Str} (hp:ps.length=6) (h:∀a0 a1 a2 a3 a4 a5:Value,bindArgs fd ⟨[a0,a1,a2,a3,a4,a5],[]⟩=pure (ps.zip [a0,a1,a2,a3,a4,a5])):∀us:List Value,us.length=ps.length→bindArgs fd ⟨us,[]⟩=pure (ps.zip us):=fun us hl=>match us,hl.trans hp with|[a0,a1,a2,a3,a4,a5],_=>h a0 a1 a2 a3 a4 a5
theorem all_mk {l:PySem.W.OpenLaw} {w:World} {K:PySem.W.Frag} {h:Heap} {mg:Str→Option Value} {fa N B d1 d2 d3 d4 f0 f1 f2 f3 f4 f5 f6 f7 f8 f9 f10 f11 f12 f13 f14 f15:Addr} (X:K.In h) (G:h.Ns mainGlobals mg) (hfa:mg "law"=some (.ref fa))
  {nmN qN:Str} {nsN:Addr} {bsN subN:List Value} {snN:List Str} {abN:Bool} {colN:Option Bool} {ddN:Option Addr} {kaN kbN kcN kdN keN:Option Value}
  {nmB qB:Str} {nsB:Addr} {bsB subB:List Value} {snB:List Str} {abB:Bool} {colB:Option Bool} {ddB:Option Addr} {kaB kbB kcB kdB keB:Option Value}
  {nm1 q1:Str} {ns1:Addr} {bs1 sub1:List Value} {sn1:List Str} {ab1:Bool} {col1:Option Bool} {dd1:Option Addr} {ka1 kb1 kc1 kd1 ke1:Option Value}
  {nm2 q2:Str} {ns2:Addr} {bs2 sub2:List Value} {sn2:List Str} {ab2:Bool} {col2:Option Bool} {dd2:Option Addr} {ka2 kb2 kc2 kd2 ke2:Option Value}
  {nm3 q3:Str} {ns3:Addr} {bs3 sub3:List Value} {sn3:List Str} {ab3:Bool} {col3:Option Bool} {dd3:Option Addr} {ka3 kb3 kc3 kd3 ke3:Option Value}
  {nm4 q4:Str} {ns4:Addr} {bs4 sub4:List Value} {sn4:List Str} {ab4:Bool} {col4:Option Bool} {dd4:Option Addr} {ka4 kb4 kc4 kd4 ke4:Option Value}
  {od0 an0 od1 an1 od2 an2 od3 an3 od4 an4 od5 an5 od6 an6 od7 an7 od8 an8 od9 an9 od10 an10 od11 an11 od12 an12 od13 an13 od14 an14 od15 an15:Option Addr} {sl0 sl1 sl2 sl3 sl4 sl5 sl6 sl7 sl8 sl9 sl10 sl11 sl12 sl13 sl14 sl15:Array (Option Value)} {oc0 kV0 dc0 pm0 cd0 ct0 oc1 kV1 dc1 pm1 cd1 ct1 oc2 kV2 dc2 pm2 cd2 ct2 oc3 kV3 dc3 pm3 cd3 ct3 oc4 kV4 dc4 pm4 cd4 ct4 oc5 kV5 dc5 pm5 cd5 ct5 oc6 kV6 dc6 pm6 cd6 ct6 oc7 kV7 dc7 pm7 cd7 ct7 oc8 kV8 dc8 pm8 cd8 ct8 oc9 kV9 dc9 pm9 cd9 ct9 oc10 kV10 dc10 pm10 cd10 ct10 oc11 kV11 dc11 pm11 cd11 ct11 oc12 kV12 dc12 pm12 cd12 ct12 oc13 kV13 dc13 pm13 cd13 ct13 oc14 kV14 dc14 pm14 cd14 ct14 oc15 kV15 dc15 pm15 cd15 ct15:Value}
  (aN:PySem.W.nsIn K mainGlobals "NoDeed"=some (some (.ref N)))
  (aB:PySem.W.nsIn K mainGlobals "TieError"=some (some (.ref B)))
  (lN:K.lookup N=some (excClassObj nmN qN N nsN bsN [.ref B,.type "ValueError",.type "Exception",.type "BaseException",.type "object"] true snN subN abN colN ddN kaN kbN kcN kdN keN "ValueError.__new__"))
  (lB:K.lookup B=some (excClassObj nmB qB B nsB bsB [.type "ValueError",.type "Exception",.type "BaseException",.type "object"] true snB subB abB colB ddB kaB kbB kcB kdB keB "ValueError.__new__"))
  (saN:PySem.W.findIn K (.ref N) "__setattr__"=some (some (.builtin "object.__setattr__")))
  (kN:PySem.W.keepIn K (.ref N)=true)
  (nN:PySem.W.findIn K (.ref N) "word"=some none)
  (a0:PySem.W.findIn K (.ref N) "__init__"=some (some (.ref f0)))
  (i0:PySem.W.isFn K (.ref f0)=true)
  (l0:K.lookup f0=some ⟨oc0,od0,.func (PySem.W.fnOf "__init__" "NoDeed.__init__" (Ax sNInit) (Aw sNInit) (Ag sNInit) .none kV0 dc0 pm0 an0 cd0 ct0),sl0⟩)
  (c0:PySem.W.codeIn K cd0 "NoDeed.__init__"=true)
  (k0:PySem.W.keepIn K (.ref f0)=true)
  (a1:PySem.W.nsIn K mainGlobals "row_of"=some (some (.ref f1)))
  (l1:K.lookup f1=some ⟨oc1,od1,.func (PySem.W.fnOf "row_of" "row_of" (Ax sRowOf) (Aw sRowOf) (Ag sRowOf) .none kV1 dc1 pm1 an1 cd1 ct1),sl1⟩)
  (c1:PySem.W.codeIn K cd1 "row_of"=true)
  (k1:PySem.W.keepIn K (.ref f1)=true)
  (a2:PySem.W.nsIn K mainGlobals "rows_without"=some (some (.ref f2)))
  (l2:K.lookup f2=some ⟨oc2,od2,.func (PySem.W.fnOf "rows_without" "rows_without" (Ax sWithout) (Aw sWithout) (Ag sWithout) .none kV2 dc2 pm2 an2 cd2 ct2),sl2⟩)
  (c2:PySem.W.codeIn K cd2 "rows_without"=true)
  (k2:PySem.W.keepIn K (.ref f2)=true)
  (a3:PySem.W.nsIn K mainGlobals "gone"=some (some (.ref f3)))
  (l3:K.lookup f3=some ⟨oc3,od3,.func (PySem.W.fnOf "gone" "gone" (Ax sGone) (Aw sGone) (Ag sGone) .none kV3 dc3 pm3 an3 cd3 ct3),sl3⟩)
  (c3:PySem.W.codeIn K cd3 "gone"=true)
  (k3:PySem.W.keepIn K (.ref f3)=true)
  (a4:PySem.W.nsIn K mainGlobals "_law_mixed"=some (some (.ref f4)))
  (l4:K.lookup f4=some ⟨oc4,od4,.func (PySem.W.fnOf "_law_mixed" "_law_mixed" (Ax sMixed) (Aw sMixed) (Ag sMixed) .none kV4 dc4 pm4 an4 cd4 ct4),sl4⟩)
  (c4:PySem.W.codeIn K cd4 "_law_mixed"=true)
  (k4:PySem.W.keepIn K (.ref f4)=true)
  (a5:PySem.W.nsIn K mainGlobals "_law_deck"=some (some (.ref f5)))
  (l5:K.lookup f5=some ⟨oc5,od5,.func (PySem.W.fnOf "_law_deck" "_law_deck" (Ax sDeck) (Aw sDeck) (Ag sDeck) .none kV5 dc5 pm5 an5 cd5 ct5),sl5⟩)
  (c5:PySem.W.codeIn K cd5 "_law_deck"=true)
  (k5:PySem.W.keepIn K (.ref f5)=true)
  (a6:PySem.W.nsIn K mainGlobals "_law_take"=some (some (.ref f6)))
  (l6:K.lookup f6=some ⟨oc6,od6,.func (PySem.W.fnOf "_law_take" "_law_take" (Ax sTake) (Aw sTake) (Ag sTake) .none kV6 dc6 pm6 an6 cd6 ct6),sl6⟩)
  (c6:PySem.W.codeIn K cd6 "_law_take"=true)
  (k6:PySem.W.keepIn K (.ref f6)=true)
  (a7:PySem.W.nsIn K mainGlobals "_law_names"=some (some (.ref f7)))
  (l7:K.lookup f7=some ⟨oc7,od7,.func (PySem.W.fnOf "_law_names" "_law_names" (Ax sNames) (Aw sNames) (Ag sNames) .none kV7 dc7 pm7 an7 cd7 ct7),sl7⟩)
  (c7:PySem.W.codeIn K cd7 "_law_names"=true)
  (k7:PySem.W.keepIn K (.ref f7)=true)
  (a8:PySem.W.nsIn K mainGlobals "_law_many"=some (some (.ref f8)))
  (l8:K.lookup f8=some ⟨oc8,od8,.func (PySem.W.fnOf "_law_many" "_law_many" (Ax sMany) (Aw sMany) (Ag sMany) .none kV8 dc8 pm8 an8 cd8 ct8),sl8⟩)
  (c8:PySem.W.codeIn K cd8 "_law_many"=true)
  (k8:PySem.W.keepIn K (.ref f8)=true)
  (a9:PySem.W.nsIn K mainGlobals "_law_weight"=some (some (.ref f9)))
  (l9:K.lookup f9=some ⟨oc9,od9,.func (PySem.W.fnOf "_law_weight" "_law_weight" (Ax sWeight) (Aw sWeight) (Ag sWeight) .none kV9 dc9 pm9 an9 cd9 ct9),sl9⟩)
  (c9:PySem.W.codeIn K cd9 "_law_weight"=true)
  (k9:PySem.W.keepIn K (.ref f9)=true)
  (a10:PySem.W.nsIn K mainGlobals "_law_merged"=some (some (.ref f10)))
  (l10:K.lookup f10=some ⟨oc10,od10,.func (PySem.W.fnOf "_law_merged" "_law_merged" (Ax sMerged) (Aw sMerged) (Ag sMerged) .none kV10 dc10 pm10 an10 cd10 ct10),sl10⟩)
  (c10:PySem.W.codeIn K cd10 "_law_merged"=true)
  (k10:PySem.W.keepIn K (.ref f10)=true)
  (a11:PySem.W.nsIn K mainGlobals "_law_layered"=some (some (.ref f11)))
  (l11:K.lookup f11=some ⟨oc11,od11,.func (PySem.W.fnOf "_law_layered" "_law_layered" (Ax sLayered) (Aw sLayered) (Ag sLayered) .none kV11 dc11 pm11 an11 cd11 ct11),sl11⟩)
  (c11:PySem.W.codeIn K cd11 "_law_layered"=true)
  (k11:PySem.W.keepIn K (.ref f11)=true)
  (a12:PySem.W.nsIn K mainGlobals "_law_stand"=some (some (.ref f12)))
  (l12:K.lookup f12=some ⟨oc12,od12,.func (PySem.W.fnOf "_law_stand" "_law_stand" (Ax sStand) (Aw sStand) (Ag sStand) .none kV12 dc12 pm12 an12 cd12 ct12),sl12⟩)
  (c12:PySem.W.codeIn K cd12 "_law_stand"=true)
  (k12:PySem.W.keepIn K (.ref f12)=true)
  (a13:PySem.W.nsIn K mainGlobals "_law_same"=some (some (.ref f13)))
  (l13:K.lookup f13=some ⟨oc13,od13,.func (PySem.W.fnOf "_law_same" "_law_same" (Ax sSame) (Aw sSame) (Ag sSame) .none kV13 dc13 pm13 an13 cd13 ct13),sl13⟩)
  (c13:PySem.W.codeIn K cd13 "_law_same"=true)
  (k13:PySem.W.keepIn K (.ref f13)=true)
  (a14:PySem.W.nsIn K mainGlobals "_law_refused"=some (some (.ref f14)))
  (l14:K.lookup f14=some ⟨oc14,od14,.func (PySem.W.fnOf "_law_refused" "_law_refused" (Ax sRefused) (Aw sRefused) (Ag sRefused) .none kV14 dc14 pm14 an14 cd14 ct14),sl14⟩)
  (c14:PySem.W.codeIn K cd14 "_law_refused"=true)
  (k14:PySem.W.keepIn K (.ref f14)=true)
  (a15:PySem.W.nsIn K mainGlobals "law"=some (some (.ref f15)))
  (l15:K.lookup f15=some ⟨oc15,od15,.func (PySem.W.fnOf "law" "law" (Ax sLaw) (Aw sLaw) (Ag sLaw) .none kV15 dc15 pm15 an15 cd15 ct15),sl15⟩)
  (c15:PySem.W.codeIn K cd15 "law"=true)
  (k15:PySem.W.keepIn K (.ref f15)=true)
  (xga:PySem.W.findIn K (.ref N) "__getattribute__"=some (some (.builtin "BaseException.__getattribute__")))
  (xgn:PySem.W.findIn K (.ref N) "__getattr__"=some none)
  (xha:PySem.W.findIn K (.ref N) "__class__"=some (some (.builtin "object.__class__")))
  (xhn:PySem.W.specialIn K (.builtin "object.__class__") "__get__"=some (some (.builtin "getset_descriptor.__get__")))
  (xht:PySem.W.takesIn K (.builtin "object.__class__")=some true)
  (xd1:PySem.W.nsIn K mainGlobals "NoHistory"=some (some (.ref d1)))
  (xd2:PySem.W.nsIn K mainGlobals "NoMark"=some (some (.ref d2)))
  (xd3:PySem.W.nsIn K mainGlobals "NoText"=some (some (.ref d3)))
  (xd4:PySem.W.nsIn K mainGlobals "NoRow"=some (some (.ref d4)))
  (xl1:K.lookup d1=some (excClassObj nm1 q1 d1 ns1 bs1 [.ref B,.type "ValueError",.type "Exception",.type "BaseException",.type "object"] true sn1 sub1 ab1 col1 dd1 ka1 kb1 kc1 kd1 ke1 "ValueError.__new__"))
  (xc1:(Value.ref N::Value.ref B::vE).contains (.ref d1)=false)
  (xl2:K.lookup d2=some (excClassObj nm2 q2 d2 ns2 bs2 [.ref B,.type "ValueError",.type "Exception",.type "BaseException",.type "object"] true sn2 sub2 ab2 col2 dd2 ka2 kb2 kc2 kd2 ke2 "ValueError.__new__"))
  (xc2:(Value.ref N::Value.ref B::vE).contains (.ref d2)=false)
  (xl3:K.lookup d3=some (excClassObj nm3 q3 d3 ns3 bs3 [.ref B,.type "ValueError",.type "Exception",.type "BaseException",.type "object"] true sn3 sub3 ab3 col3 dd3 ka3 kb3 kc3 kd3 ke3 "ValueError.__new__"))
  (xc3:(Value.ref N::Value.ref B::vE).contains (.ref d3)=false)
  (xl4:K.lookup d4=some (excClassObj nm4 q4 d4 ns4 bs4 [.ref B,.type "ValueError",.type "Exception",.type "BaseException",.type "object"] true sn4 sub4 ab4 col4 dd4 ka4 kb4 kc4 kd4 ke4 "ValueError.__new__"))
  (xc4:(Value.ref N::Value.ref B::vE).contains (.ref d4)=false)
  (z0:PySem.W.nsIn K mainGlobals "isinstance"=some none)
  (z1:PySem.W.nsIn K mainGlobals "int"=some none)
  (z2:PySem.W.nsIn K mainGlobals "bool"=some none)
  (z3:PySem.W.nsIn K mainGlobals "tuple"=some none)
  (z4:PySem.W.nsIn K mainGlobals "len"=some none)
  (z5:PySem.W.nsIn K mainGlobals "range"=some none)
  (z6:PySem.W.nsIn K mainGlobals "sum"=some none)
  (z7:PySem.W.nsIn K mainGlobals "str"=some none)
  (z8:PySem.W.nsIn K mainGlobals "max"=some none)
  (z9:PySem.W.nsIn K mainGlobals "min"=some none)
  (z10:PySem.W.nsIn K mainGlobals "zip"=some none)
  (z11:PySem.W.nsIn K mainGlobals "sorted"=some none)
  (z12:PySem.W.nsIn K mainGlobals "list"=some none)
  (z13:PySem.W.nsIn K mainGlobals "ValueError"=some none):
  ∃fd:FuncData,(∀(s:Shared) (v:Value),BindsTo s fd ⟨[v],[]⟩ [("_law_script",v)])∧∀base:Heap,K.In base→base.Ns mainGlobals mg→FnOk l.prog w K mg base CX0 9 fa fd ["_law_script"] (spLaw K):=by
 have e:=hfa.symm.trans (PySem.W.mg_of X G a15)
 cases e
 have xB:XAt K B vE:=⟨⟨_,_,_,_,_,_,_,_,_,_,_,_,_,_,lB⟩,.base⟩
 have xN:XCls K N (.ref B::vE):=⟨⟨⟨_,_,_,_,_,_,_,_,_,_,_,_,_,_,lN⟩,.own .base⟩,saN,kN⟩
 have k1_:PySem.W.kitOne K (.ref N) (.ref d1)=some false:=by
  rw [kit_own xN.toXAt (show XAt K d1 (.ref B::vE) from ⟨⟨_,_,_,_,_,_,_,_,_,_,_,_,_,_,xl1⟩,.own .base⟩),xc1]
 have k2_:PySem.W.kitOne K (.ref N) (.ref d2)=some false:=by
  rw [kit_own xN.toXAt (show XAt K d2 (.ref B::vE) from ⟨⟨_,_,_,_,_,_,_,_,_,_,_,_,_,_,xl2⟩,.own .base⟩),xc2]
 have k3_:PySem.W.kitOne K (.ref N) (.ref d3)=some false:=by
  rw [kit_own xN.toXAt (show XAt K d3 (.ref B::vE) from ⟨⟨_,_,_,_,_,_,_,_,_,_,_,_,_,_,xl3⟩,.own .base⟩),xc3]
 have k4_:PySem.W.kitOne K (.ref N) (.ref d4)=some false:=by
  rw [kit_own xN.toXAt (show XAt K d4 (.ref B::vE) from ⟨⟨_,_,_,_,_,_,_,_,_,_,_,_,_,_,xl4⟩,.own .base⟩),xc4]
 have hkit:PySem.W.kitAny K (.ref N) [.ref d1,.ref d2,.ref d3,.ref d4]=some false:=by
  unfold PySem.W.kitAny
  simp [k1_,k2_,k3_,k4_,PySem.W.kitAny]
 have T:Txt K mg N f0 B:=⟨xN,xB,nN,a0,i0,PySem.W.mg_of X G aN,PySem.W.mg_of X G aB,⟨xga,xgn⟩,⟨xha,xhn,xht⟩,⟨d1,d2,d3,d4,PySem.W.mg_of X G xd1,PySem.W.mg_of X G xd2,PySem.W.mg_of X G xd3,PySem.W.mg_of X G xd4,hkit⟩,PySem.W.mg_none_of X G z0,PySem.W.mg_none_of X G z1,PySem.W.mg_none_of X G z2,PySem.W.mg_none_of X G z3,PySem.W.mg_none_of X G z4,PySem.W.mg_none_of X G z5,PySem.W.mg_none_of X G z6,PySem.W.mg_none_of X G z7,PySem.W.mg_none_of X G z8,PySem.W.mg_none_of X G z9,PySem.W.mg_none_of X G z10,PySem.W.mg_none_of X G z11,PySem.W.mg_none_of X G z12,PySem.W.mg_none_of X G z13⟩
 have F0:=Bm (st:=sNInit) l0 c0 k0
 have b0:=F0.binds (ps:=["self","word"]) fun _ _ _ _ _ _=>us2 rfl fun _ _=>rfl
 have F1:=Bm (st:=sRowOf) l1 c1 k1
 have b1:=F1.binds (ps:=["rows","name"]) fun _ _ _ _ _ _=>us2 rfl fun _ _=>rfl
 have m1:=PySem.W.mg_of X G a1
 have F2:=Bm (st:=sWithout) l2 c2 k2
 have b2:=F2.binds (ps:=["rows","name"]) fun _ _ _ _ _ _=>us2 rfl fun _ _=>rfl
 have m2:=PySem.W.mg_of X G a2
 have F3:=Bm (st:=sGone) l3 c3 k3
 have b3:=F3.binds (ps:=["layers","name"]) fun _ _ _ _ _ _=>us2 rfl fun _ _=>rfl
 have m3:=PySem.W.mg_of X G a3
 have F4:=Bm (st:=sMixed) l4 c4 k4
 have b4:=F4.binds (ps:=["_law_cell","_law_turn"]) fun _ _ _ _ _ _=>us2 rfl fun _ _=>rfl
 have m4:=PySem.W.mg_of X G a4
 have F5:=Bm (st:=sDeck) l5 c5 k5
 have b5:=F5.binds (ps:=["_law_script"]) fun _ _ _ _ _ _=>us1 rfl fun _=>rfl
 have m5:=PySem.W.mg_of X G a5
 have F6:=Bm (st:=sTake) l6 c6 k6
 have b6:=F6.binds (ps:=["_law_deck_here","_law_most"]) fun _ _ _ _ _ _=>us2 rfl fun _ _=>rfl
 have m6:=PySem.W.mg_of X G a6
 have F7:=Bm (st:=sNames) l7 c7 k7
 have b7:=F7.binds (ps:=["_law_deck_here","_law_many_here"]) fun _ _ _ _ _ _=>us2 rfl fun _ _=>rfl
 have m7:=PySem.W.mg_of X G a7
 have F8:=Bm (st:=sMany) l8 c8 k8
 have b8:=F8.binds (ps:=["_law_deck_here"]) fun _ _ _ _ _ _=>us1 rfl fun _=>rfl
 have m8:=PySem.W.mg_of X G a8
 have F9:=Bm (st:=sWeight) l9 c9 k9
 have b9:=F9.binds (ps:=["_law_deck_here"]) fun _ _ _ _ _ _=>us1 rfl fun _=>rfl
 have m9:=PySem.W.mg_of X G a9
 have F10:=Bm (st:=sMerged) l10 c10 k10
 have b10:=F10.binds (ps:=["_law_deck_here","_law_many_here","_law_layer","_law_room","_law_labels","_law_ties"]) fun _ _ _ _ _ _=>us6 rfl fun _ _ _ _ _ _=>rfl
 have m10:=PySem.W.mg_of X G a10
 have F11:=Bm (st:=sLayered) l11 c11 k11
 have b11:=F11.binds (ps:=["_law_deck_here","_law_many_here","_law_names_here","_law_most"]) fun _ _ _ _ _ _=>us4 rfl fun _ _ _ _=>rfl
 have m11:=PySem.W.mg_of X G a11
 have F12:=Bm (st:=sStand) l12 c12 k12
 have b12:=F12.binds (ps:=["_law_deck_here","_law_most"]) fun _ _ _ _ _ _=>us2 rfl fun _ _=>rfl
 have m12:=PySem.W.mg_of X G a12
 have F13:=Bm (st:=sSame) l13 c13 k13
 have b13:=F13.binds (ps:=["_law_thing","_law_due"]) fun _ _ _ _ _ _=>us2 rfl fun _ _=>rfl
 have m13:=PySem.W.mg_of X G a13
 have F14:=Bm (st:=sRefused) l14 c14 k14
 have b14:=F14.binds (ps:=["_law_layers","_law_name"]) fun _ _ _ _ _ _=>us2 rfl fun _ _=>rfl
 have m14:=PySem.W.mg_of X G a14
 have F15:=Bm (st:=sLaw) l15 c15 k15
 have b15:=F15.binds (ps:=["_law_script"]) fun _ _ _ _ _ _=>us1 rfl fun _=>rfl
 have m15:=PySem.W.mg_of X G a15
 refine ⟨PySem.W.fnOf "law" "law" (Ax sLaw) (Aw sLaw) (Ag sLaw) .none kV15 dc15 pm15 an15 cd15 ct15,fun s v=> .of_eq rfl,fun base _ _=> ?_⟩
 have Q_NoDeed___init__:FnOk l.prog w K mg base CX0 1 f0 _ ["self","word"] (spNInit N):=ok_NInit F0 T 
 have Q_row_of:FnOk l.prog w K mg base CX0 1 f1 _ ["rows","name"] spRowOf:=ok_RowOf F1 T 
 have Q_rows_without:FnOk l.prog w K mg base CX0 1 f2 _ ["rows","name"] spWithout:=ok_Without F2 T 
 have Q_gone:FnOk l.prog w K mg base CX0 3 f3 _ ["layers","name"] spGone:=ok_Gone F3 T k1 b1 m1 (Q_row_of.mono (by decide)) k2 b2 m2 (Q_rows_without.mono (by decide))
 have QgX:FnOk l.prog w K mg base (CXU l.prog w) 3 f3 _ ["layers","name"] (spGoneX K N):=ok_GoneX F3 T k1 b1 m1 (Q_row_of.mono (by decide)) b0 Q_NoDeed___init__
 have Q__law_mixed:FnOk l.prog w K mg base CX0 1 f4 _ ["_law_cell","_law_turn"] spMixed:=ok_Mixed F4 T 
 have Q__law_deck:FnOk l.prog w K mg base CX0 1 f5 _ ["_law_script"] (spDeck K):=ok_Deck F5 T 
 have Q__law_take:FnOk l.prog w K mg base CX0 2 f6 _ ["_law_deck_here","_law_most"] spTake:=ok_Take F6 T k4 b4 m4 (Q__law_mixed.mono (by decide))
 have Q__law_names:FnOk l.prog w K mg base CX0 3 f7 _ ["_law_deck_here","_law_many_here"] spNames:=ok_Names F7 T k6 b6 m6 (Q__law_take.mono (by decide))
 have Q__law_many:FnOk l.prog w K mg base CX0 3 f8 _ ["_law_deck_here"] spMany:=ok_Many F8 T k6 b6 m6 (Q__law_take.mono (by decide))
 have Q__law_weight:FnOk l.prog w K mg base CX0 3 f9 _ ["_law_deck_here"] spWeight:=ok_Weight F9 T k6 b6 m6 (Q__law_take.mono (by decide))
 have Q__law_merged:FnOk l.prog w K mg base CX0 3 f10 _ ["_law_deck_here","_law_many_here","_law_layer","_law_room","_law_labels","_law_ties"] spMerged:=ok_Merged F10 T k6 b6 m6 (Q__law_take.mono (by decide))
 have Q__law_layered:FnOk l.prog w K mg base CX0 4 f11 _ ["_law_deck_here","_law_many_here","_law_names_here","_law_most"] spLayered:=ok_Layered F11 T k6 b6 m6 (Q__law_take.mono (by decide)) k10 b10 m10 (Q__law_merged.mono (by decide)) k9 b9 m9 (Q__law_weight.mono (by decide))
 have Q__law_stand:FnOk l.prog w K mg base CX0 5 f12 _ ["_law_deck_here","_law_most"] spStand:=ok_Stand F12 T k8 b8 m8 (Q__law_many.mono (by decide)) k7 b7 m7 (Q__law_names.mono (by decide)) k11 b11 m11 (Q__law_layered.mono (by decide))
 have Q__law_same:FnOk l.prog w K mg base CX0 5 f13 _ ["_law_thing","_law_due"] (spSame 4):=ok_Same4 F13 T k13 b13 m13
 have Q__law_refused:FnOk l.prog w K mg base CX0 4 f14 _ ["_law_layers","_law_name"] spRefused:=ok_Refused F14 T k3 b3 m3 (QgX.mono (by decide))
 exact ok_Law F15 T k5 b5 m5 (Q__law_deck.mono (by decide)) k12 b12 m12 (Q__law_stand.mono (by decide)) k3 b3 m3 (Q_gone.mono (by decide)) k13 b13 m13 (Q__law_same.mono (by decide)) k14 b14 m14 (Q__law_refused.mono (by decide))
theorem walk {l:PySem.W.OpenLaw} {q:Program} {loose:List Str} {XP:(Str→Option Value)→Heap→Prop} {YP:World→Heap→Prop} {d:DefRec} {K:Params→PySem.W.Frag} (hn:l.most=some 63) (hdf:d.params.defaults=[])
  (hY:∀(w:World) (h:Heap),YP w h→(K w.params).In h)
  (F:∀(w:World) (mg:Str→Option Value) (fa:Addr) (h:Heap),(K w.params).In h→h.Ns mainGlobals mg→mg d.name=some (.ref fa)→
   ∃fd:FuncData,(∀(s:Shared) (u:Value),BindsTo s fd ⟨[u],[]⟩ [("_law_script",u)])∧∀base:Heap,(K w.params).In base→base.Ns mainGlobals mg→FnOk l.prog w (K w.params) mg base CX0 9 fa fd ["_law_script"] (spLaw (K w.params))):
  PySem.W.WalkO q loose XP YP l.row.toRowW d [] (fun f vs=>PySem.call f vs):=
 L2.walk_of (n:=63) (k:=9) (x:="_law_script") (CX:=fun _=>CX0) (sp:=fun w=>spLaw (K w.params)) hn (by decide) hdf ⟨rfl,by decide,by decide,rfl⟩ hY F (fun _ _ a ns hl _ hS=>⟨a,ns,rfl,hS,hl,fun _=>rfl⟩) fun _ _ _ _ _ z=>z
end K37
open PySem PySem.W PyProof.Rows
set_option maxRecDepth 100000 in
set_option maxHeartbeats 0 in
theorem PySem.Challenge.cw_joinedever_k37_ties_not_kept_go_holds : PySem.Challenge.rw_joinedever_k37_ties_not_kept_go.Holds := by
 w_on;o_law;k_head;(case hw=>w_witness2)
 k_fill
 refine K37.walk (l:=PySem.Challenge.rw_joinedever_k37_ties_not_kept_go) rfl rfl (fun w h Y=>PySem.W.kIn_of Y) ?F
 case F=>
  intro w mg fa h KX G hmg
  refine' K37.all_mk KX G hmg ?aN ?aB ?lN ?lB ?saN ?kN ?nN ?a0 ?i0 ?l0 ?c0 ?k0 ?a1 ?l1 ?c1 ?k1 ?a2 ?l2 ?c2 ?k2 ?a3 ?l3 ?c3 ?k3 ?a4 ?l4 ?c4 ?k4 ?a5 ?l5 ?c5 ?k5 ?a6 ?l6 ?c6 ?k6 ?a7 ?l7 ?c7 ?k7 ?a8 ?l8 ?c8 ?k8 ?a9 ?l9 ?c9 ?k9 ?a10 ?l10 ?c10 ?k10 ?a11 ?l11 ?c11 ?k11 ?a12 ?l12 ?c12 ?k12 ?a13 ?l13 ?c13 ?k13 ?a14 ?l14 ?c14 ?k14 ?a15 ?l15 ?c15 ?k15 ?xga ?xgn ?xha ?xhn ?xht ?xd1 ?xd2 ?xd3 ?xd4 ?xl1 ?xc1 ?xl2 ?xc2 ?xl3 ?xc3 ?xl4 ?xc4 ?z0 ?z1 ?z2 ?z3 ?z4 ?z5 ?z6 ?z7 ?z8 ?z9 ?z10 ?z11 ?z12 ?z13
  (case aN=>k_is)
  (case aB=>k_is)
  (case lN=>k_is)
  (case lB=>k_is)
  (case saN=>k_is)
  (case kN=>k_is)
  (case nN=>k_is)
  (case a0=>k_is)
  (case i0=>k_is)
  (case l0=>k_is)
  (case c0=>k_is)
  (case k0=>k_is)
  (case a1=>k_is)
  (case l1=>k_is)
  (case c1=>k_is)
  (case k1=>k_is)
  (case a2=>k_is)
  (case l2=>k_is)
  (case c2=>k_is)
  (case k2=>k_is)
  (case a3=>k_is)
  (case l3=>k_is)
  (case c3=>k_is)
  (case k3=>k_is)
  (case a4=>k_is)
  (case l4=>k_is)
  (case c4=>k_is)
  (case k4=>k_is)
  (case a5=>k_is)
  (case l5=>k_is)
  (case c5=>k_is)
  (case k5=>k_is)
  (case a6=>k_is)
  (case l6=>k_is)
  (case c6=>k_is)
  (case k6=>k_is)
  (case a7=>k_is)
  (case l7=>k_is)
  (case c7=>k_is)
  (case k7=>k_is)
  (case a8=>k_is)
  (case l8=>k_is)
  (case c8=>k_is)
  (case k8=>k_is)
  (case a9=>k_is)
  (case l9=>k_is)
  (case c9=>k_is)
  (case k9=>k_is)
  (case a10=>k_is)
  (case l10=>k_is)
  (case c10=>k_is)
  (case k10=>k_is)
  (case a11=>k_is)
  (case l11=>k_is)
  (case c11=>k_is)
  (case k11=>k_is)
  (case a12=>k_is)
  (case l12=>k_is)
  (case c12=>k_is)
  (case k12=>k_is)
  (case a13=>k_is)
  (case l13=>k_is)
  (case c13=>k_is)
  (case k13=>k_is)
  (case a14=>k_is)
  (case l14=>k_is)
  (case c14=>k_is)
  (case k14=>k_is)
  (case a15=>k_is)
  (case l15=>k_is)
  (case c15=>k_is)
  (case k15=>k_is)
  (case xga=>k_is)
  (case xgn=>k_is)
  (case xha=>k_is)
  (case xhn=>k_is)
  (case xht=>k_is)
  (case xd1=>k_is)
  (case xd2=>k_is)
  (case xd3=>k_is)
  (case xd4=>k_is)
  (case xl1=>k_is)
  (case xc1=>decide+kernel)
  (case xl2=>k_is)
  (case xc2=>decide+kernel)
  (case xl3=>k_is)
  (case xc3=>decide+kernel)
  (case xl4=>k_is)
  (case xc4=>decide+kernel)
  (case z0=>k_is)
  (case z1=>k_is)
  (case z2=>k_is)
  (case z3=>k_is)
  (case z4=>k_is)
  (case z5=>k_is)
  (case z6=>k_is)
  (case z7=>k_is)
  (case z8=>k_is)
  (case z9=>k_is)
  (case z10=>k_is)
  (case z11=>k_is)
  (case z12=>k_is)
  (case z13=>k_is)
