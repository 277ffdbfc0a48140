import PyProof.Rows.All
import Wide.All
import OpenK.AllK
import Wide.FinOn
import Lean
import PyProof.EqAt
import PyProof.EqKinds
import PyProof.TupleCall
import KE.KRevIter
import PyProof.StationsW
import PyProof.ExcClass2
import PyProof.ExcInit
import PyProof.ExcBaseAll.ValueError
import PyProof.ExcArgsOwn
import OpenK.KMake
import KE.KIsAll
import PyProof.InstStoreFacts
import PyProof.FString2
import KE.KTryMore
import PyProof.NsDelKeeps
import PyProof.Rows.StrSplitJoin
import PyProof.StrLawsTight
import PyProof.ListMulRoad
import PyProof.ZipIter
import PyProof.TupleIter
import PyProof.WalksMore
import KE.KSortAsk
import KE.KSortTup
import KE.KDictLaws
import PyProof.NeKinds
import PyProof.EnumFor
import PyProof.EnumMake
import PyProof.DictItems
import PySem.Challenge.RW_codemend_k34_whole_taken_back
noncomputable section
set_option Elab.async false
set_option linter.all false
set_option maxRecDepth 100000
namespace L2
open PySem PySem.Spec PyProof.Rows
abbrev Key:=Sum Int Str
def zjj:Key→Value→Bool
 | .inl k,v=>Value.isInt k v
 | .inr x,v=>Value.isStrOf x v
def zuv (w:World):Key→Int
 | .inl k=>hashInt k
 | .inr x=>hashStr w x
theorem zbi:∀ {k:Key} {v:Value},zjj k v=true→(∃ i t,k=Sum.inl i∧v=Value.int i t)∨(∃ x t,k=Sum.inr x∧v=Value.str x t)
 | .inl i,v,h=>by
  obtain ⟨t,e⟩:=Value.isInt_shape (k:=i) (v:=v) h; exact .inl ⟨i,t,rfl,e⟩
 | .inr x,v,h=>by
  obtain ⟨t,e⟩:=Value.isStrOf_shape (x:=x) (v:=v) h; exact .inr ⟨x,t,rfl,e⟩
theorem zkP (i:Int) (t:Tok):zjj (.inl i) (.int i t)=true:=by simp [zjj,Value.isInt]
theorem zkO (x:Str) (t:Tok):zjj (.inr x) (.str x t)=true:=by simp [zjj,Value.isStrOf]
theorem zq1 (a b:Int):decide ((Sum.inl a:Key)=Sum.inl b)=(a == b):=by
 by_cases e:a=b
 ·subst e; simp
 ·have h:¬ (Sum.inl a:Key)=Sum.inl b:=fun q=>e (Sum.inl.inj q)
  rw [decide_eq_false h]; exact (beq_eq_false_iff_ne.mpr e).symm
theorem zqY (a b:Str):decide ((Sum.inr a:Key)=Sum.inr b)=decide (a=b):=by
 by_cases e:a=b
 ·subst e; simp
 ·have h:¬ (Sum.inr a:Key)=Sum.inr b:=fun q=>e (Sum.inr.inj q)
  rw [decide_eq_false h,decide_eq_false e]
theorem zq0 (a:Int) (b:Str):decide ((Sum.inl a:Key)=Sum.inr b)=false:=decide_eq_false (fun q=>nomatch q)
theorem zqZ (a:Str) (b:Int):decide ((Sum.inr a:Key)=Sum.inl b)=false:=decide_eq_false (fun q=>nomatch q)
def zbf (prog:Program) (w:World):PySem.KeyKind prog w Key where
 is:=zjj
 hash:=zuv w
 inj:=fun v a b ha hb=>by
  rcases zbi ha with ⟨i,t,rfl,rfl⟩ | ⟨x,t,rfl,rfl⟩
  ·rcases zbi hb with ⟨j,u,rfl,e⟩ | ⟨y,u,rfl,e⟩
   ·injection e with e1 _; rw [e1]
   ·exact nomatch e
  ·rcases zbi hb with ⟨j,u,rfl,e⟩ | ⟨y,u,rfl,e⟩
   ·exact nomatch e
   ·injection e with e1 _; rw [e1]
 byValue:=fun k v h=>by
  rcases zbi h with ⟨i,t,rfl,rfl⟩ | ⟨x,t,rfl,rfl⟩ <;> rfl
 pyHash:=fun hv h=>by
  rcases zbi hv with ⟨i,t,rfl,rfl⟩ | ⟨x,t,rfl,rfl⟩
  ·exact wpAny_pyHash_int h
  ·exact wpAny_pyHash_str h
 eqBool:=fun hu hv h=>by
  rcases zbi hu with ⟨i,t,rfl,rfl⟩ | ⟨x,t,rfl,rfl⟩
  ·rcases zbi hv with ⟨j,u,rfl,rfl⟩ | ⟨y,u,rfl,rfl⟩
   ·rw [zq1] at h; exact wpAny_eqBool_int h
   ·rw [zq0] at h; exact SeqAt.EqAt.int_str i t y u _ _ _ _ h
  ·rcases zbi hv with ⟨j,u,rfl,rfl⟩ | ⟨y,u,rfl,rfl⟩
   ·rw [zqZ] at h; exact SeqAt.EqAt.str_int x t j u _ _ _ _ h
   ·rw [zqY] at h; exact wpAny_eqBool_str h
 «strs»:=fun k x t v h=>by
  rcases zbi h with ⟨i,u,rfl,e⟩ | ⟨y,u,rfl,e⟩
  ·exact nomatch e
  ·injection e with e1 _
   subst e1
   cases v <;> rfl
theorem zhJ (prog:Program) (w:World) (i:Int) (t:Tok):(zbf prog w).is (.inl i) (.int i t)=true:=zkP i t
theorem zhI (prog:Program) (w:World) (x:Str) (t:Tok):(zbf prog w).is (.inr x) (.str x t)=true:=zkO x t
end L2
namespace L2
open PySem PySem.Spec PyProof.Rows
inductive V where
 | non | bl (b:Bool) | int (i:Int) | str (x:Str) | byt (b:Array UInt8) | flt (b:UInt64) | ref (a:Addr) | ty (n:String)
 deriving DecidableEq
def zbA:V→Value→Prop
 | .non,u=>u=Value.none
 | .bl b,u=>u=Value.bool b
 | .int i,u=>∃ t,u=Value.int i t
 | .str x,u=>∃ t,u=Value.str x t
 | .byt b,u=>∃ t,u=Value.bytes b t
 | .flt b,u=>∃ t,u=Value.float b t
 | .ref a,u=>u=Value.ref a
 | .ty n,u=>u=Value.type n
abbrev za5:List V→List Value→Prop:=Paired zbA
theorem za5.length {xs:List V} {us:List Value} (r:za5 xs us):xs.length=us.length:=Paired.length r
theorem za5.get:∀ {xs:List V} {us:List Value} {i:Nat} {x:V},za5 xs us→xs[i]?=some x→∃ u,us[i]?=some u∧zbA x u
 | _,_,_,_,.nil,e=>by simp at e
 | _,_,0,_,.cons r _,e=>by simp at e; subst e; exact ⟨_,rfl,r⟩
 | _,_,i+1,x,.cons _ t,e=>by
  obtain ⟨u,h1,h2⟩:=za5.get (i:=i) (x:=x) t (by simpa using e)
  exact ⟨u,by simpa using h1,h2⟩
theorem za5.append:∀ {xs ys:List V} {us ws:List Value},za5 xs us→za5 ys ws→za5 (xs ++ ys) (us ++ ws)
 | _,_,_,_,.nil,s=>s
 | _,_,_,_,.cons r t,s=>.cons r (za5.append t s)
theorem za5.take:∀ {xs:List V} {us:List Value} (n:Nat),za5 xs us→za5 (xs.take n) (us.take n)
 | _,_,0,_=>.nil
 | _,_,_+1,.nil=>.nil
 | _,_,n+1,.cons r t=>.cons r (za5.take n t)
theorem za5.drop:∀ {xs:List V} {us:List Value} (n:Nat),za5 xs us→za5 (xs.drop n) (us.drop n)
 | _,_,0,r=>r
 | _,_,_+1,.nil=>.nil
 | _,_,n+1,.cons _ t=>za5.drop n t
def zf2:Option V→Option Value→Prop
 | some v,some u=>zbA v u
 | none,none=>True
 | _,_=>False
def KV {κ:Type}:List (κ × V)→List (κ × Value)→Prop:=Paired fun (p:κ × V) (q:κ × Value)=>p.1=q.1∧zbA p.2 q.2
def kV:Key→V
 | .inl i=>.int i
 | .inr x=>.str x
inductive HO where
 | lst (xs:List V)
 | tup (xs:List V)
 | dK (kvs:List (Key × V)) | dT (kvs:List (List Key × V))
 | dE (kvs:List (List Key × V)) (ep:Nat)
 | set (S:Int→Bool) (n:Nat)
 | ins (C dx:Addr) (fs:List (Str × V))
 | own (x:Addr)
 | xd (fs:List (Str × V))
 | met (f x:Addr)
 | rng (lo hi:Int)
 | frz (o:Obj) (u:HO)
 | tbl (ps:Array Value)
 | ext (φ:Heap→Prop)
abbrev ztr:HO:=.ext fun _=>True
def zcD:List V ⊕ Obj→HO
 | .inl xs=>.tup xs
 | .inr o=>.frz o ztr
abbrev Hp:=Addr→Option HO
def upd (H:Hp) (a:Addr) (o:HO):Hp:=fun b=>if b=a then some o else H b
theorem zh {H:Hp} {a:Addr} {o:HO}:upd H a o a=some o:=by unfold upd; rw [if_pos rfl]
theorem zo {H:Hp} {a b:Addr} {o:HO} (h:b≠a):upd H a o b=H b:=by unfold upd; rw [if_neg h]
theorem zdX {H:Hp} {a:Addr} {o u:HO}:upd (upd H a o) a u=upd H a u:=by
 funext b; unfold upd; split <;> rfl
theorem zoR {H:Hp} {a b:Addr} {o u:HO} (h:H a=some o) (h':H b=some u) (d:o≠u):a≠b:=by
 intro e; subst e; rw [h] at h'; exact d (Option.some.inj h')
theorem zaL {H:Hp} {a b:Addr} {o:HO} (h:H a=some o) (h':H b=none):a≠b:=by
 intro e; subst e; rw [h] at h'; cases h'
section
variable (P:Program) (w:World)
def zbG (H:Hp) (h:Heap) (a:Addr):HO→Prop
 | .lst xs=>xs.length≤sizeLine∧∃ (its:List Value) (n:Nat),za5 xs its∧h.get? a=some { cls:=.type "list",data:=.seq its.toArray n }
 | .tup xs=>xs.length≤sizeLine∧∃ its:List Value,za5 xs its∧IsTup h a its.toArray
 | .dK kvs=>kvs.length≤sizeLine∧(a == sysModules)=false∧∃ vs,KV kvs vs∧h.DictOf (zbf P w) a vs
 | .dT kvs=>kvs.length≤sizeLine∧(a == sysModules)=false∧∃ xs:List (List Key × Addr × Value),
   Paired (fun (p:List Key × V) (q:List Key × Addr × Value)=>p.1=q.1∧H q.2.1=some (.tup (p.1.map kV))∧zbA p.2 q.2.2) kvs xs ∧
   ∃ o es ep,h.get? a=some o∧o.ExactDict∧o.data=.dict es ep∧es.toList=xs.map (entryOfKey (tupleKind (zbf P w)))∧(xs.map (·.1)).Nodup
 | .dE kvs ep=>kvs.length≤sizeLine∧(a == sysModules)=false∧∃ xs:List (List Key × Addr × Value),
   Paired (fun (p:List Key × V) (q:List Key × Addr × Value)=>p.1=q.1∧H q.2.1=some (.tup (p.1.map kV))∧zbA p.2 q.2.2) kvs xs ∧
   ∃ o es,h.get? a=some o∧o.ExactDict∧o.data=.dict es ep∧es.toList=xs.map (entryOfKey (tupleKind (zbf P w)))∧(xs.map (·.1)).Nodup
 | .set S n=>h.SetOf (intKind P w) a S n
 | .ins C dx fs=>H dx=some (.own a)∧fs.length≤1000∧dx≠a∧h.get? a=some (PySem.W.instObj C dx) ∧
   ∃ mA,h.Ns1 dx mA∧(∀ f,zf2 (fs.lookup f) (mA f))∧PySem.Within mA (fs.map (·.1))
 | .own _=>∃ o,h.get? a=some o
 | .xd fs=>∃ mA,h.Ns1 a mA∧∀ f,zf2 (fs.lookup f) (mA f)
 | .rng lo hi=>∃ t u v,h.get? a=some { cls:=.type "range",data:=.fields #[.int lo t,.int hi u,.int 1 v] }
 | .frz o u=>h.get? a=some o∧zbG H h a u
 | .tbl ps=>∃ ts:Array Value,h.get? a=some { cls:=.none,data:=.fields ts }∧TriplesOk ts.toList∧∀ pos cv,codeAmong pos ts.toList=some cv→∃ c oc vs t q t0,cv=.ref c∧H c=some (zcD (.inr oc))∧oc.data=.fields vs∧vs[1]?=some (.str q t)∧ps[0]?=some (.str q t0)
 | .met f x=>h.get? a=some (PySem.W.methodObj (.ref f) (.ref x))
 | .ext φ=>φ h∧(∃ o,h.get? a=some o)∧∀ h1 h2:Heap,φ h1→(∀ o,h1.get? a=some o→h2.get? a=some o)→φ h2
def HOk (H:Hp) (h:Heap):Prop:=∀ a o,H a=some o→zbG P w H h a o
end
section
variable {P:Program} {w:World} {H H':Hp} {h h':Heap} {a:Addr} {o:HO}
theorem zbG.lt (x:zbG P w H h a o):a<h.objs.size:=by
 cases o with
 | lst xs=>obtain ⟨_,_,_,_,e⟩:=x; exact Heap.lt_size e
 | tup xs=>obtain ⟨_,_,_,p⟩:=x; exact p.lt
 | dK kvs=>obtain ⟨_,_,_,_,o,_,_,e,_⟩:=x; exact Heap.lt_size e
 | dT kvs=>obtain ⟨_,_,_,_,o,_,_,e,_⟩:=x; exact Heap.lt_size e
 | dE kvs ep=>obtain ⟨_,_,_,_,o,_,e,_⟩:=x; exact Heap.lt_size e
 | set S n=>obtain ⟨o,_,_,_,e,_⟩:=x; exact Heap.lt_size e
 | ins C dx fs=>obtain ⟨_,_,_,e,_⟩:=x; exact Heap.lt_size e
 | own y=>obtain ⟨_,e⟩:=x; exact Heap.lt_size e
 | xd fs=>obtain ⟨_,⟨_,_,_,e,_⟩,_⟩:=x; exact Heap.lt_size e
 | rng lo hi=>obtain ⟨_,_,_,e⟩:=x; exact Heap.lt_size e
 | frz ob u=>obtain ⟨e,_⟩:=x; exact Heap.lt_size e
 | tbl ps=>obtain ⟨_,e,_⟩:=x; exact Heap.lt_size e
 | met f y=>exact Heap.lt_size (show h.get? a=some _ from x)
 | ext φ=>obtain ⟨_,⟨_,e⟩,_⟩:=x; exact Heap.lt_size e
theorem Paired.mapP {α β:Type} {F G:α→β→Prop}:∀ {l₁:List α} {l₂:List β},Paired F l₁ l₂→(∀ a b,F a b→G a b)→Paired G l₁ l₂
 | _,_,.nil,_=>.nil
 | _,_,.cons r t,f=>.cons (f _ _ r) (Paired.mapP t f)
theorem zbG.stay (x:zbG P w H h a o) (k:∀ b u,(b=a∨H b=some (.own a))→h.get? b=some u→h'.get? b=some u)
  (ho:∀ b,H b=some (.own a)→H' b=some (.own a)) (ht:∀ b xs,H b=some (zcD xs)→H' b=some (zcD xs)):zbG P w H' h' a o:=by
 induction o with
 | lst xs=>obtain ⟨z,its,n,r,e⟩:=x; exact ⟨z,its,n,r,k _ _ (.inl rfl) e⟩
 | tup xs=>obtain ⟨z,its,r,ob,e,c⟩:=x; exact ⟨z,its,r,ob,k _ _ (.inl rfl) e,c⟩
 | dK kvs=>obtain ⟨z,y,vs,r,ob,es,ep,e,c⟩:=x; exact ⟨z,y,vs,r,ob,es,ep,k _ _ (.inl rfl) e,c⟩
 | dT kvs =>
  obtain ⟨z,y,xs,r,ob,es,ep,e,c⟩:=x
  exact ⟨z,y,xs,Paired.mapP r fun p q z=>⟨z.1,ht _ (.inl _) z.2.1,z.2.2⟩,ob,es,ep,k _ _ (.inl rfl) e,c⟩
 | dE kvs ep =>
  obtain ⟨z,y,xs,r,ob,es,e,c⟩:=x
  exact ⟨z,y,xs,Paired.mapP r fun p q z=>⟨z.1,ht _ (.inl _) z.2.1,z.2.2⟩,ob,es,k _ _ (.inl rfl) e,c⟩
 | set S n=>obtain ⟨ob,es,ep,t,e,c⟩:=x; exact ⟨ob,es,ep,t,k _ _ (.inl rfl) e,c⟩
 | ins C dx fs =>
  obtain ⟨d,z,ne,e,mA,⟨od,es,ep,e2,c⟩,r⟩:=x
  exact ⟨ho _ d,z,ne,k _ _ (.inl rfl) e,mA,⟨od,es,ep,k _ _ (.inr d) e2,c⟩,r⟩
 | own y=>obtain ⟨ob,e⟩:=x; exact ⟨ob,k _ _ (.inl rfl) e⟩
 | xd fs=>obtain ⟨mA,⟨od,es,ep,e,c⟩,r⟩:=x; exact ⟨mA,⟨od,es,ep,k _ _ (.inl rfl) e,c⟩,r⟩
 | rng lo hi=>obtain ⟨t,u,v,e⟩:=x; exact ⟨t,u,v,k _ _ (.inl rfl) e⟩
 | frz ob u ih=>obtain ⟨e,q⟩:=x; exact ⟨k _ _ (.inl rfl) e,ih q⟩
 | tbl ps=>obtain ⟨ts,e,t,c⟩:=x; exact ⟨ts,k _ _ (.inl rfl) e,t,fun pos cv z=>let ⟨c,oc,vs,t,q,t0,z1,z2,z3⟩:=c pos cv z; ⟨c,oc,vs,t,q,t0,z1,ht _ _ z2,z3⟩⟩
 | met f y =>
  have e:h.get? a=some (PySem.W.methodObj (.ref f) (.ref y)):=x
  show h'.get? a=some (PySem.W.methodObj (.ref f) (.ref y))
  exact k a _ (.inl rfl) e
 | ext φ=>obtain ⟨p,⟨o,e⟩,st⟩:=x; exact ⟨st _ _ p fun o q=>k _ _ (.inl rfl) q,⟨o,k _ _ (.inl rfl) e⟩,st⟩
theorem HOk.lt (x:HOk P w H h) (e:H a=some o):a<h.objs.size:=(x a o e).lt
theorem HOk.fresh (x:HOk P w H h) (e:h.objs.size≤a):H a=none:=by
 cases q:H a with
 | none=>rfl
 | some u=>exact absurd (Nat.lt_of_lt_of_le (x.lt q) e) (Nat.lt_irrefl _)
theorem HOk.kept (x:HOk P w H h) (k:∀ b u,h.get? b=some u→h'.get? b=some u):HOk P w H h':=fun a o e =>
 (x a o e).stay (fun b u _ q=>k b u q) (fun _ q=>q) fun _ _ q=>q
theorem HOk.laid (x:HOk P w H h) (k:∀ b u,h.get? b=some u→h'.get? b=some u) (hp:h.objs.size≤a) (new:zbG P w (upd H a o) h' a o):HOk P w (upd H a o) h':=fun b u e=>by
 have hn:=x.fresh hp
 by_cases hb:b=a
 ·subst hb; rw [zh] at e; cases e; exact new
 ·rw [zo hb] at e
  exact (x b u e).stay (fun c v _ q=>k c v q) (fun c q=>by rw [zo (zaL q hn)]; exact q) fun c xs q=>by rw [zo (zaL q hn)]; exact q
end
def Rd (H:Hp) (a:Addr) (u:HO):Prop:=H a=some u∨∃ o,H a=some (.frz o u)
theorem Rd.ok {P:Program} {w:World} {H:Hp} {h:Heap} {a:Addr} {u:HO} (r:Rd H a u) (x:HOk P w H h):zbG P w H h a u:=by
 rcases r with r | ⟨o,r⟩
 ·exact x a u r
 ·obtain ⟨_,q⟩:=x a _ r
  exact q
def Mut:Option HO→Prop
 | some (.lst _)=>True
 | some (.dK _)=>True
 | some (.dT _)=>True
 | some (.dE _ _)=>True
 | some (.set _ _)=>True
 | some (.ins _ _ _)=>True
 | some (.ext _)=>True
 | _=>False
section
variable {P:Program} {w:World} {H:Hp} {h h':Heap} {x e:Addr} {o':HO}
theorem HOk.write (ok:HOk P w H h) (mu:Mut (H x)) (he:e=x∨H e=some (.own x)) (k:∀ b u,b≠e→h.get? b=some u→h'.get? b=some u) (heo:∃ u,h'.get? e=some u)
  (new:zbG P w (upd H x o') h' x o'):HOk P w (upd H x o') h':=fun b u q=>by
 have nown:∀ c y,H c=some (.own y)→c≠x:=fun c y r z=>by subst z; rw [r] at mu; exact mu
 have ntup:∀ c xs,H c=some (zcD xs)→c≠x:=fun c xs r z=>by subst z; rw [r] at mu; cases xs <;> exact mu
 by_cases hb:b=x
 ·subst hb; rw [zh] at q; cases q; exact new
 ·rw [zo hb] at q
  by_cases hbe:b=e
  ·have q':H b=some (.own x):=by
    rcases he with z | z
    ·exact absurd (hbe.trans z) hb
    ·rw [hbe]; exact z
   rw [q] at q'; cases q'
   obtain ⟨v,hv⟩:=heo
   exact ⟨v,by rw [hbe]; exact hv⟩
  ·refine (ok b u q).stay (fun c v hc r=>k c v ?_ r) (fun c r=>by rw [zo (nown c b r)]; exact r) fun c xs r=>by rw [zo (ntup c xs r)]; exact r
   rcases hc with rfl | hc
   ·exact hbe
   ·rintro rfl
    rcases he with z | z
    ·exact nown c b hc z
    ·rw [hc] at z; cases z; exact hb rfl
end
structure Un (fs ex:List Addr) (H H':Hp) (h h':Heap):Prop where
 keep:∀ b o,h.get? b=some o→H b=none→b ∉ fs→b ∉ ex→h'.get? b=some o
 slot:∀ b o,h.get? b=some o→H b=none→b ∈ fs→b ∉ ex→∃ sl,h'.get? b=some { o with slots:=sl }
 free:∀ b o,h.get? b=some o→H b=none→b ∉ ex→H' b=none
 there:∀ b o,h.get? b=some o→b ∉ ex→∃ o',h'.get? b=some o'
 tups:∀ b xs,H b=some (.tup xs)→H' b=some (.tup xs)
 frzs:∀ b o u,H b=some (.frz o u)→H' b=some (.frz o u)
 tbls:∀ b ps,H b=some (.tbl ps)→∃ more,H' b=some (.tbl (ps ++ more))
section
variable {fs fs' ex ex':List Addr} {H H1 H2:Hp} {h h1 h2 h':Heap} {a x e:Addr} {o:HO}
theorem Un.any (u:Un fs ex H H1 h h1) {b:Addr} {ob:Obj} (q:h.get? b=some ob) (n:H b=none) (hx:b ∉ ex):∃ sl,h1.get? b=some { ob with slots:=sl }:=by
 by_cases hb:b ∈ fs
 ·exact u.slot b ob q n hb hx
 ·exact ⟨ob.slots,u.keep b ob q n hb hx⟩
theorem Un.kept (k:∀ b u,h.get? b=some u→h'.get? b=some u):Un fs ex H H h h' :=
 ⟨fun b ob q _ _ _=>k b ob q,fun b ob q _ _ _=>⟨ob.slots,k b ob q⟩,fun _ _ _ n _=>n,fun b ob q _=>⟨ob,k b ob q⟩,fun _ _ q=>q,fun _ _ _ q=>q,fun _ ps q=>⟨#[],by rw [q]; simp⟩⟩
theorem Un.refl:Un fs ex H H h h:=Un.kept fun _ _ q=>q
theorem Un.laid (k:∀ b u,h.get? b=some u→h'.get? b=some u) (hp:h.objs.size≤a) (hn:H a=none):Un fs ex H (upd H a o) h h' where
 keep:=fun b u q _ _ _=>k b u q
 slot:=fun b u q _ _ _=>⟨u.slots,k b u q⟩
 free:=fun b u q n _=>by rw [zo (Nat.ne_of_lt (Nat.lt_of_lt_of_le (Heap.lt_size q) hp))]; exact n
 there:=fun b u q _=>⟨u,k b u q⟩
 tups:=fun b xs q=>by rw [zo (zaL q hn)]; exact q
 frzs:=fun b u xs q=>by rw [zo (zaL q hn)]; exact q
 tbls:=fun b ps q=>⟨#[],by rw [zo (zaL q hn),q]; simp⟩
theorem Un.write (mu:Mut (H x)) (he:e=x∨H e=some (.own x)) (k:∀ b u,b≠e→h.get? b=some u→h'.get? b=some u) (heo:∃ u,h'.get? e=some u):Un fs ex H (upd H x o) h h':=by
 have hx:∀ b,H b=none→b≠x:=fun b n z=>by subst z; rw [n] at mu; exact mu
 have hb:∀ b,H b=none→b≠e:=fun b n z=>by
  subst z
  rcases he with r | r
  ·exact hx b n r
  ·rw [n] at r; cases r
 have hm:∀ b u,H b=some u→¬ Mut (some u)→b≠x:=fun b u q nm z=>by subst z; rw [q] at mu; exact nm mu
 refine ⟨fun b u q n _ _=>k b u (hb b n) q,fun b u q n _ _=>⟨u.slots,k b u (hb b n) q⟩,fun b u q n _=>by rw [zo (hx b n)]; exact n,fun b u q _=>?_,
  fun b xs q=>by rw [zo (hm b _ q fun z=>z)]; exact q,fun b u xs q=>by rw [zo (hm b _ q fun z=>z)]; exact q,fun b ps q=>⟨#[],by rw [zo (hm b _ q fun z=>z),q]; simp⟩⟩
 by_cases hbe:b=e
 ·subst hbe; exact heo
 ·exact ⟨u,k b u hbe q⟩
end
def zps (g h:Heap) (L:Addr):List (Addr × Obj):=(List.range h.objs.size).filterMap fun a=>if a=L∨(g.get? a).isSome=true then none else (h.get? a).map fun o=>(a,o)
def zdD (g h:Heap) (L d:Addr):List (Addr × Obj):=(zps g h L).filter fun p=>decide (p.1≠d)
end L2
namespace L2
open PySem PySem.Spec PyProof.Rows
def zey (q:Str):Obj:=⟨.str q 0,none,.freed,#[]⟩
def zjw (base:Heap) (H:Hp):Prop:=∀ P q,base.objs[P]?=some (zey q)→∃ ps,H P=some (.tbl ps)∧ps[0]?=some (.str q 0)
theorem zjw.un {base:Heap} {H H':Hp} (t:zjw base H) (u:∀ b ps,H b=some (.tbl ps)→∃ more,H' b=some (.tbl (ps ++ more))):zjw base H':=fun P q e=>by
 obtain ⟨ps,e1,e2⟩:=t P q e; obtain ⟨more,e3⟩:=u P ps e1; refine ⟨_,e3,?_⟩
 rw [Array.getElem?_append_left (by rw [Array.getElem?_eq_some_iff] at e2; exact e2.1)]
 exact e2
def zrY:Obj:=⟨.none,none,.freed,#[]⟩
def zmt (o:Obj):Option HO→Obj
 | some (.tbl ps)=>match (ps[0]?:Option Value) with
  | some (.str q 0)=>zey q
  | _=>zrY
 | some _=>zrY
 | none=>match o.data with
  | .freed=>zrY
  | _=>o
def nrm (h:Heap) (H:Hp):Heap:=⟨h.objs.mapIdx fun a o=>zmt o (H a),h.life⟩
theorem zms (h:Heap) (H:Hp):(nrm h H).objs.size=h.objs.size:=by unfold nrm; simp
theorem zin (h:Heap) (H:Hp) (b:Addr):(nrm h H).objs[b]?=(h.objs[b]?).map fun o=>zmt o (H b):=by unfold nrm; simp
theorem zeV {h:Heap} {b:Addr} {o:Obj} (e:h.objs[b]?=some o) (n:o.data≠.freed):h.get? b=some o:=by
 unfold Heap.get?
 rw [e]; obtain ⟨c,d,dt,sl⟩:=o
 cases dt <;> first | rfl | exact absurd rfl n
theorem zdx {h:Heap} {b:Addr} {o:Obj} (e:h.get? b=some o):h.objs[b]?=some o∧o.data≠.freed:=by
 unfold Heap.get? at e
 cases q:h.objs[b]? with
 | none=>rw [q] at e; cases e
 | some u =>
  rw [q] at e; obtain ⟨c,d,dt,sl⟩:=u
  cases dt <;> first | (cases e; exact ⟨rfl,fun z=>nomatch z⟩) | cases e
theorem zoP {h:Heap} {H:Hp} {b:Addr} {o:Obj} (e:h.get? b=some o) (n:H b=none):(nrm h H).get? b=some o:=by
 obtain ⟨e1,e2⟩:=zdx e; refine zeV ?_ e2; rw [zin,e1,n]
 show some (zmt o none)=some o
 obtain ⟨c,d,dt,sl⟩:=o
 cases dt <;> first | rfl | exact absurd rfl e2
theorem zqI {h:Heap} {H:Hp} {b:Addr} {o:Obj} (e:(nrm h H).get? b=some o):h.get? b=some o∧H b=none:=by
 obtain ⟨e1,e2⟩:=zdx e; rw [zin] at e1
 cases q:h.objs[b]? with
 | none=>rw [q] at e1; cases e1
 | some u =>
  rw [q] at e1
  have e3:zmt u (H b)=o:=Option.some.inj e1
  cases z:H b with
  | some t =>
   rw [z] at e3
   exfalso
   unfold zmt at e3; split at e3
   ·split at e3 <;> exact e2 (by rw [← e3]; rfl)
   ·exact e2 (by rw [← e3]; rfl)
   ·rename_i y; cases y
  | none =>
   rw [z] at e3; refine ⟨?_,rfl⟩; obtain ⟨c,d,dt,sl⟩:=u; unfold zmt at e3
   cases dt <;> first | (cases e3; exact zeV q fun y=>nomatch y) | exact absurd (show o.data=.freed by rw [← e3]; rfl) e2
theorem zmr (h:Heap) (H:Hp):zjw (nrm h H) H:=fun P q e=>by
 rw [zin] at e
 cases z:h.objs[P]? with
 | none=>rw [z] at e; cases e
 | some u =>
  rw [z] at e
  have e3:zmt u (H P)=zey q:=Option.some.inj e
  cases y:H P with
  | none =>
   rw [y] at e3
   exfalso
   obtain ⟨c,d,dt,sl⟩:=u; unfold zmt zey zrY at e3
   cases dt <;> cases e3
  | some t =>
   rw [y] at e3; unfold zmt at e3; split at e3
   ·rename_i ps hps
    cases hps; split at e3
    ·rename_i q' hq
     cases e3; exact ⟨_,rfl,hq⟩
    ·cases e3
   ·cases e3
   ·rename_i hh; cases hh
structure Mod (K:PySem.W.Frag) (mg:Str→Option Value) (base:Heap):Prop where
 kin:K.In base
 glob:base.Ns mainGlobals mg
 blt:∃ mb,base.Ns builtinsNs mb∧∀ x:Str,x≠"__name__"→mb x=bootBuiltins x
 nolimit:base.NoLimit
 bm:∃ bm ob,mg "__builtins__"=some (.ref bm)∧bm≠builtinsNs∧base.get? bm=some ob∧ob.cls=.type "module"∧ob.dict=some builtinsNs∧ob.data=.plain
/-- the context: a def's body (or a comprehension's block) running. base: fixed through the whole law; s₀, H₀: the entry; outer: the frames whose slots others may change (a def's callers); stack: all frames that run;
   ex: iterators that were made ahead of the entry and are walked here (a comprehension's); fn: the names whose cells were made at the entry (a def: all; a comprehension's block: its own); calm: not within an except suite; pn: pins that every state bears; xe: what is wanted of an exception that leaves the code -/
structure Cx where
 prog:Program
 w:World
 K:PySem.W.Frag
 mg:Str→Option Value
 base:Heap
 A:Around
 N:List Str
 s₀:Shared
 H₀:Hp
 env:Env
 outer:List Env
 stack:List Env
 ex:List Addr
 fn:Str→Bool
 calm:Bool
 pn:List (Addr × Obj)
 xe:Value→Shared→Prop
def frs (l:List Env):List Addr:=l.filterMap (·.frame)
abbrev Cx.fs (X:Cx):List Addr:=frs X.outer
def Vis (sc:Scope) (x:Str):Prop:=sc.names.lookup x=some .local∨sc.names.lookup x=some .cell∨sc.names.lookup x=some .free
def Loc (sc:Scope) (x:Str):Prop:=sc.names.lookup x=some .local∨sc.names.lookup x=some .cell
def zuJ (env:Env) (h:Heap) (m:Str→Option Value) (x:Str) (u:Value):Prop :=
 (env.kindOf x=some .local∧m x=some u)∨((env.kindOf x=some .cell∨env.kindOf x=some .free)∧∃ c,env.cells.lookup x=some c∧h.IsCell c (some u))
structure Cx.Ok (X:Cx):Prop where
 mod:Mod X.K X.mg X.base
 kind:X.env.scope.kind=.function
 glob:X.env.globals=mainGlobals
 blt:X.env.builtins=builtinsNs
 above:X.s₀.heap.objs.size≤X.env.locals
 inj:∀ x y c,X.env.cells.lookup x=some c→X.env.cells.lookup y=some c→x=y
 has:∀ x,(X.env.kindOf x=some .cell∨X.env.kindOf x=some .free)→∃ c,X.env.cells.lookup x=some c
 cab:∀ x c,X.fn x=true→X.env.cells.lookup x=some c→X.s₀.heap.objs.size≤c
 hd:X.calm=true→X.A.handled=none
 frames:X.A.frames=some X.stack
 stk:X.stack=X.outer∨(X.stack=X.env :: X.outer∧X.env.frame=some X.env.locals)
 exf:∀ b ∈ X.ex,b≠X.env.locals∧∀ x c,X.env.cells.lookup x=some c→c≠b
 bs:∀ b o,X.base.get? b=some o→X.s₀.heap.get? b=some o∧X.H₀ b=none
 bsz:X.base.objs.size≤X.s₀.heap.objs.size
 noex:∀ b o,X.base.get? b=some o→b ∉ X.ex
 exfs:∀ b ∈ X.ex,b ∉ X.fs
 funs:X.s₀.heap.FunFrames X.base X.outer
 frf:∀ b ∈ X.fs,X.H₀ b=none
 tab:zjw X.base X.H₀
structure Inv (X:Cx) (pins:List (Addr × Obj)) (σ:List (Option V)) (H:Hp) (s:Shared):Prop where
 ok:X.Ok
 os:s.os=X.s₀.os
 bare:AllBare s.gens
 base:Un X.fs X.ex X.H₀ H X.s₀.heap s.heap
 loc:∃ m,s.heap.Ns X.env.locals m∧∀ (i:Nat) (x:Str) (v:V),X.N[i]?=some x→σ[i]?=some (some v)→Vis X.env.scope x→∃ u,zbA v u∧zuJ X.env s.heap m x u
 cell:∀ x c,X.env.cells.lookup x=some c→∃ v,s.heap.IsCell c v
 free:H X.env.locals=none
 freeC:∀ x c,X.env.cells.lookup x=some c→H c=none
 pin:∀ p ∈ X.pn ++ pins,s.heap.get? p.1=some p.2∧H p.1=none∧p.1≠X.env.locals∧p.1 ∉ X.fs∧∀ v,p.2.data≠.cell v
 hok:HOk X.prog X.w H s.heap
 len:σ.length=X.N.length
section
variable {X:Cx} {pins:List (Addr × Obj)} {σ:List (Option V)} {H H':Hp} {s:Shared} {h':Heap}
theorem Cx.Ok.nofr (ok:X.Ok) {b:Addr} {o:Obj} (e:X.base.get? b=some o):b ∉ X.fs:=fun hb=>by
 have:=(ok.funs.mem hb).1
 rw [e] at this; cases this
theorem Inv.bs (I:Inv X pins σ H s):∀ b o,X.base.get? b=some o→s.heap.get? b=some o∧H b=none:=fun b o e =>
 ⟨I.base.keep b o (I.ok.bs b o e).1 (I.ok.bs b o e).2 (I.ok.nofr e) (I.ok.noex b o e),I.base.free b o (I.ok.bs b o e).1 (I.ok.bs b o e).2 (I.ok.noex b o e)⟩
theorem Inv.bk (I:Inv X pins σ H s):∀ b o,X.base.get? b=some o→s.heap.get? b=some o:=fun b o e=>(I.bs b o e).1
theorem Inv.mod (I:Inv X pins σ H s):Mod X.K X.mg X.base:=I.ok.mod
theorem Inv.kIn (I:Inv X pins σ H s):X.K.In s.heap:=I.ok.mod.kin.keeps I.bk
theorem Inv.lt (I:Inv X pins σ H s):X.env.locals<s.heap.objs.size:=let ⟨_,hn,_⟩:=I.loc; hn.lt
theorem Inv.sz (I:Inv X pins σ H s):X.s₀.heap.objs.size≤s.heap.objs.size:=Nat.le_trans I.ok.above (Nat.le_of_lt I.lt)
theorem Inv.nofs (I:Inv X pins σ H s) {a:Addr} (h:s.heap.objs.size≤a):a ∉ X.fs:=fun hb=>by
 obtain ⟨_,o,ho,_⟩:=I.ok.funs.mem hb; exact absurd (Nat.lt_of_lt_of_le (Heap.lt_size ho) (Nat.le_trans I.sz h)) (Nat.lt_irrefl _)
theorem Inv.cne (I:Inv X pins σ H s):∀ x c,X.env.cells.lookup x=some c→c≠X.env.locals:=fun x c e z=>by
 obtain ⟨v,o,ho,hd⟩:=I.cell x c e
 obtain ⟨m,⟨o',es,ep,ho',hd',_⟩,_⟩:=I.loc
 rw [z,ho'] at ho; cases ho; rw [hd'] at hd; cases hd
theorem Inv.funs (I:Inv X pins σ H s):s.heap.FunFrames X.base X.outer:=by
 have all:∀ (l:List Env),(∀ b ∈ frs l,b ∈ X.fs)→X.s₀.heap.FunFrames X.base l→s.heap.FunFrames X.base l:=by
  intro l
  induction l with
  | nil=>intro _ _; trivial
  | cons env r ih =>
   intro hs hl
   obtain ⟨hk,⟨L,o,hf,hn,ho,hd⟩,hr⟩:=hl
   have hL:L ∈ X.fs:=hs L (by unfold frs; rw [List.filterMap_cons,hf]; exact List.mem_cons_self)
   obtain ⟨sl,e⟩:=I.base.slot L o ho (I.ok.frf L hL) hL fun z=>I.ok.exfs L z hL
   exact ⟨hk,⟨L,_,hf,hn,e,hd⟩,ih (fun b hb=>hs b (by unfold frs; rw [List.filterMap_cons,hf]; exact List.mem_cons_of_mem _ hb)) hr⟩
 exact all X.outer (fun _ hb=>hb) I.ok.funs
theorem Inv.stack (I:Inv X pins σ H s):s.heap.FunFrames X.base X.stack:=by
 rcases I.ok.stk with e | ⟨e,hf⟩
 ·rw [e]; exact I.funs
 ·rw [e]
  obtain ⟨m,hn,_⟩:=I.loc
  refine .cons (by rw [I.ok.kind]; decide) hf hn ?_ I.funs
  exact Heap.get?_none_of_le (Nat.le_trans I.ok.bsz I.ok.above)
theorem Inv.stkSub (I:Inv X pins σ H s):∀ b ∈ frs X.stack,b ∈ X.env.locals :: X.fs:=fun b hb=>by
 rcases I.ok.stk with e | ⟨e,hf⟩
 ·rw [e] at hb; exact List.mem_cons_of_mem _ hb
 ·rw [e] at hb
  unfold frs at hb; rw [List.filterMap_cons,hf] at hb; exact hb
theorem Inv.stkFree (I:Inv X pins σ H s):∀ b ∈ frs X.stack,H b=none:=fun b hb=>by
 rcases List.mem_cons.mp (I.stkSub b hb) with e | hb
 ·rw [e]; exact I.free
 ·obtain ⟨_,o,ho,_⟩:=I.ok.funs.mem hb
  exact I.base.free b o ho (I.ok.frf b hb) fun z=>I.ok.exfs b z hb
theorem Inv.step {g':Array GenState} {t':Nat} {d':Drawn} {ch:List Addr} (I:Inv X pins σ H s)
  (hch:∀ b ∈ ch,(b ∈ X.ex∨X.s₀.heap.objs.size≤b)∧b≠X.env.locals∧(∀ x c,X.env.cells.lookup x=some c→c≠b)∧∀ p ∈ X.pn ++ pins,p.1≠b)
  (keep:∀ b o,b≠X.env.locals→b ∉ X.fs→b ∉ ch→s.heap.get? b=some o→H b=none→h'.get? b=some o)
  (slot:∀ b o,b≠X.env.locals→b ∈ X.fs→b ∉ ch→s.heap.get? b=some o→H b=none→∃ sl,h'.get? b=some { o with slots:=sl }) (free:∀ b o,b ∉ ch→s.heap.get? b=some o→H b=none→H' b=none)
  (there:∀ b o,b ∉ ch→s.heap.get? b=some o→∃ o',h'.get? b=some o')
  (tups:∀ b xs,H b=some (.tup xs)→H' b=some (.tup xs)) (frzs:∀ b o u,H b=some (.frz o u)→H' b=some (.frz o u)) (tbls:∀ b ps,H b=some (.tbl ps)→∃ more,H' b=some (.tbl (ps ++ more)))
  (ns:∀ m,s.heap.Ns X.env.locals m→h'.Ns X.env.locals m) (hok:HOk X.prog X.w H' h') (hg:AllBare g') :
  Inv X pins σ H' { s with heap:=h',gens:=g',drawn:=d',toks:=t' }:=by
 have neL:∀ b o,X.s₀.heap.get? b=some o→b≠X.env.locals:=fun b o e=>Nat.ne_of_lt (Nat.lt_of_lt_of_le (Heap.lt_size e) I.ok.above)
 have neC:∀ b o,X.s₀.heap.get? b=some o→b ∉ X.ex→b ∉ ch:=fun b o e hx hb=>by
  rcases (hch b hb).1 with z | z
  ·exact hx z
  ·exact absurd (Nat.lt_of_lt_of_le (Heap.lt_size e) z) (Nat.lt_irrefl _)
 have cellK:∀ x c,X.env.cells.lookup x=some c→∀ v,s.heap.IsCell c v→h'.IsCell c v:=fun x c e v ⟨o,ho,hd⟩=>by
  have nch:c ∉ ch:=fun z=>(hch c z).2.2.1 x c e rfl
  by_cases hc:c ∈ X.fs
  ·obtain ⟨sl,q⟩:=slot c o (I.cne x c e) hc nch ho (I.freeC x c e)
   exact ⟨_,q,hd⟩
  ·exact ⟨o,keep c o (I.cne x c e) hc nch ho (I.freeC x c e),hd⟩
 refine ⟨I.ok,I.os,hg,⟨fun b o e n hb hx=>?_,fun b o e n hb hx=>?_,fun b o e n hx=>?_,fun b o e hx=>?_,fun b xs e=>tups b xs (I.base.tups b xs e),fun b o xs e=>frzs b o xs (I.base.frzs b o xs e),fun b ps e=>?_⟩,?_,fun x c e=>?_,?_,fun x c e=>?_,fun p hp=>?_,hok,I.len⟩
 ·exact keep b o (neL b o e) hb (neC b o e hx) (I.base.keep b o e n hb hx) (I.base.free b o e n hx)
 ·obtain ⟨sl,e1⟩:=I.base.slot b o e n hb hx
  obtain ⟨sl',e2⟩:=slot b _ (neL b o e) hb (neC b o e hx) e1 (I.base.free b o e n hx); exact ⟨sl',e2⟩
 ·obtain ⟨o',e1⟩:=I.base.there b o e hx
  exact free b o' (neC b o e hx) e1 (I.base.free b o e n hx)
 ·obtain ⟨o',e1⟩:=I.base.there b o e hx
  exact there b o' (neC b o e hx) e1
 ·obtain ⟨m1,e1⟩:=I.base.tbls b ps e
  obtain ⟨m2,e2⟩:=tbls b _ e1
  exact ⟨m1 ++ m2,by rw [e2,Array.append_assoc]⟩
 ·obtain ⟨m,hn,hl⟩:=I.loc
  refine ⟨m,ns m hn,fun i x v e1 e2 e3=>?_⟩
  obtain ⟨u,r,l⟩:=hl i x v e1 e2 e3; refine ⟨u,r,?_⟩
  rcases l with l | ⟨k,c,e,z⟩
  ·exact .inl l
  ·exact .inr ⟨k,c,e,cellK x c e _ z⟩
 ·obtain ⟨v,z⟩:=I.cell x c e
  exact ⟨v,cellK x c e v z⟩
 ·obtain ⟨m,⟨o,_,_,ho,_⟩,_⟩:=I.loc
  exact free _ o (fun z=>(hch _ z).2.1 rfl) ho I.free
 ·obtain ⟨v,o,ho,hd⟩:=I.cell x c e
  exact free c o (fun z=>(hch c z).2.2.1 x c e rfl) ho (I.freeC x c e)
 ·obtain ⟨e,n,ne,nf,d⟩:=I.pin p hp
  have nch:p.1 ∉ ch:=fun z=>(hch p.1 z).2.2.2 p hp rfl
  exact ⟨keep p.1 p.2 ne nf nch e n,free p.1 p.2 nch e n,ne,nf,d⟩
theorem Inv.un {t':Nat} (I:Inv X pins σ H s) (u:Un X.fs [] H H' s.heap h') (hok:HOk X.prog X.w H' h'):Inv X pins σ H' { s with heap:=h',toks:=t' }:=by
 obtain ⟨m,⟨o,es,ep,ho,r⟩,_⟩:=id I.loc
 obtain ⟨sl,hL⟩:=u.any ho I.free (by simp)
 exact I.step (g':=s.gens) (d':=s.drawn) (ch:=[]) (fun _ z=>nomatch z) (fun b o _ hb _ e n=>u.keep b o e n hb (by simp)) (fun b o _ hb _ e n=>u.slot b o e n hb (by simp)) (fun b o _ e n=>u.free b o e n (by simp)) (fun b o _ e=>u.there b o e (by simp)) u.tups u.frzs u.tbls (fun m' hm=>by
  obtain ⟨o',es',ep',ho',r'⟩:=hm
  rw [ho] at ho'; cases ho'
  exact ⟨_,es',ep',hL,r'⟩) hok I.bare
theorem Inv.call {g':Array GenState} {t':Nat} {d':Drawn} {ch:List Addr} (I:Inv X pins σ H s) (u:Un (frs X.stack) ch H H' s.heap h') (hok:HOk X.prog X.w H' h') (hg:AllBare g')
  (hch:∀ b ∈ ch,(b ∈ X.ex∨X.s₀.heap.objs.size≤b)∧b≠X.env.locals∧(∀ x c,X.env.cells.lookup x=some c→c≠b)∧∀ p ∈ X.pn ++ pins,p.1≠b) :
  Inv X pins σ H' { s with heap:=h',gens:=g',drawn:=d',toks:=t' }:=by
 obtain ⟨m,⟨o,es,ep,ho,r⟩,_⟩:=id I.loc
 obtain ⟨sl,hL⟩:=u.any ho I.free fun z=>(hch _ z).2.1 rfl
 exact I.step (ch:=ch) hch (fun b o hL hb hc e n=>u.keep b o e n (fun z=>(List.mem_cons.mp (I.stkSub b z)).elim hL hb) hc) (fun b o _ _ hc e n=>u.any e n hc) (fun b o hc e n=>u.free b o e n hc) (fun b o hc e=>u.there b o e hc) u.tups u.frzs u.tbls (fun m' hm=>by
  obtain ⟨o',es',ep',ho',r'⟩:=hm
  rw [ho] at ho'; cases ho'
  exact ⟨_,es',ep',hL,r'⟩) hok hg
theorem Inv.turned {t':Nat} {it:Addr} (I:Inv X pins σ H s) (k:∀ b o,b≠it→s.heap.get? b=some o→h'.get? b=some o) (hn:H it=none) (hL:it≠X.env.locals)
  (h1:it ∈ X.ex∨X.s₀.heap.objs.size≤it) (h2:∀ x c,X.env.cells.lookup x=some c→c≠it) (h3:∀ p ∈ X.pn ++ pins,p.1≠it):Inv X pins σ H { s with heap:=h',toks:=t' }:=by
 have nit:∀ b u,H b=some u→b≠it:=fun b u e z=>by rw [z,hn] at e; cases e
 refine I.step (g':=s.gens) (d':=s.drawn) (ch:=[it]) (fun b hb=>?_) (fun b o _ _ hc e _=>k b o (fun z=>hc (by simp [z])) e) (fun b o _ _ hc e _=>⟨o.slots,k b o (fun z=>hc (by simp [z])) e⟩) (fun _ _ _ _ n=>n)
  (fun b o hc e=>⟨o,k b o (fun z=>hc (by simp [z])) e⟩) (fun _ _ e=>e) (fun _ _ _ e=>e) (fun b ps e=>⟨#[],by rw [e]; simp⟩) (fun m hm=>?_) (fun b u e=>?_) I.bare
 ·have e:b=it:=by simpa using hb
  subst e; exact ⟨h1,hL,h2,h3⟩
 ·obtain ⟨o,es,ep,ho,r⟩:=hm
  exact ⟨o,es,ep,k _ o (Ne.symm hL) ho,r⟩
 ·refine (I.hok b u e).stay (fun c v hc q=>k c v ?_ q) (fun _ q=>q) fun _ _ q=>q
  rcases hc with z | z
  ·rw [z]; exact nit b u e
  ·exact nit c _ z
theorem Inv.tok (I:Inv X pins σ H s) (t:Nat):Inv X pins σ H { s with toks:=t }:=I.un (h':=s.heap) (t':=t) Un.refl I.hok
theorem Inv.kept {t':Nat} (I:Inv X pins σ H s) (k:∀ b u,s.heap.get? b=some u→h'.get? b=some u):Inv X pins σ H { s with heap:=h',toks:=t' }:=I.un (Un.kept k) (I.hok.kept k)
theorem Inv.laid {a:Addr} {o:HO} {t':Nat} (I:Inv X pins σ H s) (k:∀ b u,s.heap.get? b=some u→h'.get? b=some u) (hp:s.heap.objs.size≤a) (new:zbG X.prog X.w (upd H a o) h' a o) :
  Inv X pins σ (upd H a o) { s with heap:=h',toks:=t' }:=I.un (Un.laid k hp (I.hok.fresh hp)) (I.hok.laid k hp new)
theorem Inv.write {x e:Addr} {o:HO} {t':Nat} (I:Inv X pins σ H s) (mu:Mut (H x)) (he:e=x∨H e=some (.own x)) (k:∀ b u,b≠e→s.heap.get? b=some u→h'.get? b=some u) (heo:∃ u,h'.get? e=some u)
  (new:zbG X.prog X.w (upd H x o) h' x o):Inv X pins σ (upd H x o) { s with heap:=h',toks:=t' }:=I.un (Un.write mu he k heo) (I.hok.write mu he k heo new)
theorem Inv.pins_of {pins':List (Addr × Obj)} (I:Inv X pins σ H s) (h:∀ p ∈ pins',s.heap.get? p.1=some p.2∧H p.1=none∧p.1≠X.env.locals∧p.1 ∉ X.fs∧∀ v,p.2.data≠.cell v):Inv X pins' σ H s :=
 ⟨I.ok,I.os,I.bare,I.base,I.loc,I.cell,I.free,I.freeC,fun p hp=>(List.mem_append.mp hp).elim (fun z=>I.pin p (List.mem_append_left _ z)) (h p),I.hok,I.len⟩
theorem zio {N:List Str} (hN:N.Nodup) {i j:Nat} {x:Str} (a:N[i]?=some x) (b:N[j]?=some x):i=j:=by
 obtain ⟨h1,e1⟩:=List.getElem?_eq_some_iff.mp a; obtain ⟨h2,e2⟩:=List.getElem?_eq_some_iff.mp b; exact (List.getElem_inj hN).mp (e1.trans e2.symm)
theorem zf9 {M:Model} {A:Around} {E:Value→Shared→Prop} {i:Nat} {x:Str} {v:V} {u:Value} {Q:Unit→Shared→Prop} (I:Inv X pins σ H s) (hN:X.N.Nodup) (hi:X.N[i]?=some x) (hx:Loc X.env.scope x) (r:zbA v u)
  (h:∀ s',Inv X pins (σ.set i (some v)) H s'→(∃ a,Heap.SameBut a s.heap s'.heap∧(a=X.env.locals∨X.env.cells.lookup x=some a))→Q () s') (hf:X.fn x=true∨X.env.scope.names.lookup x=some .local:=by first | exact .inl rfl | exact .inr rfl | assumption):wpAny M A (storeName X.env x u) Q E s:=by
 obtain ⟨m,hn,hl⟩:=id I.loc
 have hcls:(X.env.scope.kind == .class || (X.env.scope.kind == .module && X.env.locals != X.env.globals))=false:=by rw [I.ok.kind]; rfl
 have hiσ:i<σ.length:=by rw [I.len]; exact (List.getElem?_eq_some_iff.mp hi).1
 have cne:=I.cne
 have tracked:∀ {a:Addr} {h':Heap},(∃ o,s.heap.get? a=some o∧H a=none)→Heap.SameBut a s.heap h'→HOk X.prog X.w H h':=fun {a h'} ha hs b ob e=>by
  obtain ⟨_,_,hfree⟩:=ha
  refine (I.hok b ob e).stay (fun c w' hc q=>(hs.2 c ?_).trans q) (fun _ q=>q) fun _ _ q=>q
  rintro rfl
  rcases hc with rfl | hc
  ·rw [hfree] at e; cases e
  ·rw [hfree] at hc; cases hc
 rcases hx with hk | hk
 ·refine wpAny_storeName_local hk hn (fun h' hn' hs=>?_) hcls
  obtain ⟨oL,_,_,hoL,_⟩:=id hn
  refine h _ ⟨I.ok,I.os,I.bare,⟨fun b o e n hb hx=>?_,fun b o e n hb hx=>?_,I.base.free,fun b o e hx=>?_,I.base.tups,I.base.frzs,I.base.tbls⟩,⟨_,hn',fun j y v' e1 e2 e3=>?_⟩,fun y c e=>?_,I.free,I.freeC,fun p hp=>?_,tracked ⟨oL,hoL,I.free⟩ hs,by simpa using I.len⟩ ⟨_,hs,.inl rfl⟩
  ·exact (hs.2 b (Nat.ne_of_lt (Nat.lt_of_lt_of_le (Heap.lt_size e) I.ok.above))).trans (I.base.keep b o e n hb hx)
  ·obtain ⟨sl,e1⟩:=I.base.slot b o e n hb hx
   exact ⟨sl,(hs.2 b (Nat.ne_of_lt (Nat.lt_of_lt_of_le (Heap.lt_size e) I.ok.above))).trans e1⟩
  ·obtain ⟨o',e1⟩:=I.base.there b o e hx
   exact ⟨o',(hs.2 b (Nat.ne_of_lt (Nat.lt_of_lt_of_le (Heap.lt_size e) I.ok.above))).trans e1⟩
  ·by_cases hj:j=i
   ·subst hj
    rw [hi] at e1; cases e1
    rw [List.getElem?_set_self hiσ] at e2; cases e2
    exact ⟨u,r,.inl ⟨hk,by simp⟩⟩
   ·rw [List.getElem?_set_ne (Ne.symm hj)] at e2
    obtain ⟨u',r',q⟩:=hl j y v' e1 e2 e3; refine ⟨u',r',?_⟩
    rcases q with ⟨k,e⟩ | ⟨k,c,e,z⟩
    ·refine .inl ⟨k,?_⟩
     have:y≠x:=fun e=>hj (zio hN e1 (e ▸ hi))
     simp [this,e]
    ·exact .inr ⟨k,c,e,z.sameBut hs (cne y c e)⟩
  ·obtain ⟨w',z⟩:=I.cell y c e
   exact ⟨w',z.sameBut hs (cne y c e)⟩
  ·obtain ⟨e,n,ne,nf,d⟩:=I.pin p hp
   exact ⟨(hs.2 p.1 ne).trans e,n,ne,nf,d⟩
 ·have hfn:X.fn x=true:=by
   rcases hf with z | z
   ·exact z
   ·rw [z] at hk; cases hk
  obtain ⟨c,hc⟩:=I.ok.has x (.inl hk); obtain ⟨w',z⟩:=I.cell x c hc
  refine wpAny_storeName_cell I.ok.kind hk hc z (fun h' hc' hs=>?_)
  obtain ⟨oc,hoc,hocd⟩:=id z
  refine h { s with heap:=h' } ⟨I.ok,I.os,I.bare,⟨fun b o e n hb hx=>?_,fun b o e n hb hx=>?_,I.base.free,fun b o e hx=>?_,I.base.tups,I.base.frzs,I.base.tbls⟩,⟨m,hn.sameBut hs (Ne.symm (cne x c hc)),fun j y v' e1 e2 e3=>?_⟩,fun y c' e=>?_,I.free,I.freeC,fun p hp=>?_,tracked ⟨oc,hoc,I.freeC x c hc⟩ hs,by simpa using I.len⟩ ⟨c,hs,.inr hc⟩
  ·exact (hs.2 b (Nat.ne_of_lt (Nat.lt_of_lt_of_le (Heap.lt_size e) (I.ok.cab x c hfn hc)))).trans (I.base.keep b o e n hb hx)
  ·obtain ⟨sl,e1⟩:=I.base.slot b o e n hb hx
   exact ⟨sl,(hs.2 b (Nat.ne_of_lt (Nat.lt_of_lt_of_le (Heap.lt_size e) (I.ok.cab x c hfn hc)))).trans e1⟩
  ·obtain ⟨o',e1⟩:=I.base.there b o e hx
   exact ⟨o',(hs.2 b (Nat.ne_of_lt (Nat.lt_of_lt_of_le (Heap.lt_size e) (I.ok.cab x c hfn hc)))).trans e1⟩
  ·by_cases hj:j=i
   ·subst hj
    rw [hi] at e1; cases e1
    rw [List.getElem?_set_self hiσ] at e2; cases e2; exact ⟨u,r,.inr ⟨.inl hk,c,hc,hc'⟩⟩
   ·rw [List.getElem?_set_ne (Ne.symm hj)] at e2
    obtain ⟨u',r',q⟩:=hl j y v' e1 e2 e3; refine ⟨u',r',?_⟩
    rcases q with q | ⟨k,c',e,z'⟩
    ·exact .inl q
    ·refine .inr ⟨k,c',e,z'.sameBut hs ?_⟩
     rintro rfl
     exact hj (zio hN e1 (I.ok.inj _ _ _ e hc ▸ hi))
  ·by_cases hcc:c'=c
   ·subst hcc; exact ⟨_,hc'⟩
   ·obtain ⟨w2,z2⟩:=I.cell y c' e
    exact ⟨w2,z2.sameBut hs hcc⟩
  ·obtain ⟨e,n,ne,nf,d⟩:=I.pin p hp
   refine ⟨(hs.2 p.1 ?_).trans e,n,ne,nf,d⟩; intro q; rw [q,hoc] at e
   have q':oc=p.2:=Option.some.inj e
   exact d w' (by rw [← q']; exact hocd)
theorem zh4 {M:Model} {A:Around} {E:Value→Shared→Prop} {i:Nat} {x:Str} {v:V} {u:Value} {Q:Unit→Shared→Prop} (I:Inv X pins σ H s) (hN:X.N.Nodup) (hi:X.N[i]?=some x) (hx:Loc X.env.scope x) (r:zbA v u)
  (h:∀ s',Inv X pins (σ.set i (some v)) H s'→Q () s') (hf:X.fn x=true∨X.env.scope.names.lookup x=some .local:=by first | exact .inl rfl | exact .inr rfl | assumption):wpAny M A (storeName X.env x u) Q E s :=
 zf9 I hN hi hx r (fun s' I' _=>h s' I') hf
theorem Inv.call' {s':Shared} {ch:List Addr} (I:Inv X pins σ H s) (ho:s'.os=s.os) (u:Un (frs X.stack) ch H H' s.heap s'.heap) (hok:HOk X.prog X.w H' s'.heap) (hg:AllBare s'.gens)
  (hch:∀ b ∈ ch,(b ∈ X.ex∨X.s₀.heap.objs.size≤b)∧b≠X.env.locals∧(∀ x c,X.env.cells.lookup x=some c→c≠b)∧∀ p ∈ X.pn ++ pins,p.1≠b):Inv X pins σ H' s':=by
 obtain ⟨h',g',d',t',o'⟩:=s'
 have e:o'=s.os:=ho
 subst e; exact I.call (g':=g') (t':=t') (d':=d') u hok hg hch
end
abbrev XK:=Value→Option Addr→Hp→Prop
abbrev St:=List (Option V)
abbrev VK:=V→Hp→Prop
abbrev TE:=St→Hp→VK→Prop
abbrev TT:=St→Hp→(Bool→Hp→Prop)→Prop
abbrev TA:=St→Hp→(List V→Hp→Prop)→Prop
structure Ends where
 nx:St→Hp→Prop
 rt:VK
 bk:St→Hp→Prop:=fun _ _=>False
 ct:St→Hp→Prop:=fun _ _=>False
abbrev TS:=Ends→St→Hp→Prop
def EP (X:Cx) (pins:List (Addr × Obj)) (σ:St) (Q:VK) (u:Value) (s':Shared):Prop:=∃ v H',Inv X pins σ H' s'∧zbA v u∧Q v H'
def TP (X:Cx) (pins:List (Addr × Obj)) (σ:St) (Q:Bool→Hp→Prop) (b:Bool) (s':Shared):Prop:=∃ H',Inv X pins σ H' s'∧Q b H'
def AP (X:Cx) (pins:List (Addr × Obj)) (σ:St) (Q:List V→Hp→Prop) (us:List Value) (s':Shared):Prop:=∃ vs H',Inv X pins σ H' s'∧za5 vs us∧Q vs H'
def SP (X:Cx) (pins:List (Addr × Obj)) (D:Ends) (f:Flow) (s':Shared):Prop :=
 match f with
 | .next=>∃ σ' H',Inv X pins σ' H' s'∧D.nx σ' H'
 | .brk=>∃ σ' H',Inv X pins σ' H' s'∧D.bk σ' H'
 | .cont=>∃ σ' H',Inv X pins σ' H' s'∧D.ct σ' H'
 | .ret u=>∃ v σ' H',Inv X pins σ' H' s'∧zbA v u∧D.rt v H'
def PE (X:Cx) (e:Expr) (t:TE):Prop :=
 ∀ (pins:List (Addr × Obj)) (s:Shared) (σ:St) (H:Hp) (Q:VK),Inv X pins σ H s→t σ H Q→wpAny (model X.prog X.w) X.A (eval e X.env) (EP X pins σ Q) X.xe s
def PT (X:Cx) (e:Expr) (t:TT):Prop :=
 ∀ (pins:List (Addr × Obj)) (s:Shared) (σ:St) (H:Hp) (Q:Bool→Hp→Prop),Inv X pins σ H s→t σ H Q→wpAny (model X.prog X.w) X.A (isTrue e X.env (eval e X.env)) (TP X pins σ Q) X.xe s
def PW (X:Cx) (e:Expr) (t:TT):Prop :=
 ∀ (whole:Sem Value) (pins:List (Addr × Obj)) (s:Shared) (σ:St) (H:Hp) (Q:Bool→Hp→Prop),Inv X pins σ H s→t σ H Q→wpAny (model X.prog X.w) X.A (isTrue e X.env whole) (TP X pins σ Q) X.xe s
def PA (X:Cx) (es:List Expr) (t:TA):Prop :=
 ∀ (pos:Pos) (pins:List (Addr × Obj)) (s:Shared) (σ:St) (H:Hp) (Q:List V→Hp→Prop),Inv X pins σ H s→t σ H Q→wpAny (model X.prog X.w) X.A (spliced (backTo pos (starEach es X.env))) (AP X pins σ Q) X.xe s
def PS (X:Cx) (st:Stmt) (t:TS):Prop :=
 ∀ (pins:List (Addr × Obj)) (s:Shared) (σ:St) (H:Hp) (D:Ends),Inv X pins σ H s→t D σ H→wpAny (model X.prog X.w) X.A (exec st X.env) (SP X pins D) X.xe s
def PSs (X:Cx) (st:List Stmt) (t:TS):Prop :=
 ∀ (pins:List (Addr × Obj)) (s:Shared) (σ:St) (H:Hp) (D:Ends),Inv X pins σ H s→t D σ H→wpAny (model X.prog X.w) X.A (execs st X.env) (SP X pins D) X.xe s
theorem thn {α:Type} {t:Sem α} {Q Q':α→Shared→Prop} {M:Model} {A:Around} {E:Value→Shared→Prop} {s:Shared} (h:wpAny M A t Q E s) (hQ:∀ a s,Q a s→Q' a s):wpAny M A t Q' E s:=wpAny_mono h hQ fun _ _ x=>x
end L2
namespace L2
open PySem PySem.Spec PyProof.Rows
section
variable {X:Cx}
def ztM (i:Nat):TE:=fun σ H Q=>∃ v,σ[i]?=some (some v)∧Q v H
def tC (v:V):TE:=fun _ H Q=>Q v H
theorem zcq {i:Nat} {x:Str} {pos:Pos} (hN:X.N[i]?=some x) (hv:Vis X.env.scope x) (hd:(x == ("__debug__":Str))=false:=by decide) (hcd:(x == ("__classdict__":Str))=false:=by decide):PE X (.Name x pos) (ztM i):=by
 intro pins s σ H Q I h; obtain ⟨v,e,h⟩:=h; obtain ⟨m,hn,hl⟩:=I.loc; obtain ⟨u,r,l⟩:=hl i x v hN e hv
 have fin:EP X pins σ Q u s:=⟨v,H,I,r,h⟩
 rcases l with ⟨hk,hm⟩ | ⟨hk,c,hc,hcell⟩
 ·exact wpAny_Name (wpAny_loadName_local I.ok.kind hk hn hm fin) hd
 ·rcases hk with hk | hk
  ·exact wpAny_Name (wpAny_loadName_cell I.ok.kind hk hc hcell fin) hd
  ·exact wpAny_Name (wpAny_loadName_free I.ok.kind hk hc hcell fin hcd) hd
theorem zni {i j pos}:PE X (.Constant (.int i) j pos) (tC (.int i)):=fun _ _ _ H _ I h=>wpAny_Constant_int ⟨.int i,H,I.tok _,⟨_,rfl⟩,h⟩
theorem zsM {b j pos}:PE X (.Constant (.bool b) j pos) (tC (.bl b)):=fun _ _ _ H _ I h=>Constant_bool ⟨.bl b,H,I,rfl,h⟩
theorem zqp {j pos}:PE X (.Constant .none j pos) (tC .non):=fun _ _ _ H _ I h=>Constant_none ⟨.non,H,I,rfl,h⟩
theorem zqm {x j pos}:PE X (.Constant (.str x) j pos) (tC (.str x)):=fun _ _ _ H _ I h=>Calls.Constant_str ⟨.str x,H,I.tok _,⟨_,rfl⟩,h⟩
def Gl (X:Cx) (x:Str):Prop:=X.env.kindOf x=some .globalImplicit
theorem zhL {E:Value→Shared→Prop} {pins:List (Addr × Obj)} {s:Shared} {σ:St} {H:Hp} {x:Str} {u:Value} {pos:Pos} {Q:Value→Shared→Prop} (I:Inv X pins σ H s) (hg:Gl X x) (hm:X.mg x=some u) (h:Q u s)
  (hd:(x == ("__debug__":Str))=false:=by decide):wpAny (model X.prog X.w) X.A (eval (.Name x pos) X.env) Q E s :=
 Calls.Name_function_global I.ok.kind hg (Calls.loadGlobal_global (by rw [I.ok.glob]; exact I.mod.glob.keeps I.bk) hm h) hd
theorem zeh {E:Value→Shared→Prop} {pins:List (Addr × Obj)} {s:Shared} {σ:St} {H:Hp} {x:Str} {u:Value} {pos:Pos} {Q:Value→Shared→Prop} (I:Inv X pins σ H s) (hg:Gl X x) (hm:X.mg x=none) (hv:bootBuiltins x=some u) (h:Q u s)
  (hn:x≠"__name__":=by decide) (hd:(x == ("__debug__":Str))=false:=by decide):wpAny (model X.prog X.w) X.A (eval (.Name x pos) X.env) Q E s:=by
 obtain ⟨mb,h1,h2⟩:=I.mod.blt
 exact Calls.Name_function_global I.ok.kind hg (Calls.loadGlobal_builtin (by rw [I.ok.glob]; exact I.mod.glob.keeps I.bk) hm (by rw [I.ok.blt]; exact h1.keeps I.bk) ((h2 x hn).trans hv) h) hd
theorem zot {x:Str} {v:V} {u:Value} {pos:Pos} (hg:Gl X x) (hm:X.mg x=some u) (r:zbA v u) (hd:(x == ("__debug__":Str))=false:=by decide):PE X (.Name x pos) (tC v) :=
 fun _ _ _ H _ I h=>zhL I hg hm ⟨v,H,I,r,h⟩ hd
theorem zoB {x:Str} {v:V} {u:Value} {pos:Pos} (hg:Gl X x) (hm:X.mg x=none) (hv:bootBuiltins x=some u) (r:zbA v u) (hn:x≠"__name__":=by decide) (hd:(x == ("__debug__":Str))=false:=by decide):PE X (.Name x pos) (tC v) :=
 fun _ _ _ H _ I h=>zeh I hg hm hv ⟨v,H,I,r,h⟩ hn hd
variable {a b:Expr} {ta tb:TE} {pos:Pos}
def tB (t:TE):TT:=fun σ H Q=>t σ H fun x H1=>∃ c,x=.bl c∧Q c H1
theorem zqd {e:Expr} {t:TE} (h:PE X e t) (he:∀ whole,isTrue e X.env whole=(do let v ← whole; standAt e.pos; holding [v] (truthy v)):=by intro _; rfl):PT X e (tB t):=by
 intro pins s σ H Q I hw
 refine isTrue_plain (thn (h pins s σ H _ I hw) fun v s1 ⟨x,H1,I1,r1,q1⟩=>?_) (he _)
 obtain ⟨d,rfl,q⟩:=q1; cases r1; exact wpAny_truthy_bool ⟨H1,I1,q⟩
variable {tA tB':TT} {zdD:List Expr}
def zuk (t u:TT):TT:=fun σ H Q=>t σ H fun c H1=>if c=true then u σ H1 Q else Q false H1
def tOr (t u:TT):TT:=fun σ H Q=>t σ H fun c H1=>if c=true then Q true H1 else u σ H1 Q
def zuc (t:TT):TT:=fun σ H Q=>t σ H fun c H1=>Q (!c) H1
theorem zn8 (ha:PT X a tA):PW X (.BoolOp .And [a] pos) tA:=by
 intro wh pins s σ H Q I h
 refine isTrue_and (thn (ha pins s σ H Q I h) fun c s1 e=>?_)
 cases c with
 | true=>exact isTrue_and_nil e
 | false=>exact e
theorem zqb (ha:PT X a tA):PW X (.BoolOp .Or [a] pos) tA:=by
 intro wh pins s σ H Q I h
 refine isTrue_or (thn (ha pins s σ H Q I h) fun c s1 e=>?_)
 cases c with
 | false=>exact isTrue_or_nil e
 | true=>exact e
theorem zqc (ha:PT X a tA) (hb:PW X (.BoolOp .And (b :: zdD) pos) tB'):PW X (.BoolOp .And (a :: b :: zdD) pos) (zuk tA tB'):=by
 intro wh pins s σ H Q I h
 refine isTrue_and (thn (ha pins s σ H _ I h) fun c s1 ⟨H1,I1,q1⟩=>?_)
 cases c with
 | true=>exact hb wh pins s1 σ H1 Q I1 q1
 | false=>exact ⟨H1,I1,q1⟩
theorem zsH (ha:PT X a tA) (hb:PW X (.BoolOp .Or (b :: zdD) pos) tB'):PW X (.BoolOp .Or (a :: b :: zdD) pos) (tOr tA tB'):=by
 intro wh pins s σ H Q I h
 refine isTrue_or (thn (ha pins s σ H _ I h) fun c s1 ⟨H1,I1,q1⟩=>?_)
 cases c with
 | true=>exact ⟨H1,I1,q1⟩
 | false=>exact hb wh pins s1 σ H1 Q I1 q1
theorem zqe (ha:PT X a tA):PT X (.UnaryOp .Not a pos) (zuc tA):=by
 intro pins s σ H Q I h
 exact isTrue_not (ha pins s σ H (fun c H1=>Q (!c) H1) I h)
def zso (ta tb:TE):TE:=fun σ H Q=>ta σ H fun x H1=>∃ c,x=.bl c∧if c=true then tb σ H1 Q else Q (.bl false) H1
theorem zqo {op} {t:TE} (h:PE X a t):PE X (.BoolOp op [a] pos) t:=fun pins s σ H Q I hw=>BoolOp_one (h pins s σ H Q I hw)
theorem zqy (ha:PE X a ta) (hb:PE X (.BoolOp .And (b :: zdD) pos) tb):PE X (.BoolOp .And (a :: b :: zdD) pos) (zso ta tb):=by
 intro pins s σ H Q I h
 refine BoolOp_and (thn (ha pins s σ H _ I h) fun v s1 ⟨x,H1,I1,r1,q1⟩=>?_)
 obtain ⟨c,rfl,q1⟩:=q1; cases r1; refine wpAny_truthy_bool ?_
 cases c with
 | true=>exact hb pins s1 σ H1 Q I1 q1
 | false=>exact ⟨.bl false,H1,I1,rfl,q1⟩
end
end L2
namespace L2
open PySem PySem.Spec PyProof.Rows
def SqL (K:PySem.W.Frag) (H:Hp) (a:Addr) (xs:List V):Prop :=
 Rd H a (.lst xs) ∨
  ∃ (o:Obj) (its:Array Value) (n:Nat),K.lookup a=some o∧o.cls=.type "list"∧o.dict=none∧o.data=.seq its n∧its.size≤sizeLine∧za5 xs its.toList
def SqT (K:PySem.W.Frag) (H:Hp) (a:Addr) (xs:List V):Prop :=
 Rd H a (.tup xs) ∨
  ∃ (o:Obj) (its:Array Value) (n:Nat),K.lookup a=some o∧o.cls=.type "tuple"∧o.data=.seq its n∧its.size≤sizeLine∧za5 xs its.toList
def zuG:Value→Option V
 | .none=>some .non
 | .bool b=>some (.bl b)
 | .int i _=>some (.int i)
 | .str x _=>some (.str x)
 | .bytes b _=>some (.byt b)
 | .float b _=>some (.flt b)
 | .ref a=>some (.ref a)
 | .type n=>some (.ty n)
 | _=>none
theorem zbA.abs {x:V} {u:Value} (r:zbA x u):zuG u=some x:=by
 cases x with
 | non=>cases r; rfl
 | bl _=>cases r; rfl
 | int _=>obtain ⟨t,rfl⟩:=r; rfl
 | str _=>obtain ⟨t,rfl⟩:=r; rfl
 | byt _=>obtain ⟨t,rfl⟩:=r; rfl
 | flt _=>obtain ⟨t,rfl⟩:=r; rfl
 | ref _=>cases r; rfl
 | ty _=>cases r; rfl
theorem zbA.inj {x y:V} {u:Value} (r:zbA x u) (q:zbA y u):x=y:=Option.some.inj (r.abs.symm.trans q.abs)
theorem za5.inj:∀ {xs ys:List V} {us:List Value},za5 xs us→za5 ys us→xs=ys
 | _,_,_,.nil,.nil=>rfl
 | _,_,_,.cons r t,.cons r' t'=>by rw [r.inj r',za5.inj t t']
section
variable {X:Cx} {pins:List (Addr × Obj)} {σ:St} {H:Hp} {s:Shared} {a:Addr} {xs ys:List V}
theorem SqL.of {K:PySem.W.Frag} (h:H a=some (.lst xs)):SqL K H a xs:=.inl (.inl h)
theorem SqT.of {K:PySem.W.Frag} (h:H a=some (.tup xs)):SqT K H a xs:=.inl (.inl h)
theorem Inv.list (I:Inv X pins σ H s) (h:SqL X.K H a xs):∃ its:List Value,za5 xs its∧PlainL s.heap a its.toArray∧xs.length≤sizeLine:=by
 rcases h with h | ⟨o,its,n,hk,hc,hd,hs,hz,r⟩
 ·obtain ⟨z,its,n,r,e⟩:=h.ok I.hok
  exact ⟨its,r,⟨_,n,e,rfl,rfl,rfl⟩,z⟩
 ·refine ⟨its.toList,r,⟨o,n,I.kIn a o hk,hc,hd,by simpa using hs⟩,?_⟩
  have e:=r.length; simp only [Array.length_toList] at e; omega
theorem Inv.tuple (I:Inv X pins σ H s) (h:SqT X.K H a xs):∃ its:List Value,za5 xs its∧IsTup s.heap a its.toArray∧xs.length≤sizeLine:=by
 rcases h with h | ⟨o,its,n,hk,hc,hs,hz,r⟩
 ·obtain ⟨z,its,r,p⟩:=h.ok I.hok
  exact ⟨its,r,p,z⟩
 ·refine ⟨its.toList,r,⟨o,I.kIn a o hk,hc,n,by simpa using hs⟩,?_⟩
  have e:=r.length; simp only [Array.length_toList] at e; omega
theorem Inv.list_inj (I:Inv X pins σ H s) (h:SqL X.K H a xs) (h':SqL X.K H a ys):xs=ys:=by
 obtain ⟨its,r,⟨o,n,e,_,_,d⟩,_⟩:=I.list h
 obtain ⟨its',r',⟨o',n',e',_,_,d'⟩,_⟩:=I.list h'
 rw [e] at e'; cases e'
 rw [d] at d'
 injection d' with d1 _
 have:its=its':=by simpa using congrArg Array.toList d1
 subst this; exact r.inj r'
theorem Inv.tuple_inj (I:Inv X pins σ H s) (h:SqT X.K H a xs) (h':SqT X.K H a ys):xs=ys:=by
 obtain ⟨its,r,⟨o,e,_,n,d⟩,_⟩:=I.tuple h
 obtain ⟨its',r',⟨o',e',_,n',d'⟩,_⟩:=I.tuple h'
 rw [e] at e'; cases e'
 rw [d] at d'
 injection d' with d1 _
 have:its=its':=by simpa using congrArg Array.toList d1
 subst this; exact r.inj r'
end
abbrev Cx.wish (X:Cx) (E:Value→Shared→Prop):Cx:={ X with xe:=E }
abbrev Cx.nox (X:Cx):Cx:=X.wish fun _ _=>False
theorem Cx.Ok.wish {X:Cx} (ok:X.Ok) (E:Value→Shared→Prop):(X.wish E).Ok :=
 ⟨ok.mod,ok.kind,ok.glob,ok.blt,ok.above,ok.inj,ok.has,ok.cab,ok.hd,ok.frames,ok.stk,ok.exf,ok.bs,ok.bsz,ok.noex,ok.exfs,ok.funs,ok.frf,ok.tab⟩
theorem Cx.Ok.unwish {X:Cx} {E:Value→Shared→Prop} (ok:(X.wish E).Ok):X.Ok :=
 ⟨ok.mod,ok.kind,ok.glob,ok.blt,ok.above,ok.inj,ok.has,ok.cab,ok.hd,ok.frames,ok.stk,ok.exf,ok.bs,ok.bsz,ok.noex,ok.exfs,ok.funs,ok.frf,ok.tab⟩
section
variable {X:Cx} {pins:List (Addr × Obj)} {σ:St} {H:Hp} {s:Shared} {E:Value→Shared→Prop}
theorem Inv.wish (I:Inv X pins σ H s) (E:Value→Shared→Prop):Inv (X.wish E) pins σ H s:=⟨I.ok.wish E,I.os,I.bare,I.base,I.loc,I.cell,I.free,I.freeC,I.pin,I.hok,I.len⟩
theorem Inv.unwish (I:Inv (X.wish E) pins σ H s):Inv X pins σ H s:=⟨I.ok.unwish,I.os,I.bare,I.base,I.loc,I.cell,I.free,I.freeC,I.pin,I.hok,I.len⟩
theorem SP.unwish {D:Ends} {f:Flow} {s':Shared} (h:SP (X.wish E) pins D f s'):SP X pins D f s':=by
 cases f with
 | next=>obtain ⟨σ',H',I,q⟩:=h; exact ⟨σ',H',I.unwish,q⟩
 | brk=>obtain ⟨σ',H',I,q⟩:=h; exact ⟨σ',H',I.unwish,q⟩
 | cont=>obtain ⟨σ',H',I,q⟩:=h; exact ⟨σ',H',I.unwish,q⟩
 | ret u=>obtain ⟨v,σ',H',I,r,q⟩:=h; exact ⟨v,σ',H',I.unwish,r,q⟩
theorem PE.nox {e:Expr} {t:TE} (h:PE X.nox e t):PE X e t:=fun pins s σ H Q I hw =>
 wpAny_mono (h pins s σ H Q (I.wish _) hw) (fun _ _ ⟨v,H',I',r,q⟩=>⟨v,H',I'.unwish,r,q⟩) fun _ _ z=>False.elim z
theorem PSs.nox {st:List Stmt} {t:TS} (h:PSs X.nox st t):PSs X st t:=fun pins s σ H D I hw =>
 wpAny_mono (h pins s σ H D (I.wish _) hw) (fun _ _ q=>q.unwish) fun _ _ z=>False.elim z
end
section
variable {X:Cx} {st:Stmt} {zdD:List Stmt} {t u:TS} {e:Expr} {te:TE} {pos:Pos}
def zsh:TS:=fun D σ H=>D.nx σ H
def zua (t u:TS):TS:=fun D σ H=>t { D with nx:=u D } σ H
theorem zod:PSs X [] zsh:=fun _ _ σ H _ I h=>wpAny_execs_nil ⟨σ,H,I,h⟩
theorem zdd (h1:PS X st t) (h2:PSs X zdD u):PSs X (st :: zdD) (zua t u):=by
 intro pins s σ H D I h
 refine wpAny_execs_cons (thn (h1 pins s σ H { D with nx:=u D } I h) fun f s1 q=>?_)
 cases f with
 | next =>
  obtain ⟨σ',H',I',q⟩:=q; exact h2 pins s1 σ' H' D I' q
 | ret v=>exact q
 | brk=>exact q
 | cont=>exact q
theorem zdw (h1:PS X st t):PSs X [st] t:=by
 intro pins s σ H D I h
 refine wpAny_execs_cons (thn (h1 pins s σ H D I h) fun f s1 q=>?_)
 cases f with
 | next=>exact wpAny_execs_nil q
 | ret v=>exact q
 | brk=>exact q
 | cont=>exact q
theorem Inv.quiet {pins:List (Addr × Obj)} {σ:St} {H:Hp} {s:Shared} (I:Inv X pins σ H s):interactive X.env=false:=by simp [interactive,I.ok.kind]
def zsm (te:TE):TS:=fun D σ H=>te σ H fun _ H1=>D.nx σ H1
theorem zeD (he:PE X e te) (hs:swapsWith e none pos.line X.env=pure false:=by rfl):PS X (.Expr e pos) (zsm te):=by
 intro pins s σ H D I h
 exact wpAny_Expr_any (thn (he pins s σ H _ I h) fun v s1 ⟨x,H1,I1,r1,q1⟩=>⟨σ,H1,I1,q1⟩) I.quiet hs
def zub (te:TE):TS:=fun D σ H=>te σ H D.rt
theorem zig (he:PE X e te):PS X (.Return (some e) pos) (zub te):=by
 intro pins s σ H D I h
 exact wpAny_Return_some (thn (he pins s σ H _ I h) fun v s1 ⟨x,H1,I1,r1,q1⟩=>⟨x,σ,H1,I1,r1,q1⟩)
def zuf (c:TT) (t u:TS):TS:=fun D σ H=>c σ H fun b H1=>if b=true then t D σ H1 else u D σ H1
theorem zsI {c:Expr} {a b:List Stmt} {tc:TT} (hc:PT X c tc) (ha:PSs X a t) (hb:PSs X b u):PS X (.If c a b pos) (zuf tc t u):=by
 intro pins s σ H D I h
 refine wpAny_If (thn (hc pins s σ H _ I h) fun d s1 ⟨H1,I1,q1⟩=>?_)
 cases d with
 | true=>exact ha pins s1 σ H1 D I1 q1
 | false=>exact hb pins s1 σ H1 D I1 q1
end
abbrev TG:=V→St→Hp→(St→Hp→Prop)→Prop
abbrev TGs:=List V→St→Hp→(St→Hp→Prop)→Prop
def PG (X:Cx) (target:Expr) (t:TG):Prop :=
 ∀ (pins:List (Addr × Obj)) (s:Shared) (σ:St) (H:Hp) (v:V) (u:Value) (Q:St→Hp→Prop),Inv X pins σ H s→zbA v u→t v σ H Q →
  wpAny (model X.prog X.w) X.A (assign target X.env u) (fun _ s'=>∃ σ' H',Inv X pins σ' H' s'∧Q σ' H') X.xe s
def PGs (X:Cx) (ts:List Expr) (t:TGs):Prop :=
 ∀ (pins:List (Addr × Obj)) (s:Shared) (σ:St) (H:Hp) (vs:List V) (us:List Value) (Q:St→Hp→Prop),Inv X pins σ H s→za5 vs us→t vs σ H Q →
  wpAny (model X.prog X.w) X.A (assignInOrder ((assignEach ts X.env).map (·.2)) us) (fun _ s'=>∃ σ' H',Inv X pins σ' H' s'∧Q σ' H') X.xe s
section
variable {X:Cx} {pos:Pos}
def zq9 (i:Nat):TG:=fun v σ H Q=>Q (σ.set i (some v)) H
theorem zos {i:Nat} {x:Str} (hN:X.N.Nodup) (hi:X.N[i]?=some x) (hx:Loc X.env.scope x) (hf:X.fn x=true∨X.env.scope.names.lookup x=some .local:=by first | exact .inl rfl | exact .inr rfl | assumption):PG X (.Name x pos) (zq9 i):=by
 intro pins s σ H v u Q I r h
 exact wpAny_assign_Name (zh4 I hN hi hx r (fun s' I'=>⟨_,H,I',h⟩) hf)
def zuz:TGs:=fun vs σ H Q=>vs=[]∧Q σ H
def ztb (t:TG) (u:TGs):TGs:=fun vs σ H Q=>∃ v r,vs=v :: r∧t v σ H fun σ' H'=>u r σ' H' Q
theorem zor:PGs X [] zuz:=by
 intro pins s σ H vs us Q I r h; obtain ⟨e,h⟩:=h; subst e; cases r; exact assignInOrder_nil ⟨σ,H,I,h⟩
theorem zl9 {e:Expr} {es:List Expr} {t:TG} {u:TGs} (h1:PG X e t) (h2:PGs X es u)
  (hs:(assignEach (e :: es) X.env).map (·.2)=assign e X.env :: (assignEach es X.env).map (·.2):=by rfl):PGs X (e :: es) (ztb t u):=by
 intro pins s σ H vs us Q I r h; obtain ⟨v,vr,e1,h⟩:=h; subst e1
 cases r with
 | cons r rr =>
  rw [hs]
  refine assignInOrder_cons (thn (h1 pins s σ H _ _ _ I r h) fun _ s1 ⟨σ1,H1,I1,q1⟩=>?_)
  exact h2 pins s1 σ1 H1 _ _ Q I1 rr q1
def zuy (K:PySem.W.Frag) (n:Nat) (t:TGs):TG:=fun v σ H Q=>∃ a xs,v=.ref a∧SqT K H a xs∧xs.length=n∧t xs σ H Q
theorem zqj {es:List Expr} {k:Nat} {t:TGs} {n:Nat} (hc:X.calm=true) (h:PGs X es t)
  (hn:(assignEach es X.env).length=n:=by rfl) (hst:(assignEach es X.env).findIdx? (·.1)=none:=by rfl):PG X (.Tuple es k pos) (zuy X.K n t):=by
 intro pins s σ H v u Q I r hw; obtain ⟨a,xs,e1,hq,hl,hw⟩:=hw; subst e1; cases r; obtain ⟨its,rv,ht,hz⟩:=I.tuple hq
 refine assign_Tuple_tuple (I.ok.hd hc) ht (by simp [hn,← hl,rv.length]) hst fun h' hx=>?_
 have I1:Inv X pins σ H { s with heap:=h' }:=I.kept (t':=s.toks) fun b o e=>hx b o (Nat.ne_of_lt (Heap.lt_size e)) e
 exact h pins _ σ H xs _ Q I1 (by simpa using rv) hw
def zuj (te:TE) (g:TG):TS:=fun D σ H=>te σ H fun x H1=>g x σ H1 D.nx
theorem zif {i:Nat} {x:Str} {e:Expr} {te:TE} {pos':Pos} (hN:X.N.Nodup) (hi:X.N[i]?=some x) (hx:Loc X.env.scope x) (he:PE X e te) (hs:swapsWith e (some (.Name x pos')) pos.line X.env=pure false:=by rfl) (hf:X.fn x=true∨X.env.scope.names.lookup x=some .local:=by first | exact .inl rfl | exact .inr rfl | assumption) :
  PS X (.Assign [.Name x pos'] e pos) (zuj te (zq9 i)):=by
 intro pins s σ H D I h
 refine wpAny_Assign_Name (thn (he pins s σ H _ I h) fun v s1 ⟨y,H1,I1,r1,q1⟩=>?_) hs
 exact zh4 I1 hN hi hx r1 (fun s2 I2=>⟨_,H1,I2,q1⟩) hf
end
section
variable {X:Cx} {pos:Pos}
def zpH (c:TT) (tb:TS):TS:=fun D σ H=>∃ W:Nat→St→Hp→Prop,(∃ m,W m σ H)∧∀ m σ H,W m σ H →
 c σ H fun b H1=>if b=true then ∃ N:St→Hp→Prop,(∀ σ' H',N σ' H'→∃ m',m'<m∧W m' σ' H')∧tb { D with nx:=N,ct:=N,bk:=D.nx } σ H1 else D.nx σ H1
theorem zl0 {c:Expr} {body:List Stmt} {tc:TT} {tb:TS} (hp:PassesOwn (model X.prog X.w) X.A X.env X.xe) (hc:PT X c tc) (hb:PSs X body tb):PS X (.While c body [] pos) (zpH tc tb):=by
 intro pins s σ H D I h
 obtain ⟨W,⟨m0,w0⟩,turn⟩:=h
 refine wpAny_While (codeAny_whileLoop (fun n s'=>∃ σ' H',Inv X pins σ' H' s'∧W n σ' H') ?_ m0 ⟨σ,H,I,w0⟩)
 rintro n s1 ⟨σ1,H1,I1,w1⟩
 refine wpAny_passesOwn hp (thn (hc pins s1 σ1 H1 _ I1 (turn n σ1 H1 w1)) fun b s2 ⟨H2,I2,q2⟩=>?_)
 cases b with
 | true =>
  obtain ⟨N,hN,q2⟩:=q2; rw [if_pos rfl]
  refine wpAny_passesOwn hp (thn (hb pins s2 σ1 H2 _ I2 q2) fun f s3 q3=>?_)
  cases f with
  | next =>
   obtain ⟨σ3,H3,I3,n3⟩:=q3; obtain ⟨m',hm,w3⟩:=hN σ3 H3 n3; exact ⟨m',hm,σ3,H3,I3,w3⟩
  | cont =>
   obtain ⟨σ3,H3,I3,n3⟩:=q3; obtain ⟨m',hm,w3⟩:=hN σ3 H3 n3; exact ⟨m',hm,σ3,H3,I3,w3⟩
  | brk=>exact q3
  | ret v=>exact q3
 | false =>
  rw [if_neg Bool.false_ne_true]; exact wpAny_execs_nil ⟨σ1,H2,I2,q2⟩
end
structure It where
 go:Nat→Hp→Prop
 yld:Nat→Hp→V→Hp→Prop
 stop:Nat→Hp→Prop
def zf3 (X:Cx) (pins:List (Addr × Obj)) (H:Hp) (b:Addr):Prop :=
 H b=none∧b≠X.env.locals∧b ∉ X.fs∧(b ∈ X.ex∨X.s₀.heap.objs.size≤b)∧(∀ x c,X.env.cells.lookup x=some c→c≠b)∧∀ p ∈ X.pn ++ pins,p.1≠b
theorem Inv.fpOk {X:Cx} {pins:List (Addr × Obj)} {σ:St} {H H':Hp} {s:Shared} {b:Addr} (I:Inv X pins σ H s) (hb:s.heap.objs.size≤b) (hn:H' b=none):zf3 X pins H' b:=by
 refine ⟨hn,Nat.ne_of_gt (Nat.lt_of_lt_of_le I.lt hb),I.nofs hb,.inr (Nat.le_trans I.sz hb),fun x c e z=>?_,fun p hp z=>?_⟩
 ·obtain ⟨v,q⟩:=I.cell x c e
  exact absurd (Nat.lt_of_lt_of_le q.lt (by rw [z]; exact hb)) (Nat.lt_irrefl _)
 ·exact absurd (Nat.lt_of_lt_of_le (Heap.lt_size (I.pin p hp).1) (by rw [z]; exact hb)) (Nat.lt_irrefl _)
structure Turn (P:Program) (w:World) (K:PySem.W.Frag) (tg:Expr) (J:It) (fp:List Addr) (it:Addr) (tn:Nat→Heap→Prop):Prop where
 mem:it ∈ fp
 obj:∀ i h,tn i h→∀ b ∈ fp,∃ o,h.get? b=some o∧∀ v,o.data≠.cell v
 keep:∀ i h h',tn i h→(∀ b ∈ fp,∀ o,h.get? b=some o→h'.get? b=some o)→tn i h'
 item:∀ (X:Cx),X.prog=P→X.w=w→X.K=K→X.calm=true→∀ (i:Nat) (pins:List (Addr × Obj)) (s:Shared) (σ:St) (H:Hp) (E:Value→Shared→Prop),Inv X pins σ H s→(∀ b ∈ fp,zf3 X pins H b)→tn i s.heap→J.go i H →
  wpAny (model P w) X.A (pyNext (.ref it)) (fun r s1=>∃ u,r=some u ∧
   wpAny (model P w) X.A (letOwnedTupleGo tg (.ref it) u) (fun _ s2=>∃ x H',Inv X pins σ H' s2∧zbA x u∧J.yld i H x H'∧tn (i+1) s2.heap∧∀ b ∈ fp,H' b=none) E s1) E s
 done:∀ (X:Cx),X.prog=P→X.w=w→X.K=K→X.calm=true→∀ (i:Nat) (pins:List (Addr × Obj)) (s:Shared) (σ:St) (H:Hp) (E:Value→Shared→Prop),Inv X pins σ H s→(∀ b ∈ fp,zf3 X pins H b)→tn i s.heap→J.stop i H →
  wpAny (model P w) X.A (pyNext (.ref it)) (fun r s1=>r=none∧Inv X pins σ H s1) E s
 self:∀ (A:Around) (i:Nat) (s:Shared) (Q:Value→Shared→Prop) (E:Value→Shared→Prop),tn i s.heap→Q (.ref it) s→wpAny (model P w) A (pyIter (.ref it)) Q E s
abbrev TI:=St→Hp→(It→Hp→Prop)→Prop
def PIE (X:Cx) (pins:List (Addr × Obj)) (σ:St) (tg:Expr) (R:It→Hp→Prop) (itv:Value) (s2:Shared):Prop :=
 ∃ (it:Addr) (fp:List Addr) (tn:Nat→Heap→Prop) (J:It) (H':Hp),itv=.ref it∧Inv X pins σ H' s2∧Turn X.prog X.w X.K tg J fp it tn∧tn 0 s2.heap∧(∀ b ∈ fp,zf3 X pins H' b)∧R J H'
def PI (X:Cx) (tg iter:Expr) (wi:TI):Prop :=
 ∀ (pins:List (Addr × Obj)) (s:Shared) (σ:St) (H:Hp) (R:It→Hp→Prop),Inv X pins σ H s→wi σ H R →
  wpAny (model X.prog X.w) X.A (eval iter X.env) (fun v s1=>wpAny (model X.prog X.w) X.A (pyIter v) (PIE X pins σ tg R) X.xe s1) X.xe s
theorem zjm {M:Model} {A:Around} {E:Value→Shared→Prop} {s:Shared} {tg:Expr} {it:Addr} {u:Value} {o:Obj} {n:String} {vs:Array Value} {Q:Unit→Shared→Prop} (ho:s.heap.get? it=some o) (hc:o.cls=.type n) (hd:o.data=.fields vs)
    (hn:["enumerate","zip","dict_itemiterator","dict_reverseitemiterator","odict_iterator","itertools.zip_longest","itertools.pairwise"].contains n=false) (hQ:Q () s):wpAny M A (letOwnedTupleGo tg (.ref it) u) Q E s:=by
  unfold letOwnedTupleGo
  cases tg <;> first
    | exact wpAny_pure hQ
    | (cases u <;> first
        | exact wpAny_pure hQ
        | (refine wpAny_bind (wpAny_load ho ?_)
           rw [hc,hd]
           show wpAny M A (if (["enumerate","zip","dict_itemiterator","dict_reverseitemiterator","odict_iterator","itertools.zip_longest","itertools.pairwise"].contains n && vs[0]? == some (rawInt _))=true then _ else _) Q E s
           rw [if_neg (by intro h; rw [hn,Bool.false_and] at h; cases h)]
           exact wpAny_pure hQ))
def Itl (K:PySem.W.Frag) (a:Addr):It :=
 ⟨fun i H=>∃ xs x,SqL K H a xs∧xs[i]?=some x,fun i H x H'=>H'=H∧∀ xs,SqL K H a xs→xs[i]?=some x,fun i H=>∃ xs,SqL K H a xs∧xs.length≤i⟩
def Itt (K:PySem.W.Frag) (a:Addr):It :=
 ⟨fun i H=>∃ xs x,SqT K H a xs∧xs[i]?=some x,fun i H x H'=>H'=H∧∀ xs,SqT K H a xs→xs[i]?=some x,fun i H=>∃ xs,SqT K H a xs∧xs.length≤i⟩
def Itr (lo:Int) (n:Nat):It:=⟨fun i _=>i<n,fun i H x H'=>H'=H∧x=.int (lo+i),fun i _=>n≤i⟩
theorem zjI {P:Program} {w:World} {K:PySem.W.Frag} {tg:Expr} (a it:Addr):Turn P w K tg (Itl K a) [it] it (fun i h=>h.IsListIter it a i) where
 mem:=by simp
 obj:=fun i h st b hb=>by
  have e:b=it:=by simpa using hb
  subst e; obtain ⟨o,e,c,d⟩:=st
  exact ⟨o,e,fun v z=>by rw [d] at z; cases z⟩
 keep:=fun i h h' st k=>st.at fun o e=>k it (by simp) o e
 item:=by
  intro X hP hw hK hc i pins s σ H E I hf st hg
  subst hP hw hK
  obtain ⟨xs,x,hq,hx⟩:=hg; obtain ⟨its,rv,p,hz⟩:=I.list hq; obtain ⟨u,hu,ru⟩:=rv.get hx
  obtain ⟨f0,f1,f2,f3,f4,f5⟩:=hf it (by simp)
  refine wpAny_pyNext_list_item st p.isList (x:=u) (by simpa using hu) fun h' st' sb=>?_
  have I1:Inv X pins σ H { s with heap:=h' }:=I.turned (t':=s.toks) (fun b o hb e=>(sb.2 b hb).trans e) f0 f1 f3 f4 f5
  obtain ⟨o,e,c,d⟩:=id st'
  exact ⟨u,rfl,zjm (s:={ s with heap:=h' }) e c d (by decide) ⟨x,H,I1,ru,⟨rfl,fun ys hy=>by rw [I.list_inj hy hq]; exact hx⟩,st',fun b hb=>(hf b hb).1⟩⟩
 done:=by
  intro X hP hw hK hc i pins s σ H E I hf st hg
  subst hP hw hK
  obtain ⟨xs,hq,hx⟩:=hg; obtain ⟨its,rv,p,hz⟩:=I.list hq
  obtain ⟨f0,f1,f2,f3,f4,f5⟩:=hf it (by simp)
  have hl:=rv.length
  exact wpAny_pyNext_list_end (I.ok.hd hc) st p.isList (by simp; omega) fun h' eb=>⟨rfl,I.turned (t':=s.toks) (fun b o hb e=>eb b o hb e) f0 f1 f3 f4 f5⟩
 self:=fun _ _ _ _ _ st h=>wpAny_pyIter_listiter st h
theorem ziM {P:Program} {w:World} {K:PySem.W.Frag} {tg:Expr} (a it:Addr):Turn P w K tg (Itt K a) [it] it (fun i h=>h.IsTupleIter it a i) where
 mem:=by simp
 obj:=fun i h st b hb=>by
  have e:b=it:=by simpa using hb
  subst e; obtain ⟨o,e,c,d⟩:=st
  exact ⟨o,e,fun v z=>by rw [d] at z; cases z⟩
 keep:=fun i h h' st k=>st.at fun o e=>k it (by simp) o e
 item:=by
  intro X hP hw hK hc i pins s σ H E I hf st hg
  subst hP hw hK
  obtain ⟨xs,x,hq,hx⟩:=hg; obtain ⟨its,rv,p,hz⟩:=I.tuple hq; obtain ⟨u,hu,ru⟩:=rv.get hx
  obtain ⟨f0,f1,f2,f3,f4,f5⟩:=hf it (by simp)
  refine wpAny_pyNext_tuple_item st (show s.heap.IsTuple a its.toArray from p) (x:=u) (by simpa using hu) fun h' st' sb=>?_
  have I1:Inv X pins σ H { s with heap:=h' }:=I.turned (t':=s.toks) (fun b o hb e=>(sb.2 b hb).trans e) f0 f1 f3 f4 f5
  obtain ⟨o,e,c,d⟩:=id st'
  exact ⟨u,rfl,zjm (s:={ s with heap:=h' }) e c d (by decide) ⟨x,H,I1,ru,⟨rfl,fun ys hy=>by rw [I.tuple_inj hy hq]; exact hx⟩,st',fun b hb=>(hf b hb).1⟩⟩
 done:=by
  intro X hP hw hK hc i pins s σ H E I hf st hg
  subst hP hw hK
  obtain ⟨xs,hq,hx⟩:=hg; obtain ⟨its,rv,p,hz⟩:=I.tuple hq
  obtain ⟨f0,f1,f2,f3,f4,f5⟩:=hf it (by simp)
  have hl:=rv.length
  exact wpAny_pyNext_tuple_end (I.ok.hd hc) st (show s.heap.IsTuple a its.toArray from p) (by simp; omega) fun h' eb=>⟨rfl,I.turned (t':=s.toks) (fun b o hb e=>eb b o hb e) f0 f1 f3 f4 f5⟩
 self:=fun _ _ _ _ _ st h=>wpAny_pyIter_tupleiter st h
theorem ziN {P:Program} {w:World} {K:PySem.W.Frag} {tg:Expr} (it:Addr) (lo:Int) (n:Nat):Turn P w K tg (Itr lo n) [it] it (fun i h=>IsRangeIter h it (lo+(i:Nat) * 1) ((n:Int)-(i:Nat)) 1) where
 mem:=by simp
 obj:=fun i h st b hb=>by
  have e:b=it:=by simpa using hb
  subst e
  exact ⟨_,st,fun v z=>by
   have z':Data.fields _=Data.cell v:=z
   cases z'⟩
 keep:=fun i h h' st k=>k it (by simp) _ st
 item:=by
  intro X hP hw hK hc i pins s σ H E I hf st hg
  subst hP hw hK
  obtain ⟨f0,f1,f2,f3,f4,f5⟩:=hf it (by simp)
  have W:=Walks.range (prog:=X.prog) (w:=X.w) (I.ok.hd hc) it lo 1 n
  refine W.item i s _ _ hg st fun v h' tk hv st' kk=>?_
  obtain ⟨t,rfl⟩:=hv
  have I1:Inv X pins σ H { s with heap:=h',toks:=tk }:=I.turned (fun b o hb e=>kk b o (by simpa using hb) e) f0 f1 f3 f4 f5
  refine ⟨_,rfl,zjm (s:={ s with heap:=h',toks:=tk }) (n:="range_iterator") st' rfl rfl (by decide) ⟨.int (lo+i),H,I1,⟨t,?_⟩,⟨rfl,rfl⟩,st',fun b hb=>(hf b hb).1⟩⟩
  rw [Int.mul_one]
 done:=by
  intro X hP hw hK hc i pins s σ H E I hf st hg
  subst hP hw hK
  obtain ⟨f0,f1,f2,f3,f4,f5⟩:=hf it (by simp)
  exact wpAny_pyNext_range_end (I.ok.hd hc) st (by have:n≤i:=hg; omega) fun h' eb=>⟨rfl,I.turned (t':=s.toks) (fun b o hb e=>eb b o hb e) f0 f1 f3 f4 f5⟩
 self:=fun _ _ _ _ _ st h=>wpAny_pyIter_rangeiter st h
end L2
namespace L2
open PySem PySem.Spec PyProof.Rows
section
variable {X:Cx} {tg:Expr}
theorem zlR {pins:List (Addr × Obj)} {σ:St} {H:Hp} {s:Shared} {R:It→Hp→Prop} {E:Value→Shared→Prop} {lo hi:Int} {t u v:Tok} {tk:Nat} (I:Inv X pins σ H s) (h1:-(2 ^ 62)≤lo) (h2:lo<2 ^ 62) (h3:-(2 ^ 62)≤hi) (h4:hi<2 ^ 62)
  (q:R (Itr lo (hi-lo).toNat) H):wpAny (model X.prog X.w) X.A (pyIter (.ref s.heap.objs.size)) (PIE X pins σ tg R) E { s with heap:=s.heap.push { cls:=.type "range",data:=.fields #[.int lo t,.int hi u,.int 1 v] },toks:=tk }:=by
 refine wpAny_pyIter_range (IsRange.new ..) (small_one h1 h2 h3 h4) ?_
 have I1:Inv X pins σ H { s with heap:=s.heap.push { cls:=.type "range",data:=.fields #[.int lo t,.int hi u,.int 1 v] },toks:=tk }:=I.kept fun b o e=>Heap.get?_push_of_some _ e
 refine ⟨(s.heap.push { cls:=.type "range",data:=.fields #[.int lo t,.int hi u,.int 1 v] }).objs.size,[(s.heap.push { cls:=.type "range",data:=.fields #[.int lo t,.int hi u,.int 1 v] }).objs.size],_,_,H,rfl,
  I1.kept (t':=tk) fun b o e=>Heap.get?_push_of_some _ e,ziN _ lo (hi-lo).toNat,?_,fun b hb=>?_,q⟩
 ·have e1:lo+((0:Nat):Int) * 1=lo:=by simp
  have e2:(((hi-lo).toNat:Nat):Int)-((0:Nat):Int)=Builtin.Range.rangeSize lo hi 1:=by rw [rangeSize_one]; split <;> omega
  show IsRangeIter _ _ (lo+((0:Nat):Int) * 1) ((((hi-lo).toNat:Nat):Int)-((0:Nat):Int)) 1
  rw [e1,e2]; exact Heap.get?_push_size _ rfl
 ·have e:b=(s.heap.push { cls:=.type "range",data:=.fields #[.int lo t,.int hi u,.int 1 v] }).objs.size:=by simpa using hb
  subst e; exact I1.fpOk (Nat.le_refl _) (I1.hok.fresh (Nat.le_refl _))
def zs9 (ta:TA):TI:=fun σ H R=>ta σ H fun vs H1=>∃ j:Int,vs=[.int j]∧-(2 ^ 62)≤j∧j<2 ^ 62∧R (Itr 0 j.toNat) H1
theorem zkg {a:Expr} {ta:TA} {p pos:Pos} (hg:Gl X "range") (hm:X.mg "range"=none) (ha:PA X [a] ta) (hs:starEach [a] X.env=[(false,eval a X.env)]:=by rfl):PI X tg (.Call (.Name "range" p) [a] [] pos) (zs9 ta):=by
 intro pins s σ H R I h
 refine Call_ (zeh I hg hm boot_range (PyProof.Rows.callWith_type1 (thn (ha pos pins s σ H _ I h) fun us s1 ⟨vs,H1,I1,r1,q1⟩=>?_) hs rfl))
 obtain ⟨j,e,q1,q2,q⟩:=q1; subst e
 cases r1 with
 | cons r rr =>
  cases rr; obtain ⟨t,rfl⟩:=r
  exact call_range_1 (zlR I1 (by omega) (by omega) q1 q2 (by simpa using q))
def zug (wi:TI) (g:TG) (tb:TS):TS:=fun D σ H=>wi σ H fun J H1=>∃ W:Nat→Nat→St→Hp→Prop,(∃ m,W 0 m σ H1)∧∀ i m σ H,W i m σ H →
 (J.stop i H∧D.nx σ H)∨(J.go i H∧∃ N:St→Hp→Prop,(∀ σ' H',N σ' H'→∃ m',m'<m∧W (i+1) m' σ' H')∧∀ x H',J.yld i H x H'→g x σ H' fun σ2 H2=>tb { D with nx:=N,ct:=N,bk:=D.nx } σ2 H2)
def zfk (fp:List Addr) (h:Heap):List (Addr × Obj):=fp.filterMap fun b=>(h.get? b).map fun o=>(b,o)
theorem zdg {fp:List Addr} {h:Heap} {b:Addr} {o:Obj} (hb:b ∈ fp) (e:h.get? b=some o):(b,o) ∈ zfk fp h:=List.mem_filterMap.mpr ⟨b,hb,by rw [e]; rfl⟩
theorem zkw {fp:List Addr} {h:Heap} {p:Addr × Obj} (hp:p ∈ zfk fp h):p.1 ∈ fp∧h.get? p.1=some p.2:=by
 obtain ⟨b,hb,e⟩:=List.mem_filterMap.mp hp
 cases q:h.get? b with
 | none=>rw [q] at e; cases e
 | some o =>
  rw [q] at e
  have e':(b,o)=p:=Option.some.inj e
  subst e'
  exact ⟨hb,q⟩
theorem Inv.pinned {pins:List (Addr × Obj)} {σ:St} {H:Hp} {s:Shared} {fp:List Addr} (I:Inv X pins σ H s) (hf:∀ b ∈ fp,zf3 X pins H b) (ho:∀ b ∈ fp,∃ o,s.heap.get? b=some o∧∀ v,o.data≠.cell v):Inv X (pins ++ zfk fp s.heap) σ H s :=
 I.pins_of fun p hp=>(List.mem_append.mp hp).elim (fun z=>I.pin p (List.mem_append_right _ z)) fun z=>by
  obtain ⟨hb,e⟩:=zkw z; obtain ⟨f0,f1,f2,_⟩:=hf p.1 hb; obtain ⟨o,e',d⟩:=ho p.1 hb
  rw [e] at e'; cases e'
  exact ⟨e,f0,f1,f2,d⟩
theorem Inv.unpinned {pins pl:List (Addr × Obj)} {σ:St} {H:Hp} {s:Shared} (I:Inv X (pins ++ pl) σ H s):Inv X pins σ H s:=I.pins_of fun p hp=>I.pin p (List.mem_append_right _ (List.mem_append_left _ hp))
theorem zqg {iter:Expr} {body:List Stmt} {wi:TI} {g:TG} {tb:TS} {pos:Pos} (hp:PassesOwn (model X.prog X.w) X.A X.env X.xe) (hc:X.calm=true) (hi:PI X tg iter wi) (hg:PG X tg g) (hb:PSs X body tb)
  (hs:∀ x,foldedSetIterable iter X.env x=pure x:=by intro _; rfl):PS X (.For tg iter body [] pos) (zug wi g tb):=by
 intro pins s σ H D I h
 refine wpAny_For (thn (hi pins s σ H _ I h) fun v s1 h1=>thn h1 fun itv s2 h2=>?_) hs
 obtain ⟨it,fp,tn,J,H2,e,I2,T,st2,f2,W,⟨m0,w0⟩,turn⟩:=h2
 subst e
 -- what stays true of the iterator's objects through the loop
 have stat:∀ {H':Hp},(∀ b ∈ fp,H' b=none)→∀ b ∈ fp,zf3 X pins H' b:=fun hn b hb=>⟨hn b hb,(f2 b hb).2⟩
 refine codeAny_forLoop_any (fun n s'=>∃ i σ' H',Inv X pins σ' H' s'∧tn i s'.heap∧(∀ b ∈ fp,H' b=none)∧W i n σ' H') ?_ m0 ⟨0,σ,H2,I2,st2,fun b hb=>(f2 b hb).1,w0⟩
 rintro n s3 ⟨i,σ3,H3,I3,st3,fr3,w3⟩
 rcases turn i n σ3 H3 w3 with ⟨stop,qn⟩ | ⟨go,N,hN,step⟩
 ·refine wpAny_passesOwn hp (thn (T.done X rfl rfl rfl hc i pins s3 σ3 H3 X.xe I3 (stat fr3) st3 stop) fun r s4 ⟨hr,I4⟩=>?_)
  subst hr; exact wpAny_execs_nil ⟨σ3,H3,I4,qn⟩
 ·refine wpAny_passesOwn hp (thn (T.item X rfl rfl rfl hc i pins s3 σ3 H3 X.xe I3 (stat fr3) st3 go) fun r s4 ⟨u,hr,h4⟩=>?_)
  subst hr
  refine wpAny_passesOwn hp (thn h4 fun _ s5 ⟨x,H5,I5,r5,y5,st5,fr5⟩=>?_)
  have I5':=I5.pinned (stat fr5) (T.obj _ _ st5)
  refine wpAny_passesOwn hp (thn (hg _ s5 σ3 H5 x u _ I5' r5 (step x H5 y5)) fun _ s6 ⟨σ6,H6,I6,q6⟩=>?_)
  refine wpAny_passesOwn hp (thn (hb _ s6 σ6 H6 _ I6 q6) fun f s7 q7=>?_)
  have again:∀ {σ7:St} {H7:Hp},Inv X (pins ++ zfk fp s5.heap) σ7 H7 s7→N σ7 H7→∃ m,m<n∧∃ i σ' H',Inv X pins σ' H' s7∧tn i s7.heap∧(∀ b ∈ fp,H' b=none)∧W i m σ' H':=fun {σ7 H7} I7 n7=>by
   obtain ⟨m',hm,w7⟩:=hN σ7 H7 n7
   refine ⟨m',hm,i+1,σ7,H7,I7.unpinned,T.keep _ _ _ st5 fun b hb o e=>(I7.pin (b,o) (List.mem_append_right _ (List.mem_append_right _ (zdg hb e)))).1,fun b hb=>?_,w7⟩
   obtain ⟨o,e,d⟩:=T.obj _ _ st5 b hb; exact (I7.pin (b,o) (List.mem_append_right _ (List.mem_append_right _ (zdg hb e)))).2.1
  cases f with
  | next=>obtain ⟨σ7,H7,I7,n7⟩:=q7; exact again I7 n7
  | cont=>obtain ⟨σ7,H7,I7,n7⟩:=q7; exact again I7 n7
  | brk=>obtain ⟨σ7,H7,I7,q7⟩:=q7; exact ⟨σ7,H7,I7.unpinned,q7⟩
  | ret v=>obtain ⟨x7,σ7,H7,I7,r7,q7⟩:=q7; exact ⟨x7,σ7,H7,I7.unpinned,r7,q7⟩
end
end L2
namespace L2
open PySem PySem.Spec PyProof.Rows
abbrev R2:=V→V→Hp→VK→Prop
def OpR (X:Cx) (f:Value→Value→Sem Value) (r:R2):Prop :=
 ∀ (pins:List (Addr × Obj)) (s:Shared) (σ:St) (H:Hp) (x y:V) (v u:Value) (Q:VK),Inv X pins σ H s→zbA x v→zbA y u→r x y H Q →
  wpAny (model X.prog X.w) X.A (f v u) (EP X pins σ Q) X.xe s
def UnR (X:Cx) (f:Value→Sem Value) (r:V→Hp→VK→Prop):Prop :=
 ∀ (pins:List (Addr × Obj)) (s:Shared) (σ:St) (H:Hp) (x:V) (v:Value) (Q:VK),Inv X pins σ H s→zbA x v→r x H Q →
  wpAny (model X.prog X.w) X.A (f v) (EP X pins σ Q) X.xe s
def zcy (X:Cx) (f:Value) (r:List V→Hp→VK→Prop):Prop :=
 ∀ (pins:List (Addr × Obj)) (s:Shared) (σ:St) (H:Hp) (xs:List V) (us:List Value) (Q:VK),Inv X pins σ H s→za5 xs us→r xs H Q →
  wpAny (model X.prog X.w) X.A (call f us) (EP X pins σ Q) X.xe s
def tOp (r:R2) (ta tb:TE):TE:=fun σ H Q=>ta σ H fun x H1=>tb σ H1 fun y H2=>r x y H2 Q
def tUn (r:V→Hp→VK→Prop) (ta:TE):TE:=fun σ H Q=>ta σ H fun x H1=>r x H1 Q
def rI (C:Int→Int→Prop) (g:Int→Int→V):R2:=fun x y H Q=>∃ i j,x=.int i∧y=.int j∧C i j∧Q (g i j) H
def rI0 (g:Int→Int→V):R2:=fun x y H Q=>∃ i j,x=.int i∧y=.int j∧Q (g i j) H
def rU (g:Int→V):V→Hp→VK→Prop:=fun x H Q=>∃ i,x=.int i∧Q (g i) H
section
variable {X:Cx} {a b c:Expr} {ta tb tc:TE} {pos:Pos}
theorem ztB (ha:PE X a ta) (hb:PE X b tb) {pins:List (Addr × Obj)} {s:Shared} {σ:St} {H:Hp} {R:V→V→Hp→Prop} (I:Inv X pins σ H s)
  (h:ta σ H fun x H1=>tb σ H1 fun y H2=>R x y H2) {Q:Value→Shared→Prop} {f:Value→Value→Sem Value}
  (hf:∀ v u s2 x y H2,Inv X pins σ H2 s2→zbA x v→zbA y u→R x y H2→wpAny (model X.prog X.w) X.A (f v u) Q X.xe s2) :
  wpAny (model X.prog X.w) X.A (eval a X.env) (fun v s₁=>wpAny (model X.prog X.w) X.A (eval b X.env) (fun u s₂=>wpAny (model X.prog X.w) X.A (f v u) Q X.xe s₂) X.xe s₁) X.xe s:=by
 refine thn (ha pins s σ H _ I h) fun v s1 ⟨x,H1,I1,r1,q1⟩=>?_
 refine thn (hb pins s1 σ H1 _ I1 q1) fun u s2 ⟨y,H2,I2,r2,q2⟩=>?_
 exact hf v u s2 x y H2 I2 r1 r2 q2
theorem zqn {op:Operator} {r:R2} (ho:OpR X (binaryOp op) r) (ha:PE X a ta) (hb:PE X b tb):PE X (.BinOp a op b pos) (tOp r ta tb):=by
 intro pins s σ H Q I h
 exact wpAny_BinOp (ztB ha hb I h fun v u s2 x y H2 I2 rx ry q=>ho pins s2 σ H2 x y v u Q I2 rx ry q)
theorem zsL {op:UnaryOp} {r:V→Hp→VK→Prop} (ho:UnR X (unaryOp op) r) (ha:PE X a ta):PE X (.UnaryOp op a pos) (tUn r ta):=by
 intro pins s σ H Q I h
 exact UnaryOp_ (thn (ha pins s σ H _ I h) fun v s1 ⟨x,H1,I1,r1,q1⟩=>ho pins s1 σ H1 x v Q I1 r1 q1)
theorem opI {f:Value→Value→Sem Value} {C:Int→Int→Prop} {g:Int→Int→Int}
  (rule:∀ (i j:Int) (t u:Tok) (s:Shared) (Q:Value→Shared→Prop) (E:Value→Shared→Prop),C i j→Q (.int (g i j) s.toks) { s with toks:=s.toks+1 }→wpAny (model X.prog X.w) X.A (f (.int i t) (.int j u)) Q E s) :
  OpR X f (rI C fun i j=>.int (g i j)):=by
 intro pins s σ H x y v u Q I rx ry h; obtain ⟨i,j,rfl,rfl,hc,q⟩:=h; obtain ⟨t,rfl⟩:=rx; obtain ⟨t',rfl⟩:=ry; exact rule i j t t' s _ _ hc ⟨.int (g i j),H,I.tok _,⟨_,rfl⟩,q⟩
theorem ztV {f:Value→Value→Sem Value} {g:Int→Int→Int}
  (rule:∀ (i j:Int) (t u:Tok) (s:Shared) (Q:Value→Shared→Prop) (E:Value→Shared→Prop),Q (.int (g i j) s.toks) { s with toks:=s.toks+1 }→wpAny (model X.prog X.w) X.A (f (.int i t) (.int j u)) Q E s) :
  OpR X f (rI0 fun i j=>.int (g i j)):=by
 intro pins s σ H x y v u Q I rx ry h; obtain ⟨i,j,rfl,rfl,q⟩:=h; obtain ⟨t,rfl⟩:=rx; obtain ⟨t',rfl⟩:=ry; exact rule i j t t' s _ _ ⟨.int (g i j),H,I.tok _,⟨_,rfl⟩,q⟩
theorem zsT {f:Value→Value→Sem Value} {g:Int→Int→Bool}
  (rule:∀ (i j:Int) (t u:Tok) (s:Shared) (Q:Value→Shared→Prop) (E:Value→Shared→Prop),Q (.bool (g i j)) s→wpAny (model X.prog X.w) X.A (f (.int i t) (.int j u)) Q E s) :
  OpR X f (rI0 fun i j=>.bl (g i j)):=by
 intro pins s σ H x y v u Q I rx ry h; obtain ⟨i,j,rfl,rfl,q⟩:=h; obtain ⟨t,rfl⟩:=rx; obtain ⟨t',rfl⟩:=ry; exact rule i j t t' s _ _ ⟨.bl (g i j),H,I,rfl,q⟩
def zjC (i j:Int):Prop:=0<j∧j<1073741824
def zjB (i j:Int):Prop:=0≤j∧j≤1000000∧i.natAbs<2 ^ 64
def zlt (i j:Int):Prop:=(-(2 ^ 64)<i∧i<2 ^ 64)∨(-(2 ^ 64)<j∧j<2 ^ 64)
theorem zlt.ok {i j:Int} (h:zlt i j):IntMulOk i j:=by
 rcases h with ⟨h1,h2⟩ | ⟨h1,h2⟩
 ·exact .of_left (intBits_le_64 h1 h2)
 ·exact .of_right (intBits_le_64 h1 h2)
theorem zqG:OpR X (binaryOp .Add) (rI0 fun i j=>.int (i+j)):=ztV fun _ _ _ _ _ _ _ q=>add_int q
theorem zqA:OpR X (binaryOp .Sub) (rI0 fun i j=>.int (i-j)):=ztV fun _ _ _ _ _ _ _ q=>sub_int q
theorem zqC:OpR X (binaryOp .Mult) (rI zlt fun i j=>.int (i * j)):=opI fun _ _ _ _ _ _ _ hc q=>mul_int q hc.ok
theorem zoH:OpR X (binaryOp .FloorDiv) (rI zjC fun i j=>.int (i / j)):=opI fun i j _ _ _ _ _ hc q=>by
 have h1:(0:Int)<j:=hc.1
 have h2:j<1073741824:=hc.2
 exact floordiv_int (by omega) (by rw [Int.fdiv_eq_ediv_of_nonneg i (by omega)]; exact q) (.inl (PyProof.noPylong_small (by omega)))
theorem zqD:OpR X (binaryOp .Mod) (rI (fun _ j=>0<j) fun i j=>.int (i % j)):=opI fun i j _ _ _ _ _ hc q=>by
 have h1:(0:Int)<j:=hc
 exact mod_int' (by omega) (by rw [Int.fmod_eq_emod_of_nonneg i (by omega)]; exact q)
theorem zqB:OpR X (binaryOp .Pow) (rI zjB fun i j=>.int (i ^ j.toNat)):=opI fun _ _ _ _ _ _ _ hc q=>pow_int_small hc.1 hc.2.1 hc.2.2 q
theorem unI {f:Value→Sem Value} {g:Int→Int}
  (rule:∀ (i:Int) (t:Tok) (s:Shared) (Q:Value→Shared→Prop) (E:Value→Shared→Prop),Q (.int (g i) s.toks) { s with toks:=s.toks+1 }→wpAny (model X.prog X.w) X.A (f (.int i t)) Q E s) :
  UnR X f (rU fun i=>.int (g i)):=by
 intro pins s σ H x v Q I rx h; obtain ⟨i,rfl,q⟩:=h; obtain ⟨t,rfl⟩:=rx; exact rule i t s _ _ ⟨.int (g i),H,I.tok _,⟨_,rfl⟩,q⟩
theorem zpC:UnR X (unaryOp .USub) (rU fun i=>.int (-i)):=unI fun _ _ _ _ _ q=>neg_int q
end
def znV:V→V→Bool
 | .non,.non=>true | .non,.int _=>true | .int _,.non=>true | .non,.bl _=>true | .bl _,.non=>true | .non,.str _=>true | .str _,.non=>true
 | .int _,.int _=>true | .bl _,.bl _=>true | .str _,.str _=>true | .byt _,.byt _=>true
 | .int _,.str _=>true | .str _,.int _=>true | .bl _,.str _=>true | .str _,.bl _=>true
 | _,_=>false
def rEq:R2:=fun x y H Q=>znV x y=true∧Q (.bl (decide (x=y))) H
def rNe:R2:=fun x y H Q=>znV x y=true∧Q (.bl (!decide (x=y))) H
theorem zk9 {i j:Int}:decide (V.int i=V.int j)=(i == j):=by
 rw [Bool.eq_iff_iff]; simp
theorem znF {i j:Bool}:decide (V.bl i=V.bl j)=(i == j):=by
 rw [Bool.eq_iff_iff]; simp
theorem zk8 {i j:Str}:decide (V.str i=V.str j)=(i == j):=by
 rw [Bool.eq_iff_iff]; simp
theorem zla {i j:Array UInt8}:decide (V.byt i=V.byt j)=(i.toList == j.toList):=by
 rw [Bool.eq_iff_iff]; cases i; cases j; simp
section
variable {X:Cx} {a b c:Expr} {ta tb tc:TE} {pos:Pos}
theorem zaV {pins:List (Addr × Obj)} {σ:St} {H:Hp} {s:Shared} {Q:VK} {k k':Bool} (I:Inv X pins σ H s) (q:Q (.bl k) H) (e:k=k'):EP X pins σ Q (.bool k') s:=by
 subst e; exact ⟨.bl k,H,I,rfl,q⟩
theorem zsS:OpR X (compareOp .Eq) rEq:=by
 intro pins s σ H x y v u Q I rx ry h; obtain ⟨hs,q⟩:=h
 cases x with
 | non =>
  cases rx
  cases y with
  | non=>cases ry; exact PySem.EqNone.eq_none_none (zaV I q (by simp))
  | bl j=>cases ry; exact PySem.EqNone.eq_none_bool (zaV I q (by simp))
  | int j=>obtain ⟨t',rfl⟩:=ry; exact PySem.EqNone.eq_none_int (zaV I q (by simp))
  | str j=>obtain ⟨t',rfl⟩:=ry; exact PySem.EqNone.eq_none_str (zaV I q (by simp))
  | _=>exact absurd (show false=true from hs) Bool.false_ne_true
 | bl i =>
  cases rx
  cases y with
  | non=>cases ry; exact PySem.EqNone.eq_bool_none (zaV I q (by simp))
  | bl j=>cases ry; exact eq_bool (zaV I q znF)
  | str j=>obtain ⟨t',rfl⟩:=ry; exact PySem.EqMixed.eq_bool_str (zaV I q (by simp))
  | _=>exact absurd (show false=true from hs) Bool.false_ne_true
 | int i =>
  obtain ⟨t,rfl⟩:=rx
  cases y with
  | non=>cases ry; exact PySem.EqNone.eq_int_none (zaV I q (by simp))
  | int j=>obtain ⟨t',rfl⟩:=ry; exact eq_int (zaV I q zk9)
  | str j=>obtain ⟨t',rfl⟩:=ry; exact PySem.EqMixed.eq_int_str (zaV I q (by simp))
  | _=>exact absurd (show false=true from hs) Bool.false_ne_true
 | str i =>
  obtain ⟨t,rfl⟩:=rx
  cases y with
  | non=>cases ry; exact PySem.EqNone.eq_str_none (zaV I q (by simp))
  | bl j=>cases ry; exact PySem.EqMixed.eq_str_bool (zaV I q (by simp))
  | int j=>obtain ⟨t',rfl⟩:=ry; exact PySem.EqMixed.eq_str_int (zaV I q (by simp))
  | str j=>obtain ⟨t',rfl⟩:=ry; exact eq_str (zaV I q zk8)
  | _=>exact absurd (show false=true from hs) Bool.false_ne_true
 | byt i =>
  obtain ⟨t,rfl⟩:=rx
  cases y with
  | byt j=>obtain ⟨t',rfl⟩:=ry; exact PySem.W.eq_bytes (zaV I q zla)
  | _=>exact absurd (show false=true from hs) Bool.false_ne_true
 | _=>cases y <;> exact absurd (show false=true from hs) Bool.false_ne_true
theorem zsO:OpR X (compareOp .NotEq) rNe:=by
 intro pins s σ H x y v u Q I rx ry h; obtain ⟨hs,q⟩:=h
 cases x with
 | non =>
  cases rx
  cases y with
  | non=>cases ry; exact PySem.EqNone.ne_none_none (zaV I q (by simp))
  | bl j=>cases ry; exact PySem.EqNone.ne_none_bool (zaV I q (by simp))
  | int j=>obtain ⟨t',rfl⟩:=ry; exact PySem.EqNone.ne_none_int (zaV I q (by simp))
  | str j=>obtain ⟨t',rfl⟩:=ry; exact PySem.EqNone.ne_none_str (zaV I q (by simp))
  | _=>exact absurd (show false=true from hs) Bool.false_ne_true
 | bl i =>
  cases rx
  cases y with
  | non=>cases ry; exact PySem.EqNone.ne_bool_none (zaV I q (by simp))
  | bl j=>cases ry; exact ne_bool (zaV I q (congrArg not znF))
  | str j=>obtain ⟨t',rfl⟩:=ry; exact PySem.EqMixed.ne_bool_str (zaV I q (by simp))
  | _=>exact absurd (show false=true from hs) Bool.false_ne_true
 | int i =>
  obtain ⟨t,rfl⟩:=rx
  cases y with
  | non=>cases ry; exact PySem.EqNone.ne_int_none (zaV I q (by simp))
  | int j=>obtain ⟨t',rfl⟩:=ry; exact ne_int (zaV I q (congrArg not zk9))
  | str j=>obtain ⟨t',rfl⟩:=ry; exact PySem.EqMixed.ne_int_str (zaV I q (by simp))
  | _=>exact absurd (show false=true from hs) Bool.false_ne_true
 | str i =>
  obtain ⟨t,rfl⟩:=rx
  cases y with
  | non=>cases ry; exact PySem.EqNone.ne_str_none (zaV I q (by simp))
  | bl j=>cases ry; exact PySem.EqMixed.ne_str_bool (zaV I q (by simp))
  | int j=>obtain ⟨t',rfl⟩:=ry; exact PySem.EqMixed.ne_str_int (zaV I q (by simp))
  | str j=>obtain ⟨t',rfl⟩:=ry; exact ne_str (zaV I q (congrArg not zk8))
  | _=>exact absurd (show false=true from hs) Bool.false_ne_true
 | byt i =>
  obtain ⟨t,rfl⟩:=rx
  cases y with
  | byt j=>obtain ⟨t',rfl⟩:=ry; exact PySem.W.ne_bytes (zaV I q (congrArg not zla))
  | _=>exact absurd (show false=true from hs) Bool.false_ne_true
 | _=>cases y <;> exact absurd (show false=true from hs) Bool.false_ne_true
theorem zsP:OpR X (compareOp .Lt) (rI0 fun i j=>.bl (decide (i<j))):=zsT fun _ _ _ _ _ _ _ q=>lt_int q
theorem zsQ:OpR X (compareOp .LtE) (rI0 fun i j=>.bl (decide (i≤j))):=zsT fun _ _ _ _ _ _ _ q=>le_int q
theorem zsR:OpR X (compareOp .Gt) (rI0 fun i j=>.bl (decide (j<i))):=zsT fun _ _ _ _ _ _ _ q=>gt_int q
theorem zkr:OpR X (compareOp .In) (fun x y H Q=>∃ i j,x=.str i∧y=.str j∧Q (.bl (!(Builtin.Str.occurrences j i 0 j.length 1).isEmpty)) H):=by
 intro pins s σ H x y v u Q I rx ry h; obtain ⟨i,j,rfl,rfl,q⟩:=h; obtain ⟨t,rfl⟩:=rx; obtain ⟨t',rfl⟩:=ry; exact in_str (zaV I q rfl)
theorem zqE:OpR X (compareOp .Is) (fun x y H Q=>y=.non∧Q (.bl (decide (x=.non))) H):=by
 intro pins s σ H x y v u Q I rx ry h; obtain ⟨rfl,q⟩:=h; cases ry; refine is_none_gen (zaV I q ?_)
 cases x <;> first
  | (cases rx; rfl)
  | (obtain ⟨t,rfl⟩:=rx; rfl)
theorem zoG:OpR X (compareOp .IsNot) (fun x y H Q=>y=.non∧Q (.bl (!decide (x=.non))) H):=by
 intro pins s σ H x y v u Q I rx ry h; obtain ⟨rfl,q⟩:=h; cases ry; refine isnot_none_gen (zaV I q ?_)
 cases x <;> first
  | (cases rx; rfl)
  | (obtain ⟨t,rfl⟩:=rx; rfl)
theorem zgo:OpR X (compareOp .NotIn) (fun x y H Q=>∃ i j,x=.str i∧y=.str j∧Q (.bl (!(!(Builtin.Str.occurrences j i 0 j.length 1).isEmpty))) H):=by
 intro pins s σ H x y v u Q I rx ry h; obtain ⟨i,j,rfl,rfl,q⟩:=h; obtain ⟨t,rfl⟩:=rx; obtain ⟨t',rfl⟩:=ry; exact notIn_str (zaV I q rfl)
theorem OpR.or {f:Value→Value→Sem Value} {r r':R2} (h:OpR X f r) (h':OpR X f r'):OpR X f (fun x y H Q=>r x y H Q∨r' x y H Q):=by
 intro pins s σ H x y v u Q I rx ry q
 rcases q with q | q
 ·exact h pins s σ H x y v u Q I rx ry q
 ·exact h' pins s σ H x y v u Q I rx ry q
theorem znk (b:Expr) {op:CmpOp} (h:op≠.In:=by decide) (h2:op≠.NotIn:=by decide):behindInMarks op b=false:=by
 have e1:(op == CmpOp.In)=false:=by cases op <;> first | rfl | exact absurd rfl h
 have e2:(op == CmpOp.NotIn)=false:=by cases op <;> first | rfl | exact absurd rfl h2
 cases b <;> simp [behindInMarks,e1,e2]
theorem zoz {op:CmpOp} {r:R2} (ho:OpR X (compareOp op) r) (ha:PE X a ta) (hb:PE X b tb) (hm:behindInMarks op b=false):PE X (.Compare a [op] [b] pos) (tOp r ta tb):=by
 intro pins s σ H Q I h
 exact wpAny_Compare1 (ztB ha hb I h fun v u s2 x y H2 I2 rx ry q=>ho pins s2 σ H2 x y v u Q I2 rx ry q) hm
def zsd (t:TE):TT:=fun σ H Q=>t σ H fun x H'=>∃ k,x=.bl k∧Q k H'
theorem zoc {op:CmpOp} {r:R2} (ho:OpR X (compareOp op) r) (ha:PE X a ta) (hb:PE X b tb) (hm:behindInMarks op b=false):PT X (.Compare a [op] [b] pos) (zsd (tOp r ta tb)):=by
 intro pins s σ H Q I h
 refine wpAny_isTrue_Compare1 (thn (ha pins s σ H _ I h) fun v s1 ⟨x,H1,I1,r1,q1⟩=>thn (hb pins s1 σ H1 _ I1 q1) fun u s2 ⟨y,H2,I2,r2,q2⟩ =>
  thn (ho pins s2 σ H2 x y v u _ I2 r1 r2 q2) fun c s3 ⟨z,H3,I3,r3,k,e,q3⟩=>?_) hm
 subst e; cases r3; exact wpAny_truthy_bool ⟨H3,I3,q3⟩
def zna (r r':R2) (ta tb tc:TE):TE:=fun σ H Q=>ta σ H fun x H1=>tb σ H1 fun y H2=>r x y H2 fun z H3=>∃ k,z=.bl k ∧
 (if k=true then tc σ H3 fun w' H4=>r' y w' H4 Q else Q (.bl false) H3)
theorem zmh {op op':CmpOp} {r r':R2} (ho:OpR X (compareOp op) r) (ho':OpR X (compareOp op') r') (ha:PE X a ta) (hb:PE X b tb) (hc:PE X c tc)
  (hm:lastMarks [op,op'] [b,c]=false:=by with_unfolding_all rfl):PE X (.Compare a [op,op'] [b,c] pos) (zna r r' ta tb tc):=by
 intro pins s σ H Q I h
 refine Compare_chain (thn (ha pins s σ H _ I h) fun v s1 ⟨x,H1,I1,r1,q1⟩=>chain_link (thn (hb pins s1 σ H1 _ I1 q1) fun u s2 ⟨y,H2,I2,r2,q2⟩ =>
  thn (ho pins s2 σ H2 x y v u _ I2 r1 r2 q2) fun d s3 ⟨z,H3,I3,r3,k,e,q3⟩=>?_)) hm
 subst e; cases r3; refine wpAny_truthy_bool ?_
 cases k with
 | false=>exact ite_ff ⟨.bl false,H3,I3,rfl,q3⟩
 | true=>exact ite_tt (chain_last (thn (hc pins s3 σ H3 _ I3 q3) fun w' s4 ⟨z',H4,I4,r4,q4⟩=>ho' pins s4 σ H4 y z' u w' Q I4 r2 r4 q4))
theorem zgA:(sizeLine:Nat)<2 ^ 63:=by rw [sizeLine_eq]; decide
theorem zi8:OpR X (binaryOp .Add) (fun x y H Q=>∃ i j,x=.str i∧y=.str j∧i.length+j.length≤sizeLine∧Q (.str (i ++ j)) H):=by
 intro pins s σ H x y v u Q I rx ry h; obtain ⟨i,j,rfl,rfl,hz,q⟩:=h; obtain ⟨t,rfl⟩:=rx; obtain ⟨t',rfl⟩:=ry
 exact add_str (fun t' tk=>⟨.str (i ++ j),H,I.tok _,⟨_,rfl⟩,q⟩) hz
theorem zcU {x:V} {us:List Value} (r:za5 [x] us):∃ u,us=[u]∧zbA x u:=by
 cases r with
 | cons r1 r2=>cases r2; exact ⟨_,rfl,r1⟩
theorem zpB {x y:V} {us:List Value} (r:za5 [x,y] us):∃ u w',us=[u,w']∧zbA x u∧zbA y w':=by
 cases r with
 | cons r1 r2 =>
  cases r2 with
  | cons r3 r4=>cases r4; exact ⟨_,_,rfl,r1,r3⟩
theorem zm6:zcy X (.builtin "abs") (fun xs H Q=>∃ i,xs=[.int i]∧Q (.int (if i<0 then -i else i)) H):=by
 intro pins s σ H xs us Q I r h; obtain ⟨i,rfl,q⟩:=h; obtain ⟨u,rfl,t,rfl⟩:=zcU r
 exact call_abs_int fun u tk=>⟨.int (if i<0 then -i else i),H,I.tok _,⟨_,rfl⟩,q⟩
theorem zlj:zcy X (.type "int") (fun xs H Q=>(∃ i,xs=[.int i]∧Q (.int i) H)∨∃ k,xs=[.bl k]∧Q (.int (if k then 1 else 0)) H):=by
 intro pins s σ H xs us Q I r h
 rcases h with ⟨i,rfl,q⟩ | ⟨k,rfl,q⟩
 ·obtain ⟨u,rfl,t,rfl⟩:=zcU r
  exact call_int_int ⟨.int i,H,I,⟨_,rfl⟩,q⟩
 ·obtain ⟨u,rfl,r1⟩:=zcU r
  cases r1
  exact call_int_bool ⟨.int (if k then 1 else 0),H,I.tok _,⟨_,rfl⟩,q⟩
theorem zgY:zcy X (.type "str") (fun xs H Q=>∃ i,xs=[.int i]∧i.natAbs.log2<1920∧Q (.str (toString i)) H):=by
 intro pins s σ H xs us Q I r h; obtain ⟨i,rfl,hz,q⟩:=h; obtain ⟨u,rfl,t,rfl⟩:=zcU r; exact PySem.P.str_of_int hz ⟨.str _,H,I.tok _,⟨_,rfl⟩,q⟩
end
end L2
namespace L2
open PySem PySem.Spec PyProof.Rows
structure ObjM (h:Heap) (x dx C:Addr) (mA:Str→Option Value):Prop where
 obj:h.get? x=some (PySem.W.instObj C dx)
 ns:h.Ns1 dx mA
 ne:dx≠x
theorem zgz {h:Heap} {dx:Addr} {mA:Str→Option Value} (n:h.Ns1 dx mA):∃ od,h.get? dx=some od∧∀ name,PySem.W.lookIn name od=some (mA name):=by
 obtain ⟨o,es,ep,ho,hd,hk,_,hm⟩:=n
 refine ⟨o,ho,fun name=>?_⟩
 have e:=hm name; unfold nsFind findBy at e; rw [← Array.find?_toList] at e; unfold PySem.W.lookIn; rw [hd]
 dsimp only
 split
 ·rename_i y q
  rw [q] at e; exact congrArg some e
 ·rename_i q
  rw [q] at e
  have a:es.toList.any (·.refKey)=false:=by
   rw [List.any_eq_false]; intro y hy; obtain ⟨z,t,hkey⟩:=hk y (Array.mem_toList_iff.mp hy); simp [DictEntry.refKey,hkey]
  have a':¬ es.toList.any (·.refKey)=true:=by rw [a]; exact Bool.false_ne_true
  rw [if_neg a']; exact congrArg some e
theorem ObjM.look {h:Heap} {x dx C:Addr} {mA:Str→Option Value} (I:ObjM h x dx C mA):∃ od,PySem.W.InstAt h x (PySem.W.instObj C dx) C (some od)∧∀ name,PySem.W.lookIn name od=some (mA name) :=
 let ⟨od,ho,hl⟩:=zgz I.ns
 ⟨od,⟨I.obj,rfl,rfl,ho⟩,hl⟩
section
variable {prog:Program} {w:World} {A:Around} {E:Value→Shared→Prop} {s:Shared} {K:PySem.W.Frag} {x dx C f:Addr} {mA:Str→Option Value} {name:Str} {v:Value}
theorem zpc {expr:Bool} {Q:Value→Shared→Prop} (X:K.In s.heap) (I:ObjM s.heap x dx C mA) (hg:PySem.W.plainGet K C name=true) (hh:PySem.W.hasDictIn K C=true)
  (ha:PySem.W.findIn K (.ref C) name=some none) (hv:mA name=some v) (hv':PySem.W.handedIn v=true) (h:Q v { s with toks:=s.toks+1 }) :
  wpAny (model prog w) A (getAttr (.ref x) name expr) Q E s:=by
 obtain ⟨od,J,hl⟩:=I.look
 exact PySem.W.get_value X J (PySem.W.plainGet_of hg).1 (PySem.W.findObj_own hh ha rfl (by rw [hl,hv])) hv' h
theorem zmU {pl:Sem Bool} {Q:Value × List Value→Shared→Prop} (X:K.In s.heap) (I:ObjM s.heap x dx C mA) (hg:PySem.W.plainGet K C name=true)
  (hf:PySem.W.findIn K (.ref C) name=some (some (.ref f))) (ht:PySem.W.isFn K (.ref f)=true) (hv:mA name=none) (h:Q (.ref f,[.ref x]) s) :
  wpAny (model prog w) A (getMethod (.ref x) name pl) Q E s:=by
 obtain ⟨od,J,hl⟩:=I.look
 exact PySem.W.method_fn X J (PySem.W.plainGet_of hg).1 (PySem.W.plainGet_of hg).2 hf (beq_iff_eq.mp ht) (by show (PySem.W.lookIn name od).map (·.isSome)=some false; rw [hl,hv]; rfl) h
theorem znU {ns:List Str} {Q:Unit→Shared→Prop} (X:K.In s.heap) (I:ObjM s.heap x dx C mA)
  (hs:PySem.W.findIn K (.ref C) "__setattr__"=some (some (.builtin "object.__setattr__"))) (hp:PySem.W.plainOver K C=true) (ht:PySem.W.takerIn K C name=some none) (hh:PySem.W.hasDictIn K C=true)
  (hw:PySem.Within mA ns) (hsz:ns.length≤sizeLine)
  (h:∀ h',ObjM h' x dx C (fun y=>if y=name then some v else mA y)→Heap.SameBut dx s.heap h'→Q () { s with heap:=h',toks:=s.toks+2 }) :
  wpAny (model prog w) A (setAttr (.ref x) name v) Q E s:=by
 obtain ⟨od,J,hl⟩:=I.look
 refine PySem.W.set_plain X J hs (PySem.W.osa_open (s:={ s with toks:=s.toks+1 }) (r:=none) X J hp ht fun b=>?_)
 obtain ⟨cd,hc,hd'⟩:=PySem.W.any_some hh
 have hx:s.heap.get? x=some ⟨.ref C,some dx,.plain,#[]⟩:=I.obj
 refine wpAny_bind (wpAny_pure (wpAny_bind (wpAny_bind (wpAny_loadPart hx (wpAny_bind (PySem.W.Looks.here (s:={ s with toks:=s.toks+1 }) (PySem.W.looks_clsIn X hc) ?_))))))
 rw [hd']; refine wpAny_pure (a:=some dx) (wpAny_bind (wpAny_pure (wpAny_bind ?_)))
 refine wpAny_nsSet1 (s:={ s with toks:=s.toks+1 }) I.ns fun h' hn2 hs2=>?_
 obtain ⟨oD,esD,epD,hoD,hdD,hcD⟩:=hn2.count (PySem.Within.cons name v hw)
 refine wpAny_bind (wpAny_lookBehind hoD (by rw [hdD]; exact pastItsLine_dict (Nat.le_trans hcD (by rw [List.length_cons]; omega))) ?_)
 exact wpAny_pure (h _ ⟨(hs2.2 _ (Ne.symm I.ne)).trans I.obj,hn2,I.ne⟩ hs2)
theorem zmw {R:Result→Shared→Prop} {vs:List Value} {kw:List (Str × Value)} (X:K.In s.heap) (hm:PySem.W.makesIn K C=true)
  (hi:PySem.W.findIn K (.ref C) "__init__"=some (some (.ref f))) (hf:PySem.W.typeIn K (.ref f)=some (.type "function"))
  (h:codeAny (model prog w) (A.under (.builtin "type.__call__" ⟨.ref C :: vs,kw⟩)) (.call (.ref f) ⟨.ref (s.heap.objs.size+1) :: vs,kw⟩) (PySem.W.InitBack (s.heap.objs.size+1) R)
   { s with heap:=(s.heap.push PySem.W.emptyDict).push (PySem.W.instObj C s.heap.objs.size) }) :
  codeAny (model prog w) A (.call (.ref C) ⟨vs,kw⟩) R s:=by
 obtain ⟨hh,g,d,t,os⟩:=s
 exact PySem.W.make_core (PySem.W.makes_of X hm) (PySem.W.looks_findIn X hi) (fun self=>PySem.W.bind_fn X self hf) (.inl rfl) h
end
def zdv (f:Str) (v:V):List (Str × V)→List (Str × V)
 | []=>[(f,v)]
 | (g,x) :: r=>if g=f then (g,v) :: r else (g,x) :: zdv f v r
theorem zeP (f g:Str) (v:V):∀ fs:List (Str × V),(zdv f v fs).lookup g=if g=f then some v else fs.lookup g
 | []=>by
  show List.lookup g [(f,v)]=_
  by_cases h:g=f
  ·have hb:(g == f)=true:=beq_iff_eq.mpr h
   simp only [List.lookup,hb,if_pos h]
  ·have hb:(g == f)=false:=beq_eq_false_iff_ne.mpr h
   simp only [List.lookup,hb,if_neg h]
 | (k,x) :: r=>by
  have ih:=zeP f g v r
  rw [show zdv f v ((k,x) :: r)=(if k=f then (k,v) :: r else (k,x) :: zdv f v r) from rfl]
  by_cases hk:k=f
  ·rw [if_pos hk]
   by_cases h:g=k
   ·have hb:(g == k)=true:=beq_iff_eq.mpr h
    simp only [List.lookup,hb,if_pos (h.trans hk)]
   ·have hb:(g == k)=false:=beq_eq_false_iff_ne.mpr h
    simp only [List.lookup,hb,if_neg (fun e:g=f=>h (e.trans hk.symm))]
  ·rw [if_neg hk]
   by_cases h:g=k
   ·have hb:(g == k)=true:=beq_iff_eq.mpr h
    simp only [List.lookup,hb,if_neg (fun e:g=f=>hk (h.symm.trans e))]
   ·have hb:(g == k)=false:=beq_eq_false_iff_ne.mpr h
    simp only [List.lookup,hb]; exact ih
theorem zeS (f:Str) (v:V):∀ fs:List (Str × V),f ∈ (zdv f v fs).map (·.1)∧∀ g,g ∈ fs.map (·.1)→g ∈ (zdv f v fs).map (·.1)
 | []=>⟨by simp [zdv],fun g h=>by simp at h⟩
 | (k,x) :: r=>by
  obtain ⟨i1,i2⟩:=zeS f v r
  rw [show zdv f v ((k,x) :: r)=(if k=f then (k,v) :: r else (k,x) :: zdv f v r) from rfl]
  by_cases hk:k=f
  ·rw [if_pos hk]
   subst hk
   exact ⟨by simp,fun g h=>by simpa using h⟩
  ·rw [if_neg hk]
   refine ⟨?_,fun g h=>?_⟩
   ·rw [List.map_cons]
    exact List.mem_cons_of_mem _ i1
   ·rw [List.map_cons] at h ⊢
    rcases List.mem_cons.mp h with e | e
    ·exact List.mem_cons.mpr (.inl e)
    ·exact List.mem_cons_of_mem _ (i2 g e)
theorem zeR (f:Str) (v:V):∀ fs:List (Str × V),(zdv f v fs).length≤fs.length+1
 | []=>by simp [zdv]
 | (k,x) :: r=>by
  have ih:=zeR f v r
  rw [show zdv f v ((k,x) :: r)=(if k=f then (k,v) :: r else (k,x) :: zdv f v r) from rfl]
  by_cases hk:k=f
  ·rw [if_pos hk,List.length_cons,List.length_cons]; omega
  ·rw [if_neg hk,List.length_cons,List.length_cons]; omega
theorem zf2.some_of {v:V} {o:Option Value} (r:zf2 (some v) o):∃ u,o=some u∧zbA v u:=by
 cases o with
 | none=>exact (show False from r).elim
 | some u=>exact ⟨u,rfl,r⟩
theorem zf2.none_of {o:Option Value} (r:zf2 none o):o=none:=by
 cases o with
 | none=>rfl
 | some u=>exact (show False from r).elim
theorem zgH {v:V} {u:Value} (r:zbA v u):PySem.W.handedIn u=true:=by
 cases v with
 | non=>cases (show u=Value.none from r); rfl
 | bl b=>cases (show u=Value.bool b from r); rfl
 | int i=>obtain ⟨t,e⟩:=(show ∃ t,u=Value.int i t from r); cases e; rfl
 | str x=>obtain ⟨t,e⟩:=(show ∃ t,u=Value.str x t from r); cases e; rfl
 | byt b=>obtain ⟨t,e⟩:=(show ∃ t,u=Value.bytes b t from r); cases e; rfl
 | flt b=>obtain ⟨t,e⟩:=(show ∃ t,u=Value.float b t from r); cases e; rfl
 | ref a=>cases (show u=Value.ref a from r); rfl
 | ty n=>cases (show u=Value.type n from r); rfl
section
variable {P:Program} {w:World} {H H':Hp} {h h':Heap} {a C dx:Addr} {fs fs':List (Str × V)}
theorem zfQ (hok:HOk P w H h) (e:H a=some (.ins C dx fs)):∃ mA,ObjM h a dx C mA∧(∀ f,zf2 (fs.lookup f) (mA f))∧PySem.Within mA (fs.map (·.1))∧fs.length≤1000∧H dx=some (.own a):=by
 obtain ⟨d,z,ne,ob,mA,n,r,q⟩:=(show zbG P w H h a (.ins C dx fs) from hok a _ e)
 exact ⟨mA,⟨ob,n,ne⟩,r,q,z,d⟩
end
structure Cls (K:PySem.W.Frag) (C:Addr):Prop where
 pg:PySem.W.plainGet K C Str.empty=true
 hd:PySem.W.hasDictIn K C=true
 po:PySem.W.plainOver K C=true
 sa:PySem.W.findIn K (.ref C) "__setattr__"=some (some (.builtin "object.__setattr__"))
theorem Cls.get {K:PySem.W.Frag} {C:Addr} (c:Cls K C) (f:Str):PySem.W.plainGet K C f=true:=c.pg
def zaX (K:PySem.W.Frag) (C:Addr) (f:Str):Prop:=PySem.W.findIn K (.ref C) f=some none
theorem zaX.taker {K:PySem.W.Frag} {C:Addr} {f:Str} (n:zaX K C f):PySem.W.takerIn K C f=some none:=by
 unfold PySem.W.takerIn
 rw [show PySem.W.findIn K (.ref C) f=some none from n]
 rfl
structure Meth (K:PySem.W.Frag) (C:Addr) (m:Str) (f:Addr):Prop where
 at_:PySem.W.findIn K (.ref C) m=some (some (.ref f))
 fn:PySem.W.isFn K (.ref f)=true
 kp:PySem.W.keepIn K (.ref f)=true
section
variable {X:Cx} {pins:List (Addr × Obj)} {σ:St} {H:Hp} {s:Shared} {a C dx:Addr} {fs:List (Str × V)} {f:Str} {v:V} {A:Around} {E:Value→Shared→Prop}
theorem zfn {b:Bool} {Q:Value→Shared→Prop} (I:Inv X pins σ H s) (e:H a=some (.ins C dx fs)) (c:Cls X.K C) (n:zaX X.K C f) (l:fs.lookup f=some v)
  (h:∀ u s',Inv X pins σ H s'→zbA v u→Q u s'):wpAny (model X.prog X.w) A (getAttr (.ref a) f b) Q E s:=by
 obtain ⟨mA,O,r,_,_,_⟩:=zfQ I.hok e
 obtain ⟨u,hu,ru⟩:=zf2.some_of (v:=v) (o:=mA f) (by rw [← l]; exact r f)
 exact zpc I.kIn O (c.get f) c.hd n hu (zgH ru) (h u _ (I.tok _) ru)
theorem zfm {m:Str} {g:Addr} {pl:Sem Bool} {Q:Value × List Value→Shared→Prop} (I:Inv X pins σ H s) (e:H a=some (.ins C dx fs)) (c:Cls X.K C) (k:Meth X.K C m g) (l:fs.lookup m=none)
  (h:Q (.ref g,[.ref a]) s):wpAny (model X.prog X.w) A (getMethod (.ref a) m pl) Q E s:=by
 obtain ⟨mA,O,r,_,_,_⟩:=zfQ I.hok e
 have hn:mA m=none:=zf2.none_of (by rw [← l]; exact r m)
 exact zmU I.kIn O (c.get m) k.at_ k.fn hn h
theorem ziS {y:V} {u:Value} {Q:Unit→Shared→Prop} (I:Inv X pins σ H s) (e:H a=some (.ins C dx fs)) (c:Cls X.K C) (n:zaX X.K C f) (hl:fs.length<1000) (ry:zbA y u)
  (h:∀ s',Inv X pins σ (upd H a (.ins C dx (zdv f y fs))) s'→Q () s'):wpAny (model X.prog X.w) A (setAttr (.ref a) f u) Q E s:=by
 obtain ⟨mA,O,r,wi,_,ho⟩:=zfQ I.hok e
 have hz:(fs.map (·.1)).length≤sizeLine:=by rw [List.length_map,sizeLine_eq]; omega
 refine znU I.kIn O c.sa c.po n.taker c.hd wi hz fun h' O' sb=>h _ ?_
 have hd:∃ o,h'.get? dx=some o:=let ⟨o,_,_,e',_⟩:=O'.ns; ⟨o,e'⟩
 refine I.write (x:=a) (e:=dx) (by rw [e]; exact True.intro) (.inr ho) (fun b q hb z=>(sb.2 b hb).trans z) hd ?_
 refine ⟨by rw [zo O.ne]; exact ho,?_,O.ne,O'.obj,_,O'.ns,fun g=>?_,fun g hg=>?_⟩
 ·have:=zeR f y fs; omega
 ·show zf2 ((zdv f y fs).lookup g) (if g=f then some u else mA g)
  rw [zeP]
  by_cases q:g=f
  ·rw [if_pos q,if_pos q]; exact ry
  ·rw [if_neg q,if_neg q]; exact r g
 ·by_cases q:g=f
  ·rw [q]; exact (zeS f y fs).1
  ·refine (zeS f y fs).2 g (wi g fun z=>hg ?_)
   show (if g=f then some u else mA g)=none
   rw [if_neg q]; exact z
theorem Inv.made (I:Inv X pins σ H s):Inv X pins σ (upd (upd H s.heap.objs.size (.own (s.heap.objs.size+1))) (s.heap.objs.size+1) (.ins C s.heap.objs.size []))
  { s with heap:=(s.heap.push PySem.W.emptyDict).push (PySem.W.instObj C s.heap.objs.size) }:=by
 have e1:(s.heap.push PySem.W.emptyDict).get? s.heap.objs.size=some PySem.W.emptyDict:=Heap.get?_push_size s.heap rfl
 have e2:((s.heap.push PySem.W.emptyDict).push (PySem.W.instObj C s.heap.objs.size)).get? (s.heap.objs.size+1)=some (PySem.W.instObj C s.heap.objs.size):=by
  have:=Heap.get?_push_size (s.heap.push PySem.W.emptyDict) (o:=PySem.W.instObj C s.heap.objs.size) rfl
  rwa [Heap.size_push] at this
 have e3:(s.heap.push PySem.W.emptyDict).Ns s.heap.objs.size (fun _=>none):=⟨PySem.W.emptyDict,#[],_,e1,rfl,(fun e he=>absurd he (by simp)),fun _=>rfl⟩
 have I1:=I.laid (a:=s.heap.objs.size) (o:=.own (s.heap.objs.size+1)) (h':=s.heap.push PySem.W.emptyDict) (t':=s.toks) (fun b u q=>Heap.get?_push_of_some _ q) (Nat.le_refl _) ⟨_,e1⟩
 refine I1.laid (a:=s.heap.objs.size+1) (o:=.ins C s.heap.objs.size []) (t':=s.toks) (fun b u q=>Heap.get?_push_of_some _ q) (Nat.le_of_eq (Heap.size_push _ _)) ?_
 have ne:s.heap.objs.size≠s.heap.objs.size+1:=Nat.ne_of_lt (Nat.lt_succ_self _)
 refine ⟨by rw [zo ne,zh],Nat.zero_le _,ne,e2,fun _=>none,(Heap.Ns1.of_empty e3).at fun o q=>Heap.get?_push_of_some _ q,fun _=>True.intro,fun y hy=>absurd rfl hy⟩
theorem zln {prog:Program} {w:World} {env:Env} {e:Expr} {f:Str} {pos:Pos} {s:Shared} {Q:Value→Shared→Prop} (hb:attributeBase e f env (eval e env)=eval e env)
  (h:wpAny (model prog w) A (eval e env) (fun o s₁=>wpAny (model prog w) A (getAttr o f true) Q E s₁) E s):wpAny (model prog w) A (eval (.Attribute e f pos) env) Q E s :=
 Attribute_any_ h (by rw [arm_eval_Attribute,hb])
end
def zuh (K:PySem.W.Frag) (ta:TE) (f:Str):TE:=fun σ H Q=>ta σ H fun x H1=>∃ a C dx fs v,x=.ref a∧H1 a=some (.ins C dx fs)∧Cls K C∧zaX K C f∧fs.lookup f=some v∧Q v H1
def zun (K:PySem.W.Frag) (ta tv:TE) (f:Str):TS:=fun D σ H=>tv σ H fun y H1=>ta σ H1 fun x H2=>∃ a C dx fs,x=.ref a∧H2 a=some (.ins C dx fs)∧Cls K C∧zaX K C f∧fs.length<1000 ∧
 D.nx σ (upd H2 a (.ins C dx (zdv f y fs)))
section
variable {X:Cx} {o e value:Expr} {f:Str} {pos pos' tpos:Pos} {ta tv:TE}
theorem zqv (he:PE X e ta) (hb:attributeBase e f X.env (eval e X.env)=eval e X.env):PE X (.Attribute e f pos) (zuh X.K ta f):=by
 intro pins s σ H Q I h
 refine zln hb (thn (he pins s σ H _ I h) fun u s1 ⟨x,H1,I1,rx,a,C,dx,fs,v,ex,ea,c,n,l,q⟩=>?_)
 subst ex
 obtain rfl:u=Value.ref a:=rx
 exact zfn I1 ea c n l fun u' s2 I2 ru=>⟨v,H1,I2,ru,q⟩
theorem zc6 (ha:PE X o ta) (hv:PE X value tv) (hs:swapsWith value (some (.Attribute o f pos')) pos.line X.env=pure false):PS X (.Assign [.Attribute o f pos'] value pos) (zun X.K ta tv f):=by
 intro pins s σ H D I h
 refine plainObj_wpAny_Assign_Attribute (thn (hv pins s σ H _ I h) fun u s1 ⟨y,H1,I1,ry,q⟩=>thn (ha pins s1 σ H1 _ I1 q) fun ov s2 ⟨x,H2,I2,rx,a,C,dx,fs,ex,ea,c,n,l,q2⟩=>?_) hs
 subst ex
 obtain rfl:ov=Value.ref a:=rx
 exact ziS I2 ea c n l ry fun s3 I3=>⟨σ,_,I3,q2⟩
end
section
variable {X:Cx} {pins:List (Addr × Obj)} {σ:St} {H:Hp} {s:Shared} {A:Around} {E:Value→Shared→Prop} {Q:Value→Shared→Prop} {c:Value} {b:Bool}
end
end L2
namespace L2
open PySem PySem.Spec PyProof.Rows
structure Room (k:Nat) (A:Around):Prop where
 hd:A.handled=none
 dp:A.depth+3 * k+5<recursionLimit
 un:A.units+16 * k+200<cLine
theorem Room.mono {j k:Nat} {A:Around} (r:Room k A) (h:j≤k):Room j A:=⟨r.hd,by have:=r.dp; omega,by have:=r.un; omega⟩
theorem Room.deeper {k:Nat} {A:Around} (r:Room (k+1) A) (env:Env):Room k (A.deeper env) :=
 ⟨r.hd,by have:=r.dp; show A.depth+1+3 * k+5<_; omega,by have:=r.un; show A.units+3+16 * k+200<_; omega⟩
theorem Room.in1 {k:Nat} {A:Around} (r:Room (k+1) A):Room k A.in1 :=
 ⟨r.hd,by have:=r.dp; show A.depth+3 * k+5<_; omega,by have:=r.un; show A.units+1+16 * k+200<_; omega⟩
theorem zje {A:Around} {C:Addr} {us:List Value} {kw:List (Str × Value)}:(A.under (.builtin "type.__call__" ⟨.ref C :: us,kw⟩)).depth=A.depth+1:=by
 first | rfl | simp [Around.under,Code.weight,Code.isCreation,Code.isGuard,Code.isCaller,Code.frames,Code.isFrame,guardIds]
theorem zjd {A:Around} {C:Addr} {us:List Value} {kw:List (Str × Value)}:(A.under (.builtin "type.__call__" ⟨.ref C :: us,kw⟩)).units=A.units+1:=by
 first | rfl | simp [Around.under,Code.cUnits,Code.frames,Code.isFrame]
theorem Room.make {k:Nat} {A:Around} (r:Room (k+1) A) (C:Addr) (us:List Value) (kw:List (Str × Value)):Room k (A.under (.builtin "type.__call__" ⟨.ref C :: us,kw⟩)) :=
 ⟨r.hd,by have:=r.dp; rw [zje]; omega,by have:=r.un; rw [zjd]; omega⟩
theorem Room.depth {k:Nat} {A:Around} (r:Room k A):A.depth<recursionLimit:=by have:=r.dp; omega
theorem Room.units {k:Nat} {A:Around} (r:Room k A):A.units+64<cLine:=by have:=r.un; omega
def zsg:TA:=fun _ H Q=>Q [] H
def zpM (ta:TE) (tr:TA):TA:=fun σ H Q=>ta σ H fun x H1=>tr σ H1 fun xs H2=>Q (x :: xs) H2
section
variable {X:Cx} {e:Expr} {es:List Expr} {te:TE} {t:TA} {pos:Pos}
theorem zii:PA X [] zsg:=fun _ _ _ _ H Q I h=>Calls.spliced_nil ⟨[],H,I,.nil,h⟩
theorem zeJ (ha:PE X e te) (hr:PA X es t) (hs:starEach (e :: es) X.env=(false,eval e X.env) :: starEach es X.env:=by rfl):PA X (e :: es) (zpM te t):=by
 intro pos pins s σ H Q I h; rw [hs]
 show wpAny _ _ (spliced ((false,eval e X.env) :: backTo pos (starEach es X.env))) _ _ s
 refine Calls.spliced_cons (thn (ha pins s σ H _ I h) fun u s1 ⟨x,H1,I1,r1,q1⟩=>?_)
 exact thn (hr pos pins s1 σ H1 _ I1 q1) fun us s2 ⟨xs,H2,I2,r2,q2⟩=>⟨x :: xs,H2,I2,.cons r1 r2,q2⟩
def zt9 (t:TA):TE:=fun σ H Q=>t σ H fun xs H1=>xs.length≤sizeLine∧∀ p,H1 p=none→Q (.ref p) (upd H1 p (.tup xs))
def zud (t:TA):TE:=fun σ H Q=>t σ H fun xs H1=>xs.length≤sizeLine∧∀ p,H1 p=none→Q (.ref p) (upd H1 p (.lst xs))
theorem zql {x1} (h:PA X es t):PE X (.Tuple es x1 pos) (zt9 t):=by
 intro pins s σ H Q I hq
 refine wpAny_Tuple_spliced (thn (h pos pins s σ H _ I hq) fun us s1 ⟨xs,H1,I1,r,z,q⟩=>⟨by rw [← r.length]; exact z,?_⟩)
 have hf:H1 s1.heap.objs.size=none:=I1.hok.fresh (Nat.le_refl _)
 refine ⟨.ref s1.heap.objs.size,upd H1 s1.heap.objs.size (.tup xs),I1.laid (t':=s1.toks) (fun b u e=>Heap.get?_push_of_some _ e) (Nat.le_refl _) ?_,rfl,q _ hf⟩
 exact ⟨z,us,r,⟨_,Heap.get?_push_size _ rfl,rfl,_,rfl⟩⟩
theorem znh (h:PA X es t):PE X (.List es pos) (zud t):=by
 intro pins s σ H Q I hq
 refine wpAny_List_spliced (thn (h pos pins s σ H _ I hq) fun us s1 ⟨xs,H1,I1,r,z,q⟩=>⟨by rw [← r.length]; exact z,?_⟩)
 have hf:H1 s1.heap.objs.size=none:=I1.hok.fresh (Nat.le_refl _)
 refine ⟨.ref s1.heap.objs.size,upd H1 s1.heap.objs.size (.lst xs),I1.laid (t':=s1.toks) (fun b u e=>Heap.get?_push_of_some _ e) (Nat.le_refl _) ?_,rfl,q _ hf⟩
 exact ⟨z,us,0,r,Heap.get?_push_size _ rfl⟩
end
abbrev Sp:=List V→Hp→VK→XK→Prop
abbrev CXT:=List Env→Hp→Shared→XK→Value→Shared→Prop
structure Env0 (P:Program) (w:World) (K:PySem.W.Frag) (mg:Str→Option Value) (base:Heap) (A:Around) (outer:List Env) (s:Shared) (H:Hp):Prop where
 frames:A.frames=some outer
 mod:Mod K mg base
 bs:∀ b o,base.get? b=some o→s.heap.get? b=some o∧H b=none
 bsz:base.objs.size≤s.heap.objs.size
 funs:s.heap.FunFrames base outer
 frf:∀ b ∈ frs outer,H b=none
 hok:HOk P w H s.heap
 bare:AllBare s.gens
 tab:zjw base H
def CE (outer:List Env) (P:Program) (w:World) (H:Hp) (s:Shared) (Q:VK) (u:Value) (s':Shared):Prop :=
 ∃ v H',s'.os=s.os∧AllBare s'.gens∧Un (frs outer) [] H H' s.heap s'.heap∧HOk P w H' s'.heap∧zbA v u∧Q v H'
def CR (CX:CXT) (outer:List Env) (P:Program) (w:World) (H:Hp) (s:Shared) (Q:VK) (E:XK) (r:Result) (s':Shared):Prop :=
 match r with
 | .ok (.ret u)=>CE outer P w H s Q u s'
 | .ok _=>False
 | .error e=>CX outer H s E e s'
structure FnOk (P:Program) (w:World) (K:PySem.W.Frag) (mg:Str→Option Value) (base:Heap) (CX:CXT) (k:Nat) (f:Addr) (fd:FuncData) (ps:List Str) (sp:Sp):Prop where
 len:∀ vs H Q E,sp vs H Q E→vs.length=ps.length
 run:∀ (A:Around) (outer:List Env) (s:Shared) (H:Hp) (args:Args) (us:List Value) (vs:List V) (Q:VK) (E:XK),Room k A→Env0 P w K mg base A outer s H→BindsTo s fd args (ps.zip us)→za5 vs us→sp vs H Q E →
  codeAny (model P w) A (.call (.ref f) args) (CR CX outer P w H s Q E) s
theorem FnOk.imp {P:Program} {w:World} {K:PySem.W.Frag} {mg:Str→Option Value} {base:Heap} {CX:CXT} {k:Nat} {f:Addr} {fd:FuncData} {ps:List Str} {sp sp':Sp} (F:FnOk P w K mg base CX k f fd ps sp)
  (h:∀ vs H Q E,sp' vs H Q E→sp vs H Q E):FnOk P w K mg base CX k f fd ps sp' :=
 ⟨fun vs H Q E q=>F.len vs H Q E (h _ _ _ _ q),fun A outer s H args us vs Q E hr he hb hv hs=>F.run A outer s H args us vs Q E hr he hb hv (h _ _ _ _ hs)⟩
theorem Env0.make {P:Program} {w:World} {K:PySem.W.Frag} {mg:Str→Option Value} {base:Heap} {A:Around} {outer:List Env} {s:Shared} {H:Hp} (e:Env0 P w K mg base A outer s H) (C:Addr) (us:List Value) (kw:List (Str × Value)) :
  Env0 P w K mg base (A.under (.builtin "type.__call__" ⟨.ref C :: us,kw⟩)) outer s H:=⟨by first | exact e.frames | (simpa [Around.under,Code.envs,Code.isFrame,pushEnvs] using e.frames),e.mod,e.bs,e.bsz,e.funs,e.frf,e.hok,e.bare,e.tab⟩
theorem Env0.in1 {P:Program} {w:World} {K:PySem.W.Frag} {mg:Str→Option Value} {base:Heap} {A:Around} {outer:List Env} {s:Shared} {H:Hp} (e:Env0 P w K mg base A outer s H) :
  Env0 P w K mg base A.in1 outer s H:=⟨e.frames,e.mod,e.bs,e.bsz,e.funs,e.frf,e.hok,e.bare,e.tab⟩
section
variable {X:Cx} {pins:List (Addr × Obj)} {σ:St} {H:Hp} {s s':Shared}
theorem Inv.env0 (I:Inv X pins σ H s):Env0 X.prog X.w X.K X.mg X.base X.A X.stack s H :=
 ⟨I.ok.frames,I.ok.mod,I.bs,Nat.le_trans I.ok.bsz I.sz,I.stack,I.stkFree,I.hok,I.bare,I.ok.tab.un I.base.tbls⟩
theorem Inv.after {Q:VK} {u:Value} (I:Inv X pins σ H s) (h:CE X.stack X.prog X.w H s Q u s'):EP X pins σ Q u s':=by
 obtain ⟨v,H',os,bare,un,hok,r,q⟩:=h; obtain ⟨hh,g,d,t,os'⟩:=s'
 obtain rfl:os'=s.os:=os
 exact ⟨v,H',I.call (h':=hh) (g':=g) (d':=d) (t':=t) (ch:=[]) un hok bare (fun b z=>absurd z (by simp)),r,q⟩
end
def zsn (sp:Sp) (dvs:List V) (E:XK) (t:TA):TE:=fun σ H Q=>t σ H fun vs H1=>sp (vs ++ dvs) H1 Q E
def zpJ (C:Addr) (m:Str) (sp:Sp) (dvs:List V) (E:XK) (ta:TE) (t:TA):TE:=fun σ H Q=>ta σ H fun x H1=>∃ a dx fs,x=.ref a∧H1 a=some (.ins C dx fs)∧fs.lookup m=none ∧
 t σ H1 fun vs H2=>sp (x :: (vs ++ dvs)) H2 Q E
def zsi (C:Addr) (sp:Sp) (dvs:List V) (E:XK) (t:TA):TE:=fun σ H Q=>t σ H fun vs H1=>∀ x dx,H1 x=none→H1 dx=none→dx≠x →
 sp (.ref x :: (vs ++ dvs)) (upd (upd H1 dx (.own x)) x (.ins C dx [])) (fun v H2=>v=.non∧Q (.ref x) H2) E
def zb1 (K:PySem.W.Frag) (fd:FuncData) (ps:List Str) (ds:List Value):Prop :=
 ∀ (s:Shared) (us:List Value),K.In s.heap→(us ++ ds).length=ps.length→BindsTo s fd ⟨us,[]⟩ (ps.zip (us ++ ds))
theorem zb1.all {K:PySem.W.Frag} {fd:FuncData} {ps:List Str} (h:∀ us:List Value,us.length=ps.length→bindArgs fd ⟨us,[]⟩=pure (ps.zip us)):zb1 K fd ps []:=fun s us _ hl=>by
 rw [List.append_nil] at hl ⊢; exact .of_eq (h us hl)
def ze3 (CX:CXT) (X:Cx) (E:XK):Prop:=∀ (pins:List (Addr × Obj)) (σ:St) (H:Hp) (s:Shared) (e:Value) (s':Shared),Inv X pins σ H s→CX X.stack H s E e s'→X.xe e s'
section
variable {X:Cx} {CX:CXT} {k:Nat} {f C:Addr} {fd:FuncData} {ps:List Str} {sp:Sp} {dvs:List V} {ds:List Value} {E:XK} {x m:Str} {p pos apos:Pos} {e o:Expr} {es:List Expr} {ta:TE} {t:TA}
theorem zjV {pins:List (Addr × Obj)} {σ:St} {H:Hp} {s:Shared} {Q:VK} {us:List Value} {vs:List V} (F:FnOk X.prog X.w X.K X.mg X.base CX k f fd ps sp) (hr:Room k X.A) (hb:zb1 X.K fd ps ds) (hd:za5 dvs ds) (hx:ze3 CX X E)
  (I:Inv X pins σ H s) (r:za5 vs us) (h:sp (vs ++ dvs) H Q E):wpAny (model X.prog X.w) X.A (call (.ref f) us) (EP X pins σ Q) X.xe s:=by
 have r2:za5 (vs ++ dvs) (us ++ ds):=r.append hd
 have hl:(us ++ ds).length=ps.length:=by rw [← r2.length]; exact F.len _ _ _ _ h
 refine wpAny_call (codeAny_mono (F.run X.A X.stack s H ⟨us,[]⟩ (us ++ ds) (vs ++ dvs) Q E hr I.env0 (hb s us I.kIn hl) r2 h) fun r s' hq=>?_)
 cases r with
 | error e=>exact hx pins σ H s e s' I hq
 | ok fl =>
  cases fl with
  | ret u=>exact I.after hq
  | next=>exact False.elim hq
  | brk=>exact False.elim hq
  | cont=>exact False.elim hq
theorem zeG (F:FnOk X.prog X.w X.K X.mg X.base CX k f fd ps sp) (hr:Room k X.A) (hg:Gl X x) (hm:X.mg x=some (.ref f)) (hk:PySem.W.keepIn X.K (.ref f)=true) (hb:zb1 X.K fd ps ds) (hd:za5 dvs ds) (hx:ze3 CX X E)
  (ha:PA X (e :: es) t) (hdb:(x == ("__debug__":Str))=false:=by decide) (he:starEach (e :: es) X.env=(false,eval e X.env) :: starEach es X.env:=by rfl) (hpl:(backTo pos (starEach es X.env)).any (·.1)=false:=by rfl) :
  PE X (.Call (.Name x p) (e :: es) [] pos) (zsn sp dvs E t):=by
 intro pins s σ H Q I h; refine wpAny_Call_Name_kw (zhL I hg hm ?_ hdb)
 refine PySem.W.callWith_K (h₀:=X.base) I.ok.mod.kin hk (thn (ha pos pins s σ H _ I h) fun us s1 ⟨vs,H1,I1,r,q⟩=>⟨I1.kIn,?_⟩) he hpl
 exact zjV F hr hb hd hx I1 r q
theorem zkl {pl:Sem Bool} (he:PE X o ta) (c:Cls X.K C) (hm:Meth X.K C m f) (F:FnOk X.prog X.w X.K X.mg X.base CX k f fd ps sp) (hr:Room k X.A) (hb:zb1 X.K fd ps ds) (hd:za5 dvs ds) (hx:ze3 CX X E) (ha:PA X (e :: es) t)
  (hst:starEach (e :: es) X.env=(false,eval e X.env) :: starEach es X.env:=by rfl) (hpl:(backTo pos (starEach es X.env)).any (·.1)=false:=by rfl)
  (ht:eval (.Call (.Attribute o m apos) (e :: es) [] pos) X.env=(do
   let ov ← eval o X.env
   standAt apos.atName
   let (f,first) ← holding [ov] (getMethod ov m pl)
   callWith pos f first (backTo pos (starEach (e :: es) X.env)) (backToKw pos (keywordEach [] X.env))):=by rfl) :
  PE X (.Call (.Attribute o m apos) (e :: es) [] pos) (zpJ C m sp dvs E ta t):=by
 intro pins s σ H Q I h
 refine PySem.W.methodCall_KW (pl:=pl) (thn (he pins s σ H _ I h) fun u s1 ⟨x,H1,I1,rx,a,dx,fs,ex,ea,l,q⟩=>?_) ht
 subst ex
 obtain rfl:u=Value.ref a:=rx
 refine zfm I1 ea c hm l ?_
 refine PySem.W.callWith_K (first:=[.ref a]) (h₀:=X.base) I.ok.mod.kin hm.kp (thn (ha pos pins s1 σ H1 _ I1 q) fun us s2 ⟨vs,H2,I2,r,q2⟩=>⟨I2.kIn,?_⟩) hst hpl
 exact zjV (us:=.ref a :: us) (vs:=.ref a :: vs) F hr hb hd hx I2 (.cons rfl r) q2
theorem zmd {pl:Sem Bool} (he:PE X o ta) (c:Cls X.K C) (hm:Meth X.K C m f) (F:FnOk X.prog X.w X.K X.mg X.base CX k f fd ps sp) (hr:Room k X.A) (hb:zb1 X.K fd ps ds) (hd:za5 dvs ds) (hx:ze3 CX X E)
  (ht:eval (.Call (.Attribute o m apos) [] [] pos) X.env=(do
   let ov ← eval o X.env
   standAt apos.atName
   let (f,first) ← holding [ov] (getMethod ov m pl)
   callWith pos f first (backTo pos (starEach [] X.env)) (backToKw pos (keywordEach [] X.env))):=by rfl) :
  PE X (.Call (.Attribute o m apos) [] [] pos) (zpJ C m sp dvs E ta zsg):=by
 intro pins s σ H Q I h
 refine PySem.W.methodCall_KW (pl:=pl) (thn (he pins s σ H _ I h) fun u s1 ⟨x,H1,I1,rx,a,dx,fs,ex,ea,l,q⟩=>?_) ht
 subst ex
 obtain rfl:u=Value.ref a:=rx
 refine zfm I1 ea c hm l ?_
 exact PySem.W.callWith_K0 (first:=[.ref a]) I1.kIn hm.kp (zjV (us:=[.ref a]) (vs:=[.ref a]) F hr hb hd hx I1 (.cons rfl .nil) q)
structure Mk (K:PySem.W.Frag) (C f:Addr):Prop where
 makes:PySem.W.makesIn K C=true
 init:PySem.W.findIn K (.ref C) "__init__"=some (some (.ref f))
 fn:PySem.W.isFn K (.ref f)=true
 kp:PySem.W.keepIn K (.ref C)=true
theorem zlQ {pins:List (Addr × Obj)} {σ:St} {H:Hp} {s:Shared} {Q:VK} {us:List Value} {vs:List V} (M:Mk X.K C f) (F:FnOk X.prog X.w X.K X.mg X.base CX k f fd ps sp) (hr:Room (k+1) X.A) (hb:zb1 X.K fd ps ds) (hd:za5 dvs ds)
  (hx:ze3 CX X E) (I:Inv X pins σ H s) (r:za5 vs us)
  (h:∀ x dx,H x=none→H dx=none→dx≠x→sp (.ref x :: (vs ++ dvs)) (upd (upd H dx (.own x)) x (.ins C dx [])) (fun v H2=>v=.non∧Q (.ref x) H2) E) :
  wpAny (model X.prog X.w) X.A (call (.ref C) us) (EP X pins σ Q) X.xe s:=by
 have hq:=h (s.heap.objs.size+1) s.heap.objs.size (I.hok.fresh (Nat.le_succ _)) (I.hok.fresh (Nat.le_refl _)) (Nat.ne_of_lt (Nat.lt_succ_self _)); have I2:=Inv.made (C:=C) I
 have r2:za5 (V.ref (s.heap.objs.size+1) :: (vs ++ dvs)) (Value.ref (s.heap.objs.size+1) :: (us ++ ds)):=.cons rfl (r.append hd)
 have hl:(Value.ref (s.heap.objs.size+1) :: us ++ ds).length=ps.length:=by
  have e:=r2.length; rw [F.len _ _ _ _ hq] at e; exact e.symm
 refine wpAny_call (zmw (f:=f) I.kIn M.makes M.init (beq_iff_eq.mp M.fn) (codeAny_mono (F.run _ X.stack _ _ ⟨Value.ref (s.heap.objs.size+1) :: us,[]⟩ (Value.ref (s.heap.objs.size+1) :: (us ++ ds)) _ _ E (hr.make C us [])
  (I2.env0.make C us []) (hb _ (Value.ref (s.heap.objs.size+1) :: us) I2.kIn hl) r2 hq) fun r s' hq'=>?_))
 cases r with
 | error e=>exact hx pins σ _ _ e s' I2 hq'
 | ok fl =>
  cases fl with
  | ret u =>
   obtain ⟨v,H',I3,rv,ev,q3⟩:=I2.after hq'; subst ev; exact ⟨rv,⟨V.ref (s.heap.objs.size+1),H',I3,rfl,q3⟩⟩
  | next=>exact False.elim hq'
  | brk=>exact False.elim hq'
  | cont=>exact False.elim hq'
theorem zkm (M:Mk X.K C f) (F:FnOk X.prog X.w X.K X.mg X.base CX k f fd ps sp) (hr:Room (k+1) X.A) (hg:Gl X x) (hm:X.mg x=some (.ref C)) (hb:zb1 X.K fd ps ds) (hd:za5 dvs ds) (hx:ze3 CX X E)
  (ha:PA X (e :: es) t) (hdb:(x == ("__debug__":Str))=false:=by decide) (he:starEach (e :: es) X.env=(false,eval e X.env) :: starEach es X.env:=by rfl) (hpl:(backTo pos (starEach es X.env)).any (·.1)=false:=by rfl) :
  PE X (.Call (.Name x p) (e :: es) [] pos) (zsi C sp dvs E t):=by
 intro pins s σ H Q I h; refine wpAny_Call_Name_kw (zhL I hg hm ?_ hdb)
 refine PySem.W.callWith_K (h₀:=X.base) I.ok.mod.kin M.kp (thn (ha pos pins s σ H _ I h) fun us s1 ⟨vs,H1,I1,r,q⟩=>⟨I1.kIn,?_⟩) he hpl
 exact zlQ M F hr hb hd hx I1 r q
end
def PK (X:Cx) (kws:List Keyword) (t:TA):Prop :=
 ∀ (pos:Pos) (pins:List (Addr × Obj)) (s:Shared) (σ:St) (H:Hp) (Q:List V→Hp→Prop),Inv X pins σ H s→t σ H Q→wpAny (model X.prog X.w) X.A (evalAll ((backToKw pos (keywordEach kws X.env)).map (·.2))) (AP X pins σ Q) X.xe s
section
variable {X:Cx} {CX:CXT} {k:Nat} {f C:Addr} {fd:FuncData} {ps ks:List Str} {sp:Sp} {E:XK} {x m:Str} {p pos apos kpos:Pos} {e o:Expr} {es:List Expr} {kws:List Keyword} {te ta:TE} {t tk:TA} {nm:Option Str}
theorem zqh:PK X [] zsg:=fun _ _ _ _ H Q I h=>wpAny_evalAll_nil ⟨[],H,I,.nil,h⟩
theorem zon (ha:PE X e te) (hr:PK X kws t):PK X (⟨nm,e,kpos⟩ :: kws) (zpM te t):=by
 intro pos pins s σ H Q I h
 show wpAny _ _ (evalAll ((do let v ← eval e X.env; standAt pos; pure v) :: (backToKw pos (keywordEach kws X.env)).map (·.2))) _ _ s
 refine wpAny_evalAll_cons (wpAny_bind (thn (ha pins s σ H _ I h) fun u s1 ⟨x,H1,I1,r1,q1⟩=>wpAny_bind (wpAny_standAt (wpAny_pure ?_))))
 exact thn (hr pos pins s1 σ H1 _ I1 q1) fun us s2 ⟨xs,H2,I2,r2,q2⟩=>⟨x :: xs,H2,I2,.cons r1 r2,q2⟩
variable {g:List Value→List Value→List Value} {gV:List V→List V→List V}
end
structure FnScope (N P:List Str) (sc:Scope):Prop where
 kind:sc.kind=.function
 co:sc.isCoroutine=false
 gen:sc.isGenerator=false
 nd:N.Nodup
 pre:N.take P.length=P
 par:∀ x ∈ P,sc.names.lookup x=some .local∨sc.names.lookup x=some .cell
 nofree:∀ y ∈ sc.names,y.2≠.free
theorem zg5 {kindOf:Str→Option NameKind} {x:Str}:∀ {binds:List (Str × Value)} {m:Str→Option Value},(∀ v,(x,v) ∉ binds)→bindL kindOf binds m x=m x
 | [],_,_=>rfl
 | (n,v) :: r,m,h=>by
  unfold bindL
  rw [zg5 fun w hw=>h w (List.mem_cons_of_mem _ hw)]
  split
  ·have:x≠n:=by rintro rfl; exact h v List.mem_cons_self
   simp [this]
  ·rfl
theorem zg7 {kindOf:Str→Option NameKind} {x:Str}:∀ {binds:List (Str × Value)} {m:Str→Option Value},(∀ v,(x,v) ∉ binds)→bindC kindOf binds m x=m x
 | [],_,_=>rfl
 | (n,v) :: r,m,h=>by
  unfold bindC
  rw [zg7 fun w hw=>h w (List.mem_cons_of_mem _ hw)]
  split
  ·rfl
  ·have:x≠n:=by rintro rfl; exact h v List.mem_cons_self
   simp [this]
theorem zg6 {kindOf:Str→Option NameKind} {x:Str} {v:Value}:∀ {P:List Str} {vs:List Value} {i:Nat} {m:Str→Option Value},P.Nodup→P[i]?=some x→vs[i]?=some v→kindOf x=some .local →
  bindL kindOf (P.zip vs) m x=some v
 | [],_,_,_,_,h,_,_=>by simp at h
 | _ :: _,[],_,_,_,_,h,_=>by simp at h
 | p :: P,w :: vs,0,m,nd,h1,h2,hk=>by
  simp at h1 h2; subst h1; subst h2
  show bindL kindOf ((p,w) :: P.zip vs) m p=_
  unfold bindL
  rw [zg5 fun v hv=>(List.nodup_cons.mp nd).1 (List.of_mem_zip hv).1,if_pos hk]
  simp
 | p :: P,w :: vs,i+1,m,nd,h1,h2,hk=>by
  show bindL kindOf ((p,w) :: P.zip vs) m x=_
  unfold bindL
  exact zg6 (i:=i) (List.nodup_cons.mp nd).2 (by simpa using h1) (by simpa using h2) hk
theorem zg8 {kindOf:Str→Option NameKind} {x:Str} {v:Value}:∀ {P:List Str} {vs:List Value} {i:Nat} {m:Str→Option Value},P.Nodup→P[i]?=some x→vs[i]?=some v→kindOf x≠some .local →
  bindC kindOf (P.zip vs) m x=some v
 | [],_,_,_,_,h,_,_=>by simp at h
 | _ :: _,[],_,_,_,_,h,_=>by simp at h
 | p :: P,w :: vs,0,m,nd,h1,h2,hk=>by
  simp at h1 h2; subst h1; subst h2
  show bindC kindOf ((p,w) :: P.zip vs) m p=_
  unfold bindC
  rw [zg7 fun v hv=>(List.nodup_cons.mp nd).1 (List.of_mem_zip hv).1,if_neg hk]
  simp
 | p :: P,w :: vs,i+1,m,nd,h1,h2,hk=>by
  show bindC kindOf ((p,w) :: P.zip vs) m x=_
  unfold bindC
  exact zg8 (i:=i) (List.nodup_cons.mp nd).2 (by simpa using h1) (by simpa using h2) hk
def start (N:List Str) (vs:List V):St:=vs.map some ++ List.replicate (N.length-vs.length) none
def ze4 (CX:CXT) (P:Program) (w:World) (K:PySem.W.Frag) (mg:Str→Option Value) (base:Heap) (N:List Str) (qual:Str) (scope:Scope) (f:Addr) (cd:Value) (A:Around) (outer:List Env) (s:Shared) (H:Hp) (E:XK):Cx where
 prog:=P
 w:=w
 K:=K
 mg:=mg
 base:=base
 A:=A.deeper (envOfC qual scope s.heap.objs.size f cd)
 N:=N
 s₀:=s
 H₀:=H
 env:=envOfC qual scope s.heap.objs.size f cd
 outer:=outer
 stack:=envOfC qual scope s.heap.objs.size f cd :: outer
 ex:=[]
 calm:=true
 fn:=fun _=>true
 pn:=[]
 xe:=fun e s'=>wpAny (model P w) (A.deeper (envOfC qual scope s.heap.objs.size f cd)) (leaving (envOfC qual scope s.heap.objs.size f cd) e) (fun _ s''=>CX outer H s E e s'') (fun e' s''=>CX outer H s E e' s'') s'
theorem ziG {sc:Scope} {n:Nat} {x:Str} (h:sc.names.lookup x=some .cell):∃ c,(cellsFrom n sc.names []).lookup x=some c:=by
 have q:=PySem.W.cellsFrom_some sc.names n [] (.inl h); exact Option.isSome_iff_exists.mp q
theorem zgG {CX:CXT} {P:Program} {w:World} {K:PySem.W.Frag} {mg:Str→Option Value} {base:Heap} {N ps:List Str} {qual:Str} {scope:Scope} {f:Addr} {cd:Value} {A:Around} {outer:List Env} {s s1:Shared} {H:Hp} {E:XK} {us:List Value} {vs:List V}
  (S:FnScope N ps scope) (hd:A.handled=none) (e0:Env0 P w K mg base A outer s H) (hl:vs.length=ps.length) (r:za5 vs us)
  (x:InCallC s s.heap.objs.size (bindL (envOfC qual scope s.heap.objs.size f cd).kindOf (ps.zip us) fun _=>none) (cellsFrom (s.heap.objs.size+1) scope.names []) (bindC (envOfC qual scope s.heap.objs.size f cd).kindOf (ps.zip us) fun _=>none) s1) :
  Inv (ze4 CX P w K mg base N qual scope f cd A outer s H E) [] (start N vs) H s1:=by
 have hpl:ps.length≤N.length:=by have:=congrArg List.length S.pre; rw [List.length_take] at this; omega
 obtain ⟨h1,tk,rfl,hk⟩:=x.done
 have noA:∀ b:Addr,b ∉ (ze4 CX P w K mg base N qual scope f cd A outer s H E).ex:=fun b z=>absurd (show b ∈ ([]:List Addr) from z) (by simp)
 refine ⟨⟨e0.mod,S.kind,rfl,rfl,Nat.le_refl _,fun y z c h1 h2=>?_,fun y hy=>?_,fun y c _ h=>?_,fun _=>hd,Around.frames_deeper e0.frames,.inr ⟨rfl,rfl⟩,fun b z=>absurd z (noA b),e0.bs,e0.bsz,fun b _ _=>noA b,fun b z=>absurd z (noA b),e0.funs,e0.frf,e0.tab⟩,
  rfl,e0.bare,Un.kept hk,⟨_,x.toInCall.ns,fun i y v h1 h2 h3=>?_⟩,fun y c h=>⟨_,x.cell y c h⟩,e0.hok.fresh (Nat.le_refl _),fun y c h=>?_,fun p hp=>absurd (show p ∈ ([]:List (Addr × Obj)) from hp) (by simp),e0.hok.kept hk,?_⟩
 ·exact name_of_addr x.apart (PySem.mem_of_lookup h1) (PySem.mem_of_lookup h2)
 ·have hy:scope.names.lookup y=some .cell∨scope.names.lookup y=some .free:=hy
  rcases hy with hy | hy
  ·exact ziG hy
  ·exact absurd rfl (S.nofree _ (PySem.mem_of_lookup hy))
 ·exact Nat.le_of_lt (x.above y c (PySem.mem_of_lookup h))
 ·have hi:i<vs.length:=by
   unfold start at h2
   by_cases hi:i<vs.length
   ·exact hi
   ·rw [List.getElem?_append_right (by simpa using hi)] at h2
    rw [List.getElem?_replicate] at h2
    split at h2 <;> cases h2
  have ha:vs[i]?=some v:=by
   unfold start at h2
   rw [List.getElem?_append_left (by simpa using hi),List.getElem?_map] at h2
   cases e:vs[i]? with
   | none=>rw [e] at h2; cases h2
   | some a=>rw [e] at h2; cases h2; rfl
  obtain ⟨u,hu,rv⟩:=r.get ha
  have hp:ps[i]?=some y:=by
   rw [← S.pre,List.getElem?_take_of_lt (by omega)]; exact h1
  have ndP:ps.Nodup:=by rw [← S.pre]; exact S.nd.sublist (List.take_sublist _ _)
  refine ⟨u,rv,?_⟩
  rcases S.par y (List.mem_of_getElem? hp) with k | k
  ·exact .inl ⟨k,zg6 ndP hp hu k⟩
  ·obtain ⟨c,e⟩:=ziG (n:=s.heap.objs.size+1) k
   refine .inr ⟨.inl k,c,e,?_⟩; have q:=x.cell y c e
   rw [zg8 ndP hp hu (by show scope.names.lookup y≠_; rw [k]; decide)] at q
   exact q
 ·exact e0.hok.fresh (Nat.le_of_lt (x.above y c (PySem.mem_of_lookup h)))
 ·unfold start
  show _=N.length
  rw [List.length_append,List.length_map,List.length_replicate]; omega
theorem zra {CX:CXT} {P:Program} {w:World} {K:PySem.W.Frag} {mg:Str→Option Value} {base:Heap} {k:Nat} {f:Addr} {name qual:Str} {params:Arguments} {body:List Stmt} {scope:Scope} {dV kV doc pm cdv ct oc:Value} {an od:Option Addr}
  {osl:Array (Option Value)} {N ps:List Str} {sp:Sp} (lk:K.lookup f=some ⟨oc,od,.func (PySem.W.fnOf name qual params body scope dV kV doc pm an cdv ct),osl⟩) (hcd:PySem.W.codeIn K cdv qual=true) (S:FnScope N ps scope)
  (len:∀ vs H Q E,sp vs H Q E→vs.length=ps.length)
  (hbody:∀ (A:Around) (outer:List Env) (s:Shared) (H:Hp) (vs:List V) (Q:VK) (E:XK),Room k (A.deeper (envOfC qual scope s.heap.objs.size f cdv))→sp vs H Q E →
   ∃ t,PSs (ze4 CX P w K mg base N qual scope f cdv A outer s H E) body t∧t { nx:=fun _ H'=>Q .non H',rt:=Q } (start N vs) H) :
  FnOk P w K mg base CX (k+1) f (PySem.W.fnOf name qual params body scope dV kV doc pm an cdv ct) ps sp:=by
 refine ⟨len,fun A outer s H args us vs Q E hr e0 hb r hsp=>?_⟩
 have hl:=len _ _ _ _ hsp
 have KX:K.In s.heap:=e0.mod.kin.keeps fun b o e=>(e0.bs b o e).1
 have lim:s.heap.NoLimit:=e0.mod.nolimit.keeps fun b o e=>(e0.bs b o e).1
 have hkind:∀ y ∈ ps.zip us,scope.names.lookup y.1=some .local∨(scope.names.lookup y.1=some .cell∧((cellsFrom (s.heap.objs.size+1) scope.names []).lookup y.1).isSome=true):=fun ⟨n,v⟩ hy=>by
  rcases S.par n (List.of_mem_zip hy).1 with q | q
  ·exact .inl q
  ·exact .inr ⟨q,PySem.W.cellsFrom_some _ _ _ (.inl q)⟩
 refine codeAny_call_function hr.depth (KX _ _ lk) rfl S.co S.gen rfl (PySem.W.codeRec_of KX hcd) (hb _ _ _ _ ?_)
 refine wpAny_newFunctionEnv_cells S.kind hkind fun env he s1 x=>?_
 subst he; refine ⟨lim.keeps x.toInCall.keep,codeAny_func ?_⟩; obtain ⟨t,ht,hq⟩:=hbody A outer s H vs Q E (hr.deeper _) hsp
 have I:Inv (ze4 CX P w K mg base N qual scope f cdv A outer s H E) [] (start N vs) H s1:=zgG S hr.hd e0 hl r x
 refine wpAny_mono (ht [] s1 (start N vs) H _ I hq) (fun fl s' hs=>?_) fun e s' hs=>hs
 have fin:∀ {σ':St} {H':Hp} {v:V} {u:Value},Inv (ze4 CX P w K mg base N qual scope f cdv A outer s H E) [] σ' H' s'→zbA v u→Q v H'→CE outer P w H s Q u s' :=
  fun {σ' H' v u} J rv q=>⟨v,H',J.os,J.bare,J.base,J.hok,rv,q⟩
 cases fl with
 | ret u =>
  obtain ⟨v,σ',H',J,rv,q⟩:=hs; exact fin J rv q
 | next =>
  obtain ⟨σ',H',J,q⟩:=hs; exact fin (v:=V.non) (u:=Value.none) J rfl q
 | brk =>
  obtain ⟨_,_,_,q⟩:=hs; exact False.elim q
 | cont =>
  obtain ⟨_,_,_,q⟩:=hs; exact False.elim q
end L2
namespace L2
open PySem PySem.Spec PyProof.Rows
section
variable {X:Cx} {x:Str} {p pos:Pos} {e:Expr} {es:List Expr} {t:TA} {id T:String} {r:List V→Hp→VK→Prop}
def tCB (r:List V→Hp→VK→Prop) (t:TA):TE:=fun σ H Q=>t σ H fun vs H1=>r vs H1 Q
theorem pe_callB (hc:zcy X (.builtin id) r) (hg:Gl X x) (hm:X.mg x=none) (hv:bootBuiltins x=some (.builtin id)) (ha:PA X (e :: es) t) (hn:x≠"__name__":=by decide) (hdb:(x == ("__debug__":Str))=false:=by decide)
  (he:starEach (e :: es) X.env=(false,eval e X.env) :: starEach es X.env:=by rfl) (hpl:(backTo pos (starEach es X.env)).any (·.1)=false:=by rfl):PE X (.Call (.Name x p) (e :: es) [] pos) (tCB r t):=by
 intro pins s σ H Q I h; refine wpAny_Call_Name_kw (zeh I hg hm hv ?_ hn hdb)
 exact PyProof.Rows.callWith_builtin1 (thn (ha pos pins s σ H _ I h) fun us s1 ⟨vs,H1,I1,r1,q1⟩=>hc pins s1 σ H1 vs us Q I1 r1 q1) he hpl
theorem zgn (hc:zcy X (.type T) r) (hg:Gl X x) (hm:X.mg x=none) (hv:bootBuiltins x=some (.type T)) (ha:PA X (e :: es) t) (hn:x≠"__name__":=by decide) (hdb:(x == ("__debug__":Str))=false:=by decide)
  (he:starEach (e :: es) X.env=(false,eval e X.env) :: starEach es X.env:=by rfl) (hpl:(backTo pos (starEach es X.env)).any (·.1)=false:=by rfl):PE X (.Call (.Name x p) (e :: es) [] pos) (tCB r t):=by
 intro pins s σ H Q I h; refine wpAny_Call_Name_kw (zeh I hg hm hv ?_ hn hdb)
 exact PyProof.Rows.callWith_type1 (thn (ha pos pins s σ H _ I h) fun us s1 ⟨vs,H1,I1,r1,q1⟩=>hc pins s1 σ H1 vs us Q I1 r1 q1) he hpl
end
end L2
namespace HT
open PySem PyProof.Rows
section
open PySem.SeqAt
open PySem.AutoSeq1 (wpAny_loadPart')
open PySem.MeetsSeq PySem.MeetsSeq2 PySem.MeetsSeq3
end
section
variable {prog:Program} {w:World} {A:Around} {E:Value→Shared→Prop} {s:Shared}
theorem cat_tup {t b:Addr} {vs ws:List Value} {Q:Value→Shared→Prop} (ht:IsTup s.heap t vs.toArray) (hb:IsTup s.heap b ws.toArray) (hv:vs≠[])
  (h1:ws=[]→Q (.ref t) s) (h2:ws≠[]→Q (.ref s.heap.objs.size) { s with heap:=s.heap.push { cls:=.type "tuple",data:=.seq (vs ++ ws).toArray } })
  (hsz:vs.length+ws.length≤sizeLine):wpAny (model prog w) A (binaryOp .Add (.ref t) (.ref b)) Q E s:=by
 obtain ⟨⟨cls,dd,data,sl⟩,ho,hc,n,hd⟩:=id ht
 obtain ⟨⟨cls2,dd2,data2,sl2⟩,ho2,hc2,n2,hd2⟩:=id hb
 simp only at hc hd hc2 hd2
 subst hc hd hc2 hd2
 have e:vs.toArray ++ ws.toArray=(vs ++ ws).toArray:=by simp
 by_cases hw:ws=[]
 ·exact concat_meets ⟨_,ho,rfl⟩ ⟨_,ho2,rfl⟩ noFill_tuple_add seq_tuple_add PySem.F.slot_tuple_add PySem.F.entry_tuple_add (PySem.F.args_tuple_add_2 _ _)
   (tuple_addW1 t b vs.toArray ws.toArray n n2 dd dd2 sl sl2 (by simpa using hv) (by simp [hw])) ⟨ho,ho2,h1 hw⟩
 ·refine concat_meets ⟨_,ho,rfl⟩ ⟨_,ho2,rfl⟩ noFill_tuple_add seq_tuple_add PySem.F.slot_tuple_add PySem.F.entry_tuple_add (PySem.F.args_tuple_add_2 _ _)
   (tuple_addW2 t b vs.toArray ws.toArray n n2 dd dd2 sl sl2 (by simpa using hv) (by simpa using hw) (by rw [List.size_toArray,List.size_toArray]; exact hsz)) ⟨ho,ho2,?_⟩
  rw [e]; exact h2 hw
def sIx (n d:Nat):Option Int→Nat
 | none=>d
 | some v=>if v<0 then (v+(n:Int)).toNat else min v.toNat n
theorem zp2 (n d:Nat) (hd:d≤n) (o:Option Int):sIx n d o≤n:=by
 cases o with
 | none=>exact hd
 | some v =>
  show (if v<0 then (v+(n:Int)).toNat else min v.toNat n)≤n
  by_cases hv:v<0
  ·rw [if_pos hv]; omega
  ·rw [if_neg hv]; exact Nat.min_le_right _ _
theorem zlf (v:Int) (n d:Nat):(if v<0 then max (v+(n:Int)) 0 else min v (n:Int))=((sIx n d (some v):Nat):Int):=by
 show (if v<0 then max (v+(n:Int)) 0 else min v (n:Int))=(((if v<0 then (v+(n:Int)).toNat else min v.toNat n):Nat):Int)
 by_cases hv:v<0
 ·simp only [if_pos hv]; omega
 ·simp only [if_neg hv]; omega
theorem zjv (lo hi:Option Int) (n:Nat):Builtin.Slice.sliceAdjust lo hi 1 (n:Int)=(((sIx n 0 lo:Nat):Int),((sIx n n hi:Nat):Int)):=by
 have h1:¬ ((1:Int)<0):=by omega
 unfold Builtin.Slice.sliceAdjust; simp only [h1,if_false]; refine Prod.ext ?_ ?_
 ·cases lo with
  | none=>rfl
  | some v=>exact zlf v n 0
 ·cases hi with
  | none=>rfl
  | some v=>exact zlf v n n
theorem zi4 (i j:Nat):Builtin.Slice.slicePlaces (i:Int) (j:Int) 1=j-i:=by
 unfold Builtin.Slice.slicePlaces
 have h1:(1:Int) > 0:=by omega
 simp only [h1,if_true,Int.ediv_one]
 split <;> omega
theorem zfg {v:Value} {o:Option Int} {Q:Option Int→Shared→Prop} (p:IsPart v o) (h:Q o s):wpAny (model prog w) A (Builtin.Slice.slicePartIndex v) Q E s:=by
 cases p with
 | none=>exact slicePart_none h
 | int i t=>exact slicePart_int h
theorem zcS {sl:Addr} {vl vu:Value} {lo hi:Option Int} {n:Nat} {Q:Int × Int × Nat→Shared→Prop} (hs:s.heap.IsSliceOf sl vl vu .none) (pl:IsPart vl lo) (pu:IsPart vu hi)
  (h:Q (((sIx n 0 lo:Nat):Int),1,sIx n n hi-sIx n 0 lo) s):wpAny (model prog w) A (Builtin.Slice.sliceApplied (.ref sl) (pure (n:Int))) Q E s:=by
 obtain ⟨os,hos,hcs,hds⟩:=id hs; unfold Builtin.Slice.sliceApplied Builtin.Slice.sliceFields; refine wpAny_bind (wpAny_bind (wpAny_field hos hds (x:=vl) rfl (wpAny_bind (wpAny_field hos hds (x:=vu) rfl (wpAny_bind (wpAny_field hos hds (x:=.none) rfl (wpAny_pure ?_))))))); refine wpAny_bind (slicePart_none ?_)
 show wpAny _ _ (if ((1:Int) == 0)=true then _ else _) _ _ s
 rw [if_neg (by decide)]
 refine wpAny_bind (zfg pl (wpAny_bind (zfg pu (wpAny_bind (wpAny_pure ?_)))))
 show wpAny _ _ (match Builtin.Slice.sliceAdjust lo hi 1 (n:Int) with | (lo,hi)=>pure (lo,(1:Int),Builtin.Slice.slicePlaces lo hi 1)) _ _ s
 rw [zjv lo hi n]
 show wpAny _ _ (pure (((sIx n 0 lo:Nat):Int),(1:Int),Builtin.Slice.slicePlaces ((sIx n 0 lo:Nat):Int) ((sIx n n hi:Nat):Int) 1)) _ _ s
 rw [zi4]; exact wpAny_pure h
theorem zl6 (xs:Array Value) (i k:Nat):((List.range k).filterMap fun (m:Nat)=>xs[((i:Int)+(m:Int) * 1).toNat]?).toArray=((xs.toList.drop i).take k).toArray:=by
 have e:(fun (m:Nat)=>xs[((i:Int)+(m:Int) * 1).toNat]?)=fun m=>xs[i+m]?:=by
  funext m
  have:((i:Int)+(m:Int) * 1).toNat=i+m:=by omega
  rw [this]
 rw [e]
 have:=pick_run xs i k
 rw [List.filterMap_map] at this
 have e2:((fun x=>xs[x]?) ∘ fun x=>i+x)=fun m=>xs[i+m]?:=rfl
 rw [e2] at this; rw [this]
theorem getItem_tuple_cut {t sl:Addr} {items:Array Value} {vl vu:Value} {lo hi:Option Int} {Q:Value→Shared→Prop} (ht:IsTup s.heap t items) (hs:s.heap.IsSliceOf sl vl vu .none) (pl:IsPart vl lo) (pu:IsPart vu hi)
  (hw:¬ (sIx items.size 0 lo=0∧sIx items.size items.size hi=items.size))
  (h:Q (.ref s.heap.objs.size) { s with heap:=s.heap.push { cls:=.type "tuple",data:=.seq ((items.toList.drop (sIx items.size 0 lo)).take (sIx items.size items.size hi-sIx items.size 0 lo)).toArray } })
  (hsz:items.size≤sizeLine):wpAny (model prog w) A (getItem (.ref t) (.ref sl)) Q E s:=by
 have htake:sizeOk (.seq ((items.toList.drop (sIx items.size 0 lo)).take (sIx items.size items.size hi-sIx items.size 0 lo)).toArray):=by
  show ((items.toList.drop (sIx items.size 0 lo)).take (sIx items.size items.size hi-sIx items.size 0 lo)).toArray.size≤sizeLine
  rw [List.size_toArray,List.length_take,List.length_drop,Array.length_toList]; omega
 have hj:sIx items.size items.size hi≤items.size:=zp2 _ _ (Nat.le_refl _) hi
 obtain ⟨os,hos,hcs,hds⟩:=id hs
 have hTs:s.TypeIs (.ref sl) "slice":=⟨os,hos,hcs⟩
 unfold getItem
 try with_reducible refine wpAny_holding ?_
 first | refine wpAny_bind (wpAny_pure ?_) | skip
 refine wpAny_bind (wpAny_sequenceKey ht.typeIs (by decide) ?_)
 refine wpAny_bind (wpAny_callSpecial?_slot (name:=Str.ofString "__getitem__") ht.typeIs PyProof.Rows.slot_tuple_getitem
  (wpAny_call_entry PyProof.Rows.slot_tuple_getitem ht.typeIs entry_tuple_getitem ?_ (args_tuple_getitem _ _)))
 show wpAny _ _ (Builtin.Tuple.tupleItemsOf (.ref t) >>= _) _ _ s
 refine wpAny_bind (tupleItemsOf_ ht ?_); refine wpAny_bind (wpAny_typeOf hTs ?_)
 rw [if_pos (by decide)]
 refine wpAny_bind (zcS hs pl pu ?_)
 have hno:¬ ((((sIx items.size 0 lo:Nat):Int) == 0 && (1:Int) == 1 && (sIx items.size items.size hi-sIx items.size 0 lo) == items.size)=true):=by
  intro q; rw [Bool.and_eq_true,Bool.and_eq_true] at q
  have q1:((sIx items.size 0 lo:Nat):Int)=0:=eq_of_beq q.1.1
  have q2:sIx items.size items.size hi-sIx items.size 0 lo=items.size:=eq_of_beq q.2
  exact hw ⟨by omega,by omega⟩
 show wpAny _ _ (if (((sIx items.size 0 lo:Nat):Int) == 0 && (1:Int) == 1 && (sIx items.size items.size hi-sIx items.size 0 lo) == items.size)=true then _ else _) _ _ s
 rw [if_neg hno,zl6]
 first
  | exact wpAny_bind (m:=Builtin.Tuple.tupleExact _) (wpAny_newObj_type (wpAny_pure ⟨_,rfl,wpAny_pure h⟩) htake)
  | exact wpAny_bind (m:=Builtin.Tuple.tupleExact _) (wpAny_newObj_type (wpAny_bind (wpAny_pure (wpAny_pure ⟨_,rfl,wpAny_pure h⟩))) htake)
  | exact wpAny_bind (wpAny_bind (m:=Builtin.Tuple.tupleExact _) (wpAny_newObj_type (wpAny_pure (wpAny_pure ⟨_,rfl,wpAny_pure h⟩)) htake))
  | exact wpAny_bind (wpAny_bind (m:=Builtin.Tuple.tupleExact _) (wpAny_newObj_type (wpAny_pure ⟨_,rfl,wpAny_pure h⟩) htake))
end
end HT
namespace L2
open PySem PySem.Spec PyProof.Rows
abbrev TO:=St→Hp→(Option Int→Hp→Prop)→Prop
def PO (X:Cx) (e:Option Expr) (t:TO):Prop :=
 ∀ (pins:List (Addr × Obj)) (s:Shared) (σ:St) (H:Hp) (Q:Option Int→Hp→Prop),Inv X pins σ H s→t σ H Q →
  wpAny (model X.prog X.w) X.A (evalPart e X.env) (fun u s'=>∃ o H',Inv X pins σ H' s'∧IsPart u o∧Q o H') X.xe s
def znO:TO:=fun _ H Q=>Q none H
def zsf (t:TE):TO:=fun σ H Q=>t σ H fun x H1=>∃ i,x=.int i∧Q (some i) H1
section
variable {X:Cx} {e:Expr} {te:TE} {lo hi:Option Expr} {tl th:TO} {pos p2:Pos}
theorem zoj:PO X none znO:=by
 intro pins s σ H Q I h; rw [evalPart_none]; exact wpAny_pure ⟨none,H,I,.none,h⟩
theorem zoi (h:PE X e te):PO X (some e) (zsf te):=by
 intro pins s σ H Q I hw; rw [evalPart_some]
 refine thn (h pins s σ H _ I hw) fun u s1 ⟨x,H1,I1,r1,q1⟩=>?_
 obtain ⟨i,rfl,q⟩:=q1; obtain ⟨t,rfl⟩:=r1; exact ⟨some i,H1,I1,.int i t,q⟩
def SlR (X:Cx) (r:V→Option Int→Option Int→Hp→VK→Prop):Prop :=
 ∀ (pins:List (Addr × Obj)) (s:Shared) (σ:St) (H:Hp) (x:V) (v vl vu:Value) (lo hi:Option Int) (sl:Addr) (Q:VK),Inv X pins σ H s→zbA x v→s.heap.IsSliceOf sl vl vu .none→IsPart vl lo→IsPart vu hi→r x lo hi H Q →
  ∃ T id,typeLookup (.type T) "__getitem__"=pure (some (.builtin id))∧s.TypeIs v T∧wpAny (model X.prog X.w) X.A (getItem v (.ref sl)) (EP X pins σ Q) X.xe s
theorem SlR.or {r r':V→Option Int→Option Int→Hp→VK→Prop} (h:SlR X r) (h':SlR X r'):SlR X (fun x lo hi H Q=>r x lo hi H Q∨r' x lo hi H Q):=by
 intro pins s σ H x v vl vu lo hi sl Q I rx hs pl pu q
 rcases q with q | q
 ·exact h pins s σ H x v vl vu lo hi sl Q I rx hs pl pu q
 ·exact h' pins s σ H x v vl vu lo hi sl Q I rx hs pl pu q
def tSl (r:V→Option Int→Option Int→Hp→VK→Prop) (te:TE) (tl th:TO):TE:=fun σ H Q=>te σ H fun x H1=>tl σ H1 fun l H2=>th σ H2 fun u H3=>r x l u H3 Q
theorem zmb {r:V→Option Int→Option Int→Hp→VK→Prop} (hr:SlR X r) (he:PE X e te) (hl:PO X lo tl) (hu:PO X hi th):PE X (.Subscript e (.Slice lo hi none p2) pos) (tSl r te tl th):=by
 intro pins s σ H Q I h
 refine Subscript_ (thn (he pins s σ H _ I h) fun v s1 ⟨x,H1,I1,r1,q1⟩=>?_)
 refine wpAny_Slice (thn (hl pins s1 σ H1 _ I1 q1) fun vl s2 ⟨l,H2,I2,pl,q2⟩=>thn (hu pins s2 σ H2 _ I2 q2) fun vu s3 ⟨u,H3,I3,pu,q3⟩=>?_)
 rw [evalPart_none]; refine wpAny_pure ?_
 have I4:Inv X pins σ H3 { s3 with heap:=s3.heap.push { cls:=.type "slice",data:=.fields #[vl,vu,.none] } }:=I3.kept (t':=s3.toks) fun b ob q=>Heap.get?_push_of_some _ q
 obtain ⟨T,id,hT,ht,hg⟩:=hr pins { s3 with heap:=s3.heap.push { cls:=.type "slice",data:=.fields #[vl,vu,.none] } } σ H3 x v vl vu l u s3.heap.objs.size Q I4 r1 (Heap.IsSliceOf.new ..) pl pu q3
 show wpAny (model X.prog X.w) X.A (subscriptTail e (.Slice lo hi none p2) v (.ref s3.heap.objs.size)) (EP X pins σ Q) X.xe { s3 with heap:=s3.heap.push { cls:=.type "slice",data:=.fields #[vl,vu,.none] } }
 exact tail_any (ops:=[.ref s3.heap.objs.size,v]) ht hT hg (by with_unfolding_all rfl)
def zld (xs:List V) (lo hi:Option Int):List V:=(xs.drop (HT.sIx xs.length 0 lo)).take (HT.sIx xs.length xs.length hi-HT.sIx xs.length 0 lo)
theorem ze0 (xs:List V) (lo hi:Option Int):(zld xs lo hi).length≤xs.length:=by
 unfold zld; rw [List.length_take,List.length_drop]; omega
def zuo (K:PySem.W.Frag):V→Option Int→Option Int→Hp→VK→Prop:=fun x lo hi H Q=>∃ a xs,x=.ref a∧SqT K H a xs ∧
 ¬ (HT.sIx xs.length 0 lo=0∧HT.sIx xs.length xs.length hi=xs.length)∧∀ p,H p=none→Q (.ref p) (upd H p (.tup (zld xs lo hi)))
theorem zpX:SlR X (zuo X.K):=by
 intro pins s σ H x v vl vu lo hi sl Q I rx hs pl pu h; obtain ⟨a,xs,rfl,hx,hw,q⟩:=h; cases rx; obtain ⟨its,r,ht,hz⟩:=I.tuple hx
 have hlen:its.toArray.size=xs.length:=by rw [List.size_toArray]; exact r.length.symm
 refine ⟨"tuple",_,PyProof.Rows.slot_tuple_getitem.lookup,ht.typeIs,?_⟩
 refine HT.getItem_tuple_cut ht hs pl pu (by rw [hlen]; exact hw) ?_ (by rw [hlen]; exact hz)
 rw [hlen]
 refine ⟨.ref s.heap.objs.size,_,I.laid (t':=s.toks) (o:=.tup (zld xs lo hi)) (fun b ob q=>Heap.get?_push_of_some _ q) (Nat.le_refl _) ?_,rfl,q _ (I.hok.fresh (Nat.le_refl _))⟩
 exact ⟨Nat.le_trans (ze0 xs lo hi) hz,_,(r.drop (HT.sIx xs.length 0 lo)).take (HT.sIx xs.length xs.length hi-HT.sIx xs.length 0 lo),IsTup.new _ _⟩
def zsG (K:PySem.W.Frag):R2:=fun x y H Q=>∃ a b xs ys,x=.ref a∧y=.ref b∧SqT K H a xs∧SqT K H b ys∧xs≠[]∧xs.length+ys.length≤sizeLine ∧
 (ys=[]→Q (.ref a) H)∧(ys≠[]→∀ p,H p=none→Q (.ref p) (upd H p (.tup (xs ++ ys))))
theorem za5.nil_iff {xs:List V} {us:List Value} (r:za5 xs us):us=[]↔xs=[]:=by
 cases r with
 | nil=>simp
 | cons _ _=>simp
theorem zoI:OpR X (binaryOp .Add) (zsG X.K):=by
 intro pins s σ H x y v u Q I rx ry h; obtain ⟨a,b,xs,ys,rfl,rfl,ha,hb,hx,hz,q1,q2⟩:=h; cases rx; cases ry; obtain ⟨its,r1,p1,_⟩:=I.tuple ha; obtain ⟨its2,r2,p2,_⟩:=I.tuple hb
 refine HT.cat_tup p1 p2 (fun z=>hx (r1.nil_iff.mp z)) (fun z=>⟨.ref a,H,I,rfl,q1 (r2.nil_iff.mp z)⟩) (fun z=>?_) (by rw [← r1.length,← r2.length]; exact hz)
 refine ⟨.ref s.heap.objs.size,_,I.laid (t':=s.toks) (o:=.tup (xs ++ ys)) (fun b ob q=>Heap.get?_push_of_some _ q) (Nat.le_refl _) ?_,rfl,q2 (fun w=>z (r2.nil_iff.mpr w)) _ (I.hok.fresh (Nat.le_refl _))⟩
 exact ⟨by rw [List.length_append]; exact hz,_,r1.append r2,IsTup.new _ _⟩
end
end L2
namespace L2
open PySem PySem.Spec PyProof.Rows
def ixN (n:Nat) (i:Int):Option Nat:=if 0≤i then (if i<n then some i.toNat else none) else if -(n:Int)≤i then some (i+n).toNat else none
def atI {α:Type} (xs:List α) (i:Int):Option α:=(ixN xs.length i).bind fun j=>xs[j]?
theorem zo7 {n:Nat} {i:Int} {j:Nat} (h:ixN n i=some j):seqIndex? i n=some j∧j<n∧-(n:Int)≤i∧i<n:=by
 unfold ixN at h
 by_cases h0:0≤i
 ·rw [if_pos h0] at h
  by_cases h1:i<n
  ·rw [if_pos h1] at h
   have e:i.toNat=j:=Option.some.inj h
   exact ⟨by rw [seqIndex_of h0 h1,e],by omega,by omega,h1⟩
  ·rw [if_neg h1] at h; cases h
 ·rw [if_neg h0] at h
  by_cases h1:-(n:Int)≤i
  ·rw [if_pos h1] at h
   have e:(i+n).toNat=j:=Option.some.inj h
   exact ⟨by rw [seqIndex_neg (by omega) h1,e],by omega,h1,by omega⟩
  ·rw [if_neg h1] at h; cases h
theorem zhU {α:Type} {xs:List α} {i:Int} {v:α} (h:atI xs i=some v):∃ j,seqIndex? i xs.length=some j∧xs[j]?=some v∧j<xs.length∧-(xs.length:Int)≤i∧i<xs.length:=by
 unfold atI at h
 cases e:ixN xs.length i with
 | none=>rw [e] at h; cases h
 | some j =>
  rw [e] at h; obtain ⟨h1,h2,h3,h4⟩:=zo7 e; exact ⟨j,h1,h,h2,h3,h4⟩
theorem zbH {α:Type} {xs:List α} {j:Nat} {v:α} (h:xs[j]?=some v):atI xs (j:Int)=some v:=by
 have hj:j<xs.length:=(List.getElem?_eq_some_iff.mp h).1
 have e:ixN xs.length (j:Int)=some j:=by
  unfold ixN
  rw [if_pos (by omega),if_pos (by omega)]; simp
 unfold atI; rw [e]; exact h
theorem ziI {α:Type} (xs:List α) (v:α):atI (xs ++ [v]) (-1)=some v:=by
 have hl:(xs ++ [v]).length=xs.length+1:=by simp
 have e:ixN (xs ++ [v]).length (-1)=some xs.length:=by
  unfold ixN
  rw [hl,if_neg (by decide),if_pos (by omega)]
  congr 1
  omega
 unfold atI; rw [e]
 show (xs ++ [v])[xs.length]?=some v
 simp
def zhV (b:Expr):Prop:=∀ o i,subscripted b false o i=operate [o,i] (getItem o i)
def IxR (X:Cx) (r:R2):Prop :=
 ∀ (value slice:Expr) (pins:List (Addr × Obj)) (s:Shared) (σ:St) (H:Hp) (x y:V) (v u:Value) (Q:VK),Inv X pins σ H s→zbA x v→zbA y u→r x y H Q →
  subscripted slice false v u=operate [v,u] (getItem v u)→wpAny (model X.prog X.w) X.A (subscriptTail value slice v u) (EP X pins σ Q) X.xe s
def MtR (X:Cx) (id:String) (r:V→List V→Hp→VK→Prop):Prop :=
 ∀ (pins:List (Addr × Obj)) (s:Shared) (σ:St) (H:Hp) (x:V) (xs:List V) (v:Value) (us:List Value) (Q:VK),Inv X pins σ H s→zbA x v→za5 xs us→r x xs H Q →
  wpAny (model X.prog X.w) X.A (call (.builtin id) (v :: us)) (EP X pins σ Q) X.xe s
section
variable {X:Cx} {a b:Expr} {ta tb:TE} {pos:Pos}
theorem IxR.or {r r':R2} (h:IxR X r) (h':IxR X r'):IxR X (fun x y H Q=>r x y H Q∨r' x y H Q):=by
 intro value slice pins s σ H x y v u Q I rx ry q hs
 rcases q with q | q
 ·exact h value slice pins s σ H x y v u Q I rx ry q hs
 ·exact h' value slice pins s σ H x y v u Q I rx ry q hs
theorem zqs {r:R2} (hr:IxR X r) (ha:PE X a ta) (hb:PE X b tb) (hs:zhV b):PE X (.Subscript a b pos) (tOp r ta tb):=by
 intro pins s σ H Q I h
 exact Subscript_ (ztB ha hb I h fun v u s2 x y H2 I2 rx ry q=>hr a b pins s2 σ H2 x y v u Q I2 rx ry q (hs _ _))
def ztR (K:PySem.W.Frag):R2:=fun x y H Q=>∃ p xs i v,x=.ref p∧y=.int i∧SqL K H p xs∧atI xs i=some v∧Q v H
def ztP (K:PySem.W.Frag):R2:=fun x y H Q=>∃ p xs i v,x=.ref p∧y=.int i∧SqT K H p xs∧atI xs i=some v∧Q v H
def ztQ:R2:=fun x y H Q=>∃ z i c,x=.str z∧y=.int i∧z.length≤sizeLine∧atI z.cps.toList i=some c∧Q (.str ⟨#[c]⟩) H
theorem zo6:IxR X (ztR X.K):=by
 intro value slice pins s σ H x y v u Q I rx ry h hs; obtain ⟨p,xs,i,z,rfl,rfl,hq,he,q⟩:=h; cases rx; obtain ⟨t,rfl⟩:=ry; obtain ⟨its,r,pl,hz⟩:=I.list hq; obtain ⟨j,h1,h2,h3,h4,h5⟩:=zhU he; obtain ⟨w,ew,rw'⟩:=r.get h2; have hl:=r.length; have hn:=zgA
 have fin:EP X pins σ Q w s:=⟨z,H,I,rw',q⟩
 by_cases h0:0≤i
 ·have hj:i.toNat=j:=by
   rw [seqIndex_of h0 h5] at h1; exact Option.some.inj h1
  exact item_listR pl.isList h0 (by omega) (by rw [hj]; simpa using ew) fin hs
 ·have hj:(i+(its.toArray.size:Int)).toNat=j:=by
   rw [seqIndex_neg (by omega) h4] at h1
   rw [List.size_toArray,← hl]; exact Option.some.inj h1
  exact subscriptTail_builtinR (x:=w) pl.isList.typeIs slot_list_getitem.lookup
   (wpAny_getItem_list_neg (Q:=fun r s'=>r=w∧EP X pins σ Q r s') pl.isList (by omega) (by rw [List.size_toArray] <;> omega) (by omega) (by rw [hj]; simpa using ew) ⟨rfl,fin⟩) hs
theorem zq2:IxR X (ztP X.K):=by
 intro value slice pins s σ H x y v u Q I rx ry h hs; obtain ⟨p,xs,i,z,rfl,rfl,hq,he,q⟩:=h; cases rx; obtain ⟨t,rfl⟩:=ry; obtain ⟨its,r,pl,hz⟩:=I.tuple hq; obtain ⟨j,h1,h2,h3,h4,h5⟩:=zhU he; obtain ⟨w,ew,rw'⟩:=r.get h2; have hl:=r.length; have hn:=zgA
 have fin:EP X pins σ Q w s:=⟨z,H,I,rw',q⟩
 exact subscriptTail_builtinR (x:=w) pl.typeIs slot_tuple_getitem.lookup
  (getItem_tuple (j:=j) (Q:=fun r s'=>r=w∧EP X pins σ Q r s') pl (by omega) (by omega) (by rw [List.size_toArray,← hl]; exact h1) (by simpa using ew) ⟨rfl,fin⟩) hs
theorem zq3:IxR X ztQ:=by
 intro value slice pins s σ H x y v u Q I rx ry h hs; obtain ⟨z,i,c,rfl,rfl,hz,he,q⟩:=h; obtain ⟨t,rfl⟩:=rx; obtain ⟨t',rfl⟩:=ry; obtain ⟨j,h1,h2,h3,h4,h5⟩:=zhU he
 have hl:z.cps.toList.length=z.length:=by simp [Str.length]
 rw [hl] at h1 h4 h5; have hn:=zgA
 exact tail_any (typeIs_str s z t) slot_str_getitem.lookup (getItem_str (c:=c) (by
  have e1:decide (i< -(2 ^ 63:Int))=false:=decide_eq_false (by omega)
  have e2:decide (i ≥ 2 ^ 63)=false:=decide_eq_false (by omega)
  rw [e1,e2,Bool.or_false]) (by rw [h1]; simpa using h2) ⟨.str ⟨#[c]⟩,H,I.tok _,⟨_,rfl⟩,q⟩) hs
def rIx (K:PySem.W.Frag):R2:=fun x y H Q=>ztR K x y H Q∨ztP K x y H Q∨ztQ x y H Q
theorem zq4:IxR X (rIx X.K):=zo6.or (zq2.or zq3)
theorem Inv.lst {pins:List (Addr × Obj)} {σ:St} {H:Hp} {s:Shared} {p:Addr} {xs:List V} (I:Inv X pins σ H s) (h:H p=some (.lst xs)) :
  ∃ (its:List Value) (n:Nat),za5 xs its∧s.heap.get? p=some { cls:=.type "list",data:=.seq its.toArray n }∧xs.length≤sizeLine:=by
 obtain ⟨z,its,n,r,e⟩:=I.hok p _ h; exact ⟨its,n,r,e,z⟩
theorem zgb (lo hi:Option Int) (n:Nat):(sliceBounds lo hi none n).1=((HT.sIx n 0 lo:Nat):Int)∧(sliceBounds lo hi none n).2.1=((HT.sIx n n hi:Nat):Int)∧(sliceBounds lo hi none n).2.2=1:=by
 refine ⟨?_,?_,rfl⟩
 ·cases lo with
  | none=>simp [sliceBounds,HT.sIx]
  | some i =>
   simp only [sliceBounds,HT.sIx,Option.getD_none,show (1:Int) > 0 by decide,if_true]
   by_cases h:i<0
   ·simp only [h,if_true] <;> omega
   ·simp only [h,if_false] <;> omega
 ·cases hi with
  | none=>simp [sliceBounds,HT.sIx]
  | some i =>
   simp only [sliceBounds,HT.sIx,Option.getD_none,show (1:Int) > 0 by decide,if_true]
   by_cases h:i<0
   ·simp only [h,if_true] <;> omega
   ·simp only [h,if_false] <;> omega
theorem zft (its:List Value) (lo hi:Option Int):slicePick its.toArray lo hi none=((its.drop (HT.sIx its.length 0 lo)).take (HT.sIx its.length its.length hi-HT.sIx its.length 0 lo)).toArray:=by
 obtain ⟨h1,h2,h3⟩:=zgb lo hi its.toArray.size; unfold slicePick; rw [h1,h2,h3]
 simp only [sliceRange_one,pick_run,List.size_toArray] <;> rfl
def zuq (K:PySem.W.Frag):V→Option Int→Option Int→Hp→VK→Prop:=fun x lo hi H Q=>∃ a xs,x=.ref a∧SqL K H a xs∧∀ p,H p=none→Q (.ref p) (upd H p (.lst (zld xs lo hi)))
theorem znT:SlR X (zuq X.K):=by
 intro pins s σ H x v vl vu lo hi sl Q I rx hs pl pu h; obtain ⟨a,xs,rfl,hx,q⟩:=h; cases rx; obtain ⟨its,r,ht,hz⟩:=I.list hx; have hlen:=r.length; refine ⟨"list",_,slot_list_getitem.lookup,ht.isList.typeIs,?_⟩
 refine wpAny_getItem_list_slice ht.isList hs pl pu .none (by simp) ?_ (by rw [List.size_toArray] <;> omega)
 rw [zft,← hlen]
 refine ⟨.ref s.heap.objs.size,_,I.laid (t':=s.toks) (o:=.lst (zld xs lo hi)) (fun b ob q=>Heap.get?_push_of_some _ q) (Nat.le_refl _) ?_,rfl,q _ (I.hok.fresh (Nat.le_refl _))⟩
 exact ⟨Nat.le_trans (ze0 xs lo hi) hz,_,0,(r.drop (HT.sIx xs.length 0 lo)).take (HT.sIx xs.length xs.length hi-HT.sIx xs.length 0 lo),Heap.get?_push_size _ rfl⟩
def zeZ:V→Bool
 | .non=>true
 | .bl _=>true
 | .int _=>true
 | .str _=>true
 | _=>false
def eqV:V→V→Bool
 | .non,.non=>true
 | .bl a,.bl b=>a == b
 | .bl a,.int b=>(if a then 1 else 0) == b
 | .int a,.bl b=>a == (if b then 1 else 0)
 | .int a,.int b=>a == b
 | .str a,.str b=>a == b
 | _,_=>false
theorem zk2 {A:Around} {s:Shared} {y x:V} {u v:Value} (ry:zbA y u) (rx:zbA x v) (fy:zeZ y=true) (fx:zeZ x=true):SeqAt.EqAt A s u v (eqV y x):=by
 cases y with
 | non =>
  cases ry
  cases x with
  | non=>cases rx; exact SeqAt.EqAt.same _
  | bl b=>cases rx; exact SeqAt.EqAt.none_bool b
  | int b=>obtain ⟨t,rfl⟩:=rx; exact SeqAt.EqAt.none_int b t
  | str b=>obtain ⟨t,rfl⟩:=rx; exact SeqAt.EqAt.none_str b t
  | _=>exact absurd (show false=true from fx) Bool.false_ne_true
 | bl a =>
  cases ry
  cases x with
  | non=>cases rx; exact SeqAt.EqAt.bool_none a
  | bl b=>cases rx; exact SeqAt.EqAt.bool_bool a b
  | int b=>obtain ⟨t,rfl⟩:=rx; exact SeqAt.EqAt.bool_int a b t
  | str b=>obtain ⟨t,rfl⟩:=rx; exact SeqAt.EqAt.bool_str a b t
  | _=>exact absurd (show false=true from fx) Bool.false_ne_true
 | int a =>
  obtain ⟨t',rfl⟩:=ry
  cases x with
  | non=>cases rx; exact SeqAt.EqAt.int_none a t'
  | bl b=>cases rx; exact SeqAt.EqAt.int_bool a t' b
  | int b=>obtain ⟨t,rfl⟩:=rx; exact SeqAt.EqAt.int_int a t' b t
  | str b=>obtain ⟨t,rfl⟩:=rx; exact SeqAt.EqAt.int_str a t' b t
  | _=>exact absurd (show false=true from fx) Bool.false_ne_true
 | str a =>
  obtain ⟨t',rfl⟩:=ry
  cases x with
  | non=>cases rx; exact SeqAt.EqAt.str_none a t'
  | bl b=>cases rx; exact SeqAt.EqAt.str_bool a t' b
  | int b=>obtain ⟨t,rfl⟩:=rx; exact SeqAt.EqAt.str_int a t' b t
  | str b=>obtain ⟨t,rfl⟩:=rx; exact SeqAt.EqAt.str_str a t' b t
  | _=>exact absurd (show false=true from fx) Bool.false_ne_true
 | _=>exact absurd (show false=true from fy) Bool.false_ne_true
def eqU (x:V) (u:Value):Bool:=match u with
 | .none=>eqV .non x
 | .bool b=>eqV (.bl b) x
 | .int i _=>eqV (.int i) x
 | .str z _=>eqV (.str z) x
 | _=>false
theorem znD {x y:V} {u:Value} (r:zbA y u) (f:zeZ y=true):eqU x u=eqV y x:=by
 cases y with
 | non=>cases r; rfl
 | bl b=>cases r; rfl
 | int i=>obtain ⟨t,rfl⟩:=r; rfl
 | str z=>obtain ⟨t,rfl⟩:=r; rfl
 | _=>exact absurd (show false=true from f) Bool.false_ne_true
theorem ze2 {x:V}:∀ {xs:List V} {us:List Value},za5 xs us→xs.all zeZ=true→us.any (eqU x)=xs.any fun y=>eqV y x
 | _,_,.nil,_=>rfl
 | y :: xs,u :: us,.cons r t,f=>by
  rw [List.all_cons,Bool.and_eq_true] at f; rw [List.any_cons,List.any_cons,znD r f.1,ze2 t f.2]
theorem zdQ {A:Around} {s:Shared} {x:V} {v:Value} (rx:zbA x v) (fx:zeZ x=true):∀ {xs:List V} {us:List Value},za5 xs us→xs.all zeZ=true→∀ u ∈ us,SeqAt.EqAt A s u v (eqU x u)
 | _,_,.nil,_=>fun u hu=>by cases hu
 | y :: xs,u :: us,.cons r t,f=>fun u' hu=>by
  rw [List.all_cons,Bool.and_eq_true] at f
  rcases List.mem_cons.mp hu with rfl | hu
  ·rw [znD r f.1]; exact zk2 r rx f.1 fx
  ·exact zdQ rx fx t f.2 u' hu
def inV (x:V) (xs:List V):Bool:=xs.any fun y=>eqV y x
def rIn (K:PySem.W.Frag) (neg:Bool):R2:=fun x y H Q=>∃ p xs,y=.ref p∧(SqL K H p xs∨SqT K H p xs)∧zeZ x=true∧xs.all zeZ=true∧Q (.bl (if neg then !inV x xs else inV x xs)) H
theorem zks:OpR X (compareOp .In) (rIn X.K false):=by
 intro pins s σ H x y v u Q I rx ry h; obtain ⟨p,xs,rfl,hq,fx,fs,q⟩:=h; cases ry
 rcases hq with hq | hq
 ·obtain ⟨its,r,pl,hz⟩:=I.list hq
  refine SeqAt.in_listAt (eqU x) pl.isList (fun w hw=>zdQ rx fx r fs w (by simpa using hw)) ⟨.bl _,H,I,rfl,?_⟩
  rw [show its.toArray.any (eqU x)=its.any (eqU x) by simp,ze2 r fs]
  exact q
 ·obtain ⟨its,r,pl,hz⟩:=I.tuple hq
  refine SeqAt.in_tupleAt (eqU x) pl (fun w hw=>zdQ rx fx r fs w (by simpa using hw)) ⟨.bl _,H,I,rfl,?_⟩
  rw [show its.toArray.any (eqU x)=its.any (eqU x) by simp,ze2 r fs]
  exact q
theorem zgp:OpR X (compareOp .NotIn) (rIn X.K true):=by
 intro pins s σ H x y v u Q I rx ry h; obtain ⟨p,xs,rfl,hq,fx,fs,q⟩:=h; cases ry
 rcases hq with hq | hq
 ·obtain ⟨its,r,pl,hz⟩:=I.list hq
  refine SeqAt.notIn_listAt (eqU x) pl.isList (fun w hw=>zdQ rx fx r fs w (by simpa using hw)) ⟨.bl _,H,I,rfl,?_⟩
  rw [show its.toArray.any (eqU x)=its.any (eqU x) by simp,ze2 r fs]
  exact q
 ·obtain ⟨its,r,pl,hz⟩:=I.tuple hq
  refine SeqAt.notIn_tupleAt (eqU x) pl (fun w hw=>zdQ rx fx r fs w (by simpa using hw)) ⟨.bl _,H,I,rfl,?_⟩
  rw [show its.toArray.any (eqU x)=its.any (eqU x) by simp,ze2 r fs]
  exact q
theorem zg2:zcy X (.builtin "len") (fun xs H Q=>∃ p ys,xs=[.ref p]∧(SqL X.K H p ys∨SqT X.K H p ys)∧Q (.int ys.length) H):=by
 intro pins s σ H xs us Q I r h; obtain ⟨p,ys,rfl,hq,q⟩:=h; obtain ⟨u,rfl,rx⟩:=zcU r; cases rx; have hn:=zgA
 rcases hq with hq | hq
 ·obtain ⟨its,r',pl,hz⟩:=I.list hq
  have hlen:=r'.length
  exact Calls.call_len_list pl.isList (by simp only [List.size_toArray] <;> omega) ⟨.int ys.length,H,I.tok _,⟨s.toks+1,by rw [List.size_toArray,hlen]⟩,q⟩
 ·obtain ⟨its,r',pl,hz⟩:=I.tuple hq
  have hlen:=r'.length
  exact len_tuple pl (by simp only [List.size_toArray] <;> omega) ⟨.int ys.length,H,I.tok _,⟨s.toks+1,by rw [List.size_toArray,hlen]⟩,q⟩
theorem zg1:zcy X (.builtin "len") (fun xs H Q=>∃ z,xs=[.str z]∧z.length≤sizeLine∧Q (.int z.length) H):=by
 intro pins s σ H xs us Q I r h; obtain ⟨z,rfl,hz,q⟩:=h; obtain ⟨u,rfl,t,rfl⟩:=zcU r; have hn:=zgA
 exact len_str (by omega) ⟨.int z.length,H,I.tok _,⟨_,rfl⟩,q⟩
theorem zcy.or {f:Value} {r r':List V→Hp→VK→Prop} (h:zcy X f r) (h':zcy X f r'):zcy X f (fun xs H Q=>r xs H Q∨r' xs H Q):=by
 intro pins s σ H xs us Q I rs q
 rcases q with q | q
 ·exact h pins s σ H xs us Q I rs q
 ·exact h' pins s σ H xs us Q I rs q
theorem zg0:zcy X (.type "list") (fun xs H Q=>∃ p ys,xs=[.ref p]∧(SqL X.K H p ys∨SqT X.K H p ys)∧∀ l,H l=none→Q (.ref l) (upd H l (.lst ys))):=by
 intro pins s σ H xs us Q I r h; obtain ⟨p,ys,rfl,hq,q⟩:=h; obtain ⟨u,rfl,rx⟩:=zcU r; cases rx
 have fin:∀ (its:List Value),za5 ys its→ys.length≤sizeLine→∀ (h':Heap) (c':Nat),(∀ b o',s.heap.get? b=some o'→h'.get? b=some o') →
   h'.get? s.heap.objs.size=some { cls:=.type "list",dict:=none,data:=.seq its.toArray c',slots:=#[] }→EP X pins σ Q (.ref s.heap.objs.size) { s with heap:=h' }:=fun its r' hz h' c' kp e =>
  ⟨.ref s.heap.objs.size,_,I.laid (t':=s.toks) kp (Nat.le_refl _) (show zbG X.prog X.w _ h' _ (.lst ys) from ⟨hz,its,c',r',e⟩),rfl,q _ (I.hok.fresh (Nat.le_refl _))⟩
 rcases hq with hq | hq
 ·obtain ⟨its,r',pl,hz⟩:=I.list hq
  have hlen:=r'.length; obtain ⟨o,ho,hc,n,hd⟩:=pl.isList
  exact call_list_seq p (.inl rfl) ho hc hd (fun h' c' kp e=>fin its r' hz h' c' kp e) (by simp only [List.size_toArray] <;> omega)
 ·obtain ⟨its,r',pl,hz⟩:=I.tuple hq
  have hlen:=r'.length; obtain ⟨o,ho,hc,n,hd⟩:=pl
  exact call_list_seq p (.inr rfl) ho hc hd (fun h' c' kp e=>fin its r' hz h' c' kp e) (by simp only [List.size_toArray] <;> omega)
theorem zf1:zcy X (.type "tuple") (fun xs H Q=>∃ p ys,xs=[.ref p]∧((SqL X.K H p ys∧∀ l,H l=none→Q (.ref l) (upd H l (.tup ys)))∨(SqT X.K H p ys∧Q (.ref p) H))):=by
 intro pins s σ H xs us Q I r h; obtain ⟨p,ys,rfl,h⟩:=h; obtain ⟨u,rfl,rx⟩:=zcU r; cases rx
 rcases h with ⟨hq,q⟩ | ⟨hq,q⟩
 ·obtain ⟨its,r',pl,hz⟩:=I.list hq
  have hlen:=r'.length
  refine call_tuple_list pl.isList (fun h' kp=>?_) (by simp only [List.size_toArray] <;> omega)
  have I1:Inv X pins σ H { s with heap:=h' }:=I.kept (t':=s.toks) kp
  have I2:Inv X pins σ (upd H h'.objs.size (.tup ys)) { s with heap:=h'.push { cls:=.type "tuple",data:=.seq its.toArray } } :=
   I1.laid (t':=s.toks) (fun b o e=>Heap.get?_push_of_some _ e) (Nat.le_refl _) (show zbG X.prog X.w _ _ _ (.tup ys) from ⟨hz,its,r',IsTup.new _ _⟩)
  exact ⟨.ref h'.objs.size,_,I2,rfl,q _ (I1.hok.fresh (Nat.le_refl _))⟩
 ·obtain ⟨its,r',pl,hz⟩:=I.tuple hq
  exact call_tuple_same pl ⟨.ref p,H,I,rfl,q⟩
def tyV (K:PySem.W.Frag) (T:String) (x:V) (H:Hp):Prop:=match x with
 | .str _=>T="str"
 | .int _=>T="int"
 | .ref p=>(T="list"∧∃ xs,SqL K H p xs)∨(T="tuple"∧∃ o,K.lookup p=some o∧o.cls=.type "tuple"∧o.dict=none) ∨
   (T="dict"∧((∃ kvs,H p=some (.dK kvs))∨∃ kvs,H p=some (.dT kvs)))∨(T="set"∧∃ S n,H p=some (.set S n))
 | _=>False
theorem zm9 {pins:List (Addr × Obj)} {σ:St} {H:Hp} {s:Shared} {T:String} {x:V} {v:Value} (I:Inv X pins σ H s) (r:zbA x v) (ty:tyV X.K T x H) :
  s.TypeIs v T∧∀ a,v=.ref a→∃ ob,s.heap.get? a=some ob∧ob.dict=none:=by
 cases x with
 | str z =>
  obtain ⟨t,rfl⟩:=r
  cases (show T="str" from ty)
  exact ⟨typeIs_str s z t,fun _ e=>nomatch e⟩
 | int i =>
  obtain ⟨t,rfl⟩:=r
  cases (show T="int" from ty)
  exact ⟨typeIs_int s i t,fun _ e=>nomatch e⟩
 | ref p =>
  cases r
  rcases ty with ⟨rfl,xs,hq⟩ | ⟨rfl,o,hk,hc,hd⟩ | ⟨rfl,hk⟩ | ⟨rfl,S,n,hk⟩
  ·obtain ⟨its,_,pl,_⟩:=I.list hq
   refine ⟨pl.isList.typeIs,fun a e=>?_⟩
   cases e; obtain ⟨o,n,e,c,hd,_⟩:=pl; exact ⟨o,e,hd⟩
  ·refine ⟨⟨o,I.kIn p o hk,hc⟩,fun a e=>?_⟩
   cases e; exact ⟨o,I.kIn _ o hk,hd⟩
  ·have z:∃ o,s.heap.get? p=some o∧o.ExactDict:=by
    rcases hk with ⟨kvs,hk⟩ | ⟨kvs,hk⟩
    ·obtain ⟨_,_,_,_,o,_,_,e,ex,_⟩:=I.hok p _ hk
     exact ⟨o,e,ex⟩
    ·obtain ⟨_,_,_,_,o,_,_,e,ex,_⟩:=I.hok p _ hk
     exact ⟨o,e,ex⟩
   obtain ⟨o,e,ex⟩:=z
   refine ⟨⟨o,e,ex.1⟩,fun a e2=>?_⟩
   cases e2; exact ⟨o,e,ex.2.1⟩
  ·obtain ⟨o,_,_,_,e,ex,_⟩:=I.hok p _ hk
   refine ⟨⟨o,e,ex.1⟩,fun a e2=>?_⟩
   cases e2; exact ⟨o,e,ex.2.1⟩
 | _=>exact False.elim ty
def zui (K:PySem.W.Frag) (T:String) (r:V→List V→Hp→VK→Prop) (to:TE):TE:=fun σ H Q=>to σ H fun x H1=>tyV K T x H1∧r x [] H1 Q
def tBM (K:PySem.W.Frag) (T:String) (r:V→List V→Hp→VK→Prop) (to:TE) (t:TA):TE:=fun σ H Q=>to σ H fun x H1=>tyV K T x H1∧t σ H1 fun xs H2=>r x xs H2 Q
variable {o e:Expr} {es:List Expr} {to:TE} {t:TA} {name:Str} {apos cpos:Pos} {T id:String} {r:V→List V→Hp→VK→Prop}
theorem zqw (pa:PlainAttrs T) (slot:Slot T name id) (hty:typeOf (.builtin id)=pure (.type "method_descriptor")) (hm:MtR X id r) (ho:PE X o to)
  (hbase:attributeBase o name X.env (eval o X.env)=eval o X.env:=by rfl) (hline:(apos.endLine == cpos.line)=true:=by rfl):PE X (.Call (.Attribute o name apos) [] [] cpos) (zui X.K T r to):=by
 intro pins s σ H Q I h
 refine wpAny_Call_method0_late hbase hline (thn (ho pins s σ H _ I h) fun v s1 ⟨x,H1,I1,r1,ty,q1⟩=>?_)
 obtain ⟨h1,h2⟩:=zm9 I1 r1 ty; exact ⟨T,id,pa,slot,hty,h1,h2,Calls.callWith_builtin rfl (PySem.evalArgs_none (hm pins s1 σ H1 x [] v [] Q I1 r1 .nil q1))⟩
theorem zoA (pa:PlainAttrs T) (slot:Slot T name id) (hty:typeOf (.builtin id)=pure (.type "method_descriptor")) (hm:MtR X id r) (ho:PE X o to) (ha:PA X (e :: es) t)
  (hbase:attributeBase o name X.env (eval o X.env)=eval o X.env:=by rfl)
  (hfew:((backTo cpos (starEach (e :: es) X.env)).all (fun x=>!x.1) && (backToKw cpos (keywordEach [] X.env)).all (fun x=>x.1.isSome)
   && decide ((e :: es).length+([]:List Keyword).length+(if ([]:List Keyword).isEmpty then 0 else 1)<30))=true:=by rfl)
  (hline:(apos.endLine == cpos.line)=true:=by rfl) (hs:starEach (e :: es) X.env=(false,eval e X.env) :: starEach es X.env:=by rfl) (hplain:(backTo cpos (starEach es X.env)).any (·.1)=false:=by rfl) :
  PE X (.Call (.Attribute o name apos) (e :: es) [] cpos) (tBM X.K T r to t):=by
 intro pins s σ H Q I h
 refine wpAny_Call_method_late hbase hfew hline rfl (thn (ho pins s σ H _ I h) fun v s1 ⟨x,H1,I1,r1,ty,q1⟩=>?_)
 obtain ⟨h1,h2⟩:=zm9 I1 r1 ty; refine ⟨T,id,pa,slot,hty,h1,h2,?_⟩; have hA:=ha cpos pins s1 σ H1 _ I1 q1; rw [hs] at hA ⊢
 refine Calls.callWith_builtin (by show (false || (backTo cpos (starEach es X.env)).any (·.1))=false; rw [hplain] <;> rfl) (Calls.evalArgs_plain ?_)
 exact thn hA fun us s2 ⟨vs,H2,I2,r2,q2⟩=>hm pins s2 σ H2 x vs v us Q I2 r1 r2 q2
end
end L2
namespace L2
open PySem PySem.Spec PyProof.Rows
def MtM (X:Cx) (id:String) (r:V→List V→Hp→VK→Prop):Prop :=
 ∀ (pins:List (Addr × Obj)) (s:Shared) (σ:St) (H:Hp) (x:V) (xs:List V) (v:Value) (us:List Value) (Q:VK),Inv X pins σ H s→zbA x v→za5 xs us→r x xs H Q →
  wpAny (model X.prog X.w) X.A (call (.builtin id) (v :: us)) (EP X pins σ Q) X.xe s
theorem za5.one:∀ {x:V} {us:List Value},za5 [x] us→∃ u,us=[u]∧zbA x u
 | _,_,.cons r .nil=>⟨_,rfl,r⟩
theorem za5.zero:∀ {us:List Value},za5 [] us→us=[]
 | _,.nil=>rfl
theorem za5.dropLast {xs:List V} {us:List Value} (h:za5 xs us):za5 xs.dropLast us.dropLast:=by
 induction h with
 | nil=>exact .nil
 | cons r t ih =>
  cases t with
  | nil=>exact .nil
  | cons q t'=>exact .cons r ih
theorem za5.reverse {xs:List V} {us:List Value} (h:za5 xs us):za5 xs.reverse us.reverse:=by
 induction h with
 | nil=>exact .nil
 | cons r t ih=>rw [List.reverse_cons,List.reverse_cons]; exact za5.append ih (.cons r .nil)
theorem za5.rep {xs:List V} {us:List Value} (h:za5 xs us):∀ k:Nat,za5 (List.replicate k xs).flatten (List.replicate k us).flatten
 | 0=>.nil
 | k+1=>by
  rw [List.replicate_succ,List.replicate_succ,List.flatten_cons,List.flatten_cons]; exact za5.append h (za5.rep h k)
theorem foldl_rep (its:List Value):∀ (k:Nat) (acc:List Value),
  List.foldl (fun x1 x2=>x1 ++ x2) acc.toArray (List.replicate k its.toArray)=(acc ++ (List.replicate k its).flatten).toArray
 | 0,acc=>by simp
 | k+1,acc=>by
  have e:acc.toArray ++ its.toArray=(acc ++ its).toArray:=by simp
  have e2:(acc ++ its) ++ (List.replicate k its).flatten=acc ++ (List.replicate (k+1) its).flatten:=by
   rw [List.replicate_succ,List.flatten_cons,List.append_assoc]
  rw [← e2,← foldl_rep its k (acc ++ its),← e,List.replicate_succ,List.foldl_cons]
section
variable {X:Cx} {pins:List (Addr × Obj)} {σ:St} {H:Hp} {s:Shared} {l b:Addr} {xs ys zs:List V}
theorem Inv.lset {its its':List Value} {n:Nat} {f:Array Value→Array Value} {t':Nat} (I:Inv X pins σ H s) (hH:H l=some (.lst xs))
  (e:s.heap.get? l=some { cls:=.type "list",data:=.seq its.toArray n }) (hf:f its.toArray=its'.toArray) (hv:za5 ys its') (hz:ys.length≤sizeLine) :
  Inv X pins σ (upd H l (.lst ys)) { s with heap:=s.heap.update l (Obj.mapSeq f),toks:=t' }:=by
 have q:=PySem.IsL.update e f; rw [hf] at q
 refine I.write (x:=l) (e:=l) (by rw [hH]; exact trivial) (.inl rfl) (fun b' u hb hu=>(Heap.get?_update_other s.heap (Obj.mapSeq f) (Ne.symm hb)).trans hu) ⟨_,q⟩ ?_
 exact ⟨hz,its',_,hv,q⟩
theorem Inv.lnew {its:List Value} {t':Nat} (I:Inv X pins σ H s) (hv:za5 ys its) (hz:ys.length≤sizeLine) :
  Inv X pins σ (upd H s.heap.objs.size (.lst ys)) { s with heap:=s.heap.push { cls:=.type "list",data:=.seq its.toArray },toks:=t' } :=
 I.laid (fun _ _ q=>Heap.get?_push_of_some _ q) (Nat.le_refl _) ⟨hz,its,0,hv,Heap.get?_push_size _ rfl⟩
theorem Inv.fresh (I:Inv X pins σ H s):H s.heap.objs.size=none:=I.hok.fresh (Nat.le_refl _)
theorem Inv.lstM (I:Inv X pins σ H s) (hH:H l=some (.lst xs)):xs.length≤sizeLine∧∃ (its:List Value) (n:Nat),za5 xs its∧xs.length=its.length∧s.heap.get? l=some { cls:=.type "list",data:=.seq its.toArray n }:=by
 obtain ⟨z,its,n,r,e⟩:=I.hok l _ hH; exact ⟨z,its,n,r,r.length,e⟩
theorem zrV {n:Nat} (h:n≤sizeLine):Builtin.List.listTooLong n=false:=by
 unfold Builtin.List.listTooLong
 exact decide_eq_false (by omega)
end
section
variable {X:Cx}
def zn6:V→List V→Hp→VK→Prop:=fun x vs H Q=>∃ l xs y,x=.ref l∧vs=[y]∧H l=some (.lst xs)∧xs.length<sizeLine∧Q .non (upd H l (.lst (xs ++ [y])))
theorem zdP:MtM X "list.append" zn6:=by
 intro pins s σ H x vs v us Q I rx rv h; obtain ⟨l,xs,y,rfl,rfl,hH,hz,q⟩:=h; cases rx; obtain ⟨u,rfl,ru⟩:=rv.one; obtain ⟨z,its,n,r,hl,e⟩:=I.lstM hH
 refine call_meets F.slot_list_append ⟨_,e,rfl⟩ F.entry_list_append (F.args_list_append_2 _ _) (PySem.list_append l its.toArray n u (by rw [List.size_toArray]; omega)) ⟨e,?_⟩
 refine ⟨.non,_,I.lset (its':=its ++ [u]) hH e (by simp) (r.append (.cons ru .nil)) ?_,rfl,q⟩
 rw [List.length_append,List.length_singleton]; omega
def zlS:V→List V→Hp→VK→Prop:=fun x vs H Q=>∃ l xs,x=.ref l∧vs=[]∧H l=some (.lst xs)∧Q .non (upd H l (.lst xs.reverse))
theorem zjc:MtM X "list.reverse" zlS:=by
 intro pins s σ H x vs v us Q I rx rv h; obtain ⟨l,xs,rfl,rfl,hH,q⟩:=h; cases rx; have hus:=rv.zero; subst hus; obtain ⟨z,its,n,r,hl,e⟩:=I.lstM hH
 refine call_meets F.slot_list_reverse ⟨_,e,rfl⟩ F.entry_list_reverse (F.args_list_reverse_1 _) (AutoSeq1.list_reverse_list_0 l its.toArray n (by rw [List.size_toArray]; omega)) ⟨e,?_⟩
 refine ⟨.non,_,I.lset (its':=its.reverse) hH e (by simp) r.reverse ?_,rfl,q⟩
 rw [List.length_reverse]; omega
theorem len_rep {α:Type} (xs:List α) (k:Nat):(List.replicate k xs).flatten.length=k * xs.length:=by
 induction k with
 | zero=>simp
 | succ k ih=>rw [List.replicate_succ,List.flatten_cons,List.length_append,ih,Nat.succ_mul,Nat.add_comm]
end
section
variable {prog:Program} {w:World} {A:Around} {E:Value→Shared→Prop} {s:Shared}
set_option maxRecDepth 100000 in
end
section
variable {X:Cx}
end
end L2
namespace Att
open PySem PySem.W PySem.Calls PyProof.Rows
theorem zeU {P:Params} {h:Heap}:∀ (ns:List Int) (vs:List Value),WellAll P h vs (ns.map WData.int)→IntsAre vs ns:=by
 intro ns
 induction ns with
 | nil =>
  intro vs w; rw [List.map_nil] at w; cases w; exact .nil
 | cons n ns ih =>
  intro vs w; rw [List.map_cons] at w
  cases w with
  | cons a b =>
   cases a; exact .cons _ _ (ih _ b)
theorem zjT {l:OpenLaw} {n:Nat} (hn:l.most=some n) {P:Params} {h:Heap} {args:List WData} {vals:List Value}
  (hpre:l.row.toRowW.claim.pre args=true) (hwl:WellAll P h vals args) :
  ∃ a vs ns,vals=[Value.ref a]∧args=[WData.list (ns.map WData.int)]∧h.get? a=some { cls:=.type "list",data:=.seq vs.toArray }∧IntsAre vs ns∧ns.length≤n:=by
 have hsh:WShape.hasAll [] args [.list .int]=true:=(pre_splitW hpre).1
 have hc:l.pre.holds [] { args:=args }=true:=(pre_splitW hpre).2
 obtain ⟨d,r,rfl,h1,h2⟩:=hasAllW_cons hsh
 obtain rfl:=hasAllW_nil h2
 obtain ⟨xs,rfl,h3⟩:=hasW_list h1; obtain ⟨ns,rfl⟩:=items_int h3
 have hlen:ns.length≤n:=by
  unfold OpenLaw.pre at hc
  have h4:(WTm.not (.lt (.lit (.int (n:Int))) (.len (.arg 0)))).holds [] { args:=[.list (ns.map .int)] }=true:=by
   have h4:=(holds_andW hc).1; rw [hn] at h4; exact h4
  have h5:=condW_of h4 (w_not (w_lt w_lit (w_len_list (w_arg rfl)))); rw [List.length_map] at h5
  refine Nat.le_of_not_lt fun q=>?_
  have q':(n:Int)<((ns.length:Nat):Int):=by omega
  first
   | (rw [decide_eq_true q'] at h5; exact absurd h5 (by decide))
   | (simp at h5; omega)
 cases hwl with
 | cons w1 w2 =>
  cases w2
  cases w1 with
  | list ho hall=>exact ⟨_,_,ns,rfl,rfl,ho,zeU ns _ hall,hlen⟩
theorem zkb (l:OpenLaw) (args:List WData):l.row.toRowW.claim.post args (.bool true) args=true :=
 postW_of (r:=l.row.toRowW) (X:=(true == true))
  (show WShape.has [] (.bool true) .bool=true by first | rfl | decide | simp [WShape.has,WShape.arms,WShape.armsAll])
  (show (WTm.eq .res (.lit (.bool true))).value [] { args:=args,res:=some (.bool true),after:=args }=some (.bool (true == true)) from w_eq_bool (w_res rfl) w_lit) rfl
theorem attach_call {l:OpenLaw} {n:Nat} {q:Program} {loose:List Str} {XP:(Str→Option Value)→Heap→Prop} {YP:World→Heap→Prop} {d:DefRec}
  (hn:l.most=some n) (hdf:d.params.defaults=[])
  (call:∀ (w:World) (s₀ s₁:Shared) (mg mb:Str→Option Value) (fa:Addr) (o:Obj) (pm cd doc:Value) (a:Addr) (vs:List Value) (ns:List Int),
   Ground q loose [] XP w s₀ mg mb s₁.heap→YP w s₁.heap →
   s₁.heap.get? fa=some o→o.data=.func (docDef d.name d.params d.body d.scope pm cd doc)→s₁.heap.CodeRec cd d.name→mg d.name=some (.ref fa) →
   s₁.heap.get? a=some { cls:=.type "list",data:=.seq vs.toArray }→IntsAre vs ns→ns.length≤n→s₁.gens=#[] →
   codeAny (model l.prog w) callerA (.call (.ref fa) ⟨[.ref a],[]⟩) (fun r s'=>r=.ok (.ret (.bool true))∧OldK s₁.heap s'.heap∧s'.os=s₁.os∧AllBare s'.gens) s₁) :
  WalkO q loose XP YP l.row.toRowW d [] (fun f vs=>PySem.call f vs):=by
 intro w s₀ s₁ mg mb G Y fa o pm cd doc dV kV ho hd hcd hD hmg hg args vals as hpre hlay hrd hwl hlo
 obtain rfl:dV=.none:=Dflts.none hD hdf
 obtain rfl:kV=.none:=Dflts.noKw hD
 obtain ⟨a,vs,ns,rfl,rfl,hobj,hints,hlen⟩:=zjT hn hpre hwl
 refine enter_call (codeAny_mono (call w s₀ s₁ mg mb fa o pm cd doc a vs ns G Y ho (fd_plain hd) hcd hmg hobj hints hlen hg) fun r s' hq=>?_)
 obtain ⟨rfl,h2,h3,h4⟩:=hq
 exact ⟨.inl ⟨.bool true,.bool true,[],rfl,fun _=>rfl,.bool true,zkb l _,fun _=>⟨List.Pairwise.nil,fun _ hm=>(nomatch hm)⟩⟩,h2,h3,h4⟩
section
variable {prog:Program} {w:World} {A:Around} {E:Value→Shared→Prop} {s:Shared} {K:Frag}
def ztZ (h:Heap) (L d:Addr):List (Addr × Obj):=(List.range h.objs.size).filterMap fun a=>if a=L∨a=d then none else (h.get? a).map fun o=>(a,o)
end
end Att
namespace L2
open PySem PySem.Spec PyProof.Rows
theorem zf5:∀ {vs:List Value} {ns:List Int},IntsAre vs ns→za5 (ns.map V.int) vs
 | _,_,.nil=>.nil
 | _,_,.cons n t h=>.cons ⟨t,rfl⟩ (zf5 h)
end L2
namespace L2
open PySem PySem.Spec PyProof.Rows
end L2
namespace L2
open PySem PySem.Spec PyProof.Rows
def zcx (s:Stmt) (j:Nat):Stmt:=match s with
 | .ClassDef _ _ _ body _ _ _ _ _ _ _=>body.getD j (.Pass ⟨0,0,0,0⟩)
 | _=>.Pass ⟨0,0,0,0⟩
def zbj (s:Stmt):Arguments:=match s with
 | .FunctionDef _ a _ _ _ _ _ _ _ _=>a
 | _=>{ posonlyargs:=[],args:=[],vararg:=none,kwonlyargs:=[],kw_defaults:=[],kwarg:=none,defaults:=[] }
def zaK (s:Stmt):List Stmt:=match s with
 | .FunctionDef _ _ b _ _ _ _ _ _ _=>b
 | _=>[]
def zd (s:Stmt):Scope:=match s with
 | .FunctionDef _ _ _ _ _ _ sc _ _ _=>sc
 | _=>{ kind:=.function,names:=[],isGenerator:=false,isCoroutine:=false }
abbrev CX0:CXT:=fun _ _ _ _ _ _=>False
abbrev E0:XK:=fun _ _ _=>False
theorem ze7 {X:Cx}:ze3 CX0 X E0:=fun _ _ _ _ _ _ _ h=>h.elim
structure Fun (K:PySem.W.Frag) (x qual:Str) (st:Stmt) (f:Addr) (fd:FuncData):Prop where
 ex:∃ (oc:Value) (od:Option Addr) (kV doc pm:Value) (an:Option Addr) (cdv ct:Value) (osl:Array (Option Value)),
  fd=PySem.W.fnOf x qual (zbj st) (zaK st) (zd st) .none kV doc pm an cdv ct∧K.lookup f=some ⟨oc,od,.func fd,osl⟩∧PySem.W.codeIn K cdv qual=true
 kp:PySem.W.keepIn K (.ref f)=true
section
variable {P:Program} {w:World} {K:PySem.W.Frag} {mg:Str→Option Value} {base:Heap}
theorem Fun.ok {x qual:Str} {st:Stmt} {f:Addr} {fd:FuncData} {N ps:List Str} {k:Nat} {sp:Sp} (F:Fun K x qual st f fd) (S:FnScope N ps (zd st)) (len:∀ vs H Q E,sp vs H Q E→vs.length=ps.length)
  (hbody:∀ (cdv:Value) (A:Around) (outer:List Env) (s:Shared) (H:Hp) (vs:List V) (Q:VK) (E:XK),Room k (A.deeper (envOfC qual (zd st) s.heap.objs.size f cdv))→sp vs H Q E →
   ∃ t,PSs (ze4 CX0 P w K mg base N qual (zd st) f cdv A outer s H E).nox (zaK st) t∧t { nx:=fun _ H'=>Q .non H',rt:=Q } (start N vs) H):FnOk P w K mg base CX0 (k+1) f fd ps sp:=by
 obtain ⟨oc,od,kV,doc,pm,an,cdv,ct,osl,rfl,lk,hcd⟩:=F.ex
 refine zra lk hcd S len fun A outer s H vs Q E hr hsp=>?_
 obtain ⟨t,h,q⟩:=hbody cdv A outer s H vs Q E hr hsp; exact ⟨t,h.nox,q⟩
theorem Fun.binds {x qual:Str} {st:Stmt} {f:Addr} {fd:FuncData} {ps:List Str} (F:Fun K x qual st f fd)
  (h:∀ (kV doc pm:Value) (an:Option Addr) (cdv ct:Value) (us:List Value),us.length=ps.length→bindArgs (PySem.W.fnOf x qual (zbj st) (zaK st) (zd st) .none kV doc pm an cdv ct) ⟨us,[]⟩=pure (ps.zip us)):zb1 K fd ps []:=by
 obtain ⟨oc,od,kV,doc,pm,an,cdv,ct,osl,rfl,lk,hcd⟩:=F.ex; exact .all (h kV doc pm an cdv ct)
theorem zcC {x qual:Str} {st:Stmt} {f:Addr} {oc:Value} {od an:Option Addr} {osl:Array (Option Value)} {kV doc pm cdv ct:Value} (l:K.lookup f=some ⟨oc,od,.func (PySem.W.fnOf x qual (zbj st) (zaK st) (zd st) .none kV doc pm an cdv ct),osl⟩)
  (c:PySem.W.codeIn K cdv qual=true) (k:PySem.W.keepIn K (.ref f)=true):Fun K x qual st f (PySem.W.fnOf x qual (zbj st) (zaK st) (zd st) .none kV doc pm an cdv ct):=⟨⟨oc,od,kV,doc,pm,an,cdv,ct,osl,rfl,l,c⟩,k⟩
end
theorem zT {A:Around} {k:Nat} (hr:Room k A):A.units+1<cLine:=Nat.lt_of_le_of_lt (Nat.add_le_add_left (by decide:1≤64) _) hr.units
theorem za6 {n:Nat} (h:n≤1000):n<sizeLine:=Nat.lt_of_le_of_lt h (by decide)
section
variable {X:Cx}
theorem pv (i:Nat) {x:Str} {pos:Pos} (hN:X.N[i]?=some x:=by rfl) (hv:Vis X.env.scope x:=by first | exact Or.inl rfl | exact Or.inr (Or.inl rfl) | exact Or.inr (Or.inr rfl)) (hd:(x == ("__debug__":Str))=false:=by decide)
  (hcd:(x == ("__classdict__":Str))=false:=by decide):PE X (.Name x pos) (ztM i):=zcq hN hv hd hcd
end
def zaW (H H':Hp):Prop:=∀ b o,H b=some o→H' b=some o
theorem zaW.refl (H:Hp):zaW H H:=fun _ _ h=>h
theorem zaW.trans {H H1 H2:Hp} (a:zaW H H1) (b:zaW H1 H2):zaW H H2:=fun c o h=>b c o (a c o h)
theorem zaW.free {H H':Hp} (e:zaW H H') {l:Addr} (h:H' l=Option.none):H l=Option.none:=by
 cases q:H l with
 | none=>rfl
 | some o =>
  rw [e l o q] at h; cases h
theorem zaW.seq {K:PySem.W.Frag} {H H':Hp} {a:Addr} {xs:List V} (e:zaW H H') (h:SqL K H a xs):SqL K H' a xs:=by
 rcases h with (h | ⟨o,h⟩) | h
 ·exact .inl (.inl (e _ _ h))
 ·exact .inl (.inr ⟨o,e _ _ h⟩)
 ·exact .inr h
end L2
namespace L2
open PySem PySem.Spec PyProof.Rows
section
variable {κ:Type} [DecidableEq κ]
def zfs (kvs:List (κ × V)) (k:κ):Option V:=(kvs.find? fun kv=>decide (kv.1=k)).map (·.2)
def zgk (kvs:List (κ × V)) (k:κ) (v:V):List (κ × V) :=
 if (kvs.any fun kv=>decide (kv.1=k))=true then kvs.map (fun kv=>if kv.1=k then (kv.1,v) else kv) else kvs ++ [(k,v)]
theorem zel {p:κ × V} {r:List (κ × V)} {k:κ} (e:p.1=k):zfs (p :: r) k=some p.2:=by simp [zfs,List.find?_cons,e]
theorem zem {p:κ × V} {r:List (κ × V)} {k:κ} (e:¬ p.1=k):zfs (p :: r) k=zfs r k:=by simp [zfs,List.find?_cons,e]
theorem zfr (k:κ):∀ kvs:List (κ × V),(kvs.any fun kv=>decide (kv.1=k))=(zfs kvs k).isSome
 | []=>rfl
 | p :: r=>by
  rw [List.any_cons]
  by_cases e:p.1=k
  ·simp only [zel e,decide_eq_true e,Bool.true_or,Option.isSome_some]
  ·rw [zem e,decide_eq_false e,Bool.false_or]; exact zfr k r
theorem zdy (kvs:List (κ × V)) (k:κ) (v:V):(zgk kvs k v).length≤kvs.length+1:=by
 unfold zgk; split
 ·rw [List.length_map]; omega
 ·rw [List.length_append,List.length_cons,List.length_nil]; omega
theorem zf2.isSome_eq {o:Option V} {u:Option Value} (r:zf2 o u):o.isSome=u.isSome:=by
 cases o with
 | none=>cases u with
  | none=>rfl
  | some _=>exact (show False from r).elim
 | some _=>cases u with
  | none=>exact (show False from r).elim
  | some _=>rfl
theorem zf2.getD {o:Option V} {u:Option Value} {d:V} {d':Value} (r:zf2 o u) (rd:zbA d d'):zbA (o.getD d) (u.getD d'):=by
 cases o with
 | none=>cases u with
  | none=>exact rd
  | some _=>exact (show False from r).elim
 | some _=>cases u with
  | none=>exact (show False from r).elim
  | some _=>exact r
theorem KV.val {kvs:List (κ × V)} {vs:List (κ × Value)} (r:KV kvs vs) (k:κ):zf2 (zfs kvs k) (valueAt vs k):=by
 unfold KV at r
 induction r with
 | nil=>exact True.intro
 | @cons p q ps qs h t ih =>
  obtain ⟨h1,h2⟩:=h
  by_cases e:p.1=k
  ·have e':q.1=k:=h1.symm.trans e
   have b:valueAt (q :: qs) k=some q.2:=by simp [valueAt,List.find?_cons,e']
   rw [zel e,b]; exact h2
  ·have e':¬ q.1=k:=fun z=>e (h1.trans z)
   have b:valueAt (q :: qs) k=valueAt qs k:=by simp [valueAt,List.find?_cons,e']
   rw [zem e,b]; exact ih
theorem KV.any {kvs:List (κ × V)} {vs:List (κ × Value)} (r:KV kvs vs) (k:κ):(kvs.any fun kv=>decide (kv.1=k))=vs.any fun kv=>decide (kv.1=k):=by
 unfold KV at r
 induction r with
 | nil=>rfl
 | cons h t ih=>rw [List.any_cons,List.any_cons,ih,h.1]
theorem KV.repl {kvs:List (κ × V)} {vs:List (κ × Value)} (r:KV kvs vs) (k:κ) {y:V} {u:Value} (ry:zbA y u) :
  KV (kvs.map fun kv=>if kv.1=k then (kv.1,y) else kv) (vs.map fun kv=>if kv.1=k then (kv.1,u) else kv):=by
 unfold KV at r ⊢
 induction r with
 | nil=>exact .nil
 | @cons p q ps qs h t ih =>
  rw [List.map_cons,List.map_cons]; refine .cons ?_ ih; obtain ⟨h1,h2⟩:=h
  by_cases e:p.1=k
  ·rw [if_pos e,if_pos (h1.symm.trans e)]; exact ⟨h1,ry⟩
  ·rw [if_neg e,if_neg (fun z=>e (h1.trans z))]; exact ⟨h1,h2⟩
theorem KV.put {kvs:List (κ × V)} {vs:List (κ × Value)} (r:KV kvs vs) (k:κ) {y:V} {u:Value} (ry:zbA y u):KV (zgk kvs k y) (stored vs k u):=by
 unfold zgk stored; rw [r.any k]
 by_cases e:(vs.any fun kv=>decide (kv.1=k))=true
 ·rw [if_pos e,if_pos e]; exact r.repl k ry
 ·rw [if_neg e,if_neg e]; exact Paired.snoc r ⟨rfl,ry⟩
theorem KV.length {kvs:List (κ × V)} {vs:List (κ × Value)} (r:KV kvs vs):kvs.length=vs.length:=Paired.length r
end
theorem zo4 {P:Program} {w:World} {k:Key} {u:Value} (r:zbA (kV k) u):(zbf P w).is k u=true:=by
 cases k with
 | inl i=>obtain ⟨t,e⟩:=(show ∃ t,u=Value.int i t from r); subst e; exact zhJ P w i t
 | inr x=>obtain ⟨t,e⟩:=(show ∃ t,u=Value.str x t from r); subst e; exact zhI P w x t
theorem zgF {P:Program} {w:World}:∀ {ks:List Key} {us:List Value},za5 (ks.map kV) us→ItemsAre (zbf P w) ks us
 | [],_,r=>by rw [List.map_nil] at r; cases r; exact .nil
 | k :: ks,_,r=>by
  rw [List.map_cons] at r
  cases r with
  | cons h t=>exact .cons (zo4 h) (zgF t)
abbrev KT (H:Hp):List (List Key × V)→List (List Key × Addr × Value)→Prop:=Paired fun p q=>p.1=q.1∧H q.2.1=some (.tup (p.1.map kV))∧zbA p.2 q.2.2
theorem KT.val {H:Hp} {kvs:List (List Key × V)} {xs:List (List Key × Addr × Value)} (r:KT H kvs xs) (k:List Key):zf2 (zfs kvs k) ((atKey xs k).map (·.2)):=by
 induction r with
 | nil=>exact True.intro
 | @cons p q ps qs h t ih =>
  obtain ⟨h1,_,h2⟩:=h
  by_cases e:p.1=k
  ·have e':q.1=k:=h1.symm.trans e
   have b:atKey (q :: qs) k=some q.2:=by simp [atKey,List.find?_cons,e']
   rw [zel e,b]; exact h2
  ·have e':¬ q.1=k:=fun z=>e (h1.trans z)
   have b:atKey (q :: qs) k=atKey qs k:=by simp [atKey,List.find?_cons,e']
   rw [zem e,b]; exact ih
theorem KT.repl {H:Hp} {kvs:List (List Key × V)} {xs:List (List Key × Addr × Value)} (r:KT H kvs xs) (k:List Key) {y:V} {u:Value} (ry:zbA y u) :
  KT H (kvs.map fun kv=>if kv.1=k then (kv.1,y) else kv) (xs.map (putAt k u)):=by
 induction r with
 | nil=>exact .nil
 | @cons p q ps qs h t ih =>
  rw [List.map_cons,List.map_cons]; refine .cons ?_ ih; obtain ⟨h1,h2,h3⟩:=h; unfold putAt
  by_cases e:p.1=k
  ·rw [if_pos e,if_pos (h1.symm.trans e)]; exact ⟨h1,h2,ry⟩
  ·rw [if_neg e,if_neg (fun z=>e (h1.trans z))]; exact ⟨h1,h2,h3⟩
theorem KT.put {H:Hp} {kvs:List (List Key × V)} {xs:List (List Key × Addr × Value)} (r:KT H kvs xs) (k:List Key) {b:Addr} {y:V} {u:Value} (hb:H b=some (.tup (k.map kV))) (ry:zbA y u) :
  KT H (zgk kvs k y) (storedH xs k b u):=by
 have e:(kvs.any fun kv=>decide (kv.1=k))=(atKey xs k).isSome:=by
  rw [zfr,(r.val k).isSome_eq,Option.isSome_map]
 unfold zgk storedH; rw [e]
 by_cases q:(atKey xs k).isSome=true
 ·rw [if_pos q,if_pos q]; exact r.repl k ry
 ·rw [if_neg q,if_neg q]; exact Paired.snoc r ⟨rfl,hb,ry⟩
theorem KT.keeps {H H':Hp} {kvs:List (List Key × V)} {xs:List (List Key × Addr × Value)} (r:KT H kvs xs) (ht:∀ b ys,H b=some (.tup ys)→H' b=some (.tup ys)):KT H' kvs xs :=
 Paired.mapP r fun _ _ z=>⟨z.1,ht _ _ z.2.1,z.2.2⟩
section
variable {P:Program} {w:World} {H:Hp} {h:Heap} {a:Addr}
theorem zp3 {u:HO} (ok:HOk P w H h) (e:Rd H a u):zbG P w H h a u:=e.ok ok
theorem zrf {kvs:List (Key × V)} (ok:HOk P w H h) (e:Rd H a (.dK kvs)):kvs.length≤sizeLine∧(a == sysModules)=false∧∃ vs,KV kvs vs∧h.DictOf (zbf P w) a vs :=
 show zbG P w H h a (.dK kvs) from zp3 ok e
theorem ztl {kvs:List (Key × V)} (ok:HOk P w H h) (e:H a=some (.dK kvs)):kvs.length≤sizeLine∧(a == sysModules)=false∧∃ vs,KV kvs vs∧h.DictOf (zbf P w) a vs:=zrf ok (.inl e)
theorem zdk {ks:List Key} (ok:HOk P w H h) (e:H a=some (.tup (ks.map kV))):(tupleKind (zbf P w)).is h ks a:=by
 obtain ⟨_,its,r,o,h1,h2,n,h3⟩:=(show zbG P w H h a (.tup (ks.map kV)) from ok a _ e)
 exact ⟨o,its.toArray,n,h1,h2,h3,by simpa using zgF r⟩
theorem zrd {kvs:List (List Key × V)} (ok:HOk P w H h) (e:Rd H a (.dT kvs)):kvs.length≤sizeLine∧(a == sysModules)=false ∧
  ∃ xs,KT H kvs xs∧h.DictOfH (tupleKind (zbf P w)) a xs:=by
 obtain ⟨z,y,xs,r,o,es,ep,h1,h2,h3,h4,h5⟩:=(show zbG P w H h a (.dT kvs) from zp3 ok e)
 refine ⟨z,y,xs,r,o,es,ep,h1,h2,h3,h4,fun x hx=>?_,h5⟩
 have all:∀ {l:List (List Key × V)} {m:List (List Key × Addr × Value)},KT H l m→∀ x ∈ m,(tupleKind (zbf P w)).is h x.1 x.2.1:=by
  intro l m q
  induction q with
  | nil=>intro x hx; exact nomatch hx
  | @cons p q ps qs hq t ih =>
   intro x hx
   rcases List.mem_cons.mp hx with e | hx
   ·subst e
    exact zdk ok (by rw [← hq.1]; exact hq.2.1)
   ·exact ih x hx
 exact all r x hx
theorem ztj {kvs:List (List Key × V)} (ok:HOk P w H h) (e:H a=some (.dT kvs)):kvs.length≤sizeLine∧(a == sysModules)=false ∧
  ∃ xs,KT H kvs xs∧h.DictOfH (tupleKind (zbf P w)) a xs:=zrd ok (.inl e)
end
def ztJ (H:Hp) (a:Addr) (y:V) (r:Option V):Prop :=
 (∃ kvs k,Rd H a (.dK kvs)∧y=kV k∧r=zfs kvs k)∨∃ kvs k b,Rd H a (.dT kvs)∧y=.ref b∧H b=some (.tup (k.map kV))∧r=zfs kvs k
def zt5 (H:Hp) (a:Addr) (y v:V) (H':Hp):Prop :=
 (∃ kvs k,H a=some (.dK kvs)∧y=kV k∧kvs.length<sizeLine∧H'=upd H a (.dK (zgk kvs k v))) ∨
 ∃ kvs k b,H a=some (.dT kvs)∧y=.ref b∧H b=some (.tup (k.map kV))∧kvs.length<sizeLine∧H'=upd H a (.dT (zgk kvs k v))
section
variable {X:Cx} {pins:List (Addr × Obj)} {σ:St} {H:Hp} {s:Shared} {a:Addr} {y v:V} {u r:Value} {o:Option V} {A:Around} {E:Value→Shared→Prop}
theorem Inv.big (I:Inv X pins σ H s):sysModules<s.heap.objs.size:=by
 have h:mainGlobals<s.heap.objs.size:=(I.mod.glob.keeps I.bk).lt
 exact Nat.lt_trans (by decide) h
theorem zpl {Q:Value→Shared→Prop} (hu:A.units+1<cLine) (I:Inv X pins σ H s) (g:ztJ H a y o) (ry:zbA y u) (h:∀ s',Inv X pins σ H s'→Q (.bool (!o.isSome)) s') :
  wpAny (model X.prog X.w) A (compareOp .NotIn u (.ref a)) Q E s:=by
 rcases g with ⟨kvs,k,e,ey,l⟩ | ⟨kvs,k,b,e,ey,eb,l⟩
 ·subst ey
  obtain ⟨z,hd,vs,rel,dd⟩:=zrf I.hok e; refine wpAny_notIn_of (zo4 ry) hd dd.mapOf ?_; rw [← (rel.val k).isSome_eq,← l]; exact h _ (I.tok _)
 ·subst ey
  cases (show u=Value.ref b from ry)
  obtain ⟨z,hd,xs,rel,dd⟩:=zrd I.hok e; refine wpAny_notIn_heap (tupleKind_room_in1 hu) (zdk I.hok eb) hd dd ?_; have q:=(rel.val k).isSome_eq; rw [Option.isSome_map] at q; rw [← q,← l]; exact h _ (I.tok _)
theorem zfW {h':Heap} {t':Nat} {ob:HO} (I:Inv X pins σ H s) (mu:Mut (H a)) (hs:Heap.SameBut a s.heap h') (he:∃ q,h'.get? a=some q) (new:zbG X.prog X.w (upd H a ob) h' a ob) :
  Inv X pins σ (upd H a ob) { s with heap:=h',toks:=t' } :=
 I.write (x:=a) (e:=a) mu (.inl rfl) (fun b q hb z=>(hs.2 b hb).trans z) he new
theorem zrg {P:Program} {w:World} {H':Hp} {h':Heap} {kvs:List (Key × V)} {vs:List (Key × Value)} (z:kvs.length≤sizeLine) (hd:(a == sysModules)=false) (rel:KV kvs vs) (dd:h'.DictOf (zbf P w) a vs) :
  zbG P w H' h' a (.dK kvs):=⟨z,hd,vs,rel,dd⟩
theorem zlb {H':Hp} {Q:Unit→Shared→Prop} (hu:A.units+1<cLine) (I:Inv X pins σ H s) (g:zt5 H a y v H') (ry:zbA y u) (rv:zbA v r) (h:∀ s',Inv X pins σ H' s'→Q () s') :
  wpAny (model X.prog X.w) A (setItem (.ref a) u r) Q E s:=by
 rcases g with ⟨kvs,k,e,ey,l,eH⟩ | ⟨kvs,k,b,e,ey,eb,l,eH⟩
 ·subst ey eH
  obtain ⟨z,hd,vs,rel,dd⟩:=ztl I.hok e
  have hz:vs.length≤sizeLine:=by rw [← rel.length]; exact z
  have hl:(zgk kvs k v).length≤sizeLine:=by have:=zdy kvs k v; omega
  refine wpAny_setItem_pairs (hsz:=hz) (zo4 ry) dd fun h' dd' hs=>h _ ?_
  have he:∃ q,h'.get? a=some q:=let ⟨q,_,_,hq,_⟩:=dd'; ⟨q,hq⟩
  exact zfW I (by rw [e]; exact True.intro) hs he (zrg hl hd (rel.put k rv) dd')
 ·subst ey eH
  cases (show u=Value.ref b from ry)
  obtain ⟨z,hd,xs,rel,dd⟩:=ztj I.hok e
  have hz:xs.length≤sizeLine:=by rw [← Paired.length rel]; exact z
  have hl:(zgk kvs k v).length≤sizeLine:=by have:=zdy kvs k v; omega
  refine wpAny_setItem_heap (hsz:=hz) (tupleKind_room_in1 hu) (zdk I.hok eb) dd fun h' dd' hs=>h _ ?_
  obtain ⟨q,es,ep,hq,h2,h3,h4,_,h5⟩:=dd'
  refine zfW I (by rw [e]; exact True.intro) hs ⟨q,hq⟩ ⟨hl,hd,_,(rel.put k eb rv).keeps fun c ys ec=>?_,q,es,ep,hq,h2,h3,h4,h5⟩
  rw [zo (zoR ec e (fun z=>nomatch z))]
  exact ec
end
section
variable {X:Cx} {pins:List (Addr × Obj)} {σ:St} {H:Hp} {s:Shared} {a:Addr} {kvs:List (Key × V)} {k:Key} {u:Value} {A:Around} {E:Value→Shared→Prop}
end
def zst (td ty tv:TE):TS:=fun D σ H=>tv σ H fun v H1=>td σ H1 fun x H2=>ty σ H2 fun y H3=>∃ a H4,x=.ref a∧zt5 H3 a y v H4∧D.nx σ H4
section
variable {X:Cx} {o i e value:Expr} {pos pos' tpos:Pos} {td ty tv:TE}
theorem zoh (hu:X.A.units+1<cLine) (ho:PE X o td) (hi:PE X i ty) (hv:PE X value tv) (hs:swapsWith value (some (.Subscript o i pos')) pos.line X.env=pure false) :
  PS X (.Assign [.Subscript o i pos'] value pos) (zst td ty tv):=by
 intro pins s σ H D I h
 refine wpAny_Assign_Subscript (thn (hv pins s σ H _ I h) fun r s1 ⟨v,H1,I1,rv,q1⟩=>thn (ho pins s1 σ H1 _ I1 q1) fun u s2 ⟨x,H2,I2,rx,q2⟩=>thn (hi pins s2 σ H2 _ I2 q2) fun iv s3 ⟨y,H3,I3,ry,a,H4,ex,g,q3⟩=>?_) hs
 subst ex
 obtain rfl:u=Value.ref a:=rx
 exact zlb hu I3 g ry rv fun s4 I4=>⟨σ,H4,I4,q3⟩
end
theorem zm1 {P:Program} {w:World} {H:Hp} (h:Heap) (hb:sysModules<h.objs.size):zbG P w H (h.push { cls:=.type "dict",data:=.dict #[] }) h.objs.size (.dK []) :=
 ⟨Nat.zero_le _,beq_eq_false_iff_ne.mpr (Ne.symm (Nat.ne_of_lt hb)),[],.nil,Heap.DictOf.new h⟩
def zpL:TE:=fun _ H Q=>∀ p,H p=none→Q (.ref p) (upd H p (.dK []))
section
variable {X:Cx} {pos:Pos}
theorem zmg:PE X (.Dict [] [] pos) zpL:=fun pins s σ H Q I h =>
 wpAny_Dict_empty ⟨.ref s.heap.objs.size,_,I.laid (a:=s.heap.objs.size) (o:=.dK []) (t':=s.toks) (fun _ _ q=>Heap.get?_push_of_some _ q) (Nat.le_refl _) (zm1 s.heap I.big),rfl,h _ (I.hok.fresh (Nat.le_refl _))⟩
end
structure M1 (X:Cx) (o:Expr) (m:Str) (apos:Pos) (e:Expr) (cpos:Pos):Prop where
 base:attributeBase o m X.env (eval o X.env)=eval o X.env
 few:((backTo cpos (starEach [e] X.env)).all (fun x=>!x.1) && (backToKw cpos (keywordEach [] X.env)).all (fun x=>x.1.isSome)
  && decide (([e]:List Expr).length+([]:List Keyword).length+(if ([]:List Keyword).isEmpty then 0 else 1)<30))=true
 line:(apos.endLine == cpos.line)=true
 trees:backTo cpos (starEach [e] X.env)=[(false,eval e X.env)]
section
variable {X:Cx} {pins:List (Addr × Obj)} {σ:St} {H:Hp} {s:Shared} {a:Addr} {y d:V} {u r:Value} {o:Option V} {A:Around} {E:Value→Shared→Prop}
end
section
variable {X:Cx} {o e f:Expr} {apos cpos:Pos} {td ty tx:TE}
end
section
variable {X:Cx} {pins:List (Addr × Obj)} {σ:St} {H:Hp} {s:Shared} {a:Addr} {kvs:List (Key × V)} {A:Around} {E:Value→Shared→Prop}
end
section
variable {X:Cx} {pins:List (Addr × Obj)} {σ:St} {H:Hp} {s:Shared} {a:Addr} {y:V} {u:Value} {A:Around} {E:Value→Shared→Prop}
end
end L2
set_option maxHeartbeats 4000000
namespace L2
open PySem PySem.Spec PyProof.Rows
def st (l:List Nat):Str:=⟨l.toArray⟩
theorem zbJ (l:List Nat):(st l).cps.toList=l:=by simp [st]
theorem zcZ (l:List Nat):(st l).length=l.length:=by simp [st,Str.length]
theorem zpQ (x:Str):x=st x.cps.toList:=by cases x; simp [st]
theorem st_inj {a b:List Nat} (h:st a=st b):a=b:=by
 have e:=congrArg (fun x:Str=>x.cps.toList) h
 simpa [st] using e
theorem zpR (a b:List Nat):st a ++ st b=st (a ++ b):=by
 show Str.append (st a) (st b)=st (a ++ b)
 unfold Str.append st; simp
theorem znB (l:List Nat) (c:Nat):(!(Builtin.Str.occurrences (st l) (st [c]) 0 (st l).length 1).isEmpty)=decide (c ∈ l):=by
 have e:=StrLaws.found_one (st l) c; rw [zbJ] at e; exact e
theorem zlM (l:List Nat) (n:Nat):Txt.slice (st l) none (some (n:Int))=st (l.take n):=by
 by_cases h:n≤l.length
 ·have q:Txt.slice (st l) none (some (n:Int))=⟨(((st l).cps.toList.drop 0).take ((n:Int)-0).toNat).toArray⟩:=StrLaws.sliceText_to ⟨by omega,by rw [zbJ]; omega⟩
  rw [q,zbJ]; simp [st]
 ·have e:Txt.slice (st l) none (some (n:Int))=Txt.slice (st l) none (some (l.length:Int)):=by
   unfold Txt.slice
   have z:Builtin.Str.strSliceIndices none (some (n:Int)) 1 (st l).length=Builtin.Str.strSliceIndices none (some (l.length:Int)) 1 (st l).length:=by
    rw [zcZ]
    have h0:¬ (n:Int)<0:=by omega
    have h1:¬ ((l.length:Int)<0):=by omega
    have h2:(1:Int) > 0:=by decide
    have h3:min (n:Int) (l.length:Int)=(l.length:Int):=by omega
    simp only [Builtin.Str.strSliceIndices,h0,h1,h2,if_false,if_true,h3,Int.min_self]
   rw [z]
  have q:Txt.slice (st l) none (some (l.length:Int))=⟨(((st l).cps.toList.drop 0).take ((l.length:Int)-0).toNat).toArray⟩:=StrLaws.sliceText_to ⟨by omega,by rw [zbJ]; omega⟩
  rw [e,q,zbJ,List.take_of_length_le (by omega:l.length≤n)]
  simp [st]
theorem ziR (l:List Nat) (n:Nat):Txt.slice (st l) (some (n:Int)) none=st (l.drop n):=by
 by_cases h:n≤l.length
 ·have q:Txt.slice (st l) (some (n:Int)) none=⟨(((st l).cps.toList.drop (n:Int).toNat).take (((st l).cps.toList.length:Int)-(n:Int)).toNat).toArray⟩:=StrLaws.sliceText_from ⟨by omega,by rw [zbJ]; omega⟩
  rw [q,zbJ]
  have e1:(n:Int).toNat=n:=by omega
  have e2:((l.length:Int)-(n:Int)).toNat=l.length-n:=by omega
  rw [e1,e2,List.take_of_length_le (by rw [List.length_drop]; omega)]
  rfl
 ·rw [slice_beyond (by rw [zcZ]; omega),List.drop_eq_nil_of_le (by omega)]
  rfl
section
variable {X:Cx}
theorem zg3:zcy X (.type "int") (fun xs H Q=>∃ x n,xs=[.str x]∧PySem.intText? x=some n∧x.length≤640∧Q (.int n) H):=by
 intro pins s σ H xs us Q I r h; obtain ⟨x,n,rfl,hn,hl,q⟩:=h; obtain ⟨u,rfl,t,rfl⟩:=zcU r; exact PySem.W.KIN.call_text hn hl ⟨.int n,H,I.tok _,⟨_,rfl⟩,q⟩
def zup:V→Option Int→Option Int→Hp→VK→Prop:=fun x lo hi H Q=>∃ z,x=.str z∧z.length≤sizeLine∧Q (.str (Txt.slice z lo hi)) H
theorem zpY:SlR X zup:=by
 intro pins s σ H x v vl vu lo hi sl Q I rx hs pl pu h; obtain ⟨z,rfl,hz,q⟩:=h; obtain ⟨t,rfl⟩:=rx; refine ⟨"str",_,PySem.F.slot_str_getitem.lookup,typeIs_str _ _ _,?_⟩
 have fin:∀ t' k,EP X pins σ Q (.str (Txt.slice z lo hi) t') { s with toks:=k }:=fun t' k=>⟨.str (Txt.slice z lo hi),H,I.tok _,⟨_,rfl⟩,q⟩
 cases pl with
 | none =>
  cases pu with
  | none=>exact wpAny_getItem_str_slice (l:=none) (u:=none) (st:=none) hs rfl (post_val_or_str ⟨Nat.le_trans (Txt.slice_le z _ _) hz,fin⟩)
  | int j u=>exact wpAny_getItem_str_slice (l:=none) (u:=some (j,u)) (st:=none) hs rfl (post_val_or_str ⟨Nat.le_trans (Txt.slice_le z _ _) hz,fin⟩)
 | int i u' =>
  cases pu with
  | none=>exact wpAny_getItem_str_slice (l:=some (i,u')) (u:=none) (st:=none) hs rfl (post_val_or_str ⟨Nat.le_trans (Txt.slice_le z _ _) hz,fin⟩)
  | int j u=>exact wpAny_getItem_str_slice (l:=some (i,u')) (u:=some (j,u)) (st:=none) hs rfl (post_val_or_str ⟨Nat.le_trans (Txt.slice_le z _ _) hz,fin⟩)
end
def zuC:V→V→Bool
 | .int _,.int _=>true
 | .str _,.str _=>true
 | _,_=>false
def ztq:List V→List V→Prop
 | x :: xs,y :: ys=>zuC x y=true∧ztq xs ys
 | _,_=>True
end L2
namespace HT
open PySem PyProof.Rows L2
section
open PySem.SeqAt
open PySem.AutoSeq1 (wpAny_loadPart')
open PySem.MeetsSeq PySem.MeetsSeq2 PySem.MeetsSeq3
end
section
variable {prog:Program} {w:World} {A:Around} {E:Value→Shared→Prop} {s:Shared}
end
end HT
namespace L2
open PySem PySem.Spec PyProof.Rows
section
variable {X:Cx}
end
end L2
namespace L2
open PySem PySem.Spec PyProof.Rows
def Its (l:List Nat):It:=⟨fun i _=>i<l.length,fun i H x H'=>H'=H∧∃ c,l[i]?=some c∧x=.str (st [c]),fun i _=>i=l.length⟩
theorem zhY {P:Program} {w:World} {A:Around} {cls:String} (hA:A.handled=none) (it:Addr) (x:Str) (t:Tok) (hcls:cls="str_ascii_iterator"∨cls="str_iterator"):Walks P w A it [it] [it] x.cps.size (SignAt x) (fun i h=>h.IsStrIter it cls x t i):=by
 rcases hcls with rfl | rfl
 ·exact Walks.strAscii hA it x t
 ·exact Walks.strWide hA it x t
theorem zh1 {P:Program} {w:World} {K:PySem.W.Frag} {tg:Expr} {cls:String} (x:Str) (t:Tok) (it:Addr) (hcls:cls="str_ascii_iterator"∨cls="str_iterator"):Turn P w K tg (Its x.cps.toList) [it] it (fun i h=>h.IsStrIter it cls x t i) where
 mem:=by simp
 obj:=fun i h stt b hb=>by
  have e:b=it:=by simpa using hb
  subst e; obtain ⟨o,e,c,d⟩:=stt
  exact ⟨o,e,fun v z=>by rw [d] at z; cases z⟩
 keep:=fun i h h' stt k=>by
  obtain ⟨o,e,r⟩:=stt
  exact ⟨o,k it (by simp) o e,r⟩
 item:=by
  intro X hP hw hK hc i pins s σ H E I hf stt hg
  subst hP hw hK
  obtain ⟨f0,f1,f2,f3,f4,f5⟩:=hf it (by simp)
  have hg':i<x.cps.toList.length:=hg
  refine (zhY (I.ok.hd hc) it x t hcls).item i s _ _ (by simpa using hg') stt fun v h' tk hv st' kk=>?_
  obtain ⟨c,u,hc',rfl⟩:=hv
  have I1:Inv X pins σ H { s with heap:=h',toks:=tk }:=I.turned (fun b o hb e=>kk b o (by simpa using hb) e) f0 f1 f3 f4 f5
  obtain ⟨o,e,hcl,d⟩:=id st'
  exact ⟨_,rfl,zjm (s:={ s with heap:=h',toks:=tk }) e hcl d (by rcases hcls with rfl | rfl <;> decide) ⟨.str (st [c]),H,I1,⟨u,rfl⟩,⟨rfl,c,by simpa using hc',rfl⟩,st',fun b hb=>(hf b hb).1⟩⟩
 done:=by
  intro X hP hw hK hc i pins s σ H E I hf stt hg
  subst hP hw hK
  obtain ⟨f0,f1,f2,f3,f4,f5⟩:=hf it (by simp)
  have hg':i=x.cps.toList.length:=hg
  subst hg'
  refine (zhY (I.ok.hd hc) it x t hcls).done s _ _ (by simpa using stt) fun h' tk kk=>?_
  exact ⟨rfl,I.turned (fun b o hb e=>kk b o (by simpa using hb) e) f0 f1 f3 f4 f5⟩
 self:=fun A i s Q E stt h=>by
  rcases hcls with rfl | rfl
  ·exact wpAny_pyIter_striter_ascii stt h
  ·exact wpAny_pyIter_striter_wide stt h
section
variable {X:Cx} {tg:Expr}
end
def zdm (cells:List (Str × Addr)):List (Str × NameKind)→List (Str × Addr)→List (Str × Addr)
 | [],acc=>acc
 | (n,k) :: r,acc=>if k == .free then zdm cells r ((n,(cells.lookup n).getD 0) :: acc) else zdm cells r acc
theorem zfq {env:Env}:∀ (l:List (Str × NameKind)) (acc:List (Str × Addr)),(∀ y ∈ l,y.2=.free→∃ c,env.cells.lookup y.1=some c) →
  (forIn (m:=Sem) l acc fun x r=>if (x.2 == NameKind.free)=true then do let a ← cellOf env x.1; pure (ForInStep.yield ((x.1,a) :: r)) else pure (ForInStep.yield r))=pure (zdm env.cells l acc)
 | [],acc,_=>rfl
 | (n,k) :: r,acc,h=>by
  rw [List.forIn_cons]
  have ih:=fun acc'=>zfq r acc' fun y hy=>h y (List.mem_cons_of_mem _ hy)
  by_cases hk:k=.free
  ·subst hk
   obtain ⟨c,hc⟩:=h (n,.free) (List.mem_cons_self ..) rfl
   have e:cellOf env n=pure c:=by
    unfold cellOf
    rw [show env.cells.lookup n=some c from hc]
   show ((if ((NameKind.free:NameKind) == NameKind.free)=true then _ else _) >>= _)=_
   rw [if_pos (by decide),e]
   unfold zdm
   rw [if_pos (by decide),show env.cells.lookup n=some c from hc]
   exact ih _
  ·have hb:(k == NameKind.free)=false:=by simpa using hk
   show ((if (k == NameKind.free)=true then _ else _) >>= _)=_
   rw [if_neg (by rw [hb]; decide)]
   unfold zdm
   rw [if_neg (by rw [hb]; decide)]
   exact ih _
theorem zfp {scope:Scope} {env:Env} (h:∀ y ∈ scope.names,y.2=.free→∃ c,env.cells.lookup y.1=some c):closureFor scope env=pure (zdm env.cells scope.names []):=by
 unfold closureFor; have e:=zfq scope.names [] h
 refine Eq.trans ?_ (congrArg (fun z=>z >>= fun cs=>(pure cs:Sem (List (Str × Addr)))) e)
 rfl
theorem zdW {cells:List (Str × Addr)} {x:Str} {c:Addr}:∀ (l:List (Str × NameKind)) (acc:List (Str × Addr)),(∀ y ∈ l,y.2=.free→∃ c,cells.lookup y.1=some c)→(∀ x c,acc.lookup x=some c→cells.lookup x=some c)→(zdm cells l acc).lookup x=some c→cells.lookup x=some c
 | [],acc,_,ha,h=>ha x c h
 | (n,k) :: r,acc,hl,ha,h=>by
  unfold zdm at h; split at h
  ·rename_i hk
   obtain ⟨c',hc'⟩:=hl (n,k) (List.mem_cons_self ..) (by simpa using hk)
   refine zdW r _ (fun y hy=>hl y (List.mem_cons_of_mem _ hy)) (fun z d hz=>?_) h
   rw [show cells.lookup n=some c' from hc'] at hz
   rw [List.lookup_cons] at hz
   cases hzn:z == n with
   | true =>
    rw [hzn] at hz
    have e1:z=n:=by simpa using hzn
    rw [e1,show cells.lookup n=some c' from hc']
    simpa using hz
   | false =>
    rw [hzn] at hz; exact ha z d hz
  ·exact zdW r acc (fun y hy=>hl y (List.mem_cons_of_mem _ hy)) ha h
theorem zf0 {cells:List (Str × Addr)} {x:Str}:∀ (l:List (Str × NameKind)) (acc:List (Str × Addr)),(∃ c,acc.lookup x=some c)→∃ c,(zdm cells l acc).lookup x=some c
 | [],_,h=>h
 | (n,k) :: r,acc,h=>by
  unfold zdm; split
  ·refine zf0 r _ ?_
   rw [List.lookup_cons]; split
   ·exact ⟨_,rfl⟩
   ·exact h
  ·exact zf0 r acc h
theorem zfZ {cells:List (Str × Addr)} {x:Str}:∀ (l:List (Str × NameKind)) (acc:List (Str × Addr)),(x,NameKind.free) ∈ l→∃ c,(zdm cells l acc).lookup x=some c
 | [],_,h=>absurd h List.not_mem_nil
 | (n,k) :: r,acc,h=>by
  unfold zdm
  rcases List.mem_cons.mp h with e | e
  ·cases e
   rw [if_pos (by decide)]
   refine zf0 r _ ?_; rw [List.lookup_cons,beq_self_eq_true]; exact ⟨_,rfl⟩
  ·split
   ·exact zfZ r _ e
   ·exact zfZ r _ e
theorem zd8 {x:Str} {k:NameKind}:∀ {l:List (Str × NameKind)},l.lookup x=some k→(x,k) ∈ l
 | [],h=>by simp at h
 | (n,j) :: r,h=>by
  rw [List.lookup_cons] at h
  cases e:x == n with
  | true =>
   rw [e] at h
   have e1:x=n:=by simpa using e
   have e2:j=k:=by simpa using h
   rw [e1,e2]; exact List.mem_cons_self ..
  | false =>
   rw [e] at h; exact List.mem_cons_of_mem _ (zd8 h)
theorem zfh {env:Env} (hk:env.scope.kind=.function) {x:Str} (hx:env.kindOf x=some .cell):∀ {l:List (Str × NameKind)},l.lookup x=some .free →
  (l.map fun (n,k)=>if (k == NameKind.free && env.scope.kind == .function && env.kindOf n == some .cell) then (n,NameKind.cell) else (n,k)).lookup x=some .cell
 | [],h=>by simp at h
 | (n,k) :: r,h=>by
  rw [List.lookup_cons] at h; rw [List.map_cons]
  show List.lookup x ((if (k == NameKind.free && env.scope.kind == .function && env.kindOf n == some .cell)=true then (n,NameKind.cell) else (n,k)) :: _)=_
  cases e:x == n with
  | true =>
   rw [e] at h
   have e1:x=n:=by simpa using e
   have e2:k=.free:=by simpa using h
   subst e1 e2
   have z:((NameKind.free == NameKind.free && env.scope.kind == .function && env.kindOf x == some .cell):Bool)=true:=by rw [hk,hx]; decide
   rw [if_pos z,List.lookup_cons,beq_self_eq_true]
  | false =>
   rw [e] at h; have ih:=zfh hk hx (l:=r) h
   by_cases z:(k == NameKind.free && env.scope.kind == .function && env.kindOf n == some .cell)=true
   ·rw [if_pos z,List.lookup_cons,e]
    exact ih
   ·rw [if_neg z,List.lookup_cons,e]
    exact ih
theorem zfi {env:Env} {x:Str}:∀ {l:List (Str × NameKind)},(∀ y ∈ l,y.2≠.cell)→((l.map fun (n,k)=>if (k == NameKind.free && env.scope.kind == .function && env.kindOf n == some .cell) then (n,NameKind.cell) else (n,k)).lookup x=some .cell ∨
  (l.map fun (n,k)=>if (k == NameKind.free && env.scope.kind == .function && env.kindOf n == some .cell) then (n,NameKind.cell) else (n,k)).lookup x=some .free)→(x,NameKind.free) ∈ l
 | [],_,h=>by simp at h
 | (n,k) :: r,hc,h=>by
  have again:∀ (z:(r.map fun (n,k)=>if (k == NameKind.free && env.scope.kind == .function && env.kindOf n == some .cell) then (n,NameKind.cell) else (n,k)).lookup x=some .cell∨(r.map fun (n,k)=>if (k == NameKind.free && env.scope.kind == .function && env.kindOf n == some .cell) then (n,NameKind.cell) else (n,k)).lookup x=some .free),(x,NameKind.free) ∈ (n,k) :: r :=
   fun z=>List.mem_cons_of_mem _ (zfi (fun y hy=>hc y (List.mem_cons_of_mem _ hy)) z)
  rw [List.map_cons] at h
  change List.lookup x ((if (k == NameKind.free && env.scope.kind == .function && env.kindOf n == some .cell)=true then (n,NameKind.cell) else (n,k)) :: _)=some NameKind.cell∨List.lookup x ((if (k == NameKind.free && env.scope.kind == .function && env.kindOf n == some .cell)=true then (n,NameKind.cell) else (n,k)) :: _)=some NameKind.free at h
  by_cases z:(k == NameKind.free && env.scope.kind == .function && env.kindOf n == some .cell)=true
  ·have hk:k=.free:=by
    simp only [Bool.and_eq_true,beq_iff_eq] at z; exact z.1.1
   rw [if_pos z,List.lookup_cons] at h
   cases e:x == n with
   | true =>
    have e1:x=n:=by simpa using e
    rw [e1,hk]; exact List.mem_cons_self ..
   | false =>
    rw [e] at h; exact again h
  ·rw [if_neg z,List.lookup_cons] at h
   cases e:x == n with
   | true =>
    rw [e] at h
    have e1:x=n:=by simpa using e
    rcases h with h | h
    ·exact absurd (by simpa using h) (hc (n,k) (List.mem_cons_self ..))
    ·have e2:k=.free:=by simpa using h
     rw [e1,e2]; exact List.mem_cons_self ..
   | false =>
    rw [e] at h; exact again h
structure Blk (N N':List Str) (src:List (Option Nat)) (fsc sc:Scope):Prop where
 kind:sc.kind=.function
 cell:∀ y ∈ sc.names,y.2≠.cell
 names:∀ y ∈ sc.names,y.2=.local→sc.names.lookup y.1=some .local
 free:∀ y ∈ sc.names,y.2=.free→fsc.names.lookup y.1=some .cell
 len:src.length=N'.length
 sees:((N'.zip src).all fun y=>match y.2 with | none=>true | some i=>decide (N[i]?=some y.1) && decide (sc.names.lookup y.1=some .free))=true
def zW (src:List (Option Nat)) (σ:St):St:=src.map fun o=>o.bind fun i=>(σ[i]?).join
abbrev blk (X:Cx) (N':List Str) (sc:Scope) (cl:List (Str × Addr)) (C:Addr) (s:Shared) (H:Hp) (fp:List Addr) (pn:List (Addr × Obj)):Cx :=
 { X with N:=N',s₀:=s,H₀:=H,env:=compEnvC sc cl C X.env,outer:=X.stack,ex:=fp,fn:=fun _=>false,pn:=pn }
theorem znJ {X:Cx} {N N':List Str} {src:List (Option Nat)} {fsc sc:Scope} {pins:List (Addr × Obj)} {σ:St} {H:Hp} {s:Shared} {fp:List Addr} {h':Heap} {tk:Nat} {m:Str→Option Value} (I:Inv X pins σ H s) (B:Blk N N' src fsc sc) (hN:X.N=N) (hs:X.env.scope=fsc)
  (f2:∀ b ∈ fp,zf3 X pins H b) (fb:∀ b ∈ fp,b<s.heap.objs.size) (hn:h'.Ns s.heap.objs.size m) (kp:∀ b o,s.heap.get? b=some o→h'.get? b=some o) :
  Inv (blk X N' sc (zdm X.env.cells sc.names []) s.heap.objs.size s H fp (X.pn ++ pins)) [] (zW src σ) H { s with heap:=h',toks:=tk }:=by
 subst hN hs
 have hfr:∀ y ∈ sc.names,y.2=.free→∃ c,X.env.cells.lookup y.1=some c:=fun y hy e=>I.ok.has y.1 (.inl (B.free y hy e))
 have sub:∀ x c,(zdm X.env.cells sc.names []).lookup x=some c→X.env.cells.lookup x=some c:=fun x c e=>zdW sc.names [] hfr (fun _ _ z=>by simp at z) e
 have has:∀ x,(x,NameKind.free) ∈ sc.names→∃ c,(zdm X.env.cells sc.names []).lookup x=some c:=fun x hx=>zfZ sc.names [] hx
 have ok:Cx.Ok (blk X N' sc (zdm X.env.cells sc.names []) s.heap.objs.size s H fp (X.pn ++ pins)):=by
  refine ⟨I.ok.mod,B.kind,I.ok.glob,I.ok.blt,Nat.le_refl _,fun x y c e1 e2=>I.ok.inj x y c (sub x c e1) (sub y c e2),fun x hx=>has x (zfi B.cell hx),fun x c e=>(nomatch e),I.ok.hd,I.ok.frames,.inl rfl,fun b hb=>⟨Nat.ne_of_lt (fb b hb),fun x c e=>(f2 b hb).2.2.2.2.1 x c (sub x c e)⟩,
   I.bs,Nat.le_trans I.ok.bsz I.sz,fun b o e hb=>?_,fun b hb z=>?_,I.stack,I.stkFree,I.ok.tab.un I.base.tbls⟩
  ·rcases (f2 b hb).2.2.2.1 with z | z
   ·exact I.ok.noex b o e z
   ·exact absurd (Nat.lt_of_lt_of_le (Heap.lt_size e) (Nat.le_trans I.ok.bsz z)) (Nat.lt_irrefl _)
  ·rcases List.mem_cons.mp (I.stkSub b z) with e | e
   ·exact (f2 b hb).2.1 e
   ·exact (f2 b hb).2.2.1 e
 refine ⟨ok,rfl,I.bare,Un.kept kp,⟨m,hn,fun j x v e1 e2 e3=>?_⟩,fun x c e=>?_,I.hok.fresh (Nat.le_refl _),fun x c e=>I.freeC x c (sub x c e),fun p hp=>?_,I.hok.kept kp,?_⟩
 ·have e2':(src[j]?).map (fun o=>o.bind fun i=>(σ[i]?).join)=some (some v):=by
   have z:=e2; unfold zW at z; rw [List.getElem?_map] at z; exact z
  cases hj:src[j]? with
  | none=>rw [hj] at e2'; cases e2'
  | some o =>
   rw [hj] at e2'
   cases o with
   | none=>cases e2'
   | some i =>
    have hσ:σ[i]?=some (some v):=by
     have z:(σ[i]?).join=some v:=by simpa using e2'
     cases hz:σ[i]? with
     | none=>rw [hz] at z; cases z
     | some w=>rw [hz] at z; exact congrArg some z
    have hz:(x,some i) ∈ N'.zip src:=by
     have q:(N'.zip src)[j]?=some (x,some i):=by
      rw [List.getElem?_zip_eq_some]; exact ⟨e1,hj⟩
     exact List.mem_of_getElem? q
    have q:=List.all_eq_true.mp B.sees _ hz; simp only [Bool.and_eq_true,decide_eq_true_eq] at q; obtain ⟨q1,q2⟩:=q
    have hkc:X.env.kindOf x=some .cell:=B.free _ (zd8 q2) rfl
    obtain ⟨m0,_,hl⟩:=I.loc; obtain ⟨u,ru,lk⟩:=hl i x v q1 hσ (.inr (.inl hkc)); refine ⟨u,ru,.inr ⟨.inl (zfh I.ok.kind hkc q2),?_⟩⟩
    rcases lk with ⟨k,_⟩ | ⟨_,c,e,z⟩
    ·rw [hkc] at k; cases k
    ·obtain ⟨c',hc'⟩:=has x (zd8 q2)
     have e':=sub x c' hc'; rw [e] at e'; cases e'; obtain ⟨o,ho,hd⟩:=z; exact ⟨c,hc',o,kp _ _ ho,hd⟩
 ·obtain ⟨v,o,ho,hd⟩:=I.cell x c (sub x c e)
  exact ⟨v,o,kp _ _ ho,hd⟩
 ·rw [List.append_nil] at hp
  obtain ⟨e,n,ne,nf,d⟩:=I.pin p hp
  refine ⟨kp _ _ e,n,Nat.ne_of_lt (Heap.lt_size e),fun z=>?_,d⟩
  rcases List.mem_cons.mp (I.stkSub p.1 z) with q | q
  ·exact ne q
  ·exact nf q
 ·show (zW src σ).length=N'.length
  unfold zW; rw [List.length_map,B.len]
theorem Un.same {fs ex:List Addr} {H H1:Hp} {h h1 h2:Heap} {a:Addr} (u:Un fs ex H H1 h h1) (hs:Heap.SameBut a h1 h2) (ha:h.objs.size≤a):Un fs ex H H1 h h2:=by
 have ne:∀ b o,h.get? b=some o→b≠a:=fun b o e=>Nat.ne_of_lt (Nat.lt_of_lt_of_le (Heap.lt_size e) ha)
 refine ⟨fun b o e n h1 h2=>?_,fun b o e n h1 h2=>?_,u.free,fun b o e h1=>?_,u.tups,u.frzs,u.tbls⟩
 ·exact (hs.2 b (ne b o e)).trans (u.keep b o e n h1 h2)
 ·obtain ⟨sl,q⟩:=u.slot b o e n h1 h2
  exact ⟨sl,(hs.2 b (ne b o e)).trans q⟩
 ·obtain ⟨o',q⟩:=u.there b o e h1
  exact ⟨o',(hs.2 b (ne b o e)).trans q⟩
theorem HOk.same {P:Program} {w:World} {H:Hp} {h h':Heap} {a:Addr} (x:HOk P w H h) (hs:Heap.SameBut a h h') (ha:H a=none):HOk P w H h':=fun b o e=>by
 refine (x b o e).stay (fun c u hc q=>(hs.2 c ?_).trans q) (fun _ q=>q) fun _ _ q=>q
 rintro rfl
 rcases hc with rfl | hc
 ·rw [ha] at e; cases e
 ·rw [ha] at hc; cases hc
def PTs (X:Cx) (ifs:List Expr) (t:TT):Prop :=
 ∀ (pins:List (Addr × Obj)) (s:Shared) (σ:St) (H:Hp) (Q:Bool→Hp→Prop),Inv X pins σ H s→t σ H Q →
  wpAny (model X.prog X.w) X.A (forIn ifs true fun c r=>if r=true then do let ok ← isTrue c X.env (eval c X.env); pure (ForInStep.yield ok) else pure (ForInStep.yield r)) (TP X pins σ Q) X.xe s
theorem zob {X:Cx}:PTs X [] (fun _ H Q=>Q true H):=fun _ _ _ H _ I h=>wpAny_pure ⟨H,I,h⟩
theorem zoa {X:Cx} {c:Expr} {t:TT} (h:PT X c t):PTs X [c] t:=fun pins s σ H Q I q=>wpAny_tests_one (h pins s σ H Q I q)
end L2
namespace L2
open PySem PySem.Spec PyProof.Rows
theorem zgW {P:Program} {w:World} {A:Around} {R:Result→Shared→Prop} {s:Shared} {elt tg iter:Expr} {ifs:List Expr} {sc:Scope} {pos:Pos} {it acc:Value} {env:Env} (J:Nat→Shared→Prop)
  (turn:∀ k s',J k s'→wpAny (model P w) A (pyNext it) (fun r s1=>match r with
   | none=>R (.ok .next) s1
   | some v=>wpAny (model P w) A (letOwnedTupleGo tg it v) (fun _ s2=>wpAny (model P w) A (assign tg env v) (fun _ s3 =>
     wpAny (model P w) A (forIn ifs true fun c r=>if r=true then do let ok ← isTrue c env (eval c env); pure (ForInStep.yield ok) else pure (ForInStep.yield r)) (fun b s4 =>
      if b=true then wpAny (model P w) A (eval elt env) (fun y s5=>wpAny (model P w) A (call (.builtin "list.append") [acc,y]) (fun _ s6=>∃ m,m<k∧J m s6) (fun _ _=>False) s5) (fun _ _=>False) s4
      else ∃ m,m<k∧J m s4) (fun _ _=>False) s3) (fun _ _=>False) s2) (fun _ _=>False) s1) (fun _ _=>False) s')
  (k:Nat) (h:J k s):codeAny (model P w) A (.compLoop (.ListComp elt [⟨tg,iter,ifs,0⟩] sc pos) 0 it acc env) R s:=by
 have no:∀ {α:Type} {t:Sem α} {Q Q':α→Shared→Prop} {E:Value→Shared→Prop} {z:Shared},wpAny (model P w) A t Q (fun _ _=>False) z→(∀ a z',Q a z'→Q' a z')→wpAny (model P w) A t Q' E z:=fun g1 g2=>wpAny_mono g1 g2 fun _ _ f=>f.elim
 refine codeAny_loop rfl J (fun k s' hJ=>?_) k h
 show wpAny _ A ((compTurn (.ListComp elt [⟨tg,iter,ifs,0⟩] sc pos) 0 it acc env).onRaise (fun x=>do noteFrame x env; theTreesLotGoes x)) _ _ s'
 refine wpAny_noted ?_; rw [compTurn_list]
 refine wpAny_bind (wpAny_standAt (wpAny_bind (no (turn k s' hJ) fun r s1 h1=>?_)))
 cases r with
 | none=>exact wpAny_pure h1
 | some v =>
  refine wpAny_bind (no h1 fun _ s2 h2=>wpAny_bind (no h2 fun _ s3 h3=>wpAny_bind (no h3 fun b s4 h4=>?_)))
  cases b with
  | false=>exact wpAny_pure ⟨rfl,h4⟩
  | true=>exact wpAny_bind (wpAny_bind (no h4 fun y s5 h5=>wpAny_bind (no h5 fun _ s6 h6=>wpAny_pure (wpAny_pure ⟨rfl,h6⟩))))
def zpN (wi:TI) (src:List (Option Nat)) (g:TG) (tc:TT) (te:TE):TE:=fun σ H Q=>wi σ H fun J H1=>∀ D,H1 D=none→∃ W:Nat→Nat→St→Hp→Prop,(∃ m,W 0 m (zW src σ) (upd H1 D (.lst [])))∧∀ i m σ2 H2,W i m σ2 H2 →
 (J.stop i H2∧Q (.ref D) H2)∨(J.go i H2∧∃ M:St→Hp→Prop,(∀ σ' H',M σ' H'→∃ m',m'<m∧W (i+1) m' σ' H')∧∀ x H',J.yld i H2 x H'→g x σ2 H' fun σ3 H3=>tc σ3 H3 fun b H4 =>
  if b=true then te σ3 H4 fun y H5=>∃ ys,H5 D=some (.lst ys)∧ys.length<sizeLine∧M σ3 (upd H5 D (.lst (ys ++ [y]))) else M σ3 H4)
theorem zoy {X:Cx} {elt tg iter:Expr} {ifs:List Expr} {sc fsc:Scope} {pos:Pos} {wi:TI} {g:TG} {tc:TT} {te:TE} {N N':List Str} {src:List (Option Nat)} (B:Blk N N' src fsc sc) (hi:PI X tg iter wi)
  (hg:∀ cl C s H fp pn,PG (blk X N' sc cl C s H fp pn) tg g) (ht:∀ cl C s H fp pn,PTs (blk X N' sc cl C s H fp pn) ifs tc) (he:∀ cl C s H fp pn,PE (blk X N' sc cl C s H fp pn) elt te)
  (hx:X.xe=(fun _ _=>False):=by rfl) (hc:X.calm=true:=by rfl) (hN:X.N=N:=by rfl) (hs:X.env.scope=fsc:=by rfl)
  (hf:∀ x,foldedSetIterable iter X.env x=pure x:=by intro _; rfl):PE X (.ListComp elt [⟨tg,iter,ifs,0⟩] sc pos) (zpN wi src g tc te):=by
 intro pins s σ H Q I h; rw [eval_ListComp]
 have hfr:∀ y ∈ sc.names,y.2=.free→∃ c,X.env.cells.lookup y.1=some c:=fun y hy e=>I.ok.has y.1 (.inl (by have:=B.free y hy e; rw [← hs] at this; exact this))
 refine wpAny_comprehension_free (use:=none) (cl:=zdm X.env.cells sc.names []) rfl hf (zfp hfr) B.kind B.names ?_
 refine thn (hi pins s σ H _ I h) fun v s1 h1=>thn h1 fun itv s2 h2=>?_
 obtain ⟨it,fp,tn,J,H2,e,I2,T,st2,f2,q⟩:=h2; subst e
 obtain ⟨W,⟨m0,w0⟩,turn⟩:=q s2.heap.objs.size (I2.hok.fresh (Nat.le_refl _))
 refine wpAny_newObj_type (wpAny_newFunctionEnv B.cell (by intro y hy; simp at hy) (fun h1 hns hsb=>?_) B.kind)
 dsimp only at hns hsb ⊢
 have I3:Inv X pins σ (upd H2 s2.heap.objs.size (.lst [])) { s2 with heap:=s2.heap.push { cls:=.type "list",dict:=none,data:=.seq ([]:List Value).toArray } } :=
  I2.laid (t':=s2.toks) (fun b o e=>Heap.get?_push_of_some _ e) (Nat.le_refl _) ⟨Nat.zero_le _,[],0,.nil,Heap.get?_push_size _ rfl⟩
 have fb:∀ b ∈ fp,b<s2.heap.objs.size:=fun b hb=>by
  obtain ⟨o,e,_⟩:=T.obj 0 _ st2 b hb; exact Heap.lt_size e
 have f3:∀ b ∈ fp,zf3 X pins (upd H2 s2.heap.objs.size (.lst [])) b:=fun b hb=>by
  refine ⟨?_,(f2 b hb).2⟩; rw [zo (Nat.ne_of_lt (fb b hb))]; exact (f2 b hb).1
 generalize hh3:s2.heap.push { cls:=.type "list",dict:=none,data:=.seq ([]:List Value).toArray }=h3 at hns hsb I3 ⊢
 have z3:s2.heap.objs.size<h3.objs.size:=by rw [← hh3,Heap.size_push]; exact Nat.lt_succ_self _
 have k3:∀ b o,h3.get? b=some o→h1.get? b=some o:=fun b o e=>hsb.extBut b o (Nat.ne_of_lt (Heap.lt_size e)) (Heap.get?_push_of_some _ e)
 have I4:=znJ (tk:=s2.toks+([]:List (Str × Value)).length) I3 B hN hs f3 (fun b hb=>Nat.lt_trans (fb b hb) z3) hns k3
 have st4:tn 0 h1:=T.keep 0 _ _ st2 fun b hb o e=>k3 b o (by rw [← hh3]; exact Heap.get?_push_of_some _ e)
 have fok:∀ {H':Hp},(∀ b ∈ fp,H' b=none)→∀ b ∈ fp,zf3 (blk X N' sc (zdm X.env.cells sc.names []) h3.objs.size { s2 with heap:=h3 } (upd H2 s2.heap.objs.size (.lst [])) fp (X.pn ++ pins)) [] H' b:=fun hn b hb=>by
  obtain ⟨_,g1,g2,g3,g4,g5⟩:=f3 b hb
  refine ⟨hn b hb,Nat.ne_of_lt (Nat.lt_trans (fb b hb) z3),fun z=>?_,.inl hb,fun x c e=>g4 x c (zdW sc.names [] hfr (fun _ _ z=>by simp at z) e),fun p hp=>g5 p (by rw [List.append_nil] at hp; exact hp)⟩
  rcases List.mem_cons.mp (I3.stkSub b z) with e | e
  ·exact g1 e
  ·exact g2 e
 have loop:∀ s4:Shared,s4={ s2 with heap:=h1,toks:=s2.toks+([]:List (Str × Value)).length } →
   codeAny (model X.prog X.w) X.A (.compLoop (.ListComp elt [⟨tg,iter,ifs,0⟩] sc pos) 0 (.ref it) (.ref s2.heap.objs.size) (compEnvC sc (zdm X.env.cells sc.names []) h3.objs.size X.env))
    (compPost (model X.prog X.w) X.A X.xe none (EP X pins σ Q) (.ref s2.heap.objs.size) h3.objs.size) s4:=by
  rintro s4 rfl
  refine zgW (fun k s'=>∃ i σ5 H5,Inv (blk X N' sc (zdm X.env.cells sc.names []) h3.objs.size { s2 with heap:=h3 } (upd H2 s2.heap.objs.size (.lst [])) fp (X.pn ++ pins)) [] σ5 H5 s'∧tn i s'.heap∧(∀ b ∈ fp,H5 b=none)∧W i k σ5 H5) ?_ m0
   ⟨0,_,_,I4,st4,fun b hb=>(f3 b hb).1,w0⟩
  rintro k s5 ⟨i,σ5,H5,I5,st5,fr5,w5⟩
  rcases turn i k σ5 H5 w5 with ⟨stop,qd⟩ | ⟨go,M,hM,step⟩
  ·refine thn (T.done (blk X N' sc (zdm X.env.cells sc.names []) h3.objs.size { s2 with heap:=h3 } (upd H2 s2.heap.objs.size (.lst [])) fp (X.pn ++ pins)) rfl rfl rfl hc i [] s5 σ5 H5 _ I5 (fok fr5) st5 stop) fun r s6 ⟨hr,I6⟩=>?_
   subst hr; obtain ⟨m6,hn6,_⟩:=id I6.loc
   refine ⟨m6,hn6,fun h' hsb'=>⟨.ref s2.heap.objs.size,H5,?_,rfl,qd⟩⟩
   exact I3.call' (s':={ s6 with heap:=h' }) (ch:=fp) I6.os (Un.same I6.base hsb' (Nat.le_refl _)) (HOk.same I6.hok hsb' I6.free) I6.bare fun b hb=>⟨(f3 b hb).2.2.2.1,(f3 b hb).2.1,(f3 b hb).2.2.2.2.1,(f3 b hb).2.2.2.2.2⟩
  ·refine thn (T.item (blk X N' sc (zdm X.env.cells sc.names []) h3.objs.size { s2 with heap:=h3 } (upd H2 s2.heap.objs.size (.lst [])) fp (X.pn ++ pins)) rfl rfl rfl hc i [] s5 σ5 H5 _ I5 (fok fr5) st5 go) fun r s6 ⟨u,hr,h6⟩=>?_
   subst hr
   refine thn h6 fun _ s7 ⟨x,H7,I7,r7,y7,st7,fr7⟩=>?_
   have I7':=I7.pinned (fok fr7) (T.obj _ _ st7)
   have back:∀ {σ8:St} {H8:Hp} {s8:Shared},Inv (blk X N' sc (zdm X.env.cells sc.names []) h3.objs.size { s2 with heap:=h3 } (upd H2 s2.heap.objs.size (.lst [])) fp (X.pn ++ pins)) ([] ++ zfk fp s7.heap) σ8 H8 s8→tn (i+1) s8.heap∧∀ b ∈ fp,H8 b=none:=fun {σ8 H8 s8} I8=>by
    have pn8:∀ b ∈ fp,∀ o,s7.heap.get? b=some o→s8.heap.get? b=some o∧H8 b=none:=fun b hb o e=>by
     have q:=I8.pin (b,o) (List.mem_append_right _ (List.mem_append_right _ (zdg hb e))); exact ⟨q.1,q.2.1⟩
    refine ⟨T.keep _ _ _ st7 fun b hb o e=>(pn8 b hb o e).1,fun b hb=>?_⟩
    obtain ⟨o,e,_⟩:=T.obj _ _ st7 b hb; exact (pn8 b hb o e).2
   have xf:∀ {α:Type} {t:Sem α} {Q1 Q2:α→Shared→Prop} {z:Shared},wpAny (model X.prog X.w) X.A t Q1 X.xe z→(∀ a z',Q1 a z'→Q2 a z')→wpAny (model X.prog X.w) X.A t Q2 (fun _ _=>False) z:=fun g1 g2=>by
    rw [hx] at g1; exact thn g1 g2
   refine xf (hg _ _ _ _ _ _ _ s7 σ5 H7 x u _ I7' r7 (step x H7 y7)) fun _ s8 ⟨σ8,H8,I8,q8⟩=>?_
   refine xf (ht _ _ _ _ _ _ _ s8 σ8 H8 _ I8 q8) fun b s9 ⟨H9,I9,q9⟩=>?_
   cases b with
   | false =>
    obtain ⟨m',hm,w'⟩:=hM σ8 H9 (by simpa using q9)
    obtain ⟨g1,g2⟩:=back I9; exact ⟨m',hm,i+1,σ8,H9,I9.unpinned,g1,g2,w'⟩
   | true =>
    rw [if_pos rfl] at q9 ⊢
    refine xf (he _ _ _ _ _ _ _ s9 σ8 H9 _ I9 q9) fun y s10 ⟨yv,H10,I10,r10,ys,hy,hz,w⟩=>?_
    obtain ⟨m',hm,w'⟩:=hM _ _ w
    refine xf (zdP (X:=(blk X N' sc (zdm X.env.cells sc.names []) h3.objs.size { s2 with heap:=h3 } (upd H2 s2.heap.objs.size (.lst [])) fp (X.pn ++ pins))) _ s10 σ8 H10 (.ref s2.heap.objs.size) [yv] _ [y] (fun _ H11=>H11=upd H10 s2.heap.objs.size (.lst (ys ++ [yv]))) I10 rfl (.cons r10 .nil) ⟨_,ys,yv,rfl,rfl,hy,hz,rfl⟩) fun _ s11 ⟨_,H11,I11,_,e11⟩=>?_
    subst e11; obtain ⟨g1,g2⟩:=back I11; exact ⟨m',hm,i+1,σ8,_,I11.unpinned,g1,g2,w'⟩
 exact codeAny_compStart_list (loop _ rfl) (T.self _ 0 _ _ _ st4 (loop _ rfl))
theorem zgU {J:It} {n:Nat} {g:TG} {tc:TT} {te:TE} {Q:VK} {D:Addr} {σ0:St} {H0:Hp} (Pv:Nat→St→Hp→Prop) (h0:Pv 0 σ0 H0)
  (hs:∀ i σ H,i<n→Pv i σ H→J.go i H∧∀ x H',J.yld i H x H'→g x σ H' fun σ3 H3=>tc σ3 H3 fun b H4=>if b=true then te σ3 H4 fun y H5=>∃ ys,H5 D=some (.lst ys)∧ys.length<sizeLine∧Pv (i+1) σ3 (upd H5 D (.lst (ys ++ [y]))) else Pv (i+1) σ3 H4)
  (hd:∀ σ H,Pv n σ H→J.stop n H∧Q (.ref D) H) :
  ∃ W:Nat→Nat→St→Hp→Prop,(∃ m,W 0 m σ0 H0)∧∀ i m σ2 H2,W i m σ2 H2 →
   (J.stop i H2∧Q (.ref D) H2)∨(J.go i H2∧∃ M:St→Hp→Prop,(∀ σ' H',M σ' H'→∃ m',m'<m∧W (i+1) m' σ' H')∧∀ x H',J.yld i H2 x H'→g x σ2 H' fun σ3 H3=>tc σ3 H3 fun b H4 =>
    if b=true then te σ3 H4 fun y H5=>∃ ys,H5 D=some (.lst ys)∧ys.length<sizeLine∧M σ3 (upd H5 D (.lst (ys ++ [y]))) else M σ3 H4):=by
 refine ⟨fun i m σ H=>m=n-i∧i≤n∧Pv i σ H,⟨n,by simp,Nat.zero_le _,h0⟩,?_⟩
 rintro i m σ2 H2 ⟨rfl,hi,p⟩
 by_cases hlt:i<n
 ·obtain ⟨go,stp⟩:=hs i σ2 H2 hlt p
  exact .inr ⟨go,Pv (i+1),fun σ' H' p'=>⟨n-(i+1),by omega,rfl,hlt,p'⟩,stp⟩
 ·have e:i=n:=by omega
  subst e; exact .inl (hd σ2 H2 p)
end L2
namespace L2
open PySem
def XAt (a C:Addr) (dd:Option Addr):Heap→Prop:=fun h=>∃ vs sl,h.get? a=some ⟨.ref C,dd,.fields vs,sl⟩
end L2
namespace PL
open PySem L2
inductive D where
 | non | bl (b:Bool) | int (i:Int) | str (l:List Nat) | ty (n:String) | rng (lo hi:Int) | cls (C:Addr) | adr (b:Addr)
 | tup (l:List D) | lst (l:List D) | dic (l:List (D × D)) | dit (l:List (D × D)) | obj (C:Addr) (fs:List (Str × D)) | exc (C:Addr) (fs:List (Str × D))
inductive OD where
 | lst (l:List D) | dic (l:List (D × D)) | dit (l:List (D × D)) | obj (C:Addr) (fs:List (Str × D))
def OD.toD:OD→D
 | .lst l=>.lst l
 | .dic l=>.dic l
 | .dit l=>.dit l
 | .obj C fs=>.obj C fs
theorem paired_of {α β:Type} {R:α→β→Prop}:∀ {l:List α} {m:List β},l.length=m.length→(∀ (i:Nat) a b,l[i]?=some a→m[i]?=some b→R a b)→Paired R l m
 | [],[],_,_=>.nil
 | a :: l,b :: m,h,r=>.cons (r 0 a b rfl rfl) (paired_of (by simpa using h) fun i x y hx hy=>r (i+1) x y (by simpa using hx) (by simpa using hy))
 | [],_ :: _,h,_=>by simp at h
 | _ :: _,[],h,_=>by simp at h
theorem paired_get {α β:Type} {R:α→β→Prop}:∀ {l:List α} {m:List β} (i:Nat) {a:α} {b:β},Paired R l m→l[i]?=some a→m[i]?=some b→R a b
 | _,_,_,_,_,.nil,h,_=>by simp at h
 | _,_,0,_,_,.cons r _,h1,h2=>by simp at h1 h2; subst h1; subst h2; exact r
 | _,_,i+1,_,_,.cons _ t,h1,h2=>paired_get i t (by simpa using h1) (by simpa using h2)
theorem zg {α β:Type} {R:α→β→Prop} {l:List α} {m:List β} (h:Paired R l m):l.length=m.length:=Paired.length h
theorem zaU {α β:Type} {R:α→β→Prop} {l:List α} {m:List β} (h:Paired R l m) {i:Nat} {b:β} (e:m[i]?=some b):∃ a,l[i]?=some a∧R a b:=by
 have hl:=zg h
 have hi:i<l.length:=by rw [hl]; exact (List.getElem?_eq_some_iff.mp e).1
 exact ⟨l[i],List.getElem?_eq_getElem hi,paired_get i h (List.getElem?_eq_getElem hi) e⟩
theorem zcR {α β:Type} {R:α→β→Prop} {l:List α} {m:List β} (h:Paired R l m) {i:Nat} {a:α} (e:l[i]?=some a):∃ b,m[i]?=some b∧R a b:=by
 have hl:=zg h
 have hi:i<m.length:=by rw [← hl]; exact (List.getElem?_eq_some_iff.mp e).1
 exact ⟨m[i],List.getElem?_eq_getElem hi,paired_get i h e (List.getElem?_eq_getElem hi)⟩
theorem zbe {α β:Type} {R:α→β→Prop}:∀ {l l':List α} {m m':List β},Paired R l m→Paired R l' m'→Paired R (l ++ l') (m ++ m')
 | _,_,_,_,.nil,h=>h
 | _,_,_,_,.cons r t,h=>.cons r (zbe t h)
theorem zeH {α β:Type} {R:α→β→Prop}:∀ {l:List α} {m:List β} (n:Nat),Paired R l m→Paired R (l.take n) (m.take n)
 | _,_,0,_=>.nil
 | _,_,_+1,.nil=>.nil
 | _,_,n+1,.cons r t=>.cons r (zeH n t)
theorem zeI {α β:Type} {R:α→β→Prop}:∀ {l:List α} {m:List β} (n:Nat),Paired R l m→Paired R (l.drop n) (m.drop n)
 | _,_,0,h=>h
 | _,_,_+1,.nil=>.nil
 | _,_,n+1,.cons _ t=>zeI n t
def zdA:Key→D
 | .inl i=>.int i
 | .inr x=>.str x.cps.toList
inductive Den (K:PySem.W.Frag) (H:Hp):V→D→Prop where
 | non:Den K H .non .non
 | bl (b:Bool):Den K H (.bl b) (.bl b)
 | int (i:Int):Den K H (.int i) (.int i)
 | str (l:List Nat):Den K H (.str (st l)) (.str l)
 | ty (n:String):Den K H (.ty n) (.ty n)
 | rng {a:Addr} {lo hi:Int} (h:Rd H a (.rng lo hi)):Den K H (.ref a) (.rng lo hi)
 | cls (C:Addr):Den K H (.ref C) (.cls C)
 | adr (b:Addr):Den K H (.ref b) (.adr b)
 | tup {a:Addr} {vs:List V} {ds:List D} (h:H a=some (.tup vs)) (l:vs.length=ds.length) (r:∀ (i:Nat) v d,vs[i]?=some v→ds[i]?=some d→Den K H v d):Den K H (.ref a) (.tup ds)
 | lst {a:Addr} {vs:List V} {ds:List D} (h:SqL K H a vs) (l:vs.length=ds.length) (r:∀ (i:Nat) v d,vs[i]?=some v→ds[i]?=some d→Den K H v d):Den K H (.ref a) (.lst ds)
 | dicK {a:Addr} {kvs:List (Key × V)} {ds:List (D × D)} (h:Rd H a (.dK kvs)) (l:kvs.length=ds.length) (r:∀ (i:Nat) p q,kvs[i]?=some p→ds[i]?=some q→q.1=zdA p.1) (r2:∀ (i:Nat) p q,kvs[i]?=some p→ds[i]?=some q→Den K H p.2 q.2):Den K H (.ref a) (.dic ds)
 | dicT {a:Addr} {kvs:List (List Key × V)} {ep:Nat} {ds:List (D × D)} (h:H a=some (.dE kvs ep)) (l:kvs.length=ds.length) (r:∀ (i:Nat) p q,kvs[i]?=some p→ds[i]?=some q→q.1=.tup (p.1.map zdA)) (r2:∀ (i:Nat) p q,kvs[i]?=some p→ds[i]?=some q→Den K H p.2 q.2):Den K H (.ref a) (.dit ds)
 | obj {a C dx:Addr} {fs:List (Str × V)} {ds:List (Str × D)} (h:H a=some (.ins C dx fs)) (l:fs.length=ds.length) (r:∀ (i:Nat) p q,fs[i]?=some p→ds[i]?=some q→q.1=p.1) (r2:∀ (i:Nat) p q,fs[i]?=some p→ds[i]?=some q→Den K H p.2 q.2):Den K H (.ref a) (.obj C ds)
 | excN {a C:Addr} (h:H a=some (.ext (XAt a C none))):Den K H (.ref a) (.exc C [])
 | exc {a C dx:Addr} {fs:List (Str × V)} {ds:List (Str × D)} (h:H a=some (.ext (XAt a C (some dx)))) (h2:H dx=some (.xd fs)) (l:fs.length=ds.length) (r:∀ (i:Nat) p q,fs[i]?=some p→ds[i]?=some q→q.1=p.1) (r2:∀ (i:Nat) p q,fs[i]?=some p→ds[i]?=some q→Den K H p.2 q.2):Den K H (.ref a) (.exc C ds)
abbrev znL (K:PySem.W.Frag) (H:Hp):List (Key × V)→List (D × D)→Prop:=Paired fun p q=>q.1=zdA p.1∧Den K H p.2 q.2
abbrev ziJ (K:PySem.W.Frag) (H:Hp):List (List Key × V)→List (D × D)→Prop:=Paired fun p q=>q.1=.tup (p.1.map zdA)∧Den K H p.2 q.2
abbrev zjA (K:PySem.W.Frag) (H:Hp):List (Str × V)→List (Str × D)→Prop:=Paired fun p q=>q.1=p.1∧Den K H p.2 q.2
abbrev zbP (K:PySem.W.Frag) (H:Hp):List V→List D→Prop:=Paired (Den K H)
section
variable {K:PySem.W.Frag} {H H':Hp} {v:V} {a:Addr} {vs:List V} {ds:List D}
theorem zdu {u:HO} (e:zaW H H') (h:Rd H a u):Rd H' a u:=by
 rcases h with h | ⟨o,h⟩
 ·exact .inl (e _ _ h)
 ·exact .inr ⟨o,e _ _ h⟩
theorem za3 (e:zaW H H') (h:SqT K H a vs):SqT K H' a vs:=by
 rcases h with h | h
 ·exact .inl (zdu e h)
 ·exact .inr h
theorem zas (e:zaW H H') (h:SqL K H a vs):SqL K H' a vs:=by
 rcases h with h | h
 ·exact .inl (zdu e h)
 ·exact .inr h
theorem Den.mono {d:D} (h:Den K H v d) (e:zaW H H'):Den K H' v d:=by
 induction h with
 | non=>exact .non
 | bl b=>exact .bl b
 | int i=>exact .int i
 | str l=>exact .str l
 | ty n=>exact .ty n
 | rng h=>exact .rng (zdu e h)
 | cls C=>exact .cls C
 | adr C=>exact .adr C
 | tup h l r ih=>exact .tup (e _ _ h) l ih
 | lst h l r ih=>exact .lst (zas e h) l ih
 | dicK h l r r2 ih=>exact .dicK (zdu e h) l r ih
 | dicT h l r r2 ih=>exact .dicT (e _ _ h) l r ih
 | obj h l r r2 ih=>exact .obj (e _ _ h) l r ih
 | excN h=>exact .excN (e _ _ h)
 | exc h h2 l r r2 ih=>exact .exc (e _ _ h) (e _ _ h2) l r ih
theorem zbP.mono (h:zbP K H vs ds) (e:zaW H H'):zbP K H' vs ds:=Paired.mapP h fun _ _ q=>q.mono e
theorem znL.mono {kvs:List (Key × V)} {es:List (D × D)} (h:znL K H kvs es) (e:zaW H H'):znL K H' kvs es:=Paired.mapP h fun _ _ q=>⟨q.1,q.2.mono e⟩
theorem ziJ.mono {kvs:List (List Key × V)} {es:List (D × D)} (h:ziJ K H kvs es) (e:zaW H H'):ziJ K H' kvs es:=Paired.mapP h fun _ _ q=>⟨q.1,q.2.mono e⟩
theorem zjA.mono {fs:List (Str × V)} {es:List (Str × D)} (h:zjA K H fs es) (e:zaW H H'):zjA K H' fs es:=Paired.mapP h fun _ _ q=>⟨q.1,q.2.mono e⟩
theorem Den.mkO {C dx:Addr} {fs:List (Str × V)} {es:List (Str × D)} (h:H a=some (.ins C dx fs)) (r:zjA K H fs es):Den K H (.ref a) (.obj C es):=.obj h (zg r) (fun i _ _ h1 h2=>(paired_get i r h1 h2).1) fun i _ _ h1 h2=>(paired_get i r h1 h2).2
theorem Den.objI {C:Addr} {es:List (Str × D)} (h:Den K H v (.obj C es)):∃ a dx fs,v=.ref a∧H a=some (.ins C dx fs)∧zjA K H fs es:=by
 cases h with
 | obj h l r r2=>exact ⟨_,_,_,rfl,h,paired_of l fun i p q h1 h2=>⟨r i p q h1 h2,r2 i p q h1 h2⟩⟩
def zuH (K:PySem.W.Frag) (H:Hp) (dd:Option Addr) (es:List (Str × D)):Prop:=(dd=none∧es=[])∨∃ dx fs,dd=some dx∧H dx=some (.xd fs)∧zjA K H fs es
theorem Den.excI {C:Addr} {es:List (Str × D)} (h:Den K H v (.exc C es)):∃ a dd,v=.ref a∧H a=some (.ext (XAt a C dd))∧zuH K H dd es:=by
 cases h with
 | excN h=>exact ⟨_,_,rfl,h,.inl ⟨rfl,rfl⟩⟩
 | exc h h2 l r r2=>exact ⟨_,_,rfl,h,.inr ⟨_,_,rfl,h2,paired_of l fun i p q h1 h2=>⟨r i p q h1 h2,r2 i p q h1 h2⟩⟩⟩
theorem Den.adrI {b:Addr} (h:Den K H v (.adr b)):v=.ref b:=by cases h; rfl
theorem Den.mkDK {kvs:List (Key × V)} {es:List (D × D)} (h:Rd H a (.dK kvs)) (r:znL K H kvs es):Den K H (.ref a) (.dic es):=.dicK h (zg r) (fun i _ _ h1 h2=>(paired_get i r h1 h2).1) fun i _ _ h1 h2=>(paired_get i r h1 h2).2
theorem Den.mkDT {kvs:List (List Key × V)} {ep:Nat} {es:List (D × D)} (h:H a=some (.dE kvs ep)) (r:ziJ K H kvs es):Den K H (.ref a) (.dit es):=.dicT h (zg r) (fun i _ _ h1 h2=>(paired_get i r h1 h2).1) fun i _ _ h1 h2=>(paired_get i r h1 h2).2
theorem Den.dicI {es:List (D × D)} (h:Den K H v (.dic es)):∃ a kvs,v=.ref a∧Rd H a (.dK kvs)∧znL K H kvs es:=by
 cases h with
 | dicK h l r r2=>exact ⟨_,_,rfl,h,paired_of l fun i p q h1 h2=>⟨r i p q h1 h2,r2 i p q h1 h2⟩⟩
theorem Den.ditI {es:List (D × D)} (h:Den K H v (.dit es)):∃ a kvs ep,v=.ref a∧H a=some (.dE kvs ep)∧ziJ K H kvs es:=by
 cases h with
 | dicT h l r r2=>exact ⟨_,_,_,rfl,h,paired_of l fun i p q h1 h2=>⟨r i p q h1 h2,r2 i p q h1 h2⟩⟩
theorem Den.mkT (h:H a=some (.tup vs)) (r:zbP K H vs ds):Den K H (.ref a) (.tup ds):=.tup h (zg r) fun i _ _ h1 h2=>paired_get i r h1 h2
theorem Den.mkL (h:SqL K H a vs) (r:zbP K H vs ds):Den K H (.ref a) (.lst ds):=.lst h (zg r) fun i _ _ h1 h2=>paired_get i r h1 h2
theorem Den.tupJ (h:Den K H v (.tup ds)):∃ a vs,v=.ref a∧H a=some (.tup vs)∧zbP K H vs ds:=by
 cases h with
 | tup h l r=>exact ⟨_,_,rfl,h,paired_of l r⟩
theorem Den.tupI (h:Den K H v (.tup ds)):∃ a vs,v=.ref a∧SqT K H a vs∧zbP K H vs ds:=by
 cases h with
 | tup h l r=>exact ⟨_,_,rfl,SqT.of h,paired_of l r⟩
theorem Den.lstI (h:Den K H v (.lst ds)):∃ a vs,v=.ref a∧SqL K H a vs∧zbP K H vs ds:=by
 cases h with
 | lst h l r=>exact ⟨_,_,rfl,h,paired_of l r⟩
theorem Den.intI {i:Int} (h:Den K H v (.int i)):v=.int i:=by cases h; rfl
theorem Den.blI {b:Bool} (h:Den K H v (.bl b)):v=.bl b:=by cases h; rfl
theorem Den.strI {l:List Nat} (h:Den K H v (.str l)):v=.str (st l):=by cases h; rfl
theorem Den.nonI (h:Den K H v .non):v=.non:=by cases h; rfl
theorem Den.non_iff {d:D} (h:Den K H v d):v=.non↔d=.non:=by cases h <;> simp
end
inductive Slot where
 | emp | val (d:D) | own (o:OD)
 | bk (d:D→D) (b:Addr) (xs:OD)
abbrev Sts:=List Slot
structure Wd where
 H₀:Hp
 Hi₀:Hp
 F:List Addr
def zbN (K:PySem.W.Frag) (Hi H:Hp) (a:Addr):OD→Prop
 | .lst ds=>∃ vs,H a=some (.lst vs)∧zbP K Hi vs ds
 | .dic ds=>∃ kvs,H a=some (.dK kvs)∧znL K Hi kvs ds
 | .dit ds=>∃ kvs ep,H a=some (.dE kvs ep)∧ziJ K Hi kvs ds
 | .obj C ds=>∃ dx fs,H a=some (.ins C dx fs)∧zjA K Hi fs ds
def zn1:Option (Option V)→Option Addr
 | some (some (.ref a))=>some a
 | _=>none
def adr (n:Nat) (W:Wd) (σ:St) (i:Nat):Option Addr:=if i<n then zn1 σ[i]? else W.F[i-n]?
structure Free (n:Nat) (W:Wd) (Γ:Sts) (σ:St) (a:Addr):Prop where
 own:∀ (j:Nat) o',Γ[j]?=some (.own o')→adr n W σ j≠some a
 bk:∀ (j:Nat) d xs,Γ[j]?≠some (.bk d a xs)
def Hol (K:PySem.W.Frag) (d:D→D):Prop:=∀ (b:Addr) (Hi:Hp) (v:V) (o:OD),Den K Hi (.ref b) o.toD→Den K Hi v (d (.adr b))→Den K Hi v (d o.toD)
structure BkAt (K:PySem.W.Frag) (n:Nat) (W:Wd) (Hi:Hp) (Γ:Sts) (σ:St) (H:Hp) (i:Nat) (d:D→D) (b:Addr) (xs:OD):Prop where
 val:∃ v,σ[i]?=some (some v)∧Den K Hi v (d (.adr b))
 hol:Hol K d
 hi:Hi b=none
 h0:b ∉ W.F→W.H₀ b=none
 at_:zbN K Hi H b xs
 one:∀ (j:Nat) d' xs',Γ[j]?=some (.bk d' b xs')→j=i
 ne:∀ (j:Nat) o',Γ[j]?=some (.own o')→adr n W σ j≠some b
structure Fz (Hi H:Hp):Prop where
 sub:zaW Hi H
 tups:∀ a xs,H a=some (.tup xs)→Hi a=some (.tup xs)
structure Good (K:PySem.W.Frag) (n:Nat) (W:Wd) (Hi:Hp) (Γ:Sts) (σ:St) (H:Hp):Prop where
 len:σ.length=n
 fz:Fz Hi H
 keep:∀ a o,W.H₀ a=some o→a ∉ W.F→H a=some o
 there:∀ a o,W.H₀ a=some o→∃ o',H a=some o'
 fro:∀ a o,W.H₀ a=some o→Hi a=W.Hi₀ a
 val:∀ (i:Nat) d,Γ[i]?=some (.val d)→∃ v,σ[i]?=some (some v)∧Den K Hi v d
 own:∀ (i:Nat) o,Γ[i]?=some (.own o)→∃ a,adr n W σ i=some a∧Hi a=none∧(i<n→W.H₀ a=none)∧zbN K Hi H a o
 apart:∀ (i j:Nat) o o' a,Γ[i]?=some (.own o)→Γ[j]?=some (.own o')→adr n W σ i=some a→adr n W σ j=some a→i=j
 bk:∀ (i:Nat) d b xs,Γ[i]?=some (.bk d b xs)→BkAt K n W Hi Γ σ H i d b xs
theorem Good.sub {K:PySem.W.Frag} {n:Nat} {W:Wd} {Hi:Hp} {Γ:Sts} {σ:St} {H:Hp} (g:Good K n W Hi Γ σ H):zaW Hi H:=g.fz.sub
structure Ext (Hi H Hi' H':Hp):Prop where
 hi:zaW Hi Hi'
 h:zaW H H'
 fz:Fz Hi' H'
 fro:∀ a o,H a=some o→Hi' a=Hi a
theorem Ext.refl {Hi H:Hp} (s:Fz Hi H):Ext Hi H Hi H:=⟨zaW.refl _,zaW.refl _,s,fun _ _ _=>rfl⟩
theorem Ext.trans {A B A1 B1 A2 B2:Hp} (x:Ext A B A1 B1) (y:Ext A1 B1 A2 B2):Ext A B A2 B2 :=
 ⟨x.hi.trans y.hi,x.h.trans y.h,y.fz,fun a o e=>(y.fro a o (x.h a o e)).trans (x.fro a o e)⟩
theorem zaJ {H:Hp} {p:Addr} (h:H p=none) (o:HO):zaW H (upd H p o):=fun b u q=>by rw [zo (zaL q h)]; exact q
theorem Ext.new {Hi H:Hp} {p:Addr} (s:Fz Hi H) (h:H p=none) (o:HO):Ext Hi H (upd Hi p o) (upd H p o):=by
 have hi:Hi p=none:=s.sub.free h
 refine ⟨zaJ hi o,zaJ h o,⟨fun b u q=>?_,fun b xs q=>?_⟩,fun b u q=>?_⟩
 ·by_cases e:b=p
  ·subst e; rw [zh] at q ⊢; exact q
  ·rw [zo e] at q ⊢; exact s.sub b u q
 ·by_cases e:b=p
  ·subst e; rw [zh] at q ⊢; exact q
  ·rw [zo e] at q ⊢; exact s.tups b xs q
 ·exact zo (zaL q h)
theorem Ext.newO {Hi H:Hp} {p:Addr} (s:Fz Hi H) (h:H p=none) (o:HO) (ho:∀ xs,o≠.tup xs):Ext Hi H Hi (upd H p o) :=
 ⟨zaW.refl _,zaJ h o,⟨s.sub.trans (zaJ h o),fun b xs q=>by
  by_cases e:b=p
  ·subst e; rw [zh] at q; exact absurd (Option.some.inj q) (ho xs)
  ·rw [zo e] at q; exact s.tups b xs q⟩,fun _ _ _=>rfl⟩
section
variable {K:PySem.W.Frag} {n:Nat} {W:Wd} {Hi Hi' H H':Hp} {Γ:Sts} {σ:St} {a:Addr} {o:OD}
theorem zbN.there (h:zbN K Hi H a o):∃ u,H a=some u:=by
 cases o with
 | lst ds=>obtain ⟨vs,e,_⟩:=h; exact ⟨_,e⟩
 | dic ds=>obtain ⟨kvs,e,_⟩:=h; exact ⟨_,e⟩
 | dit ds=>obtain ⟨kvs,ep,e,_⟩:=h; exact ⟨_,e⟩
 | obj C ds=>obtain ⟨dx,fs,e,_⟩:=h; exact ⟨_,e⟩
theorem zbN.mono (h:zbN K Hi H a o) (hi:zaW Hi Hi') (e:∀ u,H a=some u→H' a=some u):zbN K Hi' H' a o:=by
 cases o with
 | lst ds=>obtain ⟨vs,q,r⟩:=h; exact ⟨vs,e _ q,r.mono hi⟩
 | dic ds=>obtain ⟨kvs,q,r⟩:=h; exact ⟨kvs,e _ q,r.mono hi⟩
 | dit ds=>obtain ⟨kvs,ep,q,r⟩:=h; exact ⟨kvs,ep,e _ q,r.mono hi⟩
 | obj C ds=>obtain ⟨dx,fs,q,r⟩:=h; exact ⟨dx,fs,e _ q,r.mono hi⟩
theorem zbN.notTup (h:zbN K Hi H a o):∀ xs,H a≠some (.tup xs):=fun xs z=>by
 cases o with
 | lst ds=>obtain ⟨vs,e,_⟩:=h; rw [e] at z; cases z
 | dic ds=>obtain ⟨kvs,e,_⟩:=h; rw [e] at z; cases z
 | dit ds=>obtain ⟨kvs,ep,e,_⟩:=h; rw [e] at z; cases z
 | obj C ds=>obtain ⟨dx,fs,e,_⟩:=h; rw [e] at z; cases z
theorem Good.ext (g:Good K n W Hi Γ σ H) (e:Ext Hi H Hi' H'):Good K n W Hi' Γ σ H' where
 len:=g.len
 fz:=e.fz
 keep:=fun a o h n=>e.h a o (g.keep a o h n)
 there:=fun a o h=>by
  obtain ⟨o',q⟩:=g.there a o h; exact ⟨o',e.h a o' q⟩
 fro:=fun a o h=>by
  obtain ⟨o',q⟩:=g.there a o h; exact (e.fro a o' q).trans (g.fro a o h)
 val:=fun i d h=>by
  obtain ⟨v,h1,h2⟩:=g.val i d h; exact ⟨v,h1,h2.mono e.hi⟩
 own:=fun i o h=>by
  obtain ⟨a,h1,h2,h3,h4⟩:=g.own i o h; obtain ⟨u,hu⟩:=h4.there
  exact ⟨a,h1,(e.fro a u hu).trans h2,h3,h4.mono e.hi fun u q=>e.h a u q⟩
 apart:=g.apart
 bk:=fun i d b xs h=>by
  obtain ⟨⟨v,h0,h1⟩,h2,h3,h4,h5,h6,h7⟩:=g.bk i d b xs h
  obtain ⟨u,hu⟩:=h5.there
  exact ⟨⟨v,h0,h1.mono e.hi⟩,h2,(e.fro b u hu).trans h3,h4,h5.mono e.hi fun u q=>e.h b u q,h6,h7⟩
theorem Good.weak (g:Good K n W Hi Γ σ H) {Γ':Sts} (h:∀ (i:Nat) s,Γ'[i]?=some s→s=.emp∨Γ[i]?=some s):Good K n W Hi Γ' σ H where
 len:=g.len
 fz:=g.fz
 keep:=g.keep
 there:=g.there
 fro:=g.fro
 val:=fun i d e=>by
  rcases h i _ e with z | z
  ·cases z
  ·exact g.val i d z
 own:=fun i d e=>by
  rcases h i _ e with z | z
  ·cases z
  ·exact g.own i d z
 apart:=fun i j o o' a e1 e2=>by
  rcases h i _ e1 with z | z
  ·cases z
  ·rcases h j _ e2 with y | y
   ·cases y
   ·exact g.apart i j o o' a z y
 bk:=fun i d b xs e=>by
  rcases h i _ e with z | z
  ·cases z
  ·obtain ⟨h0,h1,h2,h3,h4,h5,h6⟩:=g.bk i d b xs z
   refine ⟨h0,h1,h2,h3,h4,fun j d' xs' q=>?_,fun j o' q=>?_⟩
   ·rcases h j _ q with y | y
    ·cases y
    ·exact h5 j _ _ y
   ·rcases h j _ q with y | y
    ·cases y
    ·exact h6 j o' y
theorem zd5 {o:Option (Option V)} (h:zn1 o=some a):o=some (some (.ref a)):=by
 unfold zn1 at h; split at h
 ·cases h; rfl
 ·cases h
theorem Good.set (g:Good K n W Hi Γ σ H) {i:Nat} {v:V} {d:D} (hi:i<n) (r:Den K Hi v d):Good K n W Hi (Γ.set i (.val d)) (σ.set i (some v)) H:=by
 have ad:∀ j,j≠i→adr n W (σ.set i (some v)) j=adr n W σ j:=fun j hj=>by
  unfold adr
  rw [List.getElem?_set_ne (fun z=>hj z.symm)]
 have inv:∀ (j:Nat) (s:Slot),(Γ.set i (.val d))[j]?=some s→(j=i∧s=.val d)∨(j≠i∧Γ[j]?=some s):=fun j s e=>by
  by_cases hj:j=i
  ·subst hj
   refine .inl ⟨rfl,?_⟩; rw [List.getElem?_set] at e; simp only [if_true] at e; split at e
   ·exact (Option.some.inj e).symm
   ·cases e
  ·rw [List.getElem?_set_ne (fun z=>hj z.symm)] at e
   exact .inr ⟨hj,e⟩
 refine ⟨by rw [List.length_set]; exact g.len,g.fz,g.keep,g.there,g.fro,fun j d' e=>?_,fun j o e=>?_,fun j k o o' a e1 e2 h1 h2=>?_,fun j d' b xs e=>?_⟩
 ·rcases inv j _ e with ⟨rfl,z⟩ | ⟨hj,z⟩
  ·cases z
   exact ⟨v,by rw [List.getElem?_set_self (by rw [g.len]; exact hi)],r⟩
  ·obtain ⟨w,h1,h2⟩:=g.val j d' z
   exact ⟨w,by rw [List.getElem?_set_ne (fun z=>hj z.symm)]; exact h1,h2⟩
 ·rcases inv j _ e with ⟨rfl,z⟩ | ⟨hj,z⟩
  ·cases z
  ·obtain ⟨a,h1,h2⟩:=g.own j o z
   exact ⟨a,by rw [ad j hj]; exact h1,h2⟩
 ·rcases inv j _ e1 with ⟨rfl,z⟩ | ⟨hj,z⟩
  ·cases z
  ·rcases inv k _ e2 with ⟨rfl,y⟩ | ⟨hk,y⟩
   ·cases y
   ·exact g.apart j k o o' a z y (by rw [← ad j hj]; exact h1) (by rw [← ad k hk]; exact h2)
 ·rcases inv j _ e with ⟨rfl,z⟩ | ⟨hj,z⟩
  ·cases z
  ·obtain ⟨⟨w,w1,w2⟩,h1,h2,h3,h4,h5,h6⟩:=g.bk j d' b xs z
   refine ⟨⟨w,by rw [List.getElem?_set_ne (fun z=>hj z.symm)]; exact w1,w2⟩,h1,h2,h3,h4,fun k d' xs' q=>?_,fun k o' q=>?_⟩
   ·rcases inv k _ q with ⟨rfl,y⟩ | ⟨hk,y⟩
    ·cases y
    ·exact h5 k _ _ y
   ·rcases inv k _ q with ⟨rfl,y⟩ | ⟨hk,y⟩
    ·cases y
    ·rw [ad k hk]
     exact h6 k o' y
theorem Good.setO (g:Good K n W Hi Γ σ H) {i:Nat} (hi:i<n) (h0:Hi a=none) (h1:W.H₀ a=none) (fr:Free n W Γ σ a) (h3:zbN K Hi H a o):Good K n W Hi (Γ.set i (.own o)) (σ.set i (some (.ref a))) H:=by
 have ad:∀ j,j≠i→adr n W (σ.set i (some (.ref a))) j=adr n W σ j:=fun j hj=>by
  unfold adr
  rw [List.getElem?_set_ne (fun z=>hj z.symm)]
 have ai:adr n W (σ.set i (some (.ref a))) i=some a:=by
  unfold adr
  rw [if_pos hi,List.getElem?_set_self (by rw [g.len]; exact hi)]
  rfl
 have inv:∀ (j:Nat) (s:Slot),(Γ.set i (.own o))[j]?=some s→(j=i∧s=.own o)∨(j≠i∧Γ[j]?=some s):=fun j s e=>by
  by_cases hj:j=i
  ·subst hj
   refine .inl ⟨rfl,?_⟩; rw [List.getElem?_set] at e; simp only [if_true] at e; split at e
   ·exact (Option.some.inj e).symm
   ·cases e
  ·rw [List.getElem?_set_ne (fun z=>hj z.symm)] at e
   exact .inr ⟨hj,e⟩
 refine ⟨by rw [List.length_set]; exact g.len,g.fz,g.keep,g.there,g.fro,fun j d' e=>?_,fun j o e=>?_,fun j k o o' b e1 e2 q1 q2=>?_,fun j d' b xs e=>?_⟩
 ·rcases inv j _ e with ⟨rfl,z⟩ | ⟨hj,z⟩
  ·cases z
  ·obtain ⟨w,h1,h2⟩:=g.val j d' z
   exact ⟨w,by rw [List.getElem?_set_ne (fun z=>hj z.symm)]; exact h1,h2⟩
 ·rcases inv j _ e with ⟨rfl,z⟩ | ⟨hj,z⟩
  ·cases z
   exact ⟨a,ai,h0,fun _=>h1,h3⟩
  ·obtain ⟨b,q1,q2⟩:=g.own j o z
   exact ⟨b,by rw [ad j hj]; exact q1,q2⟩
 ·rcases inv j _ e1 with ⟨rfl,z⟩ | ⟨hj,z⟩
  ·rcases inv k _ e2 with ⟨rfl,y⟩ | ⟨hk,y⟩
   ·rfl
   ·rw [ai] at q1
    cases q1; rw [ad k hk] at q2; exact absurd q2 (fr.own k _ y)
  ·rcases inv k _ e2 with ⟨rfl,y⟩ | ⟨hk,y⟩
   ·rw [ai] at q2
    cases q2; rw [ad j hj] at q1; exact absurd q1 (fr.own j _ z)
   ·exact g.apart j k o o' b z y (by rw [← ad j hj]; exact q1) (by rw [← ad k hk]; exact q2)
 ·rcases inv j _ e with ⟨rfl,z⟩ | ⟨hj,z⟩
  ·cases z
  ·obtain ⟨⟨w,w1,w2⟩,h1,h2,h3,h4,h5,h6⟩:=g.bk j d' b xs z
   refine ⟨⟨w,by rw [List.getElem?_set_ne (fun z=>hj z.symm)]; exact w1,w2⟩,h1,h2,h3,h4,fun k d' xs' q=>?_,fun k o' q=>?_⟩
   ·rcases inv k _ q with ⟨rfl,y⟩ | ⟨hk,y⟩
    ·cases y
    ·exact h5 k _ _ y
   ·rcases inv k _ q with ⟨rfl,y⟩ | ⟨hk,y⟩
    ·rw [ai]
     intro w; cases w; exact fr.bk j _ _ z
    ·rw [ad k hk]
     exact h6 k o' y
theorem Good.put (g:Good K n W Hi Γ σ H) {i:Nat} {o0:OD} {u:HO} (e0:Γ[i]?=some (.own o0)) (ha:adr n W σ i=some a) (hn:zbN K Hi (upd H a u) a o):Good K n W Hi (Γ.set i (.own o)) σ (upd H a u):=by
 obtain ⟨a',h1,h2,h3,h4⟩:=g.own i _ e0; rw [ha] at h1; cases h1
 have hF:i<n∨a ∈ W.F:=by
  by_cases hi:i<n
  ·exact .inl hi
  ·unfold adr at ha
   rw [if_neg hi] at ha; exact .inr (List.mem_of_getElem? ha)
 have inv:∀ (j:Nat) (s:Slot),(Γ.set i (.own o))[j]?=some s→(j=i∧s=.own o)∨(j≠i∧Γ[j]?=some s):=fun j s e=>by
  by_cases hj:j=i
  ·subst hj
   refine .inl ⟨rfl,?_⟩; rw [List.getElem?_set] at e; simp only [if_true] at e; split at e
   ·exact (Option.some.inj e).symm
   ·cases e
  ·rw [List.getElem?_set_ne (fun z=>hj z.symm)] at e
   exact .inr ⟨hj,e⟩
 refine ⟨g.len,⟨fun b w q=>?_,fun b xs q=>?_⟩,fun b w q nf=>?_,fun b w q=>?_,g.fro,fun j d' e=>?_,fun j o' e=>?_,fun j k o1 o2 b e1 e2 q1 q2=>?_,fun j d' b xs e=>?_⟩
 ·rw [zo (fun z=>by rw [z,h2] at q; cases q)]
  exact g.sub b w q
 ·by_cases hb:b=a
  ·subst hb
   exact absurd q (hn.notTup xs)
  ·rw [zo hb] at q
   exact g.fz.tups b xs q
 ·have hb:b≠a:=fun z=>by
   subst z
   rcases hF with hi | hf
   ·rw [h3 hi] at q; cases q
   ·exact nf hf
  rw [zo hb]; exact g.keep b w q nf
 ·by_cases hb:b=a
  ·exact ⟨u,by rw [hb,zh]⟩
  ·obtain ⟨w',hw⟩:=g.there b w q
   exact ⟨w',by rw [zo hb]; exact hw⟩
 ·rcases inv j _ e with ⟨rfl,z⟩ | ⟨hj,z⟩
  ·cases z
  ·exact g.val j d' z
 ·rcases inv j _ e with ⟨rfl,z⟩ | ⟨hj,z⟩
  ·cases z
   exact ⟨a,ha,h2,h3,hn⟩
  ·obtain ⟨b,q1,q2,q3,q4⟩:=g.own j o' z
   have hb:b≠a:=fun w=>hj (g.apart j i _ _ a z e0 (by rw [← w]; exact q1) ha)
   exact ⟨b,q1,q2,q3,q4.mono (zaW.refl _) fun w hw=>by rw [zo hb]; exact hw⟩
 ·have e1':∃ oo,Γ[j]?=some (.own oo):=by
   rcases inv j _ e1 with ⟨rfl,z⟩ | ⟨hj,z⟩
   ·exact ⟨_,e0⟩
   ·exact ⟨_,z⟩
  have e2':∃ oo,Γ[k]?=some (.own oo):=by
   rcases inv k _ e2 with ⟨rfl,z⟩ | ⟨hj,z⟩
   ·exact ⟨_,e0⟩
   ·exact ⟨_,z⟩
  obtain ⟨_,z1⟩:=e1'; obtain ⟨_,z2⟩:=e2'; exact g.apart j k _ _ b z1 z2 q1 q2
 ·rcases inv j _ e with ⟨rfl,z⟩ | ⟨hj,z⟩
  ·cases z
  ·obtain ⟨p0,p1,p2,p3,p4,p5,p6⟩:=g.bk j d' b xs z
   have hb:b≠a:=fun w=>p6 i _ e0 (by rw [w]; exact ha)
   refine ⟨p0,p1,p2,p3,p4.mono (zaW.refl _) fun w hw=>by rw [zo hb]; exact hw,fun k d' xs' q=>?_,fun k o' q=>?_⟩
   ·rcases inv k _ q with ⟨rfl,y⟩ | ⟨hk,y⟩
    ·cases y
    ·exact p5 k _ _ y
   ·rcases inv k _ q with ⟨rfl,y⟩ | ⟨hk,y⟩
    ·exact p6 k _ e0
    ·exact p6 k o' y
theorem Good.freezeA (g:Good K n W Hi Γ σ H) (h0:Hi a=none) (h1:W.H₀ a=none) (fr:Free n W Γ σ a) {u:HO} (hu:H a=some u):Good K n W (upd Hi a u) Γ σ H:=by
 have hs:zaW Hi (upd Hi a u):=zaJ h0 u
 refine ⟨g.len,⟨fun b w q=>?_,fun b xs q=>?_⟩,g.keep,g.there,fun b w q=>?_,fun j d' e=>?_,fun j o' e=>?_,g.apart,fun j d' b xs e=>?_⟩
 ·by_cases hb:b=a
  ·subst hb; rw [zh] at q; cases q; exact hu
  ·rw [zo hb] at q; exact g.sub b w q
 ·have hb:b≠a:=fun z=>by
   have:=g.fz.tups b xs q
   rw [z,h0] at this; cases this
  rw [zo hb]; exact g.fz.tups b xs q
 ·have hb:b≠a:=fun z=>by subst z; rw [h1] at q; cases q
  rw [zo hb]; exact g.fro b w q
 ·obtain ⟨w,q1,q2⟩:=g.val j d' e
  exact ⟨w,q1,q2.mono hs⟩
 ·obtain ⟨b,q1,q2,q3,q4⟩:=g.own j o' e
  have hb:b≠a:=fun z=>fr.own j o' e (by rw [← z]; exact q1)
  exact ⟨b,q1,by rw [zo hb]; exact q2,q3,q4.mono hs fun _ z=>z⟩
 ·obtain ⟨⟨w,w1,w2⟩,p1,p2,p3,p4,p5,p6⟩:=g.bk j d' b xs e
  have hb:b≠a:=fun z=>fr.bk j _ _ (by rw [← z]; exact e)
  exact ⟨⟨w,w1,w2.mono hs⟩,p1,by rw [zo hb]; exact p2,p3,p4.mono hs fun _ z=>z,p5,p6⟩
theorem zbN.den (h:zbN K Hi H a o) (h0:Hi a=none) {u:HO} (hu:H a=some u):Den K (upd Hi a u) (.ref a) o.toD:=by
 cases o with
 | lst ds =>
  obtain ⟨vs,q,r⟩:=h; rw [hu] at q; cases q; exact Den.mkL (SqL.of zh) (r.mono (zaJ h0 _))
 | dic ds =>
  obtain ⟨kvs,q,r⟩:=h; rw [hu] at q; cases q; exact Den.mkDK (.inl zh) (r.mono (zaJ h0 _))
 | dit ds =>
  obtain ⟨kvs,ep,q,r⟩:=h; rw [hu] at q; cases q; exact Den.mkDT zh (r.mono (zaJ h0 _))
 | obj C ds =>
  obtain ⟨dx,fs,q,r⟩:=h; rw [hu] at q; cases q; exact Den.mkO zh (r.mono (zaJ h0 _))
end
end PL
namespace PL
open PySem L2
abbrev TE':=Sts→(D→Sts→Prop)→Prop
abbrev TT':=Sts→(Bool→Sts→Prop)→Prop
abbrev TA':=Sts→(List D→Sts→Prop)→Prop
abbrev TO':=Sts→(OD→Sts→Prop)→Prop
abbrev TI':=Sts→(List D→Sts→Prop)→Prop
abbrev TG':=D→Sts→(Sts→Prop)→Prop
inductive Res where
 | val (d:D) | own (o:OD)
 | bk (d:D→D) (o:OD)
def Res.toD:Res→D
 | .val d=>d
 | .own o=>o.toD
 | .bk d o=>d o.toD
structure Ends' where
 nx:Sts→Prop
 rt:Res→Sts→Prop
 bk:Sts→Prop:=fun _=>False
 ct:Sts→Prop:=fun _=>False
abbrev TS':=Ends'→Sts→Prop
def ztE (K:PySem.W.Frag) (n:Nat) (W:Wd) (Hi:Hp) (σ:St) (Q:D→Sts→Prop):VK:=fun v H'=>∃ Hi' d Γ',zaW Hi Hi'∧Good K n W Hi' Γ' σ H'∧Den K Hi' v d∧Q d Γ'
def tOf (K:PySem.W.Frag) (n:Nat) (t:TE'):TE:=fun σ H Q2=>∃ W Hi Γ Q,Good K n W Hi Γ σ H∧t Γ Q∧∀ v H',ztE K n W Hi σ Q v H'→Q2 v H'
def zpu (K:PySem.W.Frag) (n:Nat) (t:TT'):TT:=fun σ H Q2=>∃ W Hi Γ Q,Good K n W Hi Γ σ H∧t Γ Q∧∀ b H' Hi' Γ',zaW Hi Hi'→Good K n W Hi' Γ' σ H'→Q b Γ'→Q2 b H'
def zsc (K:PySem.W.Frag) (n:Nat) (t:TA'):TA:=fun σ H Q2=>∃ W Hi Γ Q,Good K n W Hi Γ σ H∧t Γ Q∧∀ vs H' Hi' Γ' ds,zaW Hi Hi'→Good K n W Hi' Γ' σ H'→zbP K Hi' vs ds→Q ds Γ'→Q2 vs H'
structure New (K:PySem.W.Frag) (n:Nat) (W:Wd) (Hi:Hp) (Γ:Sts) (σ:St) (H:Hp) (a:Addr) (o:OD):Prop where
 hi:Hi a=none
 h0:W.H₀ a=none
 ne:Free n W Γ σ a
 own:zbN K Hi H a o
def oOf (K:PySem.W.Frag) (n:Nat) (t:TO'):TE:=fun σ H Q2=>∃ W Hi Γ Q,Good K n W Hi Γ σ H∧t Γ Q∧∀ a H' Hi' Γ' o,zaW Hi Hi'→Good K n W Hi' Γ' σ H'→New K n W Hi' Γ' σ H' a o→Q o Γ'→Q2 (.ref a) H'
def gOf (K:PySem.W.Frag) (n:Nat) (g:TG'):TG:=fun v σ H Q2=>∃ W Hi Γ d Q,Good K n W Hi Γ σ H∧Den K Hi v d∧g d Γ Q∧∀ σ' H' Hi' Γ',zaW Hi Hi'→Good K n W Hi' Γ' σ' H'→Q Γ'→Q2 σ' H'
def zrw (K:PySem.W.Frag) (H₀ Hi H:Hp) (v:V):Res→Prop
 | .val d=>Den K Hi v d
 | .own o=>∃ a,v=.ref a∧Hi a=none∧H₀ a=none∧zbN K Hi H a o
 | .bk d o=>∃ b,Den K Hi v (d (.adr b))∧Hol K d∧Hi b=none∧H₀ b=none∧zbN K Hi H b o
structure Lifts (K:PySem.W.Frag) (n:Nat) (W:Wd) (Hi:Hp) (N:Ends') (N2:Ends):Prop where
 nx:∀ σ' H' Hi' Γ',zaW Hi Hi'→Good K n W Hi' Γ' σ' H'→N.nx Γ'→N2.nx σ' H'
 bk:∀ σ' H' Hi' Γ',zaW Hi Hi'→Good K n W Hi' Γ' σ' H'→N.bk Γ'→N2.bk σ' H'
 ct:∀ σ' H' Hi' Γ',zaW Hi Hi'→Good K n W Hi' Γ' σ' H'→N.ct Γ'→N2.ct σ' H'
 rt:∀ v σ' H' Hi' Γ' r,zaW Hi Hi'→Good K n W Hi' Γ' σ' H'→zrw K W.H₀ Hi' H' v r→N.rt r Γ'→N2.rt v H'
theorem Lifts.mono {K:PySem.W.Frag} {n:Nat} {W:Wd} {Hi Hi':Hp} {N:Ends'} {N2:Ends} (l:Lifts K n W Hi N N2) (s:zaW Hi Hi'):Lifts K n W Hi' N N2 :=
 ⟨fun σ' H' Hi2 Γ' e=>l.nx σ' H' Hi2 Γ' (s.trans e),fun σ' H' Hi2 Γ' e=>l.bk σ' H' Hi2 Γ' (s.trans e),fun σ' H' Hi2 Γ' e=>l.ct σ' H' Hi2 Γ' (s.trans e),fun v σ' H' Hi2 Γ' r e=>l.rt v σ' H' Hi2 Γ' r (s.trans e)⟩
def sOf (K:PySem.W.Frag) (n:Nat) (t:TS'):TS:=fun N2 σ H=>∃ W Hi Γ N,Good K n W Hi Γ σ H∧t N Γ∧Lifts K n W Hi N N2
def ItD (K:PySem.W.Frag) (Hi:Hp) (J:It) (ds:List D):Prop:=∀ Hi' H',zaW Hi Hi'→Fz Hi' H' →
 (∀ (i:Nat) d,ds[i]?=some d→J.go i H'∧∀ x H'',J.yld i H' x H''→∃ Hi'',Ext Hi' H' Hi'' H''∧Den K Hi'' x d)∧J.stop ds.length H'
def iOf (K:PySem.W.Frag) (n:Nat) (t:TI'):TI:=fun σ H R=>∃ W Hi Γ Q,Good K n W Hi Γ σ H∧t Γ Q∧∀ J H' Hi' Γ' ds,zaW Hi Hi'→Good K n W Hi' Γ' σ H'→ItD K Hi' J ds→Q ds Γ'→R J H'
structure PE' (X:Cx) (e:Expr) (t:TE'):Prop where
 h:PE X e (tOf X.K X.N.length t)
structure PO' (X:Cx) (e:Expr) (t:TO'):Prop where
 h:PE X e (oOf X.K X.N.length t)
structure PT' (X:Cx) (e:Expr) (t:TT'):Prop where
 h:PT X e (zpu X.K X.N.length t)
structure PW' (X:Cx) (e:Expr) (t:TT'):Prop where
 h:PW X e (zpu X.K X.N.length t)
def zeT:Expr→Bool
 | .Starred _ _=>true
 | _=>false
def zch:List Expr→Bool
 | []=>true
 | e :: es=>!zeT e && zch es
theorem zaP {e:Expr} {es:List Expr} {env:Env} (h:zeT e=false):starEach (e :: es) env=(false,eval e env) :: starEach es env:=by
 cases e <;> first | rfl | (exact absurd (show true=false from h) Bool.noConfusion)
theorem zaR {pos:Pos} {env:Env}:∀ {es:List Expr},zch es=true→(backTo pos (starEach es env)).any (·.1)=false
 | [],_=>rfl
 | e :: es,h=>by
  have h1:zeT e=false∧zch es=true:=by
   unfold zch at h
   simpa using h
  rw [zaP h1.1]
  show (false || (backTo pos (starEach es env)).any (·.1))=false
  rw [zaR h1.2]; rfl
theorem zX {e:Expr} {es:List Expr} (h:zch (e :: es)=true):zeT e=false∧zch es=true:=by
 unfold zch at h
 simpa using h
structure PA' (X:Cx) (es:List Expr) (t:TA'):Prop where
 pa:PA X es (zsc X.K X.N.length t)
 pl:zch es=true
structure PS' (X:Cx) (s:Stmt) (t:TS'):Prop where
 h:PS X s (sOf X.K X.N.length t)
structure PSs' (X:Cx) (s:List Stmt) (t:TS'):Prop where
 h:PSs X s (sOf X.K X.N.length t)
structure PG' (X:Cx) (tg:Expr) (g:TG'):Prop where
 h:PG X tg (gOf X.K X.N.length g)
structure PI' (X:Cx) (tg iter:Expr) (t:TI'):Prop where
 h:PI X tg iter (iOf X.K X.N.length t)
section
variable {X:Cx}
theorem PE.weak {e:Expr} {t t2:TE} (h:PE X e t) (w:∀ σ H Q,t2 σ H Q→t σ H Q):PE X e t2:=fun pins s σ H Q I q=>h pins s σ H Q I (w _ _ _ q)
theorem PT.weak {e:Expr} {t t2:TT} (h:PT X e t) (w:∀ σ H Q,t2 σ H Q→t σ H Q):PT X e t2:=fun pins s σ H Q I q=>h pins s σ H Q I (w _ _ _ q)
theorem PW.weak {e:Expr} {t t2:TT} (h:PW X e t) (w:∀ σ H Q,t2 σ H Q→t σ H Q):PW X e t2:=fun wh pins s σ H Q I q=>h wh pins s σ H Q I (w _ _ _ q)
theorem PA.weak {es:List Expr} {t t2:TA} (h:PA X es t) (w:∀ σ H Q,t2 σ H Q→t σ H Q):PA X es t2:=fun pos pins s σ H Q I q=>h pos pins s σ H Q I (w _ _ _ q)
theorem PS.weak {st:Stmt} {t t2:TS} (h:PS X st t) (w:∀ N σ H,t2 N σ H→t N σ H):PS X st t2:=fun pins s σ H N I q=>h pins s σ H N I (w _ _ _ q)
theorem PSs.weak {st:List Stmt} {t t2:TS} (h:PSs X st t) (w:∀ N σ H,t2 N σ H→t N σ H):PSs X st t2:=fun pins s σ H N I q=>h pins s σ H N I (w _ _ _ q)
theorem PG.weak {tg:Expr} {t t2:TG} (h:PG X tg t) (w:∀ v σ H Q,t2 v σ H Q→t v σ H Q):PG X tg t2:=fun pins s σ H v u Q I r q=>h pins s σ H v u Q I r (w _ _ _ _ q)
theorem PI.weak {tg iter:Expr} {t t2:TI} (h:PI X tg iter t) (w:∀ σ H Q,t2 σ H Q→t σ H Q):PI X tg iter t2:=fun pins s σ H Q I q=>h pins s σ H Q I (w _ _ _ q)
def zaa (i:Nat):TE':=fun Γ Q=>∃ d,Γ[i]?=some (.val d)∧Q d Γ
def tC' (d:D):TE':=fun Γ Q=>Q d Γ
theorem pv' (i:Nat) {x:Str} {pos:Pos} (hN:X.N[i]?=some x:=by rfl) (hv:Vis X.env.scope x:=by first | exact Or.inl rfl | exact Or.inr (Or.inl rfl) | exact Or.inr (Or.inr rfl)) (hd:(x == ("__debug__":Str))=false:=by decide)
  (hcd:(x == ("__classdict__":Str))=false:=by decide):PE' X (.Name x pos) (zaa i):=by
 refine ⟨PE.weak (zcq (i:=i) hN hv hd hcd) ?_⟩
 rintro σ H Q ⟨W,Hi,Γ,Q',g,⟨d,e,q⟩,fin⟩
 obtain ⟨v,h1,h2⟩:=g.val i d e; exact ⟨v,h1,fin v H ⟨Hi,d,Γ,zaW.refl _,g,h2,q⟩⟩
theorem zhw {e:Expr} {v:V} {d:D} (h:PE X e (tC v)) (r:∀ Hi,Den X.K Hi v d):PE' X e (tC' d):=by
 refine ⟨PE.weak h ?_⟩
 rintro σ H Q ⟨W,Hi,Γ,Q',g,q,fin⟩
 exact fin v H ⟨Hi,d,Γ,zaW.refl _,g,r Hi,q⟩
theorem zb {i j pos}:PE' X (.Constant (.int i) j pos) (tC' (.int i)):=zhw zni fun _=>.int i
theorem zdN {b j pos}:PE' X (.Constant (.bool b) j pos) (tC' (.bl b)):=zhw zsM fun _=>.bl b
theorem zc7 {j pos}:PE' X (.Constant .none j pos) (tC' .non):=zhw zqp fun _=>.non
theorem zaS (l:List Nat) {x j pos} (h:x=st l:=by decide +kernel):PE' X (.Constant (.str x) j pos) (tC' (.str l)):=by
 subst h
 exact zhw zqm fun _=>.str l
theorem zou {x:Str} {v:V} {u:Value} {d:D} {pos:Pos} (hm:X.mg x=some u) (r:zbA v u) (rd:∀ Hi,Den X.K Hi v d) (hg:Gl X x:=by rfl) (hd:(x == ("__debug__":Str))=false:=by decide):PE' X (.Name x pos) (tC' d):=zhw (zot hg hm r hd) rd
theorem zqt {x:Str} {l:List Nat} {t:Tok} {pos:Pos} (hm:X.mg x=some (.str (st l) t)) (hg:Gl X x:=by rfl) (hd:(x == ("__debug__":Str))=false:=by decide):PE' X (.Name x pos) (tC' (.str l)):=zou (v:=.str (st l)) hm ⟨_,rfl⟩ (fun _=>.str l) hg hd
theorem zqu {x:Str} {i:Int} {t:Tok} {pos:Pos} (hm:X.mg x=some (.int i t)) (hg:Gl X x:=by rfl) (hd:(x == ("__debug__":Str))=false:=by decide):PE' X (.Name x pos) (tC' (.int i)):=zou (v:=.int i) hm ⟨_,rfl⟩ (fun _=>.int i) hg hd
theorem zqk {x:Str} {c:String} {pos:Pos} (hm:X.mg x=none) (hv:bootBuiltins x=some (.type c)) (hg:Gl X x:=by rfl) (hn:x≠"__name__":=by decide) (hd:(x == ("__debug__":Str))=false:=by decide):PE' X (.Name x pos) (tC' (.ty c)) :=
 zhw (zoB (v:=.ty c) hg hm hv rfl hn hd) fun _=>.ty c
def zbn (t:TO'):TE':=fun Γ Q=>t Γ fun o Γ1=>Q o.toD Γ1
theorem zbt {e:Expr} {t:TO'} (h:PO' X e t):PE' X e (zbn t):=by
 refine ⟨PE.weak h.h ?_⟩
 rintro σ H Q ⟨W,Hi,Γ,Q',g,q,fin⟩
 refine ⟨W,Hi,Γ,_,g,q,?_⟩; intro a H' Hi' Γ' o s1 g1 nw q1; obtain ⟨u,hu⟩:=nw.own.there; exact fin _ _ ⟨upd Hi' a u,_,Γ',s1.trans (zaJ nw.hi u),g1.freezeA nw.hi nw.h0 nw.ne hu,nw.own.den nw.hi hu,q1⟩
abbrev R2':=D→D→(D→Prop)→Prop
def zha (K:PySem.W.Frag) (r:R2) (r':R2'):Prop:=∀ (Hi H:Hp) (x y:V) (dx dy:D) (Q:D→Prop) (Q2:VK),Fz Hi H→Den K Hi x dx→Den K Hi y dy→r' dx dy Q→(∀ Hi' H' v d,Ext Hi H Hi' H'→Den K Hi' v d→Q d→Q2 v H')→r x y H Q2
def zbh (r:R2') (ta tb:TE'):TE':=fun Γ Q=>ta Γ fun x Γ1=>tb Γ1 fun y Γ2=>r x y fun d=>Q d Γ2
theorem zh3 {K:PySem.W.Frag} {n:Nat} {r:R2} {r':R2'} {ta tb:TE'} {σ:St} {H:Hp} {Q:VK} (l:zha K r r') (h:tOf K n (zbh r' ta tb) σ H Q):tOp r (tOf K n ta) (tOf K n tb) σ H Q:=by
 obtain ⟨W,Hi,Γ,Q',g,h,fin⟩:=h; refine ⟨W,Hi,Γ,_,g,h,?_⟩
 rintro x H1 ⟨Hi1,dx,Γ1,s1,g1,den1,h1⟩
 refine ⟨W,Hi1,Γ1,_,g1,h1,?_⟩
 rintro y H2 ⟨Hi2,dy,Γ2,s2,g2,den2,h2⟩
 refine l Hi2 H2 x y dx dy _ _ g2.fz (den1.mono s2) den2 h2 ?_
 rintro Hi3 H3 v d e den q
 exact fin v H3 ⟨Hi3,d,Γ2,s1.trans (s2.trans e.hi),g2.ext e,den,q⟩
structure Op2 (X:Cx) (f:Value→Value→Sem Value) (r':R2'):Prop where
 ex:∃ r,OpR X f r∧zha X.K r r'
theorem Op2.or {f:Value→Value→Sem Value} {r r':R2'} (h:Op2 X f r) (h':Op2 X f r'):Op2 X f (fun x y Q=>r x y Q∨r' x y Q):=by
 obtain ⟨a,ha,la⟩:=h.ex; obtain ⟨b,hb,lb⟩:=h'.ex
 refine ⟨_,ha.or hb,fun Hi H x y dx dy Q Q2 s d1 d2 q fin=>?_⟩
 rcases q with q | q
 ·exact .inl (la Hi H x y dx dy Q Q2 s d1 d2 q fin)
 ·exact .inr (lb Hi H x y dx dy Q Q2 s d1 d2 q fin)
theorem zS {a b:Expr} {op:Operator} {r':R2'} {ta tb:TE'} {pos:Pos} (h:Op2 X (binaryOp op) r') (ha:PE' X a ta) (hb:PE' X b tb):PE' X (.BinOp a op b pos) (zbh r' ta tb):=by
 obtain ⟨r,ho,l⟩:=h.ex
 exact ⟨PE.weak (zqn ho ha.h hb.h) fun σ H Q q=>zh3 l q⟩
theorem zeF {a b:Expr} {op:CmpOp} {r':R2'} {ta tb:TE'} {pos:Pos} (h:Op2 X (compareOp op) r') (ha:PE' X a ta) (hb:PE' X b tb) (hm:behindInMarks op b=false:=by first | exact znk _ | rfl):PE' X (.Compare a [op] [b] pos) (zbh r' ta tb):=by
 obtain ⟨r,ho,l⟩:=h.ex
 exact ⟨PE.weak (zoz ho ha.h hb.h hm) fun σ H Q q=>zh3 l q⟩
def tB' (t:TE'):TT':=fun Γ Q=>t Γ fun d Γ1=>∃ b,d=.bl b∧Q b Γ1
theorem zpO {K:PySem.W.Frag} {n:Nat} {t:TE'} {σ:St} {H:Hp} {Q:Bool→Hp→Prop} (h:zpu K n (tB' t) σ H Q):tOf K n t σ H fun x H1=>∃ c,x=.bl c∧Q c H1:=by
 obtain ⟨W,Hi,Γ,Q',g,h,fin⟩:=h; refine ⟨W,Hi,Γ,_,g,h,?_⟩
 rintro x H1 ⟨Hi1,dx,Γ1,s1,g1,den1,b,rfl,h1⟩
 exact ⟨b,den1.blI,fin b H1 Hi1 Γ1 s1 g1 h1⟩
theorem zcQ {e:Expr} {t:TE'} (h:PE' X e t) (he:∀ whole,isTrue e X.env whole=(do let v ← whole; standAt e.pos; holding [v] (truthy v)):=by intro _; rfl):PT' X e (tB' t) :=
 ⟨PT.weak (zqd h.h he) fun σ H Q q=>zpO q⟩
theorem zac {a b:Expr} {op:CmpOp} {r':R2'} {ta tb:TE'} {pos:Pos} (h:Op2 X (compareOp op) r') (ha:PE' X a ta) (hb:PE' X b tb) (hm:behindInMarks op b=false:=by first | exact znk _ | rfl):PT' X (.Compare a [op] [b] pos) (tB' (zbh r' ta tb)):=by
 obtain ⟨r,ho,l⟩:=h.ex
 exact ⟨PT.weak (zoc ho ha.h hb.h hm) fun σ H Q q=>zh3 l (zpO q)⟩
def zar (t u:TT'):TT':=fun Γ Q=>t Γ fun c Γ1=>if c=true then u Γ1 Q else Q false Γ1
def zbv (t u:TT'):TT':=fun Γ Q=>t Γ fun c Γ1=>if c=true then Q true Γ1 else u Γ1 Q
def zal (t:TT'):TT':=fun Γ Q=>t Γ fun c Γ1=>Q (!c) Γ1
variable {a b c:Expr} {tA tB2:TT'} {zdD:List Expr} {pos:Pos} {ta tb:TE'}
theorem zeq (ha:PT' X a tA):PW' X (.BoolOp .And [a] pos) tA:=⟨zn8 ha.h⟩
theorem zhq (ha:PT' X a tA):PW' X (.BoolOp .Or [a] pos) tA:=⟨zqb ha.h⟩
theorem zfD (ha:PT' X a tA) (hb:PW' X (.BoolOp .And (b :: zdD) pos) tB2):PW' X (.BoolOp .And (a :: b :: zdD) pos) (zar tA tB2):=by
 refine ⟨PW.weak (zqc ha.h hb.h) ?_⟩
 rintro σ H Q ⟨W,Hi,Γ,Q',g,h,fin⟩
 refine ⟨W,Hi,Γ,_,g,h,?_⟩; intro k H1 Hi1 Γ1 s1 g1 h1
 cases k with
 | true=>exact ⟨W,Hi1,Γ1,_,g1,h1,fun b H2 Hi2 Γ2 s2 g2 q=>fin b H2 Hi2 Γ2 (s1.trans s2) g2 q⟩
 | false=>exact fin false H1 Hi1 Γ1 s1 g1 h1
theorem zj7 (ha:PT' X a tA) (hb:PW' X (.BoolOp .Or (b :: zdD) pos) tB2):PW' X (.BoolOp .Or (a :: b :: zdD) pos) (zbv tA tB2):=by
 refine ⟨PW.weak (zsH ha.h hb.h) ?_⟩
 rintro σ H Q ⟨W,Hi,Γ,Q',g,h,fin⟩
 refine ⟨W,Hi,Γ,_,g,h,?_⟩; intro k H1 Hi1 Γ1 s1 g1 h1
 cases k with
 | false=>exact ⟨W,Hi1,Γ1,_,g1,h1,fun b H2 Hi2 Γ2 s2 g2 q=>fin b H2 Hi2 Γ2 (s1.trans s2) g2 q⟩
 | true=>exact fin true H1 Hi1 Γ1 s1 g1 h1
theorem PW'.pt {e:Expr} {t:TT'} (h:PW' X e t):PT' X e t:=⟨h.h _⟩
theorem zfE (ha:PT' X a tA):PT' X (.UnaryOp .Not a pos) (zal tA):=by
 refine ⟨PT.weak (zqe ha.h) ?_⟩
 rintro σ H Q ⟨W,Hi,Γ,Q',g,h,fin⟩
 exact ⟨W,Hi,Γ,_,g,h,fun k H1 Hi1 Γ1 s1 g1 h1=>fin _ H1 Hi1 Γ1 s1 g1 h1⟩
def zP (ta tb:TE'):TE':=fun Γ Q=>ta Γ fun x Γ1=>∃ c,x=.bl c∧if c=true then tb Γ1 Q else Q (.bl false) Γ1
def zaG (ta tb:TE'):TE':=fun Γ Q=>ta Γ fun x Γ1=>∃ c,x=.bl c∧if c=true then Q (.bl true) Γ1 else tb Γ1 Q
def zR (ta:TE'):TE':=fun Γ Q=>ta Γ fun x Γ1=>∃ c,x=.bl c∧Q (.bl (!c)) Γ1
theorem zki {op} (h:PE' X a ta):PE' X (.BoolOp op [a] pos) ta:=⟨zqo h.h⟩
theorem zko (ha:PE' X a ta) (hb:PE' X (.BoolOp .And (b :: zdD) pos) tb):PE' X (.BoolOp .And (a :: b :: zdD) pos) (zP ta tb):=by
 refine ⟨PE.weak (zqy ha.h hb.h) ?_⟩
 rintro σ H Q ⟨W,Hi,Γ,Q',g,h,fin⟩
 refine ⟨W,Hi,Γ,_,g,h,?_⟩
 rintro x H1 ⟨Hi1,dx,Γ1,s1,g1,den1,k,rfl,h1⟩
 refine ⟨k,den1.blI,?_⟩
 cases k with
 | true=>exact ⟨W,Hi1,Γ1,_,g1,h1,fun v H2 ⟨Hi2,d,Γ2,s2,g2,d2,q⟩=>fin v H2 ⟨Hi2,d,Γ2,s1.trans s2,g2,d2,q⟩⟩
 | false=>exact fin _ H1 ⟨Hi1,_,Γ1,s1,g1,.bl false,h1⟩
def zbB (t:TT') (ta tb:TE'):TE':=fun Γ Q=>t Γ fun c Γ1=>if c=true then ta Γ1 Q else tb Γ1 Q
def zad:TA':=fun Γ Q=>Q [] Γ
def zB (ta:TE') (tr:TA'):TA':=fun Γ Q=>ta Γ fun x Γ1=>tr Γ1 fun xs Γ2=>Q (x :: xs) Γ2
theorem zc:PA' X [] zad:=by
 refine ⟨PA.weak zii ?_,rfl⟩
 rintro σ H Q ⟨W,Hi,Γ,Q',g,h,fin⟩
 exact fin [] H Hi Γ [] (zaW.refl _) g .nil h
theorem za {e:Expr} {es:List Expr} {te:TE'} {t:TA'} (ha:PE' X e te) (hr:PA' X es t) (hs:zeT e=false:=by rfl):PA' X (e :: es) (zB te t):=by
 refine ⟨PA.weak (zeJ ha.h hr.pa (zaP hs)) ?_,by unfold zch; rw [hs,hr.pl]; rfl⟩
 rintro σ H Q ⟨W,Hi,Γ,Q',g,h,fin⟩
 refine ⟨W,Hi,Γ,_,g,h,?_⟩
 rintro x H1 ⟨Hi1,dx,Γ1,s1,g1,den1,h1⟩
 refine ⟨W,Hi1,Γ1,_,g1,h1,?_⟩; intro vs H2 Hi2 Γ2 ds s2 g2 dl q; exact fin (x :: vs) H2 Hi2 Γ2 (dx :: ds) (s1.trans s2) g2 (.cons (den1.mono s2) dl) q
def zai (t:TA'):TE':=fun Γ Q=>t Γ fun ds Γ1=>ds.length≤sizeLine∧Q (.tup ds) Γ1
theorem zV {es:List Expr} {t:TA'} {x1} (h:PA' X es t):PE' X (.Tuple es x1 pos) (zai t):=by
 refine ⟨PE.weak (zql h.pa) ?_⟩
 rintro σ H Q ⟨W,Hi,Γ,Q',g,h,fin⟩
 refine ⟨W,Hi,Γ,_,g,h,?_⟩
 rintro vs H1 Hi1 Γ1 ds s1 g1 dl ⟨hl,q⟩
 refine ⟨by rw [zg dl]; exact hl,fun p hp=>?_⟩
 have e:=Ext.new g1.fz hp (.tup vs); exact fin _ _ ⟨_,_,Γ1,s1.trans e.hi,g1.ext e,Den.mkT zh (dl.mono e.hi),q⟩
theorem New.mk' {K:PySem.W.Frag} {n:Nat} {W:Wd} {Hi H:Hp} {Γ:Sts} {σ:St} {p:Addr} {u:HO} {o:OD} (g:Good K n W Hi Γ σ H) (hp:H p=none) (own:zbN K Hi (upd H p u) p o):New K n W Hi Γ σ (upd H p u) p o:=by
 refine ⟨g.sub.free hp,?_,⟨fun j o' e z=>?_,fun j d xs e=>?_⟩,own⟩
 ·cases q:W.H₀ p with
  | none=>rfl
  | some w =>
   obtain ⟨w',hw⟩:=g.there p w q
   rw [hp] at hw; cases hw
 ·obtain ⟨a,h1,_,_,h4⟩:=g.own j o' e
  rw [z] at h1; cases h1; obtain ⟨w,hw⟩:=h4.there
  rw [hp] at hw; cases hw
 ·obtain ⟨w,hw⟩:=(g.bk j d p xs e).at_.there
  rw [hp] at hw; cases hw
def zan (t:TA'):TO':=fun Γ Q=>t Γ fun ds Γ1=>ds.length≤sizeLine∧Q (.lst ds) Γ1
theorem zb2 {es:List Expr} {t:TA'} (h:PA' X es t):PO' X (.List es pos) (zan t):=by
 refine ⟨PE.weak (znh h.pa) ?_⟩
 rintro σ H Q ⟨W,Hi,Γ,Q',g,h,fin⟩
 refine ⟨W,Hi,Γ,_,g,h,?_⟩
 rintro vs H1 Hi1 Γ1 ds s1 g1 dl ⟨hl,q⟩
 refine ⟨by rw [zg dl]; exact hl,fun p hp=>?_⟩
 exact fin p _ Hi1 Γ1 (.lst ds) s1 (g1.ext (Ext.newO g1.fz hp _ (fun _ z=>by cases z))) (New.mk' g1 hp ⟨vs,zh,dl⟩) q
abbrev RC':=List D→(D→Prop)→Prop
def zry (K:PySem.W.Frag) (r:List V→Hp→VK→Prop) (r':RC'):Prop:=∀ (Hi H:Hp) (vs:List V) (ds:List D) (Q:D→Prop) (Q2:VK),Fz Hi H→zbP K Hi vs ds→r' ds Q→(∀ Hi' H' v d,Ext Hi H Hi' H'→Den K Hi' v d→Q d→Q2 v H')→r vs H Q2
structure Cal (X:Cx) (f:Value) (r':RC'):Prop where
 ex:∃ r,zcy X f r∧zry X.K r r'
theorem Cal.or {f:Value} {r r':RC'} (h:Cal X f r) (h':Cal X f r'):Cal X f (fun x Q=>r x Q∨r' x Q):=by
 obtain ⟨a,ha,la⟩:=h.ex; obtain ⟨b,hb,lb⟩:=h'.ex
 refine ⟨_,ha.or hb,fun Hi H vs ds Q Q2 s d q fin=>?_⟩
 rcases q with q | q
 ·exact .inl (la Hi H vs ds Q Q2 s d q fin)
 ·exact .inr (lb Hi H vs ds Q Q2 s d q fin)
def zbl (r:RC') (t:TA'):TE':=fun Γ Q=>t Γ fun ds Γ1=>r ds fun d=>Q d Γ1
theorem znb {K:PySem.W.Frag} {n:Nat} {r:List V→Hp→VK→Prop} {r':RC'} {t:TA'} {σ:St} {H:Hp} {Q:VK} (l:zry K r r') (h:tOf K n (zbl r' t) σ H Q):tCB r (zsc K n t) σ H Q:=by
 obtain ⟨W,Hi,Γ,Q',g,h,fin⟩:=h; refine ⟨W,Hi,Γ,_,g,h,?_⟩; intro vs H1 Hi1 Γ1 ds s1 g1 dl h1; refine l Hi1 H1 vs ds _ _ g1.fz dl h1 ?_; intro Hi2 H2 v d e den q; exact fin v H2 ⟨Hi2,d,Γ1,s1.trans e.hi,g1.ext e,den,q⟩
variable {x:Str} {p:Pos} {e:Expr} {es:List Expr} {t:TA'} {id T:String}
theorem zaT {r':RC'} (hc:Cal X (.builtin id) r') (hm:X.mg x=none) (hv:bootBuiltins x=some (.builtin id)) (ha:PA' X (e :: es) t) (hg:Gl X x:=by rfl) (hn:x≠"__name__":=by decide) (hdb:(x == ("__debug__":Str))=false:=by decide):PE' X (.Call (.Name x p) (e :: es) [] pos) (zbl r' t):=by
 obtain ⟨r,ho,l⟩:=hc.ex; obtain ⟨p1,p2⟩:=zX ha.pl
 exact ⟨PE.weak (pe_callB ho hg hm hv ha.pa hn hdb (zaP p1) (zaR p2)) fun σ H Q q=>znb l q⟩
theorem zd6 {r':RC'} (hc:Cal X (.type T) r') (hm:X.mg x=none) (hv:bootBuiltins x=some (.type T)) (ha:PA' X (e :: es) t) (hg:Gl X x:=by rfl) (hn:x≠"__name__":=by decide) (hdb:(x == ("__debug__":Str))=false:=by decide):PE' X (.Call (.Name x p) (e :: es) [] pos) (zbl r' t):=by
 obtain ⟨r,ho,l⟩:=hc.ex; obtain ⟨p1,p2⟩:=zX ha.pl
 exact ⟨PE.weak (zgn ho hg hm hv ha.pa hn hdb (zaP p1) (zaR p2)) fun σ H Q q=>znb l q⟩
end
end PL
namespace PL
open PySem L2
section
variable {X:Cx} {a b c:Expr} {pos:Pos} {ta tb:TE'}
structure Ixs (X:Cx) (r':R2'):Prop where
 ex:∃ r,IxR X r∧zha X.K r r'
theorem Ixs.or {r r':R2'} (h:Ixs X r) (h':Ixs X r'):Ixs X (fun x y Q=>r x y Q∨r' x y Q):=by
 obtain ⟨a,ha,la⟩:=h.ex; obtain ⟨b,hb,lb⟩:=h'.ex
 refine ⟨_,ha.or hb,fun Hi H x y dx dy Q Q2 s d1 d2 q fin=>?_⟩
 rcases q with q | q
 ·exact .inl (la Hi H x y dx dy Q Q2 s d1 d2 q fin)
 ·exact .inr (lb Hi H x y dx dy Q Q2 s d1 d2 q fin)
theorem zn {r':R2'} (h:Ixs X r') (ha:PE' X a ta) (hb:PE' X b tb) (hs:zhV b:=by intro _ _; rfl):PE' X (.Subscript a b pos) (zbh r' ta tb):=by
 obtain ⟨r,ho,l⟩:=h.ex
 exact ⟨PE.weak (zqs ho ha.h hb.h hs) fun σ H Q q=>zh3 l q⟩
abbrev TP':=Sts→(Option Int→Sts→Prop)→Prop
def zt7 (K:PySem.W.Frag) (n:Nat) (t:TP'):TO:=fun σ H Q2=>∃ W Hi Γ Q,Good K n W Hi Γ σ H∧t Γ Q∧∀ i H' Hi' Γ',zaW Hi Hi'→Good K n W Hi' Γ' σ H'→Q i Γ'→Q2 i H'
structure PB' (X:Cx) (e:Option Expr) (t:TP'):Prop where
 h:PO X e (zt7 X.K X.N.length t)
def zaA:TP':=fun Γ Q=>Q none Γ
def zby (t:TE'):TP':=fun Γ Q=>t Γ fun d Γ1=>∃ i,d=.int i∧Q (some i) Γ1
theorem PO.weak {e:Option Expr} {t t2:TO} (h:PO X e t) (w:∀ σ H Q,t2 σ H Q→t σ H Q):PO X e t2:=fun pins s σ H Q I q=>h pins s σ H Q I (w _ _ _ q)
theorem zsN:PB' X none zaA:=by
 refine ⟨PO.weak zoj ?_⟩
 rintro σ H Q ⟨W,Hi,Γ,Q',g,h,fin⟩
 exact fin none H Hi Γ (zaW.refl _) g h
theorem zoC {e:Expr} {te:TE'} (h:PE' X e te):PB' X (some e) (zby te):=by
 refine ⟨PO.weak (zoi h.h) ?_⟩
 rintro σ H Q ⟨W,Hi,Γ,Q',g,h,fin⟩
 refine ⟨W,Hi,Γ,_,g,h,?_⟩
 rintro v H1 ⟨Hi1,d,Γ1,s1,g1,den,i,rfl,q⟩
 exact ⟨i,den.intI,fin _ H1 Hi1 Γ1 s1 g1 q⟩
abbrev RS':=D→Option Int→Option Int→(D→Prop)→Prop
def ztG (K:PySem.W.Frag) (r:V→Option Int→Option Int→Hp→VK→Prop) (r':RS'):Prop:=∀ (Hi H:Hp) (x:V) (dx:D) (lo hi:Option Int) (Q:D→Prop) (Q2:VK),Fz Hi H→Den K Hi x dx→r' dx lo hi Q→(∀ Hi' H' v d,Ext Hi H Hi' H'→Den K Hi' v d→Q d→Q2 v H')→r x lo hi H Q2
structure Sli (X:Cx) (r':RS'):Prop where
 ex:∃ r,SlR X r∧ztG X.K r r'
theorem Sli.or {r r':RS'} (h:Sli X r) (h':Sli X r'):Sli X (fun x lo hi Q=>r x lo hi Q∨r' x lo hi Q):=by
 obtain ⟨a,ha,la⟩:=h.ex; obtain ⟨b,hb,lb⟩:=h'.ex
 refine ⟨_,ha.or hb,fun Hi H x dx lo hi Q Q2 s d1 q fin=>?_⟩
 rcases q with q | q
 ·exact .inl (la Hi H x dx lo hi Q Q2 s d1 q fin)
 ·exact .inr (lb Hi H x dx lo hi Q Q2 s d1 q fin)
def zbu (r:RS') (te:TE') (tl th:TP'):TE':=fun Γ Q=>te Γ fun x Γ1=>tl Γ1 fun l Γ2=>th Γ2 fun u Γ3=>r x l u fun d=>Q d Γ3
theorem zng {e:Expr} {lo hi:Option Expr} {p2:Pos} {te:TE'} {tl th:TP'} {r':RS'} (h:Sli X r') (he:PE' X e te) (hl:PB' X lo tl) (hu:PB' X hi th):PE' X (.Subscript e (.Slice lo hi none p2) pos) (zbu r' te tl th):=by
 obtain ⟨r,ho,l⟩:=h.ex; refine ⟨PE.weak (zmb ho he.h hl.h hu.h) ?_⟩
 rintro σ H Q ⟨W,Hi,Γ,Q',g,h,fin⟩
 refine ⟨W,Hi,Γ,_,g,h,?_⟩
 rintro x H1 ⟨Hi1,dx,Γ1,s1,g1,den1,h1⟩
 refine ⟨W,Hi1,Γ1,_,g1,h1,?_⟩; intro i H2 Hi2 Γ2 s2 g2 h2; refine ⟨W,Hi2,Γ2,_,g2,h2,?_⟩; intro j H3 Hi3 Γ3 s3 g3 h3; refine l Hi3 H3 x dx i j _ _ g3.fz (den1.mono (s2.trans s3)) h3 ?_; intro Hi4 H4 v d e den q; exact fin v H4 ⟨Hi4,d,Γ3,s1.trans (s2.trans (s3.trans e.hi)),g3.ext e,den,q⟩
abbrev RM':=D→List D→(D→Prop)→Prop
def ztH (K:PySem.W.Frag) (T:String) (r:V→List V→Hp→VK→Prop) (r':RM'):Prop:=∀ (Hi H:Hp) (x:V) (vs:List V) (dx:D) (ds:List D) (Q:D→Prop) (Q2:VK),Fz Hi H→Den K Hi x dx→zbP K Hi vs ds→r' dx ds Q→(∀ Hi' H' v d,Ext Hi H Hi' H'→Den K Hi' v d→Q d→Q2 v H')→r x vs H Q2
def tyD (T:String):D→Prop
 | .str _=>T="str"
 | .int _=>T="int"
 | .lst _=>T="list"
 | _=>False
theorem zpD {K:PySem.W.Frag} {Hi H:Hp} {x:V} {dx:D} (s:zaW Hi H) (den:Den K Hi x dx) (h:tyD T dx):tyV K T x H:=by
 cases den with
 | str l=>exact h
 | int i=>exact h
 | lst hq l r =>
  refine .inl ⟨h,_,zas s hq⟩
 | _=>exact h.elim
structure Met (X:Cx) (T:String) (id:String) (r':RM'):Prop where
 ex:∃ r,MtR X id r∧ztH X.K T r r'
def zbq (T:String) (r:RM') (to:TE') (t:TA'):TE':=fun Γ Q=>to Γ fun x Γ1=>tyD T x∧t Γ1 fun ds Γ2=>r x ds fun d=>Q d Γ2
theorem zqx {o e:Expr} {es:List Expr} {to:TE'} {t:TA'} {name:Str} {apos cpos:Pos} {T id:String} {r':RM'} (h:Met X T id r') (pa:PlainAttrs T) (slot:PySem.Slot T name id) (hty:typeOf (.builtin id)=pure (.type "method_descriptor")) (ho:PE' X o to) (ha:PA' X (e :: es) t)
  (hbase:attributeBase o name X.env (eval o X.env)=eval o X.env:=by rfl) (hlen:(e :: es).length<30:=by decide)
  (hline:(apos.endLine == cpos.line)=true:=by rfl) :
  PE' X (.Call (.Attribute o name apos) (e :: es) [] cpos) (zbq T r' to t):=by
 obtain ⟨r,hm,l⟩:=h.ex; obtain ⟨p1,p2⟩:=zX ha.pl
 have hfew:((backTo cpos (starEach (e :: es) X.env)).all (fun x=>!x.1) && (backToKw cpos (keywordEach [] X.env)).all (fun x=>x.1.isSome)
   && decide ((e :: es).length+([]:List Keyword).length+(if ([]:List Keyword).isEmpty then 0 else 1)<30))=true:=by
  have h1:(backTo cpos (starEach (e :: es) X.env)).all (fun x=>!x.1)=true:=by
   rw [List.all_eq_true]; intro y hy
   have:=zaR (pos:=cpos) (env:=X.env) ha.pl
   rw [List.any_eq_false] at this
   simpa using this y hy
  rw [h1,decide_eq_true (by simpa using hlen)]
  rfl
 refine ⟨PE.weak (zoA pa slot hty hm ho.h ha.pa hbase hfew hline (zaP p1) (zaR p2)) ?_⟩
 rintro σ H Q ⟨W,Hi,Γ,Q',g,h,fin⟩
 refine ⟨W,Hi,Γ,_,g,h,?_⟩
 rintro x H1 ⟨Hi1,dx,Γ1,s1,g1,den1,ty,h1⟩
 refine ⟨zpD g1.sub den1 ty,W,Hi1,Γ1,_,g1,h1,?_⟩; intro vs H2 Hi2 Γ2 ds s2 g2 dl h2; refine l Hi2 H2 x vs dx ds _ _ g2.fz (den1.mono s2) dl h2 ?_; intro Hi3 H3 v d e den q; exact fin v H3 ⟨Hi3,d,Γ2,s1.trans (s2.trans e.hi),g2.ext e,den,q⟩
def zt:TS':=fun N Γ=>N.nx Γ
def zaj (t u:TS'):TS':=fun N Γ=>t { N with nx:=u N } Γ
theorem zZ:PSs' X [] zt:=by
 refine ⟨PSs.weak zod ?_⟩
 rintro N2 σ H ⟨W,Hi,Γ,N,g,h,l⟩
 exact l.nx σ H Hi Γ (zaW.refl _) g h
theorem ze {s:Stmt} {zdD:List Stmt} {t u:TS'} (h1:PS' X s t) (h2:PSs' X zdD u):PSs' X (s :: zdD) (zaj t u):=by
 refine ⟨PSs.weak (zdd h1.h h2.h) ?_⟩
 rintro N2 σ H ⟨W,Hi,Γ,N,g,h,l⟩
 refine ⟨W,Hi,Γ,_,g,h,?_,l.bk,l.ct,l.rt⟩; intro σ1 H1 Hi1 Γ1 s1 g1 q; exact ⟨W,Hi1,Γ1,N,g1,q,l.mono s1⟩
theorem zf {s:Stmt} {t:TS'} (h1:PS' X s t):PSs' X [s] t:=⟨zdw h1.h⟩
def zak (te:TE'):TS':=fun N Γ=>te Γ fun d Γ1=>N.rt (.val d) Γ1
def zI (te:TO'):TS':=fun N Γ=>te Γ fun o Γ1=>N.rt (.own o) Γ1
theorem zY {e:Expr} {te:TE'} (he:PE' X e te):PS' X (.Return (some e) pos) (zak te):=by
 refine ⟨PS.weak (zig he.h) ?_⟩
 rintro N2 σ H ⟨W,Hi,Γ,N,g,h,l⟩
 refine ⟨W,Hi,Γ,_,g,h,?_⟩
 rintro v H1 ⟨Hi1,d,Γ1,s1,g1,den,q⟩
 exact l.rt v σ H1 Hi1 Γ1 (.val d) s1 g1 den q
theorem zfF {e:Expr} {te:TO'} (he:PO' X e te):PS' X (.Return (some e) pos) (zI te):=by
 refine ⟨PS.weak (zig he.h) ?_⟩
 rintro N2 σ H ⟨W,Hi,Γ,N,g,h,l⟩
 refine ⟨W,Hi,Γ,_,g,h,?_⟩; intro a H1 Hi1 Γ1 o s1 g1 nw q; exact l.rt _ σ H1 Hi1 Γ1 (.own o) s1 g1 ⟨a,rfl,nw.hi,nw.h0,nw.own⟩ q
def zH (n i:Nat):TS':=fun N Γ=>i<n∧∃ o,Γ[i]?=some (.own o)∧N.rt (.own o) Γ
theorem zer (i:Nat) {x:Str} {p:Pos} (hN:X.N[i]?=some x:=by rfl) (hv:Vis X.env.scope x:=by first | exact Or.inl rfl | exact Or.inr (Or.inl rfl) | exact Or.inr (Or.inr rfl)) (hd:(x == ("__debug__":Str))=false:=by decide)
  (hcd:(x == ("__classdict__":Str))=false:=by decide):PS' X (.Return (some (.Name x p)) pos) (zH X.N.length i):=by
 refine ⟨PS.weak (zig (zcq (i:=i) hN hv hd hcd)) ?_⟩
 rintro N2 σ H ⟨W,Hi,Γ,N,g,⟨hi,o,e,q⟩,l⟩
 obtain ⟨a,h1,h2,h3,h4⟩:=g.own i o e; unfold adr at h1; rw [if_pos hi] at h1; exact ⟨.ref a,zd5 h1,l.rt _ σ H Hi Γ (.own o) (zaW.refl _) g ⟨a,rfl,h2,h3 hi,h4⟩ q⟩
def zaf (c:TT') (t u:TS'):TS':=fun N Γ=>c Γ fun b Γ1=>if b=true then t N Γ1 else u N Γ1
theorem zaN {c:Expr} {sa sb:List Stmt} {tc:TT'} {t u:TS'} (hc:PT' X c tc) (ha:PSs' X sa t) (hb:PSs' X sb u):PS' X (.If c sa sb pos) (zaf tc t u):=by
 refine ⟨PS.weak (zsI hc.h ha.h hb.h) ?_⟩
 rintro N2 σ H ⟨W,Hi,Γ,N,g,h,l⟩
 refine ⟨W,Hi,Γ,_,g,h,?_⟩; intro k H1 Hi1 Γ1 s1 g1 q
 cases k with
 | true=>exact ⟨W,Hi1,Γ1,N,g1,q,l.mono s1⟩
 | false=>exact ⟨W,Hi1,Γ1,N,g1,q,l.mono s1⟩
def zy (te:TE'):TS':=fun N Γ=>te Γ fun _ Γ1=>N.nx Γ1
theorem zde {e:Expr} {te:TE'} (he:PE' X e te) (hs:swapsWith e none pos.line X.env=pure false:=by rfl):PS' X (.Expr e pos) (zy te):=by
 refine ⟨PS.weak (zeD he.h hs) ?_⟩
 rintro N2 σ H ⟨W,Hi,Γ,N,g,h,l⟩
 refine ⟨W,Hi,Γ,_,g,h,?_⟩
 rintro v H1 ⟨Hi1,d,Γ1,s1,g1,den,q⟩
 exact l.nx σ H1 Hi1 Γ1 s1 g1 q
def zp (i:Nat):TG':=fun d Γ Q=>Q (Γ.set i (.val d))
theorem zU (i:Nat) {x:Str} (hN:X.N.Nodup) (hi:X.N[i]?=some x:=by rfl) (hx:Loc X.env.scope x:=by first | exact Or.inl rfl | exact Or.inr rfl) (hf:X.fn x=true∨X.env.scope.names.lookup x=some .local:=by first | exact .inl rfl | exact .inr rfl | assumption):PG' X (.Name x pos) (zp i):=by
 refine ⟨PG.weak (zos (i:=i) hN hi hx hf) ?_⟩
 rintro v σ H Q ⟨W,Hi,Γ,d,Q',g,den,q,fin⟩
 exact fin _ H Hi _ (zaW.refl _) (g.set (List.getElem?_eq_some_iff.mp hi).1 den) q
def zah (te:TE') (g:TG'):TS':=fun N Γ=>te Γ fun d Γ1=>g d Γ1 N.nx
theorem zaM (i:Nat) {x:Str} {e:Expr} {te:TE'} {pos':Pos} (hN:X.N.Nodup) (he:PE' X e te) (hi:X.N[i]?=some x:=by rfl) (hx:Loc X.env.scope x:=by first | exact Or.inl rfl | exact Or.inr rfl) (hs:swapsWith e (some (.Name x pos')) pos.line X.env=pure false:=by rfl)
  (hf:X.fn x=true∨X.env.scope.names.lookup x=some .local:=by first | exact .inl rfl | exact .inr rfl | assumption):PS' X (.Assign [.Name x pos'] e pos) (zah te (zp i)):=by
 refine ⟨PS.weak (zif (i:=i) hN hi hx he.h hs hf) ?_⟩
 rintro N2 σ H ⟨W,Hi,Γ,N,g,h,l⟩
 refine ⟨W,Hi,Γ,_,g,h,?_⟩
 rintro v H1 ⟨Hi1,d,Γ1,s1,g1,den,q⟩
 exact l.nx _ H1 Hi1 _ s1 (g1.set (List.getElem?_eq_some_iff.mp hi).1 den) q
def zO (te:TO') (i:Nat):TS':=fun N Γ=>te Γ fun o Γ1=>N.nx (Γ1.set i (.own o))
theorem zcp (i:Nat) {x:Str} {e:Expr} {te:TO'} {pos':Pos} (hN:X.N.Nodup) (he:PO' X e te) (hi:X.N[i]?=some x:=by rfl) (hx:Loc X.env.scope x:=by first | exact Or.inl rfl | exact Or.inr rfl) (hs:swapsWith e (some (.Name x pos')) pos.line X.env=pure false:=by rfl)
  (hf:X.fn x=true∨X.env.scope.names.lookup x=some .local:=by first | exact .inl rfl | exact .inr rfl | assumption):PS' X (.Assign [.Name x pos'] e pos) (zO te i):=by
 refine ⟨PS.weak (zif (i:=i) hN hi hx he.h hs hf) ?_⟩
 rintro N2 σ H ⟨W,Hi,Γ,N,g,h,l⟩
 refine ⟨W,Hi,Γ,_,g,h,?_⟩; intro a H1 Hi1 Γ1 o s1 g1 nw q; exact l.nx _ H1 Hi1 _ s1 (g1.setO (List.getElem?_eq_some_iff.mp hi).1 nw.hi nw.h0 nw.ne nw.own) q
def zhc (g:TG') (tb:TS') (N:Ends'):List D→Sts→Prop
 | [],Γ=>N.nx Γ
 | d :: ds,Γ=>g d Γ fun Γ2=>tb { N with nx:=zhc g tb N ds,ct:=zhc g tb N ds,bk:=N.nx } Γ2
def zap (ti:TI') (g:TG') (tb:TS'):TS':=fun N Γ=>ti Γ fun ds Γ1=>zhc g tb N ds Γ1
theorem zcv {tg iter:Expr} {body:List Stmt} {ti:TI'} {g:TG'} {tb:TS'} (hi:PI' X tg iter ti) (hg:PG' X tg g) (hb:PSs' X body tb) (hp:PassesOwn (model X.prog X.w) X.A X.env X.xe:=by exact PassesOwn.never) (hc:X.calm=true:=by rfl)
  (hs:∀ x,foldedSetIterable iter X.env x=pure x:=by intro _; rfl):PS' X (.For tg iter body [] pos) (zap ti g tb):=by
 refine ⟨PS.weak (zqg hp hc hi.h hg.h hb.h hs) ?_⟩
 rintro N2 σ H ⟨W,Hi,Γ,N,gd,h,l⟩
 refine ⟨W,Hi,Γ,_,gd,h,?_⟩; intro J H1 Hi1 Γ1 ds s1 g1 itd q
 refine ⟨fun i m σ' H'=>m=ds.length-i∧i≤ds.length∧∃ Hi' Γ',zaW Hi1 Hi'∧Good X.K X.N.length W Hi' Γ' σ' H'∧zhc g tb N (ds.drop i) Γ',⟨ds.length,by simp,Nat.zero_le _,Hi1,Γ1,zaW.refl _,g1,by simpa using q⟩,?_⟩
 rintro i m σ' H' ⟨rfl,hi',Hi',Γ',s2,g2,q2⟩
 have wk:=itd Hi' H' s2 g2.fz
 by_cases hlt:i<ds.length
 ·have hd:ds.drop i=ds[i] :: ds.drop (i+1):=List.drop_eq_getElem_cons hlt
  rw [hd] at q2; obtain ⟨go,yl⟩:=wk.1 i ds[i] (List.getElem?_eq_getElem hlt)
  refine .inr ⟨go,fun σ3 H3=>∃ Hi3 Γ3,zaW Hi' Hi3∧Good X.K X.N.length W Hi3 Γ3 σ3 H3∧zhc g tb N (ds.drop (i+1)) Γ3,fun σ3 H3 ⟨Hi3,Γ3,s3,g3,q3⟩=>⟨ds.length-(i+1),by omega,rfl,hlt,Hi3,Γ3,s2.trans s3,g3,q3⟩,fun x H'' y=>?_⟩
  obtain ⟨Hi'',ex,den⟩:=yl x H'' y; refine ⟨W,Hi'',Γ',ds[i],_,g2.ext ex,den,q2,?_⟩; intro σ4 H4 Hi4 Γ4 s4 g4 q4
  have sx:zaW Hi' Hi4:=ex.hi.trans s4
  refine ⟨W,Hi4,Γ4,_,g4,q4,?_⟩
  refine ⟨fun σ5 H5 Hi5 Γ5 s5 g5 q5=>⟨Hi5,Γ5,sx.trans s5,g5,q5⟩,fun σ5 H5 Hi5 Γ5 s5 g5 q5=>l.nx σ5 H5 Hi5 Γ5 (s1.trans (s2.trans (sx.trans s5))) g5 q5,fun σ5 H5 Hi5 Γ5 s5 g5 q5=>⟨Hi5,Γ5,sx.trans s5,g5,q5⟩,fun v σ5 H5 Hi5 Γ5 r s5 g5 ro q5=>l.rt v σ5 H5 Hi5 Γ5 r (s1.trans (s2.trans (sx.trans s5))) g5 ro q5⟩
 ·have e:i=ds.length:=by omega
  subst e; rw [List.drop_eq_nil_of_le (Nat.le_refl _)] at q2; exact .inl ⟨wk.2,l.nx σ' H' Hi' Γ' (s1.trans s2) g2 q2⟩
def zjK (c:TT') (tb:TS'):TS':=fun N Γ=>∃ Wv:Nat→Sts→Prop,(∃ m,Wv m Γ)∧∀ m Γ,Wv m Γ→c Γ fun b Γ1=>if b=true then tb { N with nx:=fun Γ2=>∃ m',m'<m∧Wv m' Γ2,ct:=fun Γ2=>∃ m',m'<m∧Wv m' Γ2,bk:=N.nx } Γ1 else N.nx Γ1
theorem zj8 {c:Expr} {body:List Stmt} {tc:TT'} {tb:TS'} (hc:PT' X c tc) (hb:PSs' X body tb) (hp:PassesOwn (model X.prog X.w) X.A X.env X.xe:=by exact PassesOwn.never):PS' X (.While c body [] pos) (zjK tc tb):=by
 refine ⟨PS.weak (zl0 hp hc.h hb.h) ?_⟩
 rintro N2 σ H ⟨W,Hi,Γ,N,gd,⟨Wv,⟨m0,w0⟩,turn⟩,l⟩
 refine ⟨fun m σ' H'=>∃ Hi' Γ',zaW Hi Hi'∧Good X.K X.N.length W Hi' Γ' σ' H'∧Wv m Γ',⟨m0,Hi,Γ,zaW.refl _,gd,w0⟩,?_⟩
 rintro m σ' H' ⟨Hi',Γ',s1,g1,w1⟩
 refine ⟨W,Hi',Γ',_,g1,turn m Γ' w1,?_⟩; intro k H1 Hi1 Γ1 s2 g2 q
 cases k with
 | false=>exact l.nx σ' H1 Hi1 Γ1 (s1.trans s2) g2 q
 | true =>
  refine ⟨fun σ3 H3=>∃ m',m'<m∧∃ Hi3 Γ3,zaW Hi Hi3∧Good X.K X.N.length W Hi3 Γ3 σ3 H3∧Wv m' Γ3,fun σ3 H3 z=>z,W,Hi1,Γ1,_,g2,q,?_⟩
  refine ⟨fun σ5 H5 Hi5 Γ5 s5 g5 ⟨m',hm,q5⟩=>⟨m',hm,Hi5,Γ5,s1.trans (s2.trans s5),g5,q5⟩,fun σ5 H5 Hi5 Γ5 s5 g5 q5=>l.nx σ5 H5 Hi5 Γ5 (s1.trans (s2.trans s5)) g5 q5,fun σ5 H5 Hi5 Γ5 s5 g5 ⟨m',hm,q5⟩=>⟨m',hm,Hi5,Γ5,s1.trans (s2.trans s5),g5,q5⟩,fun v σ5 H5 Hi5 Γ5 r s5 g5 ro q5=>l.rt v σ5 H5 Hi5 Γ5 r (s1.trans (s2.trans s5)) g5 ro q5⟩
theorem zmR {K:PySem.W.Frag} {Hi:Hp} {a:Addr} {vs:List V} {ds:List D} (h:SqL K Hi a vs) (r:zbP K Hi vs ds):ItD K Hi (Itl K a) ds:=by
 intro Hi' H' s1 s2
 have hq:SqL K H' a vs:=zas (s1.trans s2.sub) h
 refine ⟨fun i d e=>?_,vs,hq,by rw [zg r]; exact Nat.le_refl _⟩
 obtain ⟨v,e1,e2⟩:=zaU r e; refine ⟨⟨vs,v,hq,e1⟩,?_⟩
 rintro x H'' ⟨rfl,y⟩
 have:=y vs hq
 rw [e1] at this; cases this; exact ⟨Hi',Ext.refl s2,e2.mono s1⟩
theorem zo8 {K:PySem.W.Frag} {Hi:Hp} {a:Addr} {vs:List V} {ds:List D} (h:SqT K Hi a vs) (r:zbP K Hi vs ds):ItD K Hi (Itt K a) ds:=by
 intro Hi' H' s1 s2
 have hq:SqT K H' a vs:=za3 (s1.trans s2.sub) h
 refine ⟨fun i d e=>?_,vs,hq,by rw [zg r]; exact Nat.le_refl _⟩
 obtain ⟨v,e1,e2⟩:=zaU r e; refine ⟨⟨vs,v,hq,e1⟩,?_⟩
 rintro x H'' ⟨rfl,y⟩
 have:=y vs hq
 rw [e1] at this; cases this; exact ⟨Hi',Ext.refl s2,e2.mono s1⟩
theorem zo9 {K:PySem.W.Frag} {Hi:Hp} (l:List Nat):ItD K Hi (Its l) (l.map fun c=>.str [c]):=by
 intro Hi' H' s1 s2
 refine ⟨fun i d e=>?_,by rw [List.length_map]; rfl⟩
 rw [List.getElem?_map] at e
 cases hc:l[i]? with
 | none=>rw [hc] at e; cases e
 | some c =>
  rw [hc] at e; cases e; refine ⟨(List.getElem?_eq_some_iff.mp hc).1,?_⟩
  rintro x H'' ⟨rfl,c',e',rfl⟩
  rw [hc] at e'; cases e'; exact ⟨Hi',Ext.refl s2,.str [c]⟩
theorem zpa {K:PySem.W.Frag} {Hi:Hp} (lo:Int) (n:Nat):ItD K Hi (Itr lo n) ((List.range n).map fun k=>.int (lo+(k:Nat))):=by
 intro Hi' H' s1 s2
 refine ⟨fun i d e=>?_,by rw [List.length_map,List.length_range]; exact Nat.le_refl _⟩
 rw [List.getElem?_map] at e
 cases hc:(List.range n)[i]? with
 | none=>rw [hc] at e; cases e
 | some c =>
  rw [hc] at e; cases e
  have hi:i<n:=by
   have:=(List.getElem?_eq_some_iff.mp hc).1
   rwa [List.length_range] at this
  have ec:c=i:=by
   rw [List.getElem?_range hi] at hc; exact (Option.some.inj hc).symm
  subst ec; refine ⟨hi,?_⟩
  rintro x H'' ⟨rfl,rfl⟩
  exact ⟨Hi',Ext.refl s2,.int _⟩
def zpZ:D→Option (List D)
 | .lst ds=>some ds
 | .tup ds=>some ds
 | .str l=>some (l.map fun c=>.str [c])
 | _=>none
def zat (t:TE'):TI':=fun Γ Q=>t Γ fun d Γ1=>∃ ds,zpZ d=some ds∧Q ds Γ1
theorem zoo {l tg:Expr} {tl:TE} (hl:PE X l tl):PI X tg l (fun σ H R=>tl σ H fun x H1=>(∃ a,x=.ref a∧(∃ xs,SqL X.K H1 a xs)∧R (Itl X.K a) H1)∨(∃ a,x=.ref a∧(∃ xs,SqT X.K H1 a xs)∧R (Itt X.K a) H1)∨(∃ z,x=.str z∧R (Its z.cps.toList) H1)):=by
 intro pins s σ H R I h
 refine thn (hl pins s σ H _ I h) fun v s1 ⟨x,H1,I1,r1,q1⟩=>?_
 have fin:∀ b ∈ [s1.heap.objs.size],zf3 X pins H1 b:=fun b hb=>by
  have e:b=s1.heap.objs.size:=by simpa using hb
  subst e; exact I1.fpOk (Nat.le_refl _) (I1.hok.fresh (Nat.le_refl _))
 rcases q1 with ⟨a,rfl,⟨xs,hq⟩,q⟩ | ⟨a,rfl,⟨xs,hq⟩,q⟩ | ⟨z,rfl,q⟩
 ·cases r1
  obtain ⟨its,rv,p,hz⟩:=I1.list hq; refine wpAny_pyIter_list p.isList ?_
  exact ⟨s1.heap.objs.size,[s1.heap.objs.size],_,_,H1,rfl,I1.kept (t':=s1.toks) fun b o e=>Heap.get?_push_of_some _ e,zjI a _,⟨_,Heap.get?_push_size _ rfl,rfl,rfl⟩,fin,q⟩
 ·cases r1
  obtain ⟨its,rv,p,hz⟩:=I1.tuple hq
  refine wpAny_pyIter_tuple (show s1.heap.IsTuple a its.toArray from p) ?_
  exact ⟨s1.heap.objs.size,[s1.heap.objs.size],_,_,H1,rfl,I1.kept (t':=s1.toks) fun b o e=>Heap.get?_push_of_some _ e,ziM a _,⟨_,Heap.get?_push_size _ rfl,rfl,rfl⟩,fin,q⟩
 ·obtain ⟨t,rfl⟩:=r1
  cases ha:z.cps.all (·<128)
  ·refine wpAny_pyIter_wide ha ?_
   exact ⟨s1.heap.objs.size,[s1.heap.objs.size],_,_,H1,rfl,I1.kept (t':=s1.toks) fun b o e=>Heap.get?_push_of_some _ e,zh1 z t _ (.inr rfl),⟨_,Heap.get?_push_size _ rfl,rfl,rfl⟩,fin,q⟩
  ·refine wpAny_pyIter_ascii ha ?_
   exact ⟨s1.heap.objs.size,[s1.heap.objs.size],_,_,H1,rfl,I1.kept (t':=s1.toks) fun b o e=>Heap.get?_push_of_some _ e,zh1 z t _ (.inl rfl),⟨_,Heap.get?_push_size _ rfl,rfl,rfl⟩,fin,q⟩
theorem zbo {l tg:Expr} {t:TE'} (hl:PE' X l t):PI' X tg l (zat t):=by
 refine ⟨PI.weak (zoo hl.h) ?_⟩
 rintro σ H R ⟨W,Hi,Γ,Q',g,h,fin⟩
 refine ⟨W,Hi,Γ,_,g,h,?_⟩
 rintro v H1 ⟨Hi1,d,Γ1,s1,g1,den,ds,e,q⟩
 cases d with
 | lst es =>
  cases e; obtain ⟨a,vs,rfl,h1,h2⟩:=den.lstI; exact .inl ⟨a,rfl,⟨vs,zas g1.sub h1⟩,fin _ H1 Hi1 Γ1 _ s1 g1 (zmR h1 h2) q⟩
 | tup es =>
  cases e; obtain ⟨a,vs,rfl,h1,h2⟩:=den.tupI; exact .inr (.inl ⟨a,rfl,⟨vs,za3 g1.sub h1⟩,fin _ H1 Hi1 Γ1 _ s1 g1 (zo8 h1 h2) q⟩)
 | str l =>
  cases e; refine .inr (.inr ⟨_,den.strI,?_⟩); rw [zbJ]; exact fin _ H1 Hi1 Γ1 _ s1 g1 (zo9 l) q
 | _=>cases e
def zE (t:TA'):TI':=fun Γ Q=>t Γ fun ds Γ1=>∃ j:Int,ds=[.int j]∧-(2 ^ 62)≤j∧j<2 ^ 62∧Q ((List.range j.toNat).map fun k=>.int (0+(k:Nat))) Γ1
theorem zcW {K:PySem.W.Frag} {H:Hp} {vs:List V} {d:D} (h:zbP K H vs [d]):∃ v,vs=[v]∧Den K H v d:=by
 cases h with
 | cons r t=>cases t; exact ⟨_,rfl,r⟩
theorem zri {K:PySem.W.Frag} {H:Hp} {vs:List V} {d e:D} (h:zbP K H vs [d,e]):∃ v w,vs=[v,w]∧Den K H v d∧Den K H w e:=by
 cases h with
 | cons r t =>
  obtain ⟨w,rfl,q⟩:=zcW t; exact ⟨_,w,rfl,r,q⟩
theorem zdf {a tg:Expr} {t:TA'} {p pos:Pos} (hm:X.mg "range"=none) (ha:PA' X [a] t) (hg:Gl X "range":=by rfl):PI' X tg (.Call (.Name "range" p) [a] [] pos) (zE t):=by
 refine ⟨PI.weak (zkg hg hm ha.pa (zaP (zX ha.pl).1)) ?_⟩
 rintro σ H R ⟨W,Hi,Γ,Q',g,h,fin⟩
 refine ⟨W,Hi,Γ,_,g,h,?_⟩
 rintro vs H1 Hi1 Γ1 ds s1 g1 dl ⟨j,rfl,b1,b2,q⟩
 obtain ⟨v,rfl,den⟩:=zcW dl; rw [den.intI]; exact ⟨j,rfl,b1,b2,fin _ H1 Hi1 Γ1 _ s1 g1 (zpa 0 _) q⟩
def zlB (src:List (Option Nat)) (Γ:Sts):Sts:=src.map fun o=>match o with
 | none=>.emp
 | some i=>match Γ[i]? with
  | some (.val d)=>.val d
  | _=>.emp
def voS:Slot→Slot
 | .val d=>.val d
 | _=>.emp
def vo (Γ:Sts):Sts:=Γ.map voS
def zee (g:TG') (tc:TT') (te:TE') (Q:List D→Prop):List D→List D→Sts→Prop
 | [],acc,_=>Q acc
 | d :: ds,acc,Γ=>g d Γ fun Γ2=>tc Γ2 fun b Γ3=>if b=true then te Γ3 fun y Γ4=>zee g tc te Q ds (acc ++ [y]) (vo Γ4) else zee g tc te Q ds acc (vo Γ3)
def zu (ti:TI') (src:List (Option Nat)) (g:TG') (tc:TT') (te:TE'):TO':=fun Γ Q=>ti Γ fun ds Γ1=>ds.length≤sizeLine∧zee g tc te (fun acc=>Q (.lst acc) Γ1) ds [] (zlB src Γ1)
structure PTs' (X:Cx) (ifs:List Expr) (t:TT'):Prop where
 h:PTs X ifs (zpu X.K X.N.length t)
def zbk:TT':=fun Γ Q=>Q true Γ
theorem zbs:PTs' X [] zbk:=by
 refine ⟨?_⟩; intro pins s σ H Q I h; obtain ⟨W,Hi,Γ,Q',g,h,fin⟩:=h; exact zob pins s σ H Q I (fin true H Hi Γ (zaW.refl _) g h)
theorem zie {c:Expr} {t:TT'} (h:PT' X c t):PTs' X [c] t:=⟨zoa h.h⟩
theorem zcg {elt tg iter:Expr} {ifs:List Expr} {sc fsc:Scope} {ti:TI'} {g:TG'} {tc:TT'} {te:TE'} {N N':List Str} {src:List (Option Nat)} (B:Blk N N' src fsc sc) (hi:PI' X tg iter ti)
  (hg:∀ cl C s H fp pn,PG' (blk X N' sc cl C s H fp pn) tg g) (ht:∀ cl C s H fp pn,PTs' (blk X N' sc cl C s H fp pn) ifs tc) (he:∀ cl C s H fp pn,PE' (blk X N' sc cl C s H fp pn) elt te)
  (hx:X.xe=(fun _ _=>False):=by rfl) (hc:X.calm=true:=by rfl) (hN:X.N=N:=by rfl) (hs:X.env.scope=fsc:=by rfl)
  (hf:∀ x,foldedSetIterable iter X.env x=pure x:=by intro _; rfl):PO' X (.ListComp elt [⟨tg,iter,ifs,0⟩] sc pos) (zu ti src g tc te):=by
 refine ⟨PE.weak (zoy (g:=gOf X.K N'.length g) (tc:=zpu X.K N'.length tc) (te:=tOf X.K N'.length te) B hi.h (fun a b c d e f=>(hg a b c d e f).h) (fun a b c d e f=>(ht a b c d e f).h) (fun a b c d e f=>(he a b c d e f).h) hx hc hN hs hf) ?_⟩
 rintro σ H Q2 ⟨W,Hi,Γ,Q,gd,h,fin⟩
 refine ⟨W,Hi,Γ,_,gd,h,?_⟩
 rintro J H1 Hi1 Γ1 ds s1 g1 itd ⟨hlen,q⟩
 intro A hA
 -- the state between two turns
 have hn':src.length=N'.length:=B.len
 refine zgU (n:=ds.length) (fun i σ' H'=>∃ Hi' acc vs Γ',zaW Hi1 Hi'∧Fz Hi' H'∧(∀ b o,H1 b=some o→H' b=some o)∧(∀ b o,H1 b=some o→Hi' b=Hi1 b)∧Hi' A=none∧H' A=some (.lst vs)∧zbP X.K Hi' vs acc∧vs.length≤i∧σ'.length=N'.length ∧
   (∀ (j:Nat) s,Γ'[j]?=some s→s=.emp∨∃ d,s=.val d∧∃ v,σ'[j]?=some (some v)∧Den X.K Hi' v d)∧zee g tc te (fun acc=>Q (.lst acc) Γ1) (ds.drop i) acc Γ') ?_ ?_ ?_
 ·refine ⟨Hi1,[],[],zlB src Γ1,zaW.refl _,(Ext.newO g1.fz hA _ (fun _ z=>by cases z)).fz,fun b o e=>zaJ hA _ b o e,fun b o e=>rfl,g1.sub.free hA,zh,.nil,Nat.zero_le _,?_,fun j s e=>?_,by simpa using q⟩
  ·unfold zW; rw [List.length_map,hn']
  ·unfold zlB at e
   rw [List.getElem?_map] at e
   cases hj:src[j]? with
   | none=>rw [hj] at e; cases e
   | some o =>
    rw [hj] at e
    cases o with
    | none=>cases e; exact .inl rfl
    | some i =>
     have e':(match Γ1[i]? with | some (.val d)=>Slot.val d | _=>.emp)=s:=Option.some.inj e
     cases hΓ:Γ1[i]? with
     | none=>rw [hΓ] at e'; exact .inl e'.symm
     | some sl =>
      rw [hΓ] at e'
      cases sl with
      | val d =>
       refine .inr ⟨d,e'.symm,?_⟩; obtain ⟨v,h1,h2⟩:=g1.val i d hΓ; refine ⟨v,?_,h2⟩; unfold zW; rw [List.getElem?_map,hj]
       show some ((some i).bind fun i=>(σ[i]?).join)=some (some v)
       show some ((σ[i]?).join)=some (some v)
       rw [h1]; rfl
      | emp=>exact .inl e'.symm
      | own o=>exact .inl e'.symm
      | bk _ _ _=>exact .inl e'.symm
 ·rintro i σ' H' hlt ⟨Hi',acc,vs,Γ',s2,s3,k1,k2,hA1,hA2,dl,hv,hl,hsl,q⟩
  have hd:ds.drop i=ds[i] :: ds.drop (i+1):=List.drop_eq_getElem_cons hlt
  rw [hd] at q; obtain ⟨go,yl⟩:=(itd Hi' H' s2 s3).1 i ds[i] (List.getElem?_eq_getElem hlt)
  refine ⟨go,fun x H'' y=>?_⟩
  obtain ⟨Hi'',ex,den⟩:=yl x H'' y
  have gb:Good X.K N'.length ⟨H'',Hi'',[]⟩ Hi'' Γ' σ' H'':=by
   refine ⟨hl,ex.fz,fun b o e _=>e,fun b o e=>⟨o,e⟩,fun b o e=>rfl,fun j d e=>?_,fun j o e=>?_,fun j k o o' b e=>?_,fun j d b xs e=>?_⟩
   ·rcases hsl j _ e with z | ⟨d',z,v,h1,h2⟩
    ·cases z
    ·cases z; exact ⟨v,h1,h2.mono ex.hi⟩
   ·rcases hsl j _ e with z | ⟨d',z,_⟩ <;> cases z
   ·rcases hsl j _ e with z | ⟨d',z,_⟩ <;> cases z
   ·rcases hsl j _ e with z | ⟨d',z,_⟩ <;> cases z
  refine ⟨⟨H'',Hi'',[]⟩,Hi'',Γ',ds[i],_,gb,den,q,?_⟩; intro σ3 H3 Hi3 Γ3 s4 g3 q3; refine ⟨⟨H'',Hi'',[]⟩,Hi3,Γ3,_,g3,q3,?_⟩; intro b H4 Hi4 Γ4 s5 g4 q4
  -- what the state is behind a turn
  have back:∀ {Γ5:Sts} {Hi5 H5:Hp},zaW Hi4 Hi5→Good X.K N'.length ⟨H'',Hi'',[]⟩ Hi5 Γ5 σ3 H5 →
    zaW Hi1 Hi5∧Fz Hi5 H5∧(∀ b o,H1 b=some o→H5 b=some o)∧(∀ b o,H1 b=some o→Hi5 b=Hi1 b)∧Hi5 A=none∧H5 A=some (.lst vs)∧zaW Hi' Hi5:=fun {Γ5 Hi5 H5} s6 g5=>by
   have sx:zaW Hi' Hi5:=ex.hi.trans (s4.trans (s5.trans s6))
   have hA3:H'' A=some (.lst vs):=ex.h _ _ hA2
   refine ⟨s2.trans sx,g5.fz,fun b o e=>g5.keep b o (ex.h _ _ (k1 b o e)) (by simp),fun b o e=>?_,?_,g5.keep A _ hA3 (by simp),sx⟩
   ·rw [g5.fro b o (ex.h _ _ (k1 b o e))]
    show Hi'' b=Hi1 b
    rw [ex.fro b o (k1 b o e),k2 b o e]
   ·rw [g5.fro A _ hA3]
    show Hi'' A=none
    rw [ex.fro A _ hA2,hA1]
  have sl:∀ {Γ5:Sts} {Hi5 H5:Hp},Good X.K N'.length ⟨H'',Hi'',[]⟩ Hi5 Γ5 σ3 H5→∀ (j:Nat) s,(vo Γ5)[j]?=some s→s=.emp∨∃ d,s=.val d∧∃ v,σ3[j]?=some (some v)∧Den X.K Hi5 v d:=fun {Γ5 Hi5 H5} g5 j s e=>by
   unfold vo at e; rw [List.getElem?_map] at e
   cases hj:Γ5[j]? with
   | none=>rw [hj] at e; cases e
   | some sl =>
    rw [hj] at e
    cases sl with
    | val d =>
     cases e; exact .inr ⟨d,rfl,g5.val j d hj⟩
    | emp=>cases e; exact .inl rfl
    | own o=>cases e; exact .inl rfl
    | bk _ _ _=>cases e; exact .inl rfl
  cases b with
  | false =>
   simp only [Bool.false_eq_true,if_false] at q4 ⊢; obtain ⟨b1,b2,b3,b4,b5,b6,b7⟩:=back (zaW.refl _) g4
   exact ⟨Hi4,acc,vs,vo Γ4,b1,b2,b3,b4,b5,b6,dl.mono b7,by omega,g4.len,sl g4,q4⟩
  | true =>
   simp only [if_true] at q4 ⊢; refine ⟨⟨H'',Hi'',[]⟩,Hi4,Γ4,_,g4,q4,?_⟩
   rintro y' H5 ⟨Hi5,dy,Γ5,s6,g5,den5,q5⟩
   obtain ⟨b1,b2,b3,b4,b5,b6,b7⟩:=back s6 g5
   refine ⟨vs,b6,by omega,Hi5,acc ++ [dy],vs ++ [y'],vo Γ5,b1,?_,?_,b4,b5,zh,zbe (dl.mono b7) (.cons den5 .nil),by rw [List.length_append]; simp; omega,g5.len,sl g5,q5⟩
   ·refine ⟨fun b o e=>?_,fun b xs e=>?_⟩
    ·rw [zo (fun z=>by rw [z,b5] at e; cases e)]
     exact b2.sub b o e
    ·by_cases hb:b=A
     ·subst hb; rw [zh] at e; cases e
     ·rw [zo hb] at e; exact b2.tups b xs e
   ·intro b o e
    rw [zo (zaL e hA)]; exact b3 b o e
 ·rintro σ' H' ⟨Hi',acc,vs,Γ',s2,s3,k1,k2,hA1,hA2,dl,hv,hl,hsl,q⟩
  refine ⟨(itd Hi' H' s2 s3).2,?_⟩; rw [List.drop_eq_nil_of_le (Nat.le_refl _)] at q
  have ex:Ext Hi1 H1 Hi' H':=⟨s2,k1,s3,k2⟩
  refine fin A H' Hi' Γ1 (.lst acc) (s1.trans s2) (g1.ext ex) ⟨hA1,?_,⟨fun j o' e z=>?_,fun j d xs e=>?_⟩,vs,hA2,dl⟩ q
  ·cases hq:W.H₀ A with
   | none=>rfl
   | some w =>
    obtain ⟨w',hw⟩:=g1.there A w hq
    rw [hA] at hw; cases hw
  ·obtain ⟨a,h1,_,_,h4⟩:=g1.own j o' e
   rw [z] at h1; cases h1; obtain ⟨w,hw⟩:=h4.there
   rw [hA] at hw; cases hw
  ·obtain ⟨w,hw⟩:=(g1.bk j d A xs e).at_.there
   rw [hA] at hw; cases hw
abbrev Sp':=List D→(Res→Prop)→Prop
def zh7 (K:PySem.W.Frag) (sp:Sp'):Sp:=fun vs H Q2 _=>∃ Hi ds Q,Fz Hi H∧zbP K Hi vs ds∧sp ds Q∧∀ Hi' H' v r,Ext Hi H Hi' H'→zrw K H Hi' H' v r→Q r→Q2 v H'
def zv (sp:Sp') (t:TA'):TE':=fun Γ Q=>t Γ fun ds Γ1=>sp ds fun r=>Q r.toD Γ1
def zj (sp:Sp') (t:TA'):TO':=fun Γ Q=>t Γ fun ds Γ1=>sp ds fun r=>∃ o,r=.own o∧Q o Γ1
variable {k:Nat} {f:Addr} {fd:FuncData} {ps:List Str} {sp:Sp'} {x:Str} {p:Pos} {e:Expr} {es:List Expr} {t:TA'}
theorem zb7 {K:PySem.W.Frag} {n:Nat} {W:Wd} {Hi H Hi' H':Hp} {Γ:Sts} {σ:St} {a:Addr} {o:OD} (g:Good K n W Hi Γ σ H) (ex:Ext Hi H Hi' H') (h1:Hi' a=none) (h2:H a=none) (h3:zbN K Hi' H' a o):New K n W Hi' Γ σ H' a o:=by
 refine ⟨h1,?_,⟨fun j o' e z=>?_,fun j d xs e=>?_⟩,h3⟩
 ·cases q:W.H₀ a with
  | none=>rfl
  | some w =>
   obtain ⟨w',hw⟩:=g.there a w q
   rw [h2] at hw; cases hw
 ·obtain ⟨b,q1,_,_,q4⟩:=g.own j o' e
  rw [z] at q1; cases q1; obtain ⟨w,hw⟩:=q4.there
  rw [h2] at hw; cases hw
 ·obtain ⟨w,hw⟩:=(g.bk j d a xs e).at_.there
  rw [h2] at hw; cases hw
theorem zmi (F:FnOk X.prog X.w X.K X.mg X.base CX0 k f fd ps (zh7 X.K sp)) (hr:Room k X.A) (hm:X.mg x=some (.ref f)) (hk:PySem.W.keepIn X.K (.ref f)=true) (hb:zb1 X.K fd ps [])
  (ha:PA' X (e :: es) t) (hg:Gl X x:=by rfl) (hdb:(x == ("__debug__":Str))=false:=by decide) :
  PE' X (.Call (.Name x p) (e :: es) [] pos) (zv sp t):=by
 refine ⟨PE.weak (zeG (E:=E0) (dvs:=[]) F hr hg hm hk hb .nil ze7 ha.pa hdb (zaP (zX ha.pl).1) (zaR (zX ha.pl).2)) ?_⟩
 rintro σ H Q ⟨W,Hi,Γ,Q',g,h,fin⟩
 refine ⟨W,Hi,Γ,_,g,h,?_⟩; intro vs H1 Hi1 Γ1 ds s1 g1 dl q; rw [List.append_nil]; refine ⟨Hi1,ds,_,g1.fz,dl,q,?_⟩; intro Hi2 H2 v r ex ro q2
 cases r with
 | val d=>exact fin v H2 ⟨Hi2,d,Γ1,s1.trans ex.hi,g1.ext ex,ro,q2⟩
 | own o =>
  obtain ⟨a,rfl,h1,h2,h3⟩:=ro; have nw:=zb7 g1 ex h1 h2 h3; obtain ⟨u,hu⟩:=h3.there; exact fin _ H2 ⟨upd Hi2 a u,_,Γ1,s1.trans (ex.hi.trans (zaJ h1 u)),(g1.ext ex).freezeA nw.hi nw.h0 nw.ne hu,h3.den h1 hu,q2⟩
 | bk d o =>
  obtain ⟨b,dv,hol,h1,h2,h3⟩:=ro; have nw:=zb7 g1 ex h1 h2 h3; obtain ⟨u,hu⟩:=h3.there; exact fin _ H2 ⟨upd Hi2 b u,_,Γ1,s1.trans (ex.hi.trans (zaJ h1 u)),(g1.ext ex).freezeA nw.hi nw.h0 nw.ne hu,hol b _ v o (h3.den h1 hu) (dv.mono (zaJ h1 u)),q2⟩
theorem zom (F:FnOk X.prog X.w X.K X.mg X.base CX0 k f fd ps (zh7 X.K sp)) (hr:Room k X.A) (hm:X.mg x=some (.ref f)) (hk:PySem.W.keepIn X.K (.ref f)=true) (hb:zb1 X.K fd ps [])
  (ha:PA' X (e :: es) t) (hg:Gl X x:=by rfl) (hdb:(x == ("__debug__":Str))=false:=by decide) :
  PO' X (.Call (.Name x p) (e :: es) [] pos) (zj sp t):=by
 refine ⟨PE.weak (zeG (E:=E0) (dvs:=[]) F hr hg hm hk hb .nil ze7 ha.pa hdb (zaP (zX ha.pl).1) (zaR (zX ha.pl).2)) ?_⟩
 rintro σ H Q ⟨W,Hi,Γ,Q',g,h,fin⟩
 refine ⟨W,Hi,Γ,_,g,h,?_⟩; intro vs H1 Hi1 Γ1 ds s1 g1 dl q; rw [List.append_nil]; refine ⟨Hi1,ds,_,g1.fz,dl,q,?_⟩
 rintro Hi2 H2 v r ex ro ⟨o,rfl,q2⟩
 obtain ⟨a,rfl,h1,h2,h3⟩:=ro; exact fin a H2 Hi2 Γ1 o (s1.trans ex.hi) (g1.ext ex) (zb7 g1 ex h1 h2 h3) q2
end
def zca (N:List Str) (ds:List D):Sts:=ds.map .val ++ List.replicate (N.length-ds.length) .emp
section
variable {P:Program} {w:World} {K:PySem.W.Frag} {mg:Str→Option Value} {base:Heap}
theorem Fun.ok' {x qual:Str} {st:Stmt} {f:Addr} {fd:FuncData} {N ps:List Str} {k:Nat} {sp:Sp'} (F:Fun K x qual st f fd) (S:FnScope N ps (zd st)) (len:∀ ds Q,sp ds Q→ds.length=ps.length)
  (hbody:∀ (cdv:Value) (A:Around) (outer:List Env) (s:Shared) (H:Hp) (E:XK),Room k (A.deeper (PyProof.Rows.envOfC qual (zd st) s.heap.objs.size f cdv))→∀ ds Q,sp ds Q →
   ∃ t,PSs' (ze4 CX0 P w K mg base N qual (zd st) f cdv A outer s H E).nox (zaK st) t∧t { nx:=fun _=>Q (.val .non),rt:=fun r _=>Q r } (zca N ds)):FnOk P w K mg base CX0 (k+1) f fd ps (zh7 K sp):=by
 refine F.ok S (fun vs H Q E h=>?_) (fun cdv A outer s H vs Q E hr h=>?_)
 ·obtain ⟨Hi,ds,Q',_,dl,h,_⟩:=h
  rw [zg dl]; exact len ds Q' h
 obtain ⟨Hi,ds,Q',sb,dl,h,fin⟩:=h; obtain ⟨t,h1,h2⟩:=hbody cdv A outer s H E hr ds Q' h
 have hlen:ds.length=ps.length:=len ds Q' h
 have hpl:ps.length≤N.length:=by have:=congrArg List.length S.pre; rw [List.length_take] at this; omega
 have hvl:=zg dl; refine ⟨_,h1.h,⟨H,Hi,[]⟩,Hi,zca N ds,_,?_,h2,?_⟩
 ·refine ⟨?_,sb,fun b o e _=>e,fun b o e=>⟨o,e⟩,fun b o e=>rfl,fun j d e=>?_,fun j o e=>?_,fun j k o o' b e=>?_,fun j d b xs e=>?_⟩
  ·unfold L2.start
   show _=N.length
   rw [List.length_append,List.length_map,List.length_replicate]; omega
  all_goals
   unfold zca at e
   by_cases hj:j<ds.length
   ·rw [List.getElem?_append_left (by simpa using hj),List.getElem?_map,List.getElem?_eq_getElem hj] at e
    try cases e
    try
     obtain ⟨v,e1,e2⟩:=zaU dl (List.getElem?_eq_getElem hj); refine ⟨v,?_,e2⟩; unfold L2.start
     rw [List.getElem?_append_left (by rw [List.length_map]; omega),List.getElem?_map,e1]
     rfl
   ·rw [List.getElem?_append_right (by simpa using hj),List.getElem?_replicate] at e
    split at e <;> cases e
 ·refine ⟨fun σ' H' Hi' Γ' s1 g1 q=>?_,fun _ _ _ _ _ _ q=>q.elim,fun _ _ _ _ _ _ q=>q.elim,fun v σ' H' Hi' Γ' r s1 g1 ro q=>?_⟩
  ·exact fin Hi' H' .non (.val .non) ⟨s1,fun b o e=>g1.keep b o e (by simp),g1.fz,fun b o e=>g1.fro b o e⟩ .non q
  ·exact fin Hi' H' v r ⟨s1,fun b o e=>g1.keep b o e (by simp),g1.fz,fun b o e=>g1.fro b o e⟩ ro q
end
end PL
namespace L2
open PySem PySem.Spec PyProof.Rows
section
variable {X:Cx}
theorem zm7 {vs:List Value} {bs:List Bool} (r:za5 (bs.map V.bl) vs) {i:Nat} {v:Value} (h:vs[i]?=some v):v=.bool (bs.getD i false):=by
 obtain ⟨b,hb⟩:∃ b,bs[i]?=some b:=by
  have hl:=r.length; rw [List.length_map] at hl
  have hi:i<bs.length:=by rw [hl]; exact (List.getElem?_eq_some_iff.mp h).1
  exact ⟨bs[i],List.getElem?_eq_getElem hi⟩
 obtain ⟨u,e1,e2⟩:=za5.get (i:=i) (x:=.bl b) r (by rw [List.getElem?_map,hb]; rfl)
 rw [h] at e1; cases e1; cases e2; rw [List.getD_eq_getElem?_getD,hb]; rfl
theorem zlp (bs:List Bool):((List.range bs.length).all fun i=>bs.getD i false)=bs.all id:=by
 rw [Bool.eq_iff_iff,List.all_eq_true,List.all_eq_true]; constructor
 ·intro h b hb
  obtain ⟨i,hi,e⟩:=List.getElem_of_mem hb
  have:=h i (List.mem_range.mpr hi)
  rw [List.getD_eq_getElem?_getD,List.getElem?_eq_getElem hi,e] at this; exact this
 ·intro h i hi
  have hi':=List.mem_range.mp hi; rw [List.getD_eq_getElem?_getD,List.getElem?_eq_getElem hi']; exact h _ (List.getElem_mem hi')
theorem zjt {pins:List (Addr × Obj)} {σ:St} {H:Hp} {s:Shared} {a:Addr} {bs:List Bool} (hc:X.calm=true) (I:Inv X pins σ H s) (hq:SqL X.K H a (bs.map V.bl)) {E:Value→Shared→Prop} (R:Bool→Bool→Prop) (f:(Nat→Bool)→List Nat→Bool) {Q:Value→Shared→Prop}
  (fin:∀ h' tk,Inv X pins σ H { s with heap:=h',toks:=tk }→Q (.bool (f (fun i=>bs.getD i false) (List.range bs.length))) { s with heap:=h',toks:=tk }) :
  wpAny (model X.prog X.w) X.A.in1 (pyIter (.ref a)) (fun it s₂=>∃ I fp wr n P St tr,it=.ref I∧Walks X.prog X.w X.A.in1 I fp wr n P St∧St 0 s₂.heap∧TruthOf X.prog X.w X.A.in1 P tr ∧
   ∀ h' tk,(∀ b o,b ∉ wr→s₂.heap.get? b=some o→h'.get? b=some o)→Q (.bool (f tr (List.range n))) { s₂ with heap:=h',toks:=tk }) E s:=by
 obtain ⟨its,rv,p,hz⟩:=I.list hq
 have hlen:its.length=bs.length:=by have:=rv.length; rw [List.length_map] at this; exact this.symm
 have hne:a≠s.heap.objs.size:=by
  obtain ⟨o,ho,_⟩:=p.isList; exact Nat.ne_of_lt (Heap.lt_size ho)
 refine wpAny_pyIter_list p.isList ?_
 refine ⟨s.heap.objs.size,_,_,_,_,_,fun i=>bs.getD i false,rfl,Walks.list (show X.A.in1.handled=none from I.ok.hd hc) s.heap.objs.size a hne its.toArray,⟨⟨_,Heap.get?_push_size _ rfl,rfl,rfl⟩,p.isList.at fun o e=>Heap.get?_push_of_some _ e⟩,?_,?_⟩
 ·intro i v s' Q' E' hP hQ
  have hv:its[i]?=some v:=by simpa using hP
  rw [zm7 rv hv]; exact wpAny_truthy_bool hQ
 ·intro h' tk kp
  have z:=fin h' tk (I.kept (t':=tk) fun b o e=>kp b o (by simp; exact Nat.ne_of_lt (Heap.lt_size e)) (Heap.get?_push_of_some _ e))
  have e:its.toArray.size=bs.length:=by simpa using hlen
  rw [e]; exact z
theorem zfd (hc:X.calm=true):zcy X (.builtin "all") (fun xs H Q=>∃ (a:Addr) (bs:List Bool),xs=[.ref a]∧SqL X.K H a (bs.map V.bl)∧Q (.bl (bs.all id)) H):=by
 intro pins s σ H xs us Q I r h; obtain ⟨a,bs,rfl,hq,q⟩:=h; obtain ⟨u,rfl,rx⟩:=zcU r; cases rx
 refine PySem.call_all_walk (zjt hc I hq (fun _ _=>True) (fun tr l=>l.all tr) fun h' tk I'=>⟨.bl _,H,I',rfl,?_⟩)
 rw [zlp]; exact q
theorem zj1 (r:Addr) (a b:Int) (t u v:Tok) (i:Int) (t':Tok):Meets (Builtin.«range.__contains__» ⟨[.ref r,.int i t'],[]⟩) (fun _ R s=>s.heap.get? r=some { cls:=.type "range",dict:=none,data:=.fields #[.int a t,.int b u,.int 1 v],slots:=#[] } ∧
  R (.ok (.ret (.bool (Builtin.Range.rangePlace? a b 1 i).isSome))) s) :=
 .of_wp fun prog w A R s h=>by obtain ⟨hp,g,d,tk,os⟩:=s; obtain ⟨hl,h⟩:=h; wp_walk; exact ⟨_,rfl,h⟩
theorem zi5 (a b i:Int):(Builtin.Range.rangePlace? a b 1 i).isSome=decide (a≤i∧i<b):=by
 unfold Builtin.Range.rangePlace?
 have h1:(1:Int) > 0:=by decide
 have h2:(i-a) % 1=0:=Int.emod_one _
 simp only [h1,if_true,h2,beq_self_eq_true,Bool.and_true]
 by_cases h:a≤i∧i<b
 ·have e:(decide (a≤i) && decide (i<b))=true:=by simp [h.1,h.2]
  rw [if_pos e,decide_eq_true h]; rfl
 ·have e:¬ (decide (a≤i) && decide (i<b))=true:=by
   intro z; simp only [Bool.and_eq_true,decide_eq_true_eq] at z; exact h z
  rw [if_neg e,decide_eq_false h]; rfl
def zur (neg:Bool):R2:=fun x y H Q=>∃ i p lo hi,x=.int i∧y=.ref p∧Rd H p (.rng lo hi)∧Q (.bl (if neg then !decide (lo≤i∧i<hi) else decide (lo≤i∧i<hi))) H
theorem zgq:OpR X (compareOp .NotIn) (zur true):=by
 intro pins s σ H x y v u Q I rx ry h; obtain ⟨i,p,lo,hi,rfl,rfl,hp,q⟩:=h; obtain ⟨t,rfl⟩:=rx; cases ry; obtain ⟨t1,t2,t3,e⟩:=hp.ok I.hok; refine PySem.SeqRoads2.notIn_meets ⟨_,e,rfl⟩ F.slot_range_contains F.entry_range_contains (F.args_range_contains_2 _ _) (zj1 p lo hi t1 t2 t3 i t) ⟨e,_,rfl,⟨.bl _,H,I,rfl,?_⟩⟩; rw [zi5]; exact q
def zrA (K:PySem.W.Frag) (H:Hp):V→String→Prop
 | .non,t=>t="NoneType"
 | .bl _,t=>t="bool"
 | .int _,t=>t="int"
 | .str _,t=>t="str"
 | .ref a,t=>(t="list"∧∃ xs,SqL K H a xs)∨(t="tuple"∧∃ xs,SqT K H a xs)∨(t="dict"∧((∃ kvs,Rd H a (.dK kvs))∨∃ kvs,Rd H a (.dT kvs)))
 | _,_=>False
end
end L2
namespace PL
open PySem L2
section
variable {X:Cx} {K:PySem.W.Frag}
theorem zeQ {g:Int→Int→V} (g':Int→Int→D) (hg:∀ i j Hi,Den K Hi (g i j) (g' i j)):zha K (rI0 g) (fun x y Q=>∃ i j,x=.int i∧y=.int j∧Q (g' i j)):=by
 rintro Hi H x y dx dy Q Q2 s d1 d2 ⟨i,j,rfl,rfl,q⟩ fin
 exact ⟨i,j,d1.intI,d2.intI,fin Hi H _ _ (Ext.refl s) (hg i j Hi) q⟩
theorem zis {C:Int→Int→Prop} {g:Int→Int→V} (g':Int→Int→D) (hg:∀ i j Hi,Den K Hi (g i j) (g' i j)):zha K (rI C g) (fun x y Q=>∃ i j,x=.int i∧y=.int j∧C i j∧Q (g' i j)):=by
 rintro Hi H x y dx dy Q Q2 s d1 d2 ⟨i,j,rfl,rfl,c,q⟩ fin
 exact ⟨i,j,d1.intI,d2.intI,c,fin Hi H _ _ (Ext.refl s) (hg i j Hi) q⟩
def znf (g:Int→Int→D):R2':=fun x y Q=>∃ i j,x=.int i∧y=.int j∧Q (g i j)
def rI' (C:Int→Int→Prop) (g:Int→Int→D):R2':=fun x y Q=>∃ i j,x=.int i∧y=.int j∧C i j∧Q (g i j)
theorem zsZ:Op2 X (binaryOp .Add) (znf fun i j=>.int (i+j)):=⟨_,zqG,zeQ _ fun i j _=>.int _⟩
theorem zoL:Op2 X (binaryOp .Sub) (znf fun i j=>.int (i-j)):=⟨_,zqA,zeQ _ fun i j _=>.int _⟩
theorem zsU:Op2 X (binaryOp .Mult) (rI' zlt fun i j=>.int (i * j)):=⟨_,zqC,zis _ fun i j _=>.int _⟩
theorem zcB:Op2 X (binaryOp .FloorDiv) (rI' zjC fun i j=>.int (i / j)):=⟨_,zoH,zis _ fun i j _=>.int _⟩
theorem zcj:Op2 X (binaryOp .Mod) (rI' (fun _ j=>0<j) fun i j=>.int (i % j)):=⟨_,zqD,zis _ fun i j _=>.int _⟩
theorem zpx:Op2 X (compareOp .Lt) (znf fun i j=>.bl (decide (i<j))):=⟨_,zsP,zeQ _ fun i j _=>.bl _⟩
theorem zsV:Op2 X (compareOp .LtE) (znf fun i j=>.bl (decide (i≤j))):=⟨_,zsQ,zeQ _ fun i j _=>.bl _⟩
theorem zqK:Op2 X (compareOp .Gt) (znf fun i j=>.bl (decide (j<i))):=⟨_,zsR,zeQ _ fun i j _=>.bl _⟩
def zi2:R2':=fun x y Q=>∃ l m,x=.str l∧y=.str m∧l.length+m.length≤sizeLine∧Q (.str (l ++ m))
theorem zqM:Op2 X (binaryOp .Add) zi2:=⟨_,zi8,by
 rintro Hi H x y dx dy Q Q2 s d1 d2 ⟨l,m,rfl,rfl,hl,q⟩ fin
 refine ⟨_,_,d1.strI,d2.strI,by rw [zcZ,zcZ]; exact hl,?_⟩
 rw [zpR]; exact fin Hi H _ _ (Ext.refl s) (.str _) q⟩
def eqS:D→D→Option Bool
 | .non,.non=>some true
 | .non,.int _=>some false
 | .non,.bl _=>some false
 | .non,.str _=>some false
 | .int _,.non=>some false
 | .bl _,.non=>some false
 | .str _,.non=>some false
 | .int i,.int j=>some (decide (i=j))
 | .bl i,.bl j=>some (decide (i=j))
 | .str i,.str j=>some (decide (i=j))
 | .int _,.str _=>some false
 | .str _,.int _=>some false
 | .bl _,.str _=>some false
 | .str _,.bl _=>some false
 | _,_=>none
theorem znE {Hi:Hp} {x y:V} {dx dy:D} {b:Bool} (d1:Den K Hi x dx) (d2:Den K Hi y dy) (h:eqS dx dy=some b):znV x y=true∧decide (x=y)=b:=by
  cases d1 <;> cases d2 <;> first
    | (exact absurd (show (none:Option Bool)=some b from h) (fun z=>nomatch z))
    | (refine ⟨rfl,?_⟩
       have h':=Option.some.inj h
       subst h'
       first
         | rfl
         | (exact decide_eq_decide.mpr ⟨fun z=>V.int.inj z,fun z=>congrArg V.int z⟩)
         | (exact decide_eq_decide.mpr ⟨fun z=>V.bl.inj z,fun z=>congrArg V.bl z⟩)
         | (exact decide_eq_decide.mpr ⟨fun z=>st_inj (V.str.inj z),fun z=>congrArg (fun l=>V.str (st l)) z⟩)
         | (exact decide_eq_false (fun z=>nomatch z)))
def zlW (neg:Bool):R2':=fun x y Q=>∃ c l,x=.str [c]∧y=.str l∧Q (.bl (if neg then !decide (c ∈ l) else decide (c ∈ l)))
theorem zsY:Op2 X (compareOp .In) (zlW false):=⟨_,zkr,by
 rintro Hi H x y dx dy Q Q2 s d1 d2 ⟨c,l,rfl,rfl,q⟩ fin
 refine ⟨_,_,d1.strI,d2.strI,?_⟩; rw [znB]; exact fin Hi H _ _ (Ext.refl s) (.bl _) q⟩
theorem zmm:Op2 X (compareOp .NotIn) (zlW true):=⟨_,zgo,by
 rintro Hi H x y dx dy Q Q2 s d1 d2 ⟨c,l,rfl,rfl,q⟩ fin
 refine ⟨_,_,d1.strI,d2.strI,?_⟩; rw [znB]; exact fin Hi H _ _ (Ext.refl s) (.bl _) q⟩
def zlX (neg:Bool):R2':=fun x y Q=>∃ i lo hi,x=.int i∧y=.rng lo hi∧Q (.bl (if neg then !decide (lo≤i∧i<hi) else decide (lo≤i∧i<hi)))
theorem zmn:Op2 X (compareOp .NotIn) (zlX true):=⟨_,zgq,by
 rintro Hi H x y dx dy Q Q2 s d1 d2 ⟨i,lo,hi,rfl,rfl,q⟩ fin
 cases d2 with
 | rng h=>exact ⟨i,_,lo,hi,d1.intI,rfl,zdu s.sub h,fin Hi H _ _ (Ext.refl s) (.bl _) q⟩⟩
def zj4 (neg:Bool):R2':=fun x y Q=>y=.non∧∃ b:Bool,(b=true↔x=.non)∧Q (.bl (if neg then !b else b))
theorem zsW:Op2 X (compareOp .Is) (zj4 false):=⟨_,zqE,by
 rintro Hi H x y dx dy Q Q2 s d1 d2 ⟨rfl,b,e,q⟩ fin
 refine ⟨d2.nonI,?_⟩
 have z:decide (x=.non)=b:=by
  rw [Bool.eq_iff_iff,e,decide_eq_true_eq]; exact d1.non_iff
 rw [z]; exact fin Hi H _ _ (Ext.refl s) (.bl _) q⟩
theorem zik:Op2 X (compareOp .IsNot) (zj4 true):=⟨_,zoG,by
 rintro Hi H x y dx dy Q Q2 s d1 d2 ⟨rfl,b,e,q⟩ fin
 refine ⟨d2.nonI,?_⟩
 have z:decide (x=.non)=b:=by
  rw [Bool.eq_iff_iff,e,decide_eq_true_eq]; exact d1.non_iff
 rw [z]; exact fin Hi H _ _ (Ext.refl s) (.bl _) q⟩
def zlu:R2':=fun x y Q=>∃ i,y=.int i∧((∃ ds d,x=.lst ds∧atI ds i=some d∧Q d)∨(∃ ds d,x=.tup ds∧atI ds i=some d∧Q d)∨∃ l c,x=.str l∧l.length≤sizeLine∧atI l i=some c∧Q (.str [c]))
theorem zlo {Hi:Hp} {vs:List V} {ds:List D} {i:Int} {d:D} (r:zbP K Hi vs ds) (h:atI ds i=some d):∃ v,atI vs i=some v∧Den K Hi v d:=by
 unfold atI at h ⊢
 rw [zg r]
 cases e:ixN ds.length i with
 | none=>rw [e] at h; cases h
 | some j =>
  rw [e] at h
  obtain ⟨v,h1,h2⟩:=zaU r (show ds[j]?=some d from h)
  exact ⟨v,h1,h2⟩
theorem zs6:Ixs X zlu:=⟨_,zq4,by
 rintro Hi H x y dx dy Q Q2 s d1 d2 ⟨i,rfl,h⟩ fin
 rcases h with ⟨ds,d,rfl,e,q⟩ | ⟨ds,d,rfl,e,q⟩ | ⟨l,c,rfl,hl,e,q⟩
 ·obtain ⟨a,vs,rfl,h1,h2⟩:=d1.lstI
  obtain ⟨v,h3,h4⟩:=zlo h2 e; exact .inl ⟨a,vs,i,v,rfl,d2.intI,zas s.sub h1,h3,fin Hi H _ _ (Ext.refl s) h4 q⟩
 ·obtain ⟨a,vs,rfl,h1,h2⟩:=d1.tupI
  obtain ⟨v,h3,h4⟩:=zlo h2 e; exact .inr (.inl ⟨a,vs,i,v,rfl,d2.intI,za3 s.sub h1,h3,fin Hi H _ _ (Ext.refl s) h4 q⟩)
 ·refine .inr (.inr ⟨_,i,c,d1.strI,d2.intI,by rw [zcZ]; exact hl,by rw [zbJ]; exact e,fin Hi H _ _ (Ext.refl s) (.str [c]) q⟩)⟩
def zfX {α:Type} (xs:List α) (lo hi:Option Int):List α:=(xs.drop (HT.sIx xs.length 0 lo)).take (HT.sIx xs.length xs.length hi-HT.sIx xs.length 0 lo)
def zn4:RS':=fun x lo hi Q=>∃ l,x=.str l∧l.length≤sizeLine∧((lo=none∧∃ n,hi=some n∧0≤n∧Q (.str (l.take n.toNat)))∨(hi=none∧∃ n,lo=some n∧0≤n∧Q (.str (l.drop n.toNat))))
theorem zsr:Sli X zn4:=⟨_,zpY,by
 rintro Hi H x dx lo hi Q Q2 s d1 ⟨l,rfl,hl,h⟩ fin
 refine ⟨st l,d1.strI,by rw [zcZ]; exact hl,?_⟩
 rcases h with ⟨rfl,n,rfl,hn,q⟩ | ⟨rfl,n,rfl,hn,q⟩
 ·obtain ⟨m,rfl⟩:=Int.eq_ofNat_of_zero_le hn
  rw [zlM]; exact fin Hi H _ _ (Ext.refl s) (.str _) q
 ·obtain ⟨m,rfl⟩:=Int.eq_ofNat_of_zero_le hn
  rw [ziR]; exact fin Hi H _ _ (Ext.refl s) (.str _) q⟩
def zn3:RS':=fun x lo hi Q=>∃ ds,x=.tup ds∧Q (.tup (zfX ds lo hi))
def zn5:RS':=fun x lo hi Q=>∃ ds,x=.lst ds∧Q (.lst (zfX ds lo hi))
theorem zlc {Hi:Hp} {vs:List V} {ds:List D} {lo hi:Option Int} (r:zbP K Hi vs ds):zbP K Hi (zld vs lo hi) (zfX ds lo hi):=by
 unfold zld zfX; rw [zg r]; exact zeH _ (zeI _ r)
theorem zp1:Sli X zn5:=⟨_,znT,by
 rintro Hi H x dx lo hi Q Q2 s d1 ⟨ds,rfl,q⟩ fin
 obtain ⟨a,vs,rfl,h1,h2⟩:=d1.lstI
 refine ⟨a,vs,rfl,zas s.sub h1,fun p hp=>?_⟩
 have e:=Ext.new s hp (.lst (zld vs lo hi)); exact fin _ _ _ _ e (Den.mkL (SqL.of zh) (zlc (h2.mono e.hi))) q⟩
def zgi:RC':=fun ds Q=>∃ d,ds=[d]∧((∃ l,d=.str l∧l.length≤sizeLine∧Q (.int (l.length:Nat)))∨(∃ es,d=.lst es∧Q (.int (es.length:Nat)))∨∃ es,d=.tup es∧Q (.int (es.length:Nat)))
theorem ztx:Cal X (.builtin "len") zgi:=⟨_,zg1.or zg2,by
 rintro Hi H vs ds Q Q2 s dl ⟨d,rfl,h⟩ fin
 obtain ⟨v,rfl,den⟩:=zcW dl
 rcases h with ⟨l,rfl,hl,q⟩ | ⟨es,rfl,q⟩ | ⟨es,rfl,q⟩
 ·refine .inl ⟨_,by rw [den.strI],by rw [zcZ]; exact hl,?_⟩
  rw [zcZ]; exact fin Hi H _ _ (Ext.refl s) (.int _) q
 ·obtain ⟨a,us,rfl,h1,h2⟩:=den.lstI
  refine .inr ⟨a,us,rfl,.inl (zas s.sub h1),?_⟩; rw [zg h2]; exact fin Hi H _ _ (Ext.refl s) (.int _) q
 ·obtain ⟨a,us,rfl,h1,h2⟩:=den.tupI
  refine .inr ⟨a,us,rfl,.inr (za3 s.sub h1),?_⟩; rw [zg h2]; exact fin Hi H _ _ (Ext.refl s) (.int _) q⟩
def zj5:RC':=fun ds Q=>∃ l n,ds=[.str l]∧PySem.intText? (st l)=some n∧l.length≤640∧Q (.int n)
theorem zty:Cal X (.type "int") zj5:=⟨_,zg3,by
 rintro Hi H vs ds Q Q2 s dl ⟨l,n,rfl,e,hl,q⟩ fin
 obtain ⟨v,rfl,den⟩:=zcW dl
 exact ⟨_,n,by rw [den.strI],e,by rw [zcZ]; exact hl,fin Hi H _ _ (Ext.refl s) (.int _) q⟩⟩
def zoO (i:Int):List Nat:=(Str.ofString (toString i)).cps.toList
def zn2:RC':=fun ds Q=>∃ i,ds=[.int i]∧i.natAbs.log2<1920∧Q (.str (zoO i))
theorem ztw:Cal X (.type "str") zn2:=⟨_,zgY,by
 rintro Hi H vs ds Q Q2 s dl ⟨i,rfl,hl,q⟩ fin
 obtain ⟨v,rfl,den⟩:=zcW dl
 refine ⟨i,by rw [den.intI],hl,?_⟩
 refine fin Hi H _ (.str (zoO i)) (Ext.refl s) ?_ q
 have e:(V.str (toString i))=.str (st (zoO i)):=by
  unfold zoO; rw [← zpQ]
 rw [e]; exact .str _⟩
def ztT:RC':=fun ds Q=>∃ bs:List Bool,ds=[.lst (bs.map .bl)]∧Q (.bl (bs.all id))
theorem zgR {Hi:Hp}:∀ {vs:List V} {bs:List Bool},zbP K Hi vs (bs.map .bl)→vs=bs.map .bl
 | _,[],h=>by cases h; rfl
 | _,b :: bs,h=>by
  cases h with
  | cons r t=>rw [r.blI,zgR t]; rfl
theorem ztz (hc:X.calm=true):Cal X (.builtin "all") ztT:=⟨_,zfd hc,by
 rintro Hi H vs ds Q Q2 s dl ⟨bs,rfl,q⟩ fin
 obtain ⟨v,rfl,den⟩:=zcW dl; obtain ⟨a,us,rfl,h1,h2⟩:=den.lstI; rw [zgR h2] at h1; exact ⟨a,bs,rfl,zas s.sub h1,fin Hi H _ _ (Ext.refl s) (.bl _) q⟩⟩
def zj2:RC':=fun ds Q=>∃ d es,ds=[d]∧(d=.lst es∨d=.tup es)∧Q (.tup es)
theorem zpp:Cal X (.type "tuple") zj2:=⟨_,zf1,by
 rintro Hi H vs ds Q Q2 s dl ⟨d,es,rfl,h,q⟩ fin
 obtain ⟨v,rfl,den⟩:=zcW dl
 rcases h with rfl | rfl
 ·obtain ⟨a,us,rfl,h1,h2⟩:=den.lstI
  refine ⟨a,us,rfl,.inl ⟨zas s.sub h1,fun l hl=>?_⟩⟩
  have e:=Ext.new s hl (.tup us); exact fin _ _ _ _ e (Den.mkT zh (h2.mono e.hi)) q
 ·obtain ⟨a,us,rfl,h1,h2⟩:=den.tupI
  exact ⟨a,us,rfl,.inr ⟨za3 s.sub h1,fin Hi H _ _ (Ext.refl s) den q⟩⟩⟩
def zo2:D→Option String
 | .non=>some "NoneType"
 | .bl _=>some "bool"
 | .int _=>some "int"
 | .str _=>some "str"
 | .lst _=>some "list"
 | .tup _=>some "tuple"
 | .dic _=>some "dict"
 | _=>none
theorem zmN {Hi H:Hp} {x:V} {d:D} {t:String} (s:zaW Hi H) (den:Den K Hi x d) (h:zo2 d=some t):zrA K H x t:=by
 cases den with
 | non=>exact (Option.some.inj h).symm
 | bl b=>exact (Option.some.inj h).symm
 | int i=>exact (Option.some.inj h).symm
 | str l=>exact (Option.some.inj h).symm
 | ty n=>cases h
 | adr b=>cases h
 | rng h'=>cases h
 | tup hq l r=>exact .inr (.inl ⟨(Option.some.inj h).symm,_,SqT.of (s _ _ hq)⟩)
 | lst hq l r=>exact .inl ⟨(Option.some.inj h).symm,_,zas s hq⟩
 | dicK hq l r r2=>exact .inr (.inr ⟨(Option.some.inj h).symm,.inl ⟨_,zdu s hq⟩⟩)
 | dicT hq l r r2=>cases h
 | cls C=>cases h
 | obj hq l r r2=>cases h
 | excN hq=>cases h
 | exc hq h2 l r r2=>cases h
end
end PL
namespace PL
open PySem L2
section
variable {X:Cx} {a b c:Expr} {pos:Pos} {ta tb tc:TE'}
def zi (r r':R2') (ta tb tc:TE'):TE':=fun Γ Q=>ta Γ fun x Γ1=>tb Γ1 fun y Γ2=>r x y fun z=>∃ k,z=.bl k∧(if k=true then tc Γ2 fun w Γ3=>r' y w fun d=>Q d Γ3 else Q (.bl false) Γ2)
theorem zjL {K:PySem.W.Frag} {n:Nat} {r s:R2} {r' s':R2'} {σ:St} {H:Hp} {Q:VK} (l:zha K r r') (l2:zha K s s') (h:tOf K n (zi r' s' ta tb tc) σ H Q):zna r s (tOf K n ta) (tOf K n tb) (tOf K n tc) σ H Q:=by
 obtain ⟨W,Hi,Γ,Q',g,h,fin⟩:=h; refine ⟨W,Hi,Γ,_,g,h,?_⟩
 rintro x H1 ⟨Hi1,dx,Γ1,s1,g1,den1,h1⟩
 refine ⟨W,Hi1,Γ1,_,g1,h1,?_⟩
 rintro y H2 ⟨Hi2,dy,Γ2,s2,g2,den2,h2⟩
 refine l Hi2 H2 x y dx dy _ _ g2.fz (den1.mono s2) den2 h2 ?_
 rintro Hi3 H3 v d e den ⟨k,rfl,q⟩
 refine ⟨k,den.blI,?_⟩
 cases k with
 | false=>exact fin _ H3 ⟨Hi3,_,Γ2,s1.trans (s2.trans e.hi),g2.ext e,.bl false,q⟩
 | true =>
  refine ⟨W,Hi3,Γ2,_,g2.ext e,q,?_⟩
  rintro w H4 ⟨Hi4,dw,Γ4,s4,g4,den4,q4⟩
  refine l2 Hi4 H4 y w dy dw _ _ g4.fz (den2.mono (e.hi.trans s4)) den4 q4 ?_; intro Hi5 H5 v5 d5 e5 den5 q5; exact fin _ H5 ⟨Hi5,d5,Γ4,s1.trans (s2.trans (e.hi.trans (s4.trans e5.hi))),g4.ext e5,den5,q5⟩
theorem zkn {op op':CmpOp} {r r':R2'} (ho:Op2 X (compareOp op) r) (ho':Op2 X (compareOp op') r') (ha:PE' X a ta) (hb:PE' X b tb) (hc:PE' X c tc)
  (hm:lastMarks [op,op'] [b,c]=false:=by with_unfolding_all rfl):PE' X (.Compare a [op,op'] [b,c] pos) (zi r r' ta tb tc):=by
 obtain ⟨q,h1,l1⟩:=ho.ex; obtain ⟨q',h2,l2⟩:=ho'.ex
 exact ⟨PE.weak (zmh h1 h2 ha.h hb.h hc.h hm) fun σ H Q z=>zjL l1 l2 z⟩
def zgj:R2':=fun x y Q=>(∃ i j,x=.int i∧y=.int j∧Q (.int (i+j)))∨zi2 x y Q
theorem zs0:Op2 X (binaryOp .Add) zgj:=zsZ.or zqM
def zfB:R2':=fun x y Q=>zlW true x y Q∨zlX true x y Q
theorem zoM:Op2 X (compareOp .NotIn) zfB:=zmm.or zmn
end
structure Df (K:PySem.W.Frag) (mg:Str→Option Value) (x:Str) (st:Stmt) (ps:List Str):Prop where
 ex:∃ f fd,Fun K x x st f fd∧zb1 K fd ps []∧mg x=some (.ref f)
structure Fn (P:Program) (w:World) (K:PySem.W.Frag) (mg:Str→Option Value) (base:Heap) (k:Nat) (x:Str) (ps:List Str) (sp:Sp'):Prop where
 ex:∃ f fd,FnOk P w K mg base CX0 k f fd ps (zh7 K sp)∧zb1 K fd ps []∧PySem.W.keepIn K (.ref f)=true∧mg x=some (.ref f)∧∃ oc od osl,K.lookup f=some ⟨oc,od,.func fd,osl⟩
section
variable {P:Program} {w:World} {K:PySem.W.Frag} {mg:Str→Option Value} {base:Heap} {k:Nat} {x:Str} {ps:List Str} {sp:Sp'}
theorem Df.ok {st:Stmt} {N:List Str} (d:Df K mg x st ps) (S:FnScope N ps (zd st)) (len:∀ ds Q,sp ds Q→ds.length=ps.length)
  (hbody:∀ (f:Addr) (cdv:Value) (A:Around) (outer:List Env) (s:Shared) (H:Hp) (E:XK),Room k (A.deeper (PyProof.Rows.envOfC x (zd st) s.heap.objs.size f cdv))→∀ ds Q,sp ds Q →
   ∃ t,PSs' (ze4 CX0 P w K mg base N x (zd st) f cdv A outer s H E).nox (zaK st) t∧t { nx:=fun _=>Q (.val .non),rt:=fun r _=>Q r } (zca N ds)):Fn P w K mg base (k+1) x ps sp:=by
 obtain ⟨f,fd,F,b,m⟩:=d.ex; obtain ⟨oc,od,kV,doc,pm,an,cdv,ct,osl,e,lk,_⟩:=F.ex; exact ⟨f,fd,PL.Fun.ok' F S len (hbody f),b,F.kp,m,oc,od,osl,lk⟩
end
section
variable {X:Cx} {k:Nat} {x:Str} {ps:List Str} {sp:Sp'} {p pos:Pos} {e:Expr} {es:List Expr} {t:TA'}
theorem zbd (h:Fn X.prog X.w X.K X.mg X.base k x ps sp) (hr:Room k X.A) (ha:PA' X (e :: es) t) (hg:Gl X x:=by rfl) (hdb:(x == ("__debug__":Str))=false:=by decide) :
  PE' X (.Call (.Name x p) (e :: es) [] pos) (zv sp t):=by
 obtain ⟨f,fd,F,b,kp,m,_⟩:=h.ex; exact zmi F hr m kp b ha hg hdb
theorem zsK (h:Fn X.prog X.w X.K X.mg X.base k x ps sp) (hr:Room k X.A) (ha:PA' X (e :: es) t) (hg:Gl X x:=by rfl) (hdb:(x == ("__debug__":Str))=false:=by decide) :
  PO' X (.Call (.Name x p) (e :: es) [] pos) (zj sp t):=by
 obtain ⟨f,fd,F,b,kp,m,_⟩:=h.ex; exact zom F hr m kp b ha hg hdb
end
end PL
namespace PL
open PySem L2
section
variable {X:Cx} {pos:Pos}
def zrJ:RS':=fun x lo hi Q=>zn4 x lo hi Q∨zn5 x lo hi Q
theorem zum:Sli X zrJ:=zsr.or zp1
end
end PL
namespace PL
open PySem L2
@[simp] theorem ex2 {α β:Type} {x:α} {y:β} {P:α→β→Prop}:(∃ a b,(x=a∧y=b)∧P a b)↔P x y:=⟨fun ⟨_,_,⟨e1,e2⟩,h⟩=>e1 ▸ e2 ▸ h,fun h=>⟨x,y,⟨rfl,rfl⟩,h⟩⟩
@[simp] theorem ex3 {α β γ:Type} {x:α} {y:β} {z:γ} {P:α→β→γ→Prop}:(∃ a b c,(x=a∧y=b∧z=c)∧P a b c)↔P x y z:=⟨fun ⟨_,_,_,⟨e1,e2,e3⟩,h⟩=>e1 ▸ e2 ▸ e3 ▸ h,fun h=>⟨x,y,z,⟨rfl,rfl,rfl⟩,h⟩⟩
@[simp] theorem zr9 (d:D):(Res.val d).toD=d:=rfl
@[simp] theorem zsa (o:OD):(Res.own o).toD=o.toD:=rfl
@[simp] theorem ztL (d:D→D) (o:OD):(Res.bk d o).toD=d o.toD:=rfl
@[simp] theorem ztW (l:List D):(OD.lst l).toD=.lst l:=rfl
@[simp] theorem ztY (l:List (D × D)):(OD.dic l).toD=.dic l:=rfl
@[simp] theorem ztX (l:List (D × D)):(OD.dit l).toD=.dit l:=rfl
@[simp] theorem zpP (N:List Str) (ds:List D):zca N ds=ds.map .val ++ List.replicate (N.length-ds.length) .emp:=rfl
@[simp] theorem zr3 (d:D):voS (.val d)=.val d:=rfl
@[simp] theorem zr5:voS .emp=.emp:=rfl
@[simp] theorem zr4 (o:OD):voS (.own o)=.emp:=rfl
@[simp] theorem ztK:vo []=[]:=rfl
@[simp] theorem zr2 (s:Slot) (Γ:Sts):vo (s :: Γ)=voS s :: vo Γ:=rfl
@[simp] theorem zrF (ds:List D):zpZ (.lst ds)=some ds:=rfl
@[simp] theorem zrC (ds:List D):zpZ (.tup ds)=some ds:=rfl
@[simp] theorem zrD (l:List Nat):zpZ (.str l)=some (l.map fun c=>.str [c]):=rfl
@[simp] theorem ztA (Γ:Sts):zlB [] Γ=[]:=rfl
@[simp] theorem zr0 (src:List (Option Nat)) (Γ:Sts):zlB (none :: src) Γ=.emp :: zlB src Γ:=rfl
@[simp] theorem zrZ (i:Nat) (src:List (Option Nat)) (Γ:Sts):zlB (some i :: src) Γ=(match Γ[i]? with | some (.val d)=>.val d | _=>.emp) :: zlB src Γ:=rfl
@[simp] theorem zrk (g:TG') (tc:TT') (te:TE') (Q:List D→Prop) (acc:List D) (Γ:Sts):zee g tc te Q [] acc Γ↔Q acc:=Iff.rfl
@[simp] theorem zrX (g:TG') (tb:TS') (N:Ends') (Γ:Sts):zhc g tb N [] Γ↔N.nx Γ:=Iff.rfl
section
variable {Q:D→Prop}
@[simp] theorem ztS (g:Int→Int→D) (i j:Int):znf g (.int i) (.int j) Q↔Q (g i j):=by simp [znf]
@[simp] theorem zus (C:Int→Int→Prop) (g:Int→Int→D) (i j:Int):rI' C g (.int i) (.int j) Q↔C i j∧Q (g i j):=by simp [rI']
@[simp] theorem zrT (i j:Int):zgj (.int i) (.int j) Q↔Q (.int (i+j)):=by simp [zgj,zi2]
@[simp] theorem zrS (l m:List Nat):zgj (.str l) (.str m) Q↔l.length+m.length≤sizeLine∧Q (.str (l ++ m)):=by simp [zgj,zi2]
@[simp] theorem ztf (i j:Int):eqS (.int i) (.int j)=some (decide (i=j)):=rfl
@[simp] theorem ztd (i j:List Nat):eqS (.str i) (.str j)=some (decide (i=j)):=rfl
@[simp] theorem zt0 (i j:Bool):eqS (.bl i) (.bl j)=some (decide (i=j)):=rfl
@[simp] theorem zte:eqS .non .non=some true:=rfl
@[simp] theorem zpe (i:List Nat):eqS .non (.str i)=some false:=rfl
@[simp] theorem zpf (i:Int):eqS .non (.int i)=some false:=rfl
@[simp] theorem zpd (i:List Nat):eqS (.str i) .non=some false:=rfl
@[simp] theorem zpg (i:Int):eqS (.int i) .non=some false:=rfl
@[simp] theorem zsD (c:Nat) (l:List Nat):zlW false (.str [c]) (.str l) Q↔Q (.bl (decide (c ∈ l))):=by simp [zlW]
@[simp] theorem zsC (ds:List D) (i:Int):zlu (.lst ds) (.int i) Q↔∃ d,atI ds i=some d∧Q d:=by simp [zlu]
@[simp] theorem zsA (ds:List D) (i:Int):zlu (.tup ds) (.int i) Q↔∃ d,atI ds i=some d∧Q d:=by simp [zlu]
@[simp] theorem zsB (l:List Nat) (i:Int):zlu (.str l) (.int i) Q↔l.length≤sizeLine∧∃ c,atI l i=some c∧Q (.str [c]):=by simp [zlu]
@[simp] theorem zsw (ds:List D) (lo hi:Option Int):zrJ (.lst ds) lo hi Q↔Q (.lst (zfX ds lo hi)):=by simp [zrJ,zn4,zn5]
@[simp] theorem zrM (l:List Nat):zgi [.str l] Q↔l.length≤sizeLine∧Q (.int (l.length:Nat)):=by simp [zgi]
@[simp] theorem zrN (l:List D):zgi [.lst l] Q↔Q (.int (l.length:Nat)):=by simp [zgi]
@[simp] theorem zsv (i:Int):zn2 [.int i] Q↔i.natAbs.log2<1920∧Q (.str (zoO i)):=by simp [zn2]
@[simp] theorem zrH (ds:List D):zj2 [.lst ds] Q↔Q (.tup ds):=by simp [zj2]
@[simp] theorem zr6 (l:List Nat):tyD "str" (.str l)↔True:=by simp [tyD]
theorem zn7 {ds:List D} {bs:List Bool} (e:ds=bs.map .bl):ztT [.lst ds] Q↔Q (.bl (bs.all id)):=by
 subst e; constructor
 ·rintro ⟨cs,e,q⟩
  have e':bs.map D.bl=cs.map D.bl:=by simpa using e
  have:bs=cs:=(List.map_inj_right (fun a b h=>D.bl.inj h)).mp e'
  rw [this]; exact q
 ·intro q
  exact ⟨bs,rfl,q⟩
end
@[simp] theorem zjy (K:PySem.W.Frag):PySem.W.kitOne K (.type "NoneType") (.type "str")=some false:=by rfl
@[simp] theorem znz (K:PySem.W.Frag):PySem.W.kitOne K (.type "bool") (.type "str")=some false:=by rfl
@[simp] theorem zo0 (K:PySem.W.Frag):PySem.W.kitOne K (.type "int") (.type "str")=some false:=by rfl
@[simp] theorem zoY (K:PySem.W.Frag):PySem.W.kitOne K (.type "str") (.type "str")=some true:=by rfl
@[simp] theorem zns (K:PySem.W.Frag):PySem.W.kitOne K (.type "list") (.type "str")=some false:=by rfl
@[simp] theorem zmA (K:PySem.W.Frag):PySem.W.kitOne K (.type "tuple") (.type "str")=some false:=by rfl
@[simp] theorem znx (K:PySem.W.Frag):PySem.W.kitOne K (.type "dict") (.type "str")=some false:=by rfl
@[simp] theorem zjh (K:PySem.W.Frag):PySem.W.kitOne K (.type "NoneType") (.type "bool")=some false:=by rfl
@[simp] theorem zmM (K:PySem.W.Frag):PySem.W.kitOne K (.type "bool") (.type "bool")=some true:=by rfl
@[simp] theorem znw (K:PySem.W.Frag):PySem.W.kitOne K (.type "int") (.type "bool")=some false:=by rfl
@[simp] theorem znr (K:PySem.W.Frag):PySem.W.kitOne K (.type "str") (.type "bool")=some false:=by rfl
@[simp] theorem zmF (K:PySem.W.Frag):PySem.W.kitOne K (.type "list") (.type "bool")=some false:=by rfl
@[simp] theorem zlx (K:PySem.W.Frag):PySem.W.kitOne K (.type "tuple") (.type "bool")=some false:=by rfl
@[simp] theorem zmJ (K:PySem.W.Frag):PySem.W.kitOne K (.type "dict") (.type "bool")=some false:=by rfl
@[simp] theorem zjz (K:PySem.W.Frag):PySem.W.kitOne K (.type "NoneType") (.type "int")=some false:=by rfl
@[simp] theorem znA (K:PySem.W.Frag):PySem.W.kitOne K (.type "bool") (.type "int")=some true:=by rfl
@[simp] theorem zo1 (K:PySem.W.Frag):PySem.W.kitOne K (.type "int") (.type "int")=some true:=by rfl
@[simp] theorem zoZ (K:PySem.W.Frag):PySem.W.kitOne K (.type "str") (.type "int")=some false:=by rfl
@[simp] theorem znt (K:PySem.W.Frag):PySem.W.kitOne K (.type "list") (.type "int")=some false:=by rfl
@[simp] theorem zmB (K:PySem.W.Frag):PySem.W.kitOne K (.type "tuple") (.type "int")=some false:=by rfl
@[simp] theorem zny (K:PySem.W.Frag):PySem.W.kitOne K (.type "dict") (.type "int")=some false:=by rfl
@[simp] theorem zjf (K:PySem.W.Frag):PySem.W.kitOne K (.type "NoneType") (.type "list")=some false:=by rfl
@[simp] theorem zmK (K:PySem.W.Frag):PySem.W.kitOne K (.type "bool") (.type "list")=some false:=by rfl
@[simp] theorem znu (K:PySem.W.Frag):PySem.W.kitOne K (.type "int") (.type "list")=some false:=by rfl
@[simp] theorem znp (K:PySem.W.Frag):PySem.W.kitOne K (.type "str") (.type "list")=some false:=by rfl
@[simp] theorem zmD (K:PySem.W.Frag):PySem.W.kitOne K (.type "list") (.type "list")=some true:=by rfl
@[simp] theorem zlv (K:PySem.W.Frag):PySem.W.kitOne K (.type "tuple") (.type "list")=some false:=by rfl
@[simp] theorem zmH (K:PySem.W.Frag):PySem.W.kitOne K (.type "dict") (.type "list")=some false:=by rfl
@[simp] theorem zit (K:PySem.W.Frag):PySem.W.kitOne K (.type "NoneType") (.type "tuple")=some false:=by rfl
@[simp] theorem zlA (K:PySem.W.Frag):PySem.W.kitOne K (.type "bool") (.type "tuple")=some false:=by rfl
@[simp] theorem zmG (K:PySem.W.Frag):PySem.W.kitOne K (.type "int") (.type "tuple")=some false:=by rfl
@[simp] theorem zmC (K:PySem.W.Frag):PySem.W.kitOne K (.type "str") (.type "tuple")=some false:=by rfl
@[simp] theorem zly (K:PySem.W.Frag):PySem.W.kitOne K (.type "list") (.type "tuple")=some false:=by rfl
@[simp] theorem zkN (K:PySem.W.Frag):PySem.W.kitOne K (.type "tuple") (.type "tuple")=some true:=by rfl
@[simp] theorem zlz (K:PySem.W.Frag):PySem.W.kitOne K (.type "dict") (.type "tuple")=some false:=by rfl
@[simp] theorem zjg (K:PySem.W.Frag):PySem.W.kitOne K (.type "NoneType") (.type "dict")=some false:=by rfl
@[simp] theorem zmL (K:PySem.W.Frag):PySem.W.kitOne K (.type "bool") (.type "dict")=some false:=by rfl
@[simp] theorem znv (K:PySem.W.Frag):PySem.W.kitOne K (.type "int") (.type "dict")=some false:=by rfl
@[simp] theorem znq (K:PySem.W.Frag):PySem.W.kitOne K (.type "str") (.type "dict")=some false:=by rfl
@[simp] theorem zmE (K:PySem.W.Frag):PySem.W.kitOne K (.type "list") (.type "dict")=some false:=by rfl
@[simp] theorem zlw (K:PySem.W.Frag):PySem.W.kitOne K (.type "tuple") (.type "dict")=some false:=by rfl
@[simp] theorem zmI (K:PySem.W.Frag):PySem.W.kitOne K (.type "dict") (.type "dict")=some true:=by rfl
section
variable {Q:D→Prop}
end
end PL
namespace PL
open PySem L2
class ME (t:TE'):Prop where
 mono:∀ Γ Q Q',(∀ d Γ',Q d Γ'→Q' d Γ')→t Γ Q→t Γ Q'
class MT (t:TT'):Prop where
 mono:∀ Γ Q Q',(∀ d Γ',Q d Γ'→Q' d Γ')→t Γ Q→t Γ Q'
class MA (t:TA'):Prop where
 mono:∀ Γ Q Q',(∀ d Γ',Q d Γ'→Q' d Γ')→t Γ Q→t Γ Q'
class MO (t:TO'):Prop where
 mono:∀ Γ Q Q',(∀ d Γ',Q d Γ'→Q' d Γ')→t Γ Q→t Γ Q'
class MI (t:TI'):Prop where
 mono:∀ Γ Q Q',(∀ d Γ',Q d Γ'→Q' d Γ')→t Γ Q→t Γ Q'
class MG (g:TG'):Prop where
 mono:∀ d Γ Q Q',(∀ Γ',Q Γ'→Q' Γ')→g d Γ Q→g d Γ Q'
class MR2 (r:R2'):Prop where
 mono:∀ x y Q Q',(∀ d,Q d→Q' d)→r x y Q→r x y Q'
class MRC (r:RC'):Prop where
 mono:∀ x Q Q',(∀ d,Q d→Q' d)→r x Q→r x Q'
class MRM (r:RM'):Prop where
 mono:∀ x y Q Q',(∀ d,Q d→Q' d)→r x y Q→r x y Q'
class MSp (sp:Sp'):Prop where
 mono:∀ x Q Q',(∀ d,Q d→Q' d)→sp x Q→sp x Q'
structure Ends'.le (N N':Ends'):Prop where
 nx:∀ Γ,N.nx Γ→N'.nx Γ
 rt:∀ r Γ,N.rt r Γ→N'.rt r Γ
 bk:∀ Γ,N.bk Γ→N'.bk Γ
 ct:∀ Γ,N.ct Γ→N'.ct Γ
class MS (t:TS'):Prop where
 mono:∀ N N' Γ,N.le N'→t N Γ→t N' Γ
instance {i:Nat}:ME (zaa i):=⟨fun _ _ _ h ⟨d,e,q⟩=>⟨d,e,h _ _ q⟩⟩
instance {d:D}:ME (tC' d):=⟨fun _ _ _ h q=>h _ _ q⟩
instance {t:TO'} [MO t]:ME (zbn t):=⟨fun Γ _ _ h q=>MO.mono (t:=t) Γ _ _ (fun _ _ z=>h _ _ z) q⟩
instance {r:R2'} {a b:TE'} [MR2 r] [ME a] [ME b]:ME (zbh r a b):=⟨fun Γ _ _ h q=>ME.mono (t:=a) Γ _ _ (fun _ _ z=>ME.mono (t:=b) _ _ _ (fun _ _ z=>MR2.mono (r:=r) _ _ _ _ (fun _ z=>h _ _ z) z) z) q⟩
instance {t:TE'} [ME t]:MT (tB' t):=⟨fun Γ _ _ h q=>ME.mono (t:=t) Γ _ _ (fun _ _ ⟨b,e,z⟩=>⟨b,e,h _ _ z⟩) q⟩
instance {t u:TT'} [MT t] [MT u]:MT (zar t u):=⟨fun Γ _ _ h q=>MT.mono (t:=t) Γ _ _ (fun b _ z=>by
 cases b with
 | true=>exact MT.mono (t:=u) _ _ _ h z
 | false=>exact h _ _ z) q⟩
instance {t:TT'} [MT t]:MT (zal t):=⟨fun Γ _ _ h q=>MT.mono (t:=t) Γ _ _ (fun b _ z=>h _ _ z) q⟩
instance:MT zbk:=⟨fun _ _ _ h q=>h _ _ q⟩
instance:MA zad:=⟨fun _ _ _ h q=>h _ _ q⟩
instance {a:TE'} {r:TA'} [ME a] [MA r]:MA (zB a r):=⟨fun Γ _ _ h q=>ME.mono (t:=a) Γ _ _ (fun _ _ z=>MA.mono (t:=r) _ _ _ (fun _ _ z=>h _ _ z) z) q⟩
instance {t:TA'} [MA t]:ME (zai t):=⟨fun Γ _ _ h q=>MA.mono (t:=t) Γ _ _ (fun _ _ ⟨a,z⟩=>⟨a,h _ _ z⟩) q⟩
instance {t:TA'} [MA t]:MO (zan t):=⟨fun Γ _ _ h q=>MA.mono (t:=t) Γ _ _ (fun _ _ ⟨a,z⟩=>⟨a,h _ _ z⟩) q⟩
instance {r:RC'} {t:TA'} [MRC r] [MA t]:ME (zbl r t):=⟨fun Γ _ _ h q=>MA.mono (t:=t) Γ _ _ (fun _ _ z=>MRC.mono (r:=r) _ _ _ (fun _ z=>h _ _ z) z) q⟩
instance {T:String} {r:RM'} {o:TE'} {t:TA'} [MRM r] [ME o] [MA t]:ME (zbq T r o t):=⟨fun Γ _ _ h q=>ME.mono (t:=o) Γ _ _ (fun _ _ ⟨a,z⟩=>⟨a,MA.mono (t:=t) _ _ _ (fun _ _ z=>MRM.mono (r:=r) _ _ _ _ (fun _ z=>h _ _ z) z) z⟩) q⟩
instance {sp:Sp'} {t:TA'} [MSp sp] [MA t]:ME (zv sp t):=⟨fun Γ _ _ h q=>MA.mono (t:=t) Γ _ _ (fun _ _ z=>MSp.mono (sp:=sp) _ _ _ (fun _ z=>h _ _ z) z) q⟩
instance {t:TE'} [ME t]:MI (zat t):=⟨fun Γ _ _ h q=>ME.mono (t:=t) Γ _ _ (fun _ _ ⟨i,e,z⟩=>⟨i,e,h _ _ z⟩) q⟩
instance {t:TA'} [MA t]:MI (zE t):=⟨fun Γ _ _ h q=>MA.mono (t:=t) Γ _ _ (fun _ _ ⟨i,e,a,b,z⟩=>⟨i,e,a,b,h _ _ z⟩) q⟩
instance {i:Nat}:MG (zp i):=⟨fun _ _ _ _ h q=>h _ q⟩
theorem zec {g:TG'} {tc:TT'} {te:TE'} [MG g] [MT tc] [ME te] {Q Q':List D→Prop} (h:∀ l,Q l→Q' l):∀ (ds acc:List D) (Γ:Sts),zee g tc te Q ds acc Γ→zee g tc te Q' ds acc Γ
 | [],acc,Γ,q=>h acc q
 | d :: ds,acc,Γ,q=>MG.mono (g:=g) _ _ _ _ (fun Γ2 z=>MT.mono (t:=tc) _ _ _ (fun b Γ3 z=>by
  cases b with
  | true=>exact ME.mono (t:=te) _ _ _ (fun y Γ4 z=>zec h ds _ _ z) z
  | false=>exact zec h ds _ _ z) z) q
instance {ti:TI'} {src:List (Option Nat)} {g:TG'} {tc:TT'} {te:TE'} [MI ti] [MG g] [MT tc] [ME te]:MO (zu ti src g tc te):=⟨fun Γ _ _ h q=>MI.mono (t:=ti) Γ _ _ (fun ds Γ1 ⟨a,z⟩=>⟨a,zec (fun l=>h _ _) _ _ _ z⟩) q⟩
theorem Ends'.le.nxt {N N':Ends'} (h:N.le N') {P P':Sts→Prop} (hp:∀ Γ,P Γ→P' Γ):Ends'.le { N with nx:=P } { N' with nx:=P' }:=⟨hp,h.rt,h.bk,h.ct⟩
instance:MS zt:=⟨fun _ _ _ h q=>h.nx _ q⟩
instance {t u:TS'} [MS t] [MS u]:MS (zaj t u):=⟨fun N N' Γ h q=>MS.mono (t:=t) _ _ _ (h.nxt fun Γ' z=>MS.mono (t:=u) N N' Γ' h z) q⟩
instance {t:TE'} [ME t]:MS (zak t):=⟨fun N N' Γ h q=>ME.mono (t:=t) _ _ _ (fun _ _ z=>h.rt _ _ z) q⟩
instance {c:TT'} {t u:TS'} [MT c] [MS t] [MS u]:MS (zaf c t u):=⟨fun N N' Γ h q=>MT.mono (t:=c) _ _ _ (fun b Γ1 z=>by
 cases b with
 | true=>exact MS.mono (t:=t) N N' Γ1 h z
 | false=>exact MS.mono (t:=u) N N' Γ1 h z) q⟩
instance {t:TE'} [ME t]:MS (zy t):=⟨fun N N' Γ h q=>ME.mono (t:=t) _ _ _ (fun _ _ z=>h.nx _ z) q⟩
instance {t:TE'} {g:TG'} [ME t] [MG g]:MS (zah t g):=⟨fun N N' Γ h q=>ME.mono (t:=t) _ _ _ (fun _ _ z=>MG.mono (g:=g) _ _ _ _ (fun _ z=>h.nx _ z) z) q⟩
theorem zeY {g:TG'} {tb:TS'} [MG g] [MS tb] {N N':Ends'} (h:N.le N'):∀ (ds:List D) (Γ:Sts),zhc g tb N ds Γ→zhc g tb N' ds Γ
 | [],Γ,q=>h.nx Γ q
 | d :: ds,Γ,q=>MG.mono (g:=g) _ _ _ _ (fun Γ2 z=>MS.mono (t:=tb) { N with nx:=zhc g tb N ds,ct:=zhc g tb N ds,bk:=N.nx } { N' with nx:=zhc g tb N' ds,ct:=zhc g tb N' ds,bk:=N'.nx } _ ⟨fun Γ3 z=>zeY h ds Γ3 z,h.rt,h.nx,fun Γ3 z=>zeY h ds Γ3 z⟩ z) q
instance {ti:TI'} {g:TG'} {tb:TS'} [MI ti] [MG g] [MS tb]:MS (zap ti g tb):=⟨fun N N' Γ h q=>MI.mono (t:=ti) _ _ _ (fun ds Γ1 z=>zeY h ds Γ1 z) q⟩
theorem zhQ {g:TG'} {tb:TS'} [MG g] [MS tb] {N:Ends'} (I:List D→Sts→Prop) (h0:∀ Γ,I [] Γ→N.nx Γ) (hs:∀ d ds Γ,I (d :: ds) Γ→g d Γ fun Γ2=>tb { N with nx:=I ds,ct:=I ds,bk:=N.nx } Γ2) :
  ∀ (ds:List D) (Γ:Sts),I ds Γ→zhc g tb N ds Γ
 | [],Γ,h=>h0 Γ h
 | d :: ds,Γ,h=>MG.mono (g:=g) _ _ _ _ (fun Γ2 z=>MS.mono (t:=tb) { N with nx:=I ds,ct:=I ds,bk:=N.nx } { N with nx:=zhc g tb N ds,ct:=zhc g tb N ds,bk:=N.nx } _ ⟨fun Γ3 z=>zhQ I h0 hs ds Γ3 z,fun _ _ z=>z,fun _ z=>z,fun Γ3 z=>zhQ I h0 hs ds Γ3 z⟩ z) (hs d ds Γ h)
theorem zdl {g:TG'} {tb:TS'} [MG g] [MS tb] {N:Ends'} {ds:List D} {Γ:Sts} (I:Nat→Sts→Prop) (h:I 0 Γ) (hs:∀ (i:Nat) d Γ,ds[i]?=some d→I i Γ→g d Γ fun Γ2=>tb { N with nx:=I (i+1),ct:=I (i+1),bk:=N.nx } Γ2) (h0:∀ Γ,I ds.length Γ→N.nx Γ):zhc g tb N ds Γ:=by
 refine zhQ (fun es Γ=>∃ i,es=ds.drop i∧i≤ds.length∧I i Γ) ?_ ?_ ds Γ ⟨0,rfl,Nat.zero_le _,h⟩
 ·rintro Γ ⟨i,e,hi,q⟩
  have:i=ds.length:=by
   have:=congrArg List.length e
   rw [List.length_drop] at this
   simp at this
   omega
  subst this; exact h0 Γ q
 ·rintro d es Γ ⟨i,e,hi,q⟩
  have hlt:i<ds.length:=by
   have:=congrArg List.length e
   rw [List.length_drop] at this
   simp at this
   omega
  rw [List.drop_eq_getElem_cons hlt] at e
  injection e with e1 e2
  subst e1
  have go:∀ Γ',I (i+1) Γ'→∃ j,es=ds.drop j∧j≤ds.length∧I j Γ':=fun Γ' z=>⟨i+1,e2,hlt,z⟩
  exact MG.mono (g:=g) _ _ _ _ (fun Γ2 z=>MS.mono (t:=tb) { N with nx:=I (i+1),ct:=I (i+1),bk:=N.nx } _ _ ⟨go,fun _ _ z=>z,fun _ z=>z,go⟩ z) (hs i _ Γ (List.getElem?_eq_getElem hlt) q)
theorem zjF {c:TT'} {tb:TS'} [MT c] [MS tb] {N:Ends'} {Γ:Sts} (I:Sts→Prop) (μ:Sts→Nat) (h:I Γ) (hs:∀ Γ,I Γ→c Γ fun b Γ1=>if b=true then tb { N with nx:=fun Γ2=>I Γ2∧μ Γ2<μ Γ,ct:=fun Γ2=>I Γ2∧μ Γ2<μ Γ,bk:=N.nx } Γ1 else N.nx Γ1):zjK c tb N Γ:=by
 refine ⟨fun m Γ=>m=μ Γ∧I Γ,⟨_,rfl,h⟩,?_⟩
 rintro m Γ ⟨rfl,p⟩
 refine MT.mono (t:=c) _ _ _ (fun b Γ1 z=>?_) (hs Γ p)
 cases b with
 | true=>exact MS.mono (t:=tb) { N with nx:=fun Γ2=>I Γ2∧μ Γ2<μ Γ,ct:=fun Γ2=>I Γ2∧μ Γ2<μ Γ,bk:=N.nx } _ _ ⟨fun Γ2 ⟨a,b⟩=>⟨_,b,rfl,a⟩,fun _ _ z=>z,fun _ z=>z,fun Γ2 ⟨a,b⟩=>⟨_,b,rfl,a⟩⟩ z
 | false=>exact z
theorem zbM {g:TG'} {tc:TT'} {te:TE'} [MG g] [MT tc] [ME te] {Q:List D→Prop} {ds:List D} {Γ:Sts} (I:Nat→List D→Sts→Prop) (h:I 0 [] Γ)
  (hs:∀ (i:Nat) d acc Γ,ds[i]?=some d→I i acc Γ→g d Γ fun Γ2=>tc Γ2 fun b Γ3=>if b=true then te Γ3 fun y Γ4=>I (i+1) (acc ++ [y]) (vo Γ4) else I (i+1) acc (vo Γ3)) (h0:∀ acc Γ,I ds.length acc Γ→Q acc):zee g tc te Q ds [] Γ:=by
 have key:∀ (n i:Nat) (acc:List D) (Γ:Sts),n=ds.length-i→i≤ds.length→I i acc Γ→zee g tc te Q (ds.drop i) acc Γ:=by
  intro n
  induction n with
  | zero =>
   intro i acc Γ hn hi q
   have:i=ds.length:=by omega
   subst this; rw [List.drop_eq_nil_of_le (Nat.le_refl _)]; exact h0 acc Γ q
  | succ n ih =>
   intro i acc Γ hn hi q
   have hlt:i<ds.length:=by omega
   rw [List.drop_eq_getElem_cons hlt]
   refine MG.mono (g:=g) _ _ _ _ (fun Γ2 z=>MT.mono (t:=tc) _ _ _ (fun b Γ3 z=>?_) z) (hs i _ acc Γ (List.getElem?_eq_getElem hlt) q)
   cases b with
   | true=>exact ME.mono (t:=te) _ _ _ (fun y Γ4 z=>ih (i+1) _ _ (by omega) hlt z) z
   | false=>exact ih (i+1) _ _ (by omega) hlt z
 exact key _ 0 [] Γ rfl (Nat.zero_le _) h
instance {g:Int→Int→D}:MR2 (znf g):=⟨fun _ _ _ _ h ⟨i,j,a,b,q⟩=>⟨i,j,a,b,h _ q⟩⟩
instance {C:Int→Int→Prop} {g:Int→Int→D}:MR2 (rI' C g):=⟨fun _ _ _ _ h ⟨i,j,a,b,c,q⟩=>⟨i,j,a,b,c,h _ q⟩⟩
instance:MR2 zi2:=⟨fun _ _ _ _ h ⟨i,j,a,b,c,q⟩=>⟨i,j,a,b,c,h _ q⟩⟩
instance:MR2 zgj:=⟨fun _ _ _ _ h q=>by
 rcases q with ⟨i,j,a,b,q⟩ | q
 ·exact .inl ⟨i,j,a,b,h _ q⟩
 ·exact .inr (MR2.mono (r:=zi2) _ _ _ _ h q)⟩
instance {neg:Bool}:MR2 (zlW neg):=⟨fun _ _ _ _ h ⟨c,l,a,b,q⟩=>⟨c,l,a,b,h _ q⟩⟩
instance {neg:Bool}:MR2 (zlX neg):=⟨fun _ _ _ _ h ⟨i,c,l,a,b,q⟩=>⟨i,c,l,a,b,h _ q⟩⟩
instance:MR2 zfB:=⟨fun _ _ _ _ h q=>by
 rcases q with q | q
 ·exact .inl (MR2.mono (r:=zlW true) _ _ _ _ h q)
 ·exact .inr (MR2.mono (r:=zlX true) _ _ _ _ h q)⟩
instance {neg:Bool}:MR2 (zj4 neg):=⟨fun _ _ _ _ h ⟨a,b,e,q⟩=>⟨a,b,e,h _ q⟩⟩
instance:MR2 zlu:=⟨fun _ _ _ _ h ⟨i,e,q⟩=>⟨i,e,by
 rcases q with ⟨ds,d,a,b,q⟩ | ⟨ds,d,a,b,q⟩ | ⟨l,c,a,b,e,q⟩
 ·exact .inl ⟨ds,d,a,b,h _ q⟩
 ·exact .inr (.inl ⟨ds,d,a,b,h _ q⟩)
 ·exact .inr (.inr ⟨l,c,a,b,e,h _ q⟩)⟩⟩
instance:MRC zgi:=⟨fun _ _ _ h ⟨d,e,q⟩=>⟨d,e,by
 rcases q with ⟨l,a,b,q⟩ | ⟨l,a,q⟩ | ⟨l,a,q⟩
 ·exact .inl ⟨l,a,b,h _ q⟩
 ·exact .inr (.inl ⟨l,a,h _ q⟩)
 ·exact .inr (.inr ⟨l,a,h _ q⟩)⟩⟩
end PL
namespace PL
open PySem L2
def ziP:Sp':=fun ds Q=>∃ ns:List Int,ds=[.lst (ns.map .int)]∧ns.length≤63∧Q (.val (.bl true))
theorem ziE {K:PySem.W.Frag} {H:Hp}:∀ ns:List Int,zbP K H (ns.map V.int) (ns.map D.int)
 | []=>.nil
 | n :: ns=>.cons (.int n) (ziE ns)
theorem zqT {P:Program} {w:World} {K:PySem.W.Frag} {mg:Str→Option Value} {k:Nat} {fa:Addr} {oc:Value} {od:Option Addr} {fd:FuncData} {sl:Array (Option Value)} {ps:List Str}
  (hfa:mg "law"=some (.ref fa)) (lk:K.lookup fa=some ⟨oc,od,.func fd,sl⟩) (base:Heap) (G:Fn P w K mg base k "law" ps ziP):FnOk P w K mg base CX0 k fa fd ps (zh7 K ziP):=by
 obtain ⟨f,fd',F,_,_,m,oc',od',sl',lk'⟩:=G.ex; rw [hfa] at m; cases m; rw [lk] at lk'; cases lk'; exact F
end PL
namespace L2
open PySem PySem.Spec PyProof.Rows
section
variable {X:Cx}
theorem zoK:OpR X (binaryOp .Add) (fun x y H Q=>∃ a b xs ys,x=.ref a∧y=.ref b∧SqT X.K H a xs∧SqT X.K H b ys∧xs.length+ys.length≤sizeLine∧(xs=[]→Q (.ref b) H)∧(xs≠[]→ys=[]→Q (.ref a) H) ∧
  (xs≠[]→ys≠[]→∀ p,H p=none→Q (.ref p) (upd H p (.tup (xs ++ ys))))):=by
 intro pins s σ H x y v u Q I rx ry h; obtain ⟨a,b,xs,ys,rfl,rfl,ha,hb,hz,q0,q1,q2⟩:=h
 by_cases hx:xs=[]
 ·cases rx
  cases ry; obtain ⟨its,r1,p1,_⟩:=I.tuple ha; obtain ⟨its2,r2,p2,_⟩:=I.tuple hb
  obtain ⟨⟨cls,dd,data,sl⟩,ho,hc,n,hd⟩:=id p1
  obtain ⟨⟨cls2,dd2,data2,sl2⟩,ho2,hc2,n2,hd2⟩:=id p2
  simp only at hc hd hc2 hd2
  subst hc hd hc2 hd2
  have hi:its=[]:=r1.nil_iff.mpr hx
  refine concat_meets ⟨_,ho,rfl⟩ ⟨_,ho2,rfl⟩ noFill_tuple_add seq_tuple_add PySem.F.slot_tuple_add PySem.F.entry_tuple_add (PySem.F.args_tuple_add_2 _ _)
   (tuple_addW0 a b its.toArray its2.toArray n n2 dd dd2 sl sl2 (by simp [hi])) ⟨ho,ho2,?_⟩
  exact ⟨.ref b,H,I,rfl,q0 hx⟩
 ·exact zoI pins s σ H _ _ v u Q I rx ry ⟨a,b,xs,ys,rfl,rfl,ha,hb,hx,hz,q1 hx,q2 hx⟩
end
end L2
namespace HT
open PySem PyProof.Rows
section
variable {prog:Program} {w:World} {A:Around} {E:Value→Shared→Prop} {s:Shared}
theorem getItem_tuple_whole {t sl:Addr} {items:Array Value} {vl vu:Value} {lo hi:Option Int} {Q:Value→Shared→Prop} (ht:IsTup s.heap t items) (hs:s.heap.IsSliceOf sl vl vu .none) (pl:IsPart vl lo) (pu:IsPart vu hi)
  (hw:sIx items.size 0 lo=0∧sIx items.size items.size hi=items.size) (h:Q (.ref t) s):wpAny (model prog w) A (getItem (.ref t) (.ref sl)) Q E s:=by
 obtain ⟨os,hos,hcs,hds⟩:=id hs
 have hTs:s.TypeIs (.ref sl) "slice":=⟨os,hos,hcs⟩
 unfold getItem
 try with_reducible refine wpAny_holding ?_
 first | refine wpAny_bind (wpAny_pure ?_) | skip
 refine wpAny_bind (wpAny_sequenceKey ht.typeIs (by decide) ?_)
 refine wpAny_bind (wpAny_callSpecial?_slot (name:=Str.ofString "__getitem__") ht.typeIs PyProof.Rows.slot_tuple_getitem
  (wpAny_call_entry PyProof.Rows.slot_tuple_getitem ht.typeIs entry_tuple_getitem ?_ (args_tuple_getitem _ _)))
 show wpAny _ _ (Builtin.Tuple.tupleItemsOf (.ref t) >>= _) _ _ s
 refine wpAny_bind (tupleItemsOf_ ht ?_); refine wpAny_bind (wpAny_typeOf hTs ?_)
 rw [if_pos (by decide)]
 refine wpAny_bind (zcS hs pl pu ?_)
 have hyes:((((sIx items.size 0 lo:Nat):Int) == 0 && (1:Int) == 1 && (sIx items.size items.size hi-sIx items.size 0 lo) == items.size)=true):=by
  rw [hw.1,hw.2]; simp
 show wpAny _ _ (if (((sIx items.size 0 lo:Nat):Int) == 0 && (1:Int) == 1 && (sIx items.size items.size hi-sIx items.size 0 lo) == items.size)=true then _ else _) _ _ s
 rw [if_pos hyes]; refine wpAny_bind (m:=Builtin.Tuple.tupleIsExact (.ref t)) ?_; unfold Builtin.Tuple.tupleIsExact; refine wpAny_bind (wpAny_typeOf ht.typeIs ?_); refine wpAny_pure ?_
 rw [if_pos (by decide)]
 exact wpAny_bind (wpAny_rule (wpAny_pure ⟨_,rfl,wpAny_pure h⟩))
end
end HT
namespace L2
open PySem PySem.Spec PyProof.Rows
section
variable {X:Cx}
theorem znS:SlR X (fun x lo hi H Q=>∃ a xs,x=.ref a∧SqT X.K H a xs∧((HT.sIx xs.length 0 lo=0∧HT.sIx xs.length xs.length hi=xs.length)→Q (.ref a) H) ∧
  (¬ (HT.sIx xs.length 0 lo=0∧HT.sIx xs.length xs.length hi=xs.length)→∀ p,H p=none→Q (.ref p) (upd H p (.tup (zld xs lo hi))))):=by
 intro pins s σ H x v vl vu lo hi sl Q I rx hs pl pu h; obtain ⟨a,xs,rfl,hx,q1,q2⟩:=h
 by_cases hw:HT.sIx xs.length 0 lo=0∧HT.sIx xs.length xs.length hi=xs.length
 ·cases rx
  obtain ⟨its,r,ht,hz⟩:=I.tuple hx
  have hlen:its.toArray.size=xs.length:=by rw [List.size_toArray]; exact r.length.symm
  refine ⟨"tuple",_,PyProof.Rows.slot_tuple_getitem.lookup,ht.typeIs,?_⟩
  exact HT.getItem_tuple_whole ht hs pl pu (by rw [hlen]; exact hw) ⟨.ref a,H,I,rfl,q1 hw⟩
 ·exact zpX pins s σ H _ v vl vu lo hi sl Q I rx hs pl pu ⟨a,xs,rfl,hx,hw,q2 hw⟩
end
end L2
namespace PL
open PySem L2
section
variable {X:Cx} {K:PySem.W.Frag}
def zi1:R2':=fun x y Q=>∃ xs ys,x=.tup xs∧y=.tup ys∧xs.length+ys.length≤sizeLine∧Q (.tup (xs ++ ys))
theorem zqL:Op2 X (binaryOp .Add) zi1:=⟨_,zoK,by
 rintro Hi H x y dx dy Q Q2 s d1 d2 ⟨xs,ys,rfl,rfl,hl,q⟩ fin
 obtain ⟨a,vs,rfl,h1,h2⟩:=d1.tupI; obtain ⟨b,us,rfl,h3,h4⟩:=d2.tupI
 refine ⟨a,b,vs,us,rfl,rfl,za3 s.sub h1,za3 s.sub h3,by rw [zg h2,zg h4]; exact hl,fun e=>?_,fun _ e=>?_,fun _ _ p hp=>?_⟩
 ·subst e
  cases h2; exact fin Hi H _ _ (Ext.refl s) d2 q
 ·subst e
  cases h4; rw [List.append_nil] at q; exact fin Hi H _ _ (Ext.refl s) d1 q
 ·have e:=Ext.new s hp (.tup (vs ++ us))
  exact fin _ _ _ _ e (Den.mkT zh (zbe (h2.mono e.hi) (h4.mono e.hi))) q⟩
theorem zsq:Sli X zn3:=⟨_,znS,by
 rintro Hi H x dx lo hi Q Q2 s d1 ⟨ds,rfl,q⟩ fin
 obtain ⟨a,vs,rfl,h1,h2⟩:=d1.tupI; have hl:=zg h2
 refine ⟨a,vs,rfl,za3 s.sub h1,fun hw=>?_,fun _ p hp=>?_⟩
 ·have e:zfX ds lo hi=ds:=by
   unfold zfX; rw [← hl,hw.1,hw.2,List.drop_zero,Nat.sub_zero,hl,List.take_length]
  rw [e] at q; exact fin Hi H _ _ (Ext.refl s) d1 q
 ·have e:=Ext.new s hp (.tup (zld vs lo hi))
  exact fin _ _ _ _ e (Den.mkT zh (zlc (h2.mono e.hi))) q⟩
def eqL (f:D→D→Option Bool):List D→List D→Option Bool
 | x :: xs,y :: ys=>match f x y,eqL f xs ys with
  | some a,some b=>some (a && b)
  | _,_=>none
 | [],[]=>some true
 | _,_=>some false
def eqD:Nat→D→D→Option Bool
 | n+1,.tup xs,.tup ys=>eqL (eqD n) xs ys
 | n+1,.lst xs,.lst ys=>if xs.length=ys.length then eqL (eqD n) xs ys else some false
 | _,x,y=>eqS x y
theorem zph {x y:V} {dx dy:D} {b:Bool} {Hi:Hp} (d1:Den K Hi x dx) (d2:Den K Hi y dy) (h:eqS dx dy=some b):zeZ x=true∧zeZ y=true∧eqV x y=b:=by
  cases d1 <;> cases d2 <;> first
    | (exact absurd (show (none:Option Bool)=some b from h) (fun z=>nomatch z))
    | (refine ⟨rfl,rfl,?_⟩
       have h':=Option.some.inj h
       subst h'
       first
         | rfl
         | (show ((_:Int) == _)=decide _; rw [Bool.beq_eq_decide_eq])
         | (show ((_:Bool) == _)=decide _; rw [Bool.beq_eq_decide_eq])
         | (show ((_:Str) == _)=decide _
            rw [Bool.beq_eq_decide_eq]
            exact decide_eq_decide.mpr ⟨fun z=>st_inj z,fun z=>congrArg st z⟩))
theorem zev {x:V} {dx dy:D} {b:Bool} {Hi:Hp} (d1:Den K Hi x dx) (d2:Den K Hi x dy) (h:eqS dx dy=some b):b=true:=by
 obtain ⟨f1,f2,e⟩:=zph d1 d2 h; rw [← e]
 cases x <;> first | rfl | (exact absurd (show false=true from f1) Bool.false_ne_true) | (show ((_:_) == _)=true; exact beq_self_eq_true _)
theorem zdU {f:D→D→Option Bool} {Hi:Hp} (hf:∀ v x y b,Den K Hi v x→Den K Hi v y→f x y=some b→b=true):∀ {vs:List V} {xs ys:List D} {b:Bool},zbP K Hi vs xs→zbP K Hi vs ys→eqL f xs ys=some b→b=true
 | [],_,_,b,.nil,.nil,h=>(Option.some.inj h).symm
 | v :: vs,x :: xs,y :: ys,b,.cons r1 t1,.cons r2 t2,h=>by
  unfold eqL at h
  cases e1:f x y with
  | none=>rw [e1] at h; cases h
  | some a =>
   cases e2:eqL f xs ys with
   | none=>rw [e1,e2] at h; cases h
   | some c =>
    rw [e1,e2] at h; rw [← Option.some.inj h,hf v x y a r1 r2 e1,zdU hf t1 t2 e2]; rfl
theorem zew (x y:D):eqD 0 x y=eqS x y:=by cases x <;> cases y <;> rfl
section
variable {pins:List (Addr × Obj)} {σ:St} {H Hi:Hp} {s:Shared}
theorem ziA (I:L2.Inv X pins σ H s) (sub:zaW Hi H):∀ (n:Nat) (v:V) (x y:D) (b:Bool),Den X.K Hi v x→Den X.K Hi v y→eqD n x y=some b→b=true:=by
 intro n
 induction n with
 | zero =>
  intro v x y b d1 d2 h; rw [zew] at h; exact zev d1 d2 h
 | succ n ih =>
  intro v x y b d1 d2 h
  cases x with
  | tup xs =>
   cases y with
   | tup ys =>
    obtain ⟨a,vs,rfl,h1,h2⟩:=d1.tupI; obtain ⟨a',us,e,h3,h4⟩:=d2.tupI; cases e; have e:=I.tuple_inj (za3 sub h1) (za3 sub h3); subst e; exact zdU ih h2 h4 h
   | _=>exact zev d1 d2 h
  | lst xs =>
   cases y with
   | lst ys =>
    obtain ⟨a,vs,rfl,h1,h2⟩:=d1.lstI; obtain ⟨a',us,e,h3,h4⟩:=d2.lstI; cases e; have e:=I.list_inj (zas sub h1) (zas sub h3); subst e
    have hl:xs.length=ys.length:=by rw [← zg h2,← zg h4]
    unfold eqD at h; rw [if_pos hl] at h; exact zdU ih h2 h4 h
   | _=>exact zev d1 d2 h
  | _=>exact zev d1 d2 h
theorem zc9 {f:D→D→Option Bool}:∀ {xs ys:List D} {b:Bool},eqL f xs ys=some b→∃ e:Nat→Bool,(∀ (j:Nat) x y,xs[j]?=some x→ys[j]?=some y→f x y=some (e j))∧b=((List.range (min xs.length ys.length)).all e && xs.length == ys.length)
 | [],[],b,h=>⟨fun _=>true,fun j x y h1 _=>by simp at h1,by simpa [eqL] using h.symm⟩
 | [],y :: ys,b,h=>⟨fun _=>true,fun j x y h1 _=>by simp at h1,by simpa [eqL] using h.symm⟩
 | x :: xs,[],b,h=>⟨fun _=>true,fun j x y _ h2=>by simp at h2,by simpa [eqL] using h.symm⟩
 | x :: xs,y :: ys,b,h=>by
  unfold eqL at h
  cases e1:f x y with
  | none=>rw [e1] at h; cases h
  | some a =>
   cases e2:eqL f xs ys with
   | none=>rw [e1,e2] at h; cases h
   | some c =>
    rw [e1,e2] at h; obtain ⟨e,h1,h2⟩:=zc9 e2
    refine ⟨fun j=>match j with | 0=>a | j+1=>e j,fun j x' y' hx hy=>?_,?_⟩
    ·cases j with
     | zero=>simp at hx hy; subst hx; subst hy; exact e1
     | succ j=>exact h1 j x' y' (by simpa using hx) (by simpa using hy)
    ·rw [← Option.some.inj h,h2]
     have hm:min (x :: xs).length (y :: ys).length=min xs.length ys.length+1:=by simp [Nat.succ_min_succ]
     rw [hm,List.range_succ_eq_map,List.all_cons,List.all_map]
     show (a && ((List.range (min xs.length ys.length)).all e && xs.length == ys.length))=((a && (List.range (min xs.length ys.length)).all e) && (x :: xs).length == (y :: ys).length)
     rw [Bool.and_assoc]
     congr 2
     simp
theorem zrb (I:L2.Inv X pins σ H s) (sub:zaW Hi H):∀ (n:Nat) (A:Around) (x y:V) (u v:Value) (dx dy:D) (b:Bool),A.units+n<cLine→Den X.K Hi x dx→Den X.K Hi y dy→zbA x u→zbA y v→eqD n dx dy=some b→SeqAt.EqAt A s u v b:=by
 intro n
 induction n with
 | zero =>
  intro A x y u v dx dy b hu d1 d2 rx ry h; rw [zew] at h; obtain ⟨f1,f2,e⟩:=zph d1 d2 h; rw [← e]; exact zk2 rx ry f1 f2
 | succ n ih =>
  intro A x y u v dx dy b hu d1 d2 rx ry h
  have znV:eqS dx dy=some b→SeqAt.EqAt A s u v b:=fun h=>by
   obtain ⟨f1,f2,e⟩:=zph d1 d2 h; rw [← e]; exact zk2 rx ry f1 f2
  have items:∀ {vs ws:List V} {its jts:List Value} {xs ys:List D} {e:Nat→Bool},zbP X.K Hi vs xs→zbP X.K Hi ws ys→za5 vs its→za5 ws jts→(∀ (j:Nat) x y,xs[j]?=some x→ys[j]?=some y→eqD n x y=some (e j)) →
    ∀ j (h1:j<its.toArray.size) (h2:j<jts.toArray.size),SeqAt.EqAt A.in1 s its.toArray[j] jts.toArray[j] (e j):=fun {vs ws its jts xs ys e} r1 r2 v1 v2 he j h1 h2=>by
   have l1:j<vs.length:=by rw [v1.length]; simpa using h1
   have l2:j<ws.length:=by rw [v2.length]; simpa using h2
   obtain ⟨dx',e1,q1⟩:=zcR r1 (List.getElem?_eq_getElem l1); obtain ⟨dy',e2,q2⟩:=zcR r2 (List.getElem?_eq_getElem l2); obtain ⟨u1,e3,q3⟩:=v1.get (List.getElem?_eq_getElem l1); obtain ⟨u2,e4,q4⟩:=v2.get (List.getElem?_eq_getElem l2)
   have z1:its.toArray[j]=u1:=by
    have:=List.getElem?_eq_some_iff.mp e3
    obtain ⟨_,z⟩:=this
    simpa using z
   have z2:jts.toArray[j]=u2:=by
    have:=List.getElem?_eq_some_iff.mp e4
    obtain ⟨_,z⟩:=this
    simpa using z
   rw [z1,z2]
   exact ih A.in1 _ _ u1 u2 dx' dy' (e j) (by show A.units+1+n<cLine; omega) q1 q2 q3 q4 (he j dx' dy' e1 e2)
  cases dx with
  | tup xs =>
   cases dy with
   | tup ys =>
    obtain ⟨a,vs,rfl,h1,h2⟩:=d1.tupI; obtain ⟨c,ws,rfl,h3,h4⟩:=d2.tupI; cases rx; cases ry
    by_cases hac:a=c
    ·subst hac
     have e:=I.tuple_inj (za3 sub h1) (za3 sub h3); subst e; rw [zdU (ziA I sub n) h2 h4 h]; exact SeqAt.EqAt.same _
    ·obtain ⟨its,r1,p1,_⟩:=I.tuple (za3 sub h1)
     obtain ⟨jts,r2,p2,_⟩:=I.tuple (za3 sub h3); obtain ⟨e,he,hb⟩:=zc9 h
     have lx:xs.length=its.length:=by rw [← zg h2,r1.length]
     have ly:ys.length=jts.length:=by rw [← zg h4,r2.length]
     have hb':b=((List.range (min its.toArray.size jts.toArray.size)).all e && its.toArray.size == jts.toArray.size):=by
      rw [hb,lx,ly]; simp
     rw [hb']
     exact SeqAt.EqAt.of_refs hac (SeqAt.RcAt.tuples (show s.heap.IsTuple a its.toArray from p1) (show s.heap.IsTuple c jts.toArray from p2) (by omega) (items h2 h4 r1 r2 he))
   | _=>exact znV h
  | lst xs =>
   cases dy with
   | lst ys =>
    obtain ⟨a,vs,rfl,h1,h2⟩:=d1.lstI; obtain ⟨c,ws,rfl,h3,h4⟩:=d2.lstI; cases rx; cases ry; unfold eqD at h
    by_cases hac:a=c
    ·subst hac
     have e:=I.list_inj (zas sub h1) (zas sub h3); subst e
     have hl:xs.length=ys.length:=by rw [← zg h2,← zg h4]
     rw [if_pos hl] at h; rw [zdU (ziA I sub n) h2 h4 h]; exact SeqAt.EqAt.same _
    ·obtain ⟨its,r1,p1,_⟩:=I.list (zas sub h1)
     obtain ⟨jts,r2,p2,_⟩:=I.list (zas sub h3)
     have lx:xs.length=its.length:=by rw [← zg h2,r1.length]
     have ly:ys.length=jts.length:=by rw [← zg h4,r2.length]
     by_cases hl:xs.length=ys.length
     ·rw [if_pos hl] at h
      obtain ⟨e,he,hb⟩:=zc9 h
      have hs:its.toArray.size=jts.toArray.size:=by simp; omega
      have hb':b=((List.range its.toArray.size).all e):=by
       rw [hb,lx,ly]
       have z:(its.length == jts.length)=true:=by simp; omega
       have z2:min its.length jts.length=its.length:=by omega
       rw [z,z2,Bool.and_true]; simp
      rw [hb']
      exact SeqAt.EqAt.of_refs hac (SeqAt.RcAt.lists p1.isList p2.isList hs (by omega) (items h2 h4 r1 r2 he))
     ·rw [if_neg hl] at h
      cases h
      exact SeqAt.EqAt.of_refs hac (SeqAt.RcAt.lists_lengths p1.isList p2.isList (by simp; omega) (by omega))
   | _=>exact znV h
  | _=>exact znV h
end
end
end PL
namespace PL
open PySem L2
section
variable {X:Cx} {K:PySem.W.Frag}
section
variable {pins:List (Addr × Obj)} {σ:St} {H Hi:Hp} {s:Shared}
theorem zix (I:L2.Inv X pins σ H s) (sub:zaW Hi H) {n:Nat} {A:Around} (hu:A.units+1+n<cLine) {vs ws:List V} {its jts:List Value} {xs ys:List D} {e:Nat→Bool} (r1:zbP X.K Hi vs xs) (r2:zbP X.K Hi ws ys) (v1:za5 vs its) (v2:za5 ws jts) (he:∀ (j:Nat) x y,xs[j]?=some x→ys[j]?=some y→eqD n x y=some (e j)) :
  ∀ j (h1:j<its.toArray.size) (h2:j<jts.toArray.size),SeqAt.EqAt A.in1 s its.toArray[j] jts.toArray[j] (e j):=fun j h1 h2=>by
 have l1:j<vs.length:=by rw [v1.length]; simpa using h1
 have l2:j<ws.length:=by rw [v2.length]; simpa using h2
 obtain ⟨dx',e1,q1⟩:=zcR r1 (List.getElem?_eq_getElem l1); obtain ⟨dy',e2,q2⟩:=zcR r2 (List.getElem?_eq_getElem l2); obtain ⟨u1,e3,q3⟩:=v1.get (List.getElem?_eq_getElem l1); obtain ⟨u2,e4,q4⟩:=v2.get (List.getElem?_eq_getElem l2)
 have z1:its.toArray[j]=u1:=by
  obtain ⟨_,z⟩:=List.getElem?_eq_some_iff.mp e3
  simpa using z
 have z2:jts.toArray[j]=u2:=by
  obtain ⟨_,z⟩:=List.getElem?_eq_some_iff.mp e4
  simpa using z
 rw [z1,z2]
 exact zrb I sub n A.in1 _ _ u1 u2 dx' dy' (e j) (by show A.units+1+n<cLine; omega) q1 q2 q3 q4 (he j dx' dy' e1 e2)
theorem ztO (I:L2.Inv X pins σ H s) (sub:zaW Hi H) {n:Nat} {A:Around} {x y:V} {u v:Value} {dx dy:D} {b:Bool} (hu:A.units+n<cLine) (d1:Den X.K Hi x dx) (d2:Den X.K Hi y dy) (rx:zbA x u) (ry:zbA y v) (h:eqD n dx dy=some b) (hn:eqS dx dy=none) :
  SeqAt.RcAt A s u v b∧SeqAt.RcNeAt A s u v (!b):=by
 cases n with
 | zero=>rw [zew,hn] at h; cases h
 | succ n =>
  cases dx with
  | tup xs =>
   cases dy with
   | tup ys =>
    obtain ⟨a,vs,rfl,h1,h2⟩:=d1.tupI; obtain ⟨c,ws,rfl,h3,h4⟩:=d2.tupI; cases rx; cases ry; obtain ⟨its,r1,p1,_⟩:=I.tuple (za3 sub h1); obtain ⟨jts,r2,p2,_⟩:=I.tuple (za3 sub h3); obtain ⟨e,he,hb⟩:=zc9 h
    have lx:xs.length=its.length:=by rw [← zg h2,r1.length]
    have ly:ys.length=jts.length:=by rw [← zg h4,r2.length]
    have hb':b=((List.range (min its.toArray.size jts.toArray.size)).all e && its.toArray.size == jts.toArray.size):=by
     rw [hb,lx,ly]; simp
    have hi:=zix (A:=A) I sub (by omega) h2 h4 r1 r2 he
    rw [hb']
    exact ⟨SeqAt.RcAt.tuples (show s.heap.IsTuple a its.toArray from p1) (show s.heap.IsTuple c jts.toArray from p2) (by omega) hi,SeqAt.RcNeAt.tuples (show s.heap.IsTuple a its.toArray from p1) (show s.heap.IsTuple c jts.toArray from p2) (by omega) hi⟩
   | _=>exact absurd (hn.symm.trans h) (fun z=>nomatch z)
  | lst xs =>
   cases dy with
   | lst ys =>
    obtain ⟨a,vs,rfl,h1,h2⟩:=d1.lstI; obtain ⟨c,ws,rfl,h3,h4⟩:=d2.lstI; cases rx; cases ry; unfold eqD at h; obtain ⟨its,r1,p1,_⟩:=I.list (zas sub h1); obtain ⟨jts,r2,p2,_⟩:=I.list (zas sub h3)
    have lx:xs.length=its.length:=by rw [← zg h2,r1.length]
    have ly:ys.length=jts.length:=by rw [← zg h4,r2.length]
    by_cases hl:xs.length=ys.length
    ·rw [if_pos hl] at h
     obtain ⟨e,he,hb⟩:=zc9 h
     have hs:its.toArray.size=jts.toArray.size:=by simp; omega
     have hb':b=((List.range its.toArray.size).all e):=by
      rw [hb,lx,ly]
      have z:(its.length == jts.length)=true:=by simp; omega
      have z2:min its.length jts.length=its.length:=by omega
      rw [z,z2,Bool.and_true]; simp
     have hi:=zix (A:=A) I sub (by omega) h2 h4 r1 r2 he
     rw [hb']
     exact ⟨SeqAt.RcAt.lists p1.isList p2.isList hs (by omega) hi,SeqAt.RcNeAt.lists p1.isList p2.isList hs (by omega) hi⟩
    ·rw [if_neg hl] at h
     cases h
     exact ⟨SeqAt.RcAt.lists_lengths p1.isList p2.isList (by simp; omega) (by omega),SeqAt.RcNeAt.lists_lengths p1.isList p2.isList (by simp; omega) (by omega)⟩
   | _=>exact absurd (hn.symm.trans h) (fun z=>nomatch z)
  | _=>exact absurd (hn.symm.trans h) (fun z=>nomatch z)
end
def zlY:R2':=fun x y Q=>∃ b,eqD 100 x y=some b∧Q (.bl b)
def zrL:R2':=fun x y Q=>∃ b,eqD 100 x y=some b∧Q (.bl (!b))
theorem ziz {n:Nat} {x y:D} {b c:Bool} (h:eqD n x y=some b) (e:eqS x y=some c):b=c:=by
 cases n with
 | zero=>rw [zew,e] at h; exact (Option.some.inj h).symm
 | succ n =>
  have z:eqD (n+1) x y=eqS x y:=by
   cases x <;> first | rfl | (cases y <;> first | rfl | (exact absurd (show (none:Option Bool)=some c from e) (fun z=>nomatch z)))
  rw [z,e] at h; exact (Option.some.inj h).symm
theorem zc8 (hu:X.A.units+100<cLine):Op2 X (compareOp .Eq) zlY:=by
 refine ⟨fun x y H Q=>∃ Hi dx dy b,zaW Hi H∧Den X.K Hi x dx∧Den X.K Hi y dy∧eqD 100 dx dy=some b∧Q (.bl b) H,?_,?_⟩
 ·intro pins s σ H x y v u Q I rx ry h
  obtain ⟨Hi,dx,dy,b,sub,d1,d2,e,q⟩:=h
  cases hn:eqS dx dy with
  | some c =>
   obtain ⟨h1,h2⟩:=znE d1 d2 hn; refine zsS pins s σ H x y v u Q I rx ry ⟨h1,?_⟩; rw [h2,← ziz e hn]; exact q
  | none=>exact (ztO I sub hu d1 d2 rx ry e hn).1 X.prog X.w X.xe _ ⟨.bl b,H,I,rfl,q⟩
 ·rintro Hi H x y dx dy Q Q2 s d1 d2 ⟨b,e,q⟩ fin
  exact ⟨Hi,dx,dy,b,s.sub,d1,d2,e,fin Hi H _ _ (Ext.refl s) (.bl b) q⟩
theorem zkx (hu:X.A.units+100<cLine):Op2 X (compareOp .NotEq) zrL:=by
 refine ⟨fun x y H Q=>∃ Hi dx dy b,zaW Hi H∧Den X.K Hi x dx∧Den X.K Hi y dy∧eqD 100 dx dy=some b∧Q (.bl (!b)) H,?_,?_⟩
 ·intro pins s σ H x y v u Q I rx ry h
  obtain ⟨Hi,dx,dy,b,sub,d1,d2,e,q⟩:=h
  cases hn:eqS dx dy with
  | some c =>
   obtain ⟨h1,h2⟩:=znE d1 d2 hn; refine zsO pins s σ H x y v u Q I rx ry ⟨h1,?_⟩; rw [h2,← ziz e hn]; exact q
  | none=>exact (ztO I sub hu d1 d2 rx ry e hn).2 X.prog X.w X.xe _ ⟨.bl (!b),H,I,rfl,q⟩
 ·rintro Hi H x y dx dy Q Q2 s d1 d2 ⟨b,e,q⟩ fin
  exact ⟨Hi,dx,dy,b,s.sub,d1,d2,e,fin Hi H _ _ (Ext.refl s) (.bl (!b)) q⟩
instance:MR2 zlY:=⟨fun _ _ _ _ h ⟨b,e,q⟩=>⟨b,e,h _ q⟩⟩
instance:MR2 zrL:=⟨fun _ _ _ _ h ⟨b,e,q⟩=>⟨b,e,h _ q⟩⟩
@[simp] theorem zth (n:Nat) (i j:Int):eqD n (.int i) (.int j)=some (decide (i=j)):=by cases n <;> rfl
@[simp] theorem zk1 (n:Nat) (i j:List Nat):eqD n (.str i) (.str j)=some (decide (i=j)):=by cases n <;> rfl
@[simp] theorem zpi (n:Nat):eqD n .non .non=some true:=by cases n <;> rfl
@[simp] theorem zrR {Q:D→Prop} (i j:Int):zlY (.int i) (.int j) Q↔Q (.bl (decide (i=j))):=by simp [zlY]
@[simp] theorem zrQ {Q:D→Prop} (i j:List Nat):zlY (.str i) (.str j) Q↔Q (.bl (decide (i=j))):=by simp [zlY]
@[simp] theorem zrK {Q:D→Prop} (i j:List Nat):zrL (.str i) (.str j) Q↔Q (.bl (!decide (i=j))):=by simp [zrL]
def plc (p:List (List Nat)):D:=.tup (p.map .str)
theorem ziy (f:D→D→Option Bool) (hf:∀ i j:List Nat,f (.str i) (.str j)=some (decide (i=j))):∀ p q:List (List Nat),eqL f (p.map .str) (q.map .str)=some (decide (p=q))
 | [],[]=>rfl
 | [],_ :: _=>by simp [eqL]
 | _ :: _,[]=>by simp [eqL]
 | a :: p,b :: q=>by
  simp only [List.map_cons,eqL,hf,ziy f hf p q]
  by_cases h1:a=b <;> by_cases h2:p=q <;> simp [h1,h2]
theorem ztg (n:Nat) (p q:List (List Nat)):eqD (n+1) (plc p) (plc q)=some (decide (p=q)):=ziy _ (fun i j=>zk1 n i j) p q
end
section
variable {K:PySem.W.Frag} {n:Nat} {W:Wd} {Hi Hi' H H':Hp} {Γ:Sts} {σ:St} {a:Addr} {o:OD}
theorem zg9 {i:Nat} (h:i<n) (e:adr n W σ i=some a):σ[i]?=some (some (.ref a)):=by
 unfold adr at e; rw [if_pos h] at e; exact zd5 e
theorem Good.freeze (g:Good K n W Hi Γ σ H) {i:Nat} (hi:i<n) (e:Γ[i]?=some (.own o)):∃ Hi',zaW Hi Hi'∧Good K n W Hi' (Γ.set i (.val o.toD)) σ H:=by
 obtain ⟨a,h1,h2,h3,h4⟩:=g.own i o e; obtain ⟨u,hu⟩:=h4.there
 have hil:i<Γ.length:=(List.getElem?_eq_some_iff.mp e).1
 have g1:Good K n W Hi (Γ.set i .emp) σ H:=g.weak fun j s hs=>by
  by_cases hj:j=i
  ·subst hj
   rw [List.getElem?_set_self hil] at hs; exact .inl (Option.some.inj hs).symm
  ·rw [List.getElem?_set_ne (fun z=>hj z.symm)] at hs
   exact .inr hs
 have g2:=g1.freezeA h2 (h3 hi) ⟨fun j o' hj z=>by
  by_cases hji:j=i
  ·subst hji
   rw [List.getElem?_set_self hil] at hj; cases hj
  ·rw [List.getElem?_set_ne (fun z=>hji z.symm)] at hj
   exact hji (g.apart j i _ _ a hj e z h1),fun j d xs hj=>by
  by_cases hji:j=i
  ·subst hji
   rw [List.getElem?_set_self hil] at hj; cases hj
  ·rw [List.getElem?_set_ne (fun z=>hji z.symm)] at hj
   exact (g.bk j d a xs hj).ne i _ e h1⟩ hu
 refine ⟨upd Hi a u,zaJ h2 u,?_⟩; have hv:=zg9 hi h1; have g3:=g2.set (i:=i) (v:=.ref a) (d:=o.toD) hi (h4.den h2 hu)
 have es:σ.set i (some (.ref a))=σ:=by
  apply List.ext_getElem?
  intro j
  by_cases hj:j=i
  ·subst hj
   rw [List.getElem?_set_self (by rw [g.len]; exact hi),hv]
  ·rw [List.getElem?_set_ne (fun z=>hj z.symm)]
 rw [es,List.set_set] at g3; exact g3
end
section
variable {X:Cx}
def zl (n i:Nat) (t:TS'):TS':=fun N Γ=>i<n∧∃ o,Γ[i]?=some (.own o)∧t N (Γ.set i (.val o.toD))
theorem zfj (i:Nat) {sts:List Stmt} {t:TS'} (h:PSs' X sts t):PSs' X sts (zl X.N.length i t):=by
 refine ⟨PSs.weak h.h ?_⟩
 rintro N2 σ H ⟨W,Hi,Γ,N,g,⟨hi,o,e,q⟩,l⟩
 obtain ⟨Hi',s1,g1⟩:=g.freeze hi e; exact ⟨W,Hi',_,N,g1,q,l.mono s1⟩
def zaq (i:Nat) (te:TE'):TS':=fun N Γ=>(∃ ds0,Γ[i]?=some (.own (.lst ds0)))∧te Γ fun d Γ1=>∃ ds,Γ1[i]?=some (.own (.lst ds))∧ds.length<sizeLine∧N.nx (Γ1.set i (.own (.lst (ds ++ [d]))))
theorem zbX (i:Nat) {x:Str} {e:Expr} {te:TE'} {pos p apos cpos:Pos} (he:PE' X e te) (hN:X.N[i]?=some x:=by rfl) (hv:Vis X.env.scope x:=by first | exact Or.inl rfl | exact Or.inr (Or.inl rfl) | exact Or.inr (Or.inr rfl)) (hd:(x == ("__debug__":Str))=false:=by decide)
  (hcd:(x == ("__classdict__":Str))=false:=by decide) (hst:zeT e=false:=by rfl)
  (hbase:attributeBase (.Name x p) "append" X.env (eval (.Name x p) X.env)=eval (.Name x p) X.env:=by rfl) (hline:(apos.endLine == cpos.line)=true:=by rfl)
  (hs:swapsWith (.Call (.Attribute (.Name x p) "append" apos) [e] [] cpos) none pos.line X.env=pure false:=by rfl) :
  PS' X (.Expr (.Call (.Attribute (.Name x p) "append" apos) [e] [] cpos) pos) (zaq i te):=by
 have pl:zch [e]=true:=by unfold zch; rw [hst]; rfl
 have hfew:((backTo cpos (starEach [e] X.env)).all (fun x=>!x.1) && (backToKw cpos (keywordEach [] X.env)).all (fun x=>x.1.isSome)
   && decide ([e].length+([]:List Keyword).length+(if ([]:List Keyword).isEmpty then 0 else 1)<30))=true:=by
  rw [zaP hst]; rfl
 have base:=zeD (zoA PySem.F.plainAttrs_list PySem.F.slot_list_append PySem.F.type_list_append (zdP (X:=X)) (zcq (i:=i) (pos:=p) hN hv hd hcd) (zeJ he.h zii (zaP hst)) hbase hfew hline (zaP hst) rfl) hs; refine ⟨PS.weak base ?_⟩
 rintro N2 σ H ⟨W,Hi,Γ,N,g,⟨⟨ds0,e0⟩,q⟩,l⟩
 have hi:i<X.N.length:=(List.getElem?_eq_some_iff.mp hN).1
 obtain ⟨a,h1,h2,h3,vs0,h4,h5⟩:=g.own i _ e0; refine ⟨.ref a,zg9 hi h1,.inl ⟨rfl,vs0,SqL.of h4⟩,W,Hi,Γ,_,g,q,?_⟩
 rintro v H1 ⟨Hi1,d,Γ1,s1,g1,den,ds,e1,hl,q1⟩
 obtain ⟨a',k1,k2,k3,vs,k4,k5⟩:=g1.own i _ e1; rw [h1] at k1; cases k1
 refine ⟨a,vs,v,rfl,rfl,k4,by rw [zg k5]; exact hl,?_⟩
 exact l.nx σ _ Hi1 _ s1 (g1.put (o:=.lst (ds ++ [d])) e1 h1 ⟨vs ++ [v],zh,zbe k5 (.cons den .nil)⟩) q1
instance {i:Nat} {te:TE'} [ME te]:MS (zaq i te):=⟨fun N N' Γ h ⟨a,q⟩=>⟨a,ME.mono (t:=te) _ _ _ (fun _ _ ⟨ds,e,l,z⟩=>⟨ds,e,l,h.nx _ z⟩) q⟩⟩
end
end PL
namespace PL
open PySem L2
inductive Imm:D→Prop where
 | non:Imm .non
 | bl (b:Bool):Imm (.bl b)
 | int (i:Int):Imm (.int i)
 | str (l:List Nat):Imm (.str l)
 | ty (n:String):Imm (.ty n)
 | cls (C:Addr):Imm (.cls C)
 | tup {ds:List D} (h:∀ d,d ∈ ds→Imm d):Imm (.tup ds)
theorem Imm.den {K:PySem.W.Frag} {H H':Hp} {v:V} {d:D} (im:Imm d) (h:Den K H v d) (e:∀ a xs,(H a=some (.tup xs)→H' a=some (.tup xs))∧∀ o,H a=some (.frz o (.tup xs))→H' a=some (.frz o (.tup xs))):Den K H' v d:=by
 induction h with
 | non=>exact .non
 | bl b=>exact .bl b
 | int i=>exact .int i
 | str l=>exact .str l
 | ty n=>exact .ty n
 | cls C=>exact .cls C
 | tup h l r ih =>
  cases im with
  | tup hi =>
   exact .tup ((e _ _).1 h) l fun j v d h1 h2=>ih j v d h1 h2 (hi d (List.mem_of_getElem? h2))
 | _=>cases im
def zbp:Slot→Slot
 | .own o=>.val o.toD
 | .val d=>.val d
 | .bk d _ xs=>.val (d xs.toD)
 | _=>.emp
section
variable {K:PySem.W.Frag} {n:Nat} {W:Wd} {Hi Hi' H H':Hp} {Γ:Sts} {σ:St} {a:Addr} {o:OD}
def zed (n:Nat) (W:Wd) (Γ:Sts) (σ:St) (b:Addr):Prop:=(∃ (i:Nat) (o:OD),i<n∧Γ[i]?=some (.own o)∧adr n W σ i=some b)∨∃ (i:Nat) (d:D→D) (xs:OD),Γ[i]?=some (.bk d b xs)
open Classical in
noncomputable def zck (n:Nat) (W:Wd) (Γ:Sts) (σ:St) (Hi H:Hp):Hp:=fun b=>if zed n W Γ σ b then H b else Hi b
open Classical in
noncomputable def zcT (n:Nat) (W:Wd) (Γ:Sts) (σ:St) (Hb:Hp):Hp:=fun b=>if zed n W Γ σ b then none else Hb b
theorem zed.hi (g:Good K n W Hi Γ σ H) {b:Addr} (h:zed n W Γ σ b):Hi b=none∧∃ u,H b=some u∧(∀ xs,u≠.tup xs)∧∀ o xs,u≠.frz o xs:=by
 have key:∃ o,Hi b=none∧zbN K Hi H b o:=by
  rcases h with ⟨i,o,hi,e,ad⟩ | ⟨i,d,xs,e⟩
  ·obtain ⟨a,h1,h2,h3,h4⟩:=g.own i o e
   rw [ad] at h1; cases h1; exact ⟨o,h2,h4⟩
  ·exact ⟨xs,(g.bk i d b xs e).hi,(g.bk i d b xs e).at_⟩
 obtain ⟨o,h2,h4⟩:=key; refine ⟨h2,?_⟩
 cases o with
 | lst ds=>obtain ⟨vs,q,_⟩:=h4; exact ⟨_,q,⟨fun _ z=>(by cases z),fun _ _ z=>(by cases z)⟩⟩
 | dic ds=>obtain ⟨kvs,q,_⟩:=h4; exact ⟨_,q,⟨fun _ z=>(by cases z),fun _ _ z=>(by cases z)⟩⟩
 | dit ds=>obtain ⟨kvs,ep,q,_⟩:=h4; exact ⟨_,q,⟨fun _ z=>(by cases z),fun _ _ z=>(by cases z)⟩⟩
 | obj C ds=>obtain ⟨dx,fs,q,_⟩:=h4; exact ⟨_,q,⟨fun _ z=>(by cases z),fun _ _ z=>(by cases z)⟩⟩
def zab (n:Nat) (Γ:Sts):Sts:=(Γ.take n).map zbp
theorem Good.look (g:Good K n W Hi Γ σ H):zaW Hi (zck n W Γ σ Hi H)∧Good K n ⟨H,zck n W Γ σ Hi H,[]⟩ (zck n W Γ σ Hi H) (zab n Γ) σ H:=by
 have s1:zaW Hi (zck n W Γ σ Hi H):=fun b u e=>by
  unfold zck
  rw [if_neg (fun z=>by rw [(zed.hi g z).1] at e; cases e)]
  exact e
 have inv:∀ (i:Nat) (sl:Slot),(zab n Γ)[i]?=some sl→∃ s0,Γ[i]?=some s0∧i<n∧sl=zbp s0:=fun i sl e=>by
  unfold zab at e; rw [List.getElem?_map] at e
  cases hj:(Γ.take n)[i]? with
  | none=>rw [hj] at e; cases e
  | some s0 =>
   rw [hj] at e; rw [List.getElem?_take] at hj; split at hj
   ·exact ⟨s0,hj,by assumption,(Option.some.inj e).symm⟩
   ·cases hj
 refine ⟨s1,g.len,⟨fun b u e=>?_,fun b xs e=>s1 _ _ (g.fz.tups b xs e)⟩,fun b u e _=>e,fun b u e=>⟨u,e⟩,fun b u e=>rfl,fun i d e=>?_,fun i o e=>?_,fun i j o o' a e=>?_,fun i d b xs e=>?_⟩
 ·unfold zck at e
  split at e
  ·exact e
  ·exact g.sub b u e
 ·obtain ⟨s0,hj,hi,hs⟩:=inv i _ e
  cases s0 with
  | val d' =>
   cases hs; obtain ⟨v,h1,h2⟩:=g.val i d hj; exact ⟨v,h1,h2.mono s1⟩
  | own o =>
   cases hs; obtain ⟨a,h1,h2,h3,h4⟩:=g.own i o hj; refine ⟨.ref a,zg9 hi h1,?_⟩
   have hO:zed n W Γ σ a:=.inl ⟨i,o,hi,hj,h1⟩
   have hl:zck n W Γ σ Hi H a=H a:=by unfold zck; rw [if_pos hO]
   cases o with
   | lst ds=>obtain ⟨vs,q,r⟩:=h4; exact Den.mkL (SqL.of (hl.trans q)) (r.mono s1)
   | dic ds=>obtain ⟨kvs,q,r⟩:=h4; exact Den.mkDK (.inl (hl.trans q)) (r.mono s1)
   | dit ds=>obtain ⟨kvs,ep,q,r⟩:=h4; exact Den.mkDT (hl.trans q) (r.mono s1)
   | obj C ds=>obtain ⟨dx,fs,q,r⟩:=h4; exact Den.mkO (hl.trans q) (r.mono s1)
  | emp=>cases hs
  | bk d' b xs =>
   cases hs
   obtain ⟨⟨v,h1,h2⟩,hol,_,_,h4,_⟩:=g.bk i d' b xs hj
   have hl:zck n W Γ σ Hi H b=H b:=by unfold zck; rw [if_pos (.inr ⟨i,d',xs,hj⟩)]
   refine ⟨v,h1,hol b _ v xs ?_ (h2.mono s1)⟩
   cases xs with
   | lst ds=>obtain ⟨vs,q,r⟩:=h4; exact Den.mkL (SqL.of (hl.trans q)) (r.mono s1)
   | dic ds=>obtain ⟨kvs,q,r⟩:=h4; exact Den.mkDK (.inl (hl.trans q)) (r.mono s1)
   | dit ds=>obtain ⟨kvs,ep,q,r⟩:=h4; exact Den.mkDT (hl.trans q) (r.mono s1)
   | obj C ds=>obtain ⟨dx,fs,q,r⟩:=h4; exact Den.mkO (hl.trans q) (r.mono s1)
 all_goals
  obtain ⟨s0,hj,hi,hs⟩:=inv i _ e
  cases s0 <;> cases hs
theorem Good.unlook (g:Good K n W Hi Γ σ H) {Hb:Hp} {Γ':Sts} (sb:zaW (zck n W Γ σ Hi H) Hb) (g':Good K n ⟨H,zck n W Γ σ Hi H,[]⟩ Hb Γ' σ H') :
  Ext Hi H (zcT n W Γ σ Hb) H'∧Good K n W (zcT n W Γ σ Hb) Γ σ H'∧∀ v d,Imm d→Den K Hb v d→Den K (zcT n W Γ σ Hb) v d:=by
 have kp:∀ b u,H b=some u→H' b=some u:=fun b u e=>g'.keep b u e (by simp)
 have s1:zaW Hi (zcT n W Γ σ Hb):=fun b u e=>by
  have no:¬ zed n W Γ σ b:=fun z=>by rw [(zed.hi g z).1] at e; cases e
  unfold zcT; rw [if_neg no]; refine sb b u ?_; unfold zck; rw [if_neg no]; exact e
 have ex:Ext Hi H (zcT n W Γ σ Hb) H':=by
  refine ⟨s1,kp,⟨fun b u e=>?_,fun b xs e=>?_⟩,fun b u e=>?_⟩
  ·unfold zcT at e
   split at e
   ·cases e
   ·exact g'.sub b u e
  ·have z:=g'.fz.tups b xs e
   have no:¬ zed n W Γ σ b:=fun z=>by
    obtain ⟨_,w,hw,w1,_⟩:=zed.hi g z; rw [kp b w hw] at e; cases e; exact w1 xs rfl
   unfold zcT; rw [if_neg no]; exact z
  ·unfold zcT
   split
   ·rename_i z
    exact (zed.hi g z).1.symm
   ·rename_i z
    rw [g'.fro b u e]
    show zck n W Γ σ Hi H b=Hi b
    unfold zck; rw [if_neg z]
 refine ⟨ex,g.ext ex,fun v d im den=>im.den den fun b xs=>?_⟩
 have no:∀ u,Hb b=some u→((∃ xs,u=.tup xs)∨∃ o xs,u=.frz o xs)→¬ zed n W Γ σ b:=fun u e hu z=>by
  obtain ⟨_,w,hw,w1,w2⟩:=zed.hi g z; have e2:=g'.sub b u e; rw [kp b w hw] at e2; cases e2
  rcases hu with ⟨xs,hu⟩ | ⟨o,xs,hu⟩
  ·exact w1 xs hu
  ·exact w2 o xs hu
 constructor
 ·intro e
  unfold zcT; rw [if_neg (no _ e (.inl ⟨_,rfl⟩))]; exact e
 ·intro o e
  unfold zcT; rw [if_neg (no _ e (.inr ⟨_,_,rfl⟩))]; exact e
end
section
variable {X:Cx}
def zao (n:Nat) (t:TE'):TE':=fun Γ Q=>t (zab n Γ) fun d _=>Imm d∧Q d Γ
def zx (n:Nat) (t:TT'):TT':=fun Γ Q=>t (zab n Γ) fun b _=>Q b Γ
theorem zhv {e:Expr} {t:TE'} (h:PE' X e t):PE' X e (zao X.N.length t):=by
 refine ⟨PE.weak h.h ?_⟩
 rintro σ H Q ⟨W,Hi,Γ,Q',g,q,fin⟩
 obtain ⟨s1,g1⟩:=g.look; refine ⟨_,_,_,_,g1,q,?_⟩
 rintro v H' ⟨Hb,d,Γ',sb,g',den,im,q'⟩
 obtain ⟨s2,g2,hd⟩:=g.unlook sb g'; exact fin v H' ⟨_,d,Γ,s2.hi,g2,hd v d im den,q'⟩
theorem zc5 {e:Expr} {t:TT'} (h:PT' X e t):PT' X e (zx X.N.length t):=by
 refine ⟨PT.weak h.h ?_⟩
 rintro σ H Q ⟨W,Hi,Γ,Q',g,q,fin⟩
 obtain ⟨s1,g1⟩:=g.look; refine ⟨_,_,_,_,g1,q,?_⟩; intro b H' Hb Γ' sb g' q'; obtain ⟨s2,g2,hd⟩:=g.unlook sb g'; exact fin b H' _ Γ s2.hi g2 q'
instance {n:Nat} {t:TE'} [ME t]:ME (zao n t):=⟨fun Γ _ _ h q=>ME.mono (t:=t) _ _ _ (fun _ _ ⟨a,z⟩=>⟨a,h _ _ z⟩) q⟩
instance {n:Nat} {t:TT'} [MT t]:MT (zx n t):=⟨fun Γ _ _ h q=>MT.mono (t:=t) _ _ _ (fun _ _ z=>h _ _ z) q⟩
end
end PL
namespace L2
open PySem PySem.Spec PyProof.Rows
section
variable {P:Program} {w:World} {H:Hp} {h:Heap} {a:Addr} {kvs:List (List Key × V)} {ep:Nat}
theorem zek (ok:HOk P w H h) (e:H a=some (.dE kvs ep)):kvs.length≤sizeLine∧(a == sysModules)=false ∧
  ∃ xs,KT H kvs xs∧h.DictOfH (tupleKind (zbf P w)) a xs∧∃ o es,h.get? a=some o∧o.ExactDict∧o.data=.dict es ep∧es.toList=xs.map (entryOfKey (tupleKind (zbf P w))):=by
 obtain ⟨z,y,xs,r,o,es,h1,h2,h3,h4,h5⟩:=(show zbG P w H h a (.dE kvs ep) from ok a _ e)
 refine ⟨z,y,xs,r,⟨o,es,ep,h1,h2,h3,h4,fun x hx=>?_,h5⟩,o,es,h1,h2,h3,h4⟩
 obtain ⟨j,hj⟩:=List.getElem?_of_mem hx
 have hl:j<kvs.length:=by
  rw [Paired.length r]; exact (List.getElem?_eq_some_iff.mp hj).1
 have q:=PL.paired_get j r (List.getElem?_eq_getElem hl) hj
 exact zdk ok (by rw [← q.1]; exact q.2.1)
end
def zlC (H:Hp) (a:Addr) (y:V) (r:Option V):Prop:=∃ kvs ep k b,H a=some (.dE kvs ep)∧y=.ref b∧H b=some (.tup (k.map kV))∧r=zfs kvs k
section
variable {X:Cx} {pins:List (Addr × Obj)} {σ:St} {H:Hp} {s:Shared} {a:Addr} {y v:V} {u r:Value} {o:Option V} {A:Around} {E:Value→Shared→Prop}
theorem zm0 (I:Inv X pins σ H s) (g:zlC H a y o):s.TypeIs (.ref a) "dict":=by
 obtain ⟨kvs,ep,k,b,e,_⟩:=g; obtain ⟨_,_,xs,_,dd,_⟩:=zek I.hok e; exact dd.typeIs
theorem zk6 {Q:Value→Shared→Prop} (hu:A.units+1<cLine) (I:Inv X pins σ H s) (g:zlC H a y (some v)) (ry:zbA y u) (h:∀ w' s',Inv X pins σ H s'→zbA v w'→Q w' s') :
  wpAny (model X.prog X.w) A (getItem (.ref a) u) Q E s:=by
 obtain ⟨kvs,ep,k,b,e,ey,eb,l⟩:=g; subst ey
 cases (show u=Value.ref b from ry)
 obtain ⟨z,hd,xs,rel,dd,_⟩:=zek I.hok e
 obtain ⟨w',hw,rw'⟩:=zf2.some_of (v:=v) (o:=(atKey xs k).map (·.2)) (by rw [l]; exact rel.val k)
 obtain ⟨p,hp,hp2⟩:=Option.map_eq_some_iff.mp hw; refine wpAny_getItem_heap (tupleKind_room_in1 hu) (zdk I.hok eb) dd hp ?_; rw [hp2]; exact h w' _ (I.tok _) rw'
theorem zuB {Q:Value→Shared→Prop} (hu:A.units+1<cLine) (I:Inv X pins σ H s) (g:zlC H a y o) (ry:zbA y u) (h:∀ s',Inv X pins σ H s'→Q (.bool o.isSome) s') :
  wpAny (model X.prog X.w) A (compareOp .In u (.ref a)) Q E s:=by
 obtain ⟨kvs,ep,k,b,e,ey,eb,l⟩:=g; subst ey
 cases (show u=Value.ref b from ry)
 obtain ⟨z,hd,xs,rel,dd,_⟩:=zek I.hok e; refine wpAny_in_heap (tupleKind_room_in1 hu) (zdk I.hok eb) hd dd ?_; have q:=(rel.val k).isSome_eq; rw [Option.isSome_map] at q; rw [← q,← l]; exact h _ (I.tok _)
theorem zpj {Q:Value→Shared→Prop} (hu:A.units+1<cLine) (I:Inv X pins σ H s) (g:zlC H a y o) (ry:zbA y u) (h:∀ s',Inv X pins σ H s'→Q (.bool (!o.isSome)) s') :
  wpAny (model X.prog X.w) A (compareOp .NotIn u (.ref a)) Q E s:=by
 obtain ⟨kvs,ep,k,b,e,ey,eb,l⟩:=g; subst ey
 cases (show u=Value.ref b from ry)
 obtain ⟨z,hd,xs,rel,dd,_⟩:=zek I.hok e; refine wpAny_notIn_heap (tupleKind_room_in1 hu) (zdk I.hok eb) hd dd ?_; have q:=(rel.val k).isSome_eq; rw [Option.isSome_map] at q; rw [← q,← l]; exact h _ (I.tok _)
theorem zk5 {kvs:List (List Key × V)} {ep:Nat} {k:List Key} {b:Addr} {Q:Unit→Shared→Prop} (hu:A.units+1<cLine) (I:Inv X pins σ H s) (e:H a=some (.dE kvs ep)) (eb:H b=some (.tup (k.map kV))) (l:kvs.length<sizeLine) (rv:zbA v r)
  (h:∀ ep' s',Inv X pins σ (upd H a (.dE (zgk kvs k v) ep')) s'→Q () s'):wpAny (model X.prog X.w) A (setItem (.ref a) (.ref b) r) Q E s:=by
 obtain ⟨z,hd,xs,rel,dd,_⟩:=zek I.hok e
 have hz:xs.length≤sizeLine:=by rw [← Paired.length rel]; exact z
 have hl:(zgk kvs k v).length≤sizeLine:=by have:=zdy kvs k v; omega
 refine wpAny_setItem_heap (hsz:=hz) (tupleKind_room_in1 hu) (zdk I.hok eb) dd fun h' dd' hs=>?_
 obtain ⟨q,es,ep',hq,h2,h3,h4,_,h5⟩:=dd'
 refine h ep' _ (zfW I (by rw [e]; exact True.intro) hs ⟨q,hq⟩ ⟨hl,hd,_,(rel.put k eb rv).keeps fun c ys ec=>?_,q,es,hq,h2,h3,h4,h5⟩)
 rw [zo (zoR ec e (fun z=>nomatch z))]
 exact ec
end
section
variable {X:Cx}
theorem zkR (hu:X.A.units+1<cLine):IxR X (fun x y H Q=>∃ a v,x=.ref a∧zlC H a y (some v)∧Q v H):=by
 intro value slice pins s σ H x y v u Q I rx ry h hs; obtain ⟨a,w,rfl,g,q⟩:=h; cases rx
 exact tail_any (zm0 I g) PySem.F.slot_dict_getitem.lookup (zk6 hu I g ry fun w' s3 I3 rw'=>⟨w,H,I3,rw',q⟩) hs
theorem zqF (hu:X.A.units+1<cLine):OpR X (compareOp .In) (fun x y H Q=>∃ a o,y=.ref a∧zlC H a x o∧Q (.bl o.isSome) H):=by
 intro pins s σ H x y v u Q I rx ry h; obtain ⟨a,o,rfl,g,q⟩:=h; cases ry
 exact zuB hu I g rx fun s' I'=>⟨.bl _,H,I',rfl,q⟩
theorem zkt (hu:X.A.units+1<cLine):OpR X (compareOp .NotIn) (fun x y H Q=>∃ a o,y=.ref a∧zlC H a x o∧Q (.bl (!o.isSome)) H):=by
 intro pins s σ H x y v u Q I rx ry h; obtain ⟨a,o,rfl,g,q⟩:=h; cases ry
 exact zpj hu I g rx fun s' I'=>⟨.bl _,H,I',rfl,q⟩
def zss (td ty tv:TE):TS:=fun D σ H=>tv σ H fun v H1=>td σ H1 fun x H2=>ty σ H2 fun y H3=>∃ a kvs ep k b,x=.ref a∧H3 a=some (.dE kvs ep)∧y=.ref b∧H3 b=some (.tup (k.map kV))∧kvs.length<sizeLine∧∀ ep',D.nx σ (upd H3 a (.dE (zgk kvs k v) ep'))
theorem zog {o i value:Expr} {pos pos':Pos} {td ty tv:TE} (hu:X.A.units+1<cLine) (ho:PE X o td) (hi:PE X i ty) (hv:PE X value tv) (hs:swapsWith value (some (.Subscript o i pos')) pos.line X.env=pure false) :
  PS X (.Assign [.Subscript o i pos'] value pos) (zss td ty tv):=by
 intro pins s σ H D I h
 refine wpAny_Assign_Subscript (thn (hv pins s σ H _ I h) fun r s1 ⟨v,H1,I1,rv,q1⟩=>thn (ho pins s1 σ H1 _ I1 q1) fun u s2 ⟨x,H2,I2,rx,q2⟩=>thn (hi pins s2 σ H2 _ I2 q2) fun iv s3 ⟨y,H3,I3,ry,a,kvs,ep,k,b,ex,e,ey,eb,l,q3⟩=>?_) hs
 subst ex ey
 obtain rfl:u=Value.ref a:=rx
 obtain rfl:iv=Value.ref b:=ry
 exact zk5 hu I3 e eb l rv fun ep' s4 I4=>⟨σ,_,I4,q3 ep'⟩
theorem zm4 {P:Program} {w:World} {H:Hp} (h:Heap) (hb:sysModules<h.objs.size):zbG P w H (h.push { cls:=.type "dict",data:=.dict #[] }) h.objs.size (.dE [] 0) :=
 ⟨Nat.zero_le _,beq_eq_false_iff_ne.mpr (Ne.symm (Nat.ne_of_lt hb)),[],.nil,_,#[],Heap.get?_push_size _ rfl,⟨rfl,rfl,rfl⟩,rfl,rfl,List.nodup_nil⟩
def zsl:TE:=fun _ H Q=>∀ p,H p=none→Q (.ref p) (upd H p (.dE [] 0))
theorem zox {pos:Pos}:PE X (.Dict [] [] pos) zsl:=fun pins s σ H Q I h =>
 wpAny_Dict_empty ⟨.ref s.heap.objs.size,_,I.laid (a:=s.heap.objs.size) (o:=.dE [] 0) (t':=s.toks) (fun _ _ q=>Heap.get?_push_of_some _ q) (Nat.le_refl _) (zm4 s.heap I.big),rfl,h _ (I.hok.fresh (Nat.le_refl _))⟩
end
end L2
namespace PL
open PySem L2
section
variable {K:PySem.W.Frag} {H Hi:Hp}
theorem zpk {v:V}:∀ {k:Key},Den K H v (zdA k)→v=kV k
 | .inl i,h=>h.intI
 | .inr x,h=>h.strI
theorem ziD:∀ {vs:List V} {ks:List Key},zbP K H vs (ks.map zdA)→vs=ks.map kV
 | [],[],_=>rfl
 | [],_ :: _,h=>nomatch h
 | _ :: _,[],h=>nomatch h
 | v :: vs,k :: ks,.cons r t=>by rw [List.map_cons,← zpk r,← ziD t]
theorem zmP {a b:Key} (h:zdA a=zdA b):a=b:=by
 cases a with
 | inl i=>cases b with
  | inl j=>injection h with h; rw [h]
  | inr y=>cases h
 | inr x=>cases b with
  | inl j=>cases h
  | inr y =>
   injection h with h
   obtain ⟨⟨x⟩⟩:=x
   obtain ⟨⟨y⟩⟩:=y
   exact congrArg (fun l=>Sum.inr (Str.mk ⟨l⟩)) h
theorem zdT:∀ {a b:List Key},a.map zdA=b.map zdA→a=b
 | [],[],_=>rfl
 | [],_ :: _,h=>nomatch h
 | _ :: _,[],h=>nomatch h
 | x :: a,y :: b,h=>by
  injection h with h1 h2
  rw [zmP h1,zdT h2]
theorem zex {v:V} {ks:List Key} (h:Den K Hi v (.tup (ks.map zdA))):∃ b,v=.ref b∧Hi b=some (.tup (ks.map kV)):=by
 obtain ⟨a,vs,rfl,h1,h2⟩:=h.tupJ; rw [ziD h2] at h1; exact ⟨a,rfl,h1⟩
open Classical in
noncomputable def zdB (ds:List (D × D)) (k:D):Option D:=(ds.find? fun p=>decide (p.1=k)).map (·.2)
open Classical in
noncomputable def zpy (ds:List (D × D)) (k v:D):List (D × D):=if (zdB ds k).isSome=true then ds.map (fun p=>if p.1=k then (p.1,v) else p) else ds ++ [(k,v)]
theorem zgS {p:D × D} {r:List (D × D)} {k:D} (e:p.1=k):zdB (p :: r) k=some p.2:=by simp [zdB,List.find?_cons,e]
theorem zgT {p:D × D} {r:List (D × D)} {k:D} (e:¬ p.1=k):zdB (p :: r) k=zdB r k:=by simp [zdB,List.find?_cons,e]
inductive OptD (K:PySem.W.Frag) (H:Hp):Option V→Option D→Prop where
 | none:OptD K H none none
 | some {v:V} {d:D} (h:Den K H v d):OptD K H (some v) (some d)
theorem zmW {kvs:List (List Key × V)} {ds:List (D × D)} (r:ziJ K H kvs ds) (ks:List Key):OptD K H (zfs kvs ks) (zdB ds (.tup (ks.map zdA))):=by
 induction r with
 | nil=>exact .none
 | @cons p q ps qs h t ih =>
  by_cases e:p.1=ks
  ·rw [zel e,zgS (h.1.trans (by rw [e]))]
   exact .some h.2
  ·rw [zem e,zgT (fun z=>e (zdT (by
    have:=h.1.symm.trans z
    injection this)))]
   exact ih
theorem OptD.isSome {o:Option V} {d:Option D} (h:OptD K H o d):o.isSome=d.isSome:=by cases h <;> rfl
open Classical in
theorem zsu {ks:List Key} {v:V} {d:D} (h:Den K H v d) {kvs:List (List Key × V)} {ds:List (D × D)} (r:ziJ K H kvs ds):ziJ K H (kvs.map fun kv=>if kv.1=ks then (kv.1,v) else kv) (ds.map fun p=>if p.1=.tup (ks.map zdA) then (p.1,d) else p):=by
 induction r with
 | nil=>exact .nil
 | @cons p q ps qs hh t ih =>
  rw [List.map_cons,List.map_cons]; refine .cons ?_ ih
  by_cases e:p.1=ks
  ·rw [if_pos e,if_pos (hh.1.trans (by rw [e]))]
   exact ⟨hh.1,h⟩
  ·rw [if_neg e,if_neg (fun z=>e (zdT (by
    have:=hh.1.symm.trans z
    injection this)))]
   exact hh
theorem zut {kvs:List (List Key × V)} {ds:List (D × D)} (r:ziJ K H kvs ds) (ks:List Key) {v:V} {d:D} (h:Den K H v d):ziJ K H (zgk kvs ks v) (zpy ds (.tup (ks.map zdA)) d):=by
 unfold zgk zpy; rw [zfr,(zmW r ks).isSome]; split
 ·exact zsu h r
 ·exact zbe r (.cons ⟨rfl,h⟩ .nil)
end
section
variable {X:Cx}
def zho:R2':=fun x y Q=>∃ (ds:List (D × D)) (ks:List Key) (v:D),x=.dit ds∧y=.tup (ks.map zdA)∧zdB ds y=some v∧Q v
def zne (neg:Bool):R2':=fun x y Q=>∃ (ks:List Key) (ds:List (D × D)),x=.tup (ks.map zdA)∧y=.dit ds∧Q (.bl (if neg then !(zdB ds x).isSome else (zdB ds x).isSome))
theorem zm2 {K:PySem.W.Frag} {Hi H:Hp} {x y:V} {ds:List (D × D)} {ks:List Key} (s:Fz Hi H) (d1:Den K Hi x (.dit ds)) (d2:Den K Hi y (.tup (ks.map zdA))):∃ a o,x=.ref a∧zlC H a y o∧OptD K Hi o (zdB ds (.tup (ks.map zdA))):=by
 obtain ⟨a,kvs,ep,rfl,h1,h2⟩:=d1.ditI; obtain ⟨b,rfl,h3⟩:=zex d2; exact ⟨a,_,rfl,⟨kvs,ep,ks,b,s.sub _ _ h1,rfl,s.sub _ _ h3,rfl⟩,zmW h2 ks⟩
theorem zs7 (hu:X.A.units+1<cLine):Ixs X zho:=⟨_,zkR hu,by
 rintro Hi H x y dx dy Q Q2 s d1 d2 ⟨ds,ks,v,rfl,rfl,e,q⟩ fin
 obtain ⟨a,o,rfl,g,r⟩:=zm2 s d1 d2; rw [e] at r
 cases r with
 | some h=>exact ⟨a,_,rfl,g,fin Hi H _ _ (Ext.refl s) h q⟩⟩
theorem zsX (hu:X.A.units+1<cLine):Op2 X (compareOp .In) (zne false):=⟨_,zqF hu,by
 rintro Hi H x y dx dy Q Q2 s d1 d2 ⟨ks,ds,rfl,rfl,q⟩ fin
 obtain ⟨a,o,rfl,g,r⟩:=zm2 s d2 d1; refine ⟨a,o,rfl,g,?_⟩; rw [r.isSome]; exact fin Hi H _ _ (Ext.refl s) (.bl _) q⟩
theorem zml (hu:X.A.units+1<cLine):Op2 X (compareOp .NotIn) (zne true):=⟨_,zkt hu,by
 rintro Hi H x y dx dy Q Q2 s d1 d2 ⟨ks,ds,rfl,rfl,q⟩ fin
 obtain ⟨a,o,rfl,g,r⟩:=zm2 s d2 d1; refine ⟨a,o,rfl,g,?_⟩; rw [r.isSome]; exact fin Hi H _ _ (Ext.refl s) (.bl _) q⟩
end
end PL
namespace PySem
section
variable {prog:Program} {w:World} {A:Around} {E:Value→Shared→Prop} {s:Shared} {dd kk:Addr} {ob:Obj} {ens:Array DictEntry} {tick nn:Nat}
theorem zcE (hob:s.heap.get? dd=some ob) (hex:ob.ExactDict):s.TypeIs (.ref dd) "dict":=⟨ob,hob,hex.1⟩
theorem zgD {Q:Value→Shared→Prop} (hsys:(dd == sysModules)=false) (hob:s.heap.get? dd=some ob) (hex:ob.ExactDict) (hdt:ob.data=.dict ens tick)
  (fin:Q (.ref s.heap.objs.size) { s with heap:=s.heap.push { cls:=.type "dict_keyiterator",data:=.fields #[.ref dd,.int 0 0,.int ens.size 0,.int tick 0] } }) :
  wpAny (model prog w) A (pyIter (.ref dd)) Q E s:=by
 have ty:=zcE hob hex; refine wpAny_pyIter_slot ty F.slot_dict_iter (wpAny_call_entry F.slot_dict_iter ty F.entry_dict_iter ?_ (F.args_dict_iter_1 _))
 unfold Builtin.«dict.__iter__» Builtin.Dict.dictSlotNone
 refine wpAny_bind (wpAny_bind (wpAny_notOrdered_dict ty ?_))
 show wpAny _ _ (pure (Value.ref dd)) _ _ s
 refine wpAny_pure (show wpAny _ _ (Builtin.Dict.showsAll dd >>= _) _ _ s from ?_)
 unfold Builtin.Dict.showsAll
 rw [if_neg (by rw [hsys]; exact Bool.false_ne_true)]
 refine wpAny_bind (wpAny_pure (wpAny_bind (wpAny_dictEntries hob hdt (wpAny_bind (wpAny_dictEpoch hob hdt ?_))))); refine wpAny_bind (wpAny_newObj_type (wpAny_pure ⟨_,rfl,"dict_keyiterator",_,⟨_,Heap.get?_push_size _ rfl,rfl⟩,F.slot_dict_keyiterator_next.lookup,?_⟩))
 simpa [rawInt] using fin
theorem zhN {ii:Nat} {Q:Option Value→Shared→Prop} (st:s.heap.IsKeyIter kk dd ii ens.size tick) (hob:s.heap.get? dd=some ob) (hdt:ob.data=.dict ens tick) (lt:ii<ens.size)
  (fin:∀ h2,h2.IsKeyIter kk dd (ii+1) ens.size tick→Heap.SameBut kk s.heap h2→Q (some ens[ii].key) { s with heap:=h2 }):wpAny (model prog w) A (pyNext (.ref kk)) Q E s:=by
 obtain ⟨ki,hki,hkc,hkd⟩:=id st; have ty:=st.typeIs; unfold pyNext; refine wpAny_bind (wpAny_attempt (wpAny_callSpecial?_slot (name:=Str.ofString "__next__") ty F.slot_dict_keyiterator_next (wpAny_call_entry F.slot_dict_keyiterator_next ty F.entry_dict_keyiterator_next ?_ (F.args_dict_keyiterator_next_1 _)))); refine wpAny_bind (wpAny_pure (wpAny_bind (wpAny_bind ?_)))
 first
  | refine wpAny_bind (wpAny_typeNameOfWhole_keyiter ty (wpAny_pure (wpAny_bind (wpAny_fieldsOf hki hkd ?_))))
  | refine wpAny_bind (wpAny_typeNameOf_keyiter ty (wpAny_pure (wpAny_bind (wpAny_fieldsOf hki hkd ?_))))
 simp only [show Builtin.Dict_items.ownsTuple "dict_keyiterator"=false by decide,Bool.false_eq_true,if_false]
 show wpAny _ _ (if (Value.ref dd == Value.none)=true then _ else _) _ _ s
 rw [if_neg (show ¬ ((Value.ref dd == Value.none)=true) from Bool.false_ne_true)]
 refine wpAny_bind (wpAny_pure (wpAny_bind (wpAny_dictEntries hob hdt ?_)))
 rw [if_neg (by simp)]
 refine wpAny_bind (wpAny_pure (wpAny_bind (wpAny_dictEpoch hob hdt ?_)))
 rw [if_neg (by simp)]
 refine wpAny_pure ?_
 simp only [show ¬ ((ii:Int)<0) from by omega,if_false,Int.toNat_natCast,Array.getElem?_eq_getElem lt]
 refine wpAny_bind ?_
 first
  | refine wpAny_bind (wpAny_typeNameOfWhole_keyiter ty (wpAny_pure (wpAny_bind (wpAny_isOneOf_keyiter ty ?_))))
  | refine wpAny_bind (wpAny_typeNameOf_keyiter ty (wpAny_pure (wpAny_bind (wpAny_isOneOf_keyiter ty ?_))))
 show wpAny _ _ (setField (.ref kk) 1 (rawInt ((ii:Int)+1)) >>= _) _ _ s
 have st2:(s.heap.update kk (Obj.mapFields (·.setIfInBounds 1 (rawInt ((ii:Int)+1))))).IsKeyIter kk dd (ii+1) ens.size tick :=
  ⟨_,Heap.get?_update_self _ hki (Obj.isFreed_of_fields (Obj.data_mapFields hkd _)),(Obj.cls_mapFields ..).trans hkc,by rw [Obj.data_mapFields hkd]; simp [rawInt]⟩
 refine wpAny_bind (wpAny_setField hki hkd (by simp) (wpAny_bind (wpAny_holding ?_)))
 refine wpAny_bind (wpAny_isOneOf_keyiter (s:={ s with heap:=s.heap.update kk (Obj.mapFields (·.setIfInBounds 1 (rawInt ((ii:Int)+1)))) }) st2.typeIs ?_)
 show wpAny _ _ (pure ens[ii].key) _ _ _
 exact wpAny_pure (wpAny_pure ⟨_,rfl,wpAny_pure (fin _ st2 (Heap.SameBut.update ..))⟩)
theorem zji {ii:Nat} {Q:Option Value→Shared→Prop} (calm:A.handled=none) (st:s.heap.IsKeyIter kk dd ii ens.size tick) (hob:s.heap.get? dd=some ob) (hdt:ob.data=.dict ens tick) (ge:ens.size≤ii)
  (fin:∀ h2,Heap.ExtBut kk s.heap h2→Q none { s with heap:=h2 }):wpAny (model prog w) A (pyNext (.ref kk)) Q E s:=by
 obtain ⟨ki,hki,hkc,hkd⟩:=id st; have ty:=st.typeIs; unfold pyNext; refine wpAny_bind (wpAny_attempt (wpAny_callSpecial?_slot (name:=Str.ofString "__next__") ty F.slot_dict_keyiterator_next (wpAny_call_entry F.slot_dict_keyiterator_next ty F.entry_dict_keyiterator_next ?_ (F.args_dict_keyiterator_next_1 _)))); refine wpAny_bind (wpAny_pure (wpAny_bind (wpAny_bind ?_)))
 first
  | refine wpAny_bind (wpAny_typeNameOfWhole_keyiter ty (wpAny_pure (wpAny_bind (wpAny_fieldsOf hki hkd ?_))))
  | refine wpAny_bind (wpAny_typeNameOf_keyiter ty (wpAny_pure (wpAny_bind (wpAny_fieldsOf hki hkd ?_))))
 simp only [show Builtin.Dict_items.ownsTuple "dict_keyiterator"=false by decide,Bool.false_eq_true,if_false]
 show wpAny _ _ (if (Value.ref dd == Value.none)=true then _ else _) _ _ s
 rw [if_neg (show ¬ ((Value.ref dd == Value.none)=true) from Bool.false_ne_true)]
 refine wpAny_bind (wpAny_pure (wpAny_bind (wpAny_dictEntries hob hdt ?_)))
 rw [if_neg (by simp)]
 refine wpAny_bind (wpAny_pure (wpAny_bind (wpAny_dictEpoch hob hdt ?_)))
 rw [if_neg (by simp)]
 refine wpAny_pure ?_
 simp only [show ¬ ((ii:Int)<0) from by omega,if_false,Int.toNat_natCast,Array.getElem?_eq_none ge]
 refine wpAny_bind ?_
 first
  | refine wpAny_bind (wpAny_typeNameOfWhole_keyiter ty (wpAny_pure ?_))
  | refine wpAny_bind (wpAny_typeNameOf_keyiter ty (wpAny_pure ?_))
 show wpAny _ _ (setField (.ref kk) 0 .none >>= _) _ _ s
 refine wpAny_bind (wpAny_setField hki hkd (by simp) (show wpAny _ _ (newExc (.type "StopIteration") [] >>= _) _ _ _ from wpAny_bind ?_))
 simp only [newExc,newTuple]
 apply wpAny_bind
 refine wpAny_newObj_type ?_ (by size_fits)
 refine wpAny_bind (m:=firstArgMember _ _) (wpAny_of_eq (a:=Value.none) (by first | rfl | (simp only [firstArgMember]; rfl)) (wpAny_newObj_type ?_ (by size_fits)))
 simp only [raiseNew]; refine wpAny_bind (wpAny_handled ?_)
 rw [show A.in1.handled=none from calm]
 refine (wpAny_bind (wpAny_pure (wpAny_throw ?_))); refine wpAny_bind (wpAny_isInstance (T:="StopIteration") (b:=true) ⟨_,Heap.get?_push_size _ rfl,rfl⟩ isSubtype_stop (wpAny_pure (fin _ ?_))); exact ((Heap.SameBut.update ..).extBut.push _).push _
end
end PySem
namespace L2
open PySem PySem.Spec PyProof.Rows
section
variable {X:Cx} {tg:Expr}
end
end L2
namespace PL
open PySem L2
theorem zo5 {K:PySem.W.Frag} {Hi:Hp}:∀ k:Key,Den K Hi (kV k) (zdA k)
 | .inl i=>.int i
 | .inr x=>by
  have e:kV (.inr x)=.str (st x.cps.toList):=by
   show V.str x=_
   rfl
  rw [e]; exact .str _
theorem zkQ {K:PySem.W.Frag} {Hi:Hp}:∀ ks:List Key,zbP K Hi (ks.map kV) (ks.map zdA)
 | []=>.nil
 | k :: ks=>.cons (zo5 k) (zkQ ks)
end PL
namespace PySem
section
variable {prog:Program} {w:World} {A:Around} {E:Value→Shared→Prop} {s:Shared} {dd kk:Addr} {ob:Obj} {ens:Array DictEntry} {tick nn:Nat}
theorem zp4 {Q:Value→Shared→Prop} (hsys:(dd == sysModules)=false) (hob:s.heap.get? dd=some ob) (hex:ob.ExactDict) (hdt:ob.data=.dict ens tick) (fin:Q (.int ens.size s.toks) { s with toks:=s.toks+1 }) :
  wpAny (model prog w) A (call (.builtin "dict.__len__") [.ref dd]) Q E s:=by
 have ty:=zcE hob hex; refine wpAny_call_entry F.slot_dict_len ty F.entry_dict_len ?_ (F.args_dict_len_1 _)
 show wpAny _ _ (dictSize dd >>= _) _ _ s
 unfold dictSize
 refine wpAny_bind (wpAny_bind (wpAny_dictEntries hob hdt (wpAny_pure (show wpAny _ _ (Builtin.Dict.pendingCount dd >>= _) _ _ s from wpAny_bind (wpAny_pendingCount_other hsys ?_)))))
 refine wpAny_ret_mkInt ?_
 have z:((ens.size:Int)+((0:Nat):Int))=ens.size:=by omega
 first
  | exact fin
  | (rw [z]; exact fin)
  | (refine ⟨_,rfl,?_⟩; simpa using fin)
theorem zs1 {Q:Value→Shared→Prop} (hsys:(dd == sysModules)=false) (hob:s.heap.get? dd=some ob) (hex:ob.ExactDict) (hdt:ob.data=.dict ens tick) (few:ens.size≤sizeLine) (fin:Q (.int ens.size (s.toks+1)) { s with toks:=s.toks+1+1 }) :
  wpAny (model prog w) A (call (.builtin "len") [.ref dd]) Q E s :=
 PyProof.Rows.call_len_slot (n:=ens.size) (zcE hob hex) F.slot_dict_len (fun Q' hq=>zp4 hsys hob hex hdt hq) (by omega) (by rw [sizeLine_eq] at few; omega) fin
theorem zq8 {Q:Bool→Shared→Prop} (hob:s.heap.get? dd=some ob) (hex:ob.ExactDict) (fin:Q false s):wpAny (model prog w) A (Builtin.List.listLengthHint (.ref dd)) Q E s:=by
 have ty:=zcE hob hex; unfold Builtin.List.listLengthHint; refine wpAny_bind (wpAny_specialOf ty F.slot_dict_len.lookup ?_); generalize hid:("dict.__len__":String)=id0
 wp_delta
 rw [show splitId id0=some ("dict","__len__") from by subst hid; decide +kernel]
 subst hid
 refine wpAny_bind (wpAny_isInstance (T:="dict") (b:=true) ty (by rw [isSubtype_type]; kernel_rfl) ?_)
 refine wpAny_ite_split (fun z=>absurd z (by decide)) (fun _=>?_)
 refine wpAny_ite_split (fun _=>?_) (fun z=>absurd (by decide +kernel) z)
 refine wpAny_bind (wpAny_typeOf ty ?_); exact wpAny_pure fin
theorem zlD (calm:A.handled=none) (hne:dd≠kk) (hdt:ob.data=.dict ens tick):Walks prog w A kk [kk,dd] [kk] ens.size (fun i v=>∃ e,ens[i]?=some e∧v=e.key) (fun i h=>h.IsKeyIter kk dd i ens.size tick∧h.get? dd=some ob) where
 sub:=fun b hb=>by
  have e:b=kk:=by simpa using hb
  simp [e]
 frame:=fun _ _ _ st hk=>⟨st.1.at fun o e=>hk kk (by simp) o e,hk dd (by simp) _ st.2⟩
 item:=fun i s Q E hi st hQ=>zhN st.1 st.2 hdt hi fun h2 st2 sb=>hQ _ h2 s.toks ⟨_,Array.getElem?_eq_getElem hi,rfl⟩ ⟨st2,(sb.2 dd hne).trans st.2⟩ fun b o hb e=>(sb.2 b (fun z=>hb (by simp [z]))).trans e
 done:=fun s Q E st hQ=>zji calm st.1 st.2 hdt (Nat.le_refl _) fun h2 eb=>hQ h2 s.toks fun b o hb e=>eb b o (fun z=>hb (by simp [z])) e
 self:=fun _ _ _ _ st hQ=>wpAny_pyIter_keyiter st.1 hQ
theorem zjo {R:Result→Shared→Prop} {S:Addr} {res:Value} {c₀:Nat} (calm:A.handled=none) (hsys:(dd == sysModules)=false) (hob:s.heap.get? dd=some ob) (hex:ob.ExactDict) (hdt:ob.data=.dict ens tick) (few:ens.size≤sizeLine) (hne:S≠dd) (hS:s.heap.get? S=some { cls:=.type "list",data:=.seq #[] c₀ })
  (fin:∀ h2 tk acc c2,(∀ b o,b≠S→s.heap.get? b=some o→h2.get? b=some o)→h2.get? S=some { cls:=.type "list",dict:=none,data:=.seq acc c2,slots:=#[] }→ItemsOf (fun i v=>∃ e,ens[i]?=some e∧v=e.key) acc ens.size→R (.ok (.ret res)) { s with heap:=h2,toks:=tk }) :
  wpAny (model prog w) A.in1 (Builtin.List.listExtendWith (.ref S) (.ref dd) res) (fun f s'=>match f with | .done f=>R (.ok f) s' | .again c'=>c'.quiet=true∧codeAny (model prog w) A c' R s') (fun e s'=>R (.error e) s') s:=by
 have hSlt:S<s.heap.objs.size:=Heap.lt_size hS
 have hSI:S≠s.heap.objs.size:=Nat.ne_of_lt hSlt
 have hdI:dd≠s.heap.objs.size:=Nat.ne_of_lt (Heap.lt_size hob)
 have hSf:S ∉ [s.heap.objs.size,dd]:=fun hm=>by
  rcases List.mem_cons.mp hm with z | z
  ·exact hSI z
  ·exact hne (List.mem_singleton.mp z)
 have W:=(zlD (prog:=prog) (w:=w) (A:=A.in1) (kk:=s.heap.objs.size) calm hdI hdt).toS
 have loop:∀ (h:Heap) (c₁ tk:Nat),h.IsKeyIter s.heap.objs.size dd 0 ens.size tick→h.get? dd=some ob→(∀ b o,b≠S→s.heap.get? b=some o→h.get? b=some o) →
   h.get? S=some { cls:=.type "list",data:=.seq #[] c₁ }→codeAny (model prog w) A (.builtin "list.extend.loop" ⟨[.ref S,.ref s.heap.objs.size,res],[]⟩) R { s with heap:=h,toks:=tk }:=by
  intro h c₁ tk hit hod hk hS₁
  refine codeAny_extend_loopS W few S hSf res ens.size 0 _ #[] c₁ rfl (Nat.zero_le _) ⟨hit,hod⟩ hS₁ (ItemsOf.nil _) fun s' acc' c' hm hS' hacc=>?_
  rw [Moved.eq_with hm]
  refine fin s'.heap s'.toks acc' c' (fun b o hb e=>hm.heap b o (fun z=>?_) (hk b o hb e)) hS' hacc
  rcases List.mem_cons.mp z with e' | z
  ·exact hb e'
  ·exact absurd (Heap.lt_size e) (by rw [List.mem_singleton.mp z]; exact Nat.lt_irrefl _)
 unfold Builtin.List.listExtendWith; refine wpAny_bind (wpAny_typeOf (zcE hob hex) ?_)
 have h1:Builtin.List.listSameRef (.ref S) (.ref dd)=false:=by simp [Builtin.List.listSameRef,hne]
 simp only [h1,show (Value.type "dict" == Value.type "list")=false by decide,show (Value.type "dict" == Value.type "tuple")=false by decide,Bool.or_false,Bool.false_eq_true,if_false]
 refine wpAny_bind (zgD hsys hob hex hdt ?_); refine wpAny_bind (wpAny_holding (zq8 (Heap.get?_push_of_some _ hob) hex ?_))
 have hit₁:(s.heap.push { cls:=.type "dict_keyiterator",data:=.fields #[.ref dd,.int 0 0,.int ens.size 0,.int tick 0] }).IsKeyIter s.heap.objs.size dd 0 ens.size tick:=⟨_,Heap.get?_push_size _ rfl,rfl,rfl⟩
 have hS₁:=Heap.get?_push_of_some { cls:=.type "dict_keyiterator",data:=.fields #[.ref dd,.int 0 0,.int ens.size 0,.int tick 0] } hS
 refine wpAny_ite_split (fun _=>?_) (fun _=>wpAny_pure ⟨plainId_quiet F.plain_extend_loop _,loop _ c₀ _ hit₁ (Heap.get?_push_of_some _ hob) (fun b o _ e=>Heap.get?_push_of_some _ e) hS₁⟩)
 refine wpAny_bind (wpAny_rule (wpAny_bind ?_))
 show wpAny _ _ (updateSeq S (·.push .none) >>= fun _=>updateSeq S (·.pop)) _ _ _
 refine wpAny_bind (wpAny_updateSeq hS₁ rfl ?_); have hS₂:=Heap.get?_update_self (Obj.mapSeq (·.push Value.none)) hS₁ rfl
 refine wpAny_updateSeq (hz:=by seq_fits) hS₂ rfl ?_
 have hS₃:=Heap.get?_update_self (Obj.mapSeq (·.pop)) hS₂ rfl
 have oth:∀ b o,b≠S→(s.heap.push { cls:=.type "dict_keyiterator",data:=.fields #[.ref dd,.int 0 0,.int ens.size 0,.int tick 0] }).get? b=some o→(((s.heap.push { cls:=.type "dict_keyiterator",data:=.fields #[.ref dd,.int 0 0,.int ens.size 0,.int tick 0] }).update S (Obj.mapSeq (·.push Value.none))).update S (Obj.mapSeq (·.pop))).get? b=some o :=
  fun b o hb e=>(Heap.get?_update_other _ _ (Ne.symm hb)).trans ((Heap.get?_update_other _ _ (Ne.symm hb)).trans e)
 exact wpAny_pure ⟨plainId_quiet F.plain_extend_loop _,loop _ _ _ (hit₁.at fun o e=>oth _ o (Ne.symm hSI) e) (oth _ _ (Ne.symm hne) (Heap.get?_push_of_some _ hob)) (fun b o hb e=>oth b o hb (Heap.get?_push_of_some _ e)) hS₃⟩
theorem zmT {R:Result→Shared→Prop} {S:Addr} (calm:A.handled=none) (hsys:(dd == sysModules)=false) (hob:s.heap.get? dd=some ob) (hex:ob.ExactDict) (hdt:ob.data=.dict ens tick) (few:ens.size≤sizeLine) (hne:S≠dd) (hS:s.heap.get? S=some { cls:=.type "list",data:=.seq #[] })
  (fin:∀ h2 tk acc c2,(∀ b o,b≠S→s.heap.get? b=some o→h2.get? b=some o)→h2.get? S=some { cls:=.type "list",dict:=none,data:=.seq acc c2,slots:=#[] }→ItemsOf (fun i v=>∃ e,ens[i]?=some e∧v=e.key) acc ens.size→R (.ok (.ret .none)) { s with heap:=h2,toks:=tk }) :
  wpAny (model prog w) A.in1 (Builtin.«list.__init__» ⟨[.ref S,.ref dd],[]⟩) (fun f s'=>match f with | .done f=>R (.ok f) s' | .again c'=>c'.quiet=true∧codeAny (model prog w) A c' R s') (fun e s'=>R (.error e) s') s:=by
 show wpAny _ _ (Builtin.List.listItems (.ref S) >>= fun old=>Builtin.List.listUpdate (.ref S) (fun _=>#[]) >>= fun _=>letGo old.toList.reverse >>= fun _=>Builtin.List.listExtendWith (.ref S) (.ref dd) .none) _ _ s
 unfold Builtin.List.listItems; refine wpAny_bind (wpAny_bind (wpAny_seqItems hS rfl (wpAny_pure ?_)))
 show wpAny _ _ (updateSeq S (fun _=>#[]) >>= fun _=>letGo (#[]:Array Value).toList.reverse >>= fun _=>Builtin.List.listExtendWith (.ref S) (.ref dd) .none) _ _ s
 have hS₂:=Heap.get?_update_self (Obj.mapSeq (fun _=>(#[]:Array Value))) hS rfl
 have oth:∀ b o,b≠S→s.heap.get? b=some o→(s.heap.update S (Obj.mapSeq (fun _=>(#[]:Array Value)))).get? b=some o:=fun b o hb e=>(Heap.get?_update_other _ _ (Ne.symm hb)).trans e
 refine wpAny_bind (wpAny_updateSeq hS rfl (wpAny_bind (wpAny_letGo ?_)))
 exact zjo calm hsys (oth dd _ (Ne.symm hne) hob) hex hdt few hne hS₂ fun h2 tk acc c2 hk hS' hacc=>fin h2 tk acc c2 (fun b o hb e=>hk b o hb (oth b o hb e)) hS' hacc
theorem zmx {Q:Value→Shared→Prop} (calm:A.handled=none) (hsys:(dd == sysModules)=false) (hob:s.heap.get? dd=some ob) (hex:ob.ExactDict) (hdt:ob.data=.dict ens tick) (few:ens.size≤sizeLine)
  (fin:∀ h2 tk acc c2,(∀ b o,s.heap.get? b=some o→h2.get? b=some o)→h2.get? s.heap.objs.size=some { cls:=.type "list",dict:=none,data:=.seq acc c2,slots:=#[] }→ItemsOf (fun i v=>∃ e,ens[i]?=some e∧v=e.key) acc ens.size→Q (.ref s.heap.objs.size) { s with heap:=h2,toks:=tk }) :
  wpAny (model prog w) A (call (.type "list") [.ref dd]) Q E s:=by
 refine callType_codes (Q₁:=fun obj s₁=>obj=.ref s.heap.objs.size∧s₁={ s with heap:=s.heap.push { cls:=.type "list",data:=.seq #[] } }) F.called_list (F.typeCall_list_1 _) F.entry_list_init (code_list_new _ ⟨rfl,rfl⟩) fun obj s₁ h₁=>?_
 obtain ⟨rfl,rfl⟩:=h₁
 have hS:(s.heap.push { cls:=.type "list",data:=.seq #[] }).get? s.heap.objs.size=some { cls:=.type "list",data:=.seq #[] }:=Heap.get?_push_size _ rfl
 refine ⟨⟨_,hS,rfl⟩,F.args_list_init_2 _ _,zmT (A:=A.in1) calm hsys (Heap.get?_push_of_some _ hob) hex hdt few (Ne.symm (Nat.ne_of_lt (Heap.lt_size hob))) hS fun h2 tk acc c2 hk hS' hacc=>?_⟩
 exact ⟨rfl,fin h2 tk acc c2 (fun b o e=>hk b o (Nat.ne_of_lt (Heap.lt_size e)) (Heap.get?_push_of_some _ e)) hS' hacc⟩
end
end PySem
namespace L2
open PySem PySem.Spec PyProof.Rows
section
variable {X:Cx}
def zrG:Value→V
 | .ref b=>.ref b
 | _=>.non
theorem Inv.keys {pins:List (Addr × Obj)} {σ:St} {H:Hp} {s:Shared} {a:Addr} {kvs:List (List Key × V)} {ep:Nat} (I:Inv X pins σ H s) (e:H a=some (.dE kvs ep)):kvs.length≤sizeLine∧(a == sysModules)=false∧∃ (o:Obj) (es:Array DictEntry),s.heap.get? a=some o∧o.ExactDict∧o.data=.dict es ep∧es.size=kvs.length ∧
  ∀ (i:Nat) k y,kvs[i]?=some (k,y)→∃ b x,es[i]?=some x∧x.key=.ref b∧H b=some (.tup (k.map kV)):=by
 obtain ⟨z,hd,xs,rel,_,o,es,ho,hx,hdat,he⟩:=zek I.hok e
 have hl:kvs.length=xs.length:=Paired.length rel
 have hs:es.size=kvs.length:=by
  have:=congrArg List.length he
  rw [List.length_map,Array.length_toList] at this; rw [this,hl]
 refine ⟨z,hd,o,es,ho,hx,hdat,hs,fun i k y hk=>?_⟩
 have hi:i<kvs.length:=(List.getElem?_eq_some_iff.mp hk).1
 have hix:i<xs.length:=by rw [← hl]; exact hi
 have hi':i<es.size:=by rw [hs]; exact hi
 have q:=PL.paired_get i rel hk (List.getElem?_eq_getElem hix); refine ⟨xs[i].2.1,es[i],Array.getElem?_eq_getElem hi',?_,q.2.1⟩
 have e1:es.toList[i]?=(xs.map (entryOfKey (tupleKind (zbf X.prog X.w))))[i]?:=by rw [he]
 rw [List.getElem?_map,List.getElem?_eq_getElem hix,Array.getElem?_toList,Array.getElem?_eq_getElem hi'] at e1; rw [Option.some.inj e1]; rfl
theorem zlh:zcy X (.builtin "len") (fun xs H Q=>∃ a kvs ep,xs=[.ref a]∧H a=some (.dE kvs ep)∧Q (.int kvs.length) H):=by
 intro pins s σ H xs us Q I r h; obtain ⟨a,kvs,ep,rfl,e,q⟩:=h; obtain ⟨u,rfl,rx⟩:=zcU r; cases rx; obtain ⟨z,hd,o,es,ho,hx,hdat,hs,_⟩:=I.keys e
 refine zs1 hd ho hx hdat (by rw [hs]; exact z) ?_
 rw [hs]; exact ⟨.int kvs.length,H,I.tok _,⟨_,rfl⟩,q⟩
theorem zjs (hc:X.calm=true):zcy X (.type "list") (fun xs H Q=>∃ a kvs ep,xs=[.ref a]∧H a=some (.dE kvs ep)∧∀ l ys,H l=none→ys.length=kvs.length→(∀ (i:Nat) k y,kvs[i]?=some (k,y)→∃ b,ys[i]?=some (.ref b)∧H b=some (.tup (k.map kV)))→Q (.ref l) (upd H l (.lst ys))):=by
 intro pins s σ H xs us Q I r h; obtain ⟨a,kvs,ep,rfl,e,q⟩:=h; obtain ⟨u,rfl,rx⟩:=zcU r; cases rx; obtain ⟨z,hd,o,es,ho,hx,hdat,hs,hk⟩:=I.keys e
 refine zmx (I.ok.hd hc) hd ho hx hdat (by rw [hs]; exact z) fun h2 tk acc c2 kp e2 hit=>?_
 obtain ⟨hsz,hit⟩:=hit
 have each:∀ (j:Nat) v,acc[j]?=some v→∃ b k y,v=.ref b∧kvs[j]?=some (k,y)∧H b=some (.tup (k.map kV)):=fun j v hj=>by
  obtain ⟨x,hx1,rfl⟩:=hit j v hj
  have hjl:j<kvs.length:=by
   rw [← hs]; exact (Array.getElem?_eq_some_iff.mp hx1).1
  obtain ⟨b,x',hx2,hb,ht⟩:=hk j kvs[j].1 kvs[j].2 (List.getElem?_eq_getElem hjl); rw [hx1] at hx2; cases hx2; exact ⟨b,kvs[j].1,kvs[j].2,hb,List.getElem?_eq_getElem hjl,ht⟩
 have hys:za5 (acc.toList.map zrG) acc.toList:=by
  refine PL.paired_of (by rw [List.length_map]) fun j x v h1 h2=>?_
  rw [List.getElem?_map,h2] at h1
  obtain ⟨b,_,_,rfl,_⟩:=each j v (by rw [← Array.getElem?_toList]; exact h2)
  cases h1; exact rfl
 have hl:(acc.toList.map zrG).length=kvs.length:=by rw [List.length_map,Array.length_toList,hsz,hs]
 have I2:=I.laid (t':=tk) (o:=.lst (acc.toList.map zrG)) kp (Nat.le_refl _) (show zbG X.prog X.w _ h2 _ (.lst (acc.toList.map zrG)) from ⟨by rw [hl]; exact z,acc.toList,c2,hys,by simpa using e2⟩)
 refine ⟨.ref s.heap.objs.size,_,I2,rfl,q _ _ (I.hok.fresh (Nat.le_refl _)) hl fun i k y hi=>?_⟩
 have hil:i<acc.size:=by rw [hsz,hs]; exact (List.getElem?_eq_some_iff.mp hi).1
 obtain ⟨b,k',y',hv,hk',ht⟩:=each i acc[i] (Array.getElem?_eq_getElem hil); rw [hi] at hk'; cases hk'; refine ⟨b,?_,ht⟩; rw [List.getElem?_map,Array.getElem?_toList,Array.getElem?_eq_getElem hil,hv]; rfl
end
end L2
namespace PL
open PySem L2
section
variable {X:Cx}
abbrev zlr:=List D→(OD→Prop)→Prop
def znK (K:PySem.W.Frag) (r:List V→Hp→VK→Prop) (r':zlr):Prop:=∀ (Hi H:Hp) (vs:List V) (ds:List D) (Q:OD→Prop) (Q2:VK),Fz Hi H→zbP K Hi vs ds→r' ds Q →
 (∀ Hi1 H1 p u o,Ext Hi H Hi1 H1→H1 p=none→(∀ xs,u≠.tup xs)→zbN K Hi1 (upd H1 p u) p o→Q o→Q2 (.ref p) (upd H1 p u))→r vs H Q2
structure CalO (X:Cx) (f:Value) (r':zlr):Prop where
 ex:∃ r,zcy X f r∧znK X.K r r'
theorem CalO.or {f:Value} {r r':zlr} (h:CalO X f r) (h':CalO X f r'):CalO X f (fun x Q=>r x Q∨r' x Q):=by
 obtain ⟨a,ha,la⟩:=h.ex; obtain ⟨b,hb,lb⟩:=h'.ex
 refine ⟨_,ha.or hb,fun Hi H vs ds Q Q2 s d q fin=>?_⟩
 rcases q with q | q
 ·exact .inl (la Hi H vs ds Q Q2 s d q fin)
 ·exact .inr (lb Hi H vs ds Q Q2 s d q fin)
def zag (r:zlr) (t:TA'):TO':=fun Γ Q=>t Γ fun ds Γ1=>r ds fun o=>Q o Γ1
theorem znP {K:PySem.W.Frag} {n:Nat} {r:List V→Hp→VK→Prop} {r':zlr} {t:TA'} {σ:St} {H:Hp} {Q:VK} (l:znK K r r') (h:oOf K n (zag r' t) σ H Q):tCB r (zsc K n t) σ H Q:=by
 obtain ⟨W,Hi,Γ,Q',g,h,fin⟩:=h; refine ⟨W,Hi,Γ,_,g,h,?_⟩; intro vs H1 Hi1 Γ1 ds s1 g1 dl h1; refine l Hi1 H1 vs ds _ _ g1.fz dl h1 ?_; intro Hi2 H2 p u o e hp hu own q; have g2:=g1.ext e; exact fin p _ Hi2 Γ1 o (s1.trans e.hi) (g2.ext (Ext.newO g2.fz hp u hu)) (New.mk' g2 hp own) q
variable {x:Str} {p pos:Pos} {e:Expr} {es:List Expr} {t:TA'} {id T:String}
theorem zi3 {r':zlr} (hc:CalO X (.type T) r') (hm:X.mg x=none) (hv:bootBuiltins x=some (.type T)) (ha:PA' X (e :: es) t) (hg:Gl X x:=by rfl) (hn:x≠"__name__":=by decide) (hdb:(x == ("__debug__":Str))=false:=by decide):PO' X (.Call (.Name x p) (e :: es) [] pos) (zag r' t):=by
 obtain ⟨r,ho,l⟩:=hc.ex; obtain ⟨p1,p2⟩:=zX ha.pl
 exact ⟨PE.weak (zgn ho hg hm hv ha.pa hn hdb (zaP p1) (zaR p2)) fun σ H Q q=>znP l q⟩
class MRCO (r:zlr):Prop where
 mono:∀ ds (Q Q':OD→Prop),(∀ o,Q o→Q' o)→r ds Q→r ds Q'
instance {r:zlr} {t:TA'} [MRCO r] [MA t]:MO (zag r t):=⟨fun Γ _ _ h q=>MA.mono (t:=t) _ _ _ (fun _ _ z=>MRCO.mono (r:=r) _ _ _ (fun _ w=>h _ _ w) z) q⟩
def zeC:zlr:=fun ds Q=>∃ d es,ds=[d]∧(d=.lst es∨d=.tup es)∧Q (.lst es)
theorem zro:CalO X (.type "list") zeC:=⟨_,zg0,by
 rintro Hi H vs ds Q Q2 s dl ⟨d,es,rfl,h,q⟩ fin
 obtain ⟨v,rfl,den⟩:=zcW dl
 rcases h with rfl | rfl
 ·obtain ⟨a,us,rfl,h1,h2⟩:=den.lstI
  exact ⟨a,us,rfl,.inl (zas s.sub h1),fun l hl=>fin Hi H l _ (.lst es) (Ext.refl s) hl (fun _ z=>by cases z) ⟨us,zh,h2⟩ q⟩
 ·obtain ⟨a,us,rfl,h1,h2⟩:=den.tupI
  exact ⟨a,us,rfl,.inr (za3 s.sub h1),fun l hl=>fin Hi H l _ (.lst es) (Ext.refl s) hl (fun _ z=>by cases z) ⟨us,zh,h2⟩ q⟩⟩
def zdH:zlr:=fun ds Q=>∃ es,ds=[.dit es]∧Q (.lst (es.map (·.1)))
theorem zpq (hc:X.calm=true):CalO X (.type "list") zdH:=⟨_,zjs hc,by
 rintro Hi H vs ds Q Q2 s dl ⟨es,rfl,q⟩ fin
 obtain ⟨v,rfl,den⟩:=zcW dl; obtain ⟨a,kvs,ep,rfl,h1,h2⟩:=den.ditI
 refine ⟨a,kvs,ep,rfl,s.sub _ _ h1,fun l ys hl hy hk=>fin Hi H l _ (.lst (es.map (·.1))) (Ext.refl s) hl (fun _ z=>by cases z) ⟨ys,zh,?_⟩ q⟩
 refine paired_of (by rw [hy,List.length_map,zg h2]) fun i v d e1 e2=>?_
 rw [List.getElem?_map] at e2
 cases hc2:es[i]? with
 | none=>rw [hc2] at e2; cases e2
 | some q =>
  rw [hc2] at e2; cases e2; obtain ⟨p,ep,ep2⟩:=zaU h2 hc2; obtain ⟨b,eb,hb⟩:=hk i p.1 p.2 ep; rw [e1] at eb; cases eb
  show Den X.K Hi (.ref b) q.1
  rw [ep2.1]; exact Den.mkT (s.tups _ _ hb) (zkQ _)⟩
def ziW:RC':=fun ds Q=>∃ es,ds=[.dit es]∧Q (.int es.length)
theorem zrp:Cal X (.builtin "len") ziW:=⟨_,zlh,by
 rintro Hi H vs ds Q Q2 s dl ⟨es,rfl,q⟩ fin
 obtain ⟨v,rfl,den⟩:=zcW dl; obtain ⟨a,kvs,ep,rfl,h1,h2⟩:=den.ditI; refine ⟨a,kvs,ep,rfl,s.sub _ _ h1,?_⟩; rw [zg h2]; exact fin Hi H _ _ (Ext.refl s) (.int _) q⟩
instance:MRCO zeC:=⟨fun _ _ _ h ⟨d,es,a,b,q⟩=>⟨d,es,a,b,h _ q⟩⟩
instance:MRCO zdH:=⟨fun _ _ _ h ⟨es,a,q⟩=>⟨es,a,h _ q⟩⟩
instance:MRC ziW:=⟨fun _ _ _ h ⟨es,a,q⟩=>⟨es,a,h _ q⟩⟩
end
end PL
namespace PySem
section
variable {prog:Program} {w:World} {A:Around} {E:Value→Shared→Prop} {s:Shared} {S tt:Addr} {ob:Obj} {mine items:Array Value} {n c₀:Nat} {T:String}
end
end PySem
namespace L2
open PySem PySem.Spec PyProof.Rows
section
variable {X:Cx}
theorem zoJ:OpR X (binaryOp .Add) (fun x y H Q=>∃ a b xs ys,x=.ref a∧y=.ref b∧SqL X.K H a xs∧SqL X.K H b ys∧xs.length+ys.length≤sizeLine∧∀ p,H p=none→Q (.ref p) (upd H p (.lst (xs ++ ys)))):=by
 intro pins s σ H x y v u Q I rx ry h; obtain ⟨a,b,xs,ys,rfl,rfl,ha,hb,hz,q⟩:=h; cases rx; cases ry; obtain ⟨its,r1,p1,_⟩:=I.list ha; obtain ⟨its2,r2,p2,_⟩:=I.list hb
 obtain ⟨⟨cls,dd,data,sl⟩,ho,hc,n,hd⟩:=id p1.isList
 obtain ⟨⟨cls2,dd2,data2,sl2⟩,ho2,hc2,n2,hd2⟩:=id p2.isList
 simp only at hc hd hc2 hd2
 subst hc hd hc2 hd2
 have ea:its.toArray ++ its2.toArray=(its ++ its2).toArray:=by simp
 refine concat_meets ⟨_,ho,rfl⟩ ⟨_,ho2,rfl⟩ noFill_list_add seq_list_add PySem.F.slot_list_add PySem.F.entry_list_add (PySem.F.args_list_add_2 _ _)
  (list_addW a b its.toArray its2.toArray n n2 dd dd2 sl sl2 (by rw [List.size_toArray,List.size_toArray,← r1.length,← r2.length]; exact hz)) ⟨ho,ho2,?_⟩
 rw [ea]
 exact ⟨.ref _,_,I.lnew (t':=s.toks) (r1.append r2) (by rw [List.length_append]; exact hz),rfl,q _ I.fresh⟩
end
end L2
namespace PL
open PySem L2
section
variable {X:Cx}
abbrev zrx:=D→D→(OD→Prop)→Prop
def zrz (K:PySem.W.Frag) (r:R2) (r':zrx):Prop:=∀ (Hi H:Hp) (x y:V) (dx dy:D) (Q:OD→Prop) (Q2:VK),Fz Hi H→Den K Hi x dx→Den K Hi y dy→r' dx dy Q →
 (∀ Hi1 H1 p u o,Ext Hi H Hi1 H1→H1 p=none→(∀ xs,u≠.tup xs)→zbN K Hi1 (upd H1 p u) p o→Q o→Q2 (.ref p) (upd H1 p u))→r x y H Q2
structure Op2O (X:Cx) (f:Value→Value→Sem Value) (r':zrx):Prop where
 ex:∃ r,OpR X f r∧zrz X.K r r'
def zaz (r:zrx) (ta tb:TE'):TO':=fun Γ Q=>ta Γ fun x Γ1=>tb Γ1 fun y Γ2=>r x y fun o=>Q o Γ2
theorem zkc {a b:Expr} {op:Operator} {r':zrx} {ta tb:TE'} {pos:Pos} (h:Op2O X (binaryOp op) r') (ha:PE' X a ta) (hb:PE' X b tb):PO' X (.BinOp a op b pos) (zaz r' ta tb):=by
 obtain ⟨r,ho,l⟩:=h.ex; refine ⟨PE.weak (zqn ho ha.h hb.h) ?_⟩
 rintro σ H Q ⟨W,Hi,Γ,Q',g,h,fin⟩
 refine ⟨W,Hi,Γ,_,g,h,?_⟩
 rintro x H1 ⟨Hi1,dx,Γ1,s1,g1,den1,h1⟩
 refine ⟨W,Hi1,Γ1,_,g1,h1,?_⟩
 rintro y H2 ⟨Hi2,dy,Γ2,s2,g2,den2,h2⟩
 refine l Hi2 H2 x y dx dy _ _ g2.fz (den1.mono s2) den2 h2 ?_; intro Hi3 H3 p u o e hp hu own q; have g3:=g2.ext e; exact fin p _ Hi3 Γ2 o (s1.trans (s2.trans e.hi)) (g3.ext (Ext.newO g3.fz hp u hu)) (New.mk' g3 hp own) q
def zp9:zrx:=fun x y Q=>∃ xs ys,x=.lst xs∧y=.lst ys∧xs.length+ys.length≤sizeLine∧Q (.lst (xs ++ ys))
theorem zky:Op2O X (binaryOp .Add) zp9:=⟨_,zoJ,by
 rintro Hi H x y dx dy Q Q2 s d1 d2 ⟨xs,ys,rfl,rfl,hl,q⟩ fin
 obtain ⟨a,vs,rfl,h1,h2⟩:=d1.lstI; obtain ⟨b,us,rfl,h3,h4⟩:=d2.lstI
 exact ⟨a,b,vs,us,rfl,rfl,zas s.sub h1,zas s.sub h3,by rw [zg h2,zg h4]; exact hl,fun p hp=>fin Hi H p _ (.lst (xs ++ ys)) (Ext.refl s) hp (fun _ z=>by cases z) ⟨_,zh,zbe h2 h4⟩ q⟩⟩
end
end PL
namespace L2
open PySem PySem.Spec PyProof.Rows
theorem zll (f:Nat→Int):∀ k,argBest (fun i j=>decide (f i > f j)) k≤k∧∀ j,j≤k→f j≤f (argBest (fun i j=>decide (f i > f j)) k)
 | 0=>⟨Nat.le_refl _,fun j hj=>by
  have e:j=0:=by omega
  subst e; exact Int.le_refl _⟩
 | k+1=>by
  obtain ⟨h1,h2⟩:=zll f k
  have e:argBest (fun i j=>decide (f i > f j)) (k+1)=if decide (f (k+1) > f (argBest (fun i j=>decide (f i > f j)) k))=true then k+1 else argBest (fun i j=>decide (f i > f j)) k:=rfl
  rw [e]; split
  ·rename_i h
   have h':=of_decide_eq_true h
   refine ⟨Nat.le_refl _,fun j hj=>?_⟩
   by_cases ej:j=k+1
   ·subst ej; exact Int.le_refl _
   ·have:=h2 j (by omega); omega
  ·rename_i h
   have h':¬ f (k+1) > f (argBest (fun i j=>decide (f i > f j)) k):=fun z=>h (decide_eq_true z)
   refine ⟨by omega,fun j hj=>?_⟩
   by_cases ej:j=k+1
   ·subst ej; omega
   ·exact h2 j (by omega)
section
variable {X:Cx}
theorem zlg (hc:X.calm=true):zcy X (.builtin "max") (fun xs H Q=>∃ a ns,xs=[.ref a]∧SqL X.K H a (ns.map V.int)∧ns≠[]∧∀ m,m ∈ ns→(∀ n ∈ ns,n≤m)→Q (.int m) H):=by
 intro pins s σ H xs us Q I r h; obtain ⟨a,ns,rfl,hq,hn,q⟩:=h; obtain ⟨u,rfl,rx⟩:=zcU r; cases rx; obtain ⟨its,rv,p,hz⟩:=I.list hq
 have hlen:ns.length=its.length:=by have:=rv.length; rw [List.length_map] at this; exact this
 have hne:a≠s.heap.objs.size:=by
  obtain ⟨o,ho,_⟩:=p.isList; exact Nat.ne_of_lt (Heap.lt_size ho)
 have hat:∀ (i:Nat) v,its.toArray[i]?=some v→∃ t,v=.int (ns.getD i 0) t:=fun i v hv=>by
  have hv':its[i]?=some v:=by simpa using hv
  have hi:i<ns.length:=by rw [hlen]; exact (List.getElem?_eq_some_iff.mp hv').1
  obtain ⟨w,e1,e2⟩:=za5.get (i:=i) (x:=.int ns[i]) rv (by rw [List.getElem?_map,List.getElem?_eq_getElem hi]; rfl)
  rw [hv'] at e1; cases e1; obtain ⟨t,rfl⟩:=e2
  exact ⟨t,by rw [List.getD_eq_getElem?_getD,List.getElem?_eq_getElem hi]; rfl⟩
 have hpos:0<ns.length:=List.length_pos_iff.mpr hn
 refine call_max_walk (wpAny_pyIter_list p.isList ?_)
 refine ⟨s.heap.objs.size,_,_,_,_,_,_,rfl,Walks.list (show X.A.in1.handled=none from I.ok.hd hc) s.heap.objs.size a hne its.toArray,⟨⟨_,Heap.get?_push_size _ rfl,rfl,rfl⟩,p.isList.at fun o e=>Heap.get?_push_of_some _ e⟩,?_,by rw [List.size_toArray,← hlen]; exact hpos,CmpOf.ints_gt (fun i=>ns.getD i 0) hat,?_⟩
 ·intro b hb
  have hlt:a<s.heap.objs.size:=by
   obtain ⟨o,ho,_⟩:=p.isList; exact Heap.lt_size ho
  have hb':b=s.heap.objs.size∨b=a:=by simpa using hb
  show b<(s.heap.push _).objs.size
  rw [Heap.size_push]
  rcases hb' with z | z
  ·rw [z]; exact Nat.lt_succ_self _
  ·rw [z]; exact Nat.lt_succ_of_lt hlt
 ·intro v h' tk hP hk
  obtain ⟨t,rfl⟩:=hat _ v hP
  obtain ⟨b1,b2⟩:=zll (fun i=>ns.getD i 0) (its.toArray.size-1)
  have hsz:its.toArray.size=ns.length:=by rw [List.size_toArray,hlen]
  generalize argBest (fun i j=>decide (ns.getD i 0 > ns.getD j 0)) (its.toArray.size-1)=k at b1 b2 ⊢
  have hk2:k<ns.length:=by omega
  have ek:ns.getD k 0=ns[k]:=by rw [List.getD_eq_getElem?_getD,List.getElem?_eq_getElem hk2]; rfl
  have I2:Inv X pins σ H { s with heap:=h',toks:=tk }:=I.kept (t':=tk) fun b o e=>hk b o (fun hm=>by
   have z:b=s.heap.objs.size:=by simpa using hm
   exact absurd (z ▸ Heap.lt_size e) (Nat.lt_irrefl _)) (Heap.get?_push_of_some _ e)
  refine ⟨.int (ns.getD k 0),H,I2,⟨t,rfl⟩,q _ (by rw [ek]; exact List.getElem_mem hk2) fun n hn2=>?_⟩
  obtain ⟨j,hj,e⟩:=List.getElem_of_mem hn2
  have:=b2 j (by omega)
  have ej:ns.getD j 0=ns[j]:=by rw [List.getD_eq_getElem?_getD,List.getElem?_eq_getElem hj]; rfl
  rw [← e,← ej]; exact this
end
end L2
namespace PL
open PySem L2
section
variable {X:Cx}
theorem zgQ {K:PySem.W.Frag} {Hi:Hp}:∀ {vs:List V} {ns:List Int},zbP K Hi vs (ns.map .int)→vs=ns.map V.int
 | [],[],_=>rfl
 | [],_ :: _,h=>nomatch h
 | _ :: _,[],h=>nomatch h
 | v :: vs,n :: ns,.cons r t=>by rw [List.map_cons,r.intI,zgQ t]
def zsz:RC':=fun ds Q=>∃ ns:List Int,ds=[.lst (ns.map .int)]∧ns≠[]∧∀ m,m ∈ ns→(∀ n ∈ ns,n≤m)→Q (.int m)
theorem zrn (hc:X.calm=true):Cal X (.builtin "max") zsz:=⟨_,zlg hc,by
 rintro Hi H vs ds Q Q2 s dl ⟨ns,rfl,hn,q⟩ fin
 obtain ⟨v,rfl,den⟩:=zcW dl; obtain ⟨a,us,rfl,h1,h2⟩:=den.lstI; rw [zgQ h2] at h1
 exact ⟨a,ns,rfl,zas s.sub h1,hn,fun m hm hall=>fin Hi H _ _ (Ext.refl s) (.int m) (q m hm hall)⟩⟩
end
end PL
namespace PySem
open PyProof.Rows
namespace F
end F
section
variable {prog:Program} {w:World} {A:Around} {E:Value→Shared→Prop} {s:Shared} {tt rr:Addr} {items:Array Value}
end
end PySem
namespace L2
open PySem PySem.Spec PyProof.Rows
section
variable {X:Cx} {tg:Expr}
end
end L2
namespace PL
open PySem L2
end PL
namespace X1
open PySem
def Ex (h:Heap) (e:Addr) (cl:Value) (dd:Option Addr) (vs:Array Value):Prop:=∃ sl,h.get? e=some ⟨cl,dd,.fields vs,sl⟩
def Ent (h:Heap) (T:Addr) (fl:Value):Prop:=∃ c d ts sl,h.get? T=some ⟨c,d,.fields ts,sl⟩∧ts[3]?=some fl
def Hd (h:Heap) (e:Addr) (vs:Array Value) (fl:Value) (R:Addr→Prop):Prop:=(vs[1]?=some .none∧fl=.none)∨∃ T,vs[1]?=some (.ref T)∧T≠e∧R T∧Ent h T fl
section
variable {M:Model} {A:Around} {E:Value→Shared→Prop} {s:Shared} {base:Heap} {env:Env} {outer:List Env} {L e:Addr} {cl fl:Value} {dd:Option Addr} {vs:Array Value} {R:Addr→Prop}
end
end X1
namespace X1
open PySem
section
variable {prog:Program} {w:World} {A:Around} {E:Value→Shared→Prop} {h:Heap} {g:Array GenState} {d:Drawn} {t:Nat} {os:OsState} {C N fI:Addr} {oI:Obj} {bm bmB:List Value} {B nid iid:String} {mN:Str→Option Value} {zdD:List Value}
end
end X1
namespace X1
open PySem
section
variable {M:Model} {A:Around} {E:Value→Shared→Prop} {env:Env} {s:Shared} {C N:Addr} {bm:List Value} {nid:String}
end
end X1
namespace X1
open PySem PySem.W
section
variable {prog:Program} {w:World} {A:Around} {E:Value→Shared→Prop} {s:Shared} {K:Frag} {x C:Addr} {ox:Obj} {od:Option Obj} {name:Str}
structure XGet (K:Frag) (C:Addr):Prop where
 ga:findIn K (.ref C) "__getattribute__"=some (some (.builtin "BaseException.__getattribute__"))
 gr:findIn K (.ref C) "__getattr__"=some none
 sub:mroIn K C (.type "BaseException")=some true
theorem ziK {tk:Tok} {v:Value} {R:Result→Shared→Prop} (X:K.In s.heap) (I:InstAt s.heap x ox C od) (T:XGet K C) (hf:findObj K C od name=some (.value v)) (h:R (.ok (.ret v)) s) :
  codeAny (model prog w) A (.call (.builtin "BaseException.__getattribute__") ⟨[.ref x,.str name tk],[]⟩) R s:=by
 obtain ⟨hh',g,d,t,os⟩:=s; have L0:=I.type (M:=model prog w); have L1:=looks_find (M:=model prog w) X I hf
 have LI:Looks (model prog w) hh' (isInstance (.ref x) (.type "BaseException")) true:=L0.andThen (looks_mroIn X T.sub)
 have hk:builtinKind "BaseException.__getattribute__"=some .slot:=by decide +kernel
 have hsp:splitId "BaseException.__getattribute__"=some ("BaseException","__getattribute__"):=by decide +kernel
 refine codeAny_call_builtin F.excAttr_ValueError.ga.plain F.entry_bexc_ga (@check_slot (model prog w) _ _ _ "BaseException.__getattribute__" "BaseException" "__getattribute__" (.ref x) [.str name tk] [] _ hk hsp LI (F.args_bexc_ga (.ref x) (.str name tk)) ?_); refine wpAny_bind (wpAny_pure (wpAny_bind (wpAny_pure (wpAny_bind (L0.at (wpAny_bind (L1.at ?_))))))); exact wpAny_pure h
theorem zjE {tk:Tok} {fill expr:Bool} {v:Value} {Q:Value→Shared→Prop} (X:K.In s.heap) (I:InstAt s.heap x ox C od) (T:XGet K C) (h:∀ R:Result→Shared→Prop,R (.ok (.ret v)) s→codeAny (model prog w) A (.call (.builtin "BaseException.__getattribute__") ⟨[.ref x,.str name tk],[]⟩) R s)
  (hh:handedIn v=true) (q:Q v s):wpAny (model prog w) A (getAttrBy (.ref x) (.str name tk) fill expr) Q E s:=by
 obtain ⟨hh',g,d,t,os⟩:=s; have L0:=I.type (M:=model prog w); have L1:=looks_findIn (M:=model prog w) X T.ga; have L2:=looks_findIn (M:=model prog w) X T.gr; unfold getAttrBy; refine wpAny_holding (wpAny_bind (L0.at (wpAny_bind (L1.at ?_))))
 show wpAny _ _ (if (onTheHeap (.ref C) && Value.builtin "BaseException.__getattribute__" == Value.builtin "object.__getattribute__")=true then _ else _) _ _ _
 rw [if_neg (by
  have z:(Value.builtin "BaseException.__getattribute__" == Value.builtin "object.__getattribute__")=false:=by decide +kernel
  rw [z,Bool.and_false]; exact Bool.false_ne_true)]
 unfold getAttrByItsOwn hookBefore; refine wpAny_bind (L2.at ?_); refine wpAny_bind (wpAny_attempt (wpAny_holding ?_)); unfold callGetattribute
 rw [if_neg (by cases expr <;> decide)]
 unfold boundAndCalled; rw [F.excAttr_ValueError.ga.bind]; refine wpAny_bind (wpAny_pure (wpAny_call (h _ ?_)))
 show wpAny _ _ (handedOut v) _ _ _
 rw [handedOut_of hh]; exact wpAny_pure q
theorem xget {expr:Bool} {v:Value} {Q:Value→Shared→Prop} (X:K.In s.heap) (I:InstAt s.heap x ox C od) (T:XGet K C) (hf:findObj K C od name=some (.value v)) (hh:handedIn v=true) (q:Q v { s with toks:=s.toks+1 }):wpAny (model prog w) A (getAttr (.ref x) name expr) Q E s:=by
 unfold getAttr
 exact wpAny_bind (wpAny_mkText (zjE (s:={ s with toks:=s.toks+1 }) X I T (fun R hR=>ziK (s:={ s with toks:=s.toks+1 }) X I T hf hR) hh q))
theorem ziL {tk:Tok} {R:Result→Shared→Prop} (X:K.In s.heap) (I:InstAt s.heap x ox C od) (T:XGet K C) (hf:findObj K C od "__class__"=some (.bind (.builtin "getset_descriptor.__get__") (.builtin "object.__class__"))) (hm:mroIn K C (.type "object")=some true)
  (h:R (.ok (.ret (.ref C))) s):codeAny (model prog w) A (.call (.builtin "BaseException.__getattribute__") ⟨[.ref x,.str "__class__" tk],[]⟩) R s:=by
 obtain ⟨hh',g,d,t,os⟩:=s; have L0:=I.type (M:=model prog w); have L1:=looks_find (M:=model prog w) X I hf
 have LI:Looks (model prog w) hh' (isInstance (.ref x) (.type "BaseException")) true:=L0.andThen (looks_mroIn X T.sub)
 have hk:builtinKind "BaseException.__getattribute__"=some .slot:=by decide +kernel
 have hsp:splitId "BaseException.__getattribute__"=some ("BaseException","__getattribute__"):=by decide +kernel
 refine codeAny_call_builtin F.excAttr_ValueError.ga.plain F.entry_bexc_ga (@check_slot (model prog w) _ _ _ "BaseException.__getattribute__" "BaseException" "__getattribute__" (.ref x) [.str "__class__" tk] [] _ hk hsp LI (F.args_bexc_ga (.ref x) (.str "__class__" tk)) ?_); refine wpAny_bind (wpAny_pure (wpAny_bind (wpAny_pure (wpAny_bind (L0.at (wpAny_bind (L1.at ?_)))))))
 show wpAny _ _ (Builtin.ObjectAttr.bindTo (.builtin "getset_descriptor.__get__") (.builtin "object.__class__") (.ref x) (.ref C)) _ _ _
 show wpAny _ _ (do let r ← holding [Value.builtin "object.__class__"] (call (.builtin "getset_descriptor.__get__") [.builtin "object.__class__",.ref x,.ref C]); ret r) _ _ _
 exact wpAny_bind (wpAny_holding (wpAny_call (class_get (ox:=ox) (od:=od) X I hm (wpAny_pure h))))
theorem xget_class? {Q:Option Value→Shared→Prop} (X:K.In s.heap) (I:InstAt s.heap x ox C od) (T:XGet K C) (hf:findObj K C od "__class__"=some (.bind (.builtin "getset_descriptor.__get__") (.builtin "object.__class__"))) (hm:mroIn K C (.type "object")=some true)
  (h:Q (some (.ref C)) { s with toks:=s.toks+1 }):wpAny (model prog w) A (getAttr? (.ref x) "__class__") Q E s:=by
 unfold getAttr? getAttrBy?
 refine wpAny_bind (wpAny_mkText (wpAny_bind (wpAny_attempt ?_)))
 exact zjE (s:={ s with toks:=s.toks+1 }) X I T (fun R hR=>ziL (s:={ s with toks:=s.toks+1 }) X I T hf hm hR) rfl (wpAny_pure h)
end
structure XIs (K:Frag) (C:Addr):Prop extends XGet K C where
 cl:(clsIn K C).isSome=true
 ha:findIn K (.ref C) "__class__"=some (some (.builtin "object.__class__"))
 hn:specialIn K (.builtin "object.__class__") "__get__"=some (some (.builtin "getset_descriptor.__get__"))
 tk:takesIn K (.builtin "object.__class__")=some true
 ob:mroIn K C (.type "object")=some true
theorem zhR {K:Frag} {C:Addr} {a g:Value} {od:Option Obj} {name:Str} (hc:(clsIn K C).isSome=true) (ha:findIn K (.ref C) name=some (some a)) (hg:specialIn K a "__get__"=some (some g)) (ht:takesIn K a=some true):findObj K C od name=some (.bind g a):=by
 obtain ⟨cd,e⟩:=Option.isSome_iff_exists.mp hc; unfold findObj; rw [e,Option.bind_some,ha]; simp [hg,ht]
theorem kitx_exc {K:Frag} {x C:Addr} (T:XIs K C):KitX K (.ref x) (.ref C) (fun h=>∃ ox od,InstAt h x ox C od) where
 ty:=fun _ _ _ ⟨_,_,I⟩=>I.type
 it:=fun _ _ X _=>by
  have hcD:=T.cl; unfold clsIn at hcD; split at hcD
  ·rename_i c' d' cd' sl' ho
   intro A' Q' E' s' k q; unfold isType loadHead; exact wpAny_bind (wpAny_loadPart (k _ _ (X _ _ ho)) (wpAny_pure q))
  ·cases hcD
 ne:=fun h tp dd its n sl X htp=>by
  have hcD:=T.cl
  refine Bool.eq_false_iff.mpr fun q=>?_
  have e:C=tp:=Value.ref.inj (beq_iff_eq.mp q)
  subst e; unfold clsIn at hcD; split at hcD
  ·rename_i c' d' cd' sl' ho
   have z:=(X _ _ ho).symm.trans htp; cases z
  ·cases hcD
 ca:=fun X ⟨_,_,I⟩ k=>xget_class? X I T.toXGet (zhR T.cl T.ha T.hn T.tk) T.ob k
end X1
namespace L2
open PySem PySem.Spec PyProof.Rows
structure InsT (K:PySem.W.Frag) (C:Addr):Prop where
 cl:Cls K C
 ha:PySem.W.findIn K (.ref C) "__class__"=some (some (.builtin "object.__class__"))
 hn:PySem.W.specialIn K (.builtin "object.__class__") "__get__"=some (some (.builtin "getset_descriptor.__get__"))
 htk:PySem.W.takesIn K (.builtin "object.__class__")=some true
 hm:PySem.W.mroIn K C (.type "object")=some true
def TyA (K:PySem.W.Frag) (H:Hp) (x:V) (t:Value):Prop:=(∃ n,t=.type n∧zrA K H x n)∨(∃ a C dx fs,x=.ref a∧H a=some (.ins C dx fs)∧t=.ref C∧InsT K C)∨∃ a C dd,x=.ref a∧H a=some (.ext (XAt a C dd))∧(∀ dx,dd=some dx→∃ fs,H dx=some (.xd fs))∧t=.ref C∧X1.XIs K C
def zts:V→Option Value
 | .ty n=>some (.type n)
 | .ref C=>some (.ref C)
 | _=>none
theorem zm5 {c:V} {u v:Value} (r:zbA c u) (h:zts c=some v):u=v:=by
 cases c with
 | ty n=>cases h; exact r
 | ref C=>cases h; exact r
 | _=>cases h
theorem zcw {K:PySem.W.Frag} {C D':Addr} {b:Bool} (hd:PySem.W.hasDictIn K D'=true) (ht:PySem.W.typeIn K (.ref D')=some (.type "type")) (hm:PySem.W.mroIn K C (.ref D')=some b) (hne:b=true∨(Value.ref C == Value.ref D')=false):PySem.W.kitOne K (.ref C) (.ref D')=some b:=by
 have hc:(PySem.W.clsIn K D').isSome=true:=by
  obtain ⟨cd,e,_⟩:=PySem.W.any_some hd; rw [e]; rfl
 have hk:PySem.W.kitCls K (.ref C) (.ref D')=some b:=by
  show (if ((PySem.W.clsIn K D').isSome && PySem.W.typeIn K (.ref D') == some (.type "type"))=true then PySem.W.subIn K (.ref C) (.ref D') else none)=some b
  rw [hc,ht,if_pos (by simp)]
  exact hm
 unfold PySem.W.kitOne
 by_cases e:(Value.ref C == Value.ref D')=true
 ·rw [if_pos e]
  rcases hne with h | h
  ·rw [h]
  ·rw [h] at e
   cases e
 ·rw [if_neg e]
  exact hk
section
variable {X:Cx}
theorem znN {pins:List (Addr × Obj)} {σ:St} {H:Hp} {s:Shared} {x:V} {u t:Value} (I:Inv X pins σ H s) (r1:zbA x u) (ty:TyA X.K H x t):∃ Hh,PySem.W.KitX X.K u t Hh∧Hh s.heap∧u≠.builtin "__main__.__loader__#opaque":=by
 rcases ty with ⟨n,rfl,ty⟩ | ⟨a,C,dx,fs,rfl,ea,rfl,T⟩ | ⟨a,C,dd,rfl,ea,hdd,rfl,T⟩
 ·cases x with
  | non=>cases (show n=_ from ty); cases (show u=Value.none from r1); exact ⟨_,PySem.W.kitx_none,True.intro,fun z=>nomatch z⟩
  | bl y=>cases (show n=_ from ty); cases (show u=Value.bool y from r1); exact ⟨_,PySem.W.kitx_bool,True.intro,fun z=>nomatch z⟩
  | int i=>cases (show n=_ from ty); obtain ⟨tk,z⟩:=(show ∃ t,u=Value.int i t from r1); cases z; exact ⟨_,PySem.W.kitx_int,True.intro,fun z=>nomatch z⟩
  | str y=>cases (show n=_ from ty); obtain ⟨tk,z⟩:=(show ∃ t,u=Value.str y t from r1); cases z; exact ⟨_,PySem.W.kitx_str,True.intro,fun z=>nomatch z⟩
  | ref a =>
   cases (show u=Value.ref a from r1)
   rcases ty with ⟨rfl,xs,hq⟩ | ⟨rfl,xs,hq⟩ | ⟨rfl,hq⟩
   ·obtain ⟨its,_,p,_⟩:=I.list hq
    obtain ⟨o,n,e1,c1,_⟩:=p
    exact ⟨_,PySem.W.kitx_list,⟨o,e1,c1⟩,fun z=>nomatch z⟩
   ·obtain ⟨its,_,p,_⟩:=I.tuple hq
    obtain ⟨o,h1,h2,_⟩:=p
    exact ⟨_,PySem.W.kitx_tuple,⟨o,h1,h2⟩,fun z=>nomatch z⟩
   ·have z:∃ o,s.heap.get? a=some o∧o.ExactDict:=by
     rcases hq with ⟨kvs,hq⟩ | ⟨kvs,hq⟩
     ·obtain ⟨_,_,_,_,o,_,_,e,ex,_⟩:=hq.ok I.hok
      exact ⟨o,e,ex⟩
     ·obtain ⟨_,_,_,_,o,_,_,e,ex,_⟩:=hq.ok I.hok
      exact ⟨o,e,ex⟩
    obtain ⟨o,h1,h2⟩:=z
    exact ⟨_,PySem.W.kitx_dict,⟨o,h1,h2.1⟩,fun z=>nomatch z⟩
  | _=>exact False.elim ty
 ·cases (show u=Value.ref a from r1)
  obtain ⟨mA,O,_⟩:=zfQ I.hok ea; obtain ⟨od,J,_⟩:=O.look
  exact ⟨_,PySem.W.kitx_own (T.cl.get _) T.cl.hd T.ha T.hn T.htk T.hm,J,fun z=>nomatch z⟩
 ·cases (show u=Value.ref a from r1)
  obtain ⟨⟨vs,sl,hx⟩,_⟩:=(show zbG X.prog X.w H s.heap a (.ext (XAt a C dd)) from I.hok a _ ea)
  refine ⟨_,X1.kitx_exc T,?_,fun z=>nomatch z⟩
  cases dd with
  | none=>exact ⟨_,none,hx,rfl,rfl,True.intro⟩
  | some dx =>
   obtain ⟨fs,hf⟩:=hdd dx rfl
   obtain ⟨mA,⟨o,es,ep,ho,_⟩,_⟩:=(show zbG X.prog X.w H s.heap dx (.xd fs) from I.hok dx _ hf)
   exact ⟨_,some o,hx,rfl,rfl,ho⟩
theorem zli:zcy X (.builtin "isinstance") (fun xs H Q=>∃ x t cv c b,xs=[x,cv]∧zts cv=some c∧TyA X.K H x t∧PySem.W.kitOne X.K t c=some b∧Q (.bl b) H):=by
 intro pins s σ H xs us Q I r h; obtain ⟨x,t,cv,c,b,rfl,hc,ty,e,q⟩:=h; obtain ⟨u,w',rfl,r1,r2⟩:=zpB r
 cases zm5 r2 hc
 obtain ⟨Hh,kx,hp,ne⟩:=znN I r1 ty
 exact PySem.W.kia_one kx I.kIn hp e ne fun tk=>⟨.bl b,H,I.tok _,rfl,q⟩
def zff (C:Addr) (fs:List Str):Sp:=fun vs H Q _=>∃ a dx us,vs=.ref a :: us∧us.length=fs.length∧H a=some (.ins C dx [])∧Q .non (upd H a (.ins C dx (fs.zip us)))
end
end L2
namespace PL
open PySem L2
section
variable {X:Cx} {pos:Pos}
theorem zjA.look {K:PySem.W.Frag} {H:Hp} {f:Str} {d:D}:∀ {fs:List (Str × V)} {ds:List (Str × D)},zjA K H fs ds→ds.lookup f=some d→∃ v,fs.lookup f=some v∧Den K H v d
 | _,_,.nil,h=>by simp at h
 | p :: fs,q :: ds,.cons r t,h=>by
  obtain ⟨p1,p2⟩:=p; obtain ⟨q1,q2⟩:=q; obtain ⟨r1,r2⟩:=r
  dsimp only at r1 r2
  subst r1
  by_cases e:f=q1
  ·have hb:(f == q1)=true:=beq_iff_eq.mpr e
   simp only [List.lookup,hb] at h ⊢; cases h; exact ⟨_,rfl,r2⟩
  ·have hb:(f == q1)=false:=beq_eq_false_iff_ne.mpr e
   simp only [List.lookup,hb] at h ⊢; exact zjA.look t h
theorem zjD {K:PySem.W.Frag} {H:Hp}:∀ (fs:List Str) {vs:List V} {ds:List D},zbP K H vs ds→zjA K H (fs.zip vs) (fs.zip ds)
 | [],_,_,_=>.nil
 | f :: fs,_,_,.nil=>by simp only [List.zip_nil_right]; exact .nil
 | f :: fs,_,_,.cons r t=>.cons ⟨rfl,r⟩ (zjD fs t)
theorem zfJ {x:Str} {C:Addr} (hm:X.mg x=some (.ref C)) (hg:Gl X x:=by rfl) (hd:(x == ("__debug__":Str))=false:=by decide):PE' X (.Name x pos) (tC' (.cls C)):=zou (v:=.ref C) hm rfl (fun _=>.cls C) hg hd
def ztt:D→Option Value
 | .ty n=>some (.type n)
 | .cls C=>some (.ref C)
 | _=>none
theorem zpo {K:PySem.W.Frag} {H:Hp} {v:V} {d:D} {c:Value} (h:Den K H v d) (e:ztt d=some c):zts v=some c:=by
 cases h with
 | ty n=>exact e
 | cls C=>exact e
 | _=>cases e
def TyD (K:PySem.W.Frag) (d:D) (t:Value):Prop:=(∃ n,t=.type n∧zo2 d=some n)∨(∃ C fs,d=.obj C fs∧t=.ref C∧InsT K C)∨∃ C fs,d=.exc C fs∧t=.ref C∧X1.XIs K C
theorem TyD.ok {K:PySem.W.Frag} {Hi H:Hp} {x:V} {d:D} {t:Value} (s:zaW Hi H) (den:Den K Hi x d) (h:TyD K d t):TyA K H x t:=by
 rcases h with ⟨n,rfl,h⟩ | ⟨C,fs,rfl,rfl,T⟩ | ⟨C,fs,rfl,rfl,T⟩
 ·exact .inl ⟨n,rfl,zmN s den h⟩
 ·obtain ⟨a,dx,fvs,rfl,ha,_⟩:=den.objI
  exact .inr (.inl ⟨a,C,dx,fvs,rfl,s _ _ ha,rfl,T⟩)
 ·obtain ⟨a,dd,rfl,ha,xd⟩:=den.excI
  refine .inr (.inr ⟨a,C,dd,rfl,s _ _ ha,fun dx e=>?_,rfl,T⟩)
  rcases xd with ⟨e',_⟩ | ⟨dx',fs',e',hf,_⟩
  ·rw [e'] at e; cases e
  ·rw [e'] at e
   cases e; exact ⟨fs',s _ _ hf⟩
def zi0 (K:PySem.W.Frag):RC':=fun ds Q=>∃ d t cd c b,ds=[d,cd]∧ztt cd=some c∧TyD K d t∧PySem.W.kitOne K t c=some b∧Q (.bl b)
theorem zrq:Cal X (.builtin "isinstance") (zi0 X.K):=⟨_,zli,by
 rintro Hi H vs ds Q Q2 s dl ⟨d,t,cd,c,b,rfl,hc,ty,e,q⟩ fin
 obtain ⟨v,w,rfl,d1,d2⟩:=zri dl; exact ⟨v,t,w,c,b,rfl,zpo d2 hc,ty.ok s.sub d1,e,fin Hi H _ _ (Ext.refl s) (.bl _) q⟩⟩
structure Mak (P:Program) (w:World) (K:PySem.W.Frag) (mg:Str→Option Value) (base:Heap) (k:Nat) (x:Str) (C:Addr) (fs:List Str):Prop where
 ex:∃ f fd ps,Mk K C f∧FnOk P w K mg base CX0 k f fd ps (zff C fs)∧zb1 K fd ps []∧mg x=some (.ref C)
def zJ (C:Addr) (fs:List Str) (t:TA'):TE':=fun Γ Q=>t Γ fun ds Γ1=>ds.length=fs.length∧Q (.obj C (fs.zip ds)) Γ1
theorem zdM {k:Nat} {x:Str} {C:Addr} {fs:List Str} {p:Pos} {e:Expr} {es:List Expr} {t:TA'} (M:Mak X.prog X.w X.K X.mg X.base k x C fs) (hr:Room (k+1) X.A) (ha:PA' X (e :: es) t) (hg:Gl X x:=by rfl) (hdb:(x == ("__debug__":Str))=false:=by decide) :
  PE' X (.Call (.Name x p) (e :: es) [] pos) (zJ C fs t):=by
 obtain ⟨f,fd,ps,mk,F,b,hm⟩:=M.ex; refine ⟨PE.weak (zkm (E:=E0) (dvs:=[]) mk F hr hg hm b .nil ze7 ha.pa hdb (zaP (zX ha.pl).1) (zaR (zX ha.pl).2)) ?_⟩
 rintro σ H Q ⟨W,Hi,Γ,Q',g,h,fin⟩
 refine ⟨W,Hi,Γ,_,g,h,?_⟩
 rintro vs H1 Hi1 Γ1 ds s1 g1 dl ⟨hl,q⟩
 intro a dx hna hdx ne; rw [List.append_nil]
 refine ⟨a,dx,vs,rfl,by rw [zg dl]; exact hl,zh,rfl,?_⟩
 rw [zdX]
 have e1:=Ext.newO g1.fz hdx (.own a) (fun _ z=>by cases z)
 have hna':upd H1 dx (.own a) a=none:=by rw [zo (fun z=>ne z.symm)]; exact hna
 have e2:=Ext.new e1.fz hna' (.ins C dx (fs.zip vs)); have e3:=e1.trans e2; exact fin _ _ ⟨_,_,Γ1,s1.trans e3.hi,g1.ext e3,Den.mkO zh ((zjD fs dl).mono e3.hi),q⟩
end
end PL
namespace L2
open PySem PySem.Spec PyProof.Rows
section
variable {X:Cx} {pins:List (Addr × Obj)} {σ:St} {H:Hp} {s:Shared} {a:Addr} {y d:V} {u r:Value} {o:Option V} {A:Around} {E:Value→Shared→Prop}
theorem zkT (I:Inv X pins σ H s) {kvs:List (List Key × V)} {ep:Nat} (e:H a=some (.dE kvs ep)) :
  s.TypeIs (.ref a) "dict"∧(∀ b,Value.ref a=.ref b→∃ ob,s.heap.get? b=some ob∧ob.dict=none):=by
 obtain ⟨_,hd,xs,_,dd,_⟩:=zek I.hok e
 refine ⟨dd.typeIs,fun b q=>?_⟩
 cases q; obtain ⟨ob,_,_,h1,h2,_⟩:=dd; exact ⟨ob,h1,h2.2.1⟩
end
section
variable {X:Cx} {o e f:Expr} {apos cpos:Pos} {td ty tx:TE}
end
theorem ziQ {a b c:Int} (ha:-(2 ^ 60)≤a) (ha':a<2 ^ 60) (hb:-(2 ^ 60)≤b) (hb':b<2 ^ 60) (hc:-(2 ^ 30)<c) (hc':c<2 ^ 30):Builtin.Range.small a b c=true:=by
 have h1:=PyProof.Rows.rangeSize_toNat a b c; have h2:=PyProof.Rows.rangeSize_toNat_le a b c; unfold Builtin.Range.small; simp only [Builtin.Range.rangeFitsLong,Bool.and_eq_true,Bool.or_eq_true,decide_eq_true_eq,beq_iff_eq]
 refine ⟨⟨⟨⟨by omega,by omega⟩,by omega⟩,by omega⟩,.inr ?_⟩
 split <;> (simp [Builtin.Range.rangeFitsLong]; omega)
def zr1 (lo c:Int) (n:Nat):It:=⟨fun i _=>i<n,fun i H x H'=>H'=H∧x=.int (lo+(i:Nat) * c),fun i _=>n≤i⟩
theorem zhd {P:Program} {w:World} {K:PySem.W.Frag} {tg:Expr} (it:Addr) (lo c:Int) (n:Nat):Turn P w K tg (zr1 lo c n) [it] it (fun i h=>IsRangeIter h it (lo+(i:Nat) * c) ((n:Int)-(i:Nat)) c) where
 mem:=by simp
 obj:=fun i h st b hb=>by
  have e:b=it:=by simpa using hb
  subst e
  exact ⟨_,st,fun v z=>by
   have z':Data.fields _=Data.cell v:=z
   cases z'⟩
 keep:=fun i h h' st k=>k it (by simp) _ st
 item:=by
  intro X hP hw hK hc i pins s σ H E I hf st hg
  subst hP hw hK
  obtain ⟨f0,f1,f2,f3,f4,f5⟩:=hf it (by simp)
  have W:=Walks.range (prog:=X.prog) (w:=X.w) (I.ok.hd hc) it lo c n
  refine W.item i s _ _ hg st fun v h' tk hv st' kk=>?_
  obtain ⟨t,rfl⟩:=hv
  have I1:Inv X pins σ H { s with heap:=h',toks:=tk }:=I.turned (fun b o hb e=>kk b o (by simpa using hb) e) f0 f1 f3 f4 f5
  exact ⟨_,rfl,zjm (s:={ s with heap:=h',toks:=tk }) (n:="range_iterator") st' rfl rfl (by decide) ⟨.int (lo+(i:Nat) * c),H,I1,⟨t,rfl⟩,⟨rfl,rfl⟩,st',fun b hb=>(hf b hb).1⟩⟩
 done:=by
  intro X hP hw hK hc i pins s σ H E I hf st hg
  subst hP hw hK
  obtain ⟨f0,f1,f2,f3,f4,f5⟩:=hf it (by simp)
  exact wpAny_pyNext_range_end (I.ok.hd hc) st (by have:n≤i:=hg; omega) fun h' eb=>⟨rfl,I.turned (t':=s.toks) (fun b o hb e=>eb b o hb e) f0 f1 f3 f4 f5⟩
 self:=fun _ _ _ _ _ st h=>wpAny_pyIter_rangeiter st h
section
variable {X:Cx} {tg:Expr}
theorem zj0 {pins:List (Addr × Obj)} {σ:St} {H:Hp} {s:Shared} {R:It→Hp→Prop} {E:Value→Shared→Prop} {lo hi c:Int} {t u v:Tok} {tk:Nat} (I:Inv X pins σ H s) (h1:-(2 ^ 60)≤lo) (h2:lo<2 ^ 60) (h3:-(2 ^ 60)≤hi) (h4:hi<2 ^ 60) (h5:-(2 ^ 30)<c) (h6:c<2 ^ 30)
  (q:R (zr1 lo c (Builtin.Range.rangeSize lo hi c).toNat) H):wpAny (model X.prog X.w) X.A (pyIter (.ref s.heap.objs.size)) (PIE X pins σ tg R) E { s with heap:=s.heap.push { cls:=.type "range",data:=.fields #[.int lo t,.int hi u,.int c v] },toks:=tk }:=by
 refine wpAny_pyIter_range (IsRange.new ..) (ziQ h1 h2 h3 h4 h5 h6) ?_
 have I1:Inv X pins σ H { s with heap:=s.heap.push { cls:=.type "range",data:=.fields #[.int lo t,.int hi u,.int c v] },toks:=tk }:=I.kept fun b o e=>Heap.get?_push_of_some _ e
 refine ⟨(s.heap.push { cls:=.type "range",data:=.fields #[.int lo t,.int hi u,.int c v] }).objs.size,[(s.heap.push { cls:=.type "range",data:=.fields #[.int lo t,.int hi u,.int c v] }).objs.size],_,_,H,rfl,
  I1.kept (t':=tk) fun b o e=>Heap.get?_push_of_some _ e,zhd _ lo c (Builtin.Range.rangeSize lo hi c).toNat,?_,fun b hb=>?_,q⟩
 ·have e1:lo+((0:Nat):Int) * c=lo:=by simp
  have e2:(((Builtin.Range.rangeSize lo hi c).toNat:Nat):Int)-((0:Nat):Int)=Builtin.Range.rangeSize lo hi c:=by rw [← PyProof.Rows.rangeSize_toNat]; simp
  show IsRangeIter _ _ (lo+((0:Nat):Int) * c) ((((Builtin.Range.rangeSize lo hi c).toNat:Nat):Int)-((0:Nat):Int)) c
  rw [e1,e2]; exact Heap.get?_push_size _ rfl
 ·have e:b=(s.heap.push { cls:=.type "range",data:=.fields #[.int lo t,.int hi u,.int c v] }).objs.size:=by simpa using hb
  subst e; exact I1.fpOk (Nat.le_refl _) (I1.hok.fresh (Nat.le_refl _))
def zs8 (ta:TA):TI:=fun σ H R=>ta σ H fun vs H1=>∃ i j c:Int,vs=[.int i,.int j,.int c]∧(-(2 ^ 60)≤i∧i<2 ^ 60∧-(2 ^ 60)≤j∧j<2 ^ 60∧-(2 ^ 30)<c∧c<2 ^ 30∧c≠0)∧R (zr1 i c (Builtin.Range.rangeSize i j c).toNat) H1
theorem zkf {a b c:Expr} {ta:TA} {p pos:Pos} (hg:Gl X "range") (hm:X.mg "range"=none) (ha:PA X [a,b,c] ta) (hs:starEach [a,b,c] X.env=(false,eval a X.env) :: starEach [b,c] X.env) (hpl:(backTo pos (starEach [b,c] X.env)).any (·.1)=false) :
  PI X tg (.Call (.Name "range" p) [a,b,c] [] pos) (zs8 ta):=by
 intro pins s σ H R I h
 refine Call_ (zeh I hg hm boot_range (PyProof.Rows.callWith_type1 (thn (ha pos pins s σ H _ I h) fun us s1 ⟨vs,H1,I1,r1,q1⟩=>?_) hs hpl))
 obtain ⟨i,j,k,e,⟨q1,q2,q3,q4,q5,q6,q7⟩,q⟩:=q1
 subst e
 cases r1 with
 | cons r rr =>
  cases rr with
  | cons r' rr =>
   cases rr with
   | cons r'' rr =>
    cases rr; obtain ⟨t,rfl⟩:=r; obtain ⟨t',rfl⟩:=r'; obtain ⟨t'',rfl⟩:=r''
    exact call_range_3 q7 (zj0 I1 q1 q2 q3 q4 q5 q6 q) (Or.inl (PyProof.noPylong_small (by omega)))
end
end L2
namespace PL
open PySem L2
section
variable {X:Cx} {pos:Pos}
theorem OptD.getD {K:PySem.W.Frag} {H:Hp} {o:Option V} {d:Option D} {v:V} {e:D} (h:OptD K H o d) (r:Den K H v e):Den K H (o.getD v) (d.getD e):=by
 cases h with
 | none=>exact r
 | some h=>exact h
def zfC (neg:Bool):R2':=fun x y Q=>∃ (l:List Nat) (ms:List (List Nat)),x=.str l∧(y=.tup (ms.map .str)∨y=.lst (ms.map .str))∧Q (.bl (if neg then !decide (l ∈ ms) else decide (l ∈ ms)))
theorem zfV {K:PySem.W.Frag} {Hi:Hp}:∀ {vs:List V} {ms:List (List Nat)},zbP K Hi vs (ms.map .str)→vs=ms.map fun m=>V.str (st m)
 | [],[],_=>rfl
 | v :: vs,m :: ms,.cons r t=>by rw [List.map_cons,← r.strI,← zfV t]
 | [],_ :: _,h=>nomatch h
 | _ :: _,[],h=>nomatch h
theorem zfS (l:List Nat):∀ ms:List (List Nat),inV (.str (st l)) (ms.map fun m=>V.str (st m))=decide (l ∈ ms)
 | []=>rfl
 | m :: ms=>by
  have ih:=zfS l ms
  unfold inV at ih ⊢
  rw [List.map_cons,List.any_cons,ih]
  have e:eqV (.str (st m)) (.str (st l))=decide (m=l):=by
   show decide (st m=st l)=_
   by_cases h:m=l
   ·rw [h]; simp
   ·rw [decide_eq_false h,decide_eq_false (fun z=>h (by
     have:=congrArg (fun x:Str=>x.cps.toList) z
     simpa [st] using this))]
  rw [e]
  by_cases h:m=l
  ·subst h; simp
  ·have h':¬ l=m:=fun z=>h z.symm
   simp [h,h']
theorem zgK (ms:List (List Nat)):(ms.map fun m=>V.str (st m)).all zeZ=true:=by
 rw [List.all_eq_true]; intro x hx; obtain ⟨m,_,rfl⟩:=List.mem_map.mp hx; rfl
theorem zir {K:PySem.W.Frag} (neg:Bool):zha K (rIn K neg) (zfC neg):=by
 rintro Hi H x y dx dy Q Q2 s d1 d2 ⟨l,ms,rfl,hy,q⟩ fin
 cases d1.strI
 rcases hy with rfl | rfl
 ·obtain ⟨a,vs,rfl,h1,h2⟩:=d2.tupJ
  rw [zfV h2] at h1; refine ⟨a,_,rfl,.inr (SqT.of (s.sub _ _ h1)),rfl,zgK ms,?_⟩; rw [zfS]; exact fin Hi H _ _ (Ext.refl s) (.bl _) q
 ·obtain ⟨a,vs,rfl,h1,h2⟩:=d2.lstI
  rw [zfV h2] at h1; refine ⟨a,_,rfl,.inl (zas s.sub h1),rfl,zgK ms,?_⟩; rw [zfS]; exact fin Hi H _ _ (Ext.refl s) (.bl _) q
theorem zmp:Op2 X (compareOp .In) (zfC false):=⟨_,zks,zir false⟩
theorem zhG:Op2 X (compareOp .NotIn) (zfC true):=⟨_,zgp,zir true⟩
instance {neg:Bool}:MR2 (zfC neg):=⟨fun _ _ _ _ h ⟨l,ms,a,b,q⟩=>⟨l,ms,a,b,h _ q⟩⟩
theorem zmQ {K:PySem.W.Frag} {Hi:Hp} (lo c:Int) (n:Nat):ItD K Hi (zr1 lo c n) ((List.range n).map fun k=>.int (lo+(k:Nat) * c)):=by
 intro Hi' H' s f
 refine ⟨fun i d e=>?_,by show n≤_; simp⟩
 have hi:i<n:=by
  have:=(List.getElem?_eq_some_iff.mp e).1
  simpa using this
 rw [List.getElem?_map,List.getElem?_range hi] at e; cases e; refine ⟨hi,?_⟩
 rintro x H'' ⟨rfl,rfl⟩
 exact ⟨Hi',Ext.refl f,.int _⟩
def ztN (i j c:Int):List D:=(List.range (Builtin.Range.rangeSize i j c).toNat).map fun k=>.int (i+(k:Nat) * c)
def zQ (t:TA'):TI':=fun Γ Q=>t Γ fun ds Γ1=>∃ i j c:Int,ds=[.int i,.int j,.int c]∧(-(2 ^ 60)≤i∧i<2 ^ 60∧-(2 ^ 60)≤j∧j<2 ^ 60∧-(2 ^ 30)<c∧c<2 ^ 30∧c≠0)∧Q (ztN i j c) Γ1
theorem ztn {K:PySem.W.Frag} {H:Hp} {vs:List V} {d e f:D} (h:zbP K H vs [d,e,f]):∃ v w u,vs=[v,w,u]∧Den K H v d∧Den K H w e∧Den K H u f:=by
 cases h with
 | cons r t =>
  cases t with
  | cons r' t=>
   cases t with
   | cons r'' t=>cases t; exact ⟨_,_,_,rfl,r,r',r''⟩
theorem zi6 {a b c tg:Expr} {t:TA'} {p pos:Pos} (hm:X.mg "range"=none) (ha:PA' X [a,b,c] t) (hg:Gl X "range":=by rfl):PI' X tg (.Call (.Name "range" p) [a,b,c] [] pos) (zQ t):=by
 refine ⟨PI.weak (zkf hg hm ha.pa (zaP (zX ha.pl).1) (zaR (zX ha.pl).2)) ?_⟩
 rintro σ H R ⟨W,Hi,Γ,Q',g,h,fin⟩
 refine ⟨W,Hi,Γ,_,g,h,?_⟩
 rintro vs H1 Hi1 Γ1 ds s1 g1 dl ⟨i,j,c,rfl,b,q⟩
 obtain ⟨v,w,u,rfl,d1,d2,d3⟩:=ztn dl
 exact ⟨i,j,c,by rw [d1.intI,d2.intI,d3.intI],b,fin _ H1 Hi1 Γ1 _ s1 g1 (zmQ i c _) q⟩
end
end PL
namespace PL
open PySem L2
section
variable {X:Cx} {Q:D→Prop}
instance:MR2 zi1:=⟨fun _ _ _ _ h ⟨i,j,a,b,c,q⟩=>⟨i,j,a,b,c,h _ q⟩⟩
def zhp:R2':=fun x y Q=>zgj x y Q∨zi1 x y Q
theorem zcr:Op2 X (binaryOp .Add) zhp:=zs0.or zqL
instance:MR2 zhp:=⟨fun _ _ _ _ h q=>q.imp (MR2.mono (r:=zgj) _ _ _ _ h) (MR2.mono (r:=zi1) _ _ _ _ h)⟩
instance {neg:Bool}:MR2 (zne neg):=⟨fun _ _ _ _ h ⟨i,j,a,b,q⟩=>⟨i,j,a,b,h _ q⟩⟩
def zpw:R2':=fun x y Q=>zlW false x y Q∨zne false x y Q∨zfC false x y Q
theorem zoN (hu:X.A.units+1<cLine):Op2 X (compareOp .In) zpw:=zsY.or ((zsX hu).or zmp)
instance:MR2 zpw:=⟨fun _ _ _ _ h q=>q.imp (MR2.mono (r:=zlW false) _ _ _ _ h) (fun q=>q.imp (MR2.mono (r:=zne false) _ _ _ _ h) (MR2.mono (r:=zfC false) _ _ _ _ h))⟩
def zfA:R2':=fun x y Q=>zfB x y Q∨zne true x y Q∨zfC true x y Q
theorem zil (hu:X.A.units+1<cLine):Op2 X (compareOp .NotIn) zfA:=zoM.or ((zml hu).or zhG)
instance:MR2 zfA:=⟨fun _ _ _ _ h q=>q.imp (MR2.mono (r:=zfB) _ _ _ _ h) (fun q=>q.imp (MR2.mono (r:=zne true) _ _ _ _ h) (MR2.mono (r:=zfC true) _ _ _ _ h))⟩
instance:MR2 zho:=⟨fun _ _ _ _ h ⟨i,j,v,a,b,c,q⟩=>⟨i,j,v,a,b,c,h _ q⟩⟩
def ziY:R2':=fun x y Q=>zlu x y Q∨zho x y Q
theorem i_A (hu:X.A.units+1<cLine):Ixs X ziY:=zs6.or (zs7 hu)
instance:MR2 ziY:=⟨fun _ _ _ _ h q=>q.imp (MR2.mono (r:=zlu) _ _ _ _ h) (MR2.mono (r:=zho) _ _ _ _ h)⟩
def zsx:RS':=fun x lo hi Q=>zrJ x lo hi Q∨zn3 x lo hi Q
theorem s_A:Sli X zsx:=zum.or zsq
def ziX:RC':=fun ds Q=>zgi ds Q∨ziW ds Q
theorem zei:Cal X (.builtin "len") ziX:=ztx.or zrp
instance:MRC ziX:=⟨fun _ _ _ h q=>q.imp (MRC.mono (r:=zgi) _ _ _ h) (MRC.mono (r:=ziW) _ _ _ h)⟩
def zid:zlr:=fun ds Q=>zeC ds Q∨zdH ds Q
theorem zpr (hc:X.calm=true):CalO X (.type "list") zid:=zro.or (zpq hc)
instance:MRCO zid:=⟨fun _ _ _ h q=>q.imp (MRCO.mono (r:=zeC) _ _ _ h) (MRCO.mono (r:=zdH) _ _ _ h)⟩
@[simp] theorem zr8:D.tup []=plc []:=rfl
@[simp] theorem zr7 (l:List Nat):D.tup [.str l]=plc [l]:=rfl
@[simp] theorem zdI (i j:Int):zhp (.int i) (.int j) Q↔Q (.int (i+j)):=by simp [zhp,zi1]
@[simp] theorem zqa (l m:List Nat):zhp (.str l) (.str m) Q↔l.length+m.length≤sizeLine∧Q (.str (l ++ m)):=by simp [zhp,zi1]
@[simp] theorem zsF (c:Nat) (l:List Nat):zpw (.str [c]) (.str l) Q↔Q (.bl (decide (c ∈ l))):=by simp [zpw,zne,zfC]
@[simp] theorem zlU (ds:List D) (i:Int):ziY (.lst ds) (.int i) Q↔∃ d,atI ds i=some d∧Q d:=by simp [ziY,zho]
@[simp] theorem zep (ds:List D) (i:Int):ziY (.tup ds) (.int i) Q↔∃ d,atI ds i=some d∧Q d:=by simp [ziY,zho]
@[simp] theorem zrO (l:List Nat) (i:Int):ziY (.str l) (.int i) Q↔l.length≤sizeLine∧∃ c,atI l i=some c∧Q (.str [c]):=by simp [ziY,zho]
@[simp] theorem zrI (ds:List D) (lo hi:Option Int):zsx (.lst ds) lo hi Q↔Q (.lst (zfX ds lo hi)):=by simp [zsx,zn3]
theorem ziF {α β:Type} (f:α→β) (xs:List α) (lo hi:Option Int):zfX (xs.map f) lo hi=(zfX xs lo hi).map f:=by
 unfold zfX; rw [List.length_map,List.map_take,List.map_drop]
@[simp] theorem zp6 (l:List Nat):ziX [.str l] Q↔l.length≤sizeLine∧Q (.int (l.length:Nat)):=by simp [ziX,ziW]
@[simp] theorem zp7 (l:List D):ziX [.lst l] Q↔Q (.int (l.length:Nat)):=by simp [ziX,ziW]
@[simp] theorem zrE (p:List (List Nat)):zpZ (plc p)=some (p.map .str):=rfl
@[simp] theorem ziV {Q:OD→Prop} (l:List D):zid [.tup l] Q↔Q (.lst l):=by simp [zid,zeC,zdH]
theorem zhu {i:Int} {j:Nat} {p pos:Pos}:PE' X (.UnaryOp .USub (.Constant (.int i) j p) pos) (tC' (.int (-i))):=by
 refine zhw (v:=.int (-i)) (PE.weak (zsL zpC zni) ?_) fun _=>.int _
 intro σ H Q q; exact ⟨i,rfl,q⟩
theorem zcm {A:Around} {k:Nat} (hr:Room k A):A.units+100<cLine:=by have:=hr.un; omega
@[simp] theorem zuF {α:Type} (a:α) (l:List α):atI (a :: l) 0=some a:=zbH (j:=0) rfl
@[simp] theorem ztC {α:Type} (a b:α) (l:List α):atI (a :: b :: l) 1=some b:=zbH (j:=1) rfl
@[simp] theorem zuE {α:Type} (a b c:α) (l:List α):atI (a :: b :: c :: l) 2=some c:=zbH (j:=2) rfl
@[simp] theorem zuD {α:Type} (a b c d:α) (l:List α):atI (a :: b :: c :: d :: l) 3=some d:=zbH (j:=3) rfl
@[simp] theorem zt2 {CX:CXT} {P:Program} {w:World} {K:PySem.W.Frag} {mg:Str→Option Value} {base:Heap} {N:List Str} {q:Str} {sc:Scope} {f:Addr} {cd:Value} {A:Around} {o:List Env} {s:Shared} {H:Hp} {E:XK}:(ze4 CX P w K mg base N q sc f cd A o s H E).K=K:=rfl
@[simp] theorem zt1 {CX:CXT} {P:Program} {w:World} {K:PySem.W.Frag} {mg:Str→Option Value} {base:Heap} {N:List Str} {q:Str} {sc:Scope} {f:Addr} {cd:Value} {A:Around} {o:List Env} {s:Shared} {H:Hp} {E:XK}:(ze4 CX P w K mg base N q sc f cd A o s H E).N=N:=rfl
@[simp] theorem zj3 (K:PySem.W.Frag) (C c:Addr) (fs:List (Str × D)):zi0 K [.obj C fs,.cls c] Q↔InsT K C∧∃ b,PySem.W.kitOne K (.ref C) (.ref c)=some b∧Q (.bl b):=by
 constructor
 ·rintro ⟨d,t,cd,v,b,e,h1,h2,h3,q⟩
  injection e with e1 e2
  injection e2 with e2 _
  subst e1 e2
  cases h1
  rcases h2 with ⟨n,_,h2⟩ | ⟨C',fs',e,rfl,T⟩ | ⟨C',fs',e,_,_⟩
  ·cases h2
  ·cases e
   exact ⟨T,b,h3,q⟩
  ·cases e
 ·rintro ⟨T,b,h,q⟩
  exact ⟨_,_,_,_,b,rfl,rfl,.inr (.inl ⟨C,fs,rfl,rfl,T⟩),h,q⟩
theorem ziZ (K:PySem.W.Frag) {d:D} {n:String} (hk:zo2 d=some n) {cd:D} {c:Value} (hc:ztt cd=some c):zi0 K [d,cd] Q↔∃ b,PySem.W.kitOne K (.type n) c=some b∧Q (.bl b):=by
 constructor
 ·rintro ⟨d',t,cd',v,b,e,h1,h2,h3,q⟩
  injection e with e1 e2
  injection e2 with e2 _
  subst e1 e2
  rw [hc] at h1; cases h1
  rcases h2 with ⟨m,rfl,h2⟩ | ⟨C',fs',rfl,rfl,T⟩ | ⟨C',fs',rfl,rfl,T⟩
  ·rw [hk] at h2
   cases h2; exact ⟨b,h3,q⟩
  ·cases hk
  ·cases hk
 ·rintro ⟨b,h,q⟩
  exact ⟨d,_,cd,c,b,rfl,hc,.inl ⟨n,rfl,hk⟩,h,q⟩
@[simp] theorem zp8 (K:PySem.W.Frag) (c:String) (x:List Nat):zi0 K [(.str x),.ty c] Q↔∃ b,PySem.W.kitOne K (.type "str") (.type c)=some b∧Q (.bl b):=ziZ K rfl rfl
end
end PL
namespace X1
open PySem PySem.W
section
variable {prog:Program} {w:World} {A:Around} {E:Value→Shared→Prop} {s:Shared} {K:Frag} {x C:Addr} {vs:Array Value} {sl:Array (Option Value)} {name:Str} {v:Value}
end
end X1
namespace X1
open PySem PySem.W
section
variable {prog:Program} {w:World} {A:Around} {E:Value→Shared→Prop} {h:Heap} {g:Array GenState} {d:Drawn} {t:Nat} {os:OsState} {C N e:Addr} {bm bmB:List Value} {B nid iid:String} {zdD:List Value} {vs:Array Value} {dd:Option Addr} {sl:Array (Option Value)}
end
end X1
namespace L2
open PySem PySem.Spec PyProof.Rows
section
variable {P:Program} {w:World} {K:PySem.W.Frag} {mg:Str→Option Value} {base:Heap} {N:List Str} {qual:Str} {scope:Scope} {f:Addr} {cd:Value} {A:Around} {outer:List Env} {s s':Shared} {H H':Hp} {E:XK} {pins:List (Addr × Obj)} {σ:St} {e C:Addr} {dd:Option Addr}
end
end L2
namespace L2
open PySem PySem.Spec PyProof.Rows
structure FlyI (X:Cx) (pins:List (Addr × Obj)) (H:Hp) (h:Heap) (e C:Addr) (dd:Option Addr):Prop where
 fe:zf3 X pins H e
 ex:∃ vs,X1.Ex h e (.ref C) dd vs∧1<vs.size∧X1.Hd h e vs .none (zf3 X pins H)
abbrev XS:=St→XK
def XP (X:Cx) (pins:List (Addr × Obj)) (E:XS) (e:Value) (s':Shared):Prop:=∃ ae C dd σ' H',e=.ref ae∧Inv X pins σ' H' s'∧FlyI X pins H' s'.heap ae C dd∧E σ' (.ref C) dd H'
abbrev TEx:=St→Hp→VK→XK→Prop
abbrev TSx:=Ends→XS→St→Hp→Prop
section
variable {X:Cx} {st:Stmt} {zdD:List Stmt} {t u:TSx} {e:Expr} {te:TEx} {pos:Pos}
end
section
variable {P:Program} {w:World} {K:PySem.W.Frag} {mg:Str→Option Value} {base:Heap}
end
end L2
namespace L2
open PySem PySem.Spec PyProof.Rows
def del (H:Hp) (a:Addr):Hp:=fun b=>if b=a then none else H b
section
variable {X:Cx}
end
end L2
namespace L2
open PySem PySem.Spec PyProof.Rows
section
variable {X:Cx}
end
end L2
namespace L2
open PySem PySem.Spec PyProof.Rows
section
variable {X:Cx} {pins:List (Addr × Obj)} {σ:St} {H:Hp} {s:Shared}
end
section
variable {X:Cx}
end
end L2
namespace PL
open PySem L2
abbrev XW:=Addr→List (Str × D)→Sts→Prop
abbrev zuI:=Sts→(D→Sts→Prop)→XW→Prop
abbrev zt3:=Ends'→XW→Sts→Prop
section
variable {X:Cx} {pos:Pos} {e:Expr} {te:zuI} {st:Stmt} {zdD:List Stmt} {t u:zt3}
abbrev ztD:=List D→(Res→Prop)→(Addr→List (Str × D)→Prop)→Prop
end
section
variable {X:Cx} {k:Nat} {x:Str} {ps:List Str} {sp:ztD} {p pos:Pos} {e:Expr} {es:List Expr} {t:TA'}
end
section
variable {P:Program} {w:World} {K:PySem.W.Frag} {mg:Str→Option Value} {base:Heap}
theorem zea {N ps:List Str} {vs:List V} {ds:List D} {Hi H:Hp} (hlen:ds.length=ps.length) (hpl:ps.length≤N.length) (sb:Fz Hi H) (dl:zbP K Hi vs ds):Good K N.length ⟨H,Hi,[]⟩ Hi (zca N ds) (L2.start N vs) H:=by
 have hvl:=zg dl
 refine ⟨?_,sb,fun b o e _=>e,fun b o e=>⟨o,e⟩,fun b o e=>rfl,fun j d e=>?_,fun j o e=>?_,fun j k o o' b e=>?_,fun j d b xs e=>?_⟩
 ·unfold L2.start
  rw [List.length_append,List.length_map,List.length_replicate]; omega
 all_goals
  unfold zca at e
  by_cases hj:j<ds.length
  ·rw [List.getElem?_append_left (by simpa using hj),List.getElem?_map,List.getElem?_eq_getElem hj] at e
   try cases e
   try
    obtain ⟨v,e1,e2⟩:=zaU dl (List.getElem?_eq_getElem hj); refine ⟨v,?_,e2⟩; unfold L2.start
    rw [List.getElem?_append_left (by rw [List.length_map]; omega),List.getElem?_map,e1]
    rfl
  ·rw [List.getElem?_append_right (by simpa using hj),List.getElem?_replicate] at e
   split at e <;> cases e
end
section
variable {X:Cx} {k:Nat} {x fld:Str} {C:Addr} {ok:V→Hp→Prop} {okD:D→Prop} {p cpos pos:Pos} {e:Expr} {ta:TA'}
end
section
variable {X:Cx} {M:Addr} {x n:Str} {body suite:List Stmt} {b0:Stmt} {tb:zt3} {ts:TS'} {p hpos pos:Pos}
end
end PL
namespace L2
open PySem PySem.Spec PyProof.Rows PySem.Builtin PySem.Builtin.Str
structure XFl (K:PySem.W.Frag) (C:Addr):Prop where
 get:X1.XGet K C
 hd:PySem.W.hasDictIn K C=true
section
variable {X:Cx}
def zsj (K:PySem.W.Frag) (ta:TE) (f:Str):TE:=fun σ H Q=>ta σ H fun x H1=>(∃ a C dx fs v,x=.ref a∧H1 a=some (.ins C dx fs)∧Cls K C∧zaX K C f∧fs.lookup f=some v∧Q v H1) ∨
 ∃ a C dx fs v,x=.ref a∧H1 a=some (.ext (XAt a C (some dx)))∧H1 dx=some (.xd fs)∧XFl K C∧zaX K C f∧fs.lookup f=some v∧Q v H1
theorem zov {e:Expr} {f:Str} {pos:Pos} {ta:TE} (he:PE X e ta) (hb:attributeBase e f X.env (eval e X.env)=eval e X.env):PE X (.Attribute e f pos) (zsj X.K ta f):=by
 intro pins s σ H Q I h
 refine zln hb (thn (he pins s σ H _ I h) fun u s1 ⟨x,H1,I1,rx,q⟩=>?_)
 rcases q with ⟨a,C,dx,fs,v,rfl,ea,c,n,l,q⟩ | ⟨a,C,dx,fs,v,rfl,ea,ed,c,n,l,q⟩
 ·obtain rfl:u=Value.ref a:=rx
  exact zfn I1 ea c n l fun u' s2 I2 ru=>⟨v,H1,I2,ru,q⟩
 ·obtain rfl:u=Value.ref a:=rx
  obtain ⟨⟨vs,sl,hx⟩,_⟩:=(show zbG X.prog X.w H1 s1.heap a (.ext (XAt a C (some dx))) from I1.hok a _ ea)
  obtain ⟨mA,ns,r⟩:=(show zbG X.prog X.w H1 s1.heap dx (.xd fs) from I1.hok dx _ ed)
  obtain ⟨od,ho,hl⟩:=zgz ns
  obtain ⟨w',hw,rw'⟩:=zf2.some_of (v:=v) (o:=mA f) (by rw [← l]; exact r f)
  have J:PySem.W.InstAt s1.heap a ⟨.ref C,some dx,.fields vs,sl⟩ C (some od):=⟨hx,rfl,rfl,ho⟩
  exact X1.xget I1.kIn J c.get (PySem.W.findObj_own c.hd n rfl (by rw [hl,hw])) (zgH rw') ⟨v,H1,I1.tok _,rw',q⟩
theorem zdY:∀ {ys:List Str} {its:List Value},za5 (ys.map V.str) its→StrsAre its ys
 | [],_,.nil=>.nil
 | y :: r,_,.cons h t=>by
  obtain ⟨tk,rfl⟩:=h; exact .cons y tk (zdY t)
theorem zoS:MtR X "str.join" (fun x xs H Q=>∃ z a ys,x=.str z∧xs=[.ref a]∧(SqL X.K H a (ys.map .str)∨SqT X.K H a (ys.map .str))∧(ys.map (·.length)).sum+ys.length * z.length≤16777216∧Q (.str (Txt.join z ys)) H):=by
 intro pins s σ H x xs v us Q I rx rs h; obtain ⟨z,a,ys,rfl,rfl,hs,hz,q⟩:=h; obtain ⟨t,rfl⟩:=rx; obtain ⟨u,rfl,ru⟩:=zcU rs
 obtain rfl:u=Value.ref a:=ru
 rcases hs with hs | hs
 ·obtain ⟨its,r,p,_⟩:=I.list hs
  obtain ⟨o,n,e1,e2,e3,e4⟩:=p
  exact join_list (items:=its.toArray) ⟨o,e1,e2,n,by first | exact e3 | exact e4⟩ (zdY (by simpa using r)) hz fun t' k=>⟨.str _,H,I.tok _,⟨_,rfl⟩,q⟩
 ·obtain ⟨its,r,p,_⟩:=I.tuple hs
  exact join_tuple p (zdY (by simpa using r)) hz fun t' k=>⟨.str _,H,I.tok _,⟨_,rfl⟩,q⟩
end
end L2
namespace PL
open PySem L2
section
variable {X:Cx}
theorem zgN {K:PySem.W.Frag} {H:Hp}:∀ {vs:List V} {ls:List (List Nat)},zbP K H vs (ls.map .str)→vs=(ls.map st).map V.str
 | _,[],.nil=>rfl
 | _,l :: ls,.cons r t=>by rw [r.strI,zgN t]; rfl
def zM (K:PySem.W.Frag) (t:TE') (f:Str):TE':=fun Γ Q=>t Γ fun d Γ1=>(∃ C fs v,d=.obj C fs∧Cls K C∧zaX K C f∧fs.lookup f=some v∧Q v Γ1)∨∃ C fs v,d=.exc C fs∧XFl K C∧zaX K C f∧fs.lookup f=some v∧Q v Γ1
theorem zbF {e:Expr} {t:TE'} {f:Str} {pos:Pos} (he:PE' X e t) (hb:attributeBase e f X.env (eval e X.env)=eval e X.env:=by rfl):PE' X (.Attribute e f pos) (zM X.K t f):=by
 refine ⟨PE.weak (zov he.h hb) ?_⟩
 rintro σ H Q ⟨W,Hi,Γ,Q',g,h,fin⟩
 refine ⟨W,Hi,Γ,_,g,h,?_⟩
 rintro x H1 ⟨Hi1,d,Γ1,s1,g1,den1,h1⟩
 rcases h1 with ⟨C,fs,v,rfl,cl,na,lk,q⟩ | ⟨C,fs,v,rfl,cl,na,lk,q⟩
 ·obtain ⟨a,dx,fvs,rfl,ha,df⟩:=den1.objI
  obtain ⟨u,hu,du⟩:=df.look lk; exact .inl ⟨a,C,dx,fvs,u,rfl,g1.sub _ _ ha,cl,na,hu,fin u H1 ⟨Hi1,v,Γ1,s1,g1,du,q⟩⟩
 ·obtain ⟨a,dd,rfl,ha,xd⟩:=den1.excI
  rcases xd with ⟨_,rfl⟩ | ⟨dx,fvs,rfl,hd,df⟩
  ·cases lk
  ·obtain ⟨u,hu,du⟩:=df.look lk
   exact .inr ⟨a,C,dx,fvs,u,rfl,g1.sub _ _ ha,g1.sub _ _ hd,cl,na,hu,fin u H1 ⟨Hi1,v,Γ1,s1,g1,du,q⟩⟩
theorem zjX {K:PySem.W.Frag} {H:Hp} {vs:List V} {ds:List D} (h:zbP K H vs ds):∀ k,zbP K H (List.replicate k vs).flatten (List.replicate k ds).flatten
 | 0=>.nil
 | k+1=>by
  rw [List.replicate_succ,List.replicate_succ,List.flatten_cons,List.flatten_cons]; exact zbe h (zjX h k)
end
end PL
namespace PL
open PySem L2
section
variable {X:Cx} {k:Nat} {x:Str} {ps:List Str} {sp:ztD} {p pos:Pos} {e:Expr} {es:List Expr} {t:TA'}
end
end PL
namespace PL
open PySem L2
theorem zg4 {X:Cx} (K:PySem.W.Frag) (h:X.K=K):Cal X (.builtin "isinstance") (zi0 K):=by
 subst h; exact zrq
end PL
namespace L2
open PySem PySem.Spec PyProof.Rows
section
variable {K:PySem.W.Frag} {C M N NM f:Addr} {c cM:Value} {d dM od:Option Addr} {es eM:Array DictEntry} {ep epM:Nat} {sl slM sf:Array (Option Value)}
theorem zeu:PySem.W.kitOne K (.ref C) (.ref C)=some true:=by
 unfold PySem.W.kitOne
 rw [if_pos (by simp)]
end
end L2
namespace L2
open PySem
end L2
namespace L2
open PySem PySem.Spec PyProof.Rows
section
variable {X:Cx}
end
end L2
namespace PL
open PySem L2
structure Mth (P:Program) (w:World) (K:PySem.W.Frag) (mg:Str→Option Value) (base:Heap) (k:Nat) (C:Addr) (m:Str) (ps:List Str) (sp:Sp'):Prop where
 ex:∃ f fd,FnOk P w K mg base CX0 k f fd ps (zh7 K sp)∧zb1 K fd ps []∧Meth K C m f∧Cls K C
section
variable {X:Cx} {k:Nat} {C:Addr} {m:Str} {ps:List Str} {sp:Sp'} {spx:ztD} {apos pos:Pos} {o e:Expr} {es:List Expr} {to:TE'} {t:TA'}
def zam (C:Addr) (m:Str) (sp:Sp') (to:TE') (t:TA'):TE':=fun Γ Q=>to Γ fun d Γ1=>∃ fs,d=.obj C fs∧fs.lookup m=none∧t Γ1 fun ds Γ2=>sp (.obj C fs :: ds) fun r=>Q r.toD Γ2
theorem zdV {K:PySem.W.Frag} {H:Hp} {f:Str}:∀ {fs:List (Str × V)} {ds:List (Str × D)},zjA K H fs ds→ds.lookup f=none→fs.lookup f=none
 | _,_,.nil,_=>rfl
 | p :: fs,q :: ds,.cons r t,h=>by
  obtain ⟨p1,p2⟩:=p; obtain ⟨q1,q2⟩:=q; obtain ⟨r1,r2⟩:=r
  dsimp only at r1
  subst r1
  by_cases e:f=q1
  ·have hb:(f == q1)=true:=beq_iff_eq.mpr e
   simp only [List.lookup,hb] at h; cases h
  ·have hb:(f == q1)=false:=beq_eq_false_iff_ne.mpr e
   simp only [List.lookup,hb] at h ⊢; exact zdV t h
theorem zkk (h:Mth X.prog X.w X.K X.mg X.base k C m ps sp) (hr:Room k X.A) (ho:PE' X o to) (ha:PA' X (e :: es) t) {pl:Sem Bool}
  (ht:eval (.Call (.Attribute o m apos) (e :: es) [] pos) X.env=(do
   let ov ← eval o X.env
   standAt apos.atName
   let (f,first) ← holding [ov] (getMethod ov m pl)
   callWith pos f first (backTo pos (starEach (e :: es) X.env)) (backToKw pos (keywordEach [] X.env))):=by rfl) :
  PE' X (.Call (.Attribute o m apos) (e :: es) [] pos) (zam C m sp to t):=by
 obtain ⟨f,fd,F,b,hm,cl⟩:=h.ex; refine ⟨PE.weak (zkl (E:=E0) (dvs:=[]) ho.h cl hm F hr b .nil ze7 ha.pa (zaP (zX ha.pl).1) (zaR (zX ha.pl).2) ht) ?_⟩
 rintro σ H Q ⟨W,Hi,Γ,Q',g,h,fin⟩
 refine ⟨W,Hi,Γ,_,g,h,?_⟩
 rintro x H1 ⟨Hi1,d,Γ1,s1,g1,den1,fs,rfl,lk,q⟩
 obtain ⟨a,dx,fvs,rfl,ha',df⟩:=id den1.objI; refine ⟨a,dx,fvs,rfl,g1.sub _ _ ha',zdV df lk,?_⟩; refine ⟨W,Hi1,Γ1,_,g1,q,?_⟩; intro vs H2 Hi2 Γ2 ds s2 g2 dl q2; rw [List.append_nil]; refine ⟨Hi2,_,_,g2.fz,.cons (den1.mono s2) dl,q2,?_⟩; intro Hi3 H3 v r ex ro q3; have s12:=s1.trans s2
 cases r with
 | val d=>exact fin v H3 ⟨Hi3,d,Γ2,s12.trans ex.hi,g2.ext ex,ro,q3⟩
 | own o =>
  obtain ⟨a,rfl,h1,h2,h3⟩:=ro; have nw:=zb7 g2 ex h1 h2 h3; obtain ⟨u,hu⟩:=h3.there; exact fin _ H3 ⟨upd Hi3 a u,_,Γ2,s12.trans (ex.hi.trans (zaJ h1 u)),(g2.ext ex).freezeA nw.hi nw.h0 nw.ne hu,h3.den h1 hu,q3⟩
 | bk d o =>
  obtain ⟨b',dv,hol,h1,h2,h3⟩:=ro; have nw:=zb7 g2 ex h1 h2 h3; obtain ⟨u,hu⟩:=h3.there; exact fin _ H3 ⟨upd Hi3 b' u,_,Γ2,s12.trans (ex.hi.trans (zaJ h1 u)),(g2.ext ex).freezeA nw.hi nw.h0 nw.ne hu,hol b' _ v o (h3.den h1 hu) (dv.mono (zaJ h1 u)),q3⟩
abbrev zlq:=List D→Sts→(Sts→Prop)→Prop
def zux (K:PySem.W.Frag) (n:Nat) (g:zlq):TGs:=fun vs σ H Q2=>∃ W Hi Γ ds Q,Good K n W Hi Γ σ H∧zbP K Hi vs ds∧g ds Γ Q∧∀ σ' H' Hi' Γ',zaW Hi Hi'→Good K n W Hi' Γ' σ' H'→Q Γ'→Q2 σ' H'
structure PGs' (X:Cx) (es:List Expr) (g:zlq):Prop where
 h:PGs X es (zux X.K X.N.length g)
theorem PGs.weak {es:List Expr} {t t2:TGs} (h:PGs X es t) (w:∀ vs σ H Q,t2 vs σ H Q→t vs σ H Q):PGs X es t2:=fun pins s σ H vs us Q I r q=>h pins s σ H vs us Q I r (w _ _ _ _ q)
def zav:zlq:=fun ds Γ Q=>ds=[]∧Q Γ
def zG (t:TG') (u:zlq):zlq:=fun ds Γ Q=>∃ d r,ds=d :: r∧t d Γ fun Γ1=>u r Γ1 Q
def zau (n:Nat) (t:zlq):TG':=fun d Γ Q=>∃ ds,d=.tup ds∧ds.length=n∧t ds Γ Q
theorem zdL:PGs' X [] zav:=by
 refine ⟨PGs.weak zor ?_⟩
 rintro vs σ H Q ⟨W,Hi,Γ,ds,Q',g,dl,⟨rfl,q⟩,fin⟩
 cases dl; exact ⟨rfl,fin σ H Hi Γ (zaW.refl _) g q⟩
theorem za1 {e:Expr} {es:List Expr} {t:TG'} {u:zlq} (h1:PG' X e t) (h2:PGs' X es u) (hs:(assignEach (e :: es) X.env).map (·.2)=assign e X.env :: (assignEach es X.env).map (·.2):=by rfl):PGs' X (e :: es) (zG t u):=by
 refine ⟨PGs.weak (zl9 h1.h h2.h hs) ?_⟩
 rintro vs σ H Q ⟨W,Hi,Γ,ds,Q',g,dl,⟨d,r,rfl,q⟩,fin⟩
 cases dl with
 | cons r0 rr =>
  refine ⟨_,_,rfl,W,Hi,Γ,d,_,g,r0,q,?_⟩; intro σ1 H1 Hi1 Γ1 s1 g1 q1
  exact ⟨W,Hi1,Γ1,r,Q',g1,zbP.mono rr s1,q1,fun σ2 H2 Hi2 Γ2 s2=>fin σ2 H2 Hi2 Γ2 (s1.trans s2)⟩
theorem zeE {es:List Expr} {k n:Nat} {t:zlq} (h:PGs' X es t) (hc:X.calm=true:=by rfl) (hn:(assignEach es X.env).length=n:=by rfl) (hst:(assignEach es X.env).findIdx? (·.1)=none:=by rfl):PG' X (.Tuple es k pos) (zau n t):=by
 refine ⟨PG.weak (zqj hc h.h hn hst) ?_⟩
 rintro v σ H Q ⟨W,Hi,Γ,d,Q',g,den,⟨ds,rfl,hl,q⟩,fin⟩
 obtain ⟨a,vs,rfl,ha,dl⟩:=den.tupI
 exact ⟨a,vs,rfl,za3 g.sub ha,by rw [zg dl]; exact hl,W,Hi,Γ,ds,Q',g,dl,q,fin⟩
end
end PL
namespace PL
open PySem L2
section
variable {X:Cx}
def zae:TS':=fun _ _=>False
theorem zfG {st:Stmt}:PS' X st zae:=⟨fun pins s σ H N I q=>by
 obtain ⟨_,_,_,_,_,h,_⟩:=q; exact h.elim⟩
end
section
variable {P:Program} {w:World} {K:PySem.W.Frag} {mg:Str→Option Value} {base:Heap}
end
end PL
namespace Mu
open PySem PySem.Builtin
theorem noFill_tup:fillsNumberSlot (.type "tuple") "mul"=pure false :=
 fillsNumberSlot_seq (id:="tuple.__mul__") (r:=some (.builtin "tuple.__rmul__")) PySem.F.slot_tuple_mul.lookup (by decide +kernel) PySem.F.slot_tuple_rmul.lookup (by decide +kernel)
theorem rep_tup:seqRepeat? (.type "tuple")=pure (some (.builtin "tuple.__mul__")):=by
 unfold seqRepeat?
 rw [seqSlot_of (T:="tuple") (name:="__mul__") (id:="tuple.__mul__") PySem.F.slot_tuple_mul.lookup (by decide +kernel),seqSlot_of (T:="tuple") (name:="__rmul__") (id:="tuple.__rmul__") PySem.F.slot_tuple_rmul.lookup (by decide +kernel)]
 rfl
theorem rmul_tup (a:Int) (t:Tok) (l:Addr) (o:Obj) (xs:Array Value) (n:Nat) (hc:o.cls=.type "tuple") (hd:o.data=.seq xs n):Meets (Builtin.«int.__rmul__» ⟨[.int a t,.ref l],[]⟩) (fun _ R s=>s.heap.get? l=some o∧R (.ok (.ret Value.notImplemented)) s) :=
 .of_wp fun prog w A R s h=>by
  obtain ⟨hp,g,d,tk,os⟩:=s; obtain ⟨hl,h⟩:=h; obtain ⟨oc,od,dt,sl⟩:=o
  dsimp only at hc hd
  subst hc hd
  wp_walk
  exact ⟨_,rfl,h⟩
theorem mul_tup (k:Nat) (t:Tok) (l:Addr) (o:Obj) (xs:Array Value) (n:Nat) (hc:o.cls=.type "tuple") (hd:o.data=.seq xs n) (hk:2≤k) (hk2:k≤100) (hz:xs.size * k≤10000) :
  Meets (Builtin.«tuple.__mul__» ⟨[.ref l,.int k t],[]⟩) (fun _ R s=>s.heap.get? l=some o∧(xs.isEmpty=true→R (.ok (.ret (.ref l))) s) ∧
   (xs.isEmpty=false→R (.ok (.ret (.ref s.heap.objs.size))) { s with heap:=s.heap.push { cls:=.type "tuple",data:=.seq ((List.replicate k xs).foldl (· ++ ·) #[]) } })) :=
 .of_wp fun prog w A R s h=>by
  obtain ⟨hp,g,d,tk,os⟩:=s; obtain ⟨hl,h1,h2⟩:=h; obtain ⟨oc,od,dt,sl⟩:=o
  dsimp only at hc hd
  subst hc hd
  have e1:(decide ((k:Int)< -(2 ^ 63)) || decide ((k:Int) ≥ 2 ^ 63))=false:=by
   rw [decide_eq_false (by omega),decide_eq_false (by omega)]
   rfl
  have e2:((k:Int) == 1)=false:=by rw [beq_eq_false_iff_ne]; omega
  have e3:decide ((k:Int)≤0)=false:=decide_eq_false (by omega)
  have e4:¬ ((xs.size:Int) * (k:Int) > (2 ^ 63-1) / 8):=by
   have:((xs.size * k:Nat):Int)≤10000:=by omega
   rw [Int.natCast_mul] at this; omega
  have e5:Builtin.Tuple.tupleTooMany ((xs.size:Int) * (k:Int))=false:=by
   unfold Builtin.Tuple.tupleTooMany
   have:((xs.size * k:Nat):Int)≤10000:=by omega
   rw [Int.natCast_mul] at this
   have b:10000<sizeLine:=by decide
   exact decide_eq_false (by omega)
  wp_walk
  rw [if_neg (by rw [e1]; exact Bool.false_ne_true)]
  wp_walk
  cases he:xs.isEmpty with
  | true =>
   wp_walk
   exact ⟨_,rfl,h1 he⟩
  | false =>
   wp_walk
   rw [if_neg (by rw [e3]; decide)]
   dsimp only
   rw [if_neg e4,if_neg (by rw [e5]; decide),Int.toNat_natCast]
   have hsz:(List.foldl (fun x1 x2=>x1 ++ x2) #[] (List.replicate k xs)).size≤sizeLine:=by
    have e:=L2.foldl_rep xs.toList k []
    have e':List.foldl (fun x1 x2=>x1 ++ x2) #[] (List.replicate k xs)=([] ++ (List.replicate k xs.toList).flatten).toArray:=by simpa using e
    rw [e',List.size_toArray,List.nil_append,L2.len_rep,Array.length_toList,Nat.mul_comm]
    have b:10000<sizeLine:=by decide
    omega
   unfold Builtin.Tuple.tupleExact; exact wpAny_bind (wpAny_newObj_type (wpAny_pure ⟨_,rfl,h2 he⟩) hsz)
end Mu
namespace L2
open PySem PySem.Spec PyProof.Rows
section
variable {X:Cx}
def zsy:R2:=fun x y H Q=>∃ (l:Addr) (k:Nat) (xs:List V),x=.ref l∧y=.int k∧H l=some (.tup xs)∧2≤k∧k≤100∧xs.length * k≤10000∧(xs=[]→Q (.ref l) H)∧(xs≠[]→∀ p,H p=none→Q (.ref p) (upd H p (.tup (List.replicate k xs).flatten)))
theorem zoF:OpR X (binaryOp .Mult) zsy:=by
 intro pins s σ H x y v u Q I rx ry h; obtain ⟨l,k,xs,rfl,rfl,hH,h1,h2,hz,q1,q2⟩:=h; cases rx; obtain ⟨t,rfl⟩:=ry
 obtain ⟨z,its,r,o,ho,hc,n,hd⟩:=(show zbG X.prog X.w H s.heap l (.tup xs) from I.hok l _ hH)
 have hl:=r.length
 refine wpAny_binaryOp_repeat_ref (T:="tuple") (U:="int") (by decide) ⟨_,ho,hc⟩ (fun s'=>typeIs_int s' k t) Mu.noFill_tup PySem.F.fills_int_mul PySem.F.slot_int_rmul Mu.rep_tup PySem.F.slot_int_index.lookup
  (call_meets PySem.F.slot_int_rmul (typeIs_int s k t) PySem.F.entry_int_rmul (PySem.F.args_int_rmul_2 _ _) (Mu.rmul_tup k t l o its.toArray n hc hd) ⟨ho,rfl,⟨_,ho,hc⟩,call_meets PySem.F.slot_tuple_mul ⟨_,ho,hc⟩ PySem.F.entry_tuple_mul (PySem.F.args_tuple_mul_2 _ _) (Mu.mul_tup k t l o its.toArray n hc hd h1 h2 (by rw [List.size_toArray,← hl]; exact hz)) ⟨ho,fun e=>?_,fun e=>?_⟩⟩)
 ·have:xs=[]:=List.eq_nil_of_length_eq_zero (by rw [hl]; simpa using e)
  exact ⟨.ref l,H,I,rfl,q1 this⟩
 ·have hne:xs≠[]:=fun z=>by
   rw [z] at hl
   have:its=[]:=List.eq_nil_of_length_eq_zero hl.symm
   rw [this] at e
   simp at e
  have e':List.foldl (fun x1 x2=>x1 ++ x2) #[] (List.replicate k its.toArray)=(List.replicate k its).flatten.toArray:=by
   have:=foldl_rep its k []
   rw [List.nil_append] at this; exact this
  rw [e']
  have hlen:(List.replicate k xs).flatten.length≤sizeLine:=by
   rw [len_rep,Nat.mul_comm]
   have b:10000<sizeLine:=by decide
   omega
  refine ⟨.ref _,upd H s.heap.objs.size (.tup (List.replicate k xs).flatten),I.laid (t':=s.toks) (fun _ _ q=>Heap.get?_push_of_some _ q) (Nat.le_refl _) ⟨hlen,(List.replicate k its).flatten,r.rep k,⟨_,Heap.get?_push_size _ rfl,rfl,_,rfl⟩⟩,rfl,q2 hne _ I.fresh⟩
end
end L2
namespace PL
open PySem L2
section
variable {X:Cx}
def zgh:R2':=fun x y Q=>∃ (ds:List D) (k:Nat),x=.tup ds∧y=.int k∧2≤k∧k≤100∧ds.length * k≤10000∧Q (.tup (List.replicate k ds).flatten)
theorem zqJ:Op2 X (binaryOp .Mult) zgh:=⟨_,zoF,by
 rintro Hi H x y dx dy Q Q2 s d1 d2 ⟨ds,k,rfl,rfl,h1,h2,h3,q⟩ fin
 obtain ⟨a,vs,rfl,ha,dl⟩:=d1.tupJ; have hl:=zg dl
 refine ⟨a,k,vs,rfl,d2.intI,s.sub _ _ ha,h1,h2,by rw [hl]; exact h3,fun e=>?_,fun _ p hp=>?_⟩
 ·have:ds=[]:=List.eq_nil_of_length_eq_zero (by rw [← hl,e]; rfl)
  subst this; refine fin Hi H _ (.tup []) (Ext.refl s) d1 ?_
  simpa using q
 ·have e:=Ext.new s hp (.tup (List.replicate k vs).flatten)
  exact fin _ _ _ _ e (Den.mkT zh (zjX (dl.mono e.hi) k)) q⟩
instance:MR2 zgh:=⟨fun _ _ _ _ h ⟨ds,k,a,b,c,d,e,q⟩=>⟨ds,k,a,b,c,d,e,h _ q⟩⟩
end
end PL
namespace PL
open PySem L2
section
variable {X:Cx} {Q:D→Prop}
def zlT:R2':=fun x y Q=>rI' zlt (fun i j=>.int (i * j)) x y Q∨zgh x y Q
theorem zim:Op2 X (binaryOp .Mult) zlT:=zsU.or zqJ
instance:MR2 zlT:=⟨fun _ _ _ _ h q=>q.imp (MR2.mono (r:=rI' zlt fun i j=>.int (i * j)) _ _ _ _ h) (MR2.mono (r:=zgh) _ _ _ _ h)⟩
@[simp] theorem zp5 (i j:Int):zlT (.int i) (.int j) Q↔zlt i j∧Q (.int (i * j)):=by simp [zlT,zgh]
end
end PL
namespace PL
open PySem L2
section
variable {X:Cx} {Q:D→Prop}
def zj6:RC':=fun ds Q=>∃ b:Bool,ds=[.bl b]∧Q (.int (if b then 1 else 0))
theorem zrr:Cal X (.type "int") zj6:=⟨_,zlj,by
 rintro Hi H vs ds Q Q2 s dl ⟨b,rfl,q⟩ fin
 obtain ⟨v,rfl,den⟩:=zcW dl
 exact .inr ⟨b,by rw [den.blI],fin Hi H _ _ (Ext.refl s) (.int _) q⟩⟩
instance:MRC zj6:=⟨fun _ _ _ h ⟨b,e,q⟩=>⟨b,e,h _ q⟩⟩
instance:MRC zj5:=⟨fun _ _ _ h ⟨l,n,a,b,c,q⟩=>⟨l,n,a,b,c,h _ q⟩⟩
def zlV:RC':=fun ds Q=>zj5 ds Q∨zj6 ds Q
theorem zrs:Cal X (.type "int") zlV:=zty.or zrr
instance:MRC zlV:=⟨fun _ _ _ h q=>q.imp (MRC.mono (r:=zj5) _ _ _ h) (MRC.mono (r:=zj6) _ _ _ h)⟩
@[simp] theorem zrP (b:Bool):zlV [.bl b] Q↔Q (.int (if b then 1 else 0)):=by simp [zlV,zj5,zj6]
end
end PL
namespace Zp
open PySem
theorem zia {a:Addr} {h h':Heap} (x:Heap.SameBut a h h'):∀ c o,c≠a→h.get? c=some o→h'.get? c=some o:=fun c o n e=>x.extBut _ _ n e
section
variable {prog:Program} {w:World} {A:Around} {E:Value→Shared→Prop} {s:Shared} {z TI TO i1 i2:Addr} {f1 f2:List Addr} {n1 n2:Nat→Heap→Prop} {xs ys:List Value} {k:Nat} {a b x y:Value}
end
end Zp
namespace Zp
open PySem
section
variable {prog:Program} {w:World} {A:Around} {E:Value→Shared→Prop} {s:Shared}
end
end Zp
namespace L2
open PySem PySem.Spec PyProof.Rows
section
variable {X:Cx} {pins:List (Addr × Obj)} {σ:St} {H:Hp} {s:Shared} {h':Heap}
theorem Inv.turnedNew {t':Nat} {ch:List Addr} {p:Addr} {o:HO} (I:Inv X pins σ H s) (hch:∀ b ∈ ch,zf3 X pins H b) (k:∀ b u,b ∉ ch→s.heap.get? b=some u→h'.get? b=some u) (hp:s.heap.objs.size≤p) (new:zbG X.prog X.w (upd H p o) h' p o) :
  Inv X pins σ (upd H p o) { s with heap:=h',toks:=t' }:=by
 have fr:H p=none:=I.hok.fresh hp
 have sm:∀ b u,H b=some u→upd H p o b=some u:=fun b u e=>by rw [zo (zaL e fr)]; exact e
 have nch:∀ b u,H b=some u→b ∉ ch:=fun b u e z=>by rw [(hch b z).1] at e; cases e
 refine I.step (g':=s.gens) (d':=s.drawn) (ch:=ch) (fun b hb=>?_) (fun b u _ _ hc e _=>k b u hc e) (fun b u _ _ hc e _=>⟨u.slots,k b u hc e⟩) (fun b u hc e n=>?_) (fun b u hc e=>⟨u,k b u hc e⟩) (fun b xs e=>sm _ _ e) (fun b ob u e=>sm _ _ e) (fun b ps e=>⟨#[],by rw [sm _ _ e]; simp⟩) (fun m hm=>?_) (fun b u e=>?_) I.bare
 ·obtain ⟨_,y1,_,y3,y4,y5⟩:=hch b hb
  exact ⟨y3,y1,y4,y5⟩
 ·rw [zo (Nat.ne_of_lt (Nat.lt_of_lt_of_le (Heap.lt_size e) hp))]
  exact n
 ·obtain ⟨ob,es,ep,ho,r⟩:=hm
  exact ⟨ob,es,ep,k _ ob (fun z=>(hch _ z).2.1 rfl) ho,r⟩
 ·by_cases z:b=p
  ·subst z
   rw [zh] at e; cases e; exact new
  ·rw [zo z] at e
   refine (I.hok b u e).stay (fun c v hc q=>k c v ?_ q) (fun c q=>sm _ _ q) fun c xs q=>sm _ _ q
   rcases hc with rfl | hc
   ·exact nch _ u e
   ·exact nch c _ hc
theorem Inv.turnedL {t':Nat} {ch:List Addr} (I:Inv X pins σ H s) (hch:∀ b ∈ ch,zf3 X pins H b) (k:∀ b u,b ∉ ch→s.heap.get? b=some u→h'.get? b=some u):Inv X pins σ H { s with heap:=h',toks:=t' }:=by
 have nch:∀ b u,H b=some u→b ∉ ch:=fun b u e z=>by rw [(hch b z).1] at e; cases e
 refine I.step (g':=s.gens) (d':=s.drawn) (ch:=ch) (fun b hb=>?_) (fun b u _ _ hc e _=>k b u hc e) (fun b u _ _ hc e _=>⟨u.slots,k b u hc e⟩) (fun b u hc e n=>n) (fun b u hc e=>⟨u,k b u hc e⟩) (fun b xs e=>e) (fun b ob u e=>e) (fun b ps e=>⟨#[],by rw [e]; simp⟩) (fun m hm=>?_) (fun b u e=>?_) I.bare
 ·obtain ⟨_,y1,_,y3,y4,y5⟩:=hch b hb
  exact ⟨y3,y1,y4,y5⟩
 ·obtain ⟨ob,es,ep,ho,r⟩:=hm
  exact ⟨ob,es,ep,k _ ob (fun z=>(hch _ z).2.1 rfl) ho,r⟩
 ·refine (I.hok b u e).stay (fun c v hc q=>k c v ?_ q) (fun c q=>q) fun c xs q=>q
  rcases hc with rfl | hc
  ·exact nch _ u e
  ·exact nch c _ hc
end
end L2
namespace L2
open PySem PySem.Spec PyProof.Rows Zp
def SqB (lb:Bool) (K:PySem.W.Frag) (H:Hp) (a:Addr) (xs:List V):Prop:=match lb with | true=>SqL K H a xs | false=>SqT K H a xs
section
variable {X:Cx} {pins:List (Addr × Obj)} {σ:St} {H:Hp} {s:Shared} {a b:Addr} {xs ys:List V} {lb:Bool}
theorem zjZ {u:HO} (h:Rd H a u):∃ o,H a=some o:=by
 rcases h with h | ⟨o,h⟩
 ·exact ⟨_,h⟩
 ·exact ⟨_,h⟩
theorem zlm (I:Inv X pins σ H s) {o:Obj} (e:X.K.lookup a=some o) (f:zf3 X pins H b):a≠b:=by
 have g:=I.ok.mod.kin _ _ e; obtain ⟨_,_,_,f3,_⟩:=f
 rintro rfl
 rcases f3 with z | z
 ·exact I.ok.noex _ _ g z
 ·exact absurd (Nat.lt_of_lt_of_le (Heap.lt_size g) (Nat.le_trans I.ok.bsz z)) (Nat.lt_irrefl _)
theorem zsp (I:Inv X pins σ H s) (h:SqB lb X.K H a xs) (f:zf3 X pins H b):a≠b:=by
 have tr:∀ o,H a=some o→a≠b:=fun o e z=>by rw [z,f.1] at e; cases e
 cases lb with
 | true =>
  rcases h with h | ⟨o,its,n,hk,_⟩
  ·obtain ⟨o,e⟩:=zjZ h; exact tr o e
  ·exact zlm I hk f
 | false =>
  rcases h with h | ⟨o,its,n,hk,_⟩
  ·obtain ⟨o,e⟩:=zjZ h; exact tr o e
  ·exact zlm I hk f
theorem zpS (I:Inv X pins σ H s) (h:SqB lb X.K H a xs) (h':SqB lb X.K H a ys):ys=xs:=by
 cases lb with
 | true=>exact I.list_inj h' h
 | false=>exact I.tuple_inj h' h
end
end L2
namespace L2
open PySem PySem.Spec PyProof.Rows Zp
theorem zqS {a b:Nat} (h:a≠b):(a:Addr)≠(b:Addr):=h
section
variable {X:Cx}
end
end L2
namespace PL
open PySem L2
section
variable {X:Cx}
end
end PL
namespace Lb
def zes:List Nat:=[97,98,99,100,101,102,103,104,105,106,107,108,109,110,111,112,113,114,115,116,117,118,119,120,121,122]
def zuA:List Nat:=[48,49,50,51,52,53,54,55,56,57]
end Lb
namespace Lb
def dig (c:Nat):Bool:=decide (c ∈ zuA)
def sml (c:Nat):Bool:=decide (c ∈ zes)
def cut (l:List Nat):List Nat:=(l.reverse.dropWhile sml).reverse
def zsb (l:List Nat):List Nat:=(l.reverse.takeWhile sml).reverse
def zka (l:List Nat):Bool:=decide (1≤(cut l).length∧(cut l).length≤9) && decide ((cut l)[0]?≠some 48) && (cut l).all dig && decide (l.length-(cut l).length≤3)
end Lb
namespace M11
open PySem L2 Lb PL
end M11
namespace MT
open PySem L2 PL
abbrev Pl:=List (List Nat)
inductive Tr where
 | node (l:List Nat) (ws:Pl) (ks:List Tr)
def Tr.lab:Tr→List Nat
 | .node l _ _=>l
def Tr.wds:Tr→Pl
 | .node _ ws _=>ws
def Tr.kds:Tr→List Tr
 | .node _ _ ks=>ks
mutual
def trD:Tr→D
 | .node l ws ks=>.tup [.str l,plc ws,.tup (zpE ks)]
def zpE:List Tr→List D
 | []=>[]
 | t :: r=>trD t :: zpE r
end
theorem zh2:∀ ks:List Tr,zpE ks=ks.map trD
 | []=>by simp [zpE]
 | t :: r=>by simp [zpE,zh2 r]
theorem zpF (t:Tr):trD t=.tup [.str t.lab,plc t.wds,.tup (t.kds.map trD)]:=by
 cases t with
 | node l ws ks=>simp [trD,zh2,Tr.lab,Tr.wds,Tr.kds]
def zbg (l:List Nat) (ks:List Tr):Option Tr:=ks.find? fun k=>decide (k.lab=l)
theorem zpv (t:Tr):trD t≠.non:=by rw [zpF]; simp
end MT
namespace L2
open PySem PySem.Spec PyProof.Rows
def PU (X:Cx) (e:Expr) (t:TE):Prop:=∀ (pins:List (Addr × Obj)) (s:Shared) (σ:St) (H:Hp) (Q:VK) (i:Nat) (x:Str) (pos pos':Pos) (D:Ends),Inv X pins σ H s→t σ H Q→X.N.Nodup→X.N[i]?=some x→X.env.scope.names.lookup x=some .local →
 swapsWith e (some (.Name x pos')) pos.line X.env=pure true→(∀ v H',Q v H'→D.nx (σ.set i (some v)) H')→wpAny (model X.prog X.w) X.A (exec (.Assign [.Name x pos'] e pos) X.env) (SP X pins D) X.xe s
theorem PU.weak {X:Cx} {e:Expr} {t t2:TE} (h:PU X e t) (w:∀ σ H Q,t2 σ H Q→t σ H Q):PU X e t2:=fun pins s σ H Q i x pos pos' D I q=>h pins s σ H Q i x pos pos' D I (w _ _ _ q)
theorem zn9 {X:Cx} {elt tg iter:Expr} {ifs:List Expr} {sc fsc:Scope} {pos:Pos} {wi:TI} {g:TG} {tc:TT} {te:TE} {N N':List Str} {src:List (Option Nat)} (B:Blk N N' src fsc sc) (hi:PI X tg iter wi)
  (hg:∀ cl C s H fp pn,PG (blk X N' sc cl C s H fp pn) tg g) (ht:∀ cl C s H fp pn,PTs (blk X N' sc cl C s H fp pn) ifs tc) (he:∀ cl C s H fp pn,PE (blk X N' sc cl C s H fp pn) elt te)
  (hx:X.xe=(fun _ _=>False):=by rfl) (hc:X.calm=true:=by rfl) (hN:X.N=N:=by rfl) (hs:X.env.scope=fsc:=by rfl)
  (hf:∀ x,foldedSetIterable iter X.env x=pure x:=by intro _; rfl):PU X (.ListComp elt [⟨tg,iter,ifs,0⟩] sc pos) (zpN wi src g tc te):=by
 intro pins s σ H Q i0 x0 p0 p1 D0 I h hNd hi0 hx0 hsw fin; rw [exec_Assign_Name_used _ _ _ _ hsw]; refine wpAny_bind (wpAny_standAt (wpAny_bind ?_))
 show wpAny _ _ (do let _ ← comprehension (.ListComp elt [⟨tg,iter,ifs,0⟩] sc pos) sc X.env _ (newList []) false (eval iter X.env) (some (assign (.Name x0 p1) X.env))) _ _ _
 have hfr:∀ y ∈ sc.names,y.2=.free→∃ c,X.env.cells.lookup y.1=some c:=fun y hy e=>I.ok.has y.1 (.inl (by have:=B.free y hy e; rw [← hs] at this; exact this))
 refine wpAny_bind (wpAny_mono (wpAny_comprehension_free (use:=some (assign (.Name x0 p1) X.env)) (Q:=fun _ s'=>SP X pins D0 .next s') (cl:=zdm X.env.cells sc.names []) rfl hf (zfp hfr) B.kind B.names ?_) (fun _ s' hq=>wpAny_pure (wpAny_pure hq)) fun _ _ e=>e)
 refine thn (hi pins s σ H _ I h) fun v s1 h1=>thn h1 fun itv s2 h2=>?_
 obtain ⟨it,fp,tn,J,H2,e,I2,T,st2,f2,q⟩:=h2; subst e
 obtain ⟨W,⟨m0,w0⟩,turn⟩:=q s2.heap.objs.size (I2.hok.fresh (Nat.le_refl _))
 refine wpAny_newObj_type (wpAny_newFunctionEnv B.cell (by intro y hy; simp at hy) (fun h1 hns hsb=>?_) B.kind)
 dsimp only at hns hsb ⊢
 have I3:Inv X pins σ (upd H2 s2.heap.objs.size (.lst [])) { s2 with heap:=s2.heap.push { cls:=.type "list",dict:=none,data:=.seq ([]:List Value).toArray } } :=
  I2.laid (t':=s2.toks) (fun b o e=>Heap.get?_push_of_some _ e) (Nat.le_refl _) ⟨Nat.zero_le _,[],0,.nil,Heap.get?_push_size _ rfl⟩
 have fb:∀ b ∈ fp,b<s2.heap.objs.size:=fun b hb=>by
  obtain ⟨o,e,_⟩:=T.obj 0 _ st2 b hb; exact Heap.lt_size e
 have f3:∀ b ∈ fp,zf3 X pins (upd H2 s2.heap.objs.size (.lst [])) b:=fun b hb=>by
  refine ⟨?_,(f2 b hb).2⟩; rw [zo (Nat.ne_of_lt (fb b hb))]; exact (f2 b hb).1
 generalize hh3:s2.heap.push { cls:=.type "list",dict:=none,data:=.seq ([]:List Value).toArray }=h3 at hns hsb I3 ⊢
 have z3:s2.heap.objs.size<h3.objs.size:=by rw [← hh3,Heap.size_push]; exact Nat.lt_succ_self _
 have k3:∀ b o,h3.get? b=some o→h1.get? b=some o:=fun b o e=>hsb.extBut b o (Nat.ne_of_lt (Heap.lt_size e)) (Heap.get?_push_of_some _ e)
 have I4:=znJ (tk:=s2.toks+([]:List (Str × Value)).length) I3 B hN hs f3 (fun b hb=>Nat.lt_trans (fb b hb) z3) hns k3
 have st4:tn 0 h1:=T.keep 0 _ _ st2 fun b hb o e=>k3 b o (by rw [← hh3]; exact Heap.get?_push_of_some _ e)
 have fok:∀ {H':Hp},(∀ b ∈ fp,H' b=none)→∀ b ∈ fp,zf3 (blk X N' sc (zdm X.env.cells sc.names []) h3.objs.size { s2 with heap:=h3 } (upd H2 s2.heap.objs.size (.lst [])) fp (X.pn ++ pins)) [] H' b:=fun hn b hb=>by
  obtain ⟨_,g1,g2,g3,g4,g5⟩:=f3 b hb
  refine ⟨hn b hb,Nat.ne_of_lt (Nat.lt_trans (fb b hb) z3),fun z=>?_,.inl hb,fun x c e=>g4 x c (zdW sc.names [] hfr (fun _ _ z=>by simp at z) e),fun p hp=>g5 p (by rw [List.append_nil] at hp; exact hp)⟩
  rcases List.mem_cons.mp (I3.stkSub b z) with e | e
  ·exact g1 e
  ·exact g2 e
 have loop:∀ s4:Shared,s4={ s2 with heap:=h1,toks:=s2.toks+([]:List (Str × Value)).length } →
   codeAny (model X.prog X.w) X.A (.compLoop (.ListComp elt [⟨tg,iter,ifs,0⟩] sc pos) 0 (.ref it) (.ref s2.heap.objs.size) (compEnvC sc (zdm X.env.cells sc.names []) h3.objs.size X.env))
    (compPost (model X.prog X.w) X.A X.xe (some (assign (.Name x0 p1) X.env)) (fun _ s'=>SP X pins D0 .next s') (.ref s2.heap.objs.size) h3.objs.size) s4:=by
  rintro s4 rfl
  refine zgW (fun k s'=>∃ i σ5 H5,Inv (blk X N' sc (zdm X.env.cells sc.names []) h3.objs.size { s2 with heap:=h3 } (upd H2 s2.heap.objs.size (.lst [])) fp (X.pn ++ pins)) [] σ5 H5 s'∧tn i s'.heap∧(∀ b ∈ fp,H5 b=none)∧W i k σ5 H5) ?_ m0
   ⟨0,_,_,I4,st4,fun b hb=>(f3 b hb).1,w0⟩
  rintro k s5 ⟨i,σ5,H5,I5,st5,fr5,w5⟩
  rcases turn i k σ5 H5 w5 with ⟨stop,qd⟩ | ⟨go,M,hM,step⟩
  ·refine thn (T.done (blk X N' sc (zdm X.env.cells sc.names []) h3.objs.size { s2 with heap:=h3 } (upd H2 s2.heap.objs.size (.lst [])) fp (X.pn ++ pins)) rfl rfl rfl hc i [] s5 σ5 H5 _ I5 (fok fr5) st5 stop) fun r s6 ⟨hr,I6⟩=>?_
   subst hr; obtain ⟨m6,hn6,_⟩:=id I6.loc
   have I7:Inv X pins σ H5 s6:=I3.call' (s':=s6) (ch:=fp) I6.os (Un.same I6.base (Heap.SameBut.refl ..) (Nat.le_refl _)) (HOk.same I6.hok (Heap.SameBut.refl ..) I6.free) I6.bare fun b hb=>⟨(f3 b hb).2.2.2.1,(f3 b hb).2.1,(f3 b hb).2.2.2.2.1,(f3 b hb).2.2.2.2.2⟩
   obtain ⟨c0,c1,c2,c3,c4,c5⟩:=I3.fpOk (H':=H5) (b:=h3.objs.size) (Nat.le_refl _) I6.free
   show wpAny _ _ (assign (.Name x0 p1) X.env (.ref s2.heap.objs.size)) _ _ _
   refine wpAny_assign_Name (zf9 (v:=.ref s2.heap.objs.size) I7 hNd hi0 (.inl hx0) rfl (fun s8 I8 sb=>?_) (.inr hx0))
   obtain ⟨a8,sb8,ha8⟩:=sb
   have ne8:h3.objs.size≠a8:=by
    rcases ha8 with e | e
    ·rw [e]; exact c1
    ·exact fun z=>c4 _ _ e z.symm
   exact ⟨m6,hn6.sameBut sb8 ne8,fun h' hsb'=>⟨_,H5,I8.turned (t':=s8.toks) (fun b o hb e=>(hsb'.2 b hb).trans e) c0 c1 c3 c4 c5,fin _ _ qd⟩⟩
  ·refine thn (T.item (blk X N' sc (zdm X.env.cells sc.names []) h3.objs.size { s2 with heap:=h3 } (upd H2 s2.heap.objs.size (.lst [])) fp (X.pn ++ pins)) rfl rfl rfl hc i [] s5 σ5 H5 _ I5 (fok fr5) st5 go) fun r s6 ⟨u,hr,h6⟩=>?_
   subst hr
   refine thn h6 fun _ s7 ⟨x,H7,I7,r7,y7,st7,fr7⟩=>?_
   have I7':=I7.pinned (fok fr7) (T.obj _ _ st7)
   have back:∀ {σ8:St} {H8:Hp} {s8:Shared},Inv (blk X N' sc (zdm X.env.cells sc.names []) h3.objs.size { s2 with heap:=h3 } (upd H2 s2.heap.objs.size (.lst [])) fp (X.pn ++ pins)) ([] ++ zfk fp s7.heap) σ8 H8 s8→tn (i+1) s8.heap∧∀ b ∈ fp,H8 b=none:=fun {σ8 H8 s8} I8=>by
    have pn8:∀ b ∈ fp,∀ o,s7.heap.get? b=some o→s8.heap.get? b=some o∧H8 b=none:=fun b hb o e=>by
     have q:=I8.pin (b,o) (List.mem_append_right _ (List.mem_append_right _ (zdg hb e))); exact ⟨q.1,q.2.1⟩
    refine ⟨T.keep _ _ _ st7 fun b hb o e=>(pn8 b hb o e).1,fun b hb=>?_⟩
    obtain ⟨o,e,_⟩:=T.obj _ _ st7 b hb; exact (pn8 b hb o e).2
   have xf:∀ {α:Type} {t:Sem α} {Q1 Q2:α→Shared→Prop} {z:Shared},wpAny (model X.prog X.w) X.A t Q1 X.xe z→(∀ a z',Q1 a z'→Q2 a z')→wpAny (model X.prog X.w) X.A t Q2 (fun _ _=>False) z:=fun g1 g2=>by
    rw [hx] at g1; exact thn g1 g2
   refine xf (hg _ _ _ _ _ _ _ s7 σ5 H7 x u _ I7' r7 (step x H7 y7)) fun _ s8 ⟨σ8,H8,I8,q8⟩=>?_
   refine xf (ht _ _ _ _ _ _ _ s8 σ8 H8 _ I8 q8) fun b s9 ⟨H9,I9,q9⟩=>?_
   cases b with
   | false =>
    obtain ⟨m',hm,w'⟩:=hM σ8 H9 (by simpa using q9)
    obtain ⟨g1,g2⟩:=back I9; exact ⟨m',hm,i+1,σ8,H9,I9.unpinned,g1,g2,w'⟩
   | true =>
    rw [if_pos rfl] at q9 ⊢
    refine xf (he _ _ _ _ _ _ _ s9 σ8 H9 _ I9 q9) fun y s10 ⟨yv,H10,I10,r10,ys,hy,hz,w⟩=>?_
    obtain ⟨m',hm,w'⟩:=hM _ _ w
    refine xf (zdP (X:=(blk X N' sc (zdm X.env.cells sc.names []) h3.objs.size { s2 with heap:=h3 } (upd H2 s2.heap.objs.size (.lst [])) fp (X.pn ++ pins))) _ s10 σ8 H10 (.ref s2.heap.objs.size) [yv] _ [y] (fun _ H11=>H11=upd H10 s2.heap.objs.size (.lst (ys ++ [yv]))) I10 rfl (.cons r10 .nil) ⟨_,ys,yv,rfl,rfl,hy,hz,rfl⟩) fun _ s11 ⟨_,H11,I11,_,e11⟩=>?_
    subst e11; obtain ⟨g1,g2⟩:=back I11; exact ⟨m',hm,i+1,σ8,_,I11.unpinned,g1,g2,w'⟩
 exact codeAny_compStart_list (loop _ rfl) (T.self _ 0 _ _ _ st4 (loop _ rfl))
end L2
namespace PL
open PySem L2
structure PU' (X:Cx) (e:Expr) (t:TO'):Prop where
 h:PU X e (oOf X.K X.N.length t)
section
variable {X:Cx} {pos:Pos}
theorem zdJ {elt tg iter:Expr} {ifs:List Expr} {sc fsc:Scope} {ti:TI'} {g:TG'} {tc:TT'} {te:TE'} {N N':List Str} {src:List (Option Nat)} (B:Blk N N' src fsc sc) (hi:PI' X tg iter ti)
  (hg:∀ cl C s H fp pn,PG' (blk X N' sc cl C s H fp pn) tg g) (ht:∀ cl C s H fp pn,PTs' (blk X N' sc cl C s H fp pn) ifs tc) (he:∀ cl C s H fp pn,PE' (blk X N' sc cl C s H fp pn) elt te)
  (hx:X.xe=(fun _ _=>False):=by rfl) (hc:X.calm=true:=by rfl) (hN:X.N=N:=by rfl) (hs:X.env.scope=fsc:=by rfl)
  (hf:∀ x,foldedSetIterable iter X.env x=pure x:=by intro _; rfl):PU' X (.ListComp elt [⟨tg,iter,ifs,0⟩] sc pos) (zu ti src g tc te):=by
 refine ⟨PU.weak (zn9 (g:=gOf X.K N'.length g) (tc:=zpu X.K N'.length tc) (te:=tOf X.K N'.length te) B hi.h (fun a b c d e f=>(hg a b c d e f).h) (fun a b c d e f=>(ht a b c d e f).h) (fun a b c d e f=>(he a b c d e f).h) hx hc hN hs hf) ?_⟩
 rintro σ H Q2 ⟨W,Hi,Γ,Q,gd,h,fin⟩
 refine ⟨W,Hi,Γ,_,gd,h,?_⟩
 rintro J H1 Hi1 Γ1 ds s1 g1 itd ⟨hlen,q⟩
 intro A hA
 -- the state between two turns
 have hn':src.length=N'.length:=B.len
 refine zgU (n:=ds.length) (fun i σ' H'=>∃ Hi' acc vs Γ',zaW Hi1 Hi'∧Fz Hi' H'∧(∀ b o,H1 b=some o→H' b=some o)∧(∀ b o,H1 b=some o→Hi' b=Hi1 b)∧Hi' A=none∧H' A=some (.lst vs)∧zbP X.K Hi' vs acc∧vs.length≤i∧σ'.length=N'.length ∧
   (∀ (j:Nat) s,Γ'[j]?=some s→s=.emp∨∃ d,s=.val d∧∃ v,σ'[j]?=some (some v)∧Den X.K Hi' v d)∧zee g tc te (fun acc=>Q (.lst acc) Γ1) (ds.drop i) acc Γ') ?_ ?_ ?_
 ·refine ⟨Hi1,[],[],zlB src Γ1,zaW.refl _,(Ext.newO g1.fz hA _ (fun _ z=>by cases z)).fz,fun b o e=>zaJ hA _ b o e,fun b o e=>rfl,g1.sub.free hA,zh,.nil,Nat.zero_le _,?_,fun j s e=>?_,by simpa using q⟩
  ·unfold zW; rw [List.length_map,hn']
  ·unfold zlB at e
   rw [List.getElem?_map] at e
   cases hj:src[j]? with
   | none=>rw [hj] at e; cases e
   | some o =>
    rw [hj] at e
    cases o with
    | none=>cases e; exact .inl rfl
    | some i =>
     have e':(match Γ1[i]? with | some (.val d)=>Slot.val d | _=>.emp)=s:=Option.some.inj e
     cases hΓ:Γ1[i]? with
     | none=>rw [hΓ] at e'; exact .inl e'.symm
     | some sl =>
      rw [hΓ] at e'
      cases sl with
      | val d =>
       refine .inr ⟨d,e'.symm,?_⟩; obtain ⟨v,h1,h2⟩:=g1.val i d hΓ; refine ⟨v,?_,h2⟩; unfold zW; rw [List.getElem?_map,hj]
       show some ((some i).bind fun i=>(σ[i]?).join)=some (some v)
       show some ((σ[i]?).join)=some (some v)
       rw [h1]; rfl
      | emp=>exact .inl e'.symm
      | own o=>exact .inl e'.symm
      | bk _ _ _=>exact .inl e'.symm
 ·rintro i σ' H' hlt ⟨Hi',acc,vs,Γ',s2,s3,k1,k2,hA1,hA2,dl,hv,hl,hsl,q⟩
  have hd:ds.drop i=ds[i] :: ds.drop (i+1):=List.drop_eq_getElem_cons hlt
  rw [hd] at q; obtain ⟨go,yl⟩:=(itd Hi' H' s2 s3).1 i ds[i] (List.getElem?_eq_getElem hlt)
  refine ⟨go,fun x H'' y=>?_⟩
  obtain ⟨Hi'',ex,den⟩:=yl x H'' y
  have gb:Good X.K N'.length ⟨H'',Hi'',[]⟩ Hi'' Γ' σ' H'':=by
   refine ⟨hl,ex.fz,fun b o e _=>e,fun b o e=>⟨o,e⟩,fun b o e=>rfl,fun j d e=>?_,fun j o e=>?_,fun j k o o' b e=>?_,fun j d b xs e=>?_⟩
   ·rcases hsl j _ e with z | ⟨d',z,v,h1,h2⟩
    ·cases z
    ·cases z; exact ⟨v,h1,h2.mono ex.hi⟩
   ·rcases hsl j _ e with z | ⟨d',z,_⟩ <;> cases z
   ·rcases hsl j _ e with z | ⟨d',z,_⟩ <;> cases z
   ·rcases hsl j _ e with z | ⟨d',z,_⟩ <;> cases z
  refine ⟨⟨H'',Hi'',[]⟩,Hi'',Γ',ds[i],_,gb,den,q,?_⟩; intro σ3 H3 Hi3 Γ3 s4 g3 q3; refine ⟨⟨H'',Hi'',[]⟩,Hi3,Γ3,_,g3,q3,?_⟩; intro b H4 Hi4 Γ4 s5 g4 q4
  -- what the state is behind a turn
  have back:∀ {Γ5:Sts} {Hi5 H5:Hp},zaW Hi4 Hi5→Good X.K N'.length ⟨H'',Hi'',[]⟩ Hi5 Γ5 σ3 H5 →
    zaW Hi1 Hi5∧Fz Hi5 H5∧(∀ b o,H1 b=some o→H5 b=some o)∧(∀ b o,H1 b=some o→Hi5 b=Hi1 b)∧Hi5 A=none∧H5 A=some (.lst vs)∧zaW Hi' Hi5:=fun {Γ5 Hi5 H5} s6 g5=>by
   have sx:zaW Hi' Hi5:=ex.hi.trans (s4.trans (s5.trans s6))
   have hA3:H'' A=some (.lst vs):=ex.h _ _ hA2
   refine ⟨s2.trans sx,g5.fz,fun b o e=>g5.keep b o (ex.h _ _ (k1 b o e)) (by simp),fun b o e=>?_,?_,g5.keep A _ hA3 (by simp),sx⟩
   ·rw [g5.fro b o (ex.h _ _ (k1 b o e))]
    show Hi'' b=Hi1 b
    rw [ex.fro b o (k1 b o e),k2 b o e]
   ·rw [g5.fro A _ hA3]
    show Hi'' A=none
    rw [ex.fro A _ hA2,hA1]
  have sl:∀ {Γ5:Sts} {Hi5 H5:Hp},Good X.K N'.length ⟨H'',Hi'',[]⟩ Hi5 Γ5 σ3 H5→∀ (j:Nat) s,(vo Γ5)[j]?=some s→s=.emp∨∃ d,s=.val d∧∃ v,σ3[j]?=some (some v)∧Den X.K Hi5 v d:=fun {Γ5 Hi5 H5} g5 j s e=>by
   unfold vo at e; rw [List.getElem?_map] at e
   cases hj:Γ5[j]? with
   | none=>rw [hj] at e; cases e
   | some sl =>
    rw [hj] at e
    cases sl with
    | val d =>
     cases e; exact .inr ⟨d,rfl,g5.val j d hj⟩
    | emp=>cases e; exact .inl rfl
    | own o=>cases e; exact .inl rfl
    | bk _ _ _=>cases e; exact .inl rfl
  cases b with
  | false =>
   simp only [Bool.false_eq_true,if_false] at q4 ⊢; obtain ⟨b1,b2,b3,b4,b5,b6,b7⟩:=back (zaW.refl _) g4
   exact ⟨Hi4,acc,vs,vo Γ4,b1,b2,b3,b4,b5,b6,dl.mono b7,by omega,g4.len,sl g4,q4⟩
  | true =>
   simp only [if_true] at q4 ⊢; refine ⟨⟨H'',Hi'',[]⟩,Hi4,Γ4,_,g4,q4,?_⟩
   rintro y' H5 ⟨Hi5,dy,Γ5,s6,g5,den5,q5⟩
   obtain ⟨b1,b2,b3,b4,b5,b6,b7⟩:=back s6 g5
   refine ⟨vs,b6,by omega,Hi5,acc ++ [dy],vs ++ [y'],vo Γ5,b1,?_,?_,b4,b5,zh,zbe (dl.mono b7) (.cons den5 .nil),by rw [List.length_append]; simp; omega,g5.len,sl g5,q5⟩
   ·refine ⟨fun b o e=>?_,fun b xs e=>?_⟩
    ·rw [zo (fun z=>by rw [z,b5] at e; cases e)]
     exact b2.sub b o e
    ·by_cases hb:b=A
     ·subst hb; rw [zh] at e; cases e
     ·rw [zo hb] at e; exact b2.tups b xs e
   ·intro b o e
    rw [zo (zaL e hA)]; exact b3 b o e
 ·rintro σ' H' ⟨Hi',acc,vs,Γ',s2,s3,k1,k2,hA1,hA2,dl,hv,hl,hsl,q⟩
  refine ⟨(itd Hi' H' s2 s3).2,?_⟩; rw [List.drop_eq_nil_of_le (Nat.le_refl _)] at q
  have ex:Ext Hi1 H1 Hi' H':=⟨s2,k1,s3,k2⟩
  refine fin A H' Hi' Γ1 (.lst acc) (s1.trans s2) (g1.ext ex) ⟨hA1,?_,⟨fun j o' e z=>?_,fun j d xs e=>?_⟩,vs,hA2,dl⟩ q
  ·cases hq:W.H₀ A with
   | none=>rfl
   | some w =>
    obtain ⟨w',hw⟩:=g1.there A w hq
    rw [hA] at hw; cases hw
  ·obtain ⟨a,h1,_,_,h4⟩:=g1.own j o' e
   rw [z] at h1; cases h1; obtain ⟨w,hw⟩:=h4.there
   rw [hA] at hw; cases hw
  ·obtain ⟨w,hw⟩:=(g1.bk j d A xs e).at_.there
   rw [hA] at hw; cases hw
theorem zdK (i:Nat) {x:Str} {e:Expr} {te:TO'} {pos':Pos} (hN:X.N.Nodup) (he:PU' X e te) (hi:X.N[i]?=some x:=by rfl) (hx:X.env.scope.names.lookup x=some .local:=by rfl) (hs:swapsWith e (some (.Name x pos')) pos.line X.env=pure true:=by rfl):PS' X (.Assign [.Name x pos'] e pos) (zah (zbn te) (zp i)):=by
 refine ⟨fun pins s σ H N2 I q=>?_⟩
 obtain ⟨W,Hi,Γ,N,g,h,l⟩:=q
 refine he.h pins s σ H (fun v H'=>N2.nx (σ.set i (some v)) H') i x pos pos' N2 I ⟨W,Hi,Γ,_,g,h,?_⟩ hN hi hx hs fun _ _ z=>z
 intro a H1 Hi1 Γ1 o s1 g1 nw q; obtain ⟨u,hu⟩:=nw.own.there; exact l.nx _ H1 (upd Hi1 a u) _ (s1.trans (zaJ nw.hi u)) ((g1.freezeA nw.hi nw.h0 nw.ne hu).set (List.getElem?_eq_some_iff.mp hi).1 (nw.own.den nw.hi hu)) q
end
end PL
namespace PL
open PySem L2
def zt4:OD→Prop
 | .lst ds=>∀ d,d ∈ ds→Imm d
 | _=>False
def zK (n:Nat) (t:TO'):TO':=fun Γ Q=>t (zab n Γ) fun o _=>zt4 o∧Q o Γ
theorem zkd {X:Cx} {e:Expr} {t:TO'} (h:PO' X e t):PO' X e (zK X.N.length t):=by
 refine ⟨PE.weak h.h ?_⟩
 rintro σ H Q ⟨W,Hi,Γ,Q',g,q,fin⟩
 obtain ⟨s1,g1⟩:=g.look; refine ⟨_,_,_,_,g1,q,?_⟩
 rintro a H' Hb Γ' o sb g' nw ⟨im,q'⟩
 obtain ⟨s2,g2,hd⟩:=g.unlook sb g'
 have ha:H a=none:=nw.h0
 refine fin a H' _ Γ o s2.hi g2 ⟨?_,?_,⟨fun j o' e z=>?_,fun j d xs e=>?_⟩,?_⟩ q'
 ·unfold zcT
  split
  ·rfl
  ·exact nw.hi
 ·cases hq:W.H₀ a with
  | none=>rfl
  | some w =>
   obtain ⟨w',hw⟩:=g.there a w hq
   rw [ha] at hw; cases hw
 ·obtain ⟨b,h1,_,_,h4⟩:=g.own j o' e
  rw [z] at h1; cases h1; obtain ⟨w,hw⟩:=h4.there
  rw [ha] at hw; cases hw
 ·obtain ⟨w,hw⟩:=(g.bk j d a _ e).at_.there
  rw [ha] at hw; cases hw
 ·cases o with
  | lst ds =>
   obtain ⟨vs,e,dl⟩:=nw.own
   exact ⟨vs,e,paired_of (zg dl) fun i v d h1 h2=>hd v d (im d (List.mem_of_getElem? h2)) (paired_get i dl h1 h2)⟩
  | dic ds=>exact im.elim
  | dit ds=>exact im.elim
  | obj C ds=>exact im.elim
structure ExtB (b:Addr) (Hi H Hi' H':Hp):Prop where
 hi:zaW Hi Hi'
 h:∀ a o,a≠b→H a=some o→H' a=some o
 fz:Fz Hi' H'
 fro:∀ a o,H a=some o→Hi' a=Hi a
theorem zaI {Γ:Sts} {i:Nat} {t:Slot} {j:Nat} {s:Slot} (e:(Γ.set i t)[j]?=some s):(j=i∧s=t)∨(j≠i∧Γ[j]?=some s):=by
 by_cases hj:j=i
 ·subst hj
  refine .inl ⟨rfl,?_⟩; rw [List.getElem?_set] at e; simp only [if_true] at e; split at e
  ·exact (Option.some.inj e).symm
  ·cases e
 ·rw [List.getElem?_set_ne (fun z=>hj z.symm)] at e
  exact .inr ⟨hj,e⟩
theorem Good.extB {K:PySem.W.Frag} {n:Nat} {W:Wd} {Hi Hi' H H':Hp} {Γ:Sts} {σ:St} {i:Nat} {d:D→D} {b:Addr} {xs xs':OD} (g:Good K n W Hi Γ σ H) (e0:Γ[i]?=some (.bk d b xs)) (e:ExtB b Hi H Hi' H') (at_:zbN K Hi' H' b xs'):Good K n W Hi' (Γ.set i (.bk d b xs')) σ H':=by
 have B:=g.bk i d b _ e0
 have hbi:Hi' b=none:=by
  obtain ⟨u,hu⟩:=B.at_.there; exact (e.fro b u hu).trans B.hi
 have mv:∀ {a:Addr} {o:OD},a≠b→zbN K Hi H a o→zbN K Hi' H' a o:=fun ne h=>h.mono e.hi fun u q=>e.h _ u ne q
 refine ⟨g.len,e.fz,fun a o q nf=>?_,fun a o q=>?_,fun a o q=>?_,fun j d' q=>?_,fun j o q=>?_,fun j k o o' a q1 q2 h1 h2=>?_,fun j d' b' ys q=>?_⟩
 ·refine e.h a o (fun z=>?_) (g.keep a o q nf)
  rw [z] at q nf; rw [B.h0 nf] at q; cases q
 ·by_cases z:a=b
  ·rw [z]
   exact at_.there
  ·obtain ⟨o',h⟩:=g.there a o q
   exact ⟨o',e.h a o' z h⟩
 ·obtain ⟨o',h⟩:=g.there a o q
  exact (e.fro a o' h).trans (g.fro a o q)
 ·rcases zaI q with ⟨_,z⟩ | ⟨_,z⟩
  ·cases z
  ·obtain ⟨v,h1,h2⟩:=g.val j d' z
   exact ⟨v,h1,h2.mono e.hi⟩
 ·rcases zaI q with ⟨_,z⟩ | ⟨_,z⟩
  ·cases z
  ·obtain ⟨a,h1,h2,h3,h4⟩:=g.own j o z
   have ne:a≠b:=fun w=>B.ne j o z (by rw [← w]; exact h1)
   obtain ⟨u,hu⟩:=h4.there; exact ⟨a,h1,(e.fro a u hu).trans h2,h3,mv ne h4⟩
 ·rcases zaI q1 with ⟨_,z⟩ | ⟨_,z⟩
  ·cases z
  ·rcases zaI q2 with ⟨_,y⟩ | ⟨_,y⟩
   ·cases y
   ·exact g.apart j k o o' a z y h1 h2
 ·rcases zaI q with ⟨rfl,z⟩ | ⟨hj,z⟩
  ·cases z
   obtain ⟨⟨v,v1,v2⟩,p1,p2,p3,p4,p5,p6⟩:=B
   refine ⟨⟨v,v1,v2.mono e.hi⟩,p1,hbi,p3,at_,fun k d2 ys q=>?_,fun k o' q=>?_⟩
   ·rcases zaI q with ⟨rfl,y⟩ | ⟨_,y⟩
    ·rfl
    ·exact p5 k _ _ y
   ·rcases zaI q with ⟨_,y⟩ | ⟨_,y⟩
    ·cases y
    ·exact p6 k o' y
  ·obtain ⟨⟨v,v1,v2⟩,p1,p2,p3,p4,p5,p6⟩:=g.bk j d' b' _ z
   have ne:b'≠b:=fun w=>hj (B.one j d' ys (by rw [← w]; exact z))
   obtain ⟨u,hu⟩:=p4.there
   refine ⟨⟨v,v1,v2.mono e.hi⟩,p1,(e.fro b' u hu).trans p2,p3,mv ne p4,fun k d2 ys q=>?_,fun k o' q=>?_⟩
   ·rcases zaI q with ⟨rfl,y⟩ | ⟨_,y⟩
    ·cases y
     exact absurd rfl ne
    ·exact p5 k _ _ y
   ·rcases zaI q with ⟨_,y⟩ | ⟨_,y⟩
    ·cases y
    ·exact p6 k o' y
theorem ExtB.put {Hi H:Hp} {b:Addr} {ws:List V} (s:Fz Hi H) (hb:Hi b=none) {u:HO} (hu:H b=some u) (nt:∀ xs,u≠.tup xs):ExtB b Hi H Hi (upd H b (.lst ws)):=by
 refine ⟨zaW.refl _,fun a o ne q=>by rw [zo ne]; exact q,⟨fun a o q=>?_,fun a xs q=>?_⟩,fun _ _ _=>rfl⟩
 ·rw [zo (fun z=>by rw [z,hb] at q; cases q)]
  exact s.sub a o q
 ·by_cases z:a=b
  ·subst z
   rw [zh] at q; cases q
  ·rw [zo z] at q
   exact s.tups a xs q
section
variable {X:Cx}
def zaE (K:PySem.W.Frag) (i:Nat) (f:Str) (te:TE'):TS':=fun N Γ=>∃ d b xs,Γ[i]?=some (.bk d b (.lst xs))∧(∃ C fs,d (.adr b)=.obj C fs∧Cls K C∧zaX K C f∧fs.lookup f=some (.adr b))∧te Γ fun v Γ1=>∃ ys,Γ1[i]?=some (.bk d b (.lst ys))∧ys.length<sizeLine∧N.nx (Γ1.set i (.bk d b (.lst (ys ++ [v]))))
theorem zj9 (i:Nat) {x f:Str} {e:Expr} {te:TE'} {pos p p2 apos cpos:Pos} (he:PE' X e te) (hN:X.N[i]?=some x:=by rfl) (hv:Vis X.env.scope x:=by first | exact Or.inl rfl | exact Or.inr (Or.inl rfl) | exact Or.inr (Or.inr rfl)) (hd:(x == ("__debug__":Str))=false:=by decide)
  (hcd:(x == ("__classdict__":Str))=false:=by decide) (hst:zeT e=false:=by rfl)
  (hb0:attributeBase (.Name x p) f X.env (eval (.Name x p) X.env)=eval (.Name x p) X.env:=by rfl)
  (hbase:attributeBase (.Attribute (.Name x p) f p2) "append" X.env (eval (.Attribute (.Name x p) f p2) X.env)=eval (.Attribute (.Name x p) f p2) X.env:=by rfl) (hline:(apos.endLine == cpos.line)=true:=by rfl)
  (hs:swapsWith (.Call (.Attribute (.Attribute (.Name x p) f p2) "append" apos) [e] [] cpos) none pos.line X.env=pure false:=by rfl) :
  PS' X (.Expr (.Call (.Attribute (.Attribute (.Name x p) f p2) "append" apos) [e] [] cpos) pos) (zaE X.K i f te):=by
 have pl:zch [e]=true:=by unfold zch; rw [hst]; rfl
 have hfew:((backTo cpos (starEach [e] X.env)).all (fun x=>!x.1) && (backToKw cpos (keywordEach [] X.env)).all (fun x=>x.1.isSome)
   && decide ([e].length+([]:List Keyword).length+(if ([]:List Keyword).isEmpty then 0 else 1)<30))=true:=by
  rw [zaP hst]; rfl
 have base:=zeD (zoA PySem.F.plainAttrs_list PySem.F.slot_list_append PySem.F.type_list_append (zdP (X:=X)) (zqv (zcq (i:=i) (pos:=p) hN hv hd hcd) hb0) (zeJ he.h zii (zaP hst)) hbase hfew hline (zaP hst) rfl) hs; refine ⟨PS.weak base ?_⟩
 rintro N2 σ H ⟨W,Hi,Γ,N,g,⟨d,b,xs,e0,⟨C,fs,ed,cl,na,lk⟩,q⟩,l⟩
 have B:=g.bk i d b _ e0; obtain ⟨v0,hv0,den0⟩:=B.val; rw [ed] at den0; obtain ⟨a,dx,fvs,rfl,ha,df⟩:=den0.objI; obtain ⟨u,hu,du⟩:=df.look lk
 cases du.adrI
 obtain ⟨vs0,hb4,_⟩:=B.at_; refine ⟨.ref a,hv0,a,C,dx,fvs,.ref b,rfl,g.sub _ _ ha,cl,na,hu,.inl ⟨rfl,vs0,SqL.of hb4⟩,W,Hi,Γ,_,g,q,?_⟩
 rintro v H1 ⟨Hi1,d1,Γ1,s1,g1,den,ys,e1,hl,q1⟩
 have B1:=g1.bk i d b _ e1; obtain ⟨vs,k4,k5⟩:=B1.at_
 refine ⟨b,vs,v,rfl,rfl,k4,by rw [zg k5]; exact hl,?_⟩
 exact l.nx σ _ Hi1 _ s1 (g1.extB (xs':=.lst (ys ++ [d1])) e1 (ExtB.put g1.fz B1.hi k4 (fun _ z=>by cases z)) ⟨vs ++ [v],zh,zbe k5 (.cons den .nil)⟩) q1
end
abbrev SpB:=(D→D)→List D→List D→(D→List D→Prop)→Prop
def znQ (K:PySem.W.Frag) (sp:SpB):Sp:=fun vs H Q2 _=>∃ Hi d b xs v zdD ds Q,vs=v :: zdD∧Fz Hi H∧Den K Hi v (d (.adr b))∧Hol K d∧Hi b=none∧zbN K Hi H b (.lst xs)∧zbP K Hi zdD ds∧sp d xs ds Q ∧
 ∀ Hi' H' v' r xs',ExtB b Hi H Hi' H'→Den K Hi' v' r→zbN K Hi' H' b (.lst xs')→Q r xs'→Q2 v' H'
structure FnB (P:Program) (w:World) (K:PySem.W.Frag) (mg:Str→Option Value) (base:Heap) (k:Nat) (x:Str) (ps:List Str) (sp:SpB):Prop where
 ex:∃ f fd,FnOk P w K mg base CX0 k f fd ps (znQ K sp)∧zb1 K fd ps []∧PySem.W.keepIn K (.ref f)=true∧mg x=some (.ref f)
structure MthB (P:Program) (w:World) (K:PySem.W.Frag) (mg:Str→Option Value) (base:Heap) (k:Nat) (C:Addr) (m:Str) (ps:List Str) (sp:SpB):Prop where
 ex:∃ f fd,FnOk P w K mg base CX0 k f fd ps (znQ K sp)∧zb1 K fd ps []∧Meth K C m f∧Cls K C
section
variable {X:Cx} {k:Nat} {C:Addr} {m x y:Str} {ps:List Str} {sp:SpB} {apos pos p q:Pos} {e:Expr} {es:List Expr} {t:TA'}
def zD (i:Nat) (sp:SpB) (t:TA'):TE':=fun Γ Q=>(∃ d b xs,Γ[i]?=some (.bk d b (.lst xs)))∧t Γ fun ds Γ1=>∃ d b xs,Γ1[i]?=some (.bk d b (.lst xs))∧sp d xs ds fun r ys=>Q r (Γ1.set i (.bk d b (.lst ys)))
def zaD (C:Addr) (m:Str) (i:Nat) (sp:SpB) (t:TA'):TE':=fun Γ Q=>∃ d b xs,Γ[i]?=some (.bk d b (.lst xs))∧(∃ fs,d (.adr b)=.obj C fs∧fs.lookup m=none)∧t Γ fun ds Γ1=>∃ xs,Γ1[i]?=some (.bk d b (.lst xs))∧sp d xs ds fun r ys=>Q r (Γ1.set i (.bk d b (.lst ys)))
theorem pe_callB (i:Nat) (h:FnB X.prog X.w X.K X.mg X.base k x ps sp) (hr:Room k X.A) (ha:PA' X es t) (hN:X.N[i]?=some y:=by rfl) (hv:Vis X.env.scope y:=by first | exact Or.inl rfl | exact Or.inr (Or.inl rfl) | exact Or.inr (Or.inr rfl)) (hd:(y == ("__debug__":Str))=false:=by decide)
  (hcd:(y == ("__classdict__":Str))=false:=by decide) (hg:Gl X x:=by rfl) (hdb:(x == ("__debug__":Str))=false:=by decide) :
  PE' X (.Call (.Name x p) (.Name y q :: es) [] pos) (zD i sp t):=by
 obtain ⟨f,fd,F,b,hk,hm⟩:=h.ex; refine ⟨PE.weak (zeG (E:=E0) (dvs:=[]) F hr hg hm hk b .nil ze7 (zeJ (zcq (i:=i) (pos:=q) hN hv hd hcd) ha.pa (zaP rfl)) hdb (zaP rfl) (zaR ha.pl)) ?_⟩
 rintro σ H Q ⟨W,Hi,Γ,Q',g,⟨⟨d0,b0,xs0,e0⟩,h⟩,fin⟩
 obtain ⟨v0,hv0,_⟩:=(g.bk i _ _ _ e0).val; refine ⟨v0,hv0,W,Hi,Γ,_,g,h,?_⟩
 rintro vs H1 Hi1 Γ1 ds s1 g1 dl ⟨d,b',xs,e1,q1⟩
 have B:=g1.bk i d b' _ e1; obtain ⟨v1,hv1,den1⟩:=B.val; rw [hv0] at hv1; cases hv1; rw [List.append_nil]; refine ⟨Hi1,d,b',xs,v0,vs,ds,_,rfl,g1.fz,den1,B.hol,B.hi,B.at_,dl,q1,?_⟩; intro Hi2 H2 v' r ys ex den at_ q2; exact fin v' H2 ⟨Hi2,r,_,s1.trans ex.hi,g1.extB e1 ex at_,den,q2⟩
theorem zkj (i:Nat) (h:MthB X.prog X.w X.K X.mg X.base k C m ps sp) (hr:Room k X.A) (ha:PA' X (e :: es) t) (hN:X.N[i]?=some y:=by rfl) (hv:Vis X.env.scope y:=by first | exact Or.inl rfl | exact Or.inr (Or.inl rfl) | exact Or.inr (Or.inr rfl)) (hd:(y == ("__debug__":Str))=false:=by decide)
  (hcd:(y == ("__classdict__":Str))=false:=by decide) {pl:Sem Bool}
  (ht:eval (.Call (.Attribute (.Name y q) m apos) (e :: es) [] pos) X.env=(do
   let ov ← eval (.Name y q) X.env
   standAt apos.atName
   let (f,first) ← holding [ov] (getMethod ov m pl)
   callWith pos f first (backTo pos (starEach (e :: es) X.env)) (backToKw pos (keywordEach [] X.env))):=by rfl) :
  PE' X (.Call (.Attribute (.Name y q) m apos) (e :: es) [] pos) (zaD C m i sp t):=by
 obtain ⟨f,fd,F,b,hm,cl⟩:=h.ex; refine ⟨PE.weak (zkl (E:=E0) (dvs:=[]) (zcq (i:=i) (pos:=q) hN hv hd hcd) cl hm F hr b .nil ze7 ha.pa (zaP (zX ha.pl).1) (zaR (zX ha.pl).2) ht) ?_⟩
 rintro σ H Q ⟨W,Hi,Γ,Q',g,⟨d,b',xs0,e0,⟨fs,ed,lk⟩,h⟩,fin⟩
 obtain ⟨v0,hv0,den0⟩:=(g.bk i _ _ _ e0).val; rw [ed] at den0; obtain ⟨a,dx,fvs,rfl,ha',df⟩:=den0.objI; refine ⟨.ref a,hv0,a,dx,fvs,rfl,g.sub _ _ ha',zdV df lk,W,Hi,Γ,_,g,h,?_⟩
 rintro vs H1 Hi1 Γ1 ds s1 g1 dl ⟨xs,e1,q1⟩
 have B:=g1.bk i d b' _ e1; obtain ⟨v1,hv1,den1⟩:=B.val; rw [hv0] at hv1; cases hv1; rw [List.append_nil]; refine ⟨Hi1,d,b',xs,.ref a,vs,ds,_,rfl,g1.fz,den1,B.hol,B.hi,B.at_,dl,q1,?_⟩; intro Hi2 H2 v' r ys ex den at_ q2; exact fin v' H2 ⟨Hi2,r,_,s1.trans ex.hi,g1.extB e1 ex at_,den,q2⟩
class MSpB (sp:SpB):Prop where
 mono:∀ d xs ds Q Q',(∀ r ys,Q r ys→Q' r ys)→sp d xs ds Q→sp d xs ds Q'
instance {i:Nat} {sp:SpB} {t:TA'} [MSpB sp] [MA t]:ME (zD i sp t):=⟨fun Γ _ _ h ⟨a,q⟩=>⟨a,MA.mono (t:=t) Γ _ _ (fun _ _ ⟨d,b,xs,e,z⟩=>⟨d,b,xs,e,MSpB.mono (sp:=sp) _ _ _ _ _ (fun _ _ w=>h _ _ w) z⟩) q⟩⟩
end
def zr (N:List Str) (d:D→D) (b:Addr) (xs:List D) (ds:List D):Sts:=.bk d b (.lst xs) :: (ds.map .val ++ List.replicate (N.length-(ds.length+1)) .emp)
theorem zhP {K:PySem.W.Frag} {N ps:List Str} {v:V} {vs:List V} {d:D→D} {b:Addr} {xs ds:List D} {Hi H:Hp} (hlen:ds.length+1=ps.length) (hpl:ps.length≤N.length) (sb:Fz Hi H) (dv:Den K Hi v (d (.adr b))) (hol:Hol K d) (hb:Hi b=none) (at_:zbN K Hi H b (.lst xs)) (dl:zbP K Hi vs ds) :
  Good K N.length ⟨H,Hi,[b]⟩ Hi (zr N d b xs ds) (L2.start N (v :: vs)) H:=by
 have hvl:=zg dl
 have inv:∀ (j:Nat) s,(zr N d b xs ds)[j]?=some s→(j=0∧s=.bk d b (.lst xs))∨s=.emp∨∃ j' d',j=j'+1∧ds[j']?=some d'∧s=.val d':=fun j s e=>by
  cases j with
  | zero=>exact .inl ⟨rfl,(Option.some.inj e).symm⟩
  | succ j =>
   right
   have e':(ds.map Slot.val ++ List.replicate (N.length-(ds.length+1)) Slot.emp)[j]?=some s:=by simpa [zr] using e
   by_cases hj:j<ds.length
   ·rw [List.getElem?_append_left (by simpa using hj),List.getElem?_map,List.getElem?_eq_getElem hj] at e'
    exact .inr ⟨j,_,rfl,List.getElem?_eq_getElem hj,(Option.some.inj e').symm⟩
   ·rw [List.getElem?_append_right (by simpa using hj),List.getElem?_replicate] at e'
    split at e'
    ·exact .inl (Option.some.inj e').symm
    ·cases e'
 refine ⟨?_,sb,fun a o e _=>e,fun a o e=>⟨o,e⟩,fun a o e=>rfl,fun j d' e=>?_,fun j o e=>?_,fun j k o o' a e=>?_,fun j d' b' ys e=>?_⟩
 ·unfold L2.start
  rw [List.length_append,List.length_map,List.length_replicate]; simp; omega
 ·rcases inv j _ e with ⟨_,z⟩ | z | ⟨j',d2,rfl,e2,z⟩
  ·cases z
  ·cases z
  ·cases z
   obtain ⟨w,e1,dw⟩:=zaU dl e2; refine ⟨w,?_,dw⟩; unfold L2.start
   have hj':j'<vs.length:=(List.getElem?_eq_some_iff.mp e1).1
   rw [List.getElem?_append_left (by rw [List.length_map]; simp; omega),List.getElem?_map]
   simp [e1]
 ·rcases inv j _ e with ⟨_,z⟩ | z | ⟨j',d2,rfl,e2,z⟩ <;> cases z
 ·rcases inv j _ e with ⟨_,z⟩ | z | ⟨j',d2,rfl,e2,z⟩ <;> cases z
 ·rcases inv j _ e with ⟨rfl,z⟩ | z | ⟨j',d2,rfl,e2,z⟩
  ·cases z
   refine ⟨⟨v,?_,dv⟩,hol,hb,fun z=>absurd (List.mem_singleton.mpr rfl) z,at_,fun k d2 zs q=>?_,fun k o' q=>?_⟩
   ·unfold L2.start
    simp
   ·rcases inv k _ q with ⟨rfl,z⟩ | z | ⟨j',d2,rfl,e2,z⟩
    ·rfl
    ·cases z
    ·cases z
   ·rcases inv k _ q with ⟨rfl,z⟩ | z | ⟨j',d2,rfl,e2,z⟩ <;> cases z
  ·cases z
  ·cases z
section
variable {P:Program} {w:World} {K:PySem.W.Frag} {mg:Str→Option Value} {base:Heap}
theorem Fun.okB {x qual:Str} {st:Stmt} {f:Addr} {fd:FuncData} {N ps:List Str} {k:Nat} {sp:SpB} (F:Fun K x qual st f fd) (S:FnScope N ps (zd st)) (len:∀ d xs ds Q,sp d xs ds Q→ds.length+1=ps.length)
  (hbody:∀ (cdv:Value) (A:Around) (outer:List Env) (s:Shared) (H:Hp) (E:XK),Room k (A.deeper (PyProof.Rows.envOfC qual (zd st) s.heap.objs.size f cdv))→∀ d b xs ds Q,sp d xs ds Q →
   ∃ t,PSs' (ze4 CX0 P w K mg base N qual (zd st) f cdv A outer s H E).nox (zaK st) t∧t { nx:=fun Γ=>∃ ys,Γ[0]?=some (.bk d b (.lst ys))∧Q .non ys,rt:=fun r Γ=>∃ ys d',r=.val d'∧Γ[0]?=some (.bk d b (.lst ys))∧Q d' ys } (zr N d b xs ds)):FnOk P w K mg base CX0 (k+1) f fd ps (znQ K sp):=by
 refine F.ok S (fun vs H Q E h=>?_) (fun cdv A outer s H vs Q E hr h=>?_)
 ·obtain ⟨Hi,d,b,xs,v,zdD,ds,Q',rfl,_,_,_,_,_,dl,h,_⟩:=h
  have:=len d xs ds Q' h
  rw [List.length_cons,zg dl]; exact this
 obtain ⟨Hi,d,b,xs,v,zdD,ds,Q',rfl,sb,dv,hol,hb,at_,dl,h,fin⟩:=h; obtain ⟨t,h1,h2⟩:=hbody cdv A outer s H E hr d b xs ds Q' h; have hlen:=len d xs ds Q' h
 have hpl:ps.length≤N.length:=by have:=congrArg List.length S.pre; rw [List.length_take] at this; omega
 refine ⟨_,h1.h,⟨H,Hi,[b]⟩,Hi,zr N d b xs ds,_,zhP hlen hpl sb dv hol hb at_ dl,h2,?_⟩
 have ex:∀ {σ':St} {H' Hi':Hp} {Γ':Sts},zaW Hi Hi'→Good K N.length ⟨H,Hi,[b]⟩ Hi' Γ' σ' H'→ExtB b Hi H Hi' H':=fun s1 g1 =>
  ⟨s1,fun a o ne e=>g1.keep a o e (by simpa using ne),g1.fz,fun a o e=>g1.fro a o e⟩
 refine ⟨fun σ' H' Hi' Γ' s1 g1 q=>?_,fun _ _ _ _ _ _ q=>q.elim,fun _ _ _ _ _ _ q=>q.elim,fun v σ' H' Hi' Γ' r s1 g1 ro q=>?_⟩
 ·obtain ⟨ys,e,q⟩:=q
  exact fin Hi' H' .non .non ys (ex s1 g1) .non (g1.bk 0 d b _ e).at_ q
 ·obtain ⟨ys,d',rfl,e,q⟩:=q
  exact fin Hi' H' v d' ys (ex s1 g1) ro (g1.bk 0 d b _ e).at_ q
theorem Df.okB {k:Nat} {x:Str} {ps:List Str} {sp:SpB} {st:Stmt} {N:List Str} (d:Df K mg x st ps) (S:FnScope N ps (zd st)) (len:∀ d xs ds Q,sp d xs ds Q→ds.length+1=ps.length)
  (hbody:∀ (f:Addr) (cdv:Value) (A:Around) (outer:List Env) (s:Shared) (H:Hp) (E:XK),Room k (A.deeper (PyProof.Rows.envOfC x (zd st) s.heap.objs.size f cdv))→∀ d b xs ds Q,sp d xs ds Q →
   ∃ t,PSs' (ze4 CX0 P w K mg base N x (zd st) f cdv A outer s H E).nox (zaK st) t∧t { nx:=fun Γ=>∃ ys,Γ[0]?=some (.bk d b (.lst ys))∧Q .non ys,rt:=fun r Γ=>∃ ys d',r=.val d'∧Γ[0]?=some (.bk d b (.lst ys))∧Q d' ys } (zr N d b xs ds)):FnB P w K mg base (k+1) x ps sp:=by
 obtain ⟨f,fd,F,b,m⟩:=d.ex; exact ⟨f,fd,PL.Fun.okB F S len (hbody f),b,F.kp,m⟩
end
end PL
namespace L2
open PySem PySem.Spec PyProof.Rows
def Itw (K:PySem.W.Frag) (a:Addr) (vs:List V):It :=
 ⟨fun i H=>SqL K H a vs∧i<vs.length,fun i H x H'=>H'=H∧vs[vs.length-1-i]?=some x,fun i H=>SqL K H a vs∧vs.length≤i⟩
theorem zfI {h:Heap} {a:Addr} {its:Array Value} (p:PlainL h a its):h.IsList a its:=by
 obtain ⟨o,n,e,c,d,e2⟩:=p
 first | exact ⟨o,e,c,n,e2⟩ | exact ⟨o,e,c,n,d⟩
theorem zlE {P:Program} {w:World} {K:PySem.W.Frag} {tg:Expr} (a it:Addr) (vs:List V):Turn P w K tg (Itw K a vs) [it] it (fun i h=>i≤vs.length∧h.IsRevIter it a ((vs.length:Int)-1-(i:Int))) where
 mem:=by simp
 obj:=fun i h st b hb=>by
  have e:b=it:=by simpa using hb
  subst e; obtain ⟨o,ho,hc,hd⟩:=st.2
  exact ⟨o,ho,fun v z=>by rw [hd] at z; cases z⟩
 keep:=fun i h h' st k=>⟨st.1,st.2.at fun o e=>k it (by simp) o e⟩
 item:=by
  intro X hP hw hK hc i pins s σ H E I hf st hg
  subst hP hw hK
  obtain ⟨hq,hi⟩:=hg; obtain ⟨its,rv,p,hz⟩:=I.list hq
  obtain ⟨f0,f1,f2,f3,f4,f5⟩:=hf it (by simp)
  have hl:=rv.length
  have hx:vs[vs.length-1-i]?=some (vs[vs.length-1-i]'(by omega)):=List.getElem?_eq_getElem (by omega)
  obtain ⟨u,hu,ru⟩:=rv.get hx; have st2:=st.2
  rw [show (vs.length:Int)-1-(i:Int)=((vs.length-1-i:Nat):Int) by omega] at st2
  refine wpAny_pyNext_rev_item st2 (zfI p) (x:=u) (by simpa using hu) fun h' st' sb=>?_
  have I1:Inv X pins σ H { s with heap:=h',toks:=s.toks }:=I.turned (t':=s.toks) (fun b o hb e=>(sb.2 b hb).trans e) f0 f1 f3 f4 f5
  have st3:h'.IsRevIter it a ((vs.length:Int)-1-((i+1:Nat):Int)):=by
   rw [show (vs.length:Int)-1-((i+1:Nat):Int)=((vs.length-1-i:Nat):Int)-1 by omega]
   exact st'
  obtain ⟨o,ho,hc',hd⟩:=id st3
  exact ⟨u,rfl,zjm (s:={ s with heap:=h',toks:=s.toks }) (n:="list_reverseiterator") ho hc' hd (by decide) ⟨_,H,I1,ru,⟨rfl,hx⟩,⟨by omega,st3⟩,fun b hb=>(hf b hb).1⟩⟩
 done:=by
  intro X hP hw hK hc i pins s σ H E I hf st hg
  subst hP hw hK
  obtain ⟨hq,hi⟩:=hg
  obtain ⟨f0,f1,f2,f3,f4,f5⟩:=hf it (by simp)
  have st2:=st.2
  rw [show (vs.length:Int)-1-(i:Int)=-1 by have:=st.1; omega] at st2
  exact wpAny_pyNext_rev_end (I.ok.hd hc) st2 fun h' eb=>⟨rfl,I.turned (t':=s.toks) (fun b o hb e=>eb b o hb e) f0 f1 f3 f4 f5⟩
 self:=fun _ _ _ _ _ st h=>wpAny_pyIter_revIter st.2 h
section
variable {X:Cx} {tg:Expr}
def zuw (K:PySem.W.Frag) (ta:TA):TI:=fun σ H R=>ta σ H fun xs H1=>∃ a vs,xs=[.ref a]∧SqL K H1 a vs∧R (Itw K a vs) H1
theorem zqi {a:Expr} {ta:TA} {p pos:Pos} (hg:Gl X "reversed") (hm:X.mg "reversed"=none) (ha:PA X [a] ta) (hs:starEach [a] X.env=[(false,eval a X.env)]:=by rfl):PI X tg (.Call (.Name "reversed" p) [a] [] pos) (zuw X.K ta):=by
 intro pins s σ H R I h
 refine Call_ (zeh I hg hm boot_reversed (PyProof.Rows.callWith_type1 (thn (ha pos pins s σ H _ I h) fun us s1 ⟨vs,H1,I1,r1,q1⟩=>?_) hs rfl))
 obtain ⟨b,xs,e,hq,q⟩:=q1; subst e; obtain ⟨u,rfl,rx⟩:=zcU r1; cases rx; obtain ⟨its,rv,p,hz⟩:=I1.list hq; have hl:=rv.length; refine call_reversed_list (zfI p) ?_
 have st:(s1.heap.push (revObj b ((its.toArray.size:Int)-1))).IsRevIter s1.heap.objs.size b ((xs.length:Int)-1-((0:Nat):Int)):=by
  have e:(xs.length:Int)-1-((0:Nat):Int)=(its.toArray.size:Int)-1:=by rw [List.size_toArray,← hl]; omega
  rw [e]; exact ⟨_,Heap.get?_push_size _ rfl,rfl,rfl⟩
 refine wpAny_pyIter_revIter (s:={ s1 with heap:=s1.heap.push (revObj b ((its.toArray.size:Int)-1)) }) st ?_
 refine ⟨s1.heap.objs.size,[s1.heap.objs.size],_,_,H1,rfl,I1.kept (t':=s1.toks) fun b o e=>Heap.get?_push_of_some _ e,zlE b _ xs,⟨Nat.zero_le _,st⟩,fun c hc=>?_,q⟩
 have e:c=s1.heap.objs.size:=by simpa using hc
 subst e; exact I1.fpOk (Nat.le_refl _) (I1.hok.fresh (Nat.le_refl _))
theorem zkq (hu:X.A.units+1<cLine):OpR X (compareOp .NotIn) (fun x y H Q=>∃ a o,y=.ref a∧ztJ H a x o∧Q (.bl (!o.isSome)) H):=by
 intro pins s σ H x y v u Q I rx ry h; obtain ⟨a,o,rfl,g,q⟩:=h; cases ry
 exact zpl hu I g rx fun s' I'=>⟨.bl _,H,I',rfl,q⟩
end
end L2
namespace PL
open PySem L2
theorem zpb {K:PySem.W.Frag} {Hi:Hp} {a:Addr} {vs:List V} {ds:List D} (h:SqL K Hi a vs) (r:zbP K Hi vs ds):ItD K Hi (Itw K a vs) ds.reverse:=by
 intro Hi' H' s1 s2
 have hq:SqL K H' a vs:=zas (s1.trans s2.sub) h
 have hl:=zg r
 refine ⟨fun i d e=>?_,hq,by rw [List.length_reverse,hl]; exact Nat.le_refl _⟩
 have hi:i<ds.length:=by
  have:=(List.getElem?_eq_some_iff.mp e).1
  rwa [List.length_reverse] at this
 refine ⟨⟨hq,by omega⟩,?_⟩
 rintro x H'' ⟨rfl,hx⟩
 rw [List.getElem?_reverse hi] at e; refine ⟨Hi',Ext.refl s2,(paired_get _ r hx ?_).mono s1⟩; rw [hl]; exact e
def zaF (t:TA'):TI':=fun Γ Q=>t Γ fun ds Γ1=>∃ es,ds=[.lst es]∧Q es.reverse Γ1
theorem zop {X:Cx} {tg a:Expr} {t:TA'} {p pos:Pos} (hg:Gl X "reversed") (hm:X.mg "reversed"=none) (ha:PA' X [a] t) (hs:starEach [a] X.env=[(false,eval a X.env)]:=by rfl):PI' X tg (.Call (.Name "reversed" p) [a] [] pos) (zaF t):=by
 refine ⟨PI.weak (zqi hg hm ha.pa hs) ?_⟩
 rintro σ H R ⟨W,Hi,Γ,Q',g,h,fin⟩
 refine ⟨W,Hi,Γ,_,g,h,?_⟩
 rintro vs H1 Hi1 Γ1 ds s1 g1 dl ⟨es,rfl,q⟩
 obtain ⟨v,rfl,den⟩:=zcW dl; obtain ⟨a,us,rfl,h1,h2⟩:=den.lstI; exact ⟨a,us,rfl,zas g1.sub h1,fin _ H1 Hi1 Γ1 _ s1 g1 (zpb h1 h2) q⟩
section
variable {X:Cx}
theorem zeN:Op2 X (binaryOp .Pow) (rI' zjB fun i j=>.int (i ^ j.toNat)):=⟨_,zqB,zis _ fun i j _=>.int _⟩
def zaH (t:TE'):TE':=fun Γ Q=>t Γ fun d Γ1=>∃ i:Int,d=.int i∧Q (.int (-i)) Γ1
theorem zmc {k:Nat} {C:Addr} {m:Str} {ps:List Str} {sp:Sp'} {apos pos:Pos} {o:Expr} {to:TE'} (h:Mth X.prog X.w X.K X.mg X.base k C m ps sp) (hr:Room k X.A) (ho:PE' X o to) {pl:Sem Bool}
  (ht:eval (.Call (.Attribute o m apos) [] [] pos) X.env=(do
   let ov ← eval o X.env
   standAt apos.atName
   let (f,first) ← holding [ov] (getMethod ov m pl)
   callWith pos f first (backTo pos (starEach [] X.env)) (backToKw pos (keywordEach [] X.env))):=by rfl) :
  PE' X (.Call (.Attribute o m apos) [] [] pos) (zam C m sp to zad):=by
 obtain ⟨f,fd,F,b,hm,cl⟩:=h.ex; refine ⟨PE.weak (zmd (E:=E0) (dvs:=[]) ho.h cl hm F hr b .nil ze7 ht) ?_⟩
 rintro σ H Q ⟨W,Hi,Γ,Q',g,h,fin⟩
 refine ⟨W,Hi,Γ,_,g,h,?_⟩
 rintro x H1 ⟨Hi1,d,Γ1,s1,g1,den1,fs,rfl,lk,q⟩
 obtain ⟨a,dx,fvs,rfl,ha',df⟩:=id den1.objI; refine ⟨a,dx,fvs,rfl,g1.sub _ _ ha',zdV df lk,?_⟩
 show zh7 X.K sp [V.ref a] H1 Q E0
 refine ⟨Hi1,_,_,g1.fz,.cons den1 .nil,q,?_⟩; intro Hi3 H3 v r ex ro q3
 cases r with
 | val d=>exact fin v H3 ⟨Hi3,d,Γ1,s1.trans ex.hi,g1.ext ex,ro,q3⟩
 | own o =>
  obtain ⟨a,rfl,h1,h2,h3⟩:=ro; have nw:=zb7 g1 ex h1 h2 h3; obtain ⟨u,hu⟩:=h3.there; exact fin _ H3 ⟨upd Hi3 a u,_,Γ1,s1.trans (ex.hi.trans (zaJ h1 u)),(g1.ext ex).freezeA nw.hi nw.h0 nw.ne hu,h3.den h1 hu,q3⟩
 | bk d o =>
  obtain ⟨b',dv,hol,h1,h2,h3⟩:=ro; have nw:=zb7 g1 ex h1 h2 h3; obtain ⟨u,hu⟩:=h3.there; exact fin _ H3 ⟨upd Hi3 b' u,_,Γ1,s1.trans (ex.hi.trans (zaJ h1 u)),(g1.ext ex).freezeA nw.hi nw.h0 nw.ne hu,hol b' _ v o (h3.den h1 hu) (dv.mono (zaJ h1 u)),q3⟩
def zax (i:Nat):TS':=fun N Γ=>∃ ds,Γ[i]?=some (.own (.lst ds))∧N.nx (Γ.set i (.own (.lst ds.reverse)))
theorem zi7 {α β:Type} {R:α→β→Prop} {l:List α} {m:List β} (h:Paired R l m):Paired R l.reverse m.reverse:=by
 have hl:=zg h
 refine paired_of (by simp [hl]) fun i a b h1 h2=>?_
 have i1:i<l.length:=by have:=(List.getElem?_eq_some_iff.mp h1).1; simpa using this
 rw [List.getElem?_reverse i1] at h1
 rw [List.getElem?_reverse (by omega)] at h2
 rw [← hl] at h2; exact paired_get _ h h1 h2
theorem zht (i:Nat) {x:Str} {pos p apos cpos:Pos} (hN:X.N[i]?=some x:=by rfl) (hv:Vis X.env.scope x:=by first | exact Or.inl rfl | exact Or.inr (Or.inl rfl) | exact Or.inr (Or.inr rfl)) (hd:(x == ("__debug__":Str))=false:=by decide)
  (hcd:(x == ("__classdict__":Str))=false:=by decide)
  (hbase:attributeBase (.Name x p) "reverse" X.env (eval (.Name x p) X.env)=eval (.Name x p) X.env:=by rfl) (hline:(apos.endLine == cpos.line)=true:=by rfl)
  (hs:swapsWith (.Call (.Attribute (.Name x p) "reverse" apos) [] [] cpos) none pos.line X.env=pure false:=by rfl) :
  PS' X (.Expr (.Call (.Attribute (.Name x p) "reverse" apos) [] [] cpos) pos) (zax i):=by
 refine ⟨PS.weak (zeD (zqw PySem.F.plainAttrs_list PySem.F.slot_list_reverse PySem.F.type_list_reverse (zjc (X:=X)) (zcq (i:=i) (pos:=p) hN hv hd hcd) hbase hline) hs) ?_⟩
 rintro N2 σ H ⟨W,Hi,Γ,N,g,⟨ds,e0,q⟩,l⟩
 have hi:i<X.N.length:=(List.getElem?_eq_some_iff.mp hN).1
 obtain ⟨a,h1,h2,h3,vs,h4,h5⟩:=g.own i _ e0; refine ⟨.ref a,zg9 hi h1,.inl ⟨rfl,vs,SqL.of h4⟩,a,vs,rfl,rfl,h4,?_⟩; exact l.nx σ _ Hi _ (zaW.refl _) (g.put (o:=.lst ds.reverse) e0 h1 ⟨vs.reverse,zh,zi7 h5⟩) q
def nmD (ms:List (List Nat)):List (D × D):=ms.map fun m=>(.str m,.bl true)
def nmV (ms:List (List Nat)):List (Key × V):=ms.map fun m=>(.inr (st m),.bl true)
theorem znl {K:PySem.W.Frag} {H:Hp}:∀ (ms:List (List Nat)),znL K H (nmV ms) (nmD ms)
 | []=>.nil
 | m :: ms=>.cons ⟨by show D.str m=.str (st m).cps.toList; rw [zbJ],.bl true⟩ (znl ms)
theorem zoQ {K:PySem.W.Frag} {H:Hp}:∀ {kvs:List (Key × V)} {ms:List (List Nat)},znL K H kvs (nmD ms)→kvs=nmV ms
 | [],[],_=>rfl
 | p :: kvs,m :: ms,.cons r t=>by
  obtain ⟨k,v⟩:=p; obtain ⟨r1,r2⟩:=r
  cases r2.blI
  cases k with
  | inl i=>cases r1
  | inr x =>
   have e:m=x.cps.toList:=by injection r1
   show _=(Sum.inr (st m),V.bl true) :: nmV ms
   rw [← zoQ t,e,← zpQ x]
 | [],_ :: _,h=>nomatch h
 | _ :: _,[],h=>nomatch h
theorem st_inj {l m:List Nat}:st l=st m↔l=m:=⟨fun h=>by rw [← zbJ l,h,zbJ],fun h=>by rw [h]⟩
theorem zqQ {l m:List Nat}:((Sum.inr (st m):Key)=.inr (st l))↔m=l:=⟨fun h=>st_inj.mp (Sum.inr.inj h),fun h=>by rw [h]⟩
theorem znm (l:List Nat) (ms:List (List Nat)):((nmV ms).any fun kv=>decide (kv.1=.inr (st l)))=decide (l ∈ ms):=by
 induction ms with
 | nil=>rfl
 | cons m ms ih =>
  show (decide ((Sum.inr (st m):Key)=.inr (st l)) || (nmV ms).any _)=_
  rw [ih]
  by_cases e:m=l
  ·subst e; simp
  ·have h1:¬ ((Sum.inr (st m):Key)=.inr (st l)):=fun z=>e (zqQ.mp z)
   have h2:¬ l=m:=fun z=>e z.symm
   simp [h1,h2]
theorem zqO (l:List Nat) (ms:List (List Nat)):(zfs (nmV ms) (.inr (st l))).isSome=decide (l ∈ ms):=by
 rw [← znm]; unfold zfs; rw [Option.isSome_map]; generalize nmV ms=kvs
 induction kvs with
 | nil=>rfl
 | cons kv kvs ih =>
  rw [List.find?_cons,List.any_cons]
  cases decide (kv.1=(.inr (st l):Key)) with
  | true=>rfl
  | false=>simpa using ih
def zhH (ms:List (List Nat)) (l:List Nat):List (List Nat):=if l ∈ ms then ms else ms ++ [l]
theorem zqP (l:List Nat) (ms:List (List Nat)):zgk (nmV ms) (.inr (st l)) (.bl true)=nmV (zhH ms l):=by
 unfold zgk zhH; rw [znm]
 by_cases e:l ∈ ms
 ·simp only [e,decide_true,if_true]
  unfold nmV; rw [List.map_map]
  refine List.map_congr_left fun m _=>?_
  show (if (Sum.inr (st m):Key)=.inr (st l) then _ else _)=_
  split <;> rfl
 ·simp only [e,decide_false,Bool.false_eq_true,if_false]
  unfold nmV; simp
def zsE (neg:Bool):R2':=fun x y Q=>∃ (l:List Nat) (ms:List (List Nat)),x=.str l∧y=.dic (nmD ms)∧Q (.bl (if neg then !decide (l ∈ ms) else decide (l ∈ ms)))
theorem ztm {K:PySem.W.Frag} {Hi H:Hp} {x y:V} {l:List Nat} {ms:List (List Nat)} (s:Fz Hi H) (d1:Den K Hi x (.str l)) (d2:Den K Hi y (.dic (nmD ms))):∃ a,y=.ref a∧ztJ H a x (zfs (nmV ms) (.inr (st l))):=by
 obtain ⟨a,kvs,rfl,h1,h2⟩:=d2.dicI
 cases d1.strI
 have e:=zoQ h2; subst e; exact ⟨a,rfl,.inl ⟨_,.inr (st l),zdu s.sub h1,rfl,rfl⟩⟩
theorem zmo (hu:X.A.units+1<cLine):Op2 X (compareOp .NotIn) (zsE true):=⟨_,zkq hu,by
 rintro Hi H x y dx dy Q Q2 s d1 d2 ⟨l,ms,rfl,rfl,q⟩ fin
 obtain ⟨a,rfl,g⟩:=ztm s d1 d2; refine ⟨a,_,rfl,g,?_⟩; rw [zqO]; exact fin Hi H _ _ (Ext.refl s) (.bl _) q⟩
instance {neg:Bool}:MR2 (zsE neg):=⟨fun _ _ _ _ h ⟨l,ms,a,b,q⟩=>⟨l,ms,a,b,h _ q⟩⟩
def zaC:TO':=fun Γ Q=>Q (.dic (nmD [])) Γ
theorem zol {pos:Pos}:PO' X (.Dict [] [] pos) zaC:=by
 refine ⟨PE.weak zmg ?_⟩
 rintro σ H Q ⟨W,Hi,Γ,Q',g,q,fin⟩
 intro p hp
 exact fin p _ Hi Γ (.dic (nmD [])) (zaW.refl _) (g.ext (Ext.newO g.fz hp _ (fun _ z=>by cases z))) (New.mk' g hp ⟨[],zh,.nil⟩) q
def zA (i:Nat) (tk tv:TE'):TS':=fun N Γ=>tv Γ fun v Γ1=>v=.bl true∧(∃ ms0,Γ1[i]?=some (.own (.dic (nmD ms0))))∧tk Γ1 fun k Γ2=>∃ (ms:List (List Nat)) (l:List Nat),Γ2[i]?=some (.own (.dic (nmD ms)))∧k=.str l∧ms.length<sizeLine∧N.nx (Γ2.set i (.own (.dic (nmD (zhH ms l)))))
theorem zl1 (hu:X.A.units+1<cLine) (i:Nat) {x:Str} {k value:Expr} {tk tv:TE'} {p pos pos':Pos} (hk:PE' X k tk) (hv:PE' X value tv) (hN:X.N[i]?=some x:=by rfl) (hvi:Vis X.env.scope x:=by first | exact Or.inl rfl | exact Or.inr (Or.inl rfl) | exact Or.inr (Or.inr rfl)) (hd:(x == ("__debug__":Str))=false:=by decide)
  (hcd:(x == ("__classdict__":Str))=false:=by decide) (hs:swapsWith value (some (.Subscript (.Name x p) k pos')) pos.line X.env=pure false:=by rfl) :
  PS' X (.Assign [.Subscript (.Name x p) k pos'] value pos) (zA i tk tv):=by
 refine ⟨PS.weak (zoh hu (zcq (i:=i) (pos:=p) hN hvi hd hcd) hk.h hv.h hs) ?_⟩
 rintro N2 σ H ⟨W,Hi,Γ,N,g,q,l⟩
 have hi:i<X.N.length:=(List.getElem?_eq_some_iff.mp hN).1
 refine ⟨W,Hi,Γ,_,g,q,?_⟩
 rintro v H1 ⟨Hi1,d,Γ1,s1,g1,den,rfl,⟨ms0,e0⟩,q1⟩
 obtain ⟨a,h1,h2,h3,kvs0,h4,h5⟩:=g1.own i _ e0; refine ⟨.ref a,zg9 hi h1,W,Hi1,Γ1,_,g1,q1,?_⟩
 rintro y H2 ⟨Hi2,dk,Γ2,s2,g2,den2,ms,lk,e2,rfl,hl,q2⟩
 obtain ⟨a',k1,k2,k3,kvs,k4,k5⟩:=g2.own i _ e2; rw [h1] at k1; cases k1
 cases den2.strI
 cases den.blI
 have e:=zoQ k5; subst e
 refine ⟨a,_,rfl,.inl ⟨_,.inr (st lk),k4,rfl,by unfold nmV; rw [List.length_map]; exact hl,rfl⟩,?_⟩
 rw [zqP]; exact l.nx σ _ Hi2 _ (s1.trans s2) (g2.put (o:=.dic (nmD (zhH ms lk))) e2 h1 ⟨_,zh,znl _⟩) q2
instance {i:Nat} {tk tv:TE'} [ME tk] [ME tv]:MS (zA i tk tv):=⟨fun N N' Γ h q=>ME.mono (t:=tv) _ _ _ (fun _ _ ⟨a,b,z⟩=>⟨a,b,ME.mono (t:=tk) _ _ _ (fun _ _ ⟨ds,ks,e1,e2,e3,w⟩=>⟨ds,ks,e1,e2,e3,h.nx _ w⟩) z⟩) q⟩
end
end PL
namespace L2
open PySem PySem.Spec PyProof.Rows
section
variable {X:Cx}
def zjR (C:Addr) (f1 f2:Str):Sp:=fun vs H Q _=>∃ a dx u,vs=[.ref a,u]∧H a=some (.ins C dx [])∧∀ p,p≠a→H p=none→Q .non (upd (upd H p (.lst [])) a (.ins C dx [(f1,u),(f2,.ref p)]))
theorem zh0 {H:Hp} {a p:Addr} {x y z:HO} (ne:p≠a):upd (upd (upd H a x) p y) a z=upd (upd H p y) a z:=by
 funext b
 by_cases e:b=a
 ·subst e; rw [zh,zh]
 ·rw [zo e,zo e]
  by_cases e2:b=p
  ·subst e2; rw [zh,zh]
  ·rw [zo e2,zo e2,zo e]
end
end L2
namespace PL
open PySem L2
theorem Good.setB {K:PySem.W.Frag} {n:Nat} {W:Wd} {Hi H:Hp} {Γ:Sts} {σ:St} {i:Nat} {v:V} {d:D→D} {b:Addr} {xs:OD} (g:Good K n W Hi Γ σ H) (hi:i<n) (dv:Den K Hi v (d (.adr b))) (hol:Hol K d) (hb:Hi b=none) (h0:W.H₀ b=none) (fr:Free n W Γ σ b) (at_:zbN K Hi H b xs) :
  Good K n W Hi (Γ.set i (.bk d b xs)) (σ.set i (some v)) H:=by
 have ad:∀ j,j≠i→adr n W (σ.set i (some v)) j=adr n W σ j:=fun j hj=>by
  unfold adr
  rw [List.getElem?_set_ne (fun z=>hj z.symm)]
 refine ⟨by rw [List.length_set]; exact g.len,g.fz,g.keep,g.there,g.fro,fun j d' e=>?_,fun j o e=>?_,fun j k o o' a e1 e2 h1 h2=>?_,fun j d' b' ys e=>?_⟩
 ·rcases zaI e with ⟨rfl,z⟩ | ⟨hj,z⟩
  ·cases z
  ·obtain ⟨w,h1,h2⟩:=g.val j d' z
   exact ⟨w,by rw [List.getElem?_set_ne (fun z=>hj z.symm)]; exact h1,h2⟩
 ·rcases zaI e with ⟨rfl,z⟩ | ⟨hj,z⟩
  ·cases z
  ·obtain ⟨a,h1,h2⟩:=g.own j o z
   exact ⟨a,by rw [ad j hj]; exact h1,h2⟩
 ·rcases zaI e1 with ⟨rfl,z⟩ | ⟨hj,z⟩
  ·cases z
  ·rcases zaI e2 with ⟨rfl,y⟩ | ⟨hk,y⟩
   ·cases y
   ·exact g.apart j k o o' a z y (by rw [← ad j hj]; exact h1) (by rw [← ad k hk]; exact h2)
 ·rcases zaI e with ⟨rfl,z⟩ | ⟨hj,z⟩
  ·cases z
   refine ⟨⟨v,by rw [List.getElem?_set_self (by rw [g.len]; exact hi)],dv⟩,hol,hb,fun _=>h0,at_,fun k d2 zs q=>?_,fun k o' q=>?_⟩
   ·rcases zaI q with ⟨rfl,y⟩ | ⟨hk,y⟩
    ·rfl
    ·exact absurd y (fr.bk k _ _)
   ·rcases zaI q with ⟨rfl,y⟩ | ⟨hk,y⟩
    ·cases y
    ·rw [ad k hk]
     exact fr.own k o' y
  ·obtain ⟨⟨w,w1,w2⟩,h1,h2,h3,h4,h5,h6⟩:=g.bk j d' b' _ z
   refine ⟨⟨w,by rw [List.getElem?_set_ne (fun z=>hj z.symm)]; exact w1,w2⟩,h1,h2,h3,h4,fun k d2 zs q=>?_,fun k o' q=>?_⟩
   ·rcases zaI q with ⟨rfl,y⟩ | ⟨hk,y⟩
    ·cases y
     exact absurd z (fr.bk j _ _)
    ·exact h5 k _ _ y
   ·rcases zaI q with ⟨rfl,y⟩ | ⟨hk,y⟩
    ·cases y
    ·rw [ad k hk]
     exact h6 k o' y
theorem zq7 {K:PySem.W.Frag} {C:Addr} {f1 f2:Str} {t:D}:Hol K fun z=>.obj C [(f1,t),(f2,z)]:=by
 intro b Hi v o hb den; obtain ⟨a,dx,fvs,rfl,ha,df⟩:=den.objI
 cases df with
 | @cons p q ps qs r t1 =>
  cases t1 with
  | @cons p2 q2 ps2 qs2 r2 t2 =>
   cases t2; obtain ⟨p21,p22⟩:=p2; obtain ⟨r21,r22⟩:=r2
   dsimp only at r21 r22
   cases r22.adrI
   exact Den.mkO ha (.cons r (.cons ⟨r21,hb⟩ .nil))
section
variable {X:Cx}
structure MakB (P:Program) (w:World) (K:PySem.W.Frag) (mg:Str→Option Value) (base:Heap) (k:Nat) (x:Str) (C:Addr) (f1 f2:Str):Prop where
 ex:∃ f fd ps,Mk K C f∧FnOk P w K mg base CX0 k f fd ps (zjR C f1 f2)∧zb1 K fd ps []∧mg x=some (.ref C)
def zbw (i:Nat) (C:Addr) (f1 f2:Str) (t:TA'):TS':=fun N Γ=>t Γ fun ds Γ1=>∃ d,ds=[d]∧∀ b:Addr,N.nx (Γ1.set i (.bk (fun z=>.obj C [(f1,d),(f2,z)]) b (.lst [])))
theorem zqf {k:Nat} {x y f1 f2:Str} {C:Addr} (i:Nat) {p q pos pos':Pos} {e:Expr} {t:TA'} (nd:X.N.Nodup) (M:MakB X.prog X.w X.K X.mg X.base k x C f1 f2) (hr:Room (k+1) X.A) (ha:PA' X [e] t) (hi:X.N[i]?=some y:=by rfl) (hx:Loc X.env.scope y:=by first | exact Or.inl rfl | exact Or.inr rfl)
  (hf:X.fn y=true∨X.env.scope.names.lookup y=some .local:=by first | exact .inl rfl | exact .inr rfl | assumption) (hg:Gl X x:=by rfl) (hdb:(x == ("__debug__":Str))=false:=by decide) (hs:swapsWith (.Call (.Name x p) [e] [] pos) (some (.Name y q)) pos'.line X.env=pure false:=by rfl) :
  PS' X (.Assign [.Name y q] (.Call (.Name x p) [e] [] pos) pos') (zbw i C f1 f2 t):=by
 obtain ⟨f,fd,ps,mk,F,b,hm⟩:=M.ex; refine ⟨PS.weak (zif (i:=i) nd hi hx (zkm (E:=E0) (dvs:=[]) mk F hr hg hm b .nil ze7 ha.pa hdb (zaP (zX ha.pl).1) (zaR (zX ha.pl).2)) hs hf) ?_⟩
 rintro N2 σ H ⟨W,Hi,Γ,N,g,h,l⟩
 refine ⟨W,Hi,Γ,_,g,h,?_⟩
 rintro vs H1 Hi1 Γ1 ds s1 g1 dl ⟨d,rfl,q⟩
 obtain ⟨u,rfl,du⟩:=zcW dl; intro a dx hna hdx ne; rw [List.append_nil]
 refine ⟨a,dx,u,rfl,zh,fun p hpa hp=>⟨rfl,?_⟩⟩
 rw [zh0 hpa]; rw [zo hpa] at hp
 have hpd:p≠dx:=fun z=>by rw [z,zh] at hp; cases hp
 rw [zo hpd] at hp; have fr:=(New.mk' (u:=.lst []) (o:=.lst []) g1 hp ⟨[],zh,.nil⟩)
 have e1:=Ext.newO g1.fz hdx (.own a) (fun _ z=>by cases z)
 have hp1:upd H1 dx (.own a) p=none:=by rw [zo hpd]; exact hp
 have e2:=Ext.newO e1.fz hp1 (.lst []) (fun _ z=>by cases z)
 have hna':upd (upd H1 dx (.own a)) p (.lst []) a=none:=by rw [zo (fun z=>hpa z.symm),zo (fun z=>ne z.symm)]; exact hna
 have e3:=Ext.new e2.fz hna' (.ins C dx [(f1,u),(f2,.ref p)]); have ex:=e1.trans (e2.trans e3); have g2:=g1.ext ex
 have dv:Den X.K (upd Hi1 a (.ins C dx [(f1,u),(f2,.ref p)])) (.ref a) (.obj C [(f1,d),(f2,.adr p)]):=Den.mkO zh (.cons ⟨rfl,du.mono ex.hi⟩ (.cons ⟨rfl,.adr p⟩ .nil))
 refine l.nx _ _ _ _ (s1.trans ex.hi) (g2.setB (d:=fun z=>.obj C [(f1,d),(f2,z)]) (b:=p) (xs:=.lst []) (List.getElem?_eq_some_iff.mp hi).1 dv zq7 ?_ fr.h0 fr.ne ⟨[],?_,.nil⟩) (q p)
 ·rw [zo hpa]
  exact fr.hi
 ·rw [zo hpa,zh]
end
end PL
namespace PL
open PySem L2
instance:MS zae:=⟨fun _ _ _ _ h=>h.elim⟩
class MGs (t:zlq):Prop where
 mono:∀ ds Γ (Q Q':Sts→Prop),(∀ Γ,Q Γ→Q' Γ)→t ds Γ Q→t ds Γ Q'
instance:MGs zav:=⟨fun _ _ _ _ h ⟨a,q⟩=>⟨a,h _ q⟩⟩
instance {t:TG'} {u:zlq} [MG t] [MGs u]:MGs (zG t u):=⟨fun _ _ _ _ h ⟨d,r,e,q⟩=>⟨d,r,e,MG.mono (g:=t) _ _ _ _ (fun _ z=>MGs.mono (t:=u) _ _ _ _ h z) q⟩⟩
instance {n:Nat} {t:zlq} [MGs t]:MG (zau n t):=⟨fun _ _ _ _ h ⟨ds,e,l,q⟩=>⟨ds,e,l,MGs.mono (t:=t) _ _ _ _ h q⟩⟩
theorem zjH:∀ L:List (List Nat),Txt.join (st []) (L.map st)=st L.flatten:=by
 intro L
 show PySem.Builtin.Str.glued (st []) (L.map st)=_
 rw [StrLaws.glued_eq_join]
 induction L with
 | nil=>rfl
 | cons a t ih =>
  cases t with
  | nil=>show st a=st [a].flatten; simp
  | cons b r =>
   show st a ++ st [] ++ Str.join (st []) (st b :: r.map st)=st (a :: b :: r).flatten
   rw [show Str.join (st []) (st b :: r.map st)=st (b :: r).flatten from ih]
   show (⟨(a.toArray ++ #[]) ++ ((b :: r).flatten).toArray⟩:Str)=⟨((a :: b :: r).flatten).toArray⟩
   simp
def znd:RM':=fun x ds Q=>∃ ls:List (List Nat),x=.str []∧ds=[.lst (ls.map .str)]∧(ls.map (·.length)).sum≤16777216∧Q (.str ls.flatten)
theorem zoT {X:Cx}:Met X "str" "str.join" znd:=⟨_,zoS,by
 rintro Hi H x vs dx ds Q Q2 s d1 dl ⟨ls,rfl,rfl,hl,q⟩ fin
 have hz:(((ls.map st).map (·.length)).sum+(ls.map st).length * (st []).length)≤16777216:=by
  rw [List.map_map,zcZ]
  have:(ls.map ((fun z:Str=>z.length) ∘ st))=ls.map (·.length):=List.map_congr_left fun z _=>zcZ z
  rw [this,List.length_map]
  simpa using hl
 obtain ⟨v,rfl,den⟩:=zcW dl; obtain ⟨a,us,rfl,h1,h2⟩:=den.lstI; rw [zgN h2] at h1; refine ⟨_,a,ls.map st,d1.strI,rfl,.inl (zas s.sub h1),hz,?_⟩; rw [zjH]; exact fin Hi H _ _ (Ext.refl s) (.str _) q⟩
instance:MRM znd:=⟨fun _ _ _ _ h ⟨l,a,b,d,q⟩=>⟨l,a,b,d,h _ q⟩⟩
end PL
namespace So
open PySem PySem.W PyProof.Rows
def run (lt:Nat→Nat→Bool) {α:Type}:KasT α→α
 | .ret a=>a
 | .ask i j k=>run lt (k (lt i j))
theorem zdc (lt:Nat→Nat→Bool) {α β:Type} (f:α→KasT β):∀ t:KasT α,run lt (t.bind f)=run lt (f (run lt t))
 | .ret _=>rfl
 | .ask i j k=>zdc lt f (k (lt i j))
def g (p:Array Nat) (i:Nat):Nat:=p.getD i 0
theorem g_eq (p:Array Nat) (i:Nat):g p i=(p[i]?).getD 0:=by
 unfold g; simp [Array.getD_eq_getD_getElem?]
theorem za4 {p:Array Nat} {i j:Nat} (hj:j≤p.size) (k:Nat):g (kas_rev p i j) k=if i≤k∧k<j then g p (i+j-1-k) else g p k:=by
 unfold kas_rev; rw [g_eq,getElem?_mirror_all hj]
 split <;> rw [g_eq]
theorem zmV {p:Array Nat} {src d:Nat} (hs:src<p.size) (hd:d≤src) (k:Nat):g (bubble p src d) k=if k=src-d then g p src else if src-d<k∧k≤src then g p (k-1) else g p k:=by
 rw [g_eq,getElem?_bubble hs d hd]; split
 ·rw [g_eq]
 ·split <;> rw [g_eq]
structure Ord (lt:Nat→Nat→Bool):Prop where
 asym:∀ a b,lt a b=true→lt b a=false
 tr:∀ a b c,lt b a=false→lt c b=false→lt c a=false
def L (lt:Nat→Nat→Bool) (a b:Nat):Prop:=lt a b=true∨(lt b a=false∧a<b)
section
variable {lt:Nat→Nat→Bool}
theorem L.le (o:Ord lt) {a b:Nat} (h:L lt a b):lt b a=false:=by
 rcases h with h | h
 ·exact o.asym _ _ h
 ·exact h.1
theorem zkA (o:Ord lt) {a b c:Nat} (h:lt a b=true) (k:lt c b=false):lt a c=true:=by
 cases e:lt a c with
 | true=>rfl
 | false=>exact absurd (o.tr b c a k e) (by rw [h]; exact fun z=>nomatch z)
theorem zoU (o:Ord lt) {a b c:Nat} (h:lt b a=false) (k:lt b c=true):lt a c=true:=by
 cases e:lt a c with
 | true=>rfl
 | false=>exact absurd (o.tr c a b e h) (by rw [k]; exact fun z=>nomatch z)
theorem L.trans (o:Ord lt) {a b c:Nat} (h:L lt a b) (k:L lt b c):L lt a c:=by
 rcases h with h | ⟨h,h'⟩
 ·exact .inl (zkA o h (L.le o k))
 ·rcases k with k | ⟨k,k'⟩
  ·exact .inl (zoU o h k)
  ·exact .inr ⟨o.tr _ _ _ h k,Nat.lt_trans h' k'⟩
end
def Srt (lt:Nat→Nat→Bool) (p:Array Nat) (n:Nat):Prop:=∀ i j,i<j→j<n→L lt (g p i) (g p j)
structure B (p:Array Nat) (N n:Nat):Prop where
 size:p.size=N
 low:∀ k,k<n→g p k<n
 high:∀ k,n≤k→k<N→g p k=k
theorem B.succ {p:Array Nat} {N n:Nat} (b:B p N n) (h:n<N):B p N (n+1) where
 size:=b.size
 low:=fun k hk=>by
  by_cases e:k=n
  ·subst e; rw [b.high k (Nat.le_refl _) h]; omega
  ·have:=b.low k (by omega); omega
 high:=fun k h1 h2=>b.high k (by omega) h2
theorem B.mirror {p:Array Nat} {N n i j:Nat} (b:B p N n) (hj:j≤n) (hn:n≤N):B (kas_rev p i j) N n where
 size:=by rw [kas_rev_size,b.size]
 low:=fun k hk=>by
  rw [za4 (by rw [b.size]; omega)]
  split
  ·exact b.low _ (by omega)
  ·exact b.low _ hk
 high:=fun k h1 h2=>by
  rw [za4 (by rw [b.size]; omega),if_neg (by omega)]
  exact b.high k h1 h2
section
variable {lt:Nat→Nat→Bool} (o:Ord lt)
include o
theorem Srt.succ {p:Array Nat} {N n:Nat} (b:B p N n) (h1:1≤n) (hn:n<N) (s:Srt lt p n) (q:lt (g p n) (g p (n-1))=false):Srt lt p (n+1):=fun i j hij hj=>by
 by_cases e:j=n
 ·subst e
  have l1:L lt (g p (j-1)) (g p j):=.inr ⟨q,by
   rw [b.high j (Nat.le_refl _) hn]
   exact b.low _ (by omega)⟩
  by_cases e2:i=j-1
  ·subst e2; exact l1
  ·exact (s i (j-1) (by omega) (by omega)).trans o l1
 ·exact s i j hij (by omega)
theorem asc {p:Array Nat} {N:Nat}:∀ (f n:Nat),n+f=N→1≤n→B p N n→Srt lt p n→n≤run lt (kas_asc p f n)∧run lt (kas_asc p f n)≤N∧B p N (run lt (kas_asc p f n))∧Srt lt p (run lt (kas_asc p f n)) ∧
  (run lt (kas_asc p f n)<N→lt (g p (run lt (kas_asc p f n))) (g p (run lt (kas_asc p f n)-1))=true)
 | 0,n,h,h1,b,s=>⟨Nat.le_refl _,by show n≤N; omega,b,s,fun z=>absurd (show n<N from z) (by omega)⟩
 | f+1,n,h,h1,b,s=>by
  have e:run lt (kas_asc p (f+1) n)=run lt (if lt (g p n) (g p (n-1))=true then KasT.ret n else kas_asc p f (n+1)):=rfl
  rw [e]
  cases q:lt (g p n) (g p (n-1)) with
  | true =>
   rw [if_pos rfl]
   exact ⟨Nat.le_refl _,by show n≤N; omega,b,s,fun _=>q⟩
  | false =>
   rw [if_neg (by decide)]
   obtain ⟨a1,a2,a3,a4,a5⟩:=asc (N:=N) f (n+1) (by omega) (by omega) (b.succ (by omega)) (Srt.succ o b h1 (by omega) s q)
   exact ⟨by omega,a2,a3,a4,a5⟩
structure De (lt:Nat→Nat→Bool) (p:Array Nat) (N n q:Nat):Prop where
 b:B p N n
 le:n≤N
 q1:q+1≤n
 blk:∀ i j,n-(q+1)≤i→i<j→j<n→L lt (g p i) (g p j)∧lt (g p i) (g p j)=false
 str:∀ i j,i<n-(q+1)→n-(q+1)≤j→j<n→lt (g p j) (g p i)=true
 old:∀ i j,i<j→j<n-(q+1)→L lt (g p j) (g p i)
def Fal (lt:Nat→Nat→Bool) (p:Array Nat) (n:Nat):Prop:=∀ i j,i<j→j<n→L lt (g p j) (g p i)
theorem De.turned {p:Array Nat} {N n q:Nat} (d:De lt p N n q):Fal lt (kas_rev p (n-(q+1)) n) n:=fun i j hij hj=>by
 have hs:n≤p.size:=by rw [d.b.size]; exact d.le
 have hq:=d.q1; rw [za4 hs,za4 hs]
 by_cases hi:n-(q+1)≤i
 ·rw [if_pos ⟨by omega,hj⟩,if_pos ⟨hi,by omega⟩]
  exact (d.blk _ _ (by omega) (by omega) (by omega)).1
 ·rw [if_neg (show ¬ (n-(q+1)≤i∧i<n) by omega)]
  by_cases hj2:n-(q+1)≤j
  ·rw [if_pos ⟨hj2,hj⟩]
   exact .inl (d.str _ _ (by omega) (by omega) (by omega))
  ·rw [if_neg (show ¬ (n-(q+1)≤j∧j<n) by omega)]
   exact d.old i j hij (by omega)
theorem De.fal0 {p:Array Nat} {N n:Nat} (d:De lt p N n 0):Fal lt p n:=fun i j hij hj=>by
 by_cases e:n-1≤j
 ·exact .inl (d.str i j (by omega) (by omega) hj)
 ·exact d.old i j hij (by omega)
theorem De.next {p:Array Nat} {N n:Nat} (b:B p N n) (hn:n<N) (h1:1≤n) (fa:Fal lt p n) (st:∀ i,i<n→lt (g p n) (g p i)=true):De lt p N (n+1) 0 where
 b:=b.succ hn
 le:=hn
 q1:=by omega
 blk:=fun i j h1 h2 h3=>by omega
 str:=fun i j h1 h2 h3=>by
  have e:j=n:=by omega
  subst e
  exact st i (by omega)
 old:=fun i j h1 h2=>fa i j h1 (by omega)
theorem De.st {p:Array Nat} {N n q:Nat} (d:De lt p N n q) (h:lt (g p n) (g p (n-1))=true):∀ i,i<n→lt (g p n) (g p i)=true:=fun i hi=>by
 have hq:=d.q1
 by_cases e:i=n-1
 ·subst e; exact h
 ·refine zkA o h ?_
  by_cases hb:n-(q+1)≤i
  ·exact (d.blk i (n-1) hb (by omega) (by omega)).2
  ·exact o.asym _ _ (d.str i (n-1) (by omega) (by omega) (by omega))
theorem zrh {N:Nat}:∀ (f:Nat) (p:Array Nat) (n q:Nat),n+f=N→De lt p N n q→∃ p' n' q',run lt (kas_desc f p n q)=(p',n',q')∧De lt p' N n' q'
 | 0,p,n,q,_,d=>⟨p,n,q,rfl,d⟩
 | f+1,p,n,q,h,d=>by
  have hn:n<N:=by omega
  have hq:=d.q1
  have e:run lt (kas_desc (f+1) p n q)=run lt (if lt (g p n) (g p (n-1))=true then (if q > 0 then kas_desc f (kas_rev p (n-(q+1)) n) (n+1) 0 else kas_desc f p (n+1) 0)
   else KasT.ask (p.getD (n-1) 0) (p.getD n 0) fun c=>if c=true then .ret (p,n,q) else kas_desc f p (n+1) (q+1)):=rfl
  rw [e]
  cases c:lt (g p n) (g p (n-1)) with
  | true =>
   rw [if_pos rfl]
   by_cases hq0:q > 0
   ·rw [if_pos hq0]
    refine zrh f _ (n+1) 0 (by omega) (De.next o (d.b.mirror (Nat.le_refl _) d.le) hn (by omega) (De.turned o d) fun i hi=>?_)
    have hs:n≤p.size:=by rw [d.b.size]; exact d.le
    rw [za4 hs,za4 hs,if_neg (show ¬ (n-(q+1)≤n∧n<n) by omega)]
    split
    ·exact De.st o d c _ (by omega)
    ·exact De.st o d c _ hi
   ·rw [if_neg hq0]
    have e0:q=0:=by omega
    subst e0
    exact zrh f _ (n+1) 0 (by omega) (De.next o d.b hn (by omega) (De.fal0 o d) (De.st o d c))
  | false =>
   rw [if_neg (by decide)]
   have e2:run lt (KasT.ask (p.getD (n-1) 0) (p.getD n 0) fun c=>if c=true then KasT.ret (p,n,q) else kas_desc f p (n+1) (q+1))=run lt (if lt (g p (n-1)) (g p n)=true then KasT.ret (p,n,q) else kas_desc f p (n+1) (q+1)):=rfl
   rw [e2]
   cases c2:lt (g p (n-1)) (g p n) with
   | true=>rw [if_pos rfl]; exact ⟨p,n,q,rfl,d⟩
   | false =>
    rw [if_neg (by decide)]
    have hb:n+1-(q+1+1)=n-(q+1):=by omega
    have gn:g p n=n:=d.b.high n (Nat.le_refl _) hn
    refine zrh f _ (n+1) (q+1) (by omega) ⟨d.b.succ hn,hn,by omega,fun i j h1 h2 h3=>?_,fun i j h1 h2 h3=>?_,fun i j h1 h2=>?_⟩
    ·rw [hb] at h1
     by_cases ej:j=n
     ·subst ej
      have lo:g p i<g p j:=by rw [gn]; exact d.b.low i h2
      by_cases ei:i=j-1
      ·subst ei; exact ⟨.inr ⟨c,lo⟩,c2⟩
      ·obtain ⟨u1,u2⟩:=d.blk i (j-1) h1 (by omega) (by omega)
       exact ⟨.inr ⟨o.tr _ _ _ (L.le o u1) c,lo⟩,o.tr _ _ _ c2 u2⟩
     ·exact d.blk i j h1 h2 (by omega)
    ·rw [hb] at h1 h2
     by_cases ej:j=n
     ·subst ej
      exact zoU o c2 (d.str i (j-1) h1 (by omega) (by omega))
     ·exact d.str i j h1 h2 (by omega)
    ·rw [hb] at h2
     exact d.old i j h1 h2
theorem zpG {p:Array Nat} {N n:Nat} (b:B p N n) (hn:n≤N) (h1:1≤n) (fa:Fal lt p n):∃ m p',run lt (kas_tail3 n N p)=(m,p')∧1≤m∧m≤N∧B p' N m∧Srt lt p' m:=by
 unfold kas_tail3; rw [zdc]
 have hs:n≤p.size:=by rw [b.size]; exact hn
 obtain ⟨a1,a2,a3,a4,_⟩:=asc o (p:=kas_rev p 0 n) (N:=N) (N-n) n (by omega) h1 (b.mirror (Nat.le_refl _) hn) (fun i j hij hj=>by
  rw [za4 hs,za4 hs,if_pos ⟨by omega,by omega⟩,if_pos ⟨by omega,hj⟩]
  exact fa _ _ (by omega) (by omega))
 exact ⟨_,_,rfl,by omega,a2,a3,a4⟩
theorem ziC {p:Array Nat} {N n:Nat} (hn:n<N) (d:De lt p N (n+1) 0):∃ m p',run lt (kas_descPart n N p)=(m,p')∧1≤m∧m≤N∧B p' N m∧Srt lt p' m:=by
 unfold kas_descPart; rw [zdc]
 obtain ⟨p',n',q',e,d'⟩:=zrh o (N:=N) (N-(n+1)) p (n+1) 0 (by omega) d
 rw [e]; have hq:=d'.q1
 by_cases h:q' > 0
 ·show ∃ m p'',run lt (if q' > 0 then kas_tail3 n' N (kas_rev p' (n'-(q'+1)) n') else kas_tail3 n' N p')=(m,p'')∧_
  rw [if_pos h]
  exact zpG o (d'.b.mirror (Nat.le_refl _) d'.le) d'.le (by omega) (De.turned o d')
 ·show ∃ m p'',run lt (if q' > 0 then kas_tail3 n' N (kas_rev p' (n'-(q'+1)) n') else kas_tail3 n' N p')=(m,p'')∧_
  rw [if_neg h]
  have e0:q'=0:=by omega
  subst e0
  exact zpG o d'.b d'.le (by omega) (De.fal0 o d')
theorem count {p:Array Nat} {N:Nat} (hN:1≤N) (b:B p N 1):∃ m p',run lt (kas_count N p)=(m,p')∧1≤m∧m≤N∧B p' N m∧Srt lt p' m:=by
 unfold kas_count; rw [zdc]
 obtain ⟨a1,a2,a3,a4,a5⟩:=asc o (p:=p) (N:=N) (N-1) 1 (by omega) (Nat.le_refl _) b (fun i j hij hj=>by omega)
 generalize run lt (kas_asc p (N-1) 1)=n at a1 a2 a3 a4 a5 ⊢
 by_cases e:n=N
 ·rw [if_pos (by rw [e]; exact beq_self_eq_true _)]
  exact ⟨n,p,rfl,a1,a2,a3,a4⟩
 ·have hn:n<N:=by omega
  have hs:n≤p.size:=by rw [a3.size]; exact a2
  rw [if_neg (by simpa using e)]
  by_cases h1:n > 1
  ·rw [if_pos h1]
   show ∃ m p',run lt (if lt (g p 0) (g p (n-1))=true then KasT.ret (n,p) else kas_descPart n N (kas_rev p 0 n))=(m,p')∧_
   cases c:lt (g p 0) (g p (n-1)) with
   | true=>rw [if_pos rfl]; exact ⟨n,p,rfl,a1,a2,a3,a4⟩
   | false =>
    rw [if_neg (by decide)]
    refine ziC o hn (De.next o (a3.mirror (Nat.le_refl _) a2) hn a1 (fun i j hij hj=>?_) fun i hi=>?_)
    ·rw [za4 hs,za4 hs,if_pos ⟨by omega,hj⟩,if_pos ⟨by omega,by omega⟩]
     exact a4 _ _ (by omega) (by omega)
    ·rw [za4 hs,za4 hs,if_neg (show ¬ (0≤n∧n<n) by omega),if_pos ⟨by omega,hi⟩]
     refine zkA o (a5 hn) ?_; generalize hk:0+n-1-i=k
     have hkn:k<n:=by omega
     by_cases k0:k=0
     ·subst k0; exact c
     ·exact o.tr _ _ _ c (L.le o (a4 0 k (by omega) hkn))
  ·rw [if_neg h1]
   have e1:n=1:=by omega
   subst e1
   exact ziC o hn (De.next o a3 hn (Nat.le_refl _) (fun i j h1 h2=>by omega) fun i hi=>by
    have e0:i=0:=by omega
    subst e0; exact a5 hn)
theorem zl5 {p:Array Nat} {k:Nat} (s:Srt lt p k):∀ (f l r:Nat),r-l≤f→l≤r→r≤k→(∀ i,i<l→lt (g p k) (g p i)=false)→(∀ i,r≤i→i<k→lt (g p k) (g p i)=true) →
  run lt (kas_place p k f l r)≤k∧(∀ i,i<run lt (kas_place p k f l r)→lt (g p k) (g p i)=false)∧∀ i,run lt (kas_place p k f l r)≤i→i<k→lt (g p k) (g p i)=true
 | 0,l,r,h,h1,h2,a,c=>⟨show l≤k by omega,a,fun i (hi:l≤i)=>c i (by omega)⟩
 | f+1,l,r,h,h1,h2,a,c=>by
  have e:run lt (kas_place p k (f+1) l r)=run lt (if l ≥ r then KasT.ret l else KasT.ask (p.getD k 0) (p.getD ((l+r) / 2) 0) fun c=>if c=true then kas_place p k f l ((l+r) / 2) else kas_place p k f ((l+r) / 2+1) r):=rfl
  rw [e]
  by_cases hlr:l ≥ r
  ·rw [if_pos hlr]
   exact ⟨show l≤k by omega,a,fun i (hi:l≤i)=>c i (by omega)⟩
  ·rw [if_neg hlr]
   show run lt (if lt (g p k) (g p ((l+r) / 2))=true then kas_place p k f l ((l+r) / 2) else kas_place p k f ((l+r) / 2+1) r)≤k∧(∀ i,i<run lt (if lt (g p k) (g p ((l+r) / 2))=true then kas_place p k f l ((l+r) / 2) else kas_place p k f ((l+r) / 2+1) r)→_)∧∀ i,run lt (if lt (g p k) (g p ((l+r) / 2))=true then kas_place p k f l ((l+r) / 2) else kas_place p k f ((l+r) / 2+1) r)≤i→_
   cases q:lt (g p k) (g p ((l+r) / 2)) with
   | true =>
    rw [if_pos rfl]
    refine zl5 s f l _ (by omega) (by omega) (by omega) a fun i hi hk=>?_
    by_cases ei:i=(l+r) / 2
    ·subst ei; exact q
    ·exact zkA o q (L.le o (s _ i (by omega) hk))
   | false =>
    rw [if_neg (by decide)]
    refine zl5 s f _ r (by omega) (by omega) h2 (fun i hi=>?_) c
    by_cases ei:i=(l+r) / 2
    ·subst ei; exact q
    ·exact o.tr _ _ _ (L.le o (s i ((l+r) / 2) (by omega) (by omega))) q
theorem ins {p:Array Nat} {N k l:Nat} (b:B p N k) (hk:k<N) (s:Srt lt p k) (hl:l≤k) (a:∀ i,i<l→lt (g p k) (g p i)=false) (c:∀ i,l≤i→i<k→lt (g p k) (g p i)=true):B (bubble p k (k-l)) N (k+1)∧Srt lt (bubble p k (k-l)) (k+1):=by
 have hs:k<p.size:=by rw [b.size]; exact hk
 have gk:g p k=k:=b.high k (Nat.le_refl _) hk
 have e:∀ i,g (bubble p k (k-l)) i=if i=l then g p k else if l<i∧i≤k then g p (i-1) else g p i:=fun i=>by
  rw [zmV hs (by omega),show k-(k-l)=l by omega]
 refine ⟨⟨by rw [bubble_size,b.size],fun i hi=>?_,fun i h1 h2=>?_⟩,fun i j hij hj=>?_⟩
 ·rw [e]
  split
  ·omega
  ·split
   ·have:=b.low (i-1) (by omega); omega
   ·have:=b.low i (by omega); omega
 ·rw [e,if_neg (by omega),if_neg (by omega)]
  exact b.high i (by omega) h2
 ·rw [e,e]
  have lo:∀ x,x<k→g p x<g p k:=fun x hx=>by rw [gk]; exact b.low x hx
  by_cases h1:i=l
  ·subst h1
   rw [if_pos rfl,if_neg (by omega),if_pos ⟨hij,by omega⟩]
   exact .inl (c _ (by omega) (by omega))
  ·rw [if_neg h1]
   by_cases h2:j=l
   ·subst h2
    rw [if_pos rfl,if_neg (by omega)]
    exact .inr ⟨a i hij,lo i (by omega)⟩
   ·rw [if_neg h2]
    split <;> split <;> exact s _ _ (by omega) (by omega)
theorem bin {N:Nat}:∀ (f:Nat) (p:Array Nat) (k:Nat),k+f=N→B p N k→Srt lt p k→B (run lt (kas_bin f p k)) N N∧Srt lt (run lt (kas_bin f p k)) N
 | 0,p,k,h,b,s=>by
  have e:k=N:=by omega
  subst e; exact ⟨b,s⟩
 | f+1,p,k,h,b,s=>by
  have e:run lt (kas_bin (f+1) p k)=run lt ((kas_place p k k 0 k).bind fun l=>kas_bin f (bubble p k (k-l)) (k+1)):=rfl
  rw [e,zdc]
  obtain ⟨a1,a2,a3⟩:=zl5 o s k 0 k (by omega) (Nat.zero_le _) (Nat.le_refl _) (fun i hi=>absurd hi (Nat.not_lt_zero _)) fun i h1 h2=>absurd h1 (by omega)
  obtain ⟨b',s'⟩:=ins o b (by omega) s a1 a2 a3
  exact bin f _ (k+1) (by omega) b' s'
theorem sort {N:Nat} (hN:1≤N):B (run lt (kas_sort N)) N N∧Srt lt (run lt (kas_sort N)) N:=by
 unfold kas_sort; rw [zdc]
 have g0:∀ k,k<N→g (List.toArray (List.range N)) k=k:=fun k hk=>by
  rw [g_eq]; simp [hk]
 obtain ⟨m,p',e,h1,h2,b,s⟩:=count o hN (p:=List.toArray (List.range N)) ⟨by simp,fun k hk=>by rw [g0 k (by omega)]; exact hk,fun k h1 h2=>g0 k h2⟩
 rw [e]
 show B (run lt (if m<N then kas_bin (N-max m 1) p' (max m 1) else KasT.ret p')) N N∧Srt lt (run lt (if m<N then kas_bin (N-max m 1) p' (max m 1) else KasT.ret p')) N
 by_cases hm:m<N
 ·rw [if_pos hm,Nat.max_eq_left h1]
  exact bin o _ _ _ (by omega) b s
 ·rw [if_neg hm]
  have e:m=N:=by omega
  subst e; exact ⟨b,s⟩
end
def Ok (lt:Nat→Nat→Bool) (N:Nat) {α:Type}:KasT α→Prop
 | .ret _=>True
 | .ask i j k=>i<N∧j<N∧Ok lt N (k (lt i j))
theorem Ok.bind {lt:Nat→Nat→Bool} {N:Nat} {α β:Type} {f:α→KasT β}:∀ {t:KasT α},Ok lt N t→Ok lt N (f (run lt t))→Ok lt N (t.bind f)
 | .ret _,_,h=>h
 | .ask i j k,⟨h1,h2,h3⟩,h=>⟨h1,h2,Ok.bind (t:=k (lt i j)) h3 h⟩
theorem B.lt {p:Array Nat} {N n k:Nat} (b:B p N n) (hn:n≤N) (hk:k<N):g p k<N:=by
 by_cases h:k<n
 ·have:=b.low k h; omega
 ·rw [b.high k (by omega) hk]; exact hk
section
variable {lt:Nat→Nat→Bool} (o:Ord lt)
include o
theorem zkv {p:Array Nat} {N:Nat} {n0:Nat} (b:B p N n0) (h0:n0≤N):∀ (f n:Nat),n+f=N→Ok lt N (kas_asc p f n)
 | 0,_,_=>trivial
 | f+1,n,h=>⟨b.lt h0 (k:=n) (by omega),b.lt h0 (k:=n-1) (by omega),by
  show Ok lt N (if lt (g p n) (g p (n-1))=true then KasT.ret n else kas_asc p f (n+1))
  split
  ·trivial
  ·exact zkv b h0 f (n+1) (by omega)⟩
theorem zfN {N:Nat}:∀ (f:Nat) (p:Array Nat) (n q:Nat),n+f=N→De lt p N n q→Ok lt N (kas_desc f p n q)
 | 0,_,_,_,_,_=>trivial
 | f+1,p,n,q,h,d=>⟨d.b.lt d.le (k:=n) (by omega),d.b.lt d.le (k:=n-1) (by omega),by
  show Ok lt N (if lt (g p n) (g p (n-1))=true then (if q > 0 then kas_desc f (kas_rev p (n-(q+1)) n) (n+1) 0 else kas_desc f p (n+1) 0)
   else KasT.ask (p.getD (n-1) 0) (p.getD n 0) fun c=>if c=true then .ret (p,n,q) else kas_desc f p (n+1) (q+1))
  have hn:n<N:=by omega
  have hq:=d.q1
  cases c:lt (g p n) (g p (n-1)) with
  | true =>
   rw [if_pos rfl]
   by_cases hq0:q > 0
   ·rw [if_pos hq0]
    refine zfN f _ (n+1) 0 (by omega) (De.next o (d.b.mirror (Nat.le_refl _) d.le) hn (by omega) (De.turned o d) fun i hi=>?_)
    have hs:n≤p.size:=by rw [d.b.size]; exact d.le
    rw [za4 hs,za4 hs,if_neg (show ¬ (n-(q+1)≤n∧n<n) by omega)]
    split
    ·exact De.st o d c _ (by omega)
    ·exact De.st o d c _ hi
   ·rw [if_neg hq0]
    have e0:q=0:=by omega
    subst e0
    exact zfN f _ (n+1) 0 (by omega) (De.next o d.b hn (by omega) (De.fal0 o d) (De.st o d c))
  | false =>
   rw [if_neg (by decide)]
   refine ⟨d.b.lt d.le (k:=n-1) (by omega),d.b.lt d.le (k:=n) (by omega),?_⟩
   show Ok lt N (if lt (g p (n-1)) (g p n)=true then KasT.ret (p,n,q) else kas_desc f p (n+1) (q+1))
   cases c2:lt (g p (n-1)) (g p n) with
   | true=>rw [if_pos rfl]; trivial
   | false =>
    rw [if_neg (by decide)]
    have hb:n+1-(q+1+1)=n-(q+1):=by omega
    have gn:g p n=n:=d.b.high n (Nat.le_refl _) hn
    refine zfN f _ (n+1) (q+1) (by omega) ⟨d.b.succ hn,hn,by omega,fun i j h1 h2 h3=>?_,fun i j h1 h2 h3=>?_,fun i j h1 h2=>?_⟩
    ·rw [hb] at h1
     by_cases ej:j=n
     ·subst ej
      have lo:g p i<g p j:=by rw [gn]; exact d.b.low i h2
      by_cases ei:i=j-1
      ·subst ei; exact ⟨.inr ⟨c,lo⟩,c2⟩
      ·obtain ⟨u1,u2⟩:=d.blk i (j-1) h1 (by omega) (by omega)
       exact ⟨.inr ⟨o.tr _ _ _ (L.le o u1) c,lo⟩,o.tr _ _ _ c2 u2⟩
     ·exact d.blk i j h1 h2 (by omega)
    ·rw [hb] at h1 h2
     by_cases ej:j=n
     ·subst ej
      exact zoU o c2 (d.str i (j-1) h1 (by omega) (by omega))
     ·exact d.str i j h1 h2 (by omega)
    ·rw [hb] at h2
     exact d.old i j h1 h2⟩
theorem zij {p:Array Nat} {N n:Nat} (b:B p N n) (hn:n≤N):Ok lt N (kas_tail3 n N p):=by
 unfold kas_tail3
 exact Ok.bind (zkv o (b.mirror (Nat.le_refl _) hn) hn _ n (by omega)) trivial
theorem zeM {p:Array Nat} {N n:Nat} (hn:n<N) (d:De lt p N (n+1) 0):Ok lt N (kas_descPart n N p):=by
 unfold kas_descPart
 refine Ok.bind (zfN o _ p (n+1) 0 (by omega) d) ?_
 obtain ⟨p',n',q',e,d'⟩:=zrh o (N:=N) (N-(n+1)) p (n+1) 0 (by omega) d
 rw [e]
 show Ok lt N (if q' > 0 then kas_tail3 n' N (kas_rev p' (n'-(q'+1)) n') else kas_tail3 n' N p')
 split
 ·exact zij o (d'.b.mirror (Nat.le_refl _) d'.le) d'.le
 ·exact zij o d'.b d'.le
theorem zmk {p:Array Nat} {N:Nat} (hN:1≤N) (b:B p N 1):Ok lt N (kas_count N p):=by
 unfold kas_count
 refine Ok.bind (zkv o b hN _ 1 (by omega)) ?_
 obtain ⟨a1,a2,a3,a4,a5⟩:=asc o (p:=p) (N:=N) (N-1) 1 (by omega) (Nat.le_refl _) b (fun i j hij hj=>by omega)
 generalize run lt (kas_asc p (N-1) 1)=n at a1 a2 a3 a4 a5 ⊢
 by_cases e:n=N
 ·rw [if_pos (by rw [e]; exact beq_self_eq_true _)]
  trivial
 ·have hn:n<N:=by omega
  have hs:n≤p.size:=by rw [a3.size]; exact a2
  rw [if_neg (by simpa using e)]
  by_cases h1:n > 1
  ·rw [if_pos h1]
   refine ⟨a3.lt a2 (k:=0) (by omega),a3.lt a2 (k:=n-1) (by omega),?_⟩
   show Ok lt N (if lt (g p 0) (g p (n-1))=true then KasT.ret (n,p) else kas_descPart n N (kas_rev p 0 n))
   cases c:lt (g p 0) (g p (n-1)) with
   | true=>rw [if_pos rfl]; trivial
   | false =>
    rw [if_neg (by decide)]
    refine zeM o hn (De.next o (a3.mirror (Nat.le_refl _) a2) hn a1 (fun i j hij hj=>?_) fun i hi=>?_)
    ·rw [za4 hs,za4 hs,if_pos ⟨by omega,hj⟩,if_pos ⟨by omega,by omega⟩]
     exact a4 _ _ (by omega) (by omega)
    ·rw [za4 hs,za4 hs,if_neg (show ¬ (0≤n∧n<n) by omega),if_pos ⟨by omega,hi⟩]
     refine zkA o (a5 hn) ?_; generalize hk:0+n-1-i=k
     have hkn:k<n:=by omega
     by_cases k0:k=0
     ·subst k0; exact c
     ·exact o.tr _ _ _ c (L.le o (a4 0 k (by omega) hkn))
  ·rw [if_neg h1]
   have e1:n=1:=by omega
   subst e1
   exact zeM o hn (De.next o a3 hn (Nat.le_refl _) (fun i j h1 h2=>by omega) fun i hi=>by
    have e0:i=0:=by omega
    subst e0; exact a5 hn)
theorem zfK {p:Array Nat} {N k:Nat} (b:B p N k) (hk:k<N):∀ (f l r:Nat),r≤k→Ok lt N (kas_place p k f l r)
 | 0,_,_,_=>trivial
 | f+1,l,r,h=>by
  show Ok lt N (if l ≥ r then KasT.ret l else KasT.ask (p.getD k 0) (p.getD ((l+r) / 2) 0) fun c=>if c=true then kas_place p k f l ((l+r) / 2) else kas_place p k f ((l+r) / 2+1) r)
  by_cases hlr:l ≥ r
  ·rw [if_pos hlr]; trivial
  ·rw [if_neg hlr]
   refine ⟨b.lt (by omega) (k:=k) hk,b.lt (by omega) (k:=(l+r) / 2) (by omega),?_⟩
   show Ok lt N (if lt (g p k) (g p ((l+r) / 2))=true then kas_place p k f l ((l+r) / 2) else kas_place p k f ((l+r) / 2+1) r)
   split
   ·exact zfK b hk f _ _ (by omega)
   ·exact zfK b hk f _ _ h
theorem znj {N:Nat}:∀ (f:Nat) (p:Array Nat) (k:Nat),k+f=N→B p N k→Srt lt p k→Ok lt N (kas_bin f p k)
 | 0,_,_,_,_,_=>trivial
 | f+1,p,k,h,b,s=>by
  refine Ok.bind (zfK o b (by omega) k 0 k (Nat.le_refl _)) ?_
  obtain ⟨a1,a2,a3⟩:=zl5 o s k 0 k (by omega) (Nat.zero_le _) (Nat.le_refl _) (fun i hi=>absurd hi (Nat.not_lt_zero _)) fun i h1 h2=>absurd h1 (by omega)
  obtain ⟨b',s'⟩:=ins o b (by omega) s a1 a2 a3
  exact znj f _ (k+1) (by omega) b' s'
theorem ok_sort {N:Nat} (hN:1≤N):Ok lt N (kas_sort N):=by
 unfold kas_sort
 have g0:∀ k,k<N→g (List.toArray (List.range N)) k=k:=fun k hk=>by
  rw [g_eq]; simp [hk]
 have b0:B (List.toArray (List.range N)) N 1:=⟨by simp,fun k hk=>by rw [g0 k (by omega)]; exact hk,fun k h1 h2=>g0 k h2⟩
 refine Ok.bind (zmk o hN b0) ?_; obtain ⟨m,p',e,h1,h2,b,s⟩:=count o hN b0; rw [e]
 show Ok lt N (if m<N then kas_bin (N-max m 1) p' (max m 1) else KasT.ret p')
 split
 ·rw [Nat.max_eq_left h1]
  exact znj o _ _ _ (by omega) b s
 ·trivial
end
theorem wp_of {lt:Nat→Nat→Bool} {N:Nat} {J:Shared→Prop} {cmp:Nat→Nat→(Bool→Shared→Prop)→Shared→Prop} (hc:∀ i j C s,i<N→j<N→J s→(∀ s',J s'→C (lt i j) s')→cmp i j C s) {α:Type} {Q:α→Shared→Prop} :
  ∀ (t:KasT α) (s:Shared),Ok lt N t→J s→(∀ s',J s'→Q (run lt t) s')→t.kasWp cmp Q s
 | .ret _,s,_,hj,h=>h s hj
 | .ask i j k,s,⟨h1,h2,h3⟩,hj,h=>hc i j _ s h1 h2 hj fun s' hj'=>wp_of hc (k (lt i j)) s' h3 hj' h
end So
namespace So
open PySem PySem.W PyProof.Rows
section
variable {prog:Program} {w:World} {A:Around} {E:Value→Shared→Prop} {s:Shared} {a kS:Addr} {vs ks:List Value} {κ:SortKind}
def Fin3 (a kS:Addr) (ks:List Value) (e e1:Nat) (out:List Value) (C:Shared→Prop) (s:Shared):Prop :=
 s.heap.get? kS=some (seqObj "list" ks.toArray e)∧s.heap.get? a=some (seqObj "list" #[] e1) ∧
  ∀ h' c c2,(∀ b o,b≠kS→b≠a→s.heap.get? b=some o→h'.get? b=some o)→h'.objs.size=s.heap.objs.size→h'.get? kS=some (seqObj "list" #[] c)→h'.get? a=some (seqObj "list" out.toArray c2)→C { s with heap:=h' }
theorem Fin3.mono {e e1:Nat} {out:List Value} {C C':Shared→Prop} (h:Fin3 a kS ks e e1 out C s) (hc:∀ s,C s→C' s):Fin3 a kS ks e e1 out C' s :=
 ⟨h.1,h.2.1,fun h' c c2 k z x y=>hc _ (h.2.2 h' c c2 k z x y)⟩
theorem zh5 {st:SortSt} {e e1:Nat} {out:List Value} {P:PySem.Fin→Shared→Prop} (ne:kS≠a) (hout:(arrOf st).map (·.2)=List.toArray out) (hz:out.length<64) (hkz:ks.length<64) (hf:failedOf st=none)
  (h:Fin3 a kS ks e e1 out (fun s'=>P (.done (.ret .none)) s') s):wpAny (model prog w) A (ksk_tail a false e1 (.ref kS) st) P E s:=by
 obtain ⟨hk,ha,k⟩:=h
 have s1:=Heap.SameBut.update s.heap kS (Obj.mapSeq fun _=>(#[]:Array Value))
 obtain ⟨ck,hck⟩:∃ ck,(s.heap.update kS (Obj.mapSeq fun _=>(#[]:Array Value))).get? kS=some (seqObj "list" #[] ck):=⟨_,get?_update_seq hk fun _=>#[]⟩
 have ha1:(s.heap.update kS (Obj.mapSeq fun _=>(#[]:Array Value))).get? a=some (seqObj "list" #[] e1):=(s1.2 a (Ne.symm ne)).trans ha
 have s2:=Heap.SameBut.update (s.heap.update kS (Obj.mapSeq fun _=>(#[]:Array Value))) a (Obj.mapSeq fun _=>List.toArray out)
 obtain ⟨c2,hc2⟩:∃ c2,((s.heap.update kS (Obj.mapSeq fun _=>(#[]:Array Value))).update a (Obj.mapSeq fun _=>List.toArray out)).get? a=some (seqObj "list" (List.toArray out) c2):=⟨_,get?_update_seq ha1 fun _=>List.toArray out⟩
 unfold ksk_tail
 try dsimp only
 rw [hout]
 refine wpAny_bind (listUpdate_at hk rfl ?_ (by rw [List.size_toArray,sizeLine_eq]; omega) (Nat.zero_le _))
 refine wpAny_bind (wpAny_letGo ?_); refine wpAny_bind (seqEpoch_at ha1 rfl ?_)
 refine wpAny_bind (listUpdate_at ha1 rfl ?_ (Nat.zero_le _) (by simp only [Bool.false_eq_true,if_false]; rw [List.size_toArray,sizeLine_eq]; omega))
 rw [hf]; simp only [bne_self_eq_false,Bool.false_eq_true,if_false]
 refine wpAny_pure (k _ ck c2 (fun b o h1 h2 q=>(s2.2 b h2).trans ((s1.2 b h1).trans q)) (by rw [Heap.size_update,Heap.size_update]) ((s2.2 kS ne).trans hck) hc2)
theorem srt_end {e e1:Nat} {P:PySem.Fin→Shared→Prop} (ne:kS≠a) (hl:ks.length=vs.length) (h2:2≤vs.length) (h64:vs.length<64)
  (h:wpAny (model prog w) A (keyKind' (List.toArray ks)) (fun κ s'=>(kas_sort vs.length).kasWp (kas_ask prog w A κ ks) (fun p s''=>Fin3 a kS ks e e1 (p.toList.map fun i=>vs.getD i Value.none) (fun s3=>P (.done (.ret .none)) s3) s'') s') (fun _ _=>False) s) :
  wpAny (model prog w) A (ksk_end a false vs.toArray e1 (.ref kS) (List.toArray ks)) P E s:=by
 have hn2:¬ vs.toArray.size<2:=by rw [List.size_toArray]; omega
 unfold ksk_end
 try dsimp only
 simp only [Bool.false_eq_true,if_false]; rw [if_neg hn2,if_neg hn2]
 refine wpAny_bind (wpAny_mono h (fun κ s0 hk=>?_) fun _ _ x=>x.elim)
 refine wpAny_bind (wpAny_mono (kat_run (Q:=fun st' s'=>∃ p:Array Nat,p.size=vs.length∧arrOf st'=p.map (kas_item ((List.toArray ks).zip (List.toArray vs)))∧failedOf st'=none ∧
   Fin3 a kS ks e e1 (p.toList.map fun i=>vs.getD i Value.none) (fun s3=>P (.done (.ret .none)) s3) s')
  hl h2 h64 (fun p' st' s' a1 a2 a3 a4=>⟨p',a1,a2,a3,a4⟩) hk) ?_ fun _ _ x=>x)
 rintro ⟨⟨⟩,st'⟩ s' ⟨p,hp,har,hf,fin⟩
 try dsimp only
 exact zh5 ne (kat_snds hl har) (by rw [List.length_map,Array.length_toList,hp]; exact h64) (by omega) hf fin
theorem srt_end1 {e e1:Nat} {P:PySem.Fin→Shared→Prop} (ne:kS≠a) (hl:ks.length=vs.length) (h2:vs.length<2)
  (h:Fin3 a kS ks e e1 vs (fun s3=>P (.done (.ret .none)) s3) s):wpAny (model prog w) A (ksk_end a false vs.toArray e1 (.ref kS) (List.toArray ks)) P E s:=by
 have hn2:vs.toArray.size<2:=by rw [List.size_toArray]; omega
 unfold ksk_end
 try dsimp only
 simp only [Bool.false_eq_true,if_false]; rw [if_pos hn2,if_pos hn2]; refine wpAny_bind (wpAny_pure ?_); refine wpAny_bind (m:=StateT.run (pure ()) _) (wpAny_pure ?_)
 try dsimp only
 refine zh5 ne ?_ (by omega) (by omega) rfl h
 apply Array.toList_inj.mp
 show (((List.toArray ks).zip (List.toArray vs)).map (·.2)).toList=_
 rw [Array.toList_map,ksk_zip]
 clear h hn2
 cases vs with
 | nil =>
  cases ks with
  | nil=>rfl
  | cons k r=>simp at hl
 | cons v r =>
  cases r with
  | cons v2 r=>exact absurd h2 (by simp)
  | nil =>
   cases ks with
   | nil=>simp at hl
   | cons k r =>
    cases r with
    | nil=>rfl
    | cons k2 r=>simp at hl
theorem zh6 {f:Value} {n:Nat} {body:Value→PUnit→Sem (ForInStep PUnit)} (J:List Value→Nat→Shared→Prop) (hn:n<64) (all:List Value) (hall:all.length=n)
  (hb:∀ x ks e (s:Shared) (C:Value→Nat→Shared→Prop),List.length ks<64→wpAny (model prog w) A (call f [x]) (fun k s'=>s'.heap.get? kS=some (seqObj "list" ks.toArray e)∧∀ c,(s'.heap.update kS (Obj.mapSeq (·.push k))).get? kS=some (seqObj "list" (List.toArray (ks ++ [k])) c)→C k c { s' with heap:=s'.heap.update kS (Obj.mapSeq (·.push k)) }) (fun _ _=>False) s →
   wpAny (model prog w) A (body x ⟨⟩) (fun r s'=>r=.yield ⟨⟩∧∃ k c,C k c s') E s)
  (step:∀ ks e s x,all[ks.length]?=some x→J ks e s→wpAny (model prog w) A (call f [x]) (fun k s'=>s'.heap.get? kS=some (seqObj "list" ks.toArray e)∧∀ c,(s'.heap.update kS (Obj.mapSeq (·.push k))).get? kS=some (seqObj "list" (List.toArray (ks ++ [k])) c)→J (ks ++ [k]) c { s' with heap:=s'.heap.update kS (Obj.mapSeq (·.push k)) }) (fun _ _=>False) s) :
  ∀ (r ks:List Value) (e:Nat) (s:Shared),all.drop ks.length=r→ks.length≤n→J ks e s →
   wpAny (model prog w) A (forIn r PUnit.unit body) (fun _ s'=>∃ ks e,ks.length=n∧J ks e s') E s
 | [],ks,e,s,hl,hle,h=>by
  rw [List.forIn_nil]
  have:all.length≤ks.length:=List.drop_eq_nil_iff.mp hl
  exact wpAny_pure ⟨ks,e,by omega,h⟩
 | x :: r,ks,e,s,hl,hle,h=>by
  rw [List.forIn_cons]
  have hx:all[ks.length]?=some x:=by
   have:=congrArg (fun l=>l[0]?) hl
   simpa using this
  have hlt:ks.length<n:=by rw [← hall]; exact (List.getElem?_eq_some_iff.mp hx).1
  refine wpAny_bind (wpAny_mono (hb x ks e s (fun k c s'=>J (ks ++ [k]) c s') (by omega) (step ks e s x hx h)) (fun q s' hq=>?_) fun _ _ x=>x)
  obtain ⟨rfl,k,c,h2⟩:=hq
  show wpAny (model prog w) A (forIn r PUnit.unit body) _ E s'
  refine zh6 J hn all hall hb step r (ks ++ [k]) c s' ?_ (by rw [List.length_append,List.length_singleton]; omega) h2
  rw [List.length_append,List.length_singleton,← List.drop_drop,hl]; rfl
theorem srt_rest {f:Value} {e1:Nat} {P:PySem.Fin→Shared→Prop} (J:List Value→Nat→Shared→Prop) (h64:vs.length<64) (hJ:∀ ks e s,J ks e s→s.heap.get? kS=some (seqObj "list" ks.toArray e))
  (step:∀ ks e s x,vs[ks.length]?=some x→J ks e s→wpAny (model prog w) A (call f [x]) (fun k s'=>s'.heap.get? kS=some (seqObj "list" ks.toArray e)∧∀ c,(s'.heap.update kS (Obj.mapSeq (·.push k))).get? kS=some (seqObj "list" (List.toArray (ks ++ [k])) c)→J (ks ++ [k]) c { s' with heap:=s'.heap.update kS (Obj.mapSeq (·.push k)) }) (fun _ _=>False) s)
  (fin:∀ ks e s,ks.length=vs.length→J ks e s→wpAny (model prog w) A (ksk_end a false vs.toArray e1 (.ref kS) (List.toArray ks)) P E s) (h0:J [] 0 s) :
  wpAny (model prog w) A (ksk_rest a f false vs.toArray e1 (.ref kS)) P E s:=by
 unfold ksk_rest; refine wpAny_bind (wpAny_rule ?_)
 first
  | rw [List.forIn_toArray]
  | (rw [← Array.forIn_toList]; simp only [List.toList_toArray])
  | rw [← Array.forIn_toList]
 refine wpAny_bind (wpAny_mono (zh6 (f:=f) (kS:=kS) J h64 vs rfl (fun x ks e s' C hz hx=>?_) step vs [] 0 s rfl (Nat.zero_le _) h0) (fun _ s' hd=>?_) fun _ _ x=>x)
 ·refine wpAny_bind (wpAny_attempt (wpAny_mono hx (fun k s'' hk=>?_) fun _ _ hF=>hF.elim))
  obtain ⟨nk,c⟩:=hk
  have ea:(List.toArray ks).push k=List.toArray (ks ++ [k]):=by simp
  obtain ⟨c2,hc2⟩:∃ c2,(s''.heap.update kS (Obj.mapSeq (·.push k))).get? kS=some (seqObj "list" (List.toArray (ks ++ [k])) c2):=⟨_,by rw [← ea]; exact get?_update_seq nk (·.push k)⟩
  try dsimp only
  refine wpAny_bind (listUpdate_at nk rfl ?_ (by rw [List.size_toArray,sizeLine_eq]; omega) (Nat.le_trans (Nat.le_of_eq (Array.size_push ..)) (by rw [List.size_toArray,sizeLine_eq]; omega)))
  exact wpAny_pure ⟨rfl,k,c2,c c2 hc2⟩
 ·obtain ⟨ks,e,hl,fj⟩:=hd
  try dsimp only
  refine wpAny_bind (listItems_at (hJ _ _ _ fj) rfl ?_); exact fin ks e s' hl fj
theorem srt_tree {f:Value} {n:Nat} {P:PySem.Fin→Shared→Prop} (ho:s.heap.get? a=some (seqObj "list" vs.toArray n)) (h64:vs.length<64)
  (h:∀ e1 h',(∀ b o,b≠a→s.heap.get? b=some o→h'.get? b=some o)→h'.objs.size=s.heap.objs.size+2→h'.get? (s.heap.objs.size+1)=some (seqObj "list" #[] 0)→h'.get? a=some (seqObj "list" #[] e1) →
   wpAny (model prog w) A (ksk_rest a f false vs.toArray e1 (.ref (s.heap.objs.size+1))) P E { s with heap:=h' }) :
  wpAny (model prog w) A (ksk_tree a f false) P E s:=by
 have ha:a<s.heap.objs.size:=Heap.lt_size ho
 have s1:=Heap.SameBut.update s.heap a (Obj.mapSeq fun _=>(#[]:Array Value))
 obtain ⟨e1,ho1⟩:∃ e1,(s.heap.update a (Obj.mapSeq fun _=>(#[]:Array Value))).get? a=some (seqObj "list" #[] e1):=⟨_,get?_update_seq ho fun _=>#[]⟩
 have hkS:((s.heap.update a (Obj.mapSeq fun _=>(#[]:Array Value))).push (seqObj "tuple" vs.toArray 0)).objs.size=s.heap.objs.size+1:=by rw [size_push',Heap.size_update]
 unfold ksk_tree; refine wpAny_bind (listItems_at ho rfl ?_)
 refine wpAny_bind (listUpdate_at ho rfl ?_ (by rw [List.size_toArray,sizeLine_eq]; omega) (Nat.zero_le _))
 refine wpAny_bind (seqEpoch_at ho1 rfl ?_)
 refine wpAny_bind (wpAny_newTuple ?_ (by show vs.length≤_; rw [sizeLine_eq]; omega))
 refine wpAny_bind (wpAny_newList ?_ (Nat.zero_le _)); refine wpAny_holding ?_
 have h':=h e1 (((s.heap.update a (Obj.mapSeq fun _=>(#[]:Array Value))).push (seqObj "tuple" vs.toArray 0)).push (seqObj "list" #[] 0)) (fun b o hb q=>Heap.get?_push_of_some _ (Heap.get?_push_of_some _ ((s1.2 b hb).trans q)))
  (by rw [size_push',hkS]) (by rw [← hkS]; exact Heap.get?_push_size _ rfl) (Heap.get?_push_of_some _ (Heap.get?_push_of_some _ ho1))
 rw [← hkS] at h'; exact h'
end
end So
namespace L2
open PySem PySem.Spec PyProof.Rows PySem.W
section
variable {X:Cx} {pins:List (Addr × Obj)} {σ:St} {H:Hp} {s:Shared} {h':Heap}
theorem Inv.turnedOwn {t':Nat} {ch:List Addr} {p:Addr} {o:HO} (I:Inv X pins σ H s) (hch:∀ b ∈ ch,zf3 X pins H b) (hp:p ∈ ch) (k:∀ b u,b ∉ ch→s.heap.get? b=some u→h'.get? b=some u) (new:zbG X.prog X.w (upd H p o) h' p o) :
  Inv X pins σ (upd H p o) { s with heap:=h',toks:=t' }:=by
 have fr:H p=none:=(hch p hp).1
 have sm:∀ b u,H b=some u→upd H p o b=some u:=fun b u e=>by rw [zo (zaL e fr)]; exact e
 have nch:∀ b u,H b=some u→b ∉ ch:=fun b u e z=>by rw [(hch b z).1] at e; cases e
 refine I.step (g':=s.gens) (d':=s.drawn) (ch:=ch) (fun b hb=>?_) (fun b u _ _ hc e _=>k b u hc e) (fun b u _ _ hc e _=>⟨u.slots,k b u hc e⟩) (fun b u hc e n=>?_) (fun b u hc e=>⟨u,k b u hc e⟩) (fun b xs e=>sm _ _ e) (fun b ob u e=>sm _ _ e) (fun b ps e=>⟨#[],by rw [sm _ _ e]; simp⟩) (fun m hm=>?_) (fun b u e=>?_) I.bare
 ·obtain ⟨_,y1,_,y3,y4,y5⟩:=hch b hb
  exact ⟨y3,y1,y4,y5⟩
 ·rw [zo (fun z=>hc (by rw [z]; exact hp))]
  exact n
 ·obtain ⟨ob,es,ep,ho,r⟩:=hm
  exact ⟨ob,es,ep,k _ ob (fun z=>(hch _ z).2.1 rfl) ho,r⟩
 ·by_cases z:b=p
  ·subst z
   rw [zh] at e; cases e; exact new
  ·rw [zo z] at e
   refine (I.hok b u e).stay (fun c v hc q=>k c v ?_ q) (fun c q=>sm _ _ q) fun c xs q=>sm _ _ q
   rcases hc with rfl | hc
   ·exact nch _ u e
   ·exact nch c _ hc
theorem zn0 {A':Around} {k:Nat} {f:Addr} {fd:FuncData} {ps:List Str} {sp:Sp} {Q:VK} {us:List Value} {vs:List V} (F:FnOk X.prog X.w X.K X.mg X.base CX0 k f fd ps sp) (hr:Room k A') (hA:Env0 X.prog X.w X.K X.mg X.base A' X.stack s H) (hb:zb1 X.K fd ps [])
  (I:Inv X pins σ H s) (r:za5 vs us) (h:sp vs H Q E0):wpAny (model X.prog X.w) A' (call (.ref f) us) (EP X pins σ Q) (fun _ _=>False) s:=by
 have hl:(us ++ []).length=ps.length:=by rw [List.append_nil,← r.length]; exact F.len _ _ _ _ h
 have hb':=hb s us I.kIn hl; rw [List.append_nil] at hb'
 refine wpAny_call (codeAny_mono (F.run A' X.stack s H ⟨us,[]⟩ us vs Q E0 hr hA hb' r h) fun r s' hq=>?_)
 cases r with
 | error e=>exact hq.elim
 | ok fl =>
  cases fl with
  | ret u=>exact I.after hq
  | next=>exact False.elim hq
  | brk=>exact False.elim hq
  | cont=>exact False.elim hq
def zrB (sp:Sp) (Fin:List V→Hp→Prop):List V→List V→Hp→Prop
 | [],ks,H=>Fin ks H
 | v :: r,ks,H=>sp [v] H (fun k H'=>zrB sp Fin r (ks ++ [k]) H') E0
def zls (X:Cx) (ks:List V) (H:Hp) (lt:Nat→Nat→Bool):Prop:=∀ (A':Around) (pins:List (Addr × Obj)) (σ:St) (s:Shared) (kss:List Value),Inv X pins σ H s→za5 ks kss→2≤ks.length →
 wpAny (model X.prog X.w) A' (keyKind' kss.toArray) (fun κ s'=>Inv X pins σ H s'∧∀ (i j:Nat) (C:Bool→Shared→Prop) s'',i<ks.length→j<ks.length→Inv X pins σ H s''→(∀ s3,Inv X pins σ H s3→C (lt i j) s3)→kas_ask X.prog X.w A' κ kss i j C s'') (fun _ _=>False) s
def zez (lt:Nat→Nat→Bool) (xs:List V):List V:=if xs.length<2 then xs else (So.run lt (kas_sort xs.length)).toList.map fun i=>xs.getD i .non
theorem zgI {xs:List V} {us:List Value} (r:za5 xs us) (i:Nat) (hi:i<xs.length):zbA (xs.getD i .non) (us.getD i Value.none):=by
 have hl:=r.length; obtain ⟨u,hu,ru⟩:=r.get (List.getElem?_eq_getElem hi); simp only [List.getD,List.getElem?_eq_getElem hi,Option.getD_some]; rw [hu]; exact ru
theorem zhZ {xs:List V} {us:List Value} (r:za5 xs us):∀ (l:List Nat),(∀ i,i ∈ l→i<xs.length)→za5 (l.map fun i=>xs.getD i .non) (l.map fun i=>us.getD i Value.none)
 | [],_=>.nil
 | i :: l,h=>.cons (zgI r i (h i (by simp))) (zhZ r l fun j hj=>h j (by simp [hj]))
theorem zdF {lt:Nat→Nat→Bool} (o:So.Ord lt) {n:Nat} (hn:1≤n):((So.run lt (kas_sort n)).toList.length=n)∧∀ i,i ∈ (So.run lt (kas_sort n)).toList→i<n:=by
 obtain ⟨b,_⟩:=So.sort o hn
 refine ⟨by rw [Array.length_toList]; exact b.size,fun i hi=>?_⟩
 obtain ⟨k,hk,e⟩:=List.getElem_of_mem hi
 have hk':k<(So.run lt (kas_sort n)).size:=by simpa using hk
 have:=b.low k (by rw [b.size] at hk'; exact hk')
 rw [So.g_eq] at this; simp only [Array.getElem_toList] at e; rw [Array.getElem?_eq_getElem hk',e] at this; exact this
theorem zgZ {k:Nat} {f:Addr} {fd:FuncData} {ps:List Str} {sp:Sp} {l:Addr} {xs:List V} {Q:VK} {E':Value→Shared→Prop} (F:FnOk X.prog X.w X.K X.mg X.base CX0 k f fd ps sp) (hr:Room (k+2) X.A) (hb:zb1 X.K fd ps []) (I:Inv X pins σ H s) (hl:SqL X.K H l xs) (h64:xs.length<64)
  (h:zrB sp (fun ks H'=>∃ lt,So.Ord lt∧zls X ks H' lt∧∀ p,H' p=none→Q (.ref p) (upd H' p (.lst (zez lt xs)))) xs [] H) :
  wpAny (model X.prog X.w) X.A (call (.builtin "sorted") [.ref l] [(Str.ofString "key",.ref f)]) (EP X pins σ Q) E' s:=by
 obtain ⟨vs,rv,pl,hz⟩:=I.list hl; have hlen:=rv.length
 have h64':vs.length<64:=by omega
 refine call_function_entry_kw kind_sorted plain_sorted entry_sorted (ksk_s1 _ _) ?_
 unfold Builtin.«sorted»
 refine wpAny_bind (m:=checkCount "sorted" 1 1 _) (wpAny_pure ?_)
 refine wpAny_bind (collect_list (zfI pl) ?_ (by rw [sizeLine_eq]; omega))
 refine wpAny_bind (wpAny_newList ?_ (by rw [sizeLine_eq]; omega))
 have hsz:((s.heap.push (seqObj "list" #[] 0)).update s.heap.objs.size (Obj.mapSeq (· ++ vs.toArray))).objs.size=s.heap.objs.size+1:=by
  rw [Heap.size_update,size_push']
 have hoL:(((s.heap.push (seqObj "list" #[] 0)).update s.heap.objs.size (Obj.mapSeq (· ++ vs.toArray))).push (seqObj "list" vs.toArray 0)).get? (s.heap.objs.size+1)=some (seqObj "list" vs.toArray 0):=by
  rw [← hsz]; exact Heap.get?_push_size _ rfl
 have hsz2:(((s.heap.push (seqObj "list" #[] 0)).update s.heap.objs.size (Obj.mapSeq (· ++ vs.toArray))).push (seqObj "list" vs.toArray 0)).objs.size=s.heap.objs.size+2:=by rw [size_push',hsz]
 have keep:∀ b o,s.heap.get? b=some o→(((s.heap.push (seqObj "list" #[] 0)).update s.heap.objs.size (Obj.mapSeq (· ++ vs.toArray))).push (seqObj "list" vs.toArray 0)).get? b=some o:=fun b o q=>by
  have hlt:b<s.heap.objs.size:=Heap.lt_size q
  rw [Heap.get?_push_ne _ _ _ (by rw [hsz]; exact Nat.ne_of_lt (Nat.lt_succ_of_lt hlt)),Heap.get?_update_ne _ _ _ _ (Nat.ne_of_lt hlt),Heap.get?_push_ne _ _ _ (Nat.ne_of_lt hlt)]
  exact q
 show wpAny _ _ _ _ _ { s with heap:=((s.heap.push (seqObj "list" #[] 0)).update s.heap.objs.size (Obj.mapSeq (· ++ vs.toArray))).push (seqObj "list" vs.toArray 0) }
 rw [hsz]; refine wpAny_bind (wpAny_holding (wpAny_call_entry_kw slot_list_sort ⟨_,hoL,rfl⟩ entry_list_sort ?body (ksk_l1 _ _)))
 case body =>
  show wpAny (model X.prog X.w) X.A.in1.in1 (Builtin.«list.sort» ⟨[.ref (s.heap.objs.size+1)],[(Str.ofString "key",.ref f)]⟩) _ _ _
  rw [ksk_t1]
  refine So.srt_tree (s:={ s with heap:=((s.heap.push (seqObj "list" #[] 0)).update s.heap.objs.size (Obj.mapSeq (· ++ vs.toArray))).push (seqObj "list" vs.toArray 0) }) hoL h64' fun e1 h' keep' size' hk0 ha0=>?_
  dsimp only at keep' size' hk0
  rw [hsz2] at size' hk0
  have hDk:s.heap.objs.size+2+1≠s.heap.objs.size+1:=by omega
  have hD0:s.heap.objs.size≤s.heap.objs.size+1:=by omega
  have hK0:s.heap.objs.size≤s.heap.objs.size+2+1:=by omega
  have fD:=I.fpOk (H':=H) hD0 (I.hok.fresh hD0); have fK:=I.fpOk (H':=H) hK0 (I.hok.fresh hK0); rw [hsz2]; generalize hkS:s.heap.objs.size+2+1=kS at hk0 hDk fK; generalize hDD:s.heap.objs.size+1=D at ha0 hDk fD
  have I0:Inv X pins σ H { s with heap:=h' }:=I.kept (t':=s.toks) fun b u q=>keep' b u (fun z=>absurd (Heap.lt_size q) (by rw [z]; exact Nat.not_lt.mpr (Nat.le_succ _))) (keep b u q)
  have pin2:∀ {H':Hp} {s':Shared} {ks:List Value} {e:Nat},Inv X pins σ H' s'→s'.heap.get? kS=some (seqObj "list" ks.toArray e)→s'.heap.get? D=some (seqObj "list" #[] e1)→H' kS=none→H' D=none→Inv X ((kS,seqObj "list" ks.toArray e) :: (D,seqObj "list" #[] e1) :: pins) σ H' s':=fun I' g1 g2 n1 n2 =>
   I'.pins_of fun p hp=>by
    rcases List.mem_cons.mp hp with rfl | hp
    ·exact ⟨g1,n1,fK.2.1,fK.2.2.1,fun v z=>by cases z⟩
    ·rcases List.mem_cons.mp hp with rfl | hp
     ·exact ⟨g2,n2,fD.2.1,fD.2.2.1,fun v z=>by cases z⟩
     ·exact I'.pin p (List.mem_append_right _ hp)
  have unpin:∀ {H':Hp} {s':Shared} {ks:List Value} {e:Nat},Inv X ((kS,seqObj "list" ks.toArray e) :: (D,seqObj "list" #[] e1) :: pins) σ H' s'→Inv X pins σ H' s'∧(s'.heap.get? kS=some (seqObj "list" ks.toArray e)∧H' kS=none)∧(s'.heap.get? D=some (seqObj "list" #[] e1)∧H' D=none):=fun I'=>by
   have p1:=I'.pin (kS,_) (List.mem_append_right _ (.head _)); have p2:=I'.pin (D,_) (List.mem_append_right _ (.tail _ (.head _)))
   exact ⟨I'.pins_of fun p hp=>I'.pin p (List.mem_append_right _ (.tail _ (.tail _ hp))),⟨p1.1,p1.2.1⟩,⟨p2.1,p2.2.1⟩⟩
  have fin3:∀ {H':Hp} {s':Shared} {ks:List Value} {e:Nat} {ys:List V} {out:List Value},Inv X ((kS,seqObj "list" ks.toArray e) :: (D,seqObj "list" #[] e1) :: pins) σ H' s'→za5 ys out→ys.length<64→(∀ p,H' p=none→Q (.ref p) (upd H' p (.lst ys)))→So.Fin3 D kS ks e e1 out (EP X pins σ Q (.ref D)) s':=fun {H' s' ks e ys out} I' r hy hq=>by
   obtain ⟨I2,⟨g1,n1⟩,⟨g2,n2⟩⟩:=unpin I'
   refine ⟨g1,g2,fun h2 c c2 kp sz q1 q2=>⟨.ref D,upd H' D (.lst ys),?_,rfl,hq D n2⟩⟩
   refine I2.turnedOwn (t':=s'.toks) (ch:=[kS,D]) (fun b hb=>?_) (by simp) (fun b u hb e=>kp b u (fun z=>hb (by simp [z])) (fun z=>hb (by simp [z])) e) ⟨by rw [sizeLine_eq]; omega,out,c2,r,q2⟩
   simp at hb
   rcases hb with rfl | rfl
   ·exact ⟨n1,fK.2⟩
   ·exact ⟨n2,fD.2⟩
  refine So.srt_rest (J:=fun ks e s'=>∃ (kv:List V) (H':Hp),za5 kv ks∧Inv X ((kS,seqObj "list" ks.toArray e) :: (D,seqObj "list" #[] e1) :: pins) σ H' s'∧zrB sp (fun ks H'=>∃ lt,So.Ord lt∧zls X ks H' lt∧∀ p,H' p=none→Q (.ref p) (upd H' p (.lst (zez lt xs)))) (xs.drop ks.length) kv H') h64' ?_ ?_ ?_ ?_
  ·rintro ks e s' ⟨kv,H',_,I',_⟩
   exact (unpin I').2.1.1
  ·rintro ks e s' x hx ⟨kv,H',rk,I',hk⟩
   have hlt:ks.length<xs.length:=by rw [hlen]; exact (List.getElem?_eq_some_iff.mp hx).1
   obtain ⟨x',hx',rx⟩:=rv.get (List.getElem?_eq_getElem hlt); rw [hx] at hx'; cases hx'; rw [List.drop_eq_getElem_cons hlt] at hk
   refine wpAny_mono (zn0 F hr.in1.in1 I'.env0.in1.in1 hb I' (.cons rx .nil) hk) (fun kk s3 he=>?_) fun _ _ z=>z
   obtain ⟨v,H3,I3,r3,hk3⟩:=he
   obtain ⟨I4,⟨g1,n1⟩,⟨g2,n2⟩⟩:=unpin I3
   refine ⟨g1,fun c hc=>⟨kv ++ [v],H3,rk.append (.cons r3 .nil),?_,?_⟩⟩
   ·have sb:=Heap.SameBut.update s3.heap kS (Obj.mapSeq (·.push kk))
    have I5:Inv X pins σ H3 { s3 with heap:=s3.heap.update kS (Obj.mapSeq (·.push kk)) }:=I4.turned (t':=s3.toks) (it:=kS) (fun b o hb e=>(sb.2 b hb).trans e) n1 fK.2.1 fK.2.2.2.1 fK.2.2.2.2.1 fK.2.2.2.2.2
    exact pin2 I5 hc ((sb.2 D (fun z=>hDk z.symm)).trans g2) n1 n2
   ·rw [List.length_append,List.length_singleton]
    exact hk3
  ·rintro ks e s' hkl ⟨kv,H',rk,I',hk⟩
   have hkl2:kv.length=xs.length:=by rw [rk.length,hkl,hlen]
   rw [show xs.drop ks.length=[] from List.drop_eq_nil_of_le (by omega)] at hk
   obtain ⟨lt,od,cmp,hq⟩:=hk
   by_cases hn:vs.length<2
   ·refine So.srt_end1 hDk hkl hn ((fin3 (ys:=zez lt xs) I' ?_ ?_ hq).mono fun s4 hq=>⟨_,rfl,wpAny_pure ⟨_,rfl,hq⟩⟩)
    ·unfold zez
     rw [if_pos (by omega)]
     exact rv
    ·unfold zez
     rw [if_pos (by omega)]
     exact h64
   ·have hN:1≤vs.length:=by omega
    have hsm:=zdF od hN
    refine So.srt_end (e:=e) hDk hkl (by omega) h64' (wpAny_mono (cmp X.A.in1.in1 _ σ s' ks I' rk (by omega)) (fun κ s3 hc=>?_) fun _ _ z=>z)
    obtain ⟨I3,hc⟩:=hc
    refine So.wp_of (lt:=lt) (N:=vs.length) (J:=fun s=>Inv X ((kS,seqObj "list" ks.toArray e) :: (D,seqObj "list" #[] e1) :: pins) σ H' s) (fun i j C s4 hi hj I4 hC=>hc i j C s4 (by omega) (by omega) I4 hC) (kas_sort vs.length) s3 (So.ok_sort od hN) I3 fun s4 I4=>?_
    refine (fin3 (ys:=zez lt xs) I4 ?_ ?_ hq).mono fun s4 hq=>⟨_,rfl,wpAny_pure ⟨_,rfl,hq⟩⟩
    ·unfold zez
     rw [if_neg (by omega),hlen]
     exact zhZ rv _ fun i hi=>by rw [hlen]; exact hsm.2 i hi
    ·unfold zez
     rw [if_neg (by omega),List.length_map,hlen,hsm.1]
     exact h64'
  ·exact ⟨[],H,.nil,pin2 I0 hk0 ha0 fK.1 fD.1,h⟩
end
end L2
namespace L2
open PySem PySem.Spec PyProof.Rows PySem.W
section
variable {X:Cx}
def ltI (is:List Int):Nat→Nat→Bool:=fun i j=>decide (is.getD i 0<is.getD j 0)
theorem zoE (is:List Int):So.Ord (ltI is):=⟨fun a b h=>by
  unfold ltI at h ⊢
  simp at h ⊢
  omega,fun a b c h1 h2=>by
  unfold ltI at h1 h2 ⊢
  simp at h1 h2 ⊢
  omega⟩
theorem ziv:∀ {is:List Int} {us:List Value},za5 (is.map V.int) us→IntsAre us is
 | [],_,.nil=>.nil
 | i :: is,_,.cons r t=>by
  obtain ⟨tk,rfl⟩:=r; exact .cons i tk (ziv t)
theorem ztp (is:List Int) {H:Hp}:zls X (is.map V.int) H (ltI is):=by
 intro A' pins σ s kss I r h2; rw [List.length_map] at h2; have hi:=ziv r
 have hl:kss.length=is.length:=by have:=r.length; simpa using this.symm
 rw [ksk_kind (keys:=kss.toArray) (kz:=is) (by simpa using hi) (by rw [List.size_toArray]; omega)]
 refine wpAny_pure ⟨I,fun i j C s'' h1 h2 I2 hC=>?_⟩
 rw [List.length_map] at h1 h2; unfold kas_ask
 have g:∀ i,i<is.length→∃ t,kss.getD i Value.none=.int (is.getD i 0) t:=fun i h=>by
  have:=zgI r i (by rw [List.length_map]; exact h)
  rw [show (is.map V.int).getD i .non=V.int (is.getD i 0) by simp [List.getD,List.getElem?_map,List.getElem?_eq_getElem h]] at this
  exact this
 obtain ⟨t1,e1⟩:=g i h1; obtain ⟨t2,e2⟩:=g j h2; rw [e1,e2]; exact kat_lt_int (hC _ I2)
def ltP (ps:List (Int × List Nat)):Nat→Nat→Bool:=fun i j=>decide ((ps.getD i (0,[])).1<(ps.getD j (0,[])).1∨((ps.getD i (0,[])).1=(ps.getD j (0,[])).1∧(ps.getD i (0,[])).2<(ps.getD j (0,[])).2))
theorem zqz (ps:List (Int × List Nat)):So.Ord (ltP ps):=⟨fun a b h=>by
  unfold ltP at h ⊢
  simp only [decide_eq_true_eq,decide_eq_false_iff_not] at h ⊢; generalize ps.getD a (0,[])=x at h ⊢; generalize ps.getD b (0,[])=y at h ⊢
  rintro (h' | ⟨h',h''⟩)
  ·rcases h with h | ⟨h,_⟩ <;> omega
  ·rcases h with h | ⟨_,h⟩
   ·omega
   ·exact List.lt_irrefl _ (List.lt_trans h h''),fun a b c h1 h2=>by
  unfold ltP at h1 h2 ⊢
  simp only [decide_eq_false_iff_not,not_or,not_and] at h1 h2 ⊢; generalize ps.getD a (0,[])=x at h1 h2 ⊢; generalize ps.getD b (0,[])=y at h1 h2 ⊢; generalize ps.getD c (0,[])=z at h1 h2 ⊢
  refine ⟨by omega,fun e=>?_⟩
  have e1:y.1=x.1:=by omega
  have e2:z.1=y.1:=by omega
  have q1:=h1.2 e1; have q2:=h2.2 e2; intro q; rw [List.not_lt] at q1 q2; exact absurd q (List.not_lt.mpr (List.le_trans q1 q2))⟩
def zpz (H:Hp):List Addr→List (Int × List Nat)→Prop:=Paired fun a p=>H a=some (.tup [.int p.1,.str (st p.2)])
theorem zhM {s:Shared} {pins:List (Addr × Obj)} {σ:St} {H:Hp} (I:Inv X pins σ H s) {a:Addr} {p:Int × List Nat} (h:H a=some (.tup [.int p.1,.str (st p.2)])) :
  ∃ o n t1 t2,s.heap.get? a=some o∧o.cls=.type "tuple"∧o.data=.seq (List.toArray [Value.int p.1 t1,Value.str (st p.2) t2]) n:=by
 obtain ⟨its,r,⟨o,e,c,n,d⟩,_⟩:=I.tuple (SqT.of h)
 obtain ⟨u,w',rfl,r1,r2⟩:=zpB r; obtain ⟨t1,rfl⟩:=r1; obtain ⟨t2,rfl⟩:=r2; exact ⟨o,n,t1,t2,e,c,d⟩
theorem zqW {s:Shared} {pins:List (Addr × Obj)} {σ:St} {H:Hp} (I:Inv X pins σ H s):∀ {as:List Addr} {ps:List (Int × List Nat)},zpz H as ps→∃ fs:List Value,fs.length=as.length∧KatTups s.heap (as.map Value.ref) fs∧∀ v,v ∈ fs→∃ i t,v=Value.int i t
 | [],[],_=>⟨[],rfl,trivial,fun _ z=>by simp at z⟩
 | a :: as,p :: ps,.cons h t=>by
  obtain ⟨fs,hl,kt,hf⟩:=zqW I t; obtain ⟨o,n,t1,t2,e,c,d⟩:=zhM I h
  refine ⟨.int p.1 t1 :: fs,by simp [hl],KatTups.cons e c d rfl kt,fun v hv=>?_⟩
  rcases List.mem_cons.mp hv with rfl | hv
  ·exact ⟨_,_,rfl⟩
  ·exact hf v hv
theorem zic:∀ {as:List Addr} {us:List Value},za5 (as.map V.ref) us→us=as.map Value.ref
 | [],_,.nil=>rfl
 | a :: as,_,.cons r t=>by rw [zic t]; cases r; rfl
theorem zfP {H:Hp}:∀ {as:List Addr} {ps:List (Int × List Nat)} (i:Nat),zpz H as ps→i<as.length→H (as.getD i 0)=some (.tup [.int (ps.getD i (0,[])).1,.str (st (ps.getD i (0,[])).2)])
 | _ :: _,_ :: _,0,.cons h _,_=>h
 | _ :: _,_ :: _,i+1,.cons _ t,hi=>by
  have:=zfP i t (by simpa using hi)
  simpa using this
theorem zto {H:Hp} {as:List Addr} {ps:List (Int × List Nat)} (k:zpz H as ps):zls X (as.map V.ref) H (ltP ps):=by
 intro A' pins σ s kss I r h2; rw [List.length_map] at h2; have e:=zic r; subst e; obtain ⟨fs,hl,kt,hf⟩:=zqW I k
 refine kat_kind (T:=.type "int") kt (by omega) (fun v hv=>?_) rfl ⟨I,fun i j C s'' h1 h2 I2 hC=>?_⟩
 ·obtain ⟨i,t,rfl⟩:=hf v hv
  exact Looks.of_pure rfl
 ·rw [List.length_map] at h1 h2
  unfold kas_ask
  have g:∀ i,i<as.length→(as.map Value.ref).getD i Value.none=.ref (as.getD i 0):=fun i h=>by simp [List.getD,List.getElem?_map,List.getElem?_eq_getElem h]
  rw [g i h1,g j h2]; obtain ⟨o,n,t1,t2,e1,c1,d1⟩:=zhM I2 (zfP i k h1); obtain ⟨o',n',t1',t2',e1',c1',d1'⟩:=zhM I2 (zfP j k h2); unfold ltP at hC; generalize ps.getD i (0,[])=p at *; generalize ps.getD j (0,[])=q at *; refine kat_lt e1 d1 e1' d1' ?_; refine kat_cons (wpAny_eqBool_int ?_)
  refine kat_go (fun he=>kat_yes (kat_cons (wpAny_eqBool_str (kat_go (fun he2=>kat_yes (kat_nil ?_)) fun he2=>kat_no ?_)))) fun he=>kat_no ?_
  ·have e1:p.1=q.1:=by simpa using he
   have e2:st p.2=st q.2:=by simpa using he2
   have e3:p.2=q.2:=by rw [← zbJ p.2,e2,zbJ]
   have hz:=hC _ I2
   rw [show decide (p.1<q.1∨p.1=q.1∧p.2<q.2)=false by rw [e1,e3]; simp] at hz
   exact hz
  ·have e1:p.1=q.1:=by simpa using he
   have hz:=hC _ I2; refine kat_one _ _ (lt_str ?_)
   show C (decide ((st p.2).cps.toList<(st q.2).cps.toList)) s''
   simp only [zbJ]
   rw [show decide (p.1<q.1∨p.1=q.1∧p.2<q.2)=decide (p.2<q.2) by rw [e1]; simp] at hz
   exact hz
  ·have e1:¬ p.1=q.1:=by simpa using he
   have hz:=hC _ I2; refine oneLt_int ?_
   rw [show decide (p.1<q.1∨p.1=q.1∧p.2<q.2)=decide (p.1<q.1) by simp [e1]] at hz
   exact hz
end
end L2
namespace PL
open PySem L2
def ztI (ks:List D) (lt:Nat→Nat→Bool):Prop:=(∃ is:List Int,ks=is.map .int∧lt=ltI is)∨∃ ps:List (Int × List Nat),ks=ps.map (fun p=>.tup [.int p.1,.str p.2])∧lt=ltP ps
def zga (lt:Nat→Nat→Bool) (ds:List D):List D:=if ds.length<2 then ds else (So.run lt (PySem.W.kas_sort ds.length)).toList.map fun i=>ds.getD i .non
theorem ztI.ord {ks:List D} {lt:Nat→Nat→Bool} (h:ztI ks lt):So.Ord lt:=by
 rcases h with ⟨is,_,rfl⟩ | ⟨ps,_,rfl⟩
 ·exact zoE is
 ·exact zqz ps
theorem zgP {K:PySem.W.Frag} {H:Hp}:∀ {vs:List V} {is:List Int},zbP K H vs (is.map .int)→vs=is.map V.int
 | [],[],_=>rfl
 | v :: vs,i :: is,.cons r t=>by rw [r.intI,zgP t]; rfl
 | [],_ :: _,h=>nomatch h
 | _ :: _,[],h=>nomatch h
theorem zgO {K:PySem.W.Frag} {H:Hp}:∀ {vs:List V} {ps:List (Int × List Nat)},zbP K H vs (ps.map fun p=>.tup [.int p.1,.str p.2])→∃ as:List Addr,vs=as.map V.ref∧zpz H as ps
 | [],[],_=>⟨[],rfl,.nil⟩
 | v :: vs,p :: ps,.cons r t=>by
  obtain ⟨as,rfl,k⟩:=zgO t; obtain ⟨a,us,rfl,ha,dl⟩:=r.tupJ; obtain ⟨v1,v2,rfl,d1,d2⟩:=zri dl; rw [d1.intI,d2.strI] at ha; exact ⟨a :: as,rfl,.cons ha k⟩
 | [],_ :: _,h=>nomatch h
 | _ :: _,[],h=>nomatch h
theorem zgB {H H':Hp} (e:zaW H H'):∀ {as:List Addr} {ps:List (Int × List Nat)},zpz H as ps→zpz H' as ps
 | _,_,.nil=>.nil
 | _,_,.cons h t=>.cons (e _ _ h) (zgB e t)
theorem zm3 {K:PySem.W.Frag} {H:Hp} {vs:List V} {ds:List D} (h:zbP K H vs ds) (i:Nat) (hi:i<vs.length):Den K H (vs.getD i .non) (ds.getD i .non):=by
 have hl:=zg h
 have:=paired_get i h (List.getElem?_eq_getElem hi) (List.getElem?_eq_getElem (by omega:i<ds.length))
 simpa [List.getD,List.getElem?_eq_getElem hi,List.getElem?_eq_getElem (by omega:i<ds.length)] using this
theorem zk7 {K:PySem.W.Frag} {H:Hp} {vs:List V} {ds:List D} (h:zbP K H vs ds):∀ (l:List Nat),(∀ i,i ∈ l→i<vs.length)→zbP K H (l.map fun i=>vs.getD i .non) (l.map fun i=>ds.getD i .non)
 | [],_=>.nil
 | i :: l,q=>.cons (zm3 h i (q i (by simp))) (zk7 h l fun j hj=>q j (by simp [hj]))
theorem zlL {K:PySem.W.Frag} {H:Hp} {lt:Nat→Nat→Bool} (o:So.Ord lt) {vs:List V} {ds:List D} (h:zbP K H vs ds):zbP K H (zez lt vs) (zga lt ds):=by
 have hl:=zg h; unfold zez zga; rw [hl]; split
 ·exact h
 ·rename_i hn
  exact zk7 h _ fun i hi=>by rw [hl]; exact (zdF o (by omega)).2 i hi
section
variable {X:Cx}
def zk (sp:Sp') (t:TA'):TO':=fun Γ Q=>t Γ fun as Γ1=>∃ ds ks lt,as=[.lst ds]∧ds.length<64∧ks.length=ds.length∧(∀ (i:Nat) x k,ds[i]?=some x→ks[i]?=some k→sp [x] fun r=>r=.val k)∧ztI ks lt∧Q (.lst (zga lt ds)) Γ1
end
end PL
namespace L2
open PySem PySem.Spec PyProof.Rows
abbrev zdS (qual:Str) (params:Arguments) (body:Expr) (scope:Scope) (pm:Value) (c:Addr) (ctv:Value):Obj:=PySem.W.kla_obj "<lambda>" qual params body scope [] pm c ctv
abbrev zkM (qual:Str) (params:Arguments) (body:Expr) (scope:Scope) (pm:Value) (c:Addr) (ctv:Value):FuncData:=PySem.W.kla_fn "<lambda>" qual params body scope [] pm (.ref c) ctv
def zjQ (f c:Addr) (fo oc:Obj) (sp:Sp):Sp:=fun vs H Q E=>H f=some (zcD (.inr fo))∧H c=some (zcD (.inr oc))∧sp vs H Q E
section
variable {P:Program} {w:World} {K:PySem.W.Frag} {mg:Str→Option Value} {base:Heap}
theorem zqV {CX:CXT} {k:Nat} {f c:Addr} {qual:Str} {params:Arguments} {body:Expr} {scope:Scope} {pm ctv:Value} {oc:Obj} {vs0:Array Value} {t0:Tok} {N ps:List Str} {sp:Sp}
  (S:FnScope N ps scope) (hd:oc.data=.fields vs0) (hv:vs0[1]?=some (.str qual t0)) (len:∀ vs H Q E,sp vs H Q E→vs.length=ps.length)
  (hbody:∀ (A:Around) (outer:List Env) (s:Shared) (H:Hp) (vs:List V) (Q:VK) (E:XK),Room k (A.deeper (envOfC qual scope s.heap.objs.size f (.ref c)))→sp vs H Q E →
   ∃ t,PE (ze4 CX P w K mg base N qual scope f (.ref c) A outer s H E) body t∧t (start N vs) H Q) :
  FnOk P w K mg base CX (k+1) f (zkM qual params body scope pm c ctv) ps (zjQ f c (zdS qual params body scope pm c ctv) oc sp):=by
 refine ⟨fun vs H Q E h=>len _ _ _ _ h.2.2,fun A outer s H args us vs Q E hr e0 hb r hsp=>?_⟩
 obtain ⟨hf,hc,hsp⟩:=hsp; have hl:=len _ _ _ _ hsp
 have of:s.heap.get? f=some (zdS qual params body scope pm c ctv):=(e0.hok f _ hf).1
 have oc':s.heap.get? c=some oc:=(e0.hok c _ hc).1
 have lim:s.heap.NoLimit:=e0.mod.nolimit.keeps fun b o e=>(e0.bs b o e).1
 have hkind:∀ y ∈ ps.zip us,scope.names.lookup y.1=some .local∨(scope.names.lookup y.1=some .cell∧((cellsFrom (s.heap.objs.size+1) scope.names []).lookup y.1).isSome=true):=fun ⟨n,v⟩ hy=>by
  rcases S.par n (List.of_mem_zip hy).1 with q | q
  ·exact .inl q
  ·exact .inr ⟨q,PySem.W.cellsFrom_some _ _ _ (.inl q)⟩
 refine PySem.W.kla_callFunE hr.depth of rfl S.co S.gen rfl ⟨c,oc,vs0,t0,rfl,oc',hd,hv⟩ (hb _ _ _ _ ?_)
 refine wpAny_newFunctionEnv_cells S.kind hkind fun env he s1 x=>?_
 subst he; refine ⟨lim.keeps x.toInCall.keep,PySem.W.kla_codeExpr ?_⟩; obtain ⟨t,ht,hq⟩:=hbody A outer s H vs Q E (hr.deeper _) hsp
 have I:Inv (ze4 CX P w K mg base N qual scope f (.ref c) A outer s H E) [] (start N vs) H s1:=zgG S hr.hd e0 hl r x
 refine wpAny_mono (ht [] s1 (start N vs) H _ I hq) (fun u s' hs=>?_) fun e s' hs=>hs
 obtain ⟨v,H',J,rv,q⟩:=hs; exact ⟨v,H',J.os,J.bare,J.base,J.hok,rv,q⟩
end
theorem zju {pos:Pos} {c cv:Value} {a b:Int} (l:List Value) (h:TriplesOk l) (e:codeAmong pos (l ++ [rawInt a,rawInt b,c])=some cv):codeAmong pos l=some cv∨cv=c:=by
 fun_induction TriplesOk l with
 | case1 =>
  simp only [List.nil_append,codeAmong,rawInt] at e; split at e
  ·exact .inr (Option.some.inj e).symm
  ·cases e
 | case2 a' t b' u x zdD ih =>
  simp only [List.cons_append,codeAmong] at e ⊢; split at e
  ·rename_i hc
   rw [if_pos hc]; exact .inl e
  ·rename_i hc
   rw [if_neg hc]; exact ih h e
 | case3 l h1 h2=>exact h.elim
theorem zfY {P:Program} {w:World} {H:Hp} {h:Heap} {a:Addr} {o:Obj} (e:h.get? a=some o):zbG P w H h a (zcD (.inr o)):=⟨e,trivial,⟨o,e⟩,fun _ _ _ _=>trivial⟩
def NewLam (H H2:Hp) (f c:Addr) (fo oc:Obj):Prop:=∃ H1,(H1=H∨(H c=none∧H1=upd H c (zcD (.inr oc))))∧H1 c=some (zcD (.inr oc))∧H1 f=none∧H2=upd H1 f (zcD (.inr fo))
section
variable {X:Cx} {pins:List (Addr × Obj)} {σ:St} {H:Hp} {s:Shared}
theorem zmy {params:Arguments} {body:Expr} {scope:Scope} {lpos:Pos} {c Pt:Addr} {Q:VK} {E':Value→Shared→Prop} (I:Inv X pins σ H s) (hc:X.env.code=.ref c) (hC:PySem.W.codeHdIn X.K c Pt=true)
  (hT:X.base.objs[Pt]?=some (zey (X.env.qual ++ "<lambda>"))) (hdef:defaultsOf params X.env=([],[])) (hcl:closureFor scope X.env=pure [])
  (q:∀ (f c':Addr) (oc:Obj) (vs:Array Value) (t:Tok) (pm ctv:Value) (H2:Hp),oc.data=.fields vs→vs[1]?=some (.str (X.env.qual ++ "<lambda>") t)→NewLam H H2 f c' (zdS (X.env.qual ++ "<lambda>") params body scope pm c' ctv) oc→Q (.ref f) H2) :
  wpAny (model X.prog X.w) X.A (eval (.Lambda params body scope lpos) X.env) (EP X pins σ Q) E' s:=by
 obtain ⟨ps,hP,hq⟩:=I.env0.tab Pt _ hT; obtain ⟨ts,ht1,ht2,ht3⟩:=I.hok Pt _ hP
 have hg:s.heap.Ns mainGlobals X.mg:=I.mod.glob.keeps I.bk
 have C:=PySem.W.codeHd_of_K I.kIn hC; obtain ⟨bm,ob,b1,b2,b3,b4,b5,b6⟩:=I.mod.bm; have hbm:=I.bk _ _ b3
 have hgP:mainGlobals≠Pt:=fun z=>by
  obtain ⟨o,es,ep,e,_⟩:=I.mod.glob; have y:=(I.bs _ _ e).2; rw [z,hP] at y; cases y
 have hbP:bm≠Pt:=fun z=>by
  have y:=(I.bs _ _ b3).2; rw [z,hP] at y; cases y
 have hbG:bm≠mainGlobals:=fun z=>by
  obtain ⟨o,es,ep,e,hd,_⟩:=I.mod.glob; rw [← z,b3] at e; cases e; rw [b6] at hd; cases hd
 refine PySem.W.kla_eval hdef ?_
 cases hf:codeAmong lpos ts.toList with
 | none =>
  refine PySem.W.kla_makeFunction (mg:=X.mg) hcl I.ok.glob hg hc C ht1 ht2 hf hgP ⟨bm,ob,b1,b2,hbG,hbP,hbm,b4,b5,b6⟩ fun c' ctv h' tk hx hge hlt hrec htb=>?_
  obtain ⟨c2,oc,vs,t,e2,hoc,hd,hv⟩:=hrec; cases e2
  have fr:H c'=none:=I.hok.fresh hge
  have nP:∀ b,H b=none→b≠Pt:=fun b n z=>by rw [z,hP] at n; cases n
  have sm:∀ b u,H b=some u→upd H c' (zcD (.inr oc)) b=some u:=fun b u e=>by rw [zo (zaL e fr)]; exact e
  have cP:c'≠Pt:=fun z=>by rw [z,hP] at fr; cases fr
  have un:Un X.fs [] H (upd H c' (zcD (.inr oc))) s.heap h':=by
   refine ⟨fun b o e n _ _=>hx b o (nP b n) e,fun b o e n _ _=>⟨o.slots,hx b o (nP b n) e⟩,fun b o e n _=>?_,fun b o e _=>?_,fun b xs e=>sm _ _ e,fun b o u e=>sm _ _ e,fun b ps e=>⟨#[],by rw [sm _ _ e]; simp⟩⟩
   ·rw [zo (Nat.ne_of_lt (Nat.lt_of_lt_of_le (Heap.lt_size e) hge))]
    exact n
   ·by_cases z:b=Pt
    ·rw [z]; exact ⟨_,htb⟩
    ·exact ⟨o,hx b o z e⟩
  have hok:HOk X.prog X.w (upd H c' (zcD (.inr oc))) h':=fun b u e=>by
   by_cases z:b=c'
   ·subst z
    rw [zh] at e; cases e; exact zfY hoc
   ·rw [zo z] at e
    by_cases y:b=Pt
    ·subst y
     rw [hP] at e; cases e
     refine ⟨_,htb,?_,fun pos cv ee=>?_⟩
     ·rw [Array.toList_append]
      exact TriplesOk_snoc _ _ _ _ ht2
     ·rw [Array.toList_append] at ee
      rcases zju _ ht2 ee with y | y
      ·obtain ⟨c3,oc3,vs3,t3,q3,t4,z1,z2,z3⟩:=ht3 pos cv y
       exact ⟨c3,oc3,vs3,t3,q3,t4,z1,sm _ _ z2,z3⟩
      ·exact ⟨c',oc,vs,t,_,_,y,zh,hd,hv,hq⟩
    ·refine (I.hok b u e).stay (fun d v hd r=>hx d v ?_ r) (fun d r=>sm _ _ r) fun d xs r=>sm _ _ r
     rcases hd with rfl | hd
     ·exact y
     ·intro zz
      rw [zz,hP] at hd; cases hd
  have I1:=I.un (t':=tk) un hok
  refine ⟨.ref h'.objs.size,_,I1.laid (a:=h'.objs.size) (o:=zcD (.inr (zdS (X.env.qual ++ "<lambda>") params body scope ((X.mg "__name__").getD .none) c' ctv))) (t':=tk) (fun b u e=>Heap.get?_push_of_some _ e) (Nat.le_refl _) (zfY (Heap.get?_push_size _ rfl)),rfl,?_⟩
  exact q _ c' oc vs t _ ctv _ hd hv ⟨_,.inr ⟨fr,rfl⟩,zh,hok.fresh (Nat.le_refl _),rfl⟩
 | some cv =>
  obtain ⟨c',oc,vs,t,q',t0,rfl,hc',hd,hv,hq'⟩:=ht3 lpos cv hf; rw [hq] at hq'; cases hq'
  refine PySem.W.kla_makeFunctionHit (mg:=X.mg) hcl I.ok.glob hg hc C ht1 ht2 hf ⟨bm,ob,b1,b2,hbG,hbP,hbm,b4,b5,b6⟩ fun ctv h' tk hk hsz=>?_
  have I1:=I.kept (t':=tk) hk
  refine ⟨.ref h'.objs.size,_,I1.laid (a:=h'.objs.size) (o:=zcD (.inr (zdS (X.env.qual ++ "<lambda>") params body scope ((X.mg "__name__").getD .none) c' ctv))) (t':=tk) (fun b u e=>Heap.get?_push_of_some _ e) (Nat.le_refl _) (zfY (Heap.get?_push_size _ rfl)),rfl,?_⟩
  exact q _ c' oc vs t _ ctv _ hd hv ⟨_,.inl rfl,hc',I1.hok.fresh (Nat.le_refl _),rfl⟩
end
end L2
namespace L2
open PySem PySem.Spec PyProof.Rows
section
variable {X:Cx}
def zue (qual:Str) (params:Arguments) (body:Expr) (scope:Scope):TE:=fun _ H Q=>∀ (f c:Addr) (oc:Obj) (vs:Array Value) (t:Tok) (pm ctv:Value) (H2:Hp),oc.data=.fields vs→vs[1]?=some (.str qual t)→NewLam H H2 f c (zdS qual params body scope pm c ctv) oc→Q (.ref f) H2
structure LamAt (X:Cx) (qual:Str):Prop where
 ex:∃ c Pt,X.env.code=.ref c∧PySem.W.codeHdIn X.K c Pt=true∧X.base.objs[Pt]?=some (zey qual)
 qu:X.env.qual ++ "<lambda>"=qual
theorem zqq {qual:Str} {params:Arguments} {body:Expr} {scope:Scope} {lpos:Pos} (L:LamAt X qual) (hdef:defaultsOf params X.env=([],[]):=by rfl) (hcl:closureFor scope X.env=pure []:=by rfl):PE X (.Lambda params body scope lpos) (zue qual params body scope):=by
 obtain ⟨⟨c,Pt,hc,hC,hT⟩,rfl⟩:=L
 intro pins s σ H Q I h; exact zmy I hc hC hT hdef hcl h
theorem NewLam.same {H H2:Hp} {f c:Addr} {fo oc:Obj} (n:NewLam H H2 f c fo oc):zaW H H2:=by
 obtain ⟨H1,h1,_,h3,rfl⟩:=n; intro b u e
 rcases h1 with rfl | ⟨h1,rfl⟩
 ·rw [zo (zaL e h3)]; exact e
 ·have e1:upd H c (zcD (.inr oc)) b=some u:=by rw [zo (zaL e h1)]; exact e
  rw [zo (zaL e1 h3)]; exact e1
theorem NewLam.has {H H2:Hp} {f c:Addr} {fo oc:Obj} (n:NewLam H H2 f c fo oc):H2 f=some (zcD (.inr fo))∧H2 c=some (zcD (.inr oc)):=by
 obtain ⟨H1,h1,h2,h3,rfl⟩:=n
 exact ⟨zh,by rw [zo (zaL h2 h3)]; exact h2⟩
def zpI (K:PySem.W.Frag) (X:Cx) (sp:Sp) (t:TA):TE:=fun σ H Q=>t σ H fun vs H1=>∃ l xs,vs=[.ref l]∧SqL K H1 l xs∧xs.length<64∧∀ f c fo oc H2,NewLam H1 H2 f c fo oc →
 zrB (zjQ f c fo oc sp) (fun ks H'=>∃ lt,So.Ord lt∧zls X ks H' lt∧∀ p,H' p=none→Q (.ref p) (upd H' p (.lst (zez lt xs)))) xs [] H2
theorem zlK {K:PySem.W.Frag} {H H':Hp} {a:Addr} {vs:List V} (e:zaW H H') (h:SqL K H a vs):SqL K H' a vs:=by
 rcases h with h | h
 ·rcases h with h | ⟨o,h⟩
  ·exact .inl (.inl (e _ _ h))
  ·exact .inl (.inr ⟨o,e _ _ h⟩)
 ·exact .inr h
theorem zma {k:Nat} {qual:Str} {params:Arguments} {body:Expr} {scope:Scope} {ps:List Str} {sp:Sp} {e:Expr} {t:TA} {p kpos lpos pos:Pos} (L:LamAt X qual)
  (hF:∀ (f c:Addr) (oc:Obj) (vs:Array Value) (t:Tok) (pm ctv:Value),oc.data=.fields vs→vs[1]?=some (.str qual t)→FnOk X.prog X.w X.K X.mg X.base CX0 k f (zkM qual params body scope pm c ctv) ps (zjQ f c (zdS qual params body scope pm c ctv) oc sp))
  (hb:∀ (pm:Value) (c:Addr) (ctv:Value) (us:List Value),us.length=ps.length→bindArgs (zkM qual params body scope pm c ctv) ⟨us,[]⟩=pure (ps.zip us))
  (hr:Room (k+2) X.A) (hm:X.mg "sorted"=none) (ha:PA X [e] t) (hgs:Gl X "sorted":=by rfl)
  (hdef:defaultsOf params X.env=([],[]):=by rfl) (hcl:closureFor scope X.env=pure []:=by rfl)
  (he:backTo pos (starEach [e] X.env)=(false,eval e X.env) :: backTo pos (starEach [] X.env):=by rfl)
  (hplain:(backTo pos (starEach [e] X.env)).any (·.1)=false:=by rfl) :
  PE X (.Call (.Name "sorted" p) [e] [⟨some "key",.Lambda params body scope lpos,kpos⟩] pos) (zpI X.K X sp t):=by
 intro pins s σ H Q I h; refine wpAny_Call_Name_kw (zeh I hgs hm boot_sorted ?_)
 refine callWith_kw (thn (ha pos pins s σ H _ I h) fun us s1 ⟨vs,H1,I1,r,q⟩=>?_) he hplain rfl rfl
 obtain ⟨l,xs,rfl,hl,h64,hk⟩:=q; obtain ⟨u,rfl,ru⟩:=zcU r; cases ru
 refine thn (zon (nm:=some "key") (kpos:=kpos) (zqq (lpos:=lpos) L hdef hcl) zqh pos pins s1 σ H1 (fun zs H2=>∃ (f c:Addr) (oc:Obj) (vs:Array Value) (t:Tok) (pm ctv:Value),zs=[.ref f]∧oc.data=.fields vs∧vs[1]?=some (.str qual t)∧NewLam H1 H2 f c (zdS qual params body scope pm c ctv) oc) I1 ?_) fun ws s2 ⟨zs,H2,I2,rz,f,c,oc,vs,t0,pm,ctv,e1,hd,hv,nl⟩=>?_
 ·intro f c oc vs t0 pm ctv H2 hd hv nl
  exact ⟨f,c,oc,vs,t0,pm,ctv,rfl,hd,hv,nl⟩
 ·subst e1
  obtain ⟨w',rfl,rw'⟩:=zcU rz; cases rw'; exact zgZ (hF f c oc vs t0 pm ctv hd hv) hr (.all (hb pm c ctv)) I2 (zlK nl.same hl) h64 (hk _ _ _ _ _ nl)
end
end L2
namespace PL
open PySem L2
section
variable {P:Program} {w:World} {K:PySem.W.Frag} {mg:Str→Option Value} {base:Heap}
theorem zoV {k:Nat} {f c:Addr} {qual:Str} {params:Arguments} {body:Expr} {scope:Scope} {pm ctv:Value} {oc:Obj} {vs0:Array Value} {t0:Tok} {N ps:List Str} {sp:Sp'}
  (S:FnScope N ps scope) (hd:oc.data=.fields vs0) (hv:vs0[1]?=some (.str qual t0)) (len:∀ ds Q,sp ds Q→ds.length=ps.length)
  (hbody:∀ (A:Around) (outer:List Env) (s:Shared) (H:Hp) (E:XK),Room k (A.deeper (PyProof.Rows.envOfC qual scope s.heap.objs.size f (.ref c)))→∀ ds Q,sp ds Q →
   ∃ t,PE' (ze4 CX0 P w K mg base N qual scope f (.ref c) A outer s H E).nox body t∧t (zca N ds) fun d _=>Q (.val d)) :
  FnOk P w K mg base CX0 (k+1) f (zkM qual params body scope pm c ctv) ps (zjQ f c (zdS qual params body scope pm c ctv) oc (zh7 K sp)):=by
 refine zqV S hd hv (fun vs H Q E h=>?_) fun A outer s H vs Q E hr h=>?_
 ·obtain ⟨Hi,ds,Q',_,dl,h,_⟩:=h
  rw [zg dl]; exact len ds Q' h
 ·obtain ⟨Hi,ds,Q',sb,dl,h,fin⟩:=h
  obtain ⟨t,h1,h2⟩:=hbody A outer s H E hr ds Q' h
  have hpl:ps.length≤N.length:=by have:=congrArg List.length S.pre; rw [List.length_take] at this; omega
  refine ⟨_,h1.h.nox,⟨H,Hi,[]⟩,Hi,zca N ds,_,zea (len ds Q' h) hpl sb dl,h2,?_⟩
  rintro v H' ⟨Hi',d,Γ',s1,g1,dv,q⟩
  exact fin Hi' H' v (.val d) ⟨s1,fun b o e=>g1.keep b o e (by simp),g1.fz,fun b o e=>g1.fro b o e⟩ dv q
end
theorem zgC {K:PySem.W.Frag} {sp:Sp'} {Fin:List V→Hp→Prop} {Hi1 H1:Hp} {f c:Addr} {fo oc:Obj} (hf:H1 f=some (zcD (.inr fo))) (hc:H1 c=some (zcD (.inr oc))):∀ (r:List V) (rd kd:List D) (acc:List V) (accD:List D) (Hi H:Hp),Ext Hi1 H1 Hi H→zbP K Hi r rd→kd.length=rd.length→(∀ (i:Nat) x k,rd[i]?=some x→kd[i]?=some k→sp [x] fun r=>r=.val k)→zbP K Hi acc accD →
  (∀ acc Hi H,Ext Hi1 H1 Hi H→zbP K Hi acc (accD ++ kd)→Fin acc H)→zrB (zjQ f c fo oc (zh7 K sp)) Fin r acc H
 | [],[],kd,acc,accD,Hi,H,ex,_,hl,_,da,fin=>by
  have:kd=[]:=List.length_eq_zero_iff.mp (by simpa using hl)
  subst this
  exact fin acc Hi H ex (by rw [List.append_nil]; exact da)
 | v :: r,d :: rd,k :: kd,acc,accD,Hi,H,ex,.cons d1 t,hl,hsp,da,fin=>by
  refine ⟨ex.h _ _ hf,ex.h _ _ hc,Hi,[d],fun r=>r=.val k,ex.fz,.cons d1 .nil,hsp 0 d k rfl rfl,fun Hi' H' v' r' e2 ro hq=>?_⟩
  subst hq
  refine zgC hf hc r rd kd (acc ++ [v']) (accD ++ [k]) Hi' H' (ex.trans e2) (zbP.mono t e2.hi) (by simpa using hl) (fun i x k h1 h2=>hsp (i+1) x k (by simpa using h1) (by simpa using h2)) (zbe (da.mono e2.hi) (.cons ro .nil)) fun acc Hi H e3 da=>?_
  exact fin acc Hi H e3 (by simpa using da)
 | [],_ :: _,_,_,_,_,_,_,h,_,_,_,_=>nomatch h
 | _ :: _,[],_,_,_,_,_,_,h,_,_,_,_=>nomatch h
 | _ :: _,_ :: _,[],_,_,_,_,_,_,hl,_,_,_=>by simp at hl
theorem NewLam.ext {Hi H H2:Hp} {f c:Addr} {fo oc:Obj} (n:NewLam H H2 f c fo oc) (fz:Fz Hi H):Ext Hi H Hi H2:=by
 obtain ⟨H1,h1,h2,h3,rfl⟩:=n
 have e1:Ext Hi H Hi H1:=by
  rcases h1 with rfl | ⟨h1,rfl⟩
  ·exact Ext.refl fz
  ·exact Ext.newO fz h1 _ fun _ z=>nomatch z
 exact e1.trans (Ext.newO e1.fz h3 _ fun _ z=>nomatch z)
section
variable {X:Cx}
theorem zl4 {k:Nat} {qual:Str} {params:Arguments} {body:Expr} {scope:Scope} {N ps:List Str} {sp:Sp'} {e:Expr} {t:TA'} {p kpos lpos pos:Pos} (L:LamAt X qual) (S:FnScope N ps scope) (len:∀ ds Q,sp ds Q→ds.length=ps.length)
  (hbody:∀ (f c:Addr) (A:Around) (outer:List Env) (s:Shared) (H:Hp) (E:XK),Room k (A.deeper (PyProof.Rows.envOfC qual scope s.heap.objs.size f (.ref c)))→∀ ds Q,sp ds Q →
   ∃ t,PE' (ze4 CX0 X.prog X.w X.K X.mg X.base N qual scope f (.ref c) A outer s H E).nox body t∧t (zca N ds) fun d _=>Q (.val d))
  (hb:∀ (pm:Value) (c:Addr) (ctv:Value) (us:List Value),us.length=ps.length→bindArgs (zkM qual params body scope pm c ctv) ⟨us,[]⟩=pure (ps.zip us))
  (hr:Room (k+3) X.A) (hm:X.mg "sorted"=none) (ha:PA' X [e] t) (hgs:Gl X "sorted":=by rfl)
  (hdef:defaultsOf params X.env=([],[]):=by rfl) (hcl:closureFor scope X.env=pure []:=by rfl)
  (he:backTo pos (starEach [e] X.env)=(false,eval e X.env) :: backTo pos (starEach [] X.env):=by rfl)
  (hplain:(backTo pos (starEach [e] X.env)).any (·.1)=false:=by rfl) :
  PO' X (.Call (.Name "sorted" p) [e] [⟨some "key",.Lambda params body scope lpos,kpos⟩] pos) (zk sp t):=by
 refine ⟨PE.weak (zma (k:=k+1) (sp:=zh7 X.K sp) L (fun f c oc vs t pm ctv hd hv=>zoV S hd hv len (hbody f c)) hb hr hm ha.pa hgs hdef hcl he hplain) ?_⟩
 rintro σ H Q ⟨W,Hi,Γ,Q',g,h,fin⟩
 refine ⟨W,Hi,Γ,_,g,h,?_⟩
 rintro vs H1 Hi1 Γ1 as s1 g1 dl ⟨ds,ks,lt,rfl,h64,hkl,hsp,hkd,q⟩
 obtain ⟨v,rfl,den⟩:=zcW dl; obtain ⟨l,xs,rfl,hl,dx⟩:=den.lstI
 refine ⟨l,xs,rfl,zas g1.sub hl,by rw [zg dx]; exact h64,fun f c fo oc H2 nl=>?_⟩
 have ex0:=PL.NewLam.ext nl g1.fz
 refine zgC nl.has.1 nl.has.2 xs ds ks [] [] Hi1 H2 (Ext.refl ex0.fz) dx hkl hsp .nil fun acc Hi2 H3 ex da=>?_
 rw [List.nil_append] at da
 refine ⟨lt,hkd.ord,?_,fun p hp=>?_⟩
 ·rcases hkd with ⟨is,rfl,rfl⟩ | ⟨ps,rfl,rfl⟩
  ·rw [zgP da]
   exact ztp is
  ·obtain ⟨as,rfl,kt⟩:=zgO da
   exact zto (zgB ex.fz.sub kt)
 ·have g2:=(g1.ext ex0).ext ex
  exact fin p _ Hi2 Γ1 (.lst (zga lt ds)) (s1.trans ex.hi) (g2.ext (Ext.newO g2.fz hp _ (fun _ z=>by cases z))) (New.mk' g2 hp ⟨_,zh,zlL hkd.ord (dx.mono ex.hi)⟩) q
end
end PL
namespace L2
open PySem PySem.Spec PyProof.Rows
def ztF (T:List (Addr × Str)) (a:Addr) (H:Hp):Prop:=∀ b u,H b=some u→(b=a∧∃ o xs,u=.frz o (.lst xs))∨∃ q,T.lookup b=some q∧u=.tbl #[.str q 0]
theorem zkK {P:Program} {w:World} {K:PySem.W.Frag} {mg mb:Str→Option Value} {CX:CXT} {k:Nat} {fa a:Addr} {fd:FuncData} {x:Str} {sp:Sp} {s₁:Shared} {vs:List Value} {ns:List Int} (T:List (Addr × Str))
  (KX:K.In s₁.heap) (hns:s₁.heap.Ns mainGlobals mg) (hb:s₁.heap.Ns builtinsNs mb) (hbb:∀ x:Str,x≠"__name__"→mb x=bootBuiltins x) (hlim:s₁.heap.NoLimit)
  (hbm:∃ bm ob,mg "__builtins__"=some (.ref bm)∧bm≠builtinsNs∧s₁.heap.get? bm=some ob∧ob.cls=.type "module"∧ob.dict=some builtinsNs∧ob.data=.plain) (hg:s₁.gens=#[])
  (ha:s₁.heap.get? a=some { cls:=.type "list",data:=.seq vs.toArray }) (hi:IntsAre vs ns) (hl:ns.length≤sizeLine) (hr:Room k callerA)
  (hT:∀ b q,T.lookup b=some q→s₁.heap.get? b=some (PySem.W.tabObj #[])∧(∃ c,PySem.W.codeHdIn K c b=true)∧K.lookup b=none)
  (F:∀ base:Heap,K.In base→base.Ns mainGlobals mg→(∀ b q,T.lookup b=some q→base.objs[b]?=some (zey q))→FnOk P w K mg base CX k fa fd [x] sp) (hbind:∀ (s:Shared) (u:Value),BindsTo s fd ⟨[u],[]⟩ [(x,u)])
  (hsp:∀ H:Hp,SqL K H a (ns.map V.int)→sp [.ref a] H (fun v _=>v=.bl true) fun _ _ _=>False)
  (hCX:∀ H e s',CX [] H s₁ (fun _ _ _=>False) e s'→False) :
  codeAny (model P w) callerA (.call (.ref fa) ⟨[.ref a],[]⟩) (fun r s'=>r=.ok (.ret (.bool true))∧OldK s₁.heap s'.heap∧s'.os=s₁.os∧AllBare s'.gens) s₁:=by
 have rv:=zf5 hi; have lenV:=hi.length
 have naT:T.lookup a=none:=by
  cases q:T.lookup a with
  | none=>rfl
  | some z =>
   have e:=(hT a z q).1; rw [ha] at e; cases e
 have core:∀ H:Hp,ztF T a H→(∀ b q,T.lookup b=some q→H b=some (.tbl #[.str q 0]))→SqL K H a (ns.map V.int)→HOk P w H s₁.heap→(H a≠none→K.lookup a=none) →
   codeAny (model P w) callerA (.call (.ref fa) ⟨[.ref a],[]⟩) (fun r s'=>r=.ok (.ret (.bool true))∧OldK s₁.heap s'.heap∧s'.os=s₁.os∧AllBare s'.gens) s₁:=by
  intro H hO hO2 hS hok hK
  have base_of:∀ {b:Addr} {o:Obj},s₁.heap.get? b=some o→H b=none→(nrm s₁.heap H).get? b=some o:=fun e n=>zoP e n
  have isL:∀ {b:Addr} {u:HO} {o:Obj},H b=some u→s₁.heap.get? b=some o→(∃ its n,o.data=.seq its n)∨o.data=.fields #[]:=fun {b u o} q e=>by
   rcases hO b u q with ⟨rfl,_⟩ | ⟨z,y,_⟩
   ·rw [ha] at e; cases e
    exact .inl ⟨_,_,rfl⟩
   ·rw [(hT b z y).1] at e; cases e
    exact .inr rfl
  have noA:∀ {b:Addr} {o:Obj},s₁.heap.get? b=some o→(∀ its n,o.data≠.seq its n)→o.data≠.fields #[]→H b=none:=fun {b o} e d1 d2=>by
   cases q:H b with
   | none=>rfl
   | some u =>
    rcases isL q e with ⟨its,n,z⟩ | z
    ·exact absurd z (d1 _ _)
    ·exact absurd z d2
  have nsK:∀ {b:Addr} {m:Str→Option Value},s₁.heap.Ns b m→(nrm s₁.heap H).Ns b m:=fun {b m} ⟨o,es,ep,e,d,r⟩=>⟨o,es,ep,base_of e (noA e (fun _ _ z=>by rw [d] at z; cases z) (fun z=>by rw [d] at z; cases z)),d,r⟩
  have hKb:K.In (nrm s₁.heap H):=fun b o e=>base_of (KX b o e) (by
   cases q:H b with
   | none=>rfl
   | some u =>
    rcases hO b u q with ⟨rfl,_⟩ | ⟨z,y,_⟩
    ·rw [hK (by rw [q]; simp)] at e; cases e
    ·rw [(hT b z y).2.2] at e; cases e)
  have hM:Mod K mg (nrm s₁.heap H):=⟨hKb,nsK hns,⟨mb,nsK hb,hbb⟩,(let ⟨mc,h1,h2⟩:=hlim; ⟨mc,nsK h1,h2⟩),(let ⟨bm,ob,b1,b2,b3,b4,b5,b6⟩:=hbm; ⟨bm,ob,b1,b2,base_of b3 (noA b3 (fun _ _ z=>by rw [b6] at z; cases z) (fun z=>by rw [b6] at z; cases z)),b4,b5,b6⟩)⟩
  have hmk:∀ b q,T.lookup b=some q→(nrm s₁.heap H).objs[b]?=some (zey q):=fun b q e=>by
   rw [zin,(zdx (hT b q e).1).1,hO2 b q e]; rfl
  have e0:Env0 P w K mg (nrm s₁.heap H) callerA [] s₁ H:=⟨rfl,hM,fun b o e=>zqI e,Nat.le_of_eq (zms _ _),trivial,fun b hb=>absurd (show b ∈ ([]:List Addr) from hb) (by simp),hok,.of_eq hg,zmr _ _⟩
  refine codeAny_mono ((F _ hKb (nsK hns) hmk).run callerA [] s₁ H ⟨[.ref a],[]⟩ [.ref a] [.ref a] _ _ hr e0 (hbind s₁ (.ref a)) (.cons rfl .nil) (hsp H hS)) fun r s' h=>?_
  cases r with
  | error e=>exact (hCX H e s' h).elim
  | ok fl =>
   cases fl with
   | next=>exact False.elim h
   | brk=>exact False.elim h
   | cont=>exact False.elim h
   | ret u =>
    obtain ⟨v,H',os,bare,un,hok',r',q⟩:=h
    have q':v=.bl true:=q
    subst q'
    obtain rfl:u=Value.bool true:=r'
    have old:∀ b o,s₁.heap.get? b=some o→asItWas s₁.heap s'.heap b o∧∃ o',s'.heap.get? b=some o':=fun b o e=>by
     cases q:H b with
     | none =>
      have z:=un.keep b o e q (by intro z; exact absurd (show b ∈ ([]:List Addr) from z) (by simp)) (by simp)
      exact ⟨.inl z,o,z⟩
     | some u =>
      rcases hO b u q with ⟨_,ob,xs,rfl⟩ | ⟨z,y,rfl⟩
      ·have z2:=un.frzs b ob _ q
       obtain ⟨e1,_⟩:=hok b _ q; obtain ⟨e2,_⟩:=hok' b _ z2
       rw [e] at e1; cases e1
       exact ⟨.inl e2,o,e2⟩
      ·obtain ⟨h1,⟨c,h2⟩,_⟩:=hT b z y
       rw [e] at h1; cases h1; obtain ⟨more,z2⟩:=un.tbls b _ q; obtain ⟨ts,e2,_⟩:=hok' b _ z2; refine ⟨.inr (.inl ⟨((PySem.W.codeHd_of_K KX h2).tab e).isCodeTable,rfl,#[],ts,rfl,?_⟩),_,e2⟩; rw [e2]; simp
    exact ⟨rfl,⟨fun b o e=>(old b o e).1,fun b o e=>(old b o e).2⟩,os,bare⟩
 have tb_ok:∀ (H:Hp) (b:Addr) (q:Str),T.lookup b=some q→zbG P w H s₁.heap b (.tbl #[.str q 0]):=fun H b q e=>⟨#[],(hT b q e).1,trivial,fun pos cv z=>by cases z⟩
 cases hk:K.lookup a with
 | some o =>
  have e:=KX a o hk; rw [ha] at e; cases e
  refine core (fun b=>(T.lookup b).map fun q=>.tbl #[.str q 0]) (fun b u z=>?_) (fun b q z=>by show (T.lookup b).map _=_; rw [z]; rfl) (.inr ⟨_,vs.toArray,_,hk,rfl,rfl,rfl,by rw [List.size_toArray,lenV]; exact hl,by simpa using rv⟩) (fun b u z=>?_) fun z=>absurd (by show (T.lookup a).map _=none; rw [naT]; rfl) z
  ·have z':(T.lookup b).map (fun q=>HO.tbl #[.str q 0])=some u:=z
   cases y:T.lookup b with
   | none=>rw [y] at z'; cases z'
   | some q=>rw [y] at z'; cases z'; exact .inr ⟨q,rfl,rfl⟩
  ·have z':(T.lookup b).map (fun q=>HO.tbl #[.str q 0])=some u:=z
   cases y:T.lookup b with
   | none=>rw [y] at z'; cases z'
   | some q=>rw [y] at z'; cases z'; exact tb_ok _ b q y
 | none =>
  refine core (fun b=>if b=a then some (.frz { cls:=.type "list",data:=.seq vs.toArray } (.lst (ns.map V.int))) else (T.lookup b).map fun q=>.tbl #[.str q 0]) (fun b u z=>?_) (fun b q z=>?_) (.inl (.inr ⟨{ cls:=.type "list",data:=.seq vs.toArray },if_pos rfl⟩)) (fun b u z=>?_) fun _=>hk
  ·by_cases hb:b=a
   ·have z':=(if_pos hb).symm.trans z
    cases z'; exact .inl ⟨hb,_,_,rfl⟩
   ·have z':=(if_neg hb).symm.trans z
    cases y:T.lookup b with
    | none=>rw [y] at z'; cases z'
    | some q=>rw [y] at z'; cases z'; exact .inr ⟨q,rfl,rfl⟩
  ·have hb:b≠a:=fun y=>by rw [y,naT] at z; cases z
   show (if b=a then _ else _)=_
   rw [if_neg hb,z]; rfl
  ·by_cases hb:b=a
   ·have z':=(if_pos hb).symm.trans z
    cases z'; subst hb
    exact ⟨ha,by rw [List.length_map]; exact hl,vs,_,rv,ha⟩
   ·have z':=(if_neg hb).symm.trans z
    cases y:T.lookup b with
    | none=>rw [y] at z'; cases z'
    | some q=>rw [y] at z'; cases z'; exact tb_ok _ b q y
end L2
namespace PL
open PySem L2
structure LamOf (K:PySem.W.Frag) (mg:Str→Option Value) (base:Heap) (x qual:Str):Prop where
 ex:∃ c Pt,(∀ f fd oc od sl,mg x=some (.ref f)→K.lookup f=some ⟨oc,od,.func fd,sl⟩→fd.code=.ref c)∧PySem.W.codeHdIn K c Pt=true∧base.objs[Pt]?=some (zey qual)
 qu:x ++ ".<locals>." ++ "<lambda>"=qual
section
variable {P:Program} {w:World} {K:PySem.W.Frag} {mg:Str→Option Value} {base:Heap} {k:Nat} {x qual:Str} {ps:List Str} {sp:Sp'}
theorem Df.okL {st:Stmt} {N:List Str} (d:Df K mg x st ps) (lo:LamOf K mg base x qual) (S:FnScope N ps (zd st)) (len:∀ ds Q,sp ds Q→ds.length=ps.length)
  (hbody:∀ (f:Addr) (cdv:Value) (A:Around) (outer:List Env) (s:Shared) (H:Hp) (E:XK),LamAt (ze4 CX0 P w K mg base N x (zd st) f cdv A outer s H E).nox qual→Room k (A.deeper (PyProof.Rows.envOfC x (zd st) s.heap.objs.size f cdv))→∀ ds Q,sp ds Q →
   ∃ t,PSs' (ze4 CX0 P w K mg base N x (zd st) f cdv A outer s H E).nox (zaK st) t∧t { nx:=fun _=>Q (.val .non),rt:=fun r _=>Q r } (zca N ds)):Fn P w K mg base (k+1) x ps sp:=by
 obtain ⟨f,fd,F,b,m⟩:=d.ex; obtain ⟨oc,od,kV,doc,pm,an,cdv,ct,osl,e,lk,hcd⟩:=id F.ex
 obtain ⟨⟨c,Pt,hc,hC,hT⟩,qu⟩:=lo
 have hcd':=hc f fd oc od osl m lk; subst e; refine ⟨f,_,?_,b,F.kp,m,oc,od,osl,lk⟩
 refine zra lk hcd S (fun vs H Q E h=>?_) fun A outer s H vs Q E hr h=>?_
 ·obtain ⟨Hi,ds,Q',_,dl,h,_⟩:=h
  rw [zg dl]; exact len ds Q' h
 ·obtain ⟨Hi,ds,Q',sb,dl,h,fin⟩:=h
  obtain ⟨t,h1,h2⟩:=hbody f cdv A outer s H E ⟨⟨c,Pt,hcd',hC,hT⟩,qu⟩ hr ds Q' h
  have hpl:ps.length≤N.length:=by have:=congrArg List.length S.pre; rw [List.length_take] at this; omega
  refine ⟨_,h1.h.nox,⟨H,Hi,[]⟩,Hi,zca N ds,_,zea (len ds Q' h) hpl sb dl,h2,?_⟩
  refine ⟨fun σ' H' Hi' Γ' s1 g1 q=>?_,fun _ _ _ _ _ _ q=>q.elim,fun _ _ _ _ _ _ q=>q.elim,fun v σ' H' Hi' Γ' r s1 g1 ro q=>?_⟩
  ·exact fin Hi' H' .non (.val .non) ⟨s1,fun b o e=>g1.keep b o e (by simp),g1.fz,fun b o e=>g1.fro b o e⟩ .non q
  ·exact fin Hi' H' v r ⟨s1,fun b o e=>g1.keep b o e (by simp),g1.fz,fun b o e=>g1.fro b o e⟩ ro q
end
theorem zjP (K:PySem.W.Frag) (H:Hp) (a:Addr) (ns:List Int) (hl:ns.length≤63) (hS:SqL K H a (ns.map V.int)):zh7 K ziP [.ref a] H (fun v _=>v=.bl true) (fun _ _ _=>False):=by
 refine ⟨H,[.lst (ns.map .int)],fun r=>r=.val (.bl true),⟨zaW.refl _,fun b xs q=>q⟩,.cons (Den.mkL hS (ziE ns)) .nil,⟨ns,rfl,hl,rfl⟩,?_⟩
 rintro Hi' H' v r ex ro rfl
 exact Den.blI ro
theorem walk_lawT {l:PySem.W.OpenLaw} {k:Nat} {q:Program} {loose:List Str} {XP:(Str→Option Value)→Heap→Prop} {YP:World→Heap→Prop} {d:DefRec} {K:Params→PySem.W.Frag} {x:Str} (T:List (Addr × Str)) (hn:l.most=some 63) (hdf:d.params.defaults=[]) (hr:Room k callerA)
  (hY:∀ (w:World) (h:Heap),YP w h→(K w.params).In h)
  (hYT:∀ (w:World) (h:Heap),YP w h→∀ b q,T.lookup b=some q→h.get? b=some (PySem.W.tabObj #[]))
  (F:∀ (w:World) (mg:Str→Option Value) (fa:Addr) (h:Heap),(K w.params).In h→h.Ns mainGlobals mg→mg d.name=some (.ref fa) →
   (∀ b q,T.lookup b=some q→(∃ c,PySem.W.codeHdIn (K w.params) c b=true)∧(K w.params).lookup b=none) ∧
   ∃ fd:FuncData,(∀ (s:Shared) (u:Value),BindsTo s fd ⟨[u],[]⟩ [(x,u)])∧∀ base:Heap,(K w.params).In base→base.Ns mainGlobals mg→(∀ b q,T.lookup b=some q→base.objs[b]?=some (zey q))→FnOk l.prog w (K w.params) mg base CX0 k fa fd [x] (zh7 (K w.params) ziP)) :
  PySem.W.WalkO q loose XP YP l.row.toRowW d [] (fun f vs=>PySem.call f vs):=by
 refine Att.attach_call hn hdf fun w s₀ s₁ mg mb fa o pm cd doc a vs ns G Y ho hd hcd hmg hobj hints hlen hg=>?_
 have KX:=hY w _ Y; obtain ⟨hT,fd,hb,hF⟩:=F w mg fa _ KX G.T.g hmg
 exact zkK T KX G.T.g G.T.b G.T.builtins G.T.nolimit G.T.bmain hg hobj hints (Nat.le_trans hlen (by decide)) hr (fun b q e=>⟨hYT w _ Y b q e,hT b q e⟩) hF hb (fun H hS=>zjP _ H a ns hlen hS) fun _ _ _ z=>z
end PL
namespace PL
open PySem L2
def zpW (R:D→D→Prop):Sp':=fun ds Q=>∃ d k,ds=[d]∧R d k∧Q (.val k)
theorem zjO (R:D→D→Prop) {x:Str}:∀ ds Q,zpW R ds Q→ds.length=[x].length:=fun _ _ ⟨_,_,e,_⟩=>by rw [e]; rfl
end PL
namespace PL
open PySem L2
section
variable {X:Cx} {pos:Pos}
end
end PL
namespace PySem
section
variable {prog:Program} {w:World} {A:Around} {E:Value→Shared→Prop} {s:Shared} {dd:Addr} {ob:Obj} {ens:Array DictEntry} {tick:Nat}
open PyProof.Rows in
end
end PySem
namespace L2
open PySem PySem.Spec PyProof.Rows PySem.W
section
variable {X:Cx} {pins:List (Addr × Obj)} {σ:St} {H:Hp} {s:Shared} {a:Addr}
end
section
variable {X:Cx} {o e f:Expr} {apos cpos:Pos} {td ty tx:TE}
end
end L2
namespace L2
open PySem PySem.Spec PyProof.Rows PySem.W
section
variable {X:Cx} {pins:List (Addr × Obj)} {σ:St} {H:Hp} {s:Shared} {h':Heap}
end
end L2
namespace PL
open PySem L2
section
variable {X:Cx}
end
end PL
namespace PL
open PySem L2
section
variable {X:Cx}
end
end PL
namespace MS
open PySem L2 PL
theorem zkJ:∀ (N:Nat) (l:List Nat),l.Nodup→(∀ x,x ∈ l→x<N)→l.length≤N
 | 0,l,_,h=>by
  cases l with
  | nil=>simp
  | cons a r=>exact absurd (h a (by simp)) (by omega)
 | N+1,l,hd,h=>by
  by_cases e:N ∈ l
  ·have:=zkJ N (l.erase N) (hd.erase N) fun x hx=>by
    have h1:=h x (List.mem_of_mem_erase hx)
    have h2:x≠N:=fun z=>by rw [z] at hx; exact (hd.not_mem_erase) hx
    omega
   rw [List.length_erase_of_mem e] at this; omega
  ·have:=zkJ N l hd fun x hx=>by
    have h1:=h x hx
    have h2:x≠N:=fun z=>e (z ▸ hx)
    omega
   omega
theorem zrj:∀ (N:Nat) (l:List Nat),l.Nodup→(∀ x,x ∈ l→x<N)→l.length=N→∀ i,i<N→i ∈ l
 | 0,_,_,_,_,i,hi=>absurd hi (by omega)
 | N+1,l,hd,h,hl,i,hi=>by
  by_cases e:N ∈ l
  ·by_cases z:i=N
   ·rw [z]; exact e
   ·refine List.mem_of_mem_erase (zrj N (l.erase N) (hd.erase N) (fun x hx=>?_) (by rw [List.length_erase_of_mem e]; omega) i (by omega))
    have h1:=h x (List.mem_of_mem_erase hx)
    have h2:x≠N:=fun z=>by rw [z] at hx; exact (hd.not_mem_erase) hx
    omega
  ·have:=zkJ N l hd fun x hx=>by
    have h1:=h x hx
    have h2:x≠N:=fun z=>e (z ▸ hx)
    omega
   omega
theorem irr {lt:Nat→Nat→Bool} (o:So.Ord lt) {a:Nat} (h:So.L lt a a):False:=by
 rcases h with h | ⟨_,h⟩
 ·have:=o.asym a a h
  rw [h] at this; cases this
 ·omega
theorem zkZ {lt:Nat→Nat→Bool} (o:So.Ord lt) {N:Nat} (hN:1≤N):(So.run lt (PySem.W.kas_sort N)).toList.Nodup∧(So.run lt (PySem.W.kas_sort N)).toList.length=N∧(∀ i,i ∈ (So.run lt (PySem.W.kas_sort N)).toList↔i<N):=by
 obtain ⟨b,s⟩:=So.sort o hN
 have hl:(So.run lt (PySem.W.kas_sort N)).toList.length=N:=by rw [Array.length_toList]; exact b.size
 have lo:=(zdF o hN).2
 have gg:∀ i (hi:i<(So.run lt (PySem.W.kas_sort N)).toList.length),So.g (So.run lt (PySem.W.kas_sort N)) i=(So.run lt (PySem.W.kas_sort N)).toList[i]:=fun i hi=>by
  rw [So.g_eq]
  have hi':i<(So.run lt (PySem.W.kas_sort N)).size:=by simpa using hi
  rw [Array.getElem?_eq_getElem hi']; simp
 have nd:(So.run lt (PySem.W.kas_sort N)).toList.Nodup:=by
  rw [List.nodup_iff_pairwise_ne,List.pairwise_iff_getElem]; intro i j hi hj hij e
  have z:=s i j hij (by omega)
  rw [gg i hi,gg j hj,e] at z; exact irr o z
 exact ⟨nd,hl,fun i=>⟨lo i,zrj N _ nd lo hl i⟩⟩
section
variable {α:Type} {lt:Nat→Nat→Bool}
def srt (lt:Nat→Nat→Bool) (d:α) (ps:List α):List α:=if ps.length<2 then ps else (So.run lt (PySem.W.kas_sort ps.length)).toList.map fun i=>ps.getD i d
theorem srt_mem (o:So.Ord lt) (d:α) (ps:List α) (q:α):q ∈ srt lt d ps↔q ∈ ps:=by
 unfold srt; split
 ·rfl
 ·rename_i h
  obtain ⟨_,_,m⟩:=zkZ o (N:=ps.length) (by omega)
  rw [List.mem_map]; constructor
  ·rintro ⟨i,hi,rfl⟩
   have hi':=(m i).mp hi; simp only [List.getD,List.getElem?_eq_getElem hi',Option.getD_some]; exact List.getElem_mem hi'
  ·intro hq
   obtain ⟨i,hi,e⟩:=List.getElem_of_mem hq
   exact ⟨i,(m i).mpr hi,by simp only [List.getD,List.getElem?_eq_getElem hi,Option.getD_some]; exact e⟩
end
end MS
namespace M04
open PySem L2 Lb PL MT MS
abbrev Nd:=List (Pl × Pl)
def keys (ns:Nd):List Pl:=ns.map (·.1)
structure NOk (ns:Nd):Prop where
 nil:[] ∈ keys ns
 nd:(keys ns).Nodup
 len:∀ q,q ∈ keys ns→q.length≤8
 up:∀ q,q ∈ keys ns→q.dropLast ∈ keys ns
 lab:∀ q,q ∈ keys ns→∀ l,l ∈ q→zka l=true
 many:ns.length≤60
def zkL (q:Pl):List Nat:=q.getLast?.getD []
def zs3 (l:List Nat):Int × List Nat:=((PySem.intText? (st (cut l))).getD 0,zsb l)
def zuu (q:Pl):Int × List Nat:=zs3 (zkL q)
def zmO (ns:Nd) (p:Pl):List Pl:=(keys ns).filter fun q=>decide (q.length=p.length+1) && decide (q.dropLast=p)
def zo3 (ns:Nd) (p:Pl):List Pl:=srt (ltP ((zmO ns p).map zuu)) [] (zmO ns p)
def zt6 (ns:Nd) (p:Pl):Pl:=(ns.lookup p).getD []
theorem znR {p q:Pl} (h1:q.length=p.length+1) (h2:q.dropLast=p):q=p ++ [zkL q]:=by
 have hne:q≠[]:=fun z=>by rw [z] at h1; simp at h1
 rw [← h2]; unfold zkL; rw [List.getLast?_eq_some_getLast hne]; exact (List.dropLast_concat_getLast hne).symm
theorem zkz {ns:Nd} {p q:Pl}:q ∈ zmO ns p↔q ∈ keys ns∧q=p ++ [zkL q]:=by
 unfold zmO; rw [List.mem_filter]; simp only [Bool.and_eq_true,decide_eq_true_eq]; constructor
 ·rintro ⟨h,h1,h2⟩
  exact ⟨h,znR h1 h2⟩
 ·rintro ⟨h,e⟩
  refine ⟨h,?_,?_⟩
  ·rw [e]; simp
  ·rw [e]; simp
theorem zmv {ns:Nd} {p q:Pl}:q ∈ zo3 ns p↔q ∈ keys ns∧q=p ++ [zkL q]:=by
 unfold zo3; rw [srt_mem (zqz _),zkz]
mutual
def zrU:Tr→Pl→List Pl
 | .node _ _ ks,p=>p :: zgm ks p
def zgm:List Tr→Pl→List Pl
 | [],_=>[]
 | k :: ks,p=>zrU k (p ++ [k.lab]) ++ zgm ks p
end
theorem zl2 (p:Pl):∀ ks:List Tr,zgm ks p=ks.flatMap fun k=>zrU k (p ++ [k.lab])
 | []=>by simp [zgm]
 | k :: ks=>by simp [zgm,zl2 p ks]
theorem zqX {ns:Nd} (o:NOk ns) {p:Pl} (h:8≤p.length):zo3 ns p=[]:=by
 rw [List.eq_nil_iff_forall_not_mem]; intro q hq; obtain ⟨h1,h2⟩:=zmv.mp hq
 have:=o.len q h1
 rw [h2] at this
 simp at this
 omega
end M04
namespace M70
open PySem L2 Lb PL MT MS M04
open PySem.NumText (digitsVal)
def klt (p q:Int × List Nat):Prop:=p.1<q.1∨(p.1=q.1∧p.2<q.2)
theorem zoX (p:Int × List Nat):¬ klt p p:=by
 rintro (h | ⟨_,h⟩)
 ·omega
 ·exact List.lt_irrefl _ h
def Ris (L:List (List Nat)):Prop:=L.Pairwise fun a b=>klt (zs3 a) (zs3 b)
theorem Ris.nodup {L:List (List Nat)} (h:Ris L):L.Nodup:=by
 rw [List.nodup_iff_pairwise_ne]; refine List.Pairwise.imp ?_ h; intro a b hk e; rw [e] at hk; exact zoX _ hk
end M70
namespace M71
open PySem L2 Lb PL MT MS M04 M70
theorem zrW (l:List Nat) (ws:Pl) (ks:List Tr):(Tr.node l ws ks).kds=ks:=rfl
def zet (ks:List Tr):List (List Nat):=ks.map Tr.lab
theorem zno {l:List Nat} {ks:List Tr} {k:Tr} (h:zbg l ks=some k):k ∈ ks∧k.lab=l:=by
 unfold zbg at h
 exact ⟨List.mem_of_find?_eq_some h,by simpa using List.find?_some h⟩
theorem zoW {l:List Nat} {ks:List Tr}:zbg l ks=none↔l ∉ zet ks:=by
 unfold zbg zet; rw [List.find?_eq_none,List.mem_map]; constructor
 ·rintro h ⟨k,hk,e⟩
  exact h k hk (by simpa using e)
 ·intro h k hk e
  exact h ⟨k,hk,by simpa using e⟩
theorem zfO:∀ {ks:List Tr} {k:Tr},(zet ks).Nodup→k ∈ ks→zbg k.lab ks=some k
 | k' :: ks,k,hn,h=>by
  unfold zet at hn; rw [List.map_cons,List.nodup_cons] at hn
  rcases List.mem_cons.mp h with rfl | h
  ·simp [zbg]
  ·have ne:¬ k'.lab=k.lab:=fun e=>hn.1 (by rw [e]; exact List.mem_map_of_mem h)
   have:=zfO (ks:=ks) hn.2 h
   unfold zbg at this ⊢
   rw [List.find?_cons]; simp [ne,this]
def pick (L:List (List Nat)) (acc:List Tr):List Tr:=L.filterMap fun l=>zbg l acc
inductive Wf (c:Nat):Nat→Tr→Prop where
 | mk {n:Nat} {l:List Nat} {ws:Pl} {ks:List Tr} (hk:∀ k ∈ ks,Wf c n k) (hp:∀ k ∈ ks,zka k.lab=true) (hn:Ris (zet ks)) (hl:ks.length≤c+1) (hw:ws.length≤3 * c+3):Wf c (n+1) (.node l ws ks)
theorem Wf.kid {c n:Nat} {t:Tr} (h:Wf c (n+1) t):∀ k ∈ t.kds,Wf c n k:=by cases h; assumption
theorem Wf.ris {c n:Nat} {t:Tr} (h:Wf c n t):Ris (zet t.kds):=by cases h; assumption
theorem Wf.nd {c n:Nat} {t:Tr} (h:Wf c n t):(zet t.kds).Nodup:=h.ris.nodup
theorem Wf.kw {c n:Nat} {t k:Tr} {l:List Nat} (h:Wf c (n+1) t) (e:zbg l t.kds=some k):Wf c n k:=h.kid k (zno e).1
theorem zcY {α:Type} {f g:α→Nat}:∀ {l:List α},(∀ x ∈ l,f x=g x)→(l.map f).sum=(l.map g).sum
 | [],_=>rfl
 | x :: l,h=>by
  rw [List.map_cons,List.map_cons,List.sum_cons,List.sum_cons,h x List.mem_cons_self,zcY fun y hy=>h y (List.mem_cons_of_mem _ hy)]
mutual
def cnt:Tr→Nat
 | .node _ _ ks=>1+znG ks
def znG:List Tr→Nat
 | []=>0
 | k :: ks=>cnt k+znG ks
end
theorem zpn:∀ ks:List Tr,znG ks=(ks.map cnt).sum
 | []=>by simp [znG]
 | k :: ks=>by simp [znG,zpn ks]
mutual
theorem zl3:∀ (t:Tr) (p:Pl),(zrU t p).length=cnt t
 | .node l ws ks,p=>by simp only [zrU,cnt,List.length_cons,zgl ks p]; omega
theorem zgl:∀ (ks:List Tr) (p:Pl),(zgm ks p).length=znG ks
 | [],p=>by simp [zgm,znG]
 | k :: ks,p=>by simp only [zgm,znG,List.length_append,zl3 k _,zgl ks p]
end
structure KidsOk (ks ks':List Tr):Prop where
 ris:Ris (zet ks')
 mem:∀ k ∈ ks',k ∈ ks
 len:ks'.length≤ks.length
 cnt:(ks'.map cnt).sum≤(ks.map cnt).sum
theorem KidsOk.nd {ks ks':List Tr} (h:KidsOk ks ks'):(zet ks').Nodup:=h.ris.nodup
def made:Tr→Pl→Pl→List Tr→Tr
 | t,[],ws,ks=>.node t.lab ws ks
 | t,l :: p,ws,ks=>.node t.lab t.wds (t.kds.map fun k=>if k.lab=l then made k p ws ks else k)
def far:Nat→Tr→Tr→Nat
 | 0,_,_=>0
 | n+1,t,u=>(if t.wds=u.wds then 0 else 1)+(t.kds.map fun k=>match zbg k.lab u.kds with
   | none=>1
   | some k'=>min 2 (far n k k')).sum+(u.kds.map fun k=>match zbg k.lab t.kds with
   | none=>1
   | some _=>0).sum
def kd (n:Nat) (t u:Tr) (l:List Nat):Nat:=match zbg l t.kds,zbg l u.kds with
 | some k,some k'=>min 2 (far n k k')
 | _,_=>1
theorem zf8 {f:List Nat→Nat}:∀ {l:List (List Nat)} {a:List Nat},a ∈ l→(l.map f).sum=f a+((l.erase a).map f).sum
 | b :: l,a,h=>by
  by_cases e:b=a
  ·subst e
   simp
  ·rw [List.erase_cons_tail (by simpa using e)]
   rcases List.mem_cons.mp h with z | z
   ·exact absurd z.symm e
   ·rw [List.map_cons,List.sum_cons,List.map_cons,List.sum_cons,zf8 z]
    omega
theorem zjM {f:List Nat→Nat}:∀ {l m:List (List Nat)},l.Nodup→m.Nodup→(∀ x,x ∈ l↔x ∈ m)→(l.map f).sum=(m.map f).sum
 | [],m,_,_,h=>by
  cases m with
  | nil=>rfl
  | cons b m=>exact absurd ((h b).mpr List.mem_cons_self) (by simp)
 | a :: l,m,hl,hm,h=>by
  have ha:a ∈ m:=(h a).mp List.mem_cons_self
  rw [List.nodup_cons] at hl
  rw [zf8 ha,List.map_cons,List.sum_cons,zjM hl.2 (hm.erase a) fun x=>?_]
  rw [List.Nodup.mem_erase_iff hm]; constructor
  ·intro hx
   exact ⟨fun z=>hl.1 (z ▸ hx),(h x).mp (List.mem_cons_of_mem _ hx)⟩
  ·rintro ⟨h1,h2⟩
   rcases List.mem_cons.mp ((h x).mpr h2) with z | z
   ·exact absurd z h1
   ·exact z
def uni (t u:Tr):List (List Nat):=zet t.kds ++ (zet u.kds).filter fun l=>decide (l ∉ zet t.kds)
theorem zjG {t u:Tr} {l:List Nat}:l ∈ uni t u↔l ∈ zet t.kds∨l ∈ zet u.kds:=by
 unfold uni; rw [List.mem_append,List.mem_filter]; simp only [decide_eq_true_eq]
 by_cases h:l ∈ zet t.kds
 ·simp [h]
 ·simp [h]
theorem zf6 {t u:Tr} (h1:(zet t.kds).Nodup) (h2:(zet u.kds).Nodup):(uni t u).Nodup:=by
 unfold uni; rw [List.nodup_append]
 refine ⟨h1,h2.sublist List.filter_sublist,fun a ha b hb e=>?_⟩
 have:=(List.mem_filter.mp hb).2
 simp only [decide_eq_true_eq] at this; exact this (e ▸ ha)
theorem zfe {f:List Nat→Nat} {p:List Nat→Bool}:∀ l:List (List Nat),((l.filter p).map f).sum=(l.map fun x=>if p x=true then f x else 0).sum
 | []=>rfl
 | a :: l=>by
  rw [List.filter_cons,List.map_cons,List.sum_cons,← zfe l]
  cases p a <;> simp
theorem zk0 {n:Nat} {t u:Tr} (h1:(zet t.kds).Nodup) (h2:(zet u.kds).Nodup):far (n+1) t u=(if t.wds=u.wds then 0 else 1)+((uni t u).map (kd n t u)).sum:=by
 unfold uni; rw [List.map_append,List.sum_append,zfe]; unfold zet; rw [List.map_map,List.map_map]; simp only [far]; rw [Nat.add_assoc]
 congr 1
 congr 1
 ·refine zcY fun k hk=>?_
  simp only [Function.comp,kd,zfO h1 hk]
  cases zbg k.lab u.kds <;> rfl
 ·refine zcY fun k hk=>?_
  simp only [Function.comp]
  cases e:zbg k.lab t.kds with
  | none =>
   have:k.lab ∉ List.map Tr.lab t.kds:=zoW.mp e
   simp [this,kd,e]
  | some k' =>
   have:k.lab ∈ List.map Tr.lab t.kds:=by
    have:=zno e
    rw [← this.2]; exact List.mem_map_of_mem this.1
   simp [this]
theorem zjn {n:Nat} {t u:Tr} {L:List (List Nat)} (h1:(zet t.kds).Nodup) (h2:(zet u.kds).Nodup) (hL:L.Nodup) (hm:∀ l,l ∈ L↔l ∈ zet t.kds∨l ∈ zet u.kds):far (n+1) t u=(if t.wds=u.wds then 0 else 1)+(L.map (kd n t u)).sum:=by
 rw [zk0 h1 h2,zjM (zf6 h1 h2) hL fun x=>by rw [zjG,hm]]
theorem zmX {c d:Nat}:∀ {n:Nat} {t u:Tr},Wf c n t→Wf d n u→far n t u=far n u t
 | 0,t,u,h,_=>by cases h
 | n+1,t,u,h1,h2=>by
  rw [zk0 h1.nd h2.nd,zjn h2.nd h1.nd (zf6 h1.nd h2.nd) fun l=>by rw [zjG,Or.comm]]
  congr 1
  ·by_cases e:t.wds=u.wds
   ·rw [if_pos e,if_pos e.symm]
   ·rw [if_neg e,if_neg (fun z=>e z.symm)]
  ·congr 1
   refine List.map_congr_left fun l _=>?_
   unfold kd
   cases e1:zbg l t.kds with
   | none=>cases zbg l u.kds <;> rfl
   | some k=>cases e2:zbg l u.kds with
    | none=>rfl
    | some k'=>simp only [zmX (h1.kw e1) (h2.kw e2)]
theorem zmY {c:Nat}:∀ {n:Nat} {t:Tr},Wf c n t→far n t t=0
 | 0,t,h=>by cases h
 | n+1,t,h=>by
  simp only [far,if_true,Nat.zero_add]
  have s1:(t.kds.map fun k=>match zbg k.lab t.kds with
   | none=>1
   | some k'=>min 2 (far n k k')).sum=(t.kds.map fun _=>0).sum:=zcY fun k hk=>by
    simp only [zfO h.nd hk,zmY (h.kid k hk)]; rfl
  have s2:(t.kds.map fun k=>match zbg k.lab t.kds with
   | none=>1
   | some _=>0).sum=(t.kds.map fun _=>0).sum:=zcY fun k hk=>by
    simp only [zfO h.nd hk]
  rw [s1,s2]
  have:∀ l:List Tr,(l.map fun _=>0).sum=0:=fun l=>by induction l <;> simp_all
  rw [this]
end M71
namespace L2
open PySem PySem.Spec PyProof.Rows
section
variable {X:Cx}
end
end L2
namespace PL
open PySem L2
section
variable {X:Cx}
end
end PL
namespace M71
open PySem L2 Lb PL MT MS M04 M70
end M71
namespace PL
open PySem L2
end PL
namespace PL
open PySem L2
section
variable {K:PySem.W.Frag} {n:Nat} {W:Wd} {Hi H:Hp} {Γ:Sts} {σ:St} {i:Nat} {o:OD} {b:Addr}
theorem znC:Hol K fun z=>z:=fun b Hi v o h dv=>by
 cases dv.adrI
 exact h
theorem Good.ownBk (g:Good K n W Hi Γ σ H) (hi:i<n) (e:Γ[i]?=some (.own o)):∃ a,σ[i]?=some (some (.ref a))∧W.H₀ a=none∧Good K n W Hi (Γ.set i (.bk (fun z=>z) a o)) σ H:=by
 obtain ⟨a,h1,h2,h3,h4⟩:=g.own i _ e
 have h1':σ[i]?=some (some (.ref a)):=by
  unfold adr at h1; rw [if_pos hi] at h1; exact zd5 h1
 refine ⟨a,h1',h3 hi,g.len,g.fz,g.keep,g.there,g.fro,fun j d' q=>?_,fun j o2 q=>?_,fun j k o o' c q1 q2 p1 p2=>?_,fun j d' c xs q=>?_⟩
 ·rcases zaI q with ⟨_,z⟩ | ⟨_,z⟩
  ·cases z
  ·exact g.val j d' z
 ·rcases zaI q with ⟨_,z⟩ | ⟨_,z⟩
  ·cases z
  ·exact g.own j o2 z
 ·rcases zaI q1 with ⟨_,z⟩ | ⟨_,z⟩
  ·cases z
  ·rcases zaI q2 with ⟨_,y⟩ | ⟨_,y⟩
   ·cases y
   ·exact g.apart j k o o' c z y p1 p2
 ·rcases zaI q with ⟨ej,z⟩ | ⟨hj,z⟩
  ·cases z
   subst ej
   refine ⟨⟨_,h1',.adr a⟩,znC,h2,fun _=>h3 hi,h4,fun k d2 ys q=>?_,fun k o' q w=>?_⟩
   ·rcases zaI q with ⟨z,_⟩ | ⟨_,y⟩
    ·exact z
    ·exact absurd h1 ((g.bk k _ _ _ y).ne _ _ e)
   ·rcases zaI q with ⟨_,y⟩ | ⟨hk,y⟩
    ·cases y
    ·exact hk (g.apart k _ _ _ _ y e w h1)
  ·obtain ⟨p0,p1,p2,p3,p4,p5,p6⟩:=g.bk j d' c _ z
   refine ⟨p0,p1,p2,p3,p4,fun k d2 ys q=>?_,fun k o' q=>?_⟩
   ·rcases zaI q with ⟨_,y⟩ | ⟨_,y⟩
    ·cases y
     exact absurd h1 (p6 _ _ e)
    ·exact p5 k _ _ y
   ·rcases zaI q with ⟨_,y⟩ | ⟨_,y⟩
    ·cases y
    ·exact p6 k o' y
theorem Good.bkOwn (g:Good K n W Hi Γ σ H) (hi:i<n) (e:Γ[i]?=some (.bk (fun z=>z) b o)) (h0:W.H₀ b=none):Good K n W Hi (Γ.set i (.own o)) σ H:=by
 have B:=g.bk i _ _ _ e
 have ai:adr n W σ i=some b:=by
  obtain ⟨v,v1,v2⟩:=B.val
  cases v2.adrI
  unfold adr; rw [if_pos hi,v1]; rfl
 refine ⟨g.len,g.fz,g.keep,g.there,g.fro,fun j d' q=>?_,fun j o2 q=>?_,fun j k o o' c q1 q2 p1 p2=>?_,fun j d' c xs q=>?_⟩
 ·rcases zaI q with ⟨_,z⟩ | ⟨_,z⟩
  ·cases z
  ·exact g.val j d' z
 ·rcases zaI q with ⟨ej,z⟩ | ⟨_,z⟩
  ·cases z
   subst ej
   exact ⟨b,ai,B.hi,fun _=>h0,B.at_⟩
  ·exact g.own j o2 z
 ·rcases zaI q1 with ⟨e1,z⟩ | ⟨h1,z⟩
  ·rcases zaI q2 with ⟨e2,y⟩ | ⟨_,y⟩
   ·rw [e1,e2]
   ·rw [e1,ai] at p1
    cases p1; exact absurd p2 (B.ne k o' y)
  ·rcases zaI q2 with ⟨e2,y⟩ | ⟨_,y⟩
   ·rw [e2,ai] at p2
    cases p2; exact absurd p1 (B.ne j o z)
   ·exact g.apart j k o o' c z y p1 p2
 ·rcases zaI q with ⟨_,z⟩ | ⟨hj,z⟩
  ·cases z
  ·obtain ⟨p0,p1,p2,p3,p4,p5,p6⟩:=g.bk j d' c _ z
   refine ⟨p0,p1,p2,p3,p4,fun k d2 ys q=>?_,fun k o' q w=>?_⟩
   ·rcases zaI q with ⟨_,y⟩ | ⟨_,y⟩
    ·cases y
    ·exact p5 k _ _ y
   ·rcases zaI q with ⟨ek,y⟩ | ⟨_,y⟩
    ·rw [ek,ai] at w
     cases w; exact hj (B.one j _ _ z)
    ·exact p6 k o' y w
end
section
variable {X:Cx}
end
end PL
namespace PL
open PySem L2
theorem ziH:bootBuiltins "abs"=some (.builtin "abs"):=by decide +kernel
section
variable {X:Cx}
def ztU:RC':=fun ds Q=>∃ i,ds=[.int i]∧Q (.int (if i<0 then -i else i))
theorem zrt:Cal X (.builtin "abs") ztU:=⟨_,zm6,by
 rintro Hi H vs ds Q Q2 s dl ⟨i,rfl,q⟩ fin
 obtain ⟨v,rfl,den⟩:=zcW dl
 exact ⟨i,by rw [den.intI],fin Hi H _ _ (Ext.refl s) (.int _) q⟩⟩
@[simp] theorem zlZ {i:Int} {Q:D→Prop}:ztU [.int i] Q↔Q (.int (if i<0 then -i else i)):=by
 constructor
 ·rintro ⟨j,e,q⟩
  cases e; exact q
 ·exact fun q=>⟨i,rfl,q⟩
end
end PL
namespace PL
open PySem L2
section
variable {X:Cx}
end
end PL
namespace PL
open PySem L2
section
variable {X:Cx}
def brN (i:Nat) (b:Addr) (N:Ends'):Ends':={ nx:=fun Γ1=>∃ o',Γ1[i]?=some (.bk (fun z=>z) b o')∧N.nx (Γ1.set i (.own o')),rt:=N.rt,bk:=fun Γ1=>∃ o',Γ1[i]?=some (.bk (fun z=>z) b o')∧N.bk (Γ1.set i (.own o')),ct:=fun Γ1=>∃ o',Γ1[i]?=some (.bk (fun z=>z) b o')∧N.ct (Γ1.set i (.own o')) }
def tBr (n i:Nat) (t:TS'):TS':=fun N Γ=>i<n∧∃ o,Γ[i]?=some (.own o)∧∀ b,t (brN i b N) (Γ.set i (.bk (fun z=>z) b o))
theorem zsJ (i:Nat) {s:Stmt} {t:TS'} (h:PS' X s t):PS' X s (tBr X.N.length i t):=by
 refine ⟨PS.weak h.h ?_⟩
 rintro N2 σ H ⟨W,Hi,Γ,N,g,⟨hi,o,e,q⟩,l⟩
 obtain ⟨b,hσ,h0,g1⟩:=g.ownBk hi e; refine ⟨W,Hi,_,_,g1,q b,?_⟩
 exact ⟨fun σ' H' Hi' Γ' s1 g' ⟨o',e',q'⟩=>l.nx σ' H' Hi' _ s1 (g'.bkOwn hi e' h0) q',fun σ' H' Hi' Γ' s1 g' ⟨o',e',q'⟩=>l.bk σ' H' Hi' _ s1 (g'.bkOwn hi e' h0) q',fun σ' H' Hi' Γ' s1 g' ⟨o',e',q'⟩=>l.ct σ' H' Hi' _ s1 (g'.bkOwn hi e' h0) q',fun v σ' H' Hi' Γ' r s1 g' ro q'=>l.rt v σ' H' Hi' Γ' r s1 g' ro q'⟩
theorem zru {i:Nat} {b:Addr} {N N':Ends'} (h:N.le N'):(brN i b N).le (brN i b N'):=⟨fun _ ⟨o',e',z⟩=>⟨o',e',h.nx _ z⟩,h.rt,fun _ ⟨o',e',z⟩=>⟨o',e',h.bk _ z⟩,fun _ ⟨o',e',z⟩=>⟨o',e',h.ct _ z⟩⟩
instance {n i:Nat} {t:TS'} [MS t]:MS (tBr n i t):=⟨fun N N' Γ h ⟨a,o,e,q⟩=>⟨a,o,e,fun b=>MS.mono (t:=t) _ _ _ (zru h) (q b)⟩⟩
end
abbrev SpM:=OD→List D→(D→OD→Prop)→Prop
def zpT (K:PySem.W.Frag) (j:Nat) (sp:SpM):Sp:=fun vs H Q2 _=>∃ Hi b o v1 v2 ds Q,vs=v1 ++ .ref b :: v2∧v1.length=j∧zbP K Hi (v1 ++ v2) ds∧Fz Hi H∧Hi b=none∧zbN K Hi H b o∧sp o ds Q ∧
 ∀ Hi' H' v' r o',ExtB b Hi H Hi' H'→Den K Hi' v' r→zbN K Hi' H' b o'→Q r o'→Q2 v' H'
structure FnM (P:Program) (w:World) (K:PySem.W.Frag) (mg:Str→Option Value) (base:Heap) (k:Nat) (x:Str) (ps:List Str) (j:Nat) (sp:SpM):Prop where
 ex:∃ f fd,FnOk P w K mg base CX0 k f fd ps (zpT K j sp)∧zb1 K fd ps []∧PySem.W.keepIn K (.ref f)=true∧mg x=some (.ref f)
class MSpM (sp:SpM):Prop where
 mono:∀ o ds Q Q',(∀ r o',Q r o'→Q' r o')→sp o ds Q→sp o ds Q'
abbrev TM':=Sts→(List D→List D→Sts→Prop)→Prop
def zt8 (K:PySem.W.Frag) (n i j:Nat) (t:TM'):TA:=fun σ H Q2=>∃ W Hi Γ Q,Good K n W Hi Γ σ H∧t Γ Q∧∀ vs H' Hi' Γ' d1 d2 b v1 v2,zaW Hi Hi'→Good K n W Hi' Γ' σ H'→vs=v1 ++ .ref b :: v2→v1.length=j→σ[i]?=some (some (.ref b))→zbP K Hi' v1 d1→zbP K Hi' v2 d2→Q d1 d2 Γ'→Q2 vs H'
structure PM' (X:Cx) (i j:Nat) (es:List Expr) (t:TM'):Prop where
 pa:PA X es (zt8 X.K X.N.length i j t)
 pl:zch es=true
class MM (t:TM'):Prop where
 mono:∀ Γ Q Q',(∀ d1 d2 Γ',Q d1 d2 Γ'→Q' d1 d2 Γ')→t Γ Q→t Γ Q'
section
variable {X:Cx}
def zw (i:Nat) (t:TA'):TM':=fun Γ Q=>(∃ b o,Γ[i]?=some (.bk (fun z=>z) b o))∧t Γ fun ds Γ1=>Q [] ds Γ1
theorem zke (i:Nat) {y:Str} {q:Pos} {es:List Expr} {t:TA'} (ha:PA' X es t) (hN:X.N[i]?=some y:=by rfl) (hv:Vis X.env.scope y:=by first | exact Or.inl rfl | exact Or.inr (Or.inl rfl) | exact Or.inr (Or.inr rfl)) (hd:(y == ("__debug__":Str))=false:=by decide)
  (hcd:(y == ("__classdict__":Str))=false:=by decide):PM' X i 0 (.Name y q :: es) (zw i t):=by
 refine ⟨PA.weak (zeJ (zcq (i:=i) (pos:=q) hN hv hd hcd) ha.pa (zaP rfl)) ?_,by unfold zch; rw [ha.pl]; rfl⟩
 rintro σ H Q ⟨W,Hi,Γ,Q',g,⟨⟨b,o,e⟩,h⟩,fin⟩
 obtain ⟨v,hv',dv⟩:=(g.bk i _ _ _ e).val
 cases dv.adrI
 refine ⟨.ref b,hv',W,Hi,Γ,_,g,h,?_⟩; intro vs H1 Hi1 Γ1 ds s1 g1 dl q1; exact fin _ H1 Hi1 Γ1 [] ds b [] vs s1 g1 rfl rfl hv' .nil dl q1
instance {i:Nat} {t:TA'} [MA t]:MM (zw i t):=⟨fun Γ _ _ h ⟨a,q⟩=>⟨a,MA.mono (t:=t) Γ _ _ (fun _ _ z=>h _ _ _ z) q⟩⟩
def zC (i:Nat) (sp:SpM) (t:TM'):TE':=fun Γ Q=>t Γ fun d1 d2 Γ1=>∃ b o,Γ1[i]?=some (.bk (fun z=>z) b o)∧sp o (d1 ++ d2) fun r o'=>Q r (Γ1.set i (.bk (fun z=>z) b o'))
theorem zih {i j k:Nat} {x:Str} {ps:List Str} {sp:SpM} {es:List Expr} {t:TM'} {p pos:Pos} {e:Expr} (h:FnM X.prog X.w X.K X.mg X.base k x ps j sp) (hr:Room k X.A) (ha:PM' X i j (e :: es) t) (hg:Gl X x:=by rfl) (hdb:(x == ("__debug__":Str))=false:=by decide) :
  PE' X (.Call (.Name x p) (e :: es) [] pos) (zC i sp t):=by
 obtain ⟨f,fd,F,bd,hk,hm⟩:=h.ex; obtain ⟨p1,p2⟩:=zX ha.pl; refine ⟨PE.weak (zeG (E:=E0) (dvs:=[]) F hr hg hm hk bd .nil ze7 ha.pa hdb (zaP p1) (zaR p2)) ?_⟩
 rintro σ H Q ⟨W,Hi,Γ,Q',g,h,fin⟩
 refine ⟨W,Hi,Γ,_,g,h,?_⟩
 rintro vs H1 Hi1 Γ1 d1 d2 b' v1 v2 s1 g1 ev hj hb dl1 dl2 ⟨b,o,e1,q1⟩
 have B:=g1.bk i _ b o e1; obtain ⟨v,hv1,dv⟩:=B.val
 cases dv.adrI
 rw [hb] at hv1; cases hv1; rw [List.append_nil]; refine ⟨Hi1,b',o,v1,v2,d1 ++ d2,_,ev,hj,zbe dl1 dl2,g1.fz,B.hi,B.at_,q1,?_⟩; intro Hi2 H2 v' r o' ex den at_ q2; exact fin v' H2 ⟨Hi2,r,_,s1.trans ex.hi,g1.extB e1 ex at_,den,q2⟩
instance {i:Nat} {sp:SpM} {t:TM'} [MSpM sp] [MM t]:ME (zC i sp t):=⟨fun Γ _ _ h q=>MM.mono (t:=t) Γ _ _ (fun _ _ _ ⟨b,o,e,z⟩=>⟨b,o,e,MSpM.mono (sp:=sp) _ _ _ _ (fun _ _ w=>h _ _ w) z⟩) q⟩
end
def zq (N:List Str) (j:Nat) (b:Addr) (o:OD) (ds:List D):Sts:=(ds.take j).map .val ++ .bk (fun z=>z) b o :: ((ds.drop j).map .val ++ List.replicate (N.length-(ds.length+1)) .emp)
theorem zb8 {N:List Str} {j:Nat} {b:Addr} {o:OD} {ds:List D} (hj:j≤ds.length) {k:Nat} {s:Slot} (e:(zq N j b o ds)[k]?=some s):(k=j∧s=.bk (fun z=>z) b o)∨s=.emp∨∃ d,s=.val d∧((k<j∧ds[k]?=some d)∨(j<k∧ds[k-1]?=some d)):=by
 unfold zq at e
 have hl:((ds.take j).map Slot.val).length=j:=by rw [List.length_map,List.length_take]; omega
 rcases Nat.lt_trichotomy k j with h | h | h
 ·rw [List.getElem?_append_left (by rw [hl]; exact h),List.getElem?_map,List.getElem?_take,if_pos h] at e
  obtain ⟨d,hd,rfl⟩:=Option.map_eq_some_iff.mp e; exact .inr (.inr ⟨d,rfl,.inl ⟨h,hd⟩⟩)
 ·rw [List.getElem?_append_right (by rw [hl]; omega),hl,h,Nat.sub_self] at e
  exact .inl ⟨h,(Option.some.inj e).symm⟩
 ·rw [List.getElem?_append_right (by rw [hl]; omega),hl] at e
  obtain ⟨m,hm⟩:∃ m,k-j=m+1:=⟨k-j-1,by omega⟩
  rw [hm,List.getElem?_cons_succ] at e
  by_cases hlt:m<(ds.drop j).length
  ·rw [List.getElem?_append_left (by rw [List.length_map]; exact hlt),List.getElem?_map] at e
   obtain ⟨d,hd,rfl⟩:=Option.map_eq_some_iff.mp e
   rw [List.getElem?_drop,show j+m=k-1 by omega] at hd
   exact .inr (.inr ⟨d,rfl,.inr ⟨h,hd⟩⟩)
  ·rw [List.getElem?_append_right (by rw [List.length_map]; omega),List.getElem?_replicate] at e
   split at e
   ·exact .inr (.inl (Option.some.inj e).symm)
   ·cases e
theorem zhO {K:PySem.W.Frag} {N ps:List Str} {v1 v2:List V} {j:Nat} {b:Addr} {o:OD} {ds:List D} {Hi H:Hp} (hlen:ds.length+1=ps.length) (hpl:ps.length≤N.length) (hj:v1.length=j) (sb:Fz Hi H) (hb:Hi b=none) (at_:zbN K Hi H b o) (dl:zbP K Hi (v1 ++ v2) ds) :
  Good K N.length ⟨H,Hi,[b]⟩ Hi (zq N j b o ds) (L2.start N (v1 ++ .ref b :: v2)) H:=by
 have hvl:=zg dl; rw [List.length_append] at hvl
 have hjd:j≤ds.length:=by omega
 have st:∀ k:Nat,k<ds.length+1→(L2.start N (v1 ++ .ref b :: v2))[k]?=((v1 ++ .ref b :: v2)[k]?).map some:=fun k hk=>by
  unfold L2.start
  rw [List.getElem?_append_left (by rw [List.length_map,List.length_append,List.length_cons]; omega),List.getElem?_map]
 refine ⟨?_,sb,fun a o e _=>e,fun a o e=>⟨o,e⟩,fun a o e=>rfl,fun k d' e=>?_,fun k o' e=>?_,fun k l o1 o2 a e=>?_,fun k d' b' o' e=>?_⟩
 ·unfold L2.start
  rw [List.length_append,List.length_map,List.length_replicate,List.length_append,List.length_cons]; omega
 ·rcases zb8 hjd e with ⟨_,z⟩ | z | ⟨d2,z,h⟩
  ·cases z
  ·cases z
  ·cases z
   rcases h with ⟨hk,hd⟩ | ⟨hk,hd⟩
   ·obtain ⟨w,e1,dw⟩:=zaU dl hd
    rw [List.getElem?_append_left (by omega)] at e1
    refine ⟨w,?_,dw⟩
    rw [st k (by omega),List.getElem?_append_left (by omega),e1]
    rfl
   ·obtain ⟨w,e1,dw⟩:=zaU dl hd
    have hk1:=(List.getElem?_eq_some_iff.mp hd).1
    rw [List.getElem?_append_right (by omega)] at e1
    refine ⟨w,?_,dw⟩
    obtain ⟨m,hm⟩:∃ m,k-v1.length=m+1:=⟨k-v1.length-1,by omega⟩
    rw [st k (by omega),List.getElem?_append_right (by omega),hm,List.getElem?_cons_succ,show m=k-1-v1.length by omega,e1]
    rfl
 ·rcases zb8 hjd e with ⟨_,z⟩ | z | ⟨d2,z,_⟩ <;> cases z
 ·rcases zb8 hjd e with ⟨_,z⟩ | z | ⟨d2,z,_⟩ <;> cases z
 ·rcases zb8 hjd e with ⟨hk,z⟩ | z | ⟨d2,z,_⟩
  ·cases z
   refine ⟨⟨.ref b,?_,.adr b⟩,znC,hb,fun z=>absurd (List.mem_singleton.mpr rfl) z,at_,fun l d2 o2 q=>?_,fun l o2 q=>?_⟩
   ·rw [st k (by omega),List.getElem?_append_right (by omega),hk,hj,Nat.sub_self]
    rfl
   ·rcases zb8 hjd q with ⟨hl,z⟩ | z | ⟨d2,z,_⟩
    ·rw [hl,hk]
    ·cases z
    ·cases z
   ·rcases zb8 hjd q with ⟨hl,z⟩ | z | ⟨d2,z,_⟩ <;> cases z
  ·cases z
  ·cases z
section
variable {P:Program} {w:World} {K:PySem.W.Frag} {mg:Str→Option Value} {base:Heap}
theorem Fun.okM {x qual:Str} {st:Stmt} {f:Addr} {fd:FuncData} {N ps:List Str} {k j:Nat} {sp:SpM} (F:Fun K x qual st f fd) (S:FnScope N ps (zd st)) (len:∀ o ds Q,sp o ds Q→ds.length+1=ps.length)
  (hbody:∀ (cdv:Value) (A:Around) (outer:List Env) (s:Shared) (H:Hp) (E:XK),Room k (A.deeper (PyProof.Rows.envOfC qual (zd st) s.heap.objs.size f cdv))→∀ b o ds Q,sp o ds Q →
   ∃ t,PSs' (ze4 CX0 P w K mg base N qual (zd st) f cdv A outer s H E).nox (zaK st) t∧t { nx:=fun Γ=>∃ o',Γ[j]?=some (.bk (fun z=>z) b o')∧Q .non o',rt:=fun r Γ=>∃ o' d',r=.val d'∧Γ[j]?=some (.bk (fun z=>z) b o')∧Q d' o' } (zq N j b o ds)):FnOk P w K mg base CX0 (k+1) f fd ps (zpT K j sp):=by
 refine F.ok S (fun vs H Q E h=>?_) (fun cdv A outer s H vs Q E hr h=>?_)
 ·obtain ⟨Hi,b,o,v1,v2,ds,Q',rfl,_,dl,_,_,_,h,_⟩:=h
  have:=len o ds Q' h
  have hl:=zg dl; rw [List.length_append] at hl; rw [List.length_append,List.length_cons]; omega
 obtain ⟨Hi,b,o,v1,v2,ds,Q',rfl,hj,dl,sb,hb,at_,h,fin⟩:=h; obtain ⟨t,h1,h2⟩:=hbody cdv A outer s H E hr b o ds Q' h; have hlen:=len o ds Q' h
 have hpl:ps.length≤N.length:=by have:=congrArg List.length S.pre; rw [List.length_take] at this; omega
 refine ⟨_,h1.h,⟨H,Hi,[b]⟩,Hi,zq N j b o ds,_,zhO hlen hpl hj sb hb at_ dl,h2,?_⟩
 have ex:∀ {σ':St} {H' Hi':Hp} {Γ':Sts},zaW Hi Hi'→Good K N.length ⟨H,Hi,[b]⟩ Hi' Γ' σ' H'→ExtB b Hi H Hi' H':=fun s1 g1 =>
  ⟨s1,fun a o ne e=>g1.keep a o e (by simpa using ne),g1.fz,fun a o e=>g1.fro a o e⟩
 refine ⟨fun σ' H' Hi' Γ' s1 g1 q=>?_,fun _ _ _ _ _ _ q=>q.elim,fun _ _ _ _ _ _ q=>q.elim,fun v σ' H' Hi' Γ' r s1 g1 ro q=>?_⟩
 ·obtain ⟨o',e,q⟩:=q
  exact fin Hi' H' .non .non o' (ex s1 g1) .non (g1.bk j _ b o' e).at_ q
 ·obtain ⟨o',d',rfl,e,q⟩:=q
  exact fin Hi' H' v d' o' (ex s1 g1) ro (g1.bk j _ b o' e).at_ q
theorem Df.okM {k j:Nat} {x:Str} {ps:List Str} {sp:SpM} {st:Stmt} {N:List Str} (d:Df K mg x st ps) (S:FnScope N ps (zd st)) (len:∀ o ds Q,sp o ds Q→ds.length+1=ps.length)
  (hbody:∀ (f:Addr) (cdv:Value) (A:Around) (outer:List Env) (s:Shared) (H:Hp) (E:XK),Room k (A.deeper (PyProof.Rows.envOfC x (zd st) s.heap.objs.size f cdv))→∀ b o ds Q,sp o ds Q →
   ∃ t,PSs' (ze4 CX0 P w K mg base N x (zd st) f cdv A outer s H E).nox (zaK st) t∧t { nx:=fun Γ=>∃ o',Γ[j]?=some (.bk (fun z=>z) b o')∧Q .non o',rt:=fun r Γ=>∃ o' d',r=.val d'∧Γ[j]?=some (.bk (fun z=>z) b o')∧Q d' o' } (zq N j b o ds)):FnM P w K mg base (k+1) x ps j sp:=by
 obtain ⟨f,fd,F,b,m⟩:=d.ex; exact ⟨f,fd,PL.Fun.okM F S len (hbody f),b,F.kp,m⟩
end
section
variable {X:Cx}
end
end PL
namespace PL
open PySem L2
section
variable {X:Cx} {e a b c:Expr} {pos:Pos}
def zbz (i:Nat) (N:Ends') (Γ:Sts):Res→Prop
 | .val d=>N.nx (Γ.set i (.val d))
 | .own o=>N.nx (Γ.set i (.own o))
 | .bk d o=>∀ b,N.nx (Γ.set i (.bk d b o))
def zaw (i:Nat) (sp:Sp') (t:TA'):TS':=fun N Γ=>t Γ fun ds Γ1=>sp ds fun r=>zbz i N Γ1 r
theorem zhs (i:Nat) {k:Nat} {f x:Str} {ps:List Str} {sp:Sp'} {es:List Expr} {t:TA'} {p pos' cp:Pos} (hnd:X.N.Nodup) (h:Fn X.prog X.w X.K X.mg X.base k f ps sp) (hr:Room k X.A) (ha:PA' X (e :: es) t) (hi:X.N[i]?=some x:=by rfl) (hx:Loc X.env.scope x:=by first | exact Or.inl rfl | exact Or.inr rfl) (hg:Gl X f:=by rfl) (hdb:(f == ("__debug__":Str))=false:=by decide)
  (hs:swapsWith (.Call (.Name f p) (e :: es) [] cp) (some (.Name x pos')) pos.line X.env=pure false:=by rfl)
  (hf:X.fn x=true∨X.env.scope.names.lookup x=some .local:=by first | exact .inl rfl | exact .inr rfl | assumption):PS' X (.Assign [.Name x pos'] (.Call (.Name f p) (e :: es) [] cp) pos) (zaw i sp t):=by
 obtain ⟨fa,fd,F,bd,hk,hm,_⟩:=h.ex; refine ⟨PS.weak (zif (i:=i) hnd hi hx (zeG (E:=E0) (dvs:=[]) F hr hg hm hk bd .nil ze7 ha.pa hdb (zaP (zX ha.pl).1) (zaR (zX ha.pl).2)) hs hf) ?_⟩; have hin:=(List.getElem?_eq_some_iff.mp hi).1
 rintro N2 σ H ⟨W,Hi,Γ,N,g,h,l⟩
 refine ⟨W,Hi,Γ,_,g,h,?_⟩; intro vs H1 Hi1 Γ1 ds s1 g1 dl q; rw [List.append_nil]; refine ⟨Hi1,ds,_,g1.fz,dl,q,?_⟩; intro Hi2 H2 v r ex ro q2
 cases r with
 | val d=>exact l.nx _ H2 Hi2 _ (s1.trans ex.hi) ((g1.ext ex).set hin ro) q2
 | own o =>
  obtain ⟨a,rfl,h1,h2,h3⟩:=ro; have nw:=zb7 g1 ex h1 h2 h3; exact l.nx _ H2 Hi2 _ (s1.trans ex.hi) ((g1.ext ex).setO hin nw.hi nw.h0 nw.ne nw.own) q2
 | bk d o =>
  obtain ⟨b,dv,hol,h1,h2,h3⟩:=ro; have nw:=zb7 g1 ex h1 h2 h3; exact l.nx _ H2 Hi2 _ (s1.trans ex.hi) ((g1.ext ex).setB hin dv hol nw.hi nw.h0 nw.ne nw.own) (q2 b)
end
end PL
namespace L2
open PySem PySem.Spec PyProof.Rows
section
variable {X:Cx}
end
end L2
namespace PL
open PySem L2
section
variable {X:Cx}
end
end PL
namespace PL
open PySem L2 PySem.Spec PyProof.Rows
section
variable {X:Cx}
end
end PL
namespace L2
open PySem PySem.Spec PyProof.Rows Zp
def Itn (K:PySem.W.Frag) (a:Addr):It :=
  ⟨fun i H=>∃ xs x,SqL K H a xs∧xs[i]?=some x,
   fun i H v H'=>∃ p x,H p=none∧v=.ref p∧H'=upd H p (.tup [.int i,x])∧∀ xs,SqL K H a xs→xs[i]?=some x,
   fun i H=>∃ xs,SqL K H a xs∧xs.length≤i⟩
theorem zjJ {P:Program} {w:World} {K:PySem.W.Frag} {elts:List Expr} {c:Nat} {pos:Pos} (a e it:Addr) (D:e≠it):Turn P w K (.Tuple elts c pos) (Itn K a) [e,it] e
  (fun i h=>(∃ old,IsEnum h e it i old)∧h.IsListIter it a i) where
 mem:=by simp
 obj:=by
  rintro i h ⟨⟨old,we⟩,g⟩ d hd
  simp only [List.mem_cons,List.not_mem_nil,or_false] at hd
  rcases hd with rfl | rfl
  ·exact ⟨_,we,fun v z=>by cases z⟩
  ·obtain ⟨o,e,_,dd⟩:=g
   exact ⟨o,e,fun v z=>by rw [dd] at z; cases z⟩
 keep:=by
  rintro i h h' ⟨⟨old,we⟩,g⟩ k
  exact ⟨⟨old,k e (by simp) _ we⟩,g.at fun o q=>k it (by simp) o q⟩
 item:=by
  intro X hP hw hK hc i pins s σ H E I hf st hg
  subst hP hw hK
  obtain ⟨⟨old,we⟩,g⟩:=st
  obtain ⟨xs,x,sx,hx⟩:=hg; obtain ⟨us,rx,px,_⟩:=I.list sx; obtain ⟨ux,hux,rux⟩:=rx.get hx
  have ne:∀ d,d ∈ [e,it]→a≠d:=fun d hd=>zsp (lb:=true) I sx (hf d hd)
  refine wpAny_pyNext_enum_item we g px.isList (by simpa using hux) D fun h' c1 c2 c3 c4 c5=>⟨_,rfl,?_⟩
  refine wpAny_letOwnedTupleGo_enum (s:={ s with heap:=h',toks:=s.toks+1 }) c1 fun h2 e1 e2=>?_
  have ext:=zia e2
  have kk:∀ d o,d ∉ [e,it]→s.heap.get? d=some o→h2.get? d=some o:=fun d o hd q=>by
   simp only [List.mem_cons,List.not_mem_nil,or_false,not_or] at hd; exact ext d o hd.1 (c5 d o hd.1 hd.2 q)
  have fr:H s.heap.objs.size=none:=I.hok.fresh (Nat.le_refl _)
  have pe:s.heap.objs.size≠e:=Nat.ne_of_gt (Heap.lt_size we)
  have tp:=ext _ _ pe c3
  have I2:Inv X pins σ (upd H s.heap.objs.size (.tup [.int i,x])) { s with heap:=h2,toks:=s.toks+1 }:=I.turnedNew (t':=s.toks+1) (ch:=[e,it]) hf kk (Nat.le_refl _)
   ⟨by show 2≤sizeLine; exact Nat.le_of_lt (za6 (by decide)),[.int i s.toks,ux],.cons ⟨_,rfl⟩ (.cons rux .nil),⟨_,tp,rfl,_,rfl⟩⟩
  refine ⟨.ref s.heap.objs.size,_,I2,rfl,⟨_,x,fr,rfl,rfl,fun xs' h=>by rw [zpS (lb:=true) I sx h]; exact hx⟩,⟨⟨ux,e1⟩,c2.at fun o q=>ext _ o (Ne.symm D) q⟩,fun d hd=>?_⟩
  obtain ⟨od,gd,_⟩:∃ o,s.heap.get? d=some o∧True:=by
   simp only [List.mem_cons,List.not_mem_nil,or_false] at hd
   rcases hd with rfl | rfl
   ·exact ⟨_,we,trivial⟩
   ·obtain ⟨o,e,_⟩:=g; exact ⟨o,e,trivial⟩
  rw [zo (Nat.ne_of_lt (Heap.lt_size gd))]; exact (hf d hd).1
 done:=by
  intro X hP hw hK hc i pins s σ H E I hf st hg
  subst hP hw hK
  obtain ⟨⟨old,we⟩,g⟩:=st
  obtain ⟨xs,sx,hend⟩:=hg; obtain ⟨us,rx,px,_⟩:=I.list sx
  have he:us[i]?=none:=List.getElem?_eq_none (by rw [← rx.length]; exact hend)
  refine wpAny_pyNext_enum_end (I.ok.hd hc) we g px.isList (by simpa using he) fun h' k=>⟨rfl,?_⟩
  refine I.turnedL (t':=s.toks) (ch:=[e,it]) hf fun d o hd q=>?_
  simp only [List.mem_cons,List.not_mem_nil,or_false,not_or] at hd; exact k d o hd.2 q
 self:=fun A i s Q E st q=>by
  obtain ⟨⟨old,we⟩,g⟩:=st
  exact wpAny_pyIter_enum we q
theorem zlk:bootBuiltins "enumerate"=some (.type "enumerate"):=by rfl
section
variable {X:Cx}
def zta (K:PySem.W.Frag) (ta:TA):TI:=fun σ H R=>ta σ H fun vs H1=>∃ a xs,vs=[.ref a]∧SqL K H1 a xs∧R (Itn K a) H1
theorem zoq {e1:Expr} {elts:List Expr} {c:Nat} {ta:TA} {p pos tp:Pos} (hg:Gl X "enumerate") (hm:X.mg "enumerate"=none) (ha:PA X [e1] ta) (hs:starEach [e1] X.env=(false,eval e1 X.env) :: starEach [] X.env:=by rfl) (hpl:(backTo pos (starEach [] X.env)).any (·.1)=false:=by rfl) :
  PI X (.Tuple elts c tp) (.Call (.Name "enumerate" p) [e1] [] pos) (zta X.K ta):=by
 intro pins s σ H R I h
 refine Call_ (zeh I hg hm zlk (PyProof.Rows.callWith_type1 (thn (ha pos pins s σ H _ I h) fun us s1 ⟨vs,H1,I1,r1,q1⟩=>?_) hs hpl))
 obtain ⟨a,xs,e,sx,q⟩:=q1; subst e; obtain ⟨u,rfl,ru⟩:=zcU r1
 obtain rfl:u=Value.ref a:=ru
 obtain ⟨us,rx,px,_⟩:=I1.list sx
 refine call_enumerate_list px.isList fun h' z1 z2 _ k=>?_
 refine wpAny_pyIter_enum (s:={ s1 with heap:=h' }) z1 ?_
 refine ⟨s1.heap.objs.size+1,[s1.heap.objs.size+1,s1.heap.objs.size],_,_,H1,rfl,I1.kept (t':=s1.toks) k,zjJ a _ _ (zqS (by omega)),⟨⟨_,z1⟩,z2⟩,fun d hd=>?_,q⟩
 have hd':s1.heap.objs.size≤d:=by
  simp only [List.mem_cons,List.not_mem_nil,or_false] at hd
  rcases hd with rfl | rfl <;> omega
 exact I1.fpOk hd' (I1.hok.fresh hd')
end
end L2
namespace PL
open PySem L2
def zhS (k:Nat):List D→List D
 | []=>[]
 | d :: ds=>.tup [.int k,d] :: zhS (k+1) ds
theorem zgM (ds:List D):∀ (k i:Nat),(zhS k ds)[i]?=(ds[i]?).map fun d=>.tup [.int ((k+i:Nat):Int),d]:=by
 induction ds with
 | nil=>intro k i; rfl
 | cons d ds ih =>
  intro k i
  cases i with
  | zero=>rfl
  | succ i =>
   simp only [zhS,List.getElem?_cons_succ]; rw [ih (k+1) i]
   congr 1
   funext d
   rw [show k+1+i=k+(i+1) by omega]
theorem zgL (ds:List D):∀ k,(zhS k ds).length=ds.length:=by
 induction ds with
 | nil=>intro k; rfl
 | cons d ds ih=>intro k; simp [zhS,ih]
theorem zmS {K:PySem.W.Frag} {Hi:Hp} {a:Addr} {us:List V} {ds:List D} (h1:SqL K Hi a us) (r1:zbP K Hi us ds):ItD K Hi (Itn K a) (zhS 0 ds):=by
 intro Hi' H' s1 s2
 have q1:SqL K H' a us:=zas (s1.trans s2.sub) h1
 refine ⟨fun i d e=>?_,us,q1,?_⟩
 ·rw [zgM,Nat.zero_add] at e
  obtain ⟨d1,hz,rfl⟩:=Option.map_eq_some_iff.mp e; obtain ⟨u,hu,ru⟩:=zaU r1 hz; refine ⟨⟨us,u,q1,hu⟩,?_⟩
  rintro x H'' ⟨p,x1,hp,rfl,rfl,k1⟩
  have ex:x1=u:=by have:=k1 us q1; rw [hu] at this; exact (Option.some.inj this).symm
  subst ex; have ex:=Ext.new s2 hp (.tup [.int i,x1]); exact ⟨_,ex,Den.mkT zh (.cons (.int _) (.cons (ru.mono (s1.trans ex.hi)) .nil))⟩
 ·rw [zgL,zg r1]
  omega
section
variable {X:Cx}
def zF (t:TA'):TI':=fun Γ Q=>t Γ fun ds Γ1=>∃ xs,ds=[.lst xs]∧Q (zhS 0 xs) Γ1
theorem zl8 {e1:Expr} {elts:List Expr} {c:Nat} {t:TA'} {p pos tp:Pos} (hm:X.mg "enumerate"=none) (ha:PA' X [e1] t) (hg:Gl X "enumerate":=by rfl):PI' X (.Tuple elts c tp) (.Call (.Name "enumerate" p) [e1] [] pos) (zF t):=by
 refine ⟨PI.weak (zoq hg hm ha.pa (zaP (zX ha.pl).1) (zaR (zX ha.pl).2)) ?_⟩
 rintro σ H R ⟨W,Hi,Γ,Q,g,h,fin⟩
 refine ⟨W,Hi,Γ,_,g,h,?_⟩
 rintro vs H1 Hi1 Γ1 ds s1 g1 dl ⟨xs,rfl,q⟩
 obtain ⟨v,rfl,d1⟩:=zcW dl; obtain ⟨a,us,rfl,h1,r1⟩:=d1.lstI; exact ⟨a,us,rfl,zas g1.sub h1,fin _ H1 Hi1 Γ1 _ s1 g1 (zmS h1 r1) q⟩
end
end PL
namespace L2
open PySem PySem.Spec PyProof.Rows
section
variable {prog:Program} {w:World} {K:Type} [DecidableEq K] {knd:HeapKind prog w K} {A:Around} {E:Value→Shared→Prop} {s:Shared} {d a:Addr} {k:K} {xs:List (K × Addr × Value)}
theorem zfo:∀ {xs:List (K × Addr × Value)} {j:Nat} {p:Addr × Value},(xs.map (·.1)).Nodup→xs[j]?=some (k,p)→xs.eraseIdx j=xs.filter fun x=>decide (x.1≠k)
 | [],j,p,_,h=>by simp at h
 | x :: xs,0,p,hn,h=>by
  simp only [List.getElem?_cons_zero,Option.some.injEq] at h; subst h; simp only [List.map_cons,List.nodup_cons] at hn; simp only [List.eraseIdx_zero,List.tail_cons,List.filter_cons,ne_eq,not_true_eq_false,decide_false,Bool.false_eq_true,if_false]
  symm
  rw [List.filter_eq_self]; intro y hy
  have:y.1≠k:=fun e=>hn.1 (by rw [← e]; exact List.mem_map_of_mem hy)
  simpa using this
 | x :: xs,j+1,p,hn,h=>by
  simp only [List.getElem?_cons_succ] at h; simp only [List.map_cons,List.nodup_cons] at hn
  have ne:x.1≠k:=fun e=>hn.1 (by rw [e]; exact List.mem_map.mpr ⟨_,List.mem_of_getElem? h,rfl⟩)
  rw [List.eraseIdx_cons_succ,zfo hn.2 h,List.filter_cons,if_pos (by simpa using ne)]
theorem zgy {α β:Type} (f:α→β):∀ (xs:List α) (j:Nat),(xs.eraseIdx j).map f=(xs.map f).eraseIdx j
 | [],_=>rfl
 | x :: xs,0=>rfl
 | x :: xs,j+1=>by simp only [List.eraseIdx_cons_succ,List.map_cons,zgy f xs j]
theorem zf7 {Q:Option DictEntry→Shared→Prop} {p:Addr × Value} (hu:knd.room A) (hkey:knd.is s.heap k a) (hm:s.heap.DictOfH knd d xs) (hp:atKey xs k=some p) (hsz:xs.length≤sizeLine)
  (hQ:∀ h' e,e.val=p.2→h'.DictOfH knd d (xs.filter fun x=>decide (x.1≠k))→Heap.SameBut d s.heap h'→Q (some e) { s with heap:=h',toks:=s.toks+knd.draws k }) :
  wpAny (model prog w) A (Builtin.Dict.takeOut d (.ref a)) Q E s:=by
 obtain ⟨o,es,ep,ho,hc,hd,he,his,hn⟩:=hm; unfold Builtin.Dict.takeOut
 try with_reducible refine wpAny_holding ?_
 refine wpAny_bind (knd.pyHash hu hkey (wpAny_bind (wpAny_dictFind_heap (s:={ s with toks:=s.toks+knd.draws k }) hu hkey ho hd he his hn ?_ ?_)))
 ·intro hno
  rw [atKey_none_of_get hno] at hp; cases hp
 ·intro j p' hj
  rw [atKey_of_get hn hj] at hp; cases hp
  refine wpAny_bind (wpAny_dictEntries (s:={ s with toks:=s.toks+knd.draws k }) ho hd ?_)
  rw [entry_at he j,hj]; have ee:=zfo hn hj
  refine wpAny_bind (wpAny_updateDictKeys (hz:=by have e:=size_of_entries he; omega) (s:={ s with toks:=s.toks+knd.draws k }) ho hd (wpAny_pure (hQ _ _ rfl ⟨_,_,ep+1,Heap.get?_update_self _ ho (Obj.isFreed_of_dict (Obj.data_mapDictKeys hd _)),hc.mapDictKeys _,Obj.data_mapDictKeys hd _,?_,?_,?_⟩ (Heap.SameBut.update ..))))
  ·rw [Array.toList_eraseIdxIfInBounds,he,← ee]
   exact (zgy (entryOfKey knd) xs j).symm
  ·intro x hx
   exact knd.keeps (his x (List.mem_filter.mp hx).1) ho hd (Heap.SameBut.update ..)
  ·exact hn.sublist (List.filter_sublist.map _)
theorem zeO (hd:(d == sysModules)=false) :
  MeetsIn prog w (Builtin.«dict.pop» ⟨[.ref d,.ref a],[]⟩) (fun A R s=>knd.room A.in1∧∃ k xs p,knd.is s.heap k a∧s.heap.DictOfH knd d xs∧xs.length≤sizeLine∧atKey xs k=some p ∧
   ∀ h',h'.DictOfH knd d (xs.filter fun x=>decide (x.1≠k))→Heap.SameBut d s.heap h'→R (.ok (.ret p.2)) { s with heap:=h',toks:=s.toks+knd.draws k }) :=
 .of_wp fun A R s ⟨hu,k,xs,p,hkey,hm,hsz,hp,h⟩=>by
  unfold Builtin.«dict.pop»
  refine wpAny_bind ?_; unfold Builtin.Dict.keyAndDefault; refine wpAny_bind (wpAny_notOrdered_dict hm.typeIs ?_)
  show wpAny _ _ (pure (d,Value.ref a,none)) _ _ s
  refine wpAny_pure ?_
  have hne:xs≠[]:=fun z=>by rw [z] at hp; cases hp
  obtain ⟨o,es,ep,ho,hc,hdd,he,his,hn⟩:=id hm
  have hes:es.isEmpty=false:=by
   cases hz:es.isEmpty with
   | false=>rfl
   | true =>
    rw [Array.isEmpty_iff] at hz; rw [hz] at he
    cases xs with
    | nil=>exact absurd rfl hne
    | cons x xs=>cases he
  have hk:(keyPart (Value.ref a)).isSome=false:=rfl
  simp only [hk,Bool.false_eq_true,if_false]; refine wpAny_bind (wpAny_dictEntries ho hdd ?_); rw [hes]; refine wpAny_bind (wpAny_pure ?_); simp only [Bool.false_eq_true,if_false]
  refine wpAny_bind (zf7 hu hkey hm hp hsz fun h' e ev hm' hs'=>?_)
  simp only [Option.isNone_some,Bool.false_eq_true,if_false]
  exact wpAny_bind (wpAny_letGo (wpAny_pure ⟨e.val,rfl,by rw [ev]; exact h h' hm' hs'⟩))
end
section
variable {X:Cx} {pins:List (Addr × Obj)} {σ:St} {H:Hp} {s:Shared} {a:Addr} {y d:V} {u r:Value} {o:Option V} {A:Around} {E:Value→Shared→Prop}
theorem KT.drop {H:Hp} {kvs:List (List Key × V)} {xs:List (List Key × Addr × Value)} (r:KT H kvs xs) (k:List Key):KT H (kvs.filter fun p=>decide (p.1≠k)) (xs.filter fun x=>decide (x.1≠k)):=by
 induction r with
 | nil=>exact .nil
 | @cons p q ps qs h t ih =>
  by_cases e:p.1=k
  ·have e':q.1=k:=h.1 ▸ e
   rw [List.filter_cons,List.filter_cons,if_neg (by simp [e]),if_neg (by simp [e'])]
   exact ih
  ·have e':¬ q.1=k:=h.1 ▸ e
   rw [List.filter_cons,List.filter_cons,if_pos (by simp [e]),if_pos (by simp [e'])]
   exact .cons h ih
theorem zti {kvs:List (List Key × V)} {ep:Nat} {k:List Key} {b:Addr} {v:V} {Q:Value→Shared→Prop} (hu:A.units+1<cLine) (I:Inv X pins σ H s) (e:H a=some (.dE kvs ep)) (eb:H b=some (.tup (k.map kV))) (hv:zfs kvs k=some v)
  (h:∀ ep' w' s',Inv X pins σ (upd H a (.dE (kvs.filter fun p=>decide (p.1≠k)) ep')) s'→zbA v w'→Q w' s'):wpAny (model X.prog X.w) A (call (.builtin "dict.pop") [.ref a,.ref b]) Q E s:=by
 obtain ⟨z,hd,xs,rel,dd,_⟩:=zek I.hok e
 have hz:xs.length≤sizeLine:=by rw [← Paired.length rel]; exact z
 obtain ⟨w',hw,rw'⟩:=zf2.some_of (v:=v) (o:=(atKey xs k).map (·.2)) (by rw [← hv]; exact rel.val k)
 obtain ⟨p,hp,hp2⟩:=Option.map_eq_some_iff.mp hw
 refine call_meetsIn PySem.F.slot_dict_pop dd.typeIs PySem.F.entry_dict_pop (PySem.F.args_dict_pop_2 _ _) (zeO (knd:=tupleKind (zbf X.prog X.w)) (d:=a) (a:=b) hd) ⟨tupleKind_room_in1 hu,k,xs,p,zdk I.hok eb,dd,hz,hp,fun h' dd' hs=>?_⟩
 rw [hp2]; obtain ⟨q,es,ep',hq,h2,h3,h4,_,h5⟩:=dd'
 have hl:(kvs.filter fun p=>decide (p.1≠k)).length≤sizeLine:=Nat.le_trans (List.length_filter_le _ _) z
 refine h ep' w' _ (zfW I (by rw [e]; exact True.intro) hs ⟨q,hq⟩ ⟨hl,hd,_,(rel.drop k).keeps fun c ys ec=>?_,q,es,hq,h2,h3,h4,h5⟩) rw'
 rw [zo (zoR ec e (fun z=>nomatch z))]
 exact ec
theorem zrc {Q:Value→Shared→Prop} (hu:A.units+1<cLine) (I:Inv X pins σ H s) (g:zlC H a y o) (ry:zbA y u) (h:∀ w' s',Inv X pins σ H s'→zbA (o.getD .non) w'→Q w' s') :
  wpAny (model X.prog X.w) A (call (.builtin "dict.get") [.ref a,u]) Q E s:=by
 obtain ⟨kvs,ep,k,b,e,ey,eb,l⟩:=g; subst ey
 cases (show u=Value.ref b from ry)
 obtain ⟨z,hd,xs,rel,dd,_⟩:=zek I.hok e; refine call_meetsIn PySem.F.slot_dict_get dd.typeIs PySem.F.entry_dict_get (PySem.F.args_dict_get_2 _ _) (meetsH_dict_get (tupleKind (zbf X.prog X.w)) a b hd) ⟨tupleKind_room_in1 hu,k,xs,zdk I.hok eb,dd,h _ _ (I.tok _) ?_⟩; rw [l]
 exact (rel.val k).getD (show zbA .non .none from rfl)
end
def zsk (td ty:TE):TE:=fun σ H Q=>td σ H fun x H1=>∃ a kvs0 ep0,x=.ref a∧H1 a=some (.dE kvs0 ep0)∧ty σ H1 fun y H2=>∃ kvs ep k b v,H2 a=some (.dE kvs ep)∧y=.ref b∧H2 b=some (.tup (k.map kV))∧zfs kvs k=some v∧∀ ep',Q v (upd H2 a (.dE (kvs.filter fun p=>decide (p.1≠k)) ep'))
def zpK (td ty:TE):TE:=fun σ H Q=>td σ H fun x H1=>∃ a kvs ep,x=.ref a∧H1 a=some (.dE kvs ep)∧ty σ H1 fun y H2=>∃ o,zlC H2 a y o∧Q (o.getD .non) H2
section
variable {X:Cx} {o e:Expr} {apos cpos:Pos} {td ty:TE}
theorem zow (hu:X.A.units+1<cLine) (ho:PE X o td) (he:PE X e ty) (m:M1 X o "pop" apos e cpos):PE X (.Call (.Attribute o "pop" apos) [e] [] cpos) (zsk td ty):=by
 intro pins s σ H Q I h
 refine wpAny_Call_method m.base m.few m.line PySem.F.plainAttrs_dict PySem.F.slot_dict_pop PySem.F.type_dict_pop (thn (ho pins s σ H _ I h) fun u s1 ⟨x,H1,I1,rx,a,kvs,ep,ex,d,q1⟩=>?_)
 subst ex
 obtain rfl:u=Value.ref a:=rx
 obtain ⟨t1,t2⟩:=zkT I1 d; refine ⟨t1,t2,?_⟩; rw [m.trees]
 refine Calls.callWith_builtin rfl (Calls.evalArgs_plain (Calls.spliced_cons (thn (he pins s1 σ H1 _ I1 q1) fun iv s2 ⟨y,H2,I2,ry,kvs',ep',k,b,v,e1,ey,eb,hv,q2⟩=>Calls.spliced_nil ?_)))
 subst ey
 obtain rfl:iv=Value.ref b:=ry
 exact zti hu I2 e1 eb hv fun ep' w' s4 I4 rw'=>⟨v,_,I4,rw',q2 ep'⟩
theorem zmf (hu:X.A.units+1<cLine) (ho:PE X o td) (he:PE X e ty) (m:M1 X o "get" apos e cpos):PE X (.Call (.Attribute o "get" apos) [e] [] cpos) (zpK td ty):=by
 intro pins s σ H Q I h
 refine wpAny_Call_method m.base m.few m.line PySem.F.plainAttrs_dict PySem.F.slot_dict_get PySem.F.type_dict_get (thn (ho pins s σ H _ I h) fun u s1 ⟨x,H1,I1,rx,a,kvs,ep,ex,d,q1⟩=>?_)
 subst ex
 obtain rfl:u=Value.ref a:=rx
 obtain ⟨t1,t2⟩:=zkT I1 d; refine ⟨t1,t2,?_⟩; rw [m.trees]
 refine Calls.callWith_builtin rfl (Calls.evalArgs_plain (Calls.spliced_cons (thn (he pins s1 σ H1 _ I1 q1) fun iv s2 ⟨y,H2,I2,ry,ov,g,q3⟩=>Calls.spliced_nil ?_)))
 exact zrc hu I2 g ry fun w' s4 I4 rw'=>⟨_,H2,I4,rw',q3⟩
end
end L2
namespace PL
open PySem L2
section
variable {X:Cx}
theorem ziw {Hi H:Hp} {b:Addr} {u':HO} (s:Fz Hi H) (hb:Hi b=none) {u:HO} (hu:H b=some u) (nt:∀ xs,u≠.tup xs) (nt':∀ xs,u'≠.tup xs):ExtB b Hi H Hi (upd H b u'):=by
 refine ⟨zaW.refl _,fun a o ne q=>by rw [zo ne]; exact q,⟨fun a o q=>?_,fun a xs q=>?_⟩,fun _ _ _=>rfl⟩
 ·rw [zo (fun z=>by rw [z,hb] at q; cases q)]
  exact s.sub a o q
 ·by_cases z:a=b
  ·subst z
   rw [zh] at q; exact absurd (Option.some.inj q) (nt' xs)
  ·rw [zo z] at q
   exact s.tups a xs q
def zaB:TO':=fun Γ Q=>Q (.dit []) Γ
theorem zok {pos:Pos}:PO' X (.Dict [] [] pos) zaB:=by
 refine ⟨PE.weak zox ?_⟩
 rintro σ H Q ⟨W,Hi,Γ,Q',g,q,fin⟩
 intro p hp
 exact fin p _ Hi Γ (.dit []) (zaW.refl _) (g.ext (Ext.newO g.fz hp _ (fun _ z=>by cases z))) (New.mk' g hp ⟨[],0,zh,.nil⟩) q
def zN (i:Nat) (tk tv:TE'):TS':=fun N Γ=>tv Γ fun v Γ1=>(∃ b0 ds0,Γ1[i]?=some (.bk (fun z=>z) b0 (.dit ds0)))∧tk Γ1 fun k Γ2=>∃ (b:Addr) (ds:List (D × D)) (ks:List Key),Γ2[i]?=some (.bk (fun z=>z) b (.dit ds))∧k=.tup (ks.map zdA)∧ds.length<sizeLine∧N.nx (Γ2.set i (.bk (fun z=>z) b (.dit (zpy ds k v))))
theorem zfH (hu:X.A.units+1<cLine) (i:Nat) {x:Str} {k value:Expr} {tk tv:TE'} {p pos pos':Pos} (hk:PE' X k tk) (hv:PE' X value tv) (hN:X.N[i]?=some x:=by rfl) (hvi:Vis X.env.scope x:=by first | exact Or.inl rfl | exact Or.inr (Or.inl rfl) | exact Or.inr (Or.inr rfl)) (hd:(x == ("__debug__":Str))=false:=by decide)
  (hcd:(x == ("__classdict__":Str))=false:=by decide) (hs:swapsWith value (some (.Subscript (.Name x p) k pos')) pos.line X.env=pure false:=by rfl) :
  PS' X (.Assign [.Subscript (.Name x p) k pos'] value pos) (zN i tk tv):=by
 refine ⟨PS.weak (zog hu (zcq (i:=i) (pos:=p) hN hvi hd hcd) hk.h hv.h hs) ?_⟩
 rintro N2 σ H ⟨W,Hi,Γ,N,g,q,l⟩
 refine ⟨W,Hi,Γ,_,g,q,?_⟩
 rintro v H1 ⟨Hi1,d,Γ1,s1,g1,den,⟨b0,ds0,e0⟩,q1⟩
 obtain ⟨v0,hv0,den0⟩:=(g1.bk i _ _ _ e0).val
 cases den0.adrI
 refine ⟨.ref b0,hv0,W,Hi1,Γ1,_,g1,q1,?_⟩
 rintro y H2 ⟨Hi2,dk,Γ2,s2,g2,den2,b,ds,ks,e2,rfl,hl,q2⟩
 have B:=g2.bk i _ _ _ e2; obtain ⟨v2,hv2,dv2⟩:=B.val
 cases dv2.adrI
 rw [hv0] at hv2; cases hv2; obtain ⟨kvs,ep,k4,k5⟩:=B.at_; obtain ⟨c,rfl,hb⟩:=zex den2
 refine ⟨b0,kvs,ep,ks,c,rfl,k4,rfl,g2.sub _ _ hb,by rw [zg k5]; exact hl,fun ep'=>?_⟩
 exact l.nx σ _ Hi2 _ (s1.trans s2) (g2.extB (xs':=.dit (zpy ds (.tup (ks.map zdA)) d)) e2 (ziw g2.fz B.hi k4 (fun _ z=>by cases z) (fun _ z=>by cases z)) ⟨_,_,zh,zut k5 ks (den.mono s2)⟩) q2
def zbx (i:Nat) (tk:TE'):TE':=fun Γ Q=>(∃ b0 ds0,Γ[i]?=some (.bk (fun z=>z) b0 (.dit ds0)))∧tk Γ fun k Γ1=>∃ (b:Addr) (ds:List (D × D)) (ks:List Key) (v:D),Γ1[i]?=some (.bk (fun z=>z) b (.dit ds))∧k=.tup (ks.map zdA)∧zdB ds k=some v∧Q v Γ1
theorem zqr (hu:X.A.units+1<cLine) (i:Nat) {x:Str} {k:Expr} {tk:TE'} {p pos:Pos} (hk:PE' X k tk) (hN:X.N[i]?=some x:=by rfl) (hvi:Vis X.env.scope x:=by first | exact Or.inl rfl | exact Or.inr (Or.inl rfl) | exact Or.inr (Or.inr rfl)) (hd:(x == ("__debug__":Str))=false:=by decide)
  (hcd:(x == ("__classdict__":Str))=false:=by decide) (hs:zhV k:=by intro _ _; rfl) :
  PE' X (.Subscript (.Name x p) k pos) (zbx i tk):=by
 refine ⟨PE.weak (zqs (zkR hu) (zcq (i:=i) (pos:=p) hN hvi hd hcd) hk.h hs) ?_⟩
 rintro σ H Q ⟨W,Hi,Γ,Q',g,⟨⟨b0,ds0,e0⟩,q⟩,fin⟩
 obtain ⟨v0,hv0,den0⟩:=(g.bk i _ _ _ e0).val
 cases den0.adrI
 refine ⟨.ref b0,hv0,W,Hi,Γ,_,g,q,?_⟩
 rintro y H2 ⟨Hi2,dk,Γ2,s2,g2,den2,b,ds,ks,v,e2,rfl,ef,q2⟩
 have B:=g2.bk i _ _ _ e2; obtain ⟨v2,hv2,dv2⟩:=B.val
 cases dv2.adrI
 rw [hv0] at hv2; cases hv2; obtain ⟨kvs,ep,k4,k5⟩:=B.at_; obtain ⟨c,rfl,hb⟩:=zex den2; have r:=zmW k5 ks; rw [ef] at r
 cases hw:zfs kvs ks with
 | none=>rw [hw] at r; cases r
 | some w =>
  rw [hw] at r
  cases r with
  | some h=>exact ⟨b0,w,rfl,⟨kvs,ep,ks,c,k4,rfl,g2.sub _ _ hb,hw.symm⟩,fin _ _ ⟨Hi2,v,Γ2,s2,g2,h,q2⟩⟩
open Classical in
noncomputable def zjp (ds:List (D × D)) (k:D):List (D × D):=ds.filter fun p=>decide (p.1≠k)
theorem ztk {K:PySem.W.Frag} {H:Hp} {kvs:List (List Key × V)} {ds:List (D × D)} (r:ziJ K H kvs ds) (ks:List Key):ziJ K H (kvs.filter fun p=>decide (p.1≠ks)) (zjp ds (.tup (ks.map zdA))):=by
 unfold zjp
 induction r with
 | nil=>exact .nil
 | @cons p q ps qs h t ih =>
  by_cases e:p.1=ks
  ·have e':q.1=.tup (ks.map zdA):=h.1.trans (by rw [e])
   rw [List.filter_cons,List.filter_cons,if_neg (by simp [e]),if_neg (by simp [e'])]
   exact ih
  ·have e':¬ q.1=.tup (ks.map zdA):=fun z=>e (zdT (by
    have:=h.1.symm.trans z
    injection this))
   rw [List.filter_cons,List.filter_cons,if_pos (by simp [e]),if_pos (by simp [e'])]
   exact .cons h ih
def zay (i:Nat) (tk:TE'):TS':=fun N Γ=>(∃ b0 ds0,Γ[i]?=some (.bk (fun z=>z) b0 (.dit ds0)))∧tk Γ fun k Γ1=>∃ (b:Addr) (ds:List (D × D)) (ks:List Key),Γ1[i]?=some (.bk (fun z=>z) b (.dit ds))∧k=.tup (ks.map zdA)∧(zdB ds k).isSome=true∧N.nx (Γ1.set i (.bk (fun z=>z) b (.dit (zjp ds k))))
theorem zof (hu:X.A.units+1<cLine) (i:Nat) {x:Str} {k:Expr} {tk:TE'} {p apos cpos pos:Pos} (hk:PE' X k tk) (hN:X.N[i]?=some x:=by rfl) (hvi:Vis X.env.scope x:=by first | exact Or.inl rfl | exact Or.inr (Or.inl rfl) | exact Or.inr (Or.inr rfl)) (hd:(x == ("__debug__":Str))=false:=by decide)
  (hcd:(x == ("__classdict__":Str))=false:=by decide) (m:M1 X (.Name x p) "pop" apos k cpos:=by exact ⟨rfl,rfl,rfl,rfl⟩)
  (hs:swapsWith (.Call (.Attribute (.Name x p) "pop" apos) [k] [] cpos) none pos.line X.env=pure false:=by rfl) :
  PS' X (.Expr (.Call (.Attribute (.Name x p) "pop" apos) [k] [] cpos) pos) (zay i tk):=by
 refine ⟨PS.weak (zeD (zow hu (zcq (i:=i) (pos:=p) hN hvi hd hcd) hk.h m) hs) ?_⟩
 rintro N2 σ H ⟨W,Hi,Γ,N,g,⟨⟨b0,ds0,e0⟩,q⟩,l⟩
 have B0:=g.bk i _ _ _ e0; obtain ⟨v0,hv0,den0⟩:=B0.val
 cases den0.adrI
 obtain ⟨kvs0,ep0,k40,_⟩:=B0.at_; refine ⟨.ref b0,hv0,b0,kvs0,ep0,rfl,k40,W,Hi,Γ,_,g,q,?_⟩
 rintro y H2 ⟨Hi2,dk,Γ2,s2,g2,den2,b,ds,ks,e2,rfl,ef,q2⟩
 have B:=g2.bk i _ _ _ e2; obtain ⟨v2,hv2,dv2⟩:=B.val
 cases dv2.adrI
 rw [hv0] at hv2; cases hv2; obtain ⟨kvs,ep,k4,k5⟩:=B.at_; obtain ⟨c,rfl,hb⟩:=zex den2; have r:=zmW k5 ks
 cases hw:zfs kvs ks with
 | none =>
  rw [← r.isSome,hw] at ef; cases ef
 | some w =>
  refine ⟨kvs,ep,ks,c,w,k4,rfl,g2.sub _ _ hb,hw,fun ep'=>?_⟩
  exact l.nx σ _ Hi2 _ s2 (g2.extB (xs':=.dit (zjp ds (.tup (ks.map zdA)))) e2 (ziw g2.fz B.hi k4 (fun _ z=>by cases z) (fun _ z=>by cases z)) ⟨_,_,zh,ztk k5 ks⟩) q2
def zL (td ty:TE'):TE':=fun Γ Q=>td Γ fun d Γ1=>(∃ ds,d=.dit ds)∧ty Γ1 fun k Γ2=>∃ (ds:List (D × D)) (ks:List Key),d=.dit ds∧k=.tup (ks.map zdA)∧Q ((zdB ds k).getD .non) Γ2
theorem zme (hu:X.A.units+1<cLine) {o e:Expr} {apos cpos:Pos} {td ty:TE'} (ho:PE' X o td) (he:PE' X e ty) (m:M1 X o "get" apos e cpos:=by exact ⟨rfl,rfl,rfl,rfl⟩) :
  PE' X (.Call (.Attribute o "get" apos) [e] [] cpos) (zL td ty):=by
 refine ⟨PE.weak (zmf hu ho.h he.h m) ?_⟩
 rintro σ H Q ⟨W,Hi,Γ,Q',g,h,fin⟩
 refine ⟨W,Hi,Γ,_,g,h,?_⟩
 rintro x H1 ⟨Hi1,d,Γ1,s1,g1,den1,⟨ds,rfl⟩,h1⟩
 obtain ⟨a,kvs,ep,rfl,ha,dk⟩:=den1.ditI; refine ⟨a,kvs,ep,rfl,g1.sub _ _ ha,W,Hi1,Γ1,_,g1,h1,?_⟩
 rintro y H2 ⟨Hi2,dy,Γ2,s2,g2,den2,ds',ks,e1,rfl,q⟩
 cases e1; obtain ⟨a',o,e2,gt,r⟩:=zm2 g2.fz (den1.mono s2) den2; cases e2; exact ⟨o,gt,fin _ H2 ⟨Hi2,_,Γ2,s1.trans s2,g2,r.getD .non,q⟩⟩
end
end PL
namespace Itm
open PySem
section
variable {prog:Program} {w:World} {A:Around} {E:Value→Shared→Prop} {s:Shared} {d:Addr} {o:Obj} {es:Array DictEntry} {ep:Nat}
theorem meets_items (hd:(d == sysModules)=false):MeetsIn prog w (Builtin.«dict.items» ⟨[.ref d],[]⟩) (fun _ R s=>s.TypeIs (.ref d) "dict"∧R (.ok (.ret (.ref s.heap.objs.size))) { s with heap:=s.heap.push { cls:=.type "dict_items",data:=.fields #[.ref d] } }) :=
 .of_wp fun A R s ⟨ty,q⟩=>by
  unfold Builtin.«dict.items» Builtin.Dict.noArgs; refine wpAny_bind (wpAny_bind (wpAny_notOrdered_dict ty ?_))
  show wpAny _ _ (pure d) _ _ s
  refine wpAny_pure ?_; unfold Builtin.Dict.showsAll; rw [if_neg (by rw [hd]; decide)]
  exact wpAny_bind (wpAny_pure (wpAny_bind (wpAny_newObj_type (wpAny_pure ⟨_,rfl,q⟩))))
theorem entry_iter:entryFor table "dict_itemiterator.__iter__"=some Builtin.«dict_keyiterator.__iter__»:=entryFor_alias (id':="dict_keyiterator.__iter__") (by kernel_rfl) rfl (by decide +kernel) (by kernel_rfl)
theorem zoD:Builtin.Dict_items.ownsTuple "dict_itemiterator"=true:=by decide
theorem iter_items {v:Addr} {Q:Value→Shared→Prop} (V:s.heap.IsItemsView v d) (gd:s.heap.get? d=some o) (dd:o.data=.dict es ep)
  (q:Q (.ref s.heap.objs.size) { s with heap:=s.heap.push { cls:=.type "dict_itemiterator",data:=.fields #[.none,.bool false,.ref d,.int 0 0,.int es.size 0,.int ep 0,.none,.none] } }):wpAny (model prog w) A (pyIter (.ref v)) Q E s:=by
 obtain ⟨ov,gv,_,dv⟩:=id V
 refine wpAny_pyIter_slot V.typeIs F.slot_dict_items_iter (wpAny_call_entry F.slot_dict_items_iter V.typeIs F.entry_dict_items_iter ?_ (F.args_dict_items_iter_1 _)); unfold Builtin.«dict_items.__iter__»
 refine wpAny_bind (wpAny_pure (wpAny_bind ?_)); unfold Builtin.Dict_items.dictOf
 refine wpAny_bind (wpAny_field gv dv (x:=.ref d) rfl (wpAny_pure (wpAny_bind ?_))); unfold Builtin.Dict_items.newIterator
 refine wpAny_bind (wpAny_dictEntries gd dd (wpAny_bind (wpAny_dictEpoch gd dd ?_))); simp only [zoD,if_true]
 refine wpAny_newObj_type (wpAny_pure ⟨_,rfl,"dict_itemiterator",_,⟨_,Heap.get?_push_size _ rfl,rfl⟩,F.slot_dict_itemiterator_next.lookup,?_⟩) ?_
 ·simpa [rawInt,Builtin.Dict_items.ownedTupleFields] using q
 ·simp only [sizeOk,Builtin.Dict_items.ownedTupleFields,List.size_toArray,List.length_append,List.length_cons,List.length_nil,sizeLine_eq]; omega
theorem next_items {it:Addr} {i:Nat} {e:DictEntry} {ok ov:Value} {Q:Option Value→Shared→Prop} (I0:IsItemIter s.heap it d i es.size ep ok ov) (gd:s.heap.get? d=some o) (dd:o.data=.dict es ep) (hx:es[i]?=some e)
  (q:∀ h',IsItemIterOut h' it d (i+1) es.size ep e.key e.val s.heap.objs.size→h'.get? s.heap.objs.size=some { cls:=.type "tuple",data:=.seq #[e.key,e.val] }→(∀ b u,b≠it→s.heap.get? b=some u→h'.get? b=some u)→Q (some (.ref s.heap.objs.size)) { s with heap:=h' }):wpAny (model prog w) A (pyNext (.ref it)) Q E s:=by
 obtain ⟨hp,g,dr,tk,os⟩:=s
 have T0:Shared.TypeIs ⟨hp,g,dr,tk,os⟩ (.ref it) "dict_itemiterator":=⟨_,I0,rfl⟩
 unfold pyNext; refine wpAny_bind (wpAny_attempt (wpAny_callSpecial?_slot (name:=Str.ofString "__next__") T0 F.slot_dict_itemiterator_next (wpAny_call_entry F.slot_dict_itemiterator_next T0 F.entry_dict_itemiterator_next ?_ (F.args_dict_itemiterator_next_1 _))))
 refine wpAny_bind (wpAny_pure (wpAny_bind (wpAny_bind ?_)))
 first | refine wpAny_bind (wpAny_typeNameOfWhole_itemiter T0 (wpAny_pure (wpAny_bind (wpAny_fieldsOf I0 rfl ?_)))) | refine wpAny_bind (wpAny_typeNameOf_itemiter T0 (wpAny_pure (wpAny_bind (wpAny_fieldsOf I0 rfl ?_))))
 simp only [zoD,if_true]
 show wpAny _ _ (if (Value.ref d == Value.none)=true then _ else _) _ _ _
 rw [if_neg (by simp)]; refine wpAny_bind (wpAny_pure (wpAny_bind (wpAny_dictEntries gd dd ?_)))
 rw [if_neg (by simp)]; refine wpAny_bind (wpAny_pure (wpAny_bind (wpAny_dictEpoch gd dd ?_)))
 rw [if_neg (by simp)]; refine wpAny_pure ?_
 simp only [show ¬ ((i:Int)<0) from by omega,if_false,Int.toNat_natCast,hx]; refine wpAny_bind ?_
 first | refine wpAny_bind (wpAny_typeNameOfWhole_itemiter T0 (wpAny_pure (wpAny_bind (wpAny_isOneOf_itemiter T0 ?_)))) | refine wpAny_bind (wpAny_typeNameOf_itemiter T0 (wpAny_pure (wpAny_bind (wpAny_isOneOf_itemiter T0 ?_))))
 show wpAny _ _ (setField (.ref it) 3 (rawInt ((i:Int)+1)) >>= _) _ _ ⟨hp,g,dr,tk,os⟩
 refine wpAny_bind (wpAny_setField_rec I0 (by simp) fun h1 I1 S1=>?_)
 replace S1:Heap.SameBut it hp h1:=S1
 replace I1:IsItemIter h1 it d (i+1) es.size ep ok ov:=by
  unfold IsItemIter; rw [show ((i+1:Nat):Int)=(i:Int)+1 by omega]; simpa [rawInt] using I1
 have T1:Shared.TypeIs ⟨h1,g,dr,tk,os⟩ (.ref it) "dict_itemiterator":=⟨_,I1,rfl⟩
 refine wpAny_bind (wpAny_holding (wpAny_bind (wpAny_isOneOf_itemiter T1 (wpAny_bind (wpAny_isOneOf_itemiter T1 ?_)))))
 show wpAny _ _ (Builtin.Dict_items.pairFromOwner (.ref it) 6 e.key e.val) _ _ ⟨h1,g,dr,tk,os⟩
 unfold Builtin.Dict_items.pairFromOwner; refine wpAny_bind (wpAny_newTuple ?_)
 have I2:IsItemIter (h1.push { cls:=.type "tuple",data:=.seq #[e.key,e.val] }) it d (i+1) es.size ep ok ov:=Heap.get?_push_of_some _ I1
 generalize eh:h1.push { cls:=.type "tuple",data:=.seq #[e.key,e.val] }=h2 at I2
 have z1:h1.objs.size=hp.objs.size:=S1.1
 have lt0:it<hp.objs.size:=Heap.lt_size I0
 have t2:h2.get? hp.objs.size=some { cls:=.type "tuple",data:=.seq #[e.key,e.val] }:=by rw [← eh,← z1]; exact Heap.get?_push_size _ rfl
 have k2:∀ b u,b≠it→hp.get? b=some u→h2.get? b=some u:=fun b u hb z=>by rw [← eh]; exact Heap.get?_push_of_some _ (S1.extBut b u hb z)
 show wpAny _ _ (Builtin.Dict_items.ownedTupleIsFree (.ref it) >>= _) _ _ ⟨h2,g,dr,tk,os⟩
 rw [z1]; clear eh I1 S1 T1 z1 h1
 refine wpAny_bind ?_; unfold Builtin.Dict_items.ownedTupleIsFree
 refine wpAny_bind (wpAny_field I2 rfl (x:=.none) rfl (wpAny_pure ?_)); simp only [if_true]
 refine wpAny_bind (wpAny_field I2 rfl (x:=ok) rfl (wpAny_bind (wpAny_field I2 rfl (x:=ov) rfl (wpAny_bind (wpAny_setField_rec I2 (by simp) fun h3 I3 S3=>?_)))))
 replace S3:Heap.SameBut it h2 h3:=S3
 replace I3:IsItemIter h3 it d (i+1) es.size ep e.key ov:=I3
 refine wpAny_bind (wpAny_setField_rec I3 (by simp) fun h4 I4 S4=>?_)
 replace S4:Heap.SameBut it h3 h4:=S4
 replace I4:IsItemIter h4 it d (i+1) es.size ep e.key e.val:=I4
 refine wpAny_bind (wpAny_setField_rec I4 (by simp) fun h5 I5 S5=>?_)
 replace S5:Heap.SameBut it h4 h5:=S5
 replace I5:IsItemIterOut h5 it d (i+1) es.size ep e.key e.val hp.objs.size:=I5
 refine wpAny_bind (wpAny_setField_rec I5 (by simp) fun h6 I6 S6=>?_)
 replace S6:Heap.SameBut it h5 h6:=S6
 replace I6:IsItemIterOut h6 it d (i+1) es.size ep e.key e.val hp.objs.size:=I6
 have up:∀ b u,b≠it→h2.get? b=some u→h6.get? b=some u:=fun b u hb z=>S6.extBut b u hb (S5.extBut b u hb (S4.extBut b u hb (S3.extBut b u hb z)))
 exact wpAny_bind (wpAny_letGo (wpAny_pure (wpAny_pure ⟨_,rfl,wpAny_pure (q h6 I6 (up _ _ (Nat.ne_of_gt lt0) t2) fun b u hb z=>up b u hb (k2 b u hb z))⟩)))
theorem stop_items {it:Addr} {i:Nat} {ok ov:Value} {Q:Option Value→Shared→Prop} (hh:A.handled=none) (I0:IsItemIter s.heap it d i es.size ep ok ov) (gd:s.heap.get? d=some o) (dd:o.data=.dict es ep) (hx:es[i]?=none)
  (q:∀ h',Heap.ExtBut it s.heap h'→Q none { s with heap:=h' }):wpAny (model prog w) A (pyNext (.ref it)) Q E s:=by
 have T0:s.TypeIs (.ref it) "dict_itemiterator":=⟨_,I0,rfl⟩
 unfold pyNext; refine wpAny_bind (wpAny_attempt (wpAny_callSpecial?_slot (name:=Str.ofString "__next__") T0 F.slot_dict_itemiterator_next (wpAny_call_entry F.slot_dict_itemiterator_next T0 F.entry_dict_itemiterator_next ?_ (F.args_dict_itemiterator_next_1 _))))
 refine wpAny_bind (wpAny_pure (wpAny_bind (wpAny_bind ?_)))
 first | refine wpAny_bind (wpAny_typeNameOfWhole_itemiter T0 (wpAny_pure (wpAny_bind (wpAny_fieldsOf I0 rfl ?_)))) | refine wpAny_bind (wpAny_typeNameOf_itemiter T0 (wpAny_pure (wpAny_bind (wpAny_fieldsOf I0 rfl ?_))))
 simp only [zoD,if_true]
 show wpAny _ _ (if (Value.ref d == Value.none)=true then _ else _) _ _ s
 rw [if_neg (by simp)]; refine wpAny_bind (wpAny_pure (wpAny_bind (wpAny_dictEntries gd dd ?_)))
 rw [if_neg (by simp)]; refine wpAny_bind (wpAny_pure (wpAny_bind (wpAny_dictEpoch gd dd ?_)))
 rw [if_neg (by simp)]; refine wpAny_pure ?_
 simp only [show ¬ ((i:Int)<0) from by omega,if_false,Int.toNat_natCast,hx]; refine wpAny_bind ?_
 first | refine wpAny_bind (wpAny_typeNameOfWhole_itemiter T0 (wpAny_pure ?_)) | refine wpAny_bind (wpAny_typeNameOf_itemiter T0 (wpAny_pure ?_))
 show wpAny _ _ (setField (.ref it) 2 .none >>= _) _ _ s
 refine wpAny_bind (wpAny_setField I0 rfl (by simp) ?_)
 show wpAny _ _ (newExc (.type "StopIteration") [] >>= _) _ _ _
 refine wpAny_bind ?_; simp only [newExc,newTuple]
 refine wpAny_bind (wpAny_newObj_type ?_ (by size_fits)); refine wpAny_bind (m:=firstArgMember _ _) (wpAny_of_eq (a:=Value.none) (by first | rfl | (simp only [firstArgMember]; rfl)) (wpAny_newObj_type ?_ (by size_fits)))
 simp only [raiseNew]; refine wpAny_bind (wpAny_handled ?_)
 rw [show A.in1.handled=none from hh]; refine wpAny_bind (wpAny_pure (wpAny_throw ?_))
 refine wpAny_bind (wpAny_isInstance (b:=true) (T:="StopIteration") ⟨_,Heap.get?_push_size _ rfl,rfl⟩ isSubtype_stop ?_); exact wpAny_pure (q _ (((Heap.SameBut.update ..).extBut.push _).push _))
end
end Itm
namespace L2
open PySem PySem.Spec PyProof.Rows Zp
def Iti (a:Addr) (kvs:List (List Key × V)) (ep:Nat):It :=
  ⟨fun i H=>H a=some (.dE kvs ep)∧i<kvs.length,
   fun i H v H'=>∃ p b k x,H p=none∧v=.ref p∧kvs[i]?=some (k,x)∧H b=some (.tup (k.map kV))∧H'=upd H p (.tup [.ref b,x]),
   fun i H=>H a=some (.dE kvs ep)∧kvs.length≤i⟩
theorem ziO {P:Program} {w:World} {K:PySem.W.Frag} {elts:List Expr} {c:Nat} {pos:Pos} (a it:Addr) (kvs:List (List Key × V)) (ep:Nat):Turn P w K (.Tuple elts c pos) (Iti a kvs ep) [it] it
  (fun i h=>∃ ok ov,IsItemIter h it a i kvs.length ep ok ov) where
 mem:=by simp
 obj:=by
  rintro i h ⟨ok,ov,g⟩ d hd
  have e:d=it:=by simpa using hd
  subst e
  exact ⟨_,g,fun v z=>by cases z⟩
 keep:=by
  rintro i h h' ⟨ok,ov,g⟩ k
  exact ⟨ok,ov,k it (by simp) _ g⟩
 item:=by
  intro X hP hw hK hc i pins s σ H E I hf st hg
  subst hP hw hK
  obtain ⟨ok,ov,g⟩:=st; obtain ⟨hq,hi⟩:=hg; obtain ⟨z,hd,xs,rel,_,o,es,ho,hx,hdat,he⟩:=zek I.hok hq
  have hl:kvs.length=xs.length:=Paired.length rel
  have hs:es.size=kvs.length:=by
   have:=congrArg List.length he
   rw [List.length_map,Array.length_toList] at this; rw [this,hl]
  have hix:i<xs.length:=by rw [← hl]; exact hi
  have q:=PL.paired_get i rel (List.getElem?_eq_getElem hi) (List.getElem?_eq_getElem hix)
  have hk:es[i]?=some (entryOfKey (tupleKind (zbf X.prog X.w)) xs[i]):=by
   rw [entry_at he i,List.getElem?_eq_getElem hix]; rfl
  rw [← hs] at g
  refine Itm.next_items g ho hdat hk fun h' c1 c2 c3=>⟨_,rfl,?_⟩
  refine wpAny_letOwnedTupleGo_items (s:={ s with heap:=h' }) c1 fun h2 e1 e2=>?_
  have ext:=zia e2
  have kk:∀ d o,d ∉ [it]→s.heap.get? d=some o→h2.get? d=some o:=fun d o hd q=>by
   have hd':d≠it:=by simpa using hd
   exact ext d o hd' (c3 d o hd' q)
  have fr:H s.heap.objs.size=none:=I.hok.fresh (Nat.le_refl _)
  have pe:s.heap.objs.size≠it:=Nat.ne_of_gt (Heap.lt_size g)
  have tp:=ext _ _ pe c2
  have I2:Inv X pins σ (upd H s.heap.objs.size (.tup [.ref xs[i].2.1,kvs[i].2])) { s with heap:=h2 }:=I.turnedNew (t':=s.toks) (ch:=[it]) hf kk (Nat.le_refl _)
   ⟨by show 2≤sizeLine; exact Nat.le_of_lt (za6 (by decide)),[.ref xs[i].2.1,xs[i].2.2],.cons rfl (.cons q.2.2 .nil),⟨_,tp,rfl,_,rfl⟩⟩
  rw [hs] at e1
  refine ⟨.ref s.heap.objs.size,_,I2,rfl,⟨_,xs[i].2.1,kvs[i].1,kvs[i].2,fr,rfl,List.getElem?_eq_getElem hi,q.2.1,rfl⟩,⟨_,_,e1⟩,fun d hd=>?_⟩
  have e:d=it:=by simpa using hd
  subst e; rw [zo (Ne.symm pe)]; exact (hf d hd).1
 done:=by
  intro X hP hw hK hc i pins s σ H E I hf st hg
  subst hP hw hK
  obtain ⟨ok,ov,g⟩:=st; obtain ⟨hq,hi⟩:=hg; obtain ⟨z,hd,xs,rel,_,o,es,ho,hx,hdat,he⟩:=zek I.hok hq
  have hs:es.size=kvs.length:=by
   have:=congrArg List.length he
   rw [List.length_map,Array.length_toList] at this; rw [this,Paired.length rel]
  rw [← hs] at g
  refine Itm.stop_items (I.ok.hd hc) g ho hdat (Array.getElem?_eq_none (by omega)) fun h' k=>⟨rfl,?_⟩
  refine I.turnedL (t':=s.toks) (ch:=[it]) hf fun d o hd q=>?_
  exact k d o (by simpa using hd) q
 self:=fun A i s Q E st q=>by
  obtain ⟨ok,ov,g⟩:=st
  have hT:s.TypeIs (.ref it) "dict_itemiterator":=⟨_,g,rfl⟩
  refine wpAny_pyIter_slot hT PySem.F.slot_dict_itemiterator_iter (wpAny_call_entry PySem.F.slot_dict_itemiterator_iter hT Itm.entry_iter ?_ (PySem.F.args_dict_itemiterator_iter_1 _))
  show wpAny _ _ (ret (.ref it)) _ _ s
  exact wpAny_pure ⟨_,rfl,"dict_itemiterator",_,hT,PySem.F.slot_dict_itemiterator_next.lookup,q⟩
section
variable {X:Cx}
def zq6 (td:TE):TI:=fun σ H R=>td σ H fun x H1=>∃ a kvs ep,x=.ref a∧H1 a=some (.dE kvs ep)∧R (Iti a kvs ep) H1
theorem zl7 {o:Expr} {elts:List Expr} {c:Nat} {td:TE} {apos cpos tp:Pos} (ho:PE X o td) (hbase:attributeBase o "items" X.env (eval o X.env)=eval o X.env) (hline:(apos.endLine == cpos.line)=true) :
  PI X (.Tuple elts c tp) (.Call (.Attribute o "items" apos) [] [] cpos) (zq6 td):=by
 intro pins s σ H R I h
 refine wpAny_Call_method hbase rfl hline PySem.F.plainAttrs_dict PySem.F.slot_dict_items PySem.F.type_dict_items (thn (ho pins s σ H _ I h) fun u s1 ⟨x,H1,I1,rx,a,kvs,ep,ex,d,q1⟩=>?_)
 subst ex
 obtain rfl:u=Value.ref a:=rx
 obtain ⟨t1,t2⟩:=zkT I1 d; refine ⟨t1,t2,?_⟩; obtain ⟨z,hd,xs,rel,dd,ob,es,hob,hx,hdat,he⟩:=zek I1.hok d
 have hs:es.size=kvs.length:=by
  have:=congrArg List.length he
  rw [List.length_map,Array.length_toList] at this; rw [this,Paired.length rel]
 refine Calls.callWith_builtin rfl (PySem.evalArgs_none ?_); refine call_meetsIn PySem.F.slot_dict_items dd.typeIs PySem.F.entry_dict_items (PySem.F.args_dict_items_1 _) (Itm.meets_items hd) ⟨dd.typeIs,?_⟩
 have hob':(s1.heap.push { cls:=.type "dict_items",data:=.fields #[.ref a] }).get? a=some ob:=Heap.get?_push_of_some _ hob
 refine Itm.iter_items (s:={ s1 with heap:=s1.heap.push { cls:=.type "dict_items",data:=.fields #[.ref a] } }) (v:=s1.heap.objs.size) ⟨_,Heap.get?_push_size _ rfl,rfl,rfl⟩ hob' hdat ?_
 rw [hs]
 refine ⟨_,[(s1.heap.push { cls:=.type "dict_items",data:=.fields #[.ref a] }).objs.size],_,_,H1,rfl,I1.kept (t':=s1.toks) fun b u e=>Heap.get?_push_of_some _ (Heap.get?_push_of_some _ e),ziO a _ kvs ep,⟨_,_,Heap.get?_push_size _ rfl⟩,fun b hb=>?_,q1⟩
 have e:b=(s1.heap.push { cls:=.type "dict_items",data:=.fields #[.ref a] }).objs.size:=by simpa using hb
 have hb':s1.heap.objs.size≤b:=by rw [e,Heap.size_push]; omega
 exact I1.fpOk hb' (I1.hok.fresh hb')
end
end L2
namespace PL
open PySem L2
theorem zkS {K:PySem.W.Frag} {Hi:Hp} {a:Addr} {kvs:List (List Key × V)} {ep:Nat} {ds:List (D × D)} (h:Hi a=some (.dE kvs ep)) (r:ziJ K Hi kvs ds):ItD K Hi (Iti a kvs ep) (ds.map fun p=>.tup [p.1,p.2]):=by
 intro Hi' H' s1 s2
 have hq:H' a=some (.dE kvs ep):=(s1.trans s2.sub) _ _ h
 have hl:=zg r
 refine ⟨fun i d e=>?_,hq,by rw [List.length_map,hl]; exact Nat.le_refl _⟩
 rw [List.getElem?_map] at e
 cases hc:ds[i]? with
 | none=>rw [hc] at e; cases e
 | some q =>
  rw [hc] at e; cases e; obtain ⟨p,e1,e2⟩:=zaU r hc; refine ⟨⟨hq,(List.getElem?_eq_some_iff.mp e1).1⟩,?_⟩
  rintro v H'' ⟨np,b,k,x,hnp,rfl,ek,hb,rfl⟩
  rw [e1] at ek; cases ek; have ex:=Ext.new s2 hnp (.tup [.ref b,x]); refine ⟨_,ex,Den.mkT zh (.cons ?_ (.cons (e2.2.mono (s1.trans ex.hi)) .nil))⟩; rw [e2.1]; exact Den.mkT (ex.hi _ _ (s2.tups _ _ hb)) (zkQ _)
def zm (t:TE'):TI':=fun Γ Q=>t Γ fun d Γ1=>∃ ds,d=.dit ds∧Q (ds.map fun p=>.tup [p.1,p.2]) Γ1
theorem zkh {X:Cx} {o:Expr} {elts:List Expr} {c:Nat} {t:TE'} {apos cpos tp:Pos} (ho:PE' X o t) (hbase:attributeBase o "items" X.env (eval o X.env)=eval o X.env:=by rfl) (hline:(apos.endLine == cpos.line)=true:=by rfl):PI' X (.Tuple elts c tp) (.Call (.Attribute o "items" apos) [] [] cpos) (zm t):=by
 refine ⟨PI.weak (zl7 ho.h hbase hline) ?_⟩
 rintro σ H R ⟨W,Hi,Γ,Q',g,h,fin⟩
 refine ⟨W,Hi,Γ,_,g,h,?_⟩
 rintro v H1 ⟨Hi1,d,Γ1,s1,g1,den,ds,rfl,q⟩
 obtain ⟨a,kvs,ep,rfl,h1,h2⟩:=den.ditI; exact ⟨a,kvs,ep,rfl,g1.sub _ _ h1,fin _ H1 Hi1 Γ1 _ s1 g1 (zkS h1 h2) q⟩
instance {t:TA'} [MA t]:MI (zF t):=⟨fun Γ _ _ h q=>MA.mono (t:=t) _ _ _ (fun _ _ ⟨ds,e,z⟩=>⟨ds,e,h _ _ z⟩) q⟩
end PL
namespace PL
open PySem L2
section
variable {X:Cx}
def zse (i:Nat):TS':=fun N Γ=>∃ d b o,Γ[i]?=some (.bk d b o)∧N.rt (.val (d (.adr b))) Γ
theorem zoe (i:Nat) {x:Str} {p pos:Pos} (hN:X.N[i]?=some x:=by rfl) (hv:Vis X.env.scope x:=by first | exact Or.inl rfl | exact Or.inr (Or.inl rfl) | exact Or.inr (Or.inr rfl)) (hd:(x == ("__debug__":Str))=false:=by decide)
  (hcd:(x == ("__classdict__":Str))=false:=by decide):PS' X (.Return (some (.Name x p)) pos) (zse i):=by
 refine ⟨PS.weak (zig (zcq (i:=i) (pos:=p) hN hv hd hcd)) ?_⟩
 rintro N2 σ H ⟨W,Hi,Γ,N,g,⟨d,b,o,e,h⟩,l⟩
 obtain ⟨v,hv,dv⟩:=(g.bk i _ _ _ e).val; exact ⟨v,hv,l.rt v σ H Hi Γ (.val (d (.adr b))) (zaW.refl _) g dv h⟩
end
section
variable {P:Program} {w:World} {K:PySem.W.Frag} {mg:Str→Option Value} {base:Heap}
theorem Fun.okK {x qual:Str} {st:Stmt} {f:Addr} {fd:FuncData} {N ps:List Str} {k:Nat} {sp:Sp'} (F:Fun K x qual st f fd) (S:FnScope N ps (zd st)) (len:∀ ds Q,sp ds Q→ds.length=ps.length)
  (hbody:∀ (cdv:Value) (A:Around) (outer:List Env) (s:Shared) (H:Hp) (E:XK),Room k (A.deeper (PyProof.Rows.envOfC qual (zd st) s.heap.objs.size f cdv))→∀ ds Q,sp ds Q →
   ∃ t,PSs' (ze4 CX0 P w K mg base N qual (zd st) f cdv A outer s H E).nox (zaK st) t∧t { nx:=fun _=>Q (.val .non),rt:=fun r (Γ:Sts)=>∃ (i:Nat) (d:D→D) (b:Addr) (o:OD),Γ[i]?=some (Slot.bk d b o)∧r=.val (d (.adr b))∧Q (.bk d o) } (zca N ds)):FnOk P w K mg base CX0 (k+1) f fd ps (zh7 K sp):=by
 refine F.ok S (fun vs H Q E h=>?_) (fun cdv A outer s H vs Q E hr h=>?_)
 ·obtain ⟨Hi,ds,Q',_,dl,h,_⟩:=h
  rw [zg dl]; exact len ds Q' h
 obtain ⟨Hi,ds,Q',sb,dl,h,fin⟩:=h; obtain ⟨t,h1,h2⟩:=hbody cdv A outer s H E hr ds Q' h
 have hlen:ds.length=ps.length:=len ds Q' h
 have hpl:ps.length≤N.length:=by have:=congrArg List.length S.pre; rw [List.length_take] at this; omega
 refine ⟨_,h1.h,⟨H,Hi,[]⟩,Hi,zca N ds,_,zea hlen hpl sb dl,h2,?_⟩
 refine ⟨fun σ' H' Hi' Γ' s1 g1 q=>?_,fun _ _ _ _ _ _ q=>q.elim,fun _ _ _ _ _ _ q=>q.elim,fun v σ' H' Hi' Γ' r s1 g1 ro q=>?_⟩
 ·exact fin Hi' H' .non (.val .non) ⟨s1,fun b o e=>g1.keep b o e (by simp),g1.fz,fun b o e=>g1.fro b o e⟩ .non q
 ·obtain ⟨i,d,b,o,e,rfl,q⟩:=q
  have B:=g1.bk i _ _ _ e
  exact fin Hi' H' v (.bk d o) ⟨s1,fun b o e=>g1.keep b o e (by simp),g1.fz,fun b o e=>g1.fro b o e⟩ ⟨b,ro,B.hol,B.hi,B.h0 (by simp),B.at_⟩ q
theorem Df.okK {k:Nat} {x:Str} {ps:List Str} {sp:Sp'} {st:Stmt} {N:List Str} (d:Df K mg x st ps) (S:FnScope N ps (zd st)) (len:∀ ds Q,sp ds Q→ds.length=ps.length)
  (hbody:∀ (f:Addr) (cdv:Value) (A:Around) (outer:List Env) (s:Shared) (H:Hp) (E:XK),Room k (A.deeper (PyProof.Rows.envOfC x (zd st) s.heap.objs.size f cdv))→∀ ds Q,sp ds Q →
   ∃ t,PSs' (ze4 CX0 P w K mg base N x (zd st) f cdv A outer s H E).nox (zaK st) t∧t { nx:=fun _=>Q (.val .non),rt:=fun r (Γ:Sts)=>∃ (i:Nat) (d:D→D) (b:Addr) (o:OD),Γ[i]?=some (Slot.bk d b o)∧r=.val (d (.adr b))∧Q (.bk d o) } (zca N ds)):Fn P w K mg base (k+1) x ps sp:=by
 obtain ⟨f,fd,F,b,m⟩:=d.ex; obtain ⟨oc,od,kV,doc,pm,an,cdv,ct,osl,e,lk,_⟩:=F.ex; exact ⟨f,fd,PL.Fun.okK F S len (hbody f),b,F.kp,m,oc,od,osl,lk⟩
end
end PL
namespace M34
open PySem L2 PL
inductive Deed where
 | ch (day:Int) (c s:D) | lat (n:List Nat) (i day:Int) | ins (n:List Nat) (i:Int) (c:D) | drp (n:List Nat) (i:Int)
def ztu:List Nat:=[99,104,97,110,103,101]
def zqU:List Nat:=[108,97,116,101,114]
def zq5:List Nat:=[105,110,115,116,101,97,100]
def zre:List Nat:=[100,114,111,112]
def deD:Deed→D
 | .ch d c s=>.tup [.str ztu,.int d,c,s]
 | .lat n i d=>.tup [.str zqU,.str n,.int i,.int d]
 | .ins n i c=>.tup [.str zq5,.str n,.int i,c]
 | .drp n i=>.tup [.str zre,.str n,.int i]
structure Row where
 nm:List Nat
 num:Int
 day:Int
 c:D
 s:D
def Row.is (r:Row) (n:List Nat) (i:Int):Bool:=decide (r.nm=n∧r.num=i)
def zgE (n:List Nat) (i:Int):D:=.tup [.str n,.int i]
def zdC (r:Row):D × D:=(zgE r.nm r.num,.tup [.int r.day,r.c,r.s])
def zjW (r:Row):D:=.tup [.int r.day,.str r.nm,.int r.num,r.c,r.s]
def zcV (rs:List Row) (n:List Nat) (i:Int):Option Row:=rs.find? fun r=>r.is n i
def zhm (rs:List Row) (r:Row):List Row:=if (zcV rs r.nm r.num).isSome=true then rs.map (fun x=>if x.is r.nm r.num=true then r else x) else rs ++ [r]
def zhn (rs:List Row) (n:List Nat) (i:Int):List Row:=rs.filter fun r=>!r.is n i
def zej (rs:List Row) (made:Int) (n:List Nat) (i:Int) (f:Row→List Row):List Row:=match zcV rs n i with
 | none=>rs
 | some r=>if made<r.day then f r else rs
def take (rs:List Row) (nm:List Nat) (made num:Int):Deed→List Row
 | .ch d c s=>zhm rs ⟨nm,num,d,c,s⟩
 | .lat n i d=>zej rs made n i fun r=>zhm rs { r with day:=d }
 | .ins n i c=>zej rs made n i fun r=>zhm rs { r with c:=c }
 | .drp n i=>zej rs made n i fun _=>zhn rs n i
def za2 (nm:List Nat) (made:Int):List Row→Nat→List Deed→List Row
 | rs,_,[]=>rs
 | rs,k,d :: ds=>za2 nm made (take rs nm made k d) (k+1) ds
theorem zdz {n m:List Nat} {i j:Int}:zgE n i=zgE m j↔n=m∧i=j:=by
 unfold zgE; constructor
 ·intro h
  injection h with h
  simp only [List.cons.injEq,D.str.injEq,D.int.injEq,and_true] at h; exact h
 ·rintro ⟨rfl,rfl⟩
  rfl
def zs2 (n:List Nat) (i:Int):List Key:=[.inr (st n),.inl i]
theorem zdh (n:List Nat) (i:Int):∀ rs:List Row,zdB (rs.map zdC) (zgE n i)=(zcV rs n i).map fun r=>.tup [.int r.day,r.c,r.s]
 | []=>rfl
 | r :: rs=>by
  rw [List.map_cons]
  by_cases e:r.nm=n∧r.num=i
  ·rw [zgS (show (zdC r).1=zgE n i from zdz.mpr e)]
   have:r.is n i=true:=by simpa [Row.is] using e
   simp [zcV,this,zdC]
  ·rw [zgT (show ¬ (zdC r).1=zgE n i from fun z=>e (zdz.mp z)),zdh n i rs]
   have:r.is n i=false:=by simpa [Row.is] using e
   simp [zcV,this]
theorem zib {rs:List Row} {n:List Nat} {i:Int} {r:Row} (h:zcV rs n i=some r):r.nm=n∧r.num=i:=by
 have:=List.find?_some h
 simpa [Row.is] using this
theorem zhr (rs:List Row) (r:Row):zpy (rs.map zdC) (zgE r.nm r.num) (.tup [.int r.day,r.c,r.s])=(zhm rs r).map zdC:=by
 unfold zpy zhm; rw [zdh,Option.isSome_map]; split
 ·rw [List.map_map,List.map_map]
  refine List.map_congr_left fun x _=>?_
  simp only [Function.comp]
  by_cases e:x.nm=r.nm∧x.num=r.num
  ·rw [if_pos (show (zdC x).1=zgE r.nm r.num from zdz.mpr e),if_pos (by simpa [Row.is] using e)]
   show ((zdC x).1,_)=zdC r
   rw [show (zdC x).1=zgE r.nm r.num from zdz.mpr e]
   rfl
  ·rw [if_neg (show ¬ (zdC x).1=zgE r.nm r.num from fun z=>e (zdz.mp z)),if_neg (by simpa [Row.is] using e)]
 ·rw [List.map_append]
  rfl
theorem ziB (n:List Nat) (i:Int):∀ rs:List Row,zjp (rs.map zdC) (zgE n i)=(zhn rs n i).map zdC
 | []=>rfl
 | r :: rs=>by
  have ih:=ziB n i rs
  unfold zjp zhn at ih ⊢
  rw [List.map_cons,List.filter_cons,List.filter_cons]
  by_cases e:r.nm=n∧r.num=i
  ·rw [if_neg (by simp [show (zdC r).1=zgE n i from zdz.mpr e]),if_neg (by simp [Row.is,e]),ih]
  ·have hf:r.is n i=false:=by simpa [Row.is] using e
   rw [if_pos (by simp [show ¬ (zdC r).1=zgE n i from fun z=>e (zdz.mp z)]),if_pos (by simp [hf]),List.map_cons,ih]
theorem zfy (rs:List Row) (r:Row):(zhm rs r).length≤rs.length+1:=by
 unfold zhm; split
 ·rw [List.length_map]; omega
 ·simp
theorem zlG (rs:List Row) (nm:List Nat) (made num:Int) (d:Deed):(take rs nm made num d).length≤rs.length+1:=by
 have f:∀ n i g,(∀ r,(g r:List Row).length≤rs.length+1)→(zej rs made n i g).length≤rs.length+1:=fun n i g h=>by
  unfold zej; split
  ·omega
  ·split
   ·exact h _
   ·omega
 cases d with
 | ch d c s=>exact zfy _ _
 | lat n i d=>exact f _ _ _ fun r=>zfy _ _
 | ins n i c=>exact f _ _ _ fun r=>zfy _ _
 | drp n i=>exact f _ _ _ fun r=>Nat.le_trans (List.length_filter_le _ _) (by omega)
theorem zcX (nm:List Nat) (made:Int):∀ (ds:List Deed) (rs:List Row) (k:Nat),(za2 nm made rs k ds).length≤rs.length+ds.length
 | [],rs,k=>by simp [za2]
 | d :: ds,rs,k=>by
  have h1:=zcX nm made ds (take rs nm made k d) (k+1); have h2:=zlG rs nm made k d; simp only [za2,List.length_cons]; omega
theorem zdE (nm:List Nat) (made:Int) (d:Deed):∀ (ds:List Deed) (rs:List Row) (k:Nat),za2 nm made rs k (ds ++ [d])=take (za2 nm made rs k ds) nm made ((k+ds.length:Nat):Int) d
 | [],rs,k=>by simp [za2]
 | x :: ds,rs,k=>by
  simp only [List.cons_append,za2,List.length_cons]
  rw [zdE nm made d ds,show k+1+ds.length=k+(ds.length+1) by omega]
structure La where
 nm:List Nat
 day:Int
 ds:List Deed
def zb3 (rs:List Row) (as:List La):List Row:=as.foldl (fun r a=>za2 a.nm a.day r 0 a.ds) rs
theorem zhT (rs:List Row) (as:List La) (a:La):zb3 rs (as ++ [a])=za2 a.nm a.day (zb3 rs as) 0 a.ds:=by
 unfold zb3; rw [List.foldl_append]; rfl
def zcF (as:List La):Nat:=(as.map fun a=>a.ds.length).sum
theorem zeb (as:List La):∀ rs:List Row,(zb3 rs as).length≤rs.length+zcF as:=by
 induction as with
 | nil=>intro rs; simp [zb3,zcF]
 | cons a as ih =>
  intro rs; have h1:=ih (za2 a.nm a.day rs 0 a.ds); have h2:=zcX a.nm a.day a.ds rs 0; simp only [zb3,List.foldl_cons,zcF,List.map_cons,List.sum_cons] at h1 ⊢; omega
def Deed.mapC (f:D→D):Deed→Deed
 | .ch d c s=>.ch d (f c) s
 | .lat n i d=>.lat n i d
 | .ins n i c=>.ins n i (f c)
 | .drp n i=>.drp n i
def Row.mapC (f:D→D) (r:Row):Row:={ r with c:=f r.c }
def La.mapC (f:D→D) (a:La):La:=⟨a.nm,a.day,a.ds.map (Deed.mapC f)⟩
section
variable (f:D→D)
theorem zeB (n:List Nat) (i:Int):∀ rs:List Row,zcV (rs.map (Row.mapC f)) n i=(zcV rs n i).map (Row.mapC f)
 | []=>rfl
 | r :: rs=>by
  have ih:=zeB n i rs
  unfold zcV at ih ⊢
  rw [List.map_cons,List.find?_cons,List.find?_cons,show (r.mapC f).is n i=r.is n i from rfl]
  cases r.is n i with
  | true=>rfl
  | false=>exact ih
theorem zfx (rs:List Row) (r:Row):zhm (rs.map (Row.mapC f)) (r.mapC f)=(zhm rs r).map (Row.mapC f):=by
 unfold zhm
 rw [show (r.mapC f).nm=r.nm from rfl,show (r.mapC f).num=r.num from rfl,zeB,Option.isSome_map]
 split
 ·rw [List.map_map,List.map_map]
  refine List.map_congr_left fun x _=>?_
  simp only [Function.comp]
  rw [show (x.mapC f).is r.nm r.num=x.is r.nm r.num from rfl]
  split <;> rfl
 ·rw [List.map_append]
  rfl
theorem zjY (rs:List Row) (n:List Nat) (i:Int):zhn (rs.map (Row.mapC f)) n i=(zhn rs n i).map (Row.mapC f):=by
 unfold zhn; rw [List.filter_map]; rfl
theorem zeW {rs:List Row} {made:Int} {n:List Nat} {i:Int} {g g':Row→List Row} (h:∀ r,g' (r.mapC f)=(g r).map (Row.mapC f)):zej (rs.map (Row.mapC f)) made n i g'=(zej rs made n i g).map (Row.mapC f):=by
 unfold zej; rw [zeB]
 cases zcV rs n i with
 | none=>rfl
 | some r =>
  simp only [Option.map_some]
  rw [show (r.mapC f).day=r.day from rfl]
  split
  ·exact h r
  ·rfl
theorem zlF (rs:List Row) (nm:List Nat) (made num:Int) (d:Deed):take (rs.map (Row.mapC f)) nm made num (d.mapC f)=(take rs nm made num d).map (Row.mapC f):=by
 cases d with
 | ch d c s=>exact zfx f rs ⟨nm,num,d,c,s⟩
 | lat n i d=>exact zeW f fun r=>zfx f rs { r with day:=d }
 | ins n i c=>exact zeW f fun r=>zfx f rs { r with c:=c }
 | drp n i=>exact zeW f fun r=>zjY f rs n i
theorem zef (nm:List Nat) (made:Int):∀ (ds:List Deed) (rs:List Row) (k:Nat),za2 nm made (rs.map (Row.mapC f)) k (ds.map (Deed.mapC f))=(za2 nm made rs k ds).map (Row.mapC f)
 | [],rs,k=>rfl
 | d :: ds,rs,k=>by
  simp only [List.map_cons,za2]; rw [zlF,zef nm made ds]
theorem zjq (as:List La):∀ rs:List Row,zb3 (rs.map (Row.mapC f)) (as.map (La.mapC f))=(zb3 rs as).map (Row.mapC f):=by
 induction as with
 | nil=>intro rs; rfl
 | cons a as ih =>
  intro rs; have h1:=zef f a.nm a.day a.ds rs 0; have h2:=ih (za2 a.nm a.day rs 0 a.ds)
  unfold zb3 at h2 ⊢
  rw [List.map_cons,List.foldl_cons,List.foldl_cons,show (a.mapC f).ds=a.ds.map (Deed.mapC f) from rfl,show (a.mapC f).nm=a.nm from rfl,show (a.mapC f).day=a.day from rfl,h1,h2]
end
def zf4 (Pc Ps:D→Prop):Deed→Prop
 | .ch _ c s=>Pc c∧Ps s
 | .ins _ _ c=>Pc c
 | _=>True
def zcl (Pc Ps:D→Prop) (r:Row):Prop:=Pc r.c∧Ps r.s
section
variable {Pc Ps:D→Prop}
theorem zfz {rs:List Row} {r:Row} (h:∀ x ∈ rs,zcl Pc Ps x) (hr:zcl Pc Ps r):∀ x ∈ zhm rs r,zcl Pc Ps x:=fun x hx=>by
 unfold zhm at hx; split at hx
 ·obtain ⟨y,hy,rfl⟩:=List.mem_map.mp hx
  split
  ·exact hr
  ·exact h y hy
 ·rcases List.mem_append.mp hx with z | z
  ·exact h x z
  ·rw [List.mem_singleton.mp z]; exact hr
theorem zeX {rs:List Row} {made:Int} {n:List Nat} {i:Int} {g:Row→List Row} (h:∀ x ∈ rs,zcl Pc Ps x) (hg:∀ r ∈ rs,∀ x ∈ g r,zcl Pc Ps x):∀ x ∈ zej rs made n i g,zcl Pc Ps x:=fun x hx=>by
 unfold zej at hx
 cases e:zcV rs n i with
 | none=>rw [e] at hx; exact h x hx
 | some r =>
  rw [e] at hx
  dsimp only at hx
  split at hx
  ·exact hg r (List.mem_of_find?_eq_some e) x hx
  ·exact h x hx
theorem take_all {rs:List Row} {nm:List Nat} {made num:Int} {d:Deed} (h:∀ x ∈ rs,zcl Pc Ps x) (hd:zf4 Pc Ps d):∀ x ∈ take rs nm made num d,zcl Pc Ps x:=by
 cases d with
 | ch d c s=>exact zfz h hd
 | lat n i d=>exact zeX h fun r hr=>zfz h (h r hr)
 | ins n i c=>exact zeX h fun r hr=>zfz h ⟨hd,(h r hr).2⟩
 | drp n i=>exact zeX h fun r hr x hx=>h x (List.mem_filter.mp hx).1
theorem zeg {nm:List Nat} {made:Int}:∀ (ds:List Deed) (rs:List Row) (k:Nat),(∀ x ∈ rs,zcl Pc Ps x)→(∀ d ∈ ds,zf4 Pc Ps d)→∀ x ∈ za2 nm made rs k ds,zcl Pc Ps x
 | [],rs,k,h,_=>h
 | d :: ds,rs,k,h,hd=>zeg ds _ _ (take_all h (hd d List.mem_cons_self)) fun x hx=>hd x (List.mem_cons_of_mem _ hx)
theorem zjr (as:List La):∀ rs:List Row,(∀ x ∈ rs,zcl Pc Ps x)→(∀ a ∈ as,∀ d ∈ a.ds,zf4 Pc Ps d)→∀ x ∈ zb3 rs as,zcl Pc Ps x:=by
 induction as with
 | nil=>intro rs h _; exact h
 | cons a as ih =>
  intro rs h hd
  exact ih _ (zeg a.ds rs 0 h (hd a List.mem_cons_self)) fun b hb=>hd b (List.mem_cons_of_mem _ hb)
end
def zlJ (rs:List Row):List Row:=if rs.length<2 then rs else (So.run (ltI (rs.map Row.day)) (PySem.W.kas_sort rs.length)).toList.filterMap fun i=>rs[i]?
def wcD (rs:List Row):List D:=zga (ltI (rs.map Row.day)) (rs.map zjW)
theorem zjN (g:Row→D) (rs:List Row):zga (ltI (rs.map Row.day)) (rs.map g)=(zlJ rs).map g:=by
 unfold zga zlJ; rw [List.length_map]; split
 ·rfl
 ·rename_i hlen
  have hm:=(zdF (zoE (rs.map Row.day)) (by omega:1≤rs.length)).2
  rw [List.map_filterMap]; generalize (So.run (ltI (rs.map Row.day)) (PySem.W.kas_sort rs.length)).toList=L at hm
  induction L with
  | nil=>rfl
  | cons i L ih =>
   have hi:=hm i List.mem_cons_self; rw [List.map_cons,List.filterMap_cons,List.getElem?_eq_getElem hi]; simp only [Option.map_some]
   rw [ih fun j hj=>hm j (List.mem_cons_of_mem _ hj)]
   congr 1
   simp [List.getD,List.getElem?_eq_getElem hi]
theorem srt_mem {rs:List Row} {r:Row} (h:r ∈ zlJ rs):r ∈ rs:=by
 unfold zlJ at h; split at h
 ·exact h
 ·obtain ⟨i,_,e⟩:=List.mem_filterMap.mp h
  exact List.mem_of_getElem? e
theorem zlH (f:D→D) (rs:List Row):zlJ (rs.map (Row.mapC f))=(zlJ rs).map (Row.mapC f):=by
 unfold zlJ
 have e:(rs.map (Row.mapC f)).map Row.day=rs.map Row.day:=by rw [List.map_map]; rfl
 rw [List.length_map,e]; split
 ·rfl
 ·rw [List.map_filterMap]
  congr 1
  funext i
  rw [List.getElem?_map]
theorem zlI (rs:List Row):(zlJ rs).length=rs.length:=by
 have e:=congrArg List.length (zjN zjW rs); rw [List.length_map] at e; rw [← e]; unfold zga; rw [List.length_map]; split
 ·rw [List.length_map]
 ·rw [List.length_map]
  exact (zdF (zoE (rs.map Row.day)) (by omega)).1
theorem zfU {f:D→D→Option Bool}:∀ {xs:List D},(∀ x ∈ xs,f x x=some true)→eqL f xs xs=some true
 | [],_=>rfl
 | x :: xs,h=>by simp [eqL,h x List.mem_cons_self,zfU fun y hy=>h y (List.mem_cons_of_mem _ hy)]
def zdj (n:Nat) (d:D):Prop:=eqD n d d=some true
theorem zb6 (n:Nat) (l:List Nat):zdj (n+1) (.str l):=by unfold zdj; rw [zk1]; simp
theorem zfw (n:Nat) (i:Int):zdj (n+1) (.int i):=by unfold zdj; simp [eqD,eqS]
theorem zlP (n:Nat):zdj n .non:=by unfold zdj; exact zpi n
theorem zb5 {n:Nat} {ds:List D} (h:∀ d ∈ ds,zdj n d):zdj (n+1) (.tup ds):=by
 unfold zdj; exact zfU h
theorem zh9 {n:Nat} {ds:List D} (h:∀ d ∈ ds,zdj n d):zdj (n+1) (.lst ds):=by
 unfold zdj
 show (if _=_ then eqL (eqD n) ds ds else some false)=_
 rw [if_pos rfl]; exact zfU h
end M34
namespace K34
open PySem L2 Lb PL M34
def top (i:Nat):Stmt:=PySem.Challenge.pw_codemend_k34_whole_taken_back.main.body.getD i (.Pass ⟨0,0,0,0⟩)
abbrev zeo:Stmt:=top 2
abbrev zcM:Stmt:=top 3
abbrev za7:Stmt:=top 4
abbrev zds:Stmt:=top 5
abbrev zhl:Stmt:=top 6
abbrev zb0:Stmt:=top 7
abbrev zdb:Stmt:=top 16
abbrev zeA:Stmt:=top 20
abbrev zda:Stmt:=top 21
abbrev zcP:Stmt:=top 30
abbrev zcf:Stmt:=top 31
abbrev zd2:Stmt:=top 32
abbrev zd3:Stmt:=top 33
abbrev zcA:Stmt:=top 34
abbrev zc4:Stmt:=top 35
abbrev zc3:Stmt:=top 36
abbrev zdG:Stmt:=top 37
abbrev zd4:Stmt:=top 38
abbrev zd1:Stmt:=top 39
abbrev zcN:Stmt:=top 40
abbrev zcO:Stmt:=top 41
abbrev zdt:Stmt:=top 42
abbrev zba:Stmt:=top 43
abbrev zcu:Stmt:=top 44
abbrev zd0:Stmt:=top 45
abbrev ze6:Stmt:=top 46
abbrev zbU:Stmt:=zcx (top 19) 0
abbrev zb9:Stmt:=zcx (top 19) 1
abbrev zbV:Stmt:=zcx (top 19) 2
abbrev zbL:Stmt:=zcx (top 19) 4
abbrev zaO:Stmt:=zcx (top 19) 5
abbrev zbS:Stmt:=zcx (top 24) 0
abbrev zbT:Stmt:=zcx (top 25) 0
abbrev zbO:Stmt:=zcx (top 26) 0
abbrev zbc:Stmt:=zcx (top 27) 0
abbrev zbW:Stmt:=zcx (top 28) 0
structure Cs where
 Book:Addr
 Swap:Addr
 Read:Addr
 PutIn:Addr
 LeaveOut:Addr
 Anew:Addr
structure CF (K:PySem.W.Frag) (T:Cs):Prop where
 cl:Cls K T.Book
 naT:zaX K T.Book "tree"
 naP:zaX K T.Book "past"
 iR:InsT K T.Read
 iS:InsT K T.Swap
 iP:InsT K T.PutIn
 iL:InsT K T.LeaveOut
 iA:InsT K T.Anew
 nRp:zaX K T.Read "place"
 nRw:zaX K T.Read "words"
 nSp:zaX K T.Swap "place"
 nSo:zaX K T.Swap "old"
 nSn:zaX K T.Swap "new"
 nPp:zaX K T.PutIn "place"
 nPn:zaX K T.PutIn "node"
 nLp:zaX K T.LeaveOut "place"
 nAp:zaX K T.Anew "place"
 kRR:PySem.W.kitOne K (.ref T.Read) (.ref T.Read)=some true
 kSR:PySem.W.kitOne K (.ref T.Swap) (.ref T.Read)=some false
 kPR:PySem.W.kitOne K (.ref T.PutIn) (.ref T.Read)=some false
 kLR:PySem.W.kitOne K (.ref T.LeaveOut) (.ref T.Read)=some false
 kAR:PySem.W.kitOne K (.ref T.Anew) (.ref T.Read)=some false
 kSS:PySem.W.kitOne K (.ref T.Swap) (.ref T.Swap)=some true
 kPS:PySem.W.kitOne K (.ref T.PutIn) (.ref T.Swap)=some false
 kLS:PySem.W.kitOne K (.ref T.LeaveOut) (.ref T.Swap)=some false
 kAS:PySem.W.kitOne K (.ref T.Anew) (.ref T.Swap)=some false
 kPP:PySem.W.kitOne K (.ref T.PutIn) (.ref T.PutIn)=some true
 kLP:PySem.W.kitOne K (.ref T.LeaveOut) (.ref T.PutIn)=some false
 kAP:PySem.W.kitOne K (.ref T.Anew) (.ref T.PutIn)=some false
 kLL:PySem.W.kitOne K (.ref T.LeaveOut) (.ref T.LeaveOut)=some true
 kAL:PySem.W.kitOne K (.ref T.Anew) (.ref T.LeaveOut)=some false
def zpt (l:List Nat):Prop:=1≤l.length∧l.length≤8∧∀ c,c ∈ l→c ∈ zes
structure Ent where
 nm:List Nat
 day:Int
 oth:Option (List Nat)
abbrev Act:=Ent × List Deed
def zkp:Option (List Nat)→D
 | none=>.non
 | some l=>.str l
def zci (a:Act):D:=.tup [.str a.1.nm,.int a.1.day,zkp a.1.oth,.tup (a.2.map deD)]
def zbI (a:Act):D:=.tup [.str a.1.nm,.int a.1.day,zkp a.1.oth,.lst (a.2.map deD)]
def bkF (T:Cs) (t:D):D→D:=fun z=>.obj T.Book [("tree",t),("past",z)]
def bkD (T:Cs) (t:D) (es:List Act):D:=.obj T.Book [("tree",t),("past",.lst (es.map zci))]
def nms (es:List Act):List (List Nat):=es.map (·.1.nm)
def chg:List Nat:=[99,104,97,110,103,101]
def zhW (ah:List (List Nat)) (d:D):Prop:=∃ k x r,d=.tup (.str k :: x :: r)∧(k=chg∨(k≠chg∧∃ n,n ∈ ah∧x=.str n))
def zmz (a:Act):La:=⟨a.1.nm,a.1.day,a.2⟩
def stp (zW:Int) (s:List La × List (List Nat)) (a:Act):List La × List (List Nat) :=
 if a.1.day≤zW∧a.1.nm ∉ s.2 then (zmz a :: s.1,s.2 ++ a.1.oth.toList) else s
def zjx (zW:Int) (rs:List Act):List La × List (List Nat):=rs.foldl (stp zW) ([],[])
def liv (zW:Int) (es:List Act):List La:=(zjx zW es.reverse).1
def zfc (zW:Int) (es:List Act):List (List Nat):=(liv zW es).map (·.nm)
def zbm:Sp':=fun ds Q=>∃ (ns:List Int) (k:Int),ds=[.lst (ns.map .int),.int k]∧0≤k∧ns.length≤200∧∀ c:Int,Q (.val (.int c))
def zcK:Sp':=fun ds Q=>∃ l y,ds=[.str l,.str y]∧l.length≤1000∧Q (.val (.bl (l.all fun c=>decide (c ∈ y))))
def zdZ:Sp':=fun ds Q=>∃ l,ds=[.str l]∧zpt l∧Q (.val (.bl true))
def zdn:Sp':=fun ds Q=>∃ dl ah,ds=[.lst dl]∧dl.length≤100∧(∀ d,d ∈ dl→zhW ah d)∧∀ ns:List (List Nat),ns.length≤100→(∀ n,n ∈ ns→n ∈ ah)→Q (.val (.lst (ns.map .str)))
def zm8 (es:List Act) (nm:List Nat) (day:Int):Prop:=es.length≤100∧zpt nm∧nm ∉ nms es∧∀ e,e ∈ es→e.1.day≤day
def zbr (T:Cs):Sp':=fun ds Q=>∃ (t:D) (es:List Act) (nm:List Nat) (day:Int) (ns:List (List Nat)),ds=[bkD T t es,.str nm,.int day,.lst (ns.map .str)]∧zm8 es nm day∧ns.length≤100∧(∀ n,n ∈ ns→n ∈ nms es)∧Q (.val .non)
def zdq (T:Cs):SpB:=fun d xs ds Q=>∃ (t:D) (es:List Act) (nm:List Nat) (day:Int) (dl:List Deed),d=bkF T t∧xs=es.map zci∧ds=[.str nm,.int day,.lst (dl.map deD)]∧zm8 es nm day∧dl.length≤100∧(∀ x,x ∈ dl→zhW (nms es) (deD x))∧Q .non ((es ++ [((⟨nm,day,none⟩:Ent),dl)]).map zci)
def zc1 (T:Cs):SpB:=fun d xs ds Q=>∃ (t:D) (es:List Act) (nm:List Nat) (day:Int) (o:List Nat),d=bkF T t∧xs=es.map zci∧ds=[.str nm,.int day,.str o]∧zm8 es nm day∧o ∈ nms es∧Q .non ((es ++ [((⟨nm,day,some o⟩:Ent),([]:List Deed))]).map zci)
def zc2 (T:Cs):Sp':=fun ds Q=>∃ t es,ds=[bkD T t es]∧es.length≤100∧Q (.val (.lst (es.map zbI)))
def laD (a:La):D:=.tup [.str a.nm,.int a.day,.lst (a.ds.map deD)]
def zbY (T:Cs):Sp':=fun ds Q=>∃ t es zW,ds=[bkD T t es,.int zW]∧es.length≤100∧Q (.own (.lst ((liv zW es).map laD)))
def zcb (T:Cs):Sp':=fun ds Q=>∃ t es zW,ds=[bkD T t es,.int zW]∧es.length≤100∧Q (.own (.lst ((zfc zW es).map .str)))
instance:MSp zbm:=⟨fun _ _ _ h ⟨ns,k,e,a,b,q⟩=>⟨ns,k,e,a,b,fun c=>h _ (q c)⟩⟩
instance {T:Cs}:MSp (zcb T):=⟨fun _ _ _ h ⟨t,es,zW,e,a,q⟩=>⟨t,es,zW,e,a,h _ q⟩⟩
theorem small {n:Nat} (h:n≤1000):n≤sizeLine:=Nat.le_of_lt (za6 h)
theorem zkY {Q:D→Prop} {l:List Nat} {ms:List (List Nat)} (h:Q (.bl (decide (l ∈ ms)))):zpw (.str l) (.lst (ms.map .str)) Q:=.inr (.inr ⟨l,ms,rfl,.inr rfl,h⟩)
theorem zfl {Q:D→Prop} {l:List Nat} {ms:List (List Nat)} (h:Q (.bl (!decide (l ∈ ms)))):zfA (.str l) (.lst (ms.map .str)) Q:=.inr (.inr ⟨l,ms,rfl,.inr rfl,h⟩)
theorem lkP {t z:D}:List.lookup (Str.ofString "past") [(Str.ofString "tree",t),(Str.ofString "past",z)]=some z:=rfl
theorem zaZ {α:Type} {l:List α} {i:Nat} {a:α} (h:l[i]?=some a):l.take (i+1)=l.take i ++ [a]:=by
 rw [List.take_add_one,h]; rfl
theorem take_all {α:Type} (l:List α):l.take l.length=l:=List.take_length
section
variable {P:Program} {w:World} {K:PySem.W.Frag} {mg:Str→Option Value} {base:Heap} {T:Cs}
theorem zgV (y:List Nat) (Q:List D→Prop):∀ (l:List Nat) (acc:List Bool) (s0:Slot),Q ((acc ++ l.map fun c=>decide (c ∈ y)).map .bl) →
  zee (zp 0) zbk (zbh zpw (zaa 0) (zaa 1)) Q (l.map fun c=>.str [c]) (acc.map .bl) [s0,.val (.str y)]
 | [],acc,s0,h=>by simpa [zee] using h
 | c :: l,acc,s0,h=>by
  have ih:=zgV y Q l (acc ++ [decide (c ∈ y)]) (.val (.str [c])) (by simpa using h)
  simpa [zee,vo,voS,zp,zbk,zbh,zaa] using ih
theorem zhh:FnScope ["text","signs"] ["text","signs"] (zd zdb):=⟨rfl,rfl,rfl,by decide +kernel,rfl,by decide +kernel,by decide +kernel⟩
theorem zhE (d:Df K mg "has_only" zdb ["text","signs"]) (z_all:mg "all"=none):Fn P w K mg base 1 "has_only" ["text","signs"] zcK:=by
 refine d.ok zhh (fun ds Q h=>?_) (fun f cdv A outer s H E hr ds Q h=>⟨_,(zf (zY (zaT (ztz rfl) z_all PyProof.Rows.boot_all (za (zbt (zcg (fsc:=zd zdb) (N:=["text","signs"]) (N':=["sign","signs"]) (src:=[none,some 1]) (by refine ⟨rfl,?_,?_,?_,rfl,rfl⟩ <;> decide +kernel) (zbo (pv' 0)) (fun _ _ _ _ _ _=>(zU 0 (show (["sign","signs"]:List Str).Nodup by decide +kernel))) (fun _ _ _ _ _ _=>zbs) (fun _ _ _ _ _ _=>(zeF (zoN (zT hr)) (pv' 0) (pv' 1))))) zc)))),?_⟩)
 ·obtain ⟨l,y,rfl,_⟩:=h
  rfl
 obtain ⟨l,y,rfl,hl,q⟩:=h; simp [zaj,zak,zaf,zah,zp,zaa,tC',zbn,zbh,tB',zal,zar,zbv,zP,zaG,zR,zbB,zad,zB,zai,zan,zbl,zbq,zbu,zaA,zby,zi,zap,zat,zE,zQ,zu,zv,zbk,zt,zJ,zao,zx,zaq,zO,zH,zag,zab,zbp,zy,zaz,zM,zam,zau,zG,zav,zae,zK,zaE,zD,zaD,zr,zaF,zaH,zax,zaC,zA,zbw,zj,zI,zk,zl,tBr,brN,zC,zw,zq,zaw,zbz,zF,zm,zaB,zN,zbx,zay,zL]; refine ⟨small hl,?_⟩; refine zgV y _ l [] _ ?_; rw [zn7 rfl]
 simpa using q
theorem ziU:FnScope ["thing"] ["thing"] (zd zeA):=⟨rfl,rfl,rfl,by decide +kernel,rfl,by decide +kernel,by decide +kernel⟩
theorem zja (d:Df K mg "is_name" zeA ["thing"]) (G_has_only:Fn P w K mg base 1 "has_only" ["text","signs"] zcK) (z_isinstance:mg "isinstance"=none) (z_len:mg "len"=none) (z_str:mg "str"=none) {t_LONGEST_NAME:Tok} (g_LONGEST_NAME:mg "LONGEST_NAME"=some (.int 8 t_LONGEST_NAME)) {t_SMALL_LETTERS:Tok} (g_SMALL_LETTERS:mg "SMALL_LETTERS"=some (.str (st zes) t_SMALL_LETTERS)):Fn P w K mg base 2 "is_name" ["thing"] zdZ:=by
 refine d.ok ziU (fun ds Q h=>?_) (fun f cdv A outer s H E hr ds Q h=>⟨_,(ze (zaN (zfE (zcQ (zaT (zg4 K rfl) z_isinstance PyProof.Rows.boot_isinstance (za (pv' 0) (za (zqk z_str PyProof.Rows.boot_str) zc))))) (zf (zY zdN)) zZ)
  (zf (zY (zko (zkn zsV zsV zb (zaT zei z_len PySem.boot_len (za (pv' 0) zc)) (zqu g_LONGEST_NAME)) (zki (zbd G_has_only (hr.mono (by decide)) (za (pv' 0) (za (zqt g_SMALL_LETTERS) zc)))))))),?_⟩)
 ·obtain ⟨l,rfl,_⟩:=h
  rfl
 obtain ⟨l,rfl,⟨h1,h2,h3⟩,q⟩:=h
 simp [zaj,zak,zaf,zah,zp,zaa,tC',zbn,zbh,tB',zal,zar,zbv,zP,zaG,zR,zbB,zad,zB,zai,zan,zbl,zbq,zbu,zaA,zby,zi,zap,zat,zE,zQ,zu,zv,zbk,zt,zJ,zao,zx,zaq,zO,zH,zag,zab,zbp,zy,zaz,zM,zam,zau,zG,zav,zae,zK,zaE,zD,zaD,zr,zaF,zaH,zax,zaC,zA,zbw,zj,zI,zk,zl,tBr,brN,zC,zw,zq,zaw,zbz,zF,zm,zaB,zN,zbx,zay,zL,zcK]
 refine ⟨small (by omega),.inr ⟨by omega,.inr ⟨by omega,by omega,?_⟩⟩⟩
 have e:(l.all fun c=>decide (c ∈ zes))=true:=List.all_eq_true.mpr fun c hc=>decide_eq_true (h3 c hc)
 rw [e]; exact q
theorem zhe:FnScope ["deeds"] ["deeds"] (zd zda):=⟨rfl,rfl,rfl,by decide +kernel,rfl,by decide +kernel,by decide +kernel⟩
theorem zhx (d:Df K mg "named_in" zda ["deeds"]):Fn P w K mg base 1 "named_in" ["deeds"] zdn:=by
 refine d.ok zhe (fun ds Q h=>?_) (fun f cdv A outer s H E hr ds Q h=>⟨_,(zf (zY (zbt (zcg (fsc:=zd zda) (N:=["deeds"]) (N':=["deed"]) (src:=[none]) (by refine ⟨rfl,?_,?_,?_,rfl,rfl⟩ <;> decide +kernel) (zbo (pv' 0)) (fun _ _ _ _ _ _=>(zU 0 (show (["deed"]:List Str).Nodup by decide +kernel))) (fun _ _ _ _ _ _=>(zie (zac (zkx (zcm hr)) (zn (i_A (zT hr)) (pv' 0) zb) (zaS [99,104,97,110,103,101])))) (fun _ _ _ _ _ _=>(zn (i_A (zT hr)) (pv' 0) zb)))))),?_⟩)
 ·obtain ⟨dl,ah,rfl,_⟩:=h
  rfl
 obtain ⟨dl,ah,rfl,hl,hd,q⟩:=h; simp [zaj,zak,zaf,zah,zp,zaa,tC',zbn,zbh,tB',zal,zar,zbv,zP,zaG,zR,zbB,zad,zB,zai,zan,zbl,zbq,zbu,zaA,zby,zi,zap,zat,zE,zQ,zu,zv,zbk,zt,zJ,zao,zx,zaq,zO,zH,zag,zab,zbp,zy,zaz,zM,zam,zau,zG,zav,zae,zK,zaE,zD,zaD,zr,zaF,zaH,zax,zaC,zA,zbw,zj,zI,zk,zl,tBr,brN,zC,zw,zq,zaw,zbz,zF,zm,zaB,zN,zbx,zay,zL]
 refine ⟨small (by omega),?_⟩
 refine zbM (fun i acc Γ=>∃ (ns:List (List Nat)) (s0:Slot),acc=ns.map .str∧ns.length≤i∧(∀ n,n ∈ ns→n ∈ ah)∧Γ=[s0]) ⟨[],_,rfl,Nat.le_refl _,fun _ z=>by simp at z,rfl⟩ ?_ ?_
 ·rintro i d acc Γ he ⟨ns,s0,rfl,hi,hn,rfl⟩
  obtain ⟨k,x,r,rfl,hk⟩:=hd d (List.mem_of_getElem? he); simp [zaj,zak,zaf,zah,zp,zaa,tC',zbn,zbh,tB',zal,zar,zbv,zP,zaG,zR,zbB,zad,zB,zai,zan,zbl,zbq,zbu,zaA,zby,zi,zap,zat,zE,zQ,zu,zv,zbk,zt,zJ,zao,zx,zaq,zO,zH,zag,zab,zbp,zy,zaz,zM,zam,zau,zG,zav,zae,zK,zaE,zD,zaD,zr,zaF,zaH,zax,zaC,zA,zbw,zj,zI,zk,zl,tBr,brN,zC,zw,zq,zaw,zbz,zF,zm,zaB,zN,zbx,zay,zL,vo,voS]
  rcases hk with rfl | ⟨hk,n,hn2,rfl⟩
  ·refine .inl ⟨rfl,ns,?_⟩
   first | exact ⟨by omega,hn⟩ | exact ⟨rfl,by omega,hn⟩
  ·refine .inr ⟨hk,ns ++ [n],by simp,by simp; omega,fun m hm=>?_⟩
   rcases List.mem_append.mp hm with hm | hm
   ·exact hn m hm
   ·rw [List.mem_singleton.mp hm]; exact hn2
 ·rintro acc Γ ⟨ns,s0,rfl,hi,hn,rfl⟩
  exact q ns (by omega) hn
theorem zbQ:FnScope ["self","name","day","named","ahead","other"] ["self","name","day","named"] (zd zaO):=⟨rfl,rfl,rfl,by decide +kernel,rfl,by decide +kernel,by decide +kernel⟩
theorem zdO {f:Addr} {fd:FuncData} (F:Fun K "refuse_act" "Book.refuse_act" zaO f fd) (bd:zb1 K fd ["self","name","day","named"] []) (hm:Meth K T.Book "refuse_act" f) (cl:Cls K T.Book) (cf:CF K T) (G_is_name:Fn P w K mg base 2 "is_name" ["thing"] zdZ) (z_len:mg "len"=none):Mth P w K mg base 3 T.Book "refuse_act" ["self","name","day","named"] (zbr T):=by
 refine ⟨f,fd,PL.Fun.ok' F zbQ (fun ds Q h=>?_) (fun cdv A outer s H E hr ds Q h=>⟨_,(ze (zdK 4 zbQ.nd (zdJ (fsc:=zd zaO) (N:=["self","name","day","named","ahead","other"]) (N':=["entry"]) (src:=[none]) (by refine ⟨rfl,?_,?_,?_,rfl,rfl⟩ <;> decide +kernel) (zbo (zbF (pv' 0))) (fun _ _ _ _ _ _=>(zU 0 (show (["entry"]:List Str).Nodup by decide +kernel))) (fun _ _ _ _ _ _=>zbs) (fun _ _ _ _ _ _=>(zn (i_A (zT hr)) (pv' 0) zb))))
  (ze (zaN (zfE (zcQ (zbd G_is_name (hr.mono (by decide)) (za (pv' 1) zc)))) (zf zfG) zZ)
  (ze (zaN (zac (zoN (zT hr)) (pv' 1) (pv' 4)) (zf zfG) zZ)
  (ze (zaN (PW'.pt (zfD (zac zqK (zaT zei z_len PySem.boot_len (za (zbF (pv' 0)) zc)) zb) (zeq (zac zpx (pv' 2) (zn (i_A (zT hr)) (zn (i_A (zT hr)) (zbF (pv' 0)) zhu) zb))))) (zf zfG) zZ)
  (zf (zcv (zbo (pv' 3)) (zU 5 zbQ.nd)
   (zf (zaN (zac (zil (zT hr)) (pv' 5) (pv' 4)) (zf zfG) zZ)))))))),?_⟩),bd,hm,cl⟩
 ·obtain ⟨t,es,nm,day,ns,rfl,_⟩:=h
  rfl
 obtain ⟨t,es,nm,day,ns,rfl,⟨h0,h1,h2,h3⟩,hn,hm,q⟩:=h
 simp [zaj,zak,zaf,zah,zp,zaa,tC',zbn,zbh,tB',zal,zar,zbv,zP,zaG,zR,zbB,zad,zB,zai,zan,zbl,zbq,zbu,zaA,zby,zi,zap,zat,zE,zQ,zu,zv,zbk,zt,zJ,zao,zx,zaq,zO,zH,zag,zab,zbp,zy,zaz,zM,zam,zau,zG,zav,zae,zK,zaE,zD,zaD,zr,zaF,zaH,zax,zaC,zA,zbw,zj,zI,zk,zl,tBr,brN,zC,zw,zq,zaw,zbz,zF,zm,zaB,zN,zbx,zay,zL,bkD,lkP,cf.cl,cf.naP]
 refine ⟨small (by omega),?_⟩
 refine zbM (fun i acc Γ=>∃ (s0:Slot),acc=(nms (es.take i)).map .str∧Γ=[s0]) ⟨_,rfl,rfl⟩ ?_ ?_
 ·rintro i d acc Γ he ⟨s0,rfl,rfl⟩
  rw [List.getElem?_map] at he; obtain ⟨a,ha,rfl⟩:=Option.map_eq_some_iff.mp he; rw [zaZ ha]; simp [zaj,zak,zaf,zah,zp,zaa,tC',zbn,zbh,tB',zal,zar,zbv,zP,zaG,zR,zbB,zad,zB,zai,zan,zbl,zbq,zbu,zaA,zby,zi,zap,zat,zE,zQ,zu,zv,zbk,zt,zJ,zao,zx,zaq,zO,zH,zag,zab,zbp,zy,zaz,zM,zam,zau,zG,zav,zae,zK,zaE,zD,zaD,zr,zaF,zaH,zax,zaC,zA,zbw,zj,zI,zk,zl,tBr,brN,zC,zw,zq,zaw,zbz,zF,zm,zaB,zN,zbx,zay,zL,vo,voS,zci,nms]
 ·rintro acc Γ ⟨s0,rfl,rfl⟩
  rw [List.length_map,take_all]; refine ⟨nm,rfl,h1,rfl,zkY ?_⟩
  have loop:zhc (zp 5) (zaf (tB' (zbh zfA (zaa 5) (zaa 4))) zae zt) { nx:=fun x=>Q (Res.val D.non),rt:=fun r x=>Q r } (List.map D.str ns)
    [Slot.val (D.obj T.Book [(Str.ofString "tree",t),(Str.ofString "past",D.lst (List.map zci es))]),Slot.val (D.str nm),Slot.val (D.int day),Slot.val (D.lst (List.map D.str ns)),Slot.val (D.lst ((nms es).map .str)),Slot.emp]:=by
   refine zdl (fun i Γ=>∃ s5:Slot,Γ=[Slot.val (D.obj T.Book [(Str.ofString "tree",t),(Str.ofString "past",D.lst (List.map zci es))]),Slot.val (D.str nm),Slot.val (D.int day),Slot.val (D.lst (List.map D.str ns)),Slot.val (D.lst ((nms es).map .str)),s5]) ⟨_,rfl⟩ ?_ ?_
   ·rintro i d Γ he ⟨s5,rfl⟩
    rw [List.getElem?_map] at he; obtain ⟨n,hn',rfl⟩:=Option.map_eq_some_iff.mp he; simp [zaj,zak,zaf,zah,zp,zaa,tC',zbn,zbh,tB',zal,zar,zbv,zP,zaG,zR,zbB,zad,zB,zai,zan,zbl,zbq,zbu,zaA,zby,zi,zap,zat,zE,zQ,zu,zv,zbk,zt,zJ,zao,zx,zaq,zO,zH,zag,zab,zbp,zy,zaz,zM,zam,zau,zG,zav,zae,zK,zaE,zD,zaD,zr,zaF,zaH,zax,zaC,zA,zbw,zj,zI,zk,zl,tBr,brN,zC,zw,zq,zaw,zbz,zF,zm,zaB,zN,zbx,zay,zL]; refine zfl ?_; simp [hm n (List.mem_of_getElem? hn')]
   ·rintro Γ ⟨s5,rfl⟩
    exact q
  refine ⟨by simp [h2],?_⟩
  rcases List.eq_nil_or_concat es with rfl | ⟨es',a,rfl⟩
  ·exact .inl ⟨rfl,loop⟩
  ·rw [List.concat_eq_append] at loop h3 ⊢
   refine .inr ⟨by simp,zci a,by rw [List.map_append]; exact ziI _ _,?_⟩
   have:=h3 a (by simp)
   exact (zep _ _).mpr ⟨.int a.1.day,ztC _ _ _,day,a.1.day,rfl,rfl,by simp; omega,loop⟩
theorem zgf:FnScope ["self"] ["self"] (zd zbL):=⟨rfl,rfl,rfl,by decide +kernel,rfl,by decide +kernel,by decide +kernel⟩
theorem zgw {f:Addr} {fd:FuncData} (F:Fun K "acts" "Book.acts" zbL f fd) (bd:zb1 K fd ["self"] []) (hm:Meth K T.Book "acts" f) (cl:Cls K T.Book) (cf:CF K T) (z_list:mg "list"=none):Mth P w K mg base 1 T.Book "acts" ["self"] (zc2 T):=by
 refine ⟨f,fd,PL.Fun.ok' F zgf (fun ds Q h=>?_) (fun cdv A outer s H E hr ds Q h=>⟨_,(zf (zY (zbt (zcg (fsc:=zd zbL) (N:=["self"]) (N':=["name","day","other","deeds"]) (src:=[none,none,none,none]) (by refine ⟨rfl,?_,?_,?_,rfl,rfl⟩ <;> decide +kernel) (zbo (zbF (pv' 0))) (fun _ _ _ _ _ _=>(zeE (n:=4) (za1 (zU 0 (show (["name","day","other","deeds"]:List Str).Nodup by decide +kernel)) (za1 (zU 1 (show (["name","day","other","deeds"]:List Str).Nodup by decide +kernel)) (za1 (zU 2 (show (["name","day","other","deeds"]:List Str).Nodup by decide +kernel)) (za1 (zU 3 (show (["name","day","other","deeds"]:List Str).Nodup by decide +kernel)) zdL)))))) (fun _ _ _ _ _ _=>zbs) (fun _ _ _ _ _ _=>(zV (za (pv' 0) (za (pv' 1) (za (pv' 2) (za (zbt (zi3 (zpr rfl) z_list PyProof.Rows.boot_list (za (pv' 3) zc))) zc)))))))))),?_⟩),bd,hm,cl⟩
 ·obtain ⟨t,es,rfl,_⟩:=h
  rfl
 obtain ⟨t,es,rfl,hl,q⟩:=h; simp [zaj,zak,zaf,zah,zp,zaa,tC',zbn,zbh,tB',zal,zar,zbv,zP,zaG,zR,zbB,zad,zB,zai,zan,zbl,zbq,zbu,zaA,zby,zi,zap,zat,zE,zQ,zu,zv,zbk,zt,zJ,zao,zx,zaq,zO,zH,zag,zab,zbp,zy,zaz,zM,zam,zau,zG,zav,zae,zK,zaE,zD,zaD,zr,zaF,zaH,zax,zaC,zA,zbw,zj,zI,zk,zl,tBr,brN,zC,zw,zq,zaw,zbz,zF,zm,zaB,zN,zbx,zay,zL,bkD,lkP,cf.cl,cf.naP]
 refine ⟨small (by omega),?_⟩
 refine zbM (fun i acc Γ=>∃ (s0 s1 s2 s3:Slot),acc=(es.take i).map zbI∧Γ=[s0,s1,s2,s3]) ⟨_,_,_,_,rfl,rfl⟩ ?_ ?_
 ·rintro i d acc Γ he ⟨s0,s1,s2,s3,rfl,rfl⟩
  rw [List.getElem?_map] at he; obtain ⟨a,ha,rfl⟩:=Option.map_eq_some_iff.mp he; rw [zaZ ha]; simp [zaj,zak,zaf,zah,zp,zaa,tC',zbn,zbh,tB',zal,zar,zbv,zP,zaG,zR,zbB,zad,zB,zai,zan,zbl,zbq,zbu,zaA,zby,zi,zap,zat,zE,zQ,zu,zv,zbk,zt,zJ,zao,zx,zaq,zO,zH,zag,zab,zbp,zy,zaz,zM,zam,zau,zG,zav,zae,zK,zaE,zD,zaD,zr,zaF,zaH,zax,zaC,zA,zbw,zj,zI,zk,zl,tBr,brN,zC,zw,zq,zaw,zbz,zF,zm,zaB,zN,zbx,zay,zL,vo,voS,zci,zbI]
  exact ⟨_,_,⟨rfl,rfl⟩,rfl,(ziV _).mpr ⟨small (by decide),rfl⟩⟩
 ·rintro acc Γ ⟨s0,s1,s2,s3,rfl,rfl⟩
  rw [List.length_map,take_all]; exact q
end
end K34
namespace K34
open PySem L2 Lb PL M34
theorem zqN {m:Str} {t z:D} (h1:m≠Str.ofString "tree") (h2:m≠Str.ofString "past"):∀ (a:Str) (b:D),a=Str.ofString "tree"∧b=t∨a=Str.ofString "past"∧b=z→¬ m=a:=by
 rintro a b (⟨rfl,_⟩ | ⟨rfl,_⟩)
 ·exact h1
 ·exact h2
theorem zkG (zW:Int) (xs:List Act) (e:Act):zjx zW (xs ++ [e])=stp zW (zjx zW xs) e:=by simp [zjx]
theorem zs5 {A B:Prop} (h:A):zj4 true (zkp none) D.non fun d=>d=D.bl false∧A∨d=D.bl true∧B:=by simp [zj4,zkp,h]
theorem zs4 {A B:Prop} {o:List Nat} (h:B):zj4 true (zkp (some o)) D.non fun d=>d=D.bl false∧A∨d=D.bl true∧B:=by simp [zj4,zkp,h]
section
variable {P:Program} {w:World} {K:PySem.W.Frag} {mg:Str→Option Value} {base:Heap} {T:Cs}
theorem zhj:FnScope ["self","name","day","deeds"] ["self","name","day","deeds"] (zd zb9):=⟨rfl,rfl,rfl,by decide +kernel,rfl,by decide +kernel,by decide +kernel⟩
theorem zhF {f:Addr} {fd:FuncData} (F:Fun K "act" "Book.act" zb9 f fd) (bd:zb1 K fd ["self","name","day","deeds"] []) (hm:Meth K T.Book "act" f) (cl:Cls K T.Book) (cf:CF K T) (G_named_in:Fn P w K mg base 1 "named_in" ["deeds"] zdn) (z_tuple:mg "tuple"=none) (M_Book_refuse_act:Mth P w K mg base 3 T.Book "refuse_act" ["self","name","day","named"] (zbr T)):MthB P w K mg base 4 T.Book "act" ["self","name","day","deeds"] (zdq T):=by
 refine ⟨f,fd,PL.Fun.okB F zhj (fun dd xs ds Q h=>?_) (fun cdv A outer s H E hr dd b xs ds Q h=>⟨_,(ze (zde (zhv (zkk M_Book_refuse_act (hr.mono (by decide)) (pv' 0) (za (pv' 1) (za (pv' 2) (za (zbd G_named_in (hr.mono (by decide)) (za (pv' 3) zc)) zc))))))
  (zf (zj9 0 (zV (za (pv' 1) (za (pv' 2) (za zc7 (za (zd6 zpp z_tuple PyProof.Rows.boot_tuple (za (pv' 3) zc)) zc)))))))),?_⟩),bd,hm,cl⟩
 ·obtain ⟨t,es,nm,day,dl,rfl,rfl,rfl,_⟩:=h
  rfl
 obtain ⟨t,es,nm,day,dl,rfl,rfl,rfl,hp,hl,hd,q⟩:=h; simp [zaj,zak,zaf,zah,zp,zaa,tC',zbn,zbh,tB',zal,zar,zbv,zP,zaG,zR,zbB,zad,zB,zai,zan,zbl,zbq,zbu,zaA,zby,zi,zap,zat,zE,zQ,zu,zv,zbk,zt,zJ,zao,zx,zaq,zO,zH,zag,zab,zbp,zy,zaz,zM,zam,zau,zG,zav,zae,zK,zaE,zD,zaD,zr,zaF,zaH,zax,zaC,zA,zbw,zj,zI,zk,zl,tBr,brN,zC,zw,zq,zaw,zbz,zF,zm,zaB,zN,zbx,zay,zL,bkF]
 refine ⟨zqN (by decide +kernel) (by decide +kernel),dl.map deD,nms es,rfl,by rw [List.length_map]; exact hl,fun d hd'=>by obtain ⟨x,hx,rfl⟩:=List.mem_map.mp hd'; exact hd x hx,fun ns hn hm=>⟨t,es,nm,day,ns,rfl,hp,hn,hm,.non,⟨cf.cl,cf.naP,lkP⟩,small (by decide),za6 (by have:=hp.1; omega),?_⟩⟩
 rw [List.map_append] at q; exact q
theorem zge:FnScope ["self","name","day","other"] ["self","name","day","other"] (zd zbV):=⟨rfl,rfl,rfl,by decide +kernel,rfl,by decide +kernel,by decide +kernel⟩
theorem zgv {f:Addr} {fd:FuncData} (F:Fun K "back" "Book.back" zbV f fd) (bd:zb1 K fd ["self","name","day","other"] []) (hm:Meth K T.Book "back" f) (cl:Cls K T.Book) (cf:CF K T) (M_Book_refuse_act:Mth P w K mg base 3 T.Book "refuse_act" ["self","name","day","named"] (zbr T)):MthB P w K mg base 4 T.Book "back" ["self","name","day","other"] (zc1 T):=by
 refine ⟨f,fd,PL.Fun.okB F zge (fun dd xs ds Q h=>?_) (fun cdv A outer s H E hr dd b xs ds Q h=>⟨_,(ze (zde (zhv (zkk M_Book_refuse_act (hr.mono (by decide)) (pv' 0) (za (pv' 1) (za (pv' 2) (za (zbt (zb2 (za (pv' 3) zc))) zc))))))
  (zf (zj9 0 (zV (za (pv' 1) (za (pv' 2) (za (pv' 3) (za (zV zc) zc)))))))),?_⟩),bd,hm,cl⟩
 ·obtain ⟨t,es,nm,day,dl,rfl,rfl,rfl,_⟩:=h
  rfl
 obtain ⟨t,es,nm,day,o,rfl,rfl,rfl,hp,ho,q⟩:=h; simp [zaj,zak,zaf,zah,zp,zaa,tC',zbn,zbh,tB',zal,zar,zbv,zP,zaG,zR,zbB,zad,zB,zai,zan,zbl,zbq,zbu,zaA,zby,zi,zap,zat,zE,zQ,zu,zv,zbk,zt,zJ,zao,zx,zaq,zO,zH,zag,zab,zbp,zy,zaz,zM,zam,zau,zG,zav,zae,zK,zaE,zD,zaD,zr,zaF,zaH,zax,zaC,zA,zbw,zj,zI,zk,zl,tBr,brN,zC,zw,zq,zaw,zbz,zF,zm,zaB,zN,zbx,zay,zL,bkF]
 refine ⟨zqN (by decide +kernel) (by decide +kernel),small (by decide),t,es,nm,day,[o],rfl,hp,by simp,fun n hn=>?_,.non,⟨cf.cl,cf.naP,lkP⟩,small (by decide),za6 (by have:=hp.1; omega),?_⟩
 ·rw [List.mem_singleton.mp hn]; exact ho
 rw [List.map_append] at q; exact q
theorem za9:FnScope ["book","seen","lives","taken_back","name","day","other","deeds"] ["book","seen"] (zd zcM):=⟨rfl,rfl,rfl,by decide +kernel,rfl,by decide +kernel,by decide +kernel⟩
theorem ze9 (d:Df K mg "living_acts" zcM ["book","seen"]) (cf:CF K T) (z_reversed:mg "reversed"=none) (M_Book_acts:Mth P w K mg base 1 T.Book "acts" ["self"] (zc2 T)):Fn P w K mg base 2 "living_acts" ["book","seen"] (zbY T):=by
 refine d.ok za9 (fun ds Q h=>?_) (fun f cdv A outer s H E hr ds Q h=>⟨_,(ze (zcp 2 za9.nd (zb2 zc))
  (ze (zcp 3 za9.nd zol)
  (ze (zcv (zop rfl z_reversed (za (zmc M_Book_acts (hr.mono (by decide)) (pv' 0)) zc)) (zeE (n:=4) (za1 (zU 4 za9.nd) (za1 (zU 5 za9.nd) (za1 (zU 6 za9.nd) (za1 (zU 7 za9.nd) zdL)))))
   (zf (zaN (zc5 (PW'.pt (zfD (zac zsV (pv' 5) (pv' 1)) (zeq (zac (zmo (zT hr)) (pv' 4) (pv' 3)))))) (ze (zbX 2 (zV (za (pv' 4) (za (pv' 5) (za (pv' 7) zc)))))
  (zf (zaN (zac zik (pv' 6) zc7) (zf (zl1 (zT hr) 3 (pv' 6) zdN)) zZ))) zZ)))
  (ze (zht 2)
  (zf (zer 2)))))),?_⟩)
 ·obtain ⟨t,es,zW,rfl,_⟩:=h
  rfl
 obtain ⟨t,es,zW,rfl,hl,q⟩:=h; simp [zaj,zak,zaf,zah,zp,zaa,tC',zbn,zbh,tB',zal,zar,zbv,zP,zaG,zR,zbB,zad,zB,zai,zan,zbl,zbq,zbu,zaA,zby,zi,zap,zat,zE,zQ,zu,zv,zbk,zt,zJ,zao,zx,zaq,zO,zH,zag,zab,zbp,zy,zaz,zM,zam,zau,zG,zav,zae,zK,zaE,zD,zaD,zr,zaF,zaH,zax,zaC,zA,zbw,zj,zI,zk,zl,tBr,brN,zC,zw,zq,zaw,zbz,zF,zm,zaB,zN,zbx,zay,zL]; refine ⟨_,rfl,?_,t,es,rfl,hl,_,rfl,?_⟩
 ·intro a b hm
  simp at hm
  exact zqN (by decide +kernel) (by decide +kernel) a b hm
 rw [← List.map_reverse]
 refine zdl (fun i Γ=>∃ (ms:List (List Nat)) (s4 s5 s6 s7:Slot),(∀ x,x ∈ ms↔x ∈ (zjx zW (es.reverse.take i)).2)∧(zjx zW (es.reverse.take i)).1.length≤i∧ms.length≤i ∧
  Γ=[Slot.val (bkD T t es),Slot.val (D.int zW),Slot.own (OD.lst ((zjx zW (es.reverse.take i)).1.reverse.map laD)),Slot.own (OD.dic (nmD ms)),s4,s5,s6,s7]) ⟨[],_,_,_,_,by simp [zjx],Nat.zero_le _,Nat.zero_le _,rfl⟩ ?_ ?_
 ·rintro i d Γ he ⟨ms,s4,s5,s6,s7,h2,h3,h4,rfl⟩
  rw [List.getElem?_map] at he; obtain ⟨a,ha,rfl⟩:=Option.map_eq_some_iff.mp he
  have hi:i<es.length:=by have:=(List.getElem?_eq_some_iff.mp ha).1; simpa using this
  rw [zaZ ha,zkG]; generalize zjx zW (es.reverse.take i)=st at h2 h3; simp [zaj,zak,zaf,zah,zp,zaa,tC',zbn,zbh,tB',zal,zar,zbv,zP,zaG,zR,zbB,zad,zB,zai,zan,zbl,zbq,zbu,zaA,zby,zi,zap,zat,zE,zQ,zu,zv,zbk,zt,zJ,zao,zx,zaq,zO,zH,zag,zab,zbp,zy,zaz,zM,zam,zau,zG,zav,zae,zK,zaE,zD,zaD,zr,zaF,zaH,zax,zaC,zA,zbw,zj,zI,zk,zl,tBr,brN,zC,zw,zq,zaw,zbz,zF,zm,zaB,zN,zbx,zay,zL,zbI,zsE]; refine ⟨_,_,⟨rfl,rfl⟩,rfl,?_⟩
  by_cases hd:a.1.day≤zW
  ·refine .inr ⟨hd,ms,rfl,?_⟩
   by_cases hm:a.1.nm ∈ ms
   ·have e:stp zW st a=st:=by
     unfold stp; rw [if_neg]
     rintro ⟨_,z⟩
     exact z ((h2 _).mp hm)
    rw [e]
    exact .inl ⟨hm,ms,h2,by omega,by omega,rfl,rfl⟩
   ·have e:stp zW st a=(zmz a :: st.1,st.2 ++ a.1.oth.toList):=by
     unfold stp
     rw [if_pos ⟨hd,fun z=>hm ((h2 _).mpr z)⟩]
    rw [e]
    refine .inr ⟨hm,small (by decide),za6 (by omega),?_⟩
    have n2:(zmz a :: st.1).length≤i+1:=by simp; omega
    cases ho:a.1.oth with
    | none=>exact zs5 ⟨ms,by simpa using h2,n2,by omega,by simp [laD,zmz],rfl⟩
    | some o =>
     refine zs4 ⟨⟨ms,rfl⟩,ms,rfl,o,rfl,za6 (by omega),zhH ms o,fun x=>?_,n2,?_,by simp [laD,zmz],rfl⟩
     ·unfold zhH
      split
      ·rename_i hin
       rw [h2 x]; simp
       rintro rfl
       exact (h2 _).mp hin
      ·simp [h2 x]
     ·unfold zhH
      split
      ·omega
      ·simp; omega
  ·have e:stp zW st a=st:=by
    unfold stp; rw [if_neg]
    rintro ⟨z,_⟩
    exact hd z
   rw [e]
   exact .inl ⟨by omega,ms,h2,by omega,by omega,rfl,rfl⟩
 ·rintro Γ ⟨ms,s4,s5,s6,s7,h2,h3,h4,rfl⟩
  rw [List.length_map,take_all]; simp [zaj,zak,zaf,zah,zp,zaa,tC',zbn,zbh,tB',zal,zar,zbv,zP,zaG,zR,zbB,zad,zB,zai,zan,zbl,zbq,zbu,zaA,zby,zi,zap,zat,zE,zQ,zu,zv,zbk,zt,zJ,zao,zx,zaq,zO,zH,zag,zab,zbp,zy,zaz,zM,zam,zau,zG,zav,zae,zK,zaE,zD,zaD,zr,zaF,zaH,zax,zaC,zA,zbw,zj,zI,zk,zl,tBr,brN,zC,zw,zq,zaw,zbz,zF,zm,zaB,zN,zbx,zay,zL]; exact q
theorem zkD (zW:Int) (es:List Act):(liv zW es).length≤es.length:=by
 have:∀ (rs:List Act) (s:List La × List (List Nat)),(rs.foldl (stp zW) s).1.length≤s.1.length+rs.length:=by
  intro rs
  induction rs with
  | nil=>intro s; simp
  | cons a rs ih =>
   intro s; have h1:=ih (stp zW s a)
   have h2:(stp zW s a).1.length≤s.1.length+1:=by
    unfold stp
    split <;> simp
   simp only [List.foldl_cons,List.length_cons]; omega
 have:=this es.reverse ([],[])
 unfold liv zjx
 simpa using this
theorem zjU:FnScope ["book","seen"] ["book","seen"] (zd zeo):=⟨rfl,rfl,rfl,by decide +kernel,rfl,by decide +kernel,by decide +kernel⟩
theorem zku (d:Df K mg "living" zeo ["book","seen"]) (cf:CF K T) (G_living_acts:Fn P w K mg base 2 "living_acts" ["book","seen"] (zbY T)):Fn P w K mg base 3 "living" ["book","seen"] (zcb T):=by
 refine d.ok zjU (fun ds Q h=>?_) (fun f cdv A outer s H E hr ds Q h=>⟨_,(zf (zfF (zcg (fsc:=zd zeo) (N:=["book","seen"]) (N':=["act"]) (src:=[none]) (by refine ⟨rfl,?_,?_,?_,rfl,rfl⟩ <;> decide +kernel) (zbo (zbd G_living_acts (hr.mono (by decide)) (za (pv' 0) (za (pv' 1) zc)))) (fun _ _ _ _ _ _=>(zU 0 (show (["act"]:List Str).Nodup by decide +kernel))) (fun _ _ _ _ _ _=>zbs) (fun _ _ _ _ _ _=>(zn (i_A (zT hr)) (pv' 0) zb))))),?_⟩)
 ·obtain ⟨t,es,zW,rfl,_⟩:=h
  rfl
 obtain ⟨t,es,zW,rfl,hl,q⟩:=h; have hll:=zkD zW es; simp [zaj,zak,zaf,zah,zp,zaa,tC',zbn,zbh,tB',zal,zar,zbv,zP,zaG,zR,zbB,zad,zB,zai,zan,zbl,zbq,zbu,zaA,zby,zi,zap,zat,zE,zQ,zu,zv,zbk,zt,zJ,zao,zx,zaq,zO,zH,zag,zab,zbp,zy,zaz,zM,zam,zau,zG,zav,zae,zK,zaE,zD,zaD,zr,zaF,zaH,zax,zaC,zA,zbw,zj,zI,zk,zl,tBr,brN,zC,zw,zq,zaw,zbz,zF,zm,zaB,zN,zbx,zay,zL]
 refine ⟨t,es,zW,rfl,hl,_,rfl,by rw [List.length_map]; exact small (by omega),?_⟩
 unfold zfc at q; generalize liv zW es=ys at q hll
 refine zbM (fun i acc Γ=>∃ (s0:Slot),acc=((ys.take i).map (·.nm)).map .str∧Γ=[s0]) ⟨_,rfl,rfl⟩ ?_ ?_
 ·rintro i d acc Γ he ⟨s0,rfl,rfl⟩
  rw [List.getElem?_map] at he; obtain ⟨a,ha,rfl⟩:=Option.map_eq_some_iff.mp he; rw [zaZ ha]; simp [zaj,zak,zaf,zah,zp,zaa,tC',zbn,zbh,tB',zal,zar,zbv,zP,zaG,zR,zbB,zad,zB,zai,zan,zbl,zbq,zbu,zaA,zby,zi,zap,zat,zE,zQ,zu,zv,zbk,zt,zJ,zao,zx,zaq,zO,zH,zag,zab,zbp,zy,zaz,zM,zam,zau,zG,zav,zae,zK,zaE,zD,zaD,zr,zaF,zaH,zax,zaC,zA,zbw,zj,zI,zk,zl,tBr,brN,zC,zw,zq,zaw,zbz,zF,zm,zaB,zN,zbx,zay,zL,vo,voS,laD]
 ·rintro acc Γ ⟨s0,rfl,rfl⟩
  rw [List.length_map,take_all]; exact q
end
end K34
namespace K34
open PySem L2 Lb PL M34
def zen:Sp':=fun ds Q=>∃ (rs:List Row) (x0:D) (n:List Nat) (i made:Int) (r:List D),ds=[.dit (rs.map zdC),.tup (x0 :: .str n :: .int i :: r),.int made]∧Q (.val (.bl (match zcV rs n i with | none=>false | some r=>decide (made<r.day))))
def zbb:SpM:=fun o ds Q=>∃ (rs:List Row) (d:Deed) (r:Row),o=.dit (rs.map zdC)∧ds=[deD d]∧rs.length≤900∧((∃ n i day,d=.lat n i day∧zcV rs n i=some r∧Q .non (.dit ((zhm rs { r with day:=day }).map zdC)))∨(∃ n i c,d=.ins n i c∧zcV rs n i=some r∧Q .non (.dit ((zhm rs { r with c:=c }).map zdC)))∨∃ n i,d=.drp n i∧zcV rs n i=some r∧Q .non (.dit ((zhn rs n i).map zdC)))
def zcn:SpM:=fun o ds Q=>∃ (rs:List Row) (nm:List Nat) (made num:Int) (d:Deed),o=.dit (rs.map zdC)∧ds=[.str nm,.int made,.int num,deD d]∧rs.length≤900∧Q .non (.dit ((take rs nm made num d).map zdC))
instance:MSpM zcn:=⟨fun _ _ _ _ h ⟨rs,nm,made,num,d,e,a,b,q⟩=>⟨rs,nm,made,num,d,e,a,b,h _ _ q⟩⟩
section
variable {P:Program} {w:World} {K:PySem.W.Frag} {mg:Str→Option Value} {base:Heap} {T:Cs}
theorem zh8:FnScope ["counted","deed","made","entry"] ["counted","deed","made"] (zd zhl):=⟨rfl,rfl,rfl,by decide +kernel,rfl,by decide +kernel,by decide +kernel⟩
theorem zmj (d:Df K mg "finds" zhl ["counted","deed","made"]):Fn P w K mg base 1 "finds" ["counted","deed","made"] zen:=by
 refine d.ok zh8 (fun ds Q h=>?_) (fun f cdv A outer s H E hr ds Q h=>⟨_,(ze (zaM 3 zh8.nd (zme (zT hr) (pv' 0) (zV (za (zn (i_A (zT hr)) (pv' 1) zb) (za (zn (i_A (zT hr)) (pv' 1) zb) zc)))))
  (zf (zY (zko (zeF zik (pv' 3) zc7) (zki (zeF zqK (zn (i_A (zT hr)) (pv' 3) zb) (pv' 2))))))),?_⟩)
 ·obtain ⟨rs,x0,n,i,made,r,rfl,_⟩:=h
  rfl
 obtain ⟨rs,x0,n,i,made,r,rfl,q⟩:=h; simp [zaj,zak,zaf,zah,zp,zaa,tC',zbn,zbh,tB',zal,zar,zbv,zP,zaG,zR,zbB,zad,zB,zai,zan,zbl,zbq,zbu,zaA,zby,zi,zap,zat,zE,zQ,zu,zv,zbk,zt,zJ,zao,zx,zaq,zO,zH,zag,zab,zbp,zy,zaz,zM,zam,zau,zG,zav,zae,zK,zaE,zD,zaD,zr,zaF,zaH,zax,zaC,zA,zbw,zj,zI,zk,zl,tBr,brN,zC,zw,zq,zaw,zbz,zF,zm,zaB,zN,zbx,zay,zL]
 refine ⟨small (by decide),⟨zs2 n i,rfl⟩,?_⟩
 rw [show D.tup [D.str n,D.int i]=zgE n i from rfl,zdh]
 cases e:zcV rs n i with
 | none =>
  rw [e] at q; simp [zj4]; exact q
 | some x =>
  rw [e] at q; simp [zj4]; exact q
theorem zbR:FnScope ["counted","deed","key","entry"] ["counted","deed"] (zd zb0):=⟨rfl,rfl,rfl,by decide +kernel,rfl,by decide +kernel,by decide +kernel⟩
theorem zd7 (d:Df K mg "change_counted" zb0 ["counted","deed"]):FnM P w K mg base 1 "change_counted" ["counted","deed"] 0 zbb:=by
 refine d.okM zbR (fun o ds Q h=>?_) (fun f cdv A outer s H E hr b o ds Q h=>⟨_,(ze (zaM 2 zbR.nd (zV (za (zn (i_A (zT hr)) (pv' 1) zb) (za (zn (i_A (zT hr)) (pv' 1) zb) zc))))
  (ze (zaM 3 zbR.nd (zqr (zT hr) 0 (pv' 2)))
  (zf (zaN (zac (zc8 (zcm hr)) (zn (i_A (zT hr)) (pv' 1) zb) (zaS [108,97,116,101,114])) (zf (zfH (zT hr) 0 (pv' 2) (zV (za (zn (i_A (zT hr)) (pv' 1) zb) (za (zn (i_A (zT hr)) (pv' 3) zb) (za (zn (i_A (zT hr)) (pv' 3) zb) zc)))))) (zf (zaN (zac (zc8 (zcm hr)) (zn (i_A (zT hr)) (pv' 1) zb) (zaS [105,110,115,116,101,97,100])) (zf (zfH (zT hr) 0 (pv' 2) (zV (za (zn (i_A (zT hr)) (pv' 3) zb) (za (zn (i_A (zT hr)) (pv' 1) zb) (za (zn (i_A (zT hr)) (pv' 3) zb) zc)))))) (zf (zof (zT hr) 0 (pv' 2))))))))),?_⟩)
 ·obtain ⟨rs,d,r,rfl,rfl,_⟩:=h
  rfl
 obtain ⟨rs,d,r,rfl,rfl,hl,q⟩:=h; simp [zaj,zak,zaf,zah,zp,zaa,tC',zbn,zbh,tB',zal,zar,zbv,zP,zaG,zR,zbB,zad,zB,zai,zan,zbl,zbq,zbu,zaA,zby,zi,zap,zat,zE,zQ,zu,zv,zbk,zt,zJ,zao,zx,zaq,zO,zH,zag,zab,zbp,zy,zaz,zM,zam,zau,zG,zav,zae,zK,zaE,zD,zaD,zr,zaF,zaH,zax,zaC,zA,zbw,zj,zI,zk,zl,tBr,brN,zC,zw,zq,zaw,zbz,zF,zm,zaB,zN,zbx,zay,zL]
 have hk:∀ (n:List Nat) (i:Int),∃ x,[D.str n,D.int i]=List.map zdA x:=fun n i=>⟨zs2 n i,rfl⟩
 have hkR:∀ (n:List Nat) (i:Int),D.tup [D.str n,D.int i]=zgE n i:=fun n i=>rfl
 rcases q with ⟨n,i,day,rfl,e,q⟩ | ⟨n,i,c,rfl,e,q⟩ | ⟨n,i,rfl,e,q⟩
 ·obtain ⟨rfl,rfl⟩:=zib e
  simp [deD,zqU,hk,hkR,zdh,e]
  refine ⟨small (by decide),small (by decide),za6 (by omega),?_⟩
  rw [← zhr] at q; exact q
 ·obtain ⟨rfl,rfl⟩:=zib e
  simp [deD,zq5,hk,hkR,zdh,e]
  refine ⟨small (by decide),small (by decide),za6 (by omega),?_⟩
  rw [← zhr] at q; exact q
 ·simp [deD,zre,hk,hkR,zdh,e,ziB]
  exact ⟨small (by decide),q⟩
theorem zgc:FnScope ["counted","name","made","number","deed"] ["counted","name","made","number","deed"] (zd zds):=⟨rfl,rfl,rfl,by decide +kernel,rfl,by decide +kernel,by decide +kernel⟩
theorem zgr (d:Df K mg "take_deed" zds ["counted","name","made","number","deed"]) (G_finds:Fn P w K mg base 1 "finds" ["counted","deed","made"] zen) (G_change_counted:FnM P w K mg base 1 "change_counted" ["counted","deed"] 0 zbb):FnM P w K mg base 2 "take_deed" ["counted","name","made","number","deed"] 0 zcn:=by
 refine d.okM zgc (fun o ds Q h=>?_) (fun f cdv A outer s H E hr b o ds Q h=>⟨_,(zf (zaN (zac (zc8 (zcm hr)) (zn (i_A (zT hr)) (pv' 4) zb) (zaS [99,104,97,110,103,101])) (zf (zfH (zT hr) 0 (zV (za (pv' 1) (za (pv' 3) zc))) (zV (za (zn (i_A (zT hr)) (pv' 4) zb) (za (zn (i_A (zT hr)) (pv' 4) zb) (za (zn (i_A (zT hr)) (pv' 4) zb) zc)))))) (zf (zaN (zc5 (zcQ (zbd G_finds (hr.mono (by decide)) (za (pv' 0) (za (pv' 4) (za (pv' 2) zc)))))) (zf (zde (zih G_change_counted (hr.mono (by decide)) (zke 0 (za (pv' 4) zc))))) zZ)))),?_⟩)
 ·obtain ⟨rs,nm,made,num,d,rfl,rfl,_⟩:=h
  rfl
 obtain ⟨rs,nm,made,num,dd,rfl,rfl,hl,q⟩:=h; simp [zaj,zak,zaf,zah,zp,zaa,tC',zbn,zbh,tB',zal,zar,zbv,zP,zaG,zR,zbB,zad,zB,zai,zan,zbl,zbq,zbu,zaA,zby,zi,zap,zat,zE,zQ,zu,zv,zbk,zt,zJ,zao,zx,zaq,zO,zH,zag,zab,zbp,zy,zaz,zM,zam,zau,zG,zav,zae,zK,zaE,zD,zaD,zr,zaF,zaH,zax,zaC,zA,zbw,zj,zI,zk,zl,tBr,brN,zC,zw,zq,zaw,zbz,zF,zm,zaB,zN,zbx,zay,zL]
 have hk:∀ (n:List Nat) (i:Int),∃ x,[D.str n,D.int i]=List.map zdA x:=fun n i=>⟨zs2 n i,rfl⟩
 have hkR:∀ (n:List Nat) (i:Int),D.tup [D.str n,D.int i]=zgE n i:=fun n i=>rfl
 have look:∀ (x0:D) (n:List Nat) (i:Int) (rr:List D) (g:Row→List Row),deD dd=.tup (x0 :: .str n :: .int i :: rr)→take rs nm made num dd=zej rs made n i g →
   (∀ r,zcV rs n i=some r→Q D.non (OD.dit ((g r).map zdC))→zbb (OD.dit (List.map zdC rs)) [deD dd] fun r o'=>Q D.non o') →
   zen [D.dit (List.map zdC rs),deD dd,D.int made] fun r=>r.toD=D.bl false∧Q D.non (OD.dit (List.map zdC rs))∨r.toD=D.bl true∧zbb (OD.dit (List.map zdC rs)) [deD dd] fun r o'=>Q D.non o':=fun x0 n i rr g e1 e2 h=>by
  rw [e2] at q
  refine ⟨rs,x0,n,i,made,rr,by rw [e1],?_⟩
  unfold zej at q
  cases e:zcV rs n i with
  | none =>
   rw [e] at q; exact .inl ⟨rfl,q⟩
  | some r =>
   rw [e] at q
   dsimp only at q
   by_cases hd:made<r.day
   ·rw [if_pos hd] at q
    exact .inr ⟨by simp [Res.toD,hd],h r e q⟩
   ·rw [if_neg hd] at q
    exact .inl ⟨by simp [Res.toD,hd],q⟩
 cases dd with
 | ch d c s' =>
  simp [deD,ztu,hk,hkR]
  refine ⟨small (by decide),small (by decide),za6 (by omega),?_⟩
  rw [show take rs nm made num (.ch d c s')=zhm rs ⟨nm,num,d,c,s'⟩ from rfl,← zhr] at q
  exact q
 | lat n i d =>
  refine (zep _ _).mpr ⟨_,show atI _ ((0:Nat):Int)=_ from zbH rfl,?_⟩
  refine (show zlY (D.str zqU) _ _ from ?_)
  simp [zqU]
  exact look _ n i _ _ rfl rfl fun r e q=>⟨rs,_,r,rfl,rfl,hl,.inl ⟨n,i,d,rfl,e,q⟩⟩
 | ins n i c =>
  refine (zep _ _).mpr ⟨_,show atI _ ((0:Nat):Int)=_ from zbH rfl,?_⟩
  refine (show zlY (D.str zq5) _ _ from ?_)
  simp [zq5]
  exact look _ n i _ _ rfl rfl fun r e q=>⟨rs,_,r,rfl,rfl,hl,.inr (.inl ⟨n,i,c,rfl,e,q⟩)⟩
 | drp n i =>
  refine (zep _ _).mpr ⟨_,show atI _ ((0:Nat):Int)=_ from zbH rfl,?_⟩
  refine (show zlY (D.str zre) _ _ from ?_)
  simp [zre]
  exact look _ n i _ _ rfl rfl fun r e q=>⟨rs,_,r,rfl,rfl,hl,.inr (.inr ⟨n,i,rfl,e,q⟩)⟩
end
end K34
namespace K34
open PySem L2 Lb PL M34
def zd9:D→D→Prop:=fun x k=>∃ (i:Int) (r:List D),x=.tup (.int i :: r)∧k=.int i
def za8 (T:Cs):Sp':=fun ds Q=>∃ t es zW,ds=[bkD T t es,.int zW]∧es.length≤100∧zcF (liv zW es)<64∧Q (.own (.lst (wcD (zb3 [] (liv zW es)))))
instance {T:Cs}:MSp (za8 T):=⟨fun _ _ _ h ⟨t,es,zW,e,a,b,q⟩=>⟨t,es,zW,e,a,b,h _ q⟩⟩
section
variable {P:Program} {w:World} {K:PySem.W.Frag} {mg:Str→Option Value} {base:Heap} {T:Cs}
theorem zaY:FnScope ["book","seen","counted","name","made","deeds","number","deed","told"] ["book","seen"] (zd za7):=⟨rfl,rfl,rfl,by decide +kernel,rfl,by decide +kernel,by decide +kernel⟩
theorem ze8 (d:Df K mg "what_counts" za7 ["book","seen"]) (cf:CF K T) (G_living_acts:Fn P w K mg base 2 "living_acts" ["book","seen"] (zbY T)) (G_take_deed:FnM P w K mg base 2 "take_deed" ["counted","name","made","number","deed"] 0 zcn) (z_enumerate:mg "enumerate"=none) (z_sorted:mg "sorted"=none) (lo:LamOf K mg base "what_counts" "what_counts.<locals>.<lambda>"):Fn P w K mg base 4 "what_counts" ["book","seen"] (za8 T):=by
 refine d.okL lo zaY (fun ds Q h=>?_) (fun f cdv A outer s H E la hr ds Q h=>⟨_,(ze (zcp 2 zaY.nd zok)
  (ze (zcv (zbo (zbd G_living_acts (hr.mono (by decide)) (za (pv' 0) (za (pv' 1) zc)))) (zeE (n:=3) (za1 (zU 3 zaY.nd) (za1 (zU 4 zaY.nd) (za1 (zU 5 zaY.nd) zdL))))
   (zf (zcv (zl8 z_enumerate (za (pv' 5) zc)) (zeE (n:=2) (za1 (zU 6 zaY.nd) (za1 (zU 7 zaY.nd) zdL)))
   (zf (zsJ 2 (zde (zih G_take_deed (hr.mono (by decide)) (zke 2 (za (pv' 3) (za (pv' 4) (za (pv' 6) (za (pv' 7) zc))))))))))))
  (zfj 2 (ze (zdK 8 zaY.nd (zdJ (fsc:=zd za7) (N:=["book","seen","counted","name","made","deeds","number","deed","told"]) (N':=["key","entry"]) (src:=[none,none]) (by refine ⟨rfl,?_,?_,?_,rfl,rfl⟩ <;> decide +kernel) (zkh (pv' 2)) (fun _ _ _ _ _ _=>(zeE (n:=2) (za1 (zU 0 (show (["key","entry"]:List Str).Nodup by decide +kernel)) (za1 (zU 1 (show (["key","entry"]:List Str).Nodup by decide +kernel)) zdL)))) (fun _ _ _ _ _ _=>zbs) (fun _ _ _ _ _ _=>(zV (za (zn (i_A (zT hr)) (pv' 1) zb) (za (zn (i_A (zT hr)) (pv' 0) zb) (za (zn (i_A (zT hr)) (pv' 0) zb) (za (zn (i_A (zT hr)) (pv' 1) zb) (za (zn (i_A (zT hr)) (pv' 1) zb) zc)))))))))
  (zf (zfF (zl4 (k:=0) (N:=["entry"]) (ps:=["entry"]) (sp:=zpW zd9) la ⟨rfl,rfl,rfl,by decide +kernel,rfl,by decide +kernel,by decide +kernel⟩ (zjO _)
   (fun f c A outer s H E hr ds Q h=>⟨_,(zn (i_A (zT hr)) (pv' 0) zb),?lam1⟩) (fun _ _ _ us hl=>match us,hl with | [_],_=>rfl) (hr.mono (by decide)) z_sorted (za (pv' 8) zc)))))))),?_⟩)
 case lam1 =>
  obtain ⟨x,k,rfl,⟨i,r,rfl,rfl⟩,q⟩:=h
  simp [zaj,zak,zaf,zah,zp,zaa,tC',zbn,zbh,tB',zal,zar,zbv,zP,zaG,zR,zbB,zad,zB,zai,zan,zbl,zbq,zbu,zaA,zby,zi,zap,zat,zE,zQ,zu,zv,zbk,zt,zJ,zao,zx,zaq,zO,zH,zag,zab,zbp,zy,zaz,zM,zam,zau,zG,zav,zae,zK,zaE,zD,zaD,zr,zaF,zaH,zax,zaC,zA,zbw,zj,zI,zk,zl,tBr,brN,zC,zw,zq,zaw,zbz,zF,zm,zaB,zN,zbx,zay,zL]; exact q
 ·obtain ⟨t,es,zW,rfl,_⟩:=h
  rfl
 obtain ⟨t,es,zW,rfl,hl,ht,q⟩:=h; simp [zaj,zak,zaf,zah,zp,zaa,tC',zbn,zbh,tB',zal,zar,zbv,zP,zaG,zR,zbB,zad,zB,zai,zan,zbl,zbq,zbu,zaA,zby,zi,zap,zat,zE,zQ,zu,zv,zbk,zt,zJ,zao,zx,zaq,zO,zH,zag,zab,zbp,zy,zaz,zM,zam,zau,zG,zav,zae,zK,zaE,zD,zaD,zr,zaF,zaH,zax,zaC,zA,zbw,zj,zI,zk,zl,tBr,brN,zC,zw,zq,zaw,zbz,zF,zm,zaB,zN,zbx,zay,zL]; refine ⟨t,es,zW,rfl,hl,_,rfl,?_⟩; have hcl:=zeb (liv zW es) []; generalize liv zW es=ys at q ht hcl
 have hpre:∀ i,zcF (ys.take i)≤zcF ys:=fun i=>by
  unfold zcF
  conv=>rhs; rw [← List.take_append_drop i ys]
  rw [List.map_append,List.sum_append]; omega
 refine zdl (fun i Γ=>∃ s3 s4 s5 s6 s7:Slot,Γ=[Slot.val (bkD T t es),Slot.val (D.int zW),Slot.own (OD.dit ((zb3 [] (ys.take i)).map zdC)),s3,s4,s5,s6,s7,Slot.emp]) ⟨_,_,_,_,_,rfl⟩ ?_ ?_
 ·rintro i d Γ he ⟨s3,s4,s5,s6,s7,rfl⟩
  rw [List.getElem?_map] at he; obtain ⟨a,ha,rfl⟩:=Option.map_eq_some_iff.mp he; have hb:=zeb (ys.take i) []; have hb2:=hpre (i+1); rw [zaZ ha] at hb2 ⊢; rw [zhT]
  have ht2:zcF (ys.take i ++ [a])=zcF (ys.take i)+a.ds.length:=by simp [zcF]
  rw [ht2] at hb2; generalize zb3 [] (ys.take i)=rs at hb; simp only [List.length_nil,Nat.zero_add] at hb; simp [zaj,zak,zaf,zah,zp,zaa,tC',zbn,zbh,tB',zal,zar,zbv,zP,zaG,zR,zbB,zad,zB,zai,zan,zbl,zbq,zbu,zaA,zby,zi,zap,zat,zE,zQ,zu,zv,zbk,zt,zJ,zao,zx,zaq,zO,zH,zag,zab,zbp,zy,zaz,zM,zam,zau,zG,zav,zae,zK,zaE,zD,zaD,zr,zaF,zaH,zax,zaC,zA,zbw,zj,zI,zk,zl,tBr,brN,zC,zw,zq,zaw,zbz,zF,zm,zaB,zN,zbx,zay,zL,laD]; refine ⟨_,_,⟨rfl,rfl⟩,rfl,?_⟩; refine ⟨_,rfl,?_⟩
  refine zdl (fun j Γ=>∃ s6 s7:Slot,Γ=[Slot.val (bkD T t es),Slot.val (D.int zW),Slot.own (OD.dit ((za2 a.nm a.day rs 0 (a.ds.take j)).map zdC)),Slot.val (.str a.nm),Slot.val (.int a.day),Slot.val (.lst (a.ds.map deD)),s6,s7,Slot.emp]) ⟨_,_,rfl⟩ ?_ ?_
  ·rintro j d Γ he ⟨s6,s7,rfl⟩
   rw [zgM,List.getElem?_map,Option.map_map] at he; obtain ⟨x,hx,rfl⟩:=Option.map_eq_some_iff.mp he; have hj:=(List.getElem?_eq_some_iff.mp hx).1; have hb3:=zcX a.nm a.day (a.ds.take j) rs 0; rw [List.length_take] at hb3; rw [zaZ hx,zdE]
   have hlen:(a.ds.take j).length=j:=by rw [List.length_take]; omega
   rw [hlen]; generalize za2 a.nm a.day rs 0 (a.ds.take j)=rs2 at hb3; simp [zaj,zak,zaf,zah,zp,zaa,tC',zbn,zbh,tB',zal,zar,zbv,zP,zaG,zR,zbB,zad,zB,zai,zan,zbl,zbq,zbu,zaA,zby,zi,zap,zat,zE,zQ,zu,zv,zbk,zt,zJ,zao,zx,zaq,zO,zH,zag,zab,zbp,zy,zaz,zM,zam,zau,zG,zav,zae,zK,zaE,zD,zaD,zr,zaF,zaH,zax,zaC,zA,zbw,zj,zI,zk,zl,tBr,brN,zC,zw,zq,zaw,zbz,zF,zm,zaB,zN,zbx,zay,zL]
   refine ⟨_,_,⟨rfl,rfl⟩,rfl,rs2,a.nm,a.day,_,x,rfl,rfl,by omega,rfl⟩
  ·rintro Γ ⟨s6,s7,rfl⟩
   rw [zgL,List.length_map,take_all]; exact ⟨_,_,_,_,_,rfl⟩
 ·rintro Γ ⟨s3,s4,s5,s6,s7,rfl⟩
  rw [List.length_map,take_all]; generalize zb3 [] ys=rs at q hcl; simp only [List.length_nil,Nat.zero_add] at hcl; simp [zaj,zak,zaf,zah,zp,zaa,tC',zbn,zbh,tB',zal,zar,zbv,zP,zaG,zR,zbB,zad,zB,zai,zan,zbl,zbq,zbu,zaA,zby,zi,zap,zat,zE,zQ,zu,zv,zbk,zt,zJ,zao,zx,zaq,zO,zH,zag,zab,zbp,zy,zaz,zM,zam,zau,zG,zav,zae,zK,zaE,zD,zaD,zr,zaF,zaH,zax,zaC,zA,zbw,zj,zI,zk,zl,tBr,brN,zC,zw,zq,zaw,zbz,zF,zm,zaB,zN,zbx,zay,zL]
  refine ⟨small (by omega),?_⟩
  refine zbM (fun i acc Γ=>∃ (s0 s1:Slot),acc=(rs.take i).map zjW∧Γ=[s0,s1]) ⟨_,_,rfl,rfl⟩ ?_ ?_
  ·rintro i d acc Γ he ⟨s0,s1,rfl,rfl⟩
   rw [List.getElem?_map] at he; obtain ⟨r,hr',rfl⟩:=Option.map_eq_some_iff.mp he; rw [zaZ hr']; simp [zaj,zak,zaf,zah,zp,zaa,tC',zbn,zbh,tB',zal,zar,zbv,zP,zaG,zR,zbB,zad,zB,zai,zan,zbl,zbq,zbu,zaA,zby,zi,zap,zat,zE,zQ,zu,zv,zbk,zt,zJ,zao,zx,zaq,zO,zH,zag,zab,zbp,zy,zaz,zM,zam,zau,zG,zav,zae,zK,zaE,zD,zaD,zr,zaF,zaH,zax,zaC,zA,zbw,zj,zI,zk,zl,tBr,brN,zC,zw,zq,zaw,zbz,zF,zm,zaB,zN,zbx,zay,zL,vo,voS]; refine ⟨_,_,⟨rfl,rfl⟩,rfl,?_⟩
   show ziY (.tup [.int r.day,r.c,r.s]) (D.int 0) _
   simp
   show ziY (.tup [.str r.nm,.int r.num]) (D.int 0) _
   simp
   show ziY (.tup [.str r.nm,.int r.num]) (D.int 1) _
   simp
   show ziY (.tup [.int r.day,r.c,r.s]) (D.int 1) _
   simp
   show ziY (.tup [.int r.day,r.c,r.s]) (D.int 2) _
   simp
   exact ⟨small (by decide),rfl⟩
  ·rintro acc Γ ⟨s0,s1,rfl,rfl⟩
   rw [show (List.map ((fun p=>D.tup [p.fst,p.snd]) ∘ zdC) rs).length=rs.length by simp,take_all]
   refine ⟨by rw [List.length_map]; omega,(rs.map Row.day).map D.int,by simp,fun i x k h1 h2=>?_,_,.inl ⟨_,rfl,rfl⟩,q⟩
   rw [List.getElem?_map] at h1 h2; rw [List.getElem?_map] at h2
   cases hr':rs[i]? with
   | none=>rw [hr'] at h1; cases h1
   | some r =>
    rw [hr'] at h1 h2; cases h1; cases h2; exact ⟨_,_,rfl,⟨_,_,rfl,rfl⟩,rfl⟩
end
end K34
namespace K34
open PySem L2 Lb PL M34
def zhb (c:D):Prop:=∃ (k:Int) (s:List Nat),c=.tup [.int k,.str s]∧s.length≤100
def zrv (s:D):Prop:=s=.non∨∃ i:Int,s=.int i
def znM (ah:List (List Nat)):Deed→Prop
 | .ch _ _ _=>True
 | .lat n _ _=>n ∈ ah
 | .ins n _ _=>n ∈ ah
 | .drp n _=>n ∈ ah
def zhX (ah:List (List Nat)) (d:Deed):Prop:=zf4 zhb zrv d∧znM ah d
structure GoodActs (ns:List (List Nat)) (as:List Act):Prop where
 len:as.length≤14
 at_:∀ (i:Nat) a,as[i]?=some a→ns[i]?=some a.1.nm∧(∀ o,a.1.oth=some o→o ∈ ns.take i∧a.2=[])∧a.2.length≤3∧∀ d,d ∈ a.2→zhX (ns.take i) d
 days:∀ (i j:Nat) a b,i≤j→as[i]?=some a→as[j]?=some b→a.1.day≤b.1.day
def zc0:Sp':=fun ds Q=>∃ c:Int,ds=[.int c]∧∀ ns:List (List Nat),ns.length=14→(∀ n,n ∈ ns→zpt n)→ns.Nodup→Q (.own (.lst (ns.map .str)))
def zcH:Sp':=fun ds Q=>∃ c:Int,ds=[.int c]∧∀ (k:Int) (s:List Nat),s.length≤100→Q (.val (.tup [.int k,.str s]))
def zcI:Sp':=fun ds Q=>∃ (c day:Int) (k:Nat) (ns:List (List Nat)),ds=[.int c,.int k,.int day,.lst (ns.map .str)]∧k≤ns.length∧ns.length≤14∧∀ d,zhX (ns.take k) d→Q (.val (deD d))
def zdp:Sp':=fun ds Q=>∃ (cs:List Int) (ns:List (List Nat)),ds=[.lst (cs.map .int),.lst (ns.map .str)]∧cs.length≤200∧ns.length=14∧∀ as,GoodActs ns as→Q (.own (.lst (as.map zbI)))
instance:MSp zcI:=⟨fun _ _ _ h ⟨c,day,k,ns,e,a,b,q⟩=>⟨c,day,k,ns,e,a,b,fun ns x=>h _ (q ns x)⟩⟩
theorem ze1 {α:Type} (xs:List α) {i:Int} (h0:0≤i) (h1:i<xs.length):∃ d,atI xs i=some d∧d ∈ xs:=by
 obtain ⟨n,rfl⟩:=Int.eq_ofNat_of_zero_le h0
 have hn:n<xs.length:=by omega
 exact ⟨xs[n],zbH (List.getElem?_eq_getElem hn),List.getElem_mem hn⟩
theorem md {i:Int} {n:Nat} (h:0<n):0≤i % (n:Int)∧i % (n:Int)<n:=⟨Int.emod_nonneg _ (by omega),Int.emod_lt_of_pos _ (by omega)⟩
theorem zmq {n:Int} (h0:0≤n) (h1:n<10 ^ 10):(zoO n).length≤10:=by
 have hl:=PySem.W.KT.len_num h0 h1; unfold zoO
 rw [show (Str.ofString (toString n)).cps.toList.length=(Str.ofString (toString n)).length by simp [Str.length]]
 exact hl
theorem zkB {n:Int} (h0:0≤n) (h1:n<10 ^ 10):n.natAbs.log2<1920:=by
  refine Nat.lt_of_lt_of_le ?_ (by decide:40≤1920)
  by_cases hz:n.natAbs=0
  · rw [hz]; decide
  · exact (Nat.log2_lt hz).mpr (by have : n.natAbs < 10 ^ 10 := by omega
                                   have:10 ^ 10<2 ^ 40:=by decide
                                   omega)
def sg (c a k:Int) (j:Nat):Int:=(c / ((j:Int)+5)+(j:Int) * (j:Int)+k * (if (j:Int)=a then 1 else 0)) % 26
def ch (v:Int):Nat:=zes.getD v.toNat 0
def nm1 (c a:Int) (sz:Nat) (k:Nat):List Nat:=(List.range sz).map fun j=>ch (sg c a k j)
theorem zdR:zes.length=26:=by decide
theorem zjS (c a k:Int) (j:Nat):0≤sg c a k j∧sg c a k j<26:=md (n:=26) (by decide)
theorem ztv {v:Int} (h0:0≤v) (h1:v<26):atI zes v=some (ch v):=by
 obtain ⟨n,rfl⟩:=Int.eq_ofNat_of_zero_le h0
 have hn:n<zes.length:=by rw [zdR]; omega
 have:=zbH (xs:=zes) (j:=n) (List.getElem?_eq_getElem hn)
 rw [this]; unfold ch; simp [List.getD,List.getElem?_eq_getElem hn]
theorem zrl {v:Int} (h0:0≤v) (h1:v<26):ch v ∈ zes:=by
 obtain ⟨n,rfl⟩:=Int.eq_ofNat_of_zero_le h0
 have hn:n<zes.length:=by rw [zdR]; omega
 unfold ch; simp [List.getD,List.getElem?_eq_getElem hn]
theorem zrm:∀ i:Fin 26,∀ j:Fin 26,zes.getD i.1 0=zes.getD j.1 0→i=j:=by decide
theorem znn (c a:Int) (sz k:Nat) (h1:1≤sz) (h2:sz≤8):zpt (nm1 c a sz k):=by
 unfold nm1
 refine ⟨by simpa using h1,by simpa using h2,fun x hx=>?_⟩
 obtain ⟨j,_,rfl⟩:=List.mem_map.mp hx; exact zrl (zjS c a k j).1 (zjS c a k j).2
theorem zqR (c a:Int) (sz:Nat) (ha:0≤a) (hs:a<sz) {k k':Nat} (hk:k<14) (hk':k'<14) (e:nm1 c a sz k=nm1 c a sz k'):k=k':=by
 obtain ⟨n,rfl⟩:=Int.eq_ofNat_of_zero_le ha
 have hn:n<sz:=by omega
 have h:=congrArg (fun l=>l[n]?) e
 unfold nm1 at h; simp only [List.getElem?_map,List.getElem?_range hn,Option.map_some,Option.some.injEq] at h; have l1:=zjS c n k n; have l2:=zjS c n k' n
 have h3:=zrm ⟨(sg c n k n).toNat,by omega⟩ ⟨(sg c n k' n).toNat,by omega⟩ h
 have h4:(sg c n k n).toNat=(sg c n k' n).toNat:=congrArg Fin.val h3
 have h5:sg c n k n=sg c n k' n:=by omega
 unfold sg at h5; simp only [if_true,Int.mul_one] at h5; omega
theorem ztc (l:List Nat):(l.map fun x=>[x]).flatten=l:=by
 induction l with
 | nil=>rfl
 | cons a l ih=>simp [ih]
theorem zul (l:List Nat):((l.map fun x=>[x]).map List.length).sum=l.length:=by
 induction l with
 | nil=>rfl
 | cons a l ih =>
  rw [List.map_cons,List.map_cons,List.sum_cons,ih]; simp; omega
section
variable {P:Program} {w:World} {K:PySem.W.Frag} {mg:Str→Option Value} {base:Heap} {T:Cs}
theorem ze5:FnScope ["_law_script","_law_k"] ["_law_script","_law_k"] (zd zcP):=⟨rfl,rfl,rfl,by decide +kernel,rfl,by decide +kernel,by decide +kernel⟩
theorem zfb (d:Df K mg "_law_cell_at" zcP ["_law_script","_law_k"]) (z_len:mg "len"=none):Fn P w K mg base 1 "_law_cell_at" ["_law_script","_law_k"] zbm:=by
 refine d.ok ze5 (fun ds Q h=>?_) (fun f cdv A outer s H E hr ds Q h=>⟨_,(ze (zaN (zac zpx (pv' 1) (zaT zei z_len PySem.boot_len (za (pv' 0) zc))) (zf (zY (zn (i_A (zT hr)) (pv' 0) (pv' 1)))) zZ)
  (zf (zY zb))),?_⟩)
 ·obtain ⟨ns,k,rfl,_⟩:=h
  rfl
 obtain ⟨ns,k,rfl,h0,hl,q⟩:=h; simp [zaj,zak,zaf,zah,zp,zaa,tC',zbn,zbh,tB',zal,zar,zbv,zP,zaG,zR,zbB,zad,zB,zai,zan,zbl,zbq,zbu,zaA,zby,zi,zap,zat,zE,zQ,zu,zv,zbk,zt,zJ,zao,zx,zaq,zO,zH,zag,zab,zbp,zy,zaz,zM,zam,zau,zG,zav,zae,zK,zaE,zD,zaD,zr,zaF,zaH,zax,zaC,zA,zbw,zj,zI,zk,zl,tBr,brN,zC,zw,zq,zaw,zbz,zF,zm,zaB,zN,zbx,zay,zL]
 by_cases e:(ns.length:Int)≤k
 ·exact .inl ⟨e,q 0⟩
 ·obtain ⟨d,e1,m1⟩:=ze1 (ns.map D.int) h0 (by simp; omega)
  obtain ⟨c,_,rfl⟩:=List.mem_map.mp m1
  exact .inr ⟨by omega,_,e1,q c⟩
theorem zhg:FnScope ["_law_cell"] ["_law_cell"] (zd zd2):=⟨rfl,rfl,rfl,by decide +kernel,rfl,by decide +kernel,by decide +kernel⟩
theorem zhA (d:Df K mg "_law_kind" zd2 ["_law_cell"]) (z_str:mg "str"=none):Fn P w K mg base 1 "_law_kind" ["_law_cell"] zcH:=by
 refine d.ok zhg (fun ds Q h=>?_) (fun f cdv A outer s H E hr ds Q h=>⟨_,(zf (zY (zV (za (zS zcj (pv' 0) zb) (za (zd6 ztw z_str PyProof.Rows.boot_str (za (zS zcr zb (zS zcj (zS zcB (pv' 0) zb) (zS zeN zb zb))) zc)) zc))))),?_⟩)
 ·obtain ⟨c,rfl,_⟩:=h
  rfl
 obtain ⟨c,rfl,q⟩:=h; simp [zaj,zak,zaf,zah,zp,zaa,tC',zbn,zbh,tB',zal,zar,zbv,zP,zaG,zR,zbB,zad,zB,zai,zan,zbl,zbq,zbu,zaA,zby,zi,zap,zat,zE,zQ,zu,zv,zbk,zt,zJ,zao,zx,zaq,zO,zH,zag,zab,zbp,zy,zaz,zM,zam,zau,zG,zav,zae,zK,zaE,zD,zaD,zr,zaF,zaH,zax,zaC,zA,zbw,zj,zI,zk,zl,tBr,brN,zC,zw,zq,zaw,zbz,zF,zm,zaB,zN,zbx,zay,zL,zjC,zjB]
 have:=md (i:=c / 5) (n:=1000000) (by decide)
 exact ⟨zkB (by omega) (by omega),small (by decide),q _ _ (Nat.le_trans (zmq (by omega) (by omega)) (by decide))⟩
theorem zbD:FnScope ["_law_cell","_law_letters","_law_size","_law_at","_law_names_here","_law_k","_law_signs"] ["_law_cell"] (zd zcf):=⟨rfl,rfl,rfl,by decide +kernel,rfl,by decide +kernel,by decide +kernel⟩
theorem zgu (d:Df K mg "_law_names" zcf ["_law_cell"]) (z_int:mg "int"=none) (z_range:mg "range"=none):Fn P w K mg base 1 "_law_names" ["_law_cell"] zc0:=by
 refine d.ok zbD (fun ds Q h=>?_) (fun f cdv A outer s H E hr ds Q h=>⟨_,(ze (zaM 1 zbD.nd (zaS zes))
  (ze (zaM 2 zbD.nd (zS zcr zb (zS zcj (pv' 0) zb)))
  (ze (zaM 3 zbD.nd (zS zcj (zS zcB (pv' 0) zb) (pv' 2)))
  (ze (zcp 4 zbD.nd (zb2 zc))
  (ze (zcv (zdf z_range (za zb zc)) (zU 5 zbD.nd)
   (ze (zdK 6 zbD.nd (zdJ (fsc:=zd zcf) (N:=["_law_cell","_law_letters","_law_size","_law_at","_law_names_here","_law_k","_law_signs"]) (N':=["_law_j","_law_k","_law_cell","_law_at"]) (src:=[none,some 5,some 0,some 3]) (by refine ⟨rfl,?_,?_,?_,rfl,rfl⟩ <;> decide +kernel) (zdf z_range (za (pv' 2) zc)) (fun _ _ _ _ _ _=>(zU 0 (show (["_law_j","_law_k","_law_cell","_law_at"]:List Str).Nodup by decide +kernel))) (fun _ _ _ _ _ _=>zbs) (fun _ _ _ _ _ _=>(zS zcj (zS zcr (zS zcr (zS zcB (pv' 2) (zS zcr (pv' 0) zb)) (zS zim (pv' 0) (pv' 0))) (zS zim (pv' 1) (zd6 zrs z_int PyProof.Rows.boot_int (za (zeF (zc8 (zcm hr)) (pv' 0) (pv' 3)) zc)))) zb))))
  (zf (zbX 4 (zqx zoT PySem.F.plainAttrs_str PySem.F.slot_str_join PySem.F.type_str_join (zaS []) (za (zbt (zcg (fsc:=zd zcf) (N:=["_law_cell","_law_letters","_law_size","_law_at","_law_names_here","_law_k","_law_signs"]) (N':=["_law_sign","_law_letters"]) (src:=[none,some 1]) (by refine ⟨rfl,?_,?_,?_,rfl,rfl⟩ <;> decide +kernel) (zbo (pv' 6)) (fun _ _ _ _ _ _=>(zU 0 (show (["_law_sign","_law_letters"]:List Str).Nodup by decide +kernel))) (fun _ _ _ _ _ _=>zbs) (fun _ _ _ _ _ _=>(zn (i_A (zT hr)) (pv' 1) (pv' 0))))) zc))))))
  (zf (zer 4))))))),?_⟩)
 ·obtain ⟨c,rfl,_⟩:=h
  rfl
 obtain ⟨c,rfl,q⟩:=h; simp [zaj,zak,zaf,zah,zp,zaa,tC',zbn,zbh,tB',zal,zar,zbv,zP,zaG,zR,zbB,zad,zB,zai,zan,zbl,zbq,zbu,zaA,zby,zi,zap,zat,zE,zQ,zu,zv,zbk,zt,zJ,zao,zx,zaq,zO,zH,zag,zab,zbp,zy,zaz,zM,zam,zau,zG,zav,zae,zK,zaE,zD,zaD,zr,zaF,zaH,zax,zaC,zA,zbw,zj,zI,zk,zl,tBr,brN,zC,zw,zq,zaw,zbz,zF,zm,zaB,zN,zbx,zay,zL,zjC]
 have m8:=md (i:=c) (n:=8) (by decide)
 refine ⟨by omega,?_⟩
 have ma:0≤c / 8 % (1+c % 8)∧c / 8 % (1+c % 8)<1+c % 8:=⟨Int.emod_nonneg _ (by omega),Int.emod_lt_of_pos _ (by omega)⟩
 obtain ⟨sz,hsz⟩:=Int.eq_ofNat_of_zero_le (show 0≤1+c % 8 by omega)
 rw [hsz] at ma ⊢; generalize c / 8 % (sz:Int)=a at ma
 have hz:1≤sz∧sz≤8:=by omega
 refine zdl (fun i Γ=>∃ s5 s6:Slot,Γ=[Slot.val (D.int c),Slot.val (D.str zes),Slot.val (D.int sz),Slot.val (D.int a),Slot.own (OD.lst (((List.range i).map (nm1 c a sz)).map .str)),s5,s6]) ⟨_,_,rfl⟩ ?_ ?_
 ·rintro i d Γ he ⟨s5,s6,rfl⟩
  rw [List.getElem?_map] at he; obtain ⟨k,hk,rfl⟩:=Option.map_eq_some_iff.mp he; have hi:=(List.getElem?_eq_some_iff.mp hk).1; rw [List.length_range] at hi; rw [List.getElem?_range hi] at hk; cases hk; simp [zaj,zak,zaf,zah,zp,zaa,tC',zbn,zbh,tB',zal,zar,zbv,zP,zaG,zR,zbB,zad,zB,zai,zan,zbl,zbq,zbu,zaA,zby,zi,zap,zat,zE,zQ,zu,zv,zbk,zt,zJ,zao,zx,zaq,zO,zH,zag,zab,zbp,zy,zaz,zM,zam,zau,zG,zav,zae,zK,zaE,zD,zaD,zr,zaF,zaH,zax,zaC,zA,zbw,zj,zI,zk,zl,tBr,brN,zC,zw,zq,zaw,zbz,zF,zm,zaB,zN,zbx,zay,zL]
  refine ⟨by omega,small (by omega),?_⟩
  refine zbM (fun j acc Γ=>∃ s0:Slot,acc=(List.range j).map (fun j=>D.int (sg c a i j))∧Γ=[s0,Slot.val (D.int i),Slot.val (D.int c),Slot.val (D.int a)]) ⟨_,rfl,rfl⟩ ?_ ?_
  ·rintro j d acc Γ hd ⟨s0,rfl,rfl⟩
   rw [List.getElem?_map] at hd; obtain ⟨k,hk,rfl⟩:=Option.map_eq_some_iff.mp hd; have hj:=(List.getElem?_eq_some_iff.mp hk).1; rw [List.length_range] at hj; rw [List.getElem?_range hj] at hk; cases hk; simp [zaj,zak,zaf,zah,zp,zaa,tC',zbn,zbh,tB',zal,zar,zbv,zP,zaG,zR,zbB,zad,zB,zai,zan,zbl,zbq,zbu,zaA,zby,zi,zap,zat,zE,zQ,zu,zv,zbk,zt,zJ,zao,zx,zaq,zO,zH,zag,zab,zbp,zy,zaz,zM,zam,zau,zG,zav,zae,zK,zaE,zD,zaD,zr,zaF,zaH,zax,zaC,zA,zbw,zj,zI,zk,zl,tBr,brN,zC,zw,zq,zaw,zbz,zF,zm,zaB,zN,zbx,zay,zL,vo,voS,zjC,zlt]
   refine ⟨by omega,by omega,?_⟩
   rw [List.range_succ]; simp [sg]
   exact .inl (by omega)
  ·rintro acc Γ ⟨s0,rfl,rfl⟩
   rw [List.length_map,List.length_range]
   refine ⟨by rw [List.length_map,List.length_range]; exact small (by omega),?_⟩
   refine zbM (fun j acc Γ=>∃ s0:Slot,acc=((List.range j).map fun j=>[ch (sg c a i j)]).map .str∧Γ=[s0,Slot.val (D.str zes)]) ⟨_,rfl,rfl⟩ ?_ ?_
   ·rintro j d acc Γ hd ⟨s0,rfl,rfl⟩
    rw [List.getElem?_map] at hd; obtain ⟨k,hk,rfl⟩:=Option.map_eq_some_iff.mp hd; have hj:=(List.getElem?_eq_some_iff.mp hk).1; rw [List.length_range] at hj; rw [List.getElem?_range hj] at hk; cases hk; have l1:=zjS c a i j; simp [zaj,zak,zaf,zah,zp,zaa,tC',zbn,zbh,tB',zal,zar,zbv,zP,zaG,zR,zbB,zad,zB,zai,zan,zbl,zbq,zbu,zaA,zby,zi,zap,zat,zE,zQ,zu,zv,zbk,zt,zJ,zao,zx,zaq,zO,zH,zag,zab,zbp,zy,zaz,zM,zam,zau,zG,zav,zae,zK,zaE,zD,zaD,zr,zaF,zaH,zax,zaC,zA,zbw,zj,zI,zk,zl,tBr,brN,zC,zw,zq,zaw,zbz,zF,zm,zaB,zN,zbx,zay,zL,vo,voS,ztv l1.1 l1.2]
    refine ⟨by rw [zdR]; exact small (by decide),?_⟩
    rw [List.range_succ]; simp
   ·rintro acc Γ ⟨s0,rfl,rfl⟩
    simp only [List.length_map,List.length_range]
    have ef:((List.range sz).map fun j=>[ch (sg c a i j)])=(nm1 c a sz i).map fun x=>[x]:=by
     unfold nm1; rw [List.map_map]; rfl
    rw [ef]; refine ⟨_,rfl,rfl,?_,?_⟩
    ·rw [zul]
     have:=(znn c a sz i hz.1 hz.2).2.1
     omega
    ·rw [ztc]
     refine ⟨za6 (by omega),?_⟩
     rw [List.range_succ]; simp
 ·rintro Γ ⟨s5,s6,rfl⟩
  simp [zaj,zak,zaf,zah,zp,zaa,tC',zbn,zbh,tB',zal,zar,zbv,zP,zaG,zR,zbB,zad,zB,zai,zan,zbl,zbq,zbu,zaA,zby,zi,zap,zat,zE,zQ,zu,zv,zbk,zt,zJ,zao,zx,zaq,zO,zH,zag,zab,zbp,zy,zaz,zM,zam,zau,zG,zav,zae,zK,zaE,zD,zaD,zr,zaF,zaH,zax,zaC,zA,zbw,zj,zI,zk,zl,tBr,brN,zC,zw,zq,zaw,zbz,zF,zm,zaB,zN,zbx,zay,zL]
  have h:=q ((List.range 14).map (nm1 c a sz)) (by simp) (fun n hn=>?_) ?_
  ·simpa using h
  ·obtain ⟨k,_,rfl⟩:=List.mem_map.mp hn
   exact znn c a sz k hz.1 hz.2
  ·refine List.pairwise_iff_getElem.mpr fun x y hx hy hxy e=>?_
   simp only [List.getElem_map,List.getElem_range] at e; simp only [List.length_map,List.length_range] at hx hy
   have:=zqR c a sz ma.1 ma.2 hx hy e
   omega
theorem zbK:FnScope ["_law_cell","_law_k","_law_day","_law_names_here","_law_kind_here","_law_more","_law_when","_law_since","_law_name","_law_number"] ["_law_cell","_law_k","_law_day","_law_names_here"] (zd zd3):=⟨rfl,rfl,rfl,by decide +kernel,rfl,by decide +kernel,by decide +kernel⟩
theorem zhB (d:Df K mg "_law_deed" zd3 ["_law_cell","_law_k","_law_day","_law_names_here"]) (G_law_kind:Fn P w K mg base 1 "_law_kind" ["_law_cell"] zcH):Fn P w K mg base 2 "_law_deed" ["_law_cell","_law_k","_law_day","_law_names_here"] zcI:=by
 refine d.ok zbK (fun ds Q h=>?_) (fun f cdv A outer s H E hr ds Q h=>⟨_,(ze (zaM 4 zbK.nd (zS zcj (pv' 0) zb))
  (ze (zaM 5 zbK.nd (zS zcB (pv' 0) zb))
  (ze (zaM 6 zbK.nd (zS zcr (pv' 2) (zn (i_A (zT hr)) (zbt (zb2 (za zhu (za zb (za zb (za zb (za zb (za zb (za zb (za (zS zeN zb zb) zc)))))))))) (zS zcj (pv' 5) zb))))
  (ze (zaN (PW'.pt (zj7 (zac zpx (pv' 4) zb) (zhq (zac (zc8 (zcm hr)) (pv' 1) zb)))) (ze (zaM 7 zbK.nd (zn (i_A (zT hr)) (zbt (zb2 (za zc7 (za (pv' 6) (za (zS zcr (pv' 6) zb) (za (zS zoL (pv' 2) zb) (za zc7 zc))))))) (zS zcj (zS zcB (pv' 5) zb) zb)))
  (zf (zY (zV (za (zaS [99,104,97,110,103,101]) (za (pv' 6) (za (zbd G_law_kind (hr.mono (by decide)) (za (pv' 0) zc)) (za (pv' 7) zc)))))))) zZ)
  (ze (zaM 8 zbK.nd (zn (i_A (zT hr)) (pv' 3) (zS zcj (zS zcB (pv' 5) zb) (pv' 1))))
  (ze (zaM 9 zbK.nd (zS zcj (zS zcB (pv' 5) zb) zb))
  (ze (zaN (zac (zc8 (zcm hr)) (pv' 4) zb) (zf (zY (zV (za (zaS [108,97,116,101,114]) (za (pv' 8) (za (pv' 9) (za (pv' 6) zc))))))) zZ)
  (ze (zaN (zac (zc8 (zcm hr)) (pv' 4) zb) (zf (zY (zV (za (zaS [108,97,116,101,114]) (za (pv' 8) (za zb (za (zS zcr (pv' 6) (zS zcj (zS zcB (pv' 5) zb) zb)) zc))))))) zZ)
  (ze (zaN (zac (zc8 (zcm hr)) (pv' 4) zb) (zf (zY (zV (za (zaS [105,110,115,116,101,97,100]) (za (pv' 8) (za (pv' 9) (za (zbd G_law_kind (hr.mono (by decide)) (za (pv' 0) zc)) zc))))))) zZ)
  (zf (zY (zV (za (zaS [100,114,111,112]) (za (pv' 8) (za (pv' 9) zc))))))))))))))),?_⟩)
 ·obtain ⟨c,day,k,ns,rfl,_⟩:=h
  rfl
 obtain ⟨c,day,k,ns,rfl,hk,hl,q⟩:=h; simp [zaj,zak,zaf,zah,zp,zaa,tC',zbn,zbh,tB',zal,zar,zbv,zP,zaG,zR,zbB,zad,zB,zai,zan,zbl,zbq,zbu,zaA,zby,zi,zap,zat,zE,zQ,zu,zv,zbk,zt,zJ,zao,zx,zaq,zO,zH,zag,zab,zbp,zy,zaz,zM,zam,zau,zG,zav,zae,zK,zaE,zD,zaD,zr,zaF,zaH,zax,zaC,zA,zbw,zj,zI,zk,zl,tBr,brN,zC,zw,zq,zaw,zbz,zF,zm,zaB,zN,zbx,zay,zL,zcH,zjC,zjB]
 refine ⟨small (by decide),?_⟩
 have m8:=md (i:=c / 7) (n:=8) (by decide)
 obtain ⟨d0,e0,m0⟩:=ze1 [D.int (-9),D.int 0,D.int 1,D.int 5,D.int 12,D.int 30,D.int 31,D.int 100000000000000000] (i:=c / 7 % 8) m8.1 (by simpa using m8.2)
 have i0:∃ v:Int,d0=.int v:=by
  simp at m0
  rcases m0 with h | h | h | h | h | h | h | h <;> exact ⟨_,h⟩
 obtain ⟨v,rfl⟩:=i0; refine ⟨_,e0,?_⟩; rw [zdI]
 have chgB:∀ R:Prop,R=True→R:=fun R h=>h ▸ trivial
 have m5:=md (i:=c / 7 / 8) (n:=5) (by decide)
 obtain ⟨d5,e5,hd5⟩:=ze1 [D.non,D.int (day+v),D.int (day+v+3),D.int (day-2),D.non] (i:=c / 7 / 8 % 5) m5.1 (by simpa using m5.2)
 have s5:zrv d5:=by
  simp at hd5
  rcases hd5 with h | h | h | h | h
  ·exact .inl h
  ·exact .inr ⟨_,h⟩
  ·exact .inr ⟨_,h⟩
  ·exact .inr ⟨_,h⟩
  ·exact .inl h
 have B:zhp (D.int (day+v)) (D.int 3) fun d_1=>5≤sizeLine∧∃ d_2,atI [D.non,D.int (day+v),d_1,D.int (day-2),D.non] (c / 7 / 8 % 5)=some d_2∧∀ (k:Int) (s:List Nat),s.length≤100→4≤sizeLine∧Q (Res.val (D.tup [D.str [99,104,97,110,103,101],D.int (day+v),D.tup [D.int k,D.str s],d_2])):=by
  rw [zdI]
  exact ⟨small (by decide),_,e5,fun k s hs=>⟨small (by decide),q (.ch (day+v) (.tup [.int k,.str s]) d5) ⟨⟨⟨k,s,rfl,hs⟩,s5⟩,trivial⟩⟩⟩
 by_cases e7:c % 7<3
 ·exact .inr ⟨e7,B⟩
 ·refine .inl ⟨by omega,?_⟩
  by_cases ek:k=0
  ·exact .inr ⟨ek,B⟩
  ·refine .inl ⟨ek,by omega,?_⟩
   have mk:=md (i:=c / 7 / 8) (n:=k) (by omega)
   have hlk:(ns.take k).length=k:=by rw [List.length_take]; omega
   obtain ⟨dn,en,mn⟩:=ze1 ((ns.take k).map D.str) (i:=c / 7 / 8 % (k:Int)) mk.1 (by rw [List.length_map,hlk]; exact mk.2)
   obtain ⟨n,hn,rfl⟩:=List.mem_map.mp mn
   have en2:atI (List.map D.str ns) (c / 7 / 8 % (k:Int))=some (D.str n):=by
    obtain ⟨j,hj⟩:=Int.eq_ofNat_of_zero_le mk.1; rw [hj] at en mk ⊢
    have hjk:j<k:=by omega
    have h2:((ns.take k).map D.str)[j]?=some (D.str n):=by
     have hh:j<((ns.take k).map D.str).length:=by rw [List.length_map,hlk]; exact hjk
     have:=zbH (xs:=(ns.take k).map D.str) (j:=j) (List.getElem?_eq_getElem hh)
     rw [this] at en; rw [List.getElem?_eq_getElem hh]; exact en
    refine zbH ?_; rw [List.getElem?_map] at h2 ⊢; rw [List.getElem?_take_of_lt hjk] at h2; exact h2
   refine ⟨_,en2,?_⟩
   by_cases e3:c % 7=3
   ·exact .inr ⟨e3,small (by decide),q (.lat n _ _) ⟨trivial,hn⟩⟩
   ·refine .inl ⟨e3,?_⟩
    by_cases e4:c % 7=4
    ·refine .inr ⟨e4,?_⟩
     rw [zdI]
     exact ⟨small (by decide),q (.lat n _ _) ⟨trivial,hn⟩⟩
    ·refine .inl ⟨e4,?_⟩
     by_cases e5':c % 7=5
     ·exact .inr ⟨e5',fun k s hs=>⟨small (by decide),q (.ins n _ (.tup [.int k,.str s])) ⟨⟨k,s,rfl,hs⟩,hn⟩⟩⟩
     ·exact .inl ⟨e5',small (by decide),q (.drp n _) ⟨trivial,hn⟩⟩
end
end K34
namespace K34
open PySem L2 Lb PL M34
theorem zpU {G:Int→Prop} {X:Prop} (a:(∀ d,G d)→X) (k:∀ d,G d):X:=a k
theorem pick (ns:List (List Nat)) {k:Nat} (hk:0<k) (hl:k≤ns.length) (x:Int):∃ o,o ∈ ns.take k∧atI (ns.map D.str) (x % (k:Int))=some (D.str o):=by
 have mk:=md (i:=x) (n:=k) hk; obtain ⟨j,hj⟩:=Int.eq_ofNat_of_zero_le mk.1; rw [hj] at mk ⊢
 have hjk:j<k:=by omega
 have hjl:j<ns.length:=by omega
 refine ⟨ns[j],?_,zbH (by rw [List.getElem?_map,List.getElem?_eq_getElem hjl]; rfl)⟩
 refine List.mem_of_getElem? (i:=j) ?_; rw [List.getElem?_take_of_lt hjk,List.getElem?_eq_getElem hjl]
theorem zpV {G X:Prop} (a:G→X) (k:G):X:=a k
theorem GoodActs.nil {ns:List (List Nat)}:GoodActs ns []:=⟨Nat.zero_le _,fun i a h=>by simp at h,fun i j a b _ h=>by simp at h⟩
theorem GoodActs.snoc {ns:List (List Nat)} {as:List Act} {a:Act} (g:GoodActs ns as) (hl:as.length<14) (h1:ns[as.length]?=some a.1.nm) (h2:∀ o,a.1.oth=some o→o ∈ ns.take as.length∧a.2=[]) (h3:a.2.length≤3) (h4:∀ d,d ∈ a.2→zhX (ns.take as.length) d) (h5:∀ b,b ∈ as→b.1.day≤a.1.day):GoodActs ns (as ++ [a]):=by
 refine ⟨by simp; omega,fun i b h=>?_,fun i j b c hij hb hc=>?_⟩
 ·by_cases hi:i<as.length
  ·rw [List.getElem?_append_left hi] at h
   exact g.at_ i b h
  ·rw [List.getElem?_append_right (by omega)] at h
   have:i=as.length:=by
    have:=(List.getElem?_eq_some_iff.mp h).1
    simp at this
    omega
   subst this
   simp at h
   subst h; exact ⟨h1,h2,h3,h4⟩
 ·by_cases hj:j<as.length
  ·rw [List.getElem?_append_left hj] at hc
   rw [List.getElem?_append_left (by omega)] at hb
   exact g.days i j b c hij hb hc
  ·rw [List.getElem?_append_right (by omega)] at hc
   have hz:j-as.length=0:=by
    have:=(List.getElem?_eq_some_iff.mp hc).1
    simp at this
    omega
   rw [hz] at hc
   simp at hc
   subst hc
   by_cases hi:i<as.length
   ·rw [List.getElem?_append_left hi] at hb
    exact h5 b (List.mem_of_getElem? hb)
   ·rw [List.getElem?_append_right (by omega)] at hb
    have hz:i-as.length=0:=by omega
    rw [hz] at hb
    simp at hb
    subst hb; exact Int.le_refl _
section
variable {P:Program} {w:World} {K:PySem.W.Frag} {mg:Str→Option Value} {base:Heap} {T:Cs}
set_option synthInstance.maxSize 4000
set_option synthInstance.maxHeartbeats 2000000
theorem za0:FnScope ["_law_script","_law_names_here","_law_acts_here","_law_day","_law_cells","_law_k","_law_at","_law_four","_law_many","_law_deeds"] ["_law_script","_law_names_here"] (zd zcA):=⟨rfl,rfl,rfl,by decide +kernel,rfl,by decide +kernel,by decide +kernel⟩
theorem zhD (d:Df K mg "_law_acts" zcA ["_law_script","_law_names_here"]) (G_law_cell_at:Fn P w K mg base 1 "_law_cell_at" ["_law_script","_law_k"] zbm) (G_law_deed:Fn P w K mg base 2 "_law_deed" ["_law_cell","_law_k","_law_day","_law_names_here"] zcI) (z_len:mg "len"=none) (z_range:mg "range"=none):Fn P w K mg base 3 "_law_acts" ["_law_script","_law_names_here"] zdp:=by
 refine d.ok za0 (fun ds Q h=>?_) (fun f cdv A outer s H E hr ds Q h=>⟨_,(ze (zcp 2 za0.nd (zb2 zc))
  (ze (zaM 3 za0.nd (zS zoL (zS zcj (zbd G_law_cell_at (hr.mono (by decide)) (za (pv' 0) (za zb zc))) (zS zim zb (zS zeN zb zb))) (zS zeN zb zb)))
  (ze (zaN (zac zqK (zS zcj (zbd G_law_cell_at (hr.mono (by decide)) (za (pv' 0) (za zb zc))) zb) zb) (zf (zaM 3 za0.nd (zS zoL (zS zcj (zbd G_law_cell_at (hr.mono (by decide)) (za (pv' 0) (za zb zc))) zb) zb))) zZ)
  (ze (zaM 4 za0.nd (zng s_A (pv' 0) (zoC zb) (zoC zb)))
  (ze (zcv (zi6 z_range (za zb (za (zaT zei z_len PySem.boot_len (za (pv' 4) zc)) (za zb zc)))) (zU 5 za0.nd)
   (ze (zaM 6 za0.nd (zhv (zaT zei z_len PySem.boot_len (za (pv' 2) zc))))
  (ze (zaM 7 za0.nd (zbt (zcg (fsc:=zd zcA) (N:=["_law_script","_law_names_here","_law_acts_here","_law_day","_law_cells","_law_k","_law_at","_law_four","_law_many","_law_deeds"]) (N':=["_law_j","_law_cells","_law_k"]) (src:=[none,some 4,some 5]) (by refine ⟨rfl,?_,?_,?_,rfl,rfl⟩ <;> decide +kernel) (zdf z_range (za zb zc)) (fun _ _ _ _ _ _=>(zU 0 (show (["_law_j","_law_cells","_law_k"]:List Str).Nodup by decide +kernel))) (fun _ _ _ _ _ _=>zbs) (fun _ _ _ _ _ _=>(zbd G_law_cell_at (hr.mono (by decide)) (za (pv' 1) (za (zS zcr (pv' 2) (pv' 0)) zc)))))))
  (ze (zaM 3 za0.nd (zS zcr (pv' 3) (zn (i_A (zT hr)) (zbt (zb2 (za zb (za zb (za zb (za zb (za zb zc))))))) (zS zcj (zn (i_A (zT hr)) (pv' 7) zb) zb))))
  (zf (zaN (PW'.pt (zfD (zac (zc8 (zcm hr)) (zS zcj (zS zcB (zn (i_A (zT hr)) (pv' 7) zb) zb) zb) zb) (zeq (zac zqK (pv' 6) zb)))) (zf (zbX 2 (zV (za (zn (i_A (zT hr)) (pv' 1) (pv' 6)) (za (pv' 3) (za (zn (i_A (zT hr)) (pv' 1) (zS zcj (zn (i_A (zT hr)) (pv' 7) zb) (pv' 6))) (za (zbt (zb2 zc)) zc))))))) (ze (zaM 8 za0.nd (zn (i_A (zT hr)) (zbt (zb2 (za zb (za zb (za zb (za zb (za zb zc))))))) (zS zcj (zS zcB (zn (i_A (zT hr)) (pv' 7) zb) zb) zb)))
  (ze (zdK 9 za0.nd (zdJ (fsc:=zd zcA) (N:=["_law_script","_law_names_here","_law_acts_here","_law_day","_law_cells","_law_k","_law_at","_law_four","_law_many","_law_deeds"]) (N':=["_law_j","_law_at","_law_day","_law_names_here","_law_four"]) (src:=[none,some 6,some 3,some 1,some 7]) (by refine ⟨rfl,?_,?_,?_,rfl,rfl⟩ <;> decide +kernel) (zdf z_range (za (pv' 8) zc)) (fun _ _ _ _ _ _=>(zU 0 (show (["_law_j","_law_at","_law_day","_law_names_here","_law_four"]:List Str).Nodup by decide +kernel))) (fun _ _ _ _ _ _=>zbs) (fun _ _ _ _ _ _=>(zbd G_law_deed (hr.mono (by decide)) (za (zS zcj (zS zim (zn (i_A (zT hr)) (pv' 4) (zS zcr zb (pv' 0))) zb) zb) (za (pv' 1) (za (pv' 2) (za (pv' 3) zc))))))))
  (zf (zbX 2 (zV (za (zn (i_A (zT hr)) (pv' 1) (pv' 6)) (za (pv' 3) (za zc7 (za (pv' 9) zc)))))))))))))))
  (zf (zer 2))))))),?_⟩)
 ·obtain ⟨cs,ns,rfl,_⟩:=h
  rfl
 obtain ⟨cs,ns,rfl,hl,hn,q⟩:=h
 have ca:∀ (cs:List Int) (k:Int) (R:Res→Prop),cs.length≤200→0≤k→(∀ c:Int,R (.val (.int c)))→zbm [.lst (cs.map .int),.int k] R:=fun cs k R hl h0 h=>⟨cs,k,rfl,h0,hl,h⟩
 simp [zaj,zak,zaf,zah,zp,zaa,tC',zbn,zbh,tB',zal,zar,zbv,zP,zaG,zR,zbB,zad,zB,zai,zan,zbl,zbq,zbu,zaA,zby,zi,zap,zat,zE,zQ,zu,zv,zbk,zt,zJ,zao,zx,zaq,zO,zH,zag,zab,zbp,zy,zaz,zM,zam,zau,zG,zav,zae,zK,zaE,zD,zaD,zr,zaF,zaH,zax,zaC,zA,zbw,zj,zI,zk,zl,tBr,brN,zC,zw,zq,zaw,zbz,zF,zm,zaB,zN,zbx,zay,zL,zjC,zlt,zjB]
 have hcut:zfX (List.map D.int cs) (some 2) (some 58)=(zfX cs (some 2) (some 58)).map D.int:=ziF ..
 rw [hcut]
 have hcl:(zfX cs (some 2) (some 58)).length≤56:=by
  unfold zfX; rw [List.length_take]; simp [HT.sIx]; omega
 generalize zfX cs (some 2) (some 58)=ys at hcl; rw [List.length_map]
 apply zpU
 ·intro key
  refine ca cs 1 _ hl (by decide) fun c1=>?_
  simp
  refine ca cs 1 _ hl (by decide) fun c2=>?_
  simp
  by_cases e:c2 % 3=0
  ·refine .inl ⟨by omega,by omega,?_⟩
   generalize c1 % 2000000000000000000-1000000000000000000=d; exact key d
  ·have:=md (i:=c2) (n:=3) (by decide)
   refine .inr ⟨by omega,ca cs 1 _ hl (by decide) fun c3=>?_⟩
   simp
   refine ⟨by omega,?_⟩
   exact key _
 ·intro d0
  refine zdl (fun i Γ=>∃ (as:List Act) (day:Int) (s5 s6 s7 s8 s9:Slot),as.length=i∧GoodActs ns as∧(∀ b,b ∈ as→b.1.day≤day) ∧
   Γ=[Slot.val (D.lst (List.map D.int cs)),Slot.val (D.lst (List.map D.str ns)),Slot.own (OD.lst (as.map zbI)),Slot.val (D.int day),Slot.val (D.lst (ys.map D.int)),s5,s6,s7,s8,s9]) ⟨[],d0,_,_,_,_,_,rfl,.nil,fun _ z=>by simp at z,rfl⟩ ?_ ?_
  ·rintro i d Γ hd ⟨as,day,s5,s6,s7,s8,s9,rfl,ga,hdays,rfl⟩
   unfold ztN at hd; rw [List.getElem?_map] at hd; obtain ⟨c',hc',rfl⟩:=Option.map_eq_some_iff.mp hd; have hci:=(List.getElem?_eq_some_iff.mp hc').1; rw [List.length_range] at hci; rw [List.getElem?_range hci] at hc'; cases hc'
   have hi:as.length<14:=by
    unfold Builtin.Range.rangeSize at hci; split at hci
    ·split at hci <;> omega
    ·omega
   simp [zaj,zak,zaf,zah,zp,zaa,tC',zbn,zbh,tB',zal,zar,zbv,zP,zaG,zR,zbB,zad,zB,zai,zan,zbl,zbq,zbu,zaA,zby,zi,zap,zat,zE,zQ,zu,zv,zbk,zt,zJ,zao,zx,zaq,zO,zH,zag,zab,zbp,zy,zaz,zM,zam,zau,zG,zav,zae,zK,zaE,zD,zaD,zr,zaF,zaH,zax,zaC,zA,zbw,zj,zI,zk,zl,tBr,brN,zC,zw,zq,zaw,zbz,zF,zm,zaB,zN,zbx,zay,zL,zjC,zlt]; have big:=za6 (n:=1000) (Nat.le_refl _)
   have o4:4≤sizeLine:=by omega
   have o5:5≤sizeLine:=by omega
   have oa:as.length<sizeLine:=by omega
   refine ⟨.int _,by omega,?_⟩
   refine zbM (fun j acc Γ=>∃ (xs:List Int) (s0:Slot),acc=xs.map .int∧xs.length=j∧Γ=[s0,Slot.val (D.lst (List.map D.int ys)),Slot.val (D.int ((as.length:Int) * 4))]) ⟨[],_,rfl,rfl,rfl⟩ ?_ ?_
   ·rintro j d acc Γ hd ⟨xs,s0,rfl,hx,rfl⟩
    rw [List.getElem?_map] at hd; obtain ⟨k,hk,rfl⟩:=Option.map_eq_some_iff.mp hd; simp [zaj,zak,zaf,zah,zp,zaa,tC',zbn,zbh,tB',zal,zar,zbv,zP,zaG,zR,zbB,zad,zB,zai,zan,zbl,zbq,zbu,zaA,zby,zi,zap,zat,zE,zQ,zu,zv,zbk,zt,zJ,zao,zx,zaq,zO,zH,zag,zab,zbp,zy,zaz,zM,zam,zau,zG,zav,zae,zK,zaE,zD,zaD,zr,zaF,zaH,zax,zaC,zA,zbw,zj,zI,zk,zl,tBr,brN,zC,zw,zq,zaw,zbz,zF,zm,zaB,zN,zbx,zay,zL,vo,voS]
    exact ca ys _ _ (by omega) (by omega) fun c=>⟨xs ++ [c],by simp,by simp [hx]⟩
   rintro acc Γ ⟨xs,s0,rfl,hx,rfl⟩
   simp only [List.length_map,List.length_range] at hx
   obtain ⟨x0,x1,x2,x3,rfl⟩:∃ x0 x1 x2 x3,xs=[x0,x1,x2,x3]:=by
    match xs,hx with
    | [a,b,c,d],_=>exact ⟨a,b,c,d,rfl⟩
   have m5:=md (i:=x0) (n:=5) (by decide)
   obtain ⟨dd,ed,md'⟩:=ze1 [D.int 0,D.int 1,D.int 1,D.int 3,D.int 8] (i:=x0 % 5) m5.1 (by simpa using m5.2)
   have hv:∃ v:Int,dd=.int v∧0≤v:=by
    simp at md'
    rcases md' with h | h | h | h <;> exact ⟨_,h,by decide⟩
   obtain ⟨v,rfl,hv0⟩:=hv
   obtain ⟨n,hn1⟩:∃ n,ns[as.length]?=some n:=⟨_,List.getElem?_eq_getElem (by omega)⟩
   have hn2:atI (List.map D.str ns) (as.length:Int)=some (D.str n):=zbH (by rw [List.getElem?_map,hn1]; rfl)
   have hdays2:∀ b,b ∈ as→b.1.day≤day+v:=fun b hb=>by have:=hdays b hb; omega
   simp [ed,zjC,o4,o5,oa,hn2]
   apply zpV
   ·intro key
    by_cases e:x0 / 5 % 4=3
    ·refine .inr ⟨e,?_⟩
     by_cases e0:as=[]
     ·exact .inl ⟨e0,key⟩
     ·have hpos:0<as.length:=List.length_pos_iff.mpr e0
      obtain ⟨o,ho,en⟩:=pick ns hpos (by omega) x1
      refine .inr ⟨hpos,_,en,as ++ [(⟨n,day+v,some o⟩,[])],by simp,ga.snoc hi hn1 (fun o' h'=>?_) (by simp) (fun _ z=>by simp at z) hdays2,fun a b hb=>?_,by simp [zbI,zkp]⟩
      ·cases h'
       exact ⟨ho,rfl⟩
      ·rcases List.mem_append.mp hb with hb | hb
       ·exact hdays2 _ hb
       ·cases List.mem_singleton.mp hb
        exact Int.le_refl _
    ·exact .inl ⟨e,key⟩
   ·have m20:=md (i:=x0 / 20) (n:=5) (by decide)
    obtain ⟨dj,ej,mj⟩:=ze1 [D.int 3,D.int 1,D.int 2,D.int 3,D.int 0] (i:=x0 / 20 % 5) m20.1 (by simpa using m20.2)
    have hj:∃ j:Nat,dj=.int j∧j≤3:=by
     simp at mj
     rcases mj with h | h | h | h | h
     ·exact ⟨3,h,by decide⟩
     ·exact ⟨1,h,by decide⟩
     ·exact ⟨2,h,by decide⟩
     ·exact ⟨3,h,by decide⟩
     ·exact ⟨0,h,by decide⟩
    obtain ⟨j,rfl,hj3⟩:=hj
    refine ⟨_,ej,j,rfl,by omega,by omega,by omega,?_⟩
    rw [Int.toNat_natCast]
    refine zbM (fun m acc Γ=>∃ (s0:Slot) (dl:List Deed),acc=dl.map deD∧dl.length=m∧(∀ d,d ∈ dl→zhX (ns.take as.length) d)∧Γ=[s0,Slot.val (D.int as.length),Slot.val (D.int (day+v)),Slot.val (D.lst (List.map D.str ns)),Slot.val (D.lst [D.int x0,D.int x1,D.int x2,D.int x3])]) ⟨_,[],rfl,rfl,fun _ z=>by simp at z,rfl⟩ ?_ ?_
    ·rintro m d acc Γ hd ⟨s0,dl,rfl,h1,h2,rfl⟩
     rw [List.getElem?_map] at hd; obtain ⟨k,hk,rfl⟩:=Option.map_eq_some_iff.mp hd; have hm:=(List.getElem?_eq_some_iff.mp hk).1; rw [List.length_range] at hm; rw [List.getElem?_range hm] at hk; cases hk
     have hx:∃ x:Int,atI [D.int x0,D.int x1,D.int x2,D.int x3] (1+(m:Int))=some (D.int x):=by
      have:m=0∨m=1∨m=2:=by omega
      rcases this with rfl | rfl | rfl
      ·exact ⟨x1,rfl⟩
      ·exact ⟨x2,rfl⟩
      ·exact ⟨x3,rfl⟩
     obtain ⟨x,ex⟩:=hx; simp [zaj,zak,zaf,zah,zp,zaa,tC',zbn,zbh,tB',zal,zar,zbv,zP,zaG,zR,zbB,zad,zB,zai,zan,zbl,zbq,zbu,zaA,zby,zi,zap,zat,zE,zQ,zu,zv,zbk,zt,zJ,zao,zx,zaq,zO,zH,zag,zab,zbp,zy,zaz,zM,zam,zau,zG,zav,zae,zK,zaE,zD,zaD,zr,zaF,zaH,zax,zaC,zA,zbw,zj,zI,zk,zl,tBr,brN,zC,zw,zq,zaw,zbz,zF,zm,zaB,zN,zbx,zay,zL,vo,voS,ex,zlt]
     refine ⟨_,_,as.length,ns,rfl,by omega,by omega,fun d hd=>⟨_,dl ++ [d],by simp [Res.toD],by simp [h1],fun z hz=>?_,rfl⟩⟩
     rcases List.mem_append.mp hz with hz | hz
     ·exact h2 z hz
     ·rw [List.mem_singleton.mp hz]; exact hd
    ·rintro acc Γ ⟨s0,dl,rfl,h1,h2,rfl⟩
     rw [List.length_map,List.length_range] at h1
     refine ⟨as ++ [(⟨n,day+v,none⟩,dl)],by simp,ga.snoc hi hn1 (fun o' h'=>by cases h') (by show dl.length≤3; omega) h2 hdays2,fun a b hb=>?_,by simp [zbI,zkp]⟩
     rcases List.mem_append.mp hb with hb | hb
     ·exact hdays2 _ hb
     ·cases List.mem_singleton.mp hb
      exact Int.le_refl _
  ·rintro Γ ⟨as,day,s5,s6,s7,s8,s9,h1,ga,hdays,rfl⟩
   simp [zaj,zak,zaf,zah,zp,zaa,tC',zbn,zbh,tB',zal,zar,zbv,zP,zaG,zR,zbB,zad,zB,zai,zan,zbl,zbq,zbu,zaA,zby,zi,zap,zat,zE,zQ,zu,zv,zbk,zt,zJ,zao,zx,zaq,zO,zH,zag,zab,zbp,zy,zaz,zM,zam,zau,zG,zav,zae,zK,zaE,zD,zaD,zr,zaF,zaH,zax,zaC,zA,zbw,zj,zI,zk,zl,tBr,brN,zC,zw,zq,zaw,zbz,zF,zm,zaB,zN,zbx,zay,zL]; exact q as ga
end
end K34
namespace K34
open PySem L2 Lb PL M34
def mkK (T:Cs) (k:Int) (s:List Nat):D :=
 if k=0 then .obj T.Read [("place",.tup []),("words",.tup [.str (119 :: s)])]
 else if k=1 then .obj T.Swap [("place",.tup []),("old",.tup [.str (119 :: s)]),("new",.tup [.str [120]])]
 else if k=2 then .obj T.PutIn [("place",.tup []),("node",.tup [.str s,.tup [],.tup []])]
 else if k=3 then .obj T.LeaveOut [("place",.tup [.str s])]
 else .obj T.Anew [("place",.tup [.str s])]
def toK (k:Int) (s:List Nat):D :=
 if k=0 then .tup [.str [114,101,97,100],.tup [],.tup [.str (119 :: s)]]
 else if k=1 then .tup [.str [115,119,97,112],.tup [],.tup [.str (119 :: s)],.tup [.str [120]]]
 else if k=2 then .tup [.str [105,110],.tup [],.tup [.str s,.tup [],.tup []]]
 else if k=3 then .tup [.str [111,117,116],.tup [.str s]]
 else .tup [.str [97,110,101,119],.tup [.str s]]
def mkC (T:Cs):D→D
 | .tup [.int k,.str s]=>mkK T k s
 | c=>c
def toC:D→D
 | .tup [.int k,.str s]=>toK k s
 | c=>c
def hA (T:Cs) (a:Act):Act:=(a.1,a.2.map (Deed.mapC (mkC T)))
def t0D:D:=.tup [.str [],.tup [.str [97]],.tup []]
def plR (r:Row):D:=.tup [.int r.day,.str r.nm,.int r.num,toC r.c,r.s]
structure ActsOk (as:List Act):Prop where
 len:as.length≤15
 at_:∀ (i:Nat) a,as[i]?=some a→zpt a.1.nm∧a.1.nm ∉ nms (as.take i)∧(∀ b ∈ as.take i,b.1.day≤a.1.day)∧(∀ o,a.1.oth=some o→o ∈ nms (as.take i)∧a.2=[])∧a.2.length≤3∧∀ d,d ∈ a.2→zhX (nms (as.take i)) d
def empt (ns:List (List Nat)) (as:List Act):List Act:=as.map fun a=>if a.1.nm ∈ ns then a else (⟨a.1.nm,a.1.day,none⟩,[])
def zcJ (T:Cs):Sp':=fun ds Q=>∃ (k:Int) (s:List Nat),ds=[.tup [.int k,.str s]]∧s.length≤100∧Q (.val (mkK T k s))
def zb4 (T:Cs):Sp':=fun ds Q=>∃ d ah,ds=[deD d]∧zhX ah d∧Q (.val (deD (d.mapC (mkC T))))
def zcz (T:Cs):SpB:=fun d xs ds Q=>∃ (t:D) (es:List Act) (a:Act),d=bkF T t∧xs=es.map zci∧ds=[zbI a]∧zm8 es a.1.nm a.1.day∧a.2.length≤3∧(∀ x,x ∈ a.2→zhX (nms es) x)∧(∀ o,a.1.oth=some o→o ∈ nms es∧a.2=[])∧Q .non ((es ++ [hA T a]).map zci)
def zcd (T:Cs):Sp':=fun ds Q=>∃ as:List Act,ds=[.lst (as.map zbI)]∧ActsOk as∧Q (.bk (bkF T t0D) (.lst ((as.map (hA T)).map zci)))
def zcG (T:Cs):Sp':=fun ds Q=>∃ (k:Int) (s:List Nat),ds=[mkK T k s]∧Q (.val (toK k s))
def zbC (T:Cs):Sp':=fun ds Q=>∃ rs:List Row,ds=[.lst (rs.map fun r=>zjW (r.mapC (mkC T)))]∧rs.length≤100∧(∀ r ∈ rs,zcl zhb zrv r)∧Q (.val (.lst (rs.map plR)))
def zcs:Sp':=fun ds Q=>∃ (as:List Act) (ns:List (List Nat)),ds=[.lst (as.map zbI),.lst (ns.map .str)]∧as.length≤100∧Q (.own (.lst ((empt ns as).map zbI)))
instance {T:Cs}:MSp (zb4 T):=⟨fun _ _ _ h ⟨d,ah,e,a,q⟩=>⟨d,ah,e,a,h _ q⟩⟩
instance {T:Cs}:MSpB (zcz T):=⟨fun _ _ _ _ _ h ⟨t,es,a,e,b,c,d,f,g,i,q⟩=>⟨t,es,a,e,b,c,d,f,g,i,h _ _ q⟩⟩
instance {T:Cs}:MSp (zcG T):=⟨fun _ _ _ h ⟨k,s,e,q⟩=>⟨k,s,e,h _ q⟩⟩
instance {T:Cs}:MSp (zbC T):=⟨fun _ _ _ h ⟨rs,e,a,b,q⟩=>⟨rs,e,a,b,h _ q⟩⟩
section
variable {P:Program} {w:World} {K:PySem.W.Frag} {mg:Str→Option Value} {base:Heap} {T:Cs}
theorem zfv:FnScope ["_law_kind_here"] ["_law_kind_here"] (zd zc4):=⟨rfl,rfl,rfl,by decide +kernel,rfl,by decide +kernel,by decide +kernel⟩
theorem zfM (d:Df K mg "_law_change" zc4 ["_law_kind_here"]) (cf:CF K T) (M_Anew:Mak P w K mg base 1 "Anew" T.Anew ["place"]) (M_LeaveOut:Mak P w K mg base 1 "LeaveOut" T.LeaveOut ["place"]) (M_PutIn:Mak P w K mg base 1 "PutIn" T.PutIn ["place","node"]) (M_Read:Mak P w K mg base 1 "Read" T.Read ["place","words"]) (M_Swap:Mak P w K mg base 1 "Swap" T.Swap ["place","old","new"]):Fn P w K mg base 3 "_law_change" ["_law_kind_here"] (zcJ T):=by
 refine d.ok zfv (fun ds Q h=>?_) (fun f cdv A outer s H E hr ds Q h=>⟨_,(ze (zaN (zac (zc8 (zcm hr)) (zn (i_A (zT hr)) (pv' 0) zb) zb) (zf (zY (zdM M_Read (hr.mono (by decide)) (za (zV zc) (za (zV (za (zS zcr (zaS [119]) (zn (i_A (zT hr)) (pv' 0) zb)) zc)) zc))))) zZ)
  (ze (zaN (zac (zc8 (zcm hr)) (zn (i_A (zT hr)) (pv' 0) zb) zb) (zf (zY (zdM M_Swap (hr.mono (by decide)) (za (zV zc) (za (zV (za (zS zcr (zaS [119]) (zn (i_A (zT hr)) (pv' 0) zb)) zc)) (za (zV (za (zaS [120]) zc)) zc)))))) zZ)
  (ze (zaN (zac (zc8 (zcm hr)) (zn (i_A (zT hr)) (pv' 0) zb) zb) (zf (zY (zdM M_PutIn (hr.mono (by decide)) (za (zV zc) (za (zV (za (zn (i_A (zT hr)) (pv' 0) zb) (za (zV zc) (za (zV zc) zc)))) zc))))) zZ)
  (ze (zaN (zac (zc8 (zcm hr)) (zn (i_A (zT hr)) (pv' 0) zb) zb) (zf (zY (zdM M_LeaveOut (hr.mono (by decide)) (za (zV (za (zn (i_A (zT hr)) (pv' 0) zb) zc)) zc)))) zZ)
  (zf (zY (zdM M_Anew (hr.mono (by decide)) (za (zV (za (zn (i_A (zT hr)) (pv' 0) zb) zc)) zc)))))))),?_⟩)
 ·obtain ⟨k,s,rfl,_⟩:=h
  rfl
 obtain ⟨k,l,rfl,hs,q⟩:=h; simp [zaj,zak,zaf,zah,zp,zaa,tC',zbn,zbh,tB',zal,zar,zbv,zP,zaG,zR,zbB,zad,zB,zai,zan,zbl,zbq,zbu,zaA,zby,zi,zap,zat,zE,zQ,zu,zv,zbk,zt,zJ,zao,zx,zaq,zO,zH,zag,zab,zbp,zy,zaz,zM,zam,zau,zG,zav,zae,zK,zaE,zD,zaD,zr,zaF,zaH,zax,zaC,zA,zbw,zj,zI,zk,zl,tBr,brN,zC,zw,zq,zaw,zbz,zF,zm,zaB,zN,zbx,zay,zL]
 have o1:1≤sizeLine:=small (by decide)
 have o3:3≤sizeLine:=small (by decide)
 have ol:1+l.length≤sizeLine:=small (by omega)
 unfold mkK at q
 by_cases e0:k=0
 ·rw [if_pos e0] at q
  exact .inr ⟨e0,ol,o1,q⟩
 ·refine .inl ⟨e0,?_⟩
  rw [if_neg e0] at q
  by_cases e1:k=1
  ·rw [if_pos e1] at q
   exact .inr ⟨e1,ol,o1,q⟩
  ·refine .inl ⟨e1,?_⟩
   rw [if_neg e1] at q
   by_cases e2:k=2
   ·rw [if_pos e2] at q
    exact .inr ⟨e2,o3,q⟩
   ·refine .inl ⟨e2,?_⟩
    rw [if_neg e2] at q
    by_cases e3:k=3
    ·rw [if_pos e3] at q
     exact .inr ⟨e3,o1,q⟩
    ·rw [if_neg e3] at q
     exact .inl ⟨e3,o1,q⟩
theorem zfu:FnScope ["_law_deed_here"] ["_law_deed_here"] (zd zc3):=⟨rfl,rfl,rfl,by decide +kernel,rfl,by decide +kernel,by decide +kernel⟩
theorem zfL (d:Df K mg "_law_handed" zc3 ["_law_deed_here"]) (cf:CF K T) (G_law_change:Fn P w K mg base 3 "_law_change" ["_law_kind_here"] (zcJ T)):Fn P w K mg base 4 "_law_handed" ["_law_deed_here"] (zb4 T):=by
 refine d.ok zfu (fun ds Q h=>?_) (fun f cdv A outer s H E hr ds Q h=>⟨_,(ze (zaN (zac (zc8 (zcm hr)) (zn (i_A (zT hr)) (pv' 0) zb) (zaS [99,104,97,110,103,101])) (zf (zY (zV (za (zaS [99,104,97,110,103,101]) (za (zn (i_A (zT hr)) (pv' 0) zb) (za (zbd G_law_change (hr.mono (by decide)) (za (zn (i_A (zT hr)) (pv' 0) zb) zc)) (za (zn (i_A (zT hr)) (pv' 0) zb) zc))))))) zZ)
  (ze (zaN (zac (zc8 (zcm hr)) (zn (i_A (zT hr)) (pv' 0) zb) (zaS [105,110,115,116,101,97,100])) (zf (zY (zV (za (zaS [105,110,115,116,101,97,100]) (za (zn (i_A (zT hr)) (pv' 0) zb) (za (zn (i_A (zT hr)) (pv' 0) zb) (za (zbd G_law_change (hr.mono (by decide)) (za (zn (i_A (zT hr)) (pv' 0) zb) zc)) zc))))))) zZ)
  (zf (zY (pv' 0))))),?_⟩)
 ·obtain ⟨d,ah,rfl,_⟩:=h
  rfl
 obtain ⟨d,ah,rfl,⟨hd,hn⟩,q⟩:=h
 have o4:4≤sizeLine:=small (by decide)
 cases d with
 | ch d c s' =>
  obtain ⟨⟨k,l,rfl,hl⟩,_⟩:=hd
  simp [zaj,zak,zaf,zah,zp,zaa,tC',zbn,zbh,tB',zal,zar,zbv,zP,zaG,zR,zbB,zad,zB,zai,zan,zbl,zbq,zbu,zaA,zby,zi,zap,zat,zE,zQ,zu,zv,zbk,zt,zJ,zao,zx,zaq,zO,zH,zag,zab,zbp,zy,zaz,zM,zam,zau,zG,zav,zae,zK,zaE,zD,zaD,zr,zaF,zaH,zax,zaC,zA,zbw,zj,zI,zk,zl,tBr,brN,zC,zw,zq,zaw,zbz,zF,zm,zaB,zN,zbx,zay,zL,deD,ztu]; exact ⟨k,l,rfl,hl,o4,q⟩
 | lat n i d =>
  simp [zaj,zak,zaf,zah,zp,zaa,tC',zbn,zbh,tB',zal,zar,zbv,zP,zaG,zR,zbB,zad,zB,zai,zan,zbl,zbq,zbu,zaA,zby,zi,zap,zat,zE,zQ,zu,zv,zbk,zt,zJ,zao,zx,zaq,zO,zH,zag,zab,zbp,zy,zaz,zM,zam,zau,zG,zav,zae,zK,zaE,zD,zaD,zr,zaF,zaH,zax,zaC,zA,zbw,zj,zI,zk,zl,tBr,brN,zC,zw,zq,zaw,zbz,zF,zm,zaB,zN,zbx,zay,zL,deD,zqU]; exact q
 | ins n i c =>
  obtain ⟨k,l,rfl,hl⟩:=hd; simp [zaj,zak,zaf,zah,zp,zaa,tC',zbn,zbh,tB',zal,zar,zbv,zP,zaG,zR,zbB,zad,zB,zai,zan,zbl,zbq,zbu,zaA,zby,zi,zap,zat,zE,zQ,zu,zv,zbk,zt,zJ,zao,zx,zaq,zO,zH,zag,zab,zbp,zy,zaz,zM,zam,zau,zG,zav,zae,zK,zaE,zD,zaD,zr,zaF,zaH,zax,zaC,zA,zbw,zj,zI,zk,zl,tBr,brN,zC,zw,zq,zaw,zbz,zF,zm,zaB,zN,zbx,zay,zL,deD,zq5]; exact ⟨k,l,rfl,hl,o4,q⟩
 | drp n i =>
  simp [zaj,zak,zaf,zah,zp,zaa,tC',zbn,zbh,tB',zal,zar,zbv,zP,zaG,zR,zbB,zad,zB,zai,zan,zbl,zbq,zbu,zaA,zby,zi,zap,zat,zE,zQ,zu,zv,zbk,zt,zJ,zao,zx,zaq,zO,zH,zag,zab,zbp,zy,zaz,zM,zam,zau,zG,zav,zae,zK,zaE,zD,zaD,zr,zaF,zaH,zax,zaC,zA,zbw,zj,zI,zk,zl,tBr,brN,zC,zw,zq,zaw,zbz,zF,zm,zaB,zN,zbx,zay,zL,deD,zre]; exact q
theorem zmu {ah:List (List Nat)} {d:Deed} (f:D→D) (h:znM ah d):zhW ah (deD (d.mapC f)):=by
 cases d with
 | ch d c s=>exact ⟨_,_,_,rfl,.inl rfl⟩
 | lat n i d=>exact ⟨_,_,_,rfl,.inr ⟨by decide,n,h,rfl⟩⟩
 | ins n i c=>exact ⟨_,_,_,rfl,.inr ⟨by decide,n,h,rfl⟩⟩
 | drp n i=>exact ⟨_,_,_,rfl,.inr ⟨by decide,n,h,rfl⟩⟩
theorem ziT:FnScope ["_law_book_here","_law_act"] ["_law_book_here","_law_act"] (zd zdG):=⟨rfl,rfl,rfl,by decide +kernel,rfl,by decide +kernel,by decide +kernel⟩
theorem zi9 (d:Df K mg "_law_put" zdG ["_law_book_here","_law_act"]) (cf:CF K T) (G_law_handed:Fn P w K mg base 4 "_law_handed" ["_law_deed_here"] (zb4 T)) (M_Book_act:MthB P w K mg base 4 T.Book "act" ["self","name","day","deeds"] (zdq T)) (M_Book_back:MthB P w K mg base 4 T.Book "back" ["self","name","day","other"] (zc1 T)):FnB P w K mg base 5 "_law_put" ["_law_book_here","_law_act"] (zcz T):=by
 refine d.okB ziT (fun dd xs ds Q h=>?_) (fun f cdv A outer s H E hr dd b xs ds Q h=>⟨_,(ze (zaN (zac zsW (zn (i_A (zT hr)) (pv' 1) zb) zc7) (zf (zY (zkj 0 M_Book_act (hr.mono (by decide)) (za (zn (i_A (zT hr)) (pv' 1) zb) (za (zn (i_A (zT hr)) (pv' 1) zb) (za (zbt (zcg (fsc:=zd zdG) (N:=["_law_book_here","_law_act"]) (N':=["_law_deed_here"]) (src:=[none]) (by refine ⟨rfl,?_,?_,?_,rfl,rfl⟩ <;> decide +kernel) (zbo (zn (i_A (zT hr)) (pv' 1) zb)) (fun _ _ _ _ _ _=>(zU 0 (show (["_law_deed_here"]:List Str).Nodup by decide +kernel))) (fun _ _ _ _ _ _=>zbs) (fun _ _ _ _ _ _=>(zbd G_law_handed (hr.mono (by decide)) (za (pv' 0) zc))))) zc)))))) zZ)
  (zf (zY (zkj 0 M_Book_back (hr.mono (by decide)) (za (zn (i_A (zT hr)) (pv' 1) zb) (za (zn (i_A (zT hr)) (pv' 1) zb) (za (zn (i_A (zT hr)) (pv' 1) zb) zc))))))),?_⟩)
 ·obtain ⟨t,es,a,rfl,rfl,rfl,_⟩:=h
  rfl
 obtain ⟨t,es,a,rfl,rfl,rfl,hp,hl,hd,ho,q⟩:=h
 obtain ⟨⟨nm,day,oth⟩,dl⟩:=a
 cases oth with
 | none =>
  simp [zaj,zak,zaf,zah,zp,zaa,tC',zbn,zbh,tB',zal,zar,zbv,zP,zaG,zR,zbB,zad,zB,zai,zan,zbl,zbq,zbu,zaA,zby,zi,zap,zat,zE,zQ,zu,zv,zbk,zt,zJ,zao,zx,zaq,zO,zH,zag,zab,zbp,zy,zaz,zM,zam,zau,zG,zav,zae,zK,zaE,zD,zaD,zr,zaF,zaH,zax,zaC,zA,zbw,zj,zI,zk,zl,tBr,brN,zC,zw,zq,zaw,zbz,zF,zm,zaB,zN,zbx,zay,zL,zbI,zkp,zj4,bkF]
  dsimp only at hp hl hd q
  refine ⟨zqN (by decide +kernel) (by decide +kernel),small (by omega),?_⟩
  refine zbM (fun i acc Γ=>∃ s0:Slot,acc=((dl.take i).map (Deed.mapC (mkC T))).map deD∧Γ=[s0]) ⟨_,rfl,rfl⟩ ?_ ?_
  ·rintro i d acc Γ he ⟨s0,rfl,rfl⟩
   rw [List.getElem?_map] at he; obtain ⟨x,hx,rfl⟩:=Option.map_eq_some_iff.mp he; rw [zaZ hx]; simp [zaj,zak,zaf,zah,zp,zaa,tC',zbn,zbh,tB',zal,zar,zbv,zP,zaG,zR,zbB,zad,zB,zai,zan,zbl,zbq,zbu,zaA,zby,zi,zap,zat,zE,zQ,zu,zv,zbk,zt,zJ,zao,zx,zaq,zO,zH,zag,zab,zbp,zy,zaz,zM,zam,zau,zG,zav,zae,zK,zaE,zD,zaD,zr,zaF,zaH,zax,zaC,zA,zbw,zj,zI,zk,zl,tBr,brN,zC,zw,zq,zaw,zbz,zF,zm,zaB,zN,zbx,zay,zL,vo,voS]; exact ⟨x,nms es,rfl,hd x (List.mem_of_getElem? hx),rfl⟩
  ·rintro acc Γ ⟨s0,rfl,rfl⟩
   rw [List.length_map,List.take_length]
   refine ⟨t,es,nm,day,_,rfl,rfl,rfl,hp,by rw [List.length_map]; omega,fun x hx=>?_,q⟩
   obtain ⟨y,hy,rfl⟩:=List.mem_map.mp hx; exact zmu _ (hd y hy).2
 | some o =>
  obtain ⟨h1,h2⟩:=ho o rfl
  dsimp only at h2
  subst h2; simp [zaj,zak,zaf,zah,zp,zaa,tC',zbn,zbh,tB',zal,zar,zbv,zP,zaG,zR,zbB,zad,zB,zai,zan,zbl,zbq,zbu,zaA,zby,zi,zap,zat,zE,zQ,zu,zv,zbk,zt,zJ,zao,zx,zaq,zO,zH,zag,zab,zbp,zy,zaz,zM,zam,zau,zG,zav,zae,zK,zaE,zD,zaD,zr,zaF,zaH,zax,zaC,zA,zbw,zj,zI,zk,zl,tBr,brN,zC,zw,zq,zaw,zbz,zF,zm,zaB,zN,zbx,zay,zL,zbI,zkp,zj4,bkF]
  exact ⟨zqN (by decide +kernel) (by decide +kernel),t,es,nm,day,o,rfl,rfl,rfl,hp,h1,q⟩
theorem ziu {C C':Addr} {fs:List (Str × D)} {b:Bool} {Q:D→Prop} (i:InsT K C) (k:PySem.W.kitOne K (.ref C) (.ref C')=some b):zi0 K [.obj C fs,.cls C'] Q↔Q (.bl b):=by
 simp only [zj3,k]
 exact ⟨fun ⟨_,b,e,q⟩=>by cases e; exact q,fun q=>⟨i,_,rfl,q⟩⟩
theorem zhf:FnScope ["_law_found"] ["_law_found"] (zd zd1):=⟨rfl,rfl,rfl,by decide +kernel,rfl,by decide +kernel,by decide +kernel⟩
theorem zhz (d:Df K mg "_law_told" zd1 ["_law_found"]) (cf:CF K T) (z_isinstance:mg "isinstance"=none) (m_LeaveOut:mg "LeaveOut"=some (.ref T.LeaveOut)) (m_PutIn:mg "PutIn"=some (.ref T.PutIn)) (m_Read:mg "Read"=some (.ref T.Read)) (m_Swap:mg "Swap"=some (.ref T.Swap)):Fn P w K mg base 1 "_law_told" ["_law_found"] (zcG T):=by
 refine d.ok zhf (fun ds Q h=>?_) (fun f cdv A outer s H E hr ds Q h=>⟨_,(ze (zaN (zcQ (zaT (zg4 K rfl) z_isinstance PyProof.Rows.boot_isinstance (za (pv' 0) (za (zfJ m_Read) zc)))) (zf (zY (zV (za (zaS [114,101,97,100]) (za (zbF (pv' 0)) (za (zbF (pv' 0)) zc)))))) zZ)
  (ze (zaN (zcQ (zaT (zg4 K rfl) z_isinstance PyProof.Rows.boot_isinstance (za (pv' 0) (za (zfJ m_Swap) zc)))) (zf (zY (zV (za (zaS [115,119,97,112]) (za (zbF (pv' 0)) (za (zbF (pv' 0)) (za (zbF (pv' 0)) zc))))))) zZ)
  (ze (zaN (zcQ (zaT (zg4 K rfl) z_isinstance PyProof.Rows.boot_isinstance (za (pv' 0) (za (zfJ m_PutIn) zc)))) (zf (zY (zV (za (zaS [105,110]) (za (zbF (pv' 0)) (za (zbF (pv' 0)) zc)))))) zZ)
  (ze (zaN (zcQ (zaT (zg4 K rfl) z_isinstance PyProof.Rows.boot_isinstance (za (pv' 0) (za (zfJ m_LeaveOut) zc)))) (zf (zY (zV (za (zaS [111,117,116]) (za (zbF (pv' 0)) zc))))) zZ)
  (zf (zY (zV (za (zaS [97,110,101,119]) (za (zbF (pv' 0)) zc))))))))),?_⟩)
 ·obtain ⟨k,s,rfl,_⟩:=h
  rfl
 obtain ⟨k,l,rfl,q⟩:=h; unfold mkK; unfold toK at q
 by_cases e0:k=0
 ·rw [if_pos e0] at q ⊢
  simp [zaj,zak,zaf,zah,zp,zaa,tC',zbn,zbh,tB',zal,zar,zbv,zP,zaG,zR,zbB,zad,zB,zai,zan,zbl,zbq,zbu,zaA,zby,zi,zap,zat,zE,zQ,zu,zv,zbk,zt,zJ,zao,zx,zaq,zO,zH,zag,zab,zbp,zy,zaz,zM,zam,zau,zG,zav,zae,zK,zaE,zD,zaD,zr,zaF,zaH,zax,zaC,zA,zbw,zj,zI,zk,zl,tBr,brN,zC,zw,zq,zaw,zbz,zF,zm,zaB,zN,zbx,zay,zL,ziu cf.iR cf.kRR]
  exact ⟨cf.iR.cl,cf.nRp,cf.iR.cl,cf.nRw,_,rfl,small (by decide),q⟩
 rw [if_neg e0] at q ⊢
 by_cases e1:k=1
 ·rw [if_pos e1] at q ⊢
  simp [zaj,zak,zaf,zah,zp,zaa,tC',zbn,zbh,tB',zal,zar,zbv,zP,zaG,zR,zbB,zad,zB,zai,zan,zbl,zbq,zbu,zaA,zby,zi,zap,zat,zE,zQ,zu,zv,zbk,zt,zJ,zao,zx,zaq,zO,zH,zag,zab,zbp,zy,zaz,zM,zam,zau,zG,zav,zae,zK,zaE,zD,zaD,zr,zaF,zaH,zax,zaC,zA,zbw,zj,zI,zk,zl,tBr,brN,zC,zw,zq,zaw,zbz,zF,zm,zaB,zN,zbx,zay,zL,ziu cf.iS cf.kSR,ziu cf.iS cf.kSS]
  exact ⟨cf.iS.cl,cf.nSp,cf.iS.cl,cf.nSo,_,rfl,cf.iS.cl,cf.nSn,_,rfl,small (by decide),q⟩
 rw [if_neg e1] at q ⊢
 by_cases e2:k=2
 ·rw [if_pos e2] at q ⊢
  simp [zaj,zak,zaf,zah,zp,zaa,tC',zbn,zbh,tB',zal,zar,zbv,zP,zaG,zR,zbB,zad,zB,zai,zan,zbl,zbq,zbu,zaA,zby,zi,zap,zat,zE,zQ,zu,zv,zbk,zt,zJ,zao,zx,zaq,zO,zH,zag,zab,zbp,zy,zaz,zM,zam,zau,zG,zav,zae,zK,zaE,zD,zaD,zr,zaF,zaH,zax,zaC,zA,zbw,zj,zI,zk,zl,tBr,brN,zC,zw,zq,zaw,zbz,zF,zm,zaB,zN,zbx,zay,zL,ziu cf.iP cf.kPR,ziu cf.iP cf.kPS,ziu cf.iP cf.kPP]
  exact ⟨cf.iP.cl,cf.nPp,cf.iP.cl,cf.nPn,_,rfl,small (by decide),q⟩
 rw [if_neg e2] at q ⊢
 by_cases e3:k=3
 ·rw [if_pos e3] at q ⊢
  simp [zaj,zak,zaf,zah,zp,zaa,tC',zbn,zbh,tB',zal,zar,zbv,zP,zaG,zR,zbB,zad,zB,zai,zan,zbl,zbq,zbu,zaA,zby,zi,zap,zat,zE,zQ,zu,zv,zbk,zt,zJ,zao,zx,zaq,zO,zH,zag,zab,zbp,zy,zaz,zM,zam,zau,zG,zav,zae,zK,zaE,zD,zaD,zr,zaF,zaH,zax,zaC,zA,zbw,zj,zI,zk,zl,tBr,brN,zC,zw,zq,zaw,zbz,zF,zm,zaB,zN,zbx,zay,zL,ziu cf.iL cf.kLR,ziu cf.iL cf.kLS,ziu cf.iL cf.kLP,ziu cf.iL cf.kLL]
  exact ⟨cf.iL.cl,cf.nLp,small (by decide),q⟩
 rw [if_neg e3] at q ⊢; simp [zaj,zak,zaf,zah,zp,zaa,tC',zbn,zbh,tB',zal,zar,zbv,zP,zaG,zR,zbB,zad,zB,zai,zan,zbl,zbq,zbu,zaA,zby,zi,zap,zat,zE,zQ,zu,zv,zbk,zt,zJ,zao,zx,zaq,zO,zH,zag,zab,zbp,zy,zaz,zM,zam,zau,zG,zav,zae,zK,zaE,zD,zaD,zr,zaF,zaH,zax,zaC,zA,zbw,zj,zI,zk,zl,tBr,brN,zC,zw,zq,zaw,zbz,zF,zm,zaB,zN,zbx,zay,zL,ziu cf.iA cf.kAR,ziu cf.iA cf.kAS,ziu cf.iA cf.kAP,ziu cf.iA cf.kAL]
 exact ⟨cf.iA.cl,cf.nAp,small (by decide),q⟩
theorem zgd:FnScope ["_law_rows"] ["_law_rows"] (zd zcN):=⟨rfl,rfl,rfl,by decide +kernel,rfl,by decide +kernel,by decide +kernel⟩
theorem zgt (d:Df K mg "_law_plain" zcN ["_law_rows"]) (cf:CF K T) (G_law_told:Fn P w K mg base 1 "_law_told" ["_law_found"] (zcG T)):Fn P w K mg base 2 "_law_plain" ["_law_rows"] (zbC T):=by
 refine d.ok zgd (fun ds Q h=>?_) (fun f cdv A outer s H E hr ds Q h=>⟨_,(zf (zY (zbt (zcg (fsc:=zd zcN) (N:=["_law_rows"]) (N':=["_law_row"]) (src:=[none]) (by refine ⟨rfl,?_,?_,?_,rfl,rfl⟩ <;> decide +kernel) (zbo (pv' 0)) (fun _ _ _ _ _ _=>(zU 0 (show (["_law_row"]:List Str).Nodup by decide +kernel))) (fun _ _ _ _ _ _=>zbs) (fun _ _ _ _ _ _=>(zV (za (zn (i_A (zT hr)) (pv' 0) zb) (za (zn (i_A (zT hr)) (pv' 0) zb) (za (zn (i_A (zT hr)) (pv' 0) zb) (za (zbd G_law_told (hr.mono (by decide)) (za (zn (i_A (zT hr)) (pv' 0) zb) zc)) (za (zn (i_A (zT hr)) (pv' 0) zb) zc))))))))))),?_⟩)
 ·obtain ⟨rs,rfl,_⟩:=h
  rfl
 obtain ⟨rs,rfl,hl,hr',q⟩:=h; simp [zaj,zak,zaf,zah,zp,zaa,tC',zbn,zbh,tB',zal,zar,zbv,zP,zaG,zR,zbB,zad,zB,zai,zan,zbl,zbq,zbu,zaA,zby,zi,zap,zat,zE,zQ,zu,zv,zbk,zt,zJ,zao,zx,zaq,zO,zH,zag,zab,zbp,zy,zaz,zM,zam,zau,zG,zav,zae,zK,zaE,zD,zaD,zr,zaF,zaH,zax,zaC,zA,zbw,zj,zI,zk,zl,tBr,brN,zC,zw,zq,zaw,zbz,zF,zm,zaB,zN,zbx,zay,zL]
 refine ⟨small (by omega),?_⟩
 refine zbM (fun i acc Γ=>∃ s0:Slot,acc=(rs.take i).map plR∧Γ=[s0]) ⟨_,rfl,rfl⟩ ?_ ?_
 ·rintro i d acc Γ he ⟨s0,rfl,rfl⟩
  rw [List.getElem?_map] at he; obtain ⟨r,hr2,rfl⟩:=Option.map_eq_some_iff.mp he
  obtain ⟨⟨k,l,ec,_⟩,_⟩:=hr' r (List.mem_of_getElem? hr2)
  rw [zaZ hr2]; simp [zaj,zak,zaf,zah,zp,zaa,tC',zbn,zbh,tB',zal,zar,zbv,zP,zaG,zR,zbB,zad,zB,zai,zan,zbl,zbq,zbu,zaA,zby,zi,zap,zat,zE,zQ,zu,zv,zbk,zt,zJ,zao,zx,zaq,zO,zH,zag,zab,zbp,zy,zaz,zM,zam,zau,zG,zav,zae,zK,zaE,zD,zaD,zr,zaF,zaH,zax,zaC,zA,zbw,zj,zI,zk,zl,tBr,brN,zC,zw,zq,zaw,zbz,zF,zm,zaB,zN,zbx,zay,zL,vo,voS,zjW,Row.mapC]; rw [ec]
  refine ⟨k,l,rfl,_,show atI _ ((4:Nat):Int)=_ from zbH rfl,small (by decide),?_⟩
  simp [plR,ec,toC,Res.toD]
 ·rintro acc Γ ⟨s0,rfl,rfl⟩
  rw [List.length_map,List.take_length]; exact q
theorem zct:FnScope ["_law_acts_here","_law_names_here","_law_found","_law_act"] ["_law_acts_here","_law_names_here"] (zd zcO):=⟨rfl,rfl,rfl,by decide +kernel,rfl,by decide +kernel,by decide +kernel⟩
theorem zfa (d:Df K mg "_law_emptied" zcO ["_law_acts_here","_law_names_here"]):Fn P w K mg base 1 "_law_emptied" ["_law_acts_here","_law_names_here"] zcs:=by
 refine d.ok zct (fun ds Q h=>?_) (fun f cdv A outer s H E hr ds Q h=>⟨_,(ze (zcp 2 zct.nd (zb2 zc))
  (ze (zcv (zbo (pv' 0)) (zU 3 zct.nd)
   (zf (zaN (zac (zoN (zT hr)) (zn (i_A (zT hr)) (pv' 3) zb) (pv' 1)) (zf (zbX 2 (pv' 3))) (zf (zbX 2 (zV (za (zn (i_A (zT hr)) (pv' 3) zb) (za (zn (i_A (zT hr)) (pv' 3) zb) (za zc7 (za (zbt (zb2 zc)) zc))))))))))
  (zf (zer 2)))),?_⟩)
 ·obtain ⟨as,ns,rfl,_⟩:=h
  rfl
 obtain ⟨as,ns,rfl,hl,q⟩:=h; simp [zaj,zak,zaf,zah,zp,zaa,tC',zbn,zbh,tB',zal,zar,zbv,zP,zaG,zR,zbB,zad,zB,zai,zan,zbl,zbq,zbu,zaA,zby,zi,zap,zat,zE,zQ,zu,zv,zbk,zt,zJ,zao,zx,zaq,zO,zH,zag,zab,zbp,zy,zaz,zM,zam,zau,zG,zav,zae,zK,zaE,zD,zaD,zr,zaF,zaH,zax,zaC,zA,zbw,zj,zI,zk,zl,tBr,brN,zC,zw,zq,zaw,zbz,zF,zm,zaB,zN,zbx,zay,zL]
 refine zdl (fun i Γ=>∃ s3:Slot,Γ=[Slot.val (D.lst (List.map zbI as)),Slot.val (D.lst (List.map D.str ns)),Slot.own (OD.lst ((empt ns (as.take i)).map zbI)),s3]) ⟨_,rfl⟩ ?_ ?_
 ·rintro i d Γ he ⟨s3,rfl⟩
  rw [List.getElem?_map] at he; obtain ⟨a,ha,rfl⟩:=Option.map_eq_some_iff.mp he; have hi:=(List.getElem?_eq_some_iff.mp ha).1
  have hb:(empt ns (as.take i)).length≤i:=by unfold empt; rw [List.length_map,List.length_take]; omega
  rw [zaZ ha,show empt ns (as.take i ++ [a])=empt ns (as.take i) ++ empt ns [a] from List.map_append]
  generalize empt ns (as.take i)=bs at hb; simp [zaj,zak,zaf,zah,zp,zaa,tC',zbn,zbh,tB',zal,zar,zbv,zP,zaG,zR,zbB,zad,zB,zai,zan,zbl,zbq,zbu,zaA,zby,zi,zap,zat,zE,zQ,zu,zv,zbk,zt,zJ,zao,zx,zaq,zO,zH,zag,zab,zbp,zy,zaz,zM,zam,zau,zG,zav,zae,zK,zaE,zD,zaD,zr,zaF,zaH,zax,zaC,zA,zbw,zj,zI,zk,zl,tBr,brN,zC,zw,zq,zaw,zbz,zF,zm,zaB,zN,zbx,zay,zL,zbI]; refine zkY ?_
  have o4:4≤sizeLine:=small (by decide)
  have ob:bs.length<sizeLine:=za6 (by omega)
  by_cases hm:a.1.nm ∈ ns
  ·simp [hm,empt,zbI,o4,ob]
  ·simp [hm,empt,zbI,o4,ob,zkp]
 ·rintro Γ ⟨s3,rfl⟩
  rw [List.length_map,List.take_length]; simp [zaj,zak,zaf,zah,zp,zaa,tC',zbn,zbh,tB',zal,zar,zbv,zP,zaG,zR,zbB,zad,zB,zai,zan,zbl,zbq,zbu,zaA,zby,zi,zap,zat,zE,zQ,zu,zv,zbk,zt,zJ,zao,zx,zaq,zO,zH,zag,zab,zbp,zy,zaz,zM,zam,zau,zG,zav,zae,zK,zaE,zD,zaD,zr,zaF,zaH,zax,zaC,zA,zbw,zj,zI,zk,zl,tBr,brN,zC,zw,zq,zaw,zbz,zF,zm,zaB,zN,zbx,zay,zL]; exact q
theorem zdr:FnScope ["_law_acts_here","_law_book_here","_law_act"] ["_law_acts_here"] (zd zd4):=⟨rfl,rfl,rfl,by decide +kernel,rfl,by decide +kernel,by decide +kernel⟩
theorem zhC (d:Df K mg "_law_book" zd4 ["_law_acts_here"]) (cf:CF K T) (G_law_put:FnB P w K mg base 5 "_law_put" ["_law_book_here","_law_act"] (zcz T)) (M_Book:MakB P w K mg base 1 "Book" T.Book "tree" "past"):Fn P w K mg base 6 "_law_book" ["_law_acts_here"] (zcd T):=by
 refine d.okK zdr (fun ds Q h=>?_) (fun f cdv A outer s H E hr ds Q h=>⟨_,(ze (zqf 1 zdr.nd M_Book (hr.mono (by decide)) (za (zV (za (zaS []) (za (zV (za (zaS [97]) zc)) (za (zV zc) zc)))) zc))
  (ze (zcv (zbo (pv' 0)) (zU 2 zdr.nd)
   (zf (zde (pe_callB 1 G_law_put (hr.mono (by decide)) (za (pv' 2) zc)))))
  (zf (zoe 1)))),?_⟩)
 ·obtain ⟨as,rfl,_⟩:=h
  rfl
 obtain ⟨as,rfl,ok,q⟩:=h; simp [zaj,zak,zaf,zah,zp,zaa,tC',zbn,zbh,tB',zal,zar,zbv,zP,zaG,zR,zbB,zad,zB,zai,zan,zbl,zbq,zbu,zaA,zby,zi,zap,zat,zE,zQ,zu,zv,zbk,zt,zJ,zao,zx,zaq,zO,zH,zag,zab,zbp,zy,zaz,zM,zam,zau,zG,zav,zae,zK,zaE,zD,zaD,zr,zaF,zaH,zax,zaC,zA,zbw,zj,zI,zk,zl,tBr,brN,zC,zw,zq,zaw,zbz,zF,zm,zaB,zN,zbx,zay,zL]
 refine ⟨small (by decide),small (by decide),fun b=>?_⟩
 refine zdl (fun i Γ=>∃ s2:Slot,Γ=[Slot.val (D.lst (List.map zbI as)),Slot.bk (bkF T t0D) b (OD.lst (((as.take i).map (hA T)).map zci)),s2]) ⟨_,rfl⟩ ?_ ?_
 ·rintro i d Γ he ⟨s2,rfl⟩
  rw [List.getElem?_map] at he; obtain ⟨a,ha,rfl⟩:=Option.map_eq_some_iff.mp he; obtain ⟨a1,a2,a3,a4,a5,a6⟩:=ok.at_ i a ha
  have hn:nms ((as.take i).map (hA T))=nms (as.take i):=by unfold nms; rw [List.map_map]; rfl
  have hl:=ok.len; rw [zaZ ha]; simp [zaj,zak,zaf,zah,zp,zaa,tC',zbn,zbh,tB',zal,zar,zbv,zP,zaG,zR,zbB,zad,zB,zai,zan,zbl,zbq,zbu,zaA,zby,zi,zap,zat,zE,zQ,zu,zv,zbk,zt,zJ,zao,zx,zaq,zO,zH,zag,zab,zbp,zy,zaz,zM,zam,zau,zG,zav,zae,zK,zaE,zD,zaD,zr,zaF,zaH,zax,zaC,zA,zbw,zj,zI,zk,zl,tBr,brN,zC,zw,zq,zaw,zbz,zF,zm,zaB,zN,zbx,zay,zL]
  refine ⟨t0D,(as.take i).map (hA T),a,rfl,by simp,rfl,⟨by simp; omega,a1,by rw [hn]; exact a2,fun e he'=>?_⟩,a5,by rw [hn]; exact a6,by rw [hn]; exact a4,?_⟩
  ·obtain ⟨y,hy,rfl⟩:=List.mem_map.mp he'
   exact a3 y hy
  ·simp
 ·rintro Γ ⟨s2,rfl⟩
  rw [List.length_map,List.take_length]; exact ⟨_,_,_,rfl,1,_,_,_,rfl,rfl,q⟩
end
end K34
namespace K34
open PySem L2 Lb PL M34
theorem zkH (T:Cs) (zW:Int):∀ (rs:List Act) (s:List La × List (List Nat)),(rs.map (hA T)).foldl (stp zW) (s.1.map (La.mapC (mkC T)),s.2)=(((rs.foldl (stp zW) s).1.map (La.mapC (mkC T))),(rs.foldl (stp zW) s).2)
 | [],s=>rfl
 | a :: rs,s=>by
  rw [List.map_cons,List.foldl_cons,List.foldl_cons]
  have e:stp zW (s.1.map (La.mapC (mkC T)),s.2) (hA T a)=(((stp zW s a).1.map (La.mapC (mkC T))),(stp zW s a).2):=by
   unfold stp
   show (if a.1.day≤zW∧a.1.nm ∉ s.2 then _ else _)=_
   split <;> rfl
  rw [e]; exact zkH T zW rs (stp zW s a)
theorem zkE (T:Cs) (zW:Int) (as:List Act):liv zW (as.map (hA T))=(liv zW as).map (La.mapC (mkC T)):=by
 unfold liv zjx; rw [← List.map_reverse]
 have:=zkH T zW as.reverse ([],[])
 exact congrArg Prod.fst this
theorem zkI (T:Cs) (zW:Int) (as:List Act):zfc zW (as.map (hA T))=zfc zW as:=by
 unfold zfc; rw [zkE,List.map_map]; rfl
theorem ziq {zW:Int}:∀ (rs:List Act) (s:List La × List (List Nat)),∀ x ∈ (rs.foldl (stp zW) s).1,x ∈ s.1∨∃ a ∈ rs,x=zmz a
 | [],s,x,h=>.inl h
 | a :: rs,s,x,h=>by
  rcases ziq rs (stp zW s a) x h with z | ⟨b,hb,e⟩
  ·unfold stp at z
   split at z
   ·rcases List.mem_cons.mp z with z | z
    ·exact .inr ⟨a,List.mem_cons_self,z⟩
    ·exact .inl z
   ·exact .inl z
  ·exact .inr ⟨b,List.mem_cons_of_mem _ hb,e⟩
theorem zhK {zW:Int} {es:List Act} {x:La} (h:x ∈ liv zW es):∃ a ∈ es,x=zmz a:=by
 rcases ziq es.reverse ([],[]) x h with z | ⟨a,ha,e⟩
 ·cases z
 ·exact ⟨a,List.mem_reverse.mp ha,e⟩
theorem zkC {zW:Int} {es:List Act} (h:∀ a ∈ es,a.2.length≤3):zcF (liv zW es)≤3 * es.length:=by
 have:∀ xs:List La,(∀ x ∈ xs,x.ds.length≤3)→zcF xs≤3 * xs.length:=by
  intro xs
  induction xs with
  | nil=>intro _; simp [zcF]
  | cons x xs ih =>
   intro hx; have h1:=hx x List.mem_cons_self
   have h2:=ih fun y hy=>hx y (List.mem_cons_of_mem _ hy)
   simp only [zcF,List.map_cons,List.sum_cons,List.length_cons] at h2 ⊢; omega
 have h1:=this (liv zW es) fun x hx=>by
  obtain ⟨a,ha,rfl⟩:=zhK hx; exact h a ha
 have h2:=zkD zW es; omega
def zk4 (ns:List (List Nat)) (a:Act):Act:=if a.1.nm ∈ ns then a else (⟨a.1.nm,a.1.day,none⟩,[])
theorem zdi (ns:List (List Nat)) (a:Act):(zk4 ns a).1.nm=a.1.nm∧(zk4 ns a).1.day=a.1.day:=by
 unfold zk4
 split <;> exact ⟨rfl,rfl⟩
theorem zgJ {zW:Int}:∀ (rs:List Act) (s:List La × List (List Nat)),∀ x ∈ s.1,x ∈ (rs.foldl (stp zW) s).1
 | [],s,x,h=>h
 | a :: rs,s,x,h=>by
  refine zgJ rs (stp zW s a) x ?_; unfold stp; split
  ·exact List.mem_cons_of_mem _ h
  ·exact h
theorem zfT {zW:Int} {ns:List (List Nat)}:∀ (rs:List Act) (s:List La × List (List Nat)),(∀ x ∈ (rs.foldl (stp zW) s).1,x.nm ∈ ns)→(rs.map (zk4 ns)).foldl (stp zW) s=rs.foldl (stp zW) s
 | [],s,_=>rfl
 | a :: rs,s,h=>by
  rw [List.map_cons,List.foldl_cons,List.foldl_cons]
  by_cases hl:a.1.day≤zW∧a.1.nm ∉ s.2
  ·have e:stp zW s a=(zmz a :: s.1,s.2 ++ a.1.oth.toList):=if_pos hl
   have hin:a.1.nm ∈ ns:=h (zmz a) (by
    rw [List.foldl_cons,e]; exact zgJ rs _ _ List.mem_cons_self)
   rw [show zk4 ns a=a from if_pos hin]
   exact zfT rs _ h
  ·have e:stp zW s a=s:=if_neg hl
   have e2:stp zW s (zk4 ns a)=s:=by
    unfold stp; rw [(zdi ns a).1,(zdi ns a).2]; exact if_neg hl
   rw [e2,e]; rw [List.foldl_cons,e] at h; exact zfT rs s h
theorem zkF {zW:Int} (as:List Act):liv zW (empt (zfc zW as) as)=liv zW as:=by
 unfold liv zjx
 rw [show (empt (zfc zW as) as).reverse=as.reverse.map (zk4 (zfc zW as)) by unfold empt; rw [List.map_reverse]; rfl]
 rw [zfT (ns:=zfc zW as) as.reverse ([],[]) fun x hx=>List.mem_map.mpr ⟨x,hx,rfl⟩]
theorem zmZ (ns:List (List Nat)) (as:List Act):nms (empt ns as)=nms as:=by
 unfold nms empt; rw [List.map_map]
 exact List.map_congr_left fun a _=>(zdi ns a).1
theorem zk3 (ns:List (List Nat)) (as:List Act) (i:Nat):(empt ns as).take i=empt ns (as.take i):=by unfold empt; rw [List.map_take]
theorem ActsOk.empt {as:List Act} (h:ActsOk as) (ns:List (List Nat)):ActsOk (K34.empt ns as):=by
 refine ⟨by unfold K34.empt; rw [List.length_map]; exact h.len,fun i a ha=>?_⟩
 unfold K34.empt at ha; rw [List.getElem?_map] at ha; obtain ⟨b,hb,rfl⟩:=Option.map_eq_some_iff.mp ha; obtain ⟨a1,a2,a3,a4,a5,a6⟩:=h.at_ i b hb; rw [zk3,zmZ]
 have e:(if b.1.nm ∈ ns then b else (⟨b.1.nm,b.1.day,none⟩,[]))=zk4 ns b:=rfl
 rw [e,(zdi ns b).1,(zdi ns b).2]
 refine ⟨a1,a2,fun c hc=>?_,fun o ho=>?_,?_,fun d hd=>?_⟩
 ·unfold K34.empt at hc
  obtain ⟨x,hx,rfl⟩:=List.mem_map.mp hc; exact Int.le_trans (Int.le_of_eq (zdi ns x).2) (a3 x hx)
 ·unfold zk4 at ho ⊢
  split at ho
  ·rename_i z; rw [if_pos z]; exact a4 o ho
  ·cases ho
 ·unfold zk4
  split
  ·exact a5
  ·simp
 ·unfold zk4 at hd
  split at hd
  ·exact a6 d hd
  ·cases hd
def cnR (zW:Int) (as:List Act):List Row:=zlJ (zb3 [] (liv zW as))
theorem zpA (T:Cs) (zW:Int) (as:List Act):wcD (zb3 [] (liv zW (as.map (hA T))))=(cnR zW as).map fun r=>zjW (r.mapC (mkC T)):=by
 rw [zkE,show ([]:List Row)=([]:List Row).map (Row.mapC (mkC T)) from rfl,zjq]
 unfold wcD cnR; rw [zjN zjW,zlH,List.map_map]; rfl
theorem zgX {zW:Int} {as:List Act} (h:ActsOk as):∀ r ∈ cnR zW as,zcl zhb zrv r:=fun r hr=>by
 refine zjr (liv zW as) [] (fun _ z=>nomatch z) (fun a ha d hd=>?_) r (srt_mem hr)
 obtain ⟨b,hb,rfl⟩:=zhK ha; obtain ⟨i,hi,e⟩:=List.getElem_of_mem hb
 exact ((h.at_ i b (by rw [List.getElem?_eq_getElem hi,e])).2.2.2.2.2 d hd).1
theorem znI {zW:Int} {as:List Act} (h:ActsOk as):zcF (liv zW as)≤45:=by
 have h1:=zkC (zW:=zW) (es:=as) fun a ha=>by
  obtain ⟨i,hi,e⟩:=List.getElem_of_mem ha
  exact (h.at_ i a (by rw [List.getElem?_eq_getElem hi,e])).2.2.2.2.1
 have:=h.len
 omega
theorem zle {T:Cs} {zW:Int} {as:List Act} (h:ActsOk as):zcF (liv zW (as.map (hA T)))<64:=by
 have e:zcF (liv zW (as.map (hA T)))=zcF (liv zW as):=by
  rw [zkE]; unfold zcF; rw [List.map_map]
  congr 1
  refine List.map_congr_left fun a _=>?_
  show (a.ds.map _).length=_
  rw [List.length_map]
 have:=znI (zW:=zW) h
 omega
theorem znH {zW:Int} {as:List Act} (h:ActsOk as):(cnR zW as).length≤45:=by
 unfold cnR; rw [zlI]; have h1:=zeb (liv zW as) []; have h2:=znI (zW:=zW) h; simp only [List.length_nil,Nat.zero_add] at h1; omega
theorem zlO {c:D} (h:zhb c) (n:Nat):zdj (n+5) (toC c):=by
 obtain ⟨k,s,rfl,_⟩:=h
 show zdj (n+5) (toK k s)
 unfold toK
 have t0:∀ m,zdj (m+1) (.tup []):=fun m=>zb5 fun d z=>nomatch z
 have t1:∀ m l,zdj (m+2) (.tup [.str l]):=fun m l=>zb5 fun d hd=>by rw [List.mem_singleton.mp hd]; exact zb6 _ _
 split
 ·refine zb5 fun d hd=>?_
  simp only [List.mem_cons,List.not_mem_nil,or_false] at hd
  rcases hd with rfl | rfl | rfl
  ·exact zb6 _ _
  ·exact t0 _
  ·exact t1 _ _
 split
 ·refine zb5 fun d hd=>?_
  simp only [List.mem_cons,List.not_mem_nil,or_false] at hd
  rcases hd with rfl | rfl | rfl | rfl
  ·exact zb6 _ _
  ·exact t0 _
  ·exact t1 _ _
  ·exact t1 _ _
 split
 ·refine zb5 fun d hd=>?_
  simp only [List.mem_cons,List.not_mem_nil,or_false] at hd
  rcases hd with rfl | rfl | rfl
  ·exact zb6 _ _
  ·exact t0 _
  ·refine zb5 fun d hd=>?_
   simp only [List.mem_cons,List.not_mem_nil,or_false] at hd
   rcases hd with rfl | rfl | rfl
   ·exact zb6 _ _
   ·exact t0 _
   ·exact t0 _
 split
 ·refine zb5 fun d hd=>?_
  simp only [List.mem_cons,List.not_mem_nil,or_false] at hd
  rcases hd with rfl | rfl
  ·exact zb6 _ _
  ·exact t1 _ _
 ·refine zb5 fun d hd=>?_
  simp only [List.mem_cons,List.not_mem_nil,or_false] at hd
  rcases hd with rfl | rfl
  ·exact zb6 _ _
  ·exact t1 _ _
theorem zhk {rs:List Row} (h:∀ r ∈ rs,zcl zhb zrv r):eqD 100 (.lst (rs.map plR)) (.lst (rs.map plR))=some true:=by
 refine zh9 fun d hd=>?_
 obtain ⟨r,hr,rfl⟩:=List.mem_map.mp hd
 refine zb5 fun x hx=>?_
 simp only [List.mem_cons,List.not_mem_nil,or_false] at hx
 rcases hx with rfl | rfl | rfl | rfl | rfl
 ·exact zfw _ _
 ·exact zb6 _ _
 ·exact zfw _ _
 ·exact zlO (h r hr).1 _
 ·rcases (h r hr).2 with e | ⟨i,e⟩
  ·rw [e]; exact zlP _
  ·rw [e]; exact zfw _ _
theorem zgg (ns:List (List Nat)):eqD 100 (.lst (ns.map .str)) (.lst (ns.map .str))=some true:=zh9 fun d hd=>by
 obtain ⟨n,_,rfl⟩:=List.mem_map.mp hd; exact zb6 _ _
theorem zgx:∀ {l m:List (List Nat)},l.Nodup→(∀ x ∈ l,x ∈ m)→l.length≤m.length
 | [],m,_,_=>by simp
 | a :: l,m,hn,h=>by
  rw [List.nodup_cons] at hn; have ha:=h a List.mem_cons_self
  have ih:=zgx (l:=l) (m:=m.erase a) hn.2 fun x hx=>(List.mem_erase_of_ne (fun z:x=a=>hn.1 (by rw [← z]; exact hx))).mpr (h x (List.mem_cons_of_mem _ hx))
  rw [List.length_erase_of_mem ha] at ih
  have:=List.length_pos_of_mem ha
  rw [List.length_cons]; omega
theorem ActsOk.more {as:List Act} {a:Act} (h:ActsOk as) (hl:as.length≤14) (h1:zpt a.1.nm) (h2:a.1.nm ∉ nms as) (h3:∀ b ∈ as,b.1.day≤a.1.day) (h4:∀ o,a.1.oth=some o→o ∈ nms as) (h5:a.2=[]):ActsOk (as ++ [a]):=by
 refine ⟨by simp; omega,fun i b hb=>?_⟩
 by_cases hi:i<as.length
 ·rw [List.getElem?_append_left hi] at hb
  rw [List.take_append_of_le_length (by omega)]
  exact h.at_ i b hb
 ·rw [List.getElem?_append_right (by omega)] at hb
  have e:i=as.length:=by
   have:=(List.getElem?_eq_some_iff.mp hb).1
   simp at this
   omega
  subst e
  simp at hb
  subst hb; rw [List.take_left' rfl]
  exact ⟨h1,h2,h3,fun o ho=>⟨h4 o ho,h5⟩,by rw [h5]; simp,fun d hd=>by rw [h5] at hd; cases hd⟩
def zbZ (T:Cs):Sp':=fun ds Q=>∃ (as:List Act) (zW:Int),ds=[bkD T t0D (as.map (hA T)),.lst (as.map zbI),.int zW]∧ActsOk as∧Q (.val (.bl true))
instance {T:Cs}:MSp (zbZ T):=⟨fun _ _ _ h ⟨as,zW,e,a,q⟩=>⟨as,zW,e,a,h _ q⟩⟩
def zcc (T:Cs):SpB:=fun d xs ds Q=>∃ (as:List Act) (c:Int),d=bkF T t0D∧xs=(as.map (hA T)).map zci∧ds=[.lst (as.map zbI),.int c]∧ActsOk as∧as.length≤14∧∀ ys,Q (.bl true) ys
section
variable {P:Program} {w:World} {K:PySem.W.Frag} {mg:Str→Option Value} {base:Heap} {T:Cs}
theorem zco:FnScope ["_law_book_here","_law_acts_here","_law_seen","_law_names_here","_law_rows","_law_other"] ["_law_book_here","_law_acts_here","_law_seen"] (zd zdt):=⟨rfl,rfl,rfl,by decide +kernel,rfl,by decide +kernel,by decide +kernel⟩
theorem zgs (d:Df K mg "_law_right" zdt ["_law_book_here","_law_acts_here","_law_seen"]) (cf:CF K T) (G_living:Fn P w K mg base 3 "living" ["book","seen"] (zcb T)) (G_what_counts:Fn P w K mg base 4 "what_counts" ["book","seen"] (za8 T)) (G_law_book:Fn P w K mg base 6 "_law_book" ["_law_acts_here"] (zcd T)) (G_law_plain:Fn P w K mg base 2 "_law_plain" ["_law_rows"] (zbC T)) (G_law_emptied:Fn P w K mg base 1 "_law_emptied" ["_law_acts_here","_law_names_here"] zcs):Fn P w K mg base 7 "_law_right" ["_law_book_here","_law_acts_here","_law_seen"] (zbZ T):=by
 refine d.ok zco (fun ds Q h=>?_) (fun f cdv A outer s H E hr ds Q h=>⟨_,(ze (zaM 3 zco.nd (zbd G_living (hr.mono (by decide)) (za (pv' 0) (za (pv' 2) zc))))
  (ze (zaM 4 zco.nd (zbd G_what_counts (hr.mono (by decide)) (za (pv' 0) (za (pv' 2) zc))))
  (ze (zhs 5 zco.nd G_law_book (hr.mono (by decide)) (za (zbd G_law_emptied (hr.mono (by decide)) (za (pv' 1) (za (pv' 3) zc))) zc))
  (ze (zaN (zc5 (PW'.pt (zj7 (zac (zkx (zcm hr)) (zbd G_law_plain (hr.mono (by decide)) (za (zbd G_what_counts (hr.mono (by decide)) (za (pv' 5) (za (pv' 2) zc))) zc)) (zbd G_law_plain (hr.mono (by decide)) (za (pv' 4) zc))) (zhq (zac (zkx (zcm hr)) (zbd G_living (hr.mono (by decide)) (za (pv' 5) (za (pv' 2) zc))) (pv' 3)))))) (zf (zY zdN)) zZ)
  (zf (zY (zeF (zc8 (zcm hr)) (zbd G_law_plain (hr.mono (by decide)) (za (zbd G_what_counts (hr.mono (by decide)) (za (pv' 0) (za (pv' 2) zc))) zc)) (zbd G_law_plain (hr.mono (by decide)) (za (pv' 4) zc))))))))),?_⟩)
 ·obtain ⟨as,zW,rfl,_⟩:=h
  rfl
 obtain ⟨as,zW,rfl,ok,q⟩:=h; have h15:=ok.len
 have lv:∀ (bs:List Act) (R:Res→Prop),ActsOk bs→R (.own (.lst ((zfc zW bs).map .str)))→zcb T [bkD T t0D (bs.map (hA T)),.int zW] R:=fun bs R hb h=>⟨t0D,_,zW,rfl,by rw [List.length_map]; have:=hb.len; omega,by rw [zkI]; exact h⟩
 have wc:∀ (bs:List Act) (R:Res→Prop),ActsOk bs→R (.own (.lst ((cnR zW bs).map fun r=>zjW (r.mapC (mkC T)))))→za8 T [bkD T t0D (bs.map (hA T)),.int zW] R:=fun bs R hb h=>⟨t0D,_,zW,rfl,by rw [List.length_map]; have:=hb.len; omega,zle hb,by rw [zpA]; exact h⟩
 have pl:∀ (bs:List Act) (R:Res→Prop),ActsOk bs→R (.val (.lst ((cnR zW bs).map plR)))→zbC T [.lst ((cnR zW bs).map fun r=>zjW (r.mapC (mkC T)))] R:=fun bs R hb h=>⟨_,rfl,by have:=znH (zW:=zW) hb; omega,zgX hb,h⟩
 have ok2:=ok.empt (zfc zW as)
 have el:zfc zW (empt (zfc zW as) as)=zfc zW as:=by unfold zfc; rw [show (empt (List.map (·.nm) (liv zW as)) as)=empt (zfc zW as) as from rfl,zkF]
 have ec:cnR zW (empt (zfc zW as) as)=cnR zW as:=by unfold cnR; rw [zkF]
 simp [zaj,zak,zaf,zah,zp,zaa,tC',zbn,zbh,tB',zal,zar,zbv,zP,zaG,zR,zbB,zad,zB,zai,zan,zbl,zbq,zbu,zaA,zby,zi,zap,zat,zE,zQ,zu,zv,zbk,zt,zJ,zao,zx,zaq,zO,zH,zag,zab,zbp,zy,zaz,zM,zam,zau,zG,zav,zae,zK,zaE,zD,zaD,zr,zaF,zaH,zax,zaC,zA,zbw,zj,zI,zk,zl,tBr,brN,zC,zw,zq,zaw,zbz,zF,zm,zaB,zN,zbx,zay,zL]
 refine lv as _ ok (wc as _ ok ⟨as,zfc zW as,rfl,by omega,⟨_,rfl,ok2,?_⟩⟩)
 dsimp only
 refine wc _ _ ok2 (pl _ _ ok2 (pl _ _ ok ?_)); rw [ec]; refine ⟨true,zhk (zgX ok),.inl ⟨rfl,lv _ _ ok2 ?_⟩⟩; rw [el]; refine ⟨true,zgg _,.inl ⟨rfl,wc _ _ ok (pl _ _ ok (pl _ _ ok ⟨true,zhk (zgX ok),q⟩))⟩⟩
theorem zaQ:FnScope ["_law_book_here","_law_acts_here","_law_cell","_law_names_here","_law_used","_law_free","_law_day","_law_more","_law_fresh","_law_seen"] ["_law_book_here","_law_acts_here","_law_cell"] (zd zba):=⟨rfl,rfl,rfl,by decide +kernel,rfl,by decide +kernel,by decide +kernel⟩
theorem zeK (d:Df K mg "_law_one_more" zba ["_law_book_here","_law_acts_here","_law_cell"]) (cf:CF K T) (G_living:Fn P w K mg base 3 "living" ["book","seen"] (zcb T)) (G_what_counts:Fn P w K mg base 4 "what_counts" ["book","seen"] (za8 T)) (G_law_put:FnB P w K mg base 5 "_law_put" ["_law_book_here","_law_act"] (zcz T)) (G_law_book:Fn P w K mg base 6 "_law_book" ["_law_acts_here"] (zcd T)) (G_law_plain:Fn P w K mg base 2 "_law_plain" ["_law_rows"] (zbC T)) (z_len:mg "len"=none) (z_max:mg "max"=none):FnB P w K mg base 7 "_law_one_more" ["_law_book_here","_law_acts_here","_law_cell"] (zcc T):=by
 refine d.okB zaQ (fun dd xs ds Q h=>?_) (fun f cdv A outer s H E hr dd b xs ds Q h=>⟨_,(ze (zcp 3 zaQ.nd (zkd (zsK G_living (hr.mono (by decide)) (za (pv' 0) (za (zS zeN zb zb) zc)))))
  (zfj 3 (ze (zaN (zac (zc8 (zcm hr)) (pv' 3) (zbt (zb2 zc))) (zf (zY zdN)) zZ)
  (ze (zaM 4 zaQ.nd (zbt (zcg (fsc:=zd zba) (N:=["_law_book_here","_law_acts_here","_law_cell","_law_names_here","_law_used","_law_free","_law_day","_law_more","_law_fresh","_law_seen"]) (N':=["_law_act"]) (src:=[none]) (by refine ⟨rfl,?_,?_,?_,rfl,rfl⟩ <;> decide +kernel) (zbo (pv' 1)) (fun _ _ _ _ _ _=>(zU 0 (show (["_law_act"]:List Str).Nodup by decide +kernel))) (fun _ _ _ _ _ _=>zbs) (fun _ _ _ _ _ _=>(zn (i_A (zT hr)) (pv' 0) zb)))))
  (ze (zdK 5 zaQ.nd (zdJ (fsc:=zd zba) (N:=["_law_book_here","_law_acts_here","_law_cell","_law_names_here","_law_used","_law_free","_law_day","_law_more","_law_fresh","_law_seen"]) (N':=["_law_letter","_law_used"]) (src:=[none,some 4]) (by refine ⟨rfl,?_,?_,?_,rfl,rfl⟩ <;> decide +kernel) (zbo (zaS zes)) (fun _ _ _ _ _ _=>(zU 0 (show (["_law_letter","_law_used"]:List Str).Nodup by decide +kernel))) (fun _ _ _ _ _ _=>(zie (zac (zil (zT hr)) (pv' 0) (pv' 1)))) (fun _ _ _ _ _ _=>(pv' 0))))
  (ze (zaM 6 zaQ.nd (zS zcr (zaT (zrn rfl) z_max PyProof.Rows.boot_max (za (zbt (zcg (fsc:=zd zba) (N:=["_law_book_here","_law_acts_here","_law_cell","_law_names_here","_law_used","_law_free","_law_day","_law_more","_law_fresh","_law_seen"]) (N':=["_law_act"]) (src:=[none]) (by refine ⟨rfl,?_,?_,?_,rfl,rfl⟩ <;> decide +kernel) (zbo (pv' 1)) (fun _ _ _ _ _ _=>(zU 0 (show (["_law_act"]:List Str).Nodup by decide +kernel))) (fun _ _ _ _ _ _=>zbs) (fun _ _ _ _ _ _=>(zn (i_A (zT hr)) (pv' 0) zb)))) zc)) (zS zcj (pv' 2) zb)))
  (ze (zaM 7 zaQ.nd (zbt (zkc zky (pv' 1) (zbt (zb2 (za (zV (za (zn (i_A (zT hr)) (pv' 5) zb) (za (pv' 6) (za (zn (i_A (zT hr)) (pv' 3) (zS zcj (zS zcB (pv' 2) zb) (zaT zei z_len PySem.boot_len (za (pv' 3) zc)))) (za (zbt (zb2 zc)) zc))))) zc))))))
  (ze (zde (pe_callB 0 G_law_put (hr.mono (by decide)) (za (zn (i_A (zT hr)) (pv' 7) zhu) zc)))
  (ze (zhs 8 zaQ.nd G_law_book (hr.mono (by decide)) (za (pv' 7) zc))
  (ze (zcv (zbo (zbt (zkc zky (zbt (zcg (fsc:=zd zba) (N:=["_law_book_here","_law_acts_here","_law_cell","_law_names_here","_law_used","_law_free","_law_day","_law_more","_law_fresh","_law_seen"]) (N':=["_law_act"]) (src:=[none]) (by refine ⟨rfl,?_,?_,?_,rfl,rfl⟩ <;> decide +kernel) (zbo (pv' 7)) (fun _ _ _ _ _ _=>(zU 0 (show (["_law_act"]:List Str).Nodup by decide +kernel))) (fun _ _ _ _ _ _=>zbs) (fun _ _ _ _ _ _=>(zn (i_A (zT hr)) (pv' 0) zb)))) (zbt (zb2 (za (zS zeN zb zb) zc)))))) (zU 9 zaQ.nd)
   (ze (zaN (zc5 (zac (zkx (zcm hr)) (zbd G_living (hr.mono (by decide)) (za (pv' 0) (za (pv' 9) zc))) (zbd G_living (hr.mono (by decide)) (za (pv' 8) (za (pv' 9) zc))))) (zf (zY zdN)) zZ)
  (zf (zaN (zc5 (zac (zkx (zcm hr)) (zbd G_law_plain (hr.mono (by decide)) (za (zbd G_what_counts (hr.mono (by decide)) (za (pv' 0) (za (pv' 9) zc))) zc)) (zbd G_law_plain (hr.mono (by decide)) (za (zbd G_what_counts (hr.mono (by decide)) (za (pv' 8) (za (pv' 9) zc))) zc)))) (zf (zY zdN)) zZ))))
  (zf (zY zdN)))))))))))),?_⟩)
 ·obtain ⟨as,c,rfl,rfl,rfl,_⟩:=h
  rfl
 obtain ⟨as,c,rfl,rfl,rfl,ok,hl,q⟩:=h
 have lv:∀ (bs:List Act) (zW:Int) (R:Res→Prop),ActsOk bs→R (.own (.lst ((zfc zW bs).map .str)))→zcb T [bkF T t0D (.lst (bs.map (zci ∘ hA T))),.int zW] R:=fun bs zW R hb h=>⟨t0D,bs.map (hA T),zW,by rw [← List.map_map]; rfl,by rw [List.length_map]; have:=hb.len; omega,by rw [zkI]; exact h⟩
 have wc:∀ (bs:List Act) (zW:Int) (R:Res→Prop),ActsOk bs→R (.own (.lst ((cnR zW bs).map fun r=>zjW (r.mapC (mkC T)))))→za8 T [bkF T t0D (.lst (bs.map (zci ∘ hA T))),.int zW] R:=fun bs zW R hb h=>⟨t0D,bs.map (hA T),zW,by rw [← List.map_map]; rfl,by rw [List.length_map]; have:=hb.len; omega,zle hb,by rw [zpA]; exact h⟩
 have pl:∀ (bs:List Act) (zW:Int) (R:Res→Prop),ActsOk bs→R (.val (.lst ((cnR zW bs).map plR)))→zbC T [.lst ((cnR zW bs).map fun r=>zjW (r.mapC (mkC T)))] R:=fun bs zW R hb h=>⟨_,rfl,by have:=znH (zW:=zW) hb; omega,zgX hb,h⟩
 simp [zaj,zak,zaf,zah,zp,zaa,tC',zbn,zbh,tB',zal,zar,zbv,zP,zaG,zR,zbB,zad,zB,zai,zan,zbl,zbq,zbu,zaA,zby,zi,zap,zat,zE,zQ,zu,zv,zbk,zt,zJ,zao,zx,zaq,zO,zH,zag,zab,zbp,zy,zaz,zM,zam,zau,zG,zav,zae,zK,zaE,zD,zaD,zr,zaF,zaH,zax,zaC,zA,zbw,zj,zI,zk,zl,tBr,brN,zC,zw,zq,zaw,zbz,zF,zm,zaB,zN,zbx,zay,zL]
 refine ⟨by simp [zjB],lv as _ _ ok ⟨_,rfl,fun d hd=>?_,?_⟩⟩
 ·obtain ⟨n,_,rfl⟩:=List.mem_map.mp hd
  exact .str n
 have hsub:∀ n ∈ zfc 10000000000000000000000000000000000000000 as,n ∈ nms as:=fun n hn=>by
  obtain ⟨x,hx,rfl⟩:=List.mem_map.mp hn; obtain ⟨a,ha,rfl⟩:=zhK hx; exact List.mem_map.mpr ⟨a,ha,rfl⟩
 generalize zfc 10000000000000000000000000000000000000000 as=ns at hsub
 cases ns with
 | nil=>exact ⟨true,rfl,.inr ⟨rfl,q _⟩⟩
 | cons n0 ns =>
 refine ⟨false,rfl,.inl ⟨rfl,small (by omega),?_⟩⟩
 refine zbM (fun i acc Γ=>∃ s0:Slot,acc=(nms (as.take i)).map .str∧Γ=[s0]) ⟨_,rfl,rfl⟩ ?_ ?_
 ·rintro i d acc Γ he ⟨s0,rfl,rfl⟩
  rw [List.getElem?_map] at he; obtain ⟨a,ha,rfl⟩:=Option.map_eq_some_iff.mp he; rw [zaZ ha]; simp [zaj,zak,zaf,zah,zp,zaa,tC',zbn,zbh,tB',zal,zar,zbv,zP,zaG,zR,zbB,zad,zB,zai,zan,zbl,zbq,zbu,zaA,zby,zi,zap,zat,zE,zQ,zu,zv,zbk,zt,zJ,zao,zx,zaq,zO,zH,zag,zab,zbp,zy,zaz,zM,zam,zau,zG,zav,zae,zK,zaE,zD,zaD,zr,zaF,zaH,zax,zaC,zA,zbw,zj,zI,zk,zl,tBr,brN,zC,zw,zq,zaw,zbz,zF,zm,zaB,zN,zbx,zay,zL,vo,voS,zbI,nms]
 rintro acc Γ ⟨s0,rfl,rfl⟩
 rw [List.length_map,List.take_length]
 refine ⟨by rw [zdR]; exact small (by decide),?_⟩
 refine zbM (fun i acc Γ=>∃ s0:Slot,acc=(((zes.take i).filter fun c=>decide ([c] ∉ nms as)).map fun c=>D.str [c])∧Γ=[s0,.val (.lst ((nms as).map .str))]) ⟨_,rfl,rfl⟩ ?_ ?_
 ·rintro i d acc Γ he ⟨s0,rfl,rfl⟩
  rw [List.getElem?_map] at he; obtain ⟨l,hl',rfl⟩:=Option.map_eq_some_iff.mp he; rw [zaZ hl',List.filter_append]; simp [zaj,zak,zaf,zah,zp,zaa,tC',zbn,zbh,tB',zal,zar,zbv,zP,zaG,zR,zbB,zad,zB,zai,zan,zbl,zbq,zbu,zaA,zby,zi,zap,zat,zE,zQ,zu,zv,zbk,zt,zJ,zao,zx,zaq,zO,zH,zag,zab,zbp,zy,zaz,zM,zam,zau,zG,zav,zae,zK,zaE,zD,zaD,zr,zaF,zaH,zax,zaC,zA,zbw,zj,zI,zk,zl,tBr,brN,zC,zw,zq,zaw,zbz,zF,zm,zaB,zN,zbx,zay,zL,vo,voS]; refine zfl ?_
  by_cases e:[l] ∈ nms as <;> simp [e]
 rintro acc Γ ⟨s0,rfl,rfl⟩
 rw [List.length_map,List.take_length]
 refine ⟨small (by omega),?_⟩
 refine zbM (fun i acc Γ=>∃ s0:Slot,acc=(as.take i).map (fun a=>D.int a.1.day)∧Γ=[s0]) ⟨_,rfl,rfl⟩ ?_ ?_
 ·rintro i d acc Γ he ⟨s0,rfl,rfl⟩
  rw [List.getElem?_map] at he; obtain ⟨a,ha,rfl⟩:=Option.map_eq_some_iff.mp he; rw [zaZ ha]; simp [zaj,zak,zaf,zah,zp,zaa,tC',zbn,zbh,tB',zal,zar,zbv,zP,zaG,zR,zbB,zad,zB,zai,zan,zbl,zbq,zbu,zaA,zby,zi,zap,zat,zE,zQ,zu,zv,zbk,zt,zJ,zao,zx,zaq,zO,zH,zag,zab,zbp,zy,zaz,zM,zam,zau,zG,zav,zae,zK,zaE,zD,zaD,zr,zaF,zaH,zax,zaC,zA,zbw,zj,zI,zk,zl,tBr,brN,zC,zw,zq,zaw,zbz,zF,zm,zaB,zN,zbx,zay,zL,vo,voS,zbI]
 rintro acc Γ ⟨s0,rfl,rfl⟩
 rw [List.length_map,List.take_length]
 have hne:as≠[]:=fun z=>by
  have:=hsub n0 List.mem_cons_self
  rw [z] at this; cases this
 refine ⟨as.map fun a=>a.1.day,by rw [List.map_map]; rfl,fun z=>hne (List.map_eq_nil_iff.mp z),fun m hm hmax=>?_⟩
 refine (zdI _ _).mpr ?_
 obtain ⟨l0,lr,hfr⟩:∃ l0 lr,zes.filter (fun c=>decide ([c] ∉ nms as))=l0 :: lr:=by
  cases e:zes.filter (fun c=>decide ([c] ∉ nms as)) with
  | cons l0 lr=>exact ⟨l0,lr,rfl⟩
  | nil =>
   rw [List.filter_eq_nil_iff] at e
   have hb:=zgx (l:=zes.map fun c=>[c]) (m:=nms as) (by decide) fun x hx=>by
    obtain ⟨y,hy,rfl⟩:=List.mem_map.mp hx
    have:=e y hy
    simpa using this
   rw [List.length_map,zdR] at hb; unfold nms at hb; rw [List.length_map] at hb; omega
 have hl0:l0 ∈ zes∧[l0] ∉ nms as:=by
  have:l0 ∈ zes.filter (fun c=>decide ([c] ∉ nms as)):=by rw [hfr]; exact List.mem_cons_self
  simpa using List.mem_filter.mp this
 rw [hfr]
 refine ⟨.str [l0],show atI _ ((0:Nat):Int)=_ from zbH rfl,by simp [zjC],?_⟩
 simp [OD.toD]
 have hmd:=md (i:=c / 3) (n:=ns.length+1) (by omega)
 obtain ⟨o',eo,ho⟩:=ze1 ((n0 :: ns).map D.str) (i:=c / 3 % ((ns.length:Int)+1)) (by have:=hmd.1; push_cast at this; exact this) (by have:=hmd.2; push_cast at this; simpa using this)
 obtain ⟨o,ho2,rfl⟩:=List.mem_map.mp ho
 have hmd3:=md (i:=c) (n:=3) (by decide)
 have hdays:∀ x ∈ as,x.1.day≤m+c % 3:=fun x hx=>by
  have:=hmax x.1.day (List.mem_map.mpr ⟨x,hx,rfl⟩)
  omega
 have ok2:ActsOk (as ++ [((⟨[l0],m+c % 3,some o⟩:Ent),([]:List Deed))]):=ok.more hl ⟨by simp,by simp,fun x hx=>by rw [List.mem_singleton.mp hx]; exact hl0.1⟩ hl0.2 hdays (fun o' h'=>by cases h'; exact hsub o ho2) rfl
 have ea:as.map zbI ++ [D.tup [D.str [l0],D.int (m+c % 3),D.str o,D.lst []]]=(as ++ [((⟨[l0],m+c % 3,some o⟩:Ent),([]:List Deed))]).map zbI:=by rw [List.map_append]; rfl
 refine ⟨_,eo,small (by decide),small (by decide),_,_,rfl,rfl,small (by simp; omega),?_⟩
 rw [ea]
 dsimp only
 have hn:nms (as.map (hA T))=nms as:=by unfold nms; rw [List.map_map]; rfl
 refine (zlU _ _).mpr ⟨_,by rw [List.map_append]; exact ziI _ _,?_⟩
 refine ⟨t0D,as.map (hA T),((⟨[l0],m+c % 3,some o⟩:Ent),([]:List Deed)),rfl,by rw [List.map_map],rfl,⟨by simp; omega,⟨by simp,by simp,fun x hx=>by rw [List.mem_singleton.mp hx]; exact hl0.1⟩,by rw [hn]; exact hl0.2,fun e he=>?_⟩,by simp,(fun x (hx:x ∈ ([]:List Deed))=>nomatch hx),fun o' h'=>by cases h'; exact ⟨by rw [hn]; exact hsub o ho2,rfl⟩,?_⟩
 ·obtain ⟨y,hy,rfl⟩:=List.mem_map.mp he
  exact hdays y hy
 have ep:List.map zci (List.map (hA T) as ++ [hA T ((⟨[l0],m+c % 3,some o⟩:Ent),([]:List Deed))])=(as ++ [((⟨[l0],m+c % 3,some o⟩:Ent),([]:List Deed))]).map (zci ∘ hA T):=by simp
 rw [ep]
 have hbl:(as ++ [((⟨[l0],m+c % 3,some o⟩:Ent),([]:List Deed))]).length≤15:=ok2.len
 generalize as ++ [((⟨[l0],m+c % 3,some o⟩:Ent),([]:List Deed))]=bs at ok2 hbl; refine ⟨bs,rfl,ok2,?_⟩
 dsimp only
 intro b1
 refine ⟨_,rfl,by rw [List.length_map]; exact small (by omega),?_⟩
 refine zbM (fun i acc Γ=>∃ s0:Slot,acc=(bs.take i).map (fun a=>D.int a.1.day)∧Γ=[s0]) ⟨_,rfl,rfl⟩ ?_ ?_
 ·rintro i d acc Γ he ⟨s0,rfl,rfl⟩
  rw [List.getElem?_map] at he; obtain ⟨a,ha,rfl⟩:=Option.map_eq_some_iff.mp he; rw [zaZ ha]; simp [zaj,zak,zaf,zah,zp,zaa,tC',zbn,zbh,tB',zal,zar,zbv,zP,zaG,zR,zbB,zad,zB,zai,zan,zbl,zbq,zbu,zaA,zby,zi,zap,zat,zE,zQ,zu,zv,zbk,zt,zJ,zao,zx,zaq,zO,zH,zag,zab,zbp,zy,zaz,zM,zam,zau,zG,zav,zae,zK,zaE,zD,zaD,zr,zaF,zaH,zax,zaC,zA,zbw,zj,zI,zk,zl,tBr,brN,zC,zw,zq,zaw,zbz,zF,zm,zaB,zN,zbx,zay,zL,vo,voS,zbI]
 rintro acc Γ ⟨s0,rfl,rfl⟩
 rw [List.length_map,List.take_length]
 refine ⟨by simp [zjB],small (by decide),_,_,rfl,rfl,small (by simp; omega),?_⟩
 have ei:(bs.map fun a:Act=>D.int a.1.day) ++ [D.int 10000000000000000000000000000000000000000]=(bs.map (fun a:Act=>a.1.day) ++ [10000000000000000000000000000000000000000]).map D.int:=by simp
 rw [ei]; refine ⟨_,rfl,?_⟩
 generalize bs.map (fun a:Act=>a.1.day) ++ [10000000000000000000000000000000000000000]=is
 refine zdl (fun i Γ=>∃ s9:Slot,Γ=[Slot.bk (bkF T t0D) b (OD.lst (bs.map (zci ∘ hA T))),Slot.val (D.lst (as.map zbI)),Slot.val (D.int c),Slot.val (D.lst (List.map D.str (n0 :: ns))),Slot.val (D.lst (List.map D.str (nms as))),Slot.val (D.lst (List.map (fun c=>D.str [c]) (l0 :: lr))),Slot.val (D.int (m+c % 3)),Slot.val (D.lst (bs.map zbI)),Slot.bk (bkF T t0D) b1 (OD.lst (List.map zci (List.map (hA T) bs))),s9]) ⟨.emp,rfl⟩ ?_ ?_
 ·rintro i d Γ he ⟨s9,rfl⟩
  rw [List.getElem?_map] at he; obtain ⟨zW,_,rfl⟩:=Option.map_eq_some_iff.mp he; simp [zaj,zak,zaf,zah,zp,zaa,tC',zbn,zbh,tB',zal,zar,zbv,zP,zaG,zR,zbB,zad,zB,zai,zan,zbl,zbq,zbu,zaA,zby,zi,zap,zat,zE,zQ,zu,zv,zbk,zt,zJ,zao,zx,zaq,zO,zH,zag,zab,zbp,zy,zaz,zM,zam,zau,zG,zav,zae,zK,zaE,zD,zaD,zr,zaF,zaH,zax,zaC,zA,zbw,zj,zI,zk,zl,tBr,brN,zC,zw,zq,zaw,zbz,zF,zm,zaB,zN,zbx,zay,zL]; exact lv bs _ _ ok2 (lv bs _ _ ok2 ⟨true,zgg _,.inl ⟨rfl,wc bs _ _ ok2 (pl bs _ _ ok2 (wc bs _ _ ok2 (pl bs _ _ ok2 ⟨true,zhk (zgX ok2),.inl rfl⟩)))⟩⟩)
 ·rintro Γ ⟨s9,rfl⟩
  simp [zaj,zak,zaf,zah,zp,zaa,tC',zbn,zbh,tB',zal,zar,zbv,zP,zaG,zR,zbB,zad,zB,zai,zan,zbl,zbq,zbu,zaA,zby,zi,zap,zat,zE,zQ,zu,zv,zbk,zt,zJ,zao,zx,zaq,zO,zH,zag,zab,zbp,zy,zaz,zM,zam,zau,zG,zav,zae,zK,zaE,zD,zaD,zr,zaF,zaH,zax,zaC,zA,zbw,zj,zI,zk,zl,tBr,brN,zC,zw,zq,zaw,zbz,zF,zm,zaB,zN,zbx,zay,zL]; exact q _
end
end K34
namespace K34
open PySem L2 Lb PL M34
def zdo:Sp':=fun ds Q=>∃ ns:List Int,ds=[.lst (ns.map .int)]∧ns.length≤63∧∀ (ms:List Int) (r:Res),ms.length≤126→r.toD=.lst (ms.map .int)→Q r
def zce (T:Cs):Sp':=fun ds Q=>∃ ns:List Int,ds=[.lst (ns.map .int)]∧ns.length≤126∧Q (.val (.bl true))
theorem zpm {α:Type} (xs:List α) (lo hi:Option Int):(zfX xs lo hi).Sublist xs:=by
 unfold zfX; exact (List.take_sublist _ _).trans (List.drop_sublist _ _)
theorem zjl {ns:List (List Nat)} {as:List Act} (ga:GoodActs ns as) {i:Nat} (hi:i≤as.length):nms (as.take i)=ns.take i:=by
 refine List.ext_getElem? fun j=>?_
 unfold nms; rw [List.getElem?_map,List.getElem?_take,List.getElem?_take]; split
 ·rename_i hj
  have hj':j<as.length:=by omega
  rw [List.getElem?_eq_getElem hj',(ga.at_ j _ (List.getElem?_eq_getElem hj')).1]; rfl
 ·rfl
theorem zjb {ns:List (List Nat)} (h:ns.Nodup) {i:Nat} {x:List Nat} (e:ns[i]?=some x):x ∉ ns.take i:=fun hm=>by
 obtain ⟨j,hj,e2⟩:=List.getElem_of_mem hm; rw [List.length_take] at hj; obtain ⟨hi,e3⟩:=List.getElem?_eq_some_iff.mp e
 have:=List.pairwise_iff_getElem.mp h j i (by omega) hi (by omega)
 rw [List.getElem_take] at e2; exact this (e2.trans e3.symm)
theorem GoodActs.ok {ns:List (List Nat)} {as:List Act} (ga:GoodActs ns as) (h1:∀ n,n ∈ ns→zpt n) (h2:ns.Nodup):ActsOk as:=by
 refine ⟨by have:=ga.len; omega,fun i a ha=>?_⟩
 have hi:=(List.getElem?_eq_some_iff.mp ha).1; obtain ⟨a1,a2,a3,a4⟩:=ga.at_ i a ha
 rw [zjl ga (by omega)]
 refine ⟨h1 _ (List.mem_of_getElem? a1),zjb h2 a1,fun b hb=>?_,a2,a3,a4⟩
 obtain ⟨j,hj,e⟩:=List.getElem_of_mem hb; rw [List.length_take] at hj; rw [List.getElem_take] at e
 exact ga.days j i b a (by omega) (by rw [List.getElem?_eq_getElem (by omega),e]) ha
section
variable {P:Program} {w:World} {K:PySem.W.Frag} {mg:Str→Option Value} {base:Heap} {T:Cs}
theorem zcL:FnScope ["_law_script","_law_found","_law_number"] ["_law_script"] (zd zd0):=⟨rfl,rfl,rfl,by decide +kernel,rfl,by decide +kernel,by decide +kernel⟩
theorem zhy (d:Df K mg "_law_wide" zd0 ["_law_script"]) (z_abs:mg "abs"=none) (z_len:mg "len"=none):Fn P w K mg base 1 "_law_wide" ["_law_script"] zdo:=by
 refine d.ok zcL (fun ds Q h=>?_) (fun f cdv A outer s H E hr ds Q h=>⟨_,(ze (zaN (PW'.pt (zj7 (zac zpx (zaT zei z_len PySem.boot_len (za (pv' 0) zc)) zb) (zhq (zac zpx (zaT zrt z_abs ziH (za (zn (i_A (zT hr)) (pv' 0) zb) zc)) (zS zeN zb zb))))) (zf (zY (pv' 0))) zZ)
  (ze (zcp 1 zcL.nd (zb2 zc))
  (ze (zaM 2 zcL.nd (zaT zrt z_abs ziH (za (zn (i_A (zT hr)) (pv' 0) zb) zc)))
  (ze (zj8 (zc5 (PW'.pt (zfD (zac zqK (pv' 2) zb) (zeq (zac zpx (zaT zei z_len PySem.boot_len (za (pv' 1) zc)) zb)))))
   (ze (zbX 1 (zS zcj (pv' 2) (zS zeN zb zb)))
  (zf (zaM 2 zcL.nd (zS zcB (pv' 2) (zS zeN zb zb))))))
  (zf (zfF (zkd (zkc zky (pv' 1) (zng s_A (pv' 0) (zoC zb) zsN))))))))),?_⟩)
 ·obtain ⟨ns,rfl,_⟩:=h
  rfl
 obtain ⟨ns,rfl,h63,hq⟩:=h; simp [zaj,zak,zaf,zah,zp,zaa,tC',zbn,zbh,tB',zal,zar,zbv,zP,zaG,zR,zbB,zad,zB,zai,zan,zbl,zbq,zbu,zaA,zby,zi,zap,zat,zE,zQ,zu,zv,zbk,zt,zJ,zao,zx,zaq,zO,zH,zag,zab,zbp,zy,zaz,zM,zam,zau,zG,zav,zae,zK,zaE,zD,zaD,zr,zaF,zaH,zax,zaC,zA,zbw,zj,zI,zk,zl,tBr,brN,zC,zw,zq,zaw,zbz,zF,zm,zaB,zN,zbx,zay,zL]
 rcases Nat.lt_or_ge ns.length 2 with h2 | h2
 ·exact .inr ⟨by omega,hq ns _ (by omega) rfl⟩
 refine .inl ⟨by omega,?_⟩
 obtain ⟨z,hz⟩:∃ z,ns[1]?=some z:=⟨_,List.getElem?_eq_getElem (by omega)⟩
 have ha:atI (ns.map D.int) 1=some (.int z):=show atI _ ((1:Nat):Int)=_ from zbH (by rw [List.getElem?_map,hz]; rfl)
 refine ⟨.int z,ha,?_⟩; rw [zlZ]
 refine ⟨by simp [zjB],?_⟩
 simp; rw [ha]; simp
 generalize (if z<0 then -z else z)=N
 by_cases hN:N<1000000000000000000
 ·exact .inr ⟨hN,hq ns _ (by omega) rfl⟩
 refine .inl ⟨by omega,?_⟩
 refine zjF (fun Γ=>∃ (fs:List Int) (M:Int),Γ=[.val (.lst (ns.map .int)),.own (.lst (fs.map .int)),.val (.int M)]∧fs.length≤63) (fun Γ=>match Γ with | [_,.own (.lst l),_]=>63-l.length | _=>0) ⟨[],N,rfl,by simp⟩ ?_
 rintro Γ ⟨fs,M,rfl,hf⟩
 simp [zaj,zak,zaf,zah,zp,zaa,tC',zbn,zbh,tB',zal,zar,zbv,zP,zaG,zR,zbB,zad,zB,zai,zan,zbl,zbq,zbu,zaA,zby,zi,zap,zat,zE,zQ,zu,zv,zbk,zt,zJ,zao,zx,zaq,zO,zH,zag,zab,zbp,zy,zaz,zM,zam,zau,zG,zav,zae,zK,zaE,zD,zaD,zr,zaF,zaH,zax,zaC,zA,zbw,zj,zI,zk,zl,tBr,brN,zC,zw,zq,zaw,zbz,zF,zm,zaB,zN,zbx,zay,zL,OD.toD]
 have hadd:zp9 (.lst (fs.map .int)) (.lst (zfX (ns.map .int) (some 2) none)) fun o=>zt4 o∧Q (.own o):=by
  rw [ziF]; have hl:=(zpm ns (some 2) none).length_le
  refine ⟨_,_,rfl,rfl,small (by simp; omega),?_⟩
  rw [← List.map_append]
  exact ⟨fun d hd=>by obtain ⟨i,_,rfl⟩:=List.mem_map.mp hd; exact .int i,hq _ _ (by simp; omega) rfl⟩
 by_cases hM:M≤0
 ·exact .inl ⟨hM,hadd⟩
 refine .inr ⟨by omega,?_⟩
 by_cases h6:fs.length<63
 ·exact .inr ⟨by omega,by simp [zjB],za6 (by omega),by simp [zjB],by simp [zjC],⟨fs ++ [M % 1000000],by simp,by simp; omega⟩,by omega⟩
 ·exact .inl ⟨by omega,hadd⟩
theorem zbE:FnScope ["_law_script","_law_names_here","_law_acts_here","_law_book_here","_law_act"] ["_law_script"] (zd zcu):=⟨rfl,rfl,rfl,by decide +kernel,rfl,by decide +kernel,by decide +kernel⟩
theorem zeL (d:Df K mg "_law_asked_so" zcu ["_law_script"]) (cf:CF K T) (G_law_cell_at:Fn P w K mg base 1 "_law_cell_at" ["_law_script","_law_k"] zbm) (G_law_names:Fn P w K mg base 1 "_law_names" ["_law_cell"] zc0) (G_law_acts:Fn P w K mg base 3 "_law_acts" ["_law_script","_law_names_here"] zdp) (G_law_book:Fn P w K mg base 6 "_law_book" ["_law_acts_here"] (zcd T)) (G_law_right:Fn P w K mg base 7 "_law_right" ["_law_book_here","_law_acts_here","_law_seen"] (zbZ T)) (G_law_one_more:FnB P w K mg base 7 "_law_one_more" ["_law_book_here","_law_acts_here","_law_cell"] (zcc T)):Fn P w K mg base 8 "_law_asked_so" ["_law_script"] (zce T):=by
 refine d.ok zbE (fun ds Q h=>?_) (fun f cdv A outer s H E hr ds Q h=>⟨_,(ze (zaM 1 zbE.nd (zbd G_law_names (hr.mono (by decide)) (za (zS zcj (zbd G_law_cell_at (hr.mono (by decide)) (za (pv' 0) (za zb zc))) (zS zeN zb zb)) zc)))
  (ze (zaM 2 zbE.nd (zbd G_law_acts (hr.mono (by decide)) (za (pv' 0) (za (pv' 1) zc))))
  (ze (zhs 3 zbE.nd G_law_book (hr.mono (by decide)) (za (pv' 2) zc))
  (ze (zcv (zbo (pv' 2)) (zU 4 zbE.nd)
   (zf (zaN (zc5 (zfE (zcQ (zbd G_law_right (hr.mono (by decide)) (za (pv' 3) (za (pv' 2) (za (zn (i_A (zT hr)) (pv' 4) zb) zc))))))) (zf (zY zdN)) zZ)))
  (ze (zaN (zc5 (zfE (zcQ (zbd G_law_right (hr.mono (by decide)) (za (pv' 3) (za (pv' 2) (za (zS zeN zb zb) zc))))))) (zf (zY zdN)) zZ)
  (zf (zY (pe_callB 3 G_law_one_more (hr.mono (by decide)) (za (pv' 2) (za (zS zcB (zbd G_law_cell_at (hr.mono (by decide)) (za (pv' 0) (za zb zc))) zb) zc)))))))))),?_⟩)
 ·obtain ⟨ns,rfl,_⟩:=h
  rfl
 obtain ⟨cs,rfl,hl,q⟩:=h; simp [zaj,zak,zaf,zah,zp,zaa,tC',zbn,zbh,tB',zal,zar,zbv,zP,zaG,zR,zbB,zad,zB,zai,zan,zbl,zbq,zbu,zaA,zby,zi,zap,zat,zE,zQ,zu,zv,zbk,zt,zJ,zao,zx,zaq,zO,zH,zag,zab,zbp,zy,zaz,zM,zam,zau,zG,zav,zae,zK,zaE,zD,zaD,zr,zaF,zaH,zax,zaC,zA,zbw,zj,zI,zk,zl,tBr,brN,zC,zw,zq,zaw,zbz,zF,zm,zaB,zN,zbx,zay,zL]
 refine ⟨cs,0,rfl,Int.le_refl _,by omega,fun c0=>?_⟩
 refine ⟨by simp [zjB],_,_,rfl,rfl,by show (0:Int)<1000000000000; decide,_,rfl,fun ns hn1 hn2 hn3=>⟨cs,ns,rfl,by omega,hn1,fun as ga=>?_⟩⟩
 have ok:=ga.ok hn2 hn3; refine ⟨as,rfl,ok,?_⟩
 dsimp only
 intro b; refine ⟨_,rfl,?_⟩
 have rt:∀ (zW:Int) (R:Res→Prop),R (.val (.bl true))→zbZ T [bkF T t0D (.lst (as.map (zci ∘ hA T))),.lst (as.map zbI),.int zW] R:=fun zW R h=>⟨as,zW,by rw [← List.map_map]; rfl,ok,h⟩
 refine zdl (fun i Γ=>∃ s4:Slot,Γ=[Slot.val (D.lst (List.map D.int cs)),Slot.val (D.lst (ns.map .str)),Slot.val (D.lst (as.map zbI)),Slot.bk (bkF T t0D) b (OD.lst ((as.map (hA T)).map zci)),s4]) ⟨.emp,rfl⟩ ?_ ?_
 ·rintro i d Γ he ⟨s4,rfl⟩
  rw [List.getElem?_map] at he; obtain ⟨a,ha,rfl⟩:=Option.map_eq_some_iff.mp he; simp [zaj,zak,zaf,zah,zp,zaa,tC',zbn,zbh,tB',zal,zar,zbv,zP,zaG,zR,zbB,zad,zB,zai,zan,zbl,zbq,zbu,zaA,zby,zi,zap,zat,zE,zQ,zu,zv,zbk,zt,zJ,zao,zx,zaq,zO,zH,zag,zab,zbp,zy,zaz,zM,zam,zau,zG,zav,zae,zK,zaE,zD,zaD,zr,zaF,zaH,zax,zaC,zA,zbw,zj,zI,zk,zl,tBr,brN,zC,zw,zq,zaw,zbz,zF,zm,zaB,zN,zbx,zay,zL,zbI]; exact rt _ _ (.inr rfl)
 ·rintro Γ ⟨s4,rfl⟩
  simp [zaj,zak,zaf,zah,zp,zaa,tC',zbn,zbh,tB',zal,zar,zbv,zP,zaG,zR,zbB,zad,zB,zai,zan,zbl,zbq,zbu,zaA,zby,zi,zap,zat,zE,zQ,zu,zv,zbk,zt,zJ,zao,zx,zaq,zO,zH,zag,zab,zbp,zy,zaz,zM,zam,zau,zG,zav,zae,zK,zaE,zD,zaD,zr,zaF,zaH,zax,zaC,zA,zbw,zj,zI,zk,zl,tBr,brN,zC,zw,zq,zaw,zbz,zF,zm,zaB,zN,zbx,zay,zL]
  refine ⟨by simp [zjB],rt _ _ (.inr ⟨rfl,cs,2,rfl,by decide,by omega,fun c2=>?_⟩)⟩
  exact ⟨_,_,rfl,rfl,by simp [zjC],as,_,rfl,by rw [List.map_map],rfl,ok,ga.len,fun _=>q⟩
end
def znc:Sp':=ziP
section
variable {P:Program} {w:World} {K:PySem.W.Frag} {mg:Str→Option Value} {base:Heap} {T:Cs}
theorem zp0:FnScope ["_law_script"] ["_law_script"] (zd ze6):=⟨rfl,rfl,rfl,by decide +kernel,rfl,by decide +kernel,by decide +kernel⟩
theorem zqH (d:Df K mg "law" ze6 ["_law_script"]) (G_law_asked_so:Fn P w K mg base 8 "_law_asked_so" ["_law_script"] (zce T)) (G_law_wide:Fn P w K mg base 1 "_law_wide" ["_law_script"] zdo):Fn P w K mg base 9 "law" ["_law_script"] znc:=by
 refine d.ok zp0 (fun ds Q h=>?_) (fun f cdv A outer s H E hr ds Q h=>⟨_,(zf (zY (zbd G_law_asked_so (hr.mono (by decide)) (za (zbd G_law_wide (hr.mono (by decide)) (za (pv' 0) zc)) zc)))),?_⟩)
 ·obtain ⟨ns,rfl,_⟩:=h
  rfl
 obtain ⟨cs,rfl,hl,hq⟩:=h; simp [zaj,zak,zaf,zah,zp,zaa,tC',zbn,zbh,tB',zal,zar,zbv,zP,zaG,zR,zbB,zad,zB,zai,zan,zbl,zbq,zbu,zaA,zby,zi,zap,zat,zE,zQ,zu,zv,zbk,zt,zJ,zao,zx,zaq,zO,zH,zag,zab,zbp,zy,zaz,zM,zam,zau,zG,zav,zae,zK,zaE,zD,zaD,zr,zaF,zaH,zax,zaC,zA,zbw,zj,zI,zk,zl,tBr,brN,zC,zw,zq,zaw,zbz,zF,zm,zaB,zN,zbx,zay,zL]
 exact ⟨cs,rfl,hl,fun ms r b e=>⟨ms,by rw [e],b,hq⟩⟩
end
end K34
namespace PL
open PySem L2
def Dn (K:PySem.W.Frag) (x:Str) (st:Stmt):Prop:=∃ f fd,Fun K x x st f fd∧PySem.W.nsIn K mainGlobals x=some (some (.ref f))
section
variable {K:PySem.W.Frag} {x:Str} {st:Stmt}
theorem Dn.mk {f:Addr} {oc:Value} {od an:Option Addr} {osl:Array (Option Value)} {kV doc pm cdv ct:Value} (a:PySem.W.nsIn K mainGlobals x=some (some (.ref f))) (l:K.lookup f=some ⟨oc,od,.func (PySem.W.fnOf x x (zbj st) (zaK st) (zd st) .none kV doc pm an cdv ct),osl⟩) (c:PySem.W.codeIn K cdv x=true) (k:PySem.W.keepIn K (.ref f)=true):Dn K x st:=⟨f,_,zcC l c k,a⟩
theorem Dn.df {h:Heap} {mg:Str→Option Value} (D:Dn K x st) (X:K.In h) (G:h.Ns mainGlobals mg) (ps:List Str) (hb:∀ (kV doc pm:Value) (an:Option Addr) (cdv ct:Value) (us:List Value),us.length=ps.length→bindArgs (PySem.W.fnOf x x (zbj st) (zaK st) (zd st) .none kV doc pm an cdv ct) ⟨us,[]⟩=pure (ps.zip us)):Df K mg x st ps:=by
 obtain ⟨f,fd,F,a⟩:=D; exact ⟨f,fd,F,F.binds hb,PySem.W.mg_of X G a⟩
end
end PL
namespace K34
open PySem L2 Lb PL M34
section
variable {P:Program} {w:World} {K:PySem.W.Frag} {mg:Str→Option Value} {base:Heap}
theorem znY:FnScope ["self","tree"] ["self","tree"] (zd zbU):=⟨rfl,rfl,rfl,by decide +kernel,rfl,by decide +kernel,by decide +kernel⟩
theorem zkW {f C:Addr} {fd:FuncData} (F:Fun K "__init__" "Book.__init__" zbU f fd) (cl:Cls K C) (n1:zaX K C "tree") (n2:zaX K C "past"):FnOk P w K mg base CX0 1 f fd ["self","tree"] (zjR C "tree" "past"):=by
 refine F.ok znY (fun vs H Q E h=>?_) (fun cdv A outer s H vs Q E hr h=>?_)
 ·obtain ⟨a,dx,u,rfl,_⟩:=h
  rfl
 ·obtain ⟨a,dx,u,rfl,ha,k⟩:=h
  refine ⟨_,(zdd (zc6 (pv 0) (pv 1) rfl) (zdw (zc6 (pv 0) (znh zii) rfl))),?_⟩
  refine ⟨_,rfl,_,rfl,a,C,dx,_,rfl,ha,cl,n1,(by show 0<1000; decide),Nat.zero_le _,fun p hp=>?_⟩
  have hpa:p≠a:=fun z=>by rw [z,zh] at hp; cases hp
  refine ⟨_,rfl,a,C,dx,_,rfl,by rw [zo (fun z=>hpa z.symm)]; exact zh,cl,n2,(by show 1<1000; decide),?_⟩
  have e:zdv "past" (.ref p) (zdv "tree" u ([]))=[(("tree":Str),u),(("past":Str),.ref p)]:=by
   have q1:¬ ("tree":Str)="past":=by decide +kernel
   simp only [zdv,if_neg q1]
  rw [zh0 hpa,e]; rw [zo hpa] at hp; exact k p hpa hp
theorem znW:FnScope ["self","place","old","new"] ["self","place","old","new"] (zd zbS):=⟨rfl,rfl,rfl,by decide +kernel,rfl,by decide +kernel,by decide +kernel⟩
theorem zkU {f C:Addr} {fd:FuncData} (F:Fun K "__init__" "Swap.__init__" zbS f fd) (cl:Cls K C) (n1:zaX K C "place") (n2:zaX K C "old") (n3:zaX K C "new"):FnOk P w K mg base CX0 1 f fd ["self","place","old","new"] (zff C ["place","old","new"]):=by
 refine F.ok znW (fun vs H Q E h=>?_) (fun cdv A outer s H vs Q E hr h=>?_)
 ·obtain ⟨a,dx,us,rfl,hl,_⟩:=h
  simpa using hl
 ·obtain ⟨a,dx,us,rfl,hl,ha,k⟩:=h
  obtain ⟨v1,v2,v3,rfl⟩:∃ v1 v2 v3,us=[v1,v2,v3]:=by
   match us,hl with
   | [v1,v2,v3],_=>exact ⟨v1,v2,v3,rfl⟩
  refine ⟨_,(zdd (zc6 (pv 0) (pv 1) rfl) (zdd (zc6 (pv 0) (pv 2) rfl) (zdw (zc6 (pv 0) (pv 3) rfl)))),?_⟩
  refine ⟨_,rfl,_,rfl,a,C,dx,_,rfl,ha,cl,n1,(by show 0<1000; decide),_,rfl,_,rfl,a,C,dx,_,rfl,zh,cl,n2,(by show 1<1000; decide),_,rfl,_,rfl,a,C,dx,_,rfl,zh,cl,n3,(by show 2<1000; decide),?_⟩
  have e:zdv "new" v3 (zdv "old" v2 (zdv "place" v1 ([])))=List.zip (["place","old","new"]:List Str) [v1,v2,v3]:=by
   have q1:¬ ("place":Str)="old":=by decide +kernel
   have q2:¬ ("place":Str)="new":=by decide +kernel
   have q3:¬ ("old":Str)="new":=by decide +kernel
   simp only [zdv,if_neg q1,if_neg q2,if_neg q3]; rfl
  simp only [zdX]; exact e ▸ k
theorem znX:FnScope ["self","place","words"] ["self","place","words"] (zd zbT):=⟨rfl,rfl,rfl,by decide +kernel,rfl,by decide +kernel,by decide +kernel⟩
theorem zkV {f C:Addr} {fd:FuncData} (F:Fun K "__init__" "Read.__init__" zbT f fd) (cl:Cls K C) (n1:zaX K C "place") (n2:zaX K C "words"):FnOk P w K mg base CX0 1 f fd ["self","place","words"] (zff C ["place","words"]):=by
 refine F.ok znX (fun vs H Q E h=>?_) (fun cdv A outer s H vs Q E hr h=>?_)
 ·obtain ⟨a,dx,us,rfl,hl,_⟩:=h
  simpa using hl
 ·obtain ⟨a,dx,us,rfl,hl,ha,k⟩:=h
  obtain ⟨v1,v2,rfl⟩:∃ v1 v2,us=[v1,v2]:=by
   match us,hl with
   | [v1,v2],_=>exact ⟨v1,v2,rfl⟩
  refine ⟨_,(zdd (zc6 (pv 0) (pv 1) rfl) (zdw (zc6 (pv 0) (pv 2) rfl))),?_⟩
  refine ⟨_,rfl,_,rfl,a,C,dx,_,rfl,ha,cl,n1,(by show 0<1000; decide),_,rfl,_,rfl,a,C,dx,_,rfl,zh,cl,n2,(by show 1<1000; decide),?_⟩
  have e:zdv "words" v2 (zdv "place" v1 ([]))=List.zip (["place","words"]:List Str) [v1,v2]:=by
   have q1:¬ ("place":Str)="words":=by decide +kernel
   simp only [zdv,if_neg q1]; rfl
  simp only [zdX]; exact e ▸ k
theorem zlN:FnScope ["self","place","node"] ["self","place","node"] (zd zbO):=⟨rfl,rfl,rfl,by decide +kernel,rfl,by decide +kernel,by decide +kernel⟩
theorem zjk {f C:Addr} {fd:FuncData} (F:Fun K "__init__" "PutIn.__init__" zbO f fd) (cl:Cls K C) (n1:zaX K C "place") (n2:zaX K C "node"):FnOk P w K mg base CX0 1 f fd ["self","place","node"] (zff C ["place","node"]):=by
 refine F.ok zlN (fun vs H Q E h=>?_) (fun cdv A outer s H vs Q E hr h=>?_)
 ·obtain ⟨a,dx,us,rfl,hl,_⟩:=h
  simpa using hl
 ·obtain ⟨a,dx,us,rfl,hl,ha,k⟩:=h
  obtain ⟨v1,v2,rfl⟩:∃ v1 v2,us=[v1,v2]:=by
   match us,hl with
   | [v1,v2],_=>exact ⟨v1,v2,rfl⟩
  refine ⟨_,(zdd (zc6 (pv 0) (pv 1) rfl) (zdw (zc6 (pv 0) (pv 2) rfl))),?_⟩
  refine ⟨_,rfl,_,rfl,a,C,dx,_,rfl,ha,cl,n1,(by show 0<1000; decide),_,rfl,_,rfl,a,C,dx,_,rfl,zh,cl,n2,(by show 1<1000; decide),?_⟩
  have e:zdv "node" v2 (zdv "place" v1 ([]))=List.zip (["place","node"]:List Str) [v1,v2]:=by
   have q1:¬ ("place":Str)="node":=by decide +kernel
   simp only [zdv,if_neg q1]; rfl
  simp only [zdX]; exact e ▸ k
theorem zhi:FnScope ["self","place"] ["self","place"] (zd zbc):=⟨rfl,rfl,rfl,by decide +kernel,rfl,by decide +kernel,by decide +kernel⟩
theorem zfR {f C:Addr} {fd:FuncData} (F:Fun K "__init__" "LeaveOut.__init__" zbc f fd) (cl:Cls K C) (n1:zaX K C "place"):FnOk P w K mg base CX0 1 f fd ["self","place"] (zff C ["place"]):=by
 refine F.ok zhi (fun vs H Q E h=>?_) (fun cdv A outer s H vs Q E hr h=>?_)
 ·obtain ⟨a,dx,us,rfl,hl,_⟩:=h
  simpa using hl
 ·obtain ⟨a,dx,us,rfl,hl,ha,k⟩:=h
  obtain ⟨v1,rfl⟩:∃ v1,us=[v1]:=by
   match us,hl with
   | [v1],_=>exact ⟨v1,rfl⟩
  refine ⟨_,(zdw (zc6 (pv 0) (pv 1) rfl)),?_⟩
  refine ⟨_,rfl,_,rfl,a,C,dx,_,rfl,ha,cl,n1,(by show 0<1000; decide),?_⟩
  have e:zdv "place" v1 ([])=List.zip (["place"]:List Str) [v1]:=by
   rfl
  simp only [zdX]; exact e ▸ k
theorem znZ:FnScope ["self","place"] ["self","place"] (zd zbW):=⟨rfl,rfl,rfl,by decide +kernel,rfl,by decide +kernel,by decide +kernel⟩
theorem zkX {f C:Addr} {fd:FuncData} (F:Fun K "__init__" "Anew.__init__" zbW f fd) (cl:Cls K C) (n1:zaX K C "place"):FnOk P w K mg base CX0 1 f fd ["self","place"] (zff C ["place"]):=by
 refine F.ok znZ (fun vs H Q E h=>?_) (fun cdv A outer s H vs Q E hr h=>?_)
 ·obtain ⟨a,dx,us,rfl,hl,_⟩:=h
  simpa using hl
 ·obtain ⟨a,dx,us,rfl,hl,ha,k⟩:=h
  obtain ⟨v1,rfl⟩:∃ v1,us=[v1]:=by
   match us,hl with
   | [v1],_=>exact ⟨v1,rfl⟩
  refine ⟨_,(zdw (zc6 (pv 0) (pv 1) rfl)),?_⟩
  refine ⟨_,rfl,_,rfl,a,C,dx,_,rfl,ha,cl,n1,(by show 0<1000; decide),?_⟩
  have e:zdv "place" v1 ([])=List.zip (["place"]:List Str) [v1]:=by
   rfl
  simp only [zdX]; exact e ▸ k
end
theorem tab_mem {T:List (Addr × Str)} {b:Addr} {q:Str} (h:T.lookup b=some q):b ∈ T.map (·.1):=by
 induction T with
 | nil=>cases h
 | cons x r ih =>
  obtain ⟨a,s⟩:=x
  by_cases e:b=a
  ·subst e; simp
  ·have e':(b == a)=false:=beq_eq_false_iff_ne.mpr e
   rw [List.lookup_cons,e'] at h; exact List.mem_cons_of_mem _ (ih h)
theorem all_mk {l:PySem.W.OpenLaw} {w:World} {K:PySem.W.Frag} {h:Heap} {mg:Str→Option Value} {fa f19 f26 j_Book C_Book j_Swap C_Swap j_Read C_Read j_PutIn C_PutIn j_LeaveOut C_LeaveOut j_Anew C_Anew w_Book_act w_Book_back w_Book_acts w_Book_refuse_act:Addr} (X:K.In h) (G:h.Ns mainGlobals mg) (hfa:mg "law"=some (.ref fa))
  {od19 an19 od26 an26:Option Addr} {sl19 sl26:Array (Option Value)} {oc19 kV19 dc19 pm19 ct19 oc26 kV26 dc26 pm26 cd26 ct26:Value}
  {jd_Book jn_Book:Option Addr} {js_Book:Array (Option Value)} {jk_Book jo_Book jm_Book je_Book jt_Book:Value}
  {jd_Swap jn_Swap:Option Addr} {js_Swap:Array (Option Value)} {jk_Swap jo_Swap jm_Swap je_Swap jt_Swap:Value}
  {jd_Read jn_Read:Option Addr} {js_Read:Array (Option Value)} {jk_Read jo_Read jm_Read je_Read jt_Read:Value}
  {jd_PutIn jn_PutIn:Option Addr} {js_PutIn:Array (Option Value)} {jk_PutIn jo_PutIn jm_PutIn je_PutIn jt_PutIn:Value}
  {jd_LeaveOut jn_LeaveOut:Option Addr} {js_LeaveOut:Array (Option Value)} {jk_LeaveOut jo_LeaveOut jm_LeaveOut je_LeaveOut jt_LeaveOut:Value}
  {jd_Anew jn_Anew:Option Addr} {js_Anew:Array (Option Value)} {jk_Anew jo_Anew jm_Anew je_Anew jt_Anew:Value}
  {jd_Book_act jn_Book_act:Option Addr} {js_Book_act:Array (Option Value)} {jk_Book_act jo_Book_act jm_Book_act je_Book_act jt_Book_act:Value}
  {jd_Book_back jn_Book_back:Option Addr} {js_Book_back:Array (Option Value)} {jk_Book_back jo_Book_back jm_Book_back je_Book_back jt_Book_back:Value}
  {jd_Book_acts jn_Book_acts:Option Addr} {js_Book_acts:Array (Option Value)} {jk_Book_acts jo_Book_acts jm_Book_acts je_Book_acts jt_Book_acts:Value}
  {jd_Book_refuse_act jn_Book_refuse_act:Option Addr} {js_Book_refuse_act:Array (Option Value)} {jk_Book_refuse_act jo_Book_refuse_act jm_Book_refuse_act je_Book_refuse_act jt_Book_refuse_act:Value}
  {x1:Int} {t1:Tok} {x2:Str} {t2:Tok}
  {cc19 PT19:Addr}
  (D1:Dn K "finds" zhl)
  (D2:Dn K "change_counted" zb0)
  (D3:Dn K "has_only" zdb)
  (D4:Dn K "named_in" zda)
  (D5:Dn K "_law_cell_at" zcP)
  (D6:Dn K "_law_names" zcf)
  (D7:Dn K "_law_kind" zd2)
  (D8:Dn K "_law_told" zd1)
  (D9:Dn K "_law_emptied" zcO)
  (D10:Dn K "_law_wide" zd0)
  (D11:Dn K "living_acts" zcM)
  (D12:Dn K "take_deed" zds)
  (D13:Dn K "is_name" zeA)
  (D14:Dn K "_law_deed" zd3)
  (D15:Dn K "_law_plain" zcN)
  (D16:Dn K "living" zeo)
  (D17:Dn K "_law_acts" zcA)
  (D18:Dn K "_law_change" zc4)
  (a19:PySem.W.nsIn K mainGlobals "what_counts"=some (some (.ref f19)))
  (l19:K.lookup f19=some ⟨oc19,od19,.func (PySem.W.fnOf "what_counts" "what_counts" (zbj za7) (zaK za7) (zd za7) .none kV19 dc19 pm19 an19 (.ref cc19) ct19),sl19⟩)
  (c19:PySem.W.codeIn K (.ref cc19) "what_counts"=true)
  (k19:PySem.W.keepIn K (.ref f19)=true)
  (D20:Dn K "_law_handed" zc3)
  (D21:Dn K "_law_put" zdG)
  (D22:Dn K "_law_book" zd4)
  (D23:Dn K "_law_right" zdt)
  (D24:Dn K "_law_one_more" zba)
  (D25:Dn K "_law_asked_so" zcu)
  (a26:PySem.W.nsIn K mainGlobals "law"=some (some (.ref f26)))
  (l26:K.lookup f26=some ⟨oc26,od26,.func (PySem.W.fnOf "law" "law" (zbj ze6) (zaK ze6) (zd ze6) .none kV26 dc26 pm26 an26 cd26 ct26),sl26⟩)
  (c26:PySem.W.codeIn K cd26 "law"=true)
  (k26:PySem.W.keepIn K (.ref f26)=true)
  (z1:PySem.W.nsIn K mainGlobals "abs"=some none)
  (z2:PySem.W.nsIn K mainGlobals "all"=some none)
  (z3:PySem.W.nsIn K mainGlobals "enumerate"=some none)
  (z4:PySem.W.nsIn K mainGlobals "int"=some none)
  (z5:PySem.W.nsIn K mainGlobals "isinstance"=some none)
  (z6:PySem.W.nsIn K mainGlobals "len"=some none)
  (z7:PySem.W.nsIn K mainGlobals "list"=some none)
  (z8:PySem.W.nsIn K mainGlobals "max"=some none)
  (z9:PySem.W.nsIn K mainGlobals "range"=some none)
  (z10:PySem.W.nsIn K mainGlobals "reversed"=some none)
  (z11:PySem.W.nsIn K mainGlobals "sorted"=some none)
  (z12:PySem.W.nsIn K mainGlobals "str"=some none)
  (z13:PySem.W.nsIn K mainGlobals "tuple"=some none)
  (g1:PySem.W.nsIn K mainGlobals "LONGEST_NAME"=some (some (.int x1 t1)))
  (e1:x1=8)
  (g2:PySem.W.nsIn K mainGlobals "SMALL_LETTERS"=some (some (.str x2 t2)))
  (e2:x2=st zes)
  (aC_Book:PySem.W.nsIn K mainGlobals "Book"=some (some (.ref C_Book)))
  (hdC_Book:PySem.W.hasDictIn K C_Book=true)
  (aI_Book:PySem.W.findIn K (.ref C_Book) "__init__"=some (some (.ref j_Book)))
  (iI_Book:PySem.W.isFn K (.ref j_Book)=true)
  (lI_Book:K.lookup j_Book=some ⟨.type "function",jd_Book,.func (PySem.W.fnOf "__init__" "Book.__init__" (zbj zbU) (zaK zbU) (zd zbU) .none jk_Book jo_Book jm_Book jn_Book je_Book jt_Book),js_Book⟩)
  (cI_Book:PySem.W.codeIn K je_Book "Book.__init__"=true)
  (kI_Book:PySem.W.keepIn K (.ref j_Book)=true)
  (pg_Book:PySem.W.plainGet K C_Book Str.empty=true)
  (po_Book:PySem.W.plainOver K C_Book=true)
  (sa_Book:PySem.W.findIn K (.ref C_Book) "__setattr__"=some (some (.builtin "object.__setattr__")))
  (mk_Book:PySem.W.makesIn K C_Book=true)
  (kc_Book:PySem.W.keepIn K (.ref C_Book)=true)
  (n_Book_tree:PySem.W.findIn K (.ref C_Book) "tree"=some none)
  (n_Book_past:PySem.W.findIn K (.ref C_Book) "past"=some none)
  (aC_Swap:PySem.W.nsIn K mainGlobals "Swap"=some (some (.ref C_Swap)))
  (hdC_Swap:PySem.W.hasDictIn K C_Swap=true)
  (aI_Swap:PySem.W.findIn K (.ref C_Swap) "__init__"=some (some (.ref j_Swap)))
  (iI_Swap:PySem.W.isFn K (.ref j_Swap)=true)
  (lI_Swap:K.lookup j_Swap=some ⟨.type "function",jd_Swap,.func (PySem.W.fnOf "__init__" "Swap.__init__" (zbj zbS) (zaK zbS) (zd zbS) .none jk_Swap jo_Swap jm_Swap jn_Swap je_Swap jt_Swap),js_Swap⟩)
  (cI_Swap:PySem.W.codeIn K je_Swap "Swap.__init__"=true)
  (kI_Swap:PySem.W.keepIn K (.ref j_Swap)=true)
  (pg_Swap:PySem.W.plainGet K C_Swap Str.empty=true)
  (po_Swap:PySem.W.plainOver K C_Swap=true)
  (sa_Swap:PySem.W.findIn K (.ref C_Swap) "__setattr__"=some (some (.builtin "object.__setattr__")))
  (mk_Swap:PySem.W.makesIn K C_Swap=true)
  (kc_Swap:PySem.W.keepIn K (.ref C_Swap)=true)
  (n_Swap_place:PySem.W.findIn K (.ref C_Swap) "place"=some none)
  (n_Swap_old:PySem.W.findIn K (.ref C_Swap) "old"=some none)
  (n_Swap_new:PySem.W.findIn K (.ref C_Swap) "new"=some none)
  (aC_Read:PySem.W.nsIn K mainGlobals "Read"=some (some (.ref C_Read)))
  (hdC_Read:PySem.W.hasDictIn K C_Read=true)
  (aI_Read:PySem.W.findIn K (.ref C_Read) "__init__"=some (some (.ref j_Read)))
  (iI_Read:PySem.W.isFn K (.ref j_Read)=true)
  (lI_Read:K.lookup j_Read=some ⟨.type "function",jd_Read,.func (PySem.W.fnOf "__init__" "Read.__init__" (zbj zbT) (zaK zbT) (zd zbT) .none jk_Read jo_Read jm_Read jn_Read je_Read jt_Read),js_Read⟩)
  (cI_Read:PySem.W.codeIn K je_Read "Read.__init__"=true)
  (kI_Read:PySem.W.keepIn K (.ref j_Read)=true)
  (pg_Read:PySem.W.plainGet K C_Read Str.empty=true)
  (po_Read:PySem.W.plainOver K C_Read=true)
  (sa_Read:PySem.W.findIn K (.ref C_Read) "__setattr__"=some (some (.builtin "object.__setattr__")))
  (mk_Read:PySem.W.makesIn K C_Read=true)
  (kc_Read:PySem.W.keepIn K (.ref C_Read)=true)
  (n_Read_place:PySem.W.findIn K (.ref C_Read) "place"=some none)
  (n_Read_words:PySem.W.findIn K (.ref C_Read) "words"=some none)
  (aC_PutIn:PySem.W.nsIn K mainGlobals "PutIn"=some (some (.ref C_PutIn)))
  (hdC_PutIn:PySem.W.hasDictIn K C_PutIn=true)
  (aI_PutIn:PySem.W.findIn K (.ref C_PutIn) "__init__"=some (some (.ref j_PutIn)))
  (iI_PutIn:PySem.W.isFn K (.ref j_PutIn)=true)
  (lI_PutIn:K.lookup j_PutIn=some ⟨.type "function",jd_PutIn,.func (PySem.W.fnOf "__init__" "PutIn.__init__" (zbj zbO) (zaK zbO) (zd zbO) .none jk_PutIn jo_PutIn jm_PutIn jn_PutIn je_PutIn jt_PutIn),js_PutIn⟩)
  (cI_PutIn:PySem.W.codeIn K je_PutIn "PutIn.__init__"=true)
  (kI_PutIn:PySem.W.keepIn K (.ref j_PutIn)=true)
  (pg_PutIn:PySem.W.plainGet K C_PutIn Str.empty=true)
  (po_PutIn:PySem.W.plainOver K C_PutIn=true)
  (sa_PutIn:PySem.W.findIn K (.ref C_PutIn) "__setattr__"=some (some (.builtin "object.__setattr__")))
  (mk_PutIn:PySem.W.makesIn K C_PutIn=true)
  (kc_PutIn:PySem.W.keepIn K (.ref C_PutIn)=true)
  (n_PutIn_place:PySem.W.findIn K (.ref C_PutIn) "place"=some none)
  (n_PutIn_node:PySem.W.findIn K (.ref C_PutIn) "node"=some none)
  (aC_LeaveOut:PySem.W.nsIn K mainGlobals "LeaveOut"=some (some (.ref C_LeaveOut)))
  (hdC_LeaveOut:PySem.W.hasDictIn K C_LeaveOut=true)
  (aI_LeaveOut:PySem.W.findIn K (.ref C_LeaveOut) "__init__"=some (some (.ref j_LeaveOut)))
  (iI_LeaveOut:PySem.W.isFn K (.ref j_LeaveOut)=true)
  (lI_LeaveOut:K.lookup j_LeaveOut=some ⟨.type "function",jd_LeaveOut,.func (PySem.W.fnOf "__init__" "LeaveOut.__init__" (zbj zbc) (zaK zbc) (zd zbc) .none jk_LeaveOut jo_LeaveOut jm_LeaveOut jn_LeaveOut je_LeaveOut jt_LeaveOut),js_LeaveOut⟩)
  (cI_LeaveOut:PySem.W.codeIn K je_LeaveOut "LeaveOut.__init__"=true)
  (kI_LeaveOut:PySem.W.keepIn K (.ref j_LeaveOut)=true)
  (pg_LeaveOut:PySem.W.plainGet K C_LeaveOut Str.empty=true)
  (po_LeaveOut:PySem.W.plainOver K C_LeaveOut=true)
  (sa_LeaveOut:PySem.W.findIn K (.ref C_LeaveOut) "__setattr__"=some (some (.builtin "object.__setattr__")))
  (mk_LeaveOut:PySem.W.makesIn K C_LeaveOut=true)
  (kc_LeaveOut:PySem.W.keepIn K (.ref C_LeaveOut)=true)
  (n_LeaveOut_place:PySem.W.findIn K (.ref C_LeaveOut) "place"=some none)
  (aC_Anew:PySem.W.nsIn K mainGlobals "Anew"=some (some (.ref C_Anew)))
  (hdC_Anew:PySem.W.hasDictIn K C_Anew=true)
  (aI_Anew:PySem.W.findIn K (.ref C_Anew) "__init__"=some (some (.ref j_Anew)))
  (iI_Anew:PySem.W.isFn K (.ref j_Anew)=true)
  (lI_Anew:K.lookup j_Anew=some ⟨.type "function",jd_Anew,.func (PySem.W.fnOf "__init__" "Anew.__init__" (zbj zbW) (zaK zbW) (zd zbW) .none jk_Anew jo_Anew jm_Anew jn_Anew je_Anew jt_Anew),js_Anew⟩)
  (cI_Anew:PySem.W.codeIn K je_Anew "Anew.__init__"=true)
  (kI_Anew:PySem.W.keepIn K (.ref j_Anew)=true)
  (pg_Anew:PySem.W.plainGet K C_Anew Str.empty=true)
  (po_Anew:PySem.W.plainOver K C_Anew=true)
  (sa_Anew:PySem.W.findIn K (.ref C_Anew) "__setattr__"=some (some (.builtin "object.__setattr__")))
  (mk_Anew:PySem.W.makesIn K C_Anew=true)
  (kc_Anew:PySem.W.keepIn K (.ref C_Anew)=true)
  (n_Anew_place:PySem.W.findIn K (.ref C_Anew) "place"=some none)
  (aM_Book_act:PySem.W.findIn K (.ref C_Book) "act"=some (some (.ref w_Book_act)))
  (iM_Book_act:PySem.W.isFn K (.ref w_Book_act)=true)
  (lI_Book_act:K.lookup w_Book_act=some ⟨.type "function",jd_Book_act,.func (PySem.W.fnOf "act" "Book.act" (zbj zb9) (zaK zb9) (zd zb9) .none jk_Book_act jo_Book_act jm_Book_act jn_Book_act je_Book_act jt_Book_act),js_Book_act⟩)
  (cI_Book_act:PySem.W.codeIn K je_Book_act "Book.act"=true)
  (kI_Book_act:PySem.W.keepIn K (.ref w_Book_act)=true)
  (aM_Book_back:PySem.W.findIn K (.ref C_Book) "back"=some (some (.ref w_Book_back)))
  (iM_Book_back:PySem.W.isFn K (.ref w_Book_back)=true)
  (lI_Book_back:K.lookup w_Book_back=some ⟨.type "function",jd_Book_back,.func (PySem.W.fnOf "back" "Book.back" (zbj zbV) (zaK zbV) (zd zbV) .none jk_Book_back jo_Book_back jm_Book_back jn_Book_back je_Book_back jt_Book_back),js_Book_back⟩)
  (cI_Book_back:PySem.W.codeIn K je_Book_back "Book.back"=true)
  (kI_Book_back:PySem.W.keepIn K (.ref w_Book_back)=true)
  (aM_Book_acts:PySem.W.findIn K (.ref C_Book) "acts"=some (some (.ref w_Book_acts)))
  (iM_Book_acts:PySem.W.isFn K (.ref w_Book_acts)=true)
  (lI_Book_acts:K.lookup w_Book_acts=some ⟨.type "function",jd_Book_acts,.func (PySem.W.fnOf "acts" "Book.acts" (zbj zbL) (zaK zbL) (zd zbL) .none jk_Book_acts jo_Book_acts jm_Book_acts jn_Book_acts je_Book_acts jt_Book_acts),js_Book_acts⟩)
  (cI_Book_acts:PySem.W.codeIn K je_Book_acts "Book.acts"=true)
  (kI_Book_acts:PySem.W.keepIn K (.ref w_Book_acts)=true)
  (aM_Book_refuse_act:PySem.W.findIn K (.ref C_Book) "refuse_act"=some (some (.ref w_Book_refuse_act)))
  (iM_Book_refuse_act:PySem.W.isFn K (.ref w_Book_refuse_act)=true)
  (lI_Book_refuse_act:K.lookup w_Book_refuse_act=some ⟨.type "function",jd_Book_refuse_act,.func (PySem.W.fnOf "refuse_act" "Book.refuse_act" (zbj zaO) (zaK zaO) (zd zaO) .none jk_Book_refuse_act jo_Book_refuse_act jm_Book_refuse_act jn_Book_refuse_act je_Book_refuse_act jt_Book_refuse_act),js_Book_refuse_act⟩)
  (cI_Book_refuse_act:PySem.W.codeIn K je_Book_refuse_act "Book.refuse_act"=true)
  (kI_Book_refuse_act:PySem.W.keepIn K (.ref w_Book_refuse_act)=true)
  (hn:PySem.W.specialIn K (.builtin "object.__class__") "__get__"=some (some (.builtin "getset_descriptor.__get__")))
  (htk:PySem.W.takesIn K (.builtin "object.__class__")=some true)
  (ty_Swap:PySem.W.typeIn K (.ref C_Swap)=some (.type "type"))
  (ha_Swap:PySem.W.findIn K (.ref C_Swap) "__class__"=some (some (.builtin "object.__class__")))
  (hm_Swap:PySem.W.mroIn K C_Swap (.type "object")=some true)
  (ty_Read:PySem.W.typeIn K (.ref C_Read)=some (.type "type"))
  (ha_Read:PySem.W.findIn K (.ref C_Read) "__class__"=some (some (.builtin "object.__class__")))
  (hm_Read:PySem.W.mroIn K C_Read (.type "object")=some true)
  (ty_PutIn:PySem.W.typeIn K (.ref C_PutIn)=some (.type "type"))
  (ha_PutIn:PySem.W.findIn K (.ref C_PutIn) "__class__"=some (some (.builtin "object.__class__")))
  (hm_PutIn:PySem.W.mroIn K C_PutIn (.type "object")=some true)
  (ty_LeaveOut:PySem.W.typeIn K (.ref C_LeaveOut)=some (.type "type"))
  (ha_LeaveOut:PySem.W.findIn K (.ref C_LeaveOut) "__class__"=some (some (.builtin "object.__class__")))
  (hm_LeaveOut:PySem.W.mroIn K C_LeaveOut (.type "object")=some true)
  (ty_Anew:PySem.W.typeIn K (.ref C_Anew)=some (.type "type"))
  (ha_Anew:PySem.W.findIn K (.ref C_Anew) "__class__"=some (some (.builtin "object.__class__")))
  (hm_Anew:PySem.W.mroIn K C_Anew (.type "object")=some true)
  (q_Swap_Read:PySem.W.mroIn K C_Swap (.ref C_Read)=some false)
  (r_Swap_Read:(Value.ref C_Swap == Value.ref C_Read)=false)
  (q_PutIn_Read:PySem.W.mroIn K C_PutIn (.ref C_Read)=some false)
  (r_PutIn_Read:(Value.ref C_PutIn == Value.ref C_Read)=false)
  (q_LeaveOut_Read:PySem.W.mroIn K C_LeaveOut (.ref C_Read)=some false)
  (r_LeaveOut_Read:(Value.ref C_LeaveOut == Value.ref C_Read)=false)
  (q_Anew_Read:PySem.W.mroIn K C_Anew (.ref C_Read)=some false)
  (r_Anew_Read:(Value.ref C_Anew == Value.ref C_Read)=false)
  (q_PutIn_Swap:PySem.W.mroIn K C_PutIn (.ref C_Swap)=some false)
  (r_PutIn_Swap:(Value.ref C_PutIn == Value.ref C_Swap)=false)
  (q_LeaveOut_Swap:PySem.W.mroIn K C_LeaveOut (.ref C_Swap)=some false)
  (r_LeaveOut_Swap:(Value.ref C_LeaveOut == Value.ref C_Swap)=false)
  (q_Anew_Swap:PySem.W.mroIn K C_Anew (.ref C_Swap)=some false)
  (r_Anew_Swap:(Value.ref C_Anew == Value.ref C_Swap)=false)
  (q_LeaveOut_PutIn:PySem.W.mroIn K C_LeaveOut (.ref C_PutIn)=some false)
  (r_LeaveOut_PutIn:(Value.ref C_LeaveOut == Value.ref C_PutIn)=false)
  (q_Anew_PutIn:PySem.W.mroIn K C_Anew (.ref C_PutIn)=some false)
  (r_Anew_PutIn:(Value.ref C_Anew == Value.ref C_PutIn)=false)
  (q_Anew_LeaveOut:PySem.W.mroIn K C_Anew (.ref C_LeaveOut)=some false)
  (r_Anew_LeaveOut:(Value.ref C_Anew == Value.ref C_LeaveOut)=false)
  (hL19:PySem.W.codeHdIn K cc19 PT19=true)
  (nL19:K.lookup PT19=none)
  (tL19:([(PT19,"what_counts.<locals>.<lambda>")]:List (Addr × Str)).lookup PT19=some "what_counts.<locals>.<lambda>")
  :
  (∀ b q,([(PT19,"what_counts.<locals>.<lambda>")]:List (Addr × Str)).lookup b=some q→(∃ c,PySem.W.codeHdIn K c b=true)∧K.lookup b=none) ∧
  ∃ fd:FuncData,(∀ (s:Shared) (v:Value),BindsTo s fd ⟨[v],[]⟩ [("_law_script",v)])∧∀ base:Heap,K.In base→base.Ns mainGlobals mg→(∀ b q,([(PT19,"what_counts.<locals>.<lambda>")]:List (Addr × Str)).lookup b=some q→base.objs[b]?=some (zey q))→FnOk l.prog w K mg base CX0 9 fa fd ["_law_script"] (zh7 K ziP):=by
 subst e1; subst e2
 have d1:=D1.df X G ["counted","deed","made"] fun _ _ _ _ _ _ us hl=>match us,hl with | [_,_,_],_=>rfl
 have d2:=D2.df X G ["counted","deed"] fun _ _ _ _ _ _ us hl=>match us,hl with | [_,_],_=>rfl
 have d3:=D3.df X G ["text","signs"] fun _ _ _ _ _ _ us hl=>match us,hl with | [_,_],_=>rfl
 have d4:=D4.df X G ["deeds"] fun _ _ _ _ _ _ us hl=>match us,hl with | [_],_=>rfl
 have d5:=D5.df X G ["_law_script","_law_k"] fun _ _ _ _ _ _ us hl=>match us,hl with | [_,_],_=>rfl
 have d6:=D6.df X G ["_law_cell"] fun _ _ _ _ _ _ us hl=>match us,hl with | [_],_=>rfl
 have d7:=D7.df X G ["_law_cell"] fun _ _ _ _ _ _ us hl=>match us,hl with | [_],_=>rfl
 have d8:=D8.df X G ["_law_found"] fun _ _ _ _ _ _ us hl=>match us,hl with | [_],_=>rfl
 have d9:=D9.df X G ["_law_acts_here","_law_names_here"] fun _ _ _ _ _ _ us hl=>match us,hl with | [_,_],_=>rfl
 have d10:=D10.df X G ["_law_script"] fun _ _ _ _ _ _ us hl=>match us,hl with | [_],_=>rfl
 have d11:=D11.df X G ["book","seen"] fun _ _ _ _ _ _ us hl=>match us,hl with | [_,_],_=>rfl
 have d12:=D12.df X G ["counted","name","made","number","deed"] fun _ _ _ _ _ _ us hl=>match us,hl with | [_,_,_,_,_],_=>rfl
 have d13:=D13.df X G ["thing"] fun _ _ _ _ _ _ us hl=>match us,hl with | [_],_=>rfl
 have d14:=D14.df X G ["_law_cell","_law_k","_law_day","_law_names_here"] fun _ _ _ _ _ _ us hl=>match us,hl with | [_,_,_,_],_=>rfl
 have d15:=D15.df X G ["_law_rows"] fun _ _ _ _ _ _ us hl=>match us,hl with | [_],_=>rfl
 have d16:=D16.df X G ["book","seen"] fun _ _ _ _ _ _ us hl=>match us,hl with | [_,_],_=>rfl
 have d17:=D17.df X G ["_law_script","_law_names_here"] fun _ _ _ _ _ _ us hl=>match us,hl with | [_,_],_=>rfl
 have d18:=D18.df X G ["_law_kind_here"] fun _ _ _ _ _ _ us hl=>match us,hl with | [_],_=>rfl
 have F19:=zcC (st:=za7) l19 c19 k19; have m19:=PySem.W.mg_of X G a19
 have b19:=F19.binds (ps:=["book","seen"]) fun _ _ _ _ _ _ us hl=>match us,hl with | [_,_],_=>rfl
 have d19:Df K mg "what_counts" za7 ["book","seen"]:=⟨f19,_,F19,b19,m19⟩
 have d20:=D20.df X G ["_law_deed_here"] fun _ _ _ _ _ _ us hl=>match us,hl with | [_],_=>rfl
 have d21:=D21.df X G ["_law_book_here","_law_act"] fun _ _ _ _ _ _ us hl=>match us,hl with | [_,_],_=>rfl
 have d22:=D22.df X G ["_law_acts_here"] fun _ _ _ _ _ _ us hl=>match us,hl with | [_],_=>rfl
 have d23:=D23.df X G ["_law_book_here","_law_acts_here","_law_seen"] fun _ _ _ _ _ _ us hl=>match us,hl with | [_,_,_],_=>rfl
 have d24:=D24.df X G ["_law_book_here","_law_acts_here","_law_cell"] fun _ _ _ _ _ _ us hl=>match us,hl with | [_,_,_],_=>rfl
 have d25:=D25.df X G ["_law_script"] fun _ _ _ _ _ _ us hl=>match us,hl with | [_],_=>rfl
 have F26:=zcC (st:=ze6) l26 c26 k26; have m26:=PySem.W.mg_of X G a26
 have b26:=F26.binds (ps:=["_law_script"]) fun _ _ _ _ _ _ us hl=>match us,hl with | [_],_=>rfl
 have d26:Df K mg "law" ze6 ["_law_script"]:=⟨f26,_,F26,b26,m26⟩
 have z_abs:=PySem.W.mg_none_of X G z1; have z_all:=PySem.W.mg_none_of X G z2; have z_enumerate:=PySem.W.mg_none_of X G z3; have z_int:=PySem.W.mg_none_of X G z4; have z_isinstance:=PySem.W.mg_none_of X G z5; have z_len:=PySem.W.mg_none_of X G z6; have z_list:=PySem.W.mg_none_of X G z7; have z_max:=PySem.W.mg_none_of X G z8; have z_range:=PySem.W.mg_none_of X G z9; have z_reversed:=PySem.W.mg_none_of X G z10; have z_sorted:=PySem.W.mg_none_of X G z11; have z_str:=PySem.W.mg_none_of X G z12; have z_tuple:=PySem.W.mg_none_of X G z13; have g_LONGEST_NAME:=PySem.W.mg_of X G g1; have g_SMALL_LETTERS:=PySem.W.mg_of X G g2; have m_Book:=PySem.W.mg_of X G aC_Book
 have cl_Book:Cls K C_Book:=⟨pg_Book,hdC_Book,po_Book,sa_Book⟩
 have FI_Book:=zcC (st:=zbU) lI_Book cI_Book kI_Book
 have bI_Book:=FI_Book.binds (ps:=["self","tree"]) fun _ _ _ _ _ _ us hl=>match us,hl with | [_,_],_=>rfl
 have m_Swap:=PySem.W.mg_of X G aC_Swap
 have cl_Swap:Cls K C_Swap:=⟨pg_Swap,hdC_Swap,po_Swap,sa_Swap⟩
 have FI_Swap:=zcC (st:=zbS) lI_Swap cI_Swap kI_Swap
 have bI_Swap:=FI_Swap.binds (ps:=["self","place","old","new"]) fun _ _ _ _ _ _ us hl=>match us,hl with | [_,_,_,_],_=>rfl
 have m_Read:=PySem.W.mg_of X G aC_Read
 have cl_Read:Cls K C_Read:=⟨pg_Read,hdC_Read,po_Read,sa_Read⟩
 have FI_Read:=zcC (st:=zbT) lI_Read cI_Read kI_Read
 have bI_Read:=FI_Read.binds (ps:=["self","place","words"]) fun _ _ _ _ _ _ us hl=>match us,hl with | [_,_,_],_=>rfl
 have m_PutIn:=PySem.W.mg_of X G aC_PutIn
 have cl_PutIn:Cls K C_PutIn:=⟨pg_PutIn,hdC_PutIn,po_PutIn,sa_PutIn⟩
 have FI_PutIn:=zcC (st:=zbO) lI_PutIn cI_PutIn kI_PutIn
 have bI_PutIn:=FI_PutIn.binds (ps:=["self","place","node"]) fun _ _ _ _ _ _ us hl=>match us,hl with | [_,_,_],_=>rfl
 have m_LeaveOut:=PySem.W.mg_of X G aC_LeaveOut
 have cl_LeaveOut:Cls K C_LeaveOut:=⟨pg_LeaveOut,hdC_LeaveOut,po_LeaveOut,sa_LeaveOut⟩
 have FI_LeaveOut:=zcC (st:=zbc) lI_LeaveOut cI_LeaveOut kI_LeaveOut
 have bI_LeaveOut:=FI_LeaveOut.binds (ps:=["self","place"]) fun _ _ _ _ _ _ us hl=>match us,hl with | [_,_],_=>rfl
 have m_Anew:=PySem.W.mg_of X G aC_Anew
 have cl_Anew:Cls K C_Anew:=⟨pg_Anew,hdC_Anew,po_Anew,sa_Anew⟩
 have FI_Anew:=zcC (st:=zbW) lI_Anew cI_Anew kI_Anew
 have bI_Anew:=FI_Anew.binds (ps:=["self","place"]) fun _ _ _ _ _ _ us hl=>match us,hl with | [_,_],_=>rfl
 have FI_Book_act:=zcC (st:=zb9) lI_Book_act cI_Book_act kI_Book_act
 have bI_Book_act:=FI_Book_act.binds (ps:=["self","name","day","deeds"]) fun _ _ _ _ _ _ us hl=>match us,hl with | [_,_,_,_],_=>rfl
 have FI_Book_back:=zcC (st:=zbV) lI_Book_back cI_Book_back kI_Book_back
 have bI_Book_back:=FI_Book_back.binds (ps:=["self","name","day","other"]) fun _ _ _ _ _ _ us hl=>match us,hl with | [_,_,_,_],_=>rfl
 have FI_Book_acts:=zcC (st:=zbL) lI_Book_acts cI_Book_acts kI_Book_acts
 have bI_Book_acts:=FI_Book_acts.binds (ps:=["self"]) fun _ _ _ _ _ _ us hl=>match us,hl with | [_],_=>rfl
 have FI_Book_refuse_act:=zcC (st:=zaO) lI_Book_refuse_act cI_Book_refuse_act kI_Book_refuse_act
 have bI_Book_refuse_act:=FI_Book_refuse_act.binds (ps:=["self","name","day","named"]) fun _ _ _ _ _ _ us hl=>match us,hl with | [_,_,_,_],_=>rfl
 have cf:CF K ⟨C_Book,C_Swap,C_Read,C_PutIn,C_LeaveOut,C_Anew⟩:=⟨cl_Book,n_Book_tree,n_Book_past,⟨cl_Read,ha_Read,hn,htk,hm_Read⟩,⟨cl_Swap,ha_Swap,hn,htk,hm_Swap⟩,⟨cl_PutIn,ha_PutIn,hn,htk,hm_PutIn⟩,⟨cl_LeaveOut,ha_LeaveOut,hn,htk,hm_LeaveOut⟩,⟨cl_Anew,ha_Anew,hn,htk,hm_Anew⟩,n_Read_place,n_Read_words,n_Swap_place,n_Swap_old,n_Swap_new,n_PutIn_place,n_PutIn_node,n_LeaveOut_place,n_Anew_place,zeu,zcw hdC_Read ty_Read q_Swap_Read (.inr r_Swap_Read),zcw hdC_Read ty_Read q_PutIn_Read (.inr r_PutIn_Read),zcw hdC_Read ty_Read q_LeaveOut_Read (.inr r_LeaveOut_Read),zcw hdC_Read ty_Read q_Anew_Read (.inr r_Anew_Read),zeu,zcw hdC_Swap ty_Swap q_PutIn_Swap (.inr r_PutIn_Swap),zcw hdC_Swap ty_Swap q_LeaveOut_Swap (.inr r_LeaveOut_Swap),zcw hdC_Swap ty_Swap q_Anew_Swap (.inr r_Anew_Swap),zeu,zcw hdC_PutIn ty_PutIn q_LeaveOut_PutIn (.inr r_LeaveOut_PutIn),zcw hdC_PutIn ty_PutIn q_Anew_PutIn (.inr r_Anew_PutIn),zeu,zcw hdC_LeaveOut ty_LeaveOut q_Anew_LeaveOut (.inr r_Anew_LeaveOut)⟩
 have e:=hfa.symm.trans m26; cases e
 refine ⟨fun b q e=>?_,?_⟩
 ·have:=tab_mem e
  simp only [List.map_cons,List.map_nil,List.mem_cons,List.not_mem_nil,or_false] at this
  rcases this with rfl
  ·exact ⟨⟨_,hL19⟩,nL19⟩
 refine ⟨PySem.W.fnOf "law" "law" (zbj ze6) (zaK ze6) (zd ze6) .none kV26 dc26 pm26 an26 cd26 ct26,fun s v=>.of_eq rfl,fun base _ _ hmk=>?_⟩
 have lo_what_counts:LamOf K mg base "what_counts" "what_counts.<locals>.<lambda>":=⟨⟨cc19,PT19,fun f fd oc od sl m lk=>by
  rw [m19] at m; cases m; rw [l19] at lk; cases lk
  rfl,hL19,hmk _ _ tL19⟩,by decide +kernel⟩
 have M_Book:MakB l.prog w K mg base 1 "Book" C_Book "tree" "past":=⟨j_Book,_,["self","tree"],⟨mk_Book,aI_Book,iI_Book,kc_Book⟩,zkW FI_Book cl_Book n_Book_tree n_Book_past,bI_Book,m_Book⟩
 have M_Swap:Mak l.prog w K mg base 1 "Swap" C_Swap ["place","old","new"]:=⟨j_Swap,_,["self","place","old","new"],⟨mk_Swap,aI_Swap,iI_Swap,kc_Swap⟩,zkU FI_Swap cl_Swap n_Swap_place n_Swap_old n_Swap_new,bI_Swap,m_Swap⟩
 have M_Read:Mak l.prog w K mg base 1 "Read" C_Read ["place","words"]:=⟨j_Read,_,["self","place","words"],⟨mk_Read,aI_Read,iI_Read,kc_Read⟩,zkV FI_Read cl_Read n_Read_place n_Read_words,bI_Read,m_Read⟩
 have M_PutIn:Mak l.prog w K mg base 1 "PutIn" C_PutIn ["place","node"]:=⟨j_PutIn,_,["self","place","node"],⟨mk_PutIn,aI_PutIn,iI_PutIn,kc_PutIn⟩,zjk FI_PutIn cl_PutIn n_PutIn_place n_PutIn_node,bI_PutIn,m_PutIn⟩
 have M_LeaveOut:Mak l.prog w K mg base 1 "LeaveOut" C_LeaveOut ["place"]:=⟨j_LeaveOut,_,["self","place"],⟨mk_LeaveOut,aI_LeaveOut,iI_LeaveOut,kc_LeaveOut⟩,zfR FI_LeaveOut cl_LeaveOut n_LeaveOut_place,bI_LeaveOut,m_LeaveOut⟩
 have M_Anew:Mak l.prog w K mg base 1 "Anew" C_Anew ["place"]:=⟨j_Anew,_,["self","place"],⟨mk_Anew,aI_Anew,iI_Anew,kc_Anew⟩,zkX FI_Anew cl_Anew n_Anew_place,bI_Anew,m_Anew⟩
 have G_finds:Fn l.prog w K mg base 1 "finds" ["counted","deed","made"] zen:=zmj d1 
 have G_change_counted:FnM l.prog w K mg base 1 "change_counted" ["counted","deed"] 0 zbb:=zd7 d2 
 have G_has_only:Fn l.prog w K mg base 1 "has_only" ["text","signs"] zcK:=zhE d3 z_all
 have G_named_in:Fn l.prog w K mg base 1 "named_in" ["deeds"] zdn:=zhx d4 
 have G_law_cell_at:Fn l.prog w K mg base 1 "_law_cell_at" ["_law_script","_law_k"] zbm:=zfb d5 z_len
 have G_law_names:Fn l.prog w K mg base 1 "_law_names" ["_law_cell"] zc0:=zgu d6 z_int z_range
 have G_law_kind:Fn l.prog w K mg base 1 "_law_kind" ["_law_cell"] zcH:=zhA d7 z_str
 have G_law_told:Fn l.prog w K mg base 1 "_law_told" ["_law_found"] (zcG ⟨C_Book,C_Swap,C_Read,C_PutIn,C_LeaveOut,C_Anew⟩):=zhz (T:=⟨C_Book,C_Swap,C_Read,C_PutIn,C_LeaveOut,C_Anew⟩) d8 cf z_isinstance m_LeaveOut m_PutIn m_Read m_Swap
 have G_law_emptied:Fn l.prog w K mg base 1 "_law_emptied" ["_law_acts_here","_law_names_here"] zcs:=zfa d9 
 have G_law_wide:Fn l.prog w K mg base 1 "_law_wide" ["_law_script"] zdo:=zhy d10 z_abs z_len
 have M_Book_acts:Mth l.prog w K mg base 1 C_Book "acts" ["self"] (zc2 ⟨C_Book,C_Swap,C_Read,C_PutIn,C_LeaveOut,C_Anew⟩):=zgw (T:=⟨C_Book,C_Swap,C_Read,C_PutIn,C_LeaveOut,C_Anew⟩) FI_Book_acts bI_Book_acts ⟨aM_Book_acts,iM_Book_acts,kI_Book_acts⟩ cl_Book cf z_list
 have G_living_acts:Fn l.prog w K mg base 2 "living_acts" ["book","seen"] (zbY ⟨C_Book,C_Swap,C_Read,C_PutIn,C_LeaveOut,C_Anew⟩):=ze9 (T:=⟨C_Book,C_Swap,C_Read,C_PutIn,C_LeaveOut,C_Anew⟩) d11 cf z_reversed M_Book_acts
 have G_take_deed:FnM l.prog w K mg base 2 "take_deed" ["counted","name","made","number","deed"] 0 zcn:=zgr d12 G_finds G_change_counted
 have G_is_name:Fn l.prog w K mg base 2 "is_name" ["thing"] zdZ:=zja d13 G_has_only z_isinstance z_len z_str g_LONGEST_NAME g_SMALL_LETTERS
 have G_law_deed:Fn l.prog w K mg base 2 "_law_deed" ["_law_cell","_law_k","_law_day","_law_names_here"] zcI:=zhB d14 G_law_kind
 have G_law_plain:Fn l.prog w K mg base 2 "_law_plain" ["_law_rows"] (zbC ⟨C_Book,C_Swap,C_Read,C_PutIn,C_LeaveOut,C_Anew⟩):=zgt (T:=⟨C_Book,C_Swap,C_Read,C_PutIn,C_LeaveOut,C_Anew⟩) d15 cf G_law_told
 have G_living:Fn l.prog w K mg base 3 "living" ["book","seen"] (zcb ⟨C_Book,C_Swap,C_Read,C_PutIn,C_LeaveOut,C_Anew⟩):=zku (T:=⟨C_Book,C_Swap,C_Read,C_PutIn,C_LeaveOut,C_Anew⟩) d16 cf G_living_acts
 have G_law_acts:Fn l.prog w K mg base 3 "_law_acts" ["_law_script","_law_names_here"] zdp:=zhD d17 G_law_cell_at G_law_deed z_len z_range
 have G_law_change:Fn l.prog w K mg base 3 "_law_change" ["_law_kind_here"] (zcJ ⟨C_Book,C_Swap,C_Read,C_PutIn,C_LeaveOut,C_Anew⟩):=zfM (T:=⟨C_Book,C_Swap,C_Read,C_PutIn,C_LeaveOut,C_Anew⟩) d18 cf M_Anew M_LeaveOut M_PutIn M_Read M_Swap
 have M_Book_refuse_act:Mth l.prog w K mg base 3 C_Book "refuse_act" ["self","name","day","named"] (zbr ⟨C_Book,C_Swap,C_Read,C_PutIn,C_LeaveOut,C_Anew⟩):=zdO (T:=⟨C_Book,C_Swap,C_Read,C_PutIn,C_LeaveOut,C_Anew⟩) FI_Book_refuse_act bI_Book_refuse_act ⟨aM_Book_refuse_act,iM_Book_refuse_act,kI_Book_refuse_act⟩ cl_Book cf G_is_name z_len
 have G_what_counts:Fn l.prog w K mg base 4 "what_counts" ["book","seen"] (za8 ⟨C_Book,C_Swap,C_Read,C_PutIn,C_LeaveOut,C_Anew⟩):=ze8 (T:=⟨C_Book,C_Swap,C_Read,C_PutIn,C_LeaveOut,C_Anew⟩) d19 cf G_living_acts G_take_deed z_enumerate z_sorted lo_what_counts
 have G_law_handed:Fn l.prog w K mg base 4 "_law_handed" ["_law_deed_here"] (zb4 ⟨C_Book,C_Swap,C_Read,C_PutIn,C_LeaveOut,C_Anew⟩):=zfL (T:=⟨C_Book,C_Swap,C_Read,C_PutIn,C_LeaveOut,C_Anew⟩) d20 cf G_law_change
 have M_Book_act:MthB l.prog w K mg base 4 C_Book "act" ["self","name","day","deeds"] (zdq ⟨C_Book,C_Swap,C_Read,C_PutIn,C_LeaveOut,C_Anew⟩):=zhF (T:=⟨C_Book,C_Swap,C_Read,C_PutIn,C_LeaveOut,C_Anew⟩) FI_Book_act bI_Book_act ⟨aM_Book_act,iM_Book_act,kI_Book_act⟩ cl_Book cf G_named_in z_tuple M_Book_refuse_act
 have M_Book_back:MthB l.prog w K mg base 4 C_Book "back" ["self","name","day","other"] (zc1 ⟨C_Book,C_Swap,C_Read,C_PutIn,C_LeaveOut,C_Anew⟩):=zgv (T:=⟨C_Book,C_Swap,C_Read,C_PutIn,C_LeaveOut,C_Anew⟩) FI_Book_back bI_Book_back ⟨aM_Book_back,iM_Book_back,kI_Book_back⟩ cl_Book cf M_Book_refuse_act
 have G_law_put:FnB l.prog w K mg base 5 "_law_put" ["_law_book_here","_law_act"] (zcz ⟨C_Book,C_Swap,C_Read,C_PutIn,C_LeaveOut,C_Anew⟩):=zi9 (T:=⟨C_Book,C_Swap,C_Read,C_PutIn,C_LeaveOut,C_Anew⟩) d21 cf G_law_handed M_Book_act M_Book_back
 have G_law_book:Fn l.prog w K mg base 6 "_law_book" ["_law_acts_here"] (zcd ⟨C_Book,C_Swap,C_Read,C_PutIn,C_LeaveOut,C_Anew⟩):=zhC (T:=⟨C_Book,C_Swap,C_Read,C_PutIn,C_LeaveOut,C_Anew⟩) d22 cf G_law_put M_Book
 have G_law_right:Fn l.prog w K mg base 7 "_law_right" ["_law_book_here","_law_acts_here","_law_seen"] (zbZ ⟨C_Book,C_Swap,C_Read,C_PutIn,C_LeaveOut,C_Anew⟩):=zgs (T:=⟨C_Book,C_Swap,C_Read,C_PutIn,C_LeaveOut,C_Anew⟩) d23 cf G_living G_what_counts G_law_book G_law_plain G_law_emptied
 have G_law_one_more:FnB l.prog w K mg base 7 "_law_one_more" ["_law_book_here","_law_acts_here","_law_cell"] (zcc ⟨C_Book,C_Swap,C_Read,C_PutIn,C_LeaveOut,C_Anew⟩):=zeK (T:=⟨C_Book,C_Swap,C_Read,C_PutIn,C_LeaveOut,C_Anew⟩) d24 cf G_living G_what_counts G_law_put G_law_book G_law_plain z_len z_max
 have G_law_asked_so:Fn l.prog w K mg base 8 "_law_asked_so" ["_law_script"] (zce ⟨C_Book,C_Swap,C_Read,C_PutIn,C_LeaveOut,C_Anew⟩):=zeL (T:=⟨C_Book,C_Swap,C_Read,C_PutIn,C_LeaveOut,C_Anew⟩) d25 cf G_law_cell_at G_law_names G_law_acts G_law_book G_law_right G_law_one_more
 have G_law:Fn l.prog w K mg base 9 "law" ["_law_script"] znc:=zqH (T:=⟨C_Book,C_Swap,C_Read,C_PutIn,C_LeaveOut,C_Anew⟩) d26 G_law_asked_so G_law_wide
 exact zqT m26 l26 base G_law
end K34
namespace PySem.W.Fast
def tw15292349334706679130:=0
def tw18066732121608998382:=0
def tw10905344723658052771:=0
def tw9409131347927298036:=0
def tw18236272109343167015:=0
def tw4848376037848892448:=0
def tw320666125159548268:=0
def tw11143830915957312254:=0
def tw11335400557864121866:=0
def tw7891280699785979719:=0
def tw4352884619767548929:=0
def tw2869214159368508887:=0
def tw14428081773313159938:=0
def tw1282733880784395403:=0
def tw12810403402723311911:=0
def tw16805222545632921270:=0
def tw12075189535763579131:=0
def tw136656810042047043:=0
def tw17351905120886474746:=0
def tw18251623266735351331:=0
def tw16995792333781854452:=0
def tw4851565278995375576:=0
def tw11121490136795934729:=0
def tw15205032788645850752:=0
def tw2330007597013292402:=0
def tw4833278980059092976:=0
def tw5854618769941417087:=0
def tw3342845842477444353:=0
def tw17255567440946033265:=0
def tw16143437729415911684:=0
def tw901040260872792458:=0
def tw9424436232683845979:=0
def tw13438405479725404594:=0
def tw2246295534852519197:=0
def tw13879297966131203023:=0
def tw16114089242026133108:=0
def tw3526818016609263956:=0
def tw4771499419459735972:=0
def tw8495217151115568333:=0
def tw7421882639089847783:=0
def tw1017709961316334415:=0
def tw9422226229336331845:=0
def tw7841472889080404906:=0
def tw15742773517109973397:=0
def tw14496511962798484692:=0
def tw13573679728134084269:=0
def tw8830998821548882272:=0
def tw9614154920852144154:=0
def tw15600872780383431984:=0
def tw7023499994958684812:=0
def tw3669534941157701017:=0
def tw3404580520932592550:=0
def tw17835660073834229667:=0
def tw14169830038446926383:=0
def tw6977896672486346809:=0
def tw10635230759168218930:=0
def tw10010845038694534193:=0
def tw16086811408013254986:=0
def tw14935286306113790221:=0
def tw4752452615265244924:=0
def tw14626633079889736674:=0
def tw11858822024163534209:=0
def tw7782014064073126472:=0
def tw8793915068403436353:=0
def tw14185445723103859302:=0
def tw11141964529975813021:=0
def tw12907797664196134583:=0
def tw14683170402624058108:=0
def tw13394520239720167341:=0
def tw18213163604608406427:=0
def tw7560791744175778241:=0
def tw1163361107733243517:=0
def tw4880849451362741956:=0
def tw958884455080404330:=0
def tw16493229030813438825:=0
def tw12944423559371402819:=0
def tw15650325884273215431:=0
def tw16612918607497367135:=0
def tw9436678611007868471:=0
def tw10233798421132429932:=0
def tw5459231082799310455:=0
def tw896212014585217811:=0
def tw18223174830940839245:=0
def tw6150810967424107530:=0
def tw18030491119952901372:=0
def tw11957614644777838720:=0
def tw5571049988582962468:=0
def tw1423194170601756729:=0
def tw15907223813309890207:=0
def tw272099437670259334:=0
def tw9310710203927573001:=0
def tw14803632032166612988:=0
def tw16418269764016674971:=0
def tw15426030779802698611:=0
def tw11178275227105421376:=0
def tw15320524389893573243:=0
def tw5909138734533144806:=0
def tw11630083076797762532:=0
def tw17473054985119200242:=0
def tw16507843936836678039:=0
def tw2748171975855154629:=0
def tw6488441682915391651:=0
def tw14797028219981638421:=0
def tw18204612696237305436:=0
def tw14521391627562974183:=0
def tw9678462348209293860:=0
def tw2675259501594103462:=0
def tw1453313060518947811:=0
def tw15483078690589268619:=0
def tw12708261571192133649:=0
def tw17760364803890337938:=0
def tw14606847297177308181:=0
def tw5359628818740411195:=0
def tw6523835130129265756:=0
def tw3449730199834000007:=0
def tw12825010076998183123:=0
def tw16638561025818132799:=0
def tw15068493533181699982:=0
def tw2723417637176550276:=0
def tw4829804426588808261:=0
def tw14968841906928122753:=0
def tw6764266128847469895:=0
def tw2273941832738783180:=0
def tw7810890809111056969:=0
def tw4839197821457785146:=0
def tw5987512296700074509:=0
def tw15457097499373215919:=0
def tw13152943690310141178:=0
def tw2018276229285812009:=0
def tw12780851465938748644:=0
def tw5197277895061480723:=0
def tw17843236821697130978:=0
def tw15574779758783520976:=0
def tw12718455854616232462:=0
def tw2281646330924545356:=0
def tw17803501597580247624:=0
def tw10007179067503896620:=0
def tw2579173825318378332:=0
def tw2984175952713466146:=0
def tw5928771208122540900:=0
def tw4802038147984152901:=0
def tw7906149740761903230:=0
def tw18268031345690199624:=0
def tw13925066535861200153:=0
def tw2925281875698405281:=0
def tw9620863211578663638:=0
def tw10769075349304312008:=0
def tw8842903059885843067:=0
def tw13986544060501019128:=0
def tw13356114009991524887:=0
def tw2755157062443599476:=0
def tw116184736279719916:=0
def tw255674096131827494:=0
def tw578184842849214285:=0
def tw6252034282411386455:=0
def tw12063402462595716891:=0
def tw10132945323904088760:=0
def tw5673345071977977508:=0
def tw635447792994433427:=0
def tw408049172963667184:=0
def tw4758789706004266451:=0
def tw266143572715100421:=0
def tw5219284883254814489:=0
def tw11236701369009629137:=0
def tw838095835239095679:=0
def tw5647358024294949749:=0
def tw14802864827056166635:=0
def tw12536514982080516125:=0
def tw1478727501154462223:=0
def tw6173150381914818667:=0
def tw6549213492640299825:=0
def tw16054463459649442008:=0
def tw15213089322682234999:=0
def tw17980007788368679393:=0
def tw6440631014372317038:=0
def tw11314229793615793354:=0
def tw10395988104192653157:=0
def tw7651988006490909413:=0
def tw13585010132454037850:=0
def tw16133061583101374953:=0
def tw13219419908249668941:=0
def tw10938781210301574616:=0
def tw7035754698346836613:=0
def tw6531094848392178516:=0
def tw9282695834366513470:=0
def tw10034060978120501956:=0
def tw16879066977314941982:=0
def tw955534481254104387:=0
def tw14884432902150048658:=0
def tw379525014519987522:=0
def tw8103723228449328859:=0
def tw11820329628717085076:=0
def tw4506731810892380180:=0
def tw2802189408333707652:=0
def tw2533594397123197439:=0
def tw12091110434912397691:=0
def tw17340370980500324597:=0
def tw11954184396072230701:=0
def tw2139835490522292297:=0
def tw10465774405614658365:=0
def tw2230190422146464853:=0
def tw13850342984479962936:=0
def tw10034629787572102258:=0
def tw17933210977636160844:=0
def tw1157018180420942209:=0
def tw16063740436804896715:=0
def tw7365909168491480539:=0
def tw14540576441233205446:=0
def tw8211576784852203795:=0
def tw5932012095365647204:=0
def tw4937516463053487084:=0
def tw18394038669048341808:=0
def tw2970509066003705205:=0
def tw494239881395104401:=0
def tw10949314635204398751:=0
def tw7990783012849775422:=0
def tw273418001797450654:=0
def tw804143000310020955:=0
def tw12255584338038224962:=0
def tw15730996682310259148:=0
def tw13382802329968617470:=0
def tw1674002678123812605:=0
def tw11235486850863783099:=0
def tw9139645370119173362:=0
def tw16663141279327734494:=0
def tw348615112680762409:=0
def tw3364937401748501428:=0
def tw7697427563041254094:=0
def tw12642920532494246282:=0
def tw6044940606539570572:=0
def tw5084223070107482977:=0
def tw760214112836647023:=0
def tw7295144074466203036:=0
def tw13893364364488429331:=0
def tw14820755857083246273:=0
def tw3935885975945418380:=0
def tw17941932453686224822:=0
def tw11332978671644680798:=0
def tw5160558622590397062:=0
def tw2342372888865590200:=0
def tw14648736079078722266:=0
def tw851790178466839713:=0
def tw12824614845612432556:=0
def tw460587499481829008:=0
def tw12350727797037327246:=0
def tw15608100711777198576:=0
def tw13648499513367441709:=0
def tw17004017090032005591:=0
def tw11509795112291829681:=0
def tw1711571023059340053:=0
def tw15879174331367380732:=0
def tw6535765179937346:=0
def tw15803386645824805086:=0
def tw11349732593260363361:=0
def tw15772086216996269634:=0
def tw10815109926901568789:=0
def tw14180179329969906869:=0
def tw1364970037758628342:=0
def tw15076564913908278055:=0
def tw2236640307194937299:=0
def tw1211935213611535453:=0
def tw14305312539315698393:=0
def tw16619795120824074345:=0
def tw4925571276446797785:=0
def tw2318866033483681850:=0
def tw1491489238953561671:=0
def tw4943102521110132011:=0
def tw13966602010408873106:=0
def tw17818244927300121687:=0
def tw2744695288921561156:=0
def tw13517610518420614671:=0
def tw5477396868451114745:=0
def tw14711195189826231826:=0
def tw4710970319469884311:=0
def tw1926764535863292797:=0
def tw7447922344768560641:=0
def tw18094702379437592596:=0
def tw170604319360962912:=0
def tw13397068313056403475:=0
def tw14736406034403968964:=0
def tw3661524423722441251:=0
def tw18328233821971090231:=0
def tw17078631313753783832:=0
def tw14596221614013150753:=0
def tw8148607723040802232:=0
def tw14919589015607146098:=0
def tw6407105830484072541:=0
def tw3414158168669332897:=0
def tw17000449413054552874:=0
def tw2002588949999140860:=0
def tw11551874423191727548:=0
def tw12546667834775660716:=0
def tw16625776071055588674:=0
def tw17570530226196310092:=0
def tw1159340618207077408:=0
def tw13136146571481749618:=0
def tw12347555558035715052:=0
def tw13548071472286746047:=0
def tw17180795932967230381:=0
def tw15331687067989621410:=0
def tw2416723396281438296:=0
def tw10776205456631716527:=0
def tw11512120289133956786:=0
def tw17639628208938529026:=0
def tw18404482742909161554:=0
def tw1648835034658900960:=0
def tw4729025807814485453:=0
def tw12609339136328265565:=0
def tw9956166433338472468:=0
def tw4968650541256279054:=0
def tw16011814899935648923:=0
def tw15971661056322628260:=0
def tw2769158953647233202:=0
def tw18372560437360015876:=0
def tw1939927495900968569:=0
def tw2956904211823601233:=0
def tw6945477874997394855:=0
def tw15111710828398069407:=0
def tw8934940447652814782:=0
def tw10557723795952472083:=0
def tw7841677029284280702:=0
def tw10356360924623085535:=0
def tw17594924804170122244:=0
def tw7714584209846712425:=0
def tw5140236160371055767:=0
def tw16609599175821790062:=0
def tw5314758425264244215:=0
def tw1564787220893449720:=0
def tw14637263520353357565:=0
def tw5551769963359834164:=0
def tw8905951068134996967:=0
def tw18135497510358626602:=0
def tw2054187747986593969:=0
def tw13848955225932476439:=0
def tw14105651108401668962:=0
def tw6101350097429658764:=0
def tw432879186066436938:=0
def tw10257275695148824318:=0
def tw11913884877087321600:=0
def tw2894541223368752330:=0
def tw2612898799032612005:=0
def tw4587792855141505730:=0
def tw6587429774355850264:=0
def tw14315301954615985249:=0
def tw14983567920444639656:=0
def tw3066404029421226648:=0
def tw9108283487053651859:=0
def tw17531974902781161847:=0
def tw1474210542882234401:=0
def tw4712412516146696854:=0
def tw14558661510481967765:=0
def tw12764201295153145986:=0
def tw14518448086325422496:=0
def tw1317237941629711835:=0
def tw9129615051850593359:=0
def tw8580671178052324701:=0
def tw755742145841437534:=0
def tw8962474859807853115:=0
def tw8430453851344469164:=0
def tw14136589690869375538:=0
def tw10687724956355488525:=0
def tw7714250236613545612:=0
def tw13118252117731542927:=0
def tw1315052501267203618:=0
def tw10846335654028249610:=0
def tw14120214259156271077:=0
def tw1563904324957779462:=0
def tw4253071088004056815:=0
def tw15720102831092602871:=0
def tw1273043364804733800:=0
def tw16522305102153914784:=0
def tw17704612593482674429:=0
def tw15339971222313145452:=0
def tw8714959369227541433:=0
def tw10447218801204711099:=0
def tw2948971579696988466:=0
def tw5652883894951666505:=0
def tw8982371290354229304:=0
def tw310162840394959158:=0
def tw12681568426578214085:=0
def tw3269431641563133062:=0
def tw17398808309517528853:=0
def tw5298689407033204426:=0
def tw13140520841319359167:=0
def tw14066997906766395482:=0
def tw1813465959850505826:=0
def tw5697036598040615033:=0
def tw14908692057943108696:=0
def tw15038853157272146910:=0
def tw140285688382898745:=0
def tw4044580093098783724:=0
def tw13331323676574522440:=0
def tw16397493050424384473:=0
def tw10837610056999512989:=0
def tw3634044548400393828:=0
def tw14047468914474822549:=0
def tw10711694970529387628:=0
def tw10258525031643765307:=0
def tw5746901748995414237:=0
def tw6625831666722686125:=0
def tw3386847775424839024:=0
def tw3206027000554371846:=0
def tw15345793385152415010:=0
def tw9006051100405950642:=0
def tw12074093161602308778:=0
def tw2877613631140295233:=0
def tw6751350202304656753:=0
def tw299790477904162803:=0
def tw16643004005960022762:=0
def tw17524889489511625073:=0
def tw4156411773509143538:=0
def tw6790251998063434677:=0
def tw10567485834115644467:=0
def tw11565644577681516240:=0
def tw9499743443024974769:=0
def tw15347920758681083700:=0
def tw7544357520299175444:=0
def tw9693078324815133614:=0
def tw5165666425958463731:=0
def tw15099399539724167022:=0
def tw12668064364419862901:=0
def tw14843243162741364120:=0
def tw2602492304073222300:=0
def tw11923178739716323685:=0
def tw5621577892285952076:=0
def tw15410300500109133109:=0
def tw1846615419604822516:=0
def tw11408773449095661281:=0
def tw5923231899480819704:=0
def tw15304259321994020338:=0
def tw13037105921225985298:=0
def tw283897158305735225:=0
def tw17379147358547941944:=0
def tw10078682988138427545:=0
def tw432786850769786625:=0
def tw9706468780350359440:=0
def tw8883756757262134763:=0
def tw11023584728707829013:=0
def tw7856197157341354461:=0
def tw8106751496846427863:=0
def tw14581296973909701137:=0
def tw16887648564589130735:=0
def tw13686707663817627364:=0
def tw12355706393371992164:=0
def tw11021423306861505047:=0
def tw8429897975340433485:=0
def tw3131458967849587058:=0
def tw16677305813147190473:=0
def tw5543188737136434049:=0
def tw7394573153051881881:=0
def tw5225423278244312901:=0
def tw7048707661060482320:=0
def tw5120679441439898794:=0
def tw8726752254310950273:=0
def tw18360852317813350636:=0
def tw3042331667207790570:=0
def tw17940426545194762348:=0
def tw9422060374841209421:=0
def tw3843948856501078947:=0
def tw16052659553155818451:=0
def tw1359585890365509357:=0
def tw17937809002700165633:=0
def tw17249284141728682017:=0
def tw11412095852472299966:=0
def tw15890159084290294705:=0
def tw7854908753639080630:=0
def tw17053658594747927390:=0
def tw2108003829117065688:=0
def tw9204891311916489466:=0
def tw4309710749357687756:=0
end PySem.W.Fast
open PySem PySem.W PyProof.Rows
set_option maxRecDepth 100000 in
set_option maxHeartbeats 0 in
theorem PySem.Challenge.cw_codemend_k34_whole_taken_back_holds : PySem.Challenge.rw_codemend_k34_whole_taken_back.Holds := by
 w_on; o_law; k_head; (case hw=>w_witness2)
 k_fill
 refine PL.walk_lawT (l:=PySem.Challenge.rw_codemend_k34_whole_taken_back) (k:=9) (x:="_law_script") [(35,"what_counts.<locals>.<lambda>")] rfl rfl ⟨rfl,by decide,by decide⟩ (fun w h Y=>PySem.W.km_in_of Y) (fun w h Y b q e=>PySem.W.km_tabs_of Y b (K34.tab_mem e)) ?F
 case F =>
  intro w mg fa h KX G hmg
  refine' K34.all_mk KX G hmg ?D1 ?D2 ?D3 ?D4 ?D5 ?D6 ?D7 ?D8 ?D9 ?D10 ?D11 ?D12 ?D13 ?D14 ?D15 ?D16 ?D17 ?D18 ?a19 ?l19 ?c19 ?k19 ?D20 ?D21 ?D22 ?D23 ?D24 ?D25 ?a26 ?l26 ?c26 ?k26 ?z1 ?z2 ?z3 ?z4 ?z5 ?z6 ?z7 ?z8 ?z9 ?z10 ?z11 ?z12 ?z13 ?g1 ?e1 ?g2 ?e2 ?aC_Book ?hdC_Book ?aI_Book ?iI_Book ?lI_Book ?cI_Book ?kI_Book ?pg_Book ?po_Book ?sa_Book ?mk_Book ?kc_Book ?n_Book_tree ?n_Book_past ?aC_Swap ?hdC_Swap ?aI_Swap ?iI_Swap ?lI_Swap ?cI_Swap ?kI_Swap ?pg_Swap ?po_Swap ?sa_Swap ?mk_Swap ?kc_Swap ?n_Swap_place ?n_Swap_old ?n_Swap_new ?aC_Read ?hdC_Read ?aI_Read ?iI_Read ?lI_Read ?cI_Read ?kI_Read ?pg_Read ?po_Read ?sa_Read ?mk_Read ?kc_Read ?n_Read_place ?n_Read_words ?aC_PutIn ?hdC_PutIn ?aI_PutIn ?iI_PutIn ?lI_PutIn ?cI_PutIn ?kI_PutIn ?pg_PutIn ?po_PutIn ?sa_PutIn ?mk_PutIn ?kc_PutIn ?n_PutIn_place ?n_PutIn_node ?aC_LeaveOut ?hdC_LeaveOut ?aI_LeaveOut ?iI_LeaveOut ?lI_LeaveOut ?cI_LeaveOut ?kI_LeaveOut ?pg_LeaveOut ?po_LeaveOut ?sa_LeaveOut ?mk_LeaveOut ?kc_LeaveOut ?n_LeaveOut_place ?aC_Anew ?hdC_Anew ?aI_Anew ?iI_Anew ?lI_Anew ?cI_Anew ?kI_Anew ?pg_Anew ?po_Anew ?sa_Anew ?mk_Anew ?kc_Anew ?n_Anew_place ?aM_Book_act ?iM_Book_act ?lI_Book_act ?cI_Book_act ?kI_Book_act ?aM_Book_back ?iM_Book_back ?lI_Book_back ?cI_Book_back ?kI_Book_back ?aM_Book_acts ?iM_Book_acts ?lI_Book_acts ?cI_Book_acts ?kI_Book_acts ?aM_Book_refuse_act ?iM_Book_refuse_act ?lI_Book_refuse_act ?cI_Book_refuse_act ?kI_Book_refuse_act ?hn ?htk ?ty_Swap ?ha_Swap ?hm_Swap ?ty_Read ?ha_Read ?hm_Read ?ty_PutIn ?ha_PutIn ?hm_PutIn ?ty_LeaveOut ?ha_LeaveOut ?hm_LeaveOut ?ty_Anew ?ha_Anew ?hm_Anew ?q_Swap_Read ?r_Swap_Read ?q_PutIn_Read ?r_PutIn_Read ?q_LeaveOut_Read ?r_LeaveOut_Read ?q_Anew_Read ?r_Anew_Read ?q_PutIn_Swap ?r_PutIn_Swap ?q_LeaveOut_Swap ?r_LeaveOut_Swap ?q_Anew_Swap ?r_Anew_Swap ?q_LeaveOut_PutIn ?r_LeaveOut_PutIn ?q_Anew_PutIn ?r_Anew_PutIn ?q_Anew_LeaveOut ?r_Anew_LeaveOut ?hL19 ?nL19 ?tL19
  (case D1=>apply PL.Dn.mk <;> k_is)
  (case D2=>apply PL.Dn.mk <;> k_is)
  (case D3=>apply PL.Dn.mk <;> k_is)
  (case D4=>apply PL.Dn.mk <;> k_is)
  (case D5=>apply PL.Dn.mk <;> k_is)
  (case D6=>apply PL.Dn.mk <;> k_is)
  (case D7=>apply PL.Dn.mk <;> k_is)
  (case D8=>apply PL.Dn.mk <;> k_is)
  (case D9=>apply PL.Dn.mk <;> k_is)
  (case D10=>apply PL.Dn.mk <;> k_is)
  (case D11=>apply PL.Dn.mk <;> k_is)
  (case D12=>apply PL.Dn.mk <;> k_is)
  (case D13=>apply PL.Dn.mk <;> k_is)
  (case D14=>apply PL.Dn.mk <;> k_is)
  (case D15=>apply PL.Dn.mk <;> k_is)
  (case D16=>apply PL.Dn.mk <;> k_is)
  (case D17=>apply PL.Dn.mk <;> k_is)
  (case D18=>apply PL.Dn.mk <;> k_is)
  (case a19=>k_is)
  (case l19=>k_is)
  (case c19=>k_is)
  (case k19=>k_is)
  (case D20=>apply PL.Dn.mk <;> k_is)
  (case D21=>apply PL.Dn.mk <;> k_is)
  (case D22=>apply PL.Dn.mk <;> k_is)
  (case D23=>apply PL.Dn.mk <;> k_is)
  (case D24=>apply PL.Dn.mk <;> k_is)
  (case D25=>apply PL.Dn.mk <;> k_is)
  (case a26=>k_is)
  (case l26=>k_is)
  (case c26=>k_is)
  (case k26=>k_is)
  (case z1=>k_is)
  (case z2=>k_is)
  (case z3=>k_is)
  (case z4=>k_is)
  (case z5=>k_is)
  (case z6=>k_is)
  (case z7=>k_is)
  (case z8=>k_is)
  (case z9=>k_is)
  (case z10=>k_is)
  (case z11=>k_is)
  (case z12=>k_is)
  (case z13=>k_is)
  (case g1=>k_is)
  (case e1=>decide +kernel)
  (case g2=>k_is)
  (case e2=>decide +kernel)
  (case aC_Book=>k_is)
  (case hdC_Book=>k_is)
  (case aI_Book=>k_is)
  (case iI_Book=>k_is)
  (case lI_Book=>k_is)
  (case cI_Book=>k_is)
  (case kI_Book=>k_is)
  (case pg_Book=>k_is)
  (case po_Book=>k_is)
  (case sa_Book=>k_is)
  (case mk_Book=>k_is)
  (case kc_Book=>k_is)
  (case n_Book_tree=>k_is)
  (case n_Book_past=>k_is)
  (case aC_Swap=>k_is)
  (case hdC_Swap=>k_is)
  (case aI_Swap=>k_is)
  (case iI_Swap=>k_is)
  (case lI_Swap=>k_is)
  (case cI_Swap=>k_is)
  (case kI_Swap=>k_is)
  (case pg_Swap=>k_is)
  (case po_Swap=>k_is)
  (case sa_Swap=>k_is)
  (case mk_Swap=>k_is)
  (case kc_Swap=>k_is)
  (case n_Swap_place=>k_is)
  (case n_Swap_old=>k_is)
  (case n_Swap_new=>k_is)
  (case aC_Read=>k_is)
  (case hdC_Read=>k_is)
  (case aI_Read=>k_is)
  (case iI_Read=>k_is)
  (case lI_Read=>k_is)
  (case cI_Read=>k_is)
  (case kI_Read=>k_is)
  (case pg_Read=>k_is)
  (case po_Read=>k_is)
  (case sa_Read=>k_is)
  (case mk_Read=>k_is)
  (case kc_Read=>k_is)
  (case n_Read_place=>k_is)
  (case n_Read_words=>k_is)
  (case aC_PutIn=>k_is)
  (case hdC_PutIn=>k_is)
  (case aI_PutIn=>k_is)
  (case iI_PutIn=>k_is)
  (case lI_PutIn=>k_is)
  (case cI_PutIn=>k_is)
  (case kI_PutIn=>k_is)
  (case pg_PutIn=>k_is)
  (case po_PutIn=>k_is)
  (case sa_PutIn=>k_is)
  (case mk_PutIn=>k_is)
  (case kc_PutIn=>k_is)
  (case n_PutIn_place=>k_is)
  (case n_PutIn_node=>k_is)
  (case aC_LeaveOut=>k_is)
  (case hdC_LeaveOut=>k_is)
  (case aI_LeaveOut=>k_is)
  (case iI_LeaveOut=>k_is)
  (case lI_LeaveOut=>k_is)
  (case cI_LeaveOut=>k_is)
  (case kI_LeaveOut=>k_is)
  (case pg_LeaveOut=>k_is)
  (case po_LeaveOut=>k_is)
  (case sa_LeaveOut=>k_is)
  (case mk_LeaveOut=>k_is)
  (case kc_LeaveOut=>k_is)
  (case n_LeaveOut_place=>k_is)
  (case aC_Anew=>k_is)
  (case hdC_Anew=>k_is)
  (case aI_Anew=>k_is)
  (case iI_Anew=>k_is)
  (case lI_Anew=>k_is)
  (case cI_Anew=>k_is)
  (case kI_Anew=>k_is)
  (case pg_Anew=>k_is)
  (case po_Anew=>k_is)
  (case sa_Anew=>k_is)
  (case mk_Anew=>k_is)
  (case kc_Anew=>k_is)
  (case n_Anew_place=>k_is)
  (case aM_Book_act=>k_is)
  (case iM_Book_act=>k_is)
  (case lI_Book_act=>k_is)
  (case cI_Book_act=>k_is)
  (case kI_Book_act=>k_is)
  (case aM_Book_back=>k_is)
  (case iM_Book_back=>k_is)
  (case lI_Book_back=>k_is)
  (case cI_Book_back=>k_is)
  (case kI_Book_back=>k_is)
  (case aM_Book_acts=>k_is)
  (case iM_Book_acts=>k_is)
  (case lI_Book_acts=>k_is)
  (case cI_Book_acts=>k_is)
  (case kI_Book_acts=>k_is)
  (case aM_Book_refuse_act=>k_is)
  (case iM_Book_refuse_act=>k_is)
  (case lI_Book_refuse_act=>k_is)
  (case cI_Book_refuse_act=>k_is)
  (case kI_Book_refuse_act=>k_is)
  (case hn=>k_is)
  (case htk=>k_is)
  (case ty_Swap=>k_is)
  (case ha_Swap=>k_is)
  (case hm_Swap=>k_is)
  (case ty_Read=>k_is)
  (case ha_Read=>k_is)
  (case hm_Read=>k_is)
  (case ty_PutIn=>k_is)
  (case ha_PutIn=>k_is)
  (case hm_PutIn=>k_is)
  (case ty_LeaveOut=>k_is)
  (case ha_LeaveOut=>k_is)
  (case hm_LeaveOut=>k_is)
  (case ty_Anew=>k_is)
  (case ha_Anew=>k_is)
  (case hm_Anew=>k_is)
  (case q_Swap_Read=>k_is)
  (case r_Swap_Read=>rfl)
  (case q_PutIn_Read=>k_is)
  (case r_PutIn_Read=>rfl)
  (case q_LeaveOut_Read=>k_is)
  (case r_LeaveOut_Read=>rfl)
  (case q_Anew_Read=>k_is)
  (case r_Anew_Read=>rfl)
  (case q_PutIn_Swap=>k_is)
  (case r_PutIn_Swap=>rfl)
  (case q_LeaveOut_Swap=>k_is)
  (case r_LeaveOut_Swap=>rfl)
  (case q_Anew_Swap=>k_is)
  (case r_Anew_Swap=>rfl)
  (case q_LeaveOut_PutIn=>k_is)
  (case r_LeaveOut_PutIn=>rfl)
  (case q_Anew_PutIn=>k_is)
  (case r_Anew_PutIn=>rfl)
  (case q_Anew_LeaveOut=>k_is)
  (case r_Anew_LeaveOut=>rfl)
  (case hL19=>kernel_rfl)
  (case nL19=>kernel_rfl)
  (case tL19=>exact rfl)
