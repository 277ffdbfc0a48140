import PyProof.Rows.All
import Wide.All
import OpenK.AllK
import Wide.FinOn
import Lean
import PyProof.EqAt
import PyProof.EqKinds
import PyProof.TupleCall
import KE.KRevIter
import PyProof.StationsW
import PyProof.ExcClass2
import PyProof.ExcInit
import PyProof.ExcBaseAll.ValueError
import PyProof.ExcArgsOwn
import OpenK.KMake
import KE.KIsAll
import PyProof.InstStoreFacts
import PyProof.FString2
import KE.KTryMore
import PyProof.NsDelKeeps
import PyProof.Rows.StrSplitJoin
import PyProof.StrLawsTight
import PyProof.ListMulRoad
import PyProof.ZipIter
import PyProof.TupleIter
import PyProof.WalksMore
import KE.KSortAsk
import KE.KSortTup
import KE.KDictLaws
import PyProof.NeKinds
import PySem.Challenge.RW_codemend_k83_place_by_place
noncomputable section
set_option Elab.async false
set_option linter.all false
set_option maxRecDepth 100000
namespace L2
open PySem PySem.Spec PyProof.Rows
abbrev Key:=Sum Int Str
def zhJ:Key→Value→Bool
  | .inl k,v=>Value.isInt k v
  | .inr x,v=>Value.isStrOf x v
def ztW (w:World):Key→Int
  | .inl k=>hashInt k
  | .inr x=>hashStr w x
theorem za2:∀ {k:Key} {v:Value},zhJ k v=true→(∃ i t,k=Sum.inl i∧v=Value.int i t)∨(∃ x t,k=Sum.inr x∧v=Value.str x t)
  | .inl i,v,h=>by
    obtain ⟨t,e⟩:=Value.isInt_shape (k:=i) (v:=v) h; exact .inl ⟨i,t,rfl,e⟩
  | .inr x,v,h=>by
    obtain ⟨t,e⟩:=Value.isStrOf_shape (x:=x) (v:=v) h; exact .inr ⟨x,t,rfl,e⟩
theorem zku (i:Int) (t:Tok):zhJ (.inl i) (.int i t)=true:=by simp [zhJ,Value.isInt]
theorem zkt (x:Str) (t:Tok):zhJ (.inr x) (.str x t)=true:=by simp [zhJ,Value.isStrOf]
theorem zqH (a b:Int):decide ((Sum.inl a:Key)=Sum.inl b)=(a == b):=by
  by_cases e:a=b
  · subst e; simp
  · have h:¬ (Sum.inl a:Key)=Sum.inl b:=fun q=>e (Sum.inl.inj q)
    rw [decide_eq_false h]; exact (beq_eq_false_iff_ne.mpr e).symm
theorem zqE (a b:Str):decide ((Sum.inr a:Key)=Sum.inr b)=decide (a=b):=by
  by_cases e:a=b
  · subst e; simp
  · have h:¬ (Sum.inr a:Key)=Sum.inr b:=fun q=>e (Sum.inr.inj q)
    rw [decide_eq_false h,decide_eq_false e]
theorem zqG (a:Int) (b:Str):decide ((Sum.inl a:Key)=Sum.inr b)=false:=decide_eq_false (fun q=>nomatch q)
theorem zqF (a:Str) (b:Int):decide ((Sum.inr a:Key)=Sum.inl b)=false:=decide_eq_false (fun q=>nomatch q)
def zbb (prog:Program) (w:World):PySem.KeyKind prog w Key where
  is:=zhJ
  hash:=ztW w
  inj:=fun v a b ha hb=>by
    rcases za2 ha with ⟨i,t,rfl,rfl⟩ | ⟨x,t,rfl,rfl⟩
    · rcases za2 hb with ⟨j,u,rfl,e⟩ | ⟨y,u,rfl,e⟩
      · injection e with e1 _; rw [e1]
      · exact nomatch e
    · rcases za2 hb with ⟨j,u,rfl,e⟩ | ⟨y,u,rfl,e⟩
      · exact nomatch e
      · injection e with e1 _; rw [e1]
  byValue:=fun k v h=>by
    rcases za2 h with ⟨i,t,rfl,rfl⟩ | ⟨x,t,rfl,rfl⟩ <;> rfl
  pyHash:=fun hv h=>by
    rcases za2 hv with ⟨i,t,rfl,rfl⟩ | ⟨x,t,rfl,rfl⟩
    · exact wpAny_pyHash_int h
    · exact wpAny_pyHash_str h
  eqBool:=fun hu hv h=>by
    rcases za2 hu with ⟨i,t,rfl,rfl⟩ | ⟨x,t,rfl,rfl⟩
    · rcases za2 hv with ⟨j,u,rfl,rfl⟩ | ⟨y,u,rfl,rfl⟩
      · rw [zqH] at h; exact wpAny_eqBool_int h
      · rw [zqG] at h; exact SeqAt.EqAt.int_str i t y u _ _ _ _ h
    · rcases za2 hv with ⟨j,u,rfl,rfl⟩ | ⟨y,u,rfl,rfl⟩
      · rw [zqF] at h; exact SeqAt.EqAt.str_int x t j u _ _ _ _ h
      · rw [zqE] at h; exact wpAny_eqBool_str h
  «strs»:=fun k x t v h=>by
    rcases za2 h with ⟨i,u,rfl,e⟩ | ⟨y,u,rfl,e⟩
    · exact nomatch e
    · injection e with e1 _
      subst e1
      cases v <;> rfl
theorem zhC (prog:Program) (w:World) (i:Int) (t:Tok):(zbb prog w).is (.inl i) (.int i t)=true:=zku i t
theorem zhB (prog:Program) (w:World) (x:Str) (t:Tok):(zbb prog w).is (.inr x) (.str x t)=true:=zkt x t
end L2
namespace L2
open PySem PySem.Spec PyProof.Rows
inductive V where
  | non | bl (b:Bool) | int (i:Int) | str (x:Str) | byt (b:Array UInt8) | flt (b:UInt64) | ref (a:Addr) | ty (n:String)
  deriving DecidableEq
def zbi:V→Value→Prop
  | .non,u=>u=Value.none
  | .bl b,u=>u=Value.bool b
  | .int i,u=>∃ t,u=Value.int i t
  | .str x,u=>∃ t,u=Value.str x t
  | .byt b,u=>∃ t,u=Value.bytes b t
  | .flt b,u=>∃ t,u=Value.float b t
  | .ref a,u=>u=Value.ref a
  | .ty n,u=>u=Value.type n
abbrev za3:List V→List Value→Prop:=Paired zbi
theorem za3.length {xs:List V} {us:List Value} (r:za3 xs us):xs.length=us.length:=Paired.length r
theorem za3.get:∀ {xs:List V} {us:List Value} {i:Nat} {x:V},za3 xs us→xs[i]?=some x→∃ u,us[i]?=some u∧zbi x u
  | _,_,_,_,.nil,e=>by simp at e
  | _,_,0,_,.cons r _,e=>by simp at e; subst e; exact ⟨_,rfl,r⟩
  | _,_,i+1,x,.cons _ t,e=>by
    obtain ⟨u,h1,h2⟩:=za3.get (i:=i) (x:=x) t (by simpa using e)
    exact ⟨u,by simpa using h1,h2⟩
theorem za3.set {x:V} {u:Value} (r:zbi x u):∀ {xs:List V} {us:List Value} (i:Nat),za3 xs us→za3 (xs.set i x) (us.set i u)
  | _,_,_,.nil=>.nil
  | _,_,0,.cons _ t=>.cons r t
  | _,_,i+1,.cons q t=>.cons q (za3.set r i t)
theorem za3.append:∀ {xs ys:List V} {us ws:List Value},za3 xs us→za3 ys ws→za3 (xs ++ ys) (us ++ ws)
  | _,_,_,_,.nil,s=>s
  | _,_,_,_,.cons r t,s=>.cons r (za3.append t s)
theorem za3.take:∀ {xs:List V} {us:List Value} (n:Nat),za3 xs us→za3 (xs.take n) (us.take n)
  | _,_,0,_=>.nil
  | _,_,_+1,.nil=>.nil
  | _,_,n+1,.cons r t=>.cons r (za3.take n t)
theorem za3.drop:∀ {xs:List V} {us:List Value} (n:Nat),za3 xs us→za3 (xs.drop n) (us.drop n)
  | _,_,0,r=>r
  | _,_,_+1,.nil=>.nil
  | _,_,n+1,.cons _ t=>za3.drop n t
def ziL:Option V→Option Value→Prop
  | some v,some u=>zbi v u
  | none,none=>True
  | _,_=>False
def KV {κ:Type}:List (κ × V)→List (κ × Value)→Prop:=Paired fun (p:κ × V) (q:κ × Value)=>p.1=q.1∧zbi p.2 q.2
def kV:Key→V
  | .inl i=>.int i
  | .inr x=>.str x
inductive HO where
  | lst (xs:List V)
  | tup (xs:List V)
  | dK (kvs:List (Key × V)) | dT (kvs:List (List Key × V))
  | dE (kvs:List (List Key × V)) (ep:Nat)
  | set (S:Int→Bool) (n:Nat)
  | ins (C dx:Addr) (fs:List (Str × V))
  | own (x:Addr)
  | xd (fs:List (Str × V))
  | met (f x:Addr)
  | rng (lo hi:Int)
  | frz (o:Obj) (u:HO)
  | tbl (ps:Array Value)
  | ext (φ:Heap→Prop)
abbrev zsU:HO:=.ext fun _=>True
def zmv:List V ⊕ Obj→HO
  | .inl xs=>.tup xs
  | .inr o=>.frz o zsU
abbrev Hp:=Addr→Option HO
def upd (H:Hp) (a:Addr) (o:HO):Hp:=fun b=>if b=a then some o else H b
theorem zO {H:Hp} {a:Addr} {o:HO}:upd H a o a=some o:=by unfold upd; rw [if_pos rfl]
theorem zaD {H:Hp} {a b:Addr} {o:HO} (h:b≠a):upd H a o b=H b:=by unfold upd; rw [if_neg h]
theorem zsC {H:Hp} {a b:Addr} {o u:HO} (h:H a=some o) (h':H b=some u) (d:o≠u):a≠b:=by
  intro e; subst e; rw [h] at h'; exact d (Option.some.inj h')
theorem zbf {H:Hp} {a b:Addr} {o:HO} (h:H a=some o) (h':H b=none):a≠b:=by
  intro e; subst e; rw [h] at h'; cases h'
section
variable (P:Program) (w:World)
def zbM (H:Hp) (h:Heap) (a:Addr):HO→Prop
  | .lst xs=>xs.length≤sizeLine∧∃ (its:List Value) (n:Nat),za3 xs its∧h.get? a=some { cls:=.type "list",data:=.seq its.toArray n }
  | .tup xs=>xs.length≤sizeLine∧∃ its:List Value,za3 xs its∧IsTup h a its.toArray
  | .dK kvs=>kvs.length≤sizeLine∧(a == sysModules)=false∧∃ vs,KV kvs vs∧h.DictOf (zbb P w) a vs
  | .dT kvs=>kvs.length≤sizeLine∧(a == sysModules)=false∧∃ xs:List (List Key × Addr × Value),
      Paired (fun (p:List Key × V) (q:List Key × Addr × Value)=>p.1=q.1∧H q.2.1=some (.tup (p.1.map kV))∧zbi p.2 q.2.2) kvs xs ∧
      ∃ o es ep,h.get? a=some o∧o.ExactDict∧o.data=.dict es ep∧es.toList=xs.map (entryOfKey (tupleKind (zbb P w)))∧(xs.map (·.1)).Nodup
  | .dE kvs ep=>kvs.length≤sizeLine∧(a == sysModules)=false∧∃ xs:List (List Key × Addr × Value),
      Paired (fun (p:List Key × V) (q:List Key × Addr × Value)=>p.1=q.1∧H q.2.1=some (.tup (p.1.map kV))∧zbi p.2 q.2.2) kvs xs ∧
      ∃ o es,h.get? a=some o∧o.ExactDict∧o.data=.dict es ep∧es.toList=xs.map (entryOfKey (tupleKind (zbb P w)))∧(xs.map (·.1)).Nodup
  | .set S n=>h.SetOf (intKind P w) a S n
  | .ins C dx fs=>H dx=some (.own a)∧fs.length≤1000∧dx≠a∧h.get? a=some (PySem.W.instObj C dx) ∧
      ∃ mA,h.Ns1 dx mA∧(∀ f,ziL (fs.lookup f) (mA f))∧PySem.Within mA (fs.map (·.1))
  | .own _=>∃ o,h.get? a=some o
  | .xd fs=>∃ mA,h.Ns1 a mA∧∀ f,ziL (fs.lookup f) (mA f)
  | .rng lo hi=>∃ t u v,h.get? a=some { cls:=.type "range",data:=.fields #[.int lo t,.int hi u,.int 1 v] }
  | .frz o u=>h.get? a=some o∧zbM H h a u
  | .tbl ps=>∃ ts:Array Value,h.get? a=some { cls:=.none,data:=.fields ts }∧TriplesOk ts.toList∧∀ pos cv,codeAmong pos ts.toList=some cv→∃ c oc vs t q t0,cv=.ref c∧H c=some (zmv (.inr oc))∧oc.data=.fields vs∧vs[1]?=some (.str q t)∧ps[0]?=some (.str q t0)
  | .met f x=>h.get? a=some (PySem.W.methodObj (.ref f) (.ref x))
  | .ext φ=>φ h∧(∃ o,h.get? a=some o)∧∀ h1 h2:Heap,φ h1→(∀ o,h1.get? a=some o→h2.get? a=some o)→φ h2
def HOk (H:Hp) (h:Heap):Prop:=∀ a o,H a=some o→zbM P w H h a o
end
section
variable {P:Program} {w:World} {H H':Hp} {h h':Heap} {a:Addr} {o:HO}
theorem zbM.lt (x:zbM P w H h a o):a<h.objs.size:=by
  cases o with
  | lst xs=>obtain ⟨_,_,_,_,e⟩:=x; exact Heap.lt_size e
  | tup xs=>obtain ⟨_,_,_,p⟩:=x; exact p.lt
  | dK kvs=>obtain ⟨_,_,_,_,o,_,_,e,_⟩:=x; exact Heap.lt_size e
  | dT kvs=>obtain ⟨_,_,_,_,o,_,_,e,_⟩:=x; exact Heap.lt_size e
  | dE kvs ep=>obtain ⟨_,_,_,_,o,_,e,_⟩:=x; exact Heap.lt_size e
  | set S n=>obtain ⟨o,_,_,_,e,_⟩:=x; exact Heap.lt_size e
  | ins C dx fs=>obtain ⟨_,_,_,e,_⟩:=x; exact Heap.lt_size e
  | own y=>obtain ⟨_,e⟩:=x; exact Heap.lt_size e
  | xd fs=>obtain ⟨_,⟨_,_,_,e,_⟩,_⟩:=x; exact Heap.lt_size e
  | rng lo hi=>obtain ⟨_,_,_,e⟩:=x; exact Heap.lt_size e
  | frz ob u=>obtain ⟨e,_⟩:=x; exact Heap.lt_size e
  | tbl ps=>obtain ⟨_,e,_⟩:=x; exact Heap.lt_size e
  | met f y=>exact Heap.lt_size (show h.get? a=some _ from x)
  | ext φ=>obtain ⟨_,⟨_,e⟩,_⟩:=x; exact Heap.lt_size e
theorem Paired.mapP {α β:Type} {F G:α→β→Prop}:∀ {l₁:List α} {l₂:List β},Paired F l₁ l₂→(∀ a b,F a b→G a b)→Paired G l₁ l₂
  | _,_,.nil,_=>.nil
  | _,_,.cons r t,f=>.cons (f _ _ r) (Paired.mapP t f)
theorem zbM.stay (x:zbM P w H h a o) (k:∀ b u,(b=a∨H b=some (.own a))→h.get? b=some u→h'.get? b=some u)
    (ho:∀ b,H b=some (.own a)→H' b=some (.own a)) (ht:∀ b xs,H b=some (zmv xs)→H' b=some (zmv xs)):zbM P w H' h' a o:=by
  induction o with
  | lst xs=>obtain ⟨z,its,n,r,e⟩:=x; exact ⟨z,its,n,r,k _ _ (.inl rfl) e⟩
  | tup xs=>obtain ⟨z,its,r,ob,e,c⟩:=x; exact ⟨z,its,r,ob,k _ _ (.inl rfl) e,c⟩
  | dK kvs=>obtain ⟨z,y,vs,r,ob,es,ep,e,c⟩:=x; exact ⟨z,y,vs,r,ob,es,ep,k _ _ (.inl rfl) e,c⟩
  | dT kvs =>
    obtain ⟨z,y,xs,r,ob,es,ep,e,c⟩:=x
    exact ⟨z,y,xs,Paired.mapP r fun p q z=>⟨z.1,ht _ (.inl _) z.2.1,z.2.2⟩,ob,es,ep,k _ _ (.inl rfl) e,c⟩
  | dE kvs ep =>
    obtain ⟨z,y,xs,r,ob,es,e,c⟩:=x
    exact ⟨z,y,xs,Paired.mapP r fun p q z=>⟨z.1,ht _ (.inl _) z.2.1,z.2.2⟩,ob,es,k _ _ (.inl rfl) e,c⟩
  | set S n=>obtain ⟨ob,es,ep,t,e,c⟩:=x; exact ⟨ob,es,ep,t,k _ _ (.inl rfl) e,c⟩
  | ins C dx fs =>
    obtain ⟨d,z,ne,e,mA,⟨od,es,ep,e2,c⟩,r⟩:=x
    exact ⟨ho _ d,z,ne,k _ _ (.inl rfl) e,mA,⟨od,es,ep,k _ _ (.inr d) e2,c⟩,r⟩
  | own y=>obtain ⟨ob,e⟩:=x; exact ⟨ob,k _ _ (.inl rfl) e⟩
  | xd fs=>obtain ⟨mA,⟨od,es,ep,e,c⟩,r⟩:=x; exact ⟨mA,⟨od,es,ep,k _ _ (.inl rfl) e,c⟩,r⟩
  | rng lo hi=>obtain ⟨t,u,v,e⟩:=x; exact ⟨t,u,v,k _ _ (.inl rfl) e⟩
  | frz ob u ih=>obtain ⟨e,q⟩:=x; exact ⟨k _ _ (.inl rfl) e,ih q⟩
  | tbl ps=>obtain ⟨ts,e,t,c⟩:=x; exact ⟨ts,k _ _ (.inl rfl) e,t,fun pos cv z=>let ⟨c,oc,vs,t,q,t0,z1,z2,z3⟩:=c pos cv z; ⟨c,oc,vs,t,q,t0,z1,ht _ _ z2,z3⟩⟩
  | met f y =>
    have e:h.get? a=some (PySem.W.methodObj (.ref f) (.ref y)):=x
    show h'.get? a=some (PySem.W.methodObj (.ref f) (.ref y))
    exact k a _ (.inl rfl) e
  | ext φ=>obtain ⟨p,⟨o,e⟩,st⟩:=x; exact ⟨st _ _ p fun o q=>k _ _ (.inl rfl) q,⟨o,k _ _ (.inl rfl) e⟩,st⟩
theorem HOk.lt (x:HOk P w H h) (e:H a=some o):a<h.objs.size:=(x a o e).lt
theorem HOk.fresh (x:HOk P w H h) (e:h.objs.size≤a):H a=none:=by
  cases q:H a with
  | none=>rfl
  | some u=>exact absurd (Nat.lt_of_lt_of_le (x.lt q) e) (Nat.lt_irrefl _)
theorem HOk.kept (x:HOk P w H h) (k:∀ b u,h.get? b=some u→h'.get? b=some u):HOk P w H h':=fun a o e =>
  (x a o e).stay (fun b u _ q=>k b u q) (fun _ q=>q) fun _ _ q=>q
theorem HOk.laid (x:HOk P w H h) (k:∀ b u,h.get? b=some u→h'.get? b=some u) (hp:h.objs.size≤a) (new:zbM P w (upd H a o) h' a o):HOk P w (upd H a o) h':=fun b u e=>by
  have hn:=x.fresh hp
  by_cases hb:b=a
  · subst hb; rw [zO] at e; cases e; exact new
  · rw [zaD hb] at e
    exact (x b u e).stay (fun c v _ q=>k c v q) (fun c q=>by rw [zaD (zbf q hn)]; exact q) fun c xs q=>by rw [zaD (zbf q hn)]; exact q
end
def Rd (H:Hp) (a:Addr) (u:HO):Prop:=H a=some u∨∃ o,H a=some (.frz o u)
theorem Rd.ok {P:Program} {w:World} {H:Hp} {h:Heap} {a:Addr} {u:HO} (r:Rd H a u) (x:HOk P w H h):zbM P w H h a u:=by
  rcases r with r | ⟨o,r⟩
  · exact x a u r
  · obtain ⟨_,q⟩:=x a _ r
    exact q
def Mut:Option HO→Prop
  | some (.lst _)=>True
  | some (.dK _)=>True
  | some (.dT _)=>True
  | some (.dE _ _)=>True
  | some (.set _ _)=>True
  | some (.ins _ _ _)=>True
  | some (.ext _)=>True
  | _=>False
section
variable {P:Program} {w:World} {H:Hp} {h h':Heap} {x e:Addr} {o':HO}
theorem HOk.write (ok:HOk P w H h) (mu:Mut (H x)) (he:e=x∨H e=some (.own x)) (k:∀ b u,b≠e→h.get? b=some u→h'.get? b=some u) (heo:∃ u,h'.get? e=some u)
    (new:zbM P w (upd H x o') h' x o'):HOk P w (upd H x o') h':=fun b u q=>by
  have nown:∀ c y,H c=some (.own y)→c≠x:=fun c y r z=>by subst z; rw [r] at mu; exact mu
  have ntup:∀ c xs,H c=some (zmv xs)→c≠x:=fun c xs r z=>by subst z; rw [r] at mu; cases xs <;> exact mu
  by_cases hb:b=x
  · subst hb; rw [zO] at q; cases q; exact new
  · rw [zaD hb] at q
    by_cases hbe:b=e
    · have q':H b=some (.own x):=by
        rcases he with z | z
        · exact absurd (hbe.trans z) hb
        · rw [hbe]; exact z
      rw [q] at q'; cases q'
      obtain ⟨v,hv⟩:=heo
      exact ⟨v,by rw [hbe]; exact hv⟩
    · refine (ok b u q).stay (fun c v hc r=>k c v ?_ r) (fun c r=>by rw [zaD (nown c b r)]; exact r) fun c xs r=>by rw [zaD (ntup c xs r)]; exact r
      rcases hc with rfl | hc
      · exact hbe
      · rintro rfl
        rcases he with z | z
        · exact nown c b hc z
        · rw [hc] at z; cases z; exact hb rfl
end
structure Un (fs ex:List Addr) (H H':Hp) (h h':Heap):Prop where
  keep:∀ b o,h.get? b=some o→H b=none→b ∉ fs→b ∉ ex→h'.get? b=some o
  slot:∀ b o,h.get? b=some o→H b=none→b ∈ fs→b ∉ ex→∃ sl,h'.get? b=some { o with slots:=sl }
  free:∀ b o,h.get? b=some o→H b=none→b ∉ ex→H' b=none
  there:∀ b o,h.get? b=some o→b ∉ ex→∃ o',h'.get? b=some o'
  tups:∀ b xs,H b=some (.tup xs)→H' b=some (.tup xs)
  frzs:∀ b o u,H b=some (.frz o u)→H' b=some (.frz o u)
  tbls:∀ b ps,H b=some (.tbl ps)→∃ more,H' b=some (.tbl (ps ++ more))
section
variable {fs fs' ex ex':List Addr} {H H1 H2:Hp} {h h1 h2 h':Heap} {a x e:Addr} {o:HO}
theorem Un.any (u:Un fs ex H H1 h h1) {b:Addr} {ob:Obj} (q:h.get? b=some ob) (n:H b=none) (hx:b ∉ ex):∃ sl,h1.get? b=some { ob with slots:=sl }:=by
  by_cases hb:b ∈ fs
  · exact u.slot b ob q n hb hx
  · exact ⟨ob.slots,u.keep b ob q n hb hx⟩
theorem Un.trans (a:Un fs ex H H1 h h1) (b:Un fs ex H1 H2 h1 h2):Un fs ex H H2 h h2 where
  keep:=fun c ob q n hc hx=>b.keep c ob (a.keep c ob q n hc hx) (a.free c ob q n hx) hc hx
  slot:=fun c ob q n hc hx=>by
    obtain ⟨sl,e1⟩:=a.slot c ob q n hc hx; obtain ⟨sl',e2⟩:=b.slot c _ e1 (a.free c ob q n hx) hc hx; exact ⟨sl',e2⟩
  free:=fun c ob q n hx=>by
    obtain ⟨o',e1⟩:=a.there c ob q hx; exact b.free c o' e1 (a.free c ob q n hx) hx
  there:=fun c ob q hx=>by
    obtain ⟨o',e1⟩:=a.there c ob q hx; exact b.there c o' e1 hx
  tups:=fun c xs q=>b.tups c xs (a.tups c xs q)
  frzs:=fun c ob xs q=>b.frzs c ob xs (a.frzs c ob xs q)
  tbls:=fun c ps q=>by
    obtain ⟨m1,e1⟩:=a.tbls c ps q; obtain ⟨m2,e2⟩:=b.tbls c _ e1
    exact ⟨m1 ++ m2,by rw [e2,Array.append_assoc]⟩
theorem Un.kept (k:∀ b u,h.get? b=some u→h'.get? b=some u):Un fs ex H H h h' :=
  ⟨fun b ob q _ _ _=>k b ob q,fun b ob q _ _ _=>⟨ob.slots,k b ob q⟩,fun _ _ _ n _=>n,fun b ob q _=>⟨ob,k b ob q⟩,fun _ _ q=>q,fun _ _ _ q=>q,fun _ ps q=>⟨#[],by rw [q]; simp⟩⟩
theorem Un.refl:Un fs ex H H h h:=Un.kept fun _ _ q=>q
theorem Un.laid (k:∀ b u,h.get? b=some u→h'.get? b=some u) (hp:h.objs.size≤a) (hn:H a=none):Un fs ex H (upd H a o) h h' where
  keep:=fun b u q _ _ _=>k b u q
  slot:=fun b u q _ _ _=>⟨u.slots,k b u q⟩
  free:=fun b u q n _=>by rw [zaD (Nat.ne_of_lt (Nat.lt_of_lt_of_le (Heap.lt_size q) hp))]; exact n
  there:=fun b u q _=>⟨u,k b u q⟩
  tups:=fun b xs q=>by rw [zaD (zbf q hn)]; exact q
  frzs:=fun b u xs q=>by rw [zaD (zbf q hn)]; exact q
  tbls:=fun b ps q=>⟨#[],by rw [zaD (zbf q hn),q]; simp⟩
theorem Un.write (mu:Mut (H x)) (he:e=x∨H e=some (.own x)) (k:∀ b u,b≠e→h.get? b=some u→h'.get? b=some u) (heo:∃ u,h'.get? e=some u):Un fs ex H (upd H x o) h h':=by
  have hx:∀ b,H b=none→b≠x:=fun b n z=>by subst z; rw [n] at mu; exact mu
  have hb:∀ b,H b=none→b≠e:=fun b n z=>by
    subst z
    rcases he with r | r
    · exact hx b n r
    · rw [n] at r; cases r
  have hm:∀ b u,H b=some u→¬ Mut (some u)→b≠x:=fun b u q nm z=>by subst z; rw [q] at mu; exact nm mu
  refine ⟨fun b u q n _ _=>k b u (hb b n) q,fun b u q n _ _=>⟨u.slots,k b u (hb b n) q⟩,fun b u q n _=>by rw [zaD (hx b n)]; exact n,fun b u q _=>?_,
    fun b xs q=>by rw [zaD (hm b _ q fun z=>z)]; exact q,fun b u xs q=>by rw [zaD (hm b _ q fun z=>z)]; exact q,fun b ps q=>⟨#[],by rw [zaD (hm b _ q fun z=>z),q]; simp⟩⟩
  by_cases hbe:b=e
  · subst hbe; exact heo
  · exact ⟨u,k b u hbe q⟩
end
def zo7 (g h:Heap) (L:Addr):List (Addr × Obj):=(List.range h.objs.size).filterMap fun a=>if a=L∨(g.get? a).isSome=true then none else (h.get? a).map fun o=>(a,o)
def zee (g h:Heap) (L d:Addr):List (Addr × Obj):=(zo7 g h L).filter fun p=>decide (p.1≠d)
end L2
namespace L2
open PySem PySem.Spec PyProof.Rows
def zli (q:Str):Obj:=⟨.str q 0,none,.freed,#[]⟩
def zjl (base:Heap) (H:Hp):Prop:=∀ P q,base.objs[P]?=some (zli q)→∃ ps,H P=some (.tbl ps)∧ps[0]?=some (.str q 0)
theorem zjl.un {base:Heap} {H H':Hp} (t:zjl base H) (u:∀ b ps,H b=some (.tbl ps)→∃ more,H' b=some (.tbl (ps ++ more))):zjl base H':=fun P q e=>by
  obtain ⟨ps,e1,e2⟩:=t P q e; obtain ⟨more,e3⟩:=u P ps e1; refine ⟨_,e3,?_⟩
  rw [Array.getElem?_append_left (by rw [Array.getElem?_eq_some_iff] at e2; exact e2.1)]
  exact e2
def zrK:Obj:=⟨.none,none,.freed,#[]⟩
def zlW (o:Obj):Option HO→Obj
  | some (.tbl ps)=>match (ps[0]?:Option Value) with
    | some (.str q 0)=>zli q
    | _=>zrK
  | some _=>zrK
  | none=>match o.data with
    | .freed=>zrK
    | _=>o
def nrm (h:Heap) (H:Hp):Heap:=⟨h.objs.mapIdx fun a o=>zlW o (H a),h.life⟩
theorem zlV (h:Heap) (H:Hp):(nrm h H).objs.size=h.objs.size:=by unfold nrm; simp
theorem zkg (h:Heap) (H:Hp) (b:Addr):(nrm h H).objs[b]?=(h.objs[b]?).map fun o=>zlW o (H b):=by unfold nrm; simp
theorem zeQ {h:Heap} {b:Addr} {o:Obj} (e:h.objs[b]?=some o) (n:o.data≠.freed):h.get? b=some o:=by
  unfold Heap.get?
  rw [e]; obtain ⟨c,d,dt,sl⟩:=o
  cases dt <;> first | rfl | exact absurd rfl n
theorem zeJ {h:Heap} {b:Addr} {o:Obj} (e:h.get? b=some o):h.objs[b]?=some o∧o.data≠.freed:=by
  unfold Heap.get? at e
  cases q:h.objs[b]? with
  | none=>rw [q] at e; cases e
  | some u =>
    rw [q] at e; obtain ⟨c,d,dt,sl⟩:=u
    cases dt <;> first | (cases e; exact ⟨rfl,fun z=>nomatch z⟩) | cases e
theorem zos {h:Heap} {H:Hp} {b:Addr} {o:Obj} (e:h.get? b=some o) (n:H b=none):(nrm h H).get? b=some o:=by
  obtain ⟨e1,e2⟩:=zeJ e; refine zeQ ?_ e2; rw [zkg,e1,n]
  show some (zlW o none)=some o
  obtain ⟨c,d,dt,sl⟩:=o
  cases dt <;> first | rfl | exact absurd rfl e2
theorem zqt {h:Heap} {H:Hp} {b:Addr} {o:Obj} (e:(nrm h H).get? b=some o):h.get? b=some o∧H b=none:=by
  obtain ⟨e1,e2⟩:=zeJ e; rw [zkg] at e1
  cases q:h.objs[b]? with
  | none=>rw [q] at e1; cases e1
  | some u =>
    rw [q] at e1
    have e3:zlW u (H b)=o:=Option.some.inj e1
    cases z:H b with
    | some t =>
      rw [z] at e3
      exfalso
      unfold zlW at e3; split at e3
      · split at e3 <;> exact e2 (by rw [← e3]; rfl)
      · exact e2 (by rw [← e3]; rfl)
      · rename_i y; cases y
    | none =>
      rw [z] at e3; refine ⟨?_,rfl⟩; obtain ⟨c,d,dt,sl⟩:=u; unfold zlW at e3
      cases dt <;> first | (cases e3; exact zeQ q fun y=>nomatch y) | exact absurd (show o.data=.freed by rw [← e3]; rfl) e2
theorem zlU (h:Heap) (H:Hp):zjl (nrm h H) H:=fun P q e=>by
  rw [zkg] at e
  cases z:h.objs[P]? with
  | none=>rw [z] at e; cases e
  | some u =>
    rw [z] at e
    have e3:zlW u (H P)=zli q:=Option.some.inj e
    cases y:H P with
    | none =>
      rw [y] at e3
      exfalso
      obtain ⟨c,d,dt,sl⟩:=u; unfold zlW zli zrK at e3
      cases dt <;> cases e3
    | some t =>
      rw [y] at e3; unfold zlW at e3; split at e3
      · rename_i ps hps
        cases hps; split at e3
        · rename_i q' hq
          cases e3; exact ⟨_,rfl,hq⟩
        · cases e3
      · cases e3
      · rename_i hh; cases hh
structure Mod (K:PySem.W.Frag) (mg:Str→Option Value) (base:Heap):Prop where
  kin:K.In base
  glob:base.Ns mainGlobals mg
  blt:∃ mb,base.Ns builtinsNs mb∧∀ x:Str,x≠"__name__"→mb x=bootBuiltins x
  nolimit:base.NoLimit
  bm:∃ bm ob,mg "__builtins__"=some (.ref bm)∧bm≠builtinsNs∧base.get? bm=some ob∧ob.cls=.type "module"∧ob.dict=some builtinsNs∧ob.data=.plain
/-- the context: a def's body (or a comprehension's block) running. base: fixed through the whole law; s₀, H₀: the entry; outer: the frames whose slots others may change (a def's callers); stack: all frames that run;
   ex: iterators that were made ahead of the entry and are walked here (a comprehension's); fn: the names whose cells were made at the entry (a def: all; a comprehension's block: its own); calm: not within an except suite; pn: pins that every state bears; xe: what is wanted of an exception that leaves the code -/
structure Cx where
  prog:Program
  w:World
  K:PySem.W.Frag
  mg:Str→Option Value
  base:Heap
  A:Around
  N:List Str
  s₀:Shared
  H₀:Hp
  env:Env
  outer:List Env
  stack:List Env
  ex:List Addr
  fn:Str→Bool
  calm:Bool
  pn:List (Addr × Obj)
  xe:Value→Shared→Prop
def frs (l:List Env):List Addr:=l.filterMap (·.frame)
abbrev Cx.fs (X:Cx):List Addr:=frs X.outer
def Vis (sc:Scope) (x:Str):Prop:=sc.names.lookup x=some .local∨sc.names.lookup x=some .cell∨sc.names.lookup x=some .free
def Loc (sc:Scope) (x:Str):Prop:=sc.names.lookup x=some .local∨sc.names.lookup x=some .cell
def zt8 (env:Env) (h:Heap) (m:Str→Option Value) (x:Str) (u:Value):Prop :=
  (env.kindOf x=some .local∧m x=some u)∨((env.kindOf x=some .cell∨env.kindOf x=some .free)∧∃ c,env.cells.lookup x=some c∧h.IsCell c (some u))
structure Cx.Ok (X:Cx):Prop where
  mod:Mod X.K X.mg X.base
  kind:X.env.scope.kind=.function
  glob:X.env.globals=mainGlobals
  blt:X.env.builtins=builtinsNs
  above:X.s₀.heap.objs.size≤X.env.locals
  inj:∀ x y c,X.env.cells.lookup x=some c→X.env.cells.lookup y=some c→x=y
  has:∀ x,(X.env.kindOf x=some .cell∨X.env.kindOf x=some .free)→∃ c,X.env.cells.lookup x=some c
  cab:∀ x c,X.fn x=true→X.env.cells.lookup x=some c→X.s₀.heap.objs.size≤c
  hd:X.calm=true→X.A.handled=none
  frames:X.A.frames=some X.stack
  stk:X.stack=X.outer∨(X.stack=X.env :: X.outer∧X.env.frame=some X.env.locals)
  exf:∀ b ∈ X.ex,b≠X.env.locals∧∀ x c,X.env.cells.lookup x=some c→c≠b
  bs:∀ b o,X.base.get? b=some o→X.s₀.heap.get? b=some o∧X.H₀ b=none
  bsz:X.base.objs.size≤X.s₀.heap.objs.size
  noex:∀ b o,X.base.get? b=some o→b ∉ X.ex
  exfs:∀ b ∈ X.ex,b ∉ X.fs
  funs:X.s₀.heap.FunFrames X.base X.outer
  frf:∀ b ∈ X.fs,X.H₀ b=none
  tab:zjl X.base X.H₀
structure Inv (X:Cx) (pins:List (Addr × Obj)) (σ:List (Option V)) (H:Hp) (s:Shared):Prop where
  ok:X.Ok
  os:s.os=X.s₀.os
  bare:AllBare s.gens
  base:Un X.fs X.ex X.H₀ H X.s₀.heap s.heap
  loc:∃ m,s.heap.Ns X.env.locals m∧∀ (i:Nat) (x:Str) (v:V),X.N[i]?=some x→σ[i]?=some (some v)→Vis X.env.scope x→∃ u,zbi v u∧zt8 X.env s.heap m x u
  cell:∀ x c,X.env.cells.lookup x=some c→∃ v,s.heap.IsCell c v
  free:H X.env.locals=none
  freeC:∀ x c,X.env.cells.lookup x=some c→H c=none
  pin:∀ p ∈ X.pn ++ pins,s.heap.get? p.1=some p.2∧H p.1=none∧p.1≠X.env.locals∧p.1 ∉ X.fs∧∀ v,p.2.data≠.cell v
  hok:HOk X.prog X.w H s.heap
  len:σ.length=X.N.length
section
variable {X:Cx} {pins:List (Addr × Obj)} {σ:List (Option V)} {H H':Hp} {s:Shared} {h':Heap}
theorem Cx.Ok.nofr (ok:X.Ok) {b:Addr} {o:Obj} (e:X.base.get? b=some o):b ∉ X.fs:=fun hb=>by
  have:=(ok.funs.mem hb).1
  rw [e] at this; cases this
theorem Inv.bs (I:Inv X pins σ H s):∀ b o,X.base.get? b=some o→s.heap.get? b=some o∧H b=none:=fun b o e =>
  ⟨I.base.keep b o (I.ok.bs b o e).1 (I.ok.bs b o e).2 (I.ok.nofr e) (I.ok.noex b o e),I.base.free b o (I.ok.bs b o e).1 (I.ok.bs b o e).2 (I.ok.noex b o e)⟩
theorem Inv.bk (I:Inv X pins σ H s):∀ b o,X.base.get? b=some o→s.heap.get? b=some o:=fun b o e=>(I.bs b o e).1
theorem Inv.mod (I:Inv X pins σ H s):Mod X.K X.mg X.base:=I.ok.mod
theorem Inv.kIn (I:Inv X pins σ H s):X.K.In s.heap:=I.ok.mod.kin.keeps I.bk
theorem Inv.lt (I:Inv X pins σ H s):X.env.locals<s.heap.objs.size:=let ⟨_,hn,_⟩:=I.loc; hn.lt
theorem Inv.sz (I:Inv X pins σ H s):X.s₀.heap.objs.size≤s.heap.objs.size:=Nat.le_trans I.ok.above (Nat.le_of_lt I.lt)
theorem Inv.nofs (I:Inv X pins σ H s) {a:Addr} (h:s.heap.objs.size≤a):a ∉ X.fs:=fun hb=>by
  obtain ⟨_,o,ho,_⟩:=I.ok.funs.mem hb; exact absurd (Nat.lt_of_lt_of_le (Heap.lt_size ho) (Nat.le_trans I.sz h)) (Nat.lt_irrefl _)
theorem Inv.cne (I:Inv X pins σ H s):∀ x c,X.env.cells.lookup x=some c→c≠X.env.locals:=fun x c e z=>by
  obtain ⟨v,o,ho,hd⟩:=I.cell x c e
  obtain ⟨m,⟨o',es,ep,ho',hd',_⟩,_⟩:=I.loc
  rw [z,ho'] at ho; cases ho; rw [hd'] at hd; cases hd
theorem Inv.funs (I:Inv X pins σ H s):s.heap.FunFrames X.base X.outer:=by
  have all:∀ (l:List Env),(∀ b ∈ frs l,b ∈ X.fs)→X.s₀.heap.FunFrames X.base l→s.heap.FunFrames X.base l:=by
    intro l
    induction l with
    | nil=>intro _ _; trivial
    | cons env r ih =>
      intro hs hl
      obtain ⟨hk,⟨L,o,hf,hn,ho,hd⟩,hr⟩:=hl
      have hL:L ∈ X.fs:=hs L (by unfold frs; rw [List.filterMap_cons,hf]; exact List.mem_cons_self)
      obtain ⟨sl,e⟩:=I.base.slot L o ho (I.ok.frf L hL) hL fun z=>I.ok.exfs L z hL
      exact ⟨hk,⟨L,_,hf,hn,e,hd⟩,ih (fun b hb=>hs b (by unfold frs; rw [List.filterMap_cons,hf]; exact List.mem_cons_of_mem _ hb)) hr⟩
  exact all X.outer (fun _ hb=>hb) I.ok.funs
theorem Inv.stack (I:Inv X pins σ H s):s.heap.FunFrames X.base X.stack:=by
  rcases I.ok.stk with e | ⟨e,hf⟩
  · rw [e]; exact I.funs
  · rw [e]
    obtain ⟨m,hn,_⟩:=I.loc
    refine .cons (by rw [I.ok.kind]; decide) hf hn ?_ I.funs
    exact Heap.get?_none_of_le (Nat.le_trans I.ok.bsz I.ok.above)
theorem Inv.stkSub (I:Inv X pins σ H s):∀ b ∈ frs X.stack,b ∈ X.env.locals :: X.fs:=fun b hb=>by
  rcases I.ok.stk with e | ⟨e,hf⟩
  · rw [e] at hb; exact List.mem_cons_of_mem _ hb
  · rw [e] at hb
    unfold frs at hb; rw [List.filterMap_cons,hf] at hb; exact hb
theorem Inv.stkFree (I:Inv X pins σ H s):∀ b ∈ frs X.stack,H b=none:=fun b hb=>by
  rcases List.mem_cons.mp (I.stkSub b hb) with e | hb
  · rw [e]; exact I.free
  · obtain ⟨_,o,ho,_⟩:=I.ok.funs.mem hb
    exact I.base.free b o ho (I.ok.frf b hb) fun z=>I.ok.exfs b z hb
theorem Inv.step {g':Array GenState} {t':Nat} {d':Drawn} {ch:List Addr} (I:Inv X pins σ H s)
    (hch:∀ b ∈ ch,(b ∈ X.ex∨X.s₀.heap.objs.size≤b)∧b≠X.env.locals∧(∀ x c,X.env.cells.lookup x=some c→c≠b)∧∀ p ∈ X.pn ++ pins,p.1≠b)
    (keep:∀ b o,b≠X.env.locals→b ∉ X.fs→b ∉ ch→s.heap.get? b=some o→H b=none→h'.get? b=some o)
    (slot:∀ b o,b≠X.env.locals→b ∈ X.fs→b ∉ ch→s.heap.get? b=some o→H b=none→∃ sl,h'.get? b=some { o with slots:=sl }) (free:∀ b o,b ∉ ch→s.heap.get? b=some o→H b=none→H' b=none)
    (there:∀ b o,b ∉ ch→s.heap.get? b=some o→∃ o',h'.get? b=some o')
    (tups:∀ b xs,H b=some (.tup xs)→H' b=some (.tup xs)) (frzs:∀ b o u,H b=some (.frz o u)→H' b=some (.frz o u)) (tbls:∀ b ps,H b=some (.tbl ps)→∃ more,H' b=some (.tbl (ps ++ more)))
    (ns:∀ m,s.heap.Ns X.env.locals m→h'.Ns X.env.locals m) (hok:HOk X.prog X.w H' h') (hg:AllBare g') :
    Inv X pins σ H' { s with heap:=h',gens:=g',drawn:=d',toks:=t' }:=by
  have neL:∀ b o,X.s₀.heap.get? b=some o→b≠X.env.locals:=fun b o e=>Nat.ne_of_lt (Nat.lt_of_lt_of_le (Heap.lt_size e) I.ok.above)
  have neC:∀ b o,X.s₀.heap.get? b=some o→b ∉ X.ex→b ∉ ch:=fun b o e hx hb=>by
    rcases (hch b hb).1 with z | z
    · exact hx z
    · exact absurd (Nat.lt_of_lt_of_le (Heap.lt_size e) z) (Nat.lt_irrefl _)
  have cellK:∀ x c,X.env.cells.lookup x=some c→∀ v,s.heap.IsCell c v→h'.IsCell c v:=fun x c e v ⟨o,ho,hd⟩=>by
    have nch:c ∉ ch:=fun z=>(hch c z).2.2.1 x c e rfl
    by_cases hc:c ∈ X.fs
    · obtain ⟨sl,q⟩:=slot c o (I.cne x c e) hc nch ho (I.freeC x c e)
      exact ⟨_,q,hd⟩
    · exact ⟨o,keep c o (I.cne x c e) hc nch ho (I.freeC x c e),hd⟩
  refine ⟨I.ok,I.os,hg,⟨fun b o e n hb hx=>?_,fun b o e n hb hx=>?_,fun b o e n hx=>?_,fun b o e hx=>?_,fun b xs e=>tups b xs (I.base.tups b xs e),fun b o xs e=>frzs b o xs (I.base.frzs b o xs e),fun b ps e=>?_⟩,?_,fun x c e=>?_,?_,fun x c e=>?_,fun p hp=>?_,hok,I.len⟩
  · exact keep b o (neL b o e) hb (neC b o e hx) (I.base.keep b o e n hb hx) (I.base.free b o e n hx)
  · obtain ⟨sl,e1⟩:=I.base.slot b o e n hb hx
    obtain ⟨sl',e2⟩:=slot b _ (neL b o e) hb (neC b o e hx) e1 (I.base.free b o e n hx); exact ⟨sl',e2⟩
  · obtain ⟨o',e1⟩:=I.base.there b o e hx
    exact free b o' (neC b o e hx) e1 (I.base.free b o e n hx)
  · obtain ⟨o',e1⟩:=I.base.there b o e hx
    exact there b o' (neC b o e hx) e1
  · obtain ⟨m1,e1⟩:=I.base.tbls b ps e
    obtain ⟨m2,e2⟩:=tbls b _ e1
    exact ⟨m1 ++ m2,by rw [e2,Array.append_assoc]⟩
  · obtain ⟨m,hn,hl⟩:=I.loc
    refine ⟨m,ns m hn,fun i x v e1 e2 e3=>?_⟩
    obtain ⟨u,r,l⟩:=hl i x v e1 e2 e3; refine ⟨u,r,?_⟩
    rcases l with l | ⟨k,c,e,z⟩
    · exact .inl l
    · exact .inr ⟨k,c,e,cellK x c e _ z⟩
  · obtain ⟨v,z⟩:=I.cell x c e
    exact ⟨v,cellK x c e v z⟩
  · obtain ⟨m,⟨o,_,_,ho,_⟩,_⟩:=I.loc
    exact free _ o (fun z=>(hch _ z).2.1 rfl) ho I.free
  · obtain ⟨v,o,ho,hd⟩:=I.cell x c e
    exact free c o (fun z=>(hch c z).2.2.1 x c e rfl) ho (I.freeC x c e)
  · obtain ⟨e,n,ne,nf,d⟩:=I.pin p hp
    have nch:p.1 ∉ ch:=fun z=>(hch p.1 z).2.2.2 p hp rfl
    exact ⟨keep p.1 p.2 ne nf nch e n,free p.1 p.2 nch e n,ne,nf,d⟩
theorem Inv.un {t':Nat} (I:Inv X pins σ H s) (u:Un X.fs [] H H' s.heap h') (hok:HOk X.prog X.w H' h'):Inv X pins σ H' { s with heap:=h',toks:=t' }:=by
  obtain ⟨m,⟨o,es,ep,ho,r⟩,_⟩:=id I.loc
  obtain ⟨sl,hL⟩:=u.any ho I.free (by simp)
  exact I.step (g':=s.gens) (d':=s.drawn) (ch:=[]) (fun _ z=>nomatch z) (fun b o _ hb _ e n=>u.keep b o e n hb (by simp)) (fun b o _ hb _ e n=>u.slot b o e n hb (by simp)) (fun b o _ e n=>u.free b o e n (by simp)) (fun b o _ e=>u.there b o e (by simp)) u.tups u.frzs u.tbls (fun m' hm=>by
    obtain ⟨o',es',ep',ho',r'⟩:=hm
    rw [ho] at ho'; cases ho'
    exact ⟨_,es',ep',hL,r'⟩) hok I.bare
theorem Inv.call {g':Array GenState} {t':Nat} {d':Drawn} {ch:List Addr} (I:Inv X pins σ H s) (u:Un (frs X.stack) ch H H' s.heap h') (hok:HOk X.prog X.w H' h') (hg:AllBare g')
    (hch:∀ b ∈ ch,(b ∈ X.ex∨X.s₀.heap.objs.size≤b)∧b≠X.env.locals∧(∀ x c,X.env.cells.lookup x=some c→c≠b)∧∀ p ∈ X.pn ++ pins,p.1≠b) :
    Inv X pins σ H' { s with heap:=h',gens:=g',drawn:=d',toks:=t' }:=by
  obtain ⟨m,⟨o,es,ep,ho,r⟩,_⟩:=id I.loc
  obtain ⟨sl,hL⟩:=u.any ho I.free fun z=>(hch _ z).2.1 rfl
  exact I.step (ch:=ch) hch (fun b o hL hb hc e n=>u.keep b o e n (fun z=>(List.mem_cons.mp (I.stkSub b z)).elim hL hb) hc) (fun b o _ _ hc e n=>u.any e n hc) (fun b o hc e n=>u.free b o e n hc) (fun b o hc e=>u.there b o e hc) u.tups u.frzs u.tbls (fun m' hm=>by
    obtain ⟨o',es',ep',ho',r'⟩:=hm
    rw [ho] at ho'; cases ho'
    exact ⟨_,es',ep',hL,r'⟩) hok hg
theorem Inv.turned {t':Nat} {it:Addr} (I:Inv X pins σ H s) (k:∀ b o,b≠it→s.heap.get? b=some o→h'.get? b=some o) (hn:H it=none) (hL:it≠X.env.locals)
    (h1:it ∈ X.ex∨X.s₀.heap.objs.size≤it) (h2:∀ x c,X.env.cells.lookup x=some c→c≠it) (h3:∀ p ∈ X.pn ++ pins,p.1≠it):Inv X pins σ H { s with heap:=h',toks:=t' }:=by
  have nit:∀ b u,H b=some u→b≠it:=fun b u e z=>by rw [z,hn] at e; cases e
  refine I.step (g':=s.gens) (d':=s.drawn) (ch:=[it]) (fun b hb=>?_) (fun b o _ _ hc e _=>k b o (fun z=>hc (by simp [z])) e) (fun b o _ _ hc e _=>⟨o.slots,k b o (fun z=>hc (by simp [z])) e⟩) (fun _ _ _ _ n=>n)
    (fun b o hc e=>⟨o,k b o (fun z=>hc (by simp [z])) e⟩) (fun _ _ e=>e) (fun _ _ _ e=>e) (fun b ps e=>⟨#[],by rw [e]; simp⟩) (fun m hm=>?_) (fun b u e=>?_) I.bare
  · have e:b=it:=by simpa using hb
    subst e; exact ⟨h1,hL,h2,h3⟩
  · obtain ⟨o,es,ep,ho,r⟩:=hm
    exact ⟨o,es,ep,k _ o (Ne.symm hL) ho,r⟩
  · refine (I.hok b u e).stay (fun c v hc q=>k c v ?_ q) (fun _ q=>q) fun _ _ q=>q
    rcases hc with z | z
    · rw [z]; exact nit b u e
    · exact nit c _ z
theorem Inv.tok (I:Inv X pins σ H s) (t:Nat):Inv X pins σ H { s with toks:=t }:=I.un (h':=s.heap) (t':=t) Un.refl I.hok
theorem Inv.kept {t':Nat} (I:Inv X pins σ H s) (k:∀ b u,s.heap.get? b=some u→h'.get? b=some u):Inv X pins σ H { s with heap:=h',toks:=t' }:=I.un (Un.kept k) (I.hok.kept k)
theorem Inv.laid {a:Addr} {o:HO} {t':Nat} (I:Inv X pins σ H s) (k:∀ b u,s.heap.get? b=some u→h'.get? b=some u) (hp:s.heap.objs.size≤a) (new:zbM X.prog X.w (upd H a o) h' a o) :
    Inv X pins σ (upd H a o) { s with heap:=h',toks:=t' }:=I.un (Un.laid k hp (I.hok.fresh hp)) (I.hok.laid k hp new)
theorem Inv.write {x e:Addr} {o:HO} {t':Nat} (I:Inv X pins σ H s) (mu:Mut (H x)) (he:e=x∨H e=some (.own x)) (k:∀ b u,b≠e→s.heap.get? b=some u→h'.get? b=some u) (heo:∃ u,h'.get? e=some u)
    (new:zbM X.prog X.w (upd H x o) h' x o):Inv X pins σ (upd H x o) { s with heap:=h',toks:=t' }:=I.un (Un.write mu he k heo) (I.hok.write mu he k heo new)
theorem Inv.pins_of {pins':List (Addr × Obj)} (I:Inv X pins σ H s) (h:∀ p ∈ pins',s.heap.get? p.1=some p.2∧H p.1=none∧p.1≠X.env.locals∧p.1 ∉ X.fs∧∀ v,p.2.data≠.cell v):Inv X pins' σ H s :=
  ⟨I.ok,I.os,I.bare,I.base,I.loc,I.cell,I.free,I.freeC,fun p hp=>(List.mem_append.mp hp).elim (fun z=>I.pin p (List.mem_append_left _ z)) (h p),I.hok,I.len⟩
theorem zio {N:List Str} (hN:N.Nodup) {i j:Nat} {x:Str} (a:N[i]?=some x) (b:N[j]?=some x):i=j:=by
  obtain ⟨h1,e1⟩:=List.getElem?_eq_some_iff.mp a; obtain ⟨h2,e2⟩:=List.getElem?_eq_some_iff.mp b; exact (List.getElem_inj hN).mp (e1.trans e2.symm)
theorem zgj {M:Model} {A:Around} {E:Value→Shared→Prop} {i:Nat} {x:Str} {v:V} {u:Value} {Q:Unit→Shared→Prop} (I:Inv X pins σ H s) (hN:X.N.Nodup) (hi:X.N[i]?=some x) (hx:Loc X.env.scope x) (r:zbi v u)
    (h:∀ s',Inv X pins (σ.set i (some v)) H s'→(∃ a,Heap.SameBut a s.heap s'.heap∧(a=X.env.locals∨X.env.cells.lookup x=some a))→Q () s') (hf:X.fn x=true∨X.env.scope.names.lookup x=some .local:=by first | exact .inl rfl | exact .inr rfl | assumption):wpAny M A (storeName X.env x u) Q E s:=by
  obtain ⟨m,hn,hl⟩:=id I.loc
  have hcls:(X.env.scope.kind == .class || (X.env.scope.kind == .module && X.env.locals != X.env.globals))=false:=by rw [I.ok.kind]; rfl
  have hiσ:i<σ.length:=by rw [I.len]; exact (List.getElem?_eq_some_iff.mp hi).1
  have cne:=I.cne
  have tracked:∀ {a:Addr} {h':Heap},(∃ o,s.heap.get? a=some o∧H a=none)→Heap.SameBut a s.heap h'→HOk X.prog X.w H h':=fun {a h'} ha hs b ob e=>by
    obtain ⟨_,_,hfree⟩:=ha
    refine (I.hok b ob e).stay (fun c w' hc q=>(hs.2 c ?_).trans q) (fun _ q=>q) fun _ _ q=>q
    rintro rfl
    rcases hc with rfl | hc
    · rw [hfree] at e; cases e
    · rw [hfree] at hc; cases hc
  rcases hx with hk | hk
  · refine wpAny_storeName_local hk hn (fun h' hn' hs=>?_) hcls
    obtain ⟨oL,_,_,hoL,_⟩:=id hn
    refine h _ ⟨I.ok,I.os,I.bare,⟨fun b o e n hb hx=>?_,fun b o e n hb hx=>?_,I.base.free,fun b o e hx=>?_,I.base.tups,I.base.frzs,I.base.tbls⟩,⟨_,hn',fun j y v' e1 e2 e3=>?_⟩,fun y c e=>?_,I.free,I.freeC,fun p hp=>?_,tracked ⟨oL,hoL,I.free⟩ hs,by simpa using I.len⟩ ⟨_,hs,.inl rfl⟩
    · exact (hs.2 b (Nat.ne_of_lt (Nat.lt_of_lt_of_le (Heap.lt_size e) I.ok.above))).trans (I.base.keep b o e n hb hx)
    · obtain ⟨sl,e1⟩:=I.base.slot b o e n hb hx
      exact ⟨sl,(hs.2 b (Nat.ne_of_lt (Nat.lt_of_lt_of_le (Heap.lt_size e) I.ok.above))).trans e1⟩
    · obtain ⟨o',e1⟩:=I.base.there b o e hx
      exact ⟨o',(hs.2 b (Nat.ne_of_lt (Nat.lt_of_lt_of_le (Heap.lt_size e) I.ok.above))).trans e1⟩
    · by_cases hj:j=i
      · subst hj
        rw [hi] at e1; cases e1
        rw [List.getElem?_set_self hiσ] at e2; cases e2
        exact ⟨u,r,.inl ⟨hk,by simp⟩⟩
      · rw [List.getElem?_set_ne (Ne.symm hj)] at e2
        obtain ⟨u',r',q⟩:=hl j y v' e1 e2 e3; refine ⟨u',r',?_⟩
        rcases q with ⟨k,e⟩ | ⟨k,c,e,z⟩
        · refine .inl ⟨k,?_⟩
          have:y≠x:=fun e=>hj (zio hN e1 (e ▸ hi))
          simp [this,e]
        · exact .inr ⟨k,c,e,z.sameBut hs (cne y c e)⟩
    · obtain ⟨w',z⟩:=I.cell y c e
      exact ⟨w',z.sameBut hs (cne y c e)⟩
    · obtain ⟨e,n,ne,nf,d⟩:=I.pin p hp
      exact ⟨(hs.2 p.1 ne).trans e,n,ne,nf,d⟩
  · have hfn:X.fn x=true:=by
      rcases hf with z | z
      · exact z
      · rw [z] at hk; cases hk
    obtain ⟨c,hc⟩:=I.ok.has x (.inl hk); obtain ⟨w',z⟩:=I.cell x c hc
    refine wpAny_storeName_cell I.ok.kind hk hc z (fun h' hc' hs=>?_)
    obtain ⟨oc,hoc,hocd⟩:=id z
    refine h { s with heap:=h' } ⟨I.ok,I.os,I.bare,⟨fun b o e n hb hx=>?_,fun b o e n hb hx=>?_,I.base.free,fun b o e hx=>?_,I.base.tups,I.base.frzs,I.base.tbls⟩,⟨m,hn.sameBut hs (Ne.symm (cne x c hc)),fun j y v' e1 e2 e3=>?_⟩,fun y c' e=>?_,I.free,I.freeC,fun p hp=>?_,tracked ⟨oc,hoc,I.freeC x c hc⟩ hs,by simpa using I.len⟩ ⟨c,hs,.inr hc⟩
    · exact (hs.2 b (Nat.ne_of_lt (Nat.lt_of_lt_of_le (Heap.lt_size e) (I.ok.cab x c hfn hc)))).trans (I.base.keep b o e n hb hx)
    · obtain ⟨sl,e1⟩:=I.base.slot b o e n hb hx
      exact ⟨sl,(hs.2 b (Nat.ne_of_lt (Nat.lt_of_lt_of_le (Heap.lt_size e) (I.ok.cab x c hfn hc)))).trans e1⟩
    · obtain ⟨o',e1⟩:=I.base.there b o e hx
      exact ⟨o',(hs.2 b (Nat.ne_of_lt (Nat.lt_of_lt_of_le (Heap.lt_size e) (I.ok.cab x c hfn hc)))).trans e1⟩
    · by_cases hj:j=i
      · subst hj
        rw [hi] at e1; cases e1
        rw [List.getElem?_set_self hiσ] at e2; cases e2; exact ⟨u,r,.inr ⟨.inl hk,c,hc,hc'⟩⟩
      · rw [List.getElem?_set_ne (Ne.symm hj)] at e2
        obtain ⟨u',r',q⟩:=hl j y v' e1 e2 e3; refine ⟨u',r',?_⟩
        rcases q with q | ⟨k,c',e,z'⟩
        · exact .inl q
        · refine .inr ⟨k,c',e,z'.sameBut hs ?_⟩
          rintro rfl
          exact hj (zio hN e1 (I.ok.inj _ _ _ e hc ▸ hi))
    · by_cases hcc:c'=c
      · subst hcc; exact ⟨_,hc'⟩
      · obtain ⟨w2,z2⟩:=I.cell y c' e
        exact ⟨w2,z2.sameBut hs hcc⟩
    · obtain ⟨e,n,ne,nf,d⟩:=I.pin p hp
      refine ⟨(hs.2 p.1 ?_).trans e,n,ne,nf,d⟩; intro q; rw [q,hoc] at e
      have q':oc=p.2:=Option.some.inj e
      exact d w' (by rw [← q']; exact hocd)
theorem zh7 {M:Model} {A:Around} {E:Value→Shared→Prop} {i:Nat} {x:Str} {v:V} {u:Value} {Q:Unit→Shared→Prop} (I:Inv X pins σ H s) (hN:X.N.Nodup) (hi:X.N[i]?=some x) (hx:Loc X.env.scope x) (r:zbi v u)
    (h:∀ s',Inv X pins (σ.set i (some v)) H s'→Q () s') (hf:X.fn x=true∨X.env.scope.names.lookup x=some .local:=by first | exact .inl rfl | exact .inr rfl | assumption):wpAny M A (storeName X.env x u) Q E s :=
  zgj I hN hi hx r (fun s' I' _=>h s' I') hf
theorem Inv.call' {s':Shared} {ch:List Addr} (I:Inv X pins σ H s) (ho:s'.os=s.os) (u:Un (frs X.stack) ch H H' s.heap s'.heap) (hok:HOk X.prog X.w H' s'.heap) (hg:AllBare s'.gens)
    (hch:∀ b ∈ ch,(b ∈ X.ex∨X.s₀.heap.objs.size≤b)∧b≠X.env.locals∧(∀ x c,X.env.cells.lookup x=some c→c≠b)∧∀ p ∈ X.pn ++ pins,p.1≠b):Inv X pins σ H' s':=by
  obtain ⟨h',g',d',t',o'⟩:=s'
  have e:o'=s.os:=ho
  subst e; exact I.call (g':=g') (t':=t') (d':=d') u hok hg hch
end
abbrev XK:=Value→Option Addr→Hp→Prop
abbrev St:=List (Option V)
abbrev VK:=V→Hp→Prop
abbrev TE:=St→Hp→VK→Prop
abbrev TT:=St→Hp→(Bool→Hp→Prop)→Prop
abbrev TA:=St→Hp→(List V→Hp→Prop)→Prop
structure Ends where
  nx:St→Hp→Prop
  rt:VK
  bk:St→Hp→Prop:=fun _ _=>False
  ct:St→Hp→Prop:=fun _ _=>False
abbrev TS:=Ends→St→Hp→Prop
def EP (X:Cx) (pins:List (Addr × Obj)) (σ:St) (Q:VK) (u:Value) (s':Shared):Prop:=∃ v H',Inv X pins σ H' s'∧zbi v u∧Q v H'
def TP (X:Cx) (pins:List (Addr × Obj)) (σ:St) (Q:Bool→Hp→Prop) (b:Bool) (s':Shared):Prop:=∃ H',Inv X pins σ H' s'∧Q b H'
def AP (X:Cx) (pins:List (Addr × Obj)) (σ:St) (Q:List V→Hp→Prop) (us:List Value) (s':Shared):Prop:=∃ vs H',Inv X pins σ H' s'∧za3 vs us∧Q vs H'
def SP (X:Cx) (pins:List (Addr × Obj)) (D:Ends) (f:Flow) (s':Shared):Prop :=
  match f with
  | .next=>∃ σ' H',Inv X pins σ' H' s'∧D.nx σ' H'
  | .brk=>∃ σ' H',Inv X pins σ' H' s'∧D.bk σ' H'
  | .cont=>∃ σ' H',Inv X pins σ' H' s'∧D.ct σ' H'
  | .ret u=>∃ v σ' H',Inv X pins σ' H' s'∧zbi v u∧D.rt v H'
def PE (X:Cx) (e:Expr) (t:TE):Prop :=
  ∀ (pins:List (Addr × Obj)) (s:Shared) (σ:St) (H:Hp) (Q:VK),Inv X pins σ H s→t σ H Q→wpAny (model X.prog X.w) X.A (eval e X.env) (EP X pins σ Q) X.xe s
def PT (X:Cx) (e:Expr) (t:TT):Prop :=
  ∀ (pins:List (Addr × Obj)) (s:Shared) (σ:St) (H:Hp) (Q:Bool→Hp→Prop),Inv X pins σ H s→t σ H Q→wpAny (model X.prog X.w) X.A (isTrue e X.env (eval e X.env)) (TP X pins σ Q) X.xe s
def PW (X:Cx) (e:Expr) (t:TT):Prop :=
  ∀ (whole:Sem Value) (pins:List (Addr × Obj)) (s:Shared) (σ:St) (H:Hp) (Q:Bool→Hp→Prop),Inv X pins σ H s→t σ H Q→wpAny (model X.prog X.w) X.A (isTrue e X.env whole) (TP X pins σ Q) X.xe s
def PA (X:Cx) (es:List Expr) (t:TA):Prop :=
  ∀ (pos:Pos) (pins:List (Addr × Obj)) (s:Shared) (σ:St) (H:Hp) (Q:List V→Hp→Prop),Inv X pins σ H s→t σ H Q→wpAny (model X.prog X.w) X.A (spliced (backTo pos (starEach es X.env))) (AP X pins σ Q) X.xe s
def PS (X:Cx) (st:Stmt) (t:TS):Prop :=
  ∀ (pins:List (Addr × Obj)) (s:Shared) (σ:St) (H:Hp) (D:Ends),Inv X pins σ H s→t D σ H→wpAny (model X.prog X.w) X.A (exec st X.env) (SP X pins D) X.xe s
def PSs (X:Cx) (st:List Stmt) (t:TS):Prop :=
  ∀ (pins:List (Addr × Obj)) (s:Shared) (σ:St) (H:Hp) (D:Ends),Inv X pins σ H s→t D σ H→wpAny (model X.prog X.w) X.A (execs st X.env) (SP X pins D) X.xe s
theorem thn {α:Type} {t:Sem α} {Q Q':α→Shared→Prop} {M:Model} {A:Around} {E:Value→Shared→Prop} {s:Shared} (h:wpAny M A t Q E s) (hQ:∀ a s,Q a s→Q' a s):wpAny M A t Q' E s:=wpAny_mono h hQ fun _ _ x=>x
end L2
namespace L2
open PySem PySem.Spec PyProof.Rows
section
variable {X:Cx}
def ztD (i:Nat):TE:=fun σ H Q=>∃ v,σ[i]?=some (some v)∧Q v H
def tC (v:V):TE:=fun _ H Q=>Q v H
theorem zcX {i:Nat} {x:Str} {pos:Pos} (hN:X.N[i]?=some x) (hv:Vis X.env.scope x) (hd:(x == ("__debug__":Str))=false:=by decide) (hcd:(x == ("__classdict__":Str))=false:=by decide):PE X (.Name x pos) (ztD i):=by
  intro pins s σ H Q I h; obtain ⟨v,e,h⟩:=h; obtain ⟨m,hn,hl⟩:=I.loc; obtain ⟨u,r,l⟩:=hl i x v hN e hv
  have fin:EP X pins σ Q u s:=⟨v,H,I,r,h⟩
  rcases l with ⟨hk,hm⟩ | ⟨hk,c,hc,hcell⟩
  · exact wpAny_Name (wpAny_loadName_local I.ok.kind hk hn hm fin) hd
  · rcases hk with hk | hk
    · exact wpAny_Name (wpAny_loadName_cell I.ok.kind hk hc hcell fin) hd
    · exact wpAny_Name (wpAny_loadName_free I.ok.kind hk hc hcell fin hcd) hd
theorem zj3 {i j pos}:PE X (.Constant (.int i) j pos) (tC (.int i)):=fun _ _ _ H _ I h=>wpAny_Constant_int ⟨.int i,H,I.tok _,⟨_,rfl⟩,h⟩
theorem zsp {b j pos}:PE X (.Constant (.bool b) j pos) (tC (.bl b)):=fun _ _ _ H _ I h=>Constant_bool ⟨.bl b,H,I,rfl,h⟩
theorem zqe {j pos}:PE X (.Constant .none j pos) (tC .non):=fun _ _ _ H _ I h=>Constant_none ⟨.non,H,I,rfl,h⟩
theorem zqb {x j pos}:PE X (.Constant (.str x) j pos) (tC (.str x)):=fun _ _ _ H _ I h=>Calls.Constant_str ⟨.str x,H,I.tok _,⟨_,rfl⟩,h⟩
def Gl (X:Cx) (x:Str):Prop:=X.env.kindOf x=some .globalImplicit
theorem zkp {E:Value→Shared→Prop} {pins:List (Addr × Obj)} {s:Shared} {σ:St} {H:Hp} {x:Str} {u:Value} {pos:Pos} {Q:Value→Shared→Prop} (I:Inv X pins σ H s) (hg:Gl X x) (hm:X.mg x=some u) (h:Q u s)
    (hd:(x == ("__debug__":Str))=false:=by decide):wpAny (model X.prog X.w) X.A (eval (.Name x pos) X.env) Q E s :=
  Calls.Name_function_global I.ok.kind hg (Calls.loadGlobal_global (by rw [I.ok.glob]; exact I.mod.glob.keeps I.bk) hm h) hd
theorem zfk {E:Value→Shared→Prop} {pins:List (Addr × Obj)} {s:Shared} {σ:St} {H:Hp} {x:Str} {u:Value} {pos:Pos} {Q:Value→Shared→Prop} (I:Inv X pins σ H s) (hg:Gl X x) (hm:X.mg x=none) (hv:bootBuiltins x=some u) (h:Q u s)
    (hn:x≠"__name__":=by decide) (hd:(x == ("__debug__":Str))=false:=by decide):wpAny (model X.prog X.w) X.A (eval (.Name x pos) X.env) Q E s:=by
  obtain ⟨mb,h1,h2⟩:=I.mod.blt
  exact Calls.Name_function_global I.ok.kind hg (Calls.loadGlobal_builtin (by rw [I.ok.glob]; exact I.mod.glob.keeps I.bk) hm (by rw [I.ok.blt]; exact h1.keeps I.bk) ((h2 x hn).trans hv) h) hd
theorem zhj {x:Str} {v:V} {u:Value} {pos:Pos} (hg:Gl X x) (hm:X.mg x=some u) (r:zbi v u) (hd:(x == ("__debug__":Str))=false:=by decide):PE X (.Name x pos) (tC v) :=
  fun _ _ _ H _ I h=>zkp I hg hm ⟨v,H,I,r,h⟩ hd
theorem zod {x:Str} {v:V} {u:Value} {pos:Pos} (hg:Gl X x) (hm:X.mg x=none) (hv:bootBuiltins x=some u) (r:zbi v u) (hn:x≠"__name__":=by decide) (hd:(x == ("__debug__":Str))=false:=by decide):PE X (.Name x pos) (tC v) :=
  fun _ _ _ H _ I h=>zfk I hg hm hv ⟨v,H,I,r,h⟩ hn hd
variable {a b:Expr} {ta tb:TE} {pos:Pos}
def tB (t:TE):TT:=fun σ H Q=>t σ H fun x H1=>∃ c,x=.bl c∧Q c H1
theorem zp3 {e:Expr} {t:TE} (h:PE X e t) (he:∀ whole,isTrue e X.env whole=(do let v ← whole; standAt e.pos; holding [v] (truthy v)):=by intro _; rfl):PT X e (tB t):=by
  intro pins s σ H Q I hw
  refine isTrue_plain (thn (h pins s σ H _ I hw) fun v s1 ⟨x,H1,I1,r1,q1⟩=>?_) (he _)
  obtain ⟨d,rfl,q⟩:=q1; cases r1; exact wpAny_truthy_bool ⟨H1,I1,q⟩
variable {tA tB':TT} {zee:List Expr}
def ztL (t u:TT):TT:=fun σ H Q=>t σ H fun c H1=>if c=true then u σ H1 Q else Q false H1
def tOr (t u:TT):TT:=fun σ H Q=>t σ H fun c H1=>if c=true then Q true H1 else u σ H1 Q
def ztH (t:TT):TT:=fun σ H Q=>t σ H fun c H1=>Q (!c) H1
theorem znQ (ha:PT X a tA):PW X (.BoolOp .And [a] pos) tA:=by
  intro wh pins s σ H Q I h
  refine isTrue_and (thn (ha pins s σ H Q I h) fun c s1 e=>?_)
  cases c with
  | true=>exact isTrue_and_nil e
  | false=>exact e
theorem zp0 (ha:PT X a tA):PW X (.BoolOp .Or [a] pos) tA:=by
  intro wh pins s σ H Q I h
  refine isTrue_or (thn (ha pins s σ H Q I h) fun c s1 e=>?_)
  cases c with
  | false=>exact isTrue_or_nil e
  | true=>exact e
theorem zp1 (ha:PT X a tA) (hb:PW X (.BoolOp .And (b :: zee) pos) tB'):PW X (.BoolOp .And (a :: b :: zee) pos) (ztL tA tB'):=by
  intro wh pins s σ H Q I h
  refine isTrue_and (thn (ha pins s σ H _ I h) fun c s1 ⟨H1,I1,q1⟩=>?_)
  cases c with
  | true=>exact hb wh pins s1 σ H1 Q I1 q1
  | false=>exact ⟨H1,I1,q1⟩
theorem zsj (ha:PT X a tA) (hb:PW X (.BoolOp .Or (b :: zee) pos) tB'):PW X (.BoolOp .Or (a :: b :: zee) pos) (tOr tA tB'):=by
  intro wh pins s σ H Q I h
  refine isTrue_or (thn (ha pins s σ H _ I h) fun c s1 ⟨H1,I1,q1⟩=>?_)
  cases c with
  | true=>exact ⟨H1,I1,q1⟩
  | false=>exact hb wh pins s1 σ H1 Q I1 q1
theorem zp4 (ha:PT X a tA):PT X (.UnaryOp .Not a pos) (ztH tA):=by
  intro pins s σ H Q I h
  exact isTrue_not (ha pins s σ H (fun c H1=>Q (!c) H1) I h)
def zr3 (ta tb:TE):TE:=fun σ H Q=>ta σ H fun x H1=>∃ c,x=.bl c∧if c=true then tb σ H1 Q else Q (.bl false) H1
theorem zqd {op} {t:TE} (h:PE X a t):PE X (.BoolOp op [a] pos) t:=fun pins s σ H Q I hw=>BoolOp_one (h pins s σ H Q I hw)
theorem zqj (ha:PE X a ta) (hb:PE X (.BoolOp .And (b :: zee) pos) tb):PE X (.BoolOp .And (a :: b :: zee) pos) (zr3 ta tb):=by
  intro pins s σ H Q I h
  refine BoolOp_and (thn (ha pins s σ H _ I h) fun v s1 ⟨x,H1,I1,r1,q1⟩=>?_)
  obtain ⟨c,rfl,q1⟩:=q1; cases r1; refine wpAny_truthy_bool ?_
  cases c with
  | true=>exact hb pins s1 σ H1 Q I1 q1
  | false=>exact ⟨.bl false,H1,I1,rfl,q1⟩
def tIf (t:TT) (ta tb:TE):TE:=fun σ H Q=>t σ H fun c H1=>if c=true then ta σ H1 Q else tb σ H1 Q
theorem zij {c:Expr} (hc:PT X c tA) (ha:PE X a ta) (hb:PE X b tb):PE X (.IfExp c a b pos) (tIf tA ta tb):=by
  intro pins s σ H Q I h
  refine wpAny_IfExp (thn (hc pins s σ H _ I h) fun d s1 ⟨H1,I1,q1⟩=>?_)
  cases d with
  | true=>exact ha pins s1 σ H1 Q I1 q1
  | false=>exact hb pins s1 σ H1 Q I1 q1
end
end L2
namespace L2
open PySem PySem.Spec PyProof.Rows
def SqL (K:PySem.W.Frag) (H:Hp) (a:Addr) (xs:List V):Prop :=
  Rd H a (.lst xs) ∨
    ∃ (o:Obj) (its:Array Value) (n:Nat),K.lookup a=some o∧o.cls=.type "list"∧o.dict=none∧o.data=.seq its n∧its.size≤sizeLine∧za3 xs its.toList
def SqT (K:PySem.W.Frag) (H:Hp) (a:Addr) (xs:List V):Prop :=
  Rd H a (.tup xs) ∨
    ∃ (o:Obj) (its:Array Value) (n:Nat),K.lookup a=some o∧o.cls=.type "tuple"∧o.data=.seq its n∧its.size≤sizeLine∧za3 xs its.toList
def zt5:Value→Option V
  | .none=>some .non
  | .bool b=>some (.bl b)
  | .int i _=>some (.int i)
  | .str x _=>some (.str x)
  | .bytes b _=>some (.byt b)
  | .float b _=>some (.flt b)
  | .ref a=>some (.ref a)
  | .type n=>some (.ty n)
  | _=>none
theorem zbi.abs {x:V} {u:Value} (r:zbi x u):zt5 u=some x:=by
  cases x with
  | non=>cases r; rfl
  | bl _=>cases r; rfl
  | int _=>obtain ⟨t,rfl⟩:=r; rfl
  | str _=>obtain ⟨t,rfl⟩:=r; rfl
  | byt _=>obtain ⟨t,rfl⟩:=r; rfl
  | flt _=>obtain ⟨t,rfl⟩:=r; rfl
  | ref _=>cases r; rfl
  | ty _=>cases r; rfl
theorem zbi.inj {x y:V} {u:Value} (r:zbi x u) (q:zbi y u):x=y:=Option.some.inj (r.abs.symm.trans q.abs)
theorem za3.inj:∀ {xs ys:List V} {us:List Value},za3 xs us→za3 ys us→xs=ys
  | _,_,_,.nil,.nil=>rfl
  | _,_,_,.cons r t,.cons r' t'=>by rw [r.inj r',za3.inj t t']
section
variable {X:Cx} {pins:List (Addr × Obj)} {σ:St} {H:Hp} {s:Shared} {a:Addr} {xs ys:List V}
theorem SqL.of {K:PySem.W.Frag} (h:H a=some (.lst xs)):SqL K H a xs:=.inl (.inl h)
theorem SqT.of {K:PySem.W.Frag} (h:H a=some (.tup xs)):SqT K H a xs:=.inl (.inl h)
theorem Inv.list (I:Inv X pins σ H s) (h:SqL X.K H a xs):∃ its:List Value,za3 xs its∧PlainL s.heap a its.toArray∧xs.length≤sizeLine:=by
  rcases h with h | ⟨o,its,n,hk,hc,hd,hs,hz,r⟩
  · obtain ⟨z,its,n,r,e⟩:=h.ok I.hok
    exact ⟨its,r,⟨_,n,e,rfl,rfl,rfl⟩,z⟩
  · refine ⟨its.toList,r,⟨o,n,I.kIn a o hk,hc,hd,by simpa using hs⟩,?_⟩
    have e:=r.length; simp only [Array.length_toList] at e; omega
theorem Inv.tuple (I:Inv X pins σ H s) (h:SqT X.K H a xs):∃ its:List Value,za3 xs its∧IsTup s.heap a its.toArray∧xs.length≤sizeLine:=by
  rcases h with h | ⟨o,its,n,hk,hc,hs,hz,r⟩
  · obtain ⟨z,its,r,p⟩:=h.ok I.hok
    exact ⟨its,r,p,z⟩
  · refine ⟨its.toList,r,⟨o,I.kIn a o hk,hc,n,by simpa using hs⟩,?_⟩
    have e:=r.length; simp only [Array.length_toList] at e; omega
theorem Inv.list_inj (I:Inv X pins σ H s) (h:SqL X.K H a xs) (h':SqL X.K H a ys):xs=ys:=by
  obtain ⟨its,r,⟨o,n,e,_,_,d⟩,_⟩:=I.list h
  obtain ⟨its',r',⟨o',n',e',_,_,d'⟩,_⟩:=I.list h'
  rw [e] at e'; cases e'
  rw [d] at d'
  injection d' with d1 _
  have:its=its':=by simpa using congrArg Array.toList d1
  subst this; exact r.inj r'
theorem Inv.tuple_inj (I:Inv X pins σ H s) (h:SqT X.K H a xs) (h':SqT X.K H a ys):xs=ys:=by
  obtain ⟨its,r,⟨o,e,_,n,d⟩,_⟩:=I.tuple h
  obtain ⟨its',r',⟨o',e',_,n',d'⟩,_⟩:=I.tuple h'
  rw [e] at e'; cases e'
  rw [d] at d'
  injection d' with d1 _
  have:its=its':=by simpa using congrArg Array.toList d1
  subst this; exact r.inj r'
end
abbrev Cx.wish (X:Cx) (E:Value→Shared→Prop):Cx:={ X with xe:=E }
abbrev Cx.nox (X:Cx):Cx:=X.wish fun _ _=>False
theorem Cx.Ok.wish {X:Cx} (ok:X.Ok) (E:Value→Shared→Prop):(X.wish E).Ok :=
  ⟨ok.mod,ok.kind,ok.glob,ok.blt,ok.above,ok.inj,ok.has,ok.cab,ok.hd,ok.frames,ok.stk,ok.exf,ok.bs,ok.bsz,ok.noex,ok.exfs,ok.funs,ok.frf,ok.tab⟩
theorem Cx.Ok.unwish {X:Cx} {E:Value→Shared→Prop} (ok:(X.wish E).Ok):X.Ok :=
  ⟨ok.mod,ok.kind,ok.glob,ok.blt,ok.above,ok.inj,ok.has,ok.cab,ok.hd,ok.frames,ok.stk,ok.exf,ok.bs,ok.bsz,ok.noex,ok.exfs,ok.funs,ok.frf,ok.tab⟩
section
variable {X:Cx} {pins:List (Addr × Obj)} {σ:St} {H:Hp} {s:Shared} {E:Value→Shared→Prop}
theorem Inv.wish (I:Inv X pins σ H s) (E:Value→Shared→Prop):Inv (X.wish E) pins σ H s:=⟨I.ok.wish E,I.os,I.bare,I.base,I.loc,I.cell,I.free,I.freeC,I.pin,I.hok,I.len⟩
theorem Inv.unwish (I:Inv (X.wish E) pins σ H s):Inv X pins σ H s:=⟨I.ok.unwish,I.os,I.bare,I.base,I.loc,I.cell,I.free,I.freeC,I.pin,I.hok,I.len⟩
theorem SP.unwish {D:Ends} {f:Flow} {s':Shared} (h:SP (X.wish E) pins D f s'):SP X pins D f s':=by
  cases f with
  | next=>obtain ⟨σ',H',I,q⟩:=h; exact ⟨σ',H',I.unwish,q⟩
  | brk=>obtain ⟨σ',H',I,q⟩:=h; exact ⟨σ',H',I.unwish,q⟩
  | cont=>obtain ⟨σ',H',I,q⟩:=h; exact ⟨σ',H',I.unwish,q⟩
  | ret u=>obtain ⟨v,σ',H',I,r,q⟩:=h; exact ⟨v,σ',H',I.unwish,r,q⟩
theorem PSs.nox {st:List Stmt} {t:TS} (h:PSs X.nox st t):PSs X st t:=fun pins s σ H D I hw =>
  wpAny_mono (h pins s σ H D (I.wish _) hw) (fun _ _ q=>q.unwish) fun _ _ z=>False.elim z
end
section
variable {X:Cx} {st:Stmt} {zee:List Stmt} {t u:TS} {e:Expr} {te:TE} {pos:Pos}
def zr0:TS:=fun D σ H=>D.nx σ H
def ztF (t u:TS):TS:=fun D σ H=>t { D with nx:=u D } σ H
theorem znY:PSs X [] zr0:=fun _ _ σ H _ I h=>wpAny_execs_nil ⟨σ,H,I,h⟩
theorem zly (h1:PS X st t) (h2:PSs X zee u):PSs X (st :: zee) (ztF t u):=by
  intro pins s σ H D I h
  refine wpAny_execs_cons (thn (h1 pins s σ H { D with nx:=u D } I h) fun f s1 q=>?_)
  cases f with
  | next =>
    obtain ⟨σ',H',I',q⟩:=q; exact h2 pins s1 σ' H' D I' q
  | ret v=>exact q
  | brk=>exact q
  | cont=>exact q
theorem znX (h1:PS X st t):PSs X [st] t:=by
  intro pins s σ H D I h
  refine wpAny_execs_cons (thn (h1 pins s σ H D I h) fun f s1 q=>?_)
  cases f with
  | next=>exact wpAny_execs_nil q
  | ret v=>exact q
  | brk=>exact q
  | cont=>exact q
theorem Inv.quiet {pins:List (Addr × Obj)} {σ:St} {H:Hp} {s:Shared} (I:Inv X pins σ H s):interactive X.env=false:=by simp [interactive,I.ok.kind]
def zr1 (te:TE):TS:=fun D σ H=>te σ H fun _ H1=>D.nx σ H1
theorem zeE (he:PE X e te) (hs:swapsWith e none pos.line X.env=pure false:=by rfl):PS X (.Expr e pos) (zr1 te):=by
  intro pins s σ H D I h
  exact wpAny_Expr_any (thn (he pins s σ H _ I h) fun v s1 ⟨x,H1,I1,r1,q1⟩=>⟨σ,H1,I1,q1⟩) I.quiet hs
def ztG (te:TE):TS:=fun D σ H=>te σ H D.rt
theorem zif (he:PE X e te):PS X (.Return (some e) pos) (ztG te):=by
  intro pins s σ H D I h
  exact wpAny_Return_some (thn (he pins s σ H _ I h) fun v s1 ⟨x,H1,I1,r1,q1⟩=>⟨x,σ,H1,I1,r1,q1⟩)
def ztJ (c:TT) (t u:TS):TS:=fun D σ H=>c σ H fun b H1=>if b=true then t D σ H1 else u D σ H1
theorem zsk {c:Expr} {a b:List Stmt} {tc:TT} (hc:PT X c tc) (ha:PSs X a t) (hb:PSs X b u):PS X (.If c a b pos) (ztJ tc t u):=by
  intro pins s σ H D I h
  refine wpAny_If (thn (hc pins s σ H _ I h) fun d s1 ⟨H1,I1,q1⟩=>?_)
  cases d with
  | true=>exact ha pins s1 σ H1 D I1 q1
  | false=>exact hb pins s1 σ H1 D I1 q1
end
abbrev TG:=V→St→Hp→(St→Hp→Prop)→Prop
abbrev TGs:=List V→St→Hp→(St→Hp→Prop)→Prop
def PG (X:Cx) (target:Expr) (t:TG):Prop :=
  ∀ (pins:List (Addr × Obj)) (s:Shared) (σ:St) (H:Hp) (v:V) (u:Value) (Q:St→Hp→Prop),Inv X pins σ H s→zbi v u→t v σ H Q →
    wpAny (model X.prog X.w) X.A (assign target X.env u) (fun _ s'=>∃ σ' H',Inv X pins σ' H' s'∧Q σ' H') X.xe s
def PGs (X:Cx) (ts:List Expr) (t:TGs):Prop :=
  ∀ (pins:List (Addr × Obj)) (s:Shared) (σ:St) (H:Hp) (vs:List V) (us:List Value) (Q:St→Hp→Prop),Inv X pins σ H s→za3 vs us→t vs σ H Q →
    wpAny (model X.prog X.w) X.A (assignInOrder ((assignEach ts X.env).map (·.2)) us) (fun _ s'=>∃ σ' H',Inv X pins σ' H' s'∧Q σ' H') X.xe s
abbrev zs2:=V→V→V→Hp→(Hp→Prop)→Prop
def ztx (X:Cx) (t:zs2):Prop :=
  ∀ (pins:List (Addr × Obj)) (s:Shared) (σ:St) (H:Hp) (o i v:V) (ov iv u:Value) (Q:Hp→Prop),Inv X pins σ H s→zbi o ov→zbi i iv→zbi v u→t o i v H Q →
    wpAny (model X.prog X.w) X.A (setItem ov iv u) (fun _ s'=>∃ H',Inv X pins σ H' s'∧Q H') X.xe s
section
variable {X:Cx} {pos:Pos}
def zqQ (i:Nat):TG:=fun v σ H Q=>Q (σ.set i (some v)) H
theorem zoa {i:Nat} {x:Str} (hN:X.N.Nodup) (hi:X.N[i]?=some x) (hx:Loc X.env.scope x) (hf:X.fn x=true∨X.env.scope.names.lookup x=some .local:=by first | exact .inl rfl | exact .inr rfl | assumption):PG X (.Name x pos) (zqQ i):=by
  intro pins s σ H v u Q I r h
  exact wpAny_assign_Name (zh7 I hN hi hx r (fun s' I'=>⟨_,H,I',h⟩) hf)
def zt0:TGs:=fun vs σ H Q=>vs=[]∧Q σ H
def zsJ (t:TG) (u:TGs):TGs:=fun vs σ H Q=>∃ v r,vs=v :: r∧t v σ H fun σ' H'=>u r σ' H' Q
theorem zn8:PGs X [] zt0:=by
  intro pins s σ H vs us Q I r h; obtain ⟨e,h⟩:=h; subst e; cases r; exact assignInOrder_nil ⟨σ,H,I,h⟩
theorem zlG {e:Expr} {es:List Expr} {t:TG} {u:TGs} (h1:PG X e t) (h2:PGs X es u)
    (hs:(assignEach (e :: es) X.env).map (·.2)=assign e X.env :: (assignEach es X.env).map (·.2):=by rfl):PGs X (e :: es) (zsJ t u):=by
  intro pins s σ H vs us Q I r h; obtain ⟨v,vr,e1,h⟩:=h; subst e1
  cases r with
  | cons r rr =>
    rw [hs]
    refine assignInOrder_cons (thn (h1 pins s σ H _ _ _ I r h) fun _ s1 ⟨σ1,H1,I1,q1⟩=>?_)
    exact h2 pins s1 σ1 H1 _ _ Q I1 rr q1
def ztY (K:PySem.W.Frag) (n:Nat) (t:TGs):TG:=fun v σ H Q=>∃ a xs,v=.ref a∧SqT K H a xs∧xs.length=n∧t xs σ H Q
theorem zp9 {es:List Expr} {k:Nat} {t:TGs} {n:Nat} (hc:X.calm=true) (h:PGs X es t)
    (hn:(assignEach es X.env).length=n:=by rfl) (hst:(assignEach es X.env).findIdx? (·.1)=none:=by rfl):PG X (.Tuple es k pos) (ztY X.K n t):=by
  intro pins s σ H v u Q I r hw; obtain ⟨a,xs,e1,hq,hl,hw⟩:=hw; subst e1; cases r; obtain ⟨its,rv,ht,hz⟩:=I.tuple hq
  refine assign_Tuple_tuple (I.ok.hd hc) ht (by simp [hn,← hl,rv.length]) hst fun h' hx=>?_
  have I1:Inv X pins σ H { s with heap:=h' }:=I.kept (t':=s.toks) fun b o e=>hx b o (Nat.ne_of_lt (Heap.lt_size e)) e
  exact h pins _ σ H xs _ Q I1 (by simpa using rv) hw
def ztZ (to ti:TE) (t:zs2):TG:=fun v σ H Q=>to σ H fun o H1=>ti σ H1 fun i H2=>t o i v H2 fun H3=>Q σ H3
theorem zqa {o i:Expr} {to ti:TE} {t:zs2} (ho:PE X o to) (hi:PE X i ti) (hs:ztx X t)
    (ha:∀ v,assign (.Subscript o i pos) X.env v=(do
      let ov ← holding [v] (eval o X.env)
      let iv ← holding [v,ov] (eval i X.env)
      standAt pos
      holding [v,ov,iv] (setItem ov iv v)
      release [v,ov,iv] []):=by intro _; rfl):PG X (.Subscript o i pos) (ztZ to ti t):=by
  intro pins s σ H v u Q I r h; rw [ha]
  refine wpAny_bind (wpAny_holding (thn (ho pins s σ H _ I h) fun ov s1 ⟨x,H1,I1,r1,q1⟩=>?_))
  refine wpAny_bind (wpAny_holding (thn (hi pins s1 σ H1 _ I1 q1) fun iv s2 ⟨y,H2,I2,r2,q2⟩=>?_))
  refine wpAny_bind (wpAny_standAt (wpAny_bind (wpAny_holding (thn (hs pins s2 σ H2 x y v ov iv u _ I2 r1 r2 r q2) fun _ s3 ⟨H3,I3,q3⟩=>?_))))
  exact wpAny_release ⟨σ,H3,I3,q3⟩
def ztd (te:TE) (g:TG):TS:=fun D σ H=>te σ H fun x H1=>g x σ H1 D.nx
theorem zmQ {tg e:Expr} {te:TE} {g:TG} (he:PE X e te) (hg:PG X tg g) (hs:swapsWithSole [tg] e pos.line X.env=pure false:=by rfl) (hw:swappedStores [tg] e X.env=pure none:=by rfl)
    (h1:(assignEach [tg] X.env).map (·.2)=[assign tg X.env]:=by rfl):PS X (.Assign [tg] e pos) (ztd te g):=by
  intro pins s σ H D I h
  refine wpAny_Assign_stores (thn (he pins s σ H _ I h) fun v s1 ⟨x,H1,I1,r1,q1⟩=>?_) hs hw
  rw [h1]
  exact thn (hg pins s1 σ H1 x v _ I1 r1 q1) fun _ s2 q=>q
theorem zjT {i:Nat} {x:Str} {e:Expr} {te:TE} {pos':Pos} (hN:X.N.Nodup) (hi:X.N[i]?=some x) (hx:Loc X.env.scope x) (he:PE X e te) (hs:swapsWith e (some (.Name x pos')) pos.line X.env=pure false:=by rfl) (hf:X.fn x=true∨X.env.scope.names.lookup x=some .local:=by first | exact .inl rfl | exact .inr rfl | assumption) :
    PS X (.Assign [.Name x pos'] e pos) (ztd te (zqQ i)):=by
  intro pins s σ H D I h
  refine wpAny_Assign_Name (thn (he pins s σ H _ I h) fun v s1 ⟨y,H1,I1,r1,q1⟩=>?_) hs
  exact zh7 I1 hN hi hx r1 (fun s2 I2=>⟨_,H1,I2,q1⟩) hf
end
section
variable {X:Cx} {pos:Pos}
end
structure It where
  go:Nat→Hp→Prop
  yld:Nat→Hp→V→Hp→Prop
  stop:Nat→Hp→Prop
def zh1 (X:Cx) (pins:List (Addr × Obj)) (H:Hp) (b:Addr):Prop :=
  H b=none∧b≠X.env.locals∧b ∉ X.fs∧(b ∈ X.ex∨X.s₀.heap.objs.size≤b)∧(∀ x c,X.env.cells.lookup x=some c→c≠b)∧∀ p ∈ X.pn ++ pins,p.1≠b
theorem Inv.fpOk {X:Cx} {pins:List (Addr × Obj)} {σ:St} {H H':Hp} {s:Shared} {b:Addr} (I:Inv X pins σ H s) (hb:s.heap.objs.size≤b) (hn:H' b=none):zh1 X pins H' b:=by
  refine ⟨hn,Nat.ne_of_gt (Nat.lt_of_lt_of_le I.lt hb),I.nofs hb,.inr (Nat.le_trans I.sz hb),fun x c e z=>?_,fun p hp z=>?_⟩
  · obtain ⟨v,q⟩:=I.cell x c e
    exact absurd (Nat.lt_of_lt_of_le q.lt (by rw [z]; exact hb)) (Nat.lt_irrefl _)
  · exact absurd (Nat.lt_of_lt_of_le (Heap.lt_size (I.pin p hp).1) (by rw [z]; exact hb)) (Nat.lt_irrefl _)
structure Turn (P:Program) (w:World) (K:PySem.W.Frag) (tg:Expr) (J:It) (fp:List Addr) (it:Addr) (tn:Nat→Heap→Prop):Prop where
  mem:it ∈ fp
  obj:∀ i h,tn i h→∀ b ∈ fp,∃ o,h.get? b=some o∧∀ v,o.data≠.cell v
  keep:∀ i h h',tn i h→(∀ b ∈ fp,∀ o,h.get? b=some o→h'.get? b=some o)→tn i h'
  item:∀ (X:Cx),X.prog=P→X.w=w→X.K=K→X.calm=true→∀ (i:Nat) (pins:List (Addr × Obj)) (s:Shared) (σ:St) (H:Hp) (E:Value→Shared→Prop),Inv X pins σ H s→(∀ b ∈ fp,zh1 X pins H b)→tn i s.heap→J.go i H →
    wpAny (model P w) X.A (pyNext (.ref it)) (fun r s1=>∃ u,r=some u ∧
      wpAny (model P w) X.A (letOwnedTupleGo tg (.ref it) u) (fun _ s2=>∃ x H',Inv X pins σ H' s2∧zbi x u∧J.yld i H x H'∧tn (i+1) s2.heap∧∀ b ∈ fp,H' b=none) E s1) E s
  done:∀ (X:Cx),X.prog=P→X.w=w→X.K=K→X.calm=true→∀ (i:Nat) (pins:List (Addr × Obj)) (s:Shared) (σ:St) (H:Hp) (E:Value→Shared→Prop),Inv X pins σ H s→(∀ b ∈ fp,zh1 X pins H b)→tn i s.heap→J.stop i H →
    wpAny (model P w) X.A (pyNext (.ref it)) (fun r s1=>r=none∧Inv X pins σ H s1) E s
  self:∀ (A:Around) (i:Nat) (s:Shared) (Q:Value→Shared→Prop) (E:Value→Shared→Prop),tn i s.heap→Q (.ref it) s→wpAny (model P w) A (pyIter (.ref it)) Q E s
abbrev TI:=St→Hp→(It→Hp→Prop)→Prop
def PIE (X:Cx) (pins:List (Addr × Obj)) (σ:St) (tg:Expr) (R:It→Hp→Prop) (itv:Value) (s2:Shared):Prop :=
  ∃ (it:Addr) (fp:List Addr) (tn:Nat→Heap→Prop) (J:It) (H':Hp),itv=.ref it∧Inv X pins σ H' s2∧Turn X.prog X.w X.K tg J fp it tn∧tn 0 s2.heap∧(∀ b ∈ fp,zh1 X pins H' b)∧R J H'
def PI (X:Cx) (tg iter:Expr) (wi:TI):Prop :=
  ∀ (pins:List (Addr × Obj)) (s:Shared) (σ:St) (H:Hp) (R:It→Hp→Prop),Inv X pins σ H s→wi σ H R →
    wpAny (model X.prog X.w) X.A (eval iter X.env) (fun v s1=>wpAny (model X.prog X.w) X.A (pyIter v) (PIE X pins σ tg R) X.xe s1) X.xe s
theorem zmt {M:Model} {A:Around} {E:Value→Shared→Prop} {s:Shared} {tg:Expr} {it:Addr} {u:Value} {o:Obj} {n:String} {vs:Array Value} {Q:Unit→Shared→Prop} (ho:s.heap.get? it=some o) (hc:o.cls=.type n) (hd:o.data=.fields vs)
    (hn:["enumerate","zip","dict_itemiterator","dict_reverseitemiterator","odict_iterator","itertools.zip_longest","itertools.pairwise"].contains n=false) (hQ:Q () s):wpAny M A (letOwnedTupleGo tg (.ref it) u) Q E s:=by
  unfold letOwnedTupleGo
  cases tg <;> first
    | exact wpAny_pure hQ
    | (cases u <;> first
        | exact wpAny_pure hQ
        | (refine wpAny_bind (wpAny_load ho ?_)
           rw [hc,hd]
           show wpAny M A (if (["enumerate","zip","dict_itemiterator","dict_reverseitemiterator","odict_iterator","itertools.zip_longest","itertools.pairwise"].contains n && vs[0]? == some (rawInt _))=true then _ else _) Q E s
           rw [if_neg (by intro h; rw [hn,Bool.false_and] at h; cases h)]
           exact wpAny_pure hQ))
def Itl (K:PySem.W.Frag) (a:Addr):It :=
  ⟨fun i H=>∃ xs x,SqL K H a xs∧xs[i]?=some x,fun i H x H'=>H'=H∧∀ xs,SqL K H a xs→xs[i]?=some x,fun i H=>∃ xs,SqL K H a xs∧xs.length≤i⟩
def Itt (K:PySem.W.Frag) (a:Addr):It :=
  ⟨fun i H=>∃ xs x,SqT K H a xs∧xs[i]?=some x,fun i H x H'=>H'=H∧∀ xs,SqT K H a xs→xs[i]?=some x,fun i H=>∃ xs,SqT K H a xs∧xs.length≤i⟩
def Itr (lo:Int) (n:Nat):It:=⟨fun i _=>i<n,fun i H x H'=>H'=H∧x=.int (lo+i),fun i _=>n≤i⟩
theorem zjs {P:Program} {w:World} {K:PySem.W.Frag} {tg:Expr} (a it:Addr):Turn P w K tg (Itl K a) [it] it (fun i h=>h.IsListIter it a i) where
  mem:=by simp
  obj:=fun i h st b hb=>by
    have e:b=it:=by simpa using hb
    subst e; obtain ⟨o,e,c,d⟩:=st
    exact ⟨o,e,fun v z=>by rw [d] at z; cases z⟩
  keep:=fun i h h' st k=>st.at fun o e=>k it (by simp) o e
  item:=by
    intro X hP hw hK hc i pins s σ H E I hf st hg
    subst hP hw hK
    obtain ⟨xs,x,hq,hx⟩:=hg; obtain ⟨its,rv,p,hz⟩:=I.list hq; obtain ⟨u,hu,ru⟩:=rv.get hx
    obtain ⟨f0,f1,f2,f3,f4,f5⟩:=hf it (by simp)
    refine wpAny_pyNext_list_item st p.isList (x:=u) (by simpa using hu) fun h' st' sb=>?_
    have I1:Inv X pins σ H { s with heap:=h' }:=I.turned (t':=s.toks) (fun b o hb e=>(sb.2 b hb).trans e) f0 f1 f3 f4 f5
    obtain ⟨o,e,c,d⟩:=id st'
    exact ⟨u,rfl,zmt (s:={ s with heap:=h' }) e c d (by decide) ⟨x,H,I1,ru,⟨rfl,fun ys hy=>by rw [I.list_inj hy hq]; exact hx⟩,st',fun b hb=>(hf b hb).1⟩⟩
  done:=by
    intro X hP hw hK hc i pins s σ H E I hf st hg
    subst hP hw hK
    obtain ⟨xs,hq,hx⟩:=hg; obtain ⟨its,rv,p,hz⟩:=I.list hq
    obtain ⟨f0,f1,f2,f3,f4,f5⟩:=hf it (by simp)
    have hl:=rv.length
    exact wpAny_pyNext_list_end (I.ok.hd hc) st p.isList (by simp; omega) fun h' eb=>⟨rfl,I.turned (t':=s.toks) (fun b o hb e=>eb b o hb e) f0 f1 f3 f4 f5⟩
  self:=fun _ _ _ _ _ st h=>wpAny_pyIter_listiter st h
theorem ziO {P:Program} {w:World} {K:PySem.W.Frag} {tg:Expr} (a it:Addr):Turn P w K tg (Itt K a) [it] it (fun i h=>h.IsTupleIter it a i) where
  mem:=by simp
  obj:=fun i h st b hb=>by
    have e:b=it:=by simpa using hb
    subst e; obtain ⟨o,e,c,d⟩:=st
    exact ⟨o,e,fun v z=>by rw [d] at z; cases z⟩
  keep:=fun i h h' st k=>st.at fun o e=>k it (by simp) o e
  item:=by
    intro X hP hw hK hc i pins s σ H E I hf st hg
    subst hP hw hK
    obtain ⟨xs,x,hq,hx⟩:=hg; obtain ⟨its,rv,p,hz⟩:=I.tuple hq; obtain ⟨u,hu,ru⟩:=rv.get hx
    obtain ⟨f0,f1,f2,f3,f4,f5⟩:=hf it (by simp)
    refine wpAny_pyNext_tuple_item st (show s.heap.IsTuple a its.toArray from p) (x:=u) (by simpa using hu) fun h' st' sb=>?_
    have I1:Inv X pins σ H { s with heap:=h' }:=I.turned (t':=s.toks) (fun b o hb e=>(sb.2 b hb).trans e) f0 f1 f3 f4 f5
    obtain ⟨o,e,c,d⟩:=id st'
    exact ⟨u,rfl,zmt (s:={ s with heap:=h' }) e c d (by decide) ⟨x,H,I1,ru,⟨rfl,fun ys hy=>by rw [I.tuple_inj hy hq]; exact hx⟩,st',fun b hb=>(hf b hb).1⟩⟩
  done:=by
    intro X hP hw hK hc i pins s σ H E I hf st hg
    subst hP hw hK
    obtain ⟨xs,hq,hx⟩:=hg; obtain ⟨its,rv,p,hz⟩:=I.tuple hq
    obtain ⟨f0,f1,f2,f3,f4,f5⟩:=hf it (by simp)
    have hl:=rv.length
    exact wpAny_pyNext_tuple_end (I.ok.hd hc) st (show s.heap.IsTuple a its.toArray from p) (by simp; omega) fun h' eb=>⟨rfl,I.turned (t':=s.toks) (fun b o hb e=>eb b o hb e) f0 f1 f3 f4 f5⟩
  self:=fun _ _ _ _ _ st h=>wpAny_pyIter_tupleiter st h
theorem ziP {P:Program} {w:World} {K:PySem.W.Frag} {tg:Expr} (it:Addr) (lo:Int) (n:Nat):Turn P w K tg (Itr lo n) [it] it (fun i h=>IsRangeIter h it (lo+(i:Nat) * 1) ((n:Int)-(i:Nat)) 1) where
  mem:=by simp
  obj:=fun i h st b hb=>by
    have e:b=it:=by simpa using hb
    subst e
    exact ⟨_,st,fun v z=>by
      have z':Data.fields _=Data.cell v:=z
      cases z'⟩
  keep:=fun i h h' st k=>k it (by simp) _ st
  item:=by
    intro X hP hw hK hc i pins s σ H E I hf st hg
    subst hP hw hK
    obtain ⟨f0,f1,f2,f3,f4,f5⟩:=hf it (by simp)
    have W:=Walks.range (prog:=X.prog) (w:=X.w) (I.ok.hd hc) it lo 1 n
    refine W.item i s _ _ hg st fun v h' tk hv st' kk=>?_
    obtain ⟨t,rfl⟩:=hv
    have I1:Inv X pins σ H { s with heap:=h',toks:=tk }:=I.turned (fun b o hb e=>kk b o (by simpa using hb) e) f0 f1 f3 f4 f5
    refine ⟨_,rfl,zmt (s:={ s with heap:=h',toks:=tk }) (n:="range_iterator") st' rfl rfl (by decide) ⟨.int (lo+i),H,I1,⟨t,?_⟩,⟨rfl,rfl⟩,st',fun b hb=>(hf b hb).1⟩⟩
    rw [Int.mul_one]
  done:=by
    intro X hP hw hK hc i pins s σ H E I hf st hg
    subst hP hw hK
    obtain ⟨f0,f1,f2,f3,f4,f5⟩:=hf it (by simp)
    exact wpAny_pyNext_range_end (I.ok.hd hc) st (by have:n≤i:=hg; omega) fun h' eb=>⟨rfl,I.turned (t':=s.toks) (fun b o hb e=>eb b o hb e) f0 f1 f3 f4 f5⟩
  self:=fun _ _ _ _ _ st h=>wpAny_pyIter_rangeiter st h
end L2
namespace L2
open PySem PySem.Spec PyProof.Rows
section
variable {X:Cx} {tg:Expr}
theorem zls {pins:List (Addr × Obj)} {σ:St} {H:Hp} {s:Shared} {R:It→Hp→Prop} {E:Value→Shared→Prop} {lo hi:Int} {t u v:Tok} {tk:Nat} (I:Inv X pins σ H s) (h1:-(2 ^ 62)≤lo) (h2:lo<2 ^ 62) (h3:-(2 ^ 62)≤hi) (h4:hi<2 ^ 62)
    (q:R (Itr lo (hi-lo).toNat) H):wpAny (model X.prog X.w) X.A (pyIter (.ref s.heap.objs.size)) (PIE X pins σ tg R) E { s with heap:=s.heap.push { cls:=.type "range",data:=.fields #[.int lo t,.int hi u,.int 1 v] },toks:=tk }:=by
  refine wpAny_pyIter_range (IsRange.new ..) (small_one h1 h2 h3 h4) ?_
  have I1:Inv X pins σ H { s with heap:=s.heap.push { cls:=.type "range",data:=.fields #[.int lo t,.int hi u,.int 1 v] },toks:=tk }:=I.kept fun b o e=>Heap.get?_push_of_some _ e
  refine ⟨(s.heap.push { cls:=.type "range",data:=.fields #[.int lo t,.int hi u,.int 1 v] }).objs.size,[(s.heap.push { cls:=.type "range",data:=.fields #[.int lo t,.int hi u,.int 1 v] }).objs.size],_,_,H,rfl,
    I1.kept (t':=tk) fun b o e=>Heap.get?_push_of_some _ e,ziP _ lo (hi-lo).toNat,?_,fun b hb=>?_,q⟩
  · have e1:lo+((0:Nat):Int) * 1=lo:=by simp
    have e2:(((hi-lo).toNat:Nat):Int)-((0:Nat):Int)=Builtin.Range.rangeSize lo hi 1:=by rw [rangeSize_one]; split <;> omega
    show IsRangeIter _ _ (lo+((0:Nat):Int) * 1) ((((hi-lo).toNat:Nat):Int)-((0:Nat):Int)) 1
    rw [e1,e2]; exact Heap.get?_push_size _ rfl
  · have e:b=(s.heap.push { cls:=.type "range",data:=.fields #[.int lo t,.int hi u,.int 1 v] }).objs.size:=by simpa using hb
    subst e; exact I1.fpOk (Nat.le_refl _) (I1.hok.fresh (Nat.le_refl _))
def zsI (ta:TA):TI:=fun σ H R=>ta σ H fun vs H1=>∃ j:Int,vs=[.int j]∧-(2 ^ 62)≤j∧j<2 ^ 62∧R (Itr 0 j.toNat) H1
theorem zj0 {a:Expr} {ta:TA} {p pos:Pos} (hg:Gl X "range") (hm:X.mg "range"=none) (ha:PA X [a] ta) (hs:starEach [a] X.env=[(false,eval a X.env)]:=by rfl):PI X tg (.Call (.Name "range" p) [a] [] pos) (zsI ta):=by
  intro pins s σ H R I h
  refine Call_ (zfk I hg hm boot_range (PyProof.Rows.callWith_type1 (thn (ha pos pins s σ H _ I h) fun us s1 ⟨vs,H1,I1,r1,q1⟩=>?_) hs rfl))
  obtain ⟨j,e,q1,q2,q⟩:=q1; subst e
  cases r1 with
  | cons r rr =>
    cases rr; obtain ⟨t,rfl⟩:=r
    exact call_range_1 (zls I1 (by omega) (by omega) q1 q2 (by simpa using q))
def ztK (wi:TI) (g:TG) (tb:TS):TS:=fun D σ H=>wi σ H fun J H1=>∃ W:Nat→Nat→St→Hp→Prop,(∃ m,W 0 m σ H1)∧∀ i m σ H,W i m σ H →
  (J.stop i H∧D.nx σ H)∨(J.go i H∧∃ N:St→Hp→Prop,(∀ σ' H',N σ' H'→∃ m',m'<m∧W (i+1) m' σ' H')∧∀ x H',J.yld i H x H'→g x σ H' fun σ2 H2=>tb { D with nx:=N,ct:=N,bk:=D.nx } σ2 H2)
def zfe (fp:List Addr) (h:Heap):List (Addr × Obj):=fp.filterMap fun b=>(h.get? b).map fun o=>(b,o)
theorem zdf {fp:List Addr} {h:Heap} {b:Addr} {o:Obj} (hb:b ∈ fp) (e:h.get? b=some o):(b,o) ∈ zfe fp h:=List.mem_filterMap.mpr ⟨b,hb,by rw [e]; rfl⟩
theorem zke {fp:List Addr} {h:Heap} {p:Addr × Obj} (hp:p ∈ zfe fp h):p.1 ∈ fp∧h.get? p.1=some p.2:=by
  obtain ⟨b,hb,e⟩:=List.mem_filterMap.mp hp
  cases q:h.get? b with
  | none=>rw [q] at e; cases e
  | some o =>
    rw [q] at e
    have e':(b,o)=p:=Option.some.inj e
    subst e'
    exact ⟨hb,q⟩
theorem Inv.pinned {pins:List (Addr × Obj)} {σ:St} {H:Hp} {s:Shared} {fp:List Addr} (I:Inv X pins σ H s) (hf:∀ b ∈ fp,zh1 X pins H b) (ho:∀ b ∈ fp,∃ o,s.heap.get? b=some o∧∀ v,o.data≠.cell v):Inv X (pins ++ zfe fp s.heap) σ H s :=
  I.pins_of fun p hp=>(List.mem_append.mp hp).elim (fun z=>I.pin p (List.mem_append_right _ z)) fun z=>by
    obtain ⟨hb,e⟩:=zke z; obtain ⟨f0,f1,f2,_⟩:=hf p.1 hb; obtain ⟨o,e',d⟩:=ho p.1 hb
    rw [e] at e'; cases e'
    exact ⟨e,f0,f1,f2,d⟩
theorem Inv.unpinned {pins pl:List (Addr × Obj)} {σ:St} {H:Hp} {s:Shared} (I:Inv X (pins ++ pl) σ H s):Inv X pins σ H s:=I.pins_of fun p hp=>I.pin p (List.mem_append_right _ (List.mem_append_left _ hp))
theorem zp5 {iter:Expr} {body:List Stmt} {wi:TI} {g:TG} {tb:TS} {pos:Pos} (hp:PassesOwn (model X.prog X.w) X.A X.env X.xe) (hc:X.calm=true) (hi:PI X tg iter wi) (hg:PG X tg g) (hb:PSs X body tb)
    (hs:∀ x,foldedSetIterable iter X.env x=pure x:=by intro _; rfl):PS X (.For tg iter body [] pos) (ztK wi g tb):=by
  intro pins s σ H D I h
  refine wpAny_For (thn (hi pins s σ H _ I h) fun v s1 h1=>thn h1 fun itv s2 h2=>?_) hs
  obtain ⟨it,fp,tn,J,H2,e,I2,T,st2,f2,W,⟨m0,w0⟩,turn⟩:=h2
  subst e
  -- what stays true of the iterator's objects through the loop
  have stat:∀ {H':Hp},(∀ b ∈ fp,H' b=none)→∀ b ∈ fp,zh1 X pins H' b:=fun hn b hb=>⟨hn b hb,(f2 b hb).2⟩
  refine codeAny_forLoop_any (fun n s'=>∃ i σ' H',Inv X pins σ' H' s'∧tn i s'.heap∧(∀ b ∈ fp,H' b=none)∧W i n σ' H') ?_ m0 ⟨0,σ,H2,I2,st2,fun b hb=>(f2 b hb).1,w0⟩
  rintro n s3 ⟨i,σ3,H3,I3,st3,fr3,w3⟩
  rcases turn i n σ3 H3 w3 with ⟨stop,qn⟩ | ⟨go,N,hN,step⟩
  · refine wpAny_passesOwn hp (thn (T.done X rfl rfl rfl hc i pins s3 σ3 H3 X.xe I3 (stat fr3) st3 stop) fun r s4 ⟨hr,I4⟩=>?_)
    subst hr; exact wpAny_execs_nil ⟨σ3,H3,I4,qn⟩
  · refine wpAny_passesOwn hp (thn (T.item X rfl rfl rfl hc i pins s3 σ3 H3 X.xe I3 (stat fr3) st3 go) fun r s4 ⟨u,hr,h4⟩=>?_)
    subst hr
    refine wpAny_passesOwn hp (thn h4 fun _ s5 ⟨x,H5,I5,r5,y5,st5,fr5⟩=>?_)
    have I5':=I5.pinned (stat fr5) (T.obj _ _ st5)
    refine wpAny_passesOwn hp (thn (hg _ s5 σ3 H5 x u _ I5' r5 (step x H5 y5)) fun _ s6 ⟨σ6,H6,I6,q6⟩=>?_)
    refine wpAny_passesOwn hp (thn (hb _ s6 σ6 H6 _ I6 q6) fun f s7 q7=>?_)
    have again:∀ {σ7:St} {H7:Hp},Inv X (pins ++ zfe fp s5.heap) σ7 H7 s7→N σ7 H7→∃ m,m<n∧∃ i σ' H',Inv X pins σ' H' s7∧tn i s7.heap∧(∀ b ∈ fp,H' b=none)∧W i m σ' H':=fun {σ7 H7} I7 n7=>by
      obtain ⟨m',hm,w7⟩:=hN σ7 H7 n7
      refine ⟨m',hm,i+1,σ7,H7,I7.unpinned,T.keep _ _ _ st5 fun b hb o e=>(I7.pin (b,o) (List.mem_append_right _ (List.mem_append_right _ (zdf hb e)))).1,fun b hb=>?_,w7⟩
      obtain ⟨o,e,d⟩:=T.obj _ _ st5 b hb; exact (I7.pin (b,o) (List.mem_append_right _ (List.mem_append_right _ (zdf hb e)))).2.1
    cases f with
    | next=>obtain ⟨σ7,H7,I7,n7⟩:=q7; exact again I7 n7
    | cont=>obtain ⟨σ7,H7,I7,n7⟩:=q7; exact again I7 n7
    | brk=>obtain ⟨σ7,H7,I7,q7⟩:=q7; exact ⟨σ7,H7,I7.unpinned,q7⟩
    | ret v=>obtain ⟨x7,σ7,H7,I7,r7,q7⟩:=q7; exact ⟨x7,σ7,H7,I7.unpinned,r7,q7⟩
end
end L2
namespace L2
open PySem PySem.Spec PyProof.Rows
abbrev R2:=V→V→Hp→VK→Prop
def OpR (X:Cx) (f:Value→Value→Sem Value) (r:R2):Prop :=
  ∀ (pins:List (Addr × Obj)) (s:Shared) (σ:St) (H:Hp) (x y:V) (v u:Value) (Q:VK),Inv X pins σ H s→zbi x v→zbi y u→r x y H Q →
    wpAny (model X.prog X.w) X.A (f v u) (EP X pins σ Q) X.xe s
def UnR (X:Cx) (f:Value→Sem Value) (r:V→Hp→VK→Prop):Prop :=
  ∀ (pins:List (Addr × Obj)) (s:Shared) (σ:St) (H:Hp) (x:V) (v:Value) (Q:VK),Inv X pins σ H s→zbi x v→r x H Q →
    wpAny (model X.prog X.w) X.A (f v) (EP X pins σ Q) X.xe s
def zc9 (X:Cx) (f:Value) (r:List V→Hp→VK→Prop):Prop :=
  ∀ (pins:List (Addr × Obj)) (s:Shared) (σ:St) (H:Hp) (xs:List V) (us:List Value) (Q:VK),Inv X pins σ H s→za3 xs us→r xs H Q →
    wpAny (model X.prog X.w) X.A (call f us) (EP X pins σ Q) X.xe s
def tOp (r:R2) (ta tb:TE):TE:=fun σ H Q=>ta σ H fun x H1=>tb σ H1 fun y H2=>r x y H2 Q
def tUn (r:V→Hp→VK→Prop) (ta:TE):TE:=fun σ H Q=>ta σ H fun x H1=>r x H1 Q
def rI (C:Int→Int→Prop) (g:Int→Int→V):R2:=fun x y H Q=>∃ i j,x=.int i∧y=.int j∧C i j∧Q (g i j) H
def rI0 (g:Int→Int→V):R2:=fun x y H Q=>∃ i j,x=.int i∧y=.int j∧Q (g i j) H
def rU (g:Int→V):V→Hp→VK→Prop:=fun x H Q=>∃ i,x=.int i∧Q (g i) H
section
variable {X:Cx} {a b c:Expr} {ta tb tc:TE} {pos:Pos}
theorem zs0 (ha:PE X a ta) (hb:PE X b tb) {pins:List (Addr × Obj)} {s:Shared} {σ:St} {H:Hp} {R:V→V→Hp→Prop} (I:Inv X pins σ H s)
    (h:ta σ H fun x H1=>tb σ H1 fun y H2=>R x y H2) {Q:Value→Shared→Prop} {f:Value→Value→Sem Value}
    (hf:∀ v u s2 x y H2,Inv X pins σ H2 s2→zbi x v→zbi y u→R x y H2→wpAny (model X.prog X.w) X.A (f v u) Q X.xe s2) :
    wpAny (model X.prog X.w) X.A (eval a X.env) (fun v s₁=>wpAny (model X.prog X.w) X.A (eval b X.env) (fun u s₂=>wpAny (model X.prog X.w) X.A (f v u) Q X.xe s₂) X.xe s₁) X.xe s:=by
  refine thn (ha pins s σ H _ I h) fun v s1 ⟨x,H1,I1,r1,q1⟩=>?_
  refine thn (hb pins s1 σ H1 _ I1 q1) fun u s2 ⟨y,H2,I2,r2,q2⟩=>?_
  exact hf v u s2 x y H2 I2 r1 r2 q2
theorem zqc {op:Operator} {r:R2} (ho:OpR X (binaryOp op) r) (ha:PE X a ta) (hb:PE X b tb):PE X (.BinOp a op b pos) (tOp r ta tb):=by
  intro pins s σ H Q I h
  exact wpAny_BinOp (zs0 ha hb I h fun v u s2 x y H2 I2 rx ry q=>ho pins s2 σ H2 x y v u Q I2 rx ry q)
theorem zsn {op:UnaryOp} {r:V→Hp→VK→Prop} (ho:UnR X (unaryOp op) r) (ha:PE X a ta):PE X (.UnaryOp op a pos) (tUn r ta):=by
  intro pins s σ H Q I h
  exact UnaryOp_ (thn (ha pins s σ H _ I h) fun v s1 ⟨x,H1,I1,r1,q1⟩=>ho pins s1 σ H1 x v Q I1 r1 q1)
theorem opI {f:Value→Value→Sem Value} {C:Int→Int→Prop} {g:Int→Int→Int}
    (rule:∀ (i j:Int) (t u:Tok) (s:Shared) (Q:Value→Shared→Prop) (E:Value→Shared→Prop),C i j→Q (.int (g i j) s.toks) { s with toks:=s.toks+1 }→wpAny (model X.prog X.w) X.A (f (.int i t) (.int j u)) Q E s) :
    OpR X f (rI C fun i j=>.int (g i j)):=by
  intro pins s σ H x y v u Q I rx ry h; obtain ⟨i,j,rfl,rfl,hc,q⟩:=h; obtain ⟨t,rfl⟩:=rx; obtain ⟨t',rfl⟩:=ry; exact rule i j t t' s _ _ hc ⟨.int (g i j),H,I.tok _,⟨_,rfl⟩,q⟩
theorem ztn {f:Value→Value→Sem Value} {g:Int→Int→Int}
    (rule:∀ (i j:Int) (t u:Tok) (s:Shared) (Q:Value→Shared→Prop) (E:Value→Shared→Prop),Q (.int (g i j) s.toks) { s with toks:=s.toks+1 }→wpAny (model X.prog X.w) X.A (f (.int i t) (.int j u)) Q E s) :
    OpR X f (rI0 fun i j=>.int (g i j)):=by
  intro pins s σ H x y v u Q I rx ry h; obtain ⟨i,j,rfl,rfl,q⟩:=h; obtain ⟨t,rfl⟩:=rx; obtain ⟨t',rfl⟩:=ry; exact rule i j t t' s _ _ ⟨.int (g i j),H,I.tok _,⟨_,rfl⟩,q⟩
theorem ztU {f:Value→Value→Sem Value} {g:Int→Int→Bool}
    (rule:∀ (i j:Int) (t u:Tok) (s:Shared) (Q:Value→Shared→Prop) (E:Value→Shared→Prop),Q (.bool (g i j)) s→wpAny (model X.prog X.w) X.A (f (.int i t) (.int j u)) Q E s) :
    OpR X f (rI0 fun i j=>.bl (g i j)):=by
  intro pins s σ H x y v u Q I rx ry h; obtain ⟨i,j,rfl,rfl,q⟩:=h; obtain ⟨t,rfl⟩:=rx; obtain ⟨t',rfl⟩:=ry; exact rule i j t t' s _ _ ⟨.bl (g i j),H,I,rfl,q⟩
def zfw (i j:Int):Prop:=0<j∧j<1073741824
def zs9 (i j:Int):Prop:=0≤j∧j≤1000000∧i.natAbs<2 ^ 64
def ziM (i j:Int):Prop:=(-(2 ^ 64)<i∧i<2 ^ 64)∨(-(2 ^ 64)<j∧j<2 ^ 64)
theorem ziM.ok {i j:Int} (h:ziM i j):IntMulOk i j:=by
  rcases h with ⟨h1,h2⟩ | ⟨h1,h2⟩
  · exact .of_left (intBits_le_64 h1 h2)
  · exact .of_right (intBits_le_64 h1 h2)
theorem zqr:OpR X (binaryOp .Add) (rI0 fun i j=>.int (i+j)):=ztn fun _ _ _ _ _ _ _ q=>add_int q
theorem zql:OpR X (binaryOp .Sub) (rI0 fun i j=>.int (i-j)):=ztn fun _ _ _ _ _ _ _ q=>sub_int q
theorem zqn:OpR X (binaryOp .Mult) (rI ziM fun i j=>.int (i * j)):=opI fun _ _ _ _ _ _ _ hc q=>mul_int q hc.ok
theorem zoj:OpR X (binaryOp .FloorDiv) (rI zfw fun i j=>.int (i / j)):=opI fun i j _ _ _ _ _ hc q=>by
  have h1:(0:Int)<j:=hc.1
  have h2:j<1073741824:=hc.2
  exact floordiv_int (by omega) (by rw [Int.fdiv_eq_ediv_of_nonneg i (by omega)]; exact q) (.inl (PyProof.noPylong_small (by omega)))
theorem zqo:OpR X (binaryOp .Mod) (rI (fun _ j=>0<j) fun i j=>.int (i % j)):=opI fun i j _ _ _ _ _ hc q=>by
  have h1:(0:Int)<j:=hc
  exact mod_int' (by omega) (by rw [Int.fmod_eq_emod_of_nonneg i (by omega)]; exact q)
theorem zqm:OpR X (binaryOp .Pow) (rI zs9 fun i j=>.int (i ^ j.toNat)):=opI fun _ _ _ _ _ _ _ hc q=>pow_int_small hc.1 hc.2.1 hc.2.2 q
theorem unI {f:Value→Sem Value} {g:Int→Int}
    (rule:∀ (i:Int) (t:Tok) (s:Shared) (Q:Value→Shared→Prop) (E:Value→Shared→Prop),Q (.int (g i) s.toks) { s with toks:=s.toks+1 }→wpAny (model X.prog X.w) X.A (f (.int i t)) Q E s) :
    UnR X f (rU fun i=>.int (g i)):=by
  intro pins s σ H x v Q I rx h; obtain ⟨i,rfl,q⟩:=h; obtain ⟨t,rfl⟩:=rx; exact rule i t s _ _ ⟨.int (g i),H,I.tok _,⟨_,rfl⟩,q⟩
theorem zpr:UnR X (unaryOp .USub) (rU fun i=>.int (-i)):=unI fun _ _ _ _ _ q=>neg_int q
end
def znL:V→V→Bool
  | .non,.non=>true | .non,.int _=>true | .int _,.non=>true | .non,.bl _=>true | .bl _,.non=>true | .non,.str _=>true | .str _,.non=>true
  | .int _,.int _=>true | .bl _,.bl _=>true | .str _,.str _=>true | .byt _,.byt _=>true
  | .int _,.str _=>true | .str _,.int _=>true | .bl _,.str _=>true | .str _,.bl _=>true
  | _,_=>false
def rEq:R2:=fun x y H Q=>znL x y=true∧Q (.bl (decide (x=y))) H
def rNe:R2:=fun x y H Q=>znL x y=true∧Q (.bl (!decide (x=y))) H
theorem zkE {i j:Int}:decide (V.int i=V.int j)=(i == j):=by
  rw [Bool.eq_iff_iff]; simp
theorem znk {i j:Bool}:decide (V.bl i=V.bl j)=(i == j):=by
  rw [Bool.eq_iff_iff]; simp
theorem zkD {i j:Str}:decide (V.str i=V.str j)=(i == j):=by
  rw [Bool.eq_iff_iff]; simp
theorem zkF {i j:Array UInt8}:decide (V.byt i=V.byt j)=(i.toList == j.toList):=by
  rw [Bool.eq_iff_iff]; cases i; cases j; simp
section
variable {X:Cx} {a b c:Expr} {ta tb tc:TE} {pos:Pos}
theorem zaR {pins:List (Addr × Obj)} {σ:St} {H:Hp} {s:Shared} {Q:VK} {k k':Bool} (I:Inv X pins σ H s) (q:Q (.bl k) H) (e:k=k'):EP X pins σ Q (.bool k') s:=by
  subst e; exact ⟨.bl k,H,I,rfl,q⟩
theorem zst:OpR X (compareOp .Eq) rEq:=by
  intro pins s σ H x y v u Q I rx ry h; obtain ⟨hs,q⟩:=h
  cases x with
  | non =>
    cases rx
    cases y with
    | non=>cases ry; exact PySem.EqNone.eq_none_none (zaR I q (by simp))
    | bl j=>cases ry; exact PySem.EqNone.eq_none_bool (zaR I q (by simp))
    | int j=>obtain ⟨t',rfl⟩:=ry; exact PySem.EqNone.eq_none_int (zaR I q (by simp))
    | str j=>obtain ⟨t',rfl⟩:=ry; exact PySem.EqNone.eq_none_str (zaR I q (by simp))
    | _=>exact absurd (show false=true from hs) Bool.false_ne_true
  | bl i =>
    cases rx
    cases y with
    | non=>cases ry; exact PySem.EqNone.eq_bool_none (zaR I q (by simp))
    | bl j=>cases ry; exact eq_bool (zaR I q znk)
    | str j=>obtain ⟨t',rfl⟩:=ry; exact PySem.EqMixed.eq_bool_str (zaR I q (by simp))
    | _=>exact absurd (show false=true from hs) Bool.false_ne_true
  | int i =>
    obtain ⟨t,rfl⟩:=rx
    cases y with
    | non=>cases ry; exact PySem.EqNone.eq_int_none (zaR I q (by simp))
    | int j=>obtain ⟨t',rfl⟩:=ry; exact eq_int (zaR I q zkE)
    | str j=>obtain ⟨t',rfl⟩:=ry; exact PySem.EqMixed.eq_int_str (zaR I q (by simp))
    | _=>exact absurd (show false=true from hs) Bool.false_ne_true
  | str i =>
    obtain ⟨t,rfl⟩:=rx
    cases y with
    | non=>cases ry; exact PySem.EqNone.eq_str_none (zaR I q (by simp))
    | bl j=>cases ry; exact PySem.EqMixed.eq_str_bool (zaR I q (by simp))
    | int j=>obtain ⟨t',rfl⟩:=ry; exact PySem.EqMixed.eq_str_int (zaR I q (by simp))
    | str j=>obtain ⟨t',rfl⟩:=ry; exact eq_str (zaR I q zkD)
    | _=>exact absurd (show false=true from hs) Bool.false_ne_true
  | byt i =>
    obtain ⟨t,rfl⟩:=rx
    cases y with
    | byt j=>obtain ⟨t',rfl⟩:=ry; exact PySem.W.eq_bytes (zaR I q zkF)
    | _=>exact absurd (show false=true from hs) Bool.false_ne_true
  | _=>cases y <;> exact absurd (show false=true from hs) Bool.false_ne_true
theorem zsr:OpR X (compareOp .NotEq) rNe:=by
  intro pins s σ H x y v u Q I rx ry h; obtain ⟨hs,q⟩:=h
  cases x with
  | non =>
    cases rx
    cases y with
    | non=>cases ry; exact PySem.EqNone.ne_none_none (zaR I q (by simp))
    | bl j=>cases ry; exact PySem.EqNone.ne_none_bool (zaR I q (by simp))
    | int j=>obtain ⟨t',rfl⟩:=ry; exact PySem.EqNone.ne_none_int (zaR I q (by simp))
    | str j=>obtain ⟨t',rfl⟩:=ry; exact PySem.EqNone.ne_none_str (zaR I q (by simp))
    | _=>exact absurd (show false=true from hs) Bool.false_ne_true
  | bl i =>
    cases rx
    cases y with
    | non=>cases ry; exact PySem.EqNone.ne_bool_none (zaR I q (by simp))
    | bl j=>cases ry; exact ne_bool (zaR I q (congrArg not znk))
    | str j=>obtain ⟨t',rfl⟩:=ry; exact PySem.EqMixed.ne_bool_str (zaR I q (by simp))
    | _=>exact absurd (show false=true from hs) Bool.false_ne_true
  | int i =>
    obtain ⟨t,rfl⟩:=rx
    cases y with
    | non=>cases ry; exact PySem.EqNone.ne_int_none (zaR I q (by simp))
    | int j=>obtain ⟨t',rfl⟩:=ry; exact ne_int (zaR I q (congrArg not zkE))
    | str j=>obtain ⟨t',rfl⟩:=ry; exact PySem.EqMixed.ne_int_str (zaR I q (by simp))
    | _=>exact absurd (show false=true from hs) Bool.false_ne_true
  | str i =>
    obtain ⟨t,rfl⟩:=rx
    cases y with
    | non=>cases ry; exact PySem.EqNone.ne_str_none (zaR I q (by simp))
    | bl j=>cases ry; exact PySem.EqMixed.ne_str_bool (zaR I q (by simp))
    | int j=>obtain ⟨t',rfl⟩:=ry; exact PySem.EqMixed.ne_str_int (zaR I q (by simp))
    | str j=>obtain ⟨t',rfl⟩:=ry; exact ne_str (zaR I q (congrArg not zkD))
    | _=>exact absurd (show false=true from hs) Bool.false_ne_true
  | byt i =>
    obtain ⟨t,rfl⟩:=rx
    cases y with
    | byt j=>obtain ⟨t',rfl⟩:=ry; exact PySem.W.ne_bytes (zaR I q (congrArg not zkF))
    | _=>exact absurd (show false=true from hs) Bool.false_ne_true
  | _=>cases y <;> exact absurd (show false=true from hs) Bool.false_ne_true
theorem zss:OpR X (compareOp .Lt) (rI0 fun i j=>.bl (decide (i<j))):=ztU fun _ _ _ _ _ _ _ q=>lt_int q
theorem zqp:OpR X (compareOp .Is) (fun x y H Q=>y=.non∧Q (.bl (decide (x=.non))) H):=by
  intro pins s σ H x y v u Q I rx ry h; obtain ⟨rfl,q⟩:=h; cases ry; refine is_none_gen (zaR I q ?_)
  cases x <;> first
    | (cases rx; rfl)
    | (obtain ⟨t,rfl⟩:=rx; rfl)
theorem zoh:OpR X (compareOp .IsNot) (fun x y H Q=>y=.non∧Q (.bl (!decide (x=.non))) H):=by
  intro pins s σ H x y v u Q I rx ry h; obtain ⟨rfl,q⟩:=h; cases ry; refine isnot_none_gen (zaR I q ?_)
  cases x <;> first
    | (cases rx; rfl)
    | (obtain ⟨t,rfl⟩:=rx; rfl)
theorem zgv:OpR X (compareOp .NotIn) (fun x y H Q=>∃ i j,x=.str i∧y=.str j∧Q (.bl (!(!(Builtin.Str.occurrences j i 0 j.length 1).isEmpty))) H):=by
  intro pins s σ H x y v u Q I rx ry h; obtain ⟨i,j,rfl,rfl,q⟩:=h; obtain ⟨t,rfl⟩:=rx; obtain ⟨t',rfl⟩:=ry; exact notIn_str (zaR I q rfl)
theorem OpR.or {f:Value→Value→Sem Value} {r r':R2} (h:OpR X f r) (h':OpR X f r'):OpR X f (fun x y H Q=>r x y H Q∨r' x y H Q):=by
  intro pins s σ H x y v u Q I rx ry q
  rcases q with q | q
  · exact h pins s σ H x y v u Q I rx ry q
  · exact h' pins s σ H x y v u Q I rx ry q
theorem zmX (b:Expr) {op:CmpOp} (h:op≠.In:=by decide) (h2:op≠.NotIn:=by decide):behindInMarks op b=false:=by
  have e1:(op == CmpOp.In)=false:=by cases op <;> first | rfl | exact absurd rfl h
  have e2:(op == CmpOp.NotIn)=false:=by cases op <;> first | rfl | exact absurd rfl h2
  cases b <;> simp [behindInMarks,e1,e2]
theorem zoc {op:CmpOp} {r:R2} (ho:OpR X (compareOp op) r) (ha:PE X a ta) (hb:PE X b tb) (hm:behindInMarks op b=false):PE X (.Compare a [op] [b] pos) (tOp r ta tb):=by
  intro pins s σ H Q I h
  exact wpAny_Compare1 (zs0 ha hb I h fun v u s2 x y H2 I2 rx ry q=>ho pins s2 σ H2 x y v u Q I2 rx ry q) hm
def zrY (t:TE):TT:=fun σ H Q=>t σ H fun x H'=>∃ k,x=.bl k∧Q k H'
theorem znW {op:CmpOp} {r:R2} (ho:OpR X (compareOp op) r) (ha:PE X a ta) (hb:PE X b tb) (hm:behindInMarks op b=false):PT X (.Compare a [op] [b] pos) (zrY (tOp r ta tb)):=by
  intro pins s σ H Q I h
  refine wpAny_isTrue_Compare1 (thn (ha pins s σ H _ I h) fun v s1 ⟨x,H1,I1,r1,q1⟩=>thn (hb pins s1 σ H1 _ I1 q1) fun u s2 ⟨y,H2,I2,r2,q2⟩ =>
    thn (ho pins s2 σ H2 x y v u _ I2 r1 r2 q2) fun c s3 ⟨z,H3,I3,r3,k,e,q3⟩=>?_) hm
  subst e; cases r3; exact wpAny_truthy_bool ⟨H3,I3,q3⟩
theorem zfj:(sizeLine:Nat)<2 ^ 63:=by rw [sizeLine_eq]; decide
theorem zi4:OpR X (binaryOp .Add) (fun x y H Q=>∃ i j,x=.str i∧y=.str j∧i.length+j.length≤sizeLine∧Q (.str (i ++ j)) H):=by
  intro pins s σ H x y v u Q I rx ry h; obtain ⟨i,j,rfl,rfl,hz,q⟩:=h; obtain ⟨t,rfl⟩:=rx; obtain ⟨t',rfl⟩:=ry
  exact add_str (fun t' tk=>⟨.str (i ++ j),H,I.tok _,⟨_,rfl⟩,q⟩) hz
theorem zdj {x:V} {us:List Value} (r:za3 [x] us):∃ u,us=[u]∧zbi x u:=by
  cases r with
  | cons r1 r2=>cases r2; exact ⟨_,rfl,r1⟩
theorem zpq {x y:V} {us:List Value} (r:za3 [x,y] us):∃ u w',us=[u,w']∧zbi x u∧zbi y w':=by
  cases r with
  | cons r1 r2 =>
    cases r2 with
    | cons r3 r4=>cases r4; exact ⟨_,_,rfl,r1,r3⟩
theorem zkW:zc9 X (.type "int") (fun xs H Q=>(∃ i,xs=[.int i]∧Q (.int i) H)∨∃ k,xs=[.bl k]∧Q (.int (if k then 1 else 0)) H):=by
  intro pins s σ H xs us Q I r h
  rcases h with ⟨i,rfl,q⟩ | ⟨k,rfl,q⟩
  · obtain ⟨u,rfl,t,rfl⟩:=zdj r
    exact call_int_int ⟨.int i,H,I,⟨_,rfl⟩,q⟩
  · obtain ⟨u,rfl,r1⟩:=zdj r
    cases r1
    exact call_int_bool ⟨.int (if k then 1 else 0),H,I.tok _,⟨_,rfl⟩,q⟩
theorem zgT:zc9 X (.type "str") (fun xs H Q=>∃ i,xs=[.int i]∧i.natAbs.log2<1920∧Q (.str (toString i)) H):=by
  intro pins s σ H xs us Q I r h; obtain ⟨i,rfl,hz,q⟩:=h; obtain ⟨u,rfl,t,rfl⟩:=zdj r; exact PySem.P.str_of_int hz ⟨.str _,H,I.tok _,⟨_,rfl⟩,q⟩
end
end L2
namespace L2
open PySem PySem.Spec PyProof.Rows
structure ObjM (h:Heap) (x dx C:Addr) (mA:Str→Option Value):Prop where
  obj:h.get? x=some (PySem.W.instObj C dx)
  ns:h.Ns1 dx mA
  ne:dx≠x
theorem zkl {h:Heap} {dx:Addr} {mA:Str→Option Value} (n:h.Ns1 dx mA):∃ od,h.get? dx=some od∧∀ name,PySem.W.lookIn name od=some (mA name):=by
  obtain ⟨o,es,ep,ho,hd,hk,_,hm⟩:=n
  refine ⟨o,ho,fun name=>?_⟩
  have e:=hm name; unfold nsFind findBy at e; rw [← Array.find?_toList] at e; unfold PySem.W.lookIn; rw [hd]
  dsimp only
  split
  · rename_i y q
    rw [q] at e; exact congrArg some e
  · rename_i q
    rw [q] at e
    have a:es.toList.any (·.refKey)=false:=by
      rw [List.any_eq_false]; intro y hy; obtain ⟨z,t,hkey⟩:=hk y (Array.mem_toList_iff.mp hy); simp [DictEntry.refKey,hkey]
    have a':¬ es.toList.any (·.refKey)=true:=by rw [a]; exact Bool.false_ne_true
    rw [if_neg a']; exact congrArg some e
theorem ObjM.look {h:Heap} {x dx C:Addr} {mA:Str→Option Value} (I:ObjM h x dx C mA):∃ od,PySem.W.InstAt h x (PySem.W.instObj C dx) C (some od)∧∀ name,PySem.W.lookIn name od=some (mA name) :=
  let ⟨od,ho,hl⟩:=zkl I.ns
  ⟨od,⟨I.obj,rfl,rfl,ho⟩,hl⟩
section
variable {prog:Program} {w:World} {A:Around} {E:Value→Shared→Prop} {s:Shared} {K:PySem.W.Frag} {x dx C f:Addr} {mA:Str→Option Value} {name:Str} {v:Value}
end
theorem ziL.some_of {v:V} {o:Option Value} (r:ziL (some v) o):∃ u,o=some u∧zbi v u:=by
  cases o with
  | none=>exact (show False from r).elim
  | some u=>exact ⟨u,rfl,r⟩
section
variable {P:Program} {w:World} {H H':Hp} {h h':Heap} {a C dx:Addr} {fs fs':List (Str × V)}
theorem zoO (hok:HOk P w H h) (e:H a=some (.ins C dx fs)):∃ mA,ObjM h a dx C mA∧(∀ f,ziL (fs.lookup f) (mA f))∧PySem.Within mA (fs.map (·.1))∧fs.length≤1000∧H dx=some (.own a):=by
  obtain ⟨d,z,ne,ob,mA,n,r,q⟩:=(show zbM P w H h a (.ins C dx fs) from hok a _ e)
  exact ⟨mA,⟨ob,n,ne⟩,r,q,z,d⟩
end
structure Cls (K:PySem.W.Frag) (C:Addr):Prop where
  pg:PySem.W.plainGet K C Str.empty=true
  hd:PySem.W.hasDictIn K C=true
  po:PySem.W.plainOver K C=true
  sa:PySem.W.findIn K (.ref C) "__setattr__"=some (some (.builtin "object.__setattr__"))
theorem Cls.get {K:PySem.W.Frag} {C:Addr} (c:Cls K C) (f:Str):PySem.W.plainGet K C f=true:=c.pg
def zk1 (K:PySem.W.Frag) (C:Addr) (f:Str):Prop:=PySem.W.findIn K (.ref C) f=some none
section
variable {X:Cx} {pins:List (Addr × Obj)} {σ:St} {H:Hp} {s:Shared} {a C dx:Addr} {fs:List (Str × V)} {f:Str} {v:V} {A:Around} {E:Value→Shared→Prop}
end
section
variable {X:Cx} {o e value:Expr} {f:Str} {pos pos' tpos:Pos} {ta tv:TE}
end
section
variable {X:Cx} {pins:List (Addr × Obj)} {σ:St} {H:Hp} {s:Shared} {A:Around} {E:Value→Shared→Prop} {Q:Value→Shared→Prop} {c:Value} {b:Bool}
end
end L2
namespace L2
open PySem PySem.Spec PyProof.Rows
structure Room (k:Nat) (A:Around):Prop where
  hd:A.handled=none
  dp:A.depth+3 * k+5<recursionLimit
  un:A.units+16 * k+200<cLine
theorem Room.mono {j k:Nat} {A:Around} (r:Room k A) (h:j≤k):Room j A:=⟨r.hd,by have:=r.dp; omega,by have:=r.un; omega⟩
theorem Room.deeper {k:Nat} {A:Around} (r:Room (k+1) A) (env:Env):Room k (A.deeper env) :=
  ⟨r.hd,by have:=r.dp; show A.depth+1+3 * k+5<_; omega,by have:=r.un; show A.units+3+16 * k+200<_; omega⟩
theorem Room.in1 {k:Nat} {A:Around} (r:Room (k+1) A):Room k A.in1 :=
  ⟨r.hd,by have:=r.dp; show A.depth+3 * k+5<_; omega,by have:=r.un; show A.units+1+16 * k+200<_; omega⟩
theorem Room.depth {k:Nat} {A:Around} (r:Room k A):A.depth<recursionLimit:=by have:=r.dp; omega
theorem Room.units {k:Nat} {A:Around} (r:Room k A):A.units+64<cLine:=by have:=r.un; omega
def ztc:TA:=fun _ H Q=>Q [] H
def zpy (ta:TE) (tr:TA):TA:=fun σ H Q=>ta σ H fun x H1=>tr σ H1 fun xs H2=>Q (x :: xs) H2
section
variable {X:Cx} {e:Expr} {es:List Expr} {te:TE} {t:TA} {pos:Pos}
theorem zfh:PA X [] ztc:=fun _ _ _ _ H Q I h=>Calls.spliced_nil ⟨[],H,I,.nil,h⟩
theorem zcL (ha:PE X e te) (hr:PA X es t) (hs:starEach (e :: es) X.env=(false,eval e X.env) :: starEach es X.env:=by rfl):PA X (e :: es) (zpy te t):=by
  intro pos pins s σ H Q I h; rw [hs]
  show wpAny _ _ (spliced ((false,eval e X.env) :: backTo pos (starEach es X.env))) _ _ s
  refine Calls.spliced_cons (thn (ha pins s σ H _ I h) fun u s1 ⟨x,H1,I1,r1,q1⟩=>?_)
  exact thn (hr pos pins s1 σ H1 _ I1 q1) fun us s2 ⟨xs,H2,I2,r2,q2⟩=>⟨x :: xs,H2,I2,.cons r1 r2,q2⟩
def ztE (t:TA):TE:=fun σ H Q=>t σ H fun xs H1=>xs.length≤sizeLine∧∀ p,H1 p=none→Q (.ref p) (upd H1 p (.tup xs))
def ztI (t:TA):TE:=fun σ H Q=>t σ H fun xs H1=>xs.length≤sizeLine∧∀ p,H1 p=none→Q (.ref p) (upd H1 p (.lst xs))
theorem zmU {x1} (h:PA X es t):PE X (.Tuple es x1 pos) (ztE t):=by
  intro pins s σ H Q I hq
  refine wpAny_Tuple_spliced (thn (h pos pins s σ H _ I hq) fun us s1 ⟨xs,H1,I1,r,z,q⟩=>⟨by rw [← r.length]; exact z,?_⟩)
  have hf:H1 s1.heap.objs.size=none:=I1.hok.fresh (Nat.le_refl _)
  refine ⟨.ref s1.heap.objs.size,upd H1 s1.heap.objs.size (.tup xs),I1.laid (t':=s1.toks) (fun b u e=>Heap.get?_push_of_some _ e) (Nat.le_refl _) ?_,rfl,q _ hf⟩
  exact ⟨z,us,r,⟨_,Heap.get?_push_size _ rfl,rfl,_,rfl⟩⟩
theorem zqf (h:PA X es t):PE X (.List es pos) (ztI t):=by
  intro pins s σ H Q I hq
  refine wpAny_List_spliced (thn (h pos pins s σ H _ I hq) fun us s1 ⟨xs,H1,I1,r,z,q⟩=>⟨by rw [← r.length]; exact z,?_⟩)
  have hf:H1 s1.heap.objs.size=none:=I1.hok.fresh (Nat.le_refl _)
  refine ⟨.ref s1.heap.objs.size,upd H1 s1.heap.objs.size (.lst xs),I1.laid (t':=s1.toks) (fun b u e=>Heap.get?_push_of_some _ e) (Nat.le_refl _) ?_,rfl,q _ hf⟩
  exact ⟨z,us,0,r,Heap.get?_push_size _ rfl⟩
end
abbrev Sp:=List V→Hp→VK→XK→Prop
abbrev CXT:=List Env→Hp→Shared→XK→Value→Shared→Prop
structure Env0 (P:Program) (w:World) (K:PySem.W.Frag) (mg:Str→Option Value) (base:Heap) (A:Around) (outer:List Env) (s:Shared) (H:Hp):Prop where
  frames:A.frames=some outer
  mod:Mod K mg base
  bs:∀ b o,base.get? b=some o→s.heap.get? b=some o∧H b=none
  bsz:base.objs.size≤s.heap.objs.size
  funs:s.heap.FunFrames base outer
  frf:∀ b ∈ frs outer,H b=none
  hok:HOk P w H s.heap
  bare:AllBare s.gens
  tab:zjl base H
def CE (outer:List Env) (P:Program) (w:World) (H:Hp) (s:Shared) (Q:VK) (u:Value) (s':Shared):Prop :=
  ∃ v H',s'.os=s.os∧AllBare s'.gens∧Un (frs outer) [] H H' s.heap s'.heap∧HOk P w H' s'.heap∧zbi v u∧Q v H'
def CR (CX:CXT) (outer:List Env) (P:Program) (w:World) (H:Hp) (s:Shared) (Q:VK) (E:XK) (r:Result) (s':Shared):Prop :=
  match r with
  | .ok (.ret u)=>CE outer P w H s Q u s'
  | .ok _=>False
  | .error e=>CX outer H s E e s'
structure FnOk (P:Program) (w:World) (K:PySem.W.Frag) (mg:Str→Option Value) (base:Heap) (CX:CXT) (k:Nat) (f:Addr) (fd:FuncData) (ps:List Str) (sp:Sp):Prop where
  len:∀ vs H Q E,sp vs H Q E→vs.length=ps.length
  run:∀ (A:Around) (outer:List Env) (s:Shared) (H:Hp) (args:Args) (us:List Value) (vs:List V) (Q:VK) (E:XK),Room k A→Env0 P w K mg base A outer s H→BindsTo s fd args (ps.zip us)→za3 vs us→sp vs H Q E →
    codeAny (model P w) A (.call (.ref f) args) (CR CX outer P w H s Q E) s
theorem Env0.in1 {P:Program} {w:World} {K:PySem.W.Frag} {mg:Str→Option Value} {base:Heap} {A:Around} {outer:List Env} {s:Shared} {H:Hp} (e:Env0 P w K mg base A outer s H) :
    Env0 P w K mg base A.in1 outer s H:=⟨e.frames,e.mod,e.bs,e.bsz,e.funs,e.frf,e.hok,e.bare,e.tab⟩
section
variable {X:Cx} {pins:List (Addr × Obj)} {σ:St} {H:Hp} {s s':Shared}
theorem Inv.env0 (I:Inv X pins σ H s):Env0 X.prog X.w X.K X.mg X.base X.A X.stack s H :=
  ⟨I.ok.frames,I.ok.mod,I.bs,Nat.le_trans I.ok.bsz I.sz,I.stack,I.stkFree,I.hok,I.bare,I.ok.tab.un I.base.tbls⟩
theorem Inv.after {Q:VK} {u:Value} (I:Inv X pins σ H s) (h:CE X.stack X.prog X.w H s Q u s'):EP X pins σ Q u s':=by
  obtain ⟨v,H',os,bare,un,hok,r,q⟩:=h; obtain ⟨hh,g,d,t,os'⟩:=s'
  obtain rfl:os'=s.os:=os
  exact ⟨v,H',I.call (h':=hh) (g':=g) (d':=d) (t':=t) (ch:=[]) un hok bare (fun b z=>absurd z (by simp)),r,q⟩
end
def zr2 (sp:Sp) (dvs:List V) (E:XK) (t:TA):TE:=fun σ H Q=>t σ H fun vs H1=>sp (vs ++ dvs) H1 Q E
def zdL (K:PySem.W.Frag) (fd:FuncData) (ps:List Str) (ds:List Value):Prop :=
  ∀ (s:Shared) (us:List Value),K.In s.heap→(us ++ ds).length=ps.length→BindsTo s fd ⟨us,[]⟩ (ps.zip (us ++ ds))
theorem zdL.all {K:PySem.W.Frag} {fd:FuncData} {ps:List Str} (h:∀ us:List Value,us.length=ps.length→bindArgs fd ⟨us,[]⟩=pure (ps.zip us)):zdL K fd ps []:=fun s us _ hl=>by
  rw [List.append_nil] at hl ⊢; exact .of_eq (h us hl)
def zk0 (CX:CXT) (X:Cx) (E:XK):Prop:=∀ (pins:List (Addr × Obj)) (σ:St) (H:Hp) (s:Shared) (e:Value) (s':Shared),Inv X pins σ H s→CX X.stack H s E e s'→X.xe e s'
section
variable {X:Cx} {CX:CXT} {k:Nat} {f C:Addr} {fd:FuncData} {ps:List Str} {sp:Sp} {dvs:List V} {ds:List Value} {E:XK} {x m:Str} {p pos apos:Pos} {e o:Expr} {es:List Expr} {ta:TE} {t:TA}
theorem zpJ {pins:List (Addr × Obj)} {σ:St} {H:Hp} {s:Shared} {Q:VK} {us:List Value} {vs:List V} (F:FnOk X.prog X.w X.K X.mg X.base CX k f fd ps sp) (hr:Room k X.A) (hb:zdL X.K fd ps ds) (hd:za3 dvs ds) (hx:zk0 CX X E)
    (I:Inv X pins σ H s) (r:za3 vs us) (h:sp (vs ++ dvs) H Q E):wpAny (model X.prog X.w) X.A (call (.ref f) us) (EP X pins σ Q) X.xe s:=by
  have r2:za3 (vs ++ dvs) (us ++ ds):=r.append hd
  have hl:(us ++ ds).length=ps.length:=by rw [← r2.length]; exact F.len _ _ _ _ h
  refine wpAny_call (codeAny_mono (F.run X.A X.stack s H ⟨us,[]⟩ (us ++ ds) (vs ++ dvs) Q E hr I.env0 (hb s us I.kIn hl) r2 h) fun r s' hq=>?_)
  cases r with
  | error e=>exact hx pins σ H s e s' I hq
  | ok fl =>
    cases fl with
    | ret u=>exact I.after hq
    | next=>exact False.elim hq
    | brk=>exact False.elim hq
    | cont=>exact False.elim hq
theorem zhk (F:FnOk X.prog X.w X.K X.mg X.base CX k f fd ps sp) (hr:Room k X.A) (hg:Gl X x) (hm:X.mg x=some (.ref f)) (hk:PySem.W.keepIn X.K (.ref f)=true) (hb:zdL X.K fd ps ds) (hd:za3 dvs ds) (hx:zk0 CX X E)
    (ha:PA X (e :: es) t) (hdb:(x == ("__debug__":Str))=false:=by decide) (he:starEach (e :: es) X.env=(false,eval e X.env) :: starEach es X.env:=by rfl) (hpl:(backTo pos (starEach es X.env)).any (·.1)=false:=by rfl) :
    PE X (.Call (.Name x p) (e :: es) [] pos) (zr2 sp dvs E t):=by
  intro pins s σ H Q I h; refine wpAny_Call_Name_kw (zkp I hg hm ?_ hdb)
  refine PySem.W.callWith_K (h₀:=X.base) I.ok.mod.kin hk (thn (ha pos pins s σ H _ I h) fun us s1 ⟨vs,H1,I1,r,q⟩=>⟨I1.kIn,?_⟩) he hpl
  exact zpJ F hr hb hd hx I1 r q
end
def PK (X:Cx) (kws:List Keyword) (t:TA):Prop :=
  ∀ (pos:Pos) (pins:List (Addr × Obj)) (s:Shared) (σ:St) (H:Hp) (Q:List V→Hp→Prop),Inv X pins σ H s→t σ H Q→wpAny (model X.prog X.w) X.A (evalAll ((backToKw pos (keywordEach kws X.env)).map (·.2))) (AP X pins σ Q) X.xe s
section
variable {X:Cx} {CX:CXT} {k:Nat} {f C:Addr} {fd:FuncData} {ps ks:List Str} {sp:Sp} {E:XK} {x m:Str} {p pos apos kpos:Pos} {e o:Expr} {es:List Expr} {kws:List Keyword} {te ta:TE} {t tk:TA} {nm:Option Str}
theorem zmS:PK X [] ztc:=fun _ _ _ _ H Q I h=>wpAny_evalAll_nil ⟨[],H,I,.nil,h⟩
theorem zjZ (ha:PE X e te) (hr:PK X kws t):PK X (⟨nm,e,kpos⟩ :: kws) (zpy te t):=by
  intro pos pins s σ H Q I h
  show wpAny _ _ (evalAll ((do let v ← eval e X.env; standAt pos; pure v) :: (backToKw pos (keywordEach kws X.env)).map (·.2))) _ _ s
  refine wpAny_evalAll_cons (wpAny_bind (thn (ha pins s σ H _ I h) fun u s1 ⟨x,H1,I1,r1,q1⟩=>wpAny_bind (wpAny_standAt (wpAny_pure ?_))))
  exact thn (hr pos pins s1 σ H1 _ I1 q1) fun us s2 ⟨xs,H2,I2,r2,q2⟩=>⟨x :: xs,H2,I2,.cons r1 r2,q2⟩
variable {g:List Value→List Value→List Value} {gV:List V→List V→List V}
end
structure FnScope (N P:List Str) (sc:Scope):Prop where
  kind:sc.kind=.function
  co:sc.isCoroutine=false
  gen:sc.isGenerator=false
  nd:N.Nodup
  pre:N.take P.length=P
  par:∀ x ∈ P,sc.names.lookup x=some .local∨sc.names.lookup x=some .cell
  nofree:∀ y ∈ sc.names,y.2≠.free
theorem zgZ {kindOf:Str→Option NameKind} {x:Str}:∀ {binds:List (Str × Value)} {m:Str→Option Value},(∀ v,(x,v) ∉ binds)→bindL kindOf binds m x=m x
  | [],_,_=>rfl
  | (n,v) :: r,m,h=>by
    unfold bindL
    rw [zgZ fun w hw=>h w (List.mem_cons_of_mem _ hw)]
    split
    · have:x≠n:=by rintro rfl; exact h v List.mem_cons_self
      simp [this]
    · rfl
theorem zg1 {kindOf:Str→Option NameKind} {x:Str}:∀ {binds:List (Str × Value)} {m:Str→Option Value},(∀ v,(x,v) ∉ binds)→bindC kindOf binds m x=m x
  | [],_,_=>rfl
  | (n,v) :: r,m,h=>by
    unfold bindC
    rw [zg1 fun w hw=>h w (List.mem_cons_of_mem _ hw)]
    split
    · rfl
    · have:x≠n:=by rintro rfl; exact h v List.mem_cons_self
      simp [this]
theorem zg0 {kindOf:Str→Option NameKind} {x:Str} {v:Value}:∀ {P:List Str} {vs:List Value} {i:Nat} {m:Str→Option Value},P.Nodup→P[i]?=some x→vs[i]?=some v→kindOf x=some .local →
    bindL kindOf (P.zip vs) m x=some v
  | [],_,_,_,_,h,_,_=>by simp at h
  | _ :: _,[],_,_,_,_,h,_=>by simp at h
  | p :: P,w :: vs,0,m,nd,h1,h2,hk=>by
    simp at h1 h2; subst h1; subst h2
    show bindL kindOf ((p,w) :: P.zip vs) m p=_
    unfold bindL
    rw [zgZ fun v hv=>(List.nodup_cons.mp nd).1 (List.of_mem_zip hv).1,if_pos hk]
    simp
  | p :: P,w :: vs,i+1,m,nd,h1,h2,hk=>by
    show bindL kindOf ((p,w) :: P.zip vs) m x=_
    unfold bindL
    exact zg0 (i:=i) (List.nodup_cons.mp nd).2 (by simpa using h1) (by simpa using h2) hk
theorem zg2 {kindOf:Str→Option NameKind} {x:Str} {v:Value}:∀ {P:List Str} {vs:List Value} {i:Nat} {m:Str→Option Value},P.Nodup→P[i]?=some x→vs[i]?=some v→kindOf x≠some .local →
    bindC kindOf (P.zip vs) m x=some v
  | [],_,_,_,_,h,_,_=>by simp at h
  | _ :: _,[],_,_,_,_,h,_=>by simp at h
  | p :: P,w :: vs,0,m,nd,h1,h2,hk=>by
    simp at h1 h2; subst h1; subst h2
    show bindC kindOf ((p,w) :: P.zip vs) m p=_
    unfold bindC
    rw [zg1 fun v hv=>(List.nodup_cons.mp nd).1 (List.of_mem_zip hv).1,if_neg hk]
    simp
  | p :: P,w :: vs,i+1,m,nd,h1,h2,hk=>by
    show bindC kindOf ((p,w) :: P.zip vs) m x=_
    unfold bindC
    exact zg2 (i:=i) (List.nodup_cons.mp nd).2 (by simpa using h1) (by simpa using h2) hk
def start (N:List Str) (vs:List V):St:=vs.map some ++ List.replicate (N.length-vs.length) none
def zjo (CX:CXT) (P:Program) (w:World) (K:PySem.W.Frag) (mg:Str→Option Value) (base:Heap) (N:List Str) (qual:Str) (scope:Scope) (f:Addr) (cd:Value) (A:Around) (outer:List Env) (s:Shared) (H:Hp) (E:XK):Cx where
  prog:=P
  w:=w
  K:=K
  mg:=mg
  base:=base
  A:=A.deeper (envOfC qual scope s.heap.objs.size f cd)
  N:=N
  s₀:=s
  H₀:=H
  env:=envOfC qual scope s.heap.objs.size f cd
  outer:=outer
  stack:=envOfC qual scope s.heap.objs.size f cd :: outer
  ex:=[]
  calm:=true
  fn:=fun _=>true
  pn:=[]
  xe:=fun e s'=>wpAny (model P w) (A.deeper (envOfC qual scope s.heap.objs.size f cd)) (leaving (envOfC qual scope s.heap.objs.size f cd) e) (fun _ s''=>CX outer H s E e s'') (fun e' s''=>CX outer H s E e' s'') s'
theorem ziJ {sc:Scope} {n:Nat} {x:Str} (h:sc.names.lookup x=some .cell):∃ c,(cellsFrom n sc.names []).lookup x=some c:=by
  have q:=PySem.W.cellsFrom_some sc.names n [] (.inl h); exact Option.isSome_iff_exists.mp q
theorem zkx {CX:CXT} {P:Program} {w:World} {K:PySem.W.Frag} {mg:Str→Option Value} {base:Heap} {N ps:List Str} {qual:Str} {scope:Scope} {f:Addr} {cd:Value} {A:Around} {outer:List Env} {s s1:Shared} {H:Hp} {E:XK} {us:List Value} {vs:List V}
    (S:FnScope N ps scope) (hd:A.handled=none) (e0:Env0 P w K mg base A outer s H) (hl:vs.length=ps.length) (r:za3 vs us)
    (x:InCallC s s.heap.objs.size (bindL (envOfC qual scope s.heap.objs.size f cd).kindOf (ps.zip us) fun _=>none) (cellsFrom (s.heap.objs.size+1) scope.names []) (bindC (envOfC qual scope s.heap.objs.size f cd).kindOf (ps.zip us) fun _=>none) s1) :
    Inv (zjo CX P w K mg base N qual scope f cd A outer s H E) [] (start N vs) H s1:=by
  have hpl:ps.length≤N.length:=by have:=congrArg List.length S.pre; rw [List.length_take] at this; omega
  obtain ⟨h1,tk,rfl,hk⟩:=x.done
  have noA:∀ b:Addr,b ∉ (zjo CX P w K mg base N qual scope f cd A outer s H E).ex:=fun b z=>absurd (show b ∈ ([]:List Addr) from z) (by simp)
  refine ⟨⟨e0.mod,S.kind,rfl,rfl,Nat.le_refl _,fun y z c h1 h2=>?_,fun y hy=>?_,fun y c _ h=>?_,fun _=>hd,Around.frames_deeper e0.frames,.inr ⟨rfl,rfl⟩,fun b z=>absurd z (noA b),e0.bs,e0.bsz,fun b _ _=>noA b,fun b z=>absurd z (noA b),e0.funs,e0.frf,e0.tab⟩,
    rfl,e0.bare,Un.kept hk,⟨_,x.toInCall.ns,fun i y v h1 h2 h3=>?_⟩,fun y c h=>⟨_,x.cell y c h⟩,e0.hok.fresh (Nat.le_refl _),fun y c h=>?_,fun p hp=>absurd (show p ∈ ([]:List (Addr × Obj)) from hp) (by simp),e0.hok.kept hk,?_⟩
  · exact name_of_addr x.apart (PySem.mem_of_lookup h1) (PySem.mem_of_lookup h2)
  · have hy:scope.names.lookup y=some .cell∨scope.names.lookup y=some .free:=hy
    rcases hy with hy | hy
    · exact ziJ hy
    · exact absurd rfl (S.nofree _ (PySem.mem_of_lookup hy))
  · exact Nat.le_of_lt (x.above y c (PySem.mem_of_lookup h))
  · have hi:i<vs.length:=by
      unfold start at h2
      by_cases hi:i<vs.length
      · exact hi
      · rw [List.getElem?_append_right (by simpa using hi)] at h2
        rw [List.getElem?_replicate] at h2
        split at h2 <;> cases h2
    have ha:vs[i]?=some v:=by
      unfold start at h2
      rw [List.getElem?_append_left (by simpa using hi),List.getElem?_map] at h2
      cases e:vs[i]? with
      | none=>rw [e] at h2; cases h2
      | some a=>rw [e] at h2; cases h2; rfl
    obtain ⟨u,hu,rv⟩:=r.get ha
    have hp:ps[i]?=some y:=by
      rw [← S.pre,List.getElem?_take_of_lt (by omega)]; exact h1
    have ndP:ps.Nodup:=by rw [← S.pre]; exact S.nd.sublist (List.take_sublist _ _)
    refine ⟨u,rv,?_⟩
    rcases S.par y (List.mem_of_getElem? hp) with k | k
    · exact .inl ⟨k,zg0 ndP hp hu k⟩
    · obtain ⟨c,e⟩:=ziJ (n:=s.heap.objs.size+1) k
      refine .inr ⟨.inl k,c,e,?_⟩; have q:=x.cell y c e
      rw [zg2 ndP hp hu (by show scope.names.lookup y≠_; rw [k]; decide)] at q
      exact q
  · exact e0.hok.fresh (Nat.le_of_lt (x.above y c (PySem.mem_of_lookup h)))
  · unfold start
    show _=N.length
    rw [List.length_append,List.length_map,List.length_replicate]; omega
theorem zsK {CX:CXT} {P:Program} {w:World} {K:PySem.W.Frag} {mg:Str→Option Value} {base:Heap} {k:Nat} {f:Addr} {name qual:Str} {params:Arguments} {body:List Stmt} {scope:Scope} {dV kV doc pm cdv ct oc:Value} {an od:Option Addr}
    {osl:Array (Option Value)} {N ps:List Str} {sp:Sp} (lk:K.lookup f=some ⟨oc,od,.func (PySem.W.fnOf name qual params body scope dV kV doc pm an cdv ct),osl⟩) (hcd:PySem.W.codeIn K cdv qual=true) (S:FnScope N ps scope)
    (len:∀ vs H Q E,sp vs H Q E→vs.length=ps.length)
    (hbody:∀ (A:Around) (outer:List Env) (s:Shared) (H:Hp) (vs:List V) (Q:VK) (E:XK),Room k (A.deeper (envOfC qual scope s.heap.objs.size f cdv))→sp vs H Q E →
      ∃ t,PSs (zjo CX P w K mg base N qual scope f cdv A outer s H E) body t∧t { nx:=fun _ H'=>Q .non H',rt:=Q } (start N vs) H) :
    FnOk P w K mg base CX (k+1) f (PySem.W.fnOf name qual params body scope dV kV doc pm an cdv ct) ps sp:=by
  refine ⟨len,fun A outer s H args us vs Q E hr e0 hb r hsp=>?_⟩
  have hl:=len _ _ _ _ hsp
  have KX:K.In s.heap:=e0.mod.kin.keeps fun b o e=>(e0.bs b o e).1
  have lim:s.heap.NoLimit:=e0.mod.nolimit.keeps fun b o e=>(e0.bs b o e).1
  have hkind:∀ y ∈ ps.zip us,scope.names.lookup y.1=some .local∨(scope.names.lookup y.1=some .cell∧((cellsFrom (s.heap.objs.size+1) scope.names []).lookup y.1).isSome=true):=fun ⟨n,v⟩ hy=>by
    rcases S.par n (List.of_mem_zip hy).1 with q | q
    · exact .inl q
    · exact .inr ⟨q,PySem.W.cellsFrom_some _ _ _ (.inl q)⟩
  refine codeAny_call_function hr.depth (KX _ _ lk) rfl S.co S.gen rfl (PySem.W.codeRec_of KX hcd) (hb _ _ _ _ ?_)
  refine wpAny_newFunctionEnv_cells S.kind hkind fun env he s1 x=>?_
  subst he; refine ⟨lim.keeps x.toInCall.keep,codeAny_func ?_⟩; obtain ⟨t,ht,hq⟩:=hbody A outer s H vs Q E (hr.deeper _) hsp
  have I:Inv (zjo CX P w K mg base N qual scope f cdv A outer s H E) [] (start N vs) H s1:=zkx S hr.hd e0 hl r x
  refine wpAny_mono (ht [] s1 (start N vs) H _ I hq) (fun fl s' hs=>?_) fun e s' hs=>hs
  have fin:∀ {σ':St} {H':Hp} {v:V} {u:Value},Inv (zjo CX P w K mg base N qual scope f cdv A outer s H E) [] σ' H' s'→zbi v u→Q v H'→CE outer P w H s Q u s' :=
    fun {σ' H' v u} J rv q=>⟨v,H',J.os,J.bare,J.base,J.hok,rv,q⟩
  cases fl with
  | ret u =>
    obtain ⟨v,σ',H',J,rv,q⟩:=hs; exact fin J rv q
  | next =>
    obtain ⟨σ',H',J,q⟩:=hs; exact fin (v:=V.non) (u:=Value.none) J rfl q
  | brk =>
    obtain ⟨_,_,_,q⟩:=hs; exact False.elim q
  | cont =>
    obtain ⟨_,_,_,q⟩:=hs; exact False.elim q
end L2
namespace L2
open PySem PySem.Spec PyProof.Rows
section
variable {X:Cx} {x:Str} {p pos:Pos} {e:Expr} {es:List Expr} {t:TA} {id T:String} {r:List V→Hp→VK→Prop}
def tCB (r:List V→Hp→VK→Prop) (t:TA):TE:=fun σ H Q=>t σ H fun vs H1=>r vs H1 Q
theorem zlK (hc:zc9 X (.builtin id) r) (hg:Gl X x) (hm:X.mg x=none) (hv:bootBuiltins x=some (.builtin id)) (ha:PA X (e :: es) t) (hn:x≠"__name__":=by decide) (hdb:(x == ("__debug__":Str))=false:=by decide)
    (he:starEach (e :: es) X.env=(false,eval e X.env) :: starEach es X.env:=by rfl) (hpl:(backTo pos (starEach es X.env)).any (·.1)=false:=by rfl):PE X (.Call (.Name x p) (e :: es) [] pos) (tCB r t):=by
  intro pins s σ H Q I h; refine wpAny_Call_Name_kw (zfk I hg hm hv ?_ hn hdb)
  exact PyProof.Rows.callWith_builtin1 (thn (ha pos pins s σ H _ I h) fun us s1 ⟨vs,H1,I1,r1,q1⟩=>hc pins s1 σ H1 vs us Q I1 r1 q1) he hpl
theorem zgu (hc:zc9 X (.type T) r) (hg:Gl X x) (hm:X.mg x=none) (hv:bootBuiltins x=some (.type T)) (ha:PA X (e :: es) t) (hn:x≠"__name__":=by decide) (hdb:(x == ("__debug__":Str))=false:=by decide)
    (he:starEach (e :: es) X.env=(false,eval e X.env) :: starEach es X.env:=by rfl) (hpl:(backTo pos (starEach es X.env)).any (·.1)=false:=by rfl):PE X (.Call (.Name x p) (e :: es) [] pos) (tCB r t):=by
  intro pins s σ H Q I h; refine wpAny_Call_Name_kw (zfk I hg hm hv ?_ hn hdb)
  exact PyProof.Rows.callWith_type1 (thn (ha pos pins s σ H _ I h) fun us s1 ⟨vs,H1,I1,r1,q1⟩=>hc pins s1 σ H1 vs us Q I1 r1 q1) he hpl
end
end L2
namespace HT
open PySem PyProof.Rows
section
open PySem.SeqAt
open PySem.AutoSeq1 (wpAny_loadPart')
open PySem.MeetsSeq PySem.MeetsSeq2 PySem.MeetsSeq3
end
section
variable {prog:Program} {w:World} {A:Around} {E:Value→Shared→Prop} {s:Shared}
theorem cat_tup {t b:Addr} {vs ws:List Value} {Q:Value→Shared→Prop} (ht:IsTup s.heap t vs.toArray) (hb:IsTup s.heap b ws.toArray) (hv:vs≠[])
    (h1:ws=[]→Q (.ref t) s) (h2:ws≠[]→Q (.ref s.heap.objs.size) { s with heap:=s.heap.push { cls:=.type "tuple",data:=.seq (vs ++ ws).toArray } })
    (hsz:vs.length+ws.length≤sizeLine):wpAny (model prog w) A (binaryOp .Add (.ref t) (.ref b)) Q E s:=by
  obtain ⟨⟨cls,dd,data,sl⟩,ho,hc,n,hd⟩:=id ht
  obtain ⟨⟨cls2,dd2,data2,sl2⟩,ho2,hc2,n2,hd2⟩:=id hb
  simp only at hc hd hc2 hd2
  subst hc hd hc2 hd2
  have e:vs.toArray ++ ws.toArray=(vs ++ ws).toArray:=by simp
  by_cases hw:ws=[]
  · exact concat_meets ⟨_,ho,rfl⟩ ⟨_,ho2,rfl⟩ noFill_tuple_add seq_tuple_add PySem.F.slot_tuple_add PySem.F.entry_tuple_add (PySem.F.args_tuple_add_2 _ _)
      (tuple_addW1 t b vs.toArray ws.toArray n n2 dd dd2 sl sl2 (by simpa using hv) (by simp [hw])) ⟨ho,ho2,h1 hw⟩
  · refine concat_meets ⟨_,ho,rfl⟩ ⟨_,ho2,rfl⟩ noFill_tuple_add seq_tuple_add PySem.F.slot_tuple_add PySem.F.entry_tuple_add (PySem.F.args_tuple_add_2 _ _)
      (tuple_addW2 t b vs.toArray ws.toArray n n2 dd dd2 sl sl2 (by simpa using hv) (by simpa using hw) (by rw [List.size_toArray,List.size_toArray]; exact hsz)) ⟨ho,ho2,?_⟩
    rw [e]; exact h2 hw
def sIx (n d:Nat):Option Int→Nat
  | none=>d
  | some v=>if v<0 then (v+(n:Int)).toNat else min v.toNat n
theorem sIx_none (n d:Nat):sIx n d none=d:=rfl
theorem sIx_nat (n d k:Nat):sIx n d (some (k:Int))=min k n:=by
  show (if (k:Int)<0 then ((k:Int)+(n:Int)).toNat else min (k:Int).toNat n)=min k n
  rw [if_neg (by omega),Int.toNat_natCast]
theorem zpI (n d:Nat) (hd:d≤n) (o:Option Int):sIx n d o≤n:=by
  cases o with
  | none=>exact hd
  | some v =>
    show (if v<0 then (v+(n:Int)).toNat else min v.toNat n)≤n
    by_cases hv:v<0
    · rw [if_pos hv]; omega
    · rw [if_neg hv]; exact Nat.min_le_right _ _
theorem zkR (v:Int) (n d:Nat):(if v<0 then max (v+(n:Int)) 0 else min v (n:Int))=((sIx n d (some v):Nat):Int):=by
  show (if v<0 then max (v+(n:Int)) 0 else min v (n:Int))=(((if v<0 then (v+(n:Int)).toNat else min v.toNat n):Nat):Int)
  by_cases hv:v<0
  · simp only [if_pos hv]; omega
  · simp only [if_neg hv]; omega
theorem zjk (lo hi:Option Int) (n:Nat):Builtin.Slice.sliceAdjust lo hi 1 (n:Int)=(((sIx n 0 lo:Nat):Int),((sIx n n hi:Nat):Int)):=by
  have h1:¬ ((1:Int)<0):=by omega
  unfold Builtin.Slice.sliceAdjust; simp only [h1,if_false]; refine Prod.ext ?_ ?_
  · cases lo with
    | none=>rfl
    | some v=>exact zkR v n 0
  · cases hi with
    | none=>rfl
    | some v=>exact zkR v n n
theorem zi1 (i j:Nat):Builtin.Slice.slicePlaces (i:Int) (j:Int) 1=j-i:=by
  unfold Builtin.Slice.slicePlaces
  have h1:(1:Int) > 0:=by omega
  simp only [h1,if_true,Int.ediv_one]
  split <;> omega
theorem ze9 {v:Value} {o:Option Int} {Q:Option Int→Shared→Prop} (p:IsPart v o) (h:Q o s):wpAny (model prog w) A (Builtin.Slice.slicePartIndex v) Q E s:=by
  cases p with
  | none=>exact slicePart_none h
  | int i t=>exact slicePart_int h
theorem zcN {sl:Addr} {vl vu:Value} {lo hi:Option Int} {n:Nat} {Q:Int × Int × Nat→Shared→Prop} (hs:s.heap.IsSliceOf sl vl vu .none) (pl:IsPart vl lo) (pu:IsPart vu hi)
    (h:Q (((sIx n 0 lo:Nat):Int),1,sIx n n hi-sIx n 0 lo) s):wpAny (model prog w) A (Builtin.Slice.sliceApplied (.ref sl) (pure (n:Int))) Q E s:=by
  obtain ⟨os,hos,hcs,hds⟩:=id hs; unfold Builtin.Slice.sliceApplied Builtin.Slice.sliceFields; refine wpAny_bind (wpAny_bind (wpAny_field hos hds (x:=vl) rfl (wpAny_bind (wpAny_field hos hds (x:=vu) rfl (wpAny_bind (wpAny_field hos hds (x:=.none) rfl (wpAny_pure ?_))))))); refine wpAny_bind (slicePart_none ?_)
  show wpAny _ _ (if ((1:Int) == 0)=true then _ else _) _ _ s
  rw [if_neg (by decide)]
  refine wpAny_bind (ze9 pl (wpAny_bind (ze9 pu (wpAny_bind (wpAny_pure ?_)))))
  show wpAny _ _ (match Builtin.Slice.sliceAdjust lo hi 1 (n:Int) with | (lo,hi)=>pure (lo,(1:Int),Builtin.Slice.slicePlaces lo hi 1)) _ _ s
  rw [zjk lo hi n]
  show wpAny _ _ (pure (((sIx n 0 lo:Nat):Int),(1:Int),Builtin.Slice.slicePlaces ((sIx n 0 lo:Nat):Int) ((sIx n n hi:Nat):Int) 1)) _ _ s
  rw [zi1]; exact wpAny_pure h
theorem zlE (xs:Array Value) (i k:Nat):((List.range k).filterMap fun (m:Nat)=>xs[((i:Int)+(m:Int) * 1).toNat]?).toArray=((xs.toList.drop i).take k).toArray:=by
  have e:(fun (m:Nat)=>xs[((i:Int)+(m:Int) * 1).toNat]?)=fun m=>xs[i+m]?:=by
    funext m
    have:((i:Int)+(m:Int) * 1).toNat=i+m:=by omega
    rw [this]
  rw [e]
  have:=pick_run xs i k
  rw [List.filterMap_map] at this
  have e2:((fun x=>xs[x]?) ∘ fun x=>i+x)=fun m=>xs[i+m]?:=rfl
  rw [e2] at this; rw [this]
theorem getItem_tuple_cut {t sl:Addr} {items:Array Value} {vl vu:Value} {lo hi:Option Int} {Q:Value→Shared→Prop} (ht:IsTup s.heap t items) (hs:s.heap.IsSliceOf sl vl vu .none) (pl:IsPart vl lo) (pu:IsPart vu hi)
    (hw:¬ (sIx items.size 0 lo=0∧sIx items.size items.size hi=items.size))
    (h:Q (.ref s.heap.objs.size) { s with heap:=s.heap.push { cls:=.type "tuple",data:=.seq ((items.toList.drop (sIx items.size 0 lo)).take (sIx items.size items.size hi-sIx items.size 0 lo)).toArray } })
    (hsz:items.size≤sizeLine):wpAny (model prog w) A (getItem (.ref t) (.ref sl)) Q E s:=by
  have htake:sizeOk (.seq ((items.toList.drop (sIx items.size 0 lo)).take (sIx items.size items.size hi-sIx items.size 0 lo)).toArray):=by
    show ((items.toList.drop (sIx items.size 0 lo)).take (sIx items.size items.size hi-sIx items.size 0 lo)).toArray.size≤sizeLine
    rw [List.size_toArray,List.length_take,List.length_drop,Array.length_toList]; omega
  have hj:sIx items.size items.size hi≤items.size:=zpI _ _ (Nat.le_refl _) hi
  obtain ⟨os,hos,hcs,hds⟩:=id hs
  have hTs:s.TypeIs (.ref sl) "slice":=⟨os,hos,hcs⟩
  unfold getItem
  try with_reducible refine wpAny_holding ?_
  first | refine wpAny_bind (wpAny_pure ?_) | skip
  refine wpAny_bind (wpAny_sequenceKey ht.typeIs (by decide) ?_)
  refine wpAny_bind (wpAny_callSpecial?_slot (name:=Str.ofString "__getitem__") ht.typeIs PyProof.Rows.slot_tuple_getitem
    (wpAny_call_entry PyProof.Rows.slot_tuple_getitem ht.typeIs entry_tuple_getitem ?_ (args_tuple_getitem _ _)))
  show wpAny _ _ (Builtin.Tuple.tupleItemsOf (.ref t) >>= _) _ _ s
  refine wpAny_bind (tupleItemsOf_ ht ?_); refine wpAny_bind (wpAny_typeOf hTs ?_)
  rw [if_pos (by decide)]
  refine wpAny_bind (zcN hs pl pu ?_)
  have hno:¬ ((((sIx items.size 0 lo:Nat):Int) == 0 && (1:Int) == 1 && (sIx items.size items.size hi-sIx items.size 0 lo) == items.size)=true):=by
    intro q; rw [Bool.and_eq_true,Bool.and_eq_true] at q
    have q1:((sIx items.size 0 lo:Nat):Int)=0:=eq_of_beq q.1.1
    have q2:sIx items.size items.size hi-sIx items.size 0 lo=items.size:=eq_of_beq q.2
    exact hw ⟨by omega,by omega⟩
  show wpAny _ _ (if (((sIx items.size 0 lo:Nat):Int) == 0 && (1:Int) == 1 && (sIx items.size items.size hi-sIx items.size 0 lo) == items.size)=true then _ else _) _ _ s
  rw [if_neg hno,zlE]
  first
    | exact wpAny_bind (m:=Builtin.Tuple.tupleExact _) (wpAny_newObj_type (wpAny_pure ⟨_,rfl,wpAny_pure h⟩) htake)
    | exact wpAny_bind (m:=Builtin.Tuple.tupleExact _) (wpAny_newObj_type (wpAny_bind (wpAny_pure (wpAny_pure ⟨_,rfl,wpAny_pure h⟩))) htake)
    | exact wpAny_bind (wpAny_bind (m:=Builtin.Tuple.tupleExact _) (wpAny_newObj_type (wpAny_pure (wpAny_pure ⟨_,rfl,wpAny_pure h⟩)) htake))
    | exact wpAny_bind (wpAny_bind (m:=Builtin.Tuple.tupleExact _) (wpAny_newObj_type (wpAny_pure ⟨_,rfl,wpAny_pure h⟩) htake))
end
end HT
namespace L2
open PySem PySem.Spec PyProof.Rows
abbrev TO:=St→Hp→(Option Int→Hp→Prop)→Prop
def PO (X:Cx) (e:Option Expr) (t:TO):Prop :=
  ∀ (pins:List (Addr × Obj)) (s:Shared) (σ:St) (H:Hp) (Q:Option Int→Hp→Prop),Inv X pins σ H s→t σ H Q →
    wpAny (model X.prog X.w) X.A (evalPart e X.env) (fun u s'=>∃ o H',Inv X pins σ H' s'∧IsPart u o∧Q o H') X.xe s
def znA:TO:=fun _ H Q=>Q none H
def zrZ (t:TE):TO:=fun σ H Q=>t σ H fun x H1=>∃ i,x=.int i∧Q (some i) H1
section
variable {X:Cx} {e:Expr} {te:TE} {lo hi:Option Expr} {tl th:TO} {pos p2:Pos}
theorem zn6:PO X none znA:=by
  intro pins s σ H Q I h; rw [evalPart_none]; exact wpAny_pure ⟨none,H,I,.none,h⟩
theorem zn5 (h:PE X e te):PO X (some e) (zrZ te):=by
  intro pins s σ H Q I hw; rw [evalPart_some]
  refine thn (h pins s σ H _ I hw) fun u s1 ⟨x,H1,I1,r1,q1⟩=>?_
  obtain ⟨i,rfl,q⟩:=q1; obtain ⟨t,rfl⟩:=r1; exact ⟨some i,H1,I1,.int i t,q⟩
def SlR (X:Cx) (r:V→Option Int→Option Int→Hp→VK→Prop):Prop :=
  ∀ (pins:List (Addr × Obj)) (s:Shared) (σ:St) (H:Hp) (x:V) (v vl vu:Value) (lo hi:Option Int) (sl:Addr) (Q:VK),Inv X pins σ H s→zbi x v→s.heap.IsSliceOf sl vl vu .none→IsPart vl lo→IsPart vu hi→r x lo hi H Q →
    ∃ T id,typeLookup (.type T) "__getitem__"=pure (some (.builtin id))∧s.TypeIs v T∧wpAny (model X.prog X.w) X.A (getItem v (.ref sl)) (EP X pins σ Q) X.xe s
theorem SlR.or {r r':V→Option Int→Option Int→Hp→VK→Prop} (h:SlR X r) (h':SlR X r'):SlR X (fun x lo hi H Q=>r x lo hi H Q∨r' x lo hi H Q):=by
  intro pins s σ H x v vl vu lo hi sl Q I rx hs pl pu q
  rcases q with q | q
  · exact h pins s σ H x v vl vu lo hi sl Q I rx hs pl pu q
  · exact h' pins s σ H x v vl vu lo hi sl Q I rx hs pl pu q
def tSl (r:V→Option Int→Option Int→Hp→VK→Prop) (te:TE) (tl th:TO):TE:=fun σ H Q=>te σ H fun x H1=>tl σ H1 fun l H2=>th σ H2 fun u H3=>r x l u H3 Q
theorem zlI {r:V→Option Int→Option Int→Hp→VK→Prop} (hr:SlR X r) (he:PE X e te) (hl:PO X lo tl) (hu:PO X hi th):PE X (.Subscript e (.Slice lo hi none p2) pos) (tSl r te tl th):=by
  intro pins s σ H Q I h
  refine Subscript_ (thn (he pins s σ H _ I h) fun v s1 ⟨x,H1,I1,r1,q1⟩=>?_)
  refine wpAny_Slice (thn (hl pins s1 σ H1 _ I1 q1) fun vl s2 ⟨l,H2,I2,pl,q2⟩=>thn (hu pins s2 σ H2 _ I2 q2) fun vu s3 ⟨u,H3,I3,pu,q3⟩=>?_)
  rw [evalPart_none]; refine wpAny_pure ?_
  have I4:Inv X pins σ H3 { s3 with heap:=s3.heap.push { cls:=.type "slice",data:=.fields #[vl,vu,.none] } }:=I3.kept (t':=s3.toks) fun b ob q=>Heap.get?_push_of_some _ q
  obtain ⟨T,id,hT,ht,hg⟩:=hr pins { s3 with heap:=s3.heap.push { cls:=.type "slice",data:=.fields #[vl,vu,.none] } } σ H3 x v vl vu l u s3.heap.objs.size Q I4 r1 (Heap.IsSliceOf.new ..) pl pu q3
  show wpAny (model X.prog X.w) X.A (subscriptTail e (.Slice lo hi none p2) v (.ref s3.heap.objs.size)) (EP X pins σ Q) X.xe { s3 with heap:=s3.heap.push { cls:=.type "slice",data:=.fields #[vl,vu,.none] } }
  exact tail_any (ops:=[.ref s3.heap.objs.size,v]) ht hT hg (by with_unfolding_all rfl)
def zkK (xs:List V) (lo hi:Option Int):List V:=(xs.drop (HT.sIx xs.length 0 lo)).take (HT.sIx xs.length xs.length hi-HT.sIx xs.length 0 lo)
theorem zeZ (xs:List V) (lo hi:Option Int):(zkK xs lo hi).length≤xs.length:=by
  unfold zkK; rw [List.length_take,List.length_drop]; omega
def ztN (K:PySem.W.Frag):V→Option Int→Option Int→Hp→VK→Prop:=fun x lo hi H Q=>∃ a xs,x=.ref a∧SqT K H a xs ∧
  ¬ (HT.sIx xs.length 0 lo=0∧HT.sIx xs.length xs.length hi=xs.length)∧∀ p,H p=none→Q (.ref p) (upd H p (.tup (zkK xs lo hi)))
theorem zpE:SlR X (ztN X.K):=by
  intro pins s σ H x v vl vu lo hi sl Q I rx hs pl pu h; obtain ⟨a,xs,rfl,hx,hw,q⟩:=h; cases rx; obtain ⟨its,r,ht,hz⟩:=I.tuple hx
  have hlen:its.toArray.size=xs.length:=by rw [List.size_toArray]; exact r.length.symm
  refine ⟨"tuple",_,PyProof.Rows.slot_tuple_getitem.lookup,ht.typeIs,?_⟩
  refine HT.getItem_tuple_cut ht hs pl pu (by rw [hlen]; exact hw) ?_ (by rw [hlen]; exact hz)
  rw [hlen]
  refine ⟨.ref s.heap.objs.size,_,I.laid (t':=s.toks) (o:=.tup (zkK xs lo hi)) (fun b ob q=>Heap.get?_push_of_some _ q) (Nat.le_refl _) ?_,rfl,q _ (I.hok.fresh (Nat.le_refl _))⟩
  exact ⟨Nat.le_trans (zeZ xs lo hi) hz,_,(r.drop (HT.sIx xs.length 0 lo)).take (HT.sIx xs.length xs.length hi-HT.sIx xs.length 0 lo),IsTup.new _ _⟩
def zsi (K:PySem.W.Frag):R2:=fun x y H Q=>∃ a b xs ys,x=.ref a∧y=.ref b∧SqT K H a xs∧SqT K H b ys∧xs≠[]∧xs.length+ys.length≤sizeLine ∧
  (ys=[]→Q (.ref a) H)∧(ys≠[]→∀ p,H p=none→Q (.ref p) (upd H p (.tup (xs ++ ys))))
theorem za3.nil_iff {xs:List V} {us:List Value} (r:za3 xs us):us=[]↔xs=[]:=by
  cases r with
  | nil=>simp
  | cons _ _=>simp
theorem zol:OpR X (binaryOp .Add) (zsi X.K):=by
  intro pins s σ H x y v u Q I rx ry h; obtain ⟨a,b,xs,ys,rfl,rfl,ha,hb,hx,hz,q1,q2⟩:=h; cases rx; cases ry; obtain ⟨its,r1,p1,_⟩:=I.tuple ha; obtain ⟨its2,r2,p2,_⟩:=I.tuple hb
  refine HT.cat_tup p1 p2 (fun z=>hx (r1.nil_iff.mp z)) (fun z=>⟨.ref a,H,I,rfl,q1 (r2.nil_iff.mp z)⟩) (fun z=>?_) (by rw [← r1.length,← r2.length]; exact hz)
  refine ⟨.ref s.heap.objs.size,_,I.laid (t':=s.toks) (o:=.tup (xs ++ ys)) (fun b ob q=>Heap.get?_push_of_some _ q) (Nat.le_refl _) ?_,rfl,q2 (fun w=>z (r2.nil_iff.mpr w)) _ (I.hok.fresh (Nat.le_refl _))⟩
  exact ⟨by rw [List.length_append]; exact hz,_,r1.append r2,IsTup.new _ _⟩
end
end L2
namespace L2
open PySem PySem.Spec PyProof.Rows
def ixN (n:Nat) (i:Int):Option Nat:=if 0≤i then (if i<n then some i.toNat else none) else if -(n:Int)≤i then some (i+n).toNat else none
def atI {α:Type} (xs:List α) (i:Int):Option α:=(ixN xs.length i).bind fun j=>xs[j]?
theorem zkw {n:Nat} {i:Int} {j:Nat} (h:ixN n i=some j):seqIndex? i n=some j∧j<n∧-(n:Int)≤i∧i<n:=by
  unfold ixN at h
  by_cases h0:0≤i
  · rw [if_pos h0] at h
    by_cases h1:i<n
    · rw [if_pos h1] at h
      have e:i.toNat=j:=Option.some.inj h
      exact ⟨by rw [seqIndex_of h0 h1,e],by omega,by omega,h1⟩
    · rw [if_neg h1] at h; cases h
  · rw [if_neg h0] at h
    by_cases h1:-(n:Int)≤i
    · rw [if_pos h1] at h
      have e:(i+n).toNat=j:=Option.some.inj h
      exact ⟨by rw [seqIndex_neg (by omega) h1,e],by omega,h1,by omega⟩
    · rw [if_neg h1] at h; cases h
theorem zhX {α:Type} {xs:List α} {i:Int} {v:α} (h:atI xs i=some v):∃ j,seqIndex? i xs.length=some j∧xs[j]?=some v∧j<xs.length∧-(xs.length:Int)≤i∧i<xs.length:=by
  unfold atI at h
  cases e:ixN xs.length i with
  | none=>rw [e] at h; cases h
  | some j =>
    rw [e] at h; obtain ⟨h1,h2,h3,h4⟩:=zkw e; exact ⟨j,h1,h,h2,h3,h4⟩
theorem zdx {α:Type} {xs:List α} {j:Nat} {v:α} (h:xs[j]?=some v):atI xs (j:Int)=some v:=by
  have hj:j<xs.length:=(List.getElem?_eq_some_iff.mp h).1
  have e:ixN xs.length (j:Int)=some j:=by
    unfold ixN
    rw [if_pos (by omega),if_pos (by omega)]; simp
  unfold atI; rw [e]; exact h
theorem zmL {α:Type} (xs:List α) (v:α):atI (xs ++ [v]) (-1)=some v:=by
  have hl:(xs ++ [v]).length=xs.length+1:=by simp
  have e:ixN (xs ++ [v]).length (-1)=some xs.length:=by
    unfold ixN
    rw [hl,if_neg (by decide),if_pos (by omega)]
    congr 1
    omega
  unfold atI; rw [e]
  show (xs ++ [v])[xs.length]?=some v
  simp
def zkZ (b:Expr):Prop:=∀ o i,subscripted b false o i=operate [o,i] (getItem o i)
def IxR (X:Cx) (r:R2):Prop :=
  ∀ (value slice:Expr) (pins:List (Addr × Obj)) (s:Shared) (σ:St) (H:Hp) (x y:V) (v u:Value) (Q:VK),Inv X pins σ H s→zbi x v→zbi y u→r x y H Q →
    subscripted slice false v u=operate [v,u] (getItem v u)→wpAny (model X.prog X.w) X.A (subscriptTail value slice v u) (EP X pins σ Q) X.xe s
def MtR (X:Cx) (id:String) (r:V→List V→Hp→VK→Prop):Prop :=
  ∀ (pins:List (Addr × Obj)) (s:Shared) (σ:St) (H:Hp) (x:V) (xs:List V) (v:Value) (us:List Value) (Q:VK),Inv X pins σ H s→zbi x v→za3 xs us→r x xs H Q →
    wpAny (model X.prog X.w) X.A (call (.builtin id) (v :: us)) (EP X pins σ Q) X.xe s
section
variable {X:Cx} {a b:Expr} {ta tb:TE} {pos:Pos}
theorem IxR.or {r r':R2} (h:IxR X r) (h':IxR X r'):IxR X (fun x y H Q=>r x y H Q∨r' x y H Q):=by
  intro value slice pins s σ H x y v u Q I rx ry q hs
  rcases q with q | q
  · exact h value slice pins s σ H x y v u Q I rx ry q hs
  · exact h' value slice pins s σ H x y v u Q I rx ry q hs
theorem zqg {r:R2} (hr:IxR X r) (ha:PE X a ta) (hb:PE X b tb) (hs:zkZ b):PE X (.Subscript a b pos) (tOp r ta tb):=by
  intro pins s σ H Q I h
  exact Subscript_ (zs0 ha hb I h fun v u s2 x y H2 I2 rx ry q=>hr a b pins s2 σ H2 x y v u Q I2 rx ry q (hs _ _))
def ztk (K:PySem.W.Frag):R2:=fun x y H Q=>∃ p xs i v,x=.ref p∧y=.int i∧SqL K H p xs∧atI xs i=some v∧Q v H
def zti (K:PySem.W.Frag):R2:=fun x y H Q=>∃ p xs i v,x=.ref p∧y=.int i∧SqT K H p xs∧atI xs i=some v∧Q v H
def ztj:R2:=fun x y H Q=>∃ z i c,x=.str z∧y=.int i∧z.length≤sizeLine∧atI z.cps.toList i=some c∧Q (.str ⟨#[c]⟩) H
theorem zoJ:IxR X (ztk X.K):=by
  intro value slice pins s σ H x y v u Q I rx ry h hs; obtain ⟨p,xs,i,z,rfl,rfl,hq,he,q⟩:=h; cases rx; obtain ⟨t,rfl⟩:=ry; obtain ⟨its,r,pl,hz⟩:=I.list hq; obtain ⟨j,h1,h2,h3,h4,h5⟩:=zhX he; obtain ⟨w,ew,rw'⟩:=r.get h2; have hl:=r.length; have hn:=zfj
  have fin:EP X pins σ Q w s:=⟨z,H,I,rw',q⟩
  by_cases h0:0≤i
  · have hj:i.toNat=j:=by
      rw [seqIndex_of h0 h5] at h1; exact Option.some.inj h1
    exact item_listR pl.isList h0 (by omega) (by rw [hj]; simpa using ew) fin hs
  · have hj:(i+(its.toArray.size:Int)).toNat=j:=by
      rw [seqIndex_neg (by omega) h4] at h1
      rw [List.size_toArray,← hl]; exact Option.some.inj h1
    exact subscriptTail_builtinR (x:=w) pl.isList.typeIs slot_list_getitem.lookup
      (wpAny_getItem_list_neg (Q:=fun r s'=>r=w∧EP X pins σ Q r s') pl.isList (by omega) (by rw [List.size_toArray] <;> omega) (by omega) (by rw [hj]; simpa using ew) ⟨rfl,fin⟩) hs
theorem znc:IxR X (zti X.K):=by
  intro value slice pins s σ H x y v u Q I rx ry h hs; obtain ⟨p,xs,i,z,rfl,rfl,hq,he,q⟩:=h; cases rx; obtain ⟨t,rfl⟩:=ry; obtain ⟨its,r,pl,hz⟩:=I.tuple hq; obtain ⟨j,h1,h2,h3,h4,h5⟩:=zhX he; obtain ⟨w,ew,rw'⟩:=r.get h2; have hl:=r.length; have hn:=zfj
  have fin:EP X pins σ Q w s:=⟨z,H,I,rw',q⟩
  exact subscriptTail_builtinR (x:=w) pl.typeIs slot_tuple_getitem.lookup
    (getItem_tuple (j:=j) (Q:=fun r s'=>r=w∧EP X pins σ Q r s') pl (by omega) (by omega) (by rw [List.size_toArray,← hl]; exact h1) (by simpa using ew) ⟨rfl,fin⟩) hs
theorem zqK:IxR X ztj:=by
  intro value slice pins s σ H x y v u Q I rx ry h hs; obtain ⟨z,i,c,rfl,rfl,hz,he,q⟩:=h; obtain ⟨t,rfl⟩:=rx; obtain ⟨t',rfl⟩:=ry; obtain ⟨j,h1,h2,h3,h4,h5⟩:=zhX he
  have hl:z.cps.toList.length=z.length:=by simp [Str.length]
  rw [hl] at h1 h4 h5; have hn:=zfj
  exact tail_any (typeIs_str s z t) slot_str_getitem.lookup (getItem_str (c:=c) (by
    have e1:decide (i< -(2 ^ 63:Int))=false:=decide_eq_false (by omega)
    have e2:decide (i ≥ 2 ^ 63)=false:=decide_eq_false (by omega)
    rw [e1,e2,Bool.or_false]) (by rw [h1]; simpa using h2) ⟨.str ⟨#[c]⟩,H,I.tok _,⟨_,rfl⟩,q⟩) hs
def rIx (K:PySem.W.Frag):R2:=fun x y H Q=>ztk K x y H Q∨zti K x y H Q∨ztj x y H Q
theorem zqL:IxR X (rIx X.K):=zoJ.or (znc.or zqK)
theorem zjb (its:List Value) (n j:Nat) (u:Value):Obj.mapSeq (·.setIfInBounds j u) { cls:=.type "list",data:=.seq its.toArray n }={ cls:=.type "list",data:=.seq (its.set j u).toArray n }:=by
  simp [Obj.mapSeq]
theorem Inv.lst {pins:List (Addr × Obj)} {σ:St} {H:Hp} {s:Shared} {p:Addr} {xs:List V} (I:Inv X pins σ H s) (h:H p=some (.lst xs)) :
    ∃ (its:List Value) (n:Nat),za3 xs its∧s.heap.get? p=some { cls:=.type "list",data:=.seq its.toArray n }∧xs.length≤sizeLine:=by
  obtain ⟨z,its,n,r,e⟩:=I.hok p _ h; exact ⟨its,n,r,e,z⟩
theorem Inv.lstUpd {pins:List (Addr × Obj)} {σ:St} {H:Hp} {s:Shared} {p:Addr} {xs ys:List V} {its its':List Value} {n n':Nat} {f:Obj→Obj} (I:Inv X pins σ H s) (h:H p=some (.lst xs))
    (ho:s.heap.get? p=some { cls:=.type "list",data:=.seq its.toArray n }) (hf:f { cls:=.type "list",data:=.seq its.toArray n }={ cls:=.type "list",data:=.seq its'.toArray n' }) (r:za3 ys its') (hz:ys.length≤sizeLine) (t:Nat) :
    Inv X pins σ (upd H p (.lst ys)) { s with heap:=s.heap.update p f,toks:=t }:=by
  have e:(s.heap.update p f).get? p=some { cls:=.type "list",data:=.seq its'.toArray n' }:=by
    rw [Heap.get?_update_self f ho (by rw [hf] <;> rfl),hf]
  refine I.write (x:=p) (e:=p) (by rw [h]; trivial) (.inl rfl) (fun b u hb q=>(Heap.get?_update_other _ _ (Ne.symm hb)).trans q) ⟨_,e⟩ ?_
  exact ⟨hz,its',n',r,e⟩
def zsa:V→V→V→Hp→(Hp→Prop)→Prop:=fun o i v H Q=>∃ p xs k j,o=.ref p∧i=.int k∧H p=some (.lst xs)∧ixN xs.length k=some j∧Q (upd H p (.lst (xs.set j v)))
theorem zlp:ztx X zsa:=by
  intro pins s σ H o i v ov iv u Q I ro ri rv h; obtain ⟨p,xs,k,j,rfl,rfl,hp,hj,q⟩:=h; cases ro; obtain ⟨t,rfl⟩:=ri; obtain ⟨its,n,r,ho,hz⟩:=I.lst hp; obtain ⟨h1,h2,h3,h4⟩:=zkw hj; have hl:=r.length; have hn:=zfj
  have I':Inv X pins σ (upd H p (.lst (xs.set j v))) { s with heap:=s.heap.update p (Obj.mapSeq (·.setIfInBounds j u)) } :=
    I.lstUpd hp ho (zjb its n j u) (r.set rv j) (by rw [List.length_set]; exact hz) s.toks
  by_cases h0:0≤k
  · have hk:k.toNat=j:=by
      rw [seqIndex_of h0 h4] at h1; exact Option.some.inj h1
    exact PySem.W.ki_setAt ho h0 (by omega) (by rw [List.size_toArray,← hl]; exact h4) (by rw [hk]; exact ⟨_,I',q⟩)
  · have hk:(k+(its.toArray.size:Int)).toNat=j:=by
      rw [seqIndex_neg (by omega) h3] at h1
      rw [List.size_toArray,← hl]; exact Option.some.inj h1
    exact PySem.W.ki_setBack ho (by omega) (by rw [List.size_toArray,← hl]; exact h3) (by omega) (by rw [hk]; exact ⟨_,I',q⟩)
theorem zgm (lo hi:Option Int) (n:Nat):(sliceBounds lo hi none n).1=((HT.sIx n 0 lo:Nat):Int)∧(sliceBounds lo hi none n).2.1=((HT.sIx n n hi:Nat):Int)∧(sliceBounds lo hi none n).2.2=1:=by
  refine ⟨?_,?_,rfl⟩
  · cases lo with
    | none=>simp [sliceBounds,HT.sIx]
    | some i =>
      simp only [sliceBounds,HT.sIx,Option.getD_none,show (1:Int) > 0 by decide,if_true]
      by_cases h:i<0
      · simp only [h,if_true] <;> omega
      · simp only [h,if_false] <;> omega
  · cases hi with
    | none=>simp [sliceBounds,HT.sIx]
    | some i =>
      simp only [sliceBounds,HT.sIx,Option.getD_none,show (1:Int) > 0 by decide,if_true]
      by_cases h:i<0
      · simp only [h,if_true] <;> omega
      · simp only [h,if_false] <;> omega
theorem zfD (its:List Value) (lo hi:Option Int):slicePick its.toArray lo hi none=((its.drop (HT.sIx its.length 0 lo)).take (HT.sIx its.length its.length hi-HT.sIx its.length 0 lo)).toArray:=by
  obtain ⟨h1,h2,h3⟩:=zgm lo hi its.toArray.size; unfold slicePick; rw [h1,h2,h3]
  simp only [sliceRange_one,pick_run,List.size_toArray] <;> rfl
def ztP (K:PySem.W.Frag):V→Option Int→Option Int→Hp→VK→Prop:=fun x lo hi H Q=>∃ a xs,x=.ref a∧SqL K H a xs∧∀ p,H p=none→Q (.ref p) (upd H p (.lst (zkK xs lo hi)))
theorem znH:SlR X (ztP X.K):=by
  intro pins s σ H x v vl vu lo hi sl Q I rx hs pl pu h; obtain ⟨a,xs,rfl,hx,q⟩:=h; cases rx; obtain ⟨its,r,ht,hz⟩:=I.list hx; have hlen:=r.length; refine ⟨"list",_,slot_list_getitem.lookup,ht.isList.typeIs,?_⟩
  refine wpAny_getItem_list_slice ht.isList hs pl pu .none (by simp) ?_ (by rw [List.size_toArray] <;> omega)
  rw [zfD,← hlen]
  refine ⟨.ref s.heap.objs.size,_,I.laid (t':=s.toks) (o:=.lst (zkK xs lo hi)) (fun b ob q=>Heap.get?_push_of_some _ q) (Nat.le_refl _) ?_,rfl,q _ (I.hok.fresh (Nat.le_refl _))⟩
  exact ⟨Nat.le_trans (zeZ xs lo hi) hz,_,0,(r.drop (HT.sIx xs.length 0 lo)).take (HT.sIx xs.length xs.length hi-HT.sIx xs.length 0 lo),Heap.get?_push_size _ rfl⟩
def zeR:V→Bool
  | .non=>true
  | .bl _=>true
  | .int _=>true
  | .str _=>true
  | _=>false
def eqV:V→V→Bool
  | .non,.non=>true
  | .bl a,.bl b=>a == b
  | .bl a,.int b=>(if a then 1 else 0) == b
  | .int a,.bl b=>a == (if b then 1 else 0)
  | .int a,.int b=>a == b
  | .str a,.str b=>a == b
  | _,_=>false
theorem zkz {A:Around} {s:Shared} {y x:V} {u v:Value} (ry:zbi y u) (rx:zbi x v) (fy:zeR y=true) (fx:zeR x=true):SeqAt.EqAt A s u v (eqV y x):=by
  cases y with
  | non =>
    cases ry
    cases x with
    | non=>cases rx; exact SeqAt.EqAt.same _
    | bl b=>cases rx; exact SeqAt.EqAt.none_bool b
    | int b=>obtain ⟨t,rfl⟩:=rx; exact SeqAt.EqAt.none_int b t
    | str b=>obtain ⟨t,rfl⟩:=rx; exact SeqAt.EqAt.none_str b t
    | _=>exact absurd (show false=true from fx) Bool.false_ne_true
  | bl a =>
    cases ry
    cases x with
    | non=>cases rx; exact SeqAt.EqAt.bool_none a
    | bl b=>cases rx; exact SeqAt.EqAt.bool_bool a b
    | int b=>obtain ⟨t,rfl⟩:=rx; exact SeqAt.EqAt.bool_int a b t
    | str b=>obtain ⟨t,rfl⟩:=rx; exact SeqAt.EqAt.bool_str a b t
    | _=>exact absurd (show false=true from fx) Bool.false_ne_true
  | int a =>
    obtain ⟨t',rfl⟩:=ry
    cases x with
    | non=>cases rx; exact SeqAt.EqAt.int_none a t'
    | bl b=>cases rx; exact SeqAt.EqAt.int_bool a t' b
    | int b=>obtain ⟨t,rfl⟩:=rx; exact SeqAt.EqAt.int_int a t' b t
    | str b=>obtain ⟨t,rfl⟩:=rx; exact SeqAt.EqAt.int_str a t' b t
    | _=>exact absurd (show false=true from fx) Bool.false_ne_true
  | str a =>
    obtain ⟨t',rfl⟩:=ry
    cases x with
    | non=>cases rx; exact SeqAt.EqAt.str_none a t'
    | bl b=>cases rx; exact SeqAt.EqAt.str_bool a t' b
    | int b=>obtain ⟨t,rfl⟩:=rx; exact SeqAt.EqAt.str_int a t' b t
    | str b=>obtain ⟨t,rfl⟩:=rx; exact SeqAt.EqAt.str_str a t' b t
    | _=>exact absurd (show false=true from fx) Bool.false_ne_true
  | _=>exact absurd (show false=true from fy) Bool.false_ne_true
def eqU (x:V) (u:Value):Bool:=match u with
  | .none=>eqV .non x
  | .bool b=>eqV (.bl b) x
  | .int i _=>eqV (.int i) x
  | .str z _=>eqV (.str z) x
  | _=>false
theorem zng {x y:V} {u:Value} (r:zbi y u) (f:zeR y=true):eqU x u=eqV y x:=by
  cases y with
  | non=>cases r; rfl
  | bl b=>cases r; rfl
  | int i=>obtain ⟨t,rfl⟩:=r; rfl
  | str z=>obtain ⟨t,rfl⟩:=r; rfl
  | _=>exact absurd (show false=true from f) Bool.false_ne_true
theorem zhZ {x:V}:∀ {xs:List V} {us:List Value},za3 xs us→xs.all zeR=true→us.any (eqU x)=xs.any fun y=>eqV y x
  | _,_,.nil,_=>rfl
  | y :: xs,u :: us,.cons r t,f=>by
    rw [List.all_cons,Bool.and_eq_true] at f; rw [List.any_cons,List.any_cons,zng r f.1,zhZ t f.2]
theorem zf0 {A:Around} {s:Shared} {x:V} {v:Value} (rx:zbi x v) (fx:zeR x=true):∀ {xs:List V} {us:List Value},za3 xs us→xs.all zeR=true→∀ u ∈ us,SeqAt.EqAt A s u v (eqU x u)
  | _,_,.nil,_=>fun u hu=>by cases hu
  | y :: xs,u :: us,.cons r t,f=>fun u' hu=>by
    rw [List.all_cons,Bool.and_eq_true] at f
    rcases List.mem_cons.mp hu with rfl | hu
    · rw [zng r f.1]; exact zkz r rx f.1 fx
    · exact zf0 rx fx t f.2 u' hu
def inV (x:V) (xs:List V):Bool:=xs.any fun y=>eqV y x
def rIn (K:PySem.W.Frag) (neg:Bool):R2:=fun x y H Q=>∃ p xs,y=.ref p∧(SqL K H p xs∨SqT K H p xs)∧zeR x=true∧xs.all zeR=true∧Q (.bl (if neg then !inV x xs else inV x xs)) H
theorem zgw:OpR X (compareOp .NotIn) (rIn X.K true):=by
  intro pins s σ H x y v u Q I rx ry h; obtain ⟨p,xs,rfl,hq,fx,fs,q⟩:=h; cases ry
  rcases hq with hq | hq
  · obtain ⟨its,r,pl,hz⟩:=I.list hq
    refine SeqAt.notIn_listAt (eqU x) pl.isList (fun w hw=>zf0 rx fx r fs w (by simpa using hw)) ⟨.bl _,H,I,rfl,?_⟩
    rw [show its.toArray.any (eqU x)=its.any (eqU x) by simp,zhZ r fs]
    exact q
  · obtain ⟨its,r,pl,hz⟩:=I.tuple hq
    refine SeqAt.notIn_tupleAt (eqU x) pl (fun w hw=>zf0 rx fx r fs w (by simpa using hw)) ⟨.bl _,H,I,rfl,?_⟩
    rw [show its.toArray.any (eqU x)=its.any (eqU x) by simp,zhZ r fs]
    exact q
theorem zgX:zc9 X (.builtin "len") (fun xs H Q=>∃ p ys,xs=[.ref p]∧(SqL X.K H p ys∨SqT X.K H p ys)∧Q (.int ys.length) H):=by
  intro pins s σ H xs us Q I r h; obtain ⟨p,ys,rfl,hq,q⟩:=h; obtain ⟨u,rfl,rx⟩:=zdj r; cases rx; have hn:=zfj
  rcases hq with hq | hq
  · obtain ⟨its,r',pl,hz⟩:=I.list hq
    have hlen:=r'.length
    exact Calls.call_len_list pl.isList (by simp only [List.size_toArray] <;> omega) ⟨.int ys.length,H,I.tok _,⟨s.toks+1,by rw [List.size_toArray,hlen]⟩,q⟩
  · obtain ⟨its,r',pl,hz⟩:=I.tuple hq
    have hlen:=r'.length
    exact len_tuple pl (by simp only [List.size_toArray] <;> omega) ⟨.int ys.length,H,I.tok _,⟨s.toks+1,by rw [List.size_toArray,hlen]⟩,q⟩
theorem zgW:zc9 X (.builtin "len") (fun xs H Q=>∃ z,xs=[.str z]∧z.length≤sizeLine∧Q (.int z.length) H):=by
  intro pins s σ H xs us Q I r h; obtain ⟨z,rfl,hz,q⟩:=h; obtain ⟨u,rfl,t,rfl⟩:=zdj r; have hn:=zfj
  exact len_str (by omega) ⟨.int z.length,H,I.tok _,⟨_,rfl⟩,q⟩
theorem zc9.or {f:Value} {r r':List V→Hp→VK→Prop} (h:zc9 X f r) (h':zc9 X f r'):zc9 X f (fun xs H Q=>r xs H Q∨r' xs H Q):=by
  intro pins s σ H xs us Q I rs q
  rcases q with q | q
  · exact h pins s σ H xs us Q I rs q
  · exact h' pins s σ H xs us Q I rs q
theorem zgf:zc9 X (.type "tuple") (fun xs H Q=>∃ p ys,xs=[.ref p]∧((SqL X.K H p ys∧∀ l,H l=none→Q (.ref l) (upd H l (.tup ys)))∨(SqT X.K H p ys∧Q (.ref p) H))):=by
  intro pins s σ H xs us Q I r h; obtain ⟨p,ys,rfl,h⟩:=h; obtain ⟨u,rfl,rx⟩:=zdj r; cases rx
  rcases h with ⟨hq,q⟩ | ⟨hq,q⟩
  · obtain ⟨its,r',pl,hz⟩:=I.list hq
    have hlen:=r'.length
    refine call_tuple_list pl.isList (fun h' kp=>?_) (by simp only [List.size_toArray] <;> omega)
    have I1:Inv X pins σ H { s with heap:=h' }:=I.kept (t':=s.toks) kp
    have I2:Inv X pins σ (upd H h'.objs.size (.tup ys)) { s with heap:=h'.push { cls:=.type "tuple",data:=.seq its.toArray } } :=
      I1.laid (t':=s.toks) (fun b o e=>Heap.get?_push_of_some _ e) (Nat.le_refl _) (show zbM X.prog X.w _ _ _ (.tup ys) from ⟨hz,its,r',IsTup.new _ _⟩)
    exact ⟨.ref h'.objs.size,_,I2,rfl,q _ (I1.hok.fresh (Nat.le_refl _))⟩
  · obtain ⟨its,r',pl,hz⟩:=I.tuple hq
    exact call_tuple_same pl ⟨.ref p,H,I,rfl,q⟩
def tyV (K:PySem.W.Frag) (T:String) (x:V) (H:Hp):Prop:=match x with
  | .str _=>T="str"
  | .int _=>T="int"
  | .ref p=>(T="list"∧∃ xs,SqL K H p xs)∨(T="tuple"∧∃ o,K.lookup p=some o∧o.cls=.type "tuple"∧o.dict=none) ∨
      (T="dict"∧((∃ kvs,H p=some (.dK kvs))∨∃ kvs,H p=some (.dT kvs)))∨(T="set"∧∃ S n,H p=some (.set S n))
  | _=>False
theorem zps {pins:List (Addr × Obj)} {σ:St} {H:Hp} {s:Shared} {T:String} {x:V} {v:Value} (I:Inv X pins σ H s) (r:zbi x v) (ty:tyV X.K T x H) :
    s.TypeIs v T∧∀ a,v=.ref a→∃ ob,s.heap.get? a=some ob∧ob.dict=none:=by
  cases x with
  | str z =>
    obtain ⟨t,rfl⟩:=r
    cases (show T="str" from ty)
    exact ⟨typeIs_str s z t,fun _ e=>nomatch e⟩
  | int i =>
    obtain ⟨t,rfl⟩:=r
    cases (show T="int" from ty)
    exact ⟨typeIs_int s i t,fun _ e=>nomatch e⟩
  | ref p =>
    cases r
    rcases ty with ⟨rfl,xs,hq⟩ | ⟨rfl,o,hk,hc,hd⟩ | ⟨rfl,hk⟩ | ⟨rfl,S,n,hk⟩
    · obtain ⟨its,_,pl,_⟩:=I.list hq
      refine ⟨pl.isList.typeIs,fun a e=>?_⟩
      cases e; obtain ⟨o,n,e,c,hd,_⟩:=pl; exact ⟨o,e,hd⟩
    · refine ⟨⟨o,I.kIn p o hk,hc⟩,fun a e=>?_⟩
      cases e; exact ⟨o,I.kIn _ o hk,hd⟩
    · have z:∃ o,s.heap.get? p=some o∧o.ExactDict:=by
        rcases hk with ⟨kvs,hk⟩ | ⟨kvs,hk⟩
        · obtain ⟨_,_,_,_,o,_,_,e,ex,_⟩:=I.hok p _ hk
          exact ⟨o,e,ex⟩
        · obtain ⟨_,_,_,_,o,_,_,e,ex,_⟩:=I.hok p _ hk
          exact ⟨o,e,ex⟩
      obtain ⟨o,e,ex⟩:=z
      refine ⟨⟨o,e,ex.1⟩,fun a e2=>?_⟩
      cases e2; exact ⟨o,e,ex.2.1⟩
    · obtain ⟨o,_,_,_,e,ex,_⟩:=I.hok p _ hk
      refine ⟨⟨o,e,ex.1⟩,fun a e2=>?_⟩
      cases e2; exact ⟨o,e,ex.2.1⟩
  | _=>exact False.elim ty
def tBM (K:PySem.W.Frag) (T:String) (r:V→List V→Hp→VK→Prop) (to:TE) (t:TA):TE:=fun σ H Q=>to σ H fun x H1=>tyV K T x H1∧t σ H1 fun xs H2=>r x xs H2 Q
variable {o e:Expr} {es:List Expr} {to:TE} {t:TA} {name:Str} {apos cpos:Pos} {T id:String} {r:V→List V→Hp→VK→Prop}
theorem zj5 (pa:PlainAttrs T) (slot:Slot T name id) (hty:typeOf (.builtin id)=pure (.type "method_descriptor")) (hm:MtR X id r) (ho:PE X o to) (ha:PA X (e :: es) t)
    (hbase:attributeBase o name X.env (eval o X.env)=eval o X.env:=by rfl)
    (hfew:((backTo cpos (starEach (e :: es) X.env)).all (fun x=>!x.1) && (backToKw cpos (keywordEach [] X.env)).all (fun x=>x.1.isSome)
      && decide ((e :: es).length+([]:List Keyword).length+(if ([]:List Keyword).isEmpty then 0 else 1)<30))=true:=by rfl)
    (hline:(apos.endLine == cpos.line)=true:=by rfl) (hs:starEach (e :: es) X.env=(false,eval e X.env) :: starEach es X.env:=by rfl) (hplain:(backTo cpos (starEach es X.env)).any (·.1)=false:=by rfl) :
    PE X (.Call (.Attribute o name apos) (e :: es) [] cpos) (tBM X.K T r to t):=by
  intro pins s σ H Q I h
  refine wpAny_Call_method_late hbase hfew hline rfl (thn (ho pins s σ H _ I h) fun v s1 ⟨x,H1,I1,r1,ty,q1⟩=>?_)
  obtain ⟨h1,h2⟩:=zps I1 r1 ty; refine ⟨T,id,pa,slot,hty,h1,h2,?_⟩; have hA:=ha cpos pins s1 σ H1 _ I1 q1; rw [hs] at hA ⊢
  refine Calls.callWith_builtin (by show (false || (backTo cpos (starEach es X.env)).any (·.1))=false; rw [hplain] <;> rfl) (Calls.evalArgs_plain ?_)
  exact thn hA fun us s2 ⟨vs,H2,I2,r2,q2⟩=>hm pins s2 σ H2 x vs v us Q I2 r1 r2 q2
end
end L2
namespace L2
open PySem PySem.Spec PyProof.Rows
def MtM (X:Cx) (id:String) (r:V→List V→Hp→VK→Prop):Prop :=
  ∀ (pins:List (Addr × Obj)) (s:Shared) (σ:St) (H:Hp) (x:V) (xs:List V) (v:Value) (us:List Value) (Q:VK),Inv X pins σ H s→zbi x v→za3 xs us→r x xs H Q →
    wpAny (model X.prog X.w) X.A (call (.builtin id) (v :: us)) (EP X pins σ Q) X.xe s
theorem za3.one:∀ {x:V} {us:List Value},za3 [x] us→∃ u,us=[u]∧zbi x u
  | _,_,.cons r .nil=>⟨_,rfl,r⟩
theorem za3.dropLast {xs:List V} {us:List Value} (h:za3 xs us):za3 xs.dropLast us.dropLast:=by
  induction h with
  | nil=>exact .nil
  | cons r t ih =>
    cases t with
    | nil=>exact .nil
    | cons q t'=>exact .cons r ih
theorem za3.rep {xs:List V} {us:List Value} (h:za3 xs us):∀ k:Nat,za3 (List.replicate k xs).flatten (List.replicate k us).flatten
  | 0=>.nil
  | k+1=>by
    rw [List.replicate_succ,List.replicate_succ,List.flatten_cons,List.flatten_cons]; exact za3.append h (za3.rep h k)
theorem foldl_rep (its:List Value):∀ (k:Nat) (acc:List Value),
    List.foldl (fun x1 x2=>x1 ++ x2) acc.toArray (List.replicate k its.toArray)=(acc ++ (List.replicate k its).flatten).toArray
  | 0,acc=>by simp
  | k+1,acc=>by
    have e:acc.toArray ++ its.toArray=(acc ++ its).toArray:=by simp
    have e2:(acc ++ its) ++ (List.replicate k its).flatten=acc ++ (List.replicate (k+1) its).flatten:=by
      rw [List.replicate_succ,List.flatten_cons,List.append_assoc]
    rw [← e2,← foldl_rep its k (acc ++ its),← e,List.replicate_succ,List.foldl_cons]
section
variable {X:Cx} {pins:List (Addr × Obj)} {σ:St} {H:Hp} {s:Shared} {l b:Addr} {xs ys zs:List V}
theorem Inv.lset {its its':List Value} {n:Nat} {f:Array Value→Array Value} {t':Nat} (I:Inv X pins σ H s) (hH:H l=some (.lst xs))
    (e:s.heap.get? l=some { cls:=.type "list",data:=.seq its.toArray n }) (hf:f its.toArray=its'.toArray) (hv:za3 ys its') (hz:ys.length≤sizeLine) :
    Inv X pins σ (upd H l (.lst ys)) { s with heap:=s.heap.update l (Obj.mapSeq f),toks:=t' }:=by
  have q:=PySem.IsL.update e f; rw [hf] at q
  refine I.write (x:=l) (e:=l) (by rw [hH]; exact trivial) (.inl rfl) (fun b' u hb hu=>(Heap.get?_update_other s.heap (Obj.mapSeq f) (Ne.symm hb)).trans hu) ⟨_,q⟩ ?_
  exact ⟨hz,its',_,hv,q⟩
theorem Inv.lnew {its:List Value} {t':Nat} (I:Inv X pins σ H s) (hv:za3 ys its) (hz:ys.length≤sizeLine) :
    Inv X pins σ (upd H s.heap.objs.size (.lst ys)) { s with heap:=s.heap.push { cls:=.type "list",data:=.seq its.toArray },toks:=t' } :=
  I.laid (fun _ _ q=>Heap.get?_push_of_some _ q) (Nat.le_refl _) ⟨hz,its,0,hv,Heap.get?_push_size _ rfl⟩
theorem Inv.fresh (I:Inv X pins σ H s):H s.heap.objs.size=none:=I.hok.fresh (Nat.le_refl _)
theorem Inv.lstM (I:Inv X pins σ H s) (hH:H l=some (.lst xs)):xs.length≤sizeLine∧∃ (its:List Value) (n:Nat),za3 xs its∧xs.length=its.length∧s.heap.get? l=some { cls:=.type "list",data:=.seq its.toArray n }:=by
  obtain ⟨z,its,n,r,e⟩:=I.hok l _ hH; exact ⟨z,its,n,r,r.length,e⟩
theorem notLongL {n:Nat} (h:n≤sizeLine):Builtin.List.listTooLong n=false:=by
  unfold Builtin.List.listTooLong
  exact decide_eq_false (by omega)
end
section
variable {X:Cx}
def znP:V→List V→Hp→VK→Prop:=fun x vs H Q=>∃ l xs y,x=.ref l∧vs=[y]∧H l=some (.lst xs)∧xs.length<sizeLine∧Q .non (upd H l (.lst (xs ++ [y])))
theorem zc2:MtM X "list.append" znP:=by
  intro pins s σ H x vs v us Q I rx rv h; obtain ⟨l,xs,y,rfl,rfl,hH,hz,q⟩:=h; cases rx; obtain ⟨u,rfl,ru⟩:=rv.one; obtain ⟨z,its,n,r,hl,e⟩:=I.lstM hH
  refine call_meets F.slot_list_append ⟨_,e,rfl⟩ F.entry_list_append (F.args_list_append_2 _ _) (PySem.list_append l its.toArray n u (by rw [List.size_toArray]; omega)) ⟨e,?_⟩
  refine ⟨.non,_,I.lset (its':=its ++ [u]) hH e (by simp) (r.append (.cons ru .nil)) ?_,rfl,q⟩
  rw [List.length_append,List.length_singleton]; omega
theorem len_rep {α:Type} (xs:List α) (k:Nat):(List.replicate k xs).flatten.length=k * xs.length:=by
  induction k with
  | zero=>simp
  | succ k ih=>rw [List.replicate_succ,List.flatten_cons,List.length_append,ih,Nat.succ_mul,Nat.add_comm]
end
section
variable {prog:Program} {w:World} {A:Around} {E:Value→Shared→Prop} {s:Shared}
set_option maxRecDepth 100000 in
end
section
variable {X:Cx}
end
end L2
namespace Att
open PySem PySem.W PySem.Calls PyProof.Rows
theorem zeP {P:Params} {h:Heap}:∀ (ns:List Int) (vs:List Value),WellAll P h vs (ns.map WData.int)→IntsAre vs ns:=by
  intro ns
  induction ns with
  | nil =>
    intro vs w; rw [List.map_nil] at w; cases w; exact .nil
  | cons n ns ih =>
    intro vs w; rw [List.map_cons] at w
    cases w with
    | cons a b =>
      cases a; exact .cons _ _ (ih _ b)
theorem zjB {l:OpenLaw} {n:Nat} (hn:l.most=some n) {P:Params} {h:Heap} {args:List WData} {vals:List Value}
    (hpre:l.row.toRowW.claim.pre args=true) (hwl:WellAll P h vals args) :
    ∃ a vs ns,vals=[Value.ref a]∧args=[WData.list (ns.map WData.int)]∧h.get? a=some { cls:=.type "list",data:=.seq vs.toArray }∧IntsAre vs ns∧ns.length≤n:=by
  have hsh:WShape.hasAll [] args [.list .int]=true:=(pre_splitW hpre).1
  have hc:l.pre.holds [] { args:=args }=true:=(pre_splitW hpre).2
  obtain ⟨d,r,rfl,h1,h2⟩:=hasAllW_cons hsh
  obtain rfl:=hasAllW_nil h2
  obtain ⟨xs,rfl,h3⟩:=hasW_list h1; obtain ⟨ns,rfl⟩:=items_int h3
  have hlen:ns.length≤n:=by
    unfold OpenLaw.pre at hc
    have h4:(WTm.not (.lt (.lit (.int (n:Int))) (.len (.arg 0)))).holds [] { args:=[.list (ns.map .int)] }=true:=by
      have h4:=(holds_andW hc).1; rw [hn] at h4; exact h4
    have h5:=condW_of h4 (w_not (w_lt w_lit (w_len_list (w_arg rfl)))); rw [List.length_map] at h5
    refine Nat.le_of_not_lt fun q=>?_
    have q':(n:Int)<((ns.length:Nat):Int):=by omega
    first
      | (rw [decide_eq_true q'] at h5; exact absurd h5 (by decide))
      | (simp at h5; omega)
  cases hwl with
  | cons w1 w2 =>
    cases w2
    cases w1 with
    | list ho hall=>exact ⟨_,_,ns,rfl,rfl,ho,zeP ns _ hall,hlen⟩
theorem zjU (l:OpenLaw) (args:List WData):l.row.toRowW.claim.post args (.bool true) args=true :=
  postW_of (r:=l.row.toRowW) (X:=(true == true))
    (show WShape.has [] (.bool true) .bool=true by first | rfl | decide | simp [WShape.has,WShape.arms,WShape.armsAll])
    (show (WTm.eq .res (.lit (.bool true))).value [] { args:=args,res:=some (.bool true),after:=args }=some (.bool (true == true)) from w_eq_bool (w_res rfl) w_lit) rfl
theorem attach_call {l:OpenLaw} {n:Nat} {q:Program} {loose:List Str} {XP:(Str→Option Value)→Heap→Prop} {YP:World→Heap→Prop} {d:DefRec}
    (hn:l.most=some n) (hdf:d.params.defaults=[])
    (call:∀ (w:World) (s₀ s₁:Shared) (mg mb:Str→Option Value) (fa:Addr) (o:Obj) (pm cd doc:Value) (a:Addr) (vs:List Value) (ns:List Int),
      Ground q loose [] XP w s₀ mg mb s₁.heap→YP w s₁.heap →
      s₁.heap.get? fa=some o→o.data=.func (docDef d.name d.params d.body d.scope pm cd doc)→s₁.heap.CodeRec cd d.name→mg d.name=some (.ref fa) →
      s₁.heap.get? a=some { cls:=.type "list",data:=.seq vs.toArray }→IntsAre vs ns→ns.length≤n→s₁.gens=#[] →
      codeAny (model l.prog w) callerA (.call (.ref fa) ⟨[.ref a],[]⟩) (fun r s'=>r=.ok (.ret (.bool true))∧OldK s₁.heap s'.heap∧s'.os=s₁.os∧AllBare s'.gens) s₁) :
    WalkO q loose XP YP l.row.toRowW d [] (fun f vs=>PySem.call f vs):=by
  intro w s₀ s₁ mg mb G Y fa o pm cd doc dV kV ho hd hcd hD hmg hg args vals as hpre hlay hrd hwl hlo
  obtain rfl:dV=.none:=Dflts.none hD hdf
  obtain rfl:kV=.none:=Dflts.noKw hD
  obtain ⟨a,vs,ns,rfl,rfl,hobj,hints,hlen⟩:=zjB hn hpre hwl
  refine enter_call (codeAny_mono (call w s₀ s₁ mg mb fa o pm cd doc a vs ns G Y ho (fd_plain hd) hcd hmg hobj hints hlen hg) fun r s' hq=>?_)
  obtain ⟨rfl,h2,h3,h4⟩:=hq
  exact ⟨.inl ⟨.bool true,.bool true,[],rfl,fun _=>rfl,.bool true,zjU l _,fun _=>⟨List.Pairwise.nil,fun _ hm=>(nomatch hm)⟩⟩,h2,h3,h4⟩
section
variable {prog:Program} {w:World} {A:Around} {E:Value→Shared→Prop} {s:Shared} {K:Frag}
def ztr (h:Heap) (L d:Addr):List (Addr × Obj):=(List.range h.objs.size).filterMap fun a=>if a=L∨a=d then none else (h.get? a).map fun o=>(a,o)
end
end Att
namespace L2
open PySem PySem.Spec PyProof.Rows
theorem zgh:∀ {vs:List Value} {ns:List Int},IntsAre vs ns→za3 (ns.map V.int) vs
  | _,_,.nil=>.nil
  | _,_,.cons n t h=>.cons ⟨t,rfl⟩ (zgh h)
def zrN (H:Hp):Prop:=∀ b,H b=none∨∃ o xs,H b=some (.frz o (.lst xs))
theorem zl6 {P:Program} {w:World} {K:PySem.W.Frag} {mg mb:Str→Option Value} {CX:CXT} {k:Nat} {fa a:Addr} {fd:FuncData} {x:Str} {sp:Sp} {s₁:Shared} {vs:List Value} {ns:List Int}
    (KX:K.In s₁.heap) (hns:s₁.heap.Ns mainGlobals mg) (hb:s₁.heap.Ns builtinsNs mb) (hbb:∀ x:Str,x≠"__name__"→mb x=bootBuiltins x) (hlim:s₁.heap.NoLimit) (hbm:∃ bm ob,mg "__builtins__"=some (.ref bm)∧bm≠builtinsNs∧s₁.heap.get? bm=some ob∧ob.cls=.type "module"∧ob.dict=some builtinsNs∧ob.data=.plain) (hg:s₁.gens=#[])
    (ha:s₁.heap.get? a=some { cls:=.type "list",data:=.seq vs.toArray }) (hi:IntsAre vs ns) (hl:ns.length≤sizeLine) (hr:Room k callerA)
    (F:∀ base:Heap,K.In base→base.Ns mainGlobals mg→FnOk P w K mg base CX k fa fd [x] sp) (hbind:∀ (s:Shared) (u:Value),BindsTo s fd ⟨[u],[]⟩ [(x,u)])
    (hsp:∀ H:Hp,zrN H→SqL K H a (ns.map V.int)→sp [.ref a] H (fun v _=>v=.bl true) fun _ _ _=>False)
    (hCX:∀ H e s',CX [] H s₁ (fun _ _ _=>False) e s'→False) :
    codeAny (model P w) callerA (.call (.ref fa) ⟨[.ref a],[]⟩) (fun r s'=>r=.ok (.ret (.bool true))∧OldK s₁.heap s'.heap∧s'.os=s₁.os∧AllBare s'.gens) s₁:=by
  have rv:=zgh hi; have lenV:=hi.length
  -- from an abstract heap in which nothing but the script may be tracked
  have core:∀ H:Hp,zrN H→SqL K H a (ns.map V.int)→HOk P w H s₁.heap→(∀ b,H b≠none→b=a)→(H a≠none→K.lookup a=none) →
      codeAny (model P w) callerA (.call (.ref fa) ⟨[.ref a],[]⟩) (fun r s'=>r=.ok (.ret (.bool true))∧OldK s₁.heap s'.heap∧s'.os=s₁.os∧AllBare s'.gens) s₁:=by
    intro H hO hS hok hA hK
    have base_of:∀ {b:Addr} {o:Obj},s₁.heap.get? b=some o→H b=none→(nrm s₁.heap H).get? b=some o:=fun e n=>zos e n
    have noA:∀ {b:Addr} {o:Obj} {es:Array DictEntry} {ep:Nat},s₁.heap.get? b=some o→o.data=.dict es ep→H b=none:=fun {b o es ep} e d=>by
      cases q:H b with
      | none=>rfl
      | some u =>
        have e':b=a:=hA b (by rw [q]; simp)
        subst e'
        rw [ha] at e; cases e
        have d':Data.seq vs.toArray _=Data.dict es ep:=d
        cases d'
    have nsK:∀ {b:Addr} {m:Str→Option Value},s₁.heap.Ns b m→(nrm s₁.heap H).Ns b m:=fun {b m} ⟨o,es,ep,e,d,r⟩=>⟨o,es,ep,base_of e (noA e d),d,r⟩
    have hKb:K.In (nrm s₁.heap H):=fun b o e=>base_of (KX b o e) (by
      cases q:H b with
      | none=>rfl
      | some u =>
        have e':b=a:=hA b (by rw [q]; simp)
        subst e'
        rw [hK (by rw [q]; simp)] at e; cases e)
    have hM:Mod K mg (nrm s₁.heap H):=⟨hKb,nsK hns,⟨mb,nsK hb,hbb⟩,(let ⟨mc,h1,h2⟩:=hlim; ⟨mc,nsK h1,h2⟩),(let ⟨bm,ob,b1,b2,b3,b4,b5,b6⟩:=hbm; ⟨bm,ob,b1,b2,base_of b3 (by
      cases q:H bm with
      | none=>rfl
      | some u =>
        have e':bm=a:=hA bm (by rw [q]; simp)
        subst e'
        rw [ha] at b3; cases b3; cases b6),b4,b5,b6⟩)⟩
    have e0:Env0 P w K mg (nrm s₁.heap H) callerA [] s₁ H:=⟨rfl,hM,fun b o e=>zqt e,Nat.le_of_eq (zlV _ _),trivial,fun b hb=>absurd (show b ∈ ([]:List Addr) from hb) (by simp),hok,.of_eq hg,zlU _ _⟩
    refine codeAny_mono ((F _ hKb (nsK hns)).run callerA [] s₁ H ⟨[.ref a],[]⟩ [.ref a] [.ref a] _ _ hr e0 (hbind s₁ (.ref a)) (.cons rfl .nil) (hsp H hO hS)) fun r s' h=>?_
    cases r with
    | error e=>exact (hCX H e s' h).elim
    | ok fl =>
      cases fl with
      | next=>exact False.elim h
      | brk=>exact False.elim h
      | cont=>exact False.elim h
      | ret u =>
        obtain ⟨v,H',os,bare,un,hok',r',q⟩:=h
        have q':v=.bl true:=q
        subst q'
        obtain rfl:u=Value.bool true:=r'
        refine ⟨rfl,OldK.of_keep fun b o e=>?_,os,bare⟩
        cases q:H b with
        | none=>exact un.keep b o e q (by intro z; exact absurd (show b ∈ ([]:List Addr) from z) (by simp)) (by simp)
        | some u =>
          rcases hO b with z | ⟨ob,xs,z⟩
          · rw [q] at z; cases z
          · have z2:=un.frzs b ob _ z
            obtain ⟨e1,_⟩:=hok b _ z; obtain ⟨e2,_⟩:=hok' b _ z2
            rw [e] at e1; cases e1
            exact e2
  cases hk:K.lookup a with
  | some o =>
    -- the script is one of the module's own objects
    have e:=KX a o hk; rw [ha] at e; cases e
    refine core (fun _=>none) (fun _=>.inl rfl) (.inr ⟨_,vs.toArray,_,hk,rfl,rfl,rfl,by rw [List.size_toArray,lenV]; exact hl,by simpa using rv⟩) (fun b u z=>by have z':(none:Option HO)=some u:=z; cases z') (fun b z=>absurd rfl z) fun z=>absurd rfl z
  | none =>
    refine core (fun b=>if b=a then some (.frz { cls:=.type "list",data:=.seq vs.toArray } (.lst (ns.map V.int))) else none) (fun b=>?_) (.inl (.inr ⟨{ cls:=.type "list",data:=.seq vs.toArray },if_pos rfl⟩)) (fun b u z=>?_) (fun b z=>?_) fun _=>hk
    · by_cases hb:b=a
      · exact .inr ⟨_,_,if_pos hb⟩
      · exact .inl (if_neg hb)
    · by_cases hb:b=a
      · have z':=(if_pos hb).symm.trans z
        cases z'; subst hb
        exact ⟨ha,by rw [List.length_map]; exact hl,vs,_,rv,ha⟩
      · have z':=(if_neg hb).symm.trans z
        cases z'
    · by_cases hb:b=a
      · exact hb
      · exact absurd (if_neg hb) z
end L2
namespace L2
open PySem PySem.Spec PyProof.Rows
theorem walk_of {l:PySem.W.OpenLaw} {n k:Nat} {q:Program} {loose:List Str} {XP:(Str→Option Value)→Heap→Prop} {YP:World→Heap→Prop} {d:DefRec} {K:Params→PySem.W.Frag} {CX:World→CXT} {sp:World→Sp} {x:Str}
    (hn:l.most=some n) (hn2:n≤sizeLine) (hdf:d.params.defaults=[]) (hr:Room k callerA)
    (hY:∀ (w:World) (h:Heap),YP w h→(K w.params).In h)
    (F:∀ (w:World) (mg:Str→Option Value) (fa:Addr) (h:Heap),(K w.params).In h→h.Ns mainGlobals mg→mg d.name=some (.ref fa) →
      ∃ fd:FuncData,(∀ (s:Shared) (u:Value),BindsTo s fd ⟨[u],[]⟩ [(x,u)]) ∧
        ∀ base:Heap,(K w.params).In base→base.Ns mainGlobals mg→FnOk l.prog w (K w.params) mg base (CX w) k fa fd [x] (sp w))
    (hsp:∀ (w:World) (H:Hp) (a:Addr) (ns:List Int),ns.length≤n→zrN H→SqL (K w.params) H a (ns.map V.int)→sp w [.ref a] H (fun v _=>v=.bl true) fun _ _ _=>False)
    (hCX:∀ (w:World) (H:Hp) (s:Shared) (e:Value) (s':Shared),CX w [] H s (fun _ _ _=>False) e s'→False) :
    PySem.W.WalkO q loose XP YP l.row.toRowW d [] (fun f vs=>PySem.call f vs):=by
  refine Att.attach_call hn hdf fun w s₀ s₁ mg mb fa o pm cd doc a vs ns G Y ho hd hcd hmg hobj hints hlen hg=>?_
  have KX:=hY w _ Y; obtain ⟨fd,hb,hF⟩:=F w mg fa _ KX G.T.g hmg
  exact zl6 KX G.T.g G.T.b G.T.builtins G.T.nolimit G.T.bmain hg hobj hints (Nat.le_trans hlen hn2) hr hF hb (fun H hO hS=>hsp w H a ns hlen hO hS) fun H e s'=>hCX w H s₁ e s'
end L2
namespace L2
open PySem PySem.Spec PyProof.Rows
def zc8 (s:Stmt):Arguments:=match s with
  | .FunctionDef _ a _ _ _ _ _ _ _ _=>a
  | _=>{ posonlyargs:=[],args:=[],vararg:=none,kwonlyargs:=[],kw_defaults:=[],kwarg:=none,defaults:=[] }
def zbL (s:Stmt):List Stmt:=match s with
  | .FunctionDef _ _ b _ _ _ _ _ _ _=>b
  | _=>[]
def zj (s:Stmt):Scope:=match s with
  | .FunctionDef _ _ _ _ _ _ sc _ _ _=>sc
  | _=>{ kind:=.function,names:=[],isGenerator:=false,isCoroutine:=false }
abbrev CX0:CXT:=fun _ _ _ _ _ _=>False
abbrev E0:XK:=fun _ _ _=>False
theorem zoe {X:Cx}:zk0 CX0 X E0:=fun _ _ _ _ _ _ _ h=>h.elim
structure Fun (K:PySem.W.Frag) (x qual:Str) (st:Stmt) (f:Addr) (fd:FuncData):Prop where
  ex:∃ (oc:Value) (od:Option Addr) (kV doc pm:Value) (an:Option Addr) (cdv ct:Value) (osl:Array (Option Value)),
    fd=PySem.W.fnOf x qual (zc8 st) (zbL st) (zj st) .none kV doc pm an cdv ct∧K.lookup f=some ⟨oc,od,.func fd,osl⟩∧PySem.W.codeIn K cdv qual=true
  kp:PySem.W.keepIn K (.ref f)=true
section
variable {P:Program} {w:World} {K:PySem.W.Frag} {mg:Str→Option Value} {base:Heap}
theorem Fun.ok {x qual:Str} {st:Stmt} {f:Addr} {fd:FuncData} {N ps:List Str} {k:Nat} {sp:Sp} (F:Fun K x qual st f fd) (S:FnScope N ps (zj st)) (len:∀ vs H Q E,sp vs H Q E→vs.length=ps.length)
    (hbody:∀ (cdv:Value) (A:Around) (outer:List Env) (s:Shared) (H:Hp) (vs:List V) (Q:VK) (E:XK),Room k (A.deeper (envOfC qual (zj st) s.heap.objs.size f cdv))→sp vs H Q E →
      ∃ t,PSs (zjo CX0 P w K mg base N qual (zj st) f cdv A outer s H E).nox (zbL st) t∧t { nx:=fun _ H'=>Q .non H',rt:=Q } (start N vs) H):FnOk P w K mg base CX0 (k+1) f fd ps sp:=by
  obtain ⟨oc,od,kV,doc,pm,an,cdv,ct,osl,rfl,lk,hcd⟩:=F.ex
  refine zsK lk hcd S len fun A outer s H vs Q E hr hsp=>?_
  obtain ⟨t,h,q⟩:=hbody cdv A outer s H vs Q E hr hsp; exact ⟨t,h.nox,q⟩
theorem Fun.binds {x qual:Str} {st:Stmt} {f:Addr} {fd:FuncData} {ps:List Str} (F:Fun K x qual st f fd)
    (h:∀ (kV doc pm:Value) (an:Option Addr) (cdv ct:Value) (us:List Value),us.length=ps.length→bindArgs (PySem.W.fnOf x qual (zc8 st) (zbL st) (zj st) .none kV doc pm an cdv ct) ⟨us,[]⟩=pure (ps.zip us)):zdL K fd ps []:=by
  obtain ⟨oc,od,kV,doc,pm,an,cdv,ct,osl,rfl,lk,hcd⟩:=F.ex; exact .all (h kV doc pm an cdv ct)
theorem zne {x qual:Str} {st:Stmt} {f:Addr} {oc:Value} {od an:Option Addr} {osl:Array (Option Value)} {kV doc pm cdv ct:Value} (l:K.lookup f=some ⟨oc,od,.func (PySem.W.fnOf x qual (zc8 st) (zbL st) (zj st) .none kV doc pm an cdv ct),osl⟩)
    (c:PySem.W.codeIn K cdv qual=true) (k:PySem.W.keepIn K (.ref f)=true):Fun K x qual st f (PySem.W.fnOf x qual (zc8 st) (zbL st) (zj st) .none kV doc pm an cdv ct):=⟨⟨oc,od,kV,doc,pm,an,cdv,ct,osl,rfl,l,c⟩,k⟩
end
theorem zaG {A:Around} {k:Nat} (hr:Room k A):A.units+1<cLine:=Nat.lt_of_le_of_lt (Nat.add_le_add_left (by decide:1≤64) _) hr.units
theorem za6 {n:Nat} (h:n≤1000):n<sizeLine:=Nat.lt_of_le_of_lt h (by decide)
section
variable {X:Cx}
end
def za0 (H H':Hp):Prop:=∀ b o,H b=some o→H' b=some o
theorem za0.refl (H:Hp):za0 H H:=fun _ _ h=>h
theorem za0.trans {H H1 H2:Hp} (a:za0 H H1) (b:za0 H1 H2):za0 H H2:=fun c o h=>b c o (a c o h)
theorem za0.free {H H':Hp} (e:za0 H H') {l:Addr} (h:H' l=Option.none):H l=Option.none:=by
  cases q:H l with
  | none=>rfl
  | some o =>
    rw [e l o q] at h; cases h
end L2
namespace L2
open PySem PySem.Spec PyProof.Rows
section
variable {κ:Type} [DecidableEq κ]
def ze6 (kvs:List (κ × V)) (k:κ):Option V:=(kvs.find? fun kv=>decide (kv.1=k)).map (·.2)
def zie (kvs:List (κ × V)) (k:κ) (v:V):List (κ × V) :=
  if (kvs.any fun kv=>decide (kv.1=k))=true then kvs.map (fun kv=>if kv.1=k then (kv.1,v) else kv) else kvs ++ [(k,v)]
theorem zdy {p:κ × V} {r:List (κ × V)} {k:κ} (e:p.1=k):ze6 (p :: r) k=some p.2:=by simp [ze6,List.find?_cons,e]
theorem zdz {p:κ × V} {r:List (κ × V)} {k:κ} (e:¬ p.1=k):ze6 (p :: r) k=ze6 r k:=by simp [ze6,List.find?_cons,e]
theorem zfy (k:κ):∀ kvs:List (κ × V),(kvs.any fun kv=>decide (kv.1=k))=(ze6 kvs k).isSome
  | []=>rfl
  | p :: r=>by
    rw [List.any_cons]
    by_cases e:p.1=k
    · simp only [zdy e,decide_eq_true e,Bool.true_or,Option.isSome_some]
    · rw [zdz e,decide_eq_false e,Bool.false_or]; exact zfy k r
theorem zeL (kvs:List (κ × V)) (k:κ) (v:V):(zie kvs k v).length≤kvs.length+1:=by
  unfold zie; split
  · rw [List.length_map]; omega
  · rw [List.length_append,List.length_cons,List.length_nil]; omega
theorem ziL.isSome_eq {o:Option V} {u:Option Value} (r:ziL o u):o.isSome=u.isSome:=by
  cases o with
  | none=>cases u with
    | none=>rfl
    | some _=>exact (show False from r).elim
  | some _=>cases u with
    | none=>exact (show False from r).elim
    | some _=>rfl
theorem ziL.getD {o:Option V} {u:Option Value} {d:V} {d':Value} (r:ziL o u) (rd:zbi d d'):zbi (o.getD d) (u.getD d'):=by
  cases o with
  | none=>cases u with
    | none=>exact rd
    | some _=>exact (show False from r).elim
  | some _=>cases u with
    | none=>exact (show False from r).elim
    | some _=>exact r
theorem KV.val {kvs:List (κ × V)} {vs:List (κ × Value)} (r:KV kvs vs) (k:κ):ziL (ze6 kvs k) (valueAt vs k):=by
  unfold KV at r
  induction r with
  | nil=>exact True.intro
  | @cons p q ps qs h t ih =>
    obtain ⟨h1,h2⟩:=h
    by_cases e:p.1=k
    · have e':q.1=k:=h1.symm.trans e
      have b:valueAt (q :: qs) k=some q.2:=by simp [valueAt,List.find?_cons,e']
      rw [zdy e,b]; exact h2
    · have e':¬ q.1=k:=fun z=>e (h1.trans z)
      have b:valueAt (q :: qs) k=valueAt qs k:=by simp [valueAt,List.find?_cons,e']
      rw [zdz e,b]; exact ih
theorem KV.any {kvs:List (κ × V)} {vs:List (κ × Value)} (r:KV kvs vs) (k:κ):(kvs.any fun kv=>decide (kv.1=k))=vs.any fun kv=>decide (kv.1=k):=by
  unfold KV at r
  induction r with
  | nil=>rfl
  | cons h t ih=>rw [List.any_cons,List.any_cons,ih,h.1]
theorem KV.repl {kvs:List (κ × V)} {vs:List (κ × Value)} (r:KV kvs vs) (k:κ) {y:V} {u:Value} (ry:zbi y u) :
    KV (kvs.map fun kv=>if kv.1=k then (kv.1,y) else kv) (vs.map fun kv=>if kv.1=k then (kv.1,u) else kv):=by
  unfold KV at r ⊢
  induction r with
  | nil=>exact .nil
  | @cons p q ps qs h t ih =>
    rw [List.map_cons,List.map_cons]; refine .cons ?_ ih; obtain ⟨h1,h2⟩:=h
    by_cases e:p.1=k
    · rw [if_pos e,if_pos (h1.symm.trans e)]; exact ⟨h1,ry⟩
    · rw [if_neg e,if_neg (fun z=>e (h1.trans z))]; exact ⟨h1,h2⟩
theorem KV.put {kvs:List (κ × V)} {vs:List (κ × Value)} (r:KV kvs vs) (k:κ) {y:V} {u:Value} (ry:zbi y u):KV (zie kvs k y) (stored vs k u):=by
  unfold zie stored; rw [r.any k]
  by_cases e:(vs.any fun kv=>decide (kv.1=k))=true
  · rw [if_pos e,if_pos e]; exact r.repl k ry
  · rw [if_neg e,if_neg e]; exact Paired.snoc r ⟨rfl,ry⟩
theorem KV.length {kvs:List (κ × V)} {vs:List (κ × Value)} (r:KV kvs vs):kvs.length=vs.length:=Paired.length r
end
theorem zmo {P:Program} {w:World} {k:Key} {u:Value} (r:zbi (kV k) u):(zbb P w).is k u=true:=by
  cases k with
  | inl i=>obtain ⟨t,e⟩:=(show ∃ t,u=Value.int i t from r); subst e; exact zhC P w i t
  | inr x=>obtain ⟨t,e⟩:=(show ∃ t,u=Value.str x t from r); subst e; exact zhB P w x t
theorem zgF {P:Program} {w:World}:∀ {ks:List Key} {us:List Value},za3 (ks.map kV) us→ItemsAre (zbb P w) ks us
  | [],_,r=>by rw [List.map_nil] at r; cases r; exact .nil
  | k :: ks,_,r=>by
    rw [List.map_cons] at r
    cases r with
    | cons h t=>exact .cons (zmo h) (zgF t)
abbrev KT (H:Hp):List (List Key × V)→List (List Key × Addr × Value)→Prop:=Paired fun p q=>p.1=q.1∧H q.2.1=some (.tup (p.1.map kV))∧zbi p.2 q.2.2
theorem KT.val {H:Hp} {kvs:List (List Key × V)} {xs:List (List Key × Addr × Value)} (r:KT H kvs xs) (k:List Key):ziL (ze6 kvs k) ((atKey xs k).map (·.2)):=by
  induction r with
  | nil=>exact True.intro
  | @cons p q ps qs h t ih =>
    obtain ⟨h1,_,h2⟩:=h
    by_cases e:p.1=k
    · have e':q.1=k:=h1.symm.trans e
      have b:atKey (q :: qs) k=some q.2:=by simp [atKey,List.find?_cons,e']
      rw [zdy e,b]; exact h2
    · have e':¬ q.1=k:=fun z=>e (h1.trans z)
      have b:atKey (q :: qs) k=atKey qs k:=by simp [atKey,List.find?_cons,e']
      rw [zdz e,b]; exact ih
theorem KT.repl {H:Hp} {kvs:List (List Key × V)} {xs:List (List Key × Addr × Value)} (r:KT H kvs xs) (k:List Key) {y:V} {u:Value} (ry:zbi y u) :
    KT H (kvs.map fun kv=>if kv.1=k then (kv.1,y) else kv) (xs.map (putAt k u)):=by
  induction r with
  | nil=>exact .nil
  | @cons p q ps qs h t ih =>
    rw [List.map_cons,List.map_cons]; refine .cons ?_ ih; obtain ⟨h1,h2,h3⟩:=h; unfold putAt
    by_cases e:p.1=k
    · rw [if_pos e,if_pos (h1.symm.trans e)]; exact ⟨h1,h2,ry⟩
    · rw [if_neg e,if_neg (fun z=>e (h1.trans z))]; exact ⟨h1,h2,h3⟩
theorem KT.put {H:Hp} {kvs:List (List Key × V)} {xs:List (List Key × Addr × Value)} (r:KT H kvs xs) (k:List Key) {b:Addr} {y:V} {u:Value} (hb:H b=some (.tup (k.map kV))) (ry:zbi y u) :
    KT H (zie kvs k y) (storedH xs k b u):=by
  have e:(kvs.any fun kv=>decide (kv.1=k))=(atKey xs k).isSome:=by
    rw [zfy,(r.val k).isSome_eq,Option.isSome_map]
  unfold zie storedH; rw [e]
  by_cases q:(atKey xs k).isSome=true
  · rw [if_pos q,if_pos q]; exact r.repl k ry
  · rw [if_neg q,if_neg q]; exact Paired.snoc r ⟨rfl,hb,ry⟩
theorem KT.keeps {H H':Hp} {kvs:List (List Key × V)} {xs:List (List Key × Addr × Value)} (r:KT H kvs xs) (ht:∀ b ys,H b=some (.tup ys)→H' b=some (.tup ys)):KT H' kvs xs :=
  Paired.mapP r fun _ _ z=>⟨z.1,ht _ _ z.2.1,z.2.2⟩
section
variable {P:Program} {w:World} {H:Hp} {h:Heap} {a:Addr}
theorem zpK {u:HO} (ok:HOk P w H h) (e:Rd H a u):zbM P w H h a u:=e.ok ok
theorem zkB {kvs:List (Key × V)} (ok:HOk P w H h) (e:Rd H a (.dK kvs)):kvs.length≤sizeLine∧(a == sysModules)=false∧∃ vs,KV kvs vs∧h.DictOf (zbb P w) a vs :=
  show zbM P w H h a (.dK kvs) from zpK ok e
theorem zqY {kvs:List (Key × V)} (ok:HOk P w H h) (e:H a=some (.dK kvs)):kvs.length≤sizeLine∧(a == sysModules)=false∧∃ vs,KV kvs vs∧h.DictOf (zbb P w) a vs:=zkB ok (.inl e)
theorem zfm {ks:List Key} (ok:HOk P w H h) (e:H a=some (.tup (ks.map kV))):(tupleKind (zbb P w)).is h ks a:=by
  obtain ⟨_,its,r,o,h1,h2,n,h3⟩:=(show zbM P w H h a (.tup (ks.map kV)) from ok a _ e)
  exact ⟨o,its.toArray,n,h1,h2,h3,by simpa using zgF r⟩
theorem zmz {kvs:List (List Key × V)} (ok:HOk P w H h) (e:Rd H a (.dT kvs)):kvs.length≤sizeLine∧(a == sysModules)=false ∧
    ∃ xs,KT H kvs xs∧h.DictOfH (tupleKind (zbb P w)) a xs:=by
  obtain ⟨z,y,xs,r,o,es,ep,h1,h2,h3,h4,h5⟩:=(show zbM P w H h a (.dT kvs) from zpK ok e)
  refine ⟨z,y,xs,r,o,es,ep,h1,h2,h3,h4,fun x hx=>?_,h5⟩
  have all:∀ {l:List (List Key × V)} {m:List (List Key × Addr × Value)},KT H l m→∀ x ∈ m,(tupleKind (zbb P w)).is h x.1 x.2.1:=by
    intro l m q
    induction q with
    | nil=>intro x hx; exact nomatch hx
    | @cons p q ps qs hq t ih =>
      intro x hx
      rcases List.mem_cons.mp hx with e | hx
      · subst e
        exact zfm ok (by rw [← hq.1]; exact hq.2.1)
      · exact ih x hx
  exact all r x hx
theorem zsQ {kvs:List (List Key × V)} (ok:HOk P w H h) (e:H a=some (.dT kvs)):kvs.length≤sizeLine∧(a == sysModules)=false ∧
    ∃ xs,KT H kvs xs∧h.DictOfH (tupleKind (zbb P w)) a xs:=zmz ok (.inl e)
end
def zs8 (H:Hp) (a:Addr) (y:V) (r:Option V):Prop :=
  (∃ kvs k,Rd H a (.dK kvs)∧y=kV k∧r=ze6 kvs k)∨∃ kvs k b,Rd H a (.dT kvs)∧y=.ref b∧H b=some (.tup (k.map kV))∧r=ze6 kvs k
def ztz (H:Hp) (a:Addr) (y v:V) (H':Hp):Prop :=
  (∃ kvs k,H a=some (.dK kvs)∧y=kV k∧kvs.length<sizeLine∧H'=upd H a (.dK (zie kvs k v))) ∨
  ∃ kvs k b,H a=some (.dT kvs)∧y=.ref b∧H b=some (.tup (k.map kV))∧kvs.length<sizeLine∧H'=upd H a (.dT (zie kvs k v))
section
variable {X:Cx} {pins:List (Addr × Obj)} {σ:St} {H:Hp} {s:Shared} {a:Addr} {y v:V} {u r:Value} {o:Option V} {A:Around} {E:Value→Shared→Prop}
theorem Inv.big (I:Inv X pins σ H s):sysModules<s.heap.objs.size:=by
  have h:mainGlobals<s.heap.objs.size:=(I.mod.glob.keeps I.bk).lt
  exact Nat.lt_trans (by decide) h
theorem zkH {Q:Value→Shared→Prop} (hu:A.units+1<cLine) (I:Inv X pins σ H s) (g:zs8 H a y (some v)) (ry:zbi y u) (h:∀ w' s',Inv X pins σ H s'→zbi v w'→Q w' s') :
    wpAny (model X.prog X.w) A (getItem (.ref a) u) Q E s:=by
  rcases g with ⟨kvs,k,e,ey,l⟩ | ⟨kvs,k,b,e,ey,eb,l⟩
  · subst ey
    obtain ⟨z,hd,vs,rel,dd⟩:=zkB I.hok e
    obtain ⟨w',hw,rw'⟩:=ziL.some_of (v:=v) (o:=valueAt vs k) (by rw [l]; exact rel.val k)
    exact wpAny_getItem_of (zmo ry) dd.mapOf hw (h w' _ (I.tok _) rw')
  · subst ey
    cases (show u=Value.ref b from ry)
    obtain ⟨z,hd,xs,rel,dd⟩:=zmz I.hok e
    obtain ⟨w',hw,rw'⟩:=ziL.some_of (v:=v) (o:=(atKey xs k).map (·.2)) (by rw [l]; exact rel.val k)
    obtain ⟨p,hp,hp2⟩:=Option.map_eq_some_iff.mp hw; refine wpAny_getItem_heap (tupleKind_room_in1 hu) (zfm I.hok eb) dd hp ?_; rw [hp2]; exact h w' _ (I.tok _) rw'
theorem zhT {h':Heap} {t':Nat} {ob:HO} (I:Inv X pins σ H s) (mu:Mut (H a)) (hs:Heap.SameBut a s.heap h') (he:∃ q,h'.get? a=some q) (new:zbM X.prog X.w (upd H a ob) h' a ob) :
    Inv X pins σ (upd H a ob) { s with heap:=h',toks:=t' } :=
  I.write (x:=a) (e:=a) mu (.inl rfl) (fun b q hb z=>(hs.2 b hb).trans z) he new
theorem znj {P:Program} {w:World} {H':Hp} {h':Heap} {kvs:List (Key × V)} {vs:List (Key × Value)} (z:kvs.length≤sizeLine) (hd:(a == sysModules)=false) (rel:KV kvs vs) (dd:h'.DictOf (zbb P w) a vs) :
    zbM P w H' h' a (.dK kvs):=⟨z,hd,vs,rel,dd⟩
theorem zkG {H':Hp} {Q:Unit→Shared→Prop} (hu:A.units+1<cLine) (I:Inv X pins σ H s) (g:ztz H a y v H') (ry:zbi y u) (rv:zbi v r) (h:∀ s',Inv X pins σ H' s'→Q () s') :
    wpAny (model X.prog X.w) A (setItem (.ref a) u r) Q E s:=by
  rcases g with ⟨kvs,k,e,ey,l,eH⟩ | ⟨kvs,k,b,e,ey,eb,l,eH⟩
  · subst ey eH
    obtain ⟨z,hd,vs,rel,dd⟩:=zqY I.hok e
    have hz:vs.length≤sizeLine:=by rw [← rel.length]; exact z
    have hl:(zie kvs k v).length≤sizeLine:=by have:=zeL kvs k v; omega
    refine wpAny_setItem_pairs (hsz:=hz) (zmo ry) dd fun h' dd' hs=>h _ ?_
    have he:∃ q,h'.get? a=some q:=let ⟨q,_,_,hq,_⟩:=dd'; ⟨q,hq⟩
    exact zhT I (by rw [e]; exact True.intro) hs he (znj hl hd (rel.put k rv) dd')
  · subst ey eH
    cases (show u=Value.ref b from ry)
    obtain ⟨z,hd,xs,rel,dd⟩:=zsQ I.hok e
    have hz:xs.length≤sizeLine:=by rw [← Paired.length rel]; exact z
    have hl:(zie kvs k v).length≤sizeLine:=by have:=zeL kvs k v; omega
    refine wpAny_setItem_heap (hsz:=hz) (tupleKind_room_in1 hu) (zfm I.hok eb) dd fun h' dd' hs=>h _ ?_
    obtain ⟨q,es,ep,hq,h2,h3,h4,_,h5⟩:=dd'
    refine zhT I (by rw [e]; exact True.intro) hs ⟨q,hq⟩ ⟨hl,hd,_,(rel.put k eb rv).keeps fun c ys ec=>?_,q,es,ep,hq,h2,h3,h4,h5⟩
    rw [zaD (zsC ec e (fun z=>nomatch z))]
    exact ec
end
section
variable {X:Cx} {pins:List (Addr × Obj)} {σ:St} {H:Hp} {s:Shared} {a:Addr} {kvs:List (Key × V)} {k:Key} {u:Value} {A:Around} {E:Value→Shared→Prop}
end
theorem zhS {X:Cx} {pins:List (Addr × Obj)} {σ:St} {H:Hp} {s:Shared} {a:Addr} {y:V} {o:Option V} (I:Inv X pins σ H s) (g:zs8 H a y o):s.TypeIs (.ref a) "dict":=by
  rcases g with ⟨kvs,k,e,_,_⟩ | ⟨kvs,k,b,e,_,_,_⟩
  · obtain ⟨_,_,vs,_,dd⟩:=zkB I.hok e
    exact dd.typeIs
  · obtain ⟨_,_,xs,_,dd⟩:=zmz I.hok e
    exact dd.typeIs
def zr6 (td ty tv:TE):TS:=fun D σ H=>tv σ H fun v H1=>td σ H1 fun x H2=>ty σ H2 fun y H3=>∃ a H4,x=.ref a∧ztz H3 a y v H4∧D.nx σ H4
section
variable {X:Cx} {o i e value:Expr} {pos pos' tpos:Pos} {td ty tv:TE}
theorem zn2 (hu:X.A.units+1<cLine) (ho:PE X o td) (hi:PE X i ty) (hv:PE X value tv) (hs:swapsWith value (some (.Subscript o i pos')) pos.line X.env=pure false) :
    PS X (.Assign [.Subscript o i pos'] value pos) (zr6 td ty tv):=by
  intro pins s σ H D I h
  refine wpAny_Assign_Subscript (thn (hv pins s σ H _ I h) fun r s1 ⟨v,H1,I1,rv,q1⟩=>thn (ho pins s1 σ H1 _ I1 q1) fun u s2 ⟨x,H2,I2,rx,q2⟩=>thn (hi pins s2 σ H2 _ I2 q2) fun iv s3 ⟨y,H3,I3,ry,a,H4,ex,g,q3⟩=>?_) hs
  subst ex
  obtain rfl:u=Value.ref a:=rx
  exact zkG hu I3 g ry rv fun s4 I4=>⟨σ,H4,I4,q3⟩
end
theorem zmB {P:Program} {w:World} {H:Hp} (h:Heap) (hb:sysModules<h.objs.size):zbM P w H (h.push { cls:=.type "dict",data:=.dict #[] }) h.objs.size (.dK []) :=
  ⟨Nat.zero_le _,beq_eq_false_iff_ne.mpr (Ne.symm (Nat.ne_of_lt hb)),[],.nil,Heap.DictOf.new h⟩
def zpx:TE:=fun _ H Q=>∀ p,H p=none→Q (.ref p) (upd H p (.dK []))
section
variable {X:Cx} {pos:Pos}
theorem zlJ:PE X (.Dict [] [] pos) zpx:=fun pins s σ H Q I h =>
  wpAny_Dict_empty ⟨.ref s.heap.objs.size,_,I.laid (a:=s.heap.objs.size) (o:=.dK []) (t':=s.toks) (fun _ _ q=>Heap.get?_push_of_some _ q) (Nat.le_refl _) (zmB s.heap I.big),rfl,h _ (I.hok.fresh (Nat.le_refl _))⟩
end
structure M2 (X:Cx) (o:Expr) (m:Str) (apos:Pos) (e f:Expr) (cpos:Pos):Prop where
  base:attributeBase o m X.env (eval o X.env)=eval o X.env
  few:((backTo cpos (starEach [e,f] X.env)).all (fun x=>!x.1) && (backToKw cpos (keywordEach [] X.env)).all (fun x=>x.1.isSome)
    && decide (([e,f]:List Expr).length+([]:List Keyword).length+(if ([]:List Keyword).isEmpty then 0 else 1)<30))=true
  line:(apos.endLine == cpos.line)=true
  trees:backTo cpos (starEach [e,f] X.env)=[(false,eval e X.env),(false,eval f X.env)]
def IsD (H:Hp) (a:Addr):Prop:=(∃ kvs,Rd H a (.dK kvs))∨∃ kvs,Rd H a (.dT kvs)
theorem zqN {X:Cx} {pins:List (Addr × Obj)} {σ:St} {H:Hp} {s:Shared} {a:Addr} (I:Inv X pins σ H s) (d:IsD H a) :
    s.TypeIs (.ref a) "dict"∧(∀ b,Value.ref a=.ref b→∃ ob,s.heap.get? b=some ob∧ob.dict=none)∧(a == sysModules)=false:=by
  rcases d with ⟨kvs,e⟩ | ⟨kvs,e⟩
  · obtain ⟨_,hd,vs,_,dd⟩:=zkB I.hok e
    refine ⟨dd.typeIs,fun b q=>?_,hd⟩
    cases q; obtain ⟨ob,_,_,h1,h2,_⟩:=dd; exact ⟨ob,h1,h2.2.1⟩
  · obtain ⟨_,hd,xs,_,dd⟩:=zmz I.hok e
    refine ⟨dd.typeIs,fun b q=>?_,hd⟩
    cases q; obtain ⟨ob,_,_,h1,h2,_⟩:=dd; exact ⟨ob,h1,h2.2.1⟩
section
variable {X:Cx} {pins:List (Addr × Obj)} {σ:St} {H:Hp} {s:Shared} {a:Addr} {y d:V} {u r:Value} {o:Option V} {A:Around} {E:Value→Shared→Prop}
end
section
variable {X:Cx} {o e f:Expr} {apos cpos:Pos} {td ty tx:TE}
end
section
variable {X:Cx} {pins:List (Addr × Obj)} {σ:St} {H:Hp} {s:Shared} {a:Addr} {kvs:List (Key × V)} {A:Around} {E:Value→Shared→Prop}
end
section
variable {X:Cx} {pins:List (Addr × Obj)} {σ:St} {H:Hp} {s:Shared} {a:Addr} {y:V} {u:Value} {A:Around} {E:Value→Shared→Prop}
end
end L2
set_option maxHeartbeats 4000000
namespace L2
open PySem PySem.Spec PyProof.Rows
def st (l:List Nat):Str:=⟨l.toArray⟩
theorem zaM (l:List Nat):(st l).cps.toList=l:=by simp [st]
theorem zbA (l:List Nat):(st l).length=l.length:=by simp [st,Str.length]
theorem zjw (x:Str):x=st x.cps.toList:=by cases x; simp [st]
theorem st_inj {a b:List Nat} (h:st a=st b):a=b:=by
  have e:=congrArg (fun x:Str=>x.cps.toList) h
  simpa [st] using e
theorem zpC (a b:List Nat):st a ++ st b=st (a ++ b):=by
  show Str.append (st a) (st b)=st (a ++ b)
  unfold Str.append st; simp
theorem zqO (l:List Nat) (c:Nat):(!(Builtin.Str.occurrences (st l) (st [c]) 0 (st l).length 1).isEmpty)=decide (c ∈ l):=by
  have e:=StrLaws.found_one (st l) c; rw [zaM] at e; exact e
theorem zln (l:List Nat) (n:Nat):Txt.slice (st l) none (some (n:Int))=st (l.take n):=by
  by_cases h:n≤l.length
  · have q:Txt.slice (st l) none (some (n:Int))=⟨(((st l).cps.toList.drop 0).take ((n:Int)-0).toNat).toArray⟩:=StrLaws.sliceText_to ⟨by omega,by rw [zaM]; omega⟩
    rw [q,zaM]; simp [st]
  · have e:Txt.slice (st l) none (some (n:Int))=Txt.slice (st l) none (some (l.length:Int)):=by
      unfold Txt.slice
      have z:Builtin.Str.strSliceIndices none (some (n:Int)) 1 (st l).length=Builtin.Str.strSliceIndices none (some (l.length:Int)) 1 (st l).length:=by
        rw [zbA]
        have h0:¬ (n:Int)<0:=by omega
        have h1:¬ ((l.length:Int)<0):=by omega
        have h2:(1:Int) > 0:=by decide
        have h3:min (n:Int) (l.length:Int)=(l.length:Int):=by omega
        simp only [Builtin.Str.strSliceIndices,h0,h1,h2,if_false,if_true,h3,Int.min_self]
      rw [z]
    have q:Txt.slice (st l) none (some (l.length:Int))=⟨(((st l).cps.toList.drop 0).take ((l.length:Int)-0).toNat).toArray⟩:=StrLaws.sliceText_to ⟨by omega,by rw [zaM]; omega⟩
    rw [e,q,zaM,List.take_of_length_le (by omega:l.length≤n)]
    simp [st]
theorem ziS (l:List Nat) (n:Nat):Txt.slice (st l) (some (n:Int)) none=st (l.drop n):=by
  by_cases h:n≤l.length
  · have q:Txt.slice (st l) (some (n:Int)) none=⟨(((st l).cps.toList.drop (n:Int).toNat).take (((st l).cps.toList.length:Int)-(n:Int)).toNat).toArray⟩:=StrLaws.sliceText_from ⟨by omega,by rw [zaM]; omega⟩
    rw [q,zaM]
    have e1:(n:Int).toNat=n:=by omega
    have e2:((l.length:Int)-(n:Int)).toNat=l.length-n:=by omega
    rw [e1,e2,List.take_of_length_le (by rw [List.length_drop]; omega)]
    rfl
  · rw [slice_beyond (by rw [zbA]; omega),List.drop_eq_nil_of_le (by omega)]
    rfl
section
variable {X:Cx}
theorem zgY:zc9 X (.type "int") (fun xs H Q=>∃ x n,xs=[.str x]∧PySem.intText? x=some n∧x.length≤640∧Q (.int n) H):=by
  intro pins s σ H xs us Q I r h; obtain ⟨x,n,rfl,hn,hl,q⟩:=h; obtain ⟨u,rfl,t,rfl⟩:=zdj r; exact PySem.W.KIN.call_text hn hl ⟨.int n,H,I.tok _,⟨_,rfl⟩,q⟩
def ztO:V→Option Int→Option Int→Hp→VK→Prop:=fun x lo hi H Q=>∃ z,x=.str z∧z.length≤sizeLine∧Q (.str (Txt.slice z lo hi)) H
theorem zpF:SlR X ztO:=by
  intro pins s σ H x v vl vu lo hi sl Q I rx hs pl pu h; obtain ⟨z,rfl,hz,q⟩:=h; obtain ⟨t,rfl⟩:=rx; refine ⟨"str",_,PySem.F.slot_str_getitem.lookup,typeIs_str _ _ _,?_⟩
  have fin:∀ t' k,EP X pins σ Q (.str (Txt.slice z lo hi) t') { s with toks:=k }:=fun t' k=>⟨.str (Txt.slice z lo hi),H,I.tok _,⟨_,rfl⟩,q⟩
  cases pl with
  | none =>
    cases pu with
    | none=>exact wpAny_getItem_str_slice (l:=none) (u:=none) (st:=none) hs rfl (post_val_or_str ⟨Nat.le_trans (Txt.slice_le z _ _) hz,fin⟩)
    | int j u=>exact wpAny_getItem_str_slice (l:=none) (u:=some (j,u)) (st:=none) hs rfl (post_val_or_str ⟨Nat.le_trans (Txt.slice_le z _ _) hz,fin⟩)
  | int i u' =>
    cases pu with
    | none=>exact wpAny_getItem_str_slice (l:=some (i,u')) (u:=none) (st:=none) hs rfl (post_val_or_str ⟨Nat.le_trans (Txt.slice_le z _ _) hz,fin⟩)
    | int j u=>exact wpAny_getItem_str_slice (l:=some (i,u')) (u:=some (j,u)) (st:=none) hs rfl (post_val_or_str ⟨Nat.le_trans (Txt.slice_le z _ _) hz,fin⟩)
theorem zkh:MtR X "str.rstrip" (fun x xs H Q=>∃ z y,x=.str z∧xs=[.str y]∧z.length≤sizeLine∧Q (.str (Txt.rstripChars z y)) H):=by
  intro pins s σ H x xs v us Q I rx rs h; obtain ⟨z,y,rfl,rfl,hz,q⟩:=h; obtain ⟨t,rfl⟩:=rx; obtain ⟨u,rfl,t',rfl⟩:=zdj rs
  exact PySem.SC.rstripChars (fun t' k=>⟨.str _,H,I.tok _,⟨_,rfl⟩,q⟩) hz
end
def zt1:V→V→Bool
  | .int _,.int _=>true
  | .str _,.str _=>true
  | _,_=>false
def zsT:List V→List V→Prop
  | x :: xs,y :: ys=>zt1 x y=true∧zsT xs ys
  | _,_=>True
end L2
namespace HT
open PySem PyProof.Rows L2
section
open PySem.SeqAt
open PySem.AutoSeq1 (wpAny_loadPart')
open PySem.MeetsSeq PySem.MeetsSeq2 PySem.MeetsSeq3
end
section
variable {prog:Program} {w:World} {A:Around} {E:Value→Shared→Prop} {s:Shared}
end
end HT
namespace L2
open PySem PySem.Spec PyProof.Rows
section
variable {X:Cx}
end
end L2
namespace L2
open PySem PySem.Spec PyProof.Rows
def Its (l:List Nat):It:=⟨fun i _=>i<l.length,fun i H x H'=>H'=H∧∃ c,l[i]?=some c∧x=.str (st [c]),fun i _=>i=l.length⟩
theorem zh2 {P:Program} {w:World} {A:Around} {cls:String} (hA:A.handled=none) (it:Addr) (x:Str) (t:Tok) (hcls:cls="str_ascii_iterator"∨cls="str_iterator"):Walks P w A it [it] [it] x.cps.size (SignAt x) (fun i h=>h.IsStrIter it cls x t i):=by
  rcases hcls with rfl | rfl
  · exact Walks.strAscii hA it x t
  · exact Walks.strWide hA it x t
theorem zh4 {P:Program} {w:World} {K:PySem.W.Frag} {tg:Expr} {cls:String} (x:Str) (t:Tok) (it:Addr) (hcls:cls="str_ascii_iterator"∨cls="str_iterator"):Turn P w K tg (Its x.cps.toList) [it] it (fun i h=>h.IsStrIter it cls x t i) where
  mem:=by simp
  obj:=fun i h stt b hb=>by
    have e:b=it:=by simpa using hb
    subst e; obtain ⟨o,e,c,d⟩:=stt
    exact ⟨o,e,fun v z=>by rw [d] at z; cases z⟩
  keep:=fun i h h' stt k=>by
    obtain ⟨o,e,r⟩:=stt
    exact ⟨o,k it (by simp) o e,r⟩
  item:=by
    intro X hP hw hK hc i pins s σ H E I hf stt hg
    subst hP hw hK
    obtain ⟨f0,f1,f2,f3,f4,f5⟩:=hf it (by simp)
    have hg':i<x.cps.toList.length:=hg
    refine (zh2 (I.ok.hd hc) it x t hcls).item i s _ _ (by simpa using hg') stt fun v h' tk hv st' kk=>?_
    obtain ⟨c,u,hc',rfl⟩:=hv
    have I1:Inv X pins σ H { s with heap:=h',toks:=tk }:=I.turned (fun b o hb e=>kk b o (by simpa using hb) e) f0 f1 f3 f4 f5
    obtain ⟨o,e,hcl,d⟩:=id st'
    exact ⟨_,rfl,zmt (s:={ s with heap:=h',toks:=tk }) e hcl d (by rcases hcls with rfl | rfl <;> decide) ⟨.str (st [c]),H,I1,⟨u,rfl⟩,⟨rfl,c,by simpa using hc',rfl⟩,st',fun b hb=>(hf b hb).1⟩⟩
  done:=by
    intro X hP hw hK hc i pins s σ H E I hf stt hg
    subst hP hw hK
    obtain ⟨f0,f1,f2,f3,f4,f5⟩:=hf it (by simp)
    have hg':i=x.cps.toList.length:=hg
    subst hg'
    refine (zh2 (I.ok.hd hc) it x t hcls).done s _ _ (by simpa using stt) fun h' tk kk=>?_
    exact ⟨rfl,I.turned (fun b o hb e=>kk b o (by simpa using hb) e) f0 f1 f3 f4 f5⟩
  self:=fun A i s Q E stt h=>by
    rcases hcls with rfl | rfl
    · exact wpAny_pyIter_striter_ascii stt h
    · exact wpAny_pyIter_striter_wide stt h
section
variable {X:Cx} {tg:Expr}
end
def zdo (cells:List (Str × Addr)):List (Str × NameKind)→List (Str × Addr)→List (Str × Addr)
  | [],acc=>acc
  | (n,k) :: r,acc=>if k == .free then zdo cells r ((n,(cells.lookup n).getD 0) :: acc) else zdo cells r acc
theorem zft {env:Env}:∀ (l:List (Str × NameKind)) (acc:List (Str × Addr)),(∀ y ∈ l,y.2=.free→∃ c,env.cells.lookup y.1=some c) →
    (forIn (m:=Sem) l acc fun x r=>if (x.2 == NameKind.free)=true then do let a ← cellOf env x.1; pure (ForInStep.yield ((x.1,a) :: r)) else pure (ForInStep.yield r))=pure (zdo env.cells l acc)
  | [],acc,_=>rfl
  | (n,k) :: r,acc,h=>by
    rw [List.forIn_cons]
    have ih:=fun acc'=>zft r acc' fun y hy=>h y (List.mem_cons_of_mem _ hy)
    by_cases hk:k=.free
    · subst hk
      obtain ⟨c,hc⟩:=h (n,.free) (List.mem_cons_self ..) rfl
      have e:cellOf env n=pure c:=by
        unfold cellOf
        rw [show env.cells.lookup n=some c from hc]
      show ((if ((NameKind.free:NameKind) == NameKind.free)=true then _ else _) >>= _)=_
      rw [if_pos (by decide),e]
      unfold zdo
      rw [if_pos (by decide),show env.cells.lookup n=some c from hc]
      exact ih _
    · have hb:(k == NameKind.free)=false:=by simpa using hk
      show ((if (k == NameKind.free)=true then _ else _) >>= _)=_
      rw [if_neg (by rw [hb]; decide)]
      unfold zdo
      rw [if_neg (by rw [hb]; decide)]
      exact ih _
theorem zfs {scope:Scope} {env:Env} (h:∀ y ∈ scope.names,y.2=.free→∃ c,env.cells.lookup y.1=some c):closureFor scope env=pure (zdo env.cells scope.names []):=by
  unfold closureFor; have e:=zft scope.names [] h
  refine Eq.trans ?_ (congrArg (fun z=>z >>= fun cs=>(pure cs:Sem (List (Str × Addr)))) e)
  rfl
theorem zdJ {cells:List (Str × Addr)} {x:Str} {c:Addr}:∀ (l:List (Str × NameKind)) (acc:List (Str × Addr)),(∀ y ∈ l,y.2=.free→∃ c,cells.lookup y.1=some c)→(∀ x c,acc.lookup x=some c→cells.lookup x=some c)→(zdo cells l acc).lookup x=some c→cells.lookup x=some c
  | [],acc,_,ha,h=>ha x c h
  | (n,k) :: r,acc,hl,ha,h=>by
    unfold zdo at h; split at h
    · rename_i hk
      obtain ⟨c',hc'⟩:=hl (n,k) (List.mem_cons_self ..) (by simpa using hk)
      refine zdJ r _ (fun y hy=>hl y (List.mem_cons_of_mem _ hy)) (fun z d hz=>?_) h
      rw [show cells.lookup n=some c' from hc'] at hz
      rw [List.lookup_cons] at hz
      cases hzn:z == n with
      | true =>
        rw [hzn] at hz
        have e1:z=n:=by simpa using hzn
        rw [e1,show cells.lookup n=some c' from hc']
        simpa using hz
      | false =>
        rw [hzn] at hz; exact ha z d hz
    · exact zdJ r acc (fun y hy=>hl y (List.mem_cons_of_mem _ hy)) ha h
theorem zge {cells:List (Str × Addr)} {x:Str}:∀ (l:List (Str × NameKind)) (acc:List (Str × Addr)),(∃ c,acc.lookup x=some c)→∃ c,(zdo cells l acc).lookup x=some c
  | [],_,h=>h
  | (n,k) :: r,acc,h=>by
    unfold zdo; split
    · refine zge r _ ?_
      rw [List.lookup_cons]; split
      · exact ⟨_,rfl⟩
      · exact h
    · exact zge r acc h
theorem zgd {cells:List (Str × Addr)} {x:Str}:∀ (l:List (Str × NameKind)) (acc:List (Str × Addr)),(x,NameKind.free) ∈ l→∃ c,(zdo cells l acc).lookup x=some c
  | [],_,h=>absurd h List.not_mem_nil
  | (n,k) :: r,acc,h=>by
    unfold zdo
    rcases List.mem_cons.mp h with e | e
    · cases e
      rw [if_pos (by decide)]
      refine zge r _ ?_; rw [List.lookup_cons,beq_self_eq_true]; exact ⟨_,rfl⟩
    · split
      · exact zgd r _ e
      · exact zgd r _ e
theorem zdY {x:Str} {k:NameKind}:∀ {l:List (Str × NameKind)},l.lookup x=some k→(x,k) ∈ l
  | [],h=>by simp at h
  | (n,j) :: r,h=>by
    rw [List.lookup_cons] at h
    cases e:x == n with
    | true =>
      rw [e] at h
      have e1:x=n:=by simpa using e
      have e2:j=k:=by simpa using h
      rw [e1,e2]; exact List.mem_cons_self ..
    | false =>
      rw [e] at h; exact List.mem_cons_of_mem _ (zdY h)
theorem zfb {env:Env} (hk:env.scope.kind=.function) {x:Str} (hx:env.kindOf x=some .cell):∀ {l:List (Str × NameKind)},l.lookup x=some .free →
    (l.map fun (n,k)=>if (k == NameKind.free && env.scope.kind == .function && env.kindOf n == some .cell) then (n,NameKind.cell) else (n,k)).lookup x=some .cell
  | [],h=>by simp at h
  | (n,k) :: r,h=>by
    rw [List.lookup_cons] at h; rw [List.map_cons]
    show List.lookup x ((if (k == NameKind.free && env.scope.kind == .function && env.kindOf n == some .cell)=true then (n,NameKind.cell) else (n,k)) :: _)=_
    cases e:x == n with
    | true =>
      rw [e] at h
      have e1:x=n:=by simpa using e
      have e2:k=.free:=by simpa using h
      subst e1 e2
      have z:((NameKind.free == NameKind.free && env.scope.kind == .function && env.kindOf x == some .cell):Bool)=true:=by rw [hk,hx]; decide
      rw [if_pos z,List.lookup_cons,beq_self_eq_true]
    | false =>
      rw [e] at h; have ih:=zfb hk hx (l:=r) h
      by_cases z:(k == NameKind.free && env.scope.kind == .function && env.kindOf n == some .cell)=true
      · rw [if_pos z,List.lookup_cons,e]
        exact ih
      · rw [if_neg z,List.lookup_cons,e]
        exact ih
theorem zfc {env:Env} {x:Str}:∀ {l:List (Str × NameKind)},(∀ y ∈ l,y.2≠.cell)→((l.map fun (n,k)=>if (k == NameKind.free && env.scope.kind == .function && env.kindOf n == some .cell) then (n,NameKind.cell) else (n,k)).lookup x=some .cell ∨
    (l.map fun (n,k)=>if (k == NameKind.free && env.scope.kind == .function && env.kindOf n == some .cell) then (n,NameKind.cell) else (n,k)).lookup x=some .free)→(x,NameKind.free) ∈ l
  | [],_,h=>by simp at h
  | (n,k) :: r,hc,h=>by
    have again:∀ (z:(r.map fun (n,k)=>if (k == NameKind.free && env.scope.kind == .function && env.kindOf n == some .cell) then (n,NameKind.cell) else (n,k)).lookup x=some .cell∨(r.map fun (n,k)=>if (k == NameKind.free && env.scope.kind == .function && env.kindOf n == some .cell) then (n,NameKind.cell) else (n,k)).lookup x=some .free),(x,NameKind.free) ∈ (n,k) :: r :=
      fun z=>List.mem_cons_of_mem _ (zfc (fun y hy=>hc y (List.mem_cons_of_mem _ hy)) z)
    rw [List.map_cons] at h
    change List.lookup x ((if (k == NameKind.free && env.scope.kind == .function && env.kindOf n == some .cell)=true then (n,NameKind.cell) else (n,k)) :: _)=some NameKind.cell∨List.lookup x ((if (k == NameKind.free && env.scope.kind == .function && env.kindOf n == some .cell)=true then (n,NameKind.cell) else (n,k)) :: _)=some NameKind.free at h
    by_cases z:(k == NameKind.free && env.scope.kind == .function && env.kindOf n == some .cell)=true
    · have hk:k=.free:=by
        simp only [Bool.and_eq_true,beq_iff_eq] at z; exact z.1.1
      rw [if_pos z,List.lookup_cons] at h
      cases e:x == n with
      | true =>
        have e1:x=n:=by simpa using e
        rw [e1,hk]; exact List.mem_cons_self ..
      | false =>
        rw [e] at h; exact again h
    · rw [if_neg z,List.lookup_cons] at h
      cases e:x == n with
      | true =>
        rw [e] at h
        have e1:x=n:=by simpa using e
        rcases h with h | h
        · exact absurd (by simpa using h) (hc (n,k) (List.mem_cons_self ..))
        · have e2:k=.free:=by simpa using h
          rw [e1,e2]; exact List.mem_cons_self ..
      | false =>
        rw [e] at h; exact again h
structure Blk (N N':List Str) (src:List (Option Nat)) (fsc sc:Scope):Prop where
  kind:sc.kind=.function
  cell:∀ y ∈ sc.names,y.2≠.cell
  names:∀ y ∈ sc.names,y.2=.local→sc.names.lookup y.1=some .local
  free:∀ y ∈ sc.names,y.2=.free→fsc.names.lookup y.1=some .cell
  len:src.length=N'.length
  sees:((N'.zip src).all fun y=>match y.2 with | none=>true | some i=>decide (N[i]?=some y.1) && decide (sc.names.lookup y.1=some .free))=true
def zlq (src:List (Option Nat)) (σ:St):St:=src.map fun o=>o.bind fun i=>(σ[i]?).join
abbrev blk (X:Cx) (N':List Str) (sc:Scope) (cl:List (Str × Addr)) (C:Addr) (s:Shared) (H:Hp) (fp:List Addr) (pn:List (Addr × Obj)):Cx :=
  { X with N:=N',s₀:=s,H₀:=H,env:=compEnvC sc cl C X.env,outer:=X.stack,ex:=fp,fn:=fun _=>false,pn:=pn }
theorem znq {X:Cx} {N N':List Str} {src:List (Option Nat)} {fsc sc:Scope} {pins:List (Addr × Obj)} {σ:St} {H:Hp} {s:Shared} {fp:List Addr} {h':Heap} {tk:Nat} {m:Str→Option Value} (I:Inv X pins σ H s) (B:Blk N N' src fsc sc) (hN:X.N=N) (hs:X.env.scope=fsc)
    (f2:∀ b ∈ fp,zh1 X pins H b) (fb:∀ b ∈ fp,b<s.heap.objs.size) (hn:h'.Ns s.heap.objs.size m) (kp:∀ b o,s.heap.get? b=some o→h'.get? b=some o) :
    Inv (blk X N' sc (zdo X.env.cells sc.names []) s.heap.objs.size s H fp (X.pn ++ pins)) [] (zlq src σ) H { s with heap:=h',toks:=tk }:=by
  subst hN hs
  have hfr:∀ y ∈ sc.names,y.2=.free→∃ c,X.env.cells.lookup y.1=some c:=fun y hy e=>I.ok.has y.1 (.inl (B.free y hy e))
  have sub:∀ x c,(zdo X.env.cells sc.names []).lookup x=some c→X.env.cells.lookup x=some c:=fun x c e=>zdJ sc.names [] hfr (fun _ _ z=>by simp at z) e
  have has:∀ x,(x,NameKind.free) ∈ sc.names→∃ c,(zdo X.env.cells sc.names []).lookup x=some c:=fun x hx=>zgd sc.names [] hx
  have ok:Cx.Ok (blk X N' sc (zdo X.env.cells sc.names []) s.heap.objs.size s H fp (X.pn ++ pins)):=by
    refine ⟨I.ok.mod,B.kind,I.ok.glob,I.ok.blt,Nat.le_refl _,fun x y c e1 e2=>I.ok.inj x y c (sub x c e1) (sub y c e2),fun x hx=>has x (zfc B.cell hx),fun x c e=>(nomatch e),I.ok.hd,I.ok.frames,.inl rfl,fun b hb=>⟨Nat.ne_of_lt (fb b hb),fun x c e=>(f2 b hb).2.2.2.2.1 x c (sub x c e)⟩,
      I.bs,Nat.le_trans I.ok.bsz I.sz,fun b o e hb=>?_,fun b hb z=>?_,I.stack,I.stkFree,I.ok.tab.un I.base.tbls⟩
    · rcases (f2 b hb).2.2.2.1 with z | z
      · exact I.ok.noex b o e z
      · exact absurd (Nat.lt_of_lt_of_le (Heap.lt_size e) (Nat.le_trans I.ok.bsz z)) (Nat.lt_irrefl _)
    · rcases List.mem_cons.mp (I.stkSub b z) with e | e
      · exact (f2 b hb).2.1 e
      · exact (f2 b hb).2.2.1 e
  refine ⟨ok,rfl,I.bare,Un.kept kp,⟨m,hn,fun j x v e1 e2 e3=>?_⟩,fun x c e=>?_,I.hok.fresh (Nat.le_refl _),fun x c e=>I.freeC x c (sub x c e),fun p hp=>?_,I.hok.kept kp,?_⟩
  · have e2':(src[j]?).map (fun o=>o.bind fun i=>(σ[i]?).join)=some (some v):=by
      have z:=e2; unfold zlq at z; rw [List.getElem?_map] at z; exact z
    cases hj:src[j]? with
    | none=>rw [hj] at e2'; cases e2'
    | some o =>
      rw [hj] at e2'
      cases o with
      | none=>cases e2'
      | some i =>
        have hσ:σ[i]?=some (some v):=by
          have z:(σ[i]?).join=some v:=by simpa using e2'
          cases hz:σ[i]? with
          | none=>rw [hz] at z; cases z
          | some w=>rw [hz] at z; exact congrArg some z
        have hz:(x,some i) ∈ N'.zip src:=by
          have q:(N'.zip src)[j]?=some (x,some i):=by
            rw [List.getElem?_zip_eq_some]; exact ⟨e1,hj⟩
          exact List.mem_of_getElem? q
        have q:=List.all_eq_true.mp B.sees _ hz; simp only [Bool.and_eq_true,decide_eq_true_eq] at q; obtain ⟨q1,q2⟩:=q
        have hkc:X.env.kindOf x=some .cell:=B.free _ (zdY q2) rfl
        obtain ⟨m0,_,hl⟩:=I.loc; obtain ⟨u,ru,lk⟩:=hl i x v q1 hσ (.inr (.inl hkc)); refine ⟨u,ru,.inr ⟨.inl (zfb I.ok.kind hkc q2),?_⟩⟩
        rcases lk with ⟨k,_⟩ | ⟨_,c,e,z⟩
        · rw [hkc] at k; cases k
        · obtain ⟨c',hc'⟩:=has x (zdY q2)
          have e':=sub x c' hc'; rw [e] at e'; cases e'; obtain ⟨o,ho,hd⟩:=z; exact ⟨c,hc',o,kp _ _ ho,hd⟩
  · obtain ⟨v,o,ho,hd⟩:=I.cell x c (sub x c e)
    exact ⟨v,o,kp _ _ ho,hd⟩
  · rw [List.append_nil] at hp
    obtain ⟨e,n,ne,nf,d⟩:=I.pin p hp
    refine ⟨kp _ _ e,n,Nat.ne_of_lt (Heap.lt_size e),fun z=>?_,d⟩
    rcases List.mem_cons.mp (I.stkSub p.1 z) with q | q
    · exact ne q
    · exact nf q
  · show (zlq src σ).length=N'.length
    unfold zlq; rw [List.length_map,B.len]
theorem Un.same {fs ex:List Addr} {H H1:Hp} {h h1 h2:Heap} {a:Addr} (u:Un fs ex H H1 h h1) (hs:Heap.SameBut a h1 h2) (ha:h.objs.size≤a):Un fs ex H H1 h h2:=by
  have ne:∀ b o,h.get? b=some o→b≠a:=fun b o e=>Nat.ne_of_lt (Nat.lt_of_lt_of_le (Heap.lt_size e) ha)
  refine ⟨fun b o e n h1 h2=>?_,fun b o e n h1 h2=>?_,u.free,fun b o e h1=>?_,u.tups,u.frzs,u.tbls⟩
  · exact (hs.2 b (ne b o e)).trans (u.keep b o e n h1 h2)
  · obtain ⟨sl,q⟩:=u.slot b o e n h1 h2
    exact ⟨sl,(hs.2 b (ne b o e)).trans q⟩
  · obtain ⟨o',q⟩:=u.there b o e h1
    exact ⟨o',(hs.2 b (ne b o e)).trans q⟩
theorem HOk.same {P:Program} {w:World} {H:Hp} {h h':Heap} {a:Addr} (x:HOk P w H h) (hs:Heap.SameBut a h h') (ha:H a=none):HOk P w H h':=fun b o e=>by
  refine (x b o e).stay (fun c u hc q=>(hs.2 c ?_).trans q) (fun _ q=>q) fun _ _ q=>q
  rintro rfl
  rcases hc with rfl | hc
  · rw [ha] at e; cases e
  · rw [ha] at hc; cases hc
def PTs (X:Cx) (ifs:List Expr) (t:TT):Prop :=
  ∀ (pins:List (Addr × Obj)) (s:Shared) (σ:St) (H:Hp) (Q:Bool→Hp→Prop),Inv X pins σ H s→t σ H Q →
    wpAny (model X.prog X.w) X.A (forIn ifs true fun c r=>if r=true then do let ok ← isTrue c X.env (eval c X.env); pure (ForInStep.yield ok) else pure (ForInStep.yield r)) (TP X pins σ Q) X.xe s
theorem znV {X:Cx}:PTs X [] (fun _ H Q=>Q true H):=fun _ _ _ H _ I h=>wpAny_pure ⟨H,I,h⟩
theorem znU {X:Cx} {c:Expr} {t:TT} (h:PT X c t):PTs X [c] t:=fun pins s σ H Q I q=>wpAny_tests_one (h pins s σ H Q I q)
end L2
namespace L2
open PySem PySem.Spec PyProof.Rows
theorem zgR {P:Program} {w:World} {A:Around} {R:Result→Shared→Prop} {s:Shared} {elt tg iter:Expr} {ifs:List Expr} {sc:Scope} {pos:Pos} {it acc:Value} {env:Env} (J:Nat→Shared→Prop)
    (turn:∀ k s',J k s'→wpAny (model P w) A (pyNext it) (fun r s1=>match r with
      | none=>R (.ok .next) s1
      | some v=>wpAny (model P w) A (letOwnedTupleGo tg it v) (fun _ s2=>wpAny (model P w) A (assign tg env v) (fun _ s3 =>
          wpAny (model P w) A (forIn ifs true fun c r=>if r=true then do let ok ← isTrue c env (eval c env); pure (ForInStep.yield ok) else pure (ForInStep.yield r)) (fun b s4 =>
            if b=true then wpAny (model P w) A (eval elt env) (fun y s5=>wpAny (model P w) A (call (.builtin "list.append") [acc,y]) (fun _ s6=>∃ m,m<k∧J m s6) (fun _ _=>False) s5) (fun _ _=>False) s4
            else ∃ m,m<k∧J m s4) (fun _ _=>False) s3) (fun _ _=>False) s2) (fun _ _=>False) s1) (fun _ _=>False) s')
    (k:Nat) (h:J k s):codeAny (model P w) A (.compLoop (.ListComp elt [⟨tg,iter,ifs,0⟩] sc pos) 0 it acc env) R s:=by
  have no:∀ {α:Type} {t:Sem α} {Q Q':α→Shared→Prop} {E:Value→Shared→Prop} {z:Shared},wpAny (model P w) A t Q (fun _ _=>False) z→(∀ a z',Q a z'→Q' a z')→wpAny (model P w) A t Q' E z:=fun g1 g2=>wpAny_mono g1 g2 fun _ _ f=>f.elim
  refine codeAny_loop rfl J (fun k s' hJ=>?_) k h
  show wpAny _ A ((compTurn (.ListComp elt [⟨tg,iter,ifs,0⟩] sc pos) 0 it acc env).onRaise (fun x=>do noteFrame x env; theTreesLotGoes x)) _ _ s'
  refine wpAny_noted ?_; rw [compTurn_list]
  refine wpAny_bind (wpAny_standAt (wpAny_bind (no (turn k s' hJ) fun r s1 h1=>?_)))
  cases r with
  | none=>exact wpAny_pure h1
  | some v =>
    refine wpAny_bind (no h1 fun _ s2 h2=>wpAny_bind (no h2 fun _ s3 h3=>wpAny_bind (no h3 fun b s4 h4=>?_)))
    cases b with
    | false=>exact wpAny_pure ⟨rfl,h4⟩
    | true=>exact wpAny_bind (wpAny_bind (no h4 fun y s5 h5=>wpAny_bind (no h5 fun _ s6 h6=>wpAny_pure (wpAny_pure ⟨rfl,h6⟩))))
def zpz (wi:TI) (src:List (Option Nat)) (g:TG) (tc:TT) (te:TE):TE:=fun σ H Q=>wi σ H fun J H1=>∀ D,H1 D=none→∃ W:Nat→Nat→St→Hp→Prop,(∃ m,W 0 m (zlq src σ) (upd H1 D (.lst [])))∧∀ i m σ2 H2,W i m σ2 H2 →
  (J.stop i H2∧Q (.ref D) H2)∨(J.go i H2∧∃ M:St→Hp→Prop,(∀ σ' H',M σ' H'→∃ m',m'<m∧W (i+1) m' σ' H')∧∀ x H',J.yld i H2 x H'→g x σ2 H' fun σ3 H3=>tc σ3 H3 fun b H4 =>
    if b=true then te σ3 H4 fun y H5=>∃ ys,H5 D=some (.lst ys)∧ys.length<sizeLine∧M σ3 (upd H5 D (.lst (ys ++ [y]))) else M σ3 H4)
theorem zob {X:Cx} {elt tg iter:Expr} {ifs:List Expr} {sc fsc:Scope} {pos:Pos} {wi:TI} {g:TG} {tc:TT} {te:TE} {N N':List Str} {src:List (Option Nat)} (B:Blk N N' src fsc sc) (hi:PI X tg iter wi)
    (hg:∀ cl C s H fp pn,PG (blk X N' sc cl C s H fp pn) tg g) (ht:∀ cl C s H fp pn,PTs (blk X N' sc cl C s H fp pn) ifs tc) (he:∀ cl C s H fp pn,PE (blk X N' sc cl C s H fp pn) elt te)
    (hx:X.xe=(fun _ _=>False):=by rfl) (hc:X.calm=true:=by rfl) (hN:X.N=N:=by rfl) (hs:X.env.scope=fsc:=by rfl)
    (hf:∀ x,foldedSetIterable iter X.env x=pure x:=by intro _; rfl):PE X (.ListComp elt [⟨tg,iter,ifs,0⟩] sc pos) (zpz wi src g tc te):=by
  intro pins s σ H Q I h; rw [eval_ListComp]
  have hfr:∀ y ∈ sc.names,y.2=.free→∃ c,X.env.cells.lookup y.1=some c:=fun y hy e=>I.ok.has y.1 (.inl (by have:=B.free y hy e; rw [← hs] at this; exact this))
  refine wpAny_comprehension_free (use:=none) (cl:=zdo X.env.cells sc.names []) rfl hf (zfs hfr) B.kind B.names ?_
  refine thn (hi pins s σ H _ I h) fun v s1 h1=>thn h1 fun itv s2 h2=>?_
  obtain ⟨it,fp,tn,J,H2,e,I2,T,st2,f2,q⟩:=h2; subst e
  obtain ⟨W,⟨m0,w0⟩,turn⟩:=q s2.heap.objs.size (I2.hok.fresh (Nat.le_refl _))
  refine wpAny_newObj_type (wpAny_newFunctionEnv B.cell (by intro y hy; simp at hy) (fun h1 hns hsb=>?_) B.kind)
  dsimp only at hns hsb ⊢
  have I3:Inv X pins σ (upd H2 s2.heap.objs.size (.lst [])) { s2 with heap:=s2.heap.push { cls:=.type "list",dict:=none,data:=.seq ([]:List Value).toArray } } :=
    I2.laid (t':=s2.toks) (fun b o e=>Heap.get?_push_of_some _ e) (Nat.le_refl _) ⟨Nat.zero_le _,[],0,.nil,Heap.get?_push_size _ rfl⟩
  have fb:∀ b ∈ fp,b<s2.heap.objs.size:=fun b hb=>by
    obtain ⟨o,e,_⟩:=T.obj 0 _ st2 b hb; exact Heap.lt_size e
  have f3:∀ b ∈ fp,zh1 X pins (upd H2 s2.heap.objs.size (.lst [])) b:=fun b hb=>by
    refine ⟨?_,(f2 b hb).2⟩; rw [zaD (Nat.ne_of_lt (fb b hb))]; exact (f2 b hb).1
  generalize hh3:s2.heap.push { cls:=.type "list",dict:=none,data:=.seq ([]:List Value).toArray }=h3 at hns hsb I3 ⊢
  have z3:s2.heap.objs.size<h3.objs.size:=by rw [← hh3,Heap.size_push]; exact Nat.lt_succ_self _
  have k3:∀ b o,h3.get? b=some o→h1.get? b=some o:=fun b o e=>hsb.extBut b o (Nat.ne_of_lt (Heap.lt_size e)) (Heap.get?_push_of_some _ e)
  have I4:=znq (tk:=s2.toks+([]:List (Str × Value)).length) I3 B hN hs f3 (fun b hb=>Nat.lt_trans (fb b hb) z3) hns k3
  have st4:tn 0 h1:=T.keep 0 _ _ st2 fun b hb o e=>k3 b o (by rw [← hh3]; exact Heap.get?_push_of_some _ e)
  have fok:∀ {H':Hp},(∀ b ∈ fp,H' b=none)→∀ b ∈ fp,zh1 (blk X N' sc (zdo X.env.cells sc.names []) h3.objs.size { s2 with heap:=h3 } (upd H2 s2.heap.objs.size (.lst [])) fp (X.pn ++ pins)) [] H' b:=fun hn b hb=>by
    obtain ⟨_,g1,g2,g3,g4,g5⟩:=f3 b hb
    refine ⟨hn b hb,Nat.ne_of_lt (Nat.lt_trans (fb b hb) z3),fun z=>?_,.inl hb,fun x c e=>g4 x c (zdJ sc.names [] hfr (fun _ _ z=>by simp at z) e),fun p hp=>g5 p (by rw [List.append_nil] at hp; exact hp)⟩
    rcases List.mem_cons.mp (I3.stkSub b z) with e | e
    · exact g1 e
    · exact g2 e
  have loop:∀ s4:Shared,s4={ s2 with heap:=h1,toks:=s2.toks+([]:List (Str × Value)).length } →
      codeAny (model X.prog X.w) X.A (.compLoop (.ListComp elt [⟨tg,iter,ifs,0⟩] sc pos) 0 (.ref it) (.ref s2.heap.objs.size) (compEnvC sc (zdo X.env.cells sc.names []) h3.objs.size X.env))
        (compPost (model X.prog X.w) X.A X.xe none (EP X pins σ Q) (.ref s2.heap.objs.size) h3.objs.size) s4:=by
    rintro s4 rfl
    refine zgR (fun k s'=>∃ i σ5 H5,Inv (blk X N' sc (zdo X.env.cells sc.names []) h3.objs.size { s2 with heap:=h3 } (upd H2 s2.heap.objs.size (.lst [])) fp (X.pn ++ pins)) [] σ5 H5 s'∧tn i s'.heap∧(∀ b ∈ fp,H5 b=none)∧W i k σ5 H5) ?_ m0
      ⟨0,_,_,I4,st4,fun b hb=>(f3 b hb).1,w0⟩
    rintro k s5 ⟨i,σ5,H5,I5,st5,fr5,w5⟩
    rcases turn i k σ5 H5 w5 with ⟨stop,qd⟩ | ⟨go,M,hM,step⟩
    · refine thn (T.done (blk X N' sc (zdo X.env.cells sc.names []) h3.objs.size { s2 with heap:=h3 } (upd H2 s2.heap.objs.size (.lst [])) fp (X.pn ++ pins)) rfl rfl rfl hc i [] s5 σ5 H5 _ I5 (fok fr5) st5 stop) fun r s6 ⟨hr,I6⟩=>?_
      subst hr; obtain ⟨m6,hn6,_⟩:=id I6.loc
      refine ⟨m6,hn6,fun h' hsb'=>⟨.ref s2.heap.objs.size,H5,?_,rfl,qd⟩⟩
      exact I3.call' (s':={ s6 with heap:=h' }) (ch:=fp) I6.os (Un.same I6.base hsb' (Nat.le_refl _)) (HOk.same I6.hok hsb' I6.free) I6.bare fun b hb=>⟨(f3 b hb).2.2.2.1,(f3 b hb).2.1,(f3 b hb).2.2.2.2.1,(f3 b hb).2.2.2.2.2⟩
    · refine thn (T.item (blk X N' sc (zdo X.env.cells sc.names []) h3.objs.size { s2 with heap:=h3 } (upd H2 s2.heap.objs.size (.lst [])) fp (X.pn ++ pins)) rfl rfl rfl hc i [] s5 σ5 H5 _ I5 (fok fr5) st5 go) fun r s6 ⟨u,hr,h6⟩=>?_
      subst hr
      refine thn h6 fun _ s7 ⟨x,H7,I7,r7,y7,st7,fr7⟩=>?_
      have I7':=I7.pinned (fok fr7) (T.obj _ _ st7)
      have back:∀ {σ8:St} {H8:Hp} {s8:Shared},Inv (blk X N' sc (zdo X.env.cells sc.names []) h3.objs.size { s2 with heap:=h3 } (upd H2 s2.heap.objs.size (.lst [])) fp (X.pn ++ pins)) ([] ++ zfe fp s7.heap) σ8 H8 s8→tn (i+1) s8.heap∧∀ b ∈ fp,H8 b=none:=fun {σ8 H8 s8} I8=>by
        have pn8:∀ b ∈ fp,∀ o,s7.heap.get? b=some o→s8.heap.get? b=some o∧H8 b=none:=fun b hb o e=>by
          have q:=I8.pin (b,o) (List.mem_append_right _ (List.mem_append_right _ (zdf hb e))); exact ⟨q.1,q.2.1⟩
        refine ⟨T.keep _ _ _ st7 fun b hb o e=>(pn8 b hb o e).1,fun b hb=>?_⟩
        obtain ⟨o,e,_⟩:=T.obj _ _ st7 b hb; exact (pn8 b hb o e).2
      have xf:∀ {α:Type} {t:Sem α} {Q1 Q2:α→Shared→Prop} {z:Shared},wpAny (model X.prog X.w) X.A t Q1 X.xe z→(∀ a z',Q1 a z'→Q2 a z')→wpAny (model X.prog X.w) X.A t Q2 (fun _ _=>False) z:=fun g1 g2=>by
        rw [hx] at g1; exact thn g1 g2
      refine xf (hg _ _ _ _ _ _ _ s7 σ5 H7 x u _ I7' r7 (step x H7 y7)) fun _ s8 ⟨σ8,H8,I8,q8⟩=>?_
      refine xf (ht _ _ _ _ _ _ _ s8 σ8 H8 _ I8 q8) fun b s9 ⟨H9,I9,q9⟩=>?_
      cases b with
      | false =>
        obtain ⟨m',hm,w'⟩:=hM σ8 H9 (by simpa using q9)
        obtain ⟨g1,g2⟩:=back I9; exact ⟨m',hm,i+1,σ8,H9,I9.unpinned,g1,g2,w'⟩
      | true =>
        rw [if_pos rfl] at q9 ⊢
        refine xf (he _ _ _ _ _ _ _ s9 σ8 H9 _ I9 q9) fun y s10 ⟨yv,H10,I10,r10,ys,hy,hz,w⟩=>?_
        obtain ⟨m',hm,w'⟩:=hM _ _ w
        refine xf (zc2 (X:=(blk X N' sc (zdo X.env.cells sc.names []) h3.objs.size { s2 with heap:=h3 } (upd H2 s2.heap.objs.size (.lst [])) fp (X.pn ++ pins))) _ s10 σ8 H10 (.ref s2.heap.objs.size) [yv] _ [y] (fun _ H11=>H11=upd H10 s2.heap.objs.size (.lst (ys ++ [yv]))) I10 rfl (.cons r10 .nil) ⟨_,ys,yv,rfl,rfl,hy,hz,rfl⟩) fun _ s11 ⟨_,H11,I11,_,e11⟩=>?_
        subst e11; obtain ⟨g1,g2⟩:=back I11; exact ⟨m',hm,i+1,σ8,_,I11.unpinned,g1,g2,w'⟩
  exact codeAny_compStart_list (loop _ rfl) (T.self _ 0 _ _ _ st4 (loop _ rfl))
theorem zgP {J:It} {n:Nat} {g:TG} {tc:TT} {te:TE} {Q:VK} {D:Addr} {σ0:St} {H0:Hp} (Pv:Nat→St→Hp→Prop) (h0:Pv 0 σ0 H0)
    (hs:∀ i σ H,i<n→Pv i σ H→J.go i H∧∀ x H',J.yld i H x H'→g x σ H' fun σ3 H3=>tc σ3 H3 fun b H4=>if b=true then te σ3 H4 fun y H5=>∃ ys,H5 D=some (.lst ys)∧ys.length<sizeLine∧Pv (i+1) σ3 (upd H5 D (.lst (ys ++ [y]))) else Pv (i+1) σ3 H4)
    (hd:∀ σ H,Pv n σ H→J.stop n H∧Q (.ref D) H) :
    ∃ W:Nat→Nat→St→Hp→Prop,(∃ m,W 0 m σ0 H0)∧∀ i m σ2 H2,W i m σ2 H2 →
      (J.stop i H2∧Q (.ref D) H2)∨(J.go i H2∧∃ M:St→Hp→Prop,(∀ σ' H',M σ' H'→∃ m',m'<m∧W (i+1) m' σ' H')∧∀ x H',J.yld i H2 x H'→g x σ2 H' fun σ3 H3=>tc σ3 H3 fun b H4 =>
        if b=true then te σ3 H4 fun y H5=>∃ ys,H5 D=some (.lst ys)∧ys.length<sizeLine∧M σ3 (upd H5 D (.lst (ys ++ [y]))) else M σ3 H4):=by
  refine ⟨fun i m σ H=>m=n-i∧i≤n∧Pv i σ H,⟨n,by simp,Nat.zero_le _,h0⟩,?_⟩
  rintro i m σ2 H2 ⟨rfl,hi,p⟩
  by_cases hlt:i<n
  · obtain ⟨go,stp⟩:=hs i σ2 H2 hlt p
    exact .inr ⟨go,Pv (i+1),fun σ' H' p'=>⟨n-(i+1),by omega,rfl,hlt,p'⟩,stp⟩
  · have e:i=n:=by omega
    subst e; exact .inl (hd σ2 H2 p)
end L2
namespace L2
open PySem
def XAt (a C:Addr) (dd:Option Addr):Heap→Prop:=fun h=>∃ vs sl,h.get? a=some ⟨.ref C,dd,.fields vs,sl⟩
end L2
namespace PL
open PySem L2
inductive D where
  | non | bl (b:Bool) | int (i:Int) | str (l:List Nat) | ty (n:String) | rng (lo hi:Int) | cls (C:Addr) | adr (b:Addr)
  | tup (l:List D) | lst (l:List D) | dic (l:List (D × D)) | dit (l:List (D × D)) | obj (C:Addr) (fs:List (Str × D)) | exc (C:Addr) (fs:List (Str × D))
inductive OD where
  | lst (l:List D) | dic (l:List (D × D)) | dit (l:List (D × D)) | obj (C:Addr) (fs:List (Str × D))
def OD.toD:OD→D
  | .lst l=>.lst l
  | .dic l=>.dic l
  | .dit l=>.dit l
  | .obj C fs=>.obj C fs
theorem paired_of {α β:Type} {R:α→β→Prop}:∀ {l:List α} {m:List β},l.length=m.length→(∀ (i:Nat) a b,l[i]?=some a→m[i]?=some b→R a b)→Paired R l m
  | [],[],_,_=>.nil
  | a :: l,b :: m,h,r=>.cons (r 0 a b rfl rfl) (paired_of (by simpa using h) fun i x y hx hy=>r (i+1) x y (by simpa using hx) (by simpa using hy))
  | [],_ :: _,h,_=>by simp at h
  | _ :: _,[],h,_=>by simp at h
theorem paired_get {α β:Type} {R:α→β→Prop}:∀ {l:List α} {m:List β} (i:Nat) {a:α} {b:β},Paired R l m→l[i]?=some a→m[i]?=some b→R a b
  | _,_,_,_,_,.nil,h,_=>by simp at h
  | _,_,0,_,_,.cons r _,h1,h2=>by simp at h1 h2; subst h1; subst h2; exact r
  | _,_,i+1,_,_,.cons _ t,h1,h2=>paired_get i t (by simpa using h1) (by simpa using h2)
theorem zf {α β:Type} {R:α→β→Prop} {l:List α} {m:List β} (h:Paired R l m):l.length=m.length:=Paired.length h
theorem zbz {α β:Type} {R:α→β→Prop} {l:List α} {m:List β} (h:Paired R l m) {i:Nat} {b:β} (e:m[i]?=some b):∃ a,l[i]?=some a∧R a b:=by
  have hl:=zf h
  have hi:i<l.length:=by rw [hl]; exact (List.getElem?_eq_some_iff.mp e).1
  exact ⟨l[i],List.getElem?_eq_getElem hi,paired_get i h (List.getElem?_eq_getElem hi) e⟩
theorem zcK {α β:Type} {R:α→β→Prop} {l:List α} {m:List β} (h:Paired R l m) {i:Nat} {a:α} (e:l[i]?=some a):∃ b,m[i]?=some b∧R a b:=by
  have hl:=zf h
  have hi:i<m.length:=by rw [← hl]; exact (List.getElem?_eq_some_iff.mp e).1
  exact ⟨m[i],List.getElem?_eq_getElem hi,paired_get i h e (List.getElem?_eq_getElem hi)⟩
theorem zaU {α β:Type} {R:α→β→Prop}:∀ {l l':List α} {m m':List β},Paired R l m→Paired R l' m'→Paired R (l ++ l') (m ++ m')
  | _,_,_,_,.nil,h=>h
  | _,_,_,_,.cons r t,h=>.cons r (zaU t h)
theorem zeG {α β:Type} {R:α→β→Prop}:∀ {l:List α} {m:List β} (n:Nat),Paired R l m→Paired R (l.take n) (m.take n)
  | _,_,0,_=>.nil
  | _,_,_+1,.nil=>.nil
  | _,_,n+1,.cons r t=>.cons r (zeG n t)
theorem zeH {α β:Type} {R:α→β→Prop}:∀ {l:List α} {m:List β} (n:Nat),Paired R l m→Paired R (l.drop n) (m.drop n)
  | _,_,0,h=>h
  | _,_,_+1,.nil=>.nil
  | _,_,n+1,.cons _ t=>zeH n t
def keyD:Key→D
  | .inl i=>.int i
  | .inr x=>.str x.cps.toList
inductive Den (K:PySem.W.Frag) (H:Hp):V→D→Prop where
  | non:Den K H .non .non
  | bl (b:Bool):Den K H (.bl b) (.bl b)
  | int (i:Int):Den K H (.int i) (.int i)
  | str (l:List Nat):Den K H (.str (st l)) (.str l)
  | ty (n:String):Den K H (.ty n) (.ty n)
  | rng {a:Addr} {lo hi:Int} (h:Rd H a (.rng lo hi)):Den K H (.ref a) (.rng lo hi)
  | cls (C:Addr):Den K H (.ref C) (.cls C)
  | adr (b:Addr):Den K H (.ref b) (.adr b)
  | tup {a:Addr} {vs:List V} {ds:List D} (h:H a=some (.tup vs)) (l:vs.length=ds.length) (r:∀ (i:Nat) v d,vs[i]?=some v→ds[i]?=some d→Den K H v d):Den K H (.ref a) (.tup ds)
  | lst {a:Addr} {vs:List V} {ds:List D} (h:SqL K H a vs) (l:vs.length=ds.length) (r:∀ (i:Nat) v d,vs[i]?=some v→ds[i]?=some d→Den K H v d):Den K H (.ref a) (.lst ds)
  | dicK {a:Addr} {kvs:List (Key × V)} {ds:List (D × D)} (h:Rd H a (.dK kvs)) (l:kvs.length=ds.length) (r:∀ (i:Nat) p q,kvs[i]?=some p→ds[i]?=some q→q.1=keyD p.1) (r2:∀ (i:Nat) p q,kvs[i]?=some p→ds[i]?=some q→Den K H p.2 q.2):Den K H (.ref a) (.dic ds)
  | dicT {a:Addr} {kvs:List (List Key × V)} {ep:Nat} {ds:List (D × D)} (h:H a=some (.dE kvs ep)) (l:kvs.length=ds.length) (r:∀ (i:Nat) p q,kvs[i]?=some p→ds[i]?=some q→q.1=.tup (p.1.map keyD)) (r2:∀ (i:Nat) p q,kvs[i]?=some p→ds[i]?=some q→Den K H p.2 q.2):Den K H (.ref a) (.dit ds)
  | obj {a C dx:Addr} {fs:List (Str × V)} {ds:List (Str × D)} (h:H a=some (.ins C dx fs)) (l:fs.length=ds.length) (r:∀ (i:Nat) p q,fs[i]?=some p→ds[i]?=some q→q.1=p.1) (r2:∀ (i:Nat) p q,fs[i]?=some p→ds[i]?=some q→Den K H p.2 q.2):Den K H (.ref a) (.obj C ds)
  | excN {a C:Addr} (h:H a=some (.ext (XAt a C none))):Den K H (.ref a) (.exc C [])
  | exc {a C dx:Addr} {fs:List (Str × V)} {ds:List (Str × D)} (h:H a=some (.ext (XAt a C (some dx)))) (h2:H dx=some (.xd fs)) (l:fs.length=ds.length) (r:∀ (i:Nat) p q,fs[i]?=some p→ds[i]?=some q→q.1=p.1) (r2:∀ (i:Nat) p q,fs[i]?=some p→ds[i]?=some q→Den K H p.2 q.2):Den K H (.ref a) (.exc C ds)
abbrev zlf (K:PySem.W.Frag) (H:Hp):List (Key × V)→List (D × D)→Prop:=Paired fun p q=>q.1=keyD p.1∧Den K H p.2 q.2
abbrev zpa (K:PySem.W.Frag) (H:Hp):List (List Key × V)→List (D × D)→Prop:=Paired fun p q=>q.1=.tup (p.1.map keyD)∧Den K H p.2 q.2
abbrev zpb (K:PySem.W.Frag) (H:Hp):List (Str × V)→List (Str × D)→Prop:=Paired fun p q=>q.1=p.1∧Den K H p.2 q.2
abbrev zbN (K:PySem.W.Frag) (H:Hp):List V→List D→Prop:=Paired (Den K H)
section
variable {K:PySem.W.Frag} {H H':Hp} {v:V} {a:Addr} {vs:List V} {ds:List D}
theorem zcH {u:HO} (e:za0 H H') (h:Rd H a u):Rd H' a u:=by
  rcases h with h | ⟨o,h⟩
  · exact .inl (e _ _ h)
  · exact .inr ⟨o,e _ _ h⟩
theorem zaJ (e:za0 H H') (h:SqT K H a vs):SqT K H' a vs:=by
  rcases h with h | h
  · exact .inl (zcH e h)
  · exact .inr h
theorem zaI (e:za0 H H') (h:SqL K H a vs):SqL K H' a vs:=by
  rcases h with h | h
  · exact .inl (zcH e h)
  · exact .inr h
theorem Den.mono {d:D} (h:Den K H v d) (e:za0 H H'):Den K H' v d:=by
  induction h with
  | non=>exact .non
  | bl b=>exact .bl b
  | int i=>exact .int i
  | str l=>exact .str l
  | ty n=>exact .ty n
  | rng h=>exact .rng (zcH e h)
  | cls C=>exact .cls C
  | adr C=>exact .adr C
  | tup h l r ih=>exact .tup (e _ _ h) l ih
  | lst h l r ih=>exact .lst (zaI e h) l ih
  | dicK h l r r2 ih=>exact .dicK (zcH e h) l r ih
  | dicT h l r r2 ih=>exact .dicT (e _ _ h) l r ih
  | obj h l r r2 ih=>exact .obj (e _ _ h) l r ih
  | excN h=>exact .excN (e _ _ h)
  | exc h h2 l r r2 ih=>exact .exc (e _ _ h) (e _ _ h2) l r ih
theorem zbN.mono (h:zbN K H vs ds) (e:za0 H H'):zbN K H' vs ds:=Paired.mapP h fun _ _ q=>q.mono e
theorem zlf.mono {kvs:List (Key × V)} {es:List (D × D)} (h:zlf K H kvs es) (e:za0 H H'):zlf K H' kvs es:=Paired.mapP h fun _ _ q=>⟨q.1,q.2.mono e⟩
theorem zpa.mono {kvs:List (List Key × V)} {es:List (D × D)} (h:zpa K H kvs es) (e:za0 H H'):zpa K H' kvs es:=Paired.mapP h fun _ _ q=>⟨q.1,q.2.mono e⟩
theorem zpb.mono {fs:List (Str × V)} {es:List (Str × D)} (h:zpb K H fs es) (e:za0 H H'):zpb K H' fs es:=Paired.mapP h fun _ _ q=>⟨q.1,q.2.mono e⟩
theorem Den.mkO {C dx:Addr} {fs:List (Str × V)} {es:List (Str × D)} (h:H a=some (.ins C dx fs)) (r:zpb K H fs es):Den K H (.ref a) (.obj C es):=.obj h (zf r) (fun i _ _ h1 h2=>(paired_get i r h1 h2).1) fun i _ _ h1 h2=>(paired_get i r h1 h2).2
theorem Den.objI {C:Addr} {es:List (Str × D)} (h:Den K H v (.obj C es)):∃ a dx fs,v=.ref a∧H a=some (.ins C dx fs)∧zpb K H fs es:=by
  cases h with
  | obj h l r r2=>exact ⟨_,_,_,rfl,h,paired_of l fun i p q h1 h2=>⟨r i p q h1 h2,r2 i p q h1 h2⟩⟩
def zt6 (K:PySem.W.Frag) (H:Hp) (dd:Option Addr) (es:List (Str × D)):Prop:=(dd=none∧es=[])∨∃ dx fs,dd=some dx∧H dx=some (.xd fs)∧zpb K H fs es
theorem Den.excI {C:Addr} {es:List (Str × D)} (h:Den K H v (.exc C es)):∃ a dd,v=.ref a∧H a=some (.ext (XAt a C dd))∧zt6 K H dd es:=by
  cases h with
  | excN h=>exact ⟨_,_,rfl,h,.inl ⟨rfl,rfl⟩⟩
  | exc h h2 l r r2=>exact ⟨_,_,rfl,h,.inr ⟨_,_,rfl,h2,paired_of l fun i p q h1 h2=>⟨r i p q h1 h2,r2 i p q h1 h2⟩⟩⟩
theorem Den.adrI {b:Addr} (h:Den K H v (.adr b)):v=.ref b:=by cases h; rfl
theorem Den.mkDK {kvs:List (Key × V)} {es:List (D × D)} (h:Rd H a (.dK kvs)) (r:zlf K H kvs es):Den K H (.ref a) (.dic es):=.dicK h (zf r) (fun i _ _ h1 h2=>(paired_get i r h1 h2).1) fun i _ _ h1 h2=>(paired_get i r h1 h2).2
theorem Den.mkDT {kvs:List (List Key × V)} {ep:Nat} {es:List (D × D)} (h:H a=some (.dE kvs ep)) (r:zpa K H kvs es):Den K H (.ref a) (.dit es):=.dicT h (zf r) (fun i _ _ h1 h2=>(paired_get i r h1 h2).1) fun i _ _ h1 h2=>(paired_get i r h1 h2).2
theorem Den.dicI {es:List (D × D)} (h:Den K H v (.dic es)):∃ a kvs,v=.ref a∧Rd H a (.dK kvs)∧zlf K H kvs es:=by
  cases h with
  | dicK h l r r2=>exact ⟨_,_,rfl,h,paired_of l fun i p q h1 h2=>⟨r i p q h1 h2,r2 i p q h1 h2⟩⟩
theorem Den.ditI {es:List (D × D)} (h:Den K H v (.dit es)):∃ a kvs ep,v=.ref a∧H a=some (.dE kvs ep)∧zpa K H kvs es:=by
  cases h with
  | dicT h l r r2=>exact ⟨_,_,_,rfl,h,paired_of l fun i p q h1 h2=>⟨r i p q h1 h2,r2 i p q h1 h2⟩⟩
theorem Den.mkT (h:H a=some (.tup vs)) (r:zbN K H vs ds):Den K H (.ref a) (.tup ds):=.tup h (zf r) fun i _ _ h1 h2=>paired_get i r h1 h2
theorem Den.mkL (h:SqL K H a vs) (r:zbN K H vs ds):Den K H (.ref a) (.lst ds):=.lst h (zf r) fun i _ _ h1 h2=>paired_get i r h1 h2
theorem Den.tupJ (h:Den K H v (.tup ds)):∃ a vs,v=.ref a∧H a=some (.tup vs)∧zbN K H vs ds:=by
  cases h with
  | tup h l r=>exact ⟨_,_,rfl,h,paired_of l r⟩
theorem Den.tupI (h:Den K H v (.tup ds)):∃ a vs,v=.ref a∧SqT K H a vs∧zbN K H vs ds:=by
  cases h with
  | tup h l r=>exact ⟨_,_,rfl,SqT.of h,paired_of l r⟩
theorem Den.lstI (h:Den K H v (.lst ds)):∃ a vs,v=.ref a∧SqL K H a vs∧zbN K H vs ds:=by
  cases h with
  | lst h l r=>exact ⟨_,_,rfl,h,paired_of l r⟩
theorem Den.intI {i:Int} (h:Den K H v (.int i)):v=.int i:=by cases h; rfl
theorem Den.blI {b:Bool} (h:Den K H v (.bl b)):v=.bl b:=by cases h; rfl
theorem Den.strI {l:List Nat} (h:Den K H v (.str l)):v=.str (st l):=by cases h; rfl
theorem Den.nonI (h:Den K H v .non):v=.non:=by cases h; rfl
theorem Den.non_iff {d:D} (h:Den K H v d):v=.non↔d=.non:=by cases h <;> simp
end
inductive Slot where
  | emp | val (d:D) | own (o:OD)
  | bk (d:D→D) (b:Addr) (xs:OD)
abbrev Sts:=List Slot
structure Wd where
  H₀:Hp
  Hi₀:Hp
  F:List Addr
def zbF (K:PySem.W.Frag) (Hi H:Hp) (a:Addr):OD→Prop
  | .lst ds=>∃ vs,H a=some (.lst vs)∧zbN K Hi vs ds
  | .dic ds=>∃ kvs,H a=some (.dK kvs)∧zlf K Hi kvs ds
  | .dit ds=>∃ kvs ep,H a=some (.dE kvs ep)∧zpa K Hi kvs ds
  | .obj C ds=>∃ dx fs,H a=some (.ins C dx fs)∧zpb K Hi fs ds
def znM:Option (Option V)→Option Addr
  | some (some (.ref a))=>some a
  | _=>none
def adr (n:Nat) (W:Wd) (σ:St) (i:Nat):Option Addr:=if i<n then znM σ[i]? else W.F[i-n]?
structure Free (n:Nat) (W:Wd) (Γ:Sts) (σ:St) (a:Addr):Prop where
  own:∀ (j:Nat) o',Γ[j]?=some (.own o')→adr n W σ j≠some a
  bk:∀ (j:Nat) d xs,Γ[j]?≠some (.bk d a xs)
def Hol (K:PySem.W.Frag) (d:D→D):Prop:=∀ (b:Addr) (Hi:Hp) (v:V) (o:OD),Den K Hi (.ref b) o.toD→Den K Hi v (d (.adr b))→Den K Hi v (d o.toD)
structure BkAt (K:PySem.W.Frag) (n:Nat) (W:Wd) (Hi:Hp) (Γ:Sts) (σ:St) (H:Hp) (i:Nat) (d:D→D) (b:Addr) (xs:OD):Prop where
  val:∃ v,σ[i]?=some (some v)∧Den K Hi v (d (.adr b))
  hol:Hol K d
  hi:Hi b=none
  h0:b ∉ W.F→W.H₀ b=none
  at_:zbF K Hi H b xs
  one:∀ (j:Nat) d' xs',Γ[j]?=some (.bk d' b xs')→j=i
  ne:∀ (j:Nat) o',Γ[j]?=some (.own o')→adr n W σ j≠some b
structure Fz (Hi H:Hp):Prop where
  sub:za0 Hi H
  tups:∀ a xs,H a=some (.tup xs)→Hi a=some (.tup xs)
structure Good (K:PySem.W.Frag) (n:Nat) (W:Wd) (Hi:Hp) (Γ:Sts) (σ:St) (H:Hp):Prop where
  len:σ.length=n
  fz:Fz Hi H
  keep:∀ a o,W.H₀ a=some o→a ∉ W.F→H a=some o
  there:∀ a o,W.H₀ a=some o→∃ o',H a=some o'
  fro:∀ a o,W.H₀ a=some o→Hi a=W.Hi₀ a
  val:∀ (i:Nat) d,Γ[i]?=some (.val d)→∃ v,σ[i]?=some (some v)∧Den K Hi v d
  own:∀ (i:Nat) o,Γ[i]?=some (.own o)→∃ a,adr n W σ i=some a∧Hi a=none∧(i<n→W.H₀ a=none)∧zbF K Hi H a o
  apart:∀ (i j:Nat) o o' a,Γ[i]?=some (.own o)→Γ[j]?=some (.own o')→adr n W σ i=some a→adr n W σ j=some a→i=j
  bk:∀ (i:Nat) d b xs,Γ[i]?=some (.bk d b xs)→BkAt K n W Hi Γ σ H i d b xs
theorem Good.sub {K:PySem.W.Frag} {n:Nat} {W:Wd} {Hi:Hp} {Γ:Sts} {σ:St} {H:Hp} (g:Good K n W Hi Γ σ H):za0 Hi H:=g.fz.sub
structure Ext (Hi H Hi' H':Hp):Prop where
  hi:za0 Hi Hi'
  h:za0 H H'
  fz:Fz Hi' H'
  fro:∀ a o,H a=some o→Hi' a=Hi a
theorem Ext.refl {Hi H:Hp} (s:Fz Hi H):Ext Hi H Hi H:=⟨za0.refl _,za0.refl _,s,fun _ _ _=>rfl⟩
theorem Ext.trans {A B A1 B1 A2 B2:Hp} (x:Ext A B A1 B1) (y:Ext A1 B1 A2 B2):Ext A B A2 B2 :=
  ⟨x.hi.trans y.hi,x.h.trans y.h,y.fz,fun a o e=>(y.fro a o (x.h a o e)).trans (x.fro a o e)⟩
theorem za4 {H:Hp} {p:Addr} (h:H p=none) (o:HO):za0 H (upd H p o):=fun b u q=>by rw [zaD (zbf q h)]; exact q
theorem Ext.new {Hi H:Hp} {p:Addr} (s:Fz Hi H) (h:H p=none) (o:HO):Ext Hi H (upd Hi p o) (upd H p o):=by
  have hi:Hi p=none:=s.sub.free h
  refine ⟨za4 hi o,za4 h o,⟨fun b u q=>?_,fun b xs q=>?_⟩,fun b u q=>?_⟩
  · by_cases e:b=p
    · subst e; rw [zO] at q ⊢; exact q
    · rw [zaD e] at q ⊢; exact s.sub b u q
  · by_cases e:b=p
    · subst e; rw [zO] at q ⊢; exact q
    · rw [zaD e] at q ⊢; exact s.tups b xs q
  · exact zaD (zbf q h)
theorem Ext.newO {Hi H:Hp} {p:Addr} (s:Fz Hi H) (h:H p=none) (o:HO) (ho:∀ xs,o≠.tup xs):Ext Hi H Hi (upd H p o) :=
  ⟨za0.refl _,za4 h o,⟨s.sub.trans (za4 h o),fun b xs q=>by
    by_cases e:b=p
    · subst e; rw [zO] at q; exact absurd (Option.some.inj q) (ho xs)
    · rw [zaD e] at q; exact s.tups b xs q⟩,fun _ _ _=>rfl⟩
section
variable {K:PySem.W.Frag} {n:Nat} {W:Wd} {Hi Hi' H H':Hp} {Γ:Sts} {σ:St} {a:Addr} {o:OD}
theorem zbF.there (h:zbF K Hi H a o):∃ u,H a=some u:=by
  cases o with
  | lst ds=>obtain ⟨vs,e,_⟩:=h; exact ⟨_,e⟩
  | dic ds=>obtain ⟨kvs,e,_⟩:=h; exact ⟨_,e⟩
  | dit ds=>obtain ⟨kvs,ep,e,_⟩:=h; exact ⟨_,e⟩
  | obj C ds=>obtain ⟨dx,fs,e,_⟩:=h; exact ⟨_,e⟩
theorem zbF.mono (h:zbF K Hi H a o) (hi:za0 Hi Hi') (e:∀ u,H a=some u→H' a=some u):zbF K Hi' H' a o:=by
  cases o with
  | lst ds=>obtain ⟨vs,q,r⟩:=h; exact ⟨vs,e _ q,r.mono hi⟩
  | dic ds=>obtain ⟨kvs,q,r⟩:=h; exact ⟨kvs,e _ q,r.mono hi⟩
  | dit ds=>obtain ⟨kvs,ep,q,r⟩:=h; exact ⟨kvs,ep,e _ q,r.mono hi⟩
  | obj C ds=>obtain ⟨dx,fs,q,r⟩:=h; exact ⟨dx,fs,e _ q,r.mono hi⟩
theorem zbF.notTup (h:zbF K Hi H a o):∀ xs,H a≠some (.tup xs):=fun xs z=>by
  cases o with
  | lst ds=>obtain ⟨vs,e,_⟩:=h; rw [e] at z; cases z
  | dic ds=>obtain ⟨kvs,e,_⟩:=h; rw [e] at z; cases z
  | dit ds=>obtain ⟨kvs,ep,e,_⟩:=h; rw [e] at z; cases z
  | obj C ds=>obtain ⟨dx,fs,e,_⟩:=h; rw [e] at z; cases z
theorem Good.ext (g:Good K n W Hi Γ σ H) (e:Ext Hi H Hi' H'):Good K n W Hi' Γ σ H' where
  len:=g.len
  fz:=e.fz
  keep:=fun a o h n=>e.h a o (g.keep a o h n)
  there:=fun a o h=>by
    obtain ⟨o',q⟩:=g.there a o h; exact ⟨o',e.h a o' q⟩
  fro:=fun a o h=>by
    obtain ⟨o',q⟩:=g.there a o h; exact (e.fro a o' q).trans (g.fro a o h)
  val:=fun i d h=>by
    obtain ⟨v,h1,h2⟩:=g.val i d h; exact ⟨v,h1,h2.mono e.hi⟩
  own:=fun i o h=>by
    obtain ⟨a,h1,h2,h3,h4⟩:=g.own i o h; obtain ⟨u,hu⟩:=h4.there
    exact ⟨a,h1,(e.fro a u hu).trans h2,h3,h4.mono e.hi fun u q=>e.h a u q⟩
  apart:=g.apart
  bk:=fun i d b xs h=>by
    obtain ⟨⟨v,h0,h1⟩,h2,h3,h4,h5,h6,h7⟩:=g.bk i d b xs h
    obtain ⟨u,hu⟩:=h5.there
    exact ⟨⟨v,h0,h1.mono e.hi⟩,h2,(e.fro b u hu).trans h3,h4,h5.mono e.hi fun u q=>e.h b u q,h6,h7⟩
theorem zdd {o:Option (Option V)} (h:znM o=some a):o=some (some (.ref a)):=by
  unfold znM at h; split at h
  · cases h; rfl
  · cases h
theorem Good.set (g:Good K n W Hi Γ σ H) {i:Nat} {v:V} {d:D} (hi:i<n) (r:Den K Hi v d):Good K n W Hi (Γ.set i (.val d)) (σ.set i (some v)) H:=by
  have ad:∀ j,j≠i→adr n W (σ.set i (some v)) j=adr n W σ j:=fun j hj=>by
    unfold adr
    rw [List.getElem?_set_ne (fun z=>hj z.symm)]
  have inv:∀ (j:Nat) (s:Slot),(Γ.set i (.val d))[j]?=some s→(j=i∧s=.val d)∨(j≠i∧Γ[j]?=some s):=fun j s e=>by
    by_cases hj:j=i
    · subst hj
      refine .inl ⟨rfl,?_⟩; rw [List.getElem?_set] at e; simp only [if_true] at e; split at e
      · exact (Option.some.inj e).symm
      · cases e
    · rw [List.getElem?_set_ne (fun z=>hj z.symm)] at e
      exact .inr ⟨hj,e⟩
  refine ⟨by rw [List.length_set]; exact g.len,g.fz,g.keep,g.there,g.fro,fun j d' e=>?_,fun j o e=>?_,fun j k o o' a e1 e2 h1 h2=>?_,fun j d' b xs e=>?_⟩
  · rcases inv j _ e with ⟨rfl,z⟩ | ⟨hj,z⟩
    · cases z
      exact ⟨v,by rw [List.getElem?_set_self (by rw [g.len]; exact hi)],r⟩
    · obtain ⟨w,h1,h2⟩:=g.val j d' z
      exact ⟨w,by rw [List.getElem?_set_ne (fun z=>hj z.symm)]; exact h1,h2⟩
  · rcases inv j _ e with ⟨rfl,z⟩ | ⟨hj,z⟩
    · cases z
    · obtain ⟨a,h1,h2⟩:=g.own j o z
      exact ⟨a,by rw [ad j hj]; exact h1,h2⟩
  · rcases inv j _ e1 with ⟨rfl,z⟩ | ⟨hj,z⟩
    · cases z
    · rcases inv k _ e2 with ⟨rfl,y⟩ | ⟨hk,y⟩
      · cases y
      · exact g.apart j k o o' a z y (by rw [← ad j hj]; exact h1) (by rw [← ad k hk]; exact h2)
  · rcases inv j _ e with ⟨rfl,z⟩ | ⟨hj,z⟩
    · cases z
    · obtain ⟨⟨w,w1,w2⟩,h1,h2,h3,h4,h5,h6⟩:=g.bk j d' b xs z
      refine ⟨⟨w,by rw [List.getElem?_set_ne (fun z=>hj z.symm)]; exact w1,w2⟩,h1,h2,h3,h4,fun k d' xs' q=>?_,fun k o' q=>?_⟩
      · rcases inv k _ q with ⟨rfl,y⟩ | ⟨hk,y⟩
        · cases y
        · exact h5 k _ _ y
      · rcases inv k _ q with ⟨rfl,y⟩ | ⟨hk,y⟩
        · cases y
        · rw [ad k hk]
          exact h6 k o' y
theorem Good.setO (g:Good K n W Hi Γ σ H) {i:Nat} (hi:i<n) (h0:Hi a=none) (h1:W.H₀ a=none) (fr:Free n W Γ σ a) (h3:zbF K Hi H a o):Good K n W Hi (Γ.set i (.own o)) (σ.set i (some (.ref a))) H:=by
  have ad:∀ j,j≠i→adr n W (σ.set i (some (.ref a))) j=adr n W σ j:=fun j hj=>by
    unfold adr
    rw [List.getElem?_set_ne (fun z=>hj z.symm)]
  have ai:adr n W (σ.set i (some (.ref a))) i=some a:=by
    unfold adr
    rw [if_pos hi,List.getElem?_set_self (by rw [g.len]; exact hi)]
    rfl
  have inv:∀ (j:Nat) (s:Slot),(Γ.set i (.own o))[j]?=some s→(j=i∧s=.own o)∨(j≠i∧Γ[j]?=some s):=fun j s e=>by
    by_cases hj:j=i
    · subst hj
      refine .inl ⟨rfl,?_⟩; rw [List.getElem?_set] at e; simp only [if_true] at e; split at e
      · exact (Option.some.inj e).symm
      · cases e
    · rw [List.getElem?_set_ne (fun z=>hj z.symm)] at e
      exact .inr ⟨hj,e⟩
  refine ⟨by rw [List.length_set]; exact g.len,g.fz,g.keep,g.there,g.fro,fun j d' e=>?_,fun j o e=>?_,fun j k o o' b e1 e2 q1 q2=>?_,fun j d' b xs e=>?_⟩
  · rcases inv j _ e with ⟨rfl,z⟩ | ⟨hj,z⟩
    · cases z
    · obtain ⟨w,h1,h2⟩:=g.val j d' z
      exact ⟨w,by rw [List.getElem?_set_ne (fun z=>hj z.symm)]; exact h1,h2⟩
  · rcases inv j _ e with ⟨rfl,z⟩ | ⟨hj,z⟩
    · cases z
      exact ⟨a,ai,h0,fun _=>h1,h3⟩
    · obtain ⟨b,q1,q2⟩:=g.own j o z
      exact ⟨b,by rw [ad j hj]; exact q1,q2⟩
  · rcases inv j _ e1 with ⟨rfl,z⟩ | ⟨hj,z⟩
    · rcases inv k _ e2 with ⟨rfl,y⟩ | ⟨hk,y⟩
      · rfl
      · rw [ai] at q1
        cases q1; rw [ad k hk] at q2; exact absurd q2 (fr.own k _ y)
    · rcases inv k _ e2 with ⟨rfl,y⟩ | ⟨hk,y⟩
      · rw [ai] at q2
        cases q2; rw [ad j hj] at q1; exact absurd q1 (fr.own j _ z)
      · exact g.apart j k o o' b z y (by rw [← ad j hj]; exact q1) (by rw [← ad k hk]; exact q2)
  · rcases inv j _ e with ⟨rfl,z⟩ | ⟨hj,z⟩
    · cases z
    · obtain ⟨⟨w,w1,w2⟩,h1,h2,h3,h4,h5,h6⟩:=g.bk j d' b xs z
      refine ⟨⟨w,by rw [List.getElem?_set_ne (fun z=>hj z.symm)]; exact w1,w2⟩,h1,h2,h3,h4,fun k d' xs' q=>?_,fun k o' q=>?_⟩
      · rcases inv k _ q with ⟨rfl,y⟩ | ⟨hk,y⟩
        · cases y
        · exact h5 k _ _ y
      · rcases inv k _ q with ⟨rfl,y⟩ | ⟨hk,y⟩
        · rw [ai]
          intro w; cases w; exact fr.bk j _ _ z
        · rw [ad k hk]
          exact h6 k o' y
theorem Good.put (g:Good K n W Hi Γ σ H) {i:Nat} {o0:OD} {u:HO} (e0:Γ[i]?=some (.own o0)) (ha:adr n W σ i=some a) (hn:zbF K Hi (upd H a u) a o):Good K n W Hi (Γ.set i (.own o)) σ (upd H a u):=by
  obtain ⟨a',h1,h2,h3,h4⟩:=g.own i _ e0; rw [ha] at h1; cases h1
  have hF:i<n∨a ∈ W.F:=by
    by_cases hi:i<n
    · exact .inl hi
    · unfold adr at ha
      rw [if_neg hi] at ha; exact .inr (List.mem_of_getElem? ha)
  have inv:∀ (j:Nat) (s:Slot),(Γ.set i (.own o))[j]?=some s→(j=i∧s=.own o)∨(j≠i∧Γ[j]?=some s):=fun j s e=>by
    by_cases hj:j=i
    · subst hj
      refine .inl ⟨rfl,?_⟩; rw [List.getElem?_set] at e; simp only [if_true] at e; split at e
      · exact (Option.some.inj e).symm
      · cases e
    · rw [List.getElem?_set_ne (fun z=>hj z.symm)] at e
      exact .inr ⟨hj,e⟩
  refine ⟨g.len,⟨fun b w q=>?_,fun b xs q=>?_⟩,fun b w q nf=>?_,fun b w q=>?_,g.fro,fun j d' e=>?_,fun j o' e=>?_,fun j k o1 o2 b e1 e2 q1 q2=>?_,fun j d' b xs e=>?_⟩
  · rw [zaD (fun z=>by rw [z,h2] at q; cases q)]
    exact g.sub b w q
  · by_cases hb:b=a
    · subst hb
      exact absurd q (hn.notTup xs)
    · rw [zaD hb] at q
      exact g.fz.tups b xs q
  · have hb:b≠a:=fun z=>by
      subst z
      rcases hF with hi | hf
      · rw [h3 hi] at q; cases q
      · exact nf hf
    rw [zaD hb]; exact g.keep b w q nf
  · by_cases hb:b=a
    · exact ⟨u,by rw [hb,zO]⟩
    · obtain ⟨w',hw⟩:=g.there b w q
      exact ⟨w',by rw [zaD hb]; exact hw⟩
  · rcases inv j _ e with ⟨rfl,z⟩ | ⟨hj,z⟩
    · cases z
    · exact g.val j d' z
  · rcases inv j _ e with ⟨rfl,z⟩ | ⟨hj,z⟩
    · cases z
      exact ⟨a,ha,h2,h3,hn⟩
    · obtain ⟨b,q1,q2,q3,q4⟩:=g.own j o' z
      have hb:b≠a:=fun w=>hj (g.apart j i _ _ a z e0 (by rw [← w]; exact q1) ha)
      exact ⟨b,q1,q2,q3,q4.mono (za0.refl _) fun w hw=>by rw [zaD hb]; exact hw⟩
  · have e1':∃ oo,Γ[j]?=some (.own oo):=by
      rcases inv j _ e1 with ⟨rfl,z⟩ | ⟨hj,z⟩
      · exact ⟨_,e0⟩
      · exact ⟨_,z⟩
    have e2':∃ oo,Γ[k]?=some (.own oo):=by
      rcases inv k _ e2 with ⟨rfl,z⟩ | ⟨hj,z⟩
      · exact ⟨_,e0⟩
      · exact ⟨_,z⟩
    obtain ⟨_,z1⟩:=e1'; obtain ⟨_,z2⟩:=e2'; exact g.apart j k _ _ b z1 z2 q1 q2
  · rcases inv j _ e with ⟨rfl,z⟩ | ⟨hj,z⟩
    · cases z
    · obtain ⟨p0,p1,p2,p3,p4,p5,p6⟩:=g.bk j d' b xs z
      have hb:b≠a:=fun w=>p6 i _ e0 (by rw [w]; exact ha)
      refine ⟨p0,p1,p2,p3,p4.mono (za0.refl _) fun w hw=>by rw [zaD hb]; exact hw,fun k d' xs' q=>?_,fun k o' q=>?_⟩
      · rcases inv k _ q with ⟨rfl,y⟩ | ⟨hk,y⟩
        · cases y
        · exact p5 k _ _ y
      · rcases inv k _ q with ⟨rfl,y⟩ | ⟨hk,y⟩
        · exact p6 k _ e0
        · exact p6 k o' y
theorem Good.freezeA (g:Good K n W Hi Γ σ H) (h0:Hi a=none) (h1:W.H₀ a=none) (fr:Free n W Γ σ a) {u:HO} (hu:H a=some u):Good K n W (upd Hi a u) Γ σ H:=by
  have hs:za0 Hi (upd Hi a u):=za4 h0 u
  refine ⟨g.len,⟨fun b w q=>?_,fun b xs q=>?_⟩,g.keep,g.there,fun b w q=>?_,fun j d' e=>?_,fun j o' e=>?_,g.apart,fun j d' b xs e=>?_⟩
  · by_cases hb:b=a
    · subst hb; rw [zO] at q; cases q; exact hu
    · rw [zaD hb] at q; exact g.sub b w q
  · have hb:b≠a:=fun z=>by
      have:=g.fz.tups b xs q
      rw [z,h0] at this; cases this
    rw [zaD hb]; exact g.fz.tups b xs q
  · have hb:b≠a:=fun z=>by subst z; rw [h1] at q; cases q
    rw [zaD hb]; exact g.fro b w q
  · obtain ⟨w,q1,q2⟩:=g.val j d' e
    exact ⟨w,q1,q2.mono hs⟩
  · obtain ⟨b,q1,q2,q3,q4⟩:=g.own j o' e
    have hb:b≠a:=fun z=>fr.own j o' e (by rw [← z]; exact q1)
    exact ⟨b,q1,by rw [zaD hb]; exact q2,q3,q4.mono hs fun _ z=>z⟩
  · obtain ⟨⟨w,w1,w2⟩,p1,p2,p3,p4,p5,p6⟩:=g.bk j d' b xs e
    have hb:b≠a:=fun z=>fr.bk j _ _ (by rw [← z]; exact e)
    exact ⟨⟨w,w1,w2.mono hs⟩,p1,by rw [zaD hb]; exact p2,p3,p4.mono hs fun _ z=>z,p5,p6⟩
theorem zbF.den (h:zbF K Hi H a o) (h0:Hi a=none) {u:HO} (hu:H a=some u):Den K (upd Hi a u) (.ref a) o.toD:=by
  cases o with
  | lst ds =>
    obtain ⟨vs,q,r⟩:=h; rw [hu] at q; cases q; exact Den.mkL (SqL.of zO) (r.mono (za4 h0 _))
  | dic ds =>
    obtain ⟨kvs,q,r⟩:=h; rw [hu] at q; cases q; exact Den.mkDK (.inl zO) (r.mono (za4 h0 _))
  | dit ds =>
    obtain ⟨kvs,ep,q,r⟩:=h; rw [hu] at q; cases q; exact Den.mkDT zO (r.mono (za4 h0 _))
  | obj C ds =>
    obtain ⟨dx,fs,q,r⟩:=h; rw [hu] at q; cases q; exact Den.mkO zO (r.mono (za4 h0 _))
end
end PL
namespace PL
open PySem L2
abbrev TE':=Sts→(D→Sts→Prop)→Prop
abbrev TT':=Sts→(Bool→Sts→Prop)→Prop
abbrev TA':=Sts→(List D→Sts→Prop)→Prop
abbrev TO':=Sts→(OD→Sts→Prop)→Prop
abbrev TI':=Sts→(List D→Sts→Prop)→Prop
abbrev TG':=D→Sts→(Sts→Prop)→Prop
inductive Res where
  | val (d:D) | own (o:OD)
  | bk (d:D→D) (o:OD)
def Res.toD:Res→D
  | .val d=>d
  | .own o=>o.toD
  | .bk d o=>d o.toD
structure Ends' where
  nx:Sts→Prop
  rt:Res→Sts→Prop
  bk:Sts→Prop:=fun _=>False
  ct:Sts→Prop:=fun _=>False
abbrev TS':=Ends'→Sts→Prop
def zs4 (K:PySem.W.Frag) (n:Nat) (W:Wd) (Hi:Hp) (σ:St) (Q:D→Sts→Prop):VK:=fun v H'=>∃ Hi' d Γ',za0 Hi Hi'∧Good K n W Hi' Γ' σ H'∧Den K Hi' v d∧Q d Γ'
def tOf (K:PySem.W.Frag) (n:Nat) (t:TE'):TE:=fun σ H Q2=>∃ W Hi Γ Q,Good K n W Hi Γ σ H∧t Γ Q∧∀ v H',zs4 K n W Hi σ Q v H'→Q2 v H'
def zpd (K:PySem.W.Frag) (n:Nat) (t:TT'):TT:=fun σ H Q2=>∃ W Hi Γ Q,Good K n W Hi Γ σ H∧t Γ Q∧∀ b H' Hi' Γ',za0 Hi Hi'→Good K n W Hi' Γ' σ H'→Q b Γ'→Q2 b H'
def zrX (K:PySem.W.Frag) (n:Nat) (t:TA'):TA:=fun σ H Q2=>∃ W Hi Γ Q,Good K n W Hi Γ σ H∧t Γ Q∧∀ vs H' Hi' Γ' ds,za0 Hi Hi'→Good K n W Hi' Γ' σ H'→zbN K Hi' vs ds→Q ds Γ'→Q2 vs H'
structure New (K:PySem.W.Frag) (n:Nat) (W:Wd) (Hi:Hp) (Γ:Sts) (σ:St) (H:Hp) (a:Addr) (o:OD):Prop where
  hi:Hi a=none
  h0:W.H₀ a=none
  ne:Free n W Γ σ a
  own:zbF K Hi H a o
def oOf (K:PySem.W.Frag) (n:Nat) (t:TO'):TE:=fun σ H Q2=>∃ W Hi Γ Q,Good K n W Hi Γ σ H∧t Γ Q∧∀ a H' Hi' Γ' o,za0 Hi Hi'→Good K n W Hi' Γ' σ H'→New K n W Hi' Γ' σ H' a o→Q o Γ'→Q2 (.ref a) H'
def gOf (K:PySem.W.Frag) (n:Nat) (g:TG'):TG:=fun v σ H Q2=>∃ W Hi Γ d Q,Good K n W Hi Γ σ H∧Den K Hi v d∧g d Γ Q∧∀ σ' H' Hi' Γ',za0 Hi Hi'→Good K n W Hi' Γ' σ' H'→Q Γ'→Q2 σ' H'
def zo8 (K:PySem.W.Frag) (H₀ Hi H:Hp) (v:V):Res→Prop
  | .val d=>Den K Hi v d
  | .own o=>∃ a,v=.ref a∧Hi a=none∧H₀ a=none∧zbF K Hi H a o
  | .bk d o=>∃ b,Den K Hi v (d (.adr b))∧Hol K d∧Hi b=none∧H₀ b=none∧zbF K Hi H b o
structure Lifts (K:PySem.W.Frag) (n:Nat) (W:Wd) (Hi:Hp) (N:Ends') (N2:Ends):Prop where
  nx:∀ σ' H' Hi' Γ',za0 Hi Hi'→Good K n W Hi' Γ' σ' H'→N.nx Γ'→N2.nx σ' H'
  bk:∀ σ' H' Hi' Γ',za0 Hi Hi'→Good K n W Hi' Γ' σ' H'→N.bk Γ'→N2.bk σ' H'
  ct:∀ σ' H' Hi' Γ',za0 Hi Hi'→Good K n W Hi' Γ' σ' H'→N.ct Γ'→N2.ct σ' H'
  rt:∀ v σ' H' Hi' Γ' r,za0 Hi Hi'→Good K n W Hi' Γ' σ' H'→zo8 K W.H₀ Hi' H' v r→N.rt r Γ'→N2.rt v H'
theorem Lifts.mono {K:PySem.W.Frag} {n:Nat} {W:Wd} {Hi Hi':Hp} {N:Ends'} {N2:Ends} (l:Lifts K n W Hi N N2) (s:za0 Hi Hi'):Lifts K n W Hi' N N2 :=
  ⟨fun σ' H' Hi2 Γ' e=>l.nx σ' H' Hi2 Γ' (s.trans e),fun σ' H' Hi2 Γ' e=>l.bk σ' H' Hi2 Γ' (s.trans e),fun σ' H' Hi2 Γ' e=>l.ct σ' H' Hi2 Γ' (s.trans e),fun v σ' H' Hi2 Γ' r e=>l.rt v σ' H' Hi2 Γ' r (s.trans e)⟩
def sOf (K:PySem.W.Frag) (n:Nat) (t:TS'):TS:=fun N2 σ H=>∃ W Hi Γ N,Good K n W Hi Γ σ H∧t N Γ∧Lifts K n W Hi N N2
def ItD (K:PySem.W.Frag) (Hi:Hp) (J:It) (ds:List D):Prop:=∀ Hi' H',za0 Hi Hi'→Fz Hi' H' →
  (∀ (i:Nat) d,ds[i]?=some d→J.go i H'∧∀ x H'',J.yld i H' x H''→∃ Hi'',Ext Hi' H' Hi'' H''∧Den K Hi'' x d)∧J.stop ds.length H'
def iOf (K:PySem.W.Frag) (n:Nat) (t:TI'):TI:=fun σ H R=>∃ W Hi Γ Q,Good K n W Hi Γ σ H∧t Γ Q∧∀ J H' Hi' Γ' ds,za0 Hi Hi'→Good K n W Hi' Γ' σ H'→ItD K Hi' J ds→Q ds Γ'→R J H'
structure PE' (X:Cx) (e:Expr) (t:TE'):Prop where
  h:PE X e (tOf X.K X.N.length t)
structure PO' (X:Cx) (e:Expr) (t:TO'):Prop where
  h:PE X e (oOf X.K X.N.length t)
structure PT' (X:Cx) (e:Expr) (t:TT'):Prop where
  h:PT X e (zpd X.K X.N.length t)
structure PW' (X:Cx) (e:Expr) (t:TT'):Prop where
  h:PW X e (zpd X.K X.N.length t)
def zc4:Expr→Bool
  | .Starred _ _=>true
  | _=>false
def zch:List Expr→Bool
  | []=>true
  | e :: es=>!zc4 e && zch es
theorem zaP {e:Expr} {es:List Expr} {env:Env} (h:zc4 e=false):starEach (e :: es) env=(false,eval e env) :: starEach es env:=by
  cases e <;> first | rfl | (exact absurd (show true=false from h) Bool.noConfusion)
theorem zbD {pos:Pos} {env:Env}:∀ {es:List Expr},zch es=true→(backTo pos (starEach es env)).any (·.1)=false
  | [],_=>rfl
  | e :: es,h=>by
    have h1:zc4 e=false∧zch es=true:=by
      unfold zch at h
      simpa using h
    rw [zaP h1.1]
    show (false || (backTo pos (starEach es env)).any (·.1))=false
    rw [zbD h1.2]; rfl
theorem zbd {e:Expr} {es:List Expr} (h:zch (e :: es)=true):zc4 e=false∧zch es=true:=by
  unfold zch at h
  simpa using h
structure PA' (X:Cx) (es:List Expr) (t:TA'):Prop where
  pa:PA X es (zrX X.K X.N.length t)
  pl:zch es=true
structure PS' (X:Cx) (s:Stmt) (t:TS'):Prop where
  h:PS X s (sOf X.K X.N.length t)
structure PSs' (X:Cx) (s:List Stmt) (t:TS'):Prop where
  h:PSs X s (sOf X.K X.N.length t)
structure PG' (X:Cx) (tg:Expr) (g:TG'):Prop where
  h:PG X tg (gOf X.K X.N.length g)
structure PI' (X:Cx) (tg iter:Expr) (t:TI'):Prop where
  h:PI X tg iter (iOf X.K X.N.length t)
section
variable {X:Cx}
theorem PE.weak {e:Expr} {t t2:TE} (h:PE X e t) (w:∀ σ H Q,t2 σ H Q→t σ H Q):PE X e t2:=fun pins s σ H Q I q=>h pins s σ H Q I (w _ _ _ q)
theorem PT.weak {e:Expr} {t t2:TT} (h:PT X e t) (w:∀ σ H Q,t2 σ H Q→t σ H Q):PT X e t2:=fun pins s σ H Q I q=>h pins s σ H Q I (w _ _ _ q)
theorem PW.weak {e:Expr} {t t2:TT} (h:PW X e t) (w:∀ σ H Q,t2 σ H Q→t σ H Q):PW X e t2:=fun wh pins s σ H Q I q=>h wh pins s σ H Q I (w _ _ _ q)
theorem PA.weak {es:List Expr} {t t2:TA} (h:PA X es t) (w:∀ σ H Q,t2 σ H Q→t σ H Q):PA X es t2:=fun pos pins s σ H Q I q=>h pos pins s σ H Q I (w _ _ _ q)
theorem PS.weak {st:Stmt} {t t2:TS} (h:PS X st t) (w:∀ N σ H,t2 N σ H→t N σ H):PS X st t2:=fun pins s σ H N I q=>h pins s σ H N I (w _ _ _ q)
theorem PSs.weak {st:List Stmt} {t t2:TS} (h:PSs X st t) (w:∀ N σ H,t2 N σ H→t N σ H):PSs X st t2:=fun pins s σ H N I q=>h pins s σ H N I (w _ _ _ q)
theorem PG.weak {tg:Expr} {t t2:TG} (h:PG X tg t) (w:∀ v σ H Q,t2 v σ H Q→t v σ H Q):PG X tg t2:=fun pins s σ H v u Q I r q=>h pins s σ H v u Q I r (w _ _ _ _ q)
theorem PI.weak {tg iter:Expr} {t t2:TI} (h:PI X tg iter t) (w:∀ σ H Q,t2 σ H Q→t σ H Q):PI X tg iter t2:=fun pins s σ H Q I q=>h pins s σ H Q I (w _ _ _ q)
def zq (i:Nat):TE':=fun Γ Q=>∃ d,Γ[i]?=some (.val d)∧Q d Γ
def tC' (d:D):TE':=fun Γ Q=>Q d Γ
theorem pv' (i:Nat) {x:Str} {pos:Pos} (hN:X.N[i]?=some x:=by rfl) (hv:Vis X.env.scope x:=by first | exact Or.inl rfl | exact Or.inr (Or.inl rfl) | exact Or.inr (Or.inr rfl)) (hd:(x == ("__debug__":Str))=false:=by decide)
    (hcd:(x == ("__classdict__":Str))=false:=by decide):PE' X (.Name x pos) (zq i):=by
  refine ⟨PE.weak (zcX (i:=i) hN hv hd hcd) ?_⟩
  rintro σ H Q ⟨W,Hi,Γ,Q',g,⟨d,e,q⟩,fin⟩
  obtain ⟨v,h1,h2⟩:=g.val i d e; exact ⟨v,h1,fin v H ⟨Hi,d,Γ,za0.refl _,g,h2,q⟩⟩
theorem zhl {e:Expr} {v:V} {d:D} (h:PE X e (tC v)) (r:∀ Hi,Den X.K Hi v d):PE' X e (tC' d):=by
  refine ⟨PE.weak h ?_⟩
  rintro σ H Q ⟨W,Hi,Γ,Q',g,q,fin⟩
  exact fin v H ⟨Hi,d,Γ,za0.refl _,g,r Hi,q⟩
theorem ze {i j pos}:PE' X (.Constant (.int i) j pos) (tC' (.int i)):=zhl zj3 fun _=>.int i
theorem zik {b j pos}:PE' X (.Constant (.bool b) j pos) (tC' (.bl b)):=zhl zsp fun _=>.bl b
theorem zcZ {j pos}:PE' X (.Constant .none j pos) (tC' .non):=zhl zqe fun _=>.non
theorem zbw (l:List Nat) {x j pos} (h:x=st l:=by decide +kernel):PE' X (.Constant (.str x) j pos) (tC' (.str l)):=by
  subst h
  exact zhl zqb fun _=>.str l
theorem zso {x:Str} {v:V} {u:Value} {d:D} {pos:Pos} (hm:X.mg x=some u) (r:zbi v u) (rd:∀ Hi,Den X.K Hi v d) (hg:Gl X x:=by rfl) (hd:(x == ("__debug__":Str))=false:=by decide):PE' X (.Name x pos) (tC' d):=zhl (zhj hg hm r hd) rd
theorem zqi {x:Str} {l:List Nat} {t:Tok} {pos:Pos} (hm:X.mg x=some (.str (st l) t)) (hg:Gl X x:=by rfl) (hd:(x == ("__debug__":Str))=false:=by decide):PE' X (.Name x pos) (tC' (.str l)):=zso (v:=.str (st l)) hm ⟨_,rfl⟩ (fun _=>.str l) hg hd
theorem zmT {x:Str} {c:String} {pos:Pos} (hm:X.mg x=none) (hv:bootBuiltins x=some (.type c)) (hg:Gl X x:=by rfl) (hn:x≠"__name__":=by decide) (hd:(x == ("__debug__":Str))=false:=by decide):PE' X (.Name x pos) (tC' (.ty c)) :=
  zhl (zod (v:=.ty c) hg hm hv rfl hn hd) fun _=>.ty c
def zbg (t:TO'):TE':=fun Γ Q=>t Γ fun o Γ1=>Q o.toD Γ1
theorem za7 {e:Expr} {t:TO'} (h:PO' X e t):PE' X e (zbg t):=by
  refine ⟨PE.weak h.h ?_⟩
  rintro σ H Q ⟨W,Hi,Γ,Q',g,q,fin⟩
  refine ⟨W,Hi,Γ,_,g,q,?_⟩; intro a H' Hi' Γ' o s1 g1 nw q1; obtain ⟨u,hu⟩:=nw.own.there; exact fin _ _ ⟨upd Hi' a u,_,Γ',s1.trans (za4 nw.hi u),g1.freezeA nw.hi nw.h0 nw.ne hu,nw.own.den nw.hi hu,q1⟩
abbrev R2':=D→D→(D→Prop)→Prop
def zh0 (K:PySem.W.Frag) (r:R2) (r':R2'):Prop:=∀ (Hi H:Hp) (x y:V) (dx dy:D) (Q:D→Prop) (Q2:VK),Fz Hi H→Den K Hi x dx→Den K Hi y dy→r' dx dy Q→(∀ Hi' H' v d,Ext Hi H Hi' H'→Den K Hi' v d→Q d→Q2 v H')→r x y H Q2
def zaQ (r:R2') (ta tb:TE'):TE':=fun Γ Q=>ta Γ fun x Γ1=>tb Γ1 fun y Γ2=>r x y fun d=>Q d Γ2
theorem zh6 {K:PySem.W.Frag} {n:Nat} {r:R2} {r':R2'} {ta tb:TE'} {σ:St} {H:Hp} {Q:VK} (l:zh0 K r r') (h:tOf K n (zaQ r' ta tb) σ H Q):tOp r (tOf K n ta) (tOf K n tb) σ H Q:=by
  obtain ⟨W,Hi,Γ,Q',g,h,fin⟩:=h; refine ⟨W,Hi,Γ,_,g,h,?_⟩
  rintro x H1 ⟨Hi1,dx,Γ1,s1,g1,den1,h1⟩
  refine ⟨W,Hi1,Γ1,_,g1,h1,?_⟩
  rintro y H2 ⟨Hi2,dy,Γ2,s2,g2,den2,h2⟩
  refine l Hi2 H2 x y dx dy _ _ g2.fz (den1.mono s2) den2 h2 ?_
  rintro Hi3 H3 v d e den q
  exact fin v H3 ⟨Hi3,d,Γ2,s1.trans (s2.trans e.hi),g2.ext e,den,q⟩
structure Op2 (X:Cx) (f:Value→Value→Sem Value) (r':R2'):Prop where
  ex:∃ r,OpR X f r∧zh0 X.K r r'
theorem Op2.or {f:Value→Value→Sem Value} {r r':R2'} (h:Op2 X f r) (h':Op2 X f r'):Op2 X f (fun x y Q=>r x y Q∨r' x y Q):=by
  obtain ⟨a,ha,la⟩:=h.ex; obtain ⟨b,hb,lb⟩:=h'.ex
  refine ⟨_,ha.or hb,fun Hi H x y dx dy Q Q2 s d1 d2 q fin=>?_⟩
  rcases q with q | q
  · exact .inl (la Hi H x y dx dy Q Q2 s d1 d2 q fin)
  · exact .inr (lb Hi H x y dx dy Q Q2 s d1 d2 q fin)
theorem zQ {a b:Expr} {op:Operator} {r':R2'} {ta tb:TE'} {pos:Pos} (h:Op2 X (binaryOp op) r') (ha:PE' X a ta) (hb:PE' X b tb):PE' X (.BinOp a op b pos) (zaQ r' ta tb):=by
  obtain ⟨r,ho,l⟩:=h.ex
  exact ⟨PE.weak (zqc ho ha.h hb.h) fun σ H Q q=>zh6 l q⟩
theorem zfO {a b:Expr} {op:CmpOp} {r':R2'} {ta tb:TE'} {pos:Pos} (h:Op2 X (compareOp op) r') (ha:PE' X a ta) (hb:PE' X b tb) (hm:behindInMarks op b=false:=by first | exact zmX _ | rfl):PE' X (.Compare a [op] [b] pos) (zaQ r' ta tb):=by
  obtain ⟨r,ho,l⟩:=h.ex
  exact ⟨PE.weak (zoc ho ha.h hb.h hm) fun σ H Q q=>zh6 l q⟩
def tB' (t:TE'):TT':=fun Γ Q=>t Γ fun d Γ1=>∃ b,d=.bl b∧Q b Γ1
theorem zpA {K:PySem.W.Frag} {n:Nat} {t:TE'} {σ:St} {H:Hp} {Q:Bool→Hp→Prop} (h:zpd K n (tB' t) σ H Q):tOf K n t σ H fun x H1=>∃ c,x=.bl c∧Q c H1:=by
  obtain ⟨W,Hi,Γ,Q',g,h,fin⟩:=h; refine ⟨W,Hi,Γ,_,g,h,?_⟩
  rintro x H1 ⟨Hi1,dx,Γ1,s1,g1,den1,b,rfl,h1⟩
  exact ⟨b,den1.blI,fin b H1 Hi1 Γ1 s1 g1 h1⟩
theorem zeD {e:Expr} {t:TE'} (h:PE' X e t) (he:∀ whole,isTrue e X.env whole=(do let v ← whole; standAt e.pos; holding [v] (truthy v)):=by intro _; rfl):PT' X e (tB' t) :=
  ⟨PT.weak (zp3 h.h he) fun σ H Q q=>zpA q⟩
theorem zaE {a b:Expr} {op:CmpOp} {r':R2'} {ta tb:TE'} {pos:Pos} (h:Op2 X (compareOp op) r') (ha:PE' X a ta) (hb:PE' X b tb) (hm:behindInMarks op b=false:=by first | exact zmX _ | rfl):PT' X (.Compare a [op] [b] pos) (tB' (zaQ r' ta tb)):=by
  obtain ⟨r,ho,l⟩:=h.ex
  exact ⟨PT.weak (znW ho ha.h hb.h hm) fun σ H Q q=>zh6 l (zpA q)⟩
def zau (t u:TT'):TT':=fun Γ Q=>t Γ fun c Γ1=>if c=true then u Γ1 Q else Q false Γ1
def zbo (t u:TT'):TT':=fun Γ Q=>t Γ fun c Γ1=>if c=true then Q true Γ1 else u Γ1 Q
def zaq (t:TT'):TT':=fun Γ Q=>t Γ fun c Γ1=>Q (!c) Γ1
variable {a b c:Expr} {tA tB2:TT'} {zee:List Expr} {pos:Pos} {ta tb:TE'}
theorem zeg (ha:PT' X a tA):PW' X (.BoolOp .And [a] pos) tA:=⟨znQ ha.h⟩
theorem zhg (ha:PT' X a tA):PW' X (.BoolOp .Or [a] pos) tA:=⟨zp0 ha.h⟩
theorem zdU (ha:PT' X a tA) (hb:PW' X (.BoolOp .And (b :: zee) pos) tB2):PW' X (.BoolOp .And (a :: b :: zee) pos) (zau tA tB2):=by
  refine ⟨PW.weak (zp1 ha.h hb.h) ?_⟩
  rintro σ H Q ⟨W,Hi,Γ,Q',g,h,fin⟩
  refine ⟨W,Hi,Γ,_,g,h,?_⟩; intro k H1 Hi1 Γ1 s1 g1 h1
  cases k with
  | true=>exact ⟨W,Hi1,Γ1,_,g1,h1,fun b H2 Hi2 Γ2 s2 g2 q=>fin b H2 Hi2 Γ2 (s1.trans s2) g2 q⟩
  | false=>exact fin false H1 Hi1 Γ1 s1 g1 h1
theorem zjQ (ha:PT' X a tA) (hb:PW' X (.BoolOp .Or (b :: zee) pos) tB2):PW' X (.BoolOp .Or (a :: b :: zee) pos) (zbo tA tB2):=by
  refine ⟨PW.weak (zsj ha.h hb.h) ?_⟩
  rintro σ H Q ⟨W,Hi,Γ,Q',g,h,fin⟩
  refine ⟨W,Hi,Γ,_,g,h,?_⟩; intro k H1 Hi1 Γ1 s1 g1 h1
  cases k with
  | false=>exact ⟨W,Hi1,Γ1,_,g1,h1,fun b H2 Hi2 Γ2 s2 g2 q=>fin b H2 Hi2 Γ2 (s1.trans s2) g2 q⟩
  | true=>exact fin true H1 Hi1 Γ1 s1 g1 h1
theorem PW'.pt {e:Expr} {t:TT'} (h:PW' X e t):PT' X e t:=⟨h.h _⟩
theorem zfJ (ha:PT' X a tA):PT' X (.UnaryOp .Not a pos) (zaq tA):=by
  refine ⟨PT.weak (zp4 ha.h) ?_⟩
  rintro σ H Q ⟨W,Hi,Γ,Q',g,h,fin⟩
  exact ⟨W,Hi,Γ,_,g,h,fun k H1 Hi1 Γ1 s1 g1 h1=>fin _ H1 Hi1 Γ1 s1 g1 h1⟩
def zF (ta tb:TE'):TE':=fun Γ Q=>ta Γ fun x Γ1=>∃ c,x=.bl c∧if c=true then tb Γ1 Q else Q (.bl false) Γ1
def zay (ta tb:TE'):TE':=fun Γ Q=>ta Γ fun x Γ1=>∃ c,x=.bl c∧if c=true then Q (.bl true) Γ1 else tb Γ1 Q
def zI (ta:TE'):TE':=fun Γ Q=>ta Γ fun x Γ1=>∃ c,x=.bl c∧Q (.bl (!c)) Γ1
theorem zj2 {op} (h:PE' X a ta):PE' X (.BoolOp op [a] pos) ta:=⟨zqd h.h⟩
theorem zj6 (ha:PE' X a ta) (hb:PE' X (.BoolOp .And (b :: zee) pos) tb):PE' X (.BoolOp .And (a :: b :: zee) pos) (zF ta tb):=by
  refine ⟨PE.weak (zqj ha.h hb.h) ?_⟩
  rintro σ H Q ⟨W,Hi,Γ,Q',g,h,fin⟩
  refine ⟨W,Hi,Γ,_,g,h,?_⟩
  rintro x H1 ⟨Hi1,dx,Γ1,s1,g1,den1,k,rfl,h1⟩
  refine ⟨k,den1.blI,?_⟩
  cases k with
  | true=>exact ⟨W,Hi1,Γ1,_,g1,h1,fun v H2 ⟨Hi2,d,Γ2,s2,g2,d2,q⟩=>fin v H2 ⟨Hi2,d,Γ2,s1.trans s2,g2,d2,q⟩⟩
  | false=>exact fin _ H1 ⟨Hi1,_,Γ1,s1,g1,.bl false,h1⟩
def zbp (t:TT') (ta tb:TE'):TE':=fun Γ Q=>t Γ fun c Γ1=>if c=true then ta Γ1 Q else tb Γ1 Q
theorem zqh (hc:PT' X c tA) (ha:PE' X a ta) (hb:PE' X b tb):PE' X (.IfExp c a b pos) (zbp tA ta tb):=by
  refine ⟨PE.weak (zij hc.h ha.h hb.h) ?_⟩
  rintro σ H Q ⟨W,Hi,Γ,Q',g,h,fin⟩
  refine ⟨W,Hi,Γ,_,g,h,?_⟩; intro k H1 Hi1 Γ1 s1 g1 h1
  cases k with
  | true=>exact ⟨W,Hi1,Γ1,_,g1,h1,fun v H2 ⟨Hi2,d,Γ2,s2,g2,d2,q⟩=>fin v H2 ⟨Hi2,d,Γ2,s1.trans s2,g2,d2,q⟩⟩
  | false=>exact ⟨W,Hi1,Γ1,_,g1,h1,fun v H2 ⟨Hi2,d,Γ2,s2,g2,d2,q⟩=>fin v H2 ⟨Hi2,d,Γ2,s1.trans s2,g2,d2,q⟩⟩
def zZ:TA':=fun Γ Q=>Q [] Γ
def zr (ta:TE') (tr:TA'):TA':=fun Γ Q=>ta Γ fun x Γ1=>tr Γ1 fun xs Γ2=>Q (x :: xs) Γ2
theorem zc:PA' X [] zZ:=by
  refine ⟨PA.weak zfh ?_,rfl⟩
  rintro σ H Q ⟨W,Hi,Γ,Q',g,h,fin⟩
  exact fin [] H Hi Γ [] (za0.refl _) g .nil h
theorem za {e:Expr} {es:List Expr} {te:TE'} {t:TA'} (ha:PE' X e te) (hr:PA' X es t) (hs:zc4 e=false:=by rfl):PA' X (e :: es) (zr te t):=by
  refine ⟨PA.weak (zcL ha.h hr.pa (zaP hs)) ?_,by unfold zch; rw [hs,hr.pl]; rfl⟩
  rintro σ H Q ⟨W,Hi,Γ,Q',g,h,fin⟩
  refine ⟨W,Hi,Γ,_,g,h,?_⟩
  rintro x H1 ⟨Hi1,dx,Γ1,s1,g1,den1,h1⟩
  refine ⟨W,Hi1,Γ1,_,g1,h1,?_⟩; intro vs H2 Hi2 Γ2 ds s2 g2 dl q; exact fin (x :: vs) H2 Hi2 Γ2 (dx :: ds) (s1.trans s2) g2 (.cons (den1.mono s2) dl) q
def zad (t:TA'):TE':=fun Γ Q=>t Γ fun ds Γ1=>ds.length≤sizeLine∧Q (.tup ds) Γ1
theorem zaF {es:List Expr} {t:TA'} {x1} (h:PA' X es t):PE' X (.Tuple es x1 pos) (zad t):=by
  refine ⟨PE.weak (zmU h.pa) ?_⟩
  rintro σ H Q ⟨W,Hi,Γ,Q',g,h,fin⟩
  refine ⟨W,Hi,Γ,_,g,h,?_⟩
  rintro vs H1 Hi1 Γ1 ds s1 g1 dl ⟨hl,q⟩
  refine ⟨by rw [zf dl]; exact hl,fun p hp=>?_⟩
  have e:=Ext.new g1.fz hp (.tup vs); exact fin _ _ ⟨_,_,Γ1,s1.trans e.hi,g1.ext e,Den.mkT zO (dl.mono e.hi),q⟩
theorem New.mk' {K:PySem.W.Frag} {n:Nat} {W:Wd} {Hi H:Hp} {Γ:Sts} {σ:St} {p:Addr} {u:HO} {o:OD} (g:Good K n W Hi Γ σ H) (hp:H p=none) (own:zbF K Hi (upd H p u) p o):New K n W Hi Γ σ (upd H p u) p o:=by
  refine ⟨g.sub.free hp,?_,⟨fun j o' e z=>?_,fun j d xs e=>?_⟩,own⟩
  · cases q:W.H₀ p with
    | none=>rfl
    | some w =>
      obtain ⟨w',hw⟩:=g.there p w q
      rw [hp] at hw; cases hw
  · obtain ⟨a,h1,_,_,h4⟩:=g.own j o' e
    rw [z] at h1; cases h1; obtain ⟨w,hw⟩:=h4.there
    rw [hp] at hw; cases hw
  · obtain ⟨w,hw⟩:=(g.bk j d p xs e).at_.there
    rw [hp] at hw; cases hw
def zab (t:TA'):TO':=fun Γ Q=>t Γ fun ds Γ1=>ds.length≤sizeLine∧Q (.lst ds) Γ1
theorem zbv {es:List Expr} {t:TA'} (h:PA' X es t):PO' X (.List es pos) (zab t):=by
  refine ⟨PE.weak (zqf h.pa) ?_⟩
  rintro σ H Q ⟨W,Hi,Γ,Q',g,h,fin⟩
  refine ⟨W,Hi,Γ,_,g,h,?_⟩
  rintro vs H1 Hi1 Γ1 ds s1 g1 dl ⟨hl,q⟩
  refine ⟨by rw [zf dl]; exact hl,fun p hp=>?_⟩
  exact fin p _ Hi1 Γ1 (.lst ds) s1 (g1.ext (Ext.newO g1.fz hp _ (fun _ z=>by cases z))) (New.mk' g1 hp ⟨vs,zO,dl⟩) q
abbrev RC':=List D→(D→Prop)→Prop
def zrd (K:PySem.W.Frag) (r:List V→Hp→VK→Prop) (r':RC'):Prop:=∀ (Hi H:Hp) (vs:List V) (ds:List D) (Q:D→Prop) (Q2:VK),Fz Hi H→zbN K Hi vs ds→r' ds Q→(∀ Hi' H' v d,Ext Hi H Hi' H'→Den K Hi' v d→Q d→Q2 v H')→r vs H Q2
structure Cal (X:Cx) (f:Value) (r':RC'):Prop where
  ex:∃ r,zc9 X f r∧zrd X.K r r'
theorem Cal.or {f:Value} {r r':RC'} (h:Cal X f r) (h':Cal X f r'):Cal X f (fun x Q=>r x Q∨r' x Q):=by
  obtain ⟨a,ha,la⟩:=h.ex; obtain ⟨b,hb,lb⟩:=h'.ex
  refine ⟨_,ha.or hb,fun Hi H vs ds Q Q2 s d q fin=>?_⟩
  rcases q with q | q
  · exact .inl (la Hi H vs ds Q Q2 s d q fin)
  · exact .inr (lb Hi H vs ds Q Q2 s d q fin)
def zbj (r:RC') (t:TA'):TE':=fun Γ Q=>t Γ fun ds Γ1=>r ds fun d=>Q d Γ1
theorem zmO {K:PySem.W.Frag} {n:Nat} {r:List V→Hp→VK→Prop} {r':RC'} {t:TA'} {σ:St} {H:Hp} {Q:VK} (l:zrd K r r') (h:tOf K n (zbj r' t) σ H Q):tCB r (zrX K n t) σ H Q:=by
  obtain ⟨W,Hi,Γ,Q',g,h,fin⟩:=h; refine ⟨W,Hi,Γ,_,g,h,?_⟩; intro vs H1 Hi1 Γ1 ds s1 g1 dl h1; refine l Hi1 H1 vs ds _ _ g1.fz dl h1 ?_; intro Hi2 H2 v d e den q; exact fin v H2 ⟨Hi2,d,Γ1,s1.trans e.hi,g1.ext e,den,q⟩
variable {x:Str} {p:Pos} {e:Expr} {es:List Expr} {t:TA'} {id T:String}
theorem zbs {r':RC'} (hc:Cal X (.builtin id) r') (hm:X.mg x=none) (hv:bootBuiltins x=some (.builtin id)) (ha:PA' X (e :: es) t) (hg:Gl X x:=by rfl) (hn:x≠"__name__":=by decide) (hdb:(x == ("__debug__":Str))=false:=by decide):PE' X (.Call (.Name x p) (e :: es) [] pos) (zbj r' t):=by
  obtain ⟨r,ho,l⟩:=hc.ex; obtain ⟨p1,p2⟩:=zbd ha.pl
  exact ⟨PE.weak (zlK ho hg hm hv ha.pa hn hdb (zaP p1) (zbD p2)) fun σ H Q q=>zmO l q⟩
theorem zbe {r':RC'} (hc:Cal X (.type T) r') (hm:X.mg x=none) (hv:bootBuiltins x=some (.type T)) (ha:PA' X (e :: es) t) (hg:Gl X x:=by rfl) (hn:x≠"__name__":=by decide) (hdb:(x == ("__debug__":Str))=false:=by decide):PE' X (.Call (.Name x p) (e :: es) [] pos) (zbj r' t):=by
  obtain ⟨r,ho,l⟩:=hc.ex; obtain ⟨p1,p2⟩:=zbd ha.pl
  exact ⟨PE.weak (zgu ho hg hm hv ha.pa hn hdb (zaP p1) (zbD p2)) fun σ H Q q=>zmO l q⟩
end
end PL
namespace PL
open PySem L2
section
variable {X:Cx} {a b c:Expr} {pos:Pos} {ta tb:TE'}
structure Ixs (X:Cx) (r':R2'):Prop where
  ex:∃ r,IxR X r∧zh0 X.K r r'
theorem Ixs.or {r r':R2'} (h:Ixs X r) (h':Ixs X r'):Ixs X (fun x y Q=>r x y Q∨r' x y Q):=by
  obtain ⟨a,ha,la⟩:=h.ex; obtain ⟨b,hb,lb⟩:=h'.ex
  refine ⟨_,ha.or hb,fun Hi H x y dx dy Q Q2 s d1 d2 q fin=>?_⟩
  rcases q with q | q
  · exact .inl (la Hi H x y dx dy Q Q2 s d1 d2 q fin)
  · exact .inr (lb Hi H x y dx dy Q Q2 s d1 d2 q fin)
theorem zP {r':R2'} (h:Ixs X r') (ha:PE' X a ta) (hb:PE' X b tb) (hs:zkZ b:=by intro _ _; rfl):PE' X (.Subscript a b pos) (zaQ r' ta tb):=by
  obtain ⟨r,ho,l⟩:=h.ex
  exact ⟨PE.weak (zqg ho ha.h hb.h hs) fun σ H Q q=>zh6 l q⟩
abbrev TP':=Sts→(Option Int→Sts→Prop)→Prop
def ztB (K:PySem.W.Frag) (n:Nat) (t:TP'):TO:=fun σ H Q2=>∃ W Hi Γ Q,Good K n W Hi Γ σ H∧t Γ Q∧∀ i H' Hi' Γ',za0 Hi Hi'→Good K n W Hi' Γ' σ H'→Q i Γ'→Q2 i H'
structure PB' (X:Cx) (e:Option Expr) (t:TP'):Prop where
  h:PO X e (ztB X.K X.N.length t)
def zaf:TP':=fun Γ Q=>Q none Γ
def zbm (t:TE'):TP':=fun Γ Q=>t Γ fun d Γ1=>∃ i,d=.int i∧Q (some i) Γ1
theorem PO.weak {e:Option Expr} {t t2:TO} (h:PO X e t) (w:∀ σ H Q,t2 σ H Q→t σ H Q):PO X e t2:=fun pins s σ H Q I q=>h pins s σ H Q I (w _ _ _ q)
theorem zfP:PB' X none zaf:=by
  refine ⟨PO.weak zn6 ?_⟩
  rintro σ H Q ⟨W,Hi,Γ,Q',g,h,fin⟩
  exact fin none H Hi Γ (za0.refl _) g h
theorem zdX {e:Expr} {te:TE'} (h:PE' X e te):PB' X (some e) (zbm te):=by
  refine ⟨PO.weak (zn5 h.h) ?_⟩
  rintro σ H Q ⟨W,Hi,Γ,Q',g,h,fin⟩
  refine ⟨W,Hi,Γ,_,g,h,?_⟩
  rintro v H1 ⟨Hi1,d,Γ1,s1,g1,den,i,rfl,q⟩
  exact ⟨i,den.intI,fin _ H1 Hi1 Γ1 s1 g1 q⟩
abbrev RS':=D→Option Int→Option Int→(D→Prop)→Prop
def zs5 (K:PySem.W.Frag) (r:V→Option Int→Option Int→Hp→VK→Prop) (r':RS'):Prop:=∀ (Hi H:Hp) (x:V) (dx:D) (lo hi:Option Int) (Q:D→Prop) (Q2:VK),Fz Hi H→Den K Hi x dx→r' dx lo hi Q→(∀ Hi' H' v d,Ext Hi H Hi' H'→Den K Hi' v d→Q d→Q2 v H')→r x lo hi H Q2
structure Sli (X:Cx) (r':RS'):Prop where
  ex:∃ r,SlR X r∧zs5 X.K r r'
theorem Sli.or {r r':RS'} (h:Sli X r) (h':Sli X r'):Sli X (fun x lo hi Q=>r x lo hi Q∨r' x lo hi Q):=by
  obtain ⟨a,ha,la⟩:=h.ex; obtain ⟨b,hb,lb⟩:=h'.ex
  refine ⟨_,ha.or hb,fun Hi H x dx lo hi Q Q2 s d1 q fin=>?_⟩
  rcases q with q | q
  · exact .inl (la Hi H x dx lo hi Q Q2 s d1 q fin)
  · exact .inr (lb Hi H x dx lo hi Q Q2 s d1 q fin)
def zbl (r:RS') (te:TE') (tl th:TP'):TE':=fun Γ Q=>te Γ fun x Γ1=>tl Γ1 fun l Γ2=>th Γ2 fun u Γ3=>r x l u fun d=>Q d Γ3
theorem zcY {e:Expr} {lo hi:Option Expr} {p2:Pos} {te:TE'} {tl th:TP'} {r':RS'} (h:Sli X r') (he:PE' X e te) (hl:PB' X lo tl) (hu:PB' X hi th):PE' X (.Subscript e (.Slice lo hi none p2) pos) (zbl r' te tl th):=by
  obtain ⟨r,ho,l⟩:=h.ex; refine ⟨PE.weak (zlI ho he.h hl.h hu.h) ?_⟩
  rintro σ H Q ⟨W,Hi,Γ,Q',g,h,fin⟩
  refine ⟨W,Hi,Γ,_,g,h,?_⟩
  rintro x H1 ⟨Hi1,dx,Γ1,s1,g1,den1,h1⟩
  refine ⟨W,Hi1,Γ1,_,g1,h1,?_⟩; intro i H2 Hi2 Γ2 s2 g2 h2; refine ⟨W,Hi2,Γ2,_,g2,h2,?_⟩; intro j H3 Hi3 Γ3 s3 g3 h3; refine l Hi3 H3 x dx i j _ _ g3.fz (den1.mono (s2.trans s3)) h3 ?_; intro Hi4 H4 v d e den q; exact fin v H4 ⟨Hi4,d,Γ3,s1.trans (s2.trans (s3.trans e.hi)),g3.ext e,den,q⟩
abbrev RM':=D→List D→(D→Prop)→Prop
def zs6 (K:PySem.W.Frag) (T:String) (r:V→List V→Hp→VK→Prop) (r':RM'):Prop:=∀ (Hi H:Hp) (x:V) (vs:List V) (dx:D) (ds:List D) (Q:D→Prop) (Q2:VK),Fz Hi H→Den K Hi x dx→zbN K Hi vs ds→r' dx ds Q→(∀ Hi' H' v d,Ext Hi H Hi' H'→Den K Hi' v d→Q d→Q2 v H')→r x vs H Q2
def tyD (T:String):D→Prop
  | .str _=>T="str"
  | .int _=>T="int"
  | .lst _=>T="list"
  | _=>False
theorem zpt {K:PySem.W.Frag} {Hi H:Hp} {x:V} {dx:D} (s:za0 Hi H) (den:Den K Hi x dx) (h:tyD T dx):tyV K T x H:=by
  cases den with
  | str l=>exact h
  | int i=>exact h
  | lst hq l r =>
    refine .inl ⟨h,_,zaI s hq⟩
  | _=>exact h.elim
structure Met (X:Cx) (T:String) (id:String) (r':RM'):Prop where
  ex:∃ r,MtR X id r∧zs6 X.K T r r'
def zbq (T:String) (r:RM') (to:TE') (t:TA'):TE':=fun Γ Q=>to Γ fun x Γ1=>tyD T x∧t Γ1 fun ds Γ2=>r x ds fun d=>Q d Γ2
theorem zj4 {o e:Expr} {es:List Expr} {to:TE'} {t:TA'} {name:Str} {apos cpos:Pos} {T id:String} {r':RM'} (h:Met X T id r') (pa:PlainAttrs T) (slot:PySem.Slot T name id) (hty:typeOf (.builtin id)=pure (.type "method_descriptor")) (ho:PE' X o to) (ha:PA' X (e :: es) t)
    (hbase:attributeBase o name X.env (eval o X.env)=eval o X.env:=by rfl) (hlen:(e :: es).length<30:=by decide)
    (hline:(apos.endLine == cpos.line)=true:=by rfl) :
    PE' X (.Call (.Attribute o name apos) (e :: es) [] cpos) (zbq T r' to t):=by
  obtain ⟨r,hm,l⟩:=h.ex; obtain ⟨p1,p2⟩:=zbd ha.pl
  have hfew:((backTo cpos (starEach (e :: es) X.env)).all (fun x=>!x.1) && (backToKw cpos (keywordEach [] X.env)).all (fun x=>x.1.isSome)
      && decide ((e :: es).length+([]:List Keyword).length+(if ([]:List Keyword).isEmpty then 0 else 1)<30))=true:=by
    have h1:(backTo cpos (starEach (e :: es) X.env)).all (fun x=>!x.1)=true:=by
      rw [List.all_eq_true]; intro y hy
      have:=zbD (pos:=cpos) (env:=X.env) ha.pl
      rw [List.any_eq_false] at this
      simpa using this y hy
    rw [h1,decide_eq_true (by simpa using hlen)]
    rfl
  refine ⟨PE.weak (zj5 pa slot hty hm ho.h ha.pa hbase hfew hline (zaP p1) (zbD p2)) ?_⟩
  rintro σ H Q ⟨W,Hi,Γ,Q',g,h,fin⟩
  refine ⟨W,Hi,Γ,_,g,h,?_⟩
  rintro x H1 ⟨Hi1,dx,Γ1,s1,g1,den1,ty,h1⟩
  refine ⟨zpt g1.sub den1 ty,W,Hi1,Γ1,_,g1,h1,?_⟩; intro vs H2 Hi2 Γ2 ds s2 g2 dl h2; refine l Hi2 H2 x vs dx ds _ _ g2.fz (den1.mono s2) dl h2 ?_; intro Hi3 H3 v d e den q; exact fin v H3 ⟨Hi3,d,Γ2,s1.trans (s2.trans e.hi),g2.ext e,den,q⟩
def zp:TS':=fun N Γ=>N.nx Γ
def zaa (t u:TS'):TS':=fun N Γ=>t { N with nx:=u N } Γ
theorem zaK:PSs' X [] zp:=by
  refine ⟨PSs.weak znY ?_⟩
  rintro N2 σ H ⟨W,Hi,Γ,N,g,h,l⟩
  exact l.nx σ H Hi Γ (za0.refl _) g h
theorem zd {s:Stmt} {zee:List Stmt} {t u:TS'} (h1:PS' X s t) (h2:PSs' X zee u):PSs' X (s :: zee) (zaa t u):=by
  refine ⟨PSs.weak (zly h1.h h2.h) ?_⟩
  rintro N2 σ H ⟨W,Hi,Γ,N,g,h,l⟩
  refine ⟨W,Hi,Γ,_,g,h,?_,l.bk,l.ct,l.rt⟩; intro σ1 H1 Hi1 Γ1 s1 g1 q; exact ⟨W,Hi1,Γ1,N,g1,q,l.mono s1⟩
theorem zi {s:Stmt} {t:TS'} (h1:PS' X s t):PSs' X [s] t:=⟨znX h1.h⟩
def zT (te:TE'):TS':=fun N Γ=>te Γ fun d Γ1=>N.rt (.val d) Γ1
def zD (te:TO'):TS':=fun N Γ=>te Γ fun o Γ1=>N.rt (.own o) Γ1
theorem zR {e:Expr} {te:TE'} (he:PE' X e te):PS' X (.Return (some e) pos) (zT te):=by
  refine ⟨PS.weak (zif he.h) ?_⟩
  rintro N2 σ H ⟨W,Hi,Γ,N,g,h,l⟩
  refine ⟨W,Hi,Γ,_,g,h,?_⟩
  rintro v H1 ⟨Hi1,d,Γ1,s1,g1,den,q⟩
  exact l.rt v σ H1 Hi1 Γ1 (.val d) s1 g1 den q
theorem zlA {e:Expr} {te:TO'} (he:PO' X e te):PS' X (.Return (some e) pos) (zD te):=by
  refine ⟨PS.weak (zif he.h) ?_⟩
  rintro N2 σ H ⟨W,Hi,Γ,N,g,h,l⟩
  refine ⟨W,Hi,Γ,_,g,h,?_⟩; intro a H1 Hi1 Γ1 o s1 g1 nw q; exact l.rt _ σ H1 Hi1 Γ1 (.own o) s1 g1 ⟨a,rfl,nw.hi,nw.h0,nw.own⟩ q
def zC (n i:Nat):TS':=fun N Γ=>i<n∧∃ o,Γ[i]?=some (.own o)∧N.rt (.own o) Γ
theorem zlz (i:Nat) {x:Str} {p:Pos} (hN:X.N[i]?=some x:=by rfl) (hv:Vis X.env.scope x:=by first | exact Or.inl rfl | exact Or.inr (Or.inl rfl) | exact Or.inr (Or.inr rfl)) (hd:(x == ("__debug__":Str))=false:=by decide)
    (hcd:(x == ("__classdict__":Str))=false:=by decide):PS' X (.Return (some (.Name x p)) pos) (zC X.N.length i):=by
  refine ⟨PS.weak (zif (zcX (i:=i) hN hv hd hcd)) ?_⟩
  rintro N2 σ H ⟨W,Hi,Γ,N,g,⟨hi,o,e,q⟩,l⟩
  obtain ⟨a,h1,h2,h3,h4⟩:=g.own i o e; unfold adr at h1; rw [if_pos hi] at h1; exact ⟨.ref a,zdd h1,l.rt _ σ H Hi Γ (.own o) (za0.refl _) g ⟨a,rfl,h2,h3 hi,h4⟩ q⟩
def zU (c:TT') (t u:TS'):TS':=fun N Γ=>c Γ fun b Γ1=>if b=true then t N Γ1 else u N Γ1
theorem zbh {c:Expr} {sa sb:List Stmt} {tc:TT'} {t u:TS'} (hc:PT' X c tc) (ha:PSs' X sa t) (hb:PSs' X sb u):PS' X (.If c sa sb pos) (zU tc t u):=by
  refine ⟨PS.weak (zsk hc.h ha.h hb.h) ?_⟩
  rintro N2 σ H ⟨W,Hi,Γ,N,g,h,l⟩
  refine ⟨W,Hi,Γ,_,g,h,?_⟩; intro k H1 Hi1 Γ1 s1 g1 q
  cases k with
  | true=>exact ⟨W,Hi1,Γ1,N,g1,q,l.mono s1⟩
  | false=>exact ⟨W,Hi1,Γ1,N,g1,q,l.mono s1⟩
def zL (te:TE'):TS':=fun N Γ=>te Γ fun _ Γ1=>N.nx Γ1
def zk (i:Nat):TG':=fun d Γ Q=>Q (Γ.set i (.val d))
theorem zal (i:Nat) {x:Str} (hN:X.N.Nodup) (hi:X.N[i]?=some x:=by rfl) (hx:Loc X.env.scope x:=by first | exact Or.inl rfl | exact Or.inr rfl) (hf:X.fn x=true∨X.env.scope.names.lookup x=some .local:=by first | exact .inl rfl | exact .inr rfl | assumption):PG' X (.Name x pos) (zk i):=by
  refine ⟨PG.weak (zoa (i:=i) hN hi hx hf) ?_⟩
  rintro v σ H Q ⟨W,Hi,Γ,d,Q',g,den,q,fin⟩
  exact fin _ H Hi _ (za0.refl _) (g.set (List.getElem?_eq_some_iff.mp hi).1 den) q
def zW (te:TE') (g:TG'):TS':=fun N Γ=>te Γ fun d Γ1=>g d Γ1 N.nx
theorem zV (i:Nat) {x:Str} {e:Expr} {te:TE'} {pos':Pos} (hN:X.N.Nodup) (he:PE' X e te) (hi:X.N[i]?=some x:=by rfl) (hx:Loc X.env.scope x:=by first | exact Or.inl rfl | exact Or.inr rfl) (hs:swapsWith e (some (.Name x pos')) pos.line X.env=pure false:=by rfl)
    (hf:X.fn x=true∨X.env.scope.names.lookup x=some .local:=by first | exact .inl rfl | exact .inr rfl | assumption):PS' X (.Assign [.Name x pos'] e pos) (zW te (zk i)):=by
  refine ⟨PS.weak (zjT (i:=i) hN hi hx he.h hs hf) ?_⟩
  rintro N2 σ H ⟨W,Hi,Γ,N,g,h,l⟩
  refine ⟨W,Hi,Γ,_,g,h,?_⟩
  rintro v H1 ⟨Hi1,d,Γ1,s1,g1,den,q⟩
  exact l.nx _ H1 Hi1 _ s1 (g1.set (List.getElem?_eq_some_iff.mp hi).1 den) q
def zx (te:TO') (i:Nat):TS':=fun N Γ=>te Γ fun o Γ1=>N.nx (Γ1.set i (.own o))
theorem zbQ (i:Nat) {x:Str} {e:Expr} {te:TO'} {pos':Pos} (hN:X.N.Nodup) (he:PO' X e te) (hi:X.N[i]?=some x:=by rfl) (hx:Loc X.env.scope x:=by first | exact Or.inl rfl | exact Or.inr rfl) (hs:swapsWith e (some (.Name x pos')) pos.line X.env=pure false:=by rfl)
    (hf:X.fn x=true∨X.env.scope.names.lookup x=some .local:=by first | exact .inl rfl | exact .inr rfl | assumption):PS' X (.Assign [.Name x pos'] e pos) (zx te i):=by
  refine ⟨PS.weak (zjT (i:=i) hN hi hx he.h hs hf) ?_⟩
  rintro N2 σ H ⟨W,Hi,Γ,N,g,h,l⟩
  refine ⟨W,Hi,Γ,_,g,h,?_⟩; intro a H1 Hi1 Γ1 o s1 g1 nw q; exact l.nx _ H1 Hi1 _ s1 (g1.setO (List.getElem?_eq_some_iff.mp hi).1 nw.hi nw.h0 nw.ne nw.own) q
def zfv (g:TG') (tb:TS') (N:Ends'):List D→Sts→Prop
  | [],Γ=>N.nx Γ
  | d :: ds,Γ=>g d Γ fun Γ2=>tb { N with nx:=zfv g tb N ds,ct:=zfv g tb N ds,bk:=N.nx } Γ2
def zas (ti:TI') (g:TG') (tb:TS'):TS':=fun N Γ=>ti Γ fun ds Γ1=>zfv g tb N ds Γ1
theorem zbJ {tg iter:Expr} {body:List Stmt} {ti:TI'} {g:TG'} {tb:TS'} (hi:PI' X tg iter ti) (hg:PG' X tg g) (hb:PSs' X body tb) (hp:PassesOwn (model X.prog X.w) X.A X.env X.xe:=by exact PassesOwn.never) (hc:X.calm=true:=by rfl)
    (hs:∀ x,foldedSetIterable iter X.env x=pure x:=by intro _; rfl):PS' X (.For tg iter body [] pos) (zas ti g tb):=by
  refine ⟨PS.weak (zp5 hp hc hi.h hg.h hb.h hs) ?_⟩
  rintro N2 σ H ⟨W,Hi,Γ,N,gd,h,l⟩
  refine ⟨W,Hi,Γ,_,gd,h,?_⟩; intro J H1 Hi1 Γ1 ds s1 g1 itd q
  refine ⟨fun i m σ' H'=>m=ds.length-i∧i≤ds.length∧∃ Hi' Γ',za0 Hi1 Hi'∧Good X.K X.N.length W Hi' Γ' σ' H'∧zfv g tb N (ds.drop i) Γ',⟨ds.length,by simp,Nat.zero_le _,Hi1,Γ1,za0.refl _,g1,by simpa using q⟩,?_⟩
  rintro i m σ' H' ⟨rfl,hi',Hi',Γ',s2,g2,q2⟩
  have wk:=itd Hi' H' s2 g2.fz
  by_cases hlt:i<ds.length
  · have hd:ds.drop i=ds[i] :: ds.drop (i+1):=List.drop_eq_getElem_cons hlt
    rw [hd] at q2; obtain ⟨go,yl⟩:=wk.1 i ds[i] (List.getElem?_eq_getElem hlt)
    refine .inr ⟨go,fun σ3 H3=>∃ Hi3 Γ3,za0 Hi' Hi3∧Good X.K X.N.length W Hi3 Γ3 σ3 H3∧zfv g tb N (ds.drop (i+1)) Γ3,fun σ3 H3 ⟨Hi3,Γ3,s3,g3,q3⟩=>⟨ds.length-(i+1),by omega,rfl,hlt,Hi3,Γ3,s2.trans s3,g3,q3⟩,fun x H'' y=>?_⟩
    obtain ⟨Hi'',ex,den⟩:=yl x H'' y; refine ⟨W,Hi'',Γ',ds[i],_,g2.ext ex,den,q2,?_⟩; intro σ4 H4 Hi4 Γ4 s4 g4 q4
    have sx:za0 Hi' Hi4:=ex.hi.trans s4
    refine ⟨W,Hi4,Γ4,_,g4,q4,?_⟩
    refine ⟨fun σ5 H5 Hi5 Γ5 s5 g5 q5=>⟨Hi5,Γ5,sx.trans s5,g5,q5⟩,fun σ5 H5 Hi5 Γ5 s5 g5 q5=>l.nx σ5 H5 Hi5 Γ5 (s1.trans (s2.trans (sx.trans s5))) g5 q5,fun σ5 H5 Hi5 Γ5 s5 g5 q5=>⟨Hi5,Γ5,sx.trans s5,g5,q5⟩,fun v σ5 H5 Hi5 Γ5 r s5 g5 ro q5=>l.rt v σ5 H5 Hi5 Γ5 r (s1.trans (s2.trans (sx.trans s5))) g5 ro q5⟩
  · have e:i=ds.length:=by omega
    subst e; rw [List.drop_eq_nil_of_le (Nat.le_refl _)] at q2; exact .inl ⟨wk.2,l.nx σ' H' Hi' Γ' (s1.trans s2) g2 q2⟩
theorem zmq {K:PySem.W.Frag} {Hi:Hp} {a:Addr} {vs:List V} {ds:List D} (h:SqL K Hi a vs) (r:zbN K Hi vs ds):ItD K Hi (Itl K a) ds:=by
  intro Hi' H' s1 s2
  have hq:SqL K H' a vs:=zaI (s1.trans s2.sub) h
  refine ⟨fun i d e=>?_,vs,hq,by rw [zf r]; exact Nat.le_refl _⟩
  obtain ⟨v,e1,e2⟩:=zbz r e; refine ⟨⟨vs,v,hq,e1⟩,?_⟩
  rintro x H'' ⟨rfl,y⟩
  have:=y vs hq
  rw [e1] at this; cases this; exact ⟨Hi',Ext.refl s2,e2.mono s1⟩
theorem zoL {K:PySem.W.Frag} {Hi:Hp} {a:Addr} {vs:List V} {ds:List D} (h:SqT K Hi a vs) (r:zbN K Hi vs ds):ItD K Hi (Itt K a) ds:=by
  intro Hi' H' s1 s2
  have hq:SqT K H' a vs:=zaJ (s1.trans s2.sub) h
  refine ⟨fun i d e=>?_,vs,hq,by rw [zf r]; exact Nat.le_refl _⟩
  obtain ⟨v,e1,e2⟩:=zbz r e; refine ⟨⟨vs,v,hq,e1⟩,?_⟩
  rintro x H'' ⟨rfl,y⟩
  have:=y vs hq
  rw [e1] at this; cases this; exact ⟨Hi',Ext.refl s2,e2.mono s1⟩
theorem zoM {K:PySem.W.Frag} {Hi:Hp} (l:List Nat):ItD K Hi (Its l) (l.map fun c=>.str [c]):=by
  intro Hi' H' s1 s2
  refine ⟨fun i d e=>?_,by rw [List.length_map]; rfl⟩
  rw [List.getElem?_map] at e
  cases hc:l[i]? with
  | none=>rw [hc] at e; cases e
  | some c =>
    rw [hc] at e; cases e; refine ⟨(List.getElem?_eq_some_iff.mp hc).1,?_⟩
    rintro x H'' ⟨rfl,c',e',rfl⟩
    rw [hc] at e'; cases e'; exact ⟨Hi',Ext.refl s2,.str [c]⟩
theorem zoN {K:PySem.W.Frag} {Hi:Hp} (lo:Int) (n:Nat):ItD K Hi (Itr lo n) ((List.range n).map fun k=>.int (lo+(k:Nat))):=by
  intro Hi' H' s1 s2
  refine ⟨fun i d e=>?_,by rw [List.length_map,List.length_range]; exact Nat.le_refl _⟩
  rw [List.getElem?_map] at e
  cases hc:(List.range n)[i]? with
  | none=>rw [hc] at e; cases e
  | some c =>
    rw [hc] at e; cases e
    have hi:i<n:=by
      have:=(List.getElem?_eq_some_iff.mp hc).1
      rwa [List.length_range] at this
    have ec:c=i:=by
      rw [List.getElem?_range hi] at hc; exact (Option.some.inj hc).symm
    subst ec; refine ⟨hi,?_⟩
    rintro x H'' ⟨rfl,rfl⟩
    exact ⟨Hi',Ext.refl s2,.int _⟩
def znK:D→Option (List D)
  | .lst ds=>some ds
  | .tup ds=>some ds
  | .str l=>some (l.map fun c=>.str [c])
  | _=>none
def zac (t:TE'):TI':=fun Γ Q=>t Γ fun d Γ1=>∃ ds,znK d=some ds∧Q ds Γ1
theorem zn7 {l tg:Expr} {tl:TE} (hl:PE X l tl):PI X tg l (fun σ H R=>tl σ H fun x H1=>(∃ a,x=.ref a∧(∃ xs,SqL X.K H1 a xs)∧R (Itl X.K a) H1)∨(∃ a,x=.ref a∧(∃ xs,SqT X.K H1 a xs)∧R (Itt X.K a) H1)∨(∃ z,x=.str z∧R (Its z.cps.toList) H1)):=by
  intro pins s σ H R I h
  refine thn (hl pins s σ H _ I h) fun v s1 ⟨x,H1,I1,r1,q1⟩=>?_
  have fin:∀ b ∈ [s1.heap.objs.size],zh1 X pins H1 b:=fun b hb=>by
    have e:b=s1.heap.objs.size:=by simpa using hb
    subst e; exact I1.fpOk (Nat.le_refl _) (I1.hok.fresh (Nat.le_refl _))
  rcases q1 with ⟨a,rfl,⟨xs,hq⟩,q⟩ | ⟨a,rfl,⟨xs,hq⟩,q⟩ | ⟨z,rfl,q⟩
  · cases r1
    obtain ⟨its,rv,p,hz⟩:=I1.list hq; refine wpAny_pyIter_list p.isList ?_
    exact ⟨s1.heap.objs.size,[s1.heap.objs.size],_,_,H1,rfl,I1.kept (t':=s1.toks) fun b o e=>Heap.get?_push_of_some _ e,zjs a _,⟨_,Heap.get?_push_size _ rfl,rfl,rfl⟩,fin,q⟩
  · cases r1
    obtain ⟨its,rv,p,hz⟩:=I1.tuple hq
    refine wpAny_pyIter_tuple (show s1.heap.IsTuple a its.toArray from p) ?_
    exact ⟨s1.heap.objs.size,[s1.heap.objs.size],_,_,H1,rfl,I1.kept (t':=s1.toks) fun b o e=>Heap.get?_push_of_some _ e,ziO a _,⟨_,Heap.get?_push_size _ rfl,rfl,rfl⟩,fin,q⟩
  · obtain ⟨t,rfl⟩:=r1
    cases ha:z.cps.all (·<128)
    · refine wpAny_pyIter_wide ha ?_
      exact ⟨s1.heap.objs.size,[s1.heap.objs.size],_,_,H1,rfl,I1.kept (t':=s1.toks) fun b o e=>Heap.get?_push_of_some _ e,zh4 z t _ (.inr rfl),⟨_,Heap.get?_push_size _ rfl,rfl,rfl⟩,fin,q⟩
    · refine wpAny_pyIter_ascii ha ?_
      exact ⟨s1.heap.objs.size,[s1.heap.objs.size],_,_,H1,rfl,I1.kept (t':=s1.toks) fun b o e=>Heap.get?_push_of_some _ e,zh4 z t _ (.inl rfl),⟨_,Heap.get?_push_size _ rfl,rfl,rfl⟩,fin,q⟩
theorem zaV {l tg:Expr} {t:TE'} (hl:PE' X l t):PI' X tg l (zac t):=by
  refine ⟨PI.weak (zn7 hl.h) ?_⟩
  rintro σ H R ⟨W,Hi,Γ,Q',g,h,fin⟩
  refine ⟨W,Hi,Γ,_,g,h,?_⟩
  rintro v H1 ⟨Hi1,d,Γ1,s1,g1,den,ds,e,q⟩
  cases d with
  | lst es =>
    cases e; obtain ⟨a,vs,rfl,h1,h2⟩:=den.lstI; exact .inl ⟨a,rfl,⟨vs,zaI g1.sub h1⟩,fin _ H1 Hi1 Γ1 _ s1 g1 (zmq h1 h2) q⟩
  | tup es =>
    cases e; obtain ⟨a,vs,rfl,h1,h2⟩:=den.tupI; exact .inr (.inl ⟨a,rfl,⟨vs,zaJ g1.sub h1⟩,fin _ H1 Hi1 Γ1 _ s1 g1 (zoL h1 h2) q⟩)
  | str l =>
    cases e; refine .inr (.inr ⟨_,den.strI,?_⟩); rw [zaM]; exact fin _ H1 Hi1 Γ1 _ s1 g1 (zoM l) q
  | _=>cases e
def zG (t:TA'):TI':=fun Γ Q=>t Γ fun ds Γ1=>∃ j:Int,ds=[.int j]∧-(2 ^ 62)≤j∧j<2 ^ 62∧Q ((List.range j.toNat).map fun k=>.int (0+(k:Nat))) Γ1
theorem zdG {K:PySem.W.Frag} {H:Hp} {vs:List V} {d:D} (h:zbN K H vs [d]):∃ v,vs=[v]∧Den K H v d:=by
  cases h with
  | cons r t=>cases t; exact ⟨_,rfl,r⟩
theorem zoZ {K:PySem.W.Frag} {H:Hp} {vs:List V} {d e:D} (h:zbN K H vs [d,e]):∃ v w,vs=[v,w]∧Den K H v d∧Den K H w e:=by
  cases h with
  | cons r t =>
    obtain ⟨w,rfl,q⟩:=zdG t; exact ⟨_,w,rfl,r,q⟩
theorem zff {a tg:Expr} {t:TA'} {p pos:Pos} (hm:X.mg "range"=none) (ha:PA' X [a] t) (hg:Gl X "range":=by rfl):PI' X tg (.Call (.Name "range" p) [a] [] pos) (zG t):=by
  refine ⟨PI.weak (zj0 hg hm ha.pa (zaP (zbd ha.pl).1)) ?_⟩
  rintro σ H R ⟨W,Hi,Γ,Q',g,h,fin⟩
  refine ⟨W,Hi,Γ,_,g,h,?_⟩
  rintro vs H1 Hi1 Γ1 ds s1 g1 dl ⟨j,rfl,b1,b2,q⟩
  obtain ⟨v,rfl,den⟩:=zdG dl; rw [den.intI]; exact ⟨j,rfl,b1,b2,fin _ H1 Hi1 Γ1 _ s1 g1 (zoN 0 _) q⟩
def zlc (src:List (Option Nat)) (Γ:Sts):Sts:=src.map fun o=>match o with
  | none=>.emp
  | some i=>match Γ[i]? with
    | some (.val d)=>.val d
    | _=>.emp
def voS:Slot→Slot
  | .val d=>.val d
  | _=>.emp
def vo (Γ:Sts):Sts:=Γ.map voS
def zbO (g:TG') (tc:TT') (te:TE') (Q:List D→Prop):List D→List D→Sts→Prop
  | [],acc,_=>Q acc
  | d :: ds,acc,Γ=>g d Γ fun Γ2=>tc Γ2 fun b Γ3=>if b=true then te Γ3 fun y Γ4=>zbO g tc te Q ds (acc ++ [y]) (vo Γ4) else zbO g tc te Q ds acc (vo Γ3)
def zw (ti:TI') (src:List (Option Nat)) (g:TG') (tc:TT') (te:TE'):TO':=fun Γ Q=>ti Γ fun ds Γ1=>ds.length≤sizeLine∧zbO g tc te (fun acc=>Q (.lst acc) Γ1) ds [] (zlc src Γ1)
structure PTs' (X:Cx) (ifs:List Expr) (t:TT'):Prop where
  h:PTs X ifs (zpd X.K X.N.length t)
def za8:TT':=fun Γ Q=>Q true Γ
theorem zcg:PTs' X [] za8:=by
  refine ⟨?_⟩; intro pins s σ H Q I h; obtain ⟨W,Hi,Γ,Q',g,h,fin⟩:=h; exact znV pins s σ H Q I (fin true H Hi Γ (za0.refl _) g h)
theorem zeh {c:Expr} {t:TT'} (h:PT' X c t):PTs' X [c] t:=⟨znU h.h⟩
theorem zdW {elt tg iter:Expr} {ifs:List Expr} {sc fsc:Scope} {ti:TI'} {g:TG'} {tc:TT'} {te:TE'} {N N':List Str} {src:List (Option Nat)} (B:Blk N N' src fsc sc) (hi:PI' X tg iter ti)
    (hg:∀ cl C s H fp pn,PG' (blk X N' sc cl C s H fp pn) tg g) (ht:∀ cl C s H fp pn,PTs' (blk X N' sc cl C s H fp pn) ifs tc) (he:∀ cl C s H fp pn,PE' (blk X N' sc cl C s H fp pn) elt te)
    (hx:X.xe=(fun _ _=>False):=by rfl) (hc:X.calm=true:=by rfl) (hN:X.N=N:=by rfl) (hs:X.env.scope=fsc:=by rfl)
    (hf:∀ x,foldedSetIterable iter X.env x=pure x:=by intro _; rfl):PO' X (.ListComp elt [⟨tg,iter,ifs,0⟩] sc pos) (zw ti src g tc te):=by
  refine ⟨PE.weak (zob (g:=gOf X.K N'.length g) (tc:=zpd X.K N'.length tc) (te:=tOf X.K N'.length te) B hi.h (fun a b c d e f=>(hg a b c d e f).h) (fun a b c d e f=>(ht a b c d e f).h) (fun a b c d e f=>(he a b c d e f).h) hx hc hN hs hf) ?_⟩
  rintro σ H Q2 ⟨W,Hi,Γ,Q,gd,h,fin⟩
  refine ⟨W,Hi,Γ,_,gd,h,?_⟩
  rintro J H1 Hi1 Γ1 ds s1 g1 itd ⟨hlen,q⟩
  intro A hA
  -- the state between two turns
  have hn':src.length=N'.length:=B.len
  refine zgP (n:=ds.length) (fun i σ' H'=>∃ Hi' acc vs Γ',za0 Hi1 Hi'∧Fz Hi' H'∧(∀ b o,H1 b=some o→H' b=some o)∧(∀ b o,H1 b=some o→Hi' b=Hi1 b)∧Hi' A=none∧H' A=some (.lst vs)∧zbN X.K Hi' vs acc∧vs.length≤i∧σ'.length=N'.length ∧
      (∀ (j:Nat) s,Γ'[j]?=some s→s=.emp∨∃ d,s=.val d∧∃ v,σ'[j]?=some (some v)∧Den X.K Hi' v d)∧zbO g tc te (fun acc=>Q (.lst acc) Γ1) (ds.drop i) acc Γ') ?_ ?_ ?_
  · refine ⟨Hi1,[],[],zlc src Γ1,za0.refl _,(Ext.newO g1.fz hA _ (fun _ z=>by cases z)).fz,fun b o e=>za4 hA _ b o e,fun b o e=>rfl,g1.sub.free hA,zO,.nil,Nat.zero_le _,?_,fun j s e=>?_,by simpa using q⟩
    · unfold zlq; rw [List.length_map,hn']
    · unfold zlc at e
      rw [List.getElem?_map] at e
      cases hj:src[j]? with
      | none=>rw [hj] at e; cases e
      | some o =>
        rw [hj] at e
        cases o with
        | none=>cases e; exact .inl rfl
        | some i =>
          have e':(match Γ1[i]? with | some (.val d)=>Slot.val d | _=>.emp)=s:=Option.some.inj e
          cases hΓ:Γ1[i]? with
          | none=>rw [hΓ] at e'; exact .inl e'.symm
          | some sl =>
            rw [hΓ] at e'
            cases sl with
            | val d =>
              refine .inr ⟨d,e'.symm,?_⟩; obtain ⟨v,h1,h2⟩:=g1.val i d hΓ; refine ⟨v,?_,h2⟩; unfold zlq; rw [List.getElem?_map,hj]
              show some ((some i).bind fun i=>(σ[i]?).join)=some (some v)
              show some ((σ[i]?).join)=some (some v)
              rw [h1]; rfl
            | emp=>exact .inl e'.symm
            | own o=>exact .inl e'.symm
            | bk _ _ _=>exact .inl e'.symm
  · rintro i σ' H' hlt ⟨Hi',acc,vs,Γ',s2,s3,k1,k2,hA1,hA2,dl,hv,hl,hsl,q⟩
    have hd:ds.drop i=ds[i] :: ds.drop (i+1):=List.drop_eq_getElem_cons hlt
    rw [hd] at q; obtain ⟨go,yl⟩:=(itd Hi' H' s2 s3).1 i ds[i] (List.getElem?_eq_getElem hlt)
    refine ⟨go,fun x H'' y=>?_⟩
    obtain ⟨Hi'',ex,den⟩:=yl x H'' y
    have gb:Good X.K N'.length ⟨H'',Hi'',[]⟩ Hi'' Γ' σ' H'':=by
      refine ⟨hl,ex.fz,fun b o e _=>e,fun b o e=>⟨o,e⟩,fun b o e=>rfl,fun j d e=>?_,fun j o e=>?_,fun j k o o' b e=>?_,fun j d b xs e=>?_⟩
      · rcases hsl j _ e with z | ⟨d',z,v,h1,h2⟩
        · cases z
        · cases z; exact ⟨v,h1,h2.mono ex.hi⟩
      · rcases hsl j _ e with z | ⟨d',z,_⟩ <;> cases z
      · rcases hsl j _ e with z | ⟨d',z,_⟩ <;> cases z
      · rcases hsl j _ e with z | ⟨d',z,_⟩ <;> cases z
    refine ⟨⟨H'',Hi'',[]⟩,Hi'',Γ',ds[i],_,gb,den,q,?_⟩; intro σ3 H3 Hi3 Γ3 s4 g3 q3; refine ⟨⟨H'',Hi'',[]⟩,Hi3,Γ3,_,g3,q3,?_⟩; intro b H4 Hi4 Γ4 s5 g4 q4
    -- what the state is behind a turn
    have back:∀ {Γ5:Sts} {Hi5 H5:Hp},za0 Hi4 Hi5→Good X.K N'.length ⟨H'',Hi'',[]⟩ Hi5 Γ5 σ3 H5 →
        za0 Hi1 Hi5∧Fz Hi5 H5∧(∀ b o,H1 b=some o→H5 b=some o)∧(∀ b o,H1 b=some o→Hi5 b=Hi1 b)∧Hi5 A=none∧H5 A=some (.lst vs)∧za0 Hi' Hi5:=fun {Γ5 Hi5 H5} s6 g5=>by
      have sx:za0 Hi' Hi5:=ex.hi.trans (s4.trans (s5.trans s6))
      have hA3:H'' A=some (.lst vs):=ex.h _ _ hA2
      refine ⟨s2.trans sx,g5.fz,fun b o e=>g5.keep b o (ex.h _ _ (k1 b o e)) (by simp),fun b o e=>?_,?_,g5.keep A _ hA3 (by simp),sx⟩
      · rw [g5.fro b o (ex.h _ _ (k1 b o e))]
        show Hi'' b=Hi1 b
        rw [ex.fro b o (k1 b o e),k2 b o e]
      · rw [g5.fro A _ hA3]
        show Hi'' A=none
        rw [ex.fro A _ hA2,hA1]
    have sl:∀ {Γ5:Sts} {Hi5 H5:Hp},Good X.K N'.length ⟨H'',Hi'',[]⟩ Hi5 Γ5 σ3 H5→∀ (j:Nat) s,(vo Γ5)[j]?=some s→s=.emp∨∃ d,s=.val d∧∃ v,σ3[j]?=some (some v)∧Den X.K Hi5 v d:=fun {Γ5 Hi5 H5} g5 j s e=>by
      unfold vo at e; rw [List.getElem?_map] at e
      cases hj:Γ5[j]? with
      | none=>rw [hj] at e; cases e
      | some sl =>
        rw [hj] at e
        cases sl with
        | val d =>
          cases e; exact .inr ⟨d,rfl,g5.val j d hj⟩
        | emp=>cases e; exact .inl rfl
        | own o=>cases e; exact .inl rfl
        | bk _ _ _=>cases e; exact .inl rfl
    cases b with
    | false =>
      simp only [Bool.false_eq_true,if_false] at q4 ⊢; obtain ⟨b1,b2,b3,b4,b5,b6,b7⟩:=back (za0.refl _) g4
      exact ⟨Hi4,acc,vs,vo Γ4,b1,b2,b3,b4,b5,b6,dl.mono b7,by omega,g4.len,sl g4,q4⟩
    | true =>
      simp only [if_true] at q4 ⊢; refine ⟨⟨H'',Hi'',[]⟩,Hi4,Γ4,_,g4,q4,?_⟩
      rintro y' H5 ⟨Hi5,dy,Γ5,s6,g5,den5,q5⟩
      obtain ⟨b1,b2,b3,b4,b5,b6,b7⟩:=back s6 g5
      refine ⟨vs,b6,by omega,Hi5,acc ++ [dy],vs ++ [y'],vo Γ5,b1,?_,?_,b4,b5,zO,zaU (dl.mono b7) (.cons den5 .nil),by rw [List.length_append]; simp; omega,g5.len,sl g5,q5⟩
      · refine ⟨fun b o e=>?_,fun b xs e=>?_⟩
        · rw [zaD (fun z=>by rw [z,b5] at e; cases e)]
          exact b2.sub b o e
        · by_cases hb:b=A
          · subst hb; rw [zO] at e; cases e
          · rw [zaD hb] at e; exact b2.tups b xs e
      · intro b o e
        rw [zaD (zbf e hA)]; exact b3 b o e
  · rintro σ' H' ⟨Hi',acc,vs,Γ',s2,s3,k1,k2,hA1,hA2,dl,hv,hl,hsl,q⟩
    refine ⟨(itd Hi' H' s2 s3).2,?_⟩; rw [List.drop_eq_nil_of_le (Nat.le_refl _)] at q
    have ex:Ext Hi1 H1 Hi' H':=⟨s2,k1,s3,k2⟩
    refine fin A H' Hi' Γ1 (.lst acc) (s1.trans s2) (g1.ext ex) ⟨hA1,?_,⟨fun j o' e z=>?_,fun j d xs e=>?_⟩,vs,hA2,dl⟩ q
    · cases hq:W.H₀ A with
      | none=>rfl
      | some w =>
        obtain ⟨w',hw⟩:=g1.there A w hq
        rw [hA] at hw; cases hw
    · obtain ⟨a,h1,_,_,h4⟩:=g1.own j o' e
      rw [z] at h1; cases h1; obtain ⟨w,hw⟩:=h4.there
      rw [hA] at hw; cases hw
    · obtain ⟨w,hw⟩:=(g1.bk j d A xs e).at_.there
      rw [hA] at hw; cases hw
abbrev Sp':=List D→(Res→Prop)→Prop
def zll (K:PySem.W.Frag) (sp:Sp'):Sp:=fun vs H Q2 _=>∃ Hi ds Q,Fz Hi H∧zbN K Hi vs ds∧sp ds Q∧∀ Hi' H' v r,Ext Hi H Hi' H'→zo8 K H Hi' H' v r→Q r→Q2 v H'
def zu (sp:Sp') (t:TA'):TE':=fun Γ Q=>t Γ fun ds Γ1=>sp ds fun r=>Q r.toD Γ1
def zo (sp:Sp') (t:TA'):TO':=fun Γ Q=>t Γ fun ds Γ1=>sp ds fun r=>∃ o,r=.own o∧Q o Γ1
variable {k:Nat} {f:Addr} {fd:FuncData} {ps:List Str} {sp:Sp'} {x:Str} {p:Pos} {e:Expr} {es:List Expr} {t:TA'}
theorem zef {K:PySem.W.Frag} {n:Nat} {W:Wd} {Hi H Hi' H':Hp} {Γ:Sts} {σ:St} {a:Addr} {o:OD} (g:Good K n W Hi Γ σ H) (ex:Ext Hi H Hi' H') (h1:Hi' a=none) (h2:H a=none) (h3:zbF K Hi' H' a o):New K n W Hi' Γ σ H' a o:=by
  refine ⟨h1,?_,⟨fun j o' e z=>?_,fun j d xs e=>?_⟩,h3⟩
  · cases q:W.H₀ a with
    | none=>rfl
    | some w =>
      obtain ⟨w',hw⟩:=g.there a w q
      rw [h2] at hw; cases hw
  · obtain ⟨b,q1,_,_,q4⟩:=g.own j o' e
    rw [z] at q1; cases q1; obtain ⟨w,hw⟩:=q4.there
    rw [h2] at hw; cases hw
  · obtain ⟨w,hw⟩:=(g.bk j d a xs e).at_.there
    rw [h2] at hw; cases hw
theorem zlL (F:FnOk X.prog X.w X.K X.mg X.base CX0 k f fd ps (zll X.K sp)) (hr:Room k X.A) (hm:X.mg x=some (.ref f)) (hk:PySem.W.keepIn X.K (.ref f)=true) (hb:zdL X.K fd ps [])
    (ha:PA' X (e :: es) t) (hg:Gl X x:=by rfl) (hdb:(x == ("__debug__":Str))=false:=by decide) :
    PE' X (.Call (.Name x p) (e :: es) [] pos) (zu sp t):=by
  refine ⟨PE.weak (zhk (E:=E0) (dvs:=[]) F hr hg hm hk hb .nil zoe ha.pa hdb (zaP (zbd ha.pl).1) (zbD (zbd ha.pl).2)) ?_⟩
  rintro σ H Q ⟨W,Hi,Γ,Q',g,h,fin⟩
  refine ⟨W,Hi,Γ,_,g,h,?_⟩; intro vs H1 Hi1 Γ1 ds s1 g1 dl q; rw [List.append_nil]; refine ⟨Hi1,ds,_,g1.fz,dl,q,?_⟩; intro Hi2 H2 v r ex ro q2
  cases r with
  | val d=>exact fin v H2 ⟨Hi2,d,Γ1,s1.trans ex.hi,g1.ext ex,ro,q2⟩
  | own o =>
    obtain ⟨a,rfl,h1,h2,h3⟩:=ro; have nw:=zef g1 ex h1 h2 h3; obtain ⟨u,hu⟩:=h3.there; exact fin _ H2 ⟨upd Hi2 a u,_,Γ1,s1.trans (ex.hi.trans (za4 h1 u)),(g1.ext ex).freezeA nw.hi nw.h0 nw.ne hu,h3.den h1 hu,q2⟩
  | bk d o =>
    obtain ⟨b,dv,hol,h1,h2,h3⟩:=ro; have nw:=zef g1 ex h1 h2 h3; obtain ⟨u,hu⟩:=h3.there; exact fin _ H2 ⟨upd Hi2 b u,_,Γ1,s1.trans (ex.hi.trans (za4 h1 u)),(g1.ext ex).freezeA nw.hi nw.h0 nw.ne hu,hol b _ v o (h3.den h1 hu) (dv.mono (za4 h1 u)),q2⟩
end
def zgk (N:List Str) (ds:List D):Sts:=ds.map .val ++ List.replicate (N.length-ds.length) .emp
section
variable {P:Program} {w:World} {K:PySem.W.Frag} {mg:Str→Option Value} {base:Heap}
theorem Fun.ok' {x qual:Str} {st:Stmt} {f:Addr} {fd:FuncData} {N ps:List Str} {k:Nat} {sp:Sp'} (F:Fun K x qual st f fd) (S:FnScope N ps (zj st)) (len:∀ ds Q,sp ds Q→ds.length=ps.length)
    (hbody:∀ (cdv:Value) (A:Around) (outer:List Env) (s:Shared) (H:Hp) (E:XK),Room k (A.deeper (PyProof.Rows.envOfC qual (zj st) s.heap.objs.size f cdv))→∀ ds Q,sp ds Q →
      ∃ t,PSs' (zjo CX0 P w K mg base N qual (zj st) f cdv A outer s H E).nox (zbL st) t∧t { nx:=fun _=>Q (.val .non),rt:=fun r _=>Q r } (zgk N ds)):FnOk P w K mg base CX0 (k+1) f fd ps (zll K sp):=by
  refine F.ok S (fun vs H Q E h=>?_) (fun cdv A outer s H vs Q E hr h=>?_)
  · obtain ⟨Hi,ds,Q',_,dl,h,_⟩:=h
    rw [zf dl]; exact len ds Q' h
  obtain ⟨Hi,ds,Q',sb,dl,h,fin⟩:=h; obtain ⟨t,h1,h2⟩:=hbody cdv A outer s H E hr ds Q' h
  have hlen:ds.length=ps.length:=len ds Q' h
  have hpl:ps.length≤N.length:=by have:=congrArg List.length S.pre; rw [List.length_take] at this; omega
  have hvl:=zf dl; refine ⟨_,h1.h,⟨H,Hi,[]⟩,Hi,zgk N ds,_,?_,h2,?_⟩
  · refine ⟨?_,sb,fun b o e _=>e,fun b o e=>⟨o,e⟩,fun b o e=>rfl,fun j d e=>?_,fun j o e=>?_,fun j k o o' b e=>?_,fun j d b xs e=>?_⟩
    · unfold L2.start
      show _=N.length
      rw [List.length_append,List.length_map,List.length_replicate]; omega
    all_goals
      unfold zgk at e
      by_cases hj:j<ds.length
      · rw [List.getElem?_append_left (by simpa using hj),List.getElem?_map,List.getElem?_eq_getElem hj] at e
        try cases e
        try
          obtain ⟨v,e1,e2⟩:=zbz dl (List.getElem?_eq_getElem hj); refine ⟨v,?_,e2⟩; unfold L2.start
          rw [List.getElem?_append_left (by rw [List.length_map]; omega),List.getElem?_map,e1]
          rfl
      · rw [List.getElem?_append_right (by simpa using hj),List.getElem?_replicate] at e
        split at e <;> cases e
  · refine ⟨fun σ' H' Hi' Γ' s1 g1 q=>?_,fun _ _ _ _ _ _ q=>q.elim,fun _ _ _ _ _ _ q=>q.elim,fun v σ' H' Hi' Γ' r s1 g1 ro q=>?_⟩
    · exact fin Hi' H' .non (.val .non) ⟨s1,fun b o e=>g1.keep b o e (by simp),g1.fz,fun b o e=>g1.fro b o e⟩ .non q
    · exact fin Hi' H' v r ⟨s1,fun b o e=>g1.keep b o e (by simp),g1.fz,fun b o e=>g1.fro b o e⟩ ro q
end
end PL
namespace L2
open PySem PySem.Spec PyProof.Rows
section
variable {X:Cx}
theorem zjF (r:Addr) (a b:Int) (t u v:Tok) (i:Int) (t':Tok):Meets (Builtin.«range.__contains__» ⟨[.ref r,.int i t'],[]⟩) (fun _ R s=>s.heap.get? r=some { cls:=.type "range",dict:=none,data:=.fields #[.int a t,.int b u,.int 1 v],slots:=#[] } ∧
    R (.ok (.ret (.bool (Builtin.Range.rangePlace? a b 1 i).isSome))) s) :=
  .of_wp fun prog w A R s h=>by obtain ⟨hp,g,d,tk,os⟩:=s; obtain ⟨hl,h⟩:=h; wp_walk; exact ⟨_,rfl,h⟩
theorem zi2 (a b i:Int):(Builtin.Range.rangePlace? a b 1 i).isSome=decide (a≤i∧i<b):=by
  unfold Builtin.Range.rangePlace?
  have h1:(1:Int) > 0:=by decide
  have h2:(i-a) % 1=0:=Int.emod_one _
  simp only [h1,if_true,h2,beq_self_eq_true,Bool.and_true]
  by_cases h:a≤i∧i<b
  · have e:(decide (a≤i) && decide (i<b))=true:=by simp [h.1,h.2]
    rw [if_pos e,decide_eq_true h]; rfl
  · have e:¬ (decide (a≤i) && decide (i<b))=true:=by
      intro z; simp only [Bool.and_eq_true,decide_eq_true_eq] at z; exact h z
    rw [if_neg e,decide_eq_false h]; rfl
def ztQ (neg:Bool):R2:=fun x y H Q=>∃ i p lo hi,x=.int i∧y=.ref p∧Rd H p (.rng lo hi)∧Q (.bl (if neg then !decide (lo≤i∧i<hi) else decide (lo≤i∧i<hi))) H
theorem zgx:OpR X (compareOp .NotIn) (ztQ true):=by
  intro pins s σ H x y v u Q I rx ry h; obtain ⟨i,p,lo,hi,rfl,rfl,hp,q⟩:=h; obtain ⟨t,rfl⟩:=rx; cases ry; obtain ⟨t1,t2,t3,e⟩:=hp.ok I.hok; refine PySem.SeqRoads2.notIn_meets ⟨_,e,rfl⟩ F.slot_range_contains F.entry_range_contains (F.args_range_contains_2 _ _) (zjF p lo hi t1 t2 t3 i t) ⟨e,_,rfl,⟨.bl _,H,I,rfl,?_⟩⟩; rw [zi2]; exact q
def zrg (K:PySem.W.Frag) (H:Hp):V→String→Prop
  | .non,t=>t="NoneType"
  | .bl _,t=>t="bool"
  | .int _,t=>t="int"
  | .str _,t=>t="str"
  | .ref a,t=>(t="list"∧∃ xs,SqL K H a xs)∨(t="tuple"∧∃ xs,SqT K H a xs)∨(t="dict"∧((∃ kvs,Rd H a (.dK kvs))∨∃ kvs,Rd H a (.dT kvs)))
  | _,_=>False
end
end L2
namespace PL
open PySem L2
section
variable {X:Cx} {K:PySem.W.Frag}
theorem zhD {g:Int→Int→V} (g':Int→Int→D) (hg:∀ i j Hi,Den K Hi (g i j) (g' i j)):zh0 K (rI0 g) (fun x y Q=>∃ i j,x=.int i∧y=.int j∧Q (g' i j)):=by
  rintro Hi H x y dx dy Q Q2 s d1 d2 ⟨i,j,rfl,rfl,q⟩ fin
  exact ⟨i,j,d1.intI,d2.intI,fin Hi H _ _ (Ext.refl s) (hg i j Hi) q⟩
theorem zir {C:Int→Int→Prop} {g:Int→Int→V} (g':Int→Int→D) (hg:∀ i j Hi,Den K Hi (g i j) (g' i j)):zh0 K (rI C g) (fun x y Q=>∃ i j,x=.int i∧y=.int j∧C i j∧Q (g' i j)):=by
  rintro Hi H x y dx dy Q Q2 s d1 d2 ⟨i,j,rfl,rfl,c,q⟩ fin
  exact ⟨i,j,d1.intI,d2.intI,c,fin Hi H _ _ (Ext.refl s) (hg i j Hi) q⟩
def zpW (g:Int→Int→D):R2':=fun x y Q=>∃ i j,x=.int i∧y=.int j∧Q (g i j)
def rI' (C:Int→Int→Prop) (g:Int→Int→D):R2':=fun x y Q=>∃ i j,x=.int i∧y=.int j∧C i j∧Q (g i j)
theorem zsA:Op2 X (binaryOp .Add) (zpW fun i j=>.int (i+j)):=⟨_,zqr,zhD _ fun i j _=>.int _⟩
theorem zsu:Op2 X (binaryOp .Sub) (zpW fun i j=>.int (i-j)):=⟨_,zql,zhD _ fun i j _=>.int _⟩
theorem zsw:Op2 X (binaryOp .Mult) (rI' ziM fun i j=>.int (i * j)):=⟨_,zqn,zir _ fun i j _=>.int _⟩
theorem zb9:Op2 X (binaryOp .FloorDiv) (rI' zfw fun i j=>.int (i / j)):=⟨_,zoj,zir _ fun i j _=>.int _⟩
theorem zcd:Op2 X (binaryOp .Mod) (rI' (fun _ j=>0<j) fun i j=>.int (i % j)):=⟨_,zqo,zir _ fun i j _=>.int _⟩
theorem zsx:Op2 X (compareOp .Lt) (zpW fun i j=>.bl (decide (i<j))):=⟨_,zss,zhD _ fun i j _=>.bl _⟩
def zhf:R2':=fun x y Q=>∃ l m,x=.str l∧y=.str m∧l.length+m.length≤sizeLine∧Q (.str (l ++ m))
theorem zqw:Op2 X (binaryOp .Add) zhf:=⟨_,zi4,by
  rintro Hi H x y dx dy Q Q2 s d1 d2 ⟨l,m,rfl,rfl,hl,q⟩ fin
  refine ⟨_,_,d1.strI,d2.strI,by rw [zbA,zbA]; exact hl,?_⟩
  rw [zpC]; exact fin Hi H _ _ (Ext.refl s) (.str _) q⟩
def eqS:D→D→Option Bool
  | .non,.non=>some true
  | .non,.int _=>some false
  | .non,.bl _=>some false
  | .non,.str _=>some false
  | .int _,.non=>some false
  | .bl _,.non=>some false
  | .str _,.non=>some false
  | .int i,.int j=>some (decide (i=j))
  | .bl i,.bl j=>some (decide (i=j))
  | .str i,.str j=>some (decide (i=j))
  | .int _,.str _=>some false
  | .str _,.int _=>some false
  | .bl _,.str _=>some false
  | .str _,.bl _=>some false
  | _,_=>none
theorem znh {Hi:Hp} {x y:V} {dx dy:D} {b:Bool} (d1:Den K Hi x dx) (d2:Den K Hi y dy) (h:eqS dx dy=some b):znL x y=true∧decide (x=y)=b:=by
  cases d1 <;> cases d2 <;> first
    | (exact absurd (show (none:Option Bool)=some b from h) (fun z=>nomatch z))
    | (refine ⟨rfl,?_⟩
       have h':=Option.some.inj h
       subst h'
       first
         | rfl
         | (exact decide_eq_decide.mpr ⟨fun z=>V.int.inj z,fun z=>congrArg V.int z⟩)
         | (exact decide_eq_decide.mpr ⟨fun z=>V.bl.inj z,fun z=>congrArg V.bl z⟩)
         | (exact decide_eq_decide.mpr ⟨fun z=>st_inj (V.str.inj z),fun z=>congrArg (fun l=>V.str (st l)) z⟩)
         | (exact decide_eq_false (fun z=>nomatch z)))
def zrz (neg:Bool):R2':=fun x y Q=>∃ c l,x=.str [c]∧y=.str l∧Q (.bl (if neg then !decide (c ∈ l) else decide (c ∈ l)))
theorem zlP:Op2 X (compareOp .NotIn) (zrz true):=⟨_,zgv,by
  rintro Hi H x y dx dy Q Q2 s d1 d2 ⟨c,l,rfl,rfl,q⟩ fin
  refine ⟨_,_,d1.strI,d2.strI,?_⟩; rw [zqO]; exact fin Hi H _ _ (Ext.refl s) (.bl _) q⟩
def zlx (neg:Bool):R2':=fun x y Q=>∃ i lo hi,x=.int i∧y=.rng lo hi∧Q (.bl (if neg then !decide (lo≤i∧i<hi) else decide (lo≤i∧i<hi)))
theorem zlQ:Op2 X (compareOp .NotIn) (zlx true):=⟨_,zgx,by
  rintro Hi H x y dx dy Q Q2 s d1 d2 ⟨i,lo,hi,rfl,rfl,q⟩ fin
  cases d2 with
  | rng h=>exact ⟨i,_,lo,hi,d1.intI,rfl,zcH s.sub h,fin Hi H _ _ (Ext.refl s) (.bl _) q⟩⟩
def zjN (neg:Bool):R2':=fun x y Q=>y=.non∧∃ b:Bool,(b=true↔x=.non)∧Q (.bl (if neg then !b else b))
theorem zsy:Op2 X (compareOp .Is) (zjN false):=⟨_,zqp,by
  rintro Hi H x y dx dy Q Q2 s d1 d2 ⟨rfl,b,e,q⟩ fin
  refine ⟨d2.nonI,?_⟩
  have z:decide (x=.non)=b:=by
    rw [Bool.eq_iff_iff,e,decide_eq_true_eq]; exact d1.non_iff
  rw [z]; exact fin Hi H _ _ (Ext.refl s) (.bl _) q⟩
theorem zin:Op2 X (compareOp .IsNot) (zjN true):=⟨_,zoh,by
  rintro Hi H x y dx dy Q Q2 s d1 d2 ⟨rfl,b,e,q⟩ fin
  refine ⟨d2.nonI,?_⟩
  have z:decide (x=.non)=b:=by
    rw [Bool.eq_iff_iff,e,decide_eq_true_eq]; exact d1.non_iff
  rw [z]; exact fin Hi H _ _ (Ext.refl s) (.bl _) q⟩
def zk4:R2':=fun x y Q=>∃ i,y=.int i∧((∃ ds d,x=.lst ds∧atI ds i=some d∧Q d)∨(∃ ds d,x=.tup ds∧atI ds i=some d∧Q d)∨∃ l c,x=.str l∧l.length≤sizeLine∧atI l i=some c∧Q (.str [c]))
theorem zkY {Hi:Hp} {vs:List V} {ds:List D} {i:Int} {d:D} (r:zbN K Hi vs ds) (h:atI ds i=some d):∃ v,atI vs i=some v∧Den K Hi v d:=by
  unfold atI at h ⊢
  rw [zf r]
  cases e:ixN ds.length i with
  | none=>rw [e] at h; cases h
  | some j =>
    rw [e] at h
    obtain ⟨v,h1,h2⟩:=zbz r (show ds[j]?=some d from h)
    exact ⟨v,h1,h2⟩
theorem zsF:Ixs X zk4:=⟨_,zqL,by
  rintro Hi H x y dx dy Q Q2 s d1 d2 ⟨i,rfl,h⟩ fin
  rcases h with ⟨ds,d,rfl,e,q⟩ | ⟨ds,d,rfl,e,q⟩ | ⟨l,c,rfl,hl,e,q⟩
  · obtain ⟨a,vs,rfl,h1,h2⟩:=d1.lstI
    obtain ⟨v,h3,h4⟩:=zkY h2 e; exact .inl ⟨a,vs,i,v,rfl,d2.intI,zaI s.sub h1,h3,fin Hi H _ _ (Ext.refl s) h4 q⟩
  · obtain ⟨a,vs,rfl,h1,h2⟩:=d1.tupI
    obtain ⟨v,h3,h4⟩:=zkY h2 e; exact .inr (.inl ⟨a,vs,i,v,rfl,d2.intI,zaJ s.sub h1,h3,fin Hi H _ _ (Ext.refl s) h4 q⟩)
  · refine .inr (.inr ⟨_,i,c,d1.strI,d2.intI,by rw [zbA]; exact hl,by rw [zaM]; exact e,fin Hi H _ _ (Ext.refl s) (.str [c]) q⟩)⟩
def zcM {α:Type} (xs:List α) (lo hi:Option Int):List α:=(xs.drop (HT.sIx xs.length 0 lo)).take (HT.sIx xs.length xs.length hi-HT.sIx xs.length 0 lo)
def ziW:RS':=fun x lo hi Q=>∃ l,x=.str l∧l.length≤sizeLine∧((lo=none∧∃ n,hi=some n∧0≤n∧Q (.str (l.take n.toNat)))∨(hi=none∧∃ n,lo=some n∧0≤n∧Q (.str (l.drop n.toNat))))
theorem zr5:Sli X ziW:=⟨_,zpF,by
  rintro Hi H x dx lo hi Q Q2 s d1 ⟨l,rfl,hl,h⟩ fin
  refine ⟨st l,d1.strI,by rw [zbA]; exact hl,?_⟩
  rcases h with ⟨rfl,n,rfl,hn,q⟩ | ⟨rfl,n,rfl,hn,q⟩
  · obtain ⟨m,rfl⟩:=Int.eq_ofNat_of_zero_le hn
    rw [zln]; exact fin Hi H _ _ (Ext.refl s) (.str _) q
  · obtain ⟨m,rfl⟩:=Int.eq_ofNat_of_zero_le hn
    rw [ziS]; exact fin Hi H _ _ (Ext.refl s) (.str _) q⟩
def zgo:RS':=fun x lo hi Q=>∃ ds,x=.tup ds∧Q (.tup (zcM ds lo hi))
def ziX:RS':=fun x lo hi Q=>∃ ds,x=.lst ds∧Q (.lst (zcM ds lo hi))
theorem zkJ {Hi:Hp} {vs:List V} {ds:List D} {lo hi:Option Int} (r:zbN K Hi vs ds):zbN K Hi (zkK vs lo hi) (zcM ds lo hi):=by
  unfold zkK zcM; rw [zf r]; exact zeG _ (zeH _ r)
theorem zpH:Sli X ziX:=⟨_,znH,by
  rintro Hi H x dx lo hi Q Q2 s d1 ⟨ds,rfl,q⟩ fin
  obtain ⟨a,vs,rfl,h1,h2⟩:=d1.lstI
  refine ⟨a,vs,rfl,zaI s.sub h1,fun p hp=>?_⟩
  have e:=Ext.new s hp (.lst (zkK vs lo hi)); exact fin _ _ _ _ e (Den.mkL (SqL.of zO) (zkJ (h2.mono e.hi))) q⟩
def zgq:RC':=fun ds Q=>∃ d,ds=[d]∧((∃ l,d=.str l∧l.length≤sizeLine∧Q (.int (l.length:Nat)))∨(∃ es,d=.lst es∧Q (.int (es.length:Nat)))∨∃ es,d=.tup es∧Q (.int (es.length:Nat)))
theorem zsX:Cal X (.builtin "len") zgq:=⟨_,zgW.or zgX,by
  rintro Hi H vs ds Q Q2 s dl ⟨d,rfl,h⟩ fin
  obtain ⟨v,rfl,den⟩:=zdG dl
  rcases h with ⟨l,rfl,hl,q⟩ | ⟨es,rfl,q⟩ | ⟨es,rfl,q⟩
  · refine .inl ⟨_,by rw [den.strI],by rw [zbA]; exact hl,?_⟩
    rw [zbA]; exact fin Hi H _ _ (Ext.refl s) (.int _) q
  · obtain ⟨a,us,rfl,h1,h2⟩:=den.lstI
    refine .inr ⟨a,us,rfl,.inl (zaI s.sub h1),?_⟩; rw [zf h2]; exact fin Hi H _ _ (Ext.refl s) (.int _) q
  · obtain ⟨a,us,rfl,h1,h2⟩:=den.tupI
    refine .inr ⟨a,us,rfl,.inr (zaJ s.sub h1),?_⟩; rw [zf h2]; exact fin Hi H _ _ (Ext.refl s) (.int _) q⟩
def zpU:RC':=fun ds Q=>∃ l n,ds=[.str l]∧PySem.intText? (st l)=some n∧l.length≤640∧Q (.int n)
theorem zsY:Cal X (.type "int") zpU:=⟨_,zgY,by
  rintro Hi H vs ds Q Q2 s dl ⟨l,n,rfl,e,hl,q⟩ fin
  obtain ⟨v,rfl,den⟩:=zdG dl
  exact ⟨_,n,by rw [den.strI],e,by rw [zbA]; exact hl,fin Hi H _ _ (Ext.refl s) (.int _) q⟩⟩
def zk5 (i:Int):List Nat:=(Str.ofString (toString i)).cps.toList
def znN:RC':=fun ds Q=>∃ i,ds=[.int i]∧i.natAbs.log2<1920∧Q (.str (zk5 i))
theorem zq8:Cal X (.type "str") znN:=⟨_,zgT,by
  rintro Hi H vs ds Q Q2 s dl ⟨i,rfl,hl,q⟩ fin
  obtain ⟨v,rfl,den⟩:=zdG dl
  refine ⟨i,by rw [den.intI],hl,?_⟩
  refine fin Hi H _ (.str (zk5 i)) (Ext.refl s) ?_ q
  have e:(V.str (toString i))=.str (st (zk5 i)):=by
    unfold zk5; rw [← zjw]
  rw [e]; exact .str _⟩
def zjG:RC':=fun ds Q=>∃ d es,ds=[d]∧(d=.lst es∨d=.tup es)∧Q (.tup es)
theorem zd3:Cal X (.type "tuple") zjG:=⟨_,zgf,by
  rintro Hi H vs ds Q Q2 s dl ⟨d,es,rfl,h,q⟩ fin
  obtain ⟨v,rfl,den⟩:=zdG dl
  rcases h with rfl | rfl
  · obtain ⟨a,us,rfl,h1,h2⟩:=den.lstI
    refine ⟨a,us,rfl,.inl ⟨zaI s.sub h1,fun l hl=>?_⟩⟩
    have e:=Ext.new s hl (.tup us); exact fin _ _ _ _ e (Den.mkT zO (h2.mono e.hi)) q
  · obtain ⟨a,us,rfl,h1,h2⟩:=den.tupI
    exact ⟨a,us,rfl,.inr ⟨zaJ s.sub h1,fin Hi H _ _ (Ext.refl s) den q⟩⟩⟩
def zoD:D→Option String
  | .non=>some "NoneType"
  | .bl _=>some "bool"
  | .int _=>some "int"
  | .str _=>some "str"
  | .lst _=>some "list"
  | .tup _=>some "tuple"
  | .dic _=>some "dict"
  | _=>none
theorem zml {Hi H:Hp} {x:V} {d:D} {t:String} (s:za0 Hi H) (den:Den K Hi x d) (h:zoD d=some t):zrg K H x t:=by
  cases den with
  | non=>exact (Option.some.inj h).symm
  | bl b=>exact (Option.some.inj h).symm
  | int i=>exact (Option.some.inj h).symm
  | str l=>exact (Option.some.inj h).symm
  | ty n=>cases h
  | adr b=>cases h
  | rng h'=>cases h
  | tup hq l r=>exact .inr (.inl ⟨(Option.some.inj h).symm,_,SqT.of (s _ _ hq)⟩)
  | lst hq l r=>exact .inl ⟨(Option.some.inj h).symm,_,zaI s hq⟩
  | dicK hq l r r2=>exact .inr (.inr ⟨(Option.some.inj h).symm,.inl ⟨_,zcH s hq⟩⟩)
  | dicT hq l r r2=>cases h
  | cls C=>cases h
  | obj hq l r r2=>cases h
  | excN hq=>cases h
  | exc hq h2 l r r2=>cases h
def zhb:RM':=fun x ds Q=>∃ l y,x=.str l∧ds=[.str y]∧l.length≤sizeLine∧Q (.str (Txt.rstripChars (st l) (st y)).cps.toList)
theorem zl1:Met X "str" "str.rstrip" zhb:=⟨_,zkh,by
  rintro Hi H x vs dx ds Q Q2 s d1 dl ⟨l,y,rfl,rfl,hl,q⟩ fin
  obtain ⟨v,rfl,den⟩:=zdG dl
  refine ⟨_,_,d1.strI,by rw [den.strI],by rw [zbA]; exact hl,?_⟩
  rw [zjw (Txt.rstripChars (st l) (st y))]; exact fin Hi H _ _ (Ext.refl s) (.str _) q⟩
end
end PL
namespace PL
open PySem L2
section
variable {X:Cx} {a b c:Expr} {pos:Pos} {ta tb tc:TE'}
def zfI:R2':=fun x y Q=>(∃ i j,x=.int i∧y=.int j∧Q (.int (i+j)))∨zhf x y Q
theorem zsB:Op2 X (binaryOp .Add) zfI:=zsA.or zqw
def zfH:R2':=fun x y Q=>zrz true x y Q∨zlx true x y Q
theorem zor:Op2 X (compareOp .NotIn) zfH:=zlP.or zlQ
end
structure Df (K:PySem.W.Frag) (mg:Str→Option Value) (x:Str) (st:Stmt) (ps:List Str):Prop where
  ex:∃ f fd,Fun K x x st f fd∧zdL K fd ps []∧mg x=some (.ref f)
structure Fn (P:Program) (w:World) (K:PySem.W.Frag) (mg:Str→Option Value) (base:Heap) (k:Nat) (x:Str) (ps:List Str) (sp:Sp'):Prop where
  ex:∃ f fd,FnOk P w K mg base CX0 k f fd ps (zll K sp)∧zdL K fd ps []∧PySem.W.keepIn K (.ref f)=true∧mg x=some (.ref f)∧∃ oc od osl,K.lookup f=some ⟨oc,od,.func fd,osl⟩
section
variable {P:Program} {w:World} {K:PySem.W.Frag} {mg:Str→Option Value} {base:Heap} {k:Nat} {x:Str} {ps:List Str} {sp:Sp'}
theorem Df.ok {st:Stmt} {N:List Str} (d:Df K mg x st ps) (S:FnScope N ps (zj st)) (len:∀ ds Q,sp ds Q→ds.length=ps.length)
    (hbody:∀ (f:Addr) (cdv:Value) (A:Around) (outer:List Env) (s:Shared) (H:Hp) (E:XK),Room k (A.deeper (PyProof.Rows.envOfC x (zj st) s.heap.objs.size f cdv))→∀ ds Q,sp ds Q →
      ∃ t,PSs' (zjo CX0 P w K mg base N x (zj st) f cdv A outer s H E).nox (zbL st) t∧t { nx:=fun _=>Q (.val .non),rt:=fun r _=>Q r } (zgk N ds)):Fn P w K mg base (k+1) x ps sp:=by
  obtain ⟨f,fd,F,b,m⟩:=d.ex; obtain ⟨oc,od,kV,doc,pm,an,cdv,ct,osl,e,lk,_⟩:=F.ex; exact ⟨f,fd,PL.Fun.ok' F S len (hbody f),b,F.kp,m,oc,od,osl,lk⟩
end
section
variable {X:Cx} {k:Nat} {x:Str} {ps:List Str} {sp:Sp'} {p pos:Pos} {e:Expr} {es:List Expr} {t:TA'}
theorem zaZ (h:Fn X.prog X.w X.K X.mg X.base k x ps sp) (hr:Room k X.A) (ha:PA' X (e :: es) t) (hg:Gl X x:=by rfl) (hdb:(x == ("__debug__":Str))=false:=by decide) :
    PE' X (.Call (.Name x p) (e :: es) [] pos) (zu sp t):=by
  obtain ⟨f,fd,F,b,kp,m,_⟩:=h.ex; exact zlL F hr m kp b ha hg hdb
end
end PL
namespace PL
open PySem L2
section
variable {X:Cx} {pos:Pos}
def zjI:RS':=fun x lo hi Q=>ziW x lo hi Q∨ziX x lo hi Q
theorem ztM:Sli X zjI:=zr5.or zpH
end
end PL
namespace PL
open PySem L2
@[simp] theorem ex2 {α β:Type} {x:α} {y:β} {P:α→β→Prop}:(∃ a b,(x=a∧y=b)∧P a b)↔P x y:=⟨fun ⟨_,_,⟨e1,e2⟩,h⟩=>e1 ▸ e2 ▸ h,fun h=>⟨x,y,⟨rfl,rfl⟩,h⟩⟩
@[simp] theorem zrV (d:D):(Res.val d).toD=d:=rfl
@[simp] theorem zrW (o:OD):(Res.own o).toD=o.toD:=rfl
@[simp] theorem ztb (d:D→D) (o:OD):(Res.bk d o).toD=d o.toD:=rfl
@[simp] theorem zto (l:List D):(OD.lst l).toD=.lst l:=rfl
@[simp] theorem ztq (l:List (D × D)):(OD.dic l).toD=.dic l:=rfl
@[simp] theorem ztp (l:List (D × D)):(OD.dit l).toD=.dit l:=rfl
@[simp] theorem zpB (N:List Str) (ds:List D):zgk N ds=ds.map .val ++ List.replicate (N.length-ds.length) .emp:=rfl
@[simp] theorem zrP (d:D):voS (.val d)=.val d:=rfl
@[simp] theorem zrR:voS .emp=.emp:=rfl
@[simp] theorem zrQ (o:OD):voS (.own o)=.emp:=rfl
@[simp] theorem zta:vo []=[]:=rfl
@[simp] theorem zrO (s:Slot) (Γ:Sts):vo (s :: Γ)=voS s :: vo Γ:=rfl
@[simp] theorem zrk (ds:List D):znK (.lst ds)=some ds:=rfl
@[simp] theorem zrh (ds:List D):znK (.tup ds)=some ds:=rfl
@[simp] theorem zri (l:List Nat):znK (.str l)=some (l.map fun c=>.str [c]):=rfl
@[simp] theorem zsZ (Γ:Sts):zlc [] Γ=[]:=rfl
@[simp] theorem zrM (src:List (Option Nat)) (Γ:Sts):zlc (none :: src) Γ=.emp :: zlc src Γ:=rfl
@[simp] theorem zrL (i:Nat) (src:List (Option Nat)) (Γ:Sts):zlc (some i :: src) Γ=(match Γ[i]? with | some (.val d)=>.val d | _=>.emp) :: zlc src Γ:=rfl
@[simp] theorem zq4 (g:TG') (tc:TT') (te:TE') (Q:List D→Prop) (acc:List D) (Γ:Sts):zbO g tc te Q [] acc Γ↔Q acc:=Iff.rfl
@[simp] theorem zrJ (g:TG') (tb:TS') (N:Ends') (Γ:Sts):zfv g tb N [] Γ↔N.nx Γ:=Iff.rfl
section
variable {Q:D→Prop}
@[simp] theorem ztl (g:Int→Int→D) (i j:Int):zpW g (.int i) (.int j) Q↔Q (g i j):=by simp [zpW]
@[simp] theorem ztS (C:Int→Int→Prop) (g:Int→Int→D) (i j:Int):rI' C g (.int i) (.int j) Q↔C i j∧Q (g i j):=by simp [rI']
@[simp] theorem zrF (i j:Int):zfI (.int i) (.int j) Q↔Q (.int (i+j)):=by simp [zfI,zhf]
@[simp] theorem zrE (l m:List Nat):zfI (.str l) (.str m) Q↔l.length+m.length≤sizeLine∧Q (.str (l ++ m)):=by simp [zfI,zhf]
@[simp] theorem zsO (i j:Int):eqS (.int i) (.int j)=some (decide (i=j)):=rfl
@[simp] theorem zsM (i j:List Nat):eqS (.str i) (.str j)=some (decide (i=j)):=rfl
@[simp] theorem ztt (i j:Bool):eqS (.bl i) (.bl j)=some (decide (i=j)):=rfl
@[simp] theorem zsN:eqS .non .non=some true:=rfl
@[simp] theorem zoR (i:List Nat):eqS .non (.str i)=some false:=rfl
@[simp] theorem zoS (i:Int):eqS .non (.int i)=some false:=rfl
@[simp] theorem zoQ (i:List Nat):eqS (.str i) .non=some false:=rfl
@[simp] theorem zoT (i:Int):eqS (.int i) .non=some false:=rfl
@[simp] theorem zsf (ds:List D) (i:Int):zk4 (.lst ds) (.int i) Q↔∃ d,atI ds i=some d∧Q d:=by simp [zk4]
@[simp] theorem zsd (ds:List D) (i:Int):zk4 (.tup ds) (.int i) Q↔∃ d,atI ds i=some d∧Q d:=by simp [zk4]
@[simp] theorem zse (l:List Nat) (i:Int):zk4 (.str l) (.int i) Q↔l.length≤sizeLine∧∃ c,atI l i=some c∧Q (.str [c]):=by simp [zk4]
@[simp] theorem ztg (l:List Nat) (n:Int):zjI (.str l) none (some n) Q↔l.length≤sizeLine∧0≤n∧Q (.str (l.take n.toNat)):=by simp [zjI,ziW,ziX]
@[simp] theorem zrm (l:List Nat) (n:Int):zjI (.str l) (some n) none Q↔l.length≤sizeLine∧0≤n∧Q (.str (l.drop n.toNat)):=by simp [zjI,ziW,ziX]
@[simp] theorem zr8 (ds:List D) (lo hi:Option Int):zjI (.lst ds) lo hi Q↔Q (.lst (zcM ds lo hi)):=by simp [zjI,ziW,ziX]
@[simp] theorem zrt (l:List Nat):zgq [.str l] Q↔l.length≤sizeLine∧Q (.int (l.length:Nat)):=by simp [zgq]
@[simp] theorem zru (l:List D):zgq [.lst l] Q↔Q (.int (l.length:Nat)):=by simp [zgq]
@[simp] theorem zrs (l:List D):zgq [.tup l] Q↔Q (.int (l.length:Nat)):=by simp [zgq]
@[simp] theorem zr7 (i:Int):znN [.int i] Q↔i.natAbs.log2<1920∧Q (.str (zk5 i)):=by simp [znN]
@[simp] theorem zrl (ds:List D):zjG [.lst ds] Q↔Q (.tup ds):=by simp [zjG]
@[simp] theorem zpe (l y:List Nat):zhb (.str l) [.str y] Q↔l.length≤sizeLine∧Q (.str (Txt.rstripChars (st l) (st y)).cps.toList):=by simp [zhb]
@[simp] theorem zrS (l:List Nat):tyD "str" (.str l)↔True:=by simp [tyD]
end
@[simp] theorem zjm (K:PySem.W.Frag):PySem.W.kitOne K (.type "NoneType") (.type "str")=some false:=by rfl
@[simp] theorem zna (K:PySem.W.Frag):PySem.W.kitOne K (.type "bool") (.type "str")=some false:=by rfl
@[simp] theorem zoB (K:PySem.W.Frag):PySem.W.kitOne K (.type "int") (.type "str")=some false:=by rfl
@[simp] theorem zoz (K:PySem.W.Frag):PySem.W.kitOne K (.type "str") (.type "str")=some true:=by rfl
@[simp] theorem zm3 (K:PySem.W.Frag):PySem.W.kitOne K (.type "list") (.type "str")=some false:=by rfl
@[simp] theorem zl8 (K:PySem.W.Frag):PySem.W.kitOne K (.type "tuple") (.type "str")=some false:=by rfl
@[simp] theorem zm8 (K:PySem.W.Frag):PySem.W.kitOne K (.type "dict") (.type "str")=some false:=by rfl
@[simp] theorem zjf (K:PySem.W.Frag):PySem.W.kitOne K (.type "NoneType") (.type "bool")=some false:=by rfl
@[simp] theorem zmk (K:PySem.W.Frag):PySem.W.kitOne K (.type "bool") (.type "bool")=some true:=by rfl
@[simp] theorem zm7 (K:PySem.W.Frag):PySem.W.kitOne K (.type "int") (.type "bool")=some false:=by rfl
@[simp] theorem zm2 (K:PySem.W.Frag):PySem.W.kitOne K (.type "str") (.type "bool")=some false:=by rfl
@[simp] theorem zmd (K:PySem.W.Frag):PySem.W.kitOne K (.type "list") (.type "bool")=some false:=by rfl
@[simp] theorem zk8 (K:PySem.W.Frag):PySem.W.kitOne K (.type "tuple") (.type "bool")=some false:=by rfl
@[simp] theorem zmh (K:PySem.W.Frag):PySem.W.kitOne K (.type "dict") (.type "bool")=some false:=by rfl
@[simp] theorem zjn (K:PySem.W.Frag):PySem.W.kitOne K (.type "NoneType") (.type "int")=some false:=by rfl
@[simp] theorem znb (K:PySem.W.Frag):PySem.W.kitOne K (.type "bool") (.type "int")=some true:=by rfl
@[simp] theorem zoC (K:PySem.W.Frag):PySem.W.kitOne K (.type "int") (.type "int")=some true:=by rfl
@[simp] theorem zoA (K:PySem.W.Frag):PySem.W.kitOne K (.type "str") (.type "int")=some false:=by rfl
@[simp] theorem zm4 (K:PySem.W.Frag):PySem.W.kitOne K (.type "list") (.type "int")=some false:=by rfl
@[simp] theorem zl9 (K:PySem.W.Frag):PySem.W.kitOne K (.type "tuple") (.type "int")=some false:=by rfl
@[simp] theorem zm9 (K:PySem.W.Frag):PySem.W.kitOne K (.type "dict") (.type "int")=some false:=by rfl
@[simp] theorem zjd (K:PySem.W.Frag):PySem.W.kitOne K (.type "NoneType") (.type "list")=some false:=by rfl
@[simp] theorem zmi (K:PySem.W.Frag):PySem.W.kitOne K (.type "bool") (.type "list")=some false:=by rfl
@[simp] theorem zm5 (K:PySem.W.Frag):PySem.W.kitOne K (.type "int") (.type "list")=some false:=by rfl
@[simp] theorem zm0 (K:PySem.W.Frag):PySem.W.kitOne K (.type "str") (.type "list")=some false:=by rfl
@[simp] theorem zmb (K:PySem.W.Frag):PySem.W.kitOne K (.type "list") (.type "list")=some true:=by rfl
@[simp] theorem zk6 (K:PySem.W.Frag):PySem.W.kitOne K (.type "tuple") (.type "list")=some false:=by rfl
@[simp] theorem zmf (K:PySem.W.Frag):PySem.W.kitOne K (.type "dict") (.type "list")=some false:=by rfl
@[simp] theorem zis (K:PySem.W.Frag):PySem.W.kitOne K (.type "NoneType") (.type "tuple")=some false:=by rfl
@[simp] theorem zlb (K:PySem.W.Frag):PySem.W.kitOne K (.type "bool") (.type "tuple")=some false:=by rfl
@[simp] theorem zme (K:PySem.W.Frag):PySem.W.kitOne K (.type "int") (.type "tuple")=some false:=by rfl
@[simp] theorem zma (K:PySem.W.Frag):PySem.W.kitOne K (.type "str") (.type "tuple")=some false:=by rfl
@[simp] theorem zk9 (K:PySem.W.Frag):PySem.W.kitOne K (.type "list") (.type "tuple")=some false:=by rfl
@[simp] theorem zks (K:PySem.W.Frag):PySem.W.kitOne K (.type "tuple") (.type "tuple")=some true:=by rfl
@[simp] theorem zla (K:PySem.W.Frag):PySem.W.kitOne K (.type "dict") (.type "tuple")=some false:=by rfl
@[simp] theorem zje (K:PySem.W.Frag):PySem.W.kitOne K (.type "NoneType") (.type "dict")=some false:=by rfl
@[simp] theorem zmj (K:PySem.W.Frag):PySem.W.kitOne K (.type "bool") (.type "dict")=some false:=by rfl
@[simp] theorem zm6 (K:PySem.W.Frag):PySem.W.kitOne K (.type "int") (.type "dict")=some false:=by rfl
@[simp] theorem zm1 (K:PySem.W.Frag):PySem.W.kitOne K (.type "str") (.type "dict")=some false:=by rfl
@[simp] theorem zmc (K:PySem.W.Frag):PySem.W.kitOne K (.type "list") (.type "dict")=some false:=by rfl
@[simp] theorem zk7 (K:PySem.W.Frag):PySem.W.kitOne K (.type "tuple") (.type "dict")=some false:=by rfl
@[simp] theorem zmg (K:PySem.W.Frag):PySem.W.kitOne K (.type "dict") (.type "dict")=some true:=by rfl
section
variable {Q:D→Prop}
end
end PL
namespace PL
open PySem L2
class ME (t:TE'):Prop where
  mono:∀ Γ Q Q',(∀ d Γ',Q d Γ'→Q' d Γ')→t Γ Q→t Γ Q'
class MT (t:TT'):Prop where
  mono:∀ Γ Q Q',(∀ d Γ',Q d Γ'→Q' d Γ')→t Γ Q→t Γ Q'
class MA (t:TA'):Prop where
  mono:∀ Γ Q Q',(∀ d Γ',Q d Γ'→Q' d Γ')→t Γ Q→t Γ Q'
class MO (t:TO'):Prop where
  mono:∀ Γ Q Q',(∀ d Γ',Q d Γ'→Q' d Γ')→t Γ Q→t Γ Q'
class MP (t:TP'):Prop where
  mono:∀ Γ Q Q',(∀ d Γ',Q d Γ'→Q' d Γ')→t Γ Q→t Γ Q'
class MI (t:TI'):Prop where
  mono:∀ Γ Q Q',(∀ d Γ',Q d Γ'→Q' d Γ')→t Γ Q→t Γ Q'
class MG (g:TG'):Prop where
  mono:∀ d Γ Q Q',(∀ Γ',Q Γ'→Q' Γ')→g d Γ Q→g d Γ Q'
class MR2 (r:R2'):Prop where
  mono:∀ x y Q Q',(∀ d,Q d→Q' d)→r x y Q→r x y Q'
class MRS (r:RS'):Prop where
  mono:∀ x y z Q Q',(∀ d,Q d→Q' d)→r x y z Q→r x y z Q'
class MSp (sp:Sp'):Prop where
  mono:∀ x Q Q',(∀ d,Q d→Q' d)→sp x Q→sp x Q'
structure Ends'.le (N N':Ends'):Prop where
  nx:∀ Γ,N.nx Γ→N'.nx Γ
  rt:∀ r Γ,N.rt r Γ→N'.rt r Γ
  bk:∀ Γ,N.bk Γ→N'.bk Γ
  ct:∀ Γ,N.ct Γ→N'.ct Γ
class MS (t:TS'):Prop where
  mono:∀ N N' Γ,N.le N'→t N Γ→t N' Γ
instance {i:Nat}:ME (zq i):=⟨fun _ _ _ h ⟨d,e,q⟩=>⟨d,e,h _ _ q⟩⟩
instance {d:D}:ME (tC' d):=⟨fun _ _ _ h q=>h _ _ q⟩
instance {t:TO'} [MO t]:ME (zbg t):=⟨fun Γ _ _ h q=>MO.mono (t:=t) Γ _ _ (fun _ _ z=>h _ _ z) q⟩
instance {r:R2'} {a b:TE'} [MR2 r] [ME a] [ME b]:ME (zaQ r a b):=⟨fun Γ _ _ h q=>ME.mono (t:=a) Γ _ _ (fun _ _ z=>ME.mono (t:=b) _ _ _ (fun _ _ z=>MR2.mono (r:=r) _ _ _ _ (fun _ z=>h _ _ z) z) z) q⟩
instance {t:TE'} [ME t]:MT (tB' t):=⟨fun Γ _ _ h q=>ME.mono (t:=t) Γ _ _ (fun _ _ ⟨b,e,z⟩=>⟨b,e,h _ _ z⟩) q⟩
instance:MT za8:=⟨fun _ _ _ h q=>h _ _ q⟩
instance:MA zZ:=⟨fun _ _ _ h q=>h _ _ q⟩
instance {a:TE'} {r:TA'} [ME a] [MA r]:MA (zr a r):=⟨fun Γ _ _ h q=>ME.mono (t:=a) Γ _ _ (fun _ _ z=>MA.mono (t:=r) _ _ _ (fun _ _ z=>h _ _ z) z) q⟩
instance {t:TA'} [MA t]:ME (zad t):=⟨fun Γ _ _ h q=>MA.mono (t:=t) Γ _ _ (fun _ _ ⟨a,z⟩=>⟨a,h _ _ z⟩) q⟩
instance {t:TA'} [MA t]:MO (zab t):=⟨fun Γ _ _ h q=>MA.mono (t:=t) Γ _ _ (fun _ _ ⟨a,z⟩=>⟨a,h _ _ z⟩) q⟩
instance:MP zaf:=⟨fun _ _ _ h q=>h _ _ q⟩
instance {t:TE'} [ME t]:MP (zbm t):=⟨fun Γ _ _ h q=>ME.mono (t:=t) Γ _ _ (fun _ _ ⟨i,e,z⟩=>⟨i,e,h _ _ z⟩) q⟩
instance {r:RS'} {e:TE'} {l u:TP'} [MRS r] [ME e] [MP l] [MP u]:ME (zbl r e l u):=⟨fun Γ _ _ h q=>ME.mono (t:=e) Γ _ _ (fun _ _ z=>MP.mono (t:=l) _ _ _ (fun _ _ z=>MP.mono (t:=u) _ _ _ (fun _ _ z=>MRS.mono (r:=r) _ _ _ _ _ (fun _ z=>h _ _ z) z) z) z) q⟩
instance {sp:Sp'} {t:TA'} [MSp sp] [MA t]:ME (zu sp t):=⟨fun Γ _ _ h q=>MA.mono (t:=t) Γ _ _ (fun _ _ z=>MSp.mono (sp:=sp) _ _ _ (fun _ z=>h _ _ z) z) q⟩
instance {t:TE'} [ME t]:MI (zac t):=⟨fun Γ _ _ h q=>ME.mono (t:=t) Γ _ _ (fun _ _ ⟨i,e,z⟩=>⟨i,e,h _ _ z⟩) q⟩
instance {i:Nat}:MG (zk i):=⟨fun _ _ _ _ h q=>h _ q⟩
theorem zd2 {g:TG'} {tc:TT'} {te:TE'} [MG g] [MT tc] [ME te] {Q Q':List D→Prop} (h:∀ l,Q l→Q' l):∀ (ds acc:List D) (Γ:Sts),zbO g tc te Q ds acc Γ→zbO g tc te Q' ds acc Γ
  | [],acc,Γ,q=>h acc q
  | d :: ds,acc,Γ,q=>MG.mono (g:=g) _ _ _ _ (fun Γ2 z=>MT.mono (t:=tc) _ _ _ (fun b Γ3 z=>by
    cases b with
    | true=>exact ME.mono (t:=te) _ _ _ (fun y Γ4 z=>zd2 h ds _ _ z) z
    | false=>exact zd2 h ds _ _ z) z) q
instance {ti:TI'} {src:List (Option Nat)} {g:TG'} {tc:TT'} {te:TE'} [MI ti] [MG g] [MT tc] [ME te]:MO (zw ti src g tc te):=⟨fun Γ _ _ h q=>MI.mono (t:=ti) Γ _ _ (fun ds Γ1 ⟨a,z⟩=>⟨a,zd2 (fun l=>h _ _) _ _ _ z⟩) q⟩
theorem Ends'.le.nxt {N N':Ends'} (h:N.le N') {P P':Sts→Prop} (hp:∀ Γ,P Γ→P' Γ):Ends'.le { N with nx:=P } { N' with nx:=P' }:=⟨hp,h.rt,h.bk,h.ct⟩
instance:MS zp:=⟨fun _ _ _ h q=>h.nx _ q⟩
instance {t u:TS'} [MS t] [MS u]:MS (zaa t u):=⟨fun N N' Γ h q=>MS.mono (t:=t) _ _ _ (h.nxt fun Γ' z=>MS.mono (t:=u) N N' Γ' h z) q⟩
instance {c:TT'} {t u:TS'} [MT c] [MS t] [MS u]:MS (zU c t u):=⟨fun N N' Γ h q=>MT.mono (t:=c) _ _ _ (fun b Γ1 z=>by
  cases b with
  | true=>exact MS.mono (t:=t) N N' Γ1 h z
  | false=>exact MS.mono (t:=u) N N' Γ1 h z) q⟩
instance {t:TE'} {g:TG'} [ME t] [MG g]:MS (zW t g):=⟨fun N N' Γ h q=>ME.mono (t:=t) _ _ _ (fun _ _ z=>MG.mono (g:=g) _ _ _ _ (fun _ z=>h.nx _ z) z) q⟩
instance {t:TO'} {i:Nat} [MO t]:MS (zx t i):=⟨fun N N' Γ h q=>MO.mono (t:=t) _ _ _ (fun _ _ z=>h.nx _ z) q⟩
theorem zhN {g:TG'} {tb:TS'} [MG g] [MS tb] {N:Ends'} (I:List D→Sts→Prop) (h0:∀ Γ,I [] Γ→N.nx Γ) (hs:∀ d ds Γ,I (d :: ds) Γ→g d Γ fun Γ2=>tb { N with nx:=I ds,ct:=I ds,bk:=N.nx } Γ2) :
    ∀ (ds:List D) (Γ:Sts),I ds Γ→zfv g tb N ds Γ
  | [],Γ,h=>h0 Γ h
  | d :: ds,Γ,h=>MG.mono (g:=g) _ _ _ _ (fun Γ2 z=>MS.mono (t:=tb) { N with nx:=I ds,ct:=I ds,bk:=N.nx } { N with nx:=zfv g tb N ds,ct:=zfv g tb N ds,bk:=N.nx } _ ⟨fun Γ3 z=>zhN I h0 hs ds Γ3 z,fun _ _ z=>z,fun _ z=>z,fun Γ3 z=>zhN I h0 hs ds Γ3 z⟩ z) (hs d ds Γ h)
theorem zdn {g:TG'} {tb:TS'} [MG g] [MS tb] {N:Ends'} {ds:List D} {Γ:Sts} (I:Nat→Sts→Prop) (h:I 0 Γ) (hs:∀ (i:Nat) d Γ,ds[i]?=some d→I i Γ→g d Γ fun Γ2=>tb { N with nx:=I (i+1),ct:=I (i+1),bk:=N.nx } Γ2) (h0:∀ Γ,I ds.length Γ→N.nx Γ):zfv g tb N ds Γ:=by
  refine zhN (fun es Γ=>∃ i,es=ds.drop i∧i≤ds.length∧I i Γ) ?_ ?_ ds Γ ⟨0,rfl,Nat.zero_le _,h⟩
  · rintro Γ ⟨i,e,hi,q⟩
    have:i=ds.length:=by
      have:=congrArg List.length e
      rw [List.length_drop] at this
      simp at this
      omega
    subst this; exact h0 Γ q
  · rintro d es Γ ⟨i,e,hi,q⟩
    have hlt:i<ds.length:=by
      have:=congrArg List.length e
      rw [List.length_drop] at this
      simp at this
      omega
    rw [List.drop_eq_getElem_cons hlt] at e
    injection e with e1 e2
    subst e1
    have go:∀ Γ',I (i+1) Γ'→∃ j,es=ds.drop j∧j≤ds.length∧I j Γ':=fun Γ' z=>⟨i+1,e2,hlt,z⟩
    exact MG.mono (g:=g) _ _ _ _ (fun Γ2 z=>MS.mono (t:=tb) { N with nx:=I (i+1),ct:=I (i+1),bk:=N.nx } _ _ ⟨go,fun _ _ z=>z,fun _ z=>z,go⟩ z) (hs i _ Γ (List.getElem?_eq_getElem hlt) q)
theorem zck {g:TG'} {tc:TT'} {te:TE'} [MG g] [MT tc] [ME te] {Q:List D→Prop} {ds:List D} {Γ:Sts} (I:Nat→List D→Sts→Prop) (h:I 0 [] Γ)
    (hs:∀ (i:Nat) d acc Γ,ds[i]?=some d→I i acc Γ→g d Γ fun Γ2=>tc Γ2 fun b Γ3=>if b=true then te Γ3 fun y Γ4=>I (i+1) (acc ++ [y]) (vo Γ4) else I (i+1) acc (vo Γ3)) (h0:∀ acc Γ,I ds.length acc Γ→Q acc):zbO g tc te Q ds [] Γ:=by
  have key:∀ (n i:Nat) (acc:List D) (Γ:Sts),n=ds.length-i→i≤ds.length→I i acc Γ→zbO g tc te Q (ds.drop i) acc Γ:=by
    intro n
    induction n with
    | zero =>
      intro i acc Γ hn hi q
      have:i=ds.length:=by omega
      subst this; rw [List.drop_eq_nil_of_le (Nat.le_refl _)]; exact h0 acc Γ q
    | succ n ih =>
      intro i acc Γ hn hi q
      have hlt:i<ds.length:=by omega
      rw [List.drop_eq_getElem_cons hlt]
      refine MG.mono (g:=g) _ _ _ _ (fun Γ2 z=>MT.mono (t:=tc) _ _ _ (fun b Γ3 z=>?_) z) (hs i _ acc Γ (List.getElem?_eq_getElem hlt) q)
      cases b with
      | true=>exact ME.mono (t:=te) _ _ _ (fun y Γ4 z=>ih (i+1) _ _ (by omega) hlt z) z
      | false=>exact ih (i+1) _ _ (by omega) hlt z
  exact key _ 0 [] Γ rfl (Nat.zero_le _) h
instance {C:Int→Int→Prop} {g:Int→Int→D}:MR2 (rI' C g):=⟨fun _ _ _ _ h ⟨i,j,a,b,c,q⟩=>⟨i,j,a,b,c,h _ q⟩⟩
instance:MR2 zhf:=⟨fun _ _ _ _ h ⟨i,j,a,b,c,q⟩=>⟨i,j,a,b,c,h _ q⟩⟩
instance:MR2 zfI:=⟨fun _ _ _ _ h q=>by
  rcases q with ⟨i,j,a,b,q⟩ | q
  · exact .inl ⟨i,j,a,b,h _ q⟩
  · exact .inr (MR2.mono (r:=zhf) _ _ _ _ h q)⟩
instance {neg:Bool}:MR2 (zrz neg):=⟨fun _ _ _ _ h ⟨c,l,a,b,q⟩=>⟨c,l,a,b,h _ q⟩⟩
instance {neg:Bool}:MR2 (zlx neg):=⟨fun _ _ _ _ h ⟨i,c,l,a,b,q⟩=>⟨i,c,l,a,b,h _ q⟩⟩
instance:MR2 zfH:=⟨fun _ _ _ _ h q=>by
  rcases q with q | q
  · exact .inl (MR2.mono (r:=zrz true) _ _ _ _ h q)
  · exact .inr (MR2.mono (r:=zlx true) _ _ _ _ h q)⟩
instance {neg:Bool}:MR2 (zjN neg):=⟨fun _ _ _ _ h ⟨a,b,e,q⟩=>⟨a,b,e,h _ q⟩⟩
instance:MR2 zk4:=⟨fun _ _ _ _ h ⟨i,e,q⟩=>⟨i,e,by
  rcases q with ⟨ds,d,a,b,q⟩ | ⟨ds,d,a,b,q⟩ | ⟨l,c,a,b,e,q⟩
  · exact .inl ⟨ds,d,a,b,h _ q⟩
  · exact .inr (.inl ⟨ds,d,a,b,h _ q⟩)
  · exact .inr (.inr ⟨l,c,a,b,e,h _ q⟩)⟩⟩
instance:MRS zjI:=⟨fun _ _ _ _ _ h q=>by
  rcases q with ⟨l,a,b,q⟩ | ⟨l,a,q⟩
  · refine .inl ⟨l,a,b,?_⟩
    rcases q with ⟨c,n,d,e,q⟩ | ⟨c,n,d,e,q⟩
    · exact .inl ⟨c,n,d,e,h _ q⟩
    · exact .inr ⟨c,n,d,e,h _ q⟩
  · exact .inr ⟨l,a,h _ q⟩⟩
end PL
namespace PL
open PySem L2
def zha:Sp':=fun ds Q=>∃ ns:List Int,ds=[.lst (ns.map .int)]∧ns.length≤63∧Q (.val (.bl true))
theorem ziH {K:PySem.W.Frag} {H:Hp}:∀ ns:List Int,zbN K H (ns.map V.int) (ns.map D.int)
  | []=>.nil
  | n :: ns=>.cons (.int n) (ziH ns)
theorem zlm (K:PySem.W.Frag) (H:Hp) (a:Addr) (ns:List Int) (hl:ns.length≤63) (hO:zrN H) (hS:SqL K H a (ns.map V.int)):zll K zha [.ref a] H (fun v _=>v=.bl true) (fun _ _ _=>False):=by
  refine ⟨H,[.lst (ns.map .int)],fun r=>r=.val (.bl true),⟨za0.refl _,fun b xs q=>q⟩,.cons (Den.mkL hS (ziH ns)) .nil,⟨ns,rfl,hl,rfl⟩,?_⟩
  rintro Hi' H' v r ex ro rfl
  exact Den.blI ro
theorem zqB {P:Program} {w:World} {K:PySem.W.Frag} {mg:Str→Option Value} {k:Nat} {fa:Addr} {oc:Value} {od:Option Addr} {fd:FuncData} {sl:Array (Option Value)} {ps:List Str}
    (hfa:mg "law"=some (.ref fa)) (lk:K.lookup fa=some ⟨oc,od,.func fd,sl⟩) (base:Heap) (G:Fn P w K mg base k "law" ps zha):FnOk P w K mg base CX0 k fa fd ps (zll K zha):=by
  obtain ⟨f,fd',F,_,_,m,oc',od',sl',lk'⟩:=G.ex; rw [hfa] at m; cases m; rw [lk] at lk'; cases lk'; exact F
theorem walk_law {l:PySem.W.OpenLaw} {k:Nat} {q:Program} {loose:List Str} {XP:(Str→Option Value)→Heap→Prop} {YP:World→Heap→Prop} {d:DefRec} {K:Params→PySem.W.Frag} {x:Str} (hn:l.most=some 63) (hdf:d.params.defaults=[]) (hr:Room k callerA)
    (hY:∀ (w:World) (h:Heap),YP w h→(K w.params).In h)
    (F:∀ (w:World) (mg:Str→Option Value) (fa:Addr) (h:Heap),(K w.params).In h→h.Ns mainGlobals mg→mg d.name=some (.ref fa) →
      ∃ fd:FuncData,(∀ (s:Shared) (u:Value),BindsTo s fd ⟨[u],[]⟩ [(x,u)])∧∀ base:Heap,(K w.params).In base→base.Ns mainGlobals mg→FnOk l.prog w (K w.params) mg base CX0 k fa fd [x] (zll (K w.params) zha)) :
    PySem.W.WalkO q loose XP YP l.row.toRowW d [] (fun f vs=>PySem.call f vs) :=
  L2.walk_of (n:=63) (k:=k) (x:=x) (CX:=fun _=>CX0) (sp:=fun w=>zll (K w.params) zha) hn (by decide) hdf hr hY F (fun _ _ a ns hl hO hS=>zlm _ _ a ns hl hO hS) fun _ _ _ _ _ z=>z
end PL
namespace L2
open PySem PySem.Spec PyProof.Rows
section
variable {X:Cx}
theorem zon:OpR X (binaryOp .Add) (fun x y H Q=>∃ a b xs ys,x=.ref a∧y=.ref b∧SqT X.K H a xs∧SqT X.K H b ys∧xs.length+ys.length≤sizeLine∧(xs=[]→Q (.ref b) H)∧(xs≠[]→ys=[]→Q (.ref a) H) ∧
    (xs≠[]→ys≠[]→∀ p,H p=none→Q (.ref p) (upd H p (.tup (xs ++ ys))))):=by
  intro pins s σ H x y v u Q I rx ry h; obtain ⟨a,b,xs,ys,rfl,rfl,ha,hb,hz,q0,q1,q2⟩:=h
  by_cases hx:xs=[]
  · cases rx
    cases ry; obtain ⟨its,r1,p1,_⟩:=I.tuple ha; obtain ⟨its2,r2,p2,_⟩:=I.tuple hb
    obtain ⟨⟨cls,dd,data,sl⟩,ho,hc,n,hd⟩:=id p1
    obtain ⟨⟨cls2,dd2,data2,sl2⟩,ho2,hc2,n2,hd2⟩:=id p2
    simp only at hc hd hc2 hd2
    subst hc hd hc2 hd2
    have hi:its=[]:=r1.nil_iff.mpr hx
    refine concat_meets ⟨_,ho,rfl⟩ ⟨_,ho2,rfl⟩ noFill_tuple_add seq_tuple_add PySem.F.slot_tuple_add PySem.F.entry_tuple_add (PySem.F.args_tuple_add_2 _ _)
      (tuple_addW0 a b its.toArray its2.toArray n n2 dd dd2 sl sl2 (by simp [hi])) ⟨ho,ho2,?_⟩
    exact ⟨.ref b,H,I,rfl,q0 hx⟩
  · exact zol pins s σ H _ _ v u Q I rx ry ⟨a,b,xs,ys,rfl,rfl,ha,hb,hx,hz,q1 hx,q2 hx⟩
end
end L2
namespace HT
open PySem PyProof.Rows
section
variable {prog:Program} {w:World} {A:Around} {E:Value→Shared→Prop} {s:Shared}
theorem getItem_tuple_whole {t sl:Addr} {items:Array Value} {vl vu:Value} {lo hi:Option Int} {Q:Value→Shared→Prop} (ht:IsTup s.heap t items) (hs:s.heap.IsSliceOf sl vl vu .none) (pl:IsPart vl lo) (pu:IsPart vu hi)
    (hw:sIx items.size 0 lo=0∧sIx items.size items.size hi=items.size) (h:Q (.ref t) s):wpAny (model prog w) A (getItem (.ref t) (.ref sl)) Q E s:=by
  obtain ⟨os,hos,hcs,hds⟩:=id hs
  have hTs:s.TypeIs (.ref sl) "slice":=⟨os,hos,hcs⟩
  unfold getItem
  try with_reducible refine wpAny_holding ?_
  first | refine wpAny_bind (wpAny_pure ?_) | skip
  refine wpAny_bind (wpAny_sequenceKey ht.typeIs (by decide) ?_)
  refine wpAny_bind (wpAny_callSpecial?_slot (name:=Str.ofString "__getitem__") ht.typeIs PyProof.Rows.slot_tuple_getitem
    (wpAny_call_entry PyProof.Rows.slot_tuple_getitem ht.typeIs entry_tuple_getitem ?_ (args_tuple_getitem _ _)))
  show wpAny _ _ (Builtin.Tuple.tupleItemsOf (.ref t) >>= _) _ _ s
  refine wpAny_bind (tupleItemsOf_ ht ?_); refine wpAny_bind (wpAny_typeOf hTs ?_)
  rw [if_pos (by decide)]
  refine wpAny_bind (zcN hs pl pu ?_)
  have hyes:((((sIx items.size 0 lo:Nat):Int) == 0 && (1:Int) == 1 && (sIx items.size items.size hi-sIx items.size 0 lo) == items.size)=true):=by
    rw [hw.1,hw.2]; simp
  show wpAny _ _ (if (((sIx items.size 0 lo:Nat):Int) == 0 && (1:Int) == 1 && (sIx items.size items.size hi-sIx items.size 0 lo) == items.size)=true then _ else _) _ _ s
  rw [if_pos hyes]; refine wpAny_bind (m:=Builtin.Tuple.tupleIsExact (.ref t)) ?_; unfold Builtin.Tuple.tupleIsExact; refine wpAny_bind (wpAny_typeOf ht.typeIs ?_); refine wpAny_pure ?_
  rw [if_pos (by decide)]
  exact wpAny_bind (wpAny_rule (wpAny_pure ⟨_,rfl,wpAny_pure h⟩))
end
end HT
namespace L2
open PySem PySem.Spec PyProof.Rows
section
variable {X:Cx}
theorem znG:SlR X (fun x lo hi H Q=>∃ a xs,x=.ref a∧SqT X.K H a xs∧((HT.sIx xs.length 0 lo=0∧HT.sIx xs.length xs.length hi=xs.length)→Q (.ref a) H) ∧
    (¬ (HT.sIx xs.length 0 lo=0∧HT.sIx xs.length xs.length hi=xs.length)→∀ p,H p=none→Q (.ref p) (upd H p (.tup (zkK xs lo hi))))):=by
  intro pins s σ H x v vl vu lo hi sl Q I rx hs pl pu h; obtain ⟨a,xs,rfl,hx,q1,q2⟩:=h
  by_cases hw:HT.sIx xs.length 0 lo=0∧HT.sIx xs.length xs.length hi=xs.length
  · cases rx
    obtain ⟨its,r,ht,hz⟩:=I.tuple hx
    have hlen:its.toArray.size=xs.length:=by rw [List.size_toArray]; exact r.length.symm
    refine ⟨"tuple",_,PyProof.Rows.slot_tuple_getitem.lookup,ht.typeIs,?_⟩
    exact HT.getItem_tuple_whole ht hs pl pu (by rw [hlen]; exact hw) ⟨.ref a,H,I,rfl,q1 hw⟩
  · exact zpE pins s σ H _ v vl vu lo hi sl Q I rx hs pl pu ⟨a,xs,rfl,hx,hw,q2 hw⟩
end
end L2
namespace PL
open PySem L2
section
variable {X:Cx} {K:PySem.W.Frag}
def zhe:R2':=fun x y Q=>∃ xs ys,x=.tup xs∧y=.tup ys∧xs.length+ys.length≤sizeLine∧Q (.tup (xs ++ ys))
theorem zqv:Op2 X (binaryOp .Add) zhe:=⟨_,zon,by
  rintro Hi H x y dx dy Q Q2 s d1 d2 ⟨xs,ys,rfl,rfl,hl,q⟩ fin
  obtain ⟨a,vs,rfl,h1,h2⟩:=d1.tupI; obtain ⟨b,us,rfl,h3,h4⟩:=d2.tupI
  refine ⟨a,b,vs,us,rfl,rfl,zaJ s.sub h1,zaJ s.sub h3,by rw [zf h2,zf h4]; exact hl,fun e=>?_,fun _ e=>?_,fun _ _ p hp=>?_⟩
  · subst e
    cases h2; exact fin Hi H _ _ (Ext.refl s) d2 q
  · subst e
    cases h4; rw [List.append_nil] at q; exact fin Hi H _ _ (Ext.refl s) d1 q
  · have e:=Ext.new s hp (.tup (vs ++ us))
    exact fin _ _ _ _ e (Den.mkT zO (zaU (h2.mono e.hi) (h4.mono e.hi))) q⟩
theorem zr4:Sli X zgo:=⟨_,znG,by
  rintro Hi H x dx lo hi Q Q2 s d1 ⟨ds,rfl,q⟩ fin
  obtain ⟨a,vs,rfl,h1,h2⟩:=d1.tupI; have hl:=zf h2
  refine ⟨a,vs,rfl,zaJ s.sub h1,fun hw=>?_,fun _ p hp=>?_⟩
  · have e:zcM ds lo hi=ds:=by
      unfold zcM; rw [← hl,hw.1,hw.2,List.drop_zero,Nat.sub_zero,hl,List.take_length]
    rw [e] at q; exact fin Hi H _ _ (Ext.refl s) d1 q
  · have e:=Ext.new s hp (.tup (zkK vs lo hi))
    exact fin _ _ _ _ e (Den.mkT zO (zkJ (h2.mono e.hi))) q⟩
def eqL (f:D→D→Option Bool):List D→List D→Option Bool
  | x :: xs,y :: ys=>match f x y,eqL f xs ys with
    | some a,some b=>some (a && b)
    | _,_=>none
  | [],[]=>some true
  | _,_=>some false
def eqD:Nat→D→D→Option Bool
  | n+1,.tup xs,.tup ys=>eqL (eqD n) xs ys
  | n+1,.lst xs,.lst ys=>if xs.length=ys.length then eqL (eqD n) xs ys else some false
  | _,x,y=>eqS x y
theorem zoU {x y:V} {dx dy:D} {b:Bool} {Hi:Hp} (d1:Den K Hi x dx) (d2:Den K Hi y dy) (h:eqS dx dy=some b):zeR x=true∧zeR y=true∧eqV x y=b:=by
  cases d1 <;> cases d2 <;> first
    | (exact absurd (show (none:Option Bool)=some b from h) (fun z=>nomatch z))
    | (refine ⟨rfl,rfl,?_⟩
       have h':=Option.some.inj h
       subst h'
       first
         | rfl
         | (show ((_:Int) == _)=decide _; rw [Bool.beq_eq_decide_eq])
         | (show ((_:Bool) == _)=decide _; rw [Bool.beq_eq_decide_eq])
         | (show ((_:Str) == _)=decide _
            rw [Bool.beq_eq_decide_eq]
            exact decide_eq_decide.mpr ⟨fun z=>st_inj z,fun z=>congrArg st z⟩))
theorem zep {x:V} {dx dy:D} {b:Bool} {Hi:Hp} (d1:Den K Hi x dx) (d2:Den K Hi x dy) (h:eqS dx dy=some b):b=true:=by
  obtain ⟨f1,f2,e⟩:=zoU d1 d2 h; rw [← e]
  cases x <;> first | rfl | (exact absurd (show false=true from f1) Bool.false_ne_true) | (show ((_:_) == _)=true; exact beq_self_eq_true _)
theorem zdF {f:D→D→Option Bool} {Hi:Hp} (hf:∀ v x y b,Den K Hi v x→Den K Hi v y→f x y=some b→b=true):∀ {vs:List V} {xs ys:List D} {b:Bool},zbN K Hi vs xs→zbN K Hi vs ys→eqL f xs ys=some b→b=true
  | [],_,_,b,.nil,.nil,h=>(Option.some.inj h).symm
  | v :: vs,x :: xs,y :: ys,b,.cons r1 t1,.cons r2 t2,h=>by
    unfold eqL at h
    cases e1:f x y with
    | none=>rw [e1] at h; cases h
    | some a =>
      cases e2:eqL f xs ys with
      | none=>rw [e1,e2] at h; cases h
      | some c =>
        rw [e1,e2] at h; rw [← Option.some.inj h,hf v x y a r1 r2 e1,zdF hf t1 t2 e2]; rfl
theorem zeq (x y:D):eqD 0 x y=eqS x y:=by cases x <;> cases y <;> rfl
section
variable {pins:List (Addr × Obj)} {σ:St} {H Hi:Hp} {s:Shared}
theorem ziD (I:L2.Inv X pins σ H s) (sub:za0 Hi H):∀ (n:Nat) (v:V) (x y:D) (b:Bool),Den X.K Hi v x→Den X.K Hi v y→eqD n x y=some b→b=true:=by
  intro n
  induction n with
  | zero =>
    intro v x y b d1 d2 h; rw [zeq] at h; exact zep d1 d2 h
  | succ n ih =>
    intro v x y b d1 d2 h
    cases x with
    | tup xs =>
      cases y with
      | tup ys =>
        obtain ⟨a,vs,rfl,h1,h2⟩:=d1.tupI; obtain ⟨a',us,e,h3,h4⟩:=d2.tupI; cases e; have e:=I.tuple_inj (zaJ sub h1) (zaJ sub h3); subst e; exact zdF ih h2 h4 h
      | _=>exact zep d1 d2 h
    | lst xs =>
      cases y with
      | lst ys =>
        obtain ⟨a,vs,rfl,h1,h2⟩:=d1.lstI; obtain ⟨a',us,e,h3,h4⟩:=d2.lstI; cases e; have e:=I.list_inj (zaI sub h1) (zaI sub h3); subst e
        have hl:xs.length=ys.length:=by rw [← zf h2,← zf h4]
        unfold eqD at h; rw [if_pos hl] at h; exact zdF ih h2 h4 h
      | _=>exact zep d1 d2 h
    | _=>exact zep d1 d2 h
theorem zc6 {f:D→D→Option Bool}:∀ {xs ys:List D} {b:Bool},eqL f xs ys=some b→∃ e:Nat→Bool,(∀ (j:Nat) x y,xs[j]?=some x→ys[j]?=some y→f x y=some (e j))∧b=((List.range (min xs.length ys.length)).all e && xs.length == ys.length)
  | [],[],b,h=>⟨fun _=>true,fun j x y h1 _=>by simp at h1,by simpa [eqL] using h.symm⟩
  | [],y :: ys,b,h=>⟨fun _=>true,fun j x y h1 _=>by simp at h1,by simpa [eqL] using h.symm⟩
  | x :: xs,[],b,h=>⟨fun _=>true,fun j x y _ h2=>by simp at h2,by simpa [eqL] using h.symm⟩
  | x :: xs,y :: ys,b,h=>by
    unfold eqL at h
    cases e1:f x y with
    | none=>rw [e1] at h; cases h
    | some a =>
      cases e2:eqL f xs ys with
      | none=>rw [e1,e2] at h; cases h
      | some c =>
        rw [e1,e2] at h; obtain ⟨e,h1,h2⟩:=zc6 e2
        refine ⟨fun j=>match j with | 0=>a | j+1=>e j,fun j x' y' hx hy=>?_,?_⟩
        · cases j with
          | zero=>simp at hx hy; subst hx; subst hy; exact e1
          | succ j=>exact h1 j x' y' (by simpa using hx) (by simpa using hy)
        · rw [← Option.some.inj h,h2]
          have hm:min (x :: xs).length (y :: ys).length=min xs.length ys.length+1:=by simp [Nat.succ_min_succ]
          rw [hm,List.range_succ_eq_map,List.all_cons,List.all_map]
          show (a && ((List.range (min xs.length ys.length)).all e && xs.length == ys.length))=((a && (List.range (min xs.length ys.length)).all e) && (x :: xs).length == (y :: ys).length)
          rw [Bool.and_assoc]
          congr 2
          simp
theorem zqT (I:L2.Inv X pins σ H s) (sub:za0 Hi H):∀ (n:Nat) (A:Around) (x y:V) (u v:Value) (dx dy:D) (b:Bool),A.units+n<cLine→Den X.K Hi x dx→Den X.K Hi y dy→zbi x u→zbi y v→eqD n dx dy=some b→SeqAt.EqAt A s u v b:=by
  intro n
  induction n with
  | zero =>
    intro A x y u v dx dy b hu d1 d2 rx ry h; rw [zeq] at h; obtain ⟨f1,f2,e⟩:=zoU d1 d2 h; rw [← e]; exact zkz rx ry f1 f2
  | succ n ih =>
    intro A x y u v dx dy b hu d1 d2 rx ry h
    have znL:eqS dx dy=some b→SeqAt.EqAt A s u v b:=fun h=>by
      obtain ⟨f1,f2,e⟩:=zoU d1 d2 h; rw [← e]; exact zkz rx ry f1 f2
    have items:∀ {vs ws:List V} {its jts:List Value} {xs ys:List D} {e:Nat→Bool},zbN X.K Hi vs xs→zbN X.K Hi ws ys→za3 vs its→za3 ws jts→(∀ (j:Nat) x y,xs[j]?=some x→ys[j]?=some y→eqD n x y=some (e j)) →
        ∀ j (h1:j<its.toArray.size) (h2:j<jts.toArray.size),SeqAt.EqAt A.in1 s its.toArray[j] jts.toArray[j] (e j):=fun {vs ws its jts xs ys e} r1 r2 v1 v2 he j h1 h2=>by
      have l1:j<vs.length:=by rw [v1.length]; simpa using h1
      have l2:j<ws.length:=by rw [v2.length]; simpa using h2
      obtain ⟨dx',e1,q1⟩:=zcK r1 (List.getElem?_eq_getElem l1); obtain ⟨dy',e2,q2⟩:=zcK r2 (List.getElem?_eq_getElem l2); obtain ⟨u1,e3,q3⟩:=v1.get (List.getElem?_eq_getElem l1); obtain ⟨u2,e4,q4⟩:=v2.get (List.getElem?_eq_getElem l2)
      have z1:its.toArray[j]=u1:=by
        have:=List.getElem?_eq_some_iff.mp e3
        obtain ⟨_,z⟩:=this
        simpa using z
      have z2:jts.toArray[j]=u2:=by
        have:=List.getElem?_eq_some_iff.mp e4
        obtain ⟨_,z⟩:=this
        simpa using z
      rw [z1,z2]
      exact ih A.in1 _ _ u1 u2 dx' dy' (e j) (by show A.units+1+n<cLine; omega) q1 q2 q3 q4 (he j dx' dy' e1 e2)
    cases dx with
    | tup xs =>
      cases dy with
      | tup ys =>
        obtain ⟨a,vs,rfl,h1,h2⟩:=d1.tupI; obtain ⟨c,ws,rfl,h3,h4⟩:=d2.tupI; cases rx; cases ry
        by_cases hac:a=c
        · subst hac
          have e:=I.tuple_inj (zaJ sub h1) (zaJ sub h3); subst e; rw [zdF (ziD I sub n) h2 h4 h]; exact SeqAt.EqAt.same _
        · obtain ⟨its,r1,p1,_⟩:=I.tuple (zaJ sub h1)
          obtain ⟨jts,r2,p2,_⟩:=I.tuple (zaJ sub h3); obtain ⟨e,he,hb⟩:=zc6 h
          have lx:xs.length=its.length:=by rw [← zf h2,r1.length]
          have ly:ys.length=jts.length:=by rw [← zf h4,r2.length]
          have hb':b=((List.range (min its.toArray.size jts.toArray.size)).all e && its.toArray.size == jts.toArray.size):=by
            rw [hb,lx,ly]; simp
          rw [hb']
          exact SeqAt.EqAt.of_refs hac (SeqAt.RcAt.tuples (show s.heap.IsTuple a its.toArray from p1) (show s.heap.IsTuple c jts.toArray from p2) (by omega) (items h2 h4 r1 r2 he))
      | _=>exact znL h
    | lst xs =>
      cases dy with
      | lst ys =>
        obtain ⟨a,vs,rfl,h1,h2⟩:=d1.lstI; obtain ⟨c,ws,rfl,h3,h4⟩:=d2.lstI; cases rx; cases ry; unfold eqD at h
        by_cases hac:a=c
        · subst hac
          have e:=I.list_inj (zaI sub h1) (zaI sub h3); subst e
          have hl:xs.length=ys.length:=by rw [← zf h2,← zf h4]
          rw [if_pos hl] at h; rw [zdF (ziD I sub n) h2 h4 h]; exact SeqAt.EqAt.same _
        · obtain ⟨its,r1,p1,_⟩:=I.list (zaI sub h1)
          obtain ⟨jts,r2,p2,_⟩:=I.list (zaI sub h3)
          have lx:xs.length=its.length:=by rw [← zf h2,r1.length]
          have ly:ys.length=jts.length:=by rw [← zf h4,r2.length]
          by_cases hl:xs.length=ys.length
          · rw [if_pos hl] at h
            obtain ⟨e,he,hb⟩:=zc6 h
            have hs:its.toArray.size=jts.toArray.size:=by simp; omega
            have hb':b=((List.range its.toArray.size).all e):=by
              rw [hb,lx,ly]
              have z:(its.length == jts.length)=true:=by simp; omega
              have z2:min its.length jts.length=its.length:=by omega
              rw [z,z2,Bool.and_true]; simp
            rw [hb']
            exact SeqAt.EqAt.of_refs hac (SeqAt.RcAt.lists p1.isList p2.isList hs (by omega) (items h2 h4 r1 r2 he))
          · rw [if_neg hl] at h
            cases h
            exact SeqAt.EqAt.of_refs hac (SeqAt.RcAt.lists_lengths p1.isList p2.isList (by simp; omega) (by omega))
      | _=>exact znL h
    | _=>exact znL h
end
end
end PL
namespace PL
open PySem L2
section
variable {X:Cx} {K:PySem.W.Frag}
section
variable {pins:List (Addr × Obj)} {σ:St} {H Hi:Hp} {s:Shared}
theorem ziy (I:L2.Inv X pins σ H s) (sub:za0 Hi H) {n:Nat} {A:Around} (hu:A.units+1+n<cLine) {vs ws:List V} {its jts:List Value} {xs ys:List D} {e:Nat→Bool} (r1:zbN X.K Hi vs xs) (r2:zbN X.K Hi ws ys) (v1:za3 vs its) (v2:za3 ws jts) (he:∀ (j:Nat) x y,xs[j]?=some x→ys[j]?=some y→eqD n x y=some (e j)) :
    ∀ j (h1:j<its.toArray.size) (h2:j<jts.toArray.size),SeqAt.EqAt A.in1 s its.toArray[j] jts.toArray[j] (e j):=fun j h1 h2=>by
  have l1:j<vs.length:=by rw [v1.length]; simpa using h1
  have l2:j<ws.length:=by rw [v2.length]; simpa using h2
  obtain ⟨dx',e1,q1⟩:=zcK r1 (List.getElem?_eq_getElem l1); obtain ⟨dy',e2,q2⟩:=zcK r2 (List.getElem?_eq_getElem l2); obtain ⟨u1,e3,q3⟩:=v1.get (List.getElem?_eq_getElem l1); obtain ⟨u2,e4,q4⟩:=v2.get (List.getElem?_eq_getElem l2)
  have z1:its.toArray[j]=u1:=by
    obtain ⟨_,z⟩:=List.getElem?_eq_some_iff.mp e3
    simpa using z
  have z2:jts.toArray[j]=u2:=by
    obtain ⟨_,z⟩:=List.getElem?_eq_some_iff.mp e4
    simpa using z
  rw [z1,z2]
  exact zqT I sub n A.in1 _ _ u1 u2 dx' dy' (e j) (by show A.units+1+n<cLine; omega) q1 q2 q3 q4 (he j dx' dy' e1 e2)
theorem ztf (I:L2.Inv X pins σ H s) (sub:za0 Hi H) {n:Nat} {A:Around} {x y:V} {u v:Value} {dx dy:D} {b:Bool} (hu:A.units+n<cLine) (d1:Den X.K Hi x dx) (d2:Den X.K Hi y dy) (rx:zbi x u) (ry:zbi y v) (h:eqD n dx dy=some b) (hn:eqS dx dy=none) :
    SeqAt.RcAt A s u v b∧SeqAt.RcNeAt A s u v (!b):=by
  cases n with
  | zero=>rw [zeq,hn] at h; cases h
  | succ n =>
    cases dx with
    | tup xs =>
      cases dy with
      | tup ys =>
        obtain ⟨a,vs,rfl,h1,h2⟩:=d1.tupI; obtain ⟨c,ws,rfl,h3,h4⟩:=d2.tupI; cases rx; cases ry; obtain ⟨its,r1,p1,_⟩:=I.tuple (zaJ sub h1); obtain ⟨jts,r2,p2,_⟩:=I.tuple (zaJ sub h3); obtain ⟨e,he,hb⟩:=zc6 h
        have lx:xs.length=its.length:=by rw [← zf h2,r1.length]
        have ly:ys.length=jts.length:=by rw [← zf h4,r2.length]
        have hb':b=((List.range (min its.toArray.size jts.toArray.size)).all e && its.toArray.size == jts.toArray.size):=by
          rw [hb,lx,ly]; simp
        have hi:=ziy (A:=A) I sub (by omega) h2 h4 r1 r2 he
        rw [hb']
        exact ⟨SeqAt.RcAt.tuples (show s.heap.IsTuple a its.toArray from p1) (show s.heap.IsTuple c jts.toArray from p2) (by omega) hi,SeqAt.RcNeAt.tuples (show s.heap.IsTuple a its.toArray from p1) (show s.heap.IsTuple c jts.toArray from p2) (by omega) hi⟩
      | _=>exact absurd (hn.symm.trans h) (fun z=>nomatch z)
    | lst xs =>
      cases dy with
      | lst ys =>
        obtain ⟨a,vs,rfl,h1,h2⟩:=d1.lstI; obtain ⟨c,ws,rfl,h3,h4⟩:=d2.lstI; cases rx; cases ry; unfold eqD at h; obtain ⟨its,r1,p1,_⟩:=I.list (zaI sub h1); obtain ⟨jts,r2,p2,_⟩:=I.list (zaI sub h3)
        have lx:xs.length=its.length:=by rw [← zf h2,r1.length]
        have ly:ys.length=jts.length:=by rw [← zf h4,r2.length]
        by_cases hl:xs.length=ys.length
        · rw [if_pos hl] at h
          obtain ⟨e,he,hb⟩:=zc6 h
          have hs:its.toArray.size=jts.toArray.size:=by simp; omega
          have hb':b=((List.range its.toArray.size).all e):=by
            rw [hb,lx,ly]
            have z:(its.length == jts.length)=true:=by simp; omega
            have z2:min its.length jts.length=its.length:=by omega
            rw [z,z2,Bool.and_true]; simp
          have hi:=ziy (A:=A) I sub (by omega) h2 h4 r1 r2 he
          rw [hb']
          exact ⟨SeqAt.RcAt.lists p1.isList p2.isList hs (by omega) hi,SeqAt.RcNeAt.lists p1.isList p2.isList hs (by omega) hi⟩
        · rw [if_neg hl] at h
          cases h
          exact ⟨SeqAt.RcAt.lists_lengths p1.isList p2.isList (by simp; omega) (by omega),SeqAt.RcNeAt.lists_lengths p1.isList p2.isList (by simp; omega) (by omega)⟩
      | _=>exact absurd (hn.symm.trans h) (fun z=>nomatch z)
    | _=>exact absurd (hn.symm.trans h) (fun z=>nomatch z)
end
def zg5:R2':=fun x y Q=>∃ b,eqD 100 x y=some b∧Q (.bl b)
def zjJ:R2':=fun x y Q=>∃ b,eqD 100 x y=some b∧Q (.bl (!b))
theorem ziC {n:Nat} {x y:D} {b c:Bool} (h:eqD n x y=some b) (e:eqS x y=some c):b=c:=by
  cases n with
  | zero=>rw [zeq,e] at h; exact (Option.some.inj h).symm
  | succ n =>
    have z:eqD (n+1) x y=eqS x y:=by
      cases x <;> first | rfl | (cases y <;> first | rfl | (exact absurd (show (none:Option Bool)=some c from e) (fun z=>nomatch z)))
    rw [z,e] at h; exact (Option.some.inj h).symm
theorem zc1 (hu:X.A.units+100<cLine):Op2 X (compareOp .Eq) zg5:=by
  refine ⟨fun x y H Q=>∃ Hi dx dy b,za0 Hi H∧Den X.K Hi x dx∧Den X.K Hi y dy∧eqD 100 dx dy=some b∧Q (.bl b) H,?_,?_⟩
  · intro pins s σ H x y v u Q I rx ry h
    obtain ⟨Hi,dx,dy,b,sub,d1,d2,e,q⟩:=h
    cases hn:eqS dx dy with
    | some c =>
      obtain ⟨h1,h2⟩:=znh d1 d2 hn; refine zst pins s σ H x y v u Q I rx ry ⟨h1,?_⟩; rw [h2,← ziC e hn]; exact q
    | none=>exact (ztf I sub hu d1 d2 rx ry e hn).1 X.prog X.w X.xe _ ⟨.bl b,H,I,rfl,q⟩
  · rintro Hi H x y dx dy Q Q2 s d1 d2 ⟨b,e,q⟩ fin
    exact ⟨Hi,dx,dy,b,s.sub,d1,d2,e,fin Hi H _ _ (Ext.refl s) (.bl b) q⟩
theorem zhy (hu:X.A.units+100<cLine):Op2 X (compareOp .NotEq) zjJ:=by
  refine ⟨fun x y H Q=>∃ Hi dx dy b,za0 Hi H∧Den X.K Hi x dx∧Den X.K Hi y dy∧eqD 100 dx dy=some b∧Q (.bl (!b)) H,?_,?_⟩
  · intro pins s σ H x y v u Q I rx ry h
    obtain ⟨Hi,dx,dy,b,sub,d1,d2,e,q⟩:=h
    cases hn:eqS dx dy with
    | some c =>
      obtain ⟨h1,h2⟩:=znh d1 d2 hn; refine zsr pins s σ H x y v u Q I rx ry ⟨h1,?_⟩; rw [h2,← ziC e hn]; exact q
    | none=>exact (ztf I sub hu d1 d2 rx ry e hn).2 X.prog X.w X.xe _ ⟨.bl (!b),H,I,rfl,q⟩
  · rintro Hi H x y dx dy Q Q2 s d1 d2 ⟨b,e,q⟩ fin
    exact ⟨Hi,dx,dy,b,s.sub,d1,d2,e,fin Hi H _ _ (Ext.refl s) (.bl (!b)) q⟩
instance:MR2 zg5:=⟨fun _ _ _ _ h ⟨b,e,q⟩=>⟨b,e,h _ q⟩⟩
instance:MR2 zjJ:=⟨fun _ _ _ _ h ⟨b,e,q⟩=>⟨b,e,h _ q⟩⟩
@[simp] theorem zsP (n:Nat) (i j:Int):eqD n (.int i) (.int j)=some (decide (i=j)):=by cases n <;> rfl
@[simp] theorem zeS (n:Nat) (i j:List Nat):eqD n (.str i) (.str j)=some (decide (i=j)):=by cases n <;> rfl
@[simp] theorem zoV (n:Nat):eqD n .non .non=some true:=by cases n <;> rfl
@[simp] theorem zrD {Q:D→Prop} (i j:Int):zg5 (.int i) (.int j) Q↔Q (.bl (decide (i=j))):=by simp [zg5]
@[simp] theorem zrB {Q:D→Prop} (i j:List Nat):zg5 (.str i) (.str j) Q↔Q (.bl (decide (i=j))):=by simp [zg5]
@[simp] theorem zrr {Q:D→Prop} (i j:Int):zjJ (.int i) (.int j) Q↔Q (.bl (!decide (i=j))):=by simp [zjJ]
@[simp] theorem zrp {Q:D→Prop} (i j:List Nat):zjJ (.str i) (.str j) Q↔Q (.bl (!decide (i=j))):=by simp [zjJ]
def plc (p:List (List Nat)):D:=.tup (p.map .str)
theorem ziA (f:D→D→Option Bool) (hf:∀ i j:List Nat,f (.str i) (.str j)=some (decide (i=j))):∀ p q:List (List Nat),eqL f (p.map .str) (q.map .str)=some (decide (p=q))
  | [],[]=>rfl
  | [],_ :: _=>by simp [eqL]
  | _ :: _,[]=>by simp [eqL]
  | a :: p,b :: q=>by
    simp only [List.map_cons,eqL,hf,ziA f hf p q]
    by_cases h1:a=b <;> by_cases h2:p=q <;> simp [h1,h2]
theorem zd0 (n:Nat) (p q:List (List Nat)):eqD (n+1) (plc p) (plc q)=some (decide (p=q)):=ziA _ (fun i j=>zeS n i j) p q
@[simp] theorem zrC {Q:D→Prop} (p q:List (List Nat)):zg5 (plc p) (plc q) Q↔Q (.bl (decide (p=q))):=by
  unfold zg5; rw [zd0]; simp
@[simp] theorem zrq {Q:D→Prop} (p q:List (List Nat)):zjJ (plc p) (plc q) Q↔Q (.bl (!decide (p=q))):=by
  unfold zjJ; rw [zd0]; simp
end
section
variable {K:PySem.W.Frag} {n:Nat} {W:Wd} {Hi Hi' H H':Hp} {Γ:Sts} {σ:St} {a:Addr} {o:OD}
theorem zfu {i:Nat} (h:i<n) (e:adr n W σ i=some a):σ[i]?=some (some (.ref a)):=by
  unfold adr at e; rw [if_pos h] at e; exact zdd e
end
section
variable {X:Cx}
def zn (n i:Nat) (t:TS'):TS':=fun N Γ=>i<n∧∃ o,Γ[i]?=some (.own o)∧t N (Γ.set i (.val o.toD))
def zak (i:Nat) (te:TE'):TS':=fun N Γ=>(∃ ds0,Γ[i]?=some (.own (.lst ds0)))∧te Γ fun d Γ1=>∃ ds,Γ1[i]?=some (.own (.lst ds))∧ds.length<sizeLine∧N.nx (Γ1.set i (.own (.lst (ds ++ [d]))))
theorem zdV (i:Nat) {x:Str} {e:Expr} {te:TE'} {pos p apos cpos:Pos} (he:PE' X e te) (hN:X.N[i]?=some x:=by rfl) (hv:Vis X.env.scope x:=by first | exact Or.inl rfl | exact Or.inr (Or.inl rfl) | exact Or.inr (Or.inr rfl)) (hd:(x == ("__debug__":Str))=false:=by decide)
    (hcd:(x == ("__classdict__":Str))=false:=by decide) (hst:zc4 e=false:=by rfl)
    (hbase:attributeBase (.Name x p) "append" X.env (eval (.Name x p) X.env)=eval (.Name x p) X.env:=by rfl) (hline:(apos.endLine == cpos.line)=true:=by rfl)
    (hs:swapsWith (.Call (.Attribute (.Name x p) "append" apos) [e] [] cpos) none pos.line X.env=pure false:=by rfl) :
    PS' X (.Expr (.Call (.Attribute (.Name x p) "append" apos) [e] [] cpos) pos) (zak i te):=by
  have pl:zch [e]=true:=by unfold zch; rw [hst]; rfl
  have hfew:((backTo cpos (starEach [e] X.env)).all (fun x=>!x.1) && (backToKw cpos (keywordEach [] X.env)).all (fun x=>x.1.isSome)
      && decide ([e].length+([]:List Keyword).length+(if ([]:List Keyword).isEmpty then 0 else 1)<30))=true:=by
    rw [zaP hst]; rfl
  have base:=zeE (zj5 PySem.F.plainAttrs_list PySem.F.slot_list_append PySem.F.type_list_append (zc2 (X:=X)) (zcX (i:=i) (pos:=p) hN hv hd hcd) (zcL he.h zfh (zaP hst)) hbase hfew hline (zaP hst) rfl) hs; refine ⟨PS.weak base ?_⟩
  rintro N2 σ H ⟨W,Hi,Γ,N,g,⟨⟨ds0,e0⟩,q⟩,l⟩
  have hi:i<X.N.length:=(List.getElem?_eq_some_iff.mp hN).1
  obtain ⟨a,h1,h2,h3,vs0,h4,h5⟩:=g.own i _ e0; refine ⟨.ref a,zfu hi h1,.inl ⟨rfl,vs0,SqL.of h4⟩,W,Hi,Γ,_,g,q,?_⟩
  rintro v H1 ⟨Hi1,d,Γ1,s1,g1,den,ds,e1,hl,q1⟩
  obtain ⟨a',k1,k2,k3,vs,k4,k5⟩:=g1.own i _ e1; rw [h1] at k1; cases k1
  refine ⟨a,vs,v,rfl,rfl,k4,by rw [zf k5]; exact hl,?_⟩
  exact l.nx σ _ Hi1 _ s1 (g1.put (o:=.lst (ds ++ [d])) e1 h1 ⟨vs ++ [v],zO,zaU k5 (.cons den .nil)⟩) q1
instance {i:Nat} {te:TE'} [ME te]:MS (zak i te):=⟨fun N N' Γ h ⟨a,q⟩=>⟨a,ME.mono (t:=te) _ _ _ (fun _ _ ⟨ds,e,l,z⟩=>⟨ds,e,l,h.nx _ z⟩) q⟩⟩
end
end PL
namespace PL
open PySem L2
inductive Imm:D→Prop where
  | non:Imm .non
  | bl (b:Bool):Imm (.bl b)
  | int (i:Int):Imm (.int i)
  | str (l:List Nat):Imm (.str l)
  | ty (n:String):Imm (.ty n)
  | cls (C:Addr):Imm (.cls C)
  | tup {ds:List D} (h:∀ d,d ∈ ds→Imm d):Imm (.tup ds)
theorem Imm.plc (p:List (List Nat)):Imm (plc p):=.tup fun d hd=>by
  obtain ⟨l,_,rfl⟩:=List.mem_map.mp hd; exact .str l
theorem Imm.den {K:PySem.W.Frag} {H H':Hp} {v:V} {d:D} (im:Imm d) (h:Den K H v d) (e:∀ a xs,(H a=some (.tup xs)→H' a=some (.tup xs))∧∀ o,H a=some (.frz o (.tup xs))→H' a=some (.frz o (.tup xs))):Den K H' v d:=by
  induction h with
  | non=>exact .non
  | bl b=>exact .bl b
  | int i=>exact .int i
  | str l=>exact .str l
  | ty n=>exact .ty n
  | cls C=>exact .cls C
  | tup h l r ih =>
    cases im with
    | tup hi =>
      exact .tup ((e _ _).1 h) l fun j v d h1 h2=>ih j v d h1 h2 (hi d (List.mem_of_getElem? h2))
  | _=>cases im
def zbk:Slot→Slot
  | .own o=>.val o.toD
  | .val d=>.val d
  | .bk d _ xs=>.val (d xs.toD)
  | _=>.emp
section
variable {K:PySem.W.Frag} {n:Nat} {W:Wd} {Hi Hi' H H':Hp} {Γ:Sts} {σ:St} {a:Addr} {o:OD}
def zd4 (n:Nat) (W:Wd) (Γ:Sts) (σ:St) (b:Addr):Prop:=(∃ (i:Nat) (o:OD),i<n∧Γ[i]?=some (.own o)∧adr n W σ i=some b)∨∃ (i:Nat) (d:D→D) (xs:OD),Γ[i]?=some (.bk d b xs)
open Classical in
noncomputable def zcb (n:Nat) (W:Wd) (Γ:Sts) (σ:St) (Hi H:Hp):Hp:=fun b=>if zd4 n W Γ σ b then H b else Hi b
open Classical in
noncomputable def zcv (n:Nat) (W:Wd) (Γ:Sts) (σ:St) (Hb:Hp):Hp:=fun b=>if zd4 n W Γ σ b then none else Hb b
theorem zd4.hi (g:Good K n W Hi Γ σ H) {b:Addr} (h:zd4 n W Γ σ b):Hi b=none∧∃ u,H b=some u∧(∀ xs,u≠.tup xs)∧∀ o xs,u≠.frz o xs:=by
  have key:∃ o,Hi b=none∧zbF K Hi H b o:=by
    rcases h with ⟨i,o,hi,e,ad⟩ | ⟨i,d,xs,e⟩
    · obtain ⟨a,h1,h2,h3,h4⟩:=g.own i o e
      rw [ad] at h1; cases h1; exact ⟨o,h2,h4⟩
    · exact ⟨xs,(g.bk i d b xs e).hi,(g.bk i d b xs e).at_⟩
  obtain ⟨o,h2,h4⟩:=key; refine ⟨h2,?_⟩
  cases o with
  | lst ds=>obtain ⟨vs,q,_⟩:=h4; exact ⟨_,q,⟨fun _ z=>(by cases z),fun _ _ z=>(by cases z)⟩⟩
  | dic ds=>obtain ⟨kvs,q,_⟩:=h4; exact ⟨_,q,⟨fun _ z=>(by cases z),fun _ _ z=>(by cases z)⟩⟩
  | dit ds=>obtain ⟨kvs,ep,q,_⟩:=h4; exact ⟨_,q,⟨fun _ z=>(by cases z),fun _ _ z=>(by cases z)⟩⟩
  | obj C ds=>obtain ⟨dx,fs,q,_⟩:=h4; exact ⟨_,q,⟨fun _ z=>(by cases z),fun _ _ z=>(by cases z)⟩⟩
def zY (n:Nat) (Γ:Sts):Sts:=(Γ.take n).map zbk
theorem Good.look (g:Good K n W Hi Γ σ H):za0 Hi (zcb n W Γ σ Hi H)∧Good K n ⟨H,zcb n W Γ σ Hi H,[]⟩ (zcb n W Γ σ Hi H) (zY n Γ) σ H:=by
  have s1:za0 Hi (zcb n W Γ σ Hi H):=fun b u e=>by
    unfold zcb
    rw [if_neg (fun z=>by rw [(zd4.hi g z).1] at e; cases e)]
    exact e
  have inv:∀ (i:Nat) (sl:Slot),(zY n Γ)[i]?=some sl→∃ s0,Γ[i]?=some s0∧i<n∧sl=zbk s0:=fun i sl e=>by
    unfold zY at e; rw [List.getElem?_map] at e
    cases hj:(Γ.take n)[i]? with
    | none=>rw [hj] at e; cases e
    | some s0 =>
      rw [hj] at e; rw [List.getElem?_take] at hj; split at hj
      · exact ⟨s0,hj,by assumption,(Option.some.inj e).symm⟩
      · cases hj
  refine ⟨s1,g.len,⟨fun b u e=>?_,fun b xs e=>s1 _ _ (g.fz.tups b xs e)⟩,fun b u e _=>e,fun b u e=>⟨u,e⟩,fun b u e=>rfl,fun i d e=>?_,fun i o e=>?_,fun i j o o' a e=>?_,fun i d b xs e=>?_⟩
  · unfold zcb at e
    split at e
    · exact e
    · exact g.sub b u e
  · obtain ⟨s0,hj,hi,hs⟩:=inv i _ e
    cases s0 with
    | val d' =>
      cases hs; obtain ⟨v,h1,h2⟩:=g.val i d hj; exact ⟨v,h1,h2.mono s1⟩
    | own o =>
      cases hs; obtain ⟨a,h1,h2,h3,h4⟩:=g.own i o hj; refine ⟨.ref a,zfu hi h1,?_⟩
      have hO:zd4 n W Γ σ a:=.inl ⟨i,o,hi,hj,h1⟩
      have hl:zcb n W Γ σ Hi H a=H a:=by unfold zcb; rw [if_pos hO]
      cases o with
      | lst ds=>obtain ⟨vs,q,r⟩:=h4; exact Den.mkL (SqL.of (hl.trans q)) (r.mono s1)
      | dic ds=>obtain ⟨kvs,q,r⟩:=h4; exact Den.mkDK (.inl (hl.trans q)) (r.mono s1)
      | dit ds=>obtain ⟨kvs,ep,q,r⟩:=h4; exact Den.mkDT (hl.trans q) (r.mono s1)
      | obj C ds=>obtain ⟨dx,fs,q,r⟩:=h4; exact Den.mkO (hl.trans q) (r.mono s1)
    | emp=>cases hs
    | bk d' b xs =>
      cases hs
      obtain ⟨⟨v,h1,h2⟩,hol,_,_,h4,_⟩:=g.bk i d' b xs hj
      have hl:zcb n W Γ σ Hi H b=H b:=by unfold zcb; rw [if_pos (.inr ⟨i,d',xs,hj⟩)]
      refine ⟨v,h1,hol b _ v xs ?_ (h2.mono s1)⟩
      cases xs with
      | lst ds=>obtain ⟨vs,q,r⟩:=h4; exact Den.mkL (SqL.of (hl.trans q)) (r.mono s1)
      | dic ds=>obtain ⟨kvs,q,r⟩:=h4; exact Den.mkDK (.inl (hl.trans q)) (r.mono s1)
      | dit ds=>obtain ⟨kvs,ep,q,r⟩:=h4; exact Den.mkDT (hl.trans q) (r.mono s1)
      | obj C ds=>obtain ⟨dx,fs,q,r⟩:=h4; exact Den.mkO (hl.trans q) (r.mono s1)
  all_goals
    obtain ⟨s0,hj,hi,hs⟩:=inv i _ e
    cases s0 <;> cases hs
theorem Good.unlook (g:Good K n W Hi Γ σ H) {Hb:Hp} {Γ':Sts} (sb:za0 (zcb n W Γ σ Hi H) Hb) (g':Good K n ⟨H,zcb n W Γ σ Hi H,[]⟩ Hb Γ' σ H') :
    Ext Hi H (zcv n W Γ σ Hb) H'∧Good K n W (zcv n W Γ σ Hb) Γ σ H'∧∀ v d,Imm d→Den K Hb v d→Den K (zcv n W Γ σ Hb) v d:=by
  have kp:∀ b u,H b=some u→H' b=some u:=fun b u e=>g'.keep b u e (by simp)
  have s1:za0 Hi (zcv n W Γ σ Hb):=fun b u e=>by
    have no:¬ zd4 n W Γ σ b:=fun z=>by rw [(zd4.hi g z).1] at e; cases e
    unfold zcv; rw [if_neg no]; refine sb b u ?_; unfold zcb; rw [if_neg no]; exact e
  have ex:Ext Hi H (zcv n W Γ σ Hb) H':=by
    refine ⟨s1,kp,⟨fun b u e=>?_,fun b xs e=>?_⟩,fun b u e=>?_⟩
    · unfold zcv at e
      split at e
      · cases e
      · exact g'.sub b u e
    · have z:=g'.fz.tups b xs e
      have no:¬ zd4 n W Γ σ b:=fun z=>by
        obtain ⟨_,w,hw,w1,_⟩:=zd4.hi g z; rw [kp b w hw] at e; cases e; exact w1 xs rfl
      unfold zcv; rw [if_neg no]; exact z
    · unfold zcv
      split
      · rename_i z
        exact (zd4.hi g z).1.symm
      · rename_i z
        rw [g'.fro b u e]
        show zcb n W Γ σ Hi H b=Hi b
        unfold zcb; rw [if_neg z]
  refine ⟨ex,g.ext ex,fun v d im den=>im.den den fun b xs=>?_⟩
  have no:∀ u,Hb b=some u→((∃ xs,u=.tup xs)∨∃ o xs,u=.frz o xs)→¬ zd4 n W Γ σ b:=fun u e hu z=>by
    obtain ⟨_,w,hw,w1,w2⟩:=zd4.hi g z; have e2:=g'.sub b u e; rw [kp b w hw] at e2; cases e2
    rcases hu with ⟨xs,hu⟩ | ⟨o,xs,hu⟩
    · exact w1 xs hu
    · exact w2 o xs hu
  constructor
  · intro e
    unfold zcv; rw [if_neg (no _ e (.inl ⟨_,rfl⟩))]; exact e
  · intro o e
    unfold zcv; rw [if_neg (no _ e (.inr ⟨_,_,rfl⟩))]; exact e
end
section
variable {X:Cx}
def zag (n:Nat) (t:TE'):TE':=fun Γ Q=>t (zY n Γ) fun d _=>Imm d∧Q d Γ
def zE (n:Nat) (t:TT'):TT':=fun Γ Q=>t (zY n Γ) fun b _=>Q b Γ
theorem zc0 {e:Expr} {t:TE'} (h:PE' X e t):PE' X e (zag X.N.length t):=by
  refine ⟨PE.weak h.h ?_⟩
  rintro σ H Q ⟨W,Hi,Γ,Q',g,q,fin⟩
  obtain ⟨s1,g1⟩:=g.look; refine ⟨_,_,_,_,g1,q,?_⟩
  rintro v H' ⟨Hb,d,Γ',sb,g',den,im,q'⟩
  obtain ⟨s2,g2,hd⟩:=g.unlook sb g'; exact fin v H' ⟨_,d,Γ,s2.hi,g2,hd v d im den,q'⟩
theorem zfK {e:Expr} {t:TT'} (h:PT' X e t):PT' X e (zE X.N.length t):=by
  refine ⟨PT.weak h.h ?_⟩
  rintro σ H Q ⟨W,Hi,Γ,Q',g,q,fin⟩
  obtain ⟨s1,g1⟩:=g.look; refine ⟨_,_,_,_,g1,q,?_⟩; intro b H' Hb Γ' sb g' q'; obtain ⟨s2,g2,hd⟩:=g.unlook sb g'; exact fin b H' _ Γ s2.hi g2 q'
instance {n:Nat} {t:TE'} [ME t]:ME (zag n t):=⟨fun Γ _ _ h q=>ME.mono (t:=t) _ _ _ (fun _ _ ⟨a,z⟩=>⟨a,h _ _ z⟩) q⟩
end
end PL
namespace L2
open PySem PySem.Spec PyProof.Rows
section
variable {P:Program} {w:World} {H:Hp} {h:Heap} {a:Addr} {kvs:List (List Key × V)} {ep:Nat}
theorem zmE (ok:HOk P w H h) (e:H a=some (.dE kvs ep)):kvs.length≤sizeLine∧(a == sysModules)=false ∧
    ∃ xs,KT H kvs xs∧h.DictOfH (tupleKind (zbb P w)) a xs∧∃ o es,h.get? a=some o∧o.ExactDict∧o.data=.dict es ep∧es.toList=xs.map (entryOfKey (tupleKind (zbb P w))):=by
  obtain ⟨z,y,xs,r,o,es,h1,h2,h3,h4,h5⟩:=(show zbM P w H h a (.dE kvs ep) from ok a _ e)
  refine ⟨z,y,xs,r,⟨o,es,ep,h1,h2,h3,h4,fun x hx=>?_,h5⟩,o,es,h1,h2,h3,h4⟩
  obtain ⟨j,hj⟩:=List.getElem?_of_mem hx
  have hl:j<kvs.length:=by
    rw [Paired.length r]; exact (List.getElem?_eq_some_iff.mp hj).1
  have q:=PL.paired_get j r (List.getElem?_eq_getElem hl) hj
  exact zfm ok (by rw [← q.1]; exact q.2.1)
end
def zpn (H:Hp) (a:Addr) (y:V) (r:Option V):Prop:=∃ kvs ep k b,H a=some (.dE kvs ep)∧y=.ref b∧H b=some (.tup (k.map kV))∧r=ze6 kvs k
section
variable {X:Cx} {pins:List (Addr × Obj)} {σ:St} {H:Hp} {s:Shared} {a:Addr} {y v:V} {u r:Value} {o:Option V} {A:Around} {E:Value→Shared→Prop}
theorem zmy (I:Inv X pins σ H s) (g:zpn H a y o):s.TypeIs (.ref a) "dict":=by
  obtain ⟨kvs,ep,k,b,e,_⟩:=g; obtain ⟨_,_,xs,_,dd,_⟩:=zmE I.hok e; exact dd.typeIs
theorem zkA {Q:Value→Shared→Prop} (hu:A.units+1<cLine) (I:Inv X pins σ H s) (g:zpn H a y (some v)) (ry:zbi y u) (h:∀ w' s',Inv X pins σ H s'→zbi v w'→Q w' s') :
    wpAny (model X.prog X.w) A (getItem (.ref a) u) Q E s:=by
  obtain ⟨kvs,ep,k,b,e,ey,eb,l⟩:=g; subst ey
  cases (show u=Value.ref b from ry)
  obtain ⟨z,hd,xs,rel,dd,_⟩:=zmE I.hok e
  obtain ⟨w',hw,rw'⟩:=ziL.some_of (v:=v) (o:=(atKey xs k).map (·.2)) (by rw [l]; exact rel.val k)
  obtain ⟨p,hp,hp2⟩:=Option.map_eq_some_iff.mp hw; refine wpAny_getItem_heap (tupleKind_room_in1 hu) (zfm I.hok eb) dd hp ?_; rw [hp2]; exact h w' _ (I.tok _) rw'
theorem zoW {Q:Value→Shared→Prop} (hu:A.units+1<cLine) (I:Inv X pins σ H s) (g:zpn H a y o) (ry:zbi y u) (h:∀ s',Inv X pins σ H s'→Q (.bool (!o.isSome)) s') :
    wpAny (model X.prog X.w) A (compareOp .NotIn u (.ref a)) Q E s:=by
  obtain ⟨kvs,ep,k,b,e,ey,eb,l⟩:=g; subst ey
  cases (show u=Value.ref b from ry)
  obtain ⟨z,hd,xs,rel,dd,_⟩:=zmE I.hok e; refine wpAny_notIn_heap (tupleKind_room_in1 hu) (zfm I.hok eb) hd dd ?_; have q:=(rel.val k).isSome_eq; rw [Option.isSome_map] at q; rw [← q,← l]; exact h _ (I.tok _)
end
section
variable {X:Cx}
theorem zoK (hu:X.A.units+1<cLine):IxR X (fun x y H Q=>∃ a v,x=.ref a∧zpn H a y (some v)∧Q v H):=by
  intro value slice pins s σ H x y v u Q I rx ry h hs; obtain ⟨a,w,rfl,g,q⟩:=h; cases rx
  exact tail_any (zmy I g) PySem.F.slot_dict_getitem.lookup (zkA hu I g ry fun w' s3 I3 rw'=>⟨w,H,I3,rw',q⟩) hs
theorem zj9 (hu:X.A.units+1<cLine):OpR X (compareOp .NotIn) (fun x y H Q=>∃ a o,y=.ref a∧zpn H a x o∧Q (.bl (!o.isSome)) H):=by
  intro pins s σ H x y v u Q I rx ry h; obtain ⟨a,o,rfl,g,q⟩:=h; cases ry
  exact zoW hu I g rx fun s' I'=>⟨.bl _,H,I',rfl,q⟩
end
end L2
namespace PL
open PySem L2
section
variable {K:PySem.W.Frag} {H Hi:Hp}
theorem zoY {v:V}:∀ {k:Key},Den K H v (keyD k)→v=kV k
  | .inl i,h=>h.intI
  | .inr x,h=>h.strI
theorem ziG:∀ {vs:List V} {ks:List Key},zbN K H vs (ks.map keyD)→vs=ks.map kV
  | [],[],_=>rfl
  | [],_ :: _,h=>nomatch h
  | _ :: _,[],h=>nomatch h
  | v :: vs,k :: ks,.cons r t=>by rw [List.map_cons,← zoY r,← ziG t]
theorem zit {a b:Key} (h:keyD a=keyD b):a=b:=by
  cases a with
  | inl i=>cases b with
    | inl j=>injection h with h; rw [h]
    | inr y=>cases h
  | inr x=>cases b with
    | inl j=>cases h
    | inr y =>
      injection h with h
      obtain ⟨⟨x⟩⟩:=x
      obtain ⟨⟨y⟩⟩:=y
      exact congrArg (fun l=>Sum.inr (Str.mk ⟨l⟩)) h
theorem zgD:∀ {a b:List Key},a.map keyD=b.map keyD→a=b
  | [],[],_=>rfl
  | [],_ :: _,h=>nomatch h
  | _ :: _,[],h=>nomatch h
  | x :: a,y :: b,h=>by
    injection h with h1 h2
    rw [zit h1,zgD h2]
theorem zmC {v:V} {ks:List Key} (h:Den K Hi v (.tup (ks.map keyD))):∃ b,v=.ref b∧Hi b=some (.tup (ks.map kV)):=by
  obtain ⟨a,vs,rfl,h1,h2⟩:=h.tupJ; rw [ziG h2] at h1; exact ⟨a,rfl,h1⟩
open Classical in
noncomputable def zdH (ds:List (D × D)) (k:D):Option D:=(ds.find? fun p=>decide (p.1=k)).map (·.2)
open Classical in
theorem zeX {p:D × D} {r:List (D × D)} {k:D} (e:p.1=k):zdH (p :: r) k=some p.2:=by simp [zdH,List.find?_cons,e]
theorem zeY {p:D × D} {r:List (D × D)} {k:D} (e:¬ p.1=k):zdH (p :: r) k=zdH r k:=by simp [zdH,List.find?_cons,e]
inductive OptD (K:PySem.W.Frag) (H:Hp):Option V→Option D→Prop where
  | none:OptD K H none none
  | some {v:V} {d:D} (h:Den K H v d):OptD K H (some v) (some d)
theorem zsL {kvs:List (List Key × V)} {ds:List (D × D)} (r:zpa K H kvs ds) (ks:List Key):OptD K H (ze6 kvs ks) (zdH ds (.tup (ks.map keyD))):=by
  induction r with
  | nil=>exact .none
  | @cons p q ps qs h t ih =>
    by_cases e:p.1=ks
    · rw [zdy e,zeX (h.1.trans (by rw [e]))]
      exact .some h.2
    · rw [zdz e,zeY (fun z=>e (zgD (by
        have:=h.1.symm.trans z
        injection this)))]
      exact ih
theorem OptD.isSome {o:Option V} {d:Option D} (h:OptD K H o d):o.isSome=d.isSome:=by cases h <;> rfl
open Classical in
end
section
variable {X:Cx}
def zhd:R2':=fun x y Q=>∃ (ds:List (D × D)) (ks:List Key) (v:D),x=.dit ds∧y=.tup (ks.map keyD)∧zdH ds y=some v∧Q v
def zry (neg:Bool):R2':=fun x y Q=>∃ (ks:List Key) (ds:List (D × D)),x=.tup (ks.map keyD)∧y=.dit ds∧Q (.bl (if neg then !(zdH ds x).isSome else (zdH ds x).isSome))
theorem zqZ {K:PySem.W.Frag} {Hi H:Hp} {x y:V} {ds:List (D × D)} {ks:List Key} (s:Fz Hi H) (d1:Den K Hi x (.dit ds)) (d2:Den K Hi y (.tup (ks.map keyD))):∃ a o,x=.ref a∧zpn H a y o∧OptD K Hi o (zdH ds (.tup (ks.map keyD))):=by
  obtain ⟨a,kvs,ep,rfl,h1,h2⟩:=d1.ditI; obtain ⟨b,rfl,h3⟩:=zmC d2; exact ⟨a,_,rfl,⟨kvs,ep,ks,b,s.sub _ _ h1,rfl,s.sub _ _ h3,rfl⟩,zsL h2 ks⟩
theorem zsG (hu:X.A.units+1<cLine):Ixs X zhd:=⟨_,zoK hu,by
  rintro Hi H x y dx dy Q Q2 s d1 d2 ⟨ds,ks,v,rfl,rfl,e,q⟩ fin
  obtain ⟨a,o,rfl,g,r⟩:=zqZ s d1 d2; rw [e] at r
  cases r with
  | some h=>exact ⟨a,_,rfl,g,fin Hi H _ _ (Ext.refl s) h q⟩⟩
theorem zlO (hu:X.A.units+1<cLine):Op2 X (compareOp .NotIn) (zry true):=⟨_,zj9 hu,by
  rintro Hi H x y dx dy Q Q2 s d1 d2 ⟨ks,ds,rfl,rfl,q⟩ fin
  obtain ⟨a,o,rfl,g,r⟩:=zqZ s d2 d1; refine ⟨a,o,rfl,g,?_⟩; rw [r.isSome]; exact fin Hi H _ _ (Ext.refl s) (.bl _) q⟩
end
end PL
namespace PySem
section
variable {prog:Program} {w:World} {A:Around} {E:Value→Shared→Prop} {s:Shared} {dd kk:Addr} {ob:Obj} {ens:Array DictEntry} {tick nn:Nat}
theorem zct (hob:s.heap.get? dd=some ob) (hex:ob.ExactDict):s.TypeIs (.ref dd) "dict":=⟨ob,hob,hex.1⟩
theorem zgC {Q:Value→Shared→Prop} (hsys:(dd == sysModules)=false) (hob:s.heap.get? dd=some ob) (hex:ob.ExactDict) (hdt:ob.data=.dict ens tick)
    (fin:Q (.ref s.heap.objs.size) { s with heap:=s.heap.push { cls:=.type "dict_keyiterator",data:=.fields #[.ref dd,.int 0 0,.int ens.size 0,.int tick 0] } }) :
    wpAny (model prog w) A (pyIter (.ref dd)) Q E s:=by
  have ty:=zct hob hex; refine wpAny_pyIter_slot ty F.slot_dict_iter (wpAny_call_entry F.slot_dict_iter ty F.entry_dict_iter ?_ (F.args_dict_iter_1 _))
  unfold Builtin.«dict.__iter__» Builtin.Dict.dictSlotNone
  refine wpAny_bind (wpAny_bind (wpAny_notOrdered_dict ty ?_))
  show wpAny _ _ (pure (Value.ref dd)) _ _ s
  refine wpAny_pure (show wpAny _ _ (Builtin.Dict.showsAll dd >>= _) _ _ s from ?_)
  unfold Builtin.Dict.showsAll
  rw [if_neg (by rw [hsys]; exact Bool.false_ne_true)]
  refine wpAny_bind (wpAny_pure (wpAny_bind (wpAny_dictEntries hob hdt (wpAny_bind (wpAny_dictEpoch hob hdt ?_))))); refine wpAny_bind (wpAny_newObj_type (wpAny_pure ⟨_,rfl,"dict_keyiterator",_,⟨_,Heap.get?_push_size _ rfl,rfl⟩,F.slot_dict_keyiterator_next.lookup,?_⟩))
  simpa [rawInt] using fin
theorem zhI {ii:Nat} {Q:Option Value→Shared→Prop} (st:s.heap.IsKeyIter kk dd ii ens.size tick) (hob:s.heap.get? dd=some ob) (hdt:ob.data=.dict ens tick) (lt:ii<ens.size)
    (fin:∀ h2,h2.IsKeyIter kk dd (ii+1) ens.size tick→Heap.SameBut kk s.heap h2→Q (some ens[ii].key) { s with heap:=h2 }):wpAny (model prog w) A (pyNext (.ref kk)) Q E s:=by
  obtain ⟨ki,hki,hkc,hkd⟩:=id st; have ty:=st.typeIs; unfold pyNext; refine wpAny_bind (wpAny_attempt (wpAny_callSpecial?_slot (name:=Str.ofString "__next__") ty F.slot_dict_keyiterator_next (wpAny_call_entry F.slot_dict_keyiterator_next ty F.entry_dict_keyiterator_next ?_ (F.args_dict_keyiterator_next_1 _)))); refine wpAny_bind (wpAny_pure (wpAny_bind (wpAny_bind ?_)))
  first
    | refine wpAny_bind (wpAny_typeNameOfWhole_keyiter ty (wpAny_pure (wpAny_bind (wpAny_fieldsOf hki hkd ?_))))
    | refine wpAny_bind (wpAny_typeNameOf_keyiter ty (wpAny_pure (wpAny_bind (wpAny_fieldsOf hki hkd ?_))))
  simp only [show Builtin.Dict_items.ownsTuple "dict_keyiterator"=false by decide,Bool.false_eq_true,if_false]
  show wpAny _ _ (if (Value.ref dd == Value.none)=true then _ else _) _ _ s
  rw [if_neg (show ¬ ((Value.ref dd == Value.none)=true) from Bool.false_ne_true)]
  refine wpAny_bind (wpAny_pure (wpAny_bind (wpAny_dictEntries hob hdt ?_)))
  rw [if_neg (by simp)]
  refine wpAny_bind (wpAny_pure (wpAny_bind (wpAny_dictEpoch hob hdt ?_)))
  rw [if_neg (by simp)]
  refine wpAny_pure ?_
  simp only [show ¬ ((ii:Int)<0) from by omega,if_false,Int.toNat_natCast,Array.getElem?_eq_getElem lt]
  refine wpAny_bind ?_
  first
    | refine wpAny_bind (wpAny_typeNameOfWhole_keyiter ty (wpAny_pure (wpAny_bind (wpAny_isOneOf_keyiter ty ?_))))
    | refine wpAny_bind (wpAny_typeNameOf_keyiter ty (wpAny_pure (wpAny_bind (wpAny_isOneOf_keyiter ty ?_))))
  show wpAny _ _ (setField (.ref kk) 1 (rawInt ((ii:Int)+1)) >>= _) _ _ s
  have st2:(s.heap.update kk (Obj.mapFields (·.setIfInBounds 1 (rawInt ((ii:Int)+1))))).IsKeyIter kk dd (ii+1) ens.size tick :=
    ⟨_,Heap.get?_update_self _ hki (Obj.isFreed_of_fields (Obj.data_mapFields hkd _)),(Obj.cls_mapFields ..).trans hkc,by rw [Obj.data_mapFields hkd]; simp [rawInt]⟩
  refine wpAny_bind (wpAny_setField hki hkd (by simp) (wpAny_bind (wpAny_holding ?_)))
  refine wpAny_bind (wpAny_isOneOf_keyiter (s:={ s with heap:=s.heap.update kk (Obj.mapFields (·.setIfInBounds 1 (rawInt ((ii:Int)+1)))) }) st2.typeIs ?_)
  show wpAny _ _ (pure ens[ii].key) _ _ _
  exact wpAny_pure (wpAny_pure ⟨_,rfl,wpAny_pure (fin _ st2 (Heap.SameBut.update ..))⟩)
theorem zjg {ii:Nat} {Q:Option Value→Shared→Prop} (calm:A.handled=none) (st:s.heap.IsKeyIter kk dd ii ens.size tick) (hob:s.heap.get? dd=some ob) (hdt:ob.data=.dict ens tick) (ge:ens.size≤ii)
    (fin:∀ h2,Heap.ExtBut kk s.heap h2→Q none { s with heap:=h2 }):wpAny (model prog w) A (pyNext (.ref kk)) Q E s:=by
  obtain ⟨ki,hki,hkc,hkd⟩:=id st; have ty:=st.typeIs; unfold pyNext; refine wpAny_bind (wpAny_attempt (wpAny_callSpecial?_slot (name:=Str.ofString "__next__") ty F.slot_dict_keyiterator_next (wpAny_call_entry F.slot_dict_keyiterator_next ty F.entry_dict_keyiterator_next ?_ (F.args_dict_keyiterator_next_1 _)))); refine wpAny_bind (wpAny_pure (wpAny_bind (wpAny_bind ?_)))
  first
    | refine wpAny_bind (wpAny_typeNameOfWhole_keyiter ty (wpAny_pure (wpAny_bind (wpAny_fieldsOf hki hkd ?_))))
    | refine wpAny_bind (wpAny_typeNameOf_keyiter ty (wpAny_pure (wpAny_bind (wpAny_fieldsOf hki hkd ?_))))
  simp only [show Builtin.Dict_items.ownsTuple "dict_keyiterator"=false by decide,Bool.false_eq_true,if_false]
  show wpAny _ _ (if (Value.ref dd == Value.none)=true then _ else _) _ _ s
  rw [if_neg (show ¬ ((Value.ref dd == Value.none)=true) from Bool.false_ne_true)]
  refine wpAny_bind (wpAny_pure (wpAny_bind (wpAny_dictEntries hob hdt ?_)))
  rw [if_neg (by simp)]
  refine wpAny_bind (wpAny_pure (wpAny_bind (wpAny_dictEpoch hob hdt ?_)))
  rw [if_neg (by simp)]
  refine wpAny_pure ?_
  simp only [show ¬ ((ii:Int)<0) from by omega,if_false,Int.toNat_natCast,Array.getElem?_eq_none ge]
  refine wpAny_bind ?_
  first
    | refine wpAny_bind (wpAny_typeNameOfWhole_keyiter ty (wpAny_pure ?_))
    | refine wpAny_bind (wpAny_typeNameOf_keyiter ty (wpAny_pure ?_))
  show wpAny _ _ (setField (.ref kk) 0 .none >>= _) _ _ s
  refine wpAny_bind (wpAny_setField hki hkd (by simp) (show wpAny _ _ (newExc (.type "StopIteration") [] >>= _) _ _ _ from wpAny_bind ?_))
  simp only [newExc,newTuple]
  apply wpAny_bind
  refine wpAny_newObj_type ?_ (by size_fits)
  refine wpAny_bind (m:=firstArgMember _ _) (wpAny_of_eq (a:=Value.none) (by first | rfl | (simp only [firstArgMember]; rfl)) (wpAny_newObj_type ?_ (by size_fits)))
  simp only [raiseNew]; refine wpAny_bind (wpAny_handled ?_)
  rw [show A.in1.handled=none from calm]
  refine (wpAny_bind (wpAny_pure (wpAny_throw ?_))); refine wpAny_bind (wpAny_isInstance (T:="StopIteration") (b:=true) ⟨_,Heap.get?_push_size _ rfl,rfl⟩ isSubtype_stop (wpAny_pure (fin _ ?_))); exact ((Heap.SameBut.update ..).extBut.push _).push _
end
end PySem
namespace L2
open PySem PySem.Spec PyProof.Rows
section
variable {X:Cx} {tg:Expr}
end
end L2
namespace PL
open PySem L2
end PL
namespace PySem
section
variable {prog:Program} {w:World} {A:Around} {E:Value→Shared→Prop} {s:Shared} {dd kk:Addr} {ob:Obj} {ens:Array DictEntry} {tick nn:Nat}
theorem zpL {Q:Value→Shared→Prop} (hsys:(dd == sysModules)=false) (hob:s.heap.get? dd=some ob) (hex:ob.ExactDict) (hdt:ob.data=.dict ens tick) (fin:Q (.int ens.size s.toks) { s with toks:=s.toks+1 }) :
    wpAny (model prog w) A (call (.builtin "dict.__len__") [.ref dd]) Q E s:=by
  have ty:=zct hob hex; refine wpAny_call_entry F.slot_dict_len ty F.entry_dict_len ?_ (F.args_dict_len_1 _)
  show wpAny _ _ (dictSize dd >>= _) _ _ s
  unfold dictSize
  refine wpAny_bind (wpAny_bind (wpAny_dictEntries hob hdt (wpAny_pure (show wpAny _ _ (Builtin.Dict.pendingCount dd >>= _) _ _ s from wpAny_bind (wpAny_pendingCount_other hsys ?_)))))
  refine wpAny_ret_mkInt ?_
  have z:((ens.size:Int)+((0:Nat):Int))=ens.size:=by omega
  first
    | exact fin
    | (rw [z]; exact fin)
    | (refine ⟨_,rfl,?_⟩; simpa using fin)
theorem zsD {Q:Value→Shared→Prop} (hsys:(dd == sysModules)=false) (hob:s.heap.get? dd=some ob) (hex:ob.ExactDict) (hdt:ob.data=.dict ens tick) (few:ens.size≤sizeLine) (fin:Q (.int ens.size (s.toks+1)) { s with toks:=s.toks+1+1 }) :
    wpAny (model prog w) A (call (.builtin "len") [.ref dd]) Q E s :=
  PyProof.Rows.call_len_slot (n:=ens.size) (zct hob hex) F.slot_dict_len (fun Q' hq=>zpL hsys hob hex hdt hq) (by omega) (by rw [sizeLine_eq] at few; omega) fin
theorem zqP {Q:Bool→Shared→Prop} (hob:s.heap.get? dd=some ob) (hex:ob.ExactDict) (fin:Q false s):wpAny (model prog w) A (Builtin.List.listLengthHint (.ref dd)) Q E s:=by
  have ty:=zct hob hex; unfold Builtin.List.listLengthHint; refine wpAny_bind (wpAny_specialOf ty F.slot_dict_len.lookup ?_); generalize hid:("dict.__len__":String)=id0
  wp_delta
  rw [show splitId id0=some ("dict","__len__") from by subst hid; decide +kernel]
  subst hid
  refine wpAny_bind (wpAny_isInstance (T:="dict") (b:=true) ty (by rw [isSubtype_type]; kernel_rfl) ?_)
  refine wpAny_ite_split (fun z=>absurd z (by decide)) (fun _=>?_)
  refine wpAny_ite_split (fun _=>?_) (fun z=>absurd (by decide +kernel) z)
  refine wpAny_bind (wpAny_typeOf ty ?_); exact wpAny_pure fin
theorem zlg (calm:A.handled=none) (hne:dd≠kk) (hdt:ob.data=.dict ens tick):Walks prog w A kk [kk,dd] [kk] ens.size (fun i v=>∃ e,ens[i]?=some e∧v=e.key) (fun i h=>h.IsKeyIter kk dd i ens.size tick∧h.get? dd=some ob) where
  sub:=fun b hb=>by
    have e:b=kk:=by simpa using hb
    simp [e]
  frame:=fun _ _ _ st hk=>⟨st.1.at fun o e=>hk kk (by simp) o e,hk dd (by simp) _ st.2⟩
  item:=fun i s Q E hi st hQ=>zhI st.1 st.2 hdt hi fun h2 st2 sb=>hQ _ h2 s.toks ⟨_,Array.getElem?_eq_getElem hi,rfl⟩ ⟨st2,(sb.2 dd hne).trans st.2⟩ fun b o hb e=>(sb.2 b (fun z=>hb (by simp [z]))).trans e
  done:=fun s Q E st hQ=>zjg calm st.1 st.2 hdt (Nat.le_refl _) fun h2 eb=>hQ h2 s.toks fun b o hb e=>eb b o (fun z=>hb (by simp [z])) e
  self:=fun _ _ _ _ st hQ=>wpAny_pyIter_keyiter st.1 hQ
theorem zfo {R:Result→Shared→Prop} {S:Addr} {res:Value} {c₀:Nat} (calm:A.handled=none) (hsys:(dd == sysModules)=false) (hob:s.heap.get? dd=some ob) (hex:ob.ExactDict) (hdt:ob.data=.dict ens tick) (few:ens.size≤sizeLine) (hne:S≠dd) (hS:s.heap.get? S=some { cls:=.type "list",data:=.seq #[] c₀ })
    (fin:∀ h2 tk acc c2,(∀ b o,b≠S→s.heap.get? b=some o→h2.get? b=some o)→h2.get? S=some { cls:=.type "list",dict:=none,data:=.seq acc c2,slots:=#[] }→ItemsOf (fun i v=>∃ e,ens[i]?=some e∧v=e.key) acc ens.size→R (.ok (.ret res)) { s with heap:=h2,toks:=tk }) :
    wpAny (model prog w) A.in1 (Builtin.List.listExtendWith (.ref S) (.ref dd) res) (fun f s'=>match f with | .done f=>R (.ok f) s' | .again c'=>c'.quiet=true∧codeAny (model prog w) A c' R s') (fun e s'=>R (.error e) s') s:=by
  have hSlt:S<s.heap.objs.size:=Heap.lt_size hS
  have hSI:S≠s.heap.objs.size:=Nat.ne_of_lt hSlt
  have hdI:dd≠s.heap.objs.size:=Nat.ne_of_lt (Heap.lt_size hob)
  have hSf:S ∉ [s.heap.objs.size,dd]:=fun hm=>by
    rcases List.mem_cons.mp hm with z | z
    · exact hSI z
    · exact hne (List.mem_singleton.mp z)
  have W:=(zlg (prog:=prog) (w:=w) (A:=A.in1) (kk:=s.heap.objs.size) calm hdI hdt).toS
  have loop:∀ (h:Heap) (c₁ tk:Nat),h.IsKeyIter s.heap.objs.size dd 0 ens.size tick→h.get? dd=some ob→(∀ b o,b≠S→s.heap.get? b=some o→h.get? b=some o) →
      h.get? S=some { cls:=.type "list",data:=.seq #[] c₁ }→codeAny (model prog w) A (.builtin "list.extend.loop" ⟨[.ref S,.ref s.heap.objs.size,res],[]⟩) R { s with heap:=h,toks:=tk }:=by
    intro h c₁ tk hit hod hk hS₁
    refine codeAny_extend_loopS W few S hSf res ens.size 0 _ #[] c₁ rfl (Nat.zero_le _) ⟨hit,hod⟩ hS₁ (ItemsOf.nil _) fun s' acc' c' hm hS' hacc=>?_
    rw [Moved.eq_with hm]
    refine fin s'.heap s'.toks acc' c' (fun b o hb e=>hm.heap b o (fun z=>?_) (hk b o hb e)) hS' hacc
    rcases List.mem_cons.mp z with e' | z
    · exact hb e'
    · exact absurd (Heap.lt_size e) (by rw [List.mem_singleton.mp z]; exact Nat.lt_irrefl _)
  unfold Builtin.List.listExtendWith; refine wpAny_bind (wpAny_typeOf (zct hob hex) ?_)
  have h1:Builtin.List.listSameRef (.ref S) (.ref dd)=false:=by simp [Builtin.List.listSameRef,hne]
  simp only [h1,show (Value.type "dict" == Value.type "list")=false by decide,show (Value.type "dict" == Value.type "tuple")=false by decide,Bool.or_false,Bool.false_eq_true,if_false]
  refine wpAny_bind (zgC hsys hob hex hdt ?_); refine wpAny_bind (wpAny_holding (zqP (Heap.get?_push_of_some _ hob) hex ?_))
  have hit₁:(s.heap.push { cls:=.type "dict_keyiterator",data:=.fields #[.ref dd,.int 0 0,.int ens.size 0,.int tick 0] }).IsKeyIter s.heap.objs.size dd 0 ens.size tick:=⟨_,Heap.get?_push_size _ rfl,rfl,rfl⟩
  have hS₁:=Heap.get?_push_of_some { cls:=.type "dict_keyiterator",data:=.fields #[.ref dd,.int 0 0,.int ens.size 0,.int tick 0] } hS
  refine wpAny_ite_split (fun _=>?_) (fun _=>wpAny_pure ⟨plainId_quiet F.plain_extend_loop _,loop _ c₀ _ hit₁ (Heap.get?_push_of_some _ hob) (fun b o _ e=>Heap.get?_push_of_some _ e) hS₁⟩)
  refine wpAny_bind (wpAny_rule (wpAny_bind ?_))
  show wpAny _ _ (updateSeq S (·.push .none) >>= fun _=>updateSeq S (·.pop)) _ _ _
  refine wpAny_bind (wpAny_updateSeq hS₁ rfl ?_); have hS₂:=Heap.get?_update_self (Obj.mapSeq (·.push Value.none)) hS₁ rfl
  refine wpAny_updateSeq (hz:=by seq_fits) hS₂ rfl ?_
  have hS₃:=Heap.get?_update_self (Obj.mapSeq (·.pop)) hS₂ rfl
  have oth:∀ b o,b≠S→(s.heap.push { cls:=.type "dict_keyiterator",data:=.fields #[.ref dd,.int 0 0,.int ens.size 0,.int tick 0] }).get? b=some o→(((s.heap.push { cls:=.type "dict_keyiterator",data:=.fields #[.ref dd,.int 0 0,.int ens.size 0,.int tick 0] }).update S (Obj.mapSeq (·.push Value.none))).update S (Obj.mapSeq (·.pop))).get? b=some o :=
    fun b o hb e=>(Heap.get?_update_other _ _ (Ne.symm hb)).trans ((Heap.get?_update_other _ _ (Ne.symm hb)).trans e)
  exact wpAny_pure ⟨plainId_quiet F.plain_extend_loop _,loop _ _ _ (hit₁.at fun o e=>oth _ o (Ne.symm hSI) e) (oth _ _ (Ne.symm hne) (Heap.get?_push_of_some _ hob)) (fun b o hb e=>oth b o hb (Heap.get?_push_of_some _ e)) hS₃⟩
theorem zmr {R:Result→Shared→Prop} {S:Addr} (calm:A.handled=none) (hsys:(dd == sysModules)=false) (hob:s.heap.get? dd=some ob) (hex:ob.ExactDict) (hdt:ob.data=.dict ens tick) (few:ens.size≤sizeLine) (hne:S≠dd) (hS:s.heap.get? S=some { cls:=.type "list",data:=.seq #[] })
    (fin:∀ h2 tk acc c2,(∀ b o,b≠S→s.heap.get? b=some o→h2.get? b=some o)→h2.get? S=some { cls:=.type "list",dict:=none,data:=.seq acc c2,slots:=#[] }→ItemsOf (fun i v=>∃ e,ens[i]?=some e∧v=e.key) acc ens.size→R (.ok (.ret .none)) { s with heap:=h2,toks:=tk }) :
    wpAny (model prog w) A.in1 (Builtin.«list.__init__» ⟨[.ref S,.ref dd],[]⟩) (fun f s'=>match f with | .done f=>R (.ok f) s' | .again c'=>c'.quiet=true∧codeAny (model prog w) A c' R s') (fun e s'=>R (.error e) s') s:=by
  show wpAny _ _ (Builtin.List.listItems (.ref S) >>= fun old=>Builtin.List.listUpdate (.ref S) (fun _=>#[]) >>= fun _=>letGo old.toList.reverse >>= fun _=>Builtin.List.listExtendWith (.ref S) (.ref dd) .none) _ _ s
  unfold Builtin.List.listItems; refine wpAny_bind (wpAny_bind (wpAny_seqItems hS rfl (wpAny_pure ?_)))
  show wpAny _ _ (updateSeq S (fun _=>#[]) >>= fun _=>letGo (#[]:Array Value).toList.reverse >>= fun _=>Builtin.List.listExtendWith (.ref S) (.ref dd) .none) _ _ s
  have hS₂:=Heap.get?_update_self (Obj.mapSeq (fun _=>(#[]:Array Value))) hS rfl
  have oth:∀ b o,b≠S→s.heap.get? b=some o→(s.heap.update S (Obj.mapSeq (fun _=>(#[]:Array Value)))).get? b=some o:=fun b o hb e=>(Heap.get?_update_other _ _ (Ne.symm hb)).trans e
  refine wpAny_bind (wpAny_updateSeq hS rfl (wpAny_bind (wpAny_letGo ?_)))
  exact zfo calm hsys (oth dd _ (Ne.symm hne) hob) hex hdt few hne hS₂ fun h2 tk acc c2 hk hS' hacc=>fin h2 tk acc c2 (fun b o hb e=>hk b o hb (oth b o hb e)) hS' hacc
theorem zl4 {Q:Value→Shared→Prop} (calm:A.handled=none) (hsys:(dd == sysModules)=false) (hob:s.heap.get? dd=some ob) (hex:ob.ExactDict) (hdt:ob.data=.dict ens tick) (few:ens.size≤sizeLine)
    (fin:∀ h2 tk acc c2,(∀ b o,s.heap.get? b=some o→h2.get? b=some o)→h2.get? s.heap.objs.size=some { cls:=.type "list",dict:=none,data:=.seq acc c2,slots:=#[] }→ItemsOf (fun i v=>∃ e,ens[i]?=some e∧v=e.key) acc ens.size→Q (.ref s.heap.objs.size) { s with heap:=h2,toks:=tk }) :
    wpAny (model prog w) A (call (.type "list") [.ref dd]) Q E s:=by
  refine callType_codes (Q₁:=fun obj s₁=>obj=.ref s.heap.objs.size∧s₁={ s with heap:=s.heap.push { cls:=.type "list",data:=.seq #[] } }) F.called_list (F.typeCall_list_1 _) F.entry_list_init (code_list_new _ ⟨rfl,rfl⟩) fun obj s₁ h₁=>?_
  obtain ⟨rfl,rfl⟩:=h₁
  have hS:(s.heap.push { cls:=.type "list",data:=.seq #[] }).get? s.heap.objs.size=some { cls:=.type "list",data:=.seq #[] }:=Heap.get?_push_size _ rfl
  refine ⟨⟨_,hS,rfl⟩,F.args_list_init_2 _ _,zmr (A:=A.in1) calm hsys (Heap.get?_push_of_some _ hob) hex hdt few (Ne.symm (Nat.ne_of_lt (Heap.lt_size hob))) hS fun h2 tk acc c2 hk hS' hacc=>?_⟩
  exact ⟨rfl,fin h2 tk acc c2 (fun b o e=>hk b o (Nat.ne_of_lt (Heap.lt_size e)) (Heap.get?_push_of_some _ e)) hS' hacc⟩
end
end PySem
namespace L2
open PySem PySem.Spec PyProof.Rows
section
variable {X:Cx}
def zt9:Value→V
  | .ref b=>.ref b
  | _=>.non
theorem Inv.keys {pins:List (Addr × Obj)} {σ:St} {H:Hp} {s:Shared} {a:Addr} {kvs:List (List Key × V)} {ep:Nat} (I:Inv X pins σ H s) (e:H a=some (.dE kvs ep)):kvs.length≤sizeLine∧(a == sysModules)=false∧∃ (o:Obj) (es:Array DictEntry),s.heap.get? a=some o∧o.ExactDict∧o.data=.dict es ep∧es.size=kvs.length ∧
    ∀ (i:Nat) k y,kvs[i]?=some (k,y)→∃ b x,es[i]?=some x∧x.key=.ref b∧H b=some (.tup (k.map kV)):=by
  obtain ⟨z,hd,xs,rel,_,o,es,ho,hx,hdat,he⟩:=zmE I.hok e
  have hl:kvs.length=xs.length:=Paired.length rel
  have hs:es.size=kvs.length:=by
    have:=congrArg List.length he
    rw [List.length_map,Array.length_toList] at this; rw [this,hl]
  refine ⟨z,hd,o,es,ho,hx,hdat,hs,fun i k y hk=>?_⟩
  have hi:i<kvs.length:=(List.getElem?_eq_some_iff.mp hk).1
  have hix:i<xs.length:=by rw [← hl]; exact hi
  have hi':i<es.size:=by rw [hs]; exact hi
  have q:=PL.paired_get i rel hk (List.getElem?_eq_getElem hix); refine ⟨xs[i].2.1,es[i],Array.getElem?_eq_getElem hi',?_,q.2.1⟩
  have e1:es.toList[i]?=(xs.map (entryOfKey (tupleKind (zbb X.prog X.w))))[i]?:=by rw [he]
  rw [List.getElem?_map,List.getElem?_eq_getElem hix,Array.getElem?_toList,Array.getElem?_eq_getElem hi'] at e1; rw [Option.some.inj e1]; rfl
theorem zkU:zc9 X (.builtin "len") (fun xs H Q=>∃ a kvs ep,xs=[.ref a]∧H a=some (.dE kvs ep)∧Q (.int kvs.length) H):=by
  intro pins s σ H xs us Q I r h; obtain ⟨a,kvs,ep,rfl,e,q⟩:=h; obtain ⟨u,rfl,rx⟩:=zdj r; cases rx; obtain ⟨z,hd,o,es,ho,hx,hdat,hs,_⟩:=I.keys e
  refine zsD hd ho hx hdat (by rw [hs]; exact z) ?_
  rw [hs]; exact ⟨.int kvs.length,H,I.tok _,⟨_,rfl⟩,q⟩
end
end L2
namespace PL
open PySem L2
section
variable {X:Cx}
abbrev zpk:=List D→(OD→Prop)→Prop
def zns (K:PySem.W.Frag) (r:List V→Hp→VK→Prop) (r':zpk):Prop:=∀ (Hi H:Hp) (vs:List V) (ds:List D) (Q:OD→Prop) (Q2:VK),Fz Hi H→zbN K Hi vs ds→r' ds Q →
  (∀ Hi1 H1 p u o,Ext Hi H Hi1 H1→H1 p=none→(∀ xs,u≠.tup xs)→zbF K Hi1 (upd H1 p u) p o→Q o→Q2 (.ref p) (upd H1 p u))→r vs H Q2
structure CalO (X:Cx) (f:Value) (r':zpk):Prop where
  ex:∃ r,zc9 X f r∧zns X.K r r'
def zai (r:zpk) (t:TA'):TO':=fun Γ Q=>t Γ fun ds Γ1=>r ds fun o=>Q o Γ1
theorem znB {K:PySem.W.Frag} {n:Nat} {r:List V→Hp→VK→Prop} {r':zpk} {t:TA'} {σ:St} {H:Hp} {Q:VK} (l:zns K r r') (h:oOf K n (zai r' t) σ H Q):tCB r (zrX K n t) σ H Q:=by
  obtain ⟨W,Hi,Γ,Q',g,h,fin⟩:=h; refine ⟨W,Hi,Γ,_,g,h,?_⟩; intro vs H1 Hi1 Γ1 ds s1 g1 dl h1; refine l Hi1 H1 vs ds _ _ g1.fz dl h1 ?_; intro Hi2 H2 p u o e hp hu own q; have g2:=g1.ext e; exact fin p _ Hi2 Γ1 o (s1.trans e.hi) (g2.ext (Ext.newO g2.fz hp u hu)) (New.mk' g2 hp own) q
variable {x:Str} {p pos:Pos} {e:Expr} {es:List Expr} {t:TA'} {id T:String}
theorem zi0 {r':zpk} (hc:CalO X (.type T) r') (hm:X.mg x=none) (hv:bootBuiltins x=some (.type T)) (ha:PA' X (e :: es) t) (hg:Gl X x:=by rfl) (hn:x≠"__name__":=by decide) (hdb:(x == ("__debug__":Str))=false:=by decide):PO' X (.Call (.Name x p) (e :: es) [] pos) (zai r' t):=by
  obtain ⟨r,ho,l⟩:=hc.ex; obtain ⟨p1,p2⟩:=zbd ha.pl
  exact ⟨PE.weak (zgu ho hg hm hv ha.pa hn hdb (zaP p1) (zbD p2)) fun σ H Q q=>znB l q⟩
def zjK:RC':=fun ds Q=>∃ es,ds=[.dit es]∧Q (.int es.length)
theorem zq9:Cal X (.builtin "len") zjK:=⟨_,zkU,by
  rintro Hi H vs ds Q Q2 s dl ⟨es,rfl,q⟩ fin
  obtain ⟨v,rfl,den⟩:=zdG dl; obtain ⟨a,kvs,ep,rfl,h1,h2⟩:=den.ditI; refine ⟨a,kvs,ep,rfl,s.sub _ _ h1,?_⟩; rw [zf h2]; exact fin Hi H _ _ (Ext.refl s) (.int _) q⟩
end
end PL
namespace PySem
section
variable {prog:Program} {w:World} {A:Around} {E:Value→Shared→Prop} {s:Shared} {S tt:Addr} {ob:Obj} {mine items:Array Value} {n c₀:Nat} {T:String}
theorem zix {Q:Value→Shared→Prop} (hT:T="list"∨T="tuple") (hS:s.heap.get? S=some { cls:=.type "list",data:=.seq mine c₀ }) (hob:s.heap.get? tt=some ob) (hcl:ob.cls=.type T) (hdt:ob.data=.seq items n) (few:mine.size+items.size≤sizeLine)
    (fin:Q .none { s with heap:=s.heap.update S (Obj.mapSeq (· ++ items)) }):wpAny (model prog w) A (call (.builtin "list.extend") [.ref S,.ref tt]) Q E s:=by
  refine wpAny_call_entry F.slot_list_extend ⟨_,hS,rfl⟩ F.entry_list_extend ?_ (F.args_list_extend_2 _ _)
  show wpAny _ _ (Builtin.List.listExtendWith (.ref S) (.ref tt) .none) _ _ s
  unfold Builtin.List.listExtendWith; refine wpAny_bind (wpAny_typeOf ⟨ob,hob,hcl⟩ ?_)
  have h1:(Builtin.List.listSameRef (.ref S) (.ref tt) || Value.type T == Value.type "list" || Value.type T == Value.type "tuple")=true:=by
    rcases hT with rfl | rfl <;> simp
  simp only [h1,if_true]; unfold Builtin.List.listItems; refine wpAny_bind (wpAny_bind (wpAny_seqItems hob hdt (wpAny_pure (wpAny_bind (wpAny_bind (wpAny_seqItems hS rfl (wpAny_pure ?_)))))))
  have hlong:¬ (!mine.isEmpty && Builtin.List.listTooLong (mine.size+items.size))=true:=by
    rw [L2.notLongL few,Bool.and_false]; exact Bool.false_ne_true
  rw [if_neg hlong]
  show wpAny _ _ (updateSeq S (· ++ items) >>= fun _=>ret .none) _ _ s
  refine wpAny_bind (wpAny_updateSeq hS rfl (wpAny_pure ⟨_,rfl,fin⟩) (by omega) (by rw [Array.size_append]; omega))
end
end PySem
namespace L2
open PySem PySem.Spec PyProof.Rows
section
variable {X:Cx}
theorem zja:MtM X "list.extend" (fun x vs H Q=>∃ l b xs zs,x=.ref l∧vs=[.ref b]∧H l=some (.lst xs)∧(SqL X.K H b zs∨SqT X.K H b zs)∧xs.length+zs.length≤sizeLine∧Q .non (upd H l (.lst (xs ++ zs)))):=by
  intro pins s σ H x vs v us Q I rx rv h; obtain ⟨l,b,xs,zs,rfl,rfl,hH,hB,hz,q⟩:=h; cases rx; obtain ⟨u,rfl,ru⟩:=rv.one; cases ru; obtain ⟨z,its,n,r,hl,e⟩:=I.lstM hH
  have fin:∀ (its2:List Value),za3 zs its2→EP X pins σ Q .none { s with heap:=s.heap.update l (Obj.mapSeq (· ++ its2.toArray)) }:=fun its2 r2 =>
    ⟨.non,_,I.lset (its':=its ++ its2) hH e (by simp) (r.append r2) (by rw [List.length_append]; exact hz),rfl,q⟩
  rcases hB with hB | hB
  · obtain ⟨its2,r2,pl,_⟩:=I.list hB
    obtain ⟨o,ho,hc,n2,hd⟩:=pl.isList
    exact zix (T:="list") (.inl rfl) e ho hc hd (by rw [List.size_toArray,List.size_toArray,← r.length,← r2.length]; exact hz) (fin its2 r2)
  · obtain ⟨its2,r2,⟨o,ho,hc,n2,hd⟩,_⟩:=I.tuple hB
    exact zix (T:="tuple") (.inr rfl) e ho hc hd (by rw [List.size_toArray,List.size_toArray,← r.length,← r2.length]; exact hz) (fin its2 r2)
theorem zom:OpR X (binaryOp .Add) (fun x y H Q=>∃ a b xs ys,x=.ref a∧y=.ref b∧SqL X.K H a xs∧SqL X.K H b ys∧xs.length+ys.length≤sizeLine∧∀ p,H p=none→Q (.ref p) (upd H p (.lst (xs ++ ys)))):=by
  intro pins s σ H x y v u Q I rx ry h; obtain ⟨a,b,xs,ys,rfl,rfl,ha,hb,hz,q⟩:=h; cases rx; cases ry; obtain ⟨its,r1,p1,_⟩:=I.list ha; obtain ⟨its2,r2,p2,_⟩:=I.list hb
  obtain ⟨⟨cls,dd,data,sl⟩,ho,hc,n,hd⟩:=id p1.isList
  obtain ⟨⟨cls2,dd2,data2,sl2⟩,ho2,hc2,n2,hd2⟩:=id p2.isList
  simp only at hc hd hc2 hd2
  subst hc hd hc2 hd2
  have ea:its.toArray ++ its2.toArray=(its ++ its2).toArray:=by simp
  refine concat_meets ⟨_,ho,rfl⟩ ⟨_,ho2,rfl⟩ noFill_list_add seq_list_add PySem.F.slot_list_add PySem.F.entry_list_add (PySem.F.args_list_add_2 _ _)
    (list_addW a b its.toArray its2.toArray n n2 dd dd2 sl sl2 (by rw [List.size_toArray,List.size_toArray,← r1.length,← r2.length]; exact hz)) ⟨ho,ho2,?_⟩
  rw [ea]
  exact ⟨.ref _,_,I.lnew (t':=s.toks) (r1.append r2) (by rw [List.length_append]; exact hz),rfl,q _ I.fresh⟩
end
end L2
namespace PL
open PySem L2
section
variable {X:Cx}
abbrev zo9:=D→D→(OD→Prop)→Prop
def zre (K:PySem.W.Frag) (r:R2) (r':zo9):Prop:=∀ (Hi H:Hp) (x y:V) (dx dy:D) (Q:OD→Prop) (Q2:VK),Fz Hi H→Den K Hi x dx→Den K Hi y dy→r' dx dy Q →
  (∀ Hi1 H1 p u o,Ext Hi H Hi1 H1→H1 p=none→(∀ xs,u≠.tup xs)→zbF K Hi1 (upd H1 p u) p o→Q o→Q2 (.ref p) (upd H1 p u))→r x y H Q2
structure Op2O (X:Cx) (f:Value→Value→Sem Value) (r':zo9):Prop where
  ex:∃ r,OpR X f r∧zre X.K r r'
def zae (r:zo9) (ta tb:TE'):TO':=fun Γ Q=>ta Γ fun x Γ1=>tb Γ1 fun y Γ2=>r x y fun o=>Q o Γ2
theorem zjW {a b:Expr} {op:Operator} {r':zo9} {ta tb:TE'} {pos:Pos} (h:Op2O X (binaryOp op) r') (ha:PE' X a ta) (hb:PE' X b tb):PO' X (.BinOp a op b pos) (zae r' ta tb):=by
  obtain ⟨r,ho,l⟩:=h.ex; refine ⟨PE.weak (zqc ho ha.h hb.h) ?_⟩
  rintro σ H Q ⟨W,Hi,Γ,Q',g,h,fin⟩
  refine ⟨W,Hi,Γ,_,g,h,?_⟩
  rintro x H1 ⟨Hi1,dx,Γ1,s1,g1,den1,h1⟩
  refine ⟨W,Hi1,Γ1,_,g1,h1,?_⟩
  rintro y H2 ⟨Hi2,dy,Γ2,s2,g2,den2,h2⟩
  refine l Hi2 H2 x y dx dy _ _ g2.fz (den1.mono s2) den2 h2 ?_; intro Hi3 H3 p u o e hp hu own q; have g3:=g2.ext e; exact fin p _ Hi3 Γ2 o (s1.trans (s2.trans e.hi)) (g3.ext (Ext.newO g3.fz hp u hu)) (New.mk' g3 hp own) q
class MR2O (r:zo9):Prop where
  mono:∀ x y (Q Q':OD→Prop),(∀ o,Q o→Q' o)→r x y Q→r x y Q'
instance {r:zo9} {ta tb:TE'} [MR2O r] [ME ta] [ME tb]:MO (zae r ta tb):=⟨fun Γ _ _ h q=>ME.mono (t:=ta) _ _ _ (fun _ _ z=>ME.mono (t:=tb) _ _ _ (fun _ _ y=>MR2O.mono (r:=r) _ _ _ _ (fun _ w=>h _ _ w) y) z) q⟩
def zpX:zo9:=fun x y Q=>∃ xs ys,x=.lst xs∧y=.lst ys∧xs.length+ys.length≤sizeLine∧Q (.lst (xs ++ ys))
theorem zkf:Op2O X (binaryOp .Add) zpX:=⟨_,zom,by
  rintro Hi H x y dx dy Q Q2 s d1 d2 ⟨xs,ys,rfl,rfl,hl,q⟩ fin
  obtain ⟨a,vs,rfl,h1,h2⟩:=d1.lstI; obtain ⟨b,us,rfl,h3,h4⟩:=d2.lstI
  exact ⟨a,b,vs,us,rfl,rfl,zaI s.sub h1,zaI s.sub h3,by rw [zf h2,zf h4]; exact hl,fun p hp=>fin Hi H p _ (.lst (xs ++ ys)) (Ext.refl s) hp (fun _ z=>by cases z) ⟨_,zO,zaU h2 h4⟩ q⟩⟩
instance:MR2O zpX:=⟨fun _ _ _ _ h ⟨xs,ys,a,b,c,q⟩=>⟨xs,ys,a,b,c,h _ q⟩⟩
def zg (i:Nat) (te:TE'):TS':=fun N Γ=>(∃ ds0,Γ[i]?=some (.own (.lst ds0)))∧te Γ fun d Γ1=>∃ ds es,Γ1[i]?=some (.own (.lst ds))∧(d=.lst es∨d=.tup es)∧ds.length+es.length≤sizeLine∧N.nx (Γ1.set i (.own (.lst (ds ++ es))))
theorem ziZ (i:Nat) {x:Str} {e:Expr} {te:TE'} {pos p apos cpos:Pos} (he:PE' X e te) (hN:X.N[i]?=some x:=by rfl) (hv:Vis X.env.scope x:=by first | exact Or.inl rfl | exact Or.inr (Or.inl rfl) | exact Or.inr (Or.inr rfl)) (hd:(x == ("__debug__":Str))=false:=by decide)
    (hcd:(x == ("__classdict__":Str))=false:=by decide) (hst:zc4 e=false:=by rfl)
    (hbase:attributeBase (.Name x p) "extend" X.env (eval (.Name x p) X.env)=eval (.Name x p) X.env:=by rfl) (hline:(apos.endLine == cpos.line)=true:=by rfl)
    (hs:swapsWith (.Call (.Attribute (.Name x p) "extend" apos) [e] [] cpos) none pos.line X.env=pure false:=by rfl) :
    PS' X (.Expr (.Call (.Attribute (.Name x p) "extend" apos) [e] [] cpos) pos) (zg i te):=by
  have hfew:((backTo cpos (starEach [e] X.env)).all (fun x=>!x.1) && (backToKw cpos (keywordEach [] X.env)).all (fun x=>x.1.isSome)
      && decide ([e].length+([]:List Keyword).length+(if ([]:List Keyword).isEmpty then 0 else 1)<30))=true:=by
    rw [zaP hst]; rfl
  have base:=zeE (zj5 PySem.F.plainAttrs_list PySem.F.slot_list_extend PySem.F.type_list_extend (zja (X:=X)) (zcX (i:=i) (pos:=p) hN hv hd hcd) (zcL he.h zfh (zaP hst)) hbase hfew hline (zaP hst) rfl) hs; refine ⟨PS.weak base ?_⟩
  rintro N2 σ H ⟨W,Hi,Γ,N,g,⟨⟨ds0,e0⟩,q⟩,l⟩
  have hi:i<X.N.length:=(List.getElem?_eq_some_iff.mp hN).1
  obtain ⟨a,h1,h2,h3,vs0,h4,h5⟩:=g.own i _ e0; refine ⟨.ref a,zfu hi h1,.inl ⟨rfl,vs0,SqL.of h4⟩,W,Hi,Γ,_,g,q,?_⟩
  rintro v H1 ⟨Hi1,d,Γ1,s1,g1,den,ds,es,e1,hd',hl,q1⟩
  obtain ⟨a',k1,k2,k3,vs,k4,k5⟩:=g1.own i _ e1; rw [h1] at k1; cases k1
  have fin:∀ b us,v=.ref b→(SqL X.K H1 b us∨SqT X.K H1 b us)→zbN X.K Hi1 us es→_:=fun b us hb hsq hden =>
    (⟨a,b,vs,us,rfl,by rw [hb],k4,hsq,by rw [zf k5,zf hden]; exact hl,l.nx σ _ Hi1 _ s1 (g1.put (o:=.lst (ds ++ es)) e1 h1 ⟨vs ++ us,zO,zaU k5 hden⟩) q1⟩:∃ l b xs zs,V.ref a=.ref l∧[v]=[.ref b]∧H1 l=some (.lst xs)∧(SqL X.K H1 b zs∨SqT X.K H1 b zs)∧xs.length+zs.length≤sizeLine∧N2.nx σ (upd H1 l (.lst (xs ++ zs))))
  rcases hd' with rfl | rfl
  · obtain ⟨b,us,hb,m1,m2⟩:=den.lstI
    exact fin b us hb (.inl (zaI g1.sub m1)) m2
  · obtain ⟨b,us,hb,m1,m2⟩:=den.tupI
    exact fin b us hb (.inr (zaJ g1.sub m1)) m2
instance {i:Nat} {te:TE'} [ME te]:MS (zg i te):=⟨fun N N' Γ h ⟨a,q⟩=>⟨a,ME.mono (t:=te) _ _ _ (fun _ _ ⟨ds,es,e,b,l,z⟩=>⟨ds,es,e,b,l,h.nx _ z⟩) q⟩⟩
end
end PL
namespace L2
open PySem PySem.Spec PyProof.Rows
section
variable {X:Cx}
end
end L2
namespace PL
open PySem L2
section
variable {X:Cx}
end
end PL
namespace PySem
open PyProof.Rows
namespace F
end F
section
variable {prog:Program} {w:World} {A:Around} {E:Value→Shared→Prop} {s:Shared} {tt rr:Addr} {items:Array Value}
end
end PySem
namespace L2
open PySem PySem.Spec PyProof.Rows
section
variable {X:Cx} {tg:Expr}
end
end L2
namespace PL
open PySem L2
end PL
namespace X1
open PySem
def Ex (h:Heap) (e:Addr) (cl:Value) (dd:Option Addr) (vs:Array Value):Prop:=∃ sl,h.get? e=some ⟨cl,dd,.fields vs,sl⟩
def Ent (h:Heap) (T:Addr) (fl:Value):Prop:=∃ c d ts sl,h.get? T=some ⟨c,d,.fields ts,sl⟩∧ts[3]?=some fl
def Hd (h:Heap) (e:Addr) (vs:Array Value) (fl:Value) (R:Addr→Prop):Prop:=(vs[1]?=some .none∧fl=.none)∨∃ T,vs[1]?=some (.ref T)∧T≠e∧R T∧Ent h T fl
structure Kp (R:Addr→Prop) (fr:List Addr) (h h':Heap):Prop where
  keep:∀ b o,h.get? b=some o→¬ R b→b ∉ fr→h'.get? b=some o
  slot:∀ b o,h.get? b=some o→¬ R b→b ∈ fr→∃ sl,h'.get? b=some { o with slots:=sl }
  size:h.objs.size≤h'.objs.size
theorem Kp.trans {R:Addr→Prop} {fr:List Addr} {h h1 h2:Heap} (a:Kp R fr h h1) (b:Kp R fr h1 h2):Kp R fr h h2 :=
  ⟨fun c o e n m=>b.keep c o (a.keep c o e n m) n m,fun c o e n m=>by
    obtain ⟨sl,e1⟩:=a.slot c o e n m; obtain ⟨sl2,e2⟩:=b.slot c _ e1 n m; exact ⟨sl2,e2⟩,Nat.le_trans a.size b.size⟩
section
variable {M:Model} {A:Around} {E:Value→Shared→Prop} {s:Shared} {base:Heap} {env:Env} {outer:List Env} {L e:Addr} {cl fl:Value} {dd:Option Addr} {vs:Array Value} {R:Addr→Prop}
end
end X1
namespace X1
open PySem
section
variable {prog:Program} {w:World} {A:Around} {E:Value→Shared→Prop} {h:Heap} {g:Array GenState} {d:Drawn} {t:Nat} {os:OsState} {C N fI:Addr} {oI:Obj} {bm bmB:List Value} {B nid iid:String} {mN:Str→Option Value} {zee:List Value}
end
end X1
namespace X1
open PySem
section
variable {M:Model} {A:Around} {E:Value→Shared→Prop} {env:Env} {s:Shared} {C N:Addr} {bm:List Value} {nid:String}
end
end X1
namespace X1
open PySem PySem.W
section
variable {prog:Program} {w:World} {A:Around} {E:Value→Shared→Prop} {s:Shared} {K:Frag} {x C:Addr} {ox:Obj} {od:Option Obj} {name:Str}
structure XGet (K:Frag) (C:Addr):Prop where
  ga:findIn K (.ref C) "__getattribute__"=some (some (.builtin "BaseException.__getattribute__"))
  gr:findIn K (.ref C) "__getattr__"=some none
  sub:mroIn K C (.type "BaseException")=some true
theorem znv {tk:Tok} {fill expr:Bool} {v:Value} {Q:Value→Shared→Prop} (X:K.In s.heap) (I:InstAt s.heap x ox C od) (T:XGet K C) (h:∀ R:Result→Shared→Prop,R (.ok (.ret v)) s→codeAny (model prog w) A (.call (.builtin "BaseException.__getattribute__") ⟨[.ref x,.str name tk],[]⟩) R s)
    (hh:handedIn v=true) (q:Q v s):wpAny (model prog w) A (getAttrBy (.ref x) (.str name tk) fill expr) Q E s:=by
  obtain ⟨hh',g,d,t,os⟩:=s; have L0:=I.type (M:=model prog w); have L1:=looks_findIn (M:=model prog w) X T.ga; have L2:=looks_findIn (M:=model prog w) X T.gr; unfold getAttrBy; refine wpAny_holding (wpAny_bind (L0.at (wpAny_bind (L1.at ?_))))
  show wpAny _ _ (if (onTheHeap (.ref C) && Value.builtin "BaseException.__getattribute__" == Value.builtin "object.__getattribute__")=true then _ else _) _ _ _
  rw [if_neg (by
    have z:(Value.builtin "BaseException.__getattribute__" == Value.builtin "object.__getattribute__")=false:=by decide +kernel
    rw [z,Bool.and_false]; exact Bool.false_ne_true)]
  unfold getAttrByItsOwn hookBefore; refine wpAny_bind (L2.at ?_); refine wpAny_bind (wpAny_attempt (wpAny_holding ?_)); unfold callGetattribute
  rw [if_neg (by cases expr <;> decide)]
  unfold boundAndCalled; rw [F.excAttr_ValueError.ga.bind]; refine wpAny_bind (wpAny_pure (wpAny_call (h _ ?_)))
  show wpAny _ _ (handedOut v) _ _ _
  rw [handedOut_of hh]; exact wpAny_pure q
theorem ziN {tk:Tok} {R:Result→Shared→Prop} (X:K.In s.heap) (I:InstAt s.heap x ox C od) (T:XGet K C) (hf:findObj K C od "__class__"=some (.bind (.builtin "getset_descriptor.__get__") (.builtin "object.__class__"))) (hm:mroIn K C (.type "object")=some true)
    (h:R (.ok (.ret (.ref C))) s):codeAny (model prog w) A (.call (.builtin "BaseException.__getattribute__") ⟨[.ref x,.str "__class__" tk],[]⟩) R s:=by
  obtain ⟨hh',g,d,t,os⟩:=s; have L0:=I.type (M:=model prog w); have L1:=looks_find (M:=model prog w) X I hf
  have LI:Looks (model prog w) hh' (isInstance (.ref x) (.type "BaseException")) true:=L0.andThen (looks_mroIn X T.sub)
  have hk:builtinKind "BaseException.__getattribute__"=some .slot:=by decide +kernel
  have hsp:splitId "BaseException.__getattribute__"=some ("BaseException","__getattribute__"):=by decide +kernel
  refine codeAny_call_builtin F.excAttr_ValueError.ga.plain F.entry_bexc_ga (@check_slot (model prog w) _ _ _ "BaseException.__getattribute__" "BaseException" "__getattribute__" (.ref x) [.str "__class__" tk] [] _ hk hsp LI (F.args_bexc_ga (.ref x) (.str "__class__" tk)) ?_); refine wpAny_bind (wpAny_pure (wpAny_bind (wpAny_pure (wpAny_bind (L0.at (wpAny_bind (L1.at ?_)))))))
  show wpAny _ _ (Builtin.ObjectAttr.bindTo (.builtin "getset_descriptor.__get__") (.builtin "object.__class__") (.ref x) (.ref C)) _ _ _
  show wpAny _ _ (do let r ← holding [Value.builtin "object.__class__"] (call (.builtin "getset_descriptor.__get__") [.builtin "object.__class__",.ref x,.ref C]); ret r) _ _ _
  exact wpAny_bind (wpAny_holding (wpAny_call (class_get (ox:=ox) (od:=od) X I hm (wpAny_pure h))))
theorem xget_class? {Q:Option Value→Shared→Prop} (X:K.In s.heap) (I:InstAt s.heap x ox C od) (T:XGet K C) (hf:findObj K C od "__class__"=some (.bind (.builtin "getset_descriptor.__get__") (.builtin "object.__class__"))) (hm:mroIn K C (.type "object")=some true)
    (h:Q (some (.ref C)) { s with toks:=s.toks+1 }):wpAny (model prog w) A (getAttr? (.ref x) "__class__") Q E s:=by
  unfold getAttr? getAttrBy?
  refine wpAny_bind (wpAny_mkText (wpAny_bind (wpAny_attempt ?_)))
  exact znv (s:={ s with toks:=s.toks+1 }) X I T (fun R hR=>ziN (s:={ s with toks:=s.toks+1 }) X I T hf hm hR) rfl (wpAny_pure h)
end
structure XIs (K:Frag) (C:Addr):Prop extends XGet K C where
  cl:(clsIn K C).isSome=true
  ha:findIn K (.ref C) "__class__"=some (some (.builtin "object.__class__"))
  hn:specialIn K (.builtin "object.__class__") "__get__"=some (some (.builtin "getset_descriptor.__get__"))
  tk:takesIn K (.builtin "object.__class__")=some true
  ob:mroIn K C (.type "object")=some true
theorem zhP {K:Frag} {C:Addr} {a g:Value} {od:Option Obj} {name:Str} (hc:(clsIn K C).isSome=true) (ha:findIn K (.ref C) name=some (some a)) (hg:specialIn K a "__get__"=some (some g)) (ht:takesIn K a=some true):findObj K C od name=some (.bind g a):=by
  obtain ⟨cd,e⟩:=Option.isSome_iff_exists.mp hc; unfold findObj; rw [e,Option.bind_some,ha]; simp [hg,ht]
theorem kitx_exc {K:Frag} {x C:Addr} (T:XIs K C):KitX K (.ref x) (.ref C) (fun h=>∃ ox od,InstAt h x ox C od) where
  ty:=fun _ _ _ ⟨_,_,I⟩=>I.type
  it:=fun _ _ X _=>by
    have hcD:=T.cl; unfold clsIn at hcD; split at hcD
    · rename_i c' d' cd' sl' ho
      intro A' Q' E' s' k q; unfold isType loadHead; exact wpAny_bind (wpAny_loadPart (k _ _ (X _ _ ho)) (wpAny_pure q))
    · cases hcD
  ne:=fun h tp dd its n sl X htp=>by
    have hcD:=T.cl
    refine Bool.eq_false_iff.mpr fun q=>?_
    have e:C=tp:=Value.ref.inj (beq_iff_eq.mp q)
    subst e; unfold clsIn at hcD; split at hcD
    · rename_i c' d' cd' sl' ho
      have z:=(X _ _ ho).symm.trans htp; cases z
    · cases hcD
  ca:=fun X ⟨_,_,I⟩ k=>xget_class? X I T.toXGet (zhP T.cl T.ha T.hn T.tk) T.ob k
end X1
namespace L2
open PySem PySem.Spec PyProof.Rows
structure InsT (K:PySem.W.Frag) (C:Addr):Prop where
  cl:Cls K C
  ha:PySem.W.findIn K (.ref C) "__class__"=some (some (.builtin "object.__class__"))
  hn:PySem.W.specialIn K (.builtin "object.__class__") "__get__"=some (some (.builtin "getset_descriptor.__get__"))
  htk:PySem.W.takesIn K (.builtin "object.__class__")=some true
  hm:PySem.W.mroIn K C (.type "object")=some true
def TyA (K:PySem.W.Frag) (H:Hp) (x:V) (t:Value):Prop:=(∃ n,t=.type n∧zrg K H x n)∨(∃ a C dx fs,x=.ref a∧H a=some (.ins C dx fs)∧t=.ref C∧InsT K C)∨∃ a C dd,x=.ref a∧H a=some (.ext (XAt a C dd))∧(∀ dx,dd=some dx→∃ fs,H dx=some (.xd fs))∧t=.ref C∧X1.XIs K C
def zsV:V→Option Value
  | .ty n=>some (.type n)
  | .ref C=>some (.ref C)
  | _=>none
theorem zmI {c:V} {u v:Value} (r:zbi c u) (h:zsV c=some v):u=v:=by
  cases c with
  | ty n=>cases h; exact r
  | ref C=>cases h; exact r
  | _=>cases h
section
variable {X:Cx}
theorem zny {pins:List (Addr × Obj)} {σ:St} {H:Hp} {s:Shared} {x:V} {u t:Value} (I:Inv X pins σ H s) (r1:zbi x u) (ty:TyA X.K H x t):∃ Hh,PySem.W.KitX X.K u t Hh∧Hh s.heap∧u≠.builtin "__main__.__loader__#opaque":=by
  rcases ty with ⟨n,rfl,ty⟩ | ⟨a,C,dx,fs,rfl,ea,rfl,T⟩ | ⟨a,C,dd,rfl,ea,hdd,rfl,T⟩
  · cases x with
    | non=>cases (show n=_ from ty); cases (show u=Value.none from r1); exact ⟨_,PySem.W.kitx_none,True.intro,fun z=>nomatch z⟩
    | bl y=>cases (show n=_ from ty); cases (show u=Value.bool y from r1); exact ⟨_,PySem.W.kitx_bool,True.intro,fun z=>nomatch z⟩
    | int i=>cases (show n=_ from ty); obtain ⟨tk,z⟩:=(show ∃ t,u=Value.int i t from r1); cases z; exact ⟨_,PySem.W.kitx_int,True.intro,fun z=>nomatch z⟩
    | str y=>cases (show n=_ from ty); obtain ⟨tk,z⟩:=(show ∃ t,u=Value.str y t from r1); cases z; exact ⟨_,PySem.W.kitx_str,True.intro,fun z=>nomatch z⟩
    | ref a =>
      cases (show u=Value.ref a from r1)
      rcases ty with ⟨rfl,xs,hq⟩ | ⟨rfl,xs,hq⟩ | ⟨rfl,hq⟩
      · obtain ⟨its,_,p,_⟩:=I.list hq
        obtain ⟨o,n,e1,c1,_⟩:=p
        exact ⟨_,PySem.W.kitx_list,⟨o,e1,c1⟩,fun z=>nomatch z⟩
      · obtain ⟨its,_,p,_⟩:=I.tuple hq
        obtain ⟨o,h1,h2,_⟩:=p
        exact ⟨_,PySem.W.kitx_tuple,⟨o,h1,h2⟩,fun z=>nomatch z⟩
      · have z:∃ o,s.heap.get? a=some o∧o.ExactDict:=by
          rcases hq with ⟨kvs,hq⟩ | ⟨kvs,hq⟩
          · obtain ⟨_,_,_,_,o,_,_,e,ex,_⟩:=hq.ok I.hok
            exact ⟨o,e,ex⟩
          · obtain ⟨_,_,_,_,o,_,_,e,ex,_⟩:=hq.ok I.hok
            exact ⟨o,e,ex⟩
        obtain ⟨o,h1,h2⟩:=z
        exact ⟨_,PySem.W.kitx_dict,⟨o,h1,h2.1⟩,fun z=>nomatch z⟩
    | _=>exact False.elim ty
  · cases (show u=Value.ref a from r1)
    obtain ⟨mA,O,_⟩:=zoO I.hok ea; obtain ⟨od,J,_⟩:=O.look
    exact ⟨_,PySem.W.kitx_own (T.cl.get _) T.cl.hd T.ha T.hn T.htk T.hm,J,fun z=>nomatch z⟩
  · cases (show u=Value.ref a from r1)
    obtain ⟨⟨vs,sl,hx⟩,_⟩:=(show zbM X.prog X.w H s.heap a (.ext (XAt a C dd)) from I.hok a _ ea)
    refine ⟨_,X1.kitx_exc T,?_,fun z=>nomatch z⟩
    cases dd with
    | none=>exact ⟨_,none,hx,rfl,rfl,True.intro⟩
    | some dx =>
      obtain ⟨fs,hf⟩:=hdd dx rfl
      obtain ⟨mA,⟨o,es,ep,ho,_⟩,_⟩:=(show zbM X.prog X.w H s.heap dx (.xd fs) from I.hok dx _ hf)
      exact ⟨_,some o,hx,rfl,rfl,ho⟩
theorem zkV:zc9 X (.builtin "isinstance") (fun xs H Q=>∃ x t cv c b,xs=[x,cv]∧zsV cv=some c∧TyA X.K H x t∧PySem.W.kitOne X.K t c=some b∧Q (.bl b) H):=by
  intro pins s σ H xs us Q I r h; obtain ⟨x,t,cv,c,b,rfl,hc,ty,e,q⟩:=h; obtain ⟨u,w',rfl,r1,r2⟩:=zpq r
  cases zmI r2 hc
  obtain ⟨Hh,kx,hp,ne⟩:=zny I r1 ty
  exact PySem.W.kia_one kx I.kIn hp e ne fun tk=>⟨.bl b,H,I.tok _,rfl,q⟩
end
end L2
namespace PL
open PySem L2
section
variable {X:Cx} {pos:Pos}
def zaB (K:PySem.W.Frag) (t:TE') (f:Str):TE':=fun Γ Q=>t Γ fun d Γ1=>∃ C fs v,d=.obj C fs∧Cls K C∧zk1 K C f∧fs.lookup f=some v∧Q v Γ1
def zsW:D→Option Value
  | .ty n=>some (.type n)
  | .cls C=>some (.ref C)
  | _=>none
theorem zo2 {K:PySem.W.Frag} {H:Hp} {v:V} {d:D} {c:Value} (h:Den K H v d) (e:zsW d=some c):zsV v=some c:=by
  cases h with
  | ty n=>exact e
  | cls C=>exact e
  | _=>cases e
def TyD (K:PySem.W.Frag) (d:D) (t:Value):Prop:=(∃ n,t=.type n∧zoD d=some n)∨(∃ C fs,d=.obj C fs∧t=.ref C∧InsT K C)∨∃ C fs,d=.exc C fs∧t=.ref C∧X1.XIs K C
theorem TyD.ok {K:PySem.W.Frag} {Hi H:Hp} {x:V} {d:D} {t:Value} (s:za0 Hi H) (den:Den K Hi x d) (h:TyD K d t):TyA K H x t:=by
  rcases h with ⟨n,rfl,h⟩ | ⟨C,fs,rfl,rfl,T⟩ | ⟨C,fs,rfl,rfl,T⟩
  · exact .inl ⟨n,rfl,zml s den h⟩
  · obtain ⟨a,dx,fvs,rfl,ha,_⟩:=den.objI
    exact .inr (.inl ⟨a,C,dx,fvs,rfl,s _ _ ha,rfl,T⟩)
  · obtain ⟨a,dd,rfl,ha,xd⟩:=den.excI
    refine .inr (.inr ⟨a,C,dd,rfl,s _ _ ha,fun dx e=>?_,rfl,T⟩)
    rcases xd with ⟨e',_⟩ | ⟨dx',fs',e',hf,_⟩
    · rw [e'] at e; cases e
    · rw [e'] at e
      cases e; exact ⟨fs',s _ _ hf⟩
def zjM (K:PySem.W.Frag):RC':=fun ds Q=>∃ d t cd c b,ds=[d,cd]∧zsW cd=some c∧TyD K d t∧PySem.W.kitOne K t c=some b∧Q (.bl b)
theorem zra:Cal X (.builtin "isinstance") (zjM X.K):=⟨_,zkV,by
  rintro Hi H vs ds Q Q2 s dl ⟨d,t,cd,c,b,rfl,hc,ty,e,q⟩ fin
  obtain ⟨v,w,rfl,d1,d2⟩:=zoZ dl; exact ⟨v,t,w,c,b,rfl,zo2 d2 hc,ty.ok s.sub d1,e,fin Hi H _ _ (Ext.refl s) (.bl _) q⟩⟩
def zJ (C:Addr) (fs:List Str) (t:TA'):TE':=fun Γ Q=>t Γ fun ds Γ1=>ds.length=fs.length∧Q (.obj C (fs.zip ds)) Γ1
end
end PL
namespace L2
open PySem PySem.Spec PyProof.Rows
section
variable {X:Cx} {pins:List (Addr × Obj)} {σ:St} {H:Hp} {s:Shared} {a:Addr} {y d:V} {u r:Value} {o:Option V} {A:Around} {E:Value→Shared→Prop}
end
section
variable {X:Cx} {o e f:Expr} {apos cpos:Pos} {td ty tx:TE}
end
section
variable {X:Cx} {tg:Expr}
end
end L2
namespace PL
open PySem L2
section
variable {X:Cx} {pos:Pos}
theorem OptD.getD {K:PySem.W.Frag} {H:Hp} {o:Option V} {d:Option D} {v:V} {e:D} (h:OptD K H o d) (r:Den K H v e):Den K H (o.getD v) (d.getD e):=by
  cases h with
  | none=>exact r
  | some h=>exact h
def zjO (neg:Bool):R2':=fun x y Q=>∃ (l:List Nat) (ms:List (List Nat)),x=.str l∧(y=.tup (ms.map .str)∨y=.lst (ms.map .str))∧Q (.bl (if neg then !decide (l ∈ ms) else decide (l ∈ ms)))
theorem zf8 {K:PySem.W.Frag} {Hi:Hp}:∀ {vs:List V} {ms:List (List Nat)},zbN K Hi vs (ms.map .str)→vs=ms.map fun m=>V.str (st m)
  | [],[],_=>rfl
  | v :: vs,m :: ms,.cons r t=>by rw [List.map_cons,← r.strI,← zf8 t]
  | [],_ :: _,h=>nomatch h
  | _ :: _,[],h=>nomatch h
theorem zf5 (l:List Nat):∀ ms:List (List Nat),inV (.str (st l)) (ms.map fun m=>V.str (st m))=decide (l ∈ ms)
  | []=>rfl
  | m :: ms=>by
    have ih:=zf5 l ms
    unfold inV at ih ⊢
    rw [List.map_cons,List.any_cons,ih]
    have e:eqV (.str (st m)) (.str (st l))=decide (m=l):=by
      show decide (st m=st l)=_
      by_cases h:m=l
      · rw [h]; simp
      · rw [decide_eq_false h,decide_eq_false (fun z=>h (by
          have:=congrArg (fun x:Str=>x.cps.toList) z
          simpa [st] using this))]
    rw [e]
    by_cases h:m=l
    · subst h; simp
    · have h':¬ l=m:=fun z=>h z.symm
      simp [h,h']
theorem zgI (ms:List (List Nat)):(ms.map fun m=>V.str (st m)).all zeR=true:=by
  rw [List.all_eq_true]; intro x hx; obtain ⟨m,_,rfl⟩:=List.mem_map.mp hx; rfl
theorem zl5 {K:PySem.W.Frag} (neg:Bool):zh0 K (rIn K neg) (zjO neg):=by
  rintro Hi H x y dx dy Q Q2 s d1 d2 ⟨l,ms,rfl,hy,q⟩ fin
  cases d1.strI
  rcases hy with rfl | rfl
  · obtain ⟨a,vs,rfl,h1,h2⟩:=d2.tupJ
    rw [zf8 h2] at h1; refine ⟨a,_,rfl,.inr (SqT.of (s.sub _ _ h1)),rfl,zgI ms,?_⟩; rw [zf5]; exact fin Hi H _ _ (Ext.refl s) (.bl _) q
  · obtain ⟨a,vs,rfl,h1,h2⟩:=d2.lstI
    rw [zf8 h2] at h1; refine ⟨a,_,rfl,.inl (zaI s.sub h1),rfl,zgI ms,?_⟩; rw [zf5]; exact fin Hi H _ _ (Ext.refl s) (.bl _) q
theorem zhx:Op2 X (compareOp .NotIn) (zjO true):=⟨_,zgw,zl5 true⟩
instance {neg:Bool}:MR2 (zjO neg):=⟨fun _ _ _ _ h ⟨l,ms,a,b,q⟩=>⟨l,ms,a,b,h _ q⟩⟩
end
end PL
namespace PL
open PySem L2
section
variable {X:Cx} {Q:D→Prop}
instance:MR2 zhe:=⟨fun _ _ _ _ h ⟨i,j,a,b,c,q⟩=>⟨i,j,a,b,c,h _ q⟩⟩
def zd8:R2':=fun x y Q=>zfI x y Q∨zhe x y Q
theorem zca:Op2 X (binaryOp .Add) zd8:=zsB.or zqv
instance:MR2 zd8:=⟨fun _ _ _ _ h q=>q.imp (MR2.mono (r:=zfI) _ _ _ _ h) (MR2.mono (r:=zhe) _ _ _ _ h)⟩
instance {neg:Bool}:MR2 (zry neg):=⟨fun _ _ _ _ h ⟨i,j,a,b,q⟩=>⟨i,j,a,b,h _ q⟩⟩
def zfG:R2':=fun x y Q=>zfH x y Q∨zry true x y Q∨zjO true x y Q
theorem zlT (hu:X.A.units+1<cLine):Op2 X (compareOp .NotIn) zfG:=zor.or ((zlO hu).or zhx)
instance:MR2 zfG:=⟨fun _ _ _ _ h q=>q.imp (MR2.mono (r:=zfH) _ _ _ _ h) (fun q=>q.imp (MR2.mono (r:=zry true) _ _ _ _ h) (MR2.mono (r:=zjO true) _ _ _ _ h))⟩
instance:MR2 zhd:=⟨fun _ _ _ _ h ⟨i,j,v,a,b,c,q⟩=>⟨i,j,v,a,b,c,h _ q⟩⟩
def zd6:R2':=fun x y Q=>zk4 x y Q∨zhd x y Q
theorem i_A (hu:X.A.units+1<cLine):Ixs X zd6:=zsF.or (zsG hu)
instance:MR2 zd6:=⟨fun _ _ _ _ h q=>q.imp (MR2.mono (r:=zk4) _ _ _ _ h) (MR2.mono (r:=zhd) _ _ _ _ h)⟩
instance:MRS zgo:=⟨fun _ _ _ _ _ h ⟨ds,e,q⟩=>⟨ds,e,h _ q⟩⟩
def zjH:RS':=fun x lo hi Q=>zjI x lo hi Q∨zgo x lo hi Q
theorem s_A:Sli X zjH:=ztM.or zr4
instance:MRS zjH:=⟨fun _ _ _ _ _ h q=>q.imp (MRS.mono (r:=zjI) _ _ _ _ _ h) (MRS.mono (r:=zgo) _ _ _ _ _ h)⟩
def ze3:RC':=fun ds Q=>zgq ds Q∨zjK ds Q
theorem zdK:Cal X (.builtin "len") ze3:=zsX.or zq9
@[simp] theorem zrU:D.tup []=plc []:=rfl
@[simp] theorem zrT (l:List Nat):D.tup [.str l]=plc [l]:=rfl
theorem zcI {p q:List (List Nat)} (h:plc p=plc q):p=q:=by
  unfold plc at h
  injection h with h
  exact (List.map_inj_right (fun a b h=>D.str.inj h)).mp h
@[simp] theorem ztm (p q:List (List Nat)):plc p=plc q↔p=q:=⟨zcI,fun h=>by rw [h]⟩
@[simp] theorem zpZ (i j:Int):zd8 (.int i) (.int j) Q↔Q (.int (i+j)):=by simp [zd8,zhe]
@[simp] theorem zjP (l m:List Nat):zd8 (.str l) (.str m) Q↔l.length+m.length≤sizeLine∧Q (.str (l ++ m)):=by simp [zd8,zhe]
@[simp] theorem zpY (p q:List (List Nat)):zd8 (plc p) (plc q) Q↔p.length+q.length≤sizeLine∧Q (plc (p ++ q)):=by
  simp [zd8,zhe,zfI,zhf,plc]
@[simp] theorem zrx (ds:List D) (i:Int):zd6 (.lst ds) (.int i) Q↔∃ d,atI ds i=some d∧Q d:=by simp [zd6,zhd]
@[simp] theorem zlw (ds:List D) (i:Int):zd6 (.tup ds) (.int i) Q↔∃ d,atI ds i=some d∧Q d:=by simp [zd6,zhd]
@[simp] theorem zrv (l:List Nat) (i:Int):zd6 (.str l) (.int i) Q↔l.length≤sizeLine∧∃ c,atI l i=some c∧Q (.str [c]):=by simp [zd6,zhd]
@[simp] theorem zrw (p:List (List Nat)) (i:Int):zd6 (plc p) (.int i) Q↔∃ d,atI (p.map D.str) i=some d∧Q d:=zlw _ i
@[simp] theorem zr9 (l:List Nat) (n:Int):zjH (.str l) none (some n) Q↔l.length≤sizeLine∧0≤n∧Q (.str (l.take n.toNat)):=by simp [zjH,zgo]
@[simp] theorem zpM (l:List Nat) (n:Int):zjH (.str l) (some n) none Q↔l.length≤sizeLine∧0≤n∧Q (.str (l.drop n.toNat)):=by simp [zjH,zgo]
@[simp] theorem zro (ds:List D) (lo hi:Option Int):zjH (.lst ds) lo hi Q↔Q (.lst (zcM ds lo hi)):=by simp [zjH,zgo]
@[simp] theorem zlt (ds:List D) (lo hi:Option Int):zjH (.tup ds) lo hi Q↔Q (.tup (zcM ds lo hi)):=by simp [zjH,zgo,zjI,ziW,ziX]
theorem zdI {α β:Type} (f:α→β) (xs:List α) (lo hi:Option Int):zcM (xs.map f) lo hi=(zcM xs lo hi).map f:=by
  unfold zcM; rw [List.length_map,List.map_take,List.map_drop]
@[simp] theorem zrn (p:List (List Nat)) (lo hi:Option Int):zjH (plc p) lo hi Q↔Q (plc (zcM p lo hi)):=by
  unfold plc; rw [zlt,zdI]
@[simp] theorem zpO (l:List Nat):ze3 [.str l] Q↔l.length≤sizeLine∧Q (.int (l.length:Nat)):=by simp [ze3,zjK]
@[simp] theorem zpQ (l:List D):ze3 [.lst l] Q↔Q (.int (l.length:Nat)):=by simp [ze3,zjK]
@[simp] theorem zjL (l:List D):ze3 [.tup l] Q↔Q (.int (l.length:Nat)):=by simp [ze3,zjK]
@[simp] theorem zpP (p:List (List Nat)):ze3 [plc p] Q↔Q (.int (p.length:Nat)):=by
  unfold plc; rw [zjL,List.length_map]
@[simp] theorem zrj (p:List (List Nat)):znK (plc p)=some (p.map .str):=rfl
theorem zo0 {α:Type} (xs:List α) (n:Nat):zcM xs none (some (n:Int))=xs.take n:=by
  unfold zcM; rw [HT.sIx_none,HT.sIx_nat,List.drop_zero,Nat.sub_zero]
  by_cases h:n≤xs.length
  · rw [Nat.min_eq_left h]
  · rw [Nat.min_eq_right (by omega),List.take_length,List.take_of_length_le (by omega)]
theorem zgN {α:Type} (xs:List α) (n:Nat):zcM xs (some (n:Int)) none=xs.drop n:=by
  unfold zcM; rw [HT.sIx_none,HT.sIx_nat]
  by_cases h:n≤xs.length
  · rw [Nat.min_eq_left h,List.take_of_length_le (by rw [List.length_drop]; exact Nat.le_refl _)]
  · rw [Nat.min_eq_right (by omega),List.drop_length,List.take_nil,List.drop_eq_nil_of_le (by omega)]
theorem zkL {α:Type} (xs:List α):zcM xs none (some (-1))=xs.dropLast:=by
  unfold zcM
  have e:HT.sIx xs.length xs.length (some (-1))=xs.length-1:=by
    show (if (-1:Int)<0 then ((-1:Int)+(xs.length:Int)).toNat else min (-1:Int).toNat xs.length)=_
    rw [if_pos (by decide)]
    omega
  rw [HT.sIx_none,e,List.drop_zero,Nat.sub_zero,List.dropLast_eq_take]
theorem zhi {i:Int} {j:Nat} {p pos:Pos}:PE' X (.UnaryOp .USub (.Constant (.int i) j p) pos) (tC' (.int (-i))):=by
  refine zhl (v:=.int (-i)) (PE.weak (zsn zpr zj3) ?_) fun _=>.int _
  intro σ H Q q; exact ⟨i,rfl,q⟩
theorem zbE {A:Around} {k:Nat} (hr:Room k A):A.units+100<cLine:=by have:=hr.un; omega
@[simp] theorem zt4 {α:Type} (a:α) (l:List α):atI (a :: l) 0=some a:=zdx (j:=0) rfl
@[simp] theorem zt3 {α:Type} (a b:α) (l:List α):atI (a :: b :: l) 1=some b:=zdx (j:=1) rfl
@[simp] theorem zt2 {α:Type} (a b c:α) (l:List α):atI (a :: b :: c :: l) 2=some c:=zdx (j:=2) rfl
@[simp] theorem ztv {CX:CXT} {P:Program} {w:World} {K:PySem.W.Frag} {mg:Str→Option Value} {base:Heap} {N:List Str} {q:Str} {sc:Scope} {f:Addr} {cd:Value} {A:Around} {o:List Env} {s:Shared} {H:Hp} {E:XK}:(zjo CX P w K mg base N q sc f cd A o s H E).K=K:=rfl
@[simp] theorem ztu {CX:CXT} {P:Program} {w:World} {K:PySem.W.Frag} {mg:Str→Option Value} {base:Heap} {N:List Str} {q:Str} {sc:Scope} {f:Addr} {cd:Value} {A:Around} {o:List Env} {s:Shared} {H:Hp} {E:XK}:(zjo CX P w K mg base N q sc f cd A o s H E).N=N:=rfl
theorem zfd (K:PySem.W.Frag) {d:D} {n:String} (hk:zoD d=some n) {cd:D} {c:Value} (hc:zsW cd=some c):zjM K [d,cd] Q↔∃ b,PySem.W.kitOne K (.type n) c=some b∧Q (.bl b):=by
  constructor
  · rintro ⟨d',t,cd',v,b,e,h1,h2,h3,q⟩
    injection e with e1 e2
    injection e2 with e2 _
    subst e1 e2
    rw [hc] at h1; cases h1
    rcases h2 with ⟨m,rfl,h2⟩ | ⟨C',fs',rfl,rfl,T⟩ | ⟨C',fs',rfl,rfl,T⟩
    · rw [hk] at h2
      cases h2; exact ⟨b,h3,q⟩
    · cases hk
    · cases hk
  · rintro ⟨b,h,q⟩
    exact ⟨d,_,cd,c,b,rfl,hc,.inl ⟨n,rfl,hk⟩,h,q⟩
@[simp] theorem zpT (K:PySem.W.Frag) (c:String) (x:List D):zjM K [(.lst x),.ty c] Q↔∃ b,PySem.W.kitOne K (.type "list") (.type c)=some b∧Q (.bl b):=zfd K rfl rfl
@[simp] theorem zpS (K:PySem.W.Frag) (c:String) (x:List D):zjM K [(.tup x),.ty c] Q↔∃ b,PySem.W.kitOne K (.type "tuple") (.type c)=some b∧Q (.bl b):=zfd K rfl rfl
end
end PL
namespace X1
open PySem PySem.W
section
variable {prog:Program} {w:World} {A:Around} {E:Value→Shared→Prop} {s:Shared} {K:Frag} {x C:Addr} {vs:Array Value} {sl:Array (Option Value)} {name:Str} {v:Value}
end
end X1
namespace X1
open PySem PySem.W
section
variable {prog:Program} {w:World} {A:Around} {E:Value→Shared→Prop} {h:Heap} {g:Array GenState} {d:Drawn} {t:Nat} {os:OsState} {C N e:Addr} {bm bmB:List Value} {B nid iid:String} {zee:List Value} {vs:Array Value} {dd:Option Addr} {sl:Array (Option Value)}
end
end X1
namespace L2
open PySem PySem.Spec PyProof.Rows
section
variable {P:Program} {w:World} {K:PySem.W.Frag} {mg:Str→Option Value} {base:Heap} {N:List Str} {qual:Str} {scope:Scope} {f:Addr} {cd:Value} {A:Around} {outer:List Env} {s s':Shared} {H H':Hp} {E:XK} {pins:List (Addr × Obj)} {σ:St} {e C:Addr} {dd:Option Addr}
end
end L2
namespace L2
open PySem PySem.Spec PyProof.Rows
structure FlyI (X:Cx) (pins:List (Addr × Obj)) (H:Hp) (h:Heap) (e C:Addr) (dd:Option Addr):Prop where
  fe:zh1 X pins H e
  ex:∃ vs,X1.Ex h e (.ref C) dd vs∧1<vs.size∧X1.Hd h e vs .none (zh1 X pins H)
abbrev XS:=St→XK
def XP (X:Cx) (pins:List (Addr × Obj)) (E:XS) (e:Value) (s':Shared):Prop:=∃ ae C dd σ' H',e=.ref ae∧Inv X pins σ' H' s'∧FlyI X pins H' s'.heap ae C dd∧E σ' (.ref C) dd H'
abbrev TEx:=St→Hp→VK→XK→Prop
abbrev TSx:=Ends→XS→St→Hp→Prop
section
variable {X:Cx} {st:Stmt} {zee:List Stmt} {t u:TSx} {e:Expr} {te:TEx} {pos:Pos}
end
section
variable {P:Program} {w:World} {K:PySem.W.Frag} {mg:Str→Option Value} {base:Heap}
end
end L2
namespace L2
open PySem PySem.Spec PyProof.Rows
def del (H:Hp) (a:Addr):Hp:=fun b=>if b=a then none else H b
section
variable {X:Cx}
end
end L2
namespace L2
open PySem PySem.Spec PyProof.Rows
section
variable {X:Cx}
end
end L2
namespace L2
open PySem PySem.Spec PyProof.Rows
section
variable {X:Cx} {pins:List (Addr × Obj)} {σ:St} {H:Hp} {s:Shared}
end
section
variable {X:Cx}
end
end L2
namespace PL
open PySem L2
abbrev XW:=Addr→List (Str × D)→Sts→Prop
abbrev zt7:=Sts→(D→Sts→Prop)→XW→Prop
abbrev ztw:=Ends'→XW→Sts→Prop
section
variable {X:Cx} {pos:Pos} {e:Expr} {te:zt7} {st:Stmt} {zee:List Stmt} {t u:ztw}
abbrev zs3:=List D→(Res→Prop)→(Addr→List (Str × D)→Prop)→Prop
end
section
variable {X:Cx} {k:Nat} {x:Str} {ps:List Str} {sp:zs3} {p pos:Pos} {e:Expr} {es:List Expr} {t:TA'}
end
section
variable {P:Program} {w:World} {K:PySem.W.Frag} {mg:Str→Option Value} {base:Heap}
end
section
variable {X:Cx} {k:Nat} {x fld:Str} {C:Addr} {ok:V→Hp→Prop} {okD:D→Prop} {p cpos pos:Pos} {e:Expr} {ta:TA'}
end
section
variable {X:Cx} {M:Addr} {x n:Str} {body suite:List Stmt} {b0:Stmt} {tb:ztw} {ts:TS'} {p hpos pos:Pos}
end
end PL
namespace L2
open PySem PySem.Spec PyProof.Rows PySem.Builtin PySem.Builtin.Str
structure XFl (K:PySem.W.Frag) (C:Addr):Prop where
  get:X1.XGet K C
  hd:PySem.W.hasDictIn K C=true
section
variable {X:Cx}
theorem zdM:∀ {ys:List Str} {its:List Value},za3 (ys.map V.str) its→StrsAre its ys
  | [],_,.nil=>.nil
  | y :: r,_,.cons h t=>by
    obtain ⟨tk,rfl⟩:=h; exact .cons y tk (zdM t)
theorem zot:MtR X "str.join" (fun x xs H Q=>∃ z a ys,x=.str z∧xs=[.ref a]∧(SqL X.K H a (ys.map .str)∨SqT X.K H a (ys.map .str))∧(ys.map (·.length)).sum+ys.length * z.length≤16777216∧Q (.str (Txt.join z ys)) H):=by
  intro pins s σ H x xs v us Q I rx rs h; obtain ⟨z,a,ys,rfl,rfl,hs,hz,q⟩:=h; obtain ⟨t,rfl⟩:=rx; obtain ⟨u,rfl,ru⟩:=zdj rs
  obtain rfl:u=Value.ref a:=ru
  rcases hs with hs | hs
  · obtain ⟨its,r,p,_⟩:=I.list hs
    obtain ⟨o,n,e1,e2,e3,e4⟩:=p
    exact join_list (items:=its.toArray) ⟨o,e1,e2,n,by first | exact e3 | exact e4⟩ (zdM (by simpa using r)) hz fun t' k=>⟨.str _,H,I.tok _,⟨_,rfl⟩,q⟩
  · obtain ⟨its,r,p,_⟩:=I.tuple hs
    exact join_tuple p (zdM (by simpa using r)) hz fun t' k=>⟨.str _,H,I.tok _,⟨_,rfl⟩,q⟩
end
end L2
namespace PL
open PySem L2
section
variable {X:Cx}
theorem zgL {K:PySem.W.Frag} {H:Hp}:∀ {vs:List V} {ls:List (List Nat)},zbN K H vs (ls.map .str)→vs=(ls.map st).map V.str
  | _,[],.nil=>rfl
  | _,l :: ls,.cons r t=>by rw [r.strI,zgL t]; rfl
def zK (K:PySem.W.Frag) (t:TE') (f:Str):TE':=fun Γ Q=>t Γ fun d Γ1=>(∃ C fs v,d=.obj C fs∧Cls K C∧zk1 K C f∧fs.lookup f=some v∧Q v Γ1)∨∃ C fs v,d=.exc C fs∧XFl K C∧zk1 K C f∧fs.lookup f=some v∧Q v Γ1
theorem zjE {K:PySem.W.Frag} {H:Hp} {vs:List V} {ds:List D} (h:zbN K H vs ds):∀ k,zbN K H (List.replicate k vs).flatten (List.replicate k ds).flatten
  | 0=>.nil
  | k+1=>by
    rw [List.replicate_succ,List.replicate_succ,List.flatten_cons,List.flatten_cons]; exact zaU h (zjE h k)
end
end PL
namespace PL
open PySem L2
section
variable {X:Cx} {k:Nat} {x:Str} {ps:List Str} {sp:zs3} {p pos:Pos} {e:Expr} {es:List Expr} {t:TA'}
end
end PL
namespace PL
open PySem L2
theorem zno {X:Cx} (K:PySem.W.Frag) (h:X.K=K):Cal X (.builtin "isinstance") (zjM K):=by
  subst h; exact zra
end PL
namespace L2
open PySem PySem.Spec PyProof.Rows
section
variable {K:PySem.W.Frag} {C M N NM f:Addr} {c cM:Value} {d dM od:Option Addr} {es eM:Array DictEntry} {ep epM:Nat} {sl slM sf:Array (Option Value)}
end
end L2
namespace L2
open PySem
end L2
namespace L2
open PySem PySem.Spec PyProof.Rows
section
variable {X:Cx}
end
end L2
namespace PL
open PySem L2
section
variable {X:Cx} {k:Nat} {C:Addr} {m:Str} {ps:List Str} {sp:Sp'} {spx:zs3} {apos pos:Pos} {o e:Expr} {es:List Expr} {to:TE'} {t:TA'}
abbrev znr:=List D→Sts→(Sts→Prop)→Prop
def ztX (K:PySem.W.Frag) (n:Nat) (g:znr):TGs:=fun vs σ H Q2=>∃ W Hi Γ ds Q,Good K n W Hi Γ σ H∧zbN K Hi vs ds∧g ds Γ Q∧∀ σ' H' Hi' Γ',za0 Hi Hi'→Good K n W Hi' Γ' σ' H'→Q Γ'→Q2 σ' H'
structure PGs' (X:Cx) (es:List Expr) (g:znr):Prop where
  h:PGs X es (ztX X.K X.N.length g)
theorem PGs.weak {es:List Expr} {t t2:TGs} (h:PGs X es t) (w:∀ vs σ H Q,t2 vs σ H Q→t vs σ H Q):PGs X es t2:=fun pins s σ H vs us Q I r q=>h pins s σ H vs us Q I r (w _ _ _ _ q)
def zax:znr:=fun ds Γ Q=>ds=[]∧Q Γ
def zH (t:TG') (u:znr):znr:=fun ds Γ Q=>∃ d r,ds=d :: r∧t d Γ fun Γ1=>u r Γ1 Q
def zaw (n:Nat) (t:znr):TG':=fun d Γ Q=>∃ ds,d=.tup ds∧ds.length=n∧t ds Γ Q
theorem zlF:PGs' X [] zax:=by
  refine ⟨PGs.weak zn8 ?_⟩
  rintro vs σ H Q ⟨W,Hi,Γ,ds,Q',g,dl,⟨rfl,q⟩,fin⟩
  cases dl; exact ⟨rfl,fin σ H Hi Γ (za0.refl _) g q⟩
theorem zeF {e:Expr} {es:List Expr} {t:TG'} {u:znr} (h1:PG' X e t) (h2:PGs' X es u) (hs:(assignEach (e :: es) X.env).map (·.2)=assign e X.env :: (assignEach es X.env).map (·.2):=by rfl):PGs' X (e :: es) (zH t u):=by
  refine ⟨PGs.weak (zlG h1.h h2.h hs) ?_⟩
  rintro vs σ H Q ⟨W,Hi,Γ,ds,Q',g,dl,⟨d,r,rfl,q⟩,fin⟩
  cases dl with
  | cons r0 rr =>
    refine ⟨_,_,rfl,W,Hi,Γ,d,_,g,r0,q,?_⟩; intro σ1 H1 Hi1 Γ1 s1 g1 q1
    exact ⟨W,Hi1,Γ1,r,Q',g1,zbN.mono rr s1,q1,fun σ2 H2 Hi2 Γ2 s2=>fin σ2 H2 Hi2 Γ2 (s1.trans s2)⟩
theorem zn9 {es:List Expr} {k n:Nat} {t:znr} (h:PGs' X es t) (hc:X.calm=true:=by rfl) (hn:(assignEach es X.env).length=n:=by rfl) (hst:(assignEach es X.env).findIdx? (·.1)=none:=by rfl):PG' X (.Tuple es k pos) (zaw n t):=by
  refine ⟨PG.weak (zp9 hc h.h hn hst) ?_⟩
  rintro v σ H Q ⟨W,Hi,Γ,d,Q',g,den,⟨ds,rfl,hl,q⟩,fin⟩
  obtain ⟨a,vs,rfl,ha,dl⟩:=den.tupI
  exact ⟨a,vs,rfl,zaJ g.sub ha,by rw [zf dl]; exact hl,W,Hi,Γ,ds,Q',g,dl,q,fin⟩
theorem zn3 {tg e:Expr} {te:TE'} {g:TG'} (he:PE' X e te) (hg:PG' X tg g) (hs:swapsWithSole [tg] e pos.line X.env=pure false:=by rfl) (hw:swappedStores [tg] e X.env=pure none:=by rfl) (h1:(assignEach [tg] X.env).map (·.2)=[assign tg X.env]:=by rfl):PS' X (.Assign [tg] e pos) (zW te g):=by
  refine ⟨PS.weak (zmQ he.h hg.h hs hw h1) ?_⟩
  rintro N2 σ H ⟨W,Hi,Γ,N,g,h,l⟩
  refine ⟨W,Hi,Γ,_,g,h,?_⟩
  rintro v H1 ⟨Hi1,d,Γ1,s1,g1,den,q⟩
  exact ⟨W,Hi1,Γ1,d,_,g1,den,q,fun σ2 H2 Hi2 Γ2 s2 g2 q2=>l.nx σ2 H2 Hi2 Γ2 (s1.trans s2) g2 q2⟩
end
end PL
namespace PL
open PySem L2
section
variable {X:Cx}
end
section
variable {P:Program} {w:World} {K:PySem.W.Frag} {mg:Str→Option Value} {base:Heap}
end
end PL
namespace Mu
open PySem PySem.Builtin
theorem noFill_tup:fillsNumberSlot (.type "tuple") "mul"=pure false :=
  fillsNumberSlot_seq (id:="tuple.__mul__") (r:=some (.builtin "tuple.__rmul__")) PySem.F.slot_tuple_mul.lookup (by decide +kernel) PySem.F.slot_tuple_rmul.lookup (by decide +kernel)
theorem rep_tup:seqRepeat? (.type "tuple")=pure (some (.builtin "tuple.__mul__")):=by
  unfold seqRepeat?
  rw [seqSlot_of (T:="tuple") (name:="__mul__") (id:="tuple.__mul__") PySem.F.slot_tuple_mul.lookup (by decide +kernel),seqSlot_of (T:="tuple") (name:="__rmul__") (id:="tuple.__rmul__") PySem.F.slot_tuple_rmul.lookup (by decide +kernel)]
  rfl
theorem rmul_tup (a:Int) (t:Tok) (l:Addr) (o:Obj) (xs:Array Value) (n:Nat) (hc:o.cls=.type "tuple") (hd:o.data=.seq xs n):Meets (Builtin.«int.__rmul__» ⟨[.int a t,.ref l],[]⟩) (fun _ R s=>s.heap.get? l=some o∧R (.ok (.ret Value.notImplemented)) s) :=
  .of_wp fun prog w A R s h=>by
    obtain ⟨hp,g,d,tk,os⟩:=s; obtain ⟨hl,h⟩:=h; obtain ⟨oc,od,dt,sl⟩:=o
    dsimp only at hc hd
    subst hc hd
    wp_walk
    exact ⟨_,rfl,h⟩
theorem mul_tup (k:Nat) (t:Tok) (l:Addr) (o:Obj) (xs:Array Value) (n:Nat) (hc:o.cls=.type "tuple") (hd:o.data=.seq xs n) (hk:2≤k) (hk2:k≤100) (hz:xs.size * k≤10000) :
    Meets (Builtin.«tuple.__mul__» ⟨[.ref l,.int k t],[]⟩) (fun _ R s=>s.heap.get? l=some o∧(xs.isEmpty=true→R (.ok (.ret (.ref l))) s) ∧
      (xs.isEmpty=false→R (.ok (.ret (.ref s.heap.objs.size))) { s with heap:=s.heap.push { cls:=.type "tuple",data:=.seq ((List.replicate k xs).foldl (· ++ ·) #[]) } })) :=
  .of_wp fun prog w A R s h=>by
    obtain ⟨hp,g,d,tk,os⟩:=s; obtain ⟨hl,h1,h2⟩:=h; obtain ⟨oc,od,dt,sl⟩:=o
    dsimp only at hc hd
    subst hc hd
    have e1:(decide ((k:Int)< -(2 ^ 63)) || decide ((k:Int) ≥ 2 ^ 63))=false:=by
      rw [decide_eq_false (by omega),decide_eq_false (by omega)]
      rfl
    have e2:((k:Int) == 1)=false:=by rw [beq_eq_false_iff_ne]; omega
    have e3:decide ((k:Int)≤0)=false:=decide_eq_false (by omega)
    have e4:¬ ((xs.size:Int) * (k:Int) > (2 ^ 63-1) / 8):=by
      have:((xs.size * k:Nat):Int)≤10000:=by omega
      rw [Int.natCast_mul] at this; omega
    have e5:Builtin.Tuple.tupleTooMany ((xs.size:Int) * (k:Int))=false:=by
      unfold Builtin.Tuple.tupleTooMany
      have:((xs.size * k:Nat):Int)≤10000:=by omega
      rw [Int.natCast_mul] at this
      have b:10000<sizeLine:=by decide
      exact decide_eq_false (by omega)
    wp_walk
    rw [if_neg (by rw [e1]; exact Bool.false_ne_true)]
    wp_walk
    cases he:xs.isEmpty with
    | true =>
      wp_walk
      exact ⟨_,rfl,h1 he⟩
    | false =>
      wp_walk
      rw [if_neg (by rw [e3]; decide)]
      dsimp only
      rw [if_neg e4,if_neg (by rw [e5]; decide),Int.toNat_natCast]
      have hsz:(List.foldl (fun x1 x2=>x1 ++ x2) #[] (List.replicate k xs)).size≤sizeLine:=by
        have e:=L2.foldl_rep xs.toList k []
        have e':List.foldl (fun x1 x2=>x1 ++ x2) #[] (List.replicate k xs)=([] ++ (List.replicate k xs.toList).flatten).toArray:=by simpa using e
        rw [e',List.size_toArray,List.nil_append,L2.len_rep,Array.length_toList,Nat.mul_comm]
        have b:10000<sizeLine:=by decide
        omega
      unfold Builtin.Tuple.tupleExact; exact wpAny_bind (wpAny_newObj_type (wpAny_pure ⟨_,rfl,h2 he⟩) hsz)
end Mu
namespace L2
open PySem PySem.Spec PyProof.Rows
section
variable {X:Cx}
def zsb:R2:=fun x y H Q=>∃ (l:Addr) (k:Nat) (xs:List V),x=.ref l∧y=.int k∧H l=some (.tup xs)∧2≤k∧k≤100∧xs.length * k≤10000∧(xs=[]→Q (.ref l) H)∧(xs≠[]→∀ p,H p=none→Q (.ref p) (upd H p (.tup (List.replicate k xs).flatten)))
theorem zog:OpR X (binaryOp .Mult) zsb:=by
  intro pins s σ H x y v u Q I rx ry h; obtain ⟨l,k,xs,rfl,rfl,hH,h1,h2,hz,q1,q2⟩:=h; cases rx; obtain ⟨t,rfl⟩:=ry
  obtain ⟨z,its,r,o,ho,hc,n,hd⟩:=(show zbM X.prog X.w H s.heap l (.tup xs) from I.hok l _ hH)
  have hl:=r.length
  refine wpAny_binaryOp_repeat_ref (T:="tuple") (U:="int") (by decide) ⟨_,ho,hc⟩ (fun s'=>typeIs_int s' k t) Mu.noFill_tup PySem.F.fills_int_mul PySem.F.slot_int_rmul Mu.rep_tup PySem.F.slot_int_index.lookup
    (call_meets PySem.F.slot_int_rmul (typeIs_int s k t) PySem.F.entry_int_rmul (PySem.F.args_int_rmul_2 _ _) (Mu.rmul_tup k t l o its.toArray n hc hd) ⟨ho,rfl,⟨_,ho,hc⟩,call_meets PySem.F.slot_tuple_mul ⟨_,ho,hc⟩ PySem.F.entry_tuple_mul (PySem.F.args_tuple_mul_2 _ _) (Mu.mul_tup k t l o its.toArray n hc hd h1 h2 (by rw [List.size_toArray,← hl]; exact hz)) ⟨ho,fun e=>?_,fun e=>?_⟩⟩)
  · have:xs=[]:=List.eq_nil_of_length_eq_zero (by rw [hl]; simpa using e)
    exact ⟨.ref l,H,I,rfl,q1 this⟩
  · have hne:xs≠[]:=fun z=>by
      rw [z] at hl
      have:its=[]:=List.eq_nil_of_length_eq_zero hl.symm
      rw [this] at e
      simp at e
    have e':List.foldl (fun x1 x2=>x1 ++ x2) #[] (List.replicate k its.toArray)=(List.replicate k its).flatten.toArray:=by
      have:=foldl_rep its k []
      rw [List.nil_append] at this; exact this
    rw [e']
    have hlen:(List.replicate k xs).flatten.length≤sizeLine:=by
      rw [len_rep,Nat.mul_comm]
      have b:10000<sizeLine:=by decide
      omega
    refine ⟨.ref _,upd H s.heap.objs.size (.tup (List.replicate k xs).flatten),I.laid (t':=s.toks) (fun _ _ q=>Heap.get?_push_of_some _ q) (Nat.le_refl _) ⟨hlen,(List.replicate k its).flatten,r.rep k,⟨_,Heap.get?_push_size _ rfl,rfl,_,rfl⟩⟩,rfl,q2 hne _ I.fresh⟩
end
end L2
namespace PL
open PySem L2
section
variable {X:Cx}
def zgp:R2':=fun x y Q=>∃ (ds:List D) (k:Nat),x=.tup ds∧y=.int k∧2≤k∧k≤100∧ds.length * k≤10000∧Q (.tup (List.replicate k ds).flatten)
theorem zqu:Op2 X (binaryOp .Mult) zgp:=⟨_,zog,by
  rintro Hi H x y dx dy Q Q2 s d1 d2 ⟨ds,k,rfl,rfl,h1,h2,h3,q⟩ fin
  obtain ⟨a,vs,rfl,ha,dl⟩:=d1.tupJ; have hl:=zf dl
  refine ⟨a,k,vs,rfl,d2.intI,s.sub _ _ ha,h1,h2,by rw [hl]; exact h3,fun e=>?_,fun _ p hp=>?_⟩
  · have:ds=[]:=List.eq_nil_of_length_eq_zero (by rw [← hl,e]; rfl)
    subst this; refine fin Hi H _ (.tup []) (Ext.refl s) d1 ?_
    simpa using q
  · have e:=Ext.new s hp (.tup (List.replicate k vs).flatten)
    exact fin _ _ _ _ e (Den.mkT zO (zjE (dl.mono e.hi) k)) q⟩
instance:MR2 zgp:=⟨fun _ _ _ _ h ⟨ds,k,a,b,c,d,e,q⟩=>⟨ds,k,a,b,c,d,e,h _ q⟩⟩
end
end PL
namespace PL
open PySem L2
section
variable {X:Cx} {Q:D→Prop}
def zlu:R2':=fun x y Q=>rI' ziM (fun i j=>.int (i * j)) x y Q∨zgp x y Q
theorem zfi:Op2 X (binaryOp .Mult) zlu:=zsw.or zqu
instance:MR2 zlu:=⟨fun _ _ _ _ h q=>q.imp (MR2.mono (r:=rI' ziM fun i j=>.int (i * j)) _ _ _ _ h) (MR2.mono (r:=zgp) _ _ _ _ h)⟩
@[simp] theorem zpN (i j:Int):zlu (.int i) (.int j) Q↔ziM i j∧Q (.int (i * j)):=by simp [zlu,zgp]
end
end PL
namespace PL
open PySem L2
section
variable {X:Cx} {Q:D→Prop}
def zpV:RC':=fun ds Q=>∃ b:Bool,ds=[.bl b]∧Q (.int (if b then 1 else 0))
theorem zrb:Cal X (.type "int") zpV:=⟨_,zkW,by
  rintro Hi H vs ds Q Q2 s dl ⟨b,rfl,q⟩ fin
  obtain ⟨v,rfl,den⟩:=zdG dl
  exact .inr ⟨b,by rw [den.blI],fin Hi H _ _ (Ext.refl s) (.int _) q⟩⟩
def zsg:RC':=fun ds Q=>zpU ds Q∨zpV ds Q
theorem znp:Cal X (.type "int") zsg:=zsY.or zrb
end
end PL
namespace Zp
open PySem
section
variable {prog:Program} {w:World} {A:Around} {E:Value→Shared→Prop} {s:Shared} {z TI TO i1 i2:Addr} {f1 f2:List Addr} {n1 n2:Nat→Heap→Prop} {xs ys:List Value} {k:Nat} {a b x y:Value}
end
end Zp
namespace Zp
open PySem
section
variable {prog:Program} {w:World} {A:Around} {E:Value→Shared→Prop} {s:Shared}
end
end Zp
namespace L2
open PySem PySem.Spec PyProof.Rows
section
variable {X:Cx} {pins:List (Addr × Obj)} {σ:St} {H:Hp} {s:Shared} {h':Heap}
end
end L2
namespace L2
open PySem PySem.Spec PyProof.Rows Zp
def ItB (lb:Bool) (h:Heap) (it l:Addr) (i:Nat):Prop:=match lb with | true=>h.IsListIter it l i | false=>h.IsTupleIter it l i
theorem ItB.obj {lb:Bool} {h:Heap} {it l:Addr} {i:Nat} (x:ItB lb h it l i):∃ o,h.get? it=some o∧∀ v,o.data≠.cell v:=by
  cases lb with
  | true=>obtain ⟨o,e,_,d⟩:=x; exact ⟨o,e,fun v z=>by rw [d] at z; cases z⟩
  | false=>obtain ⟨o,e,_,d⟩:=x; exact ⟨o,e,fun v z=>by rw [d] at z; cases z⟩
section
variable {X:Cx} {pins:List (Addr × Obj)} {σ:St} {H:Hp} {s:Shared} {a b:Addr} {xs ys:List V} {lb:Bool}
end
end L2
namespace L2
open PySem PySem.Spec PyProof.Rows Zp
section
variable {X:Cx}
end
end L2
namespace PL
open PySem L2
section
variable {X:Cx}
end
end PL
namespace Lb
def Dig (c:Nat):Prop:=48≤c∧c≤57
def Sml (c:Nat):Prop:=97≤c∧c≤122
def zph:List Nat:=[97,98,99,100,101,102,103,104,105,106,107,108,109,110,111,112,113,114,115,116,117,118,119,120,121,122]
def znf:List Nat:=[48,49,50,51,52,53,54,55,56,57]
theorem zlZ (c:Nat):c ∈ zph↔Sml c:=by
  simp only [zph,Sml,List.mem_cons,List.not_mem_nil,or_false]; omega
theorem zek (c:Nat):c ∈ znf↔Dig c:=by
  simp only [znf,Dig,List.mem_cons,List.not_mem_nil,or_false]; omega
theorem zdk {p:Nat→Bool}:∀ (ls ds:List Nat),(∀ c ∈ ls,p c=true)→(∀ c ∈ ds,p c=false)→(ls ++ ds).takeWhile p=ls
  | [],[],_,_=>rfl
  | [],d :: ds,_,h=>by rw [List.nil_append,List.takeWhile_cons,h d (List.mem_cons_self ..)]; rfl
  | l :: ls,ds,h1,h2=>by
    rw [List.cons_append,List.takeWhile_cons,h1 l (List.mem_cons_self ..),if_pos rfl,zdk ls ds (fun c hc=>h1 c (List.mem_cons_of_mem _ hc)) h2]
theorem ziR {p:Nat→Bool} {ds ls:List Nat} (h1:∀ c ∈ ls,p c=true) (h2:∀ c ∈ ds,p c=false):(((ds ++ ls).reverse).takeWhile p).length=ls.length:=by
  rw [List.reverse_append,zdk _ _ (fun c hc=>h1 c (List.mem_reverse.mp hc)) (fun c hc=>h2 c (List.mem_reverse.mp hc)),List.length_reverse]
end Lb
namespace Lb
def dig (c:Nat):Bool:=decide (c ∈ znf)
def sml (c:Nat):Bool:=decide (c ∈ zph)
def wsg:List Nat:=zph ++ znf
def cut (l:List Nat):List Nat:=(l.reverse.dropWhile sml).reverse
def zcQ (l:List Nat):List Nat:=(l.reverse.takeWhile sml).reverse
theorem zd1 (l:List Nat):cut l ++ zcQ l=l:=by
  unfold cut zcQ; rw [← List.reverse_append,List.takeWhile_append_dropWhile,List.reverse_reverse]
theorem zdl {p:Nat→Bool}:∀ l:List Nat,∀ c ∈ l.takeWhile p,p c=true
  | [],c,h=>by simp at h
  | a :: r,c,h=>by
    rw [List.takeWhile_cons] at h; split at h
    · rename_i ha
      rcases List.mem_cons.mp h with e | e
      · rw [e]; exact ha
      · exact zdl r c e
    · simp at h
theorem zlj (l:List Nat):∀ c ∈ zcQ l,sml c=true:=fun c hc=>zdl _ c (List.mem_reverse.mp hc)
theorem zeT {c:Nat} (h:dig c=true):sml c=false:=by
  have a:=(zek c).mp (of_decide_eq_true h)
  refine decide_eq_false fun z=>?_
  have b:=(zlZ c).mp z; unfold Dig at a; unfold Sml at b; omega
theorem zq1 {ds ls:List Nat} (h1:∀ c ∈ ls,sml c=true) (h2:∀ c ∈ ds,sml c=false):cut (ds ++ ls)=ds:=by
  have e:=ziR h1 h2; have a:=zd1 (ds ++ ls)
  have hl:(zcQ (ds ++ ls)).length=ls.length:=by
    unfold zcQ; rw [List.length_reverse]; exact e
  have hl2:(cut (ds ++ ls)).length=ds.length:=by
    have:=congrArg List.length a
    rw [List.length_append,List.length_append] at this; omega
  exact (List.append_inj a hl2).1
def zaH (l:List Nat):Bool:=decide (1≤(cut l).length∧(cut l).length≤9) && decide ((cut l)[0]?≠some 48) && (cut l).all dig && decide (l.length-(cut l).length≤3)
end Lb
namespace M11
open PySem L2 Lb PL
theorem zgJ:∀ (m:Nat),1≤m→∃ c r,Nat.toDigits 10 m=c :: r∧c.toNat≠48
  | m,h=>by
    by_cases hm:m<10
    · refine ⟨_,[],Nat.toDigits_of_lt_base hm,?_⟩
      have:m=1∨m=2∨m=3∨m=4∨m=5∨m=6∨m=7∨m=8∨m=9:=by omega
      rcases this with rfl | rfl | rfl | rfl | rfl | rfl | rfl | rfl | rfl <;> decide
    · obtain ⟨c,r,e,hc⟩:=zgJ (m / 10) (by omega)
      exact ⟨c,r ++ [(m % 10).digitChar],by rw [Nat.toDigits_of_base_le (by decide) (by omega),e]; rfl,hc⟩
termination_by m=>m
decreasing_by omega
theorem num_lab {n:Int} (h0:1≤n) (h1:n<10 ^ 9):(∀ c ∈ zk5 n,dig c=true)∧1≤(zk5 n).length∧(zk5 n).length≤9∧(zk5 n)[0]?≠some 48:=by
  have hl:=PyProof.Rows.toString_length_le (v:=n) (by omega) (k:=9) (by decide) h1
  obtain ⟨m,rfl⟩:=Int.eq_ofNat_of_zero_le (show 0≤n by omega)
  have hs:=PySem.W.KIN.signs_num m
  obtain ⟨c,r,e,hc⟩:=zgJ m (by omega)
  unfold zk5
  refine ⟨fun c hc=>?_,?_,?_,?_⟩
  · rw [hs] at hc
    obtain ⟨d,hd,rfl⟩:=List.mem_map.mp hc
    have hdig:=Nat.isDigit_of_mem_toDigits (by decide) (by decide) hd
    simp only [Char.isDigit,Bool.and_eq_true,decide_eq_true_eq] at hdig; exact decide_eq_true ((zek _).mpr ⟨hdig.1,hdig.2⟩)
  · rw [hs,e]
    simp
  · rw [show (Str.ofString (toString (m:Int))).cps.toList.length=(Str.ofString (toString (m:Int))).length by simp [Str.length]]
    exact hl
  · rw [hs,e]
    simpa using hc
theorem lab_of {ds ls:List Nat} (h1:∀ c ∈ ds,dig c=true) (h2:1≤ds.length) (h3:ds.length≤9) (h4:ds[0]?≠some 48) (h5:∀ c ∈ ls,sml c=true) (h6:ls.length≤3):zaH (ds ++ ls)=true:=by
  have e:cut (ds ++ ls)=ds:=zq1 h5 fun c hc=>zeT (h1 c hc)
  unfold zaH; rw [e]
  have ha:ds.all dig=true:=List.all_eq_true.mpr h1
  rw [ha,decide_eq_true (⟨h2,h3⟩:1≤ds.length∧ds.length≤9),decide_eq_true h4,decide_eq_true (show (ds ++ ls).length-ds.length≤3 by rw [List.length_append]; omega)]
  rfl
end M11
namespace MT
open PySem L2 PL
abbrev Pl:=List (List Nat)
inductive Tr where
  | node (l:List Nat) (ws:Pl) (ks:List Tr)
def Tr.lab:Tr→List Nat
  | .node l _ _=>l
def Tr.wds:Tr→Pl
  | .node _ ws _=>ws
def Tr.kds:Tr→List Tr
  | .node _ _ ks=>ks
mutual
def trD:Tr→D
  | .node l ws ks=>.tup [.str l,plc ws,.tup (zpu ks)]
def zpu:List Tr→List D
  | []=>[]
  | t :: r=>trD t :: zpu r
end
theorem zh5:∀ ks:List Tr,zpu ks=ks.map trD
  | []=>by simp [zpu]
  | t :: r=>by simp [zpu,zh5 r]
theorem zaO (t:Tr):trD t=.tup [.str t.lab,plc t.wds,.tup (t.kds.map trD)]:=by
  cases t with
  | node l ws ks=>simp [trD,zh5,Tr.lab,Tr.wds,Tr.kds]
def zb (l:List Nat) (ks:List Tr):Option Tr:=ks.find? fun k=>decide (k.lab=l)
def zbX:Option Tr→D
  | none=>.non
  | some t=>trD t
def zS:Tr→Pl→Option Tr
  | t,[]=>some t
  | t,l :: p=>match zb l t.kds with
    | none=>none
    | some k=>zS k p
theorem zbG (t:Tr):trD t≠.non:=by rw [zaO]; simp
inductive Dp:Nat→Tr→Prop where
  | mk {n:Nat} {l:List Nat} {ws:Pl} {ks:List Tr} (h:∀ k ∈ ks,Dp n k):Dp (n+1) (.node l ws ks)
theorem zeK:∀ (p:Pl) (t:Tr) (l:List Nat),zS t (p ++ [l])=match zS t p with
    | none=>none
    | some k=>zb l k.kds
  | [],t,l=>by
    simp only [List.nil_append,zS]
    cases zb l t.kds <;> rfl
  | m :: p,t,l=>by
    simp only [List.cons_append,zS]
    cases zb m t.kds with
    | none=>rfl
    | some k=>exact zeK p k l
theorem zhA {t:Tr} {p:Pl} (h:(zS t p).isSome=true):∀ i,(zS t (p.take i)).isSome=true:=by
  intro i
  have e:p=p.take i ++ p.drop i:=(List.take_append_drop i p).symm
  generalize p.drop i=r at e; generalize hq:p.take i=a at e
  clear hq
  subst e
  induction r generalizing a with
  | nil=>simpa using h
  | cons l r ih =>
    have h':(zS t ((a ++ [l]) ++ r)).isSome=true:=by simpa using h
    have:=ih (a ++ [l]) h'
    rw [zeK] at this
    cases hn:zS t a with
    | none=>rw [hn] at this; exact this
    | some k=>rfl
end MT
namespace L2
open PySem PySem.Spec PyProof.Rows
def PU (X:Cx) (e:Expr) (t:TE):Prop:=∀ (pins:List (Addr × Obj)) (s:Shared) (σ:St) (H:Hp) (Q:VK) (i:Nat) (x:Str) (pos pos':Pos) (D:Ends),Inv X pins σ H s→t σ H Q→X.N.Nodup→X.N[i]?=some x→X.env.scope.names.lookup x=some .local →
  swapsWith e (some (.Name x pos')) pos.line X.env=pure true→(∀ v H',Q v H'→D.nx (σ.set i (some v)) H')→wpAny (model X.prog X.w) X.A (exec (.Assign [.Name x pos'] e pos) X.env) (SP X pins D) X.xe s
theorem PU.weak {X:Cx} {e:Expr} {t t2:TE} (h:PU X e t) (w:∀ σ H Q,t2 σ H Q→t σ H Q):PU X e t2:=fun pins s σ H Q i x pos pos' D I q=>h pins s σ H Q i x pos pos' D I (w _ _ _ q)
theorem znT {X:Cx} {elt tg iter:Expr} {ifs:List Expr} {sc fsc:Scope} {pos:Pos} {wi:TI} {g:TG} {tc:TT} {te:TE} {N N':List Str} {src:List (Option Nat)} (B:Blk N N' src fsc sc) (hi:PI X tg iter wi)
    (hg:∀ cl C s H fp pn,PG (blk X N' sc cl C s H fp pn) tg g) (ht:∀ cl C s H fp pn,PTs (blk X N' sc cl C s H fp pn) ifs tc) (he:∀ cl C s H fp pn,PE (blk X N' sc cl C s H fp pn) elt te)
    (hx:X.xe=(fun _ _=>False):=by rfl) (hc:X.calm=true:=by rfl) (hN:X.N=N:=by rfl) (hs:X.env.scope=fsc:=by rfl)
    (hf:∀ x,foldedSetIterable iter X.env x=pure x:=by intro _; rfl):PU X (.ListComp elt [⟨tg,iter,ifs,0⟩] sc pos) (zpz wi src g tc te):=by
  intro pins s σ H Q i0 x0 p0 p1 D0 I h hNd hi0 hx0 hsw fin; rw [exec_Assign_Name_used _ _ _ _ hsw]; refine wpAny_bind (wpAny_standAt (wpAny_bind ?_))
  show wpAny _ _ (do let _ ← comprehension (.ListComp elt [⟨tg,iter,ifs,0⟩] sc pos) sc X.env _ (newList []) false (eval iter X.env) (some (assign (.Name x0 p1) X.env))) _ _ _
  have hfr:∀ y ∈ sc.names,y.2=.free→∃ c,X.env.cells.lookup y.1=some c:=fun y hy e=>I.ok.has y.1 (.inl (by have:=B.free y hy e; rw [← hs] at this; exact this))
  refine wpAny_bind (wpAny_mono (wpAny_comprehension_free (use:=some (assign (.Name x0 p1) X.env)) (Q:=fun _ s'=>SP X pins D0 .next s') (cl:=zdo X.env.cells sc.names []) rfl hf (zfs hfr) B.kind B.names ?_) (fun _ s' hq=>wpAny_pure (wpAny_pure hq)) fun _ _ e=>e)
  refine thn (hi pins s σ H _ I h) fun v s1 h1=>thn h1 fun itv s2 h2=>?_
  obtain ⟨it,fp,tn,J,H2,e,I2,T,st2,f2,q⟩:=h2; subst e
  obtain ⟨W,⟨m0,w0⟩,turn⟩:=q s2.heap.objs.size (I2.hok.fresh (Nat.le_refl _))
  refine wpAny_newObj_type (wpAny_newFunctionEnv B.cell (by intro y hy; simp at hy) (fun h1 hns hsb=>?_) B.kind)
  dsimp only at hns hsb ⊢
  have I3:Inv X pins σ (upd H2 s2.heap.objs.size (.lst [])) { s2 with heap:=s2.heap.push { cls:=.type "list",dict:=none,data:=.seq ([]:List Value).toArray } } :=
    I2.laid (t':=s2.toks) (fun b o e=>Heap.get?_push_of_some _ e) (Nat.le_refl _) ⟨Nat.zero_le _,[],0,.nil,Heap.get?_push_size _ rfl⟩
  have fb:∀ b ∈ fp,b<s2.heap.objs.size:=fun b hb=>by
    obtain ⟨o,e,_⟩:=T.obj 0 _ st2 b hb; exact Heap.lt_size e
  have f3:∀ b ∈ fp,zh1 X pins (upd H2 s2.heap.objs.size (.lst [])) b:=fun b hb=>by
    refine ⟨?_,(f2 b hb).2⟩; rw [zaD (Nat.ne_of_lt (fb b hb))]; exact (f2 b hb).1
  generalize hh3:s2.heap.push { cls:=.type "list",dict:=none,data:=.seq ([]:List Value).toArray }=h3 at hns hsb I3 ⊢
  have z3:s2.heap.objs.size<h3.objs.size:=by rw [← hh3,Heap.size_push]; exact Nat.lt_succ_self _
  have k3:∀ b o,h3.get? b=some o→h1.get? b=some o:=fun b o e=>hsb.extBut b o (Nat.ne_of_lt (Heap.lt_size e)) (Heap.get?_push_of_some _ e)
  have I4:=znq (tk:=s2.toks+([]:List (Str × Value)).length) I3 B hN hs f3 (fun b hb=>Nat.lt_trans (fb b hb) z3) hns k3
  have st4:tn 0 h1:=T.keep 0 _ _ st2 fun b hb o e=>k3 b o (by rw [← hh3]; exact Heap.get?_push_of_some _ e)
  have fok:∀ {H':Hp},(∀ b ∈ fp,H' b=none)→∀ b ∈ fp,zh1 (blk X N' sc (zdo X.env.cells sc.names []) h3.objs.size { s2 with heap:=h3 } (upd H2 s2.heap.objs.size (.lst [])) fp (X.pn ++ pins)) [] H' b:=fun hn b hb=>by
    obtain ⟨_,g1,g2,g3,g4,g5⟩:=f3 b hb
    refine ⟨hn b hb,Nat.ne_of_lt (Nat.lt_trans (fb b hb) z3),fun z=>?_,.inl hb,fun x c e=>g4 x c (zdJ sc.names [] hfr (fun _ _ z=>by simp at z) e),fun p hp=>g5 p (by rw [List.append_nil] at hp; exact hp)⟩
    rcases List.mem_cons.mp (I3.stkSub b z) with e | e
    · exact g1 e
    · exact g2 e
  have loop:∀ s4:Shared,s4={ s2 with heap:=h1,toks:=s2.toks+([]:List (Str × Value)).length } →
      codeAny (model X.prog X.w) X.A (.compLoop (.ListComp elt [⟨tg,iter,ifs,0⟩] sc pos) 0 (.ref it) (.ref s2.heap.objs.size) (compEnvC sc (zdo X.env.cells sc.names []) h3.objs.size X.env))
        (compPost (model X.prog X.w) X.A X.xe (some (assign (.Name x0 p1) X.env)) (fun _ s'=>SP X pins D0 .next s') (.ref s2.heap.objs.size) h3.objs.size) s4:=by
    rintro s4 rfl
    refine zgR (fun k s'=>∃ i σ5 H5,Inv (blk X N' sc (zdo X.env.cells sc.names []) h3.objs.size { s2 with heap:=h3 } (upd H2 s2.heap.objs.size (.lst [])) fp (X.pn ++ pins)) [] σ5 H5 s'∧tn i s'.heap∧(∀ b ∈ fp,H5 b=none)∧W i k σ5 H5) ?_ m0
      ⟨0,_,_,I4,st4,fun b hb=>(f3 b hb).1,w0⟩
    rintro k s5 ⟨i,σ5,H5,I5,st5,fr5,w5⟩
    rcases turn i k σ5 H5 w5 with ⟨stop,qd⟩ | ⟨go,M,hM,step⟩
    · refine thn (T.done (blk X N' sc (zdo X.env.cells sc.names []) h3.objs.size { s2 with heap:=h3 } (upd H2 s2.heap.objs.size (.lst [])) fp (X.pn ++ pins)) rfl rfl rfl hc i [] s5 σ5 H5 _ I5 (fok fr5) st5 stop) fun r s6 ⟨hr,I6⟩=>?_
      subst hr; obtain ⟨m6,hn6,_⟩:=id I6.loc
      have I7:Inv X pins σ H5 s6:=I3.call' (s':=s6) (ch:=fp) I6.os (Un.same I6.base (Heap.SameBut.refl ..) (Nat.le_refl _)) (HOk.same I6.hok (Heap.SameBut.refl ..) I6.free) I6.bare fun b hb=>⟨(f3 b hb).2.2.2.1,(f3 b hb).2.1,(f3 b hb).2.2.2.2.1,(f3 b hb).2.2.2.2.2⟩
      obtain ⟨c0,c1,c2,c3,c4,c5⟩:=I3.fpOk (H':=H5) (b:=h3.objs.size) (Nat.le_refl _) I6.free
      show wpAny _ _ (assign (.Name x0 p1) X.env (.ref s2.heap.objs.size)) _ _ _
      refine wpAny_assign_Name (zgj (v:=.ref s2.heap.objs.size) I7 hNd hi0 (.inl hx0) rfl (fun s8 I8 sb=>?_) (.inr hx0))
      obtain ⟨a8,sb8,ha8⟩:=sb
      have ne8:h3.objs.size≠a8:=by
        rcases ha8 with e | e
        · rw [e]; exact c1
        · exact fun z=>c4 _ _ e z.symm
      exact ⟨m6,hn6.sameBut sb8 ne8,fun h' hsb'=>⟨_,H5,I8.turned (t':=s8.toks) (fun b o hb e=>(hsb'.2 b hb).trans e) c0 c1 c3 c4 c5,fin _ _ qd⟩⟩
    · refine thn (T.item (blk X N' sc (zdo X.env.cells sc.names []) h3.objs.size { s2 with heap:=h3 } (upd H2 s2.heap.objs.size (.lst [])) fp (X.pn ++ pins)) rfl rfl rfl hc i [] s5 σ5 H5 _ I5 (fok fr5) st5 go) fun r s6 ⟨u,hr,h6⟩=>?_
      subst hr
      refine thn h6 fun _ s7 ⟨x,H7,I7,r7,y7,st7,fr7⟩=>?_
      have I7':=I7.pinned (fok fr7) (T.obj _ _ st7)
      have back:∀ {σ8:St} {H8:Hp} {s8:Shared},Inv (blk X N' sc (zdo X.env.cells sc.names []) h3.objs.size { s2 with heap:=h3 } (upd H2 s2.heap.objs.size (.lst [])) fp (X.pn ++ pins)) ([] ++ zfe fp s7.heap) σ8 H8 s8→tn (i+1) s8.heap∧∀ b ∈ fp,H8 b=none:=fun {σ8 H8 s8} I8=>by
        have pn8:∀ b ∈ fp,∀ o,s7.heap.get? b=some o→s8.heap.get? b=some o∧H8 b=none:=fun b hb o e=>by
          have q:=I8.pin (b,o) (List.mem_append_right _ (List.mem_append_right _ (zdf hb e))); exact ⟨q.1,q.2.1⟩
        refine ⟨T.keep _ _ _ st7 fun b hb o e=>(pn8 b hb o e).1,fun b hb=>?_⟩
        obtain ⟨o,e,_⟩:=T.obj _ _ st7 b hb; exact (pn8 b hb o e).2
      have xf:∀ {α:Type} {t:Sem α} {Q1 Q2:α→Shared→Prop} {z:Shared},wpAny (model X.prog X.w) X.A t Q1 X.xe z→(∀ a z',Q1 a z'→Q2 a z')→wpAny (model X.prog X.w) X.A t Q2 (fun _ _=>False) z:=fun g1 g2=>by
        rw [hx] at g1; exact thn g1 g2
      refine xf (hg _ _ _ _ _ _ _ s7 σ5 H7 x u _ I7' r7 (step x H7 y7)) fun _ s8 ⟨σ8,H8,I8,q8⟩=>?_
      refine xf (ht _ _ _ _ _ _ _ s8 σ8 H8 _ I8 q8) fun b s9 ⟨H9,I9,q9⟩=>?_
      cases b with
      | false =>
        obtain ⟨m',hm,w'⟩:=hM σ8 H9 (by simpa using q9)
        obtain ⟨g1,g2⟩:=back I9; exact ⟨m',hm,i+1,σ8,H9,I9.unpinned,g1,g2,w'⟩
      | true =>
        rw [if_pos rfl] at q9 ⊢
        refine xf (he _ _ _ _ _ _ _ s9 σ8 H9 _ I9 q9) fun y s10 ⟨yv,H10,I10,r10,ys,hy,hz,w⟩=>?_
        obtain ⟨m',hm,w'⟩:=hM _ _ w
        refine xf (zc2 (X:=(blk X N' sc (zdo X.env.cells sc.names []) h3.objs.size { s2 with heap:=h3 } (upd H2 s2.heap.objs.size (.lst [])) fp (X.pn ++ pins))) _ s10 σ8 H10 (.ref s2.heap.objs.size) [yv] _ [y] (fun _ H11=>H11=upd H10 s2.heap.objs.size (.lst (ys ++ [yv]))) I10 rfl (.cons r10 .nil) ⟨_,ys,yv,rfl,rfl,hy,hz,rfl⟩) fun _ s11 ⟨_,H11,I11,_,e11⟩=>?_
        subst e11; obtain ⟨g1,g2⟩:=back I11; exact ⟨m',hm,i+1,σ8,_,I11.unpinned,g1,g2,w'⟩
  exact codeAny_compStart_list (loop _ rfl) (T.self _ 0 _ _ _ st4 (loop _ rfl))
end L2
namespace PL
open PySem L2
structure PU' (X:Cx) (e:Expr) (t:TO'):Prop where
  h:PU X e (oOf X.K X.N.length t)
section
variable {X:Cx} {pos:Pos}
theorem zde {elt tg iter:Expr} {ifs:List Expr} {sc fsc:Scope} {ti:TI'} {g:TG'} {tc:TT'} {te:TE'} {N N':List Str} {src:List (Option Nat)} (B:Blk N N' src fsc sc) (hi:PI' X tg iter ti)
    (hg:∀ cl C s H fp pn,PG' (blk X N' sc cl C s H fp pn) tg g) (ht:∀ cl C s H fp pn,PTs' (blk X N' sc cl C s H fp pn) ifs tc) (he:∀ cl C s H fp pn,PE' (blk X N' sc cl C s H fp pn) elt te)
    (hx:X.xe=(fun _ _=>False):=by rfl) (hc:X.calm=true:=by rfl) (hN:X.N=N:=by rfl) (hs:X.env.scope=fsc:=by rfl)
    (hf:∀ x,foldedSetIterable iter X.env x=pure x:=by intro _; rfl):PU' X (.ListComp elt [⟨tg,iter,ifs,0⟩] sc pos) (zw ti src g tc te):=by
  refine ⟨PU.weak (znT (g:=gOf X.K N'.length g) (tc:=zpd X.K N'.length tc) (te:=tOf X.K N'.length te) B hi.h (fun a b c d e f=>(hg a b c d e f).h) (fun a b c d e f=>(ht a b c d e f).h) (fun a b c d e f=>(he a b c d e f).h) hx hc hN hs hf) ?_⟩
  rintro σ H Q2 ⟨W,Hi,Γ,Q,gd,h,fin⟩
  refine ⟨W,Hi,Γ,_,gd,h,?_⟩
  rintro J H1 Hi1 Γ1 ds s1 g1 itd ⟨hlen,q⟩
  intro A hA
  -- the state between two turns
  have hn':src.length=N'.length:=B.len
  refine zgP (n:=ds.length) (fun i σ' H'=>∃ Hi' acc vs Γ',za0 Hi1 Hi'∧Fz Hi' H'∧(∀ b o,H1 b=some o→H' b=some o)∧(∀ b o,H1 b=some o→Hi' b=Hi1 b)∧Hi' A=none∧H' A=some (.lst vs)∧zbN X.K Hi' vs acc∧vs.length≤i∧σ'.length=N'.length ∧
      (∀ (j:Nat) s,Γ'[j]?=some s→s=.emp∨∃ d,s=.val d∧∃ v,σ'[j]?=some (some v)∧Den X.K Hi' v d)∧zbO g tc te (fun acc=>Q (.lst acc) Γ1) (ds.drop i) acc Γ') ?_ ?_ ?_
  · refine ⟨Hi1,[],[],zlc src Γ1,za0.refl _,(Ext.newO g1.fz hA _ (fun _ z=>by cases z)).fz,fun b o e=>za4 hA _ b o e,fun b o e=>rfl,g1.sub.free hA,zO,.nil,Nat.zero_le _,?_,fun j s e=>?_,by simpa using q⟩
    · unfold zlq; rw [List.length_map,hn']
    · unfold zlc at e
      rw [List.getElem?_map] at e
      cases hj:src[j]? with
      | none=>rw [hj] at e; cases e
      | some o =>
        rw [hj] at e
        cases o with
        | none=>cases e; exact .inl rfl
        | some i =>
          have e':(match Γ1[i]? with | some (.val d)=>Slot.val d | _=>.emp)=s:=Option.some.inj e
          cases hΓ:Γ1[i]? with
          | none=>rw [hΓ] at e'; exact .inl e'.symm
          | some sl =>
            rw [hΓ] at e'
            cases sl with
            | val d =>
              refine .inr ⟨d,e'.symm,?_⟩; obtain ⟨v,h1,h2⟩:=g1.val i d hΓ; refine ⟨v,?_,h2⟩; unfold zlq; rw [List.getElem?_map,hj]
              show some ((some i).bind fun i=>(σ[i]?).join)=some (some v)
              show some ((σ[i]?).join)=some (some v)
              rw [h1]; rfl
            | emp=>exact .inl e'.symm
            | own o=>exact .inl e'.symm
            | bk _ _ _=>exact .inl e'.symm
  · rintro i σ' H' hlt ⟨Hi',acc,vs,Γ',s2,s3,k1,k2,hA1,hA2,dl,hv,hl,hsl,q⟩
    have hd:ds.drop i=ds[i] :: ds.drop (i+1):=List.drop_eq_getElem_cons hlt
    rw [hd] at q; obtain ⟨go,yl⟩:=(itd Hi' H' s2 s3).1 i ds[i] (List.getElem?_eq_getElem hlt)
    refine ⟨go,fun x H'' y=>?_⟩
    obtain ⟨Hi'',ex,den⟩:=yl x H'' y
    have gb:Good X.K N'.length ⟨H'',Hi'',[]⟩ Hi'' Γ' σ' H'':=by
      refine ⟨hl,ex.fz,fun b o e _=>e,fun b o e=>⟨o,e⟩,fun b o e=>rfl,fun j d e=>?_,fun j o e=>?_,fun j k o o' b e=>?_,fun j d b xs e=>?_⟩
      · rcases hsl j _ e with z | ⟨d',z,v,h1,h2⟩
        · cases z
        · cases z; exact ⟨v,h1,h2.mono ex.hi⟩
      · rcases hsl j _ e with z | ⟨d',z,_⟩ <;> cases z
      · rcases hsl j _ e with z | ⟨d',z,_⟩ <;> cases z
      · rcases hsl j _ e with z | ⟨d',z,_⟩ <;> cases z
    refine ⟨⟨H'',Hi'',[]⟩,Hi'',Γ',ds[i],_,gb,den,q,?_⟩; intro σ3 H3 Hi3 Γ3 s4 g3 q3; refine ⟨⟨H'',Hi'',[]⟩,Hi3,Γ3,_,g3,q3,?_⟩; intro b H4 Hi4 Γ4 s5 g4 q4
    -- what the state is behind a turn
    have back:∀ {Γ5:Sts} {Hi5 H5:Hp},za0 Hi4 Hi5→Good X.K N'.length ⟨H'',Hi'',[]⟩ Hi5 Γ5 σ3 H5 →
        za0 Hi1 Hi5∧Fz Hi5 H5∧(∀ b o,H1 b=some o→H5 b=some o)∧(∀ b o,H1 b=some o→Hi5 b=Hi1 b)∧Hi5 A=none∧H5 A=some (.lst vs)∧za0 Hi' Hi5:=fun {Γ5 Hi5 H5} s6 g5=>by
      have sx:za0 Hi' Hi5:=ex.hi.trans (s4.trans (s5.trans s6))
      have hA3:H'' A=some (.lst vs):=ex.h _ _ hA2
      refine ⟨s2.trans sx,g5.fz,fun b o e=>g5.keep b o (ex.h _ _ (k1 b o e)) (by simp),fun b o e=>?_,?_,g5.keep A _ hA3 (by simp),sx⟩
      · rw [g5.fro b o (ex.h _ _ (k1 b o e))]
        show Hi'' b=Hi1 b
        rw [ex.fro b o (k1 b o e),k2 b o e]
      · rw [g5.fro A _ hA3]
        show Hi'' A=none
        rw [ex.fro A _ hA2,hA1]
    have sl:∀ {Γ5:Sts} {Hi5 H5:Hp},Good X.K N'.length ⟨H'',Hi'',[]⟩ Hi5 Γ5 σ3 H5→∀ (j:Nat) s,(vo Γ5)[j]?=some s→s=.emp∨∃ d,s=.val d∧∃ v,σ3[j]?=some (some v)∧Den X.K Hi5 v d:=fun {Γ5 Hi5 H5} g5 j s e=>by
      unfold vo at e; rw [List.getElem?_map] at e
      cases hj:Γ5[j]? with
      | none=>rw [hj] at e; cases e
      | some sl =>
        rw [hj] at e
        cases sl with
        | val d =>
          cases e; exact .inr ⟨d,rfl,g5.val j d hj⟩
        | emp=>cases e; exact .inl rfl
        | own o=>cases e; exact .inl rfl
        | bk _ _ _=>cases e; exact .inl rfl
    cases b with
    | false =>
      simp only [Bool.false_eq_true,if_false] at q4 ⊢; obtain ⟨b1,b2,b3,b4,b5,b6,b7⟩:=back (za0.refl _) g4
      exact ⟨Hi4,acc,vs,vo Γ4,b1,b2,b3,b4,b5,b6,dl.mono b7,by omega,g4.len,sl g4,q4⟩
    | true =>
      simp only [if_true] at q4 ⊢; refine ⟨⟨H'',Hi'',[]⟩,Hi4,Γ4,_,g4,q4,?_⟩
      rintro y' H5 ⟨Hi5,dy,Γ5,s6,g5,den5,q5⟩
      obtain ⟨b1,b2,b3,b4,b5,b6,b7⟩:=back s6 g5
      refine ⟨vs,b6,by omega,Hi5,acc ++ [dy],vs ++ [y'],vo Γ5,b1,?_,?_,b4,b5,zO,zaU (dl.mono b7) (.cons den5 .nil),by rw [List.length_append]; simp; omega,g5.len,sl g5,q5⟩
      · refine ⟨fun b o e=>?_,fun b xs e=>?_⟩
        · rw [zaD (fun z=>by rw [z,b5] at e; cases e)]
          exact b2.sub b o e
        · by_cases hb:b=A
          · subst hb; rw [zO] at e; cases e
          · rw [zaD hb] at e; exact b2.tups b xs e
      · intro b o e
        rw [zaD (zbf e hA)]; exact b3 b o e
  · rintro σ' H' ⟨Hi',acc,vs,Γ',s2,s3,k1,k2,hA1,hA2,dl,hv,hl,hsl,q⟩
    refine ⟨(itd Hi' H' s2 s3).2,?_⟩; rw [List.drop_eq_nil_of_le (Nat.le_refl _)] at q
    have ex:Ext Hi1 H1 Hi' H':=⟨s2,k1,s3,k2⟩
    refine fin A H' Hi' Γ1 (.lst acc) (s1.trans s2) (g1.ext ex) ⟨hA1,?_,⟨fun j o' e z=>?_,fun j d xs e=>?_⟩,vs,hA2,dl⟩ q
    · cases hq:W.H₀ A with
      | none=>rfl
      | some w =>
        obtain ⟨w',hw⟩:=g1.there A w hq
        rw [hA] at hw; cases hw
    · obtain ⟨a,h1,_,_,h4⟩:=g1.own j o' e
      rw [z] at h1; cases h1; obtain ⟨w,hw⟩:=h4.there
      rw [hA] at hw; cases hw
    · obtain ⟨w,hw⟩:=(g1.bk j d A xs e).at_.there
      rw [hA] at hw; cases hw
theorem zjS (i:Nat) {x:Str} {e:Expr} {te:TO'} {pos':Pos} (hN:X.N.Nodup) (he:PU' X e te) (hi:X.N[i]?=some x:=by rfl) (hx:X.env.scope.names.lookup x=some .local:=by rfl) (hs:swapsWith e (some (.Name x pos')) pos.line X.env=pure true:=by rfl):PS' X (.Assign [.Name x pos'] e pos) (zx te i):=by
  refine ⟨fun pins s σ H N2 I q=>?_⟩
  obtain ⟨W,Hi,Γ,N,g,h,l⟩:=q
  refine he.h pins s σ H (fun v H'=>N2.nx (σ.set i (some v)) H') i x pos pos' N2 I ⟨W,Hi,Γ,_,g,h,?_⟩ hN hi hx hs fun _ _ z=>z
  intro a H1 Hi1 Γ1 o s1 g1 nw q; exact l.nx _ H1 Hi1 _ s1 (g1.setO (List.getElem?_eq_some_iff.mp hi).1 nw.hi nw.h0 nw.ne nw.own) q
theorem zdD (i:Nat) {x:Str} {e:Expr} {te:TO'} {pos':Pos} (hN:X.N.Nodup) (he:PU' X e te) (hi:X.N[i]?=some x:=by rfl) (hx:X.env.scope.names.lookup x=some .local:=by rfl) (hs:swapsWith e (some (.Name x pos')) pos.line X.env=pure true:=by rfl):PS' X (.Assign [.Name x pos'] e pos) (zW (zbg te) (zk i)):=by
  refine ⟨fun pins s σ H N2 I q=>?_⟩
  obtain ⟨W,Hi,Γ,N,g,h,l⟩:=q
  refine he.h pins s σ H (fun v H'=>N2.nx (σ.set i (some v)) H') i x pos pos' N2 I ⟨W,Hi,Γ,_,g,h,?_⟩ hN hi hx hs fun _ _ z=>z
  intro a H1 Hi1 Γ1 o s1 g1 nw q; obtain ⟨u,hu⟩:=nw.own.there; exact l.nx _ H1 (upd Hi1 a u) _ (s1.trans (za4 nw.hi u)) ((g1.freezeA nw.hi nw.h0 nw.ne hu).set (List.getElem?_eq_some_iff.mp hi).1 (nw.own.den nw.hi hu)) q
end
end PL
namespace PL
open PySem L2
def zty:OD→Prop
  | .lst ds=>∀ d,d ∈ ds→Imm d
  | _=>False
def zv (n:Nat) (t:TO'):TO':=fun Γ Q=>t (zY n Γ) fun o _=>zty o∧Q o Γ
theorem zjY {X:Cx} {e:Expr} {t:TO'} (h:PO' X e t):PO' X e (zv X.N.length t):=by
  refine ⟨PE.weak h.h ?_⟩
  rintro σ H Q ⟨W,Hi,Γ,Q',g,q,fin⟩
  obtain ⟨s1,g1⟩:=g.look; refine ⟨_,_,_,_,g1,q,?_⟩
  rintro a H' Hb Γ' o sb g' nw ⟨im,q'⟩
  obtain ⟨s2,g2,hd⟩:=g.unlook sb g'
  have ha:H a=none:=nw.h0
  refine fin a H' _ Γ o s2.hi g2 ⟨?_,?_,⟨fun j o' e z=>?_,fun j d xs e=>?_⟩,?_⟩ q'
  · unfold zcv
    split
    · rfl
    · exact nw.hi
  · cases hq:W.H₀ a with
    | none=>rfl
    | some w =>
      obtain ⟨w',hw⟩:=g.there a w hq
      rw [ha] at hw; cases hw
  · obtain ⟨b,h1,_,_,h4⟩:=g.own j o' e
    rw [z] at h1; cases h1; obtain ⟨w,hw⟩:=h4.there
    rw [ha] at hw; cases hw
  · obtain ⟨w,hw⟩:=(g.bk j d a _ e).at_.there
    rw [ha] at hw; cases hw
  · cases o with
    | lst ds =>
      obtain ⟨vs,e,dl⟩:=nw.own
      exact ⟨vs,e,paired_of (zf dl) fun i v d h1 h2=>hd v d (im d (List.mem_of_getElem? h2)) (paired_get i dl h1 h2)⟩
    | dic ds=>exact im.elim
    | dit ds=>exact im.elim
    | obj C ds=>exact im.elim
structure ExtB (b:Addr) (Hi H Hi' H':Hp):Prop where
  hi:za0 Hi Hi'
  h:∀ a o,a≠b→H a=some o→H' a=some o
  fz:Fz Hi' H'
  fro:∀ a o,H a=some o→Hi' a=Hi a
theorem zav {Γ:Sts} {i:Nat} {t:Slot} {j:Nat} {s:Slot} (e:(Γ.set i t)[j]?=some s):(j=i∧s=t)∨(j≠i∧Γ[j]?=some s):=by
  by_cases hj:j=i
  · subst hj
    refine .inl ⟨rfl,?_⟩; rw [List.getElem?_set] at e; simp only [if_true] at e; split at e
    · exact (Option.some.inj e).symm
    · cases e
  · rw [List.getElem?_set_ne (fun z=>hj z.symm)] at e
    exact .inr ⟨hj,e⟩
theorem Good.extB {K:PySem.W.Frag} {n:Nat} {W:Wd} {Hi Hi' H H':Hp} {Γ:Sts} {σ:St} {i:Nat} {d:D→D} {b:Addr} {xs xs':OD} (g:Good K n W Hi Γ σ H) (e0:Γ[i]?=some (.bk d b xs)) (e:ExtB b Hi H Hi' H') (at_:zbF K Hi' H' b xs'):Good K n W Hi' (Γ.set i (.bk d b xs')) σ H':=by
  have B:=g.bk i d b _ e0
  have hbi:Hi' b=none:=by
    obtain ⟨u,hu⟩:=B.at_.there; exact (e.fro b u hu).trans B.hi
  have mv:∀ {a:Addr} {o:OD},a≠b→zbF K Hi H a o→zbF K Hi' H' a o:=fun ne h=>h.mono e.hi fun u q=>e.h _ u ne q
  refine ⟨g.len,e.fz,fun a o q nf=>?_,fun a o q=>?_,fun a o q=>?_,fun j d' q=>?_,fun j o q=>?_,fun j k o o' a q1 q2 h1 h2=>?_,fun j d' b' ys q=>?_⟩
  · refine e.h a o (fun z=>?_) (g.keep a o q nf)
    rw [z] at q nf; rw [B.h0 nf] at q; cases q
  · by_cases z:a=b
    · rw [z]
      exact at_.there
    · obtain ⟨o',h⟩:=g.there a o q
      exact ⟨o',e.h a o' z h⟩
  · obtain ⟨o',h⟩:=g.there a o q
    exact (e.fro a o' h).trans (g.fro a o q)
  · rcases zav q with ⟨_,z⟩ | ⟨_,z⟩
    · cases z
    · obtain ⟨v,h1,h2⟩:=g.val j d' z
      exact ⟨v,h1,h2.mono e.hi⟩
  · rcases zav q with ⟨_,z⟩ | ⟨_,z⟩
    · cases z
    · obtain ⟨a,h1,h2,h3,h4⟩:=g.own j o z
      have ne:a≠b:=fun w=>B.ne j o z (by rw [← w]; exact h1)
      obtain ⟨u,hu⟩:=h4.there; exact ⟨a,h1,(e.fro a u hu).trans h2,h3,mv ne h4⟩
  · rcases zav q1 with ⟨_,z⟩ | ⟨_,z⟩
    · cases z
    · rcases zav q2 with ⟨_,y⟩ | ⟨_,y⟩
      · cases y
      · exact g.apart j k o o' a z y h1 h2
  · rcases zav q with ⟨rfl,z⟩ | ⟨hj,z⟩
    · cases z
      obtain ⟨⟨v,v1,v2⟩,p1,p2,p3,p4,p5,p6⟩:=B
      refine ⟨⟨v,v1,v2.mono e.hi⟩,p1,hbi,p3,at_,fun k d2 ys q=>?_,fun k o' q=>?_⟩
      · rcases zav q with ⟨rfl,y⟩ | ⟨_,y⟩
        · rfl
        · exact p5 k _ _ y
      · rcases zav q with ⟨_,y⟩ | ⟨_,y⟩
        · cases y
        · exact p6 k o' y
    · obtain ⟨⟨v,v1,v2⟩,p1,p2,p3,p4,p5,p6⟩:=g.bk j d' b' _ z
      have ne:b'≠b:=fun w=>hj (B.one j d' ys (by rw [← w]; exact z))
      obtain ⟨u,hu⟩:=p4.there
      refine ⟨⟨v,v1,v2.mono e.hi⟩,p1,(e.fro b' u hu).trans p2,p3,mv ne p4,fun k d2 ys q=>?_,fun k o' q=>?_⟩
      · rcases zav q with ⟨rfl,y⟩ | ⟨_,y⟩
        · cases y
          exact absurd rfl ne
        · exact p5 k _ _ y
      · rcases zav q with ⟨_,y⟩ | ⟨_,y⟩
        · cases y
        · exact p6 k o' y
theorem ExtB.put {Hi H:Hp} {b:Addr} {ws:List V} (s:Fz Hi H) (hb:Hi b=none) {u:HO} (hu:H b=some u) (nt:∀ xs,u≠.tup xs):ExtB b Hi H Hi (upd H b (.lst ws)):=by
  refine ⟨za0.refl _,fun a o ne q=>by rw [zaD ne]; exact q,⟨fun a o q=>?_,fun a xs q=>?_⟩,fun _ _ _=>rfl⟩
  · rw [zaD (fun z=>by rw [z,hb] at q; cases q)]
    exact s.sub a o q
  · by_cases z:a=b
    · subst z
      rw [zO] at q; cases q
    · rw [zaD z] at q
      exact s.tups a xs q
section
variable {X:Cx}
end
abbrev SpB:=(D→D)→List D→List D→(D→List D→Prop)→Prop
section
variable {X:Cx} {k:Nat} {C:Addr} {m x y:Str} {ps:List Str} {sp:SpB} {apos pos p q:Pos} {e:Expr} {es:List Expr} {t:TA'}
end
section
variable {P:Program} {w:World} {K:PySem.W.Frag} {mg:Str→Option Value} {base:Heap}
end
end PL
namespace L2
open PySem PySem.Spec PyProof.Rows
theorem zlC {h:Heap} {a:Addr} {its:Array Value} (p:PlainL h a its):h.IsList a its:=by
  obtain ⟨o,n,e,c,d,e2⟩:=p
  first | exact ⟨o,e,c,n,e2⟩ | exact ⟨o,e,c,n,d⟩
section
variable {X:Cx} {tg:Expr}
end
end L2
namespace PL
open PySem L2
section
variable {X:Cx}
theorem zsv:Op2 X (binaryOp .Pow) (rI' zs9 fun i j=>.int (i ^ j.toNat)):=⟨_,zqm,zir _ fun i j _=>.int _⟩
def nmD (ms:List (List Nat)):List (D × D):=ms.map fun m=>(.str m,.bl true)
def nmV (ms:List (List Nat)):List (Key × V):=ms.map fun m=>(.inr (st m),.bl true)
theorem zmY {K:PySem.W.Frag} {H:Hp}:∀ (ms:List (List Nat)),zlf K H (nmV ms) (nmD ms)
  | []=>.nil
  | m :: ms=>.cons ⟨by show D.str m=.str (st m).cps.toList; rw [zaM],.bl true⟩ (zmY ms)
theorem zqy {K:PySem.W.Frag} {H:Hp}:∀ {kvs:List (Key × V)} {ms:List (List Nat)},zlf K H kvs (nmD ms)→kvs=nmV ms
  | [],[],_=>rfl
  | p :: kvs,m :: ms,.cons r t=>by
    obtain ⟨k,v⟩:=p; obtain ⟨r1,r2⟩:=r
    cases r2.blI
    cases k with
    | inl i=>cases r1
    | inr x =>
      have e:m=x.cps.toList:=by injection r1
      show _=(Sum.inr (st m),V.bl true) :: nmV ms
      rw [← zqy t,e,← zjw x]
  | [],_ :: _,h=>nomatch h
  | _ :: _,[],h=>nomatch h
theorem st_inj {l m:List Nat}:st l=st m↔l=m:=⟨fun h=>by rw [← zaM l,h,zaM],fun h=>by rw [h]⟩
theorem zqz {l m:List Nat}:((Sum.inr (st m):Key)=.inr (st l))↔m=l:=⟨fun h=>st_inj.mp (Sum.inr.inj h),fun h=>by rw [h]⟩
theorem zqA (l:List Nat) (ms:List (List Nat)):((nmV ms).any fun kv=>decide (kv.1=.inr (st l)))=decide (l ∈ ms):=by
  induction ms with
  | nil=>rfl
  | cons m ms ih =>
    show (decide ((Sum.inr (st m):Key)=.inr (st l)) || (nmV ms).any _)=_
    rw [ih]
    by_cases e:m=l
    · subst e; simp
    · have h1:¬ ((Sum.inr (st m):Key)=.inr (st l)):=fun z=>e (zqz.mp z)
      have h2:¬ l=m:=fun z=>e z.symm
      simp [h1,h2]
def zlY (ms:List (List Nat)) (l:List Nat):List (List Nat):=if l ∈ ms then ms else ms ++ [l]
theorem zqx (l:List Nat) (ms:List (List Nat)):zie (nmV ms) (.inr (st l)) (.bl true)=nmV (zlY ms l):=by
  unfold zie zlY; rw [zqA]
  by_cases e:l ∈ ms
  · simp only [e,decide_true,if_true]
    unfold nmV; rw [List.map_map]
    refine List.map_congr_left fun m _=>?_
    show (if (Sum.inr (st m):Key)=.inr (st l) then _ else _)=_
    split <;> rfl
  · simp only [e,decide_false,Bool.false_eq_true,if_false]
    unfold nmV; simp
def zar:TO':=fun Γ Q=>Q (.dic (nmD [])) Γ
theorem zjX {pos:Pos}:PO' X (.Dict [] [] pos) zar:=by
  refine ⟨PE.weak zlJ ?_⟩
  rintro σ H Q ⟨W,Hi,Γ,Q',g,q,fin⟩
  intro p hp
  exact fin p _ Hi Γ (.dic (nmD [])) (za0.refl _) (g.ext (Ext.newO g.fz hp _ (fun _ z=>by cases z))) (New.mk' g hp ⟨[],zO,.nil⟩) q
def zA (i:Nat) (tk tv:TE'):TS':=fun N Γ=>tv Γ fun v Γ1=>v=.bl true∧(∃ ms0,Γ1[i]?=some (.own (.dic (nmD ms0))))∧tk Γ1 fun k Γ2=>∃ (ms:List (List Nat)) (l:List Nat),Γ2[i]?=some (.own (.dic (nmD ms)))∧k=.str l∧ms.length<sizeLine∧N.nx (Γ2.set i (.own (.dic (nmD (zlY ms l)))))
theorem zlB (hu:X.A.units+1<cLine) (i:Nat) {x:Str} {k value:Expr} {tk tv:TE'} {p pos pos':Pos} (hk:PE' X k tk) (hv:PE' X value tv) (hN:X.N[i]?=some x:=by rfl) (hvi:Vis X.env.scope x:=by first | exact Or.inl rfl | exact Or.inr (Or.inl rfl) | exact Or.inr (Or.inr rfl)) (hd:(x == ("__debug__":Str))=false:=by decide)
    (hcd:(x == ("__classdict__":Str))=false:=by decide) (hs:swapsWith value (some (.Subscript (.Name x p) k pos')) pos.line X.env=pure false:=by rfl) :
    PS' X (.Assign [.Subscript (.Name x p) k pos'] value pos) (zA i tk tv):=by
  refine ⟨PS.weak (zn2 hu (zcX (i:=i) (pos:=p) hN hvi hd hcd) hk.h hv.h hs) ?_⟩
  rintro N2 σ H ⟨W,Hi,Γ,N,g,q,l⟩
  have hi:i<X.N.length:=(List.getElem?_eq_some_iff.mp hN).1
  refine ⟨W,Hi,Γ,_,g,q,?_⟩
  rintro v H1 ⟨Hi1,d,Γ1,s1,g1,den,rfl,⟨ms0,e0⟩,q1⟩
  obtain ⟨a,h1,h2,h3,kvs0,h4,h5⟩:=g1.own i _ e0; refine ⟨.ref a,zfu hi h1,W,Hi1,Γ1,_,g1,q1,?_⟩
  rintro y H2 ⟨Hi2,dk,Γ2,s2,g2,den2,ms,lk,e2,rfl,hl,q2⟩
  obtain ⟨a',k1,k2,k3,kvs,k4,k5⟩:=g2.own i _ e2; rw [h1] at k1; cases k1
  cases den2.strI
  cases den.blI
  have e:=zqy k5; subst e
  refine ⟨a,_,rfl,.inl ⟨_,.inr (st lk),k4,rfl,by unfold nmV; rw [List.length_map]; exact hl,rfl⟩,?_⟩
  rw [zqx]; exact l.nx σ _ Hi2 _ (s1.trans s2) (g2.put (o:=.dic (nmD (zlY ms lk))) e2 h1 ⟨_,zO,zmY _⟩) q2
instance {i:Nat} {tk tv:TE'} [ME tk] [ME tv]:MS (zA i tk tv):=⟨fun N N' Γ h q=>ME.mono (t:=tv) _ _ _ (fun _ _ ⟨a,b,z⟩=>⟨a,b,ME.mono (t:=tk) _ _ _ (fun _ _ ⟨ds,ks,e1,e2,e3,w⟩=>⟨ds,ks,e1,e2,e3,h.nx _ w⟩) z⟩) q⟩
end
end PL
namespace L2
open PySem PySem.Spec PyProof.Rows
section
variable {X:Cx}
end
end L2
namespace PL
open PySem L2
theorem Good.setB {K:PySem.W.Frag} {n:Nat} {W:Wd} {Hi H:Hp} {Γ:Sts} {σ:St} {i:Nat} {v:V} {d:D→D} {b:Addr} {xs:OD} (g:Good K n W Hi Γ σ H) (hi:i<n) (dv:Den K Hi v (d (.adr b))) (hol:Hol K d) (hb:Hi b=none) (h0:W.H₀ b=none) (fr:Free n W Γ σ b) (at_:zbF K Hi H b xs) :
    Good K n W Hi (Γ.set i (.bk d b xs)) (σ.set i (some v)) H:=by
  have ad:∀ j,j≠i→adr n W (σ.set i (some v)) j=adr n W σ j:=fun j hj=>by
    unfold adr
    rw [List.getElem?_set_ne (fun z=>hj z.symm)]
  refine ⟨by rw [List.length_set]; exact g.len,g.fz,g.keep,g.there,g.fro,fun j d' e=>?_,fun j o e=>?_,fun j k o o' a e1 e2 h1 h2=>?_,fun j d' b' ys e=>?_⟩
  · rcases zav e with ⟨rfl,z⟩ | ⟨hj,z⟩
    · cases z
    · obtain ⟨w,h1,h2⟩:=g.val j d' z
      exact ⟨w,by rw [List.getElem?_set_ne (fun z=>hj z.symm)]; exact h1,h2⟩
  · rcases zav e with ⟨rfl,z⟩ | ⟨hj,z⟩
    · cases z
    · obtain ⟨a,h1,h2⟩:=g.own j o z
      exact ⟨a,by rw [ad j hj]; exact h1,h2⟩
  · rcases zav e1 with ⟨rfl,z⟩ | ⟨hj,z⟩
    · cases z
    · rcases zav e2 with ⟨rfl,y⟩ | ⟨hk,y⟩
      · cases y
      · exact g.apart j k o o' a z y (by rw [← ad j hj]; exact h1) (by rw [← ad k hk]; exact h2)
  · rcases zav e with ⟨rfl,z⟩ | ⟨hj,z⟩
    · cases z
      refine ⟨⟨v,by rw [List.getElem?_set_self (by rw [g.len]; exact hi)],dv⟩,hol,hb,fun _=>h0,at_,fun k d2 zs q=>?_,fun k o' q=>?_⟩
      · rcases zav q with ⟨rfl,y⟩ | ⟨hk,y⟩
        · rfl
        · exact absurd y (fr.bk k _ _)
      · rcases zav q with ⟨rfl,y⟩ | ⟨hk,y⟩
        · cases y
        · rw [ad k hk]
          exact fr.own k o' y
    · obtain ⟨⟨w,w1,w2⟩,h1,h2,h3,h4,h5,h6⟩:=g.bk j d' b' _ z
      refine ⟨⟨w,by rw [List.getElem?_set_ne (fun z=>hj z.symm)]; exact w1,w2⟩,h1,h2,h3,h4,fun k d2 zs q=>?_,fun k o' q=>?_⟩
      · rcases zav q with ⟨rfl,y⟩ | ⟨hk,y⟩
        · cases y
          exact absurd z (fr.bk j _ _)
        · exact h5 k _ _ y
      · rcases zav q with ⟨rfl,y⟩ | ⟨hk,y⟩
        · cases y
        · rw [ad k hk]
          exact h6 k o' y
section
variable {X:Cx}
end
end PL
namespace PL
open PySem L2
instance {n:Nat} {t:TO'} [MO t]:MO (zv n t):=⟨fun Γ _ _ h q=>MO.mono (t:=t) _ _ _ (fun _ _ ⟨a,z⟩=>⟨a,h _ _ z⟩) q⟩
theorem zjr:∀ L:List (List Nat),Txt.join (st []) (L.map st)=st L.flatten:=by
  intro L
  show PySem.Builtin.Str.glued (st []) (L.map st)=_
  rw [StrLaws.glued_eq_join]
  induction L with
  | nil=>rfl
  | cons a t ih =>
    cases t with
    | nil=>show st a=st [a].flatten; simp
    | cons b r =>
      show st a ++ st [] ++ Str.join (st []) (st b :: r.map st)=st (a :: b :: r).flatten
      rw [show Str.join (st []) (st b :: r.map st)=st (b :: r).flatten from ih]
      show (⟨(a.toArray ++ #[]) ++ ((b :: r).flatten).toArray⟩:Str)=⟨((a :: b :: r).flatten).toArray⟩
      simp
def zpR:RM':=fun x ds Q=>∃ ls:List (List Nat),x=.str []∧ds=[.lst (ls.map .str)]∧(ls.map (·.length)).sum≤16777216∧Q (.str ls.flatten)
theorem zou {X:Cx}:Met X "str" "str.join" zpR:=⟨_,zot,by
  rintro Hi H x vs dx ds Q Q2 s d1 dl ⟨ls,rfl,rfl,hl,q⟩ fin
  have hz:(((ls.map st).map (·.length)).sum+(ls.map st).length * (st []).length)≤16777216:=by
    rw [List.map_map,zbA]
    have:(ls.map ((fun z:Str=>z.length) ∘ st))=ls.map (·.length):=List.map_congr_left fun z _=>zbA z
    rw [this,List.length_map]
    simpa using hl
  obtain ⟨v,rfl,den⟩:=zdG dl; obtain ⟨a,us,rfl,h1,h2⟩:=den.lstI; rw [zgL h2] at h1; refine ⟨_,a,ls.map st,d1.strI,rfl,.inl (zaI s.sub h1),hz,?_⟩; rw [zjr]; exact fin Hi H _ _ (Ext.refl s) (.str _) q⟩
end PL
namespace So
open PySem PySem.W PyProof.Rows
def run (lt:Nat→Nat→Bool) {α:Type}:KasT α→α
  | .ret a=>a
  | .ask i j k=>run lt (k (lt i j))
theorem zdc (lt:Nat→Nat→Bool) {α β:Type} (f:α→KasT β):∀ t:KasT α,run lt (t.bind f)=run lt (f (run lt t))
  | .ret _=>rfl
  | .ask i j k=>zdc lt f (k (lt i j))
def g (p:Array Nat) (i:Nat):Nat:=p.getD i 0
theorem g_eq (p:Array Nat) (i:Nat):g p i=(p[i]?).getD 0:=by
  unfold g; simp [Array.getD_eq_getD_getElem?]
theorem zaW {p:Array Nat} {i j:Nat} (hj:j≤p.size) (k:Nat):g (kas_rev p i j) k=if i≤k∧k<j then g p (i+j-1-k) else g p k:=by
  unfold kas_rev; rw [g_eq,getElem?_mirror_all hj]
  split <;> rw [g_eq]
theorem zmu {p:Array Nat} {src d:Nat} (hs:src<p.size) (hd:d≤src) (k:Nat):g (bubble p src d) k=if k=src-d then g p src else if src-d<k∧k≤src then g p (k-1) else g p k:=by
  rw [g_eq,getElem?_bubble hs d hd]; split
  · rw [g_eq]
  · split <;> rw [g_eq]
structure Ord (lt:Nat→Nat→Bool):Prop where
  asym:∀ a b,lt a b=true→lt b a=false
  tr:∀ a b c,lt b a=false→lt c b=false→lt c a=false
def L (lt:Nat→Nat→Bool) (a b:Nat):Prop:=lt a b=true∨(lt b a=false∧a<b)
section
variable {lt:Nat→Nat→Bool}
theorem L.le (o:Ord lt) {a b:Nat} (h:L lt a b):lt b a=false:=by
  rcases h with h | h
  · exact o.asym _ _ h
  · exact h.1
theorem zkk (o:Ord lt) {a b c:Nat} (h:lt a b=true) (k:lt c b=false):lt a c=true:=by
  cases e:lt a c with
  | true=>rfl
  | false=>exact absurd (o.tr b c a k e) (by rw [h]; exact fun z=>nomatch z)
theorem zov (o:Ord lt) {a b c:Nat} (h:lt b a=false) (k:lt b c=true):lt a c=true:=by
  cases e:lt a c with
  | true=>rfl
  | false=>exact absurd (o.tr c a b e h) (by rw [k]; exact fun z=>nomatch z)
theorem L.trans (o:Ord lt) {a b c:Nat} (h:L lt a b) (k:L lt b c):L lt a c:=by
  rcases h with h | ⟨h,h'⟩
  · exact .inl (zkk o h (L.le o k))
  · rcases k with k | ⟨k,k'⟩
    · exact .inl (zov o h k)
    · exact .inr ⟨o.tr _ _ _ h k,Nat.lt_trans h' k'⟩
end
def Srt (lt:Nat→Nat→Bool) (p:Array Nat) (n:Nat):Prop:=∀ i j,i<j→j<n→L lt (g p i) (g p j)
structure B (p:Array Nat) (N n:Nat):Prop where
  size:p.size=N
  low:∀ k,k<n→g p k<n
  high:∀ k,n≤k→k<N→g p k=k
theorem B.succ {p:Array Nat} {N n:Nat} (b:B p N n) (h:n<N):B p N (n+1) where
  size:=b.size
  low:=fun k hk=>by
    by_cases e:k=n
    · subst e; rw [b.high k (Nat.le_refl _) h]; omega
    · have:=b.low k (by omega); omega
  high:=fun k h1 h2=>b.high k (by omega) h2
theorem B.mirror {p:Array Nat} {N n i j:Nat} (b:B p N n) (hj:j≤n) (hn:n≤N):B (kas_rev p i j) N n where
  size:=by rw [kas_rev_size,b.size]
  low:=fun k hk=>by
    rw [zaW (by rw [b.size]; omega)]
    split
    · exact b.low _ (by omega)
    · exact b.low _ hk
  high:=fun k h1 h2=>by
    rw [zaW (by rw [b.size]; omega),if_neg (by omega)]
    exact b.high k h1 h2
section
variable {lt:Nat→Nat→Bool} (o:Ord lt)
include o
theorem Srt.succ {p:Array Nat} {N n:Nat} (b:B p N n) (h1:1≤n) (hn:n<N) (s:Srt lt p n) (q:lt (g p n) (g p (n-1))=false):Srt lt p (n+1):=fun i j hij hj=>by
  by_cases e:j=n
  · subst e
    have l1:L lt (g p (j-1)) (g p j):=.inr ⟨q,by
      rw [b.high j (Nat.le_refl _) hn]
      exact b.low _ (by omega)⟩
    by_cases e2:i=j-1
    · subst e2; exact l1
    · exact (s i (j-1) (by omega) (by omega)).trans o l1
  · exact s i j hij (by omega)
theorem asc {p:Array Nat} {N:Nat}:∀ (f n:Nat),n+f=N→1≤n→B p N n→Srt lt p n→n≤run lt (kas_asc p f n)∧run lt (kas_asc p f n)≤N∧B p N (run lt (kas_asc p f n))∧Srt lt p (run lt (kas_asc p f n)) ∧
    (run lt (kas_asc p f n)<N→lt (g p (run lt (kas_asc p f n))) (g p (run lt (kas_asc p f n)-1))=true)
  | 0,n,h,h1,b,s=>⟨Nat.le_refl _,by show n≤N; omega,b,s,fun z=>absurd (show n<N from z) (by omega)⟩
  | f+1,n,h,h1,b,s=>by
    have e:run lt (kas_asc p (f+1) n)=run lt (if lt (g p n) (g p (n-1))=true then KasT.ret n else kas_asc p f (n+1)):=rfl
    rw [e]
    cases q:lt (g p n) (g p (n-1)) with
    | true =>
      rw [if_pos rfl]
      exact ⟨Nat.le_refl _,by show n≤N; omega,b,s,fun _=>q⟩
    | false =>
      rw [if_neg (by decide)]
      obtain ⟨a1,a2,a3,a4,a5⟩:=asc (N:=N) f (n+1) (by omega) (by omega) (b.succ (by omega)) (Srt.succ o b h1 (by omega) s q)
      exact ⟨by omega,a2,a3,a4,a5⟩
structure De (lt:Nat→Nat→Bool) (p:Array Nat) (N n q:Nat):Prop where
  b:B p N n
  le:n≤N
  q1:q+1≤n
  blk:∀ i j,n-(q+1)≤i→i<j→j<n→L lt (g p i) (g p j)∧lt (g p i) (g p j)=false
  str:∀ i j,i<n-(q+1)→n-(q+1)≤j→j<n→lt (g p j) (g p i)=true
  old:∀ i j,i<j→j<n-(q+1)→L lt (g p j) (g p i)
def Fal (lt:Nat→Nat→Bool) (p:Array Nat) (n:Nat):Prop:=∀ i j,i<j→j<n→L lt (g p j) (g p i)
theorem De.turned {p:Array Nat} {N n q:Nat} (d:De lt p N n q):Fal lt (kas_rev p (n-(q+1)) n) n:=fun i j hij hj=>by
  have hs:n≤p.size:=by rw [d.b.size]; exact d.le
  have hq:=d.q1; rw [zaW hs,zaW hs]
  by_cases hi:n-(q+1)≤i
  · rw [if_pos ⟨by omega,hj⟩,if_pos ⟨hi,by omega⟩]
    exact (d.blk _ _ (by omega) (by omega) (by omega)).1
  · rw [if_neg (show ¬ (n-(q+1)≤i∧i<n) by omega)]
    by_cases hj2:n-(q+1)≤j
    · rw [if_pos ⟨hj2,hj⟩]
      exact .inl (d.str _ _ (by omega) (by omega) (by omega))
    · rw [if_neg (show ¬ (n-(q+1)≤j∧j<n) by omega)]
      exact d.old i j hij (by omega)
theorem De.fal0 {p:Array Nat} {N n:Nat} (d:De lt p N n 0):Fal lt p n:=fun i j hij hj=>by
  by_cases e:n-1≤j
  · exact .inl (d.str i j (by omega) (by omega) hj)
  · exact d.old i j hij (by omega)
theorem De.next {p:Array Nat} {N n:Nat} (b:B p N n) (hn:n<N) (h1:1≤n) (fa:Fal lt p n) (st:∀ i,i<n→lt (g p n) (g p i)=true):De lt p N (n+1) 0 where
  b:=b.succ hn
  le:=hn
  q1:=by omega
  blk:=fun i j h1 h2 h3=>by omega
  str:=fun i j h1 h2 h3=>by
    have e:j=n:=by omega
    subst e
    exact st i (by omega)
  old:=fun i j h1 h2=>fa i j h1 (by omega)
theorem De.st {p:Array Nat} {N n q:Nat} (d:De lt p N n q) (h:lt (g p n) (g p (n-1))=true):∀ i,i<n→lt (g p n) (g p i)=true:=fun i hi=>by
  have hq:=d.q1
  by_cases e:i=n-1
  · subst e; exact h
  · refine zkk o h ?_
    by_cases hb:n-(q+1)≤i
    · exact (d.blk i (n-1) hb (by omega) (by omega)).2
    · exact o.asym _ _ (d.str i (n-1) (by omega) (by omega) (by omega))
theorem zq0 {N:Nat}:∀ (f:Nat) (p:Array Nat) (n q:Nat),n+f=N→De lt p N n q→∃ p' n' q',run lt (kas_desc f p n q)=(p',n',q')∧De lt p' N n' q'
  | 0,p,n,q,_,d=>⟨p,n,q,rfl,d⟩
  | f+1,p,n,q,h,d=>by
    have hn:n<N:=by omega
    have hq:=d.q1
    have e:run lt (kas_desc (f+1) p n q)=run lt (if lt (g p n) (g p (n-1))=true then (if q > 0 then kas_desc f (kas_rev p (n-(q+1)) n) (n+1) 0 else kas_desc f p (n+1) 0)
      else KasT.ask (p.getD (n-1) 0) (p.getD n 0) fun c=>if c=true then .ret (p,n,q) else kas_desc f p (n+1) (q+1)):=rfl
    rw [e]
    cases c:lt (g p n) (g p (n-1)) with
    | true =>
      rw [if_pos rfl]
      by_cases hq0:q > 0
      · rw [if_pos hq0]
        refine zq0 f _ (n+1) 0 (by omega) (De.next o (d.b.mirror (Nat.le_refl _) d.le) hn (by omega) (De.turned o d) fun i hi=>?_)
        have hs:n≤p.size:=by rw [d.b.size]; exact d.le
        rw [zaW hs,zaW hs,if_neg (show ¬ (n-(q+1)≤n∧n<n) by omega)]
        split
        · exact De.st o d c _ (by omega)
        · exact De.st o d c _ hi
      · rw [if_neg hq0]
        have e0:q=0:=by omega
        subst e0
        exact zq0 f _ (n+1) 0 (by omega) (De.next o d.b hn (by omega) (De.fal0 o d) (De.st o d c))
    | false =>
      rw [if_neg (by decide)]
      have e2:run lt (KasT.ask (p.getD (n-1) 0) (p.getD n 0) fun c=>if c=true then KasT.ret (p,n,q) else kas_desc f p (n+1) (q+1))=run lt (if lt (g p (n-1)) (g p n)=true then KasT.ret (p,n,q) else kas_desc f p (n+1) (q+1)):=rfl
      rw [e2]
      cases c2:lt (g p (n-1)) (g p n) with
      | true=>rw [if_pos rfl]; exact ⟨p,n,q,rfl,d⟩
      | false =>
        rw [if_neg (by decide)]
        have hb:n+1-(q+1+1)=n-(q+1):=by omega
        have gn:g p n=n:=d.b.high n (Nat.le_refl _) hn
        refine zq0 f _ (n+1) (q+1) (by omega) ⟨d.b.succ hn,hn,by omega,fun i j h1 h2 h3=>?_,fun i j h1 h2 h3=>?_,fun i j h1 h2=>?_⟩
        · rw [hb] at h1
          by_cases ej:j=n
          · subst ej
            have lo:g p i<g p j:=by rw [gn]; exact d.b.low i h2
            by_cases ei:i=j-1
            · subst ei; exact ⟨.inr ⟨c,lo⟩,c2⟩
            · obtain ⟨u1,u2⟩:=d.blk i (j-1) h1 (by omega) (by omega)
              exact ⟨.inr ⟨o.tr _ _ _ (L.le o u1) c,lo⟩,o.tr _ _ _ c2 u2⟩
          · exact d.blk i j h1 h2 (by omega)
        · rw [hb] at h1 h2
          by_cases ej:j=n
          · subst ej
            exact zov o c2 (d.str i (j-1) h1 (by omega) (by omega))
          · exact d.str i j h1 h2 (by omega)
        · rw [hb] at h2
          exact d.old i j h1 h2
theorem zpv {p:Array Nat} {N n:Nat} (b:B p N n) (hn:n≤N) (h1:1≤n) (fa:Fal lt p n):∃ m p',run lt (kas_tail3 n N p)=(m,p')∧1≤m∧m≤N∧B p' N m∧Srt lt p' m:=by
  unfold kas_tail3; rw [zdc]
  have hs:n≤p.size:=by rw [b.size]; exact hn
  obtain ⟨a1,a2,a3,a4,_⟩:=asc o (p:=kas_rev p 0 n) (N:=N) (N-n) n (by omega) h1 (b.mirror (Nat.le_refl _) hn) (fun i j hij hj=>by
    rw [zaW hs,zaW hs,if_pos ⟨by omega,by omega⟩,if_pos ⟨by omega,hj⟩]
    exact fa _ _ (by omega) (by omega))
  exact ⟨_,_,rfl,by omega,a2,a3,a4⟩
theorem ziF {p:Array Nat} {N n:Nat} (hn:n<N) (d:De lt p N (n+1) 0):∃ m p',run lt (kas_descPart n N p)=(m,p')∧1≤m∧m≤N∧B p' N m∧Srt lt p' m:=by
  unfold kas_descPart; rw [zdc]
  obtain ⟨p',n',q',e,d'⟩:=zq0 o (N:=N) (N-(n+1)) p (n+1) 0 (by omega) d
  rw [e]; have hq:=d'.q1
  by_cases h:q' > 0
  · show ∃ m p'',run lt (if q' > 0 then kas_tail3 n' N (kas_rev p' (n'-(q'+1)) n') else kas_tail3 n' N p')=(m,p'')∧_
    rw [if_pos h]
    exact zpv o (d'.b.mirror (Nat.le_refl _) d'.le) d'.le (by omega) (De.turned o d')
  · show ∃ m p'',run lt (if q' > 0 then kas_tail3 n' N (kas_rev p' (n'-(q'+1)) n') else kas_tail3 n' N p')=(m,p'')∧_
    rw [if_neg h]
    have e0:q'=0:=by omega
    subst e0
    exact zpv o d'.b d'.le (by omega) (De.fal0 o d')
theorem zq3 {p:Array Nat} {N:Nat} (hN:1≤N) (b:B p N 1):∃ m p',run lt (kas_count N p)=(m,p')∧1≤m∧m≤N∧B p' N m∧Srt lt p' m:=by
  unfold kas_count; rw [zdc]
  obtain ⟨a1,a2,a3,a4,a5⟩:=asc o (p:=p) (N:=N) (N-1) 1 (by omega) (Nat.le_refl _) b (fun i j hij hj=>by omega)
  generalize run lt (kas_asc p (N-1) 1)=n at a1 a2 a3 a4 a5 ⊢
  by_cases e:n=N
  · rw [if_pos (by rw [e]; exact beq_self_eq_true _)]
    exact ⟨n,p,rfl,a1,a2,a3,a4⟩
  · have hn:n<N:=by omega
    have hs:n≤p.size:=by rw [a3.size]; exact a2
    rw [if_neg (by simpa using e)]
    by_cases h1:n > 1
    · rw [if_pos h1]
      show ∃ m p',run lt (if lt (g p 0) (g p (n-1))=true then KasT.ret (n,p) else kas_descPart n N (kas_rev p 0 n))=(m,p')∧_
      cases c:lt (g p 0) (g p (n-1)) with
      | true=>rw [if_pos rfl]; exact ⟨n,p,rfl,a1,a2,a3,a4⟩
      | false =>
        rw [if_neg (by decide)]
        refine ziF o hn (De.next o (a3.mirror (Nat.le_refl _) a2) hn a1 (fun i j hij hj=>?_) fun i hi=>?_)
        · rw [zaW hs,zaW hs,if_pos ⟨by omega,hj⟩,if_pos ⟨by omega,by omega⟩]
          exact a4 _ _ (by omega) (by omega)
        · rw [zaW hs,zaW hs,if_neg (show ¬ (0≤n∧n<n) by omega),if_pos ⟨by omega,hi⟩]
          refine zkk o (a5 hn) ?_; generalize hk:0+n-1-i=k
          have hkn:k<n:=by omega
          by_cases k0:k=0
          · subst k0; exact c
          · exact o.tr _ _ _ c (L.le o (a4 0 k (by omega) hkn))
    · rw [if_neg h1]
      have e1:n=1:=by omega
      subst e1
      exact ziF o hn (De.next o a3 hn (Nat.le_refl _) (fun i j h1 h2=>by omega) fun i hi=>by
        have e0:i=0:=by omega
        subst e0; exact a5 hn)
theorem zlD {p:Array Nat} {k:Nat} (s:Srt lt p k):∀ (f l r:Nat),r-l≤f→l≤r→r≤k→(∀ i,i<l→lt (g p k) (g p i)=false)→(∀ i,r≤i→i<k→lt (g p k) (g p i)=true) →
    run lt (kas_place p k f l r)≤k∧(∀ i,i<run lt (kas_place p k f l r)→lt (g p k) (g p i)=false)∧∀ i,run lt (kas_place p k f l r)≤i→i<k→lt (g p k) (g p i)=true
  | 0,l,r,h,h1,h2,a,c=>⟨show l≤k by omega,a,fun i (hi:l≤i)=>c i (by omega)⟩
  | f+1,l,r,h,h1,h2,a,c=>by
    have e:run lt (kas_place p k (f+1) l r)=run lt (if l ≥ r then KasT.ret l else KasT.ask (p.getD k 0) (p.getD ((l+r) / 2) 0) fun c=>if c=true then kas_place p k f l ((l+r) / 2) else kas_place p k f ((l+r) / 2+1) r):=rfl
    rw [e]
    by_cases hlr:l ≥ r
    · rw [if_pos hlr]
      exact ⟨show l≤k by omega,a,fun i (hi:l≤i)=>c i (by omega)⟩
    · rw [if_neg hlr]
      show run lt (if lt (g p k) (g p ((l+r) / 2))=true then kas_place p k f l ((l+r) / 2) else kas_place p k f ((l+r) / 2+1) r)≤k∧(∀ i,i<run lt (if lt (g p k) (g p ((l+r) / 2))=true then kas_place p k f l ((l+r) / 2) else kas_place p k f ((l+r) / 2+1) r)→_)∧∀ i,run lt (if lt (g p k) (g p ((l+r) / 2))=true then kas_place p k f l ((l+r) / 2) else kas_place p k f ((l+r) / 2+1) r)≤i→_
      cases q:lt (g p k) (g p ((l+r) / 2)) with
      | true =>
        rw [if_pos rfl]
        refine zlD s f l _ (by omega) (by omega) (by omega) a fun i hi hk=>?_
        by_cases ei:i=(l+r) / 2
        · subst ei; exact q
        · exact zkk o q (L.le o (s _ i (by omega) hk))
      | false =>
        rw [if_neg (by decide)]
        refine zlD s f _ r (by omega) (by omega) h2 (fun i hi=>?_) c
        by_cases ei:i=(l+r) / 2
        · subst ei; exact q
        · exact o.tr _ _ _ (L.le o (s i ((l+r) / 2) (by omega) (by omega))) q
theorem ins {p:Array Nat} {N k l:Nat} (b:B p N k) (hk:k<N) (s:Srt lt p k) (hl:l≤k) (a:∀ i,i<l→lt (g p k) (g p i)=false) (c:∀ i,l≤i→i<k→lt (g p k) (g p i)=true):B (bubble p k (k-l)) N (k+1)∧Srt lt (bubble p k (k-l)) (k+1):=by
  have hs:k<p.size:=by rw [b.size]; exact hk
  have gk:g p k=k:=b.high k (Nat.le_refl _) hk
  have e:∀ i,g (bubble p k (k-l)) i=if i=l then g p k else if l<i∧i≤k then g p (i-1) else g p i:=fun i=>by
    rw [zmu hs (by omega),show k-(k-l)=l by omega]
  refine ⟨⟨by rw [bubble_size,b.size],fun i hi=>?_,fun i h1 h2=>?_⟩,fun i j hij hj=>?_⟩
  · rw [e]
    split
    · omega
    · split
      · have:=b.low (i-1) (by omega); omega
      · have:=b.low i (by omega); omega
  · rw [e,if_neg (by omega),if_neg (by omega)]
    exact b.high i (by omega) h2
  · rw [e,e]
    have lo:∀ x,x<k→g p x<g p k:=fun x hx=>by rw [gk]; exact b.low x hx
    by_cases h1:i=l
    · subst h1
      rw [if_pos rfl,if_neg (by omega),if_pos ⟨hij,by omega⟩]
      exact .inl (c _ (by omega) (by omega))
    · rw [if_neg h1]
      by_cases h2:j=l
      · subst h2
        rw [if_pos rfl,if_neg (by omega)]
        exact .inr ⟨a i hij,lo i (by omega)⟩
      · rw [if_neg h2]
        split <;> split <;> exact s _ _ (by omega) (by omega)
theorem bin {N:Nat}:∀ (f:Nat) (p:Array Nat) (k:Nat),k+f=N→B p N k→Srt lt p k→B (run lt (kas_bin f p k)) N N∧Srt lt (run lt (kas_bin f p k)) N
  | 0,p,k,h,b,s=>by
    have e:k=N:=by omega
    subst e; exact ⟨b,s⟩
  | f+1,p,k,h,b,s=>by
    have e:run lt (kas_bin (f+1) p k)=run lt ((kas_place p k k 0 k).bind fun l=>kas_bin f (bubble p k (k-l)) (k+1)):=rfl
    rw [e,zdc]
    obtain ⟨a1,a2,a3⟩:=zlD o s k 0 k (by omega) (Nat.zero_le _) (Nat.le_refl _) (fun i hi=>absurd hi (Nat.not_lt_zero _)) fun i h1 h2=>absurd h1 (by omega)
    obtain ⟨b',s'⟩:=ins o b (by omega) s a1 a2 a3
    exact bin f _ (k+1) (by omega) b' s'
theorem sort {N:Nat} (hN:1≤N):B (run lt (kas_sort N)) N N∧Srt lt (run lt (kas_sort N)) N:=by
  unfold kas_sort; rw [zdc]
  have g0:∀ k,k<N→g (List.toArray (List.range N)) k=k:=fun k hk=>by
    rw [g_eq]; simp [hk]
  obtain ⟨m,p',e,h1,h2,b,s⟩:=zq3 o hN (p:=List.toArray (List.range N)) ⟨by simp,fun k hk=>by rw [g0 k (by omega)]; exact hk,fun k h1 h2=>g0 k h2⟩
  rw [e]
  show B (run lt (if m<N then kas_bin (N-max m 1) p' (max m 1) else KasT.ret p')) N N∧Srt lt (run lt (if m<N then kas_bin (N-max m 1) p' (max m 1) else KasT.ret p')) N
  by_cases hm:m<N
  · rw [if_pos hm,Nat.max_eq_left h1]
    exact bin o _ _ _ (by omega) b s
  · rw [if_neg hm]
    have e:m=N:=by omega
    subst e; exact ⟨b,s⟩
end
def Ok (lt:Nat→Nat→Bool) (N:Nat) {α:Type}:KasT α→Prop
  | .ret _=>True
  | .ask i j k=>i<N∧j<N∧Ok lt N (k (lt i j))
theorem Ok.bind {lt:Nat→Nat→Bool} {N:Nat} {α β:Type} {f:α→KasT β}:∀ {t:KasT α},Ok lt N t→Ok lt N (f (run lt t))→Ok lt N (t.bind f)
  | .ret _,_,h=>h
  | .ask i j k,⟨h1,h2,h3⟩,h=>⟨h1,h2,Ok.bind (t:=k (lt i j)) h3 h⟩
theorem B.lt {p:Array Nat} {N n k:Nat} (b:B p N n) (hn:n≤N) (hk:k<N):g p k<N:=by
  by_cases h:k<n
  · have:=b.low k h; omega
  · rw [b.high k (by omega) hk]; exact hk
section
variable {lt:Nat→Nat→Bool} (o:Ord lt)
include o
theorem zkd {p:Array Nat} {N:Nat} {n0:Nat} (b:B p N n0) (h0:n0≤N):∀ (f n:Nat),n+f=N→Ok lt N (kas_asc p f n)
  | 0,_,_=>trivial
  | f+1,n,h=>⟨b.lt h0 (k:=n) (by omega),b.lt h0 (k:=n-1) (by omega),by
    show Ok lt N (if lt (g p n) (g p (n-1))=true then KasT.ret n else kas_asc p f (n+1))
    split
    · trivial
    · exact zkd b h0 f (n+1) (by omega)⟩
theorem zfZ {N:Nat}:∀ (f:Nat) (p:Array Nat) (n q:Nat),n+f=N→De lt p N n q→Ok lt N (kas_desc f p n q)
  | 0,_,_,_,_,_=>trivial
  | f+1,p,n,q,h,d=>⟨d.b.lt d.le (k:=n) (by omega),d.b.lt d.le (k:=n-1) (by omega),by
    show Ok lt N (if lt (g p n) (g p (n-1))=true then (if q > 0 then kas_desc f (kas_rev p (n-(q+1)) n) (n+1) 0 else kas_desc f p (n+1) 0)
      else KasT.ask (p.getD (n-1) 0) (p.getD n 0) fun c=>if c=true then .ret (p,n,q) else kas_desc f p (n+1) (q+1))
    have hn:n<N:=by omega
    have hq:=d.q1
    cases c:lt (g p n) (g p (n-1)) with
    | true =>
      rw [if_pos rfl]
      by_cases hq0:q > 0
      · rw [if_pos hq0]
        refine zfZ f _ (n+1) 0 (by omega) (De.next o (d.b.mirror (Nat.le_refl _) d.le) hn (by omega) (De.turned o d) fun i hi=>?_)
        have hs:n≤p.size:=by rw [d.b.size]; exact d.le
        rw [zaW hs,zaW hs,if_neg (show ¬ (n-(q+1)≤n∧n<n) by omega)]
        split
        · exact De.st o d c _ (by omega)
        · exact De.st o d c _ hi
      · rw [if_neg hq0]
        have e0:q=0:=by omega
        subst e0
        exact zfZ f _ (n+1) 0 (by omega) (De.next o d.b hn (by omega) (De.fal0 o d) (De.st o d c))
    | false =>
      rw [if_neg (by decide)]
      refine ⟨d.b.lt d.le (k:=n-1) (by omega),d.b.lt d.le (k:=n) (by omega),?_⟩
      show Ok lt N (if lt (g p (n-1)) (g p n)=true then KasT.ret (p,n,q) else kas_desc f p (n+1) (q+1))
      cases c2:lt (g p (n-1)) (g p n) with
      | true=>rw [if_pos rfl]; trivial
      | false =>
        rw [if_neg (by decide)]
        have hb:n+1-(q+1+1)=n-(q+1):=by omega
        have gn:g p n=n:=d.b.high n (Nat.le_refl _) hn
        refine zfZ f _ (n+1) (q+1) (by omega) ⟨d.b.succ hn,hn,by omega,fun i j h1 h2 h3=>?_,fun i j h1 h2 h3=>?_,fun i j h1 h2=>?_⟩
        · rw [hb] at h1
          by_cases ej:j=n
          · subst ej
            have lo:g p i<g p j:=by rw [gn]; exact d.b.low i h2
            by_cases ei:i=j-1
            · subst ei; exact ⟨.inr ⟨c,lo⟩,c2⟩
            · obtain ⟨u1,u2⟩:=d.blk i (j-1) h1 (by omega) (by omega)
              exact ⟨.inr ⟨o.tr _ _ _ (L.le o u1) c,lo⟩,o.tr _ _ _ c2 u2⟩
          · exact d.blk i j h1 h2 (by omega)
        · rw [hb] at h1 h2
          by_cases ej:j=n
          · subst ej
            exact zov o c2 (d.str i (j-1) h1 (by omega) (by omega))
          · exact d.str i j h1 h2 (by omega)
        · rw [hb] at h2
          exact d.old i j h1 h2⟩
theorem zim {p:Array Nat} {N n:Nat} (b:B p N n) (hn:n≤N):Ok lt N (kas_tail3 n N p):=by
  unfold kas_tail3
  exact Ok.bind (zkd o (b.mirror (Nat.le_refl _) hn) hn _ n (by omega)) trivial
theorem zeI {p:Array Nat} {N n:Nat} (hn:n<N) (d:De lt p N (n+1) 0):Ok lt N (kas_descPart n N p):=by
  unfold kas_descPart
  refine Ok.bind (zfZ o _ p (n+1) 0 (by omega) d) ?_
  obtain ⟨p',n',q',e,d'⟩:=zq0 o (N:=N) (N-(n+1)) p (n+1) 0 (by omega) d
  rw [e]
  show Ok lt N (if q' > 0 then kas_tail3 n' N (kas_rev p' (n'-(q'+1)) n') else kas_tail3 n' N p')
  split
  · exact zim o (d'.b.mirror (Nat.le_refl _) d'.le) d'.le
  · exact zim o d'.b d'.le
theorem zlN {p:Array Nat} {N:Nat} (hN:1≤N) (b:B p N 1):Ok lt N (kas_count N p):=by
  unfold kas_count
  refine Ok.bind (zkd o b hN _ 1 (by omega)) ?_
  obtain ⟨a1,a2,a3,a4,a5⟩:=asc o (p:=p) (N:=N) (N-1) 1 (by omega) (Nat.le_refl _) b (fun i j hij hj=>by omega)
  generalize run lt (kas_asc p (N-1) 1)=n at a1 a2 a3 a4 a5 ⊢
  by_cases e:n=N
  · rw [if_pos (by rw [e]; exact beq_self_eq_true _)]
    trivial
  · have hn:n<N:=by omega
    have hs:n≤p.size:=by rw [a3.size]; exact a2
    rw [if_neg (by simpa using e)]
    by_cases h1:n > 1
    · rw [if_pos h1]
      refine ⟨a3.lt a2 (k:=0) (by omega),a3.lt a2 (k:=n-1) (by omega),?_⟩
      show Ok lt N (if lt (g p 0) (g p (n-1))=true then KasT.ret (n,p) else kas_descPart n N (kas_rev p 0 n))
      cases c:lt (g p 0) (g p (n-1)) with
      | true=>rw [if_pos rfl]; trivial
      | false =>
        rw [if_neg (by decide)]
        refine zeI o hn (De.next o (a3.mirror (Nat.le_refl _) a2) hn a1 (fun i j hij hj=>?_) fun i hi=>?_)
        · rw [zaW hs,zaW hs,if_pos ⟨by omega,hj⟩,if_pos ⟨by omega,by omega⟩]
          exact a4 _ _ (by omega) (by omega)
        · rw [zaW hs,zaW hs,if_neg (show ¬ (0≤n∧n<n) by omega),if_pos ⟨by omega,hi⟩]
          refine zkk o (a5 hn) ?_; generalize hk:0+n-1-i=k
          have hkn:k<n:=by omega
          by_cases k0:k=0
          · subst k0; exact c
          · exact o.tr _ _ _ c (L.le o (a4 0 k (by omega) hkn))
    · rw [if_neg h1]
      have e1:n=1:=by omega
      subst e1
      exact zeI o hn (De.next o a3 hn (Nat.le_refl _) (fun i j h1 h2=>by omega) fun i hi=>by
        have e0:i=0:=by omega
        subst e0; exact a5 hn)
theorem zfR {p:Array Nat} {N k:Nat} (b:B p N k) (hk:k<N):∀ (f l r:Nat),r≤k→Ok lt N (kas_place p k f l r)
  | 0,_,_,_=>trivial
  | f+1,l,r,h=>by
    show Ok lt N (if l ≥ r then KasT.ret l else KasT.ask (p.getD k 0) (p.getD ((l+r) / 2) 0) fun c=>if c=true then kas_place p k f l ((l+r) / 2) else kas_place p k f ((l+r) / 2+1) r)
    by_cases hlr:l ≥ r
    · rw [if_pos hlr]; trivial
    · rw [if_neg hlr]
      refine ⟨b.lt (by omega) (k:=k) hk,b.lt (by omega) (k:=(l+r) / 2) (by omega),?_⟩
      show Ok lt N (if lt (g p k) (g p ((l+r) / 2))=true then kas_place p k f l ((l+r) / 2) else kas_place p k f ((l+r) / 2+1) r)
      split
      · exact zfR b hk f _ _ (by omega)
      · exact zfR b hk f _ _ h
theorem zmV {N:Nat}:∀ (f:Nat) (p:Array Nat) (k:Nat),k+f=N→B p N k→Srt lt p k→Ok lt N (kas_bin f p k)
  | 0,_,_,_,_,_=>trivial
  | f+1,p,k,h,b,s=>by
    refine Ok.bind (zfR o b (by omega) k 0 k (Nat.le_refl _)) ?_
    obtain ⟨a1,a2,a3⟩:=zlD o s k 0 k (by omega) (Nat.zero_le _) (Nat.le_refl _) (fun i hi=>absurd hi (Nat.not_lt_zero _)) fun i h1 h2=>absurd h1 (by omega)
    obtain ⟨b',s'⟩:=ins o b (by omega) s a1 a2 a3
    exact zmV f _ (k+1) (by omega) b' s'
theorem ok_sort {N:Nat} (hN:1≤N):Ok lt N (kas_sort N):=by
  unfold kas_sort
  have g0:∀ k,k<N→g (List.toArray (List.range N)) k=k:=fun k hk=>by
    rw [g_eq]; simp [hk]
  have b0:B (List.toArray (List.range N)) N 1:=⟨by simp,fun k hk=>by rw [g0 k (by omega)]; exact hk,fun k h1 h2=>g0 k h2⟩
  refine Ok.bind (zlN o hN b0) ?_; obtain ⟨m,p',e,h1,h2,b,s⟩:=zq3 o hN b0; rw [e]
  show Ok lt N (if m<N then kas_bin (N-max m 1) p' (max m 1) else KasT.ret p')
  split
  · rw [Nat.max_eq_left h1]
    exact zmV o _ _ _ (by omega) b s
  · trivial
end
theorem wp_of {lt:Nat→Nat→Bool} {N:Nat} {J:Shared→Prop} {cmp:Nat→Nat→(Bool→Shared→Prop)→Shared→Prop} (hc:∀ i j C s,i<N→j<N→J s→(∀ s',J s'→C (lt i j) s')→cmp i j C s) {α:Type} {Q:α→Shared→Prop} :
    ∀ (t:KasT α) (s:Shared),Ok lt N t→J s→(∀ s',J s'→Q (run lt t) s')→t.kasWp cmp Q s
  | .ret _,s,_,hj,h=>h s hj
  | .ask i j k,s,⟨h1,h2,h3⟩,hj,h=>hc i j _ s h1 h2 hj fun s' hj'=>wp_of hc (k (lt i j)) s' h3 hj' h
end So
namespace So
open PySem PySem.W PyProof.Rows
section
variable {prog:Program} {w:World} {A:Around} {E:Value→Shared→Prop} {s:Shared} {a kS:Addr} {vs ks:List Value} {κ:SortKind}
def Fin3 (a kS:Addr) (ks:List Value) (e e1:Nat) (out:List Value) (C:Shared→Prop) (s:Shared):Prop :=
  s.heap.get? kS=some (seqObj "list" ks.toArray e)∧s.heap.get? a=some (seqObj "list" #[] e1) ∧
    ∀ h' c c2,(∀ b o,b≠kS→b≠a→s.heap.get? b=some o→h'.get? b=some o)→h'.objs.size=s.heap.objs.size→h'.get? kS=some (seqObj "list" #[] c)→h'.get? a=some (seqObj "list" out.toArray c2)→C { s with heap:=h' }
theorem Fin3.mono {e e1:Nat} {out:List Value} {C C':Shared→Prop} (h:Fin3 a kS ks e e1 out C s) (hc:∀ s,C s→C' s):Fin3 a kS ks e e1 out C' s :=
  ⟨h.1,h.2.1,fun h' c c2 k z x y=>hc _ (h.2.2 h' c c2 k z x y)⟩
theorem zh8 {st:SortSt} {e e1:Nat} {out:List Value} {P:PySem.Fin→Shared→Prop} (ne:kS≠a) (hout:(arrOf st).map (·.2)=List.toArray out) (hz:out.length<64) (hkz:ks.length<64) (hf:failedOf st=none)
    (h:Fin3 a kS ks e e1 out (fun s'=>P (.done (.ret .none)) s') s):wpAny (model prog w) A (ksk_tail a false e1 (.ref kS) st) P E s:=by
  obtain ⟨hk,ha,k⟩:=h
  have s1:=Heap.SameBut.update s.heap kS (Obj.mapSeq fun _=>(#[]:Array Value))
  obtain ⟨ck,hck⟩:∃ ck,(s.heap.update kS (Obj.mapSeq fun _=>(#[]:Array Value))).get? kS=some (seqObj "list" #[] ck):=⟨_,get?_update_seq hk fun _=>#[]⟩
  have ha1:(s.heap.update kS (Obj.mapSeq fun _=>(#[]:Array Value))).get? a=some (seqObj "list" #[] e1):=(s1.2 a (Ne.symm ne)).trans ha
  have s2:=Heap.SameBut.update (s.heap.update kS (Obj.mapSeq fun _=>(#[]:Array Value))) a (Obj.mapSeq fun _=>List.toArray out)
  obtain ⟨c2,hc2⟩:∃ c2,((s.heap.update kS (Obj.mapSeq fun _=>(#[]:Array Value))).update a (Obj.mapSeq fun _=>List.toArray out)).get? a=some (seqObj "list" (List.toArray out) c2):=⟨_,get?_update_seq ha1 fun _=>List.toArray out⟩
  unfold ksk_tail
  try dsimp only
  rw [hout]
  refine wpAny_bind (listUpdate_at hk rfl ?_ (by rw [List.size_toArray,sizeLine_eq]; omega) (Nat.zero_le _))
  refine wpAny_bind (wpAny_letGo ?_); refine wpAny_bind (seqEpoch_at ha1 rfl ?_)
  refine wpAny_bind (listUpdate_at ha1 rfl ?_ (Nat.zero_le _) (by simp only [Bool.false_eq_true,if_false]; rw [List.size_toArray,sizeLine_eq]; omega))
  rw [hf]; simp only [bne_self_eq_false,Bool.false_eq_true,if_false]
  refine wpAny_pure (k _ ck c2 (fun b o h1 h2 q=>(s2.2 b h2).trans ((s1.2 b h1).trans q)) (by rw [Heap.size_update,Heap.size_update]) ((s2.2 kS ne).trans hck) hc2)
theorem srt_end {e e1:Nat} {P:PySem.Fin→Shared→Prop} (ne:kS≠a) (hl:ks.length=vs.length) (h2:2≤vs.length) (h64:vs.length<64)
    (h:wpAny (model prog w) A (keyKind' (List.toArray ks)) (fun κ s'=>(kas_sort vs.length).kasWp (kas_ask prog w A κ ks) (fun p s''=>Fin3 a kS ks e e1 (p.toList.map fun i=>vs.getD i Value.none) (fun s3=>P (.done (.ret .none)) s3) s'') s') (fun _ _=>False) s) :
    wpAny (model prog w) A (ksk_end a false vs.toArray e1 (.ref kS) (List.toArray ks)) P E s:=by
  have hn2:¬ vs.toArray.size<2:=by rw [List.size_toArray]; omega
  unfold ksk_end
  try dsimp only
  simp only [Bool.false_eq_true,if_false]; rw [if_neg hn2,if_neg hn2]
  refine wpAny_bind (wpAny_mono h (fun κ s0 hk=>?_) fun _ _ x=>x.elim)
  refine wpAny_bind (wpAny_mono (kat_run (Q:=fun st' s'=>∃ p:Array Nat,p.size=vs.length∧arrOf st'=p.map (kas_item ((List.toArray ks).zip (List.toArray vs)))∧failedOf st'=none ∧
      Fin3 a kS ks e e1 (p.toList.map fun i=>vs.getD i Value.none) (fun s3=>P (.done (.ret .none)) s3) s')
    hl h2 h64 (fun p' st' s' a1 a2 a3 a4=>⟨p',a1,a2,a3,a4⟩) hk) ?_ fun _ _ x=>x)
  rintro ⟨⟨⟩,st'⟩ s' ⟨p,hp,har,hf,fin⟩
  try dsimp only
  exact zh8 ne (kat_snds hl har) (by rw [List.length_map,Array.length_toList,hp]; exact h64) (by omega) hf fin
theorem srt_end1 {e e1:Nat} {P:PySem.Fin→Shared→Prop} (ne:kS≠a) (hl:ks.length=vs.length) (h2:vs.length<2)
    (h:Fin3 a kS ks e e1 vs (fun s3=>P (.done (.ret .none)) s3) s):wpAny (model prog w) A (ksk_end a false vs.toArray e1 (.ref kS) (List.toArray ks)) P E s:=by
  have hn2:vs.toArray.size<2:=by rw [List.size_toArray]; omega
  unfold ksk_end
  try dsimp only
  simp only [Bool.false_eq_true,if_false]; rw [if_pos hn2,if_pos hn2]; refine wpAny_bind (wpAny_pure ?_); refine wpAny_bind (m:=StateT.run (pure ()) _) (wpAny_pure ?_)
  try dsimp only
  refine zh8 ne ?_ (by omega) (by omega) rfl h
  apply Array.toList_inj.mp
  show (((List.toArray ks).zip (List.toArray vs)).map (·.2)).toList=_
  rw [Array.toList_map,ksk_zip]
  clear h hn2
  cases vs with
  | nil =>
    cases ks with
    | nil=>rfl
    | cons k r=>simp at hl
  | cons v r =>
    cases r with
    | cons v2 r=>exact absurd h2 (by simp)
    | nil =>
      cases ks with
      | nil=>simp at hl
      | cons k r =>
        cases r with
        | nil=>rfl
        | cons k2 r=>simp at hl
theorem zh9 {f:Value} {n:Nat} {body:Value→PUnit→Sem (ForInStep PUnit)} (J:List Value→Nat→Shared→Prop) (hn:n<64) (all:List Value) (hall:all.length=n)
    (hb:∀ x ks e (s:Shared) (C:Value→Nat→Shared→Prop),List.length ks<64→wpAny (model prog w) A (call f [x]) (fun k s'=>s'.heap.get? kS=some (seqObj "list" ks.toArray e)∧∀ c,(s'.heap.update kS (Obj.mapSeq (·.push k))).get? kS=some (seqObj "list" (List.toArray (ks ++ [k])) c)→C k c { s' with heap:=s'.heap.update kS (Obj.mapSeq (·.push k)) }) (fun _ _=>False) s →
      wpAny (model prog w) A (body x ⟨⟩) (fun r s'=>r=.yield ⟨⟩∧∃ k c,C k c s') E s)
    (step:∀ ks e s x,all[ks.length]?=some x→J ks e s→wpAny (model prog w) A (call f [x]) (fun k s'=>s'.heap.get? kS=some (seqObj "list" ks.toArray e)∧∀ c,(s'.heap.update kS (Obj.mapSeq (·.push k))).get? kS=some (seqObj "list" (List.toArray (ks ++ [k])) c)→J (ks ++ [k]) c { s' with heap:=s'.heap.update kS (Obj.mapSeq (·.push k)) }) (fun _ _=>False) s) :
    ∀ (r ks:List Value) (e:Nat) (s:Shared),all.drop ks.length=r→ks.length≤n→J ks e s →
      wpAny (model prog w) A (forIn r PUnit.unit body) (fun _ s'=>∃ ks e,ks.length=n∧J ks e s') E s
  | [],ks,e,s,hl,hle,h=>by
    rw [List.forIn_nil]
    have:all.length≤ks.length:=List.drop_eq_nil_iff.mp hl
    exact wpAny_pure ⟨ks,e,by omega,h⟩
  | x :: r,ks,e,s,hl,hle,h=>by
    rw [List.forIn_cons]
    have hx:all[ks.length]?=some x:=by
      have:=congrArg (fun l=>l[0]?) hl
      simpa using this
    have hlt:ks.length<n:=by rw [← hall]; exact (List.getElem?_eq_some_iff.mp hx).1
    refine wpAny_bind (wpAny_mono (hb x ks e s (fun k c s'=>J (ks ++ [k]) c s') (by omega) (step ks e s x hx h)) (fun q s' hq=>?_) fun _ _ x=>x)
    obtain ⟨rfl,k,c,h2⟩:=hq
    show wpAny (model prog w) A (forIn r PUnit.unit body) _ E s'
    refine zh9 J hn all hall hb step r (ks ++ [k]) c s' ?_ (by rw [List.length_append,List.length_singleton]; omega) h2
    rw [List.length_append,List.length_singleton,← List.drop_drop,hl]; rfl
theorem srt_rest {f:Value} {e1:Nat} {P:PySem.Fin→Shared→Prop} (J:List Value→Nat→Shared→Prop) (h64:vs.length<64) (hJ:∀ ks e s,J ks e s→s.heap.get? kS=some (seqObj "list" ks.toArray e))
    (step:∀ ks e s x,vs[ks.length]?=some x→J ks e s→wpAny (model prog w) A (call f [x]) (fun k s'=>s'.heap.get? kS=some (seqObj "list" ks.toArray e)∧∀ c,(s'.heap.update kS (Obj.mapSeq (·.push k))).get? kS=some (seqObj "list" (List.toArray (ks ++ [k])) c)→J (ks ++ [k]) c { s' with heap:=s'.heap.update kS (Obj.mapSeq (·.push k)) }) (fun _ _=>False) s)
    (fin:∀ ks e s,ks.length=vs.length→J ks e s→wpAny (model prog w) A (ksk_end a false vs.toArray e1 (.ref kS) (List.toArray ks)) P E s) (h0:J [] 0 s) :
    wpAny (model prog w) A (ksk_rest a f false vs.toArray e1 (.ref kS)) P E s:=by
  unfold ksk_rest; refine wpAny_bind (wpAny_rule ?_)
  first
    | rw [List.forIn_toArray]
    | (rw [← Array.forIn_toList]; simp only [List.toList_toArray])
    | rw [← Array.forIn_toList]
  refine wpAny_bind (wpAny_mono (zh9 (f:=f) (kS:=kS) J h64 vs rfl (fun x ks e s' C hz hx=>?_) step vs [] 0 s rfl (Nat.zero_le _) h0) (fun _ s' hd=>?_) fun _ _ x=>x)
  · refine wpAny_bind (wpAny_attempt (wpAny_mono hx (fun k s'' hk=>?_) fun _ _ hF=>hF.elim))
    obtain ⟨nk,c⟩:=hk
    have ea:(List.toArray ks).push k=List.toArray (ks ++ [k]):=by simp
    obtain ⟨c2,hc2⟩:∃ c2,(s''.heap.update kS (Obj.mapSeq (·.push k))).get? kS=some (seqObj "list" (List.toArray (ks ++ [k])) c2):=⟨_,by rw [← ea]; exact get?_update_seq nk (·.push k)⟩
    try dsimp only
    refine wpAny_bind (listUpdate_at nk rfl ?_ (by rw [List.size_toArray,sizeLine_eq]; omega) (Nat.le_trans (Nat.le_of_eq (Array.size_push ..)) (by rw [List.size_toArray,sizeLine_eq]; omega)))
    exact wpAny_pure ⟨rfl,k,c2,c c2 hc2⟩
  · obtain ⟨ks,e,hl,fj⟩:=hd
    try dsimp only
    refine wpAny_bind (listItems_at (hJ _ _ _ fj) rfl ?_); exact fin ks e s' hl fj
theorem srt_tree {f:Value} {n:Nat} {P:PySem.Fin→Shared→Prop} (ho:s.heap.get? a=some (seqObj "list" vs.toArray n)) (h64:vs.length<64)
    (h:∀ e1 h',(∀ b o,b≠a→s.heap.get? b=some o→h'.get? b=some o)→h'.objs.size=s.heap.objs.size+2→h'.get? (s.heap.objs.size+1)=some (seqObj "list" #[] 0)→h'.get? a=some (seqObj "list" #[] e1) →
      wpAny (model prog w) A (ksk_rest a f false vs.toArray e1 (.ref (s.heap.objs.size+1))) P E { s with heap:=h' }) :
    wpAny (model prog w) A (ksk_tree a f false) P E s:=by
  have ha:a<s.heap.objs.size:=Heap.lt_size ho
  have s1:=Heap.SameBut.update s.heap a (Obj.mapSeq fun _=>(#[]:Array Value))
  obtain ⟨e1,ho1⟩:∃ e1,(s.heap.update a (Obj.mapSeq fun _=>(#[]:Array Value))).get? a=some (seqObj "list" #[] e1):=⟨_,get?_update_seq ho fun _=>#[]⟩
  have hkS:((s.heap.update a (Obj.mapSeq fun _=>(#[]:Array Value))).push (seqObj "tuple" vs.toArray 0)).objs.size=s.heap.objs.size+1:=by rw [size_push',Heap.size_update]
  unfold ksk_tree; refine wpAny_bind (listItems_at ho rfl ?_)
  refine wpAny_bind (listUpdate_at ho rfl ?_ (by rw [List.size_toArray,sizeLine_eq]; omega) (Nat.zero_le _))
  refine wpAny_bind (seqEpoch_at ho1 rfl ?_)
  refine wpAny_bind (wpAny_newTuple ?_ (by show vs.length≤_; rw [sizeLine_eq]; omega))
  refine wpAny_bind (wpAny_newList ?_ (Nat.zero_le _)); refine wpAny_holding ?_
  have h':=h e1 (((s.heap.update a (Obj.mapSeq fun _=>(#[]:Array Value))).push (seqObj "tuple" vs.toArray 0)).push (seqObj "list" #[] 0)) (fun b o hb q=>Heap.get?_push_of_some _ (Heap.get?_push_of_some _ ((s1.2 b hb).trans q)))
    (by rw [size_push',hkS]) (by rw [← hkS]; exact Heap.get?_push_size _ rfl) (Heap.get?_push_of_some _ (Heap.get?_push_of_some _ ho1))
  rw [← hkS] at h'; exact h'
end
end So
namespace L2
open PySem PySem.Spec PyProof.Rows PySem.W
section
variable {X:Cx} {pins:List (Addr × Obj)} {σ:St} {H:Hp} {s:Shared} {h':Heap}
theorem Inv.turnedOwn {t':Nat} {ch:List Addr} {p:Addr} {o:HO} (I:Inv X pins σ H s) (hch:∀ b ∈ ch,zh1 X pins H b) (hp:p ∈ ch) (k:∀ b u,b ∉ ch→s.heap.get? b=some u→h'.get? b=some u) (new:zbM X.prog X.w (upd H p o) h' p o) :
    Inv X pins σ (upd H p o) { s with heap:=h',toks:=t' }:=by
  have fr:H p=none:=(hch p hp).1
  have sm:∀ b u,H b=some u→upd H p o b=some u:=fun b u e=>by rw [zaD (zbf e fr)]; exact e
  have nch:∀ b u,H b=some u→b ∉ ch:=fun b u e z=>by rw [(hch b z).1] at e; cases e
  refine I.step (g':=s.gens) (d':=s.drawn) (ch:=ch) (fun b hb=>?_) (fun b u _ _ hc e _=>k b u hc e) (fun b u _ _ hc e _=>⟨u.slots,k b u hc e⟩) (fun b u hc e n=>?_) (fun b u hc e=>⟨u,k b u hc e⟩) (fun b xs e=>sm _ _ e) (fun b ob u e=>sm _ _ e) (fun b ps e=>⟨#[],by rw [sm _ _ e]; simp⟩) (fun m hm=>?_) (fun b u e=>?_) I.bare
  · obtain ⟨_,y1,_,y3,y4,y5⟩:=hch b hb
    exact ⟨y3,y1,y4,y5⟩
  · rw [zaD (fun z=>hc (by rw [z]; exact hp))]
    exact n
  · obtain ⟨ob,es,ep,ho,r⟩:=hm
    exact ⟨ob,es,ep,k _ ob (fun z=>(hch _ z).2.1 rfl) ho,r⟩
  · by_cases z:b=p
    · subst z
      rw [zO] at e; cases e; exact new
    · rw [zaD z] at e
      refine (I.hok b u e).stay (fun c v hc q=>k c v ?_ q) (fun c q=>sm _ _ q) fun c xs q=>sm _ _ q
      rcases hc with rfl | hc
      · exact nch _ u e
      · exact nch c _ hc
theorem zjC {A':Around} {k:Nat} {f:Addr} {fd:FuncData} {ps:List Str} {sp:Sp} {Q:VK} {us:List Value} {vs:List V} (F:FnOk X.prog X.w X.K X.mg X.base CX0 k f fd ps sp) (hr:Room k A') (hA:Env0 X.prog X.w X.K X.mg X.base A' X.stack s H) (hb:zdL X.K fd ps [])
    (I:Inv X pins σ H s) (r:za3 vs us) (h:sp vs H Q E0):wpAny (model X.prog X.w) A' (call (.ref f) us) (EP X pins σ Q) (fun _ _=>False) s:=by
  have hl:(us ++ []).length=ps.length:=by rw [List.append_nil,← r.length]; exact F.len _ _ _ _ h
  have hb':=hb s us I.kIn hl; rw [List.append_nil] at hb'
  refine wpAny_call (codeAny_mono (F.run A' X.stack s H ⟨us,[]⟩ us vs Q E0 hr hA hb' r h) fun r s' hq=>?_)
  cases r with
  | error e=>exact hq.elim
  | ok fl =>
    cases fl with
    | ret u=>exact I.after hq
    | next=>exact False.elim hq
    | brk=>exact False.elim hq
    | cont=>exact False.elim hq
def znu (sp:Sp) (Fin:List V→Hp→Prop):List V→List V→Hp→Prop
  | [],ks,H=>Fin ks H
  | v :: r,ks,H=>sp [v] H (fun k H'=>znu sp Fin r (ks ++ [k]) H') E0
def zg3 (X:Cx) (ks:List V) (H:Hp) (lt:Nat→Nat→Bool):Prop:=∀ (A':Around) (pins:List (Addr × Obj)) (σ:St) (s:Shared) (kss:List Value),Inv X pins σ H s→za3 ks kss→2≤ks.length →
  wpAny (model X.prog X.w) A' (keyKind' kss.toArray) (fun κ s'=>Inv X pins σ H s'∧∀ (i j:Nat) (C:Bool→Shared→Prop) s'',i<ks.length→j<ks.length→Inv X pins σ H s''→(∀ s3,Inv X pins σ H s3→C (lt i j) s3)→kas_ask X.prog X.w A' κ kss i j C s'') (fun _ _=>False) s
def zcq (lt:Nat→Nat→Bool) (xs:List V):List V:=if xs.length<2 then xs else (So.run lt (kas_sort xs.length)).toList.map fun i=>xs.getD i .non
theorem zgH {xs:List V} {us:List Value} (r:za3 xs us) (i:Nat) (hi:i<xs.length):zbi (xs.getD i .non) (us.getD i Value.none):=by
  have hl:=r.length; obtain ⟨u,hu,ru⟩:=r.get (List.getElem?_eq_getElem hi); simp only [List.getD,List.getElem?_eq_getElem hi,Option.getD_some]; rw [hu]; exact ru
theorem zfx {xs:List V} {us:List Value} (r:za3 xs us):∀ (l:List Nat),(∀ i,i ∈ l→i<xs.length)→za3 (l.map fun i=>xs.getD i .non) (l.map fun i=>us.getD i Value.none)
  | [],_=>.nil
  | i :: l,h=>.cons (zgH r i (h i (by simp))) (zfx r l fun j hj=>h j (by simp [hj]))
theorem zeb {lt:Nat→Nat→Bool} (o:So.Ord lt) {n:Nat} (hn:1≤n):((So.run lt (kas_sort n)).toList.length=n)∧∀ i,i ∈ (So.run lt (kas_sort n)).toList→i<n:=by
  obtain ⟨b,_⟩:=So.sort o hn
  refine ⟨by rw [Array.length_toList]; exact b.size,fun i hi=>?_⟩
  obtain ⟨k,hk,e⟩:=List.getElem_of_mem hi
  have hk':k<(So.run lt (kas_sort n)).size:=by simpa using hk
  have:=b.low k (by rw [b.size] at hk'; exact hk')
  rw [So.g_eq] at this; simp only [Array.getElem_toList] at e; rw [Array.getElem?_eq_getElem hk',e] at this; exact this
theorem zgU {k:Nat} {f:Addr} {fd:FuncData} {ps:List Str} {sp:Sp} {l:Addr} {xs:List V} {Q:VK} {E':Value→Shared→Prop} (F:FnOk X.prog X.w X.K X.mg X.base CX0 k f fd ps sp) (hr:Room (k+2) X.A) (hb:zdL X.K fd ps []) (I:Inv X pins σ H s) (hl:SqL X.K H l xs) (h64:xs.length<64)
    (h:znu sp (fun ks H'=>∃ lt,So.Ord lt∧zg3 X ks H' lt∧∀ p,H' p=none→Q (.ref p) (upd H' p (.lst (zcq lt xs)))) xs [] H) :
    wpAny (model X.prog X.w) X.A (call (.builtin "sorted") [.ref l] [(Str.ofString "key",.ref f)]) (EP X pins σ Q) E' s:=by
  obtain ⟨vs,rv,pl,hz⟩:=I.list hl; have hlen:=rv.length
  have h64':vs.length<64:=by omega
  refine call_function_entry_kw kind_sorted plain_sorted entry_sorted (ksk_s1 _ _) ?_
  unfold Builtin.«sorted»
  refine wpAny_bind (m:=checkCount "sorted" 1 1 _) (wpAny_pure ?_)
  refine wpAny_bind (collect_list (zlC pl) ?_ (by rw [sizeLine_eq]; omega))
  refine wpAny_bind (wpAny_newList ?_ (by rw [sizeLine_eq]; omega))
  have hsz:((s.heap.push (seqObj "list" #[] 0)).update s.heap.objs.size (Obj.mapSeq (· ++ vs.toArray))).objs.size=s.heap.objs.size+1:=by
    rw [Heap.size_update,size_push']
  have hoL:(((s.heap.push (seqObj "list" #[] 0)).update s.heap.objs.size (Obj.mapSeq (· ++ vs.toArray))).push (seqObj "list" vs.toArray 0)).get? (s.heap.objs.size+1)=some (seqObj "list" vs.toArray 0):=by
    rw [← hsz]; exact Heap.get?_push_size _ rfl
  have hsz2:(((s.heap.push (seqObj "list" #[] 0)).update s.heap.objs.size (Obj.mapSeq (· ++ vs.toArray))).push (seqObj "list" vs.toArray 0)).objs.size=s.heap.objs.size+2:=by rw [size_push',hsz]
  have keep:∀ b o,s.heap.get? b=some o→(((s.heap.push (seqObj "list" #[] 0)).update s.heap.objs.size (Obj.mapSeq (· ++ vs.toArray))).push (seqObj "list" vs.toArray 0)).get? b=some o:=fun b o q=>by
    have hlt:b<s.heap.objs.size:=Heap.lt_size q
    rw [Heap.get?_push_ne _ _ _ (by rw [hsz]; exact Nat.ne_of_lt (Nat.lt_succ_of_lt hlt)),Heap.get?_update_ne _ _ _ _ (Nat.ne_of_lt hlt),Heap.get?_push_ne _ _ _ (Nat.ne_of_lt hlt)]
    exact q
  show wpAny _ _ _ _ _ { s with heap:=((s.heap.push (seqObj "list" #[] 0)).update s.heap.objs.size (Obj.mapSeq (· ++ vs.toArray))).push (seqObj "list" vs.toArray 0) }
  rw [hsz]; refine wpAny_bind (wpAny_holding (wpAny_call_entry_kw slot_list_sort ⟨_,hoL,rfl⟩ entry_list_sort ?body (ksk_l1 _ _)))
  case body =>
    show wpAny (model X.prog X.w) X.A.in1.in1 (Builtin.«list.sort» ⟨[.ref (s.heap.objs.size+1)],[(Str.ofString "key",.ref f)]⟩) _ _ _
    rw [ksk_t1]
    refine So.srt_tree (s:={ s with heap:=((s.heap.push (seqObj "list" #[] 0)).update s.heap.objs.size (Obj.mapSeq (· ++ vs.toArray))).push (seqObj "list" vs.toArray 0) }) hoL h64' fun e1 h' keep' size' hk0 ha0=>?_
    dsimp only at keep' size' hk0
    rw [hsz2] at size' hk0
    have hDk:s.heap.objs.size+2+1≠s.heap.objs.size+1:=by omega
    have hD0:s.heap.objs.size≤s.heap.objs.size+1:=by omega
    have hK0:s.heap.objs.size≤s.heap.objs.size+2+1:=by omega
    have fD:=I.fpOk (H':=H) hD0 (I.hok.fresh hD0); have fK:=I.fpOk (H':=H) hK0 (I.hok.fresh hK0); rw [hsz2]; generalize hkS:s.heap.objs.size+2+1=kS at hk0 hDk fK; generalize hDD:s.heap.objs.size+1=D at ha0 hDk fD
    have I0:Inv X pins σ H { s with heap:=h' }:=I.kept (t':=s.toks) fun b u q=>keep' b u (fun z=>absurd (Heap.lt_size q) (by rw [z]; exact Nat.not_lt.mpr (Nat.le_succ _))) (keep b u q)
    have pin2:∀ {H':Hp} {s':Shared} {ks:List Value} {e:Nat},Inv X pins σ H' s'→s'.heap.get? kS=some (seqObj "list" ks.toArray e)→s'.heap.get? D=some (seqObj "list" #[] e1)→H' kS=none→H' D=none→Inv X ((kS,seqObj "list" ks.toArray e) :: (D,seqObj "list" #[] e1) :: pins) σ H' s':=fun I' g1 g2 n1 n2 =>
      I'.pins_of fun p hp=>by
        rcases List.mem_cons.mp hp with rfl | hp
        · exact ⟨g1,n1,fK.2.1,fK.2.2.1,fun v z=>by cases z⟩
        · rcases List.mem_cons.mp hp with rfl | hp
          · exact ⟨g2,n2,fD.2.1,fD.2.2.1,fun v z=>by cases z⟩
          · exact I'.pin p (List.mem_append_right _ hp)
    have unpin:∀ {H':Hp} {s':Shared} {ks:List Value} {e:Nat},Inv X ((kS,seqObj "list" ks.toArray e) :: (D,seqObj "list" #[] e1) :: pins) σ H' s'→Inv X pins σ H' s'∧(s'.heap.get? kS=some (seqObj "list" ks.toArray e)∧H' kS=none)∧(s'.heap.get? D=some (seqObj "list" #[] e1)∧H' D=none):=fun I'=>by
      have p1:=I'.pin (kS,_) (List.mem_append_right _ (.head _)); have p2:=I'.pin (D,_) (List.mem_append_right _ (.tail _ (.head _)))
      exact ⟨I'.pins_of fun p hp=>I'.pin p (List.mem_append_right _ (.tail _ (.tail _ hp))),⟨p1.1,p1.2.1⟩,⟨p2.1,p2.2.1⟩⟩
    have fin3:∀ {H':Hp} {s':Shared} {ks:List Value} {e:Nat} {ys:List V} {out:List Value},Inv X ((kS,seqObj "list" ks.toArray e) :: (D,seqObj "list" #[] e1) :: pins) σ H' s'→za3 ys out→ys.length<64→(∀ p,H' p=none→Q (.ref p) (upd H' p (.lst ys)))→So.Fin3 D kS ks e e1 out (EP X pins σ Q (.ref D)) s':=fun {H' s' ks e ys out} I' r hy hq=>by
      obtain ⟨I2,⟨g1,n1⟩,⟨g2,n2⟩⟩:=unpin I'
      refine ⟨g1,g2,fun h2 c c2 kp sz q1 q2=>⟨.ref D,upd H' D (.lst ys),?_,rfl,hq D n2⟩⟩
      refine I2.turnedOwn (t':=s'.toks) (ch:=[kS,D]) (fun b hb=>?_) (by simp) (fun b u hb e=>kp b u (fun z=>hb (by simp [z])) (fun z=>hb (by simp [z])) e) ⟨by rw [sizeLine_eq]; omega,out,c2,r,q2⟩
      simp at hb
      rcases hb with rfl | rfl
      · exact ⟨n1,fK.2⟩
      · exact ⟨n2,fD.2⟩
    refine So.srt_rest (J:=fun ks e s'=>∃ (kv:List V) (H':Hp),za3 kv ks∧Inv X ((kS,seqObj "list" ks.toArray e) :: (D,seqObj "list" #[] e1) :: pins) σ H' s'∧znu sp (fun ks H'=>∃ lt,So.Ord lt∧zg3 X ks H' lt∧∀ p,H' p=none→Q (.ref p) (upd H' p (.lst (zcq lt xs)))) (xs.drop ks.length) kv H') h64' ?_ ?_ ?_ ?_
    · rintro ks e s' ⟨kv,H',_,I',_⟩
      exact (unpin I').2.1.1
    · rintro ks e s' x hx ⟨kv,H',rk,I',hk⟩
      have hlt:ks.length<xs.length:=by rw [hlen]; exact (List.getElem?_eq_some_iff.mp hx).1
      obtain ⟨x',hx',rx⟩:=rv.get (List.getElem?_eq_getElem hlt); rw [hx] at hx'; cases hx'; rw [List.drop_eq_getElem_cons hlt] at hk
      refine wpAny_mono (zjC F hr.in1.in1 I'.env0.in1.in1 hb I' (.cons rx .nil) hk) (fun kk s3 he=>?_) fun _ _ z=>z
      obtain ⟨v,H3,I3,r3,hk3⟩:=he
      obtain ⟨I4,⟨g1,n1⟩,⟨g2,n2⟩⟩:=unpin I3
      refine ⟨g1,fun c hc=>⟨kv ++ [v],H3,rk.append (.cons r3 .nil),?_,?_⟩⟩
      · have sb:=Heap.SameBut.update s3.heap kS (Obj.mapSeq (·.push kk))
        have I5:Inv X pins σ H3 { s3 with heap:=s3.heap.update kS (Obj.mapSeq (·.push kk)) }:=I4.turned (t':=s3.toks) (it:=kS) (fun b o hb e=>(sb.2 b hb).trans e) n1 fK.2.1 fK.2.2.2.1 fK.2.2.2.2.1 fK.2.2.2.2.2
        exact pin2 I5 hc ((sb.2 D (fun z=>hDk z.symm)).trans g2) n1 n2
      · rw [List.length_append,List.length_singleton]
        exact hk3
    · rintro ks e s' hkl ⟨kv,H',rk,I',hk⟩
      have hkl2:kv.length=xs.length:=by rw [rk.length,hkl,hlen]
      rw [show xs.drop ks.length=[] from List.drop_eq_nil_of_le (by omega)] at hk
      obtain ⟨lt,od,cmp,hq⟩:=hk
      by_cases hn:vs.length<2
      · refine So.srt_end1 hDk hkl hn ((fin3 (ys:=zcq lt xs) I' ?_ ?_ hq).mono fun s4 hq=>⟨_,rfl,wpAny_pure ⟨_,rfl,hq⟩⟩)
        · unfold zcq
          rw [if_pos (by omega)]
          exact rv
        · unfold zcq
          rw [if_pos (by omega)]
          exact h64
      · have hN:1≤vs.length:=by omega
        have hsm:=zeb od hN
        refine So.srt_end (e:=e) hDk hkl (by omega) h64' (wpAny_mono (cmp X.A.in1.in1 _ σ s' ks I' rk (by omega)) (fun κ s3 hc=>?_) fun _ _ z=>z)
        obtain ⟨I3,hc⟩:=hc
        refine So.wp_of (lt:=lt) (N:=vs.length) (J:=fun s=>Inv X ((kS,seqObj "list" ks.toArray e) :: (D,seqObj "list" #[] e1) :: pins) σ H' s) (fun i j C s4 hi hj I4 hC=>hc i j C s4 (by omega) (by omega) I4 hC) (kas_sort vs.length) s3 (So.ok_sort od hN) I3 fun s4 I4=>?_
        refine (fin3 (ys:=zcq lt xs) I4 ?_ ?_ hq).mono fun s4 hq=>⟨_,rfl,wpAny_pure ⟨_,rfl,hq⟩⟩
        · unfold zcq
          rw [if_neg (by omega),hlen]
          exact zfx rv _ fun i hi=>by rw [hlen]; exact hsm.2 i hi
        · unfold zcq
          rw [if_neg (by omega),List.length_map,hlen,hsm.1]
          exact h64'
    · exact ⟨[],H,.nil,pin2 I0 hk0 ha0 fK.1 fD.1,h⟩
end
end L2
namespace L2
open PySem PySem.Spec PyProof.Rows PySem.W
section
variable {X:Cx}
def ltI (is:List Int):Nat→Nat→Bool:=fun i j=>decide (is.getD i 0<is.getD j 0)
theorem zsq (is:List Int):So.Ord (ltI is):=⟨fun a b h=>by
    unfold ltI at h ⊢
    simp at h ⊢
    omega,fun a b c h1 h2=>by
    unfold ltI at h1 h2 ⊢
    simp at h1 h2 ⊢
    omega⟩
theorem ziu:∀ {is:List Int} {us:List Value},za3 (is.map V.int) us→IntsAre us is
  | [],_,.nil=>.nil
  | i :: is,_,.cons r t=>by
    obtain ⟨tk,rfl⟩:=r; exact .cons i tk (ziu t)
theorem zq6 (is:List Int) {H:Hp}:zg3 X (is.map V.int) H (ltI is):=by
  intro A' pins σ s kss I r h2; rw [List.length_map] at h2; have hi:=ziu r
  have hl:kss.length=is.length:=by have:=r.length; simpa using this.symm
  rw [ksk_kind (keys:=kss.toArray) (kz:=is) (by simpa using hi) (by rw [List.size_toArray]; omega)]
  refine wpAny_pure ⟨I,fun i j C s'' h1 h2 I2 hC=>?_⟩
  rw [List.length_map] at h1 h2; unfold kas_ask
  have g:∀ i,i<is.length→∃ t,kss.getD i Value.none=.int (is.getD i 0) t:=fun i h=>by
    have:=zgH r i (by rw [List.length_map]; exact h)
    rw [show (is.map V.int).getD i .non=V.int (is.getD i 0) by simp [List.getD,List.getElem?_map,List.getElem?_eq_getElem h]] at this
    exact this
  obtain ⟨t1,e1⟩:=g i h1; obtain ⟨t2,e2⟩:=g j h2; rw [e1,e2]; exact kat_lt_int (hC _ I2)
def ltP (ps:List (Int × List Nat)):Nat→Nat→Bool:=fun i j=>decide ((ps.getD i (0,[])).1<(ps.getD j (0,[])).1∨((ps.getD i (0,[])).1=(ps.getD j (0,[])).1∧(ps.getD i (0,[])).2<(ps.getD j (0,[])).2))
theorem zhm (ps:List (Int × List Nat)):So.Ord (ltP ps):=⟨fun a b h=>by
    unfold ltP at h ⊢
    simp only [decide_eq_true_eq,decide_eq_false_iff_not] at h ⊢; generalize ps.getD a (0,[])=x at h ⊢; generalize ps.getD b (0,[])=y at h ⊢
    rintro (h' | ⟨h',h''⟩)
    · rcases h with h | ⟨h,_⟩ <;> omega
    · rcases h with h | ⟨_,h⟩
      · omega
      · exact List.lt_irrefl _ (List.lt_trans h h''),fun a b c h1 h2=>by
    unfold ltP at h1 h2 ⊢
    simp only [decide_eq_false_iff_not,not_or,not_and] at h1 h2 ⊢; generalize ps.getD a (0,[])=x at h1 h2 ⊢; generalize ps.getD b (0,[])=y at h1 h2 ⊢; generalize ps.getD c (0,[])=z at h1 h2 ⊢
    refine ⟨by omega,fun e=>?_⟩
    have e1:y.1=x.1:=by omega
    have e2:z.1=y.1:=by omega
    have q1:=h1.2 e1; have q2:=h2.2 e2; intro q; rw [List.not_lt] at q1 q2; exact absurd q (List.not_lt.mpr (List.le_trans q1 q2))⟩
def zpm (H:Hp):List Addr→List (Int × List Nat)→Prop:=Paired fun a p=>H a=some (.tup [.int p.1,.str (st p.2)])
theorem zhF {s:Shared} {pins:List (Addr × Obj)} {σ:St} {H:Hp} (I:Inv X pins σ H s) {a:Addr} {p:Int × List Nat} (h:H a=some (.tup [.int p.1,.str (st p.2)])) :
    ∃ o n t1 t2,s.heap.get? a=some o∧o.cls=.type "tuple"∧o.data=.seq (List.toArray [Value.int p.1 t1,Value.str (st p.2) t2]) n:=by
  obtain ⟨its,r,⟨o,e,c,n,d⟩,_⟩:=I.tuple (SqT.of h)
  obtain ⟨u,w',rfl,r1,r2⟩:=zpq r; obtain ⟨t1,rfl⟩:=r1; obtain ⟨t2,rfl⟩:=r2; exact ⟨o,n,t1,t2,e,c,d⟩
theorem zqC {s:Shared} {pins:List (Addr × Obj)} {σ:St} {H:Hp} (I:Inv X pins σ H s):∀ {as:List Addr} {ps:List (Int × List Nat)},zpm H as ps→∃ fs:List Value,fs.length=as.length∧KatTups s.heap (as.map Value.ref) fs∧∀ v,v ∈ fs→∃ i t,v=Value.int i t
  | [],[],_=>⟨[],rfl,trivial,fun _ z=>by simp at z⟩
  | a :: as,p :: ps,.cons h t=>by
    obtain ⟨fs,hl,kt,hf⟩:=zqC I t; obtain ⟨o,n,t1,t2,e,c,d⟩:=zhF I h
    refine ⟨.int p.1 t1 :: fs,by simp [hl],KatTups.cons e c d rfl kt,fun v hv=>?_⟩
    rcases List.mem_cons.mp hv with rfl | hv
    · exact ⟨_,_,rfl⟩
    · exact hf v hv
theorem zic:∀ {as:List Addr} {us:List Value},za3 (as.map V.ref) us→us=as.map Value.ref
  | [],_,.nil=>rfl
  | a :: as,_,.cons r t=>by rw [zic t]; cases r; rfl
theorem zf2 {H:Hp}:∀ {as:List Addr} {ps:List (Int × List Nat)} (i:Nat),zpm H as ps→i<as.length→H (as.getD i 0)=some (.tup [.int (ps.getD i (0,[])).1,.str (st (ps.getD i (0,[])).2)])
  | _ :: _,_ :: _,0,.cons h _,_=>h
  | _ :: _,_ :: _,i+1,.cons _ t,hi=>by
    have:=zf2 i t (by simpa using hi)
    simpa using this
theorem zq5 {H:Hp} {as:List Addr} {ps:List (Int × List Nat)} (k:zpm H as ps):zg3 X (as.map V.ref) H (ltP ps):=by
  intro A' pins σ s kss I r h2; rw [List.length_map] at h2; have e:=zic r; subst e; obtain ⟨fs,hl,kt,hf⟩:=zqC I k
  refine kat_kind (T:=.type "int") kt (by omega) (fun v hv=>?_) rfl ⟨I,fun i j C s'' h1 h2 I2 hC=>?_⟩
  · obtain ⟨i,t,rfl⟩:=hf v hv
    exact Looks.of_pure rfl
  · rw [List.length_map] at h1 h2
    unfold kas_ask
    have g:∀ i,i<as.length→(as.map Value.ref).getD i Value.none=.ref (as.getD i 0):=fun i h=>by simp [List.getD,List.getElem?_map,List.getElem?_eq_getElem h]
    rw [g i h1,g j h2]; obtain ⟨o,n,t1,t2,e1,c1,d1⟩:=zhF I2 (zf2 i k h1); obtain ⟨o',n',t1',t2',e1',c1',d1'⟩:=zhF I2 (zf2 j k h2); unfold ltP at hC; generalize ps.getD i (0,[])=p at *; generalize ps.getD j (0,[])=q at *; refine kat_lt e1 d1 e1' d1' ?_; refine kat_cons (wpAny_eqBool_int ?_)
    refine kat_go (fun he=>kat_yes (kat_cons (wpAny_eqBool_str (kat_go (fun he2=>kat_yes (kat_nil ?_)) fun he2=>kat_no ?_)))) fun he=>kat_no ?_
    · have e1:p.1=q.1:=by simpa using he
      have e2:st p.2=st q.2:=by simpa using he2
      have e3:p.2=q.2:=by rw [← zaM p.2,e2,zaM]
      have hz:=hC _ I2
      rw [show decide (p.1<q.1∨p.1=q.1∧p.2<q.2)=false by rw [e1,e3]; simp] at hz
      exact hz
    · have e1:p.1=q.1:=by simpa using he
      have hz:=hC _ I2; refine kat_one _ _ (lt_str ?_)
      show C (decide ((st p.2).cps.toList<(st q.2).cps.toList)) s''
      simp only [zaM]
      rw [show decide (p.1<q.1∨p.1=q.1∧p.2<q.2)=decide (p.2<q.2) by rw [e1]; simp] at hz
      exact hz
    · have e1:¬ p.1=q.1:=by simpa using he
      have hz:=hC _ I2; refine oneLt_int ?_
      rw [show decide (p.1<q.1∨p.1=q.1∧p.2<q.2)=decide (p.1<q.1) by simp [e1]] at hz
      exact hz
def zpw (K:PySem.W.Frag) (X:Cx) (sp:Sp) (t:TA):TE:=fun σ H Q=>t σ H fun vs H1=>∃ l xs,vs=[.ref l]∧SqL K H1 l xs∧xs.length<64∧znu sp (fun ks H'=>∃ lt,So.Ord lt∧zg3 X ks H' lt∧∀ p,H' p=none→Q (.ref p) (upd H' p (.lst (zcq lt xs)))) xs [] H1
theorem zlH {k:Nat} {f:Addr} {fd:FuncData} {ps:List Str} {sp:Sp} {x:Str} {e:Expr} {t:TA} {p q kpos pos:Pos} (F:FnOk X.prog X.w X.K X.mg X.base CX0 k f fd ps sp) (hr:Room (k+2) X.A) (hb:zdL X.K fd ps []) (hmf:X.mg x=some (.ref f)) (hm:X.mg "sorted"=none) (ha:PA X [e] t)
    (hgs:Gl X "sorted":=by rfl) (hg:Gl X x:=by rfl) (hdb:(x == ("__debug__":Str))=false:=by decide)
    (he:backTo pos (starEach [e] X.env)=(false,eval e X.env) :: backTo pos (starEach [] X.env):=by rfl)
    (hplain:(backTo pos (starEach [e] X.env)).any (·.1)=false:=by rfl) :
    PE X (.Call (.Name "sorted" p) [e] [⟨some "key",.Name x q,kpos⟩] pos) (zpw X.K X sp t):=by
  intro pins s σ H Q I h; refine wpAny_Call_Name_kw (zfk I hgs hm boot_sorted ?_)
  refine callWith_kw (thn (ha pos pins s σ H _ I h) fun us s1 ⟨vs,H1,I1,r,q⟩=>?_) he hplain rfl rfl
  obtain ⟨l,xs,rfl,hl,h64,hk⟩:=q; obtain ⟨u,rfl,ru⟩:=zdj r; cases ru
  refine thn (zjZ (nm:=some "key") (kpos:=kpos) (zhj (v:=.ref f) hg hmf rfl hdb) zmS pos pins s1 σ H1 (fun zs H2=>zs=[.ref f]∧H2=H1) I1 ⟨rfl,rfl⟩) fun ws s2 ⟨zs,H2,I2,rz,e1,e2⟩=>?_
  subst e1 e2
  obtain ⟨w',rfl,rw'⟩:=zdj rz; cases rw'; exact zgU F hr hb I2 hl h64 hk
end
end L2
namespace PL
open PySem L2
def zpl (ks:List D) (lt:Nat→Nat→Bool):Prop:=(∃ is:List Int,ks=is.map .int∧lt=ltI is)∨∃ ps:List (Int × List Nat),ks=ps.map (fun p=>.tup [.int p.1,.str p.2])∧lt=ltP ps
def zex (lt:Nat→Nat→Bool) (ds:List D):List D:=if ds.length<2 then ds else (So.run lt (PySem.W.kas_sort ds.length)).toList.map fun i=>ds.getD i .non
theorem zpl.ord {ks:List D} {lt:Nat→Nat→Bool} (h:zpl ks lt):So.Ord lt:=by
  rcases h with ⟨is,_,rfl⟩ | ⟨ps,_,rfl⟩
  · exact zsq is
  · exact zhm ps
theorem zeV {K:PySem.W.Frag} {H:Hp}:∀ {vs:List V} {is:List Int},zbN K H vs (is.map .int)→vs=is.map V.int
  | [],[],_=>rfl
  | v :: vs,i :: is,.cons r t=>by rw [r.intI,zeV t]; rfl
  | [],_ :: _,h=>nomatch h
  | _ :: _,[],h=>nomatch h
theorem zeU {K:PySem.W.Frag} {H:Hp}:∀ {vs:List V} {ps:List (Int × List Nat)},zbN K H vs (ps.map fun p=>.tup [.int p.1,.str p.2])→∃ as:List Addr,vs=as.map V.ref∧zpm H as ps
  | [],[],_=>⟨[],rfl,.nil⟩
  | v :: vs,p :: ps,.cons r t=>by
    obtain ⟨as,rfl,k⟩:=zeU t; obtain ⟨a,us,rfl,ha,dl⟩:=r.tupJ; obtain ⟨v1,v2,rfl,d1,d2⟩:=zoZ dl; rw [d1.intI,d2.strI] at ha; exact ⟨a :: as,rfl,.cons ha k⟩
  | [],_ :: _,h=>nomatch h
  | _ :: _,[],h=>nomatch h
theorem zeN {H H':Hp} (e:za0 H H'):∀ {as:List Addr} {ps:List (Int × List Nat)},zpm H as ps→zpm H' as ps
  | _,_,.nil=>.nil
  | _,_,.cons h t=>.cons (e _ _ h) (zeN e t)
theorem zmD {K:PySem.W.Frag} {H:Hp} {vs:List V} {ds:List D} (h:zbN K H vs ds) (i:Nat) (hi:i<vs.length):Den K H (vs.getD i .non) (ds.getD i .non):=by
  have hl:=zf h
  have:=paired_get i h (List.getElem?_eq_getElem hi) (List.getElem?_eq_getElem (by omega:i<ds.length))
  simpa [List.getD,List.getElem?_eq_getElem hi,List.getElem?_eq_getElem (by omega:i<ds.length)] using this
theorem zkC {K:PySem.W.Frag} {H:Hp} {vs:List V} {ds:List D} (h:zbN K H vs ds):∀ (l:List Nat),(∀ i,i ∈ l→i<vs.length)→zbN K H (l.map fun i=>vs.getD i .non) (l.map fun i=>ds.getD i .non)
  | [],_=>.nil
  | i :: l,q=>.cons (zmD h i (q i (by simp))) (zkC h l fun j hj=>q j (by simp [hj]))
theorem zia {K:PySem.W.Frag} {H:Hp} {lt:Nat→Nat→Bool} (o:So.Ord lt) {vs:List V} {ds:List D} (h:zbN K H vs ds):zbN K H (zcq lt vs) (zex lt ds):=by
  have hl:=zf h; unfold zcq zex; rw [hl]; split
  · exact h
  · rename_i hn
    exact zkC h _ fun i hi=>by rw [hl]; exact (zeb o (by omega)).2 i hi
section
variable {X:Cx}
def zm (sp:Sp') (t:TA'):TO':=fun Γ Q=>t Γ fun as Γ1=>∃ ds ks lt,as=[.lst ds]∧ds.length<64∧ks.length=ds.length∧(∀ (i:Nat) x k,ds[i]?=some x→ks[i]?=some k→sp [x] fun r=>r=.val k)∧zpl ks lt∧Q (.lst (zex lt ds)) Γ1
theorem zf3 {K:PySem.W.Frag} {sp:Sp'} {Fin:List V→Hp→Prop} {Hi1 H1:Hp}:∀ (r:List V) (rd kd:List D) (acc:List V) (accD:List D) (Hi H:Hp),Ext Hi1 H1 Hi H→zbN K Hi r rd→kd.length=rd.length→(∀ (i:Nat) x k,rd[i]?=some x→kd[i]?=some k→sp [x] fun r=>r=.val k)→zbN K Hi acc accD →
    (∀ acc Hi H,Ext Hi1 H1 Hi H→zbN K Hi acc (accD ++ kd)→Fin acc H)→znu (zll K sp) Fin r acc H
  | [],[],kd,acc,accD,Hi,H,ex,_,hl,_,da,fin=>by
    have:kd=[]:=List.length_eq_zero_iff.mp (by simpa using hl)
    subst this
    exact fin acc Hi H ex (by rw [List.append_nil]; exact da)
  | v :: r,d :: rd,k :: kd,acc,accD,Hi,H,ex,.cons d1 t,hl,hsp,da,fin=>by
    refine ⟨Hi,[d],fun r=>r=.val k,ex.fz,.cons d1 .nil,hsp 0 d k rfl rfl,fun Hi' H' v' r' e2 ro hq=>?_⟩
    subst hq
    refine zf3 r rd kd (acc ++ [v']) (accD ++ [k]) Hi' H' (ex.trans e2) (zbN.mono t e2.hi) (by simpa using hl) (fun i x k h1 h2=>hsp (i+1) x k (by simpa using h1) (by simpa using h2)) (zaU (da.mono e2.hi) (.cons ro .nil)) fun acc Hi H e3 da=>?_
    exact fin acc Hi H e3 (by simpa using da)
  | [],_ :: _,_,_,_,_,_,_,h,_,_,_,_=>nomatch h
  | _ :: _,[],_,_,_,_,_,_,h,_,_,_,_=>nomatch h
  | _ :: _,_ :: _,[],_,_,_,_,_,_,hl,_,_,_=>by simp at hl
theorem zih {k:Nat} {x:Str} {ps:List Str} {sp:Sp'} {e:Expr} {t:TA'} {p q kpos pos:Pos} (G:Fn X.prog X.w X.K X.mg X.base k x ps sp) (hr:Room (k+2) X.A) (hm:X.mg "sorted"=none) (ha:PA' X [e] t)
    (hgs:Gl X "sorted":=by rfl) (hg:Gl X x:=by rfl) (hdb:(x == ("__debug__":Str))=false:=by decide)
    (he:backTo pos (starEach [e] X.env)=(false,eval e X.env) :: backTo pos (starEach [] X.env):=by rfl) (hplain:(backTo pos (starEach [e] X.env)).any (·.1)=false:=by rfl) :
    PO' X (.Call (.Name "sorted" p) [e] [⟨some "key",.Name x q,kpos⟩] pos) (zm sp t):=by
  obtain ⟨f,fd,F,b,kp,m,_⟩:=G.ex; refine ⟨PE.weak (zlH F hr b m hm ha.pa hgs hg hdb he hplain) ?_⟩
  rintro σ H Q ⟨W,Hi,Γ,Q',g,h,fin⟩
  refine ⟨W,Hi,Γ,_,g,h,?_⟩
  rintro vs H1 Hi1 Γ1 as s1 g1 dl ⟨ds,ks,lt,rfl,h64,hkl,hsp,hkd,q⟩
  obtain ⟨v,rfl,den⟩:=zdG dl; obtain ⟨l,xs,rfl,hl,dx⟩:=den.lstI
  refine ⟨l,xs,rfl,zaI g1.sub hl,by rw [zf dx]; exact h64,?_⟩
  refine zf3 xs ds ks [] [] Hi1 H1 (Ext.refl g1.fz) dx hkl hsp .nil fun acc Hi2 H2 ex da=>?_
  rw [List.nil_append] at da
  refine ⟨lt,hkd.ord,?_,fun p hp=>?_⟩
  · rcases hkd with ⟨is,rfl,rfl⟩ | ⟨ps,rfl,rfl⟩
    · rw [zeV da]
      exact zq6 is
    · obtain ⟨as,rfl,kt⟩:=zeU da
      exact zq5 (zeN ex.fz.sub kt)
  · have g2:=g1.ext ex
    exact fin p _ Hi2 Γ1 (.lst (zex lt ds)) (s1.trans ex.hi) (g2.ext (Ext.newO g2.fz hp _ (fun _ z=>by cases z))) (New.mk' g2 hp ⟨_,zO,zia hkd.ord (dx.mono ex.hi)⟩) q
end
end PL
namespace L2
open PySem PySem.Spec PyProof.Rows
section
variable {P:Program} {w:World} {K:PySem.W.Frag} {mg:Str→Option Value} {base:Heap}
end
section
variable {X:Cx} {pins:List (Addr × Obj)} {σ:St} {H:Hp} {s:Shared}
end
end L2
namespace L2
open PySem PySem.Spec PyProof.Rows
section
variable {X:Cx}
end
end L2
namespace PL
open PySem L2
section
variable {P:Program} {w:World} {K:PySem.W.Frag} {mg:Str→Option Value} {base:Heap}
end
section
variable {X:Cx}
end
end PL
namespace L2
open PySem PySem.Spec PyProof.Rows
end L2
namespace PL
open PySem L2
section
variable {P:Program} {w:World} {K:PySem.W.Frag} {mg:Str→Option Value} {base:Heap} {k:Nat} {x qual:Str} {ps:List Str} {sp:Sp'}
end
end PL
namespace PL
open PySem L2
end PL
namespace PL
open PySem L2
section
variable {X:Cx} {pos:Pos}
def zaC (i:Nat) (te:TE'):TS':=fun N Γ=>∃ a,Γ[i]?=some (.val (.int a))∧te Γ fun d Γ1=>∃ b,d=.int b∧N.nx (Γ1.set i (.val (.int (a+b))))
end
end PL
namespace MS
open PySem L2 PL
theorem zkn:∀ (N:Nat) (l:List Nat),l.Nodup→(∀ x,x ∈ l→x<N)→l.length≤N
  | 0,l,_,h=>by
    cases l with
    | nil=>simp
    | cons a r=>exact absurd (h a (by simp)) (by omega)
  | N+1,l,hd,h=>by
    by_cases e:N ∈ l
    · have:=zkn N (l.erase N) (hd.erase N) fun x hx=>by
        have h1:=h x (List.mem_of_mem_erase hx)
        have h2:x≠N:=fun z=>by rw [z] at hx; exact (hd.not_mem_erase) hx
        omega
      rw [List.length_erase_of_mem e] at this; omega
    · have:=zkn N l hd fun x hx=>by
        have h1:=h x hx
        have h2:x≠N:=fun z=>e (z ▸ hx)
        omega
      omega
theorem zq2:∀ (N:Nat) (l:List Nat),l.Nodup→(∀ x,x ∈ l→x<N)→l.length=N→∀ i,i<N→i ∈ l
  | 0,_,_,_,_,i,hi=>absurd hi (by omega)
  | N+1,l,hd,h,hl,i,hi=>by
    by_cases e:N ∈ l
    · by_cases z:i=N
      · rw [z]; exact e
      · refine List.mem_of_mem_erase (zq2 N (l.erase N) (hd.erase N) (fun x hx=>?_) (by rw [List.length_erase_of_mem e]; omega) i (by omega))
        have h1:=h x (List.mem_of_mem_erase hx)
        have h2:x≠N:=fun z=>by rw [z] at hx; exact (hd.not_mem_erase) hx
        omega
    · have:=zkn N l hd fun x hx=>by
        have h1:=h x hx
        have h2:x≠N:=fun z=>e (z ▸ hx)
        omega
      omega
theorem irr {lt:Nat→Nat→Bool} (o:So.Ord lt) {a:Nat} (h:So.L lt a a):False:=by
  rcases h with h | ⟨_,h⟩
  · have:=o.asym a a h
    rw [h] at this; cases this
  · omega
theorem zc5 {lt:Nat→Nat→Bool} (o:So.Ord lt) {N:Nat} (hN:1≤N):(So.run lt (PySem.W.kas_sort N)).toList.Nodup∧(So.run lt (PySem.W.kas_sort N)).toList.length=N∧(∀ i,i ∈ (So.run lt (PySem.W.kas_sort N)).toList↔i<N):=by
  obtain ⟨b,s⟩:=So.sort o hN
  have hl:(So.run lt (PySem.W.kas_sort N)).toList.length=N:=by rw [Array.length_toList]; exact b.size
  have lo:=(zeb o hN).2
  have gg:∀ i (hi:i<(So.run lt (PySem.W.kas_sort N)).toList.length),So.g (So.run lt (PySem.W.kas_sort N)) i=(So.run lt (PySem.W.kas_sort N)).toList[i]:=fun i hi=>by
    rw [So.g_eq]
    have hi':i<(So.run lt (PySem.W.kas_sort N)).size:=by simpa using hi
    rw [Array.getElem?_eq_getElem hi']; simp
  have nd:(So.run lt (PySem.W.kas_sort N)).toList.Nodup:=by
    rw [List.nodup_iff_pairwise_ne,List.pairwise_iff_getElem]; intro i j hi hj hij e
    have z:=s i j hij (by omega)
    rw [gg i hi,gg j hj,e] at z; exact irr o z
  exact ⟨nd,hl,fun i=>⟨lo i,zq2 N _ nd lo hl i⟩⟩
section
variable {α:Type} {lt:Nat→Nat→Bool}
def srt (lt:Nat→Nat→Bool) (d:α) (ps:List α):List α:=if ps.length<2 then ps else (So.run lt (PySem.W.kas_sort ps.length)).toList.map fun i=>ps.getD i d
theorem zjz (o:So.Ord lt) (d:α) (ps:List α) (q:α):q ∈ srt lt d ps↔q ∈ ps:=by
  unfold srt; split
  · rfl
  · rename_i h
    obtain ⟨_,_,m⟩:=zc5 o (N:=ps.length) (by omega)
    rw [List.mem_map]; constructor
    · rintro ⟨i,hi,rfl⟩
      have hi':=(m i).mp hi; simp only [List.getD,List.getElem?_eq_getElem hi',Option.getD_some]; exact List.getElem_mem hi'
    · intro hq
      obtain ⟨i,hi,e⟩:=List.getElem_of_mem hq
      exact ⟨i,(m i).mpr hi,by simp only [List.getD,List.getElem?_eq_getElem hi,Option.getD_some]; exact e⟩
theorem znD (o:So.Ord lt) (d:α) (ps:List α):(srt lt d ps).length=ps.length:=by
  unfold srt; split
  · rfl
  · rename_i h
    obtain ⟨_,hl,_⟩:=zc5 o (N:=ps.length) (by omega)
    rw [List.length_map,hl]
theorem zjy (o:So.Ord lt) (d:α) {ps:List α} (hd:ps.Nodup):(srt lt d ps).Nodup:=by
  unfold srt; split
  · exact hd
  · rename_i h
    obtain ⟨nd,_,m⟩:=zc5 o (N:=ps.length) (by omega)
    rw [List.nodup_iff_pairwise_ne,List.pairwise_map]; refine List.Pairwise.imp_of_mem ?_ (List.nodup_iff_pairwise_ne.mp nd); intro i j hi hj hij e; have hi':=(m i).mp hi; have hj':=(m j).mp hj; simp only [List.getD,List.getElem?_eq_getElem hi',List.getElem?_eq_getElem hj',Option.getD_some] at e; exact hij ((List.getElem_inj hd).mp e)
theorem znC (f:α→D) (d:α) (ps:List α) (o:So.Ord lt):zex lt (ps.map f)=(srt lt d ps).map f:=by
  unfold zex srt; rw [List.length_map]; split
  · rfl
  · rename_i h
    obtain ⟨_,_,m⟩:=zc5 o (N:=ps.length) (by omega)
    rw [List.map_map]
    refine List.map_congr_left fun i hi=>?_
    have hi':=(m i).mp hi; simp [List.getD,List.getElem?_eq_getElem hi']
end
end MS
namespace M04
open PySem L2 Lb PL MT MS
abbrev Nd:=List (Pl × Pl)
def keys (ns:Nd):List Pl:=ns.map (·.1)
structure NOk (ns:Nd):Prop where
  nil:[] ∈ keys ns
  nd:(keys ns).Nodup
  len:∀ q,q ∈ keys ns→q.length≤8
  up:∀ q,q ∈ keys ns→q.dropLast ∈ keys ns
  lab:∀ q,q ∈ keys ns→∀ l,l ∈ q→zaH l=true
  many:ns.length≤60
def zdZ (q:Pl):List Nat:=q.getLast?.getD []
def zdw (l:List Nat):Int × List Nat:=((PySem.intText? (st (cut l))).getD 0,zcQ l)
def ztV (q:Pl):Int × List Nat:=zdw (zdZ q)
def zmm (ns:Nd) (p:Pl):List Pl:=(keys ns).filter fun q=>decide (q.length=p.length+1) && decide (q.dropLast=p)
def zoF (ns:Nd) (p:Pl):List Pl:=srt (ltP ((zmm ns p).map ztV)) [] (zmm ns p)
def ztA (ns:Nd) (p:Pl):Pl:=(ns.lookup p).getD []
theorem znE {p q:Pl} (h1:q.length=p.length+1) (h2:q.dropLast=p):q=p ++ [zdZ q]:=by
  have hne:q≠[]:=fun z=>by rw [z] at h1; simp at h1
  rw [← h2]; unfold zdZ; rw [List.getLast?_eq_some_getLast hne]; exact (List.dropLast_concat_getLast hne).symm
theorem zkj {ns:Nd} {p q:Pl}:q ∈ zmm ns p↔q ∈ keys ns∧q=p ++ [zdZ q]:=by
  unfold zmm; rw [List.mem_filter]; simp only [Bool.and_eq_true,decide_eq_true_eq]; constructor
  · rintro ⟨h,h1,h2⟩
    exact ⟨h,znE h1 h2⟩
  · rintro ⟨h,e⟩
    refine ⟨h,?_,?_⟩
    · rw [e]; simp
    · rw [e]; simp
theorem zl0 {ns:Nd} {p q:Pl}:q ∈ zoF ns p↔q ∈ keys ns∧q=p ++ [zdZ q]:=by
  unfold zoF; rw [zjz (zhm _),zkj]
mutual
def ze0:Tr→Pl→List Pl
  | .node _ _ ks,p=>p :: zgs ks p
def zgs:List Tr→Pl→List Pl
  | [],_=>[]
  | k :: ks,p=>ze0 k (p ++ [k.lab]) ++ zgs ks p
end
theorem zig (p:Pl):∀ ks:List Tr,zgs ks p=ks.flatMap fun k=>ze0 k (p ++ [k.lab])
  | []=>by simp [zgs]
  | k :: ks=>by simp [zgs,zig p ks]
theorem zfL (t:Tr) (p:Pl):ze0 t p=p :: t.kds.flatMap fun k=>ze0 k (p ++ [k.lab]):=by
  cases t with
  | node l ws ks=>simp [ze0,zig,Tr.kds]
theorem zqD {ns:Nd} (o:NOk ns) {p:Pl} (h:8≤p.length):zoF ns p=[]:=by
  rw [List.eq_nil_iff_forall_not_mem]; intro q hq; obtain ⟨h1,h2⟩:=zl0.mp hq
  have:=o.len q h1
  rw [h2] at this
  simp at this
  omega
end M04
namespace M70
open PySem L2 Lb PL MT MS M04
open PySem.NumText (digitsVal)
theorem zhQ (l:List Nat) (c:Nat):digitsVal (l ++ [c])=digitsVal l * 10+(c-48):=by simp [digitsVal,List.foldl_append]
theorem ziE:∀ (n:Nat) {l:List Nat},l.length≤n→(∀ c ∈ l,Dig c)→l≠[]→l[0]?≠some 48→1≤digitsVal l
  | 0,l,hl,_,hn,_=>absurd (List.length_eq_zero_iff.mp (by omega)) hn
  | n+1,l,hl,hd,hn,h0=>by
    rcases List.eq_nil_or_concat l with e | ⟨l',c,e⟩
    · exact absurd e hn
    · rw [List.concat_eq_append] at e
      subst e; rw [zhQ]
      by_cases z:l'=[]
      · subst z
        have:=hd c (by simp)
        have:c≠48:=fun e=>h0 (by simp [e])
        unfold Dig at *
        simp [digitsVal]; omega
      · have:=ziE n (l:=l') (by simp at hl; omega) (fun c hc=>hd c (by simp [hc])) z (by
          rw [List.getElem?_append_left (by cases l' with | nil=>exact absurd rfl z | cons _ _=>simp)] at h0
          exact h0)
        omega
theorem zqU:∀ (n:Nat) {l m:List Nat},l.length≤n→(∀ c ∈ l,Dig c)→(∀ c ∈ m,Dig c)→l[0]?≠some 48→m[0]?≠some 48→digitsVal l=digitsVal m→l=m:=by
  intro n
  induction n with
  | zero =>
    intro l m hl h1 h2 h3 h4 e
    have:l=[]:=List.length_eq_zero_iff.mp (by omega)
    subst this
    by_cases z:m=[]
    · rw [z]
    · have:=ziE _ (Nat.le_refl _) h2 z h4
      rw [← e] at this; simp [digitsVal] at this
  | succ n ih =>
    intro l m hl h1 h2 h3 h4 e
    rcases List.eq_nil_or_concat l with z | ⟨l',c,z⟩
    · subst z
      by_cases z:m=[]
      · rw [z]
      · have:=ziE _ (Nat.le_refl _) h2 z h4
        rw [← e] at this; simp [digitsVal] at this
    · rcases List.eq_nil_or_concat m with y | ⟨m',d,y⟩
      · subst y
        have:=ziE _ (Nat.le_refl _) h1 (by rw [z]; simp) h3
        rw [e] at this; simp [digitsVal] at this
      · rw [List.concat_eq_append] at z y
        subst z y
        rw [zhQ,zhQ] at e
        have hc:=h1 c (by simp)
        have hd:=h2 d (by simp)
        unfold Dig at hc hd
        have e1:digitsVal l'=digitsVal m':=by omega
        have e2:c=d:=by omega
        have hd:∀ (a:List Nat) (x:Nat),(a ++ [x])[0]?≠some 48→a[0]?≠some 48:=fun a x h=>by
          cases a with
          | nil=>simp
          | cons y r=>simpa using h
        rw [ih (by simp at hl; omega) (fun x hx=>h1 x (by simp [hx])) (fun x hx=>h2 x (by simp [hx])) (hd _ _ h3) (hd _ _ h4) e1,e2]
theorem zgM {l:List Nat} (h:zaH l=true):(∀ c ∈ cut l,Dig c)∧(cut l)[0]?≠some 48∧PySem.intText? (st (cut l))=some ((digitsVal (cut l):Nat):Int):=by
  unfold zaH at h; simp only [Bool.and_eq_true,decide_eq_true_eq,List.all_eq_true] at h
  obtain ⟨⟨⟨⟨a1,a2⟩,b⟩,c⟩,d⟩:=h
  have hd:∀ x ∈ cut l,Dig x:=fun x hx=>(zek x).mp (by simpa [dig] using c x hx)
  refine ⟨hd,b,?_⟩
  have q:=PySem.intText_digits (x:=st (cut l)) (by rw [zaM]; exact hd) (by rw [zaM]; exact fun z=>by rw [z] at a1; simp at a1) (by rw [zbA]; omega)
  rw [zaM] at q; exact q
theorem zmn {l m:List Nat} (hl:zaH l=true) (hm:zaH m=true) (e:zdw l=zdw m):l=m:=by
  obtain ⟨a1,a2,a3⟩:=zgM hl; obtain ⟨b1,b2,b3⟩:=zgM hm; unfold zdw at e; rw [a3,b3] at e
  injection e with e1 e2
  have e3:digitsVal (cut l)=digitsVal (cut m):=by
    simp only [Option.getD_some] at e1; omega
  rw [← zd1 l,← zd1 m,e2,zqU _ (Nat.le_refl _) a1 b1 a2 b2 e3]
def klt (p q:Int × List Nat):Prop:=p.1<q.1∨(p.1=q.1∧p.2<q.2)
theorem zhG (p:Int × List Nat):¬ klt p p:=by
  rintro (h | ⟨_,h⟩)
  · omega
  · exact List.lt_irrefl _ h
theorem zl7 {p q:Int × List Nat} (h:klt p q):¬ klt q p:=by
  rintro (h' | ⟨h1,h2⟩)
  · rcases h with h | ⟨h,_⟩ <;> omega
  · rcases h with h | ⟨_,h⟩
    · omega
    · exact List.lt_irrefl _ (List.lt_trans h h2)
theorem zoy (p q:Int × List Nat):klt p q∨klt q p∨p=q:=by
  unfold klt
  rcases Int.lt_trichotomy p.1 q.1 with h | h | h
  · exact .inl (.inl h)
  · by_cases h1:p.2<q.2
    · exact .inl (.inr ⟨h,h1⟩)
    · by_cases h2:q.2<p.2
      · exact .inr (.inl (.inr ⟨h.symm,h2⟩))
      · refine .inr (.inr (Prod.ext h ?_))
        exact List.le_antisymm (List.not_lt.mp h2) (List.not_lt.mp h1)
  · exact .inr (.inl (.inl h))
def Ris (L:List (List Nat)):Prop:=L.Pairwise fun a b=>klt (zdw a) (zdw b)
theorem Ris.nodup {L:List (List Nat)} (h:Ris L):L.Nodup:=by
  rw [List.nodup_iff_pairwise_ne]; refine List.Pairwise.imp ?_ h; intro a b hk e; rw [e] at hk; exact zhG _ hk
theorem zjD:∀ {L M:List (List Nat)},Ris L→Ris M→(∀ x,x ∈ L↔x ∈ M)→L=M
  | [],[],_,_,_=>rfl
  | [],b :: M,_,_,h=>absurd ((h b).mpr List.mem_cons_self) (by simp)
  | a :: L,[],_,_,h=>absurd ((h a).mp List.mem_cons_self) (by simp)
  | a :: L,b :: M,h1,h2,h=>by
    unfold Ris at h1 h2; rw [List.pairwise_cons] at h1 h2
    have e:a=b:=by
      rcases List.mem_cons.mp ((h a).mp List.mem_cons_self) with z | z
      · exact z
      · rcases List.mem_cons.mp ((h b).mpr List.mem_cons_self) with y | y
        · exact y.symm
        · exact absurd (h2.1 a z) (zl7 (h1.1 b y))
    subst e
    have:L=M:=zjD h1.2 h2.2 fun x=>by
      constructor
      · intro hx
        rcases List.mem_cons.mp ((h x).mp (List.mem_cons_of_mem _ hx)) with z | z
        · exact absurd (h1.1 x hx) (by rw [z]; exact zhG _)
        · exact z
      · intro hx
        rcases List.mem_cons.mp ((h x).mpr (List.mem_cons_of_mem _ hx)) with z | z
        · exact absurd (h2.1 x hx) (by rw [z]; exact zhG _)
        · exact z
    rw [this]
theorem zev {ls:List (List Nat)} (nd:ls.Nodup) (hp:∀ l ∈ ls,zaH l=true):Ris (srt (ltP (ls.map zdw)) [] ls):=by
  unfold srt; split
  · rename_i h
    match ls,h with
    | [],_=>exact .nil
    | [a],_=>exact List.pairwise_singleton _ _
  · rename_i h
    have o:=zhm (ls.map zdw)
    obtain ⟨nd2,hl,m⟩:=zc5 o (N:=ls.length) (by omega)
    obtain ⟨b,s⟩:=So.sort o (N:=ls.length) (by omega)
    have hsz:(So.run (ltP (ls.map zdw)) (PySem.W.kas_sort ls.length)).size=ls.length:=b.size
    unfold Ris; rw [List.pairwise_map,List.pairwise_iff_getElem]; intro i j hi hj hij
    have z:=s i j hij (by omega)
    have gg:∀ i (hi:i<(So.run (ltP (ls.map zdw)) (PySem.W.kas_sort ls.length)).toList.length),So.g (So.run (ltP (ls.map zdw)) (PySem.W.kas_sort ls.length)) i=(So.run (ltP (ls.map zdw)) (PySem.W.kas_sort ls.length)).toList[i]:=fun i hi=>by
      rw [So.g_eq]
      have hi':i<(So.run (ltP (ls.map zdw)) (PySem.W.kas_sort ls.length)).size:=by simpa using hi
      rw [Array.getElem?_eq_getElem hi']; simp
    rw [gg i hi,gg j hj] at z; have ha:=(m _).mp (List.getElem_mem hi); have hb:=(m _).mp (List.getElem_mem hj)
    have hne:(So.run (ltP (ls.map zdw)) (PySem.W.kas_sort ls.length)).toList[i]≠(So.run (ltP (ls.map zdw)) (PySem.W.kas_sort ls.length)).toList[j]:=fun e=>by
      have:=(List.getElem_inj nd2).mp e
      omega
    generalize (So.run (ltP (ls.map zdw)) (PySem.W.kas_sort ls.length)).toList[i]=a at *; generalize (So.run (ltP (ls.map zdw)) (PySem.W.kas_sort ls.length)).toList[j]=c at *; simp only [List.getD,List.getElem?_eq_getElem ha,List.getElem?_eq_getElem hb,Option.getD_some]
    have k1:∀ x (hx:x<ls.length),(ls.map zdw).getD x (0,[])=zdw ls[x]:=fun x hx=>by simp [List.getD,List.getElem?_map,List.getElem?_eq_getElem hx]
    have lt_iff:∀ x y (hx:x<ls.length) (hy:y<ls.length),ltP (ls.map zdw) x y=true↔klt (zdw ls[x]) (zdw ls[y]):=fun x y hx hy=>by
      unfold ltP klt; rw [k1 x hx,k1 y hy]; simp only [decide_eq_true_eq]
    rcases z with z | ⟨z,_⟩
    · exact (lt_iff a c ha hb).mp z
    · rcases zoy (zdw ls[a]) (zdw ls[c]) with y | y | y
      · exact y
      · rw [(lt_iff c a hb ha).mpr y] at z
        cases z
      · exact absurd ((List.getElem_inj nd).mp (zmn (hp _ (List.getElem_mem ha)) (hp _ (List.getElem_mem hb)) y)) hne
def ze1 (ls:List (List Nat)):List (List Nat):=srt (ltP (ls.map zdw)) [] ls
theorem zcr (ls:List (List Nat)) (l:List Nat):l ∈ ze1 ls↔l ∈ ls:=zjz (zhm _) _ _ _
theorem zew {ls:List (List Nat)} (h:ls.Nodup):(ze1 ls).Nodup:=zjy (zhm _) _ h
theorem zgl (ls:List (List Nat)):(ze1 ls).length=ls.length:=znD (zhm _) _ _
end M70
namespace M71
open PySem L2 Lb PL MT MS M04 M70
theorem zci (l:List Nat) (ws:Pl) (ks:List Tr):(Tr.node l ws ks).kds=ks:=rfl
def zaL (ks:List Tr):List (List Nat):=ks.map Tr.lab
theorem zdm {l:List Nat} {ks:List Tr} {k:Tr} (h:zb l ks=some k):k ∈ ks∧k.lab=l:=by
  unfold zb at h
  exact ⟨List.mem_of_find?_eq_some h,by simpa using List.find?_some h⟩
theorem zc3 {l:List Nat} {ks:List Tr}:zb l ks=none↔l ∉ zaL ks:=by
  unfold zb zaL; rw [List.find?_eq_none,List.mem_map]; constructor
  · rintro h ⟨k,hk,e⟩
    exact h k hk (by simpa using e)
  · intro h k hk e
    exact h ⟨k,hk,by simpa using e⟩
theorem zeM {l:List Nat} {ks:List Tr} (h:l ∈ zaL ks):∃ k,zb l ks=some k:=by
  cases e:zb l ks with
  | none=>exact absurd h (zc3.mp e)
  | some k=>exact ⟨k,rfl⟩
theorem zcc:∀ {ks:List Tr} {k:Tr},(zaL ks).Nodup→k ∈ ks→zb k.lab ks=some k
  | k' :: ks,k,hn,h=>by
    unfold zaL at hn; rw [List.map_cons,List.nodup_cons] at hn
    rcases List.mem_cons.mp h with rfl | h
    · simp [zb]
    · have ne:¬ k'.lab=k.lab:=fun e=>hn.1 (by rw [e]; exact List.mem_map_of_mem h)
      have:=zcc (ks:=ks) hn.2 h
      unfold zb at this ⊢
      rw [List.find?_cons]; simp [ne,this]
def zld (ms:List (List Nat)) (l:List Nat):List (List Nat):=if l ∈ ms then ms else ms ++ [l]
def zg4 (ls:List (List Nat)):List (List Nat):=ls.foldl zld []
theorem zjq (ls:List (List Nat)) (l:List Nat):zg4 (ls ++ [l])=zld (zg4 ls) l:=by
  unfold zg4; rw [List.foldl_append]; rfl
theorem zfz:∀ (ls acc:List (List Nat)),acc.Nodup→(ls.foldl zld acc).Nodup∧(∀ l,l ∈ ls.foldl zld acc↔l ∈ acc∨l ∈ ls)∧(ls.foldl zld acc).length≤acc.length+ls.length
  | [],acc,h=>⟨h,fun l=>by simp,by simp⟩
  | x :: ls,acc,h=>by
    have ha:(zld acc x).Nodup∧(∀ l,l ∈ zld acc x↔l ∈ acc∨l=x)∧(zld acc x).length≤acc.length+1:=by
      unfold zld; split
      · rename_i e
        exact ⟨h,fun l=>⟨.inl,fun z=>z.elim id fun z=>z ▸ e⟩,by omega⟩
      · rename_i e
        refine ⟨?_,fun l=>by simp,by simp⟩
        rw [List.nodup_append]
        exact ⟨h,by simp,fun a ha b hb z=>e (by rw [← List.mem_singleton.mp hb,← z]; exact ha)⟩
    obtain ⟨a,b,c⟩:=zfz ls (zld acc x) ha.1; rw [List.foldl_cons]
    refine ⟨a,fun l=>?_,by rw [List.length_cons]; have:=ha.2.2; omega⟩
    rw [b,ha.2.1,List.mem_cons,or_assoc]
theorem zcl (ls:List (List Nat)):(zg4 ls).Nodup:=(zfz ls [] (by simp)).1
theorem zbT (ls:List (List Nat)) (l:List Nat):l ∈ zg4 ls↔l ∈ ls:=by
  have:=(zfz ls [] (by simp)).2.1 l
  unfold zg4
  simpa using this
theorem zh3 (ls:List (List Nat)):(zg4 ls).length≤ls.length:=by
  have:=(zfz ls [] (by simp)).2.2
  unfold zg4
  simpa using this
theorem zdE:∀ {l m:List (List Nat)},l.Nodup→(∀ x ∈ l,x ∈ m)→l.length≤m.length
  | [],m,_,_=>by simp
  | a :: l,m,hn,h=>by
    rw [List.nodup_cons] at hn; have ha:=h a List.mem_cons_self
    have ih:=zdE (l:=l) (m:=m.erase a) hn.2 fun x hx=>(List.mem_erase_of_ne (fun z:x=a=>hn.1 (by rw [← z]; exact hx))).mpr (h x (List.mem_cons_of_mem _ hx))
    rw [List.length_erase_of_mem ha] at ih
    have:=List.length_pos_of_mem ha
    rw [List.length_cons]; omega
def zpj (acc:List Tr) (k:Tr):List Tr:=if k.lab ∈ zaL acc then acc else acc ++ [k]
def ddp (ks:List Tr):List Tr:=ks.foldl zpj []
structure Ddp (ks acc:List Tr):Prop where
  nd:(zaL acc).Nodup
  mem:∀ k ∈ acc,k ∈ ks
  cov:∀ k ∈ ks,k.lab ∈ zaL acc
  len:acc.length≤ks.length
theorem zbc (a b:List Tr):zaL (a ++ b)=zaL a ++ zaL b:=List.map_append
theorem Ddp.add {ks acc:List Tr} (h:Ddp ks acc) (k:Tr):Ddp (ks ++ [k]) (zpj acc k):=by
  unfold zpj; split
  · rename_i e
    refine ⟨h.nd,fun x hx=>List.mem_append_left _ (h.mem x hx),fun x hx=>?_,by have:=h.len; simp; omega⟩
    rcases List.mem_append.mp hx with z | z
    · exact h.cov x z
    · rw [List.mem_singleton.mp z]; exact e
  · rename_i e
    refine ⟨?_,fun x hx=>?_,fun x hx=>?_,by have:=h.len; simp; omega⟩
    · rw [zbc,List.nodup_append]
      refine ⟨h.nd,by simp [zaL],fun a ha b hb z=>?_⟩
      have:b=k.lab:=by simpa [zaL] using hb
      exact e (by rw [← this,← z]; exact ha)
    · rcases List.mem_append.mp hx with z | z
      · exact List.mem_append_left _ (h.mem x z)
      · exact List.mem_append_right _ z
    · rw [zbc]
      rcases List.mem_append.mp hx with z | z
      · exact List.mem_append_left _ (h.cov x z)
      · rw [List.mem_singleton.mp z]; simp [zaL]
theorem zga (ks:List Tr):∀ i,i≤ks.length→Ddp (ks.take i) (ddp (ks.take i))
  | 0,_=>⟨by simp [ddp,zaL],fun k h=>by simp [ddp] at h,fun k h=>by simp at h,by simp [ddp]⟩
  | i+1,h=>by
    have e:ks.take (i+1)=ks.take i ++ [ks[i]'(by omega)]:=(List.take_append_getElem (by omega)).symm
    rw [e]
    have:=(zga ks i (by omega)).add (ks[i]'(by omega))
    unfold ddp at this ⊢
    rw [List.foldl_append]; exact this
theorem zeW (ks:List Tr):Ddp ks (ddp ks):=by
  have:=zga ks ks.length (Nat.le_refl _)
  rwa [List.take_length] at this
theorem zmF (ks:List Tr) (k:Tr):ddp (ks ++ [k])=zpj (ddp ks) k:=by
  unfold ddp; rw [List.foldl_append]; rfl
def zii (L:List (List Nat)) (acc:List Tr):List Tr:=L.filterMap fun l=>zb l acc
theorem zgt:∀ {L:List (List Nat)} {acc:List Tr},(∀ l ∈ L,l ∈ zaL acc)→zaL (zii L acc)=L
  | [],_,_=>rfl
  | l :: L,acc,h=>by
    obtain ⟨k,hk⟩:=zeM (h l List.mem_cons_self)
    have ih:=zgt (L:=L) (acc:=acc) fun l hl=>h l (List.mem_cons_of_mem _ hl)
    unfold zii at ih ⊢
    rw [List.filterMap_cons_some (f:=fun l=>zb l acc) hk]
    unfold zaL at ih ⊢
    rw [List.map_cons,ih,(zdm hk).2]
theorem zfN {L:List (List Nat)} {acc:List Tr} {k:Tr} (h:k ∈ zii L acc):k ∈ acc:=by
  obtain ⟨l,_,e⟩:=List.mem_filterMap.mp h; exact (zdm e).1
theorem zbY (ks:List Tr):(zaL ks).length=ks.length:=List.length_map _
inductive Wf (c:Nat):Nat→Tr→Prop where
  | mk {n:Nat} {l:List Nat} {ws:Pl} {ks:List Tr} (hk:∀ k ∈ ks,Wf c n k) (hp:∀ k ∈ ks,zaH k.lab=true) (hn:Ris (zaL ks)) (hl:ks.length≤c+1) (hw:ws.length≤3 * c+3):Wf c (n+1) (.node l ws ks)
theorem Wf.pos {c n:Nat} {t:Tr} (h:Wf c n t):∃ m,n=m+1:=by cases h; exact ⟨_,rfl⟩
theorem Wf.kid {c n:Nat} {t:Tr} (h:Wf c (n+1) t):∀ k ∈ t.kds,Wf c n k:=by cases h; assumption
theorem Wf.plab {c n:Nat} {t:Tr} (h:Wf c n t):∀ k ∈ t.kds,zaH k.lab=true:=by cases h; assumption
theorem Wf.ris {c n:Nat} {t:Tr} (h:Wf c n t):Ris (zaL t.kds):=by cases h; assumption
theorem Wf.nd {c n:Nat} {t:Tr} (h:Wf c n t):(zaL t.kds).Nodup:=h.ris.nodup
theorem Wf.few {c n:Nat} {t:Tr} (h:Wf c n t):t.kds.length≤c+1:=by cases h; assumption
theorem Wf.wfew {c n:Nat} {t:Tr} (h:Wf c n t):t.wds.length≤3 * c+3:=by cases h; assumption
theorem Wf.up {c n:Nat} {t:Tr} (h:Wf c n t):∀ {d m:Nat},c≤d→n≤m→Wf d m t:=by
  induction h with
  | @mk n l ws ks hk hp hn hl hw ih =>
    intro d m h1 h2
    obtain ⟨m',rfl⟩:∃ m',m=m'+1:=⟨m-1,by omega⟩
    exact .mk (fun k hk'=>ih k hk' h1 (by omega)) hp hn (by omega) (by omega)
theorem Wf.kw {c n:Nat} {t k:Tr} {l:List Nat} (h:Wf c (n+1) t) (e:zb l t.kds=some k):Wf c n k:=h.kid k (zdm e).1
theorem Wf.at {c:Nat}:∀ {p:Pl} {n:Nat} {t nd:Tr},Wf c n t→zS t p=some nd→p.length<n∧Wf c (n-p.length) nd
  | [],n,t,nd,h,e=>by
    obtain ⟨m,rfl⟩:=h.pos; simp only [zS,Option.some.injEq] at e; subst e
    exact ⟨by simp,by simpa using h⟩
  | l :: p,n,t,nd,h,e=>by
    obtain ⟨m,rfl⟩:=h.pos; simp only [zS] at e
    cases hk:zb l t.kds with
    | none=>rw [hk] at e; cases e
    | some k =>
      rw [hk] at e; obtain ⟨a,b⟩:=Wf.at (h.kw hk) e; rw [List.length_cons]
      refine ⟨by omega,?_⟩
      rw [show m+1-(p.length+1)=m-p.length by omega]
      exact b
theorem zcm {α:Type} {f g:α→Nat}:∀ {l:List α},(∀ x ∈ l,f x=g x)→(l.map f).sum=(l.map g).sum
  | [],_=>rfl
  | x :: l,h=>by
    rw [List.map_cons,List.map_cons,List.sum_cons,List.sum_cons,h x List.mem_cons_self,zcm fun y hy=>h y (List.mem_cons_of_mem _ hy)]
mutual
def cnt:Tr→Nat
  | .node _ _ ks=>1+znn ks
def znn:List Tr→Nat
  | []=>0
  | k :: ks=>cnt k+znn ks
end
theorem zkP:∀ ks:List Tr,znn ks=(ks.map cnt).sum
  | []=>by simp [znn]
  | k :: ks=>by simp [znn,zkP ks]
theorem zcP (t:Tr):cnt t=1+(t.kds.map cnt).sum:=by
  cases t with
  | node l ws ks=>simp [cnt,zkP,Tr.kds]
mutual
theorem zei:∀ (t:Tr) (p:Pl),(ze0 t p).length=cnt t
  | .node l ws ks,p=>by simp only [ze0,cnt,List.length_cons,zgr ks p]; omega
theorem zgr:∀ (ks:List Tr) (p:Pl),(zgs ks p).length=znn ks
  | [],p=>by simp [zgs,znn]
  | k :: ks,p=>by simp only [zgs,znn,List.length_append,zei k _,zgr ks p]
end
theorem zmR {c:Nat}:∀ {n:Nat} {t:Tr} {p q:Pl},Wf c n t→q ∈ ze0 t p→∃ r nd,q=p ++ r∧zS t r=some nd
  | 0,t,p,q,h,_=>by cases h
  | n+1,t,p,q,h,hq=>by
    rw [zfL] at hq
    rcases List.mem_cons.mp hq with rfl | hq
    · exact ⟨[],t,by simp,by simp [zS]⟩
    · obtain ⟨k,hk,hq⟩:=List.mem_flatMap.mp hq
      obtain ⟨r,nd,e,ea⟩:=zmR (h.kid k hk) hq
      exact ⟨k.lab :: r,nd,by rw [e]; simp,by simp only [zS,zcc h.nd hk]; exact ea⟩
theorem zg8 {α:Type} (f:α→Nat) (a b:List α):((a ++ b).map f).sum=(a.map f).sum+(b.map f).sum:=by rw [List.map_append,List.sum_append]
theorem zfC (f:Tr→Nat):∀ {ks' ks:List Tr},(zaL ks').Nodup→(∀ k ∈ ks',k ∈ ks)→(ks'.map f).sum≤(ks.map f).sum
  | [],ks,_,_=>by simp
  | k :: ks',ks,hn,h=>by
    unfold zaL at hn; rw [List.map_cons,List.nodup_cons] at hn; obtain ⟨a,b,e⟩:=List.append_of_mem (h k List.mem_cons_self)
    have ih:=zfC f (ks':=ks') (ks:=a ++ b) hn.2 fun x hx=>by
      have hm:=h x (List.mem_cons_of_mem _ hx); rw [e] at hm
      rcases List.mem_append.mp hm with z | z
      · exact List.mem_append_left _ z
      · rcases List.mem_cons.mp z with z | z
        · exact absurd (List.mem_map_of_mem hx) (by rw [z]; exact hn.1)
        · exact List.mem_append_right _ z
    rw [e,zg8,List.map_cons,List.sum_cons,List.map_cons,List.sum_cons]; rw [zg8] at ih; omega
theorem zg7 {α:Type}:∀ l:List α,(l.map fun _=>1).sum=l.length
  | []=>rfl
  | a :: l=>by rw [List.map_cons,List.sum_cons,zg7 l,List.length_cons]; omega
theorem zfB {α:Type} (f:α→Nat) {a b:List α} (h:a.Sublist b):(a.map f).sum≤(b.map f).sum:=by
  induction h with
  | slnil=>simp
  | cons x h ih=>rw [List.map_cons,List.sum_cons]; omega
  | cons_cons x h ih=>rw [List.map_cons,List.sum_cons,List.map_cons,List.sum_cons]; omega
structure KidsOk (ks ks':List Tr):Prop where
  ris:Ris (zaL ks')
  mem:∀ k ∈ ks',k ∈ ks
  len:ks'.length≤ks.length
  cnt:(ks'.map cnt).sum≤(ks.map cnt).sum
theorem KidsOk.of {ks ks':List Tr} (h1:Ris (zaL ks')) (h2:∀ k ∈ ks',k ∈ ks):KidsOk ks ks' :=
  ⟨h1,h2,by have:=zfC (fun _=>1) h1.nodup h2; rwa [zg7,zg7] at this,zfC _ h1.nodup h2⟩
theorem KidsOk.nd {ks ks':List Tr} (h:KidsOk ks ks'):(zaL ks').Nodup:=h.ris.nodup
theorem zoE {ks:List Tr} {L:List (List Nat)} (h1:Ris L) (h2:∀ l,l ∈ L→l ∈ zaL (ddp ks)):KidsOk ks (zii L (ddp ks)):=by
  refine .of ?_ fun k hk=>(zeW ks).mem k (zfN hk)
  rw [zgt h2]; exact h1
def zcR (ks:List Tr):List Tr:=zii (ze1 (zaL (ddp ks))) (ddp ks)
theorem zem {ks:List Tr} (hp:∀ k ∈ ks,zaH k.lab=true):KidsOk ks (zcR ks):=by
  refine zoE (zev (zeW ks).nd fun l hl=>?_) fun l hl=>(zcr _ _).mp hl
  obtain ⟨k,hk,rfl⟩:=List.mem_map.mp hl; exact hp k ((zeW ks).mem k hk)
theorem zeO {ks:List Tr} (hn:(zaL ks).Nodup) {x:Tr}:x ∈ zcR ks↔x ∈ ks:=by
  constructor
  · intro h
    exact (zeW ks).mem x (zfN h)
  · intro h
    have hl:=(zeW ks).cov x h; obtain ⟨k,hk⟩:=zeM hl; obtain ⟨k1,k2⟩:=zdm hk; have e1:=zcc hn ((zeW ks).mem k k1); have e2:=zcc hn h; rw [k2,e2] at e1; rw [← Option.some.inj e1] at hk; exact List.mem_filterMap.mpr ⟨x.lab,(zcr _ _).mpr hl,hk⟩
def zcs:Tr→Pl→Pl→List Tr→Tr
  | t,[],ws,ks=>.node t.lab ws ks
  | t,l :: p,ws,ks=>.node t.lab t.wds (t.kds.map fun k=>if k.lab=l then zcs k p ws ks else k)
theorem zdg (t:Tr) (p ws:Pl) (ks:List Tr):(zcs t p ws ks).lab=t.lab:=by cases p <;> simp [zcs,Tr.lab]
theorem zgA {l:List Nat} {p ws:Pl} {ks:List Tr} (r:List Tr):zaL (r.map fun k=>if k.lab=l then zcs k p ws ks else k)=zaL r:=by
  unfold zaL; rw [List.map_map]
  refine List.map_congr_left fun k _=>?_
  simp only [Function.comp]; split
  · exact zdg _ _ _ _
  · rfl
theorem zf1 {c:Nat} {ws:Pl} {ks:List Tr}:∀ {p:Pl} {n:Nat} {t nd:Tr},Wf c n t→zS t p=some nd→Wf c (n-p.length) (.node nd.lab ws ks)→Wf c n (zcs t p ws ks)
  | [],n,t,nd,h,e,h'=>by
    simp only [zS,Option.some.injEq] at e; subst e
    simpa [zcs] using h'
  | l :: p,n,t,nd,h,e,h'=>by
    obtain ⟨m,rfl⟩:=h.pos; simp only [zS] at e
    cases hk:zb l t.kds with
    | none=>rw [hk] at e; cases e
    | some k =>
      rw [hk] at e
      rw [List.length_cons,show m+1-(p.length+1)=m-p.length by omega] at h'
      have hm:=zf1 (h.kw hk) e h'; simp only [zcs]
      have each:∀ k' ∈ (t.kds.map fun k=>if k.lab=l then zcs k p ws ks else k),Wf c m k'∧zaH k'.lab=true:=by
        intro k' hk'; obtain ⟨k0,h0,rfl⟩:=List.mem_map.mp hk'
        by_cases e0:k0.lab=l
        · have:k0=k:=by
            have:=zcc h.nd h0
            rw [e0,hk] at this; exact (Option.some.inj this).symm
          rw [if_pos e0]
          exact ⟨by rw [this]; exact hm,by rw [zdg]; exact h.plab k0 h0⟩
        · rw [if_neg e0]
          exact ⟨h.kid k0 h0,h.plab k0 h0⟩
      exact .mk (fun k' h=>(each k' h).1) (fun k' h=>(each k' h).2) (by rw [zgA]; exact h.ris) (by rw [List.length_map]; exact h.few) h.wfew
theorem zju {l:List Nat} {f g:Tr→Nat}:∀ {ks:List Tr} {k:Tr},(zaL ks).Nodup→zb l ks=some k→(ks.map fun k'=>if k'.lab=l then f k' else g k').sum+g k=(ks.map g).sum+f k
  | k' :: ks,k,hn,h=>by
    unfold zaL at hn; rw [List.map_cons,List.nodup_cons] at hn; unfold zb at h; rw [List.find?_cons] at h; simp only [List.map_cons,List.sum_cons]
    by_cases e:k'.lab=l
    · simp only [e,decide_true,Option.some.injEq] at h
      subst h
      have:(ks.map fun k'=>if k'.lab=l then f k' else g k').sum=(ks.map g).sum:=zcm fun x hx=>by
        have:¬ x.lab=l:=fun z=>hn.1 (by rw [e,← z]; exact List.mem_map_of_mem hx)
        simp [this]
      simp only [e,if_true,this]; omega
    · simp only [e,decide_false] at h
      have:=zju (f:=f) (g:=g) (ks:=ks) hn.2 (show zb l ks=some k from h)
      simp only [e,if_false]; omega
theorem zel {c:Nat} {ws:Pl} {ks:List Tr}:∀ {p:Pl} {n:Nat} {t nd:Tr},Wf c n t→zS t p=some nd→cnt (zcs t p ws ks)+(nd.kds.map cnt).sum=cnt t+(ks.map cnt).sum
  | [],n,t,nd,h,e=>by
    simp only [zS,Option.some.injEq] at e; subst e; rw [zcP t,zcP (zcs _ _ _ _)]; simp only [zcs,Tr.kds]; omega
  | l :: p,n,t,nd,h,e=>by
    obtain ⟨m,rfl⟩:=h.pos; simp only [zS] at e
    cases hk:zb l t.kds with
    | none=>rw [hk] at e; cases e
    | some k =>
      rw [hk] at e; have ih:=zel (ws:=ws) (ks:=ks) (h.kw hk) e
      have s1:=zju (f:=fun k=>cnt (zcs k p ws ks)) (g:=cnt) h.nd hk
      rw [zcP t,zcP (zcs _ _ _ _)]; simp only [zcs,zci]
      rw [List.map_map,show (cnt ∘ fun k=>if k.lab=l then zcs k p ws ks else k)=fun k=>if k.lab=l then cnt (zcs k p ws ks) else cnt k from funext fun k=>by simp only [Function.comp]; split <;> rfl]
      omega
theorem zfM:∀ (L:List (List Nat)) (acc:List Tr),(zaL (zii L acc)).Sublist L
  | [],acc=>.slnil
  | l :: L,acc=>by
    unfold zii; rw [List.filterMap_cons]
    cases e:zb l acc with
    | none=>exact .cons _ (zfM L acc)
    | some k =>
      unfold zaL; rw [List.map_cons,(zdm e).2]; exact .cons_cons _ (zfM L acc)
def far:Nat→Tr→Tr→Nat
  | 0,_,_=>0
  | n+1,t,u=>(if t.wds=u.wds then 0 else 1)+(t.kds.map fun k=>match zb k.lab u.kds with
      | none=>1
      | some k'=>min 2 (far n k k')).sum+(u.kds.map fun k=>match zb k.lab t.kds with
      | none=>1
      | some _=>0).sum
def kd (n:Nat) (t u:Tr) (l:List Nat):Nat:=match zb l t.kds,zb l u.kds with
  | some k,some k'=>min 2 (far n k k')
  | _,_=>1
theorem zgi {f:List Nat→Nat}:∀ {l:List (List Nat)} {a:List Nat},a ∈ l→(l.map f).sum=f a+((l.erase a).map f).sum
  | b :: l,a,h=>by
    by_cases e:b=a
    · subst e
      simp
    · rw [List.erase_cons_tail (by simpa using e)]
      rcases List.mem_cons.mp h with z | z
      · exact absurd z.symm e
      · rw [List.map_cons,List.sum_cons,List.map_cons,List.sum_cons,zgi z]
        omega
theorem zjv {f:List Nat→Nat}:∀ {l m:List (List Nat)},l.Nodup→m.Nodup→(∀ x,x ∈ l↔x ∈ m)→(l.map f).sum=(m.map f).sum
  | [],m,_,_,h=>by
    cases m with
    | nil=>rfl
    | cons b m=>exact absurd ((h b).mpr List.mem_cons_self) (by simp)
  | a :: l,m,hl,hm,h=>by
    have ha:a ∈ m:=(h a).mp List.mem_cons_self
    rw [List.nodup_cons] at hl
    rw [zgi ha,List.map_cons,List.sum_cons,zjv hl.2 (hm.erase a) fun x=>?_]
    rw [List.Nodup.mem_erase_iff hm]; constructor
    · intro hx
      exact ⟨fun z=>hl.1 (z ▸ hx),(h x).mp (List.mem_cons_of_mem _ hx)⟩
    · rintro ⟨h1,h2⟩
      rcases List.mem_cons.mp ((h x).mpr h2) with z | z
      · exact absurd z h1
      · exact z
def uni (t u:Tr):List (List Nat):=zaL t.kds ++ (zaL u.kds).filter fun l=>decide (l ∉ zaL t.kds)
theorem zg6 {t u:Tr} {l:List Nat}:l ∈ uni t u↔l ∈ zaL t.kds∨l ∈ zaL u.kds:=by
  unfold uni; rw [List.mem_append,List.mem_filter]; simp only [decide_eq_true_eq]
  by_cases h:l ∈ zaL t.kds
  · simp [h]
  · simp [h]
theorem zer {t u:Tr} (h1:(zaL t.kds).Nodup) (h2:(zaL u.kds).Nodup):(uni t u).Nodup:=by
  unfold uni; rw [List.nodup_append]
  refine ⟨h1,h2.sublist List.filter_sublist,fun a ha b hb e=>?_⟩
  have:=(List.mem_filter.mp hb).2
  simp only [decide_eq_true_eq] at this; exact this (e ▸ ha)
theorem ze8 {f:List Nat→Nat} {p:List Nat→Bool}:∀ l:List (List Nat),((l.filter p).map f).sum=(l.map fun x=>if p x=true then f x else 0).sum
  | []=>rfl
  | a :: l=>by
    rw [List.filter_cons,List.map_cons,List.sum_cons,← ze8 l]
    cases p a <;> simp
theorem zky {n:Nat} {t u:Tr} (h1:(zaL t.kds).Nodup) (h2:(zaL u.kds).Nodup):far (n+1) t u=(if t.wds=u.wds then 0 else 1)+((uni t u).map (kd n t u)).sum:=by
  unfold uni; rw [List.map_append,List.sum_append,ze8]; unfold zaL; rw [List.map_map,List.map_map]; simp only [far]; rw [Nat.add_assoc]
  congr 1
  congr 1
  · refine zcm fun k hk=>?_
    simp only [Function.comp,kd,zcc h1 hk]
    cases zb k.lab u.kds <;> rfl
  · refine zcm fun k hk=>?_
    simp only [Function.comp]
    cases e:zb k.lab t.kds with
    | none =>
      have:k.lab ∉ List.map Tr.lab t.kds:=zc3.mp e
      simp [this,kd,e]
    | some k' =>
      have:k.lab ∈ List.map Tr.lab t.kds:=by
        have:=zdm e
        rw [← this.2]; exact List.mem_map_of_mem this.1
      simp [this]
theorem zji {n:Nat} {t u:Tr} {L:List (List Nat)} (h1:(zaL t.kds).Nodup) (h2:(zaL u.kds).Nodup) (hL:L.Nodup) (hm:∀ l,l ∈ L↔l ∈ zaL t.kds∨l ∈ zaL u.kds):far (n+1) t u=(if t.wds=u.wds then 0 else 1)+(L.map (kd n t u)).sum:=by
  rw [zky h1 h2,zjv (zer h1 h2) hL fun x=>by rw [zg6,hm]]
theorem zmw {c d:Nat}:∀ {n:Nat} {t u:Tr},Wf c n t→Wf d n u→far n t u=far n u t
  | 0,t,u,h,_=>by cases h
  | n+1,t,u,h1,h2=>by
    rw [zky h1.nd h2.nd,zji h2.nd h1.nd (zer h1.nd h2.nd) fun l=>by rw [zg6,Or.comm]]
    congr 1
    · by_cases e:t.wds=u.wds
      · rw [if_pos e,if_pos e.symm]
      · rw [if_neg e,if_neg (fun z=>e z.symm)]
    · congr 1
      refine List.map_congr_left fun l _=>?_
      unfold kd
      cases e1:zb l t.kds with
      | none=>cases zb l u.kds <;> rfl
      | some k=>cases e2:zb l u.kds with
        | none=>rfl
        | some k'=>simp only [zmw (h1.kw e1) (h2.kw e2)]
theorem zmx {c:Nat}:∀ {n:Nat} {t:Tr},Wf c n t→far n t t=0
  | 0,t,h=>by cases h
  | n+1,t,h=>by
    simp only [far,if_true,Nat.zero_add]
    have s1:(t.kds.map fun k=>match zb k.lab t.kds with
      | none=>1
      | some k'=>min 2 (far n k k')).sum=(t.kds.map fun _=>0).sum:=zcm fun k hk=>by
        simp only [zcc h.nd hk,zmx (h.kid k hk)]; rfl
    have s2:(t.kds.map fun k=>match zb k.lab t.kds with
      | none=>1
      | some _=>0).sum=(t.kds.map fun _=>0).sum:=zcm fun k hk=>by
        simp only [zcc h.nd hk]
    rw [s1,s2]
    have:∀ l:List Tr,(l.map fun _=>0).sum=0:=fun l=>by induction l <;> simp_all
    rw [this]
theorem zko {c:Nat} {l:List Nat} {ws:Pl} (h:ws.length≤3 * c+3):Wf c 1 (.node l ws []):=.mk (fun k hk=>nomatch hk) (fun k hk=>nomatch hk) .nil (by simp) h
theorem zhz {c n:Nat} {l:List Nat} {ws:Pl} {ks ks':List Tr} (h:KidsOk ks ks') (hk:∀ k ∈ ks,Wf c n k) (hp:∀ k ∈ ks,zaH k.lab=true) (hl:ks.length≤c+1) (hw:ws.length≤3 * c+3):Wf c (n+1) (.node l ws ks') :=
  .mk (fun k hk'=>hk k (h.mem k hk')) (fun k hk'=>hp k (h.mem k hk')) h.ris (by have:=h.len; omega) hw
theorem ziq {l:List Nat} {ws:Pl} (ks:List Tr):cnt (.node l ws ks)=1+(ks.map cnt).sum:=by rw [zcP]; rfl
theorem zp2 {c:Nat} {t nd k:Tr} {p:Pl} {ks':List Tr} (h:Wf c 9 t) (hn:zS t p=some nd) (h6:p.length<6) (hk:Wf 1 3 k) (hp:zaH k.lab=true) (ok:KidsOk (nd.kds ++ [k]) ks'):Wf (c+1) 9 (zcs t p nd.wds ks'):=by
  obtain ⟨a,b⟩:=h.at hn; obtain ⟨m,hm⟩:=b.pos
  refine zf1 (h.up (by omega) (Nat.le_refl _)) hn ?_
  rw [hm] at b ⊢
  refine zhz ok (fun k' hk'=>?_) (fun k' hk'=>?_) (by have:=b.few; simp; omega) (by have:=b.wfew; omega)
  · rcases List.mem_append.mp hk' with z | z
    · exact (b.kid k' z).up (by omega) (Nat.le_refl _)
    · rw [List.mem_singleton.mp z]; exact hk.up (by omega) (by omega)
  · rcases List.mem_append.mp hk' with z | z
    · exact b.plab k' z
    · rw [List.mem_singleton.mp z]; exact hp
theorem znR {c:Nat} {t nd k:Tr} {p:Pl} {ks':List Tr} {ws:Pl} (h:Wf c 9 t) (hn:zS t p=some nd) (ok:KidsOk (nd.kds ++ [k]) ks'):cnt (zcs t p ws ks')≤cnt t+cnt k:=by
  have:=zel (ws:=ws) (ks:=ks') h hn
  have:=ok.cnt
  rw [zg8] at this; simp only [List.map_cons,List.map_nil,List.sum_cons,List.sum_nil] at this; omega
theorem zqk {c:Nat} {t nd:Tr} {p:Pl} {ks':List Tr} (h:Wf c 9 t) (hn:zS t p=some nd) (sb:ks'.Sublist nd.kds):Wf (c+1) 9 (zcs t p nd.wds ks'):=by
  obtain ⟨a,b⟩:=h.at hn; obtain ⟨m,hm⟩:=b.pos
  refine zf1 (h.up (by omega) (Nat.le_refl _)) hn ?_
  rw [hm] at b ⊢
  exact .mk (fun k hk=>(b.kid k (sb.subset hk)).up (by omega) (Nat.le_refl _)) (fun k hk=>b.plab k (sb.subset hk)) (List.Pairwise.sublist (sb.map _) b.ris) (by have:=b.few; have:=sb.length_le; omega) (by have:=b.wfew; omega)
theorem zof {c:Nat} {t nd:Tr} {p ws:Pl} {ks':List Tr} (h:Wf c 9 t) (hn:zS t p=some nd) (sb:ks'.Sublist nd.kds):cnt (zcs t p ws ks')≤cnt t:=by
  have:=zel (ws:=ws) (ks:=ks') h hn
  have:=zfB cnt sb
  omega
theorem zpp {c:Nat} {t nd:Tr} {p ws:Pl} (h:Wf c 9 t) (hn:zS t p=some nd) (hw:ws.length≤nd.wds.length+3∨ws.length≤3):Wf (c+1) 9 (zcs t p ws nd.kds):=by
  obtain ⟨a,b⟩:=h.at hn; obtain ⟨m,hm⟩:=b.pos
  refine zf1 (h.up (by omega) (Nat.le_refl _)) hn ?_
  rw [hm] at b ⊢
  exact .mk (fun k hk=>(b.kid k hk).up (by omega) (Nat.le_refl _)) (fun k hk=>b.plab k hk) b.ris (by have:=b.few; omega) (by have:=b.wfew; omega)
end M71
namespace PySem
section
variable {prog:Program} {w:World} {A:Around} {E:Value→Shared→Prop} {s:Shared} {dd:Addr} {ob:Obj} {ens:Array DictEntry} {tick:Nat}
open PyProof.Rows in
theorem zhV {Q:List Value→Shared→Prop} (calm:A.handled=none) (hsys:(dd == sysModules)=false) (hob:s.heap.get? dd=some ob) (hex:ob.ExactDict) (hdt:ob.data=.dict ens tick) (few:ens.size≤sizeLine)
    (fin:∀ h2 tk acc,(∀ b o,s.heap.get? b=some o→h2.get? b=some o)→ItemsOf (fun i v=>∃ e,ens[i]?=some e∧v=e.key) acc ens.size→Q acc.toList { s with heap:=h2,toks:=tk }) :
    wpAny (model prog w) A (collect (.ref dd)) Q E s:=by
  unfold collect; refine wpAny_bind (wpAny_runValue (codeAny_builtin entry_proto_collect' ?_))
  show wpAny _ _ (do again (.builtin "list.__iadd__" ⟨[← newList [],.ref dd],[]⟩)) _ _ s
  refine wpAny_bind (wpAny_newList (wpAny_pure ⟨Code.quiet_builtin _ (by decide +kernel),codeAny_builtin entry_list_iadd' ?_⟩))
  show wpAny _ _ (Builtin.List.listExtendWith (.ref s.heap.objs.size) (.ref dd) (.ref s.heap.objs.size)) _ _ { s with heap:=s.heap.push (seqObj "list" #[] 0) }
  have hne:s.heap.objs.size≠dd:=Ne.symm (Nat.ne_of_lt (Heap.lt_size hob))
  refine zfo (prog:=prog) (w:=w) (A:=A) (R:=fun r s'=>match r with
      | Except.ok (Flow.ret v) => wpAny (model prog w) A (match v with
            | Value.ref a=>do
              let __do_lift ← load a
              match __do_lift.data with
                | Data.seq xs epoch=>pure xs.toList
                | x=>unsupported "internal:collect"
            | x=>unsupported "internal:collect") Q E s'
      | Except.ok a=>False
      | Except.error e=>E e s') (c₀:=0) (s:={ s with heap:=s.heap.push (seqObj "list" #[] 0) }) calm hsys (Heap.get?_push_of_some _ hob) hex hdt few hne (Heap.get?_push_size _ rfl) fun h2 tk acc c2 kp hS hit=>?_
  show wpAny (model prog w) A (do
      let o ← load s.heap.objs.size
      match o.data with
      | .seq xs _=>pure xs.toList
      | _=>unsupported "internal:collect") Q E { s with heap:=h2,toks:=tk }
  refine wpAny_bind (wpAny_load hS ?_)
  show wpAny _ _ (pure acc.toList) Q E _
  exact wpAny_pure (fin h2 tk acc (fun b o e=>kp b o (Nat.ne_of_lt (Heap.lt_size e)) (Heap.get?_push_of_some _ e)) hit)
end
end PySem
namespace L2
open PySem PySem.Spec PyProof.Rows PySem.W
theorem zj7 {P:Program} {w:World} {es:List DictEntry} {vs:List (Key × Value)} (p:Pairs (zbb P w) es vs):∀ (i:Nat) kv,vs[i]?=some kv→∃ e,es[i]?=some e∧zbi (kV kv.1) e.key:=by
  induction p with
  | nil=>intro i kv h; cases i <;> cases h
  | @cons e kv0 es vs h1 h2 t ih =>
    intro i kv h
    cases i with
    | zero =>
      cases h; refine ⟨e,rfl,?_⟩
      rcases za2 (show zhJ kv0.1 e.key=true from h1) with ⟨j,tk,e1,e2⟩ | ⟨x,tk,e1,e2⟩
      · rw [e1,e2]; exact ⟨tk,rfl⟩
      · rw [e1,e2]; exact ⟨tk,rfl⟩
    | succ i=>exact ih i kv (by simpa using h)
section
variable {X:Cx} {pins:List (Addr × Obj)} {σ:St} {H:Hp} {s:Shared} {a:Addr}
theorem Inv.keysK {kvs:List (Key × V)} (I:Inv X pins σ H s) (e:Rd H a (.dK kvs)):kvs.length≤sizeLine∧(a == sysModules)=false∧∃ (o:Obj) (es:Array DictEntry) (ep:Nat),s.heap.get? a=some o∧o.ExactDict∧o.data=.dict es ep∧es.size=kvs.length ∧
    ∀ (acc:Array Value),ItemsOf (fun i v=>∃ e,es[i]?=some e∧v=e.key) acc es.size→za3 (kvs.map fun p=>kV p.1) acc.toList:=by
  obtain ⟨z,hd,vs,rel,o,es,ep,ho,hx,hdat,_,pr,_⟩:=zkB I.hok e; have hl:=rel.length
  have hs:es.size=kvs.length:=by
    have:=pr.length
    rw [Array.length_toList] at this; omega
  refine ⟨z,hd,o,es,ep,ho,hx,hdat,hs,fun acc hit=>?_⟩
  obtain ⟨hsz,hit⟩:=hit
  refine PL.paired_of (by simp; omega) fun i x v h1 h2=>?_
  rw [List.getElem?_map] at h1
  cases hk:kvs[i]? with
  | none=>rw [hk] at h1; cases h1
  | some kv =>
    rw [hk] at h1; cases h1
    have hi:i<vs.length:=by rw [← hl]; exact (List.getElem?_eq_some_iff.mp hk).1
    have hq:=PL.paired_get i rel hk (List.getElem?_eq_getElem hi); obtain ⟨en,he,hr⟩:=zj7 pr i _ (List.getElem?_eq_getElem hi); rw [Array.getElem?_toList] at h2 he; obtain ⟨en',he',rfl⟩:=hit i v h2; rw [he] at he'; cases he'
    show zbi (kV kv.1) en.key
    rw [hq.1]; exact hr
theorem zjj (hc:X.calm=true):zc9 X (.type "list") (fun xs H Q=>∃ a kvs,xs=[.ref a]∧Rd H a (.dK kvs)∧∀ l,H l=none→Q (.ref l) (upd H l (.lst (kvs.map fun p=>kV p.1)))):=by
  intro pins s σ H xs us Q I r h; obtain ⟨a,kvs,rfl,e,q⟩:=h; obtain ⟨u,rfl,rx⟩:=zdj r; cases rx; obtain ⟨z,hd,o,es,ep,ho,hx,hdat,hs,hk⟩:=I.keysK e
  refine zl4 (I.ok.hd hc) hd ho hx hdat (by rw [hs]; exact z) fun h2 tk acc c2 kp e2 hit=>?_
  have hys:=hk acc hit
  have I2:=I.laid (t':=tk) (o:=.lst (kvs.map fun p=>kV p.1)) kp (Nat.le_refl _) (show zbM X.prog X.w _ h2 _ (.lst (kvs.map fun p=>kV p.1)) from ⟨by rw [List.length_map]; exact z,acc.toList,c2,hys,by simpa using e2⟩)
  exact ⟨.ref s.heap.objs.size,_,I2,rfl,q _ (I.hok.fresh (Nat.le_refl _))⟩
theorem zsE (hu:X.A.units+1<cLine):IxR X (fun x y H Q=>∃ a v,x=.ref a∧zs8 H a y (some v)∧Q v H):=by
  intro value slice pins s σ H x y v u Q I rx ry h hs; obtain ⟨a,w,rfl,g,q⟩:=h; cases rx
  exact tail_any (zhS I g) PySem.F.slot_dict_getitem.lookup (zkH hu I g ry fun w' s3 I3 rw'=>⟨w,H,I3,rw',q⟩) hs
theorem zmG {k:Key} {v:V} {u r:Value} {kvs:List (Key × V)} {A:Around} {E:Value→Shared→Prop} {Q:Value→Shared→Prop} (I:Inv X pins σ H s) (e:H a=some (.dK kvs)) (ry:zbi (kV k) u) (rv:zbi v r) (hl:kvs.length<sizeLine)
    (h1:∀ v' w' s',ze6 kvs k=some v'→Inv X pins σ H s'→zbi v' w'→Q w' s') (h2:ze6 kvs k=none→∀ s',Inv X pins σ (upd H a (.dK (kvs ++ [(k,v)]))) s'→Q r s') :
    wpAny (model X.prog X.w) A (call (.builtin "dict.setdefault") [.ref a,u,r]) Q E s:=by
  obtain ⟨z,hd,vs,rel,dd⟩:=zqY I.hok e; have rk:=rel.val k
  refine call_meetsIn PySem.F.slot_dict_setdefault dd.typeIs PySem.F.entry_dict_setdefault (PySem.F.args_dict_setdefault_3 _ _ _) (kt_meets_setdefault (zbb X.prog X.w) a (zmo ry) hd r) ⟨vs,dd,by rw [← rel.length]; exact z,fun v' hv'=>?_,fun hn h' dd' hs=>?_⟩
  · rw [hv'] at rk
    cases hv:ze6 kvs k with
    | none=>rw [hv] at rk; exact rk.elim
    | some v''=>rw [hv] at rk; exact h1 v'' v' _ hv (I.tok _) rk
  · rw [hn] at rk
    cases hv:ze6 kvs k with
    | some v''=>rw [hv] at rk; exact rk.elim
    | none =>
      have he:∃ q,h'.get? a=some q:=let ⟨q,_,_,hq,_⟩:=dd'; ⟨q,hq⟩
      have ep:zie kvs k v=kvs ++ [(k,v)]:=by
        unfold zie; rw [zfy,hv]; rfl
      have rp:=rel.put k rv; rw [ep] at rp
      exact h2 hv _ (zhT I (by rw [e]; exact True.intro) hs he (znj (by rw [List.length_append,List.length_singleton]; omega) hd rp dd'))
end
def zlk (td ty tx:TE):TE:=fun σ H Q=>td σ H fun x H1=>∃ a,x=.ref a∧IsD H1 a∧ty σ H1 fun y H2=>tx σ H2 fun z H3=>∃ kvs k,H3 a=some (.dK kvs)∧y=kV k∧kvs.length<sizeLine ∧
  (∀ v,ze6 kvs k=some v→Q v H3)∧(ze6 kvs k=none→Q z (upd H3 a (.dK (kvs ++ [(k,z)]))))
section
variable {X:Cx} {o e f:Expr} {apos cpos:Pos} {td ty tx:TE}
theorem zi3 (ho:PE X o td) (he:PE X e ty) (hf:PE X f tx) (m:M2 X o "setdefault" apos e f cpos):PE X (.Call (.Attribute o "setdefault" apos) [e,f] [] cpos) (zlk td ty tx):=by
  intro pins s σ H Q I h
  refine wpAny_Call_method m.base m.few m.line PySem.F.plainAttrs_dict PySem.F.slot_dict_setdefault PySem.F.type_dict_setdefault (thn (ho pins s σ H _ I h) fun u s1 ⟨x,H1,I1,rx,a,ex,d,q1⟩=>?_)
  subst ex
  obtain rfl:u=Value.ref a:=rx
  obtain ⟨t1,t2,_⟩:=zqN I1 d; refine ⟨t1,t2,?_⟩; rw [m.trees]
  refine Calls.callWith_builtin rfl (Calls.evalArgs_plain (Calls.spliced_cons (thn (he pins s1 σ H1 _ I1 q1) fun iv s2 ⟨y,H2,I2,ry,q2⟩ =>
    Calls.spliced_cons (thn (hf pins s2 σ H2 _ I2 q2) fun fv s3 ⟨z,H3,I3,rz,kvs,k,ea,ey,hl,q3,q4⟩=>Calls.spliced_nil ?_))))
  subst ey
  exact zmG I3 ea ry rz hl (fun v' w' s4 hv I4 rw'=>⟨v',H3,I4,rw',q3 v' hv⟩) fun hv s4 I4=>⟨z,_,I4,rz,q4 hv⟩
end
theorem zki {X:Cx}:MtR X "str.lstrip" (fun x xs H Q=>∃ z y,x=.str z∧xs=[.str y]∧z.length≤sizeLine∧Q (.str (Txt.lstripChars z y)) H):=by
  intro pins s σ H x xs v us Q I rx rs h; obtain ⟨z,y,rfl,rfl,hz,q⟩:=h; obtain ⟨t,rfl⟩:=rx; obtain ⟨u,rfl,t',rfl⟩:=zdj rs
  exact PySem.SC.lstripChars (fun t' k=>⟨.str _,H,I.tok _,⟨_,rfl⟩,q⟩) hz
end L2
namespace L2
open PySem PySem.Spec PyProof.Rows PySem.W
section
variable {X:Cx} {pins:List (Addr × Obj)} {σ:St} {H:Hp} {s:Shared} {h':Heap}
theorem zgV {k:Nat} {f:Addr} {fd:FuncData} {ps:List Str} {sp:Sp} {u:Value} {xs:List V} {vs:List Value} {Q:VK} {E':Value→Shared→Prop} (F:FnOk X.prog X.w X.K X.mg X.base CX0 k f fd ps sp) (hr:Room (k+2) X.A) (hb:zdL X.K fd ps []) (h64:xs.length<64) (rv:za3 xs vs)
    (col:∀ {Q':List Value→Shared→Prop} {E2:Value→Shared→Prop},(∀ s1,Inv X pins σ H s1→Q' vs s1)→wpAny (model X.prog X.w) X.A.in1 (collect u) Q' E2 s)
    (h:znu sp (fun ks H'=>∃ lt,So.Ord lt∧zg3 X ks H' lt∧∀ p,H' p=none→Q (.ref p) (upd H' p (.lst (zcq lt xs)))) xs [] H) :
    wpAny (model X.prog X.w) X.A (call (.builtin "sorted") [u] [(Str.ofString "key",.ref f)]) (EP X pins σ Q) E' s:=by
  have hlen:=rv.length
  have h64':vs.length<64:=by omega
  refine call_function_entry_kw kind_sorted plain_sorted entry_sorted (ksk_s1 _ _) ?_
  unfold Builtin.«sorted»
  refine wpAny_bind (m:=checkCount "sorted" 1 1 _) (wpAny_pure ?_)
  refine wpAny_bind (col fun s1 I=>?_)
  refine wpAny_bind (wpAny_newList ?_ (by rw [sizeLine_eq]; omega))
  have hoL:(s1.heap.push (seqObj "list" vs.toArray 0)).get? s1.heap.objs.size=some (seqObj "list" vs.toArray 0):=Heap.get?_push_size _ rfl
  have hsz2:(s1.heap.push (seqObj "list" vs.toArray 0)).objs.size=s1.heap.objs.size+1:=size_push' _ _
  have keep:∀ b o,s1.heap.get? b=some o→(s1.heap.push (seqObj "list" vs.toArray 0)).get? b=some o:=fun b o q=>Heap.get?_push_of_some _ q
  show wpAny _ _ _ _ _ { s1 with heap:=s1.heap.push (seqObj "list" vs.toArray 0) }
  refine wpAny_bind (wpAny_holding (wpAny_call_entry_kw slot_list_sort ⟨_,hoL,rfl⟩ entry_list_sort ?body (ksk_l1 _ _)))
  case body =>
    show wpAny (model X.prog X.w) X.A.in1.in1 (Builtin.«list.sort» ⟨[.ref s1.heap.objs.size],[(Str.ofString "key",.ref f)]⟩) _ _ _
    rw [ksk_t1]
    refine So.srt_tree (s:={ s1 with heap:=s1.heap.push (seqObj "list" vs.toArray 0) }) hoL h64' fun e1 h' keep' size' hk0 ha0=>?_
    dsimp only at keep' size' hk0
    rw [hsz2] at size' hk0
    have hDk:s1.heap.objs.size+1+1≠s1.heap.objs.size:=by omega
    have hD0:s1.heap.objs.size≤s1.heap.objs.size:=Nat.le_refl _
    have hK0:s1.heap.objs.size≤s1.heap.objs.size+1+1:=by omega
    have fD:=I.fpOk (H':=H) hD0 (I.hok.fresh hD0); have fK:=I.fpOk (H':=H) hK0 (I.hok.fresh hK0); rw [hsz2]; generalize hkS:s1.heap.objs.size+1+1=kS at hk0 hDk fK; generalize hDD:s1.heap.objs.size=D at ha0 hDk fD
    have I0:Inv X pins σ H { s1 with heap:=h' }:=I.kept (t':=s1.toks) fun b u q=>keep' b u (fun z=>absurd (Heap.lt_size q) (by rw [z]; exact Nat.lt_irrefl _)) (keep b u q)
    have pin2:∀ {H':Hp} {s':Shared} {ks:List Value} {e:Nat},Inv X pins σ H' s'→s'.heap.get? kS=some (seqObj "list" ks.toArray e)→s'.heap.get? D=some (seqObj "list" #[] e1)→H' kS=none→H' D=none→Inv X ((kS,seqObj "list" ks.toArray e) :: (D,seqObj "list" #[] e1) :: pins) σ H' s':=fun I' g1 g2 n1 n2 =>
      I'.pins_of fun p hp=>by
        rcases List.mem_cons.mp hp with rfl | hp
        · exact ⟨g1,n1,fK.2.1,fK.2.2.1,fun v z=>by cases z⟩
        · rcases List.mem_cons.mp hp with rfl | hp
          · exact ⟨g2,n2,fD.2.1,fD.2.2.1,fun v z=>by cases z⟩
          · exact I'.pin p (List.mem_append_right _ hp)
    have unpin:∀ {H':Hp} {s':Shared} {ks:List Value} {e:Nat},Inv X ((kS,seqObj "list" ks.toArray e) :: (D,seqObj "list" #[] e1) :: pins) σ H' s'→Inv X pins σ H' s'∧(s'.heap.get? kS=some (seqObj "list" ks.toArray e)∧H' kS=none)∧(s'.heap.get? D=some (seqObj "list" #[] e1)∧H' D=none):=fun I'=>by
      have p1:=I'.pin (kS,_) (List.mem_append_right _ (.head _)); have p2:=I'.pin (D,_) (List.mem_append_right _ (.tail _ (.head _)))
      exact ⟨I'.pins_of fun p hp=>I'.pin p (List.mem_append_right _ (.tail _ (.tail _ hp))),⟨p1.1,p1.2.1⟩,⟨p2.1,p2.2.1⟩⟩
    have fin3:∀ {H':Hp} {s':Shared} {ks:List Value} {e:Nat} {ys:List V} {out:List Value},Inv X ((kS,seqObj "list" ks.toArray e) :: (D,seqObj "list" #[] e1) :: pins) σ H' s'→za3 ys out→ys.length<64→(∀ p,H' p=none→Q (.ref p) (upd H' p (.lst ys)))→So.Fin3 D kS ks e e1 out (EP X pins σ Q (.ref D)) s':=fun {H' s' ks e ys out} I' r hy hq=>by
      obtain ⟨I2,⟨g1,n1⟩,⟨g2,n2⟩⟩:=unpin I'
      refine ⟨g1,g2,fun h2 c c2 kp sz q1 q2=>⟨.ref D,upd H' D (.lst ys),?_,rfl,hq D n2⟩⟩
      refine I2.turnedOwn (t':=s'.toks) (ch:=[kS,D]) (fun b hb=>?_) (by simp) (fun b u hb e=>kp b u (fun z=>hb (by simp [z])) (fun z=>hb (by simp [z])) e) ⟨by rw [sizeLine_eq]; omega,out,c2,r,q2⟩
      simp at hb
      rcases hb with rfl | rfl
      · exact ⟨n1,fK.2⟩
      · exact ⟨n2,fD.2⟩
    refine So.srt_rest (J:=fun ks e s'=>∃ (kv:List V) (H':Hp),za3 kv ks∧Inv X ((kS,seqObj "list" ks.toArray e) :: (D,seqObj "list" #[] e1) :: pins) σ H' s'∧znu sp (fun ks H'=>∃ lt,So.Ord lt∧zg3 X ks H' lt∧∀ p,H' p=none→Q (.ref p) (upd H' p (.lst (zcq lt xs)))) (xs.drop ks.length) kv H') h64' ?_ ?_ ?_ ?_
    · rintro ks e s' ⟨kv,H',_,I',_⟩
      exact (unpin I').2.1.1
    · rintro ks e s' x hx ⟨kv,H',rk,I',hk⟩
      have hlt:ks.length<xs.length:=by rw [hlen]; exact (List.getElem?_eq_some_iff.mp hx).1
      obtain ⟨x',hx',rx⟩:=rv.get (List.getElem?_eq_getElem hlt); rw [hx] at hx'; cases hx'; rw [List.drop_eq_getElem_cons hlt] at hk
      refine wpAny_mono (zjC F hr.in1.in1 I'.env0.in1.in1 hb I' (.cons rx .nil) hk) (fun kk s3 he=>?_) fun _ _ z=>z
      obtain ⟨v,H3,I3,r3,hk3⟩:=he
      obtain ⟨I4,⟨g1,n1⟩,⟨g2,n2⟩⟩:=unpin I3
      refine ⟨g1,fun c hc=>⟨kv ++ [v],H3,rk.append (.cons r3 .nil),?_,?_⟩⟩
      · have sb:=Heap.SameBut.update s3.heap kS (Obj.mapSeq (·.push kk))
        have I5:Inv X pins σ H3 { s3 with heap:=s3.heap.update kS (Obj.mapSeq (·.push kk)) }:=I4.turned (t':=s3.toks) (it:=kS) (fun b o hb e=>(sb.2 b hb).trans e) n1 fK.2.1 fK.2.2.2.1 fK.2.2.2.2.1 fK.2.2.2.2.2
        exact pin2 I5 hc ((sb.2 D (fun z=>hDk z.symm)).trans g2) n1 n2
      · rw [List.length_append,List.length_singleton]
        exact hk3
    · rintro ks e s' hkl ⟨kv,H',rk,I',hk⟩
      have hkl2:kv.length=xs.length:=by rw [rk.length,hkl,hlen]
      rw [show xs.drop ks.length=[] from List.drop_eq_nil_of_le (by omega)] at hk
      obtain ⟨lt,od,cmp,hq⟩:=hk
      by_cases hn:vs.length<2
      · refine So.srt_end1 hDk hkl hn ((fin3 (ys:=zcq lt xs) I' ?_ ?_ hq).mono fun s4 hq=>⟨_,rfl,wpAny_pure ⟨_,rfl,hq⟩⟩)
        · unfold zcq
          rw [if_pos (by omega)]
          exact rv
        · unfold zcq
          rw [if_pos (by omega)]
          exact h64
      · have hN:1≤vs.length:=by omega
        have hsm:=zeb od hN
        refine So.srt_end (e:=e) hDk hkl (by omega) h64' (wpAny_mono (cmp X.A.in1.in1 _ σ s' ks I' rk (by omega)) (fun κ s3 hc=>?_) fun _ _ z=>z)
        obtain ⟨I3,hc⟩:=hc
        refine So.wp_of (lt:=lt) (N:=vs.length) (J:=fun s=>Inv X ((kS,seqObj "list" ks.toArray e) :: (D,seqObj "list" #[] e1) :: pins) σ H' s) (fun i j C s4 hi hj I4 hC=>hc i j C s4 (by omega) (by omega) I4 hC) (kas_sort vs.length) s3 (So.ok_sort od hN) I3 fun s4 I4=>?_
        refine (fin3 (ys:=zcq lt xs) I4 ?_ ?_ hq).mono fun s4 hq=>⟨_,rfl,wpAny_pure ⟨_,rfl,hq⟩⟩
        · unfold zcq
          rw [if_neg (by omega),hlen]
          exact zfx rv _ fun i hi=>by rw [hlen]; exact hsm.2 i hi
        · unfold zcq
          rw [if_neg (by omega),List.length_map,hlen,hsm.1]
          exact h64'
    · exact ⟨[],H,.nil,pin2 I0 hk0 ha0 fK.1 fD.1,h⟩
def znz (X:Cx) (sp:Sp) (t:TA):TE:=fun σ H Q=>t σ H fun vs H1=>∃ a kvs,vs=[.ref a]∧Rd H1 a (.dK kvs)∧kvs.length<64∧znu sp (fun ks H'=>∃ lt,So.Ord lt∧zg3 X ks H' lt∧∀ p,H' p=none→Q (.ref p) (upd H' p (.lst (zcq lt (kvs.map fun p=>kV p.1))))) (kvs.map fun p=>kV p.1) [] H1
theorem zj1 {k:Nat} {f:Addr} {fd:FuncData} {ps:List Str} {sp:Sp} {x:Str} {e:Expr} {t:TA} {p q kpos pos:Pos} (hc:X.calm=true) (F:FnOk X.prog X.w X.K X.mg X.base CX0 k f fd ps sp) (hr:Room (k+2) X.A) (hb:zdL X.K fd ps []) (hmf:X.mg x=some (.ref f)) (hm:X.mg "sorted"=none) (ha:PA X [e] t)
    (hgs:Gl X "sorted":=by rfl) (hg:Gl X x:=by rfl) (hdb:(x == ("__debug__":Str))=false:=by decide)
    (he:backTo pos (starEach [e] X.env)=(false,eval e X.env) :: backTo pos (starEach [] X.env):=by rfl)
    (hplain:(backTo pos (starEach [e] X.env)).any (·.1)=false:=by rfl) :
    PE X (.Call (.Name "sorted" p) [e] [⟨some "key",.Name x q,kpos⟩] pos) (znz X sp t):=by
  intro pins s σ H Q I h; refine wpAny_Call_Name_kw (zfk I hgs hm boot_sorted ?_)
  refine callWith_kw (thn (ha pos pins s σ H _ I h) fun us s1 ⟨vs,H1,I1,r,q⟩=>?_) he hplain rfl rfl
  obtain ⟨a,kvs,rfl,hl,h64,hk⟩:=q; obtain ⟨u,rfl,ru⟩:=zdj r; cases ru
  refine thn (zjZ (nm:=some "key") (kpos:=kpos) (zhj (v:=.ref f) hg hmf rfl hdb) zmS pos pins s1 σ H1 (fun zs H2=>zs=[.ref f]∧H2=H1) I1 ⟨rfl,rfl⟩) fun ws s2 ⟨zs,H2,I2,rz,e1,e2⟩=>?_
  subst e1 e2
  obtain ⟨w',rfl,rw'⟩:=zdj rz; cases rw'; obtain ⟨z,hd,o,es,ep,ho,hx,hdat,hs,hkk⟩:=I2.keysK hl
  have hal:∃ acc:Array Value,ItemsOf (fun i v=>∃ e,es[i]?=some e∧v=e.key) acc es.size:=⟨es.map (·.key),by simp,fun i v hv=>by
    rw [Array.getElem?_map] at hv
    cases he:es[i]? with
    | none=>rw [he] at hv; cases hv
    | some en=>rw [he] at hv; cases hv; exact ⟨en,rfl,rfl⟩⟩
  obtain ⟨acc,hacc⟩:=hal
  refine zgV (vs:=acc.toList) F hr hb (by rw [List.length_map]; exact h64) (hkk acc hacc) (fun {Q' E2} hQ=>?_) hk
  refine zhV (I2.ok.hd hc) hd ho hx hdat (by rw [hs]; exact z) fun h2 tk acc2 kp hit=>?_
  have e3:acc2=acc:=by
    obtain ⟨z1,z2⟩:=hacc; obtain ⟨y1,y2⟩:=hit
    refine Array.ext (by omega) fun i h1 h2=>?_
    obtain ⟨a1,b1,c1⟩:=z2 i _ (Array.getElem?_eq_getElem h2); obtain ⟨a2,b2,c2⟩:=y2 i _ (Array.getElem?_eq_getElem h1); rw [b1] at b2; cases b2; rw [c1,c2]
  rw [e3]; exact hQ _ (I2.kept (t':=tk) kp)
end
end L2
namespace PL
open PySem L2
theorem zoI {K:PySem.W.Frag} {H:Hp} (k:Key):Den K H (kV k) (keyD k):=by
  cases k with
  | inl i=>exact .int i
  | inr x =>
    show Den K H (.str x) (.str x.cps.toList)
    have:=Den.str (K:=K) (H:=H) x.cps.toList
    rw [← zjw x] at this; exact this
theorem zf4 {K:PySem.W.Frag} {H:Hp}:∀ {kvs:List (Key × V)} {es:List (D × D)},zlf K H kvs es→zbN K H (kvs.map fun p=>kV p.1) (es.map (·.1))
  | [],[],_=>.nil
  | p :: kvs,q :: es,.cons r t=>.cons (by show Den K H (kV p.1) q.1; rw [r.1]; exact zoI p.1) (zf4 t)
  | [],_ :: _,h=>nomatch h
  | _ :: _,[],h=>nomatch h
theorem zqR {K:PySem.W.Frag} {H:Hp} {kvs:List (Key × V)} {es:List (D × D)} (r:zlf K H kvs es) (k:Key):OptD K H (ze6 kvs k) (zdH es (keyD k)):=by
  induction r with
  | nil=>exact .none
  | @cons p q ps qs h t ih =>
    by_cases e:p.1=k
    · rw [zdy e,zeX (h.1.trans (by rw [e]))]
      exact .some h.2
    · rw [zdz e,zeY (fun z=>e (zit (h.1.symm.trans z)))]
      exact ih
theorem zhK (l:List Nat):keyD (.inr (st l))=.str l:=by
  show D.str (st l).cps.toList=_
  rw [zaM]
section
variable {X:Cx}
def zhc:RM':=fun x ds Q=>∃ l y,x=.str l∧ds=[.str y]∧l.length≤sizeLine∧Q (.str (Txt.lstripChars (st l) (st y)).cps.toList)
theorem zl2:Met X "str" "str.lstrip" zhc:=⟨_,zki,by
  rintro Hi H x vs dx ds Q Q2 s d1 dl ⟨l,y,rfl,rfl,hl,q⟩ fin
  obtain ⟨v,rfl,den⟩:=zdG dl
  refine ⟨_,_,d1.strI,by rw [den.strI],by rw [zbA]; exact hl,?_⟩
  rw [zjw (Txt.lstripChars (st l) (st y))]; exact fin Hi H _ _ (Ext.refl s) (.str _) q⟩
@[simp] theorem zpf (l y:List Nat) (Q:D→Prop):zhc (.str l) [.str y] Q↔l.length≤sizeLine∧Q (.str (Txt.lstripChars (st l) (st y)).cps.toList):=by simp [zhc]
def zlv:zpk:=fun ds Q=>∃ es,ds=[.dic es]∧Q (.lst (es.map (·.1)))
theorem zo3 (hc:X.calm=true):CalO X (.type "list") zlv:=⟨_,zjj hc,by
  rintro Hi H vs ds Q Q2 s dl ⟨es,rfl,q⟩ fin
  obtain ⟨v,rfl,den⟩:=zdG dl; obtain ⟨a,kvs,rfl,h1,h2⟩:=den.dicI
  exact ⟨a,kvs,rfl,zcH s.sub h1,fun l hl=>fin Hi H l _ (.lst (es.map (·.1))) (Ext.refl s) hl (fun _ z=>by cases z) ⟨_,zO,zf4 h2⟩ q⟩⟩
def ziY:R2':=fun x y Q=>∃ (es:List (D × D)) (l:List Nat) (v:D),x=.dic es∧y=.str l∧zdH es (.str l)=some v∧Q v
theorem zsH (hu:X.A.units+1<cLine):Ixs X ziY:=⟨_,zsE hu,by
  rintro Hi H x y dx dy Q Q2 s d1 d2 ⟨es,l,v,rfl,rfl,e,q⟩ fin
  obtain ⟨a,kvs,rfl,h1,h2⟩:=d1.dicI
  cases d2.strI
  have r:=zqR h2 (.inr (st l)); rw [zhK,e] at r; generalize ho:ze6 kvs (.inr (st l))=o at r
  cases r with
  | some h=>exact ⟨a,_,rfl,.inl ⟨kvs,.inr (st l),zcH s.sub h1,rfl,ho.symm⟩,fin Hi H _ _ (Ext.refl s) h q⟩⟩
instance:MR2 ziY:=⟨fun _ _ _ _ h ⟨es,l,v,a,b,c,q⟩=>⟨es,l,v,a,b,c,h _ q⟩⟩
def zh (sp:Sp') (t:TA'):TO':=fun Γ Q=>t Γ fun as Γ1=>∃ es ks lt,as=[.dic es]∧es.length<64∧ks.length=es.length∧(∀ (i:Nat) x k,(es.map (·.1))[i]?=some x→ks[i]?=some k→sp [x] fun r=>r=.val k)∧zpl ks lt∧Q (.lst (zex lt (es.map (·.1)))) Γ1
theorem zjV {k:Nat} {x:Str} {ps:List Str} {sp:Sp'} {e:Expr} {t:TA'} {p q kpos pos:Pos} (hc:X.calm=true) (G:Fn X.prog X.w X.K X.mg X.base k x ps sp) (hr:Room (k+2) X.A) (hm:X.mg "sorted"=none) (ha:PA' X [e] t)
    (hgs:Gl X "sorted":=by rfl) (hg:Gl X x:=by rfl) (hdb:(x == ("__debug__":Str))=false:=by decide)
    (he:backTo pos (starEach [e] X.env)=(false,eval e X.env) :: backTo pos (starEach [] X.env):=by rfl) (hplain:(backTo pos (starEach [e] X.env)).any (·.1)=false:=by rfl) :
    PO' X (.Call (.Name "sorted" p) [e] [⟨some "key",.Name x q,kpos⟩] pos) (zh sp t):=by
  obtain ⟨f,fd,F,b,kp,m,_⟩:=G.ex; refine ⟨PE.weak (zj1 hc F hr b m hm ha.pa hgs hg hdb he hplain) ?_⟩
  rintro σ H Q ⟨W,Hi,Γ,Q',g,h,fin⟩
  refine ⟨W,Hi,Γ,_,g,h,?_⟩
  rintro vs H1 Hi1 Γ1 as s1 g1 dl ⟨es,ks,lt,rfl,h64,hkl,hsp,hkd,q⟩
  obtain ⟨v,rfl,den⟩:=zdG dl; obtain ⟨a,kvs,rfl,h1,h2⟩:=den.dicI; have dx:=zf4 h2
  refine ⟨a,kvs,rfl,zcH g1.sub h1,by rw [zf h2]; exact h64,?_⟩
  refine zf3 _ (es.map (·.1)) ks [] [] Hi1 H1 (Ext.refl g1.fz) dx (by rw [List.length_map]; exact hkl) hsp .nil fun acc Hi2 H2 ex da=>?_
  rw [List.nil_append] at da
  refine ⟨lt,hkd.ord,?_,fun p hp=>?_⟩
  · rcases hkd with ⟨is,rfl,rfl⟩ | ⟨ps,rfl,rfl⟩
    · rw [zeV da]
      exact zq6 is
    · obtain ⟨as,rfl,kt⟩:=zeU da
      exact zq5 (zeN ex.fz.sub kt)
  · have g2:=g1.ext ex
    exact fin p _ Hi2 Γ1 (.lst (zex lt (es.map (·.1)))) (s1.trans ex.hi) (g2.ext (Ext.newO g2.fz hp _ (fun _ z=>by cases z))) (New.mk' g2 hp ⟨_,zO,zia hkd.ord (dx.mono ex.hi)⟩) q
noncomputable def znJ (es:List (D × D)) (k v:D):List (D × D):=if (zdH es k).isSome=true then es else es ++ [(k,v)]
noncomputable def zl (i:Nat) (tk tv:TE'):TS':=fun N Γ=>(∃ es0,Γ[i]?=some (.own (.dic es0)))∧tk Γ fun k Γ1=>tv Γ1 fun v Γ2=>∃ (es:List (D × D)) (l:List Nat),Γ2[i]?=some (.own (.dic es))∧k=.str l∧es.length<sizeLine∧N.nx (Γ2.set i (.own (.dic (znJ es (.str l) v))))
theorem zlo {Γ:Sts} {i:Nat} {x:Slot} (h:Γ[i]?=some x):Γ.set i x=Γ:=by
  obtain ⟨hi,e⟩:=List.getElem?_eq_some_iff.mp h; rw [← e]; exact List.set_getElem_self hi
theorem zjR (i:Nat) {x:Str} {k value:Expr} {tk tv:TE'} {p apos cpos pos:Pos} (hk:PE' X k tk) (hv:PE' X value tv) (hN:X.N[i]?=some x:=by rfl) (hvi:Vis X.env.scope x:=by first | exact Or.inl rfl | exact Or.inr (Or.inl rfl) | exact Or.inr (Or.inr rfl)) (hd:(x == ("__debug__":Str))=false:=by decide)
    (hcd:(x == ("__classdict__":Str))=false:=by decide) (m:M2 X (.Name x p) "setdefault" apos k value cpos:=by exact ⟨rfl,rfl,rfl,rfl⟩)
    (hs:swapsWith (.Call (.Attribute (.Name x p) "setdefault" apos) [k,value] [] cpos) none pos.line X.env=pure false:=by rfl) :
    PS' X (.Expr (.Call (.Attribute (.Name x p) "setdefault" apos) [k,value] [] cpos) pos) (zl i tk tv):=by
  refine ⟨PS.weak (zeE (zi3 (zcX (i:=i) (pos:=p) hN hvi hd hcd) hk.h hv.h m) hs) ?_⟩
  rintro N2 σ H ⟨W,Hi,Γ,N,g,⟨⟨es0,e0⟩,q⟩,l⟩
  have hi:i<X.N.length:=(List.getElem?_eq_some_iff.mp hN).1
  obtain ⟨a,h1,h2,h3,kvs0,h4,h5⟩:=g.own i _ e0; refine ⟨.ref a,zfu hi h1,a,rfl,.inl ⟨kvs0,.inl h4⟩,W,Hi,Γ,_,g,q,?_⟩
  rintro y H2 ⟨Hi2,dk,Γ2,s2,g2,den2,q2⟩
  refine ⟨W,Hi2,Γ2,_,g2,q2,?_⟩
  rintro z H3 ⟨Hi3,dv,Γ3,s3,g3,den3,es,lk,e3,rfl,hl,q3⟩
  obtain ⟨a',k1,k2,k3,kvs,k4,k5⟩:=g3.own i _ e3; rw [h1] at k1; cases k1
  cases den2.strI
  have r:=zqR k5 (.inr (st lk)); rw [zhK] at r
  refine ⟨kvs,.inr (st lk),k4,rfl,by rw [zf k5]; exact hl,fun v hv=>?_,fun hv=>?_⟩
  · rw [hv] at r
    have e5:znJ es (.str lk) dv=es:=by
      unfold znJ; rw [← r.isSome]; rfl
    rw [e5,zlo e3] at q3; exact l.nx σ _ Hi3 _ (s2.trans s3) g3 q3
  · rw [hv] at r
    have e5:znJ es (.str lk) dv=es ++ [(.str lk,dv)]:=by
      unfold znJ; rw [← r.isSome]; rfl
    rw [e5] at q3; exact l.nx σ _ Hi3 _ (s2.trans s3) (g3.put (o:=.dic (es ++ [(.str lk,dv)])) e3 h1 ⟨_,zO,zaU k5 (.cons ⟨(zhK lk).symm,den3⟩ .nil)⟩) q3
instance {i:Nat} {tk tv:TE'} [ME tk] [ME tv]:MS (zl i tk tv):=⟨fun N N' Γ h ⟨a,q⟩=>⟨a,ME.mono (t:=tk) _ _ _ (fun _ _ z=>ME.mono (t:=tv) _ _ _ (fun _ _ ⟨es,l,e1,e2,e3,w⟩=>⟨es,l,e1,e2,e3,h.nx _ w⟩) z) q⟩⟩
end
end PL
namespace M81
open PySem L2 Lb PL MT MS M04 M70 M71
inductive Ch where
  | read (p ws:Pl) | out (p:Pl) | put (p:Pl) (t:Tr)
def zox (t u:Tr):List (List Nat):=ze1 (zg4 (zaL (t.kds ++ u.kds)))
def rd (t u:Tr) (p:Pl):List Ch:=if t.wds=u.wds then [] else [.read p u.wds]
def zs1 (t u:Tr) (p:Pl) (l:List Nat):List Ch:=match zb l t.kds,zb l u.kds with
  | none,some k=>[.put p k]
  | some _,none=>[.out (p ++ [l])]
  | _,_=>[]
def plain:Nat→Tr→Tr→Pl→List Ch
  | 0,_,_,_=>[]
  | n+1,t,u,p=>rd t u p ++ (zox t u).flatMap (zs1 t u p) ++ (zox t u).flatMap fun l=>match zb l t.kds,zb l u.kds with
      | some k,some k'=>plain n k k' (p ++ [l])
      | _,_=>[]
def zua (n:Nat) (t u:Tr) (p:Pl) (l:List Nat):List Ch:=match zb l t.kds,zb l u.kds with
  | some k,some k'=>plain n k k' (p ++ [l])
  | _,_=>[]
def oc (f:Tr→Nat):Option Tr→Nat
  | none=>0
  | some k=>f k
theorem zmW (f:Tr→Nat) (ks:List Tr):∀ L:List (List Nat),(L.map fun l=>oc f (zb l ks)).sum=((zii L ks).map f).sum
  | []=>rfl
  | l :: L=>by
    unfold zii; rw [List.map_cons,List.sum_cons,zmW f ks L,List.filterMap_cons]
    cases e:zb l ks with
    | none=>simp [oc,zii]
    | some k=>simp [oc,zii]
theorem zi8 (f:Tr→Nat) {ks:List Tr} {L:List (List Nat)} (h:L.Nodup):(L.map fun l=>oc f (zb l ks)).sum≤(ks.map f).sum:=by
  rw [zmW]
  exact zfC f (h.sublist (zfM L ks)) fun k hk=>zfN hk
theorem zkQ (t:Tr):1≤cnt t:=by rw [zcP]; omega
theorem zet {α:Type} {f g h:α→Nat}:∀ {L:List α},(∀ l ∈ L,f l≤g l+h l)→(L.map f).sum≤(L.map g).sum+(L.map h).sum
  | [],_=>by simp
  | a :: L,q=>by
    have h1:=q a List.mem_cons_self
    have h2:=zet (L:=L) fun l hl=>q l (List.mem_cons_of_mem _ hl)
    simp only [List.map_cons,List.sum_cons]; omega
end M81
namespace M73
open PySem L2 Lb PL MT MS M04 M70 M71 M81
theorem zkr {l x:List Nat} {p ws:Pl} {ks:List Tr}:∀ {r:List Tr},zb x (r.map fun k=>if k.lab=l then zcs k p ws ks else k)=(zb x r).map fun k=>if k.lab=l then zcs k p ws ks else k
  | []=>rfl
  | k :: r=>by
    unfold zb; rw [List.map_cons,List.find?_cons,List.find?_cons]
    have e:(if k.lab=l then zcs k p ws ks else k).lab=k.lab:=by
      split
      · exact zdg _ _ _ _
      · rfl
    rw [e]
    cases decide (k.lab=x) with
    | true=>rfl
    | false=>exact zkr
end M73
namespace M72
open PySem L2 Lb PL MT MS M04 M70 M71 M81 M73
def zqM:Ch→Bool
  | .put _ _=>true
  | _=>false
def zts (n:Nat) (F:Tr→Tr→Pl→List Ch) (t u:Tr) (p:Pl) (l:List Nat):List Ch:=match zb l t.kds,zb l u.kds with
  | none,some k=>[.put p k]
  | some _,none=>[.out (p ++ [l])]
  | some k,some k'=>if (F k k' (p ++ [l])).length≤2 then F k k' (p ++ [l]) else [.out (p ++ [l]),.put p k']
  | none,none=>[]
def zpi:Nat→Tr→Tr→Pl→List Ch
  | 0,_,_,_=>[]
  | n+1,t,u,p=>rd t u p ++ (zox t u).flatMap (zts n (zpi n) t u p)
def few (n:Nat) (t u:Tr):List Ch:=(zpi n t u []).filter (fun c=>!zqM c) ++ (zpi n t u []).filter zqM
def byL (L:List (List Nat)) (g:List Nat→Option Tr):List Tr:=L.filterMap g
structure GOk (g:List Nat→Option Tr):Prop where
  lab:∀ l k,g l=some k→k.lab=l
theorem zhW {g:List Nat→Option Tr} (h:GOk g):∀ L:List (List Nat),(zaL (byL L g)).Sublist L
  | []=>.slnil
  | l :: L=>by
    unfold byL; rw [List.filterMap_cons]
    cases e:g l with
    | none=>exact .cons _ (zhW h L)
    | some k =>
      unfold zaL; rw [List.map_cons,h.lab l k e]; exact .cons_cons _ (zhW h L)
theorem zo5 {g:List Nat→Option Tr} (h:GOk g) {L:List (List Nat)} (hL:Ris L):Ris (zaL (byL L g)):=List.Pairwise.sublist (zhW h L) hL
theorem zkX {g:List Nat→Option Tr} (h:GOk g) {L:List (List Nat)} {k:Tr}:k ∈ byL L g↔k.lab ∈ L∧g k.lab=some k:=by
  unfold byL; rw [List.mem_filterMap]; constructor
  · rintro ⟨l,hl,e⟩
    rw [h.lab l k e]; exact ⟨hl,e⟩
  · rintro ⟨h1,h2⟩
    exact ⟨_,h1,h2⟩
theorem zrc {g:List Nat→Option Tr} (h:GOk g) {L:List (List Nat)} (hL:Ris L) {l:List Nat} (hl:l ∈ L):zb l (byL L g)=g l:=by
  cases e:g l with
  | none =>
    rw [zc3]; intro z; obtain ⟨k,hk,rfl⟩:=List.mem_map.mp z; rw [((zkX h).mp hk).2] at e; cases e
  | some k =>
    have hk:=h.lab l k e
    have:k ∈ byL L g:=(zkX h).mpr ⟨by rw [hk]; exact hl,by rw [hk]; exact e⟩
    rw [← hk]; exact zcc (zo5 h hL).nodup this
def zpc (g:List Nat→Option Tr) (l:List Nat) (o:Option Tr):List Nat→Option Tr:=fun x=>if x=l then o else g x
theorem zo4 {g:List Nat→Option Tr} (h:GOk g) {l:List Nat} {k:Tr} (f:Tr→Tr) (hk:g l=some k) (L:List (List Nat)):(byL L g).map (fun x=>if x.lab=l then f x else x)=byL L (zpc g l (some (f k))):=by
  unfold byL
  induction L with
  | nil=>rfl
  | cons a L ih =>
    rw [List.filterMap_cons,List.filterMap_cons]
    by_cases e:a=l
    · subst e
      have e1:zpc g a (some (f k)) a=some (f k):=by simp [zpc]
      rw [e1,hk]; simp only [List.map_cons,h.lab a k hk,if_true]; rw [ih]
    · have e1:zpc g l (some (f k)) a=g a:=by simp [zpc,e]
      rw [e1]
      cases eg:g a with
      | none=>exact ih
      | some x =>
        have:¬ x.lab=l:=fun z=>e ((h.lab a x eg).symm.trans z)
        simp only [List.map_cons,this,if_false]; rw [ih]
def zow (p:Pl):List Nat:=p.getLast?.getD []
def dn (t:Tr):Ch→Option Tr
  | .read p ws=>(zS t p).map fun nd=>zcs t p ws nd.kds
  | .out p=>if p=[] then none else (zS t p).bind fun _=>(zS t p.dropLast).map fun nd=>zcs t p.dropLast nd.wds (nd.kds.filter fun k=>decide (k.lab≠zow p))
  | .put p k=>(zS t p).bind fun nd=>match zb k.lab nd.kds with
      | some _=>none
      | none=>some (zcs t p nd.wds (zcR (nd.kds ++ [k])))
def run:Tr→List Ch→Option Tr
  | t,[]=>some t
  | t,c :: cs=>(dn t c).bind fun x=>run x cs
def zpG (l:List Nat):Ch→Ch
  | .read p ws=>.read (l :: p) ws
  | .out p=>.out (l :: p)
  | .put p k=>.put (l :: p) k
section
variable {L:List (List Nat)} {lb:List Nat} {ws:Pl}
theorem zrI {g:List Nat→Option Tr} (h:GOk g) {l:List Nat} {k:Tr} (hk:g l=some k) (p ws':Pl) (ks:List Tr):zcs (.node lb ws (byL L g)) (l :: p) ws' ks=.node lb ws (byL L (zpc g l (some (zcs k p ws' ks)))):=by
  simp only [zcs]
  show Tr.node lb ws ((byL L g).map _)=_
  rw [zo4 h (fun x=>zcs x p ws' ks) hk]
theorem zrH {g:List Nat→Option Tr} (h:GOk g) (hL:Ris L) {l:List Nat} (hl:l ∈ L) {k:Tr} (hk:g l=some k) (p:Pl):zS (.node lb ws (byL L g)) (l :: p)=zS k p:=by
  simp only [zS,zci]; rw [zrc h hL hl,hk]
end
theorem zlr (t u:Tr) (l:List Nat) (p:Pl):rd t u (l :: p)=(rd t u p).map (zpG l):=by
  unfold rd
  split <;> rfl
theorem zjh (l:List Nat):∀ (n:Nat) (t u:Tr) (p:Pl),zpi n t u (l :: p)=(zpi n t u p).map (zpG l)
  | 0,_,_,_=>rfl
  | n+1,t,u,p=>by
    simp only [zpi,List.map_append,zlr]
    congr 1
    rw [List.map_flatMap]
    congr 1
    funext x
    unfold zts
    cases zb x t.kds with
    | none=>cases zb x u.kds <;> rfl
    | some k=>cases zb x u.kds with
      | none=>rfl
      | some k' =>
        simp only [List.cons_append,zjh l n k k' (p ++ [x]),List.length_map]
        split <;> rfl
end M72
namespace M74
open PySem L2 Lb PL MT MS M04 M70 M71 M81 M73 M72
theorem zmZ {x:List Nat} {a b:List Tr} (ha:(zaL a).Nodup) (hb:(zaL b).Nodup) (h:∀ k:Tr,k.lab=x→(k ∈ a↔k ∈ b)):zb x a=zb x b:=by
  cases e:zb x a with
  | none =>
    symm
    rw [zc3]; intro z; obtain ⟨k,hk,ek⟩:=List.mem_map.mp z
    have:=(h k ek).mpr hk
    exact zc3.mp e (ek ▸ List.mem_map_of_mem this)
  | some k =>
    obtain ⟨m,l⟩:=zdm e; rw [← l]; exact (zcc hb ((h k l).mp m)).symm
section
variable {c d n:Nat} {s t nd:Tr} {p:Pl}
theorem znF {k:Tr} (h:(zaL nd.kds).Nodup) (hk:zb k.lab nd.kds=none):(zaL (nd.kds ++ [k])).Nodup:=by
  rw [zbc,List.nodup_append]
  refine ⟨h,by simp [zaL],fun a ha b hb e=>?_⟩
  have:b=k.lab:=by simpa [zaL] using hb
  rw [e,this] at ha; exact zc3.mp hk ha
end
end M74
namespace M83
open PySem L2 Lb PL MT MS M04 M70 M71 M81 M73 M72 M74
def lb (t:Tr) (q:Pl):List (List Nat):=match zS t q with
  | none=>[]
  | some nd=>zaL nd.kds
def One (t t':Tr):Prop:=∀ q,(∃ l,∀ x ∈ lb t' q,x=l∨x ∈ lb t q)∨(lb t q=[]∧(lb t' q).length≤2)
theorem zbK (t:Tr) (m:List Nat) (q:Pl):lb t (m :: q)=match zb m t.kds with
    | none=>[]
    | some k=>lb k q:=by
  unfold lb; simp only [zS]
  cases zb m t.kds <;> rfl
theorem zfl (t:Tr):lb t []=zaL t.kds:=rfl
theorem zlM {t t':Tr} (h:∀ q,lb t' q=lb t q):One t t':=fun q=>.inl ⟨[],fun x hx=>.inr (by rw [← h q]; exact hx)⟩
theorem zej {ws:Pl} {ks:List Tr}:∀ {p:Pl} {t nd:Tr},zS t p=some nd→One nd (.node nd.lab ws ks)→One t (zcs t p ws ks)
  | [],t,nd,hn,h=>by
    simp only [zS,Option.some.injEq] at hn; subst hn; exact h
  | l :: p,t,nd,hn,h=>by
    intro q; simp only [zS] at hn
    cases hk:zb l t.kds with
    | none=>rw [hk] at hn; cases hn
    | some k =>
      rw [hk] at hn; simp only [zcs]
      cases q with
      | nil =>
        refine .inl ⟨[],fun x hx=>.inr ?_⟩
        rw [zfl,zci,zgA] at hx; exact hx
      | cons m q =>
        rw [zbK,zbK,zci,zkr]
        cases hm:zb m t.kds with
        | none=>exact .inl ⟨[],fun x hx=>nomatch hx⟩
        | some k' =>
          simp only [Option.map_some]; have el:=(zdm hm).2
          by_cases e:m=l
          · subst e
            rw [hk] at hm; cases hm; rw [if_pos el]; exact zej hn h q
          · rw [if_neg (by rw [el]; exact e)]
            exact .inl ⟨[],fun x hx=>.inr hx⟩
section
variable {c n:Nat} {t nd:Tr} {p:Pl}
theorem zka {ws:Pl} (hn:zS t p=some nd):One t (zcs t p ws nd.kds):=zej hn <| zlM fun q=>by
  cases q with
  | nil=>rfl
  | cons m q=>rw [zbK,zbK]; rfl
theorem zop (l:List Nat) (ht:Wf c n t) (hn:zS t p=some nd):One t (zcs t p nd.wds (nd.kds.filter fun k=>decide (k.lab≠l))):=zej hn fun q=>by
  obtain ⟨_,wn⟩:=ht.at hn
  have hnd:(zaL (nd.kds.filter fun k=>decide (k.lab≠l))).Nodup:=wn.nd.sublist (List.filter_sublist.map _)
  refine .inl ⟨[],fun x hx=>.inr ?_⟩
  cases q with
  | nil =>
    rw [zfl,zci] at hx; exact (List.filter_sublist.map _).subset hx
  | cons m q =>
    rw [zbK,zci] at hx; rw [zbK]
    by_cases e:m=l
    · have:zb m (nd.kds.filter fun k=>decide (k.lab≠l))=none:=zc3.mpr fun z=>by
        obtain ⟨k,hk,ek⟩:=List.mem_map.mp z; rw [List.mem_filter] at hk; simp [ek,e] at hk
      rw [this] at hx; cases hx
    · rw [show zb m (nd.kds.filter fun k=>decide (k.lab≠l))=zb m nd.kds from zmZ hnd wn.nd fun k hk=>by rw [List.mem_filter]; simp [hk,e]] at hx
      exact hx
theorem zoo {k:Tr} (ht:Wf c n t) (hn:zS t p=some nd) (hk:zb k.lab nd.kds=none) (hp:zaH k.lab=true) (wk:Wf 1 3 k):One t (zcs t p nd.wds (zcR (nd.kds ++ [k]))):=zej hn fun q=>by
  obtain ⟨_,wn⟩:=ht.at hn; have nd2:=znF wn.nd hk
  have ok:KidsOk (nd.kds ++ [k]) (zcR (nd.kds ++ [k])):=zem fun x hx=>by
    rcases List.mem_append.mp hx with z | z
    · exact wn.plab x z
    · rw [List.mem_singleton.mp z]; exact hp
  cases q with
  | nil =>
    refine .inl ⟨k.lab,fun x hx=>?_⟩
    rw [zfl,zci] at hx; obtain ⟨y,hy,rfl⟩:=List.mem_map.mp hx; rw [zeO nd2,List.mem_append,List.mem_singleton] at hy
    rcases hy with z | z
    · exact .inr (List.mem_map_of_mem z)
    · exact .inl (by rw [z])
  | cons m q =>
    rw [zbK,zbK,zci]
    by_cases e:m=k.lab
    · rw [e,hk,show zb k.lab (zcR (nd.kds ++ [k]))=some k from zcc ok.nd ((zeO nd2).mpr (by simp))]
      refine .inr ⟨rfl,?_⟩
      show (lb k q).length≤2
      unfold lb
      cases hq:zS k q with
      | none=>simp
      | some y =>
        have:=(wk.at hq).2.few
        show (zaL y.kds).length≤2
        rw [zbY]; omega
    · rw [show zb m (zcR (nd.kds ++ [k]))=zb m nd.kds from zmZ ok.nd wn.nd fun y hy=>by
        rw [zeO nd2,List.mem_append,List.mem_singleton]
        exact ⟨fun z=>z.elim id fun z=>absurd (hy.symm.trans (by rw [z])) e,.inl⟩]
      exact .inl ⟨[],fun x hx=>.inr hx⟩
end
def cu (L:List (List Nat)):Nat:=(zg4 L).length
theorem zfq {L M:List (List Nat)} (h:∀ x ∈ L,x ∈ M):cu L≤cu M:=zdE (zcl L) fun x hx=>(zbT M x).mpr (h x ((zbT L x).mp hx))
theorem znm (L M:List (List Nat)):cu (L ++ M)≤cu L+M.length:=by
  have:=zdE (zcl (L ++ M)) (m:=zg4 L ++ M) fun x hx=>by
    rcases List.mem_append.mp ((zbT _ x).mp hx) with z | z
    · exact List.mem_append_left _ ((zbT L x).mpr z)
    · exact List.mem_append_right _ z
  rw [List.length_append] at this; exact this
theorem zkM (L:List (List Nat)):cu L≤L.length:=zh3 L
theorem znl {t t':Tr} (h:One t t') (q:Pl) (L:List (List Nat)):cu (L ++ lb t' q)≤cu (L ++ lb t q)+1∨cu (L ++ lb t' q)≤cu L+2:=by
  rcases h q with ⟨l,z⟩ | ⟨_,z⟩
  · refine .inl (Nat.le_trans (zfq (M:=(L ++ lb t q) ++ [l]) fun x hx=>?_) (Nat.le_trans (znm _ _) (by simp)))
    rcases List.mem_append.mp hx with y | y
    · exact List.mem_append_left _ (List.mem_append_left _ y)
    · rcases z x y with rfl | w
      · simp
      · exact List.mem_append_left _ (List.mem_append_right _ w)
  · exact .inr (Nat.le_trans (znm _ _) (by omega))
theorem zkq {c n:Nat} {t:Tr} (h:Wf c n t) (q:Pl):(lb t q).length≤c+1:=by
  unfold lb
  cases e:zS t q with
  | none=>simp
  | some nd =>
    show (zaL nd.kds).length≤_
    rw [zbY]; exact (h.at e).2.few
def Two (b:Nat) (s t:Tr):Prop:=∀ q,cu (lb s q ++ lb t q)≤b
theorem Two.symm {b:Nat} {s t:Tr} (h:Two b s t):Two b t s:=fun q=>Nat.le_trans (zfq fun x hx=>by
  rcases List.mem_append.mp hx with z | z
  · exact List.mem_append_right _ z
  · exact List.mem_append_left _ z) (h q)
theorem zfA {c n:Nat} {t:Tr} (h:Wf c n t):Two (c+1) t t:=fun q=>by
  refine Nat.le_trans (zfq (M:=lb t q) fun x hx=>?_) (Nat.le_trans (zkM _) (zkq h q))
  rcases List.mem_append.mp hx with z | z <;> exact z
theorem Two.one {b c n:Nat} {s t t':Tr} (h:Two b s t) (hs:Wf c n s) (hb:c+3≤b+1) (o:One t t'):Two (b+1) s t':=fun q=>by
  have h1:=h q; have h2:=zkq hs q; have h3:=zkM (lb s q)
  rcases znl o q (lb s q) with z | z <;> omega
theorem Two.up {b b':Nat} {s t:Tr} (h:Two b s t) (hb:b≤b'):Two b' s t:=fun q=>Nat.le_trans (h q) hb
theorem Two.kid {b:Nat} {s t k k':Tr} {l:List Nat} (h:Two b s t) (e1:zb l s.kds=some k) (e2:zb l t.kds=some k'):Two b k k':=fun q=>by
  have:=h (l :: q)
  rw [zbK,zbK,e1,e2] at this; exact this
def zaX (b:Nat) (r s t:Tr):Prop:=∀ q,cu (lb r q ++ (lb s q ++ lb t q))≤b
theorem ziQ {c n:Nat} {t:Tr} (h:Wf c n t):zaX (c+1) t t t:=fun q=>by
  refine Nat.le_trans (zfq (M:=lb t q) fun x hx=>?_) (Nat.le_trans (zkM _) (zkq h q))
  rcases List.mem_append.mp hx with z | z
  · exact z
  · rcases List.mem_append.mp z with z | z <;> exact z
theorem zaX.one {b b2:Nat} {r s t t':Tr} (h:zaX b r s t) (h2:Two b2 r s) (hb:b2+2≤b+1) (o:One t t'):zaX (b+1) r s t':=fun q=>by
  have h1:=h q; have h3:=h2 q; rw [← List.append_assoc] at h1 ⊢
  rcases znl o q (lb r q ++ lb s q) with z | z <;> omega
theorem zaX.swap {b:Nat} {r s t:Tr} (h:zaX b r s t):zaX b r t s:=fun q=>Nat.le_trans (zfq fun x hx=>by
  rcases List.mem_append.mp hx with z | z
  · exact List.mem_append_left _ z
  · rcases List.mem_append.mp z with z | z
    · exact List.mem_append_right _ (List.mem_append_right _ z)
    · exact List.mem_append_right _ (List.mem_append_left _ z)) (h q)
structure Dr (B:Nat) (f a b:Tr):Prop where
  fa:Two B f a
  fb:Two B f b
  ab:Two B a b
theorem Dr.up {B B':Nat} {f a b:Tr} (h:Dr B f a b) (hb:B≤B'):Dr B' f a b:=⟨h.fa.up hb,h.fb.up hb,h.ab.up hb⟩
theorem Dr.swap {B:Nat} {f a b:Tr} (h:Dr B f a b):Dr B f b a:=⟨h.fb,h.fa,h.ab.symm⟩
theorem Dr.one {B c d n:Nat} {f a b b':Tr} (h:Dr B f a b) (hf:Wf c n f) (ha:Wf d n a) (h1:c+3≤B+1) (h2:d+3≤B+1) (o:One b b'):Dr (B+1) f a b' :=
  ⟨h.fa.up (by omega),h.fb.one hf h1 o,h.ab.one ha h2 o⟩
theorem zoX {B c n:Nat} {t:Tr} (h:Wf c n t) (hb:c+1≤B):Dr B t t t:=⟨(zfA h).up hb,(zfA h).up hb,(zfA h).up hb⟩
def ztT (t u:Tr) (L:List (List Nat)):List (Tr × Tr):=L.filterMap fun l=>match zb l t.kds,zb l u.kds with
  | some k,some k'=>some (k,k')
  | _,_=>none
end M83
namespace M82
open PySem L2 Lb PL MT MS M04 M70 M71
def Tri {α:Type} (f a b r:α):Prop:=(a=f∧r=b)∨(b=f∧r=a)∨(a=b∧r=a)
theorem Tri.map {α β:Type} (g:α→β) {f a b r:α} (h:Tri f a b r):Tri (g f) (g a) (g b) (g r):=by
  rcases h with ⟨rfl,rfl⟩ | ⟨rfl,rfl⟩ | ⟨rfl,rfl⟩
  · exact .inl ⟨rfl,rfl⟩
  · exact .inr (.inl ⟨rfl,rfl⟩)
  · exact .inr (.inr ⟨rfl,rfl⟩)
def zhE (f a b:Tr):List (List Nat):=zg4 (zaL (f.kds ++ (a.kds ++ b.kds)))
end M82
namespace M84
open PySem L2 Lb PL MT MS M04 M70 M71 M81 M82 M83
noncomputable section
open Classical
def st3 {α:Type} (f a b:α):α:=if a=f then b else a
def ck3 {α:Type} (f a b:α):Prop:=a≠f∧b≠f∧a≠b
def L3 (f a b:Tr):List (List Nat):=ze1 (zhE f a b)
def kk3 {α:Type} (g:Tr→Tr→Tr→α) (s:Option Tr→Option Tr→Option Tr→α):Option Tr→Option Tr→Option Tr→α
  | some f,some a,some b=>g f a b
  | f,a,b=>s f a b
def jn:Nat→Tr→Tr→Tr→Tr
  | 0,f,_,_=>f
  | n+1,f,a,b=>.node f.lab (st3 f.wds a.wds b.wds) ((L3 f a b).filterMap fun l=>kk3 (fun f a b=>some (jn n f a b)) st3 (zb l f.kds) (zb l a.kds) (zb l b.kds))
def cl:Nat→Tr→Tr→Tr→Pl→List Pl
  | 0,_,_,_,_=>[]
  | n+1,f,a,b,p=>(if ck3 f.wds a.wds b.wds then [p] else []) ++ (L3 f a b).flatMap fun l=>kk3 (fun f a b=>cl n f a b (p ++ [l])) (fun f a b=>if ck3 f a b then [p ++ [l]] else []) (zb l f.kds) (zb l a.kds) (zb l b.kds)
def zmp (n:Nat) (f a b:Option Tr):Option Tr:=kk3 (fun f a b=>some (jn n f a b)) st3 f a b
def zgS (n:Nat) (f a b:Option Tr) (p:Pl):List Pl:=kk3 (fun f a b=>cl n f a b p) (fun f a b=>if ck3 f a b then [p] else []) f a b
theorem zqI (n:Nat) (f a b:Tr):jn (n+1) f a b=.node f.lab (st3 f.wds a.wds b.wds) ((L3 f a b).filterMap fun l=>zmp n (zb l f.kds) (zb l a.kds) (zb l b.kds)):=rfl
theorem zq7 (n:Nat) (f a b:Tr) (p:Pl):cl (n+1) f a b p=(if ck3 f.wds a.wds b.wds then [p] else []) ++ (L3 f a b).flatMap fun l=>zgS n (zb l f.kds) (zb l a.kds) (zb l b.kds) (p ++ [l]):=rfl
def wt:Nat→Tr→Tr→Tr→Tr
  | 0,f,_,_=>f
  | n+1,f,a,b=>.node f.lab (if ck3 f.wds a.wds b.wds then [] else st3 f.wds a.wds b.wds) ((L3 f a b).filterMap fun l=>kk3 (fun f a b=>some (wt n f a b)) (fun f a b=>if ck3 f a b then none else st3 f a b) (zb l f.kds) (zb l a.kds) (zb l b.kds))
def znx (n:Nat) (f a b:Option Tr):Option Tr:=kk3 (fun f a b=>some (wt n f a b)) (fun f a b=>if ck3 f a b then none else st3 f a b) f a b
theorem znw (n:Nat) (f a b:Tr):wt (n+1) f a b=.node f.lab (if ck3 f.wds a.wds b.wds then [] else st3 f.wds a.wds b.wds) ((L3 f a b).filterMap fun l=>znx n (zb l f.kds) (zb l a.kds) (zb l b.kds)):=rfl
theorem za5 {α:Type} {g:Tr→Tr→Tr→α} {s:Option Tr→Option Tr→Option Tr→α} {f a b:Option Tr} (h:f=none∨a=none∨b=none):kk3 g s f a b=s f a b:=by
  cases f with
  | none=>rfl
  | some f=>cases a with
    | none=>rfl
    | some a=>cases b with
      | none=>rfl
      | some b=>rcases h with h | h | h <;> cases h
theorem zfn {α β:Type} {g h:α→Option β}:∀ {L:List α},(∀ l ∈ L,g l=h l)→L.filterMap g=L.filterMap h
  | [],_=>rfl
  | a :: L,q=>by rw [List.filterMap_cons,List.filterMap_cons,q a List.mem_cons_self,zfn fun l hl=>q l (List.mem_cons_of_mem _ hl)]
theorem zpo:∀ {n:Nat} {f a b:Tr} {p:Pl},cl n f a b p=[]→wt n f a b=jn n f a b
  | 0,f,a,b,p,_=>rfl
  | n+1,f,a,b,p,h=>by
    rw [zq7,List.append_eq_nil_iff] at h; obtain ⟨h1,h2⟩:=h
    have hw:¬ ck3 f.wds a.wds b.wds:=fun z=>by rw [if_pos z] at h1; cases h1
    rw [znw,zqI,if_neg hw]
    congr 1
    refine zfn fun l hl=>?_
    have hk:=List.flatMap_eq_nil_iff.mp h2 l hl; unfold znx zmp; unfold zgS at hk
    cases e1:zb l f.kds with
    | none =>
      rw [e1,za5 (.inl rfl)] at hk; rw [za5 (.inl rfl),za5 (.inl rfl)]; split
      · rename_i z; rw [if_pos z] at hk; cases hk
      · rfl
    | some f'=>cases e2:zb l a.kds with
      | none =>
        rw [e1,e2,za5 (.inr (.inl rfl))] at hk; rw [za5 (.inr (.inl rfl)),za5 (.inr (.inl rfl))]; split
        · rename_i z; rw [if_pos z] at hk; cases hk
        · rfl
      | some a'=>cases e3:zb l b.kds with
        | none =>
          rw [e1,e2,e3,za5 (.inr (.inr rfl))] at hk; rw [za5 (.inr (.inr rfl)),za5 (.inr (.inr rfl))]; split
          · rename_i z; rw [if_pos z] at hk; cases hk
          · rfl
        | some b' =>
          rw [e1,e2,e3] at hk
          show some (wt n f' a' b')=some (jn n f' a' b')
          rw [zpo hk]
theorem zjx {α:Type} (f a b:α):st3 f a b=a∨st3 f a b=b:=by
  unfold st3; split
  · exact .inr rfl
  · exact .inl rfl
theorem zjp {c:Nat}:∀ {n:Nat} {t:Tr},Wf c n t→Dp n t
  | 0,t,h=>by cases h
  | n+1,.node l ws ks,h=>.mk fun k hk=>zjp (h.kid k hk)
theorem zqJ {c:Nat}:∀ {n:Nat} {f a b:Tr},Wf c n f→Wf c n a→Wf c n b→Dp n (jn n f a b)
  | 0,f,_,_,h,_,_=>by cases h
  | n+1,f,a,b,h1,h2,h3=>by
    rw [zqI]
    refine .mk fun k hk=>?_
    obtain ⟨l,_,e⟩:=List.mem_filterMap.mp hk; unfold zmp at e
    cases e1:zb l f.kds with
    | none =>
      rw [e1,za5 (.inl rfl)] at e
      rcases zjx none (zb l a.kds) (zb l b.kds) with z | z <;> rw [z] at e
      · exact zjp (h2.kw e)
      · exact zjp (h3.kw e)
    | some f'=>cases e2:zb l a.kds with
      | none =>
        rw [e1,e2,za5 (.inr (.inl rfl))] at e
        rcases zjx (some f') none (zb l b.kds) with z | z <;> rw [z] at e
        · cases e
        · exact zjp (h3.kw e)
      | some a'=>cases e3:zb l b.kds with
        | none =>
          rw [e1,e2,e3,za5 (.inr (.inr rfl))] at e
          rcases zjx (some f') (some a') none with z | z <;> rw [z] at e
          · rw [← e2] at e; exact zjp (h2.kw e)
          · cases e
        | some b' =>
          rw [e1,e2,e3] at e; cases e; exact zqJ (h1.kw e1) (h2.kw e2) (h3.kw e3)
theorem ziI:∀ (n:Nat) (f a b:Tr) (p:Pl),(cl n f a b p).length≤cnt f+cnt a+cnt b
  | 0,f,a,b,p=>by simp [cl]
  | n+1,f,a,b,p=>by
    rw [zq7,List.length_append,List.length_flatMap]
    have hnd:(L3 f a b).Nodup:=zew (zcl _)
    have each:∀ l ∈ L3 f a b,(zgS n (zb l f.kds) (zb l a.kds) (zb l b.kds) (p ++ [l])).length≤oc cnt (zb l f.kds)+(oc cnt (zb l a.kds)+oc cnt (zb l b.kds)):=fun l hl=>by
      have hm:l ∈ zaL f.kds∨l ∈ zaL a.kds∨l ∈ zaL b.kds:=by
        unfold L3 zhE at hl; rw [zcr,zbT,zbc,zbc,List.mem_append,List.mem_append] at hl; exact hl
      have pos:1≤oc cnt (zb l f.kds)+(oc cnt (zb l a.kds)+oc cnt (zb l b.kds)):=by
        rcases hm with z | z | z <;> (obtain ⟨k,hk⟩:=zeM z; rw [hk]; have:=zkQ k; simp only [oc]; omega)
      have zaT:∀ (x y z:Option Tr),(x=none∨y=none∨z=none)→(zgS n x y z (p ++ [l])).length≤1:=fun x y z h=>by
        unfold zgS; rw [za5 h]
        split <;> simp
      cases e1:zb l f.kds with
      | none=>rw [e1] at pos; exact Nat.le_trans (zaT _ _ _ (.inl rfl)) pos
      | some f'=>cases e2:zb l a.kds with
        | none=>rw [e1,e2] at pos; exact Nat.le_trans (zaT _ _ _ (.inr (.inl rfl))) pos
        | some a'=>cases e3:zb l b.kds with
          | none=>rw [e1,e2,e3] at pos; exact Nat.le_trans (zaT _ _ _ (.inr (.inr rfl))) pos
          | some b' =>
            have:=ziI n f' a' b' (p ++ [l])
            show (cl n f' a' b' (p ++ [l])).length≤cnt f'+(cnt a'+cnt b')
            omega
    have hs:=zet each
    have hs2:=zet (L:=L3 f a b) (f:=fun l=>oc cnt (zb l a.kds)+oc cnt (zb l b.kds)) (g:=fun l=>oc cnt (zb l a.kds)) (h:=fun l=>oc cnt (zb l b.kds)) fun l _=>Nat.le_refl _
    have h1:=zi8 cnt (ks:=f.kds) hnd; have h2:=zi8 cnt (ks:=a.kds) hnd; have h3:=zi8 cnt (ks:=b.kds) hnd
    have hw:(if ck3 f.wds a.wds b.wds then [p] else []).length≤1:=by split <;> simp
    rw [zcP f,zcP a,zcP b]; omega
end
end M84
namespace M85
open PySem L2 Lb PL MT MS M04 M70 M71 M81 M73 M72 M74 M82 M83 M84
noncomputable section
open Classical
def zgG {α β:Type} (f a b:α) (x:β):List β:=if ck3 f a b then [x] else []
theorem zkS (n:Nat) (f a b:Tr) (p:Pl):cl (n+1) f a b p=zgG f.wds a.wds b.wds p ++ (L3 f a b).flatMap fun l=>zgS n (zb l f.kds) (zb l a.kds) (zb l b.kds) (p ++ [l]):=rfl
theorem zcu {n:Nat} {x y z:Option Tr} {p:Pl} (h:x=none∨y=none∨z=none):zgS n x y z p=zgG x y z p:=by
  unfold zgS; rw [za5 h]; rfl
theorem zkv {n:Nat} {x y z:Option Tr} (h:x=none∨y=none∨z=none):zmp n x y z=st3 x y z:=by
  unfold zmp; rw [za5 h]
theorem zg9 {α β:Type} (g:α→β) {f a b:α} (h:g a=g f→a=f):st3 (g f) (g a) (g b)=g (st3 f a b):=by
  unfold st3
  by_cases e:a=f
  · rw [if_pos e,if_pos (by rw [e])]
  · rw [if_neg e,if_neg fun z=>e (h z)]
theorem ziv {α β γ:Type} (g:α→β) {f a b:α} {x:γ} (h1:g a=g f→a=f) (h2:g b=g f→b=f) (h3:g a=g b→a=b):zgG (g f) (g a) (g b) x=zgG f a b x:=by
  have:ck3 (g f) (g a) (g b)↔ck3 f a b:=⟨fun ⟨u,v,w⟩=>⟨fun e=>u (by rw [e]),fun e=>v (by rw [e]),fun e=>w (by rw [e])⟩,fun ⟨u,v,w⟩=>⟨fun e=>u (h1 e),fun e=>v (h2 e),fun e=>w (h3 e)⟩⟩
  unfold zgG
  by_cases e:ck3 f a b
  · rw [if_pos e,if_pos (this.mpr e)]
  · rw [if_neg e,if_neg fun z=>e (this.mp z)]
theorem zeo {α β:Type} (f a b:α) (x:β):(zgG f a b x).length≤1:=by unfold zgG; split <;> simp
theorem ziw {α β γ:Type} (f a b:α) (x:β) (g:β→γ):(zgG f a b x).map g=zgG f a b (g x):=by unfold zgG; split <;> simp
theorem zmJ {n:Nat} {x y z:Option Tr} {p:Pl} (pos:1≤oc cnt x+(oc cnt y+oc cnt z)):(zgS n x y z p).length≤oc cnt x+(oc cnt y+oc cnt z):=by
  cases x with
  | none=>rw [zcu (.inl rfl)]; exact Nat.le_trans (zeo _ _ _ _) pos
  | some f=>cases y with
    | none=>rw [zcu (.inr (.inl rfl))]; exact Nat.le_trans (zeo _ _ _ _) pos
    | some a=>cases z with
      | none=>rw [zcu (.inr (.inr rfl))]; exact Nat.le_trans (zeo _ _ _ _) pos
      | some b =>
        have:=ziI n f a b p
        show (cl n f a b p).length≤cnt f+(cnt a+cnt b)
        omega
theorem znt {f a b:Tr} {l:List Nat}:l ∈ L3 f a b↔l ∈ zaL f.kds∨l ∈ zaL a.kds∨l ∈ zaL b.kds:=by
  unfold L3 zhE; rw [zcr,zbT,zbc,zbc,List.mem_append,List.mem_append]
theorem zmM (f a b:Tr):(L3 f a b).Nodup:=zew (zcl _)
theorem zrf {f a b:Tr} {l:List Nat} (h:l ∈ L3 f a b):1≤oc cnt (zb l f.kds)+(oc cnt (zb l a.kds)+oc cnt (zb l b.kds)):=by
  rcases znt.mp h with z | z | z <;> (obtain ⟨k,hk⟩:=zeM z; rw [hk]; have:=zkQ k; simp only [oc]; omega)
theorem zfQ {n:Nat} {f a b:Tr} {p:Pl} {i:Nat} {l:List Nat} (h:(L3 f a b)[i]?=some l) :
    (zgG f.wds a.wds b.wds p).length+(((L3 f a b).take i).flatMap fun l=>zgS n (zb l f.kds) (zb l a.kds) (zb l b.kds) (p ++ [l])).length+oc cnt (zb l f.kds)+oc cnt (zb l a.kds)+oc cnt (zb l b.kds)≤cnt f+cnt a+cnt b:=by
  have hnd:((L3 f a b).take (i+1)).Nodup:=(zmM f a b).sublist (List.take_sublist _ _)
  have h1:=zi8 cnt (ks:=f.kds) hnd; have h2:=zi8 cnt (ks:=a.kds) hnd; have h3:=zi8 cnt (ks:=b.kds) hnd
  have hm:∀ l ∈ (L3 f a b).take i,(zgS n (zb l f.kds) (zb l a.kds) (zb l b.kds) (p ++ [l])).length≤oc cnt (zb l f.kds)+(oc cnt (zb l a.kds)+oc cnt (zb l b.kds)):=fun l hl=>zmJ (zrf (List.mem_of_mem_take hl))
  have hs:=zet hm
  have hs2:=zet (L:=(L3 f a b).take i) (f:=fun l=>oc cnt (zb l a.kds)+oc cnt (zb l b.kds)) (g:=fun l=>oc cnt (zb l a.kds)) (h:=fun l=>oc cnt (zb l b.kds)) fun l _=>Nat.le_refl _
  rw [List.take_succ,h] at h1 h2 h3; simp only [Option.toList_some,List.map_append,List.map_cons,List.map_nil,List.sum_append,List.sum_cons,List.sum_nil] at h1 h2 h3; have hw:=zeo f.wds a.wds b.wds p; rw [List.length_flatMap,zcP f,zcP a,zcP b]; omega
theorem zaX.kid {b:Nat} {r s t k k' k'':Tr} {l:List Nat} (h:zaX b r s t) (e1:zb l r.kds=some k) (e2:zb l s.kds=some k') (e3:zb l t.kds=some k''):zaX b k k' k'':=fun q=>by
  have:=h (l :: q)
  rw [zbK,zbK,zbK,e1,e2,e3] at this; exact this
theorem zaX.top {b:Nat} {r s t:Tr} (h:zaX b r s t):(zhE r s t).length≤b:=by
  have:=h []
  rw [zfl,zfl,zfl,← zbc,← zbc] at this; exact this
theorem zaX.rot {b:Nat} {r s t:Tr} (h:zaX b r s t):zaX b t r s:=fun q=>Nat.le_trans (zfq fun x hx=>by
  rcases List.mem_append.mp hx with z | z
  · exact List.mem_append_right _ (List.mem_append_right _ z)
  · rcases List.mem_append.mp z with z | z
    · exact List.mem_append_left _ z
    · exact List.mem_append_right _ (List.mem_append_left _ z)) (h q)
theorem zaX.up {b b':Nat} {r s t:Tr} (h:zaX b r s t) (hb:b≤b'):zaX b' r s t:=fun q=>Nat.le_trans (h q) hb
theorem zk2 {b:Nat} {r s t:Tr} (h:zaX b r s t):(L3 r s t).length≤b:=by
  unfold L3; rw [zgl]; exact zaX.top h
theorem zsm {c n:Nat} {f a b:Tr} (h1:Wf c n f) (h2:Wf c n a) (h3:Wf c n b):∀ k ∈ f.kds ++ (a.kds ++ b.kds),zaH k.lab=true:=fun k hk=>by
  rcases List.mem_append.mp hk with z | z
  · exact h1.plab k z
  · rcases List.mem_append.mp z with z | z
    · exact h2.plab k z
    · exact h3.plab k z
theorem zhL {n:Nat} {f a b:Tr} (i:Nat):(((L3 f a b).take i).filterMap fun l=>zmp n (zb l f.kds) (zb l a.kds) (zb l b.kds)).length≤(L3 f a b).length:=by
  refine Nat.le_trans (List.length_filterMap_le _ _) ?_; rw [List.length_take]; exact Nat.min_le_right _ _
end
end M85
namespace PL
open PySem L2
section
variable {X:Cx}
def zaz (t:TT') (ta tb:TO'):TO':=fun Γ Q=>t Γ fun c Γ1=>if c=true then ta Γ1 Q else tb Γ1 Q
def zN (i j:Nat):TO':=fun Γ Q=>∃ xs ys,Γ[i]?=some (.own (.lst xs))∧Γ[j]?=some (.own (.lst ys))∧xs.length+ys.length≤sizeLine∧Q (.lst (xs ++ ys)) Γ
def zM (i:Nat):TS':=fun N Γ=>∃ ds,Γ[i]?=some (.own (.lst ds))∧N.nx (Γ.set i (.own (.lst [])))
theorem zfg {α β:Type} {R:α→β→Prop}:∀ {l:List α} {m:List β} (i:Nat) {a:α} {b:β},Paired R l m→R a b→Paired R (l.set i a) (m.set i b)
  | [],[],_,_,_,.nil,_=>.nil
  | _ :: _,_ :: _,0,_,_,.cons _ t,r=>.cons r t
  | _ :: _,_ :: _,i+1,_,_,.cons r0 t,r=>.cons r0 (zfg i t r)
def zah (i:Nat) (tk tv:TE'):TS':=fun N Γ=>tv Γ fun v Γ1=>(∃ ds0,Γ1[i]?=some (.own (.lst ds0)))∧tk Γ1 fun k Γ2=>∃ (ds:List D) (j:Int) (m:Nat),Γ2[i]?=some (.own (.lst ds))∧k=.int j∧ixN ds.length j=some m∧N.nx (Γ2.set i (.own (.lst (ds.set m v))))
theorem zn1 (i:Nat) {x:Str} {k value:Expr} {tk tv:TE'} {p pos pos':Pos} (hk:PE' X k tk) (hv:PE' X value tv) (hN:X.N[i]?=some x:=by rfl) (hvi:Vis X.env.scope x:=by first | exact Or.inl rfl | exact Or.inr (Or.inl rfl) | exact Or.inr (Or.inr rfl)) (hd:(x == ("__debug__":Str))=false:=by decide)
    (hcd:(x == ("__classdict__":Str))=false:=by decide) (hs:swapsWithSole [.Subscript (.Name x p) k pos'] value pos.line X.env=pure false:=by rfl) (hw:swappedStores [.Subscript (.Name x p) k pos'] value X.env=pure none:=by rfl)
    (h1:(assignEach [.Subscript (.Name x p) k pos'] X.env).map (·.2)=[assign (.Subscript (.Name x p) k pos') X.env]:=by rfl)
    (ha:∀ v,assign (.Subscript (.Name x p) k pos') X.env v=(do
      let ov ← holding [v] (eval (.Name x p) X.env)
      let iv ← holding [v,ov] (eval k X.env)
      standAt pos'
      holding [v,ov,iv] (setItem ov iv v)
      release [v,ov,iv] []):=by intro _; rfl) :
    PS' X (.Assign [.Subscript (.Name x p) k pos'] value pos) (zah i tk tv):=by
  refine ⟨PS.weak (zmQ hv.h (zqa (pos:=pos') (zcX (i:=i) (pos:=p) hN hvi hd hcd) hk.h zlp ha) hs hw h1) ?_⟩
  rintro N2 σ H ⟨W,Hi,Γ,N,g,q,l⟩
  have hi:i<X.N.length:=(List.getElem?_eq_some_iff.mp hN).1
  refine ⟨W,Hi,Γ,_,g,q,?_⟩
  rintro v H1 ⟨Hi1,d,Γ1,s1,g1,den,⟨ds0,e0⟩,q1⟩
  obtain ⟨a,b1,b2,b3,vs0,b4,b5⟩:=g1.own i _ e0; refine ⟨.ref a,zfu hi b1,W,Hi1,Γ1,_,g1,q1,?_⟩
  rintro y H2 ⟨Hi2,dk,Γ2,s2,g2,den2,ds,j,m,e2,rfl,hm,q2⟩
  obtain ⟨a',k1,k2,k3,vs,k4,k5⟩:=g2.own i _ e2; rw [b1] at k1; cases k1
  cases den2.intI
  refine ⟨a,vs,j,m,rfl,rfl,k4,by rw [zf k5]; exact hm,?_⟩
  exact l.nx σ _ Hi2 _ (s1.trans s2) (g2.put (o:=.lst (ds.set m d)) e2 b1 ⟨vs.set m v,zO,zfg m k5 (den.mono s2)⟩) q2
instance {i:Nat} {tk tv:TE'} [ME tk] [ME tv]:MS (zah i tk tv):=⟨fun N N' Γ h q=>ME.mono (t:=tv) _ _ _ (fun _ _ ⟨a,z⟩=>⟨a,ME.mono (t:=tk) _ _ _ (fun _ _ ⟨ds,j,m,e1,e2,e3,w⟩=>⟨ds,j,m,e1,e2,e3,h.nx _ w⟩) z⟩) q⟩
end
end PL
namespace L2
open PySem PySem.Spec PyProof.Rows
section
variable {X:Cx}
def rNT (K:PySem.W.Frag) (b:Bool):R2:=fun x y H Q=>((x=.non∧∃ a vs,y=.ref a∧SqT K H a vs)∨((∃ a vs,x=.ref a∧SqT K H a vs)∧y=.non))∧Q (.bl b) H
theorem zok (hu:X.A.units<cLine):OpR X (compareOp .Eq) (rNT X.K false):=by
  intro pins s σ H x y v u Q I rx ry h; obtain ⟨h,q⟩:=h
  rcases h with ⟨rfl,a,vs,rfl,hq⟩ | ⟨⟨a,vs,rfl,hq⟩,rfl⟩
  · cases rx
    cases ry; obtain ⟨its,r,pl,hz⟩:=I.tuple hq; exact SeqAt.RcAt.none_tuple pl hu X.prog X.w X.xe _ ⟨.bl false,H,I,rfl,q⟩
  · cases rx
    cases ry; obtain ⟨its,r,pl,hz⟩:=I.tuple hq; exact SeqAt.RcAt.tuple_none pl hu X.prog X.w X.xe _ ⟨.bl false,H,I,rfl,q⟩
theorem zoi (hu:X.A.units<cLine):OpR X (compareOp .NotEq) (rNT X.K true):=by
  intro pins s σ H x y v u Q I rx ry h; obtain ⟨h,q⟩:=h
  rcases h with ⟨rfl,a,vs,rfl,hq⟩ | ⟨⟨a,vs,rfl,hq⟩,rfl⟩
  · cases rx
    cases ry; obtain ⟨its,r,pl,hz⟩:=I.tuple hq; exact SeqAt.RcNeAt.none_tuple pl hu X.prog X.w X.xe _ ⟨.bl true,H,I,rfl,q⟩
  · cases rx
    cases ry; obtain ⟨its,r,pl,hz⟩:=I.tuple hq; exact SeqAt.RcNeAt.tuple_none pl hu X.prog X.w X.xe _ ⟨.bl true,H,I,rfl,q⟩
def zrG:V→Bool
  | .non=>true
  | _=>false
def zlX:Value→Bool
  | .none=>true
  | _=>false
def ztR (K:PySem.W.Frag):R2:=fun x y H Q=>x=.non∧∃ p vs,y=.ref p∧SqL K H p vs∧(∀ v ∈ vs,v=.non∨∃ a ws,v=.ref a∧SqT K H a ws)∧Q (.bl (vs.any zrG)) H
theorem zhY:∀ {vs:List V} {us:List Value},za3 vs us→(∀ v ∈ vs,v=.non∨∃ a,v=.ref a)→us.any zlX=vs.any zrG
  | _,_,.nil,_=>rfl
  | v :: vs,u :: us,.cons r t,h=>by
    rw [List.any_cons,List.any_cons,zhY t fun x hx=>h x (List.mem_cons_of_mem _ hx)]
    rcases h v List.mem_cons_self with rfl | ⟨a,rfl⟩
    · cases r; rfl
    · cases r; rfl
theorem zqq (hu:X.A.units+1<cLine):OpR X (compareOp .In) (ztR X.K):=by
  intro pins s σ H x y v u Q I rx ry h; obtain ⟨rfl,p,vs,rfl,hq,hv,q⟩:=h; cases rx; cases ry; obtain ⟨its,r,pl,hz⟩:=I.list hq
  have hm:∀ w ∈ its,SeqAt.EqAt X.A.in1 s w .none (zlX w):=fun w hw=>by
    obtain ⟨i,hi,e⟩:=List.getElem_of_mem hw
    have hi':i<vs.length:=by rw [r.length]; exact hi
    have rr:=PL.paired_get i r (List.getElem?_eq_getElem hi') (List.getElem?_eq_getElem hi); rw [e] at rr
    rcases hv _ (List.getElem_mem hi') with z | ⟨a,ws,z,ht⟩
    · rw [z] at rr
      cases rr; exact SeqAt.EqAt.same _
    · rw [z] at rr
      cases rr; obtain ⟨jts,r2,pl2,_⟩:=I.tuple ht; exact SeqAt.EqAt.tuple_none pl2 hu
  refine SeqAt.in_listAt zlX pl.isList (fun w hw=>hm w (by simpa using hw)) ⟨.bl _,H,I,rfl,?_⟩
  rw [show its.toArray.any zlX=its.any zlX by simp,zhY r fun v hv'=>(hv v hv').imp id fun ⟨a,ws,e,_⟩=>⟨a,e⟩]
  exact q
end
end L2
namespace PL
open PySem L2
section
variable {X:Cx}
def zsc (b:Bool):R2':=fun x y Q=>((x=.non∧∃ ds,y=.tup ds)∨((∃ ds,x=.tup ds)∧y=.non))∧Q (.bl b)
theorem zkm {K:PySem.W.Frag} (b:Bool):zh0 K (rNT K b) (zsc b):=by
  rintro Hi H x y dx dy Q Q2 s d1 d2 ⟨h,q⟩ fin
  rcases h with ⟨rfl,ds,rfl⟩ | ⟨⟨ds,rfl⟩,rfl⟩
  · obtain ⟨a,vs,rfl,h1,_⟩:=d2.tupI
    exact ⟨.inl ⟨d1.nonI,a,vs,rfl,zaJ s.sub h1⟩,fin Hi H _ _ (Ext.refl s) (.bl b) q⟩
  · obtain ⟨a,vs,rfl,h1,_⟩:=d1.tupI
    exact ⟨.inr ⟨⟨a,vs,rfl,zaJ s.sub h1⟩,d2.nonI⟩,fin Hi H _ _ (Ext.refl s) (.bl b) q⟩
def zrA:R2':=fun x y Q=>zg5 x y Q∨zsc false x y Q
def zth:R2':=fun x y Q=>zjJ x y Q∨zsc true x y Q
theorem zlS (hu:X.A.units+100<cLine):Op2 X (compareOp .Eq) zrA:=(zc1 hu).or ⟨_,zok (by omega),zkm false⟩
theorem zoq (hu:X.A.units+100<cLine):Op2 X (compareOp .NotEq) zth:=(zhy hu).or ⟨_,zoi (by omega),zkm true⟩
def zpg:D→Bool
  | .non=>true
  | _=>false
def zsh:R2':=fun x y Q=>∃ ds:List D,x=.non∧y=.lst ds∧(∀ d ∈ ds,d=.non∨∃ es,d=.tup es)∧Q (.bl (ds.any zpg))
theorem zf9 {K:PySem.W.Frag} {Hi H:Hp} (s:za0 Hi H):∀ {vs:List V} {ds:List D},zbN K Hi vs ds→(∀ d ∈ ds,d=.non∨∃ es,d=.tup es)→(∀ v ∈ vs,v=.non∨∃ a ws,v=.ref a∧SqT K H a ws)∧vs.any zrG=ds.any zpg
  | _,_,.nil,_=>⟨fun v hv=>(nomatch hv),rfl⟩
  | v :: vs,d :: ds,.cons r t,h=>by
    obtain ⟨a,b⟩:=zf9 s t fun x hx=>h x (List.mem_cons_of_mem _ hx)
    rw [List.any_cons,List.any_cons,b]
    rcases h d List.mem_cons_self with rfl | ⟨es,rfl⟩
    · have e:=r.nonI
      subst e
      exact ⟨fun w hw=>(List.mem_cons.mp hw).elim .inl fun z=>a w z,rfl⟩
    · obtain ⟨c,ws,rfl,h1,_⟩:=r.tupI
      exact ⟨fun w hw=>(List.mem_cons.mp hw).elim (fun z=>.inr ⟨c,ws,z,zaJ s h1⟩) fun z=>a w z,rfl⟩
theorem zsz (hu:X.A.units+1<cLine):Op2 X (compareOp .In) zsh:=⟨_,zqq hu,by
  rintro Hi H x y dx dy Q Q2 s d1 d2 ⟨ds,rfl,rfl,hd,q⟩ fin
  obtain ⟨a,vs,rfl,h1,h2⟩:=d2.lstI; obtain ⟨k1,k2⟩:=zf9 s.sub h2 hd; refine ⟨d1.nonI,a,vs,rfl,zaI s.sub h1,k1,?_⟩; rw [k2]; exact fin Hi H _ _ (Ext.refl s) (.bl _) q⟩
end
end PL
namespace M71
open PySem L2 Lb PL MT MS M04 M70
theorem zni {f:D→D→Option Bool}:∀ {ks js:List Tr},(∀ k ∈ ks,∀ j ∈ js,∃ b,f (trD k) (trD j)=some b∧(b=true↔k=j))→∃ b,eqL f (ks.map trD) (js.map trD)=some b∧(b=true↔ks=js)
  | [],[],_=>⟨true,rfl,by simp⟩
  | [],_ :: _,_=>⟨false,rfl,by simp⟩
  | _ :: _,[],_=>⟨false,rfl,by simp⟩
  | k :: ks,j :: js,h=>by
    obtain ⟨a,e1,i1⟩:=h k List.mem_cons_self j List.mem_cons_self
    obtain ⟨b,e2,i2⟩:=zni (f:=f) (ks:=ks) (js:=js) fun x hx y hy=>h x (List.mem_cons_of_mem _ hx) y (List.mem_cons_of_mem _ hy)
    refine ⟨a && b,?_,?_⟩
    · show (match f (trD k) (trD j),eqL f (ks.map trD) (js.map trD) with
        | some a,some b=>some (a && b)
        | _,_=>none)=_
      rw [e1,e2]
    · rw [Bool.and_eq_true,i1,i2]
      simp
theorem ziB {c d:Nat}:∀ {n:Nat} {t u:Tr},Wf c n t→Wf d n u→∀ m,2 * n+1≤m→∃ b,eqD m (trD t) (trD u)=some b∧(b=true↔t=u)
  | 0,t,u,h,_,_,_=>by cases h
  | n+1,.node l ws ks,.node l' ws' ks',h1,h2,m,hm=>by
    obtain ⟨m,rfl⟩:∃ k,m=k+1+1:=⟨m-2,by omega⟩
    obtain ⟨b,e,i⟩:=zni (f:=eqD m) (ks:=ks) (js:=ks') fun k hk j hj=>ziB (h1.kid k hk) (h2.kid j hj) m (by omega)
    refine ⟨decide (l=l') && (decide (ws=ws') && (b && true)),?_,?_⟩
    · rw [zaO,zaO]
      show eqL (eqD (m+1)) [.str l,plc ws,.tup (ks.map trD)] [.str l',plc ws',.tup (ks'.map trD)]=_
      simp only [eqL,zeS,zd0]
      rw [show eqD (m+1) (.tup (ks.map trD)) (.tup (ks'.map trD))=eqL (eqD m) (ks.map trD) (ks'.map trD) from rfl,e]
    · simp only [Bool.and_eq_true,decide_eq_true_eq,i,and_true]
      constructor
      · rintro ⟨rfl,rfl,rfl⟩; rfl
      · intro z; injection z with z1 z2 z3; exact ⟨z1,z2,z3⟩
end M71
namespace PL
open PySem L2
theorem zl3 {K:PySem.W.Frag} {n:Nat} {t:TO'} {σ:St} {H:Hp} {Q:VK} (h:oOf K n (zv n t) σ H Q):oOf K n t σ H Q:=by
  obtain ⟨W,Hi,Γ,Q',g,q,fin⟩:=h; obtain ⟨s1,g1⟩:=g.look; refine ⟨_,_,_,_,g1,q,?_⟩
  rintro a H' Hb Γ' o sb g' nw ⟨im,q'⟩
  obtain ⟨s2,g2,hd⟩:=g.unlook sb g'
  have ha:H a=none:=nw.h0
  refine fin a H' _ Γ o s2.hi g2 ⟨?_,?_,⟨fun j o' e z=>?_,fun j d xs e=>?_⟩,?_⟩ q'
  · unfold zcv
    split
    · rfl
    · exact nw.hi
  · cases hq:W.H₀ a with
    | none=>rfl
    | some w =>
      obtain ⟨w',hw⟩:=g.there a w hq
      rw [ha] at hw; cases hw
  · obtain ⟨b,h1,_,_,h4⟩:=g.own j o' e
    rw [z] at h1; cases h1; obtain ⟨w,hw⟩:=h4.there
    rw [ha] at hw; cases hw
  · obtain ⟨w,hw⟩:=(g.bk j d a xs e).at_.there
    rw [ha] at hw; cases hw
  · cases o with
    | lst ds =>
      obtain ⟨vs,e,dl⟩:=nw.own
      exact ⟨vs,e,paired_of (zf dl) fun i v d h1 h2=>hd v d (im d (List.mem_of_getElem? h2)) (paired_get i dl h1 h2)⟩
    | dic ds=>exact im.elim
    | dit ds=>exact im.elim
    | obj C ds=>exact im.elim
theorem znS {X:Cx} {e:Expr} {t:TO'} (h:PU' X e t):PU' X e (zv X.N.length t):=⟨fun pins s σ H Q i x pos pos' N2 I q=>h.h pins s σ H Q i x pos pos' N2 I (zl3 q)⟩
end PL
namespace PL
open PySem L2
section
variable {K:PySem.W.Frag} {n:Nat} {W:Wd} {Hi H:Hp} {Γ:Sts} {σ:St} {i:Nat} {o:OD} {b:Addr}
theorem znd:Hol K fun z=>z:=fun b Hi v o h dv=>by
  cases dv.adrI
  exact h
theorem Good.ownBk (g:Good K n W Hi Γ σ H) (hi:i<n) (e:Γ[i]?=some (.own o)):∃ a,σ[i]?=some (some (.ref a))∧W.H₀ a=none∧Good K n W Hi (Γ.set i (.bk (fun z=>z) a o)) σ H:=by
  obtain ⟨a,h1,h2,h3,h4⟩:=g.own i _ e
  have h1':σ[i]?=some (some (.ref a)):=by
    unfold adr at h1; rw [if_pos hi] at h1; exact zdd h1
  refine ⟨a,h1',h3 hi,g.len,g.fz,g.keep,g.there,g.fro,fun j d' q=>?_,fun j o2 q=>?_,fun j k o o' c q1 q2 p1 p2=>?_,fun j d' c xs q=>?_⟩
  · rcases zav q with ⟨_,z⟩ | ⟨_,z⟩
    · cases z
    · exact g.val j d' z
  · rcases zav q with ⟨_,z⟩ | ⟨_,z⟩
    · cases z
    · exact g.own j o2 z
  · rcases zav q1 with ⟨_,z⟩ | ⟨_,z⟩
    · cases z
    · rcases zav q2 with ⟨_,y⟩ | ⟨_,y⟩
      · cases y
      · exact g.apart j k o o' c z y p1 p2
  · rcases zav q with ⟨ej,z⟩ | ⟨hj,z⟩
    · cases z
      subst ej
      refine ⟨⟨_,h1',.adr a⟩,znd,h2,fun _=>h3 hi,h4,fun k d2 ys q=>?_,fun k o' q w=>?_⟩
      · rcases zav q with ⟨z,_⟩ | ⟨_,y⟩
        · exact z
        · exact absurd h1 ((g.bk k _ _ _ y).ne _ _ e)
      · rcases zav q with ⟨_,y⟩ | ⟨hk,y⟩
        · cases y
        · exact hk (g.apart k _ _ _ _ y e w h1)
    · obtain ⟨p0,p1,p2,p3,p4,p5,p6⟩:=g.bk j d' c _ z
      refine ⟨p0,p1,p2,p3,p4,fun k d2 ys q=>?_,fun k o' q=>?_⟩
      · rcases zav q with ⟨_,y⟩ | ⟨_,y⟩
        · cases y
          exact absurd h1 (p6 _ _ e)
        · exact p5 k _ _ y
      · rcases zav q with ⟨_,y⟩ | ⟨_,y⟩
        · cases y
        · exact p6 k o' y
theorem Good.bkOwn (g:Good K n W Hi Γ σ H) (hi:i<n) (e:Γ[i]?=some (.bk (fun z=>z) b o)) (h0:W.H₀ b=none):Good K n W Hi (Γ.set i (.own o)) σ H:=by
  have B:=g.bk i _ _ _ e
  have ai:adr n W σ i=some b:=by
    obtain ⟨v,v1,v2⟩:=B.val
    cases v2.adrI
    unfold adr; rw [if_pos hi,v1]; rfl
  refine ⟨g.len,g.fz,g.keep,g.there,g.fro,fun j d' q=>?_,fun j o2 q=>?_,fun j k o o' c q1 q2 p1 p2=>?_,fun j d' c xs q=>?_⟩
  · rcases zav q with ⟨_,z⟩ | ⟨_,z⟩
    · cases z
    · exact g.val j d' z
  · rcases zav q with ⟨ej,z⟩ | ⟨_,z⟩
    · cases z
      subst ej
      exact ⟨b,ai,B.hi,fun _=>h0,B.at_⟩
    · exact g.own j o2 z
  · rcases zav q1 with ⟨e1,z⟩ | ⟨h1,z⟩
    · rcases zav q2 with ⟨e2,y⟩ | ⟨_,y⟩
      · rw [e1,e2]
      · rw [e1,ai] at p1
        cases p1; exact absurd p2 (B.ne k o' y)
    · rcases zav q2 with ⟨e2,y⟩ | ⟨_,y⟩
      · rw [e2,ai] at p2
        cases p2; exact absurd p1 (B.ne j o z)
      · exact g.apart j k o o' c z y p1 p2
  · rcases zav q with ⟨_,z⟩ | ⟨hj,z⟩
    · cases z
    · obtain ⟨p0,p1,p2,p3,p4,p5,p6⟩:=g.bk j d' c _ z
      refine ⟨p0,p1,p2,p3,p4,fun k d2 ys q=>?_,fun k o' q w=>?_⟩
      · rcases zav q with ⟨_,y⟩ | ⟨_,y⟩
        · cases y
        · exact p5 k _ _ y
      · rcases zav q with ⟨ek,y⟩ | ⟨_,y⟩
        · rw [ek,ai] at w
          cases w; exact hj (B.one j _ _ z)
        · exact p6 k o' y w
end
def zs7 (i:Nat) (b:Addr) (ds:List D) (g:TG') (tb:TS') (N:Ends'):List D→Sts→Prop
  | [],Γ=>Γ[i]?=some (.bk (fun z=>z) b (.lst ds))∧N.nx (Γ.set i (.own (.lst ds)))
  | d :: r,Γ=>Γ[i]?=some (.bk (fun z=>z) b (.lst ds))∧g d Γ fun Γ2=>tb { N with nx:=zs7 i b ds g tb N r,ct:=zs7 i b ds g tb N r,bk:=fun Γ3=>Γ3[i]?=some (.bk (fun z=>z) b (.lst ds))∧N.nx (Γ3.set i (.own (.lst ds))) } Γ2
def zaA (n i:Nat) (g:TG') (tb:TS'):TS':=fun N Γ=>i<n∧∃ ds,Γ[i]?=some (.own (.lst ds))∧∀ b,zs7 i b ds g tb N ds (Γ.set i (.bk (fun z=>z) b (.lst ds)))
section
variable {X:Cx}
end
end PL
namespace PL
open PySem L2
section
variable {X:Cx}
end
end PL
namespace PL
open PySem L2
def zbt (t u:TE'):TE':=fun Γ Q=>t Γ Q∨u Γ Q
section
variable {X:Cx}
end
end PL
namespace PL
open PySem L2
section
variable {X:Cx}
def brN (i:Nat) (b:Addr) (N:Ends'):Ends':={ nx:=fun Γ1=>∃ o',Γ1[i]?=some (.bk (fun z=>z) b o')∧N.nx (Γ1.set i (.own o')),rt:=N.rt,bk:=fun Γ1=>∃ o',Γ1[i]?=some (.bk (fun z=>z) b o')∧N.bk (Γ1.set i (.own o')),ct:=fun Γ1=>∃ o',Γ1[i]?=some (.bk (fun z=>z) b o')∧N.ct (Γ1.set i (.own o')) }
def tBr (n i:Nat) (t:TS'):TS':=fun N Γ=>i<n∧∃ o,Γ[i]?=some (.own o)∧∀ b,t (brN i b N) (Γ.set i (.bk (fun z=>z) b o))
theorem zp6 (i:Nat) {s:Stmt} {t:TS'} (h:PS' X s t):PS' X s (tBr X.N.length i t):=by
  refine ⟨PS.weak h.h ?_⟩
  rintro N2 σ H ⟨W,Hi,Γ,N,g,⟨hi,o,e,q⟩,l⟩
  obtain ⟨b,hσ,h0,g1⟩:=g.ownBk hi e; refine ⟨W,Hi,_,_,g1,q b,?_⟩
  exact ⟨fun σ' H' Hi' Γ' s1 g' ⟨o',e',q'⟩=>l.nx σ' H' Hi' _ s1 (g'.bkOwn hi e' h0) q',fun σ' H' Hi' Γ' s1 g' ⟨o',e',q'⟩=>l.bk σ' H' Hi' _ s1 (g'.bkOwn hi e' h0) q',fun σ' H' Hi' Γ' s1 g' ⟨o',e',q'⟩=>l.ct σ' H' Hi' _ s1 (g'.bkOwn hi e' h0) q',fun v σ' H' Hi' Γ' r s1 g' ro q'=>l.rt v σ' H' Hi' Γ' r s1 g' ro q'⟩
end
abbrev SpM:=OD→List D→(D→OD→Prop)→Prop
def zpD (K:PySem.W.Frag) (j:Nat) (sp:SpM):Sp:=fun vs H Q2 _=>∃ Hi b o v1 v2 ds Q,vs=v1 ++ .ref b :: v2∧v1.length=j∧zbN K Hi (v1 ++ v2) ds∧Fz Hi H∧Hi b=none∧zbF K Hi H b o∧sp o ds Q ∧
  ∀ Hi' H' v' r o',ExtB b Hi H Hi' H'→Den K Hi' v' r→zbF K Hi' H' b o'→Q r o'→Q2 v' H'
structure FnM (P:Program) (w:World) (K:PySem.W.Frag) (mg:Str→Option Value) (base:Heap) (k:Nat) (x:Str) (ps:List Str) (j:Nat) (sp:SpM):Prop where
  ex:∃ f fd,FnOk P w K mg base CX0 k f fd ps (zpD K j sp)∧zdL K fd ps []∧PySem.W.keepIn K (.ref f)=true∧mg x=some (.ref f)
class MSpM (sp:SpM):Prop where
  mono:∀ o ds Q Q',(∀ r o',Q r o'→Q' r o')→sp o ds Q→sp o ds Q'
abbrev TM':=Sts→(List D→List D→Sts→Prop)→Prop
def ztC (K:PySem.W.Frag) (n i j:Nat) (t:TM'):TA:=fun σ H Q2=>∃ W Hi Γ Q,Good K n W Hi Γ σ H∧t Γ Q∧∀ vs H' Hi' Γ' d1 d2 b v1 v2,za0 Hi Hi'→Good K n W Hi' Γ' σ H'→vs=v1 ++ .ref b :: v2→v1.length=j→σ[i]?=some (some (.ref b))→zbN K Hi' v1 d1→zbN K Hi' v2 d2→Q d1 d2 Γ'→Q2 vs H'
structure PM' (X:Cx) (i j:Nat) (es:List Expr) (t:TM'):Prop where
  pa:PA X es (ztC X.K X.N.length i j t)
  pl:zch es=true
class MM (t:TM'):Prop where
  mono:∀ Γ Q Q',(∀ d1 d2 Γ',Q d1 d2 Γ'→Q' d1 d2 Γ')→t Γ Q→t Γ Q'
section
variable {X:Cx}
def zy (i:Nat) (t:TA'):TM':=fun Γ Q=>(∃ b o,Γ[i]?=some (.bk (fun z=>z) b o))∧t Γ fun ds Γ1=>Q [] ds Γ1
theorem zdv (i:Nat) {y:Str} {q:Pos} {es:List Expr} {t:TA'} (ha:PA' X es t) (hN:X.N[i]?=some y:=by rfl) (hv:Vis X.env.scope y:=by first | exact Or.inl rfl | exact Or.inr (Or.inl rfl) | exact Or.inr (Or.inr rfl)) (hd:(y == ("__debug__":Str))=false:=by decide)
    (hcd:(y == ("__classdict__":Str))=false:=by decide):PM' X i 0 (.Name y q :: es) (zy i t):=by
  refine ⟨PA.weak (zcL (zcX (i:=i) (pos:=q) hN hv hd hcd) ha.pa (zaP rfl)) ?_,by unfold zch; rw [ha.pl]; rfl⟩
  rintro σ H Q ⟨W,Hi,Γ,Q',g,⟨⟨b,o,e⟩,h⟩,fin⟩
  obtain ⟨v,hv',dv⟩:=(g.bk i _ _ _ e).val
  cases dv.adrI
  refine ⟨.ref b,hv',W,Hi,Γ,_,g,h,?_⟩; intro vs H1 Hi1 Γ1 ds s1 g1 dl q1; exact fin _ H1 Hi1 Γ1 [] ds b [] vs s1 g1 rfl rfl hv' .nil dl q1
def zz (te:TE') (t:TM'):TM':=fun Γ Q=>te Γ fun d Γ1=>t Γ1 fun d1 d2 Γ2=>Q (d :: d1) d2 Γ2
theorem zaY {i j:Nat} {e:Expr} {es:List Expr} {te:TE'} {t:TM'} (he:PE' X e te) (hr:PM' X i j es t) (hs:zc4 e=false:=by rfl):PM' X i (j+1) (e :: es) (zz te t):=by
  refine ⟨PA.weak (zcL he.h hr.pa (zaP hs)) ?_,by unfold zch; rw [hs,hr.pl]; rfl⟩
  rintro σ H Q ⟨W,Hi,Γ,Q',g,h,fin⟩
  refine ⟨W,Hi,Γ,_,g,h,?_⟩
  rintro x H1 ⟨Hi1,dx,Γ1,s1,g1,den1,h1⟩
  refine ⟨W,Hi1,Γ1,_,g1,h1,?_⟩; intro vs H2 Hi2 Γ2 d1 d2 b v1 v2 s2 g2 ev hj hb dl1 dl2 q
  exact fin (x :: vs) H2 Hi2 Γ2 (dx :: d1) d2 b (x :: v1) v2 (s1.trans s2) g2 (by rw [ev]; rfl) (by rw [List.length_cons,hj]) hb (.cons (den1.mono s2) dl1) dl2 q
instance {i:Nat} {t:TA'} [MA t]:MM (zy i t):=⟨fun Γ _ _ h ⟨a,q⟩=>⟨a,MA.mono (t:=t) Γ _ _ (fun _ _ z=>h _ _ _ z) q⟩⟩
instance {te:TE'} {t:TM'} [ME te] [MM t]:MM (zz te t):=⟨fun Γ _ _ h q=>ME.mono (t:=te) Γ _ _ (fun _ _ z=>MM.mono (t:=t) _ _ _ (fun _ _ _ z=>h _ _ _ z) z) q⟩
def zB (i:Nat) (sp:SpM) (t:TM'):TE':=fun Γ Q=>t Γ fun d1 d2 Γ1=>∃ b o,Γ1[i]?=some (.bk (fun z=>z) b o)∧sp o (d1 ++ d2) fun r o'=>Q r (Γ1.set i (.bk (fun z=>z) b o'))
theorem zcJ {i j k:Nat} {x:Str} {ps:List Str} {sp:SpM} {es:List Expr} {t:TM'} {p pos:Pos} {e:Expr} (h:FnM X.prog X.w X.K X.mg X.base k x ps j sp) (hr:Room k X.A) (ha:PM' X i j (e :: es) t) (hg:Gl X x:=by rfl) (hdb:(x == ("__debug__":Str))=false:=by decide) :
    PE' X (.Call (.Name x p) (e :: es) [] pos) (zB i sp t):=by
  obtain ⟨f,fd,F,bd,hk,hm⟩:=h.ex; obtain ⟨p1,p2⟩:=zbd ha.pl; refine ⟨PE.weak (zhk (E:=E0) (dvs:=[]) F hr hg hm hk bd .nil zoe ha.pa hdb (zaP p1) (zbD p2)) ?_⟩
  rintro σ H Q ⟨W,Hi,Γ,Q',g,h,fin⟩
  refine ⟨W,Hi,Γ,_,g,h,?_⟩
  rintro vs H1 Hi1 Γ1 d1 d2 b' v1 v2 s1 g1 ev hj hb dl1 dl2 ⟨b,o,e1,q1⟩
  have B:=g1.bk i _ b o e1; obtain ⟨v,hv1,dv⟩:=B.val
  cases dv.adrI
  rw [hb] at hv1; cases hv1; rw [List.append_nil]; refine ⟨Hi1,b',o,v1,v2,d1 ++ d2,_,ev,hj,zaU dl1 dl2,g1.fz,B.hi,B.at_,q1,?_⟩; intro Hi2 H2 v' r o' ex den at_ q2; exact fin v' H2 ⟨Hi2,r,_,s1.trans ex.hi,g1.extB e1 ex at_,den,q2⟩
instance {i:Nat} {sp:SpM} {t:TM'} [MSpM sp] [MM t]:ME (zB i sp t):=⟨fun Γ _ _ h q=>MM.mono (t:=t) Γ _ _ (fun _ _ _ ⟨b,o,e,z⟩=>⟨b,o,e,MSpM.mono (sp:=sp) _ _ _ _ (fun _ _ w=>h _ _ w) z⟩) q⟩
end
def zt (N:List Str) (j:Nat) (b:Addr) (o:OD) (ds:List D):Sts:=(ds.take j).map .val ++ .bk (fun z=>z) b o :: ((ds.drop j).map .val ++ List.replicate (N.length-(ds.length+1)) .emp)
theorem zb0 {N:List Str} {j:Nat} {b:Addr} {o:OD} {ds:List D} (hj:j≤ds.length) {k:Nat} {s:Slot} (e:(zt N j b o ds)[k]?=some s):(k=j∧s=.bk (fun z=>z) b o)∨s=.emp∨∃ d,s=.val d∧((k<j∧ds[k]?=some d)∨(j<k∧ds[k-1]?=some d)):=by
  unfold zt at e
  have hl:((ds.take j).map Slot.val).length=j:=by rw [List.length_map,List.length_take]; omega
  rcases Nat.lt_trichotomy k j with h | h | h
  · rw [List.getElem?_append_left (by rw [hl]; exact h),List.getElem?_map,List.getElem?_take,if_pos h] at e
    obtain ⟨d,hd,rfl⟩:=Option.map_eq_some_iff.mp e; exact .inr (.inr ⟨d,rfl,.inl ⟨h,hd⟩⟩)
  · rw [List.getElem?_append_right (by rw [hl]; omega),hl,h,Nat.sub_self] at e
    exact .inl ⟨h,(Option.some.inj e).symm⟩
  · rw [List.getElem?_append_right (by rw [hl]; omega),hl] at e
    obtain ⟨m,hm⟩:∃ m,k-j=m+1:=⟨k-j-1,by omega⟩
    rw [hm,List.getElem?_cons_succ] at e
    by_cases hlt:m<(ds.drop j).length
    · rw [List.getElem?_append_left (by rw [List.length_map]; exact hlt),List.getElem?_map] at e
      obtain ⟨d,hd,rfl⟩:=Option.map_eq_some_iff.mp e
      rw [List.getElem?_drop,show j+m=k-1 by omega] at hd
      exact .inr (.inr ⟨d,rfl,.inr ⟨h,hd⟩⟩)
    · rw [List.getElem?_append_right (by rw [List.length_map]; omega),List.getElem?_replicate] at e
      split at e
      · exact .inr (.inl (Option.some.inj e).symm)
      · cases e
theorem zhM {K:PySem.W.Frag} {N ps:List Str} {v1 v2:List V} {j:Nat} {b:Addr} {o:OD} {ds:List D} {Hi H:Hp} (hlen:ds.length+1=ps.length) (hpl:ps.length≤N.length) (hj:v1.length=j) (sb:Fz Hi H) (hb:Hi b=none) (at_:zbF K Hi H b o) (dl:zbN K Hi (v1 ++ v2) ds) :
    Good K N.length ⟨H,Hi,[b]⟩ Hi (zt N j b o ds) (L2.start N (v1 ++ .ref b :: v2)) H:=by
  have hvl:=zf dl; rw [List.length_append] at hvl
  have hjd:j≤ds.length:=by omega
  have st:∀ k:Nat,k<ds.length+1→(L2.start N (v1 ++ .ref b :: v2))[k]?=((v1 ++ .ref b :: v2)[k]?).map some:=fun k hk=>by
    unfold L2.start
    rw [List.getElem?_append_left (by rw [List.length_map,List.length_append,List.length_cons]; omega),List.getElem?_map]
  refine ⟨?_,sb,fun a o e _=>e,fun a o e=>⟨o,e⟩,fun a o e=>rfl,fun k d' e=>?_,fun k o' e=>?_,fun k l o1 o2 a e=>?_,fun k d' b' o' e=>?_⟩
  · unfold L2.start
    rw [List.length_append,List.length_map,List.length_replicate,List.length_append,List.length_cons]; omega
  · rcases zb0 hjd e with ⟨_,z⟩ | z | ⟨d2,z,h⟩
    · cases z
    · cases z
    · cases z
      rcases h with ⟨hk,hd⟩ | ⟨hk,hd⟩
      · obtain ⟨w,e1,dw⟩:=zbz dl hd
        rw [List.getElem?_append_left (by omega)] at e1
        refine ⟨w,?_,dw⟩
        rw [st k (by omega),List.getElem?_append_left (by omega),e1]
        rfl
      · obtain ⟨w,e1,dw⟩:=zbz dl hd
        have hk1:=(List.getElem?_eq_some_iff.mp hd).1
        rw [List.getElem?_append_right (by omega)] at e1
        refine ⟨w,?_,dw⟩
        obtain ⟨m,hm⟩:∃ m,k-v1.length=m+1:=⟨k-v1.length-1,by omega⟩
        rw [st k (by omega),List.getElem?_append_right (by omega),hm,List.getElem?_cons_succ,show m=k-1-v1.length by omega,e1]
        rfl
  · rcases zb0 hjd e with ⟨_,z⟩ | z | ⟨d2,z,_⟩ <;> cases z
  · rcases zb0 hjd e with ⟨_,z⟩ | z | ⟨d2,z,_⟩ <;> cases z
  · rcases zb0 hjd e with ⟨hk,z⟩ | z | ⟨d2,z,_⟩
    · cases z
      refine ⟨⟨.ref b,?_,.adr b⟩,znd,hb,fun z=>absurd (List.mem_singleton.mpr rfl) z,at_,fun l d2 o2 q=>?_,fun l o2 q=>?_⟩
      · rw [st k (by omega),List.getElem?_append_right (by omega),hk,hj,Nat.sub_self]
        rfl
      · rcases zb0 hjd q with ⟨hl,z⟩ | z | ⟨d2,z,_⟩
        · rw [hl,hk]
        · cases z
        · cases z
      · rcases zb0 hjd q with ⟨hl,z⟩ | z | ⟨d2,z,_⟩ <;> cases z
    · cases z
    · cases z
section
variable {P:Program} {w:World} {K:PySem.W.Frag} {mg:Str→Option Value} {base:Heap}
theorem Fun.okM {x qual:Str} {st:Stmt} {f:Addr} {fd:FuncData} {N ps:List Str} {k j:Nat} {sp:SpM} (F:Fun K x qual st f fd) (S:FnScope N ps (zj st)) (len:∀ o ds Q,sp o ds Q→ds.length+1=ps.length)
    (hbody:∀ (cdv:Value) (A:Around) (outer:List Env) (s:Shared) (H:Hp) (E:XK),Room k (A.deeper (PyProof.Rows.envOfC qual (zj st) s.heap.objs.size f cdv))→∀ b o ds Q,sp o ds Q →
      ∃ t,PSs' (zjo CX0 P w K mg base N qual (zj st) f cdv A outer s H E).nox (zbL st) t∧t { nx:=fun Γ=>∃ o',Γ[j]?=some (.bk (fun z=>z) b o')∧Q .non o',rt:=fun r Γ=>∃ o' d',r=.val d'∧Γ[j]?=some (.bk (fun z=>z) b o')∧Q d' o' } (zt N j b o ds)):FnOk P w K mg base CX0 (k+1) f fd ps (zpD K j sp):=by
  refine F.ok S (fun vs H Q E h=>?_) (fun cdv A outer s H vs Q E hr h=>?_)
  · obtain ⟨Hi,b,o,v1,v2,ds,Q',rfl,_,dl,_,_,_,h,_⟩:=h
    have:=len o ds Q' h
    have hl:=zf dl; rw [List.length_append] at hl; rw [List.length_append,List.length_cons]; omega
  obtain ⟨Hi,b,o,v1,v2,ds,Q',rfl,hj,dl,sb,hb,at_,h,fin⟩:=h; obtain ⟨t,h1,h2⟩:=hbody cdv A outer s H E hr b o ds Q' h; have hlen:=len o ds Q' h
  have hpl:ps.length≤N.length:=by have:=congrArg List.length S.pre; rw [List.length_take] at this; omega
  refine ⟨_,h1.h,⟨H,Hi,[b]⟩,Hi,zt N j b o ds,_,zhM hlen hpl hj sb hb at_ dl,h2,?_⟩
  have ex:∀ {σ':St} {H' Hi':Hp} {Γ':Sts},za0 Hi Hi'→Good K N.length ⟨H,Hi,[b]⟩ Hi' Γ' σ' H'→ExtB b Hi H Hi' H':=fun s1 g1 =>
    ⟨s1,fun a o ne e=>g1.keep a o e (by simpa using ne),g1.fz,fun a o e=>g1.fro a o e⟩
  refine ⟨fun σ' H' Hi' Γ' s1 g1 q=>?_,fun _ _ _ _ _ _ q=>q.elim,fun _ _ _ _ _ _ q=>q.elim,fun v σ' H' Hi' Γ' r s1 g1 ro q=>?_⟩
  · obtain ⟨o',e,q⟩:=q
    exact fin Hi' H' .non .non o' (ex s1 g1) .non (g1.bk j _ b o' e).at_ q
  · obtain ⟨o',d',rfl,e,q⟩:=q
    exact fin Hi' H' v d' o' (ex s1 g1) ro (g1.bk j _ b o' e).at_ q
theorem Df.okM {k j:Nat} {x:Str} {ps:List Str} {sp:SpM} {st:Stmt} {N:List Str} (d:Df K mg x st ps) (S:FnScope N ps (zj st)) (len:∀ o ds Q,sp o ds Q→ds.length+1=ps.length)
    (hbody:∀ (f:Addr) (cdv:Value) (A:Around) (outer:List Env) (s:Shared) (H:Hp) (E:XK),Room k (A.deeper (PyProof.Rows.envOfC x (zj st) s.heap.objs.size f cdv))→∀ b o ds Q,sp o ds Q →
      ∃ t,PSs' (zjo CX0 P w K mg base N x (zj st) f cdv A outer s H E).nox (zbL st) t∧t { nx:=fun Γ=>∃ o',Γ[j]?=some (.bk (fun z=>z) b o')∧Q .non o',rt:=fun r Γ=>∃ o' d',r=.val d'∧Γ[j]?=some (.bk (fun z=>z) b o')∧Q d' o' } (zt N j b o ds)):FnM P w K mg base (k+1) x ps j sp:=by
  obtain ⟨f,fd,F,b,m⟩:=d.ex; exact ⟨f,fd,PL.Fun.okM F S len (hbody f),b,F.kp,m⟩
end
section
variable {X:Cx}
def zaj (i:Nat) (te:TE'):TS':=fun N Γ=>(∃ b xs,Γ[i]?=some (.bk (fun z=>z) b (.lst xs)))∧te Γ fun v Γ1=>∃ b ys,Γ1[i]?=some (.bk (fun z=>z) b (.lst ys))∧ys.length<sizeLine∧N.nx (Γ1.set i (.bk (fun z=>z) b (.lst (ys ++ [v]))))
theorem zhh (i:Nat) {x:Str} {e:Expr} {te:TE'} {pos p apos cpos:Pos} (he:PE' X e te) (hN:X.N[i]?=some x:=by rfl) (hv:Vis X.env.scope x:=by first | exact Or.inl rfl | exact Or.inr (Or.inl rfl) | exact Or.inr (Or.inr rfl)) (hd:(x == ("__debug__":Str))=false:=by decide)
    (hcd:(x == ("__classdict__":Str))=false:=by decide) (hst:zc4 e=false:=by rfl)
    (hbase:attributeBase (.Name x p) "append" X.env (eval (.Name x p) X.env)=eval (.Name x p) X.env:=by rfl) (hline:(apos.endLine == cpos.line)=true:=by rfl)
    (hs:swapsWith (.Call (.Attribute (.Name x p) "append" apos) [e] [] cpos) none pos.line X.env=pure false:=by rfl) :
    PS' X (.Expr (.Call (.Attribute (.Name x p) "append" apos) [e] [] cpos) pos) (zaj i te):=by
  have hfew:((backTo cpos (starEach [e] X.env)).all (fun x=>!x.1) && (backToKw cpos (keywordEach [] X.env)).all (fun x=>x.1.isSome)
      && decide ([e].length+([]:List Keyword).length+(if ([]:List Keyword).isEmpty then 0 else 1)<30))=true:=by
    rw [zaP hst]; rfl
  have base:=zeE (zj5 PySem.F.plainAttrs_list PySem.F.slot_list_append PySem.F.type_list_append (zc2 (X:=X)) (zcX (i:=i) (pos:=p) hN hv hd hcd) (zcL he.h zfh (zaP hst)) hbase hfew hline (zaP hst) rfl) hs; refine ⟨PS.weak base ?_⟩
  rintro N2 σ H ⟨W,Hi,Γ,N,g,⟨⟨b,xs,e0⟩,q⟩,l⟩
  have B:=g.bk i _ b _ e0; obtain ⟨v0,hv0,den0⟩:=B.val
  cases den0.adrI
  obtain ⟨vs0,hb4,_⟩:=B.at_; refine ⟨.ref b,hv0,.inl ⟨rfl,vs0,SqL.of hb4⟩,W,Hi,Γ,_,g,q,?_⟩
  rintro v H1 ⟨Hi1,d1,Γ1,s1,g1,den,b1,ys,e1,hl,q1⟩
  have B1:=g1.bk i _ b1 _ e1; obtain ⟨w,hw,dw⟩:=B1.val
  cases dw.adrI
  rw [hv0] at hw; cases hw; obtain ⟨vs,k4,k5⟩:=B1.at_
  refine ⟨b,vs,v,rfl,rfl,k4,by rw [zf k5]; exact hl,?_⟩
  exact l.nx σ _ Hi1 _ s1 (g1.extB (xs':=.lst (ys ++ [d1])) e1 (ExtB.put g1.fz B1.hi k4 (fun _ z=>by cases z)) ⟨vs ++ [v],zO,zaU k5 (.cons den .nil)⟩) q1
instance {i:Nat} {te:TE'} [ME te]:MS (zaj i te):=⟨fun N N' Γ h ⟨a,q⟩=>⟨a,ME.mono (t:=te) _ _ _ (fun _ _ ⟨b,ys,e,l,z⟩=>⟨b,ys,e,l,h.nx _ z⟩) q⟩⟩
end
end PL
namespace PL
open PySem L2
abbrev TR':=Sts→(Res→Sts→Prop)→Prop
def rOf (K:PySem.W.Frag) (n:Nat) (t:TR'):TE:=fun σ H Q2=>∃ W Hi Γ Q,Good K n W Hi Γ σ H∧t Γ Q∧∀ v H' Hi' Γ' r,za0 Hi Hi'→Good K n W Hi' Γ' σ H'→zo8 K W.H₀ Hi' H' v r→Q r Γ'→Q2 v H'
structure PR' (X:Cx) (e:Expr) (t:TR'):Prop where
  h:PE X e (rOf X.K X.N.length t)
section
variable {X:Cx} {e a b c:Expr} {pos:Pos}
def zam (te:TE'):TR':=fun Γ Q=>te Γ fun d Γ1=>Q (.val d) Γ1
theorem zp7 {te:TE'} (h:PE' X e te):PR' X e (zam te):=by
  refine ⟨PE.weak h.h ?_⟩
  rintro σ H Q ⟨W,Hi,Γ,Q',g,h,fin⟩
  refine ⟨W,Hi,Γ,_,g,h,?_⟩
  rintro v H1 ⟨Hi1,d,Γ1,s1,g1,den,q⟩
  exact fin v H1 Hi1 Γ1 (.val d) s1 g1 den q
def zbn (t:TT') (ta tb:TR'):TR':=fun Γ Q=>t Γ fun c Γ1=>if c=true then ta Γ1 Q else tb Γ1 Q
theorem zsl {tc:TT'} {ta tb:TR'} (hc:PT' X c tc) (ha:PR' X a ta) (hb:PR' X b tb):PR' X (.IfExp c a b pos) (zbn tc ta tb):=by
  refine ⟨PE.weak (zij hc.h ha.h hb.h) ?_⟩
  rintro σ H Q ⟨W,Hi,Γ,Q',g,h,fin⟩
  refine ⟨W,Hi,Γ,_,g,h,?_⟩; intro k H1 Hi1 Γ1 s1 g1 h1
  cases k with
  | true=>exact ⟨W,Hi1,Γ1,_,g1,h1,fun v H2 Hi2 Γ2 r s2 g2 ro q=>fin v H2 Hi2 Γ2 r (s1.trans s2) g2 ro q⟩
  | false=>exact ⟨W,Hi1,Γ1,_,g1,h1,fun v H2 Hi2 Γ2 r s2 g2 ro q=>fin v H2 Hi2 Γ2 r (s1.trans s2) g2 ro q⟩
theorem zms {K:PySem.W.Frag} {t:D}:Hol K fun z=>.tup [t,z]:=by
  intro b Hi v o hb den
  cases den with
  | tup h l r =>
    rename_i a vs
    match vs,l with
    | [v0,v1],_ =>
      have r0:=r 0 v0 t rfl rfl; have r1:=r 1 v1 (.adr b) rfl rfl
      cases r1.adrI
      exact Den.mkT h (.cons r0 (.cons hb .nil))
def zan (n i:Nat) (te:TE'):TR':=fun Γ Q=>te Γ fun d Γ1=>i<n∧∃ o,Γ1[i]?=some (.own o)∧Q (.bk (fun z=>.tup [d,z]) o) Γ1
theorem zp8 (i:Nat) {x:Str} {te:TE'} {p:Pos} {x1} (he:PE' X e te) (hN:X.N[i]?=some x:=by rfl) (hv:Vis X.env.scope x:=by first | exact Or.inl rfl | exact Or.inr (Or.inl rfl) | exact Or.inr (Or.inr rfl)) (hd:(x == ("__debug__":Str))=false:=by decide)
    (hcd:(x == ("__classdict__":Str))=false:=by decide) (hs:zc4 e=false:=by rfl):PR' X (.Tuple [e,.Name x p] x1 pos) (zan X.N.length i te):=by
  refine ⟨PE.weak (zmU (zcL he.h (zcL (zcX (i:=i) (pos:=p) hN hv hd hcd) zfh (zaP rfl)) (zaP hs))) ?_⟩
  rintro σ H Q ⟨W,Hi,Γ,Q',g,h,fin⟩
  refine ⟨W,Hi,Γ,_,g,h,?_⟩
  rintro v H1 ⟨Hi1,d,Γ1,s1,g1,den,hi,o,e1,q⟩
  obtain ⟨b,h1,h2,h3,h4⟩:=g1.own i o e1
  have hb:σ[i]?=some (some (.ref b)):=by
    unfold adr at h1; rw [if_pos hi] at h1; exact zdd h1
  refine ⟨.ref b,hb,by show 2≤sizeLine; decide,fun a ha=>?_⟩
  have ex:=Ext.new g1.fz ha (.tup [v,.ref b]); obtain ⟨u,hu⟩:=h4.there
  have hab:b≠a:=fun z=>by rw [z,ha] at hu; cases hu
  exact fin _ _ _ Γ1 (.bk (fun z=>.tup [d,z]) o) (s1.trans ex.hi) (g1.ext ex) ⟨b,Den.mkT zO (.cons (den.mono ex.hi) (.cons (.adr b) .nil)),zms,by rw [zaD hab]; exact h2,h3 hi,h4.mono ex.hi fun u q=>ex.h b u q⟩ q
def zap (t:TR'):TS':=fun N Γ=>t Γ fun r Γ1=>N.rt r Γ1
theorem zn0 {t:TR'} (h:PR' X e t):PS' X (.Return (some e) pos) (zap t):=by
  refine ⟨PS.weak (zif h.h) ?_⟩
  rintro N2 σ H ⟨W,Hi,Γ,N,g,q,l⟩
  refine ⟨W,Hi,Γ,_,g,q,?_⟩; intro v H1 Hi1 Γ1 r s1 g1 ro q1; exact l.rt v σ H1 Hi1 Γ1 r s1 g1 ro q1
def zbr (i:Nat) (N:Ends') (Γ:Sts):Res→Prop
  | .val d=>N.nx (Γ.set i (.val d))
  | .own o=>N.nx (Γ.set i (.own o))
  | .bk d o=>∀ b,N.nx (Γ.set i (.bk d b o))
def zao (i:Nat) (sp:Sp') (t:TA'):TS':=fun N Γ=>t Γ fun ds Γ1=>sp ds fun r=>zbr i N Γ1 r
theorem znZ (i:Nat) {k:Nat} {f x:Str} {ps:List Str} {sp:Sp'} {es:List Expr} {t:TA'} {p pos' cp:Pos} (hnd:X.N.Nodup) (h:Fn X.prog X.w X.K X.mg X.base k f ps sp) (hr:Room k X.A) (ha:PA' X (e :: es) t) (hi:X.N[i]?=some x:=by rfl) (hx:Loc X.env.scope x:=by first | exact Or.inl rfl | exact Or.inr rfl) (hg:Gl X f:=by rfl) (hdb:(f == ("__debug__":Str))=false:=by decide)
    (hs:swapsWith (.Call (.Name f p) (e :: es) [] cp) (some (.Name x pos')) pos.line X.env=pure false:=by rfl)
    (hf:X.fn x=true∨X.env.scope.names.lookup x=some .local:=by first | exact .inl rfl | exact .inr rfl | assumption):PS' X (.Assign [.Name x pos'] (.Call (.Name f p) (e :: es) [] cp) pos) (zao i sp t):=by
  obtain ⟨fa,fd,F,bd,hk,hm,_⟩:=h.ex; refine ⟨PS.weak (zjT (i:=i) hnd hi hx (zhk (E:=E0) (dvs:=[]) F hr hg hm hk bd .nil zoe ha.pa hdb (zaP (zbd ha.pl).1) (zbD (zbd ha.pl).2)) hs hf) ?_⟩; have hin:=(List.getElem?_eq_some_iff.mp hi).1
  rintro N2 σ H ⟨W,Hi,Γ,N,g,h,l⟩
  refine ⟨W,Hi,Γ,_,g,h,?_⟩; intro vs H1 Hi1 Γ1 ds s1 g1 dl q; rw [List.append_nil]; refine ⟨Hi1,ds,_,g1.fz,dl,q,?_⟩; intro Hi2 H2 v r ex ro q2
  cases r with
  | val d=>exact l.nx _ H2 Hi2 _ (s1.trans ex.hi) ((g1.ext ex).set hin ro) q2
  | own o =>
    obtain ⟨a,rfl,h1,h2,h3⟩:=ro; have nw:=zef g1 ex h1 h2 h3; exact l.nx _ H2 Hi2 _ (s1.trans ex.hi) ((g1.ext ex).setO hin nw.hi nw.h0 nw.ne nw.own) q2
  | bk d o =>
    obtain ⟨b,dv,hol,h1,h2,h3⟩:=ro; have nw:=zef g1 ex h1 h2 h3; exact l.nx _ H2 Hi2 _ (s1.trans ex.hi) ((g1.ext ex).setB hin dv hol nw.hi nw.h0 nw.ne nw.own) (q2 b)
def zat (i:Nat) (te:TE'):TS':=fun N Γ=>∃ d b xs,Γ[i]?=some (.bk (fun z=>.tup [d,z]) b (.lst xs))∧te Γ fun v Γ1=>∃ ys,Γ1[i]?=some (.bk (fun z=>.tup [d,z]) b (.lst ys))∧ys.length<sizeLine∧N.nx (Γ1.set i (.bk (fun z=>.tup [d,z]) b (.lst (ys ++ [v]))))
theorem zn4 (i:Nat) {x:Str} {te:TE'} {j p p2 q2 apos cpos:Pos} {j2} (he:PE' X e te) (hN:X.N[i]?=some x:=by rfl) (hv:Vis X.env.scope x:=by first | exact Or.inl rfl | exact Or.inr (Or.inl rfl) | exact Or.inr (Or.inr rfl)) (hd:(x == ("__debug__":Str))=false:=by decide)
    (hcd:(x == ("__classdict__":Str))=false:=by decide) (hst:zc4 e=false:=by rfl)
    (hbase:attributeBase (.Subscript (.Name x p) (.Constant (.int 1) j2 q2) p2) "append" X.env (eval (.Subscript (.Name x p) (.Constant (.int 1) j2 q2) p2) X.env)=eval (.Subscript (.Name x p) (.Constant (.int 1) j2 q2) p2) X.env:=by rfl) (hline:(apos.endLine == cpos.line)=true:=by rfl)
    (hs:swapsWith (.Call (.Attribute (.Subscript (.Name x p) (.Constant (.int 1) j2 q2) p2) "append" apos) [e] [] cpos) none pos.line X.env=pure false:=by rfl) :
    PS' X (.Expr (.Call (.Attribute (.Subscript (.Name x p) (.Constant (.int 1) j2 q2) p2) "append" apos) [e] [] cpos) pos) (zat i te):=by
  have hfew:((backTo cpos (starEach [e] X.env)).all (fun x=>!x.1) && (backToKw cpos (keywordEach [] X.env)).all (fun x=>x.1.isSome)
      && decide ([e].length+([]:List Keyword).length+(if ([]:List Keyword).isEmpty then 0 else 1)<30))=true:=by
    rw [zaP hst]; rfl
  have base:=zeE (zj5 PySem.F.plainAttrs_list PySem.F.slot_list_append PySem.F.type_list_append (zc2 (X:=X)) (zqg (pos:=p2) znc (zcX (i:=i) (pos:=p) hN hv hd hcd) (zj3 (i:=1) (j:=j2) (pos:=q2)) (by intro _ _; rfl)) (zcL he.h zfh (zaP hst)) hbase hfew hline (zaP hst) rfl) hs
  refine ⟨PS.weak base ?_⟩
  rintro N2 σ H ⟨W,Hi,Γ,N,g,⟨d,b,xs,e0,q⟩,l⟩
  have B:=g.bk i _ b _ e0; obtain ⟨v0,hv0,den0⟩:=B.val; obtain ⟨a,vs,rfl,sq,dl⟩:=den0.tupI; obtain ⟨w1,w2,rfl,d1,d2⟩:=zoZ dl
  cases d2.adrI
  obtain ⟨vs0,hb4,_⟩:=B.at_; refine ⟨.ref a,hv0,a,[w1,.ref b],1,.ref b,rfl,rfl,zaJ g.sub sq,rfl,.inl ⟨rfl,vs0,SqL.of hb4⟩,W,Hi,Γ,_,g,q,?_⟩
  rintro v H1 ⟨Hi1,dv,Γ1,s1,g1,den,ys,e1,hl,q1⟩
  have B1:=g1.bk i _ b _ e1; obtain ⟨vs,k4,k5⟩:=B1.at_
  refine ⟨b,vs,v,rfl,rfl,k4,by rw [zf k5]; exact hl,?_⟩
  exact l.nx σ _ Hi1 _ s1 (g1.extB (xs':=.lst (ys ++ [dv])) e1 (ExtB.put g1.fz B1.hi k4 (fun _ z=>by cases z)) ⟨vs ++ [v],zO,zaU k5 (.cons den .nil)⟩) q1
end
end PL
namespace L2
open PySem PySem.Spec PyProof.Rows
section
variable {X:Cx}
def znO (K:PySem.W.Frag):R2:=fun x y H Q=>x=.non∧∃ p vs,y=.ref p∧SqL K H p vs∧(∀ v ∈ vs,v=.non∨∃ a ws,v=.ref a∧SqT K H a ws)∧Q (.bl (!(vs.any zrG))) H
theorem zj8 (hu:X.A.units+1<cLine):OpR X (compareOp .NotIn) (znO X.K):=by
  intro pins s σ H x y v u Q I rx ry h; obtain ⟨rfl,p,vs,rfl,hq,hv,q⟩:=h; cases rx; cases ry; obtain ⟨its,r,pl,hz⟩:=I.list hq
  have hm:∀ w ∈ its,SeqAt.EqAt X.A.in1 s w .none (zlX w):=fun w hw=>by
    obtain ⟨i,hi,e⟩:=List.getElem_of_mem hw
    have hi':i<vs.length:=by rw [r.length]; exact hi
    have rr:=PL.paired_get i r (List.getElem?_eq_getElem hi') (List.getElem?_eq_getElem hi); rw [e] at rr
    rcases hv _ (List.getElem_mem hi') with z | ⟨a,ws,z,ht⟩
    · rw [z] at rr
      cases rr; exact SeqAt.EqAt.same _
    · rw [z] at rr
      cases rr; obtain ⟨jts,r2,pl2,_⟩:=I.tuple ht; exact SeqAt.EqAt.tuple_none pl2 hu
  refine SeqAt.notIn_listAt zlX pl.isList (fun w hw=>hm w (by simpa using hw)) ⟨.bl _,H,I,rfl,?_⟩
  rw [show its.toArray.any zlX=its.any zlX by simp,zhY r fun v hv'=>(hv v hv').imp id fun ⟨a,ws,e,_⟩=>⟨a,e⟩]
  exact q
end
end L2
namespace PL
open PySem L2
section
variable {X:Cx}
def zid:R2':=fun x y Q=>∃ ds:List D,x=.non∧y=.lst ds∧(∀ d ∈ ds,d=.non∨∃ es,d=.tup es)∧Q (.bl (!(ds.any zpg)))
theorem zlR (hu:X.A.units+1<cLine):Op2 X (compareOp .NotIn) zid:=⟨_,zj8 hu,by
  rintro Hi H x y dx dy Q Q2 s d1 d2 ⟨ds,rfl,rfl,hd,q⟩ fin
  obtain ⟨a,vs,rfl,h1,h2⟩:=d2.lstI; obtain ⟨k1,k2⟩:=zf9 s.sub h2 hd; refine ⟨d1.nonI,a,vs,rfl,zaI s.sub h1,k1,?_⟩; rw [k2]; exact fin Hi H _ _ (Ext.refl s) (.bl _) q⟩
instance:MR2 zid:=⟨fun _ _ _ _ h ⟨ds,a,b,c,q⟩=>⟨ds,a,b,c,h _ q⟩⟩
end
end PL
namespace K83
open PySem L2 Lb PL MT M04 MS M70 M71 M81 M73 M72 M82 M83 M84
def top (i:Nat):Stmt:=PySem.Challenge.pw_codemend_k83_place_by_place.main.body.getD i (.Pass ⟨0,0,0,0⟩)
abbrev zcT:Stmt:=top 2
abbrev zcW:Stmt:=top 3
abbrev zcG:Stmt:=top 5
abbrev zdT:Stmt:=top 6
abbrev zcU:Stmt:=top 7
abbrev zdN:Stmt:=top 9
abbrev zed:Stmt:=top 10
abbrev zcV:Stmt:=top 11
abbrev zeA:Stmt:=top 12
abbrev zdQ:Stmt:=top 14
abbrev zeB:Stmt:=top 15
abbrev zda:Stmt:=top 16
abbrev zcF:Stmt:=top 17
abbrev zdu:Stmt:=top 18
abbrev zdb:Stmt:=top 19
abbrev zdR:Stmt:=top 20
abbrev zcS:Stmt:=top 21
abbrev zec:Stmt:=top 22
abbrev zdS:Stmt:=top 23
abbrev zbW:Stmt:=top 24
abbrev zdO:Stmt:=top 25
abbrev zcf:Stmt:=top 26
abbrev zeC:Stmt:=top 27
abbrev zbS:Stmt:=top 28
abbrev zb8:Stmt:=top 29
abbrev zb2:Stmt:=top 30
abbrev zdP:Stmt:=top 31
abbrev ze2:Stmt:=top 32
def keyD (l:List Nat):D:=.tup [.int (zdw l).1,.str (zdw l).2]
def zbV:Sp':=fun ds Q=>∃ l,ds=[.str l]∧l.length≤1000∧Q (.val (.str (cut l)))
def zbU:Sp':=fun ds Q=>∃ l,ds=[.str l]∧zaH l=true∧Q (.val (keyD l))
def zby:Sp':=fun ds Q=>∃ l,ds=[.str l]∧zaH l=true∧Q (.val (keyD l))
def zbI:Sp':=fun ds Q=>∃ t l,ds=[trD t,.str l]∧Q (.val (zbX (zb l t.kds)))
def zb1:Sp':=fun ds Q=>∃ t l,ds=[trD t,.str l]∧Q (.val (zbX (zb l t.kds)))
def zbP:Sp':=fun ds Q=>∃ ts:List Tr,ds=[.tup (ts.map trD)]∧(ts.flatMap Tr.kds).length≤1000∧Q (.own (.lst ((ts.flatMap Tr.kds).map trD)))
def zcA:Sp':=fun ds Q=>∃ ts:List Tr,ds=[.tup (ts.map trD)]∧(ts.flatMap Tr.kds).length≤1000∧(zg4 (zaL (ts.flatMap Tr.kds))).length<64∧(∀ k ∈ ts.flatMap Tr.kds,zaH k.lab=true)∧Q (.own (.lst ((ze1 (zg4 (zaL (ts.flatMap Tr.kds)))).map .str)))
def zco:Sp':=fun ds Q=>∃ c f:Int,ds=[.int c,.int f]∧∀ m:Int,0≤m→m<2147483647→Q (.val (.int m))
def zbH:Sp':=fun ds Q=>∃ c:Int,ds=[.int c]∧∀ l,Q (.val (.str l))
def zaS:Sp':=fun ds Q=>∃ c:Int,ds=[.int c]∧∀ ws:Pl,ws.length≤3→Q (.val (plc ws))
def zce:Sp':=fun ds Q=>∃ c:Int,ds=[.int c]∧∀ l,zaH l=true→Q (.val (.str l))
def zb4:Sp':=fun ds Q=>∃ d ks,ds=[d]∧(d=.lst (ks.map trD)∨d=.tup (ks.map trD))∧(∀ k ∈ ks,zaH k.lab=true)∧ks.length<64∧Q (.val (.tup ((zcR ks).map trD)))
def zdq:Sp':=fun ds Q=>∃ c:Int,ds=[.int c]∧∀ t,Wf 1 3 t→zaH t.lab=true→cnt t≤4→Q (.val (trD t))
def zbu:Nat→Sp'
  | 0=>fun _ _=>False
  | n+1=>fun ds Q=>∃ t p c,ds=[trD t,plc p]∧Wf c (n+1) t∧p.length+n≤100∧M71.cnt t≤63∧Q (.val (.lst ((ze0 t p).map plc)))
def zdA:Sp':=fun ds Q=>∃ t p c n,ds=[trD t,plc p]∧Wf c n t∧c≤60∧Q (.val (zbX (zS t p)))
def zaN:Nat→Sp'
  | 0=>fun _ _=>False
  | n+1=>fun ds Q=>∃ t p ws ks c m,ds=[trD t,plc p,plc ws,.tup (ks.map trD)]∧Wf c m t∧c≤60∧p.length≤n∧Q (.val (trD (zcs t p ws ks)))
def za1:Sp':=fun ds Q=>∃ t x c,ds=[trD t,.int x]∧Wf c 9 t∧c≤50∧M71.cnt t≤63∧∀ t',Wf (c+1) 9 t'→M71.cnt t'≤63→t'.lab=t.lab→One t t'→Q (.val (trD t'))
def zdp:Sp':=fun ds Q=>∃ ns:List Int,ds=[.lst (ns.map .int)]∧ns.length≤50∧∀ t,Wf ns.length 9 t→M71.cnt t≤63→t.lab=[]→Q (.val (trD t))
instance:MSp zbI:=⟨fun _ _ _ h ⟨t,l,e,q⟩=>⟨t,l,e,h _ q⟩⟩
instance:MSp zb1:=⟨fun _ _ _ h ⟨t,l,e,q⟩=>⟨t,l,e,h _ q⟩⟩
instance:MSp zco:=⟨fun _ _ _ h ⟨c,f,e,q⟩=>⟨c,f,e,fun m a b=>h _ (q m a b)⟩⟩
instance:MSp zbH:=⟨fun _ _ _ h ⟨c,e,q⟩=>⟨c,e,fun l=>h _ (q l)⟩⟩
instance {n:Nat}:MSp (zbu n):=⟨fun _ _ _ h q=>by
  cases n with
  | zero=>exact q
  | succ n =>
    obtain ⟨t,p,c,e,a,b,z,q⟩:=q; exact ⟨t,p,c,e,a,b,z,h _ q⟩⟩
instance {n:Nat}:MSp (zaN n):=⟨fun _ _ _ h q=>by
  cases n with
  | zero=>exact q
  | succ n =>
    obtain ⟨t,p,ws,ks,c,m,e,a,b,z,q⟩:=q; exact ⟨t,p,ws,ks,c,m,e,a,b,z,h _ q⟩⟩
instance:MSp za1:=⟨fun _ _ _ h ⟨t,x,c,e,a,b,z,q⟩=>⟨t,x,c,e,a,b,z,fun t' p1 p2 p3 p4=>h _ (q t' p1 p2 p3 p4)⟩⟩
theorem zaT {n:Nat} (h:n≤1000):n≤sizeLine:=Nat.le_of_lt (za6 h)
theorem ziK {α:Type} (xs:List α) {i:Int} (h0:0≤i) (h1:i<xs.length):∃ d,atI xs i=some d∧d ∈ xs:=by
  obtain ⟨n,rfl⟩:=Int.eq_ofNat_of_zero_le h0
  have hn:n<xs.length:=by omega
  exact ⟨xs[n],zdx (List.getElem?_eq_getElem hn),List.getElem_mem hn⟩
@[simp] theorem sz1:1≤sizeLine:=zaT (by decide)
@[simp] theorem sz2:2≤sizeLine:=zaT (by decide)
@[simp] theorem sz3:3≤sizeLine:=zaT (by decide)
@[simp] theorem sz6:6≤sizeLine:=zaT (by decide)
@[simp] theorem zte:36≤sizeLine:=zaT (by decide)
theorem zgB {n:Int} (h0:0≤n) (h1:n<10 ^ 10):n.natAbs.log2<1920:=by
  refine Nat.lt_of_lt_of_le ?_ (by decide:40≤1920)
  by_cases hz:n.natAbs=0
  · rw [hz]; decide
  · exact (Nat.log2_lt hz).mpr (by have : n.natAbs < 10 ^ 10 := by omega
                                   have:10 ^ 10<2 ^ 40:=by decide
                                   omega)
theorem md {i:Int} {n:Nat} (h:0<n):0≤i % (n:Int)∧i % (n:Int)<n:=⟨Int.emod_nonneg _ (by omega),Int.emod_lt_of_pos _ (by omega)⟩
theorem ziV (l y:List Nat):(Txt.rstripChars (st l) (st y)).cps.toList=(l.reverse.dropWhile fun c=>decide (c ∈ y)).reverse:=by
  have hc:(st y).cps.contains=fun c=>decide (c ∈ y):=by
    funext c
    simp [st]
  have hh:PySem.stripHi (st y).cps.contains true (st l) (PySem.stripLo (st y).cps.contains false (st l))=l.length-(l.reverse.takeWhile fun c=>decide (c ∈ y)).length:=by
    unfold PySem.stripHi PySem.stripLo
    rw [if_pos rfl,if_neg (by decide),zaM,List.drop_zero,hc,zbA]
  have ht:l.take (l.length-(l.reverse.takeWhile fun c=>decide (c ∈ y)).length)=(l.reverse.dropWhile fun c=>decide (c ∈ y)).reverse:=by
    have e:l=(l.reverse.dropWhile fun c=>decide (c ∈ y)).reverse ++ (l.reverse.takeWhile fun c=>decide (c ∈ y)).reverse:=by
      rw [← List.reverse_append,List.takeWhile_append_dropWhile,List.reverse_reverse]
    have el:=congrArg List.length e; rw [List.length_append,List.length_reverse (as:=List.takeWhile _ _)] at el
    have z:l.take (l.length-(l.reverse.takeWhile fun c=>decide (c ∈ y)).length)=((l.reverse.dropWhile fun c=>decide (c ∈ y)).reverse ++ (l.reverse.takeWhile fun c=>decide (c ∈ y)).reverse).take (l.length-(l.reverse.takeWhile fun c=>decide (c ∈ y)).length):=congrArg (List.take _) e
    rw [z,List.take_left' (by omega)]
  unfold Txt.rstripChars Txt.stripBy; split
  · rename_i hs
    unfold PySem.stripSame at hs; rw [hh,zbA] at hs; simp only [Bool.and_eq_true,beq_iff_eq] at hs
    rw [zaM,← ht,List.take_of_length_le (by omega)]
  · unfold PySem.stripped
    rw [hh,PyProof.Rows.strSub_mk]; unfold PySem.stripLo
    rw [if_neg (by decide),zaM,List.drop_zero,Nat.sub_zero,ht]
theorem zjc (l y:List Nat):(Txt.lstripChars (st l) (st y)).cps.toList=l.dropWhile fun c=>decide (c ∈ y):=by
  have hc:(st y).cps.contains=fun c=>decide (c ∈ y):=by
    funext c
    simp [st]
  have h0:PySem.stripLo (st y).cps.contains true (st l)=(l.takeWhile fun c=>decide (c ∈ y)).length:=by
    unfold PySem.stripLo; rw [if_pos rfl,zaM,hc]
  have hh:PySem.stripHi (st y).cps.contains false (st l) (PySem.stripLo (st y).cps.contains true (st l))=l.length:=by
    unfold PySem.stripHi
    rw [if_neg (by decide),zbA]
  have ht:l.drop (l.takeWhile fun c=>decide (c ∈ y)).length=l.dropWhile fun c=>decide (c ∈ y):=by
    conv=>lhs; rw [← List.takeWhile_append_dropWhile (p:=fun c=>decide (c ∈ y)) (l:=l)]
    rw [List.takeWhile_append_dropWhile]
    have e:=List.takeWhile_append_dropWhile (p:=fun c=>decide (c ∈ y)) (l:=l)
    generalize l.takeWhile (fun c=>decide (c ∈ y))=a at e ⊢
    generalize l.dropWhile (fun c=>decide (c ∈ y))=b at e ⊢
    subst e; exact List.drop_left' rfl
  unfold Txt.lstripChars Txt.stripBy; split
  · rename_i hs
    unfold PySem.stripSame at hs; rw [hh,h0,zbA] at hs; simp only [Bool.and_eq_true,beq_iff_eq] at hs
    have z:(l.takeWhile fun c=>decide (c ∈ y)).length=0:=by omega
    rw [zaM,← ht,z,List.drop_zero]
  · unfold PySem.stripped
    rw [hh,h0,PyProof.Rows.strSub_mk,zaM,ht]; rw [List.take_of_length_le]; rw [← ht,List.length_drop]; exact Nat.le_refl _
theorem zgE {l:List Nat} (h:zaH l=true):∃ m n,m=(cut l).length∧1≤m∧m≤9∧m≤l.length∧l.length≤12∧l.take m=cut l∧l.drop m=zcQ l∧(∀ c,c ∈ cut l→dig c=true)∧(∀ c,c ∈ zcQ l→dig c=false)∧PySem.intText? (st (cut l))=some n∧zdw l=(n,zcQ l):=by
  have h':=h; unfold zaH at h; simp only [Bool.and_eq_true,decide_eq_true_eq,List.all_eq_true] at h
  obtain ⟨⟨⟨⟨a1,a2⟩,b⟩,c⟩,d⟩:=h
  have e:=zd1 l; have el:=congrArg List.length e; rw [List.length_append] at el
  have t:l.take (cut l).length=cut l:=by
    have z:(cut l ++ zcQ l).take (cut l).length=cut l:=List.take_left' rfl
    rw [e] at z; exact z
  have t2:l.drop (cut l).length=zcQ l:=by
    have z:(cut l ++ zcQ l).drop (cut l).length=zcQ l:=List.drop_left' rfl
    rw [e] at z; exact z
  have r:∃ n,PySem.intText? (st (cut l))=some n:=by
    have q:=PySem.intText_digits (x:=st (cut l)) (by rw [zaM]; exact fun x hx=>(zek x).mp (by simpa [dig] using c x hx)) (by rw [zaM]; exact fun z=>by rw [z] at a1; simp at a1) (by rw [zbA]; omega)
    exact ⟨_,q⟩
  obtain ⟨n,r⟩:=r
  refine ⟨_,n,rfl,a1,a2,by omega,by omega,t,t2,c,fun x hx=>?_,r,by unfold zdw; rw [r]; rfl⟩
  have:=zlj l x hx
  cases z:dig x with
  | false=>rfl
  | true=>rw [zeT z] at this; cases this
theorem zmA {l:List Nat} (cd:∀ c,c ∈ cut l→dig c=true) (tf:∀ c,c ∈ zcQ l→dig c=false):(l.dropWhile fun c=>decide (c ∈ znf))=zcQ l:=by
  have e:=zd1 l; generalize cut l=a at cd e; generalize zcQ l=b at tf e ⊢; subst e
  induction a with
  | nil =>
    cases b with
    | nil=>rfl
    | cons x r =>
      have:=tf x List.mem_cons_self
      rw [List.nil_append,List.dropWhile_cons]
      rw [show decide (x ∈ znf)=false from this]
      rfl
  | cons x a ih =>
    have:=cd x List.mem_cons_self
    rw [List.cons_append,List.dropWhile_cons,show decide (x ∈ znf)=true from this]
    simp only [if_true]
    exact ih fun c hc=>cd c (List.mem_cons_of_mem _ hc)
section
variable {P:Program} {w:World} {K:PySem.W.Frag} {mg:Str→Option Value} {base:Heap}
theorem zfF:FnScope ["label"] ["label"] (zj zcW):=⟨rfl,rfl,rfl,by decide +kernel,rfl,by decide +kernel,by decide +kernel⟩
theorem zfY (d:Df K mg "figures_of" zcW ["label"]) {t_SMALL_LETTERS:Tok} (g_SMALL_LETTERS:mg "SMALL_LETTERS"=some (.str (st zph) t_SMALL_LETTERS)):Fn P w K mg base 1 "figures_of" ["label"] zbV:=by
  refine d.ok zfF (fun ds Q h=>?_) (fun f cdv A outer s H E hr ds Q h=>⟨_,(zi (zR (zj4 zl1 PySem.F.plainAttrs_str PySem.F.slot_str_rstrip PySem.F.type_str_rstrip (pv' 0) (za (zqi g_SMALL_LETTERS) zc)))),?_⟩)
  · obtain ⟨l,rfl,_⟩:=h
    rfl
  obtain ⟨l,rfl,hl,q⟩:=h; simp [zaa,zT,zU,zW,zk,zq,tC',zbg,zaQ,tB',zaq,zau,zbo,zF,zay,zI,zbp,zZ,zr,zad,zab,zbj,zbq,zbl,zaf,zbm,zas,zac,zG,zw,zu,za8,zp,zaB,zJ,zag,zE,zak,zx,zC,zai,zY,zbk,zL,zae,zK,zaw,zH,zax,zv,zar,zA,zo,zD,zm,zaC,zh,zl,zaz,zN,zM,zaA,zbt,zah,zg,zn,tBr,brN,zB,zy,zz,zaj,zt,zam,zbn,zan,zap,zao,zbr,zat]; refine ⟨zaT hl,?_⟩; rw [ziV]; exact q
theorem zdC:FnScope ["label","figures"] ["label"] (zj zcT):=⟨rfl,rfl,rfl,by decide +kernel,rfl,by decide +kernel,by decide +kernel⟩
theorem zfV (d:Df K mg "label_rank" zcT ["label"]) (G_figures_of:Fn P w K mg base 1 "figures_of" ["label"] zbV) (z_int:mg "int"=none) (z_len:mg "len"=none):Fn P w K mg base 2 "label_rank" ["label"] zbU:=by
  refine d.ok zdC (fun ds Q h=>?_) (fun f cdv A outer s H E hr ds Q h=>⟨_,(zd (zV 1 zdC.nd (zaZ G_figures_of (hr.mono (by decide)) (za (pv' 0) zc)))
    (zi (zR (zaF (za (zbe znp z_int PyProof.Rows.boot_int (za (pv' 1) zc)) (za (zcY s_A (pv' 0) (zdX (zbs zdK z_len PySem.boot_len (za (pv' 1) zc))) zfP) zc)))))),?_⟩)
  · obtain ⟨l,rfl,_⟩:=h
    rfl
  obtain ⟨l,rfl,hl,hq⟩:=h; obtain ⟨m,n,hm,m1,m9,ml,l12,tk,dr,cd,tf,rd,kf⟩:=zgE hl; simp [zaa,zT,zU,zW,zk,zq,tC',zbg,zaQ,tB',zaq,zau,zbo,zF,zay,zI,zbp,zZ,zr,zad,zab,zbj,zbq,zbl,zaf,zbm,zas,zac,zG,zw,zu,za8,zp,zaB,zJ,zag,zE,zak,zx,zC,zai,zY,zbk,zL,zae,zK,zaw,zH,zax,zv,zar,zA,zo,zD,zm,zaC,zh,zl,zaz,zN,zM,zaA,zbt,zah,zg,zn,tBr,brN,zB,zy,zz,zaj,zt,zam,zbn,zan,zap,zao,zbr,zat,zbV]
  refine ⟨by omega,.inl ⟨cut l,n,rfl,rd,by omega,zaT (by omega),zaT (by omega),?_⟩⟩
  rw [← hm,dr]; unfold keyD at hq; rw [kf] at hq; exact hq
theorem zey:FnScope ["_law_label_here","_law_letters"] ["_law_label_here"] (zj zdQ):=⟨rfl,rfl,rfl,by decide +kernel,rfl,by decide +kernel,by decide +kernel⟩
theorem zhs (d:Df K mg "_law_rank" zdQ ["_law_label_here"]) (z_int:mg "int"=none) (z_len:mg "len"=none):Fn P w K mg base 1 "_law_rank" ["_law_label_here"] zby:=by
  refine d.ok zey (fun ds Q h=>?_) (fun f cdv A outer s H E hr ds Q h=>⟨_,(zd (zV 1 zey.nd (zj4 zl2 PySem.F.plainAttrs_str PySem.F.slot_str_lstrip PySem.F.type_str_lstrip (pv' 0) (za (zbw znf) zc)))
    (zi (zR (zaF (za (zbe znp z_int PyProof.Rows.boot_int (za (zcY s_A (pv' 0) zfP (zdX (zQ zsu (zbs zdK z_len PySem.boot_len (za (pv' 0) zc)) (zbs zdK z_len PySem.boot_len (za (pv' 1) zc))))) zc)) (za (pv' 1) zc)))))),?_⟩)
  · obtain ⟨l,rfl,_⟩:=h
    rfl
  obtain ⟨l,rfl,hl,hq⟩:=h; obtain ⟨m,n,hm,m1,m9,ml,l12,tk,dr,cd,tf,rd,kf⟩:=zgE hl
  have hll:l.length=m+(zcQ l).length:=by
    have:=congrArg List.length (zd1 l)
    rw [List.length_append] at this; omega
  simp [zaa,zT,zU,zW,zk,zq,tC',zbg,zaQ,tB',zaq,zau,zbo,zF,zay,zI,zbp,zZ,zr,zad,zab,zbj,zbq,zbl,zaf,zbm,zas,zac,zG,zw,zu,za8,zp,zaB,zJ,zag,zE,zak,zx,zC,zai,zY,zbk,zL,zae,zK,zaw,zH,zax,zv,zar,zA,zo,zD,zm,zaC,zh,zl,zaz,zN,zM,zaA,zbt,zah,zg,zn,tBr,brN,zB,zy,zz,zaj,zt,zam,zbn,zan,zap,zao,zbr,zat,zjc,zmA cd tf]
  refine ⟨zaT (by omega),zaT (by omega),zaT (by omega),by omega,?_⟩
  rw [show l.length-(zcQ l).length=m by omega,tk]
  refine .inl ⟨cut l,n,rfl,rd,by omega,?_⟩
  unfold keyD at hq; rw [kf] at hq; exact hq
theorem zez:FnScope ["node","label","kid"] ["node","label"] (zj zdT):=⟨rfl,rfl,rfl,by decide +kernel,rfl,by decide +kernel,by decide +kernel⟩
theorem zhw (d:Df K mg "kid_with" zdT ["node","label"]):Fn P w K mg base 1 "kid_with" ["node","label"] zbI:=by
  refine d.ok zez (fun ds Q h=>?_) (fun f cdv A outer s H E hr ds Q h=>⟨_,(zd (zbJ (zaV (zP (i_A (zaG hr)) (pv' 0) ze)) (zal 2 zez.nd)
      (zi (zbh (zaE (zc1 (zbE hr)) (zP (i_A (zaG hr)) (pv' 2) ze) (pv' 1)) (zi (zR (pv' 2))) zaK)))
    (zi (zR zcZ))),?_⟩)
  · obtain ⟨t,l,rfl,_⟩:=h
    rfl
  obtain ⟨t,l,rfl,q⟩:=h; rw [zaO]; simp [zaa,zT,zU,zW,zk,zq,tC',zbg,zaQ,tB',zaq,zau,zbo,zF,zay,zI,zbp,zZ,zr,zad,zab,zbj,zbq,zbl,zaf,zbm,zas,zac,zG,zw,zu,za8,zp,zaB,zJ,zag,zE,zak,zx,zC,zai,zY,zbk,zL,zae,zK,zaw,zH,zax,zv,zar,zA,zo,zD,zm,zaC,zh,zl,zaz,zN,zM,zaA,zbt,zah,zg,zn,tBr,brN,zB,zy,zz,zaj,zt,zam,zbn,zan,zap,zao,zbr,zat]
  have key:∀ (ks:List Tr) (A s2:Slot),Q (.val (zbX (zb l ks)))→zfv (zk 2) (zU (tB' (zaQ zg5 (zaQ zd6 (zq 2) (tC' (D.int 0))) (zq 1))) (zT (zq 2)) zp)
      { nx:=zT (tC' D.non) { nx:=fun x=>Q (Res.val D.non),rt:=fun r x=>Q r },rt:=fun r x=>Q r } (ks.map trD) [A,.val (.str l),s2]:=by
    intro ks
    induction ks with
    | nil=>intro A s2 q; simpa [zfv,zT,tC',zb,zbX] using q
    | cons k ks ih =>
      intro A s2 q; have ih':=ih A (.val (trD k)); rw [zaO] at ih'; simp only [List.map_cons,zfv]; rw [zaO k]
      by_cases e:k.lab=l
      · have:zb l (k :: ks)=some k:=by simp [zb,e]
        rw [this] at q
        have q':Q (.val (trD k)):=q
        rw [zaO k] at q'
        simpa [zk,zU,tB',zaQ,zq,tC',zT,zp,e] using q'
      · have:zb l (k :: ks)=zb l ks:=by simp [zb,e]
        rw [this] at q
        simpa [zk,zU,tB',zaQ,zq,tC',zT,zp,e] using ih' q
  exact key _ _ _ q
theorem zfa:FnScope ["_law_node_here","_law_label_here","_law_kid_here"] ["_law_node_here","_law_label_here"] (zj zeC):=⟨rfl,rfl,rfl,by decide +kernel,rfl,by decide +kernel,by decide +kernel⟩
theorem zi7 (d:Df K mg "_law_kid" zeC ["_law_node_here","_law_label_here"]):Fn P w K mg base 1 "_law_kid" ["_law_node_here","_law_label_here"] zb1:=by
  refine d.ok zfa (fun ds Q h=>?_) (fun f cdv A outer s H E hr ds Q h=>⟨_,(zd (zbJ (zaV (zP (i_A (zaG hr)) (pv' 0) ze)) (zal 2 zfa.nd)
      (zi (zbh (zaE (zc1 (zbE hr)) (zP (i_A (zaG hr)) (pv' 2) ze) (pv' 1)) (zi (zR (pv' 2))) zaK)))
    (zi (zR zcZ))),?_⟩)
  · obtain ⟨t,l,rfl,_⟩:=h
    rfl
  obtain ⟨t,l,rfl,q⟩:=h; rw [zaO]; simp [zaa,zT,zU,zW,zk,zq,tC',zbg,zaQ,tB',zaq,zau,zbo,zF,zay,zI,zbp,zZ,zr,zad,zab,zbj,zbq,zbl,zaf,zbm,zas,zac,zG,zw,zu,za8,zp,zaB,zJ,zag,zE,zak,zx,zC,zai,zY,zbk,zL,zae,zK,zaw,zH,zax,zv,zar,zA,zo,zD,zm,zaC,zh,zl,zaz,zN,zM,zaA,zbt,zah,zg,zn,tBr,brN,zB,zy,zz,zaj,zt,zam,zbn,zan,zap,zao,zbr,zat]
  have key:∀ (ks:List Tr) (A s2:Slot),Q (.val (zbX (zb l ks)))→zfv (zk 2) (zU (tB' (zaQ zg5 (zaQ zd6 (zq 2) (tC' (D.int 0))) (zq 1))) (zT (zq 2)) zp)
      { nx:=zT (tC' D.non) { nx:=fun x=>Q (Res.val D.non),rt:=fun r x=>Q r },rt:=fun r x=>Q r } (ks.map trD) [A,.val (.str l),s2]:=by
    intro ks
    induction ks with
    | nil=>intro A s2 q; simpa [zfv,zT,tC',zb,zbX] using q
    | cons k ks ih =>
      intro A s2 q; have ih':=ih A (.val (trD k)); rw [zaO] at ih'; simp only [List.map_cons,zfv]; rw [zaO k]
      by_cases e:k.lab=l
      · have:zb l (k :: ks)=some k:=by simp [zb,e]
        rw [this] at q
        have q':Q (.val (trD k)):=q
        rw [zaO k] at q'
        simpa [zk,zU,tB',zaQ,zq,tC',zT,zp,e] using q'
      · have:zb l (k :: ks)=zb l ks:=by simp [zb,e]
        rw [this] at q
        simpa [zk,zU,tB',zaQ,zq,tC',zT,zp,e] using ih' q
  exact key _ _ _ q
theorem zcj:FnScope ["nodes","kids","node"] ["nodes"] (zj zcG):=⟨rfl,rfl,rfl,by decide +kernel,rfl,by decide +kernel,by decide +kernel⟩
theorem ze5 (d:Df K mg "kids_of_all" zcG ["nodes"]):Fn P w K mg base 1 "kids_of_all" ["nodes"] zbP:=by
  refine d.ok zcj (fun ds Q h=>?_) (fun f cdv A outer s H E hr ds Q h=>⟨_,(zd (zbQ 1 zcj.nd (zbv zc))
    (zd (zbJ (zaV (pv' 0)) (zal 2 zcj.nd)
      (zi (ziZ 1 (zP (i_A (zaG hr)) (pv' 2) ze))))
    (zi (zlz 1)))),?_⟩)
  · obtain ⟨ts,rfl,_⟩:=h
    rfl
  obtain ⟨ts,rfl,hl,hq⟩:=h; simp [zaa,zT,zU,zW,zk,zq,tC',zbg,zaQ,tB',zaq,zau,zbo,zF,zay,zI,zbp,zZ,zr,zad,zab,zbj,zbq,zbl,zaf,zbm,zas,zac,zG,zw,zu,za8,zp,zaB,zJ,zag,zE,zak,zx,zC,zai,zY,zbk,zL,zae,zK,zaw,zH,zax,zv,zar,zA,zo,zD,zm,zaC,zh,zl,zaz,zN,zM,zaA,zbt,zah,zg,zn,tBr,brN,zB,zy,zz,zaj,zt,zam,zbn,zan,zap,zao,zbr,zat]
  refine zdn (fun i Γ=>∃ s2,Γ=[.val (.tup (ts.map trD)),.own (.lst (((ts.take i).flatMap Tr.kds).map trD)),s2]) ⟨.emp,rfl⟩ ?_ ?_
  · rintro i d Γ hd ⟨s2,rfl⟩
    rw [List.getElem?_map] at hd
    cases hc:ts[i]? with
    | none=>rw [hc] at hd; cases hd
    | some t =>
      rw [hc] at hd; cases hd
      have e1:(ts.take (i+1)).flatMap Tr.kds=(ts.take i).flatMap Tr.kds ++ t.kds:=by
        rw [List.take_succ,hc,List.flatMap_append]; simp
      have e2:ts.flatMap Tr.kds=(ts.take (i+1)).flatMap Tr.kds ++ (ts.drop (i+1)).flatMap Tr.kds:=by
        rw [← List.flatMap_append,List.take_append_drop]
      rw [e2,List.length_append,e1,List.length_append] at hl; rw [zaO t]; simp [zaa,zT,zU,zW,zk,zq,tC',zbg,zaQ,tB',zaq,zau,zbo,zF,zay,zI,zbp,zZ,zr,zad,zab,zbj,zbq,zbl,zaf,zbm,zas,zac,zG,zw,zu,za8,zp,zaB,zJ,zag,zE,zak,zx,zC,zai,zY,zbk,zL,zae,zK,zaw,zH,zax,zv,zar,zA,zo,zD,zm,zaC,zh,zl,zaz,zN,zM,zaA,zbt,zah,zg,zn,tBr,brN,zB,zy,zz,zaj,zt,zam,zbn,zan,zap,zao,zbr,zat,zg,e1]; refine zaT ?_; simp only [List.length_flatMap,List.map_take] at hl; omega
  · rintro Γ ⟨s2,rfl⟩
    rw [show List.take (List.map trD ts).length ts=ts from List.take_of_length_le (by rw [List.length_map]; exact Nat.le_refl _)]
    simp [zaa,zT,zU,zW,zk,zq,tC',zbg,zaQ,tB',zaq,zau,zbo,zF,zay,zI,zbp,zZ,zr,zad,zab,zbj,zbq,zbl,zaf,zbm,zas,zac,zG,zw,zu,za8,zp,zaB,zJ,zag,zE,zak,zx,zC,zai,zY,zbk,zL,zae,zK,zaw,zH,zax,zv,zar,zA,zo,zD,zm,zaC,zh,zl,zaz,zN,zM,zaA,zbt,zah,zg,zn,tBr,brN,zB,zy,zz,zaj,zt,zam,zbn,zan,zap,zao,zbr,zat]; exact hq
theorem ziU:FnScope ["_law_cell","_law_factor"] ["_law_cell","_law_factor"] (zj zeB):=⟨rfl,rfl,rfl,by decide +kernel,rfl,by decide +kernel,by decide +kernel⟩
theorem zi6 (d:Df K mg "_law_mix" zeB ["_law_cell","_law_factor"]):Fn P w K mg base 1 "_law_mix" ["_law_cell","_law_factor"] zco:=by
  refine d.ok ziU (fun ds Q h=>?_) (fun f cdv A outer s H E hr ds Q h=>⟨_,(zi (zR (zQ zcd (zQ zfi (zQ zca (zQ zcd (pv' 0) (zQ zsv ze ze)) ze) (pv' 1)) ze))),?_⟩)
  · obtain ⟨c,f,rfl,_⟩:=h
    rfl
  obtain ⟨c,f,rfl,q⟩:=h; simp [zaa,zT,zU,zW,zk,zq,tC',zbg,zaQ,tB',zaq,zau,zbo,zF,zay,zI,zbp,zZ,zr,zad,zab,zbj,zbq,zbl,zaf,zbm,zas,zac,zG,zw,zu,za8,zp,zaB,zJ,zag,zE,zak,zx,zC,zai,zY,zbk,zL,zae,zK,zaw,zH,zax,zv,zar,zA,zo,zD,zm,zaC,zh,zl,zaz,zN,zM,zaA,zbt,zah,zg,zn,tBr,brN,zB,zy,zz,zaj,zt,zam,zbn,zan,zap,zao,zbr,zat,zfw,ziM,zs9]
  have hm:=md (i:=c) (n:=1000000000000000000) (by decide)
  have h2:=md (i:=(c % 1000000000000000000+19) * f) (n:=2147483647) (by decide)
  exact ⟨.inl ⟨by omega,by omega⟩,q _ h2.1 h2.2⟩
end
end K83
namespace K83
open PySem L2 Lb PL MT M04 MS M70 M71 M81 M73 M72 M82 M83 M84
def tdD (acc:List Tr):List (D × D):=acc.map fun k=>(.str k.lab,trD k)
theorem zhO (l:List Nat):∀ acc:List Tr,zdH (tdD acc) (.str l)=(zb l acc).map trD
  | []=>rfl
  | k :: acc=>by
    rw [show tdD (k :: acc)=(.str k.lab,trD k) :: tdD acc from rfl]
    by_cases e:k.lab=l
    · rw [zeX (by rw [e])]
      simp [zb,e]
    · rw [zeY (fun z=>e (by injection z)),zhO l acc]
      simp [zb,e]
theorem znI (acc:List Tr) (k:Tr):znJ (tdD acc) (.str k.lab) (trD k)=tdD (zpj acc k):=by
  unfold znJ zpj; rw [zhO,Option.isSome_map]
  cases e:zb k.lab acc with
  | none =>
    rw [if_neg (zc3.mp e)]; simp [tdD]
  | some k' =>
    have:k.lab ∈ zaL acc:=by
      rw [← (zdm e).2]; exact List.mem_map_of_mem (zdm e).1
    rw [if_pos this]; rfl
theorem zoG (acc:List Tr):(tdD acc).map (·.1)=(zaL acc).map .str:=by
  unfold tdD zaL; rw [List.map_map,List.map_map]; rfl
theorem zoH (ms:List (List Nat)):(nmD ms).map (·.1)=ms.map .str:=by
  unfold nmD; rw [List.map_map]; rfl
theorem zcO:∀ t:Tr,Imm (trD t)
  | .node l ws ks=>by
    rw [zaO]
    refine .tup fun d hd=>?_
    simp only [List.mem_cons,List.not_mem_nil,or_false] at hd
    rcases hd with rfl | rfl | rfl
    · exact .str _
    · exact .plc _
    · refine .tup fun d hd=>?_
      obtain ⟨k,hk,rfl⟩:=List.mem_map.mp hd
      have hk':k ∈ ks:=hk
      exact zcO k
termination_by t=>sizeOf t
decreasing_by
  have:=List.sizeOf_lt_of_mem hk'
  simp; omega
theorem zeu {sp:Sp'} (hsp:∀ l,zaH l=true→sp [.str l] fun r=>r=.val (keyD l)) {ms:List (List Nat)} (h64:ms.length<64) (hp:∀ l ∈ ms,zaH l=true) {R:List D→Prop} (h:R ((ze1 ms).map .str)) :
    ∃ (ks:List D) (lt:Nat→Nat→Bool),ks.length=(ms.map D.str).length∧(∀ (i:Nat) x k,(ms.map D.str)[i]?=some x→ks[i]?=some k→sp [x] fun r=>r=.val k)∧zpl ks lt∧R (zex lt (ms.map .str)):=by
  refine ⟨ms.map keyD,ltP (ms.map zdw),by simp,fun i x k h1 h2=>?_,.inr ⟨ms.map zdw,by rw [List.map_map]; rfl,rfl⟩,?_⟩
  · rw [List.getElem?_map] at h1 h2
    cases hc:ms[i]? with
    | none=>rw [hc] at h1; cases h1
    | some l =>
      rw [hc] at h1 h2; cases h1; cases h2; exact hsp l (hp l (List.mem_of_getElem? hc))
  · rw [znC D.str [] ms (zhm _)]
    exact h
@[simp] theorem ix0 (k:Tr) (Q:D→Prop):zd6 (trD k) (.int 0) Q↔Q (.str k.lab):=by
  rw [zaO]; simp
@[simp] theorem ix1 (k:Tr) (Q:D→Prop):zd6 (trD k) (.int 1) Q↔Q (plc k.wds):=by
  rw [zaO]; simp
@[simp] theorem ix2 (k:Tr) (Q:D→Prop):zd6 (trD k) (.int 2) Q↔Q (.tup (k.kds.map trD)):=by
  rw [zaO]; simp
theorem zil:∀ ls:List (List Nat),(∀ x ∈ ls,x.length=1)→(ls.map (·.length)).sum=ls.length
  | [],_=>rfl
  | a :: l,h=>by
    rw [List.map_cons,List.sum_cons,zil l fun x hx=>h x (List.mem_cons_of_mem _ hx),h a List.mem_cons_self,List.length_cons]
    omega
theorem zkN {acc:List Tr} {L:List (List Nat)} {R:List D→Prop} (hL:∀ l ∈ L,l ∈ zaL acc) (h:R ((zii L acc).map trD)):zbO (zk 0) za8 (zaQ ziY (zq 1) (zq 0)) R (L.map .str) [] [Slot.emp,Slot.val (D.dic (tdD acc))]:=by
  refine zck (fun i a Γ=>∃ s0,a=(zii (L.take i) acc).map trD∧Γ=[s0,.val (.dic (tdD acc))]) ⟨.emp,rfl,rfl⟩ ?_ ?_
  · rintro i d a Γ hd ⟨s0,rfl,rfl⟩
    rw [List.getElem?_map] at hd
    cases hc:L[i]? with
    | none=>rw [hc] at hd; cases hd
    | some l =>
      rw [hc] at hd; cases hd; obtain ⟨k,hk⟩:=zeM (hL l (List.mem_of_getElem? hc)); simp [zaa,zT,zU,zW,zk,zq,tC',zbg,zaQ,tB',zaq,zau,zbo,zF,zay,zI,zbp,zZ,zr,zad,zab,zbj,zbq,zbl,zaf,zbm,zas,zac,zG,zw,zu,za8,zp,zaB,zJ,zag,zE,zak,zx,zC,zai,zY,zbk,zL,zae,zK,zaw,zH,zax,zv,zar,zA,zo,zD,zm,zaC,zh,zl,zaz,zN,zM,zaA,zbt,zah,zg,zn,tBr,brN,zB,zy,zz,zaj,zt,zam,zbn,zan,zap,zao,zbr,zat,ziY]; rw [zhO,hk]; refine ⟨_,rfl,?_⟩; rw [List.take_succ,hc]; unfold zii; rw [List.filterMap_append]; simp [hk]
  · rintro a Γ ⟨s0,rfl,rfl⟩
    rw [show List.take (List.map D.str L).length L=L from List.take_of_length_le (by rw [List.length_map]; exact Nat.le_refl _)]
    exact h
theorem zhH {ks:List Tr} {Q:Res→Prop} (hp:∀ (k:Tr),k ∈ ks→zaH k.lab=true) (h64:ks.length<64) (hq:Q (Res.val (D.tup (List.map trD (zcR ks))))):(tdD (ddp ks)).length<64 ∧
    ∃ x:List D,
      x.length=(tdD (ddp ks)).length ∧
        (∀ (i:Nat) (x_1 k x_2:D),
            (tdD (ddp ks))[i]?=some (x_1,x_2)→x[i]?=some k→zby [x_1] fun r=>r=Res.val k) ∧
          ∃ x_1,
            zpl x x_1 ∧
              (zex x_1 (List.map (fun x=>x.fst) (tdD (ddp ks)))).length≤sizeLine ∧
                zbO (zk 0) za8 (zaQ ziY (zq 1) (zq 0))
                  (fun acc=>Imm (D.tup acc)∧Q (Res.val (D.tup acc)))
                  (zex x_1 (List.map (fun x=>x.fst) (tdD (ddp ks)))) [] [Slot.emp,Slot.val (D.dic (tdD (ddp ks)))]:=by
  have hd:=zeW ks
  have hl:(zaL (ddp ks)).length<64:=by rw [zbY]; have:=hd.len; omega
  have e:=zoG (ddp ks)
  have e':List.map (fun x=>x.fst) (tdD (ddp ks))=(zaL (ddp ks)).map .str:=e
  obtain ⟨ks',lt,a,b,c,r⟩:=zeu (sp:=zby) (fun l hl=>⟨l,rfl,hl,rfl⟩) hl (fun l hl=>by
    obtain ⟨k,hk,rfl⟩:=List.mem_map.mp hl
    exact hp k (hd.mem k hk)) (R:=fun ds=>ds.length≤sizeLine∧zbO (zk 0) za8 (zaQ ziY (zq 1) (zq 0)) (fun acc=>Imm (D.tup acc)∧Q (Res.val (D.tup acc))) ds [] [Slot.emp,Slot.val (D.dic (tdD (ddp ks)))]) ⟨by rw [List.length_map,zgl]; exact zaT (by omega),zkN (fun l hl=>(zcr _ _).mp hl) ⟨.tup fun d hd=>by
      obtain ⟨k,_,rfl⟩:=List.mem_map.mp hd; exact zcO k,hq⟩⟩
  refine ⟨by unfold tdD; rw [List.length_map,← zbY]; exact hl,ks',by rw [a]; unfold tdD; rw [List.length_map,List.length_map,zbY],fun i x k x2 h1 h2=>b i x k ?_ h2,lt,c,?_⟩
  · rw [← e,List.getElem?_map,h1]
    rfl
  · rw [e']
    exact r
section
variable {P:Program} {w:World} {K:PySem.W.Frag} {mg:Str→Option Value} {base:Heap}
theorem zds:FnScope ["_law_number","_law_signs","_law_size"] ["_law_number"] (zj zda):=⟨rfl,rfl,rfl,by decide +kernel,rfl,by decide +kernel,by decide +kernel⟩
theorem zho (d:Df K mg "_law_word" zda ["_law_number"]) (z_range:mg "range"=none):Fn P w K mg base 1 "_law_word" ["_law_number"] zbH:=by
  refine d.ok zds (fun ds Q h=>?_) (fun f cdv A outer s H E hr ds Q h=>⟨_,(zd (zbh (zaE (zhy (zbE hr)) (zQ zcd (pv' 0) ze) ze) (zi (zR (zP (i_A (zaG hr)) (zbw [97,98,120]) (zQ zcd (zQ zb9 (pv' 0) ze) ze)))) zaK)
    (zd (zV 1 zds.nd (zbw wsg))
    (zd (zV 2 zds.nd (zQ zca ze (zQ zcd (zQ zb9 (pv' 0) ze) ze)))
    (zi (zR (zj4 zou PySem.F.plainAttrs_str PySem.F.slot_str_join PySem.F.type_str_join (zbw []) (za (za7 (zdW (fsc:=zj zda) (N:=["_law_number","_law_signs","_law_size"]) (N':=["_law_k","_law_signs","_law_number"]) (src:=[none,some 1,some 0]) (by refine ⟨rfl,?_,?_,?_,rfl,rfl⟩ <;> decide +kernel) (zff z_range (za (pv' 2) zc)) (fun _ _ _ _ _ _=>(zal 0 (show (["_law_k","_law_signs","_law_number"]:List Str).Nodup by decide +kernel))) (fun _ _ _ _ _ _=>zcg) (fun _ _ _ _ _ _=>(zP (i_A (zaG hr)) (pv' 1) (zQ zcd (zQ zcd (zQ zfi (zQ zb9 (pv' 2) (zQ zca (pv' 0) ze)) ze) ze) ze))))) zc))))))),?_⟩)
  · obtain ⟨c,rfl,_⟩:=h
    rfl
  obtain ⟨c,rfl,hq⟩:=h; simp [zaa,zT,zU,zW,zk,zq,tC',zbg,zaQ,tB',zaq,zau,zbo,zF,zay,zI,zbp,zZ,zr,zad,zab,zbj,zbq,zbl,zaf,zbm,zas,zac,zG,zw,zu,za8,zp,zaB,zJ,zag,zE,zak,zx,zC,zai,zY,zbk,zL,zae,zK,zaw,zH,zax,zv,zar,zA,zo,zD,zm,zaC,zh,zl,zaz,zN,zM,zaA,zbt,zah,zg,zn,tBr,brN,zB,zy,zz,zaj,zt,zam,zbn,zan,zap,zao,zbr,zat,zfw,ziM]
  by_cases e:c % 3=1
  · have m12:=md (i:=c / 3) (n:=12) (by decide)
    have h36:36≤sizeLine:=zte
    refine .inl ⟨e,by omega,by omega,by omega,?_⟩
    refine zck (fun i acc Γ=>∃ (ls:List (List Nat)) (s0:Slot),acc=ls.map .str∧ls.length=i∧(∀ x ∈ ls,x.length=1)∧Γ=[s0,.val (.str wsg),.val (.int c)]) ⟨[],.emp,rfl,rfl,fun _ h=>(nomatch h),rfl⟩ ?_ ?_
    · rintro i d acc Γ hd ⟨ls,s0,rfl,hl,h1,rfl⟩
      rw [List.getElem?_map] at hd; obtain ⟨k,hk,rfl⟩:=Option.map_eq_some_iff.mp hd; have hi:=(List.getElem?_eq_some_iff.mp hk).1; rw [List.length_range] at hi; rw [List.getElem?_range hi] at hk; cases hk; simp [zaa,zT,zU,zW,zk,zq,tC',zbg,zaQ,tB',zaq,zau,zbo,zF,zay,zI,zbp,zZ,zr,zad,zab,zbj,zbq,zbl,zaf,zbm,zas,zac,zG,zw,zu,za8,zp,zaB,zJ,zag,zE,zak,zx,zC,zai,zY,zbk,zL,zae,zK,zaw,zH,zax,zv,zar,zA,zo,zD,zm,zaC,zh,zl,zaz,zN,zM,zaA,zbt,zah,zg,zn,tBr,brN,zB,zy,zz,zaj,zt,zam,zbn,zan,zap,zao,zbr,zat,zfw,ziM]
      obtain ⟨y,e3,_⟩:=ziK wsg (md (i:=c / (↑i+4) * 48271 % 2147483647) (n:=36) (by decide)).1 (md (i:=c / (↑i+4) * 48271 % 2147483647) (n:=36) (by decide)).2
      refine ⟨⟨by omega,by omega⟩,zaT (by decide),y,e3,ls ++ [[y]],by simp,by simp; omega,fun x hx=>?_⟩
      rcases List.mem_append.mp hx with z | z
      · exact h1 x z
      · rw [List.mem_singleton.mp z]; rfl
    · rintro acc Γ ⟨ls,s0,rfl,hl,h1,rfl⟩
      rw [List.length_map,List.length_range] at hl; refine ⟨ls,rfl,rfl,?_,hq _⟩; rw [zil ls h1]; omega
  · obtain ⟨z,e1,_⟩:=ziK [97,98,120] (md (i:=c / 3) (n:=3) (by decide)).1 (md (i:=c / 3) (n:=3) (by decide)).2
    exact .inr ⟨e,z,e1,hq _⟩
theorem zd5:FnScope ["_law_number","_law_many"] ["_law_number"] (zj zcF):=⟨rfl,rfl,rfl,by decide +kernel,rfl,by decide +kernel,by decide +kernel⟩
theorem zgy (d:Df K mg "_law_words" zcF ["_law_number"]) (G_law_word:Fn P w K mg base 1 "_law_word" ["_law_number"] zbH) (z_range:mg "range"=none) (z_tuple:mg "tuple"=none):Fn P w K mg base 2 "_law_words" ["_law_number"] zaS:=by
  refine d.ok zd5 (fun ds Q h=>?_) (fun f cdv A outer s H E hr ds Q h=>⟨_,(zd (zV 1 zd5.nd (zQ zcd (pv' 0) ze))
    (zi (zR (zbe zd3 z_tuple PyProof.Rows.boot_tuple (za (za7 (zdW (fsc:=zj zcF) (N:=["_law_number","_law_many"]) (N':=["_law_k","_law_number"]) (src:=[none,some 0]) (by refine ⟨rfl,?_,?_,?_,rfl,rfl⟩ <;> decide +kernel) (zff z_range (za (pv' 1) zc)) (fun _ _ _ _ _ _=>(zal 0 (show (["_law_k","_law_number"]:List Str).Nodup by decide +kernel))) (fun _ _ _ _ _ _=>zcg) (fun _ _ _ _ _ _=>(zaZ G_law_word (hr.mono (by decide)) (za (zQ zcd (zQ zfi (zQ zb9 (pv' 1) (zQ zca (zQ zfi ze (pv' 0)) ze)) ze) ze) zc))))) zc))))),?_⟩)
  · obtain ⟨c,rfl,_⟩:=h
    rfl
  obtain ⟨c,rfl,hq⟩:=h; simp [zaa,zT,zU,zW,zk,zq,tC',zbg,zaQ,tB',zaq,zau,zbo,zF,zay,zI,zbp,zZ,zr,zad,zab,zbj,zbq,zbl,zaf,zbm,zas,zac,zG,zw,zu,za8,zp,zaB,zJ,zag,zE,zak,zx,zC,zai,zY,zbk,zL,zae,zK,zaw,zH,zax,zv,zar,zA,zo,zD,zm,zaC,zh,zl,zaz,zN,zM,zaA,zbt,zah,zg,zn,tBr,brN,zB,zy,zz,zaj,zt,zam,zbn,zan,zap,zao,zbr,zat,zbH]
  have hm:=md (i:=c) (n:=4) (by decide)
  have h36:36≤sizeLine:=zte
  refine ⟨by omega,by omega,by omega,?_⟩
  refine zck (fun i acc Γ=>∃ (ws:Pl) (s0:Slot),acc=ws.map .str∧ws.length=i∧Γ=[s0,.val (.int c)]) ⟨[],.emp,rfl,rfl,rfl⟩ ?_ ?_
  · rintro i d acc Γ hd ⟨ws,s0,rfl,hl,rfl⟩
    rw [List.getElem?_map] at hd; obtain ⟨k,hk,rfl⟩:=Option.map_eq_some_iff.mp hd; have hi:=(List.getElem?_eq_some_iff.mp hk).1; rw [List.length_range] at hi; rw [List.getElem?_range hi] at hk; cases hk; simp [zaa,zT,zU,zW,zk,zq,tC',zbg,zaQ,tB',zaq,zau,zbo,zF,zay,zI,zbp,zZ,zr,zad,zab,zbj,zbq,zbl,zaf,zbm,zas,zac,zG,zw,zu,za8,zp,zaB,zJ,zag,zE,zak,zx,zC,zai,zY,zbk,zL,zae,zK,zaw,zH,zax,zv,zar,zA,zo,zD,zm,zaC,zh,zl,zaz,zN,zM,zaA,zbt,zah,zg,zn,tBr,brN,zB,zy,zz,zaj,zt,zam,zbn,zan,zap,zao,zbr,zat,zfw,ziM,zbH]
    exact ⟨⟨by omega,by omega⟩,fun l=>⟨ws ++ [l],by simp,by simp; omega⟩⟩
  · rintro acc Γ ⟨ws,s0,rfl,hl,rfl⟩
    rw [List.length_map,List.length_range] at hl
    exact hq ws (by omega)
theorem zgn:FnScope ["_law_number"] ["_law_number"] (zj zdu):=⟨rfl,rfl,rfl,by decide +kernel,rfl,by decide +kernel,by decide +kernel⟩
theorem zgz (d:Df K mg "_law_label" zdu ["_law_number"]) (z_str:mg "str"=none):Fn P w K mg base 1 "_law_label" ["_law_number"] zce:=by
  refine d.ok zgn (fun ds Q h=>?_) (fun f cdv A outer s H E hr ds Q h=>⟨_,(zd (zbh (zaE (zc1 (zbE hr)) (zQ zcd (pv' 0) ze) ze) (zi (zR (zbe zq8 z_str PyProof.Rows.boot_str (za (zQ zca ze (zQ zcd (zQ zb9 (pv' 0) ze) ze)) zc)))) zaK)
    (zi (zR (zQ zca (zbe zq8 z_str PyProof.Rows.boot_str (za (zQ zca ze (zQ zcd (zQ zb9 (pv' 0) ze) ze)) zc)) (zP (i_A (zaG hr)) (za7 (zbv (za (zbw []) (za (zbw []) (za (zbw [97]) (za (zbw [98]) (za (zbw [97,97]) (za (zbw [122,122,122]) zc)))))))) (zQ zcd (zQ zb9 (pv' 0) ze) ze)))))),?_⟩)
  · obtain ⟨c,rfl,_⟩:=h
    rfl
  obtain ⟨c,rfl,hq⟩:=h; simp [zaa,zT,zU,zW,zk,zq,tC',zbg,zaQ,tB',zaq,zau,zbo,zF,zay,zI,zbp,zZ,zr,zad,zab,zbj,zbq,zbl,zaf,zbm,zas,zac,zG,zw,zu,za8,zp,zaB,zJ,zag,zE,zak,zx,zC,zai,zY,zbk,zL,zae,zK,zaw,zH,zax,zv,zar,zA,zo,zD,zm,zaC,zh,zl,zaz,zN,zM,zaA,zbt,zah,zg,zn,tBr,brN,zB,zy,zz,zaj,zt,zam,zbn,zan,zap,zao,zbr,zat,zfw,ziM]
  by_cases e:c % 5=0
  · have hm:=md (i:=c / 5) (n:=999999999) (by decide)
    obtain ⟨n1,n2,n3,n4⟩:=M11.num_lab (n:=1+c / 5 % 999999999) (by omega) (by omega)
    refine .inr ⟨e,zgB (by omega) (by omega),hq _ ?_⟩
    have:=M11.lab_of (ls:=[]) n1 n2 n3 n4 (fun _ h=>nomatch h) (by simp)
    rwa [List.append_nil] at this
  · have hm:=md (i:=c / 5) (n:=4) (by decide)
    obtain ⟨x,e2,m2⟩:=ziK [D.str [],D.str [],D.str [97],D.str [98],D.str [97,97],D.str [122,122,122]] (md (i:=c / 20) (n:=6) (by decide)).1 (md (i:=c / 20) (n:=6) (by decide)).2
    have hx:∃ l:List Nat,x=.str l∧l.length≤3∧∀ c ∈ l,sml c=true:=by
      simp only [List.mem_cons,List.not_mem_nil,or_false] at m2
      rcases m2 with rfl | rfl | rfl | rfl | rfl | rfl <;> exact ⟨_,rfl,by decide,by decide⟩
    obtain ⟨l,rfl,hl,hs⟩:=hx
    obtain ⟨n1,n2,n3,n4⟩:=M11.num_lab (n:=1+c / 5 % 4) (by omega) (by omega)
    refine .inl ⟨e,zgB (by omega) (by omega),_,e2,?_⟩
    rw [zjP]
    exact ⟨zaT (by omega),hq _ (M11.lab_of n1 n2 n3 n4 hs hl)⟩
theorem zcE:FnScope ["nodes","labels","kid"] ["nodes"] (zj zcU):=⟨rfl,rfl,rfl,by decide +kernel,rfl,by decide +kernel,by decide +kernel⟩
theorem zfW (d:Df K mg "kid_labels" zcU ["nodes"]) (G_label_rank:Fn P w K mg base 2 "label_rank" ["label"] zbU) (G_kids_of_all:Fn P w K mg base 1 "kids_of_all" ["nodes"] zbP) (z_list:mg "list"=none) (z_sorted:mg "sorted"=none):Fn P w K mg base 5 "kid_labels" ["nodes"] zcA:=by
  refine d.ok zcE (fun ds Q h=>?_) (fun f cdv A outer s H E hr ds Q h=>⟨_,(zd (zbQ 1 zcE.nd zjX)
    (zd (zbJ (zaV (zaZ G_kids_of_all (hr.mono (by decide)) (za (pv' 0) zc))) (zal 2 zcE.nd)
      (zi (zlB (zaG hr) 1 (zP (i_A (zaG hr)) (pv' 2) ze) zik)))
    (zi (zlA (zjY (zih G_label_rank (hr.mono (by decide)) z_sorted (za (za7 (zi0 (zo3 rfl) z_list PyProof.Rows.boot_list (za (pv' 1) zc))) zc))))))),?_⟩)
  · obtain ⟨ts,rfl,_⟩:=h
    rfl
  obtain ⟨ts,rfl,hk,h64,hp,hq⟩:=h; simp [zaa,zT,zU,zW,zk,zq,tC',zbg,zaQ,tB',zaq,zau,zbo,zF,zay,zI,zbp,zZ,zr,zad,zab,zbj,zbq,zbl,zaf,zbm,zas,zac,zG,zw,zu,za8,zp,zaB,zJ,zag,zE,zak,zx,zC,zai,zY,zbk,zL,zae,zK,zaw,zH,zax,zv,zar,zA,zo,zD,zm,zaC,zh,zl,zaz,zN,zM,zaA,zbt,zah,zg,zn,tBr,brN,zB,zy,zz,zaj,zt,zam,zbn,zan,zap,zao,zbr,zat,zbP]
  refine ⟨ts,rfl,by simpa using hk,?_⟩
  generalize hks:ts.flatMap Tr.kds=ks at hk h64 hp hq ⊢
  refine zdn (fun i Γ=>∃ s2,Γ=[.val (.tup (ts.map trD)),.own (.dic (nmD (zg4 (zaL (ks.take i))))),s2]) ⟨.emp,rfl⟩ ?_ ?_
  · rintro i d Γ hd ⟨s2,rfl⟩
    rw [List.getElem?_map] at hd
    cases hc:ks[i]? with
    | none=>rw [hc] at hd; cases hd
    | some k =>
      rw [hc] at hd; cases hd; simp [zaa,zT,zU,zW,zk,zq,tC',zbg,zaQ,tB',zaq,zau,zbo,zF,zay,zI,zbp,zZ,zr,zad,zab,zbj,zbq,zbl,zaf,zbm,zas,zac,zG,zw,zu,za8,zp,zaB,zJ,zag,zE,zak,zx,zC,zai,zY,zbk,zL,zae,zK,zaw,zH,zax,zv,zar,zA,zo,zD,zm,zaC,zh,zl,zaz,zN,zM,zaA,zbt,zah,zg,zn,tBr,brN,zB,zy,zz,zaj,zt,zam,zbn,zan,zap,zao,zbr,zat]; refine ⟨⟨_,rfl⟩,_,rfl,za6 ?_,?_⟩
      · have:=zh3 (zaL (ks.take i))
        rw [zbY,List.length_take] at this; omega
      · rw [List.take_succ,hc,zbc,show zaL (Option.toList (some k))=[k.lab] from rfl,zjq]
        rfl
  · rintro Γ ⟨s2,rfl⟩
    rw [show List.take (List.map trD ks).length ks=ks from List.take_of_length_le (by rw [List.length_map]; exact Nat.le_refl _)]
    simp [zaa,zT,zU,zW,zk,zq,tC',zbg,zaQ,tB',zaq,zau,zbo,zF,zay,zI,zbp,zZ,zr,zad,zab,zbj,zbq,zbl,zaf,zbm,zas,zac,zG,zw,zu,za8,zp,zaB,zJ,zag,zE,zak,zx,zC,zai,zY,zbk,zL,zae,zK,zaw,zH,zax,zv,zar,zA,zo,zD,zm,zaC,zh,zl,zaz,zN,zM,zaA,zbt,zah,zg,zn,tBr,brN,zB,zy,zz,zaj,zt,zam,zbn,zan,zap,zao,zbr,zat]; refine ⟨_,rfl,?_⟩; rw [zoH]
    refine ⟨_,rfl,by simpa using h64,?_⟩
    obtain ⟨ks',lt,a,b,c,r⟩:=zeu (sp:=zbU) (fun l hl=>⟨l,rfl,hl,rfl⟩) h64 (fun l hl=>by
      obtain ⟨k,hk,rfl⟩:=List.mem_map.mp ((zbT _ _).mp hl)
      exact hp k hk) (R:=fun ds=>zty (.lst ds)∧Q (.own (.lst ds))) ⟨fun d hd=>by
      obtain ⟨l,_,rfl⟩:=List.mem_map.mp hd; exact .str l,hq⟩
    exact ⟨ks',a,b,lt,c,r⟩
theorem zdt:FnScope ["_law_kids_here","_law_found","_law_kid_here"] ["_law_kids_here"] (zj zdb):=⟨rfl,rfl,rfl,by decide +kernel,rfl,by decide +kernel,by decide +kernel⟩
theorem zhv (d:Df K mg "_law_kids" zdb ["_law_kids_here"]) (G_law_rank:Fn P w K mg base 1 "_law_rank" ["_law_label_here"] zby) (z_sorted:mg "sorted"=none) (z_tuple:mg "tuple"=none):Fn P w K mg base 4 "_law_kids" ["_law_kids_here"] zb4:=by
  refine d.ok zdt (fun ds Q h=>?_) (fun f cdv A outer s H E hr ds Q h=>⟨_,(zd (zbQ 1 zdt.nd zjX)
    (zd (zbJ (zaV (pv' 0)) (zal 2 zdt.nd)
      (zi (zjR 1 (zP (i_A (zaG hr)) (pv' 2) ze) (pv' 2))))
    (zi (zR (zc0 (zbe zd3 z_tuple PyProof.Rows.boot_tuple (za (za7 (zdW (fsc:=zj zdb) (N:=["_law_kids_here","_law_found","_law_kid_here"]) (N':=["_law_label_here","_law_found"]) (src:=[none,some 1]) (by refine ⟨rfl,?_,?_,?_,rfl,rfl⟩ <;> decide +kernel) (zaV (za7 (zjV rfl G_law_rank (hr.mono (by decide)) z_sorted (za (pv' 1) zc)))) (fun _ _ _ _ _ _=>(zal 0 (show (["_law_label_here","_law_found"]:List Str).Nodup by decide +kernel))) (fun _ _ _ _ _ _=>zcg) (fun _ _ _ _ _ _=>(zP (zsH (zaG hr)) (pv' 1) (pv' 0))))) zc))))))),?_⟩)
  · obtain ⟨d,ks,rfl,_⟩:=h
    rfl
  obtain ⟨d,ks,rfl,hd,hp,h64,hq⟩:=h
  rcases hd with rfl | rfl
  all_goals
    simp [zaa,zT,zU,zW,zk,zq,tC',zbg,zaQ,tB',zaq,zau,zbo,zF,zay,zI,zbp,zZ,zr,zad,zab,zbj,zbq,zbl,zaf,zbm,zas,zac,zG,zw,zu,za8,zp,zaB,zJ,zag,zE,zak,zx,zC,zai,zY,zbk,zL,zae,zK,zaw,zH,zax,zv,zar,zA,zo,zD,zm,zaC,zh,zl,zaz,zN,zM,zaA,zbt,zah,zg,zn,tBr,brN,zB,zy,zz,zaj,zt,zam,zbn,zan,zap,zao,zbr,zat]
    refine zdn (fun i Γ=>∃ A s2:Slot,Γ=[A,.own (.dic (tdD (ddp (ks.take i)))),s2]) ⟨_,.emp,rfl⟩ ?_ ?_
    · rintro i d Γ hd ⟨A,s2,rfl⟩
      rw [List.getElem?_map] at hd
      cases hc:ks[i]? with
      | none=>rw [hc] at hd; cases hd
      | some k =>
        rw [hc] at hd; cases hd; simp [zaa,zT,zU,zW,zk,zq,tC',zbg,zaQ,tB',zaq,zau,zbo,zF,zay,zI,zbp,zZ,zr,zad,zab,zbj,zbq,zbl,zaf,zbm,zas,zac,zG,zw,zu,za8,zp,zaB,zJ,zag,zE,zak,zx,zC,zai,zY,zbk,zL,zae,zK,zaw,zH,zax,zv,zar,zA,zo,zD,zm,zaC,zh,zl,zaz,zN,zM,zaA,zbt,zah,zg,zn,tBr,brN,zB,zy,zz,zaj,zt,zam,zbn,zan,zap,zao,zbr,zat]; constructor
        · have h1:=(zga ks i (by have:=(List.getElem?_eq_some_iff.mp hc).1; omega)).len
          rw [List.length_take] at h1; unfold tdD; rw [List.length_map]
          exact za6 (by omega)
        · rw [znI,List.take_succ,hc,show Option.toList (some k)=[k] from rfl,zmF]
    · rintro Γ ⟨A,s2,rfl⟩
      rw [show List.take (List.map trD ks).length ks=ks from List.take_of_length_le (by rw [List.length_map]; exact Nat.le_refl _)]
      simp [zaa,zT,zU,zW,zk,zq,tC',zbg,zaQ,tB',zaq,zau,zbo,zF,zay,zI,zbp,zZ,zr,zad,zab,zbj,zbq,zbl,zaf,zbm,zas,zac,zG,zw,zu,za8,zp,zaB,zJ,zag,zE,zak,zx,zC,zai,zY,zbk,zL,zae,zK,zaw,zH,zax,zv,zar,zA,zo,zD,zm,zaC,zh,zl,zaz,zN,zM,zaA,zbt,zah,zg,zn,tBr,brN,zB,zy,zz,zaj,zt,zam,zbn,zan,zap,zao,zbr,zat]; exact zhH hp h64 hq
end
end K83
namespace K83
open PySem L2 Lb PL MT M04 MS M70 M71 M81 M73 M72 M82 M83 M84
theorem zkI {α:Type} (xs:List α) (lo hi:Option Int):(zcM xs lo hi).Sublist xs:=by
  unfold zcM; exact (List.take_sublist _ _).trans (List.drop_sublist _ _)
theorem zhU {ks:List Tr} {l:List Nat} {R:List D→Prop} (h:R ((ks.filter fun k=>decide (k.lab=l)).map trD)):zbO (zk 0) (tB' (zaQ zg5 (zaQ zd6 (zq 0) (tC' (D.int 0))) (zq 1))) (zq 0) R (ks.map trD) [] [Slot.emp,Slot.val (D.str l)]:=by
  refine zck (fun i a Γ=>∃ s0,a=((ks.take i).filter fun k=>decide (k.lab=l)).map trD∧Γ=[s0,.val (.str l)]) ⟨.emp,rfl,rfl⟩ ?_ ?_
  · rintro i d a Γ hd ⟨s0,rfl,rfl⟩
    rw [List.getElem?_map] at hd
    cases hc:ks[i]? with
    | none=>rw [hc] at hd; cases hd
    | some k =>
      rw [hc] at hd; cases hd; simp [zaa,zT,zU,zW,zk,zq,tC',zbg,zaQ,tB',zaq,zau,zbo,zF,zay,zI,zbp,zZ,zr,zad,zab,zbj,zbq,zbl,zaf,zbm,zas,zac,zG,zw,zu,za8,zp,zaB,zJ,zag,zE,zak,zx,zC,zai,zY,zbk,zL,zae,zK,zaw,zH,zax,zv,zar,zA,zo,zD,zm,zaC,zh,zl,zaz,zN,zM,zaA,zbt,zah,zg,zn,tBr,brN,zB,zy,zz,zaj,zt,zam,zbn,zan,zap,zao,zbr,zat]; rw [List.take_succ,hc,List.filter_append]
      by_cases e:k.lab=l
      · exact .inr ⟨e,by simp [e]⟩
      · exact .inl ⟨e,by simp [e]⟩
  · rintro a Γ ⟨s0,rfl,rfl⟩
    rw [show List.take (List.map trD ks).length ks=ks from List.take_of_length_le (by rw [List.length_map]; exact Nat.le_refl _)]
    exact h
theorem zmK {q:Pl} (h:q≠[]):atI (q.map D.str) (-1)=some (.str (zdZ q)):=by
  have e:=List.dropLast_concat_getLast h
  have e2:zdZ q=q.getLast h:=by unfold zdZ; rw [List.getLast?_eq_some_getLast h]; rfl
  rw [e2]
  conv=>lhs; rw [← e,List.map_append,List.map_singleton]
  exact zmL _ _
theorem zo1 {ks : List Tr} {p : Pl} {R : List D → Prop} (hp : p ≠ []) (h : R ((ks.filter fun k => decide (k.lab ≠ zdZ p)).map trD)) : zbO (zk 0)
                            (tB'
                              (zaQ zjJ (zaQ zd6 (zq 0) (tC' (D.int 0)))
                                (zaQ zd6 (zq 1) (tC' (D.int (-1))))))
                            (zq 0) R (ks.map trD) [] [Slot.emp,Slot.val (plc p)]:=by
  refine zck (fun i a Γ=>∃ s0,a=((ks.take i).filter fun k=>decide (k.lab≠zdZ p)).map trD∧Γ=[s0,.val (plc p)]) ⟨.emp,rfl,rfl⟩ ?_ ?_
  · rintro i d a Γ hd ⟨s0,rfl,rfl⟩
    rw [List.getElem?_map] at hd
    cases hc:ks[i]? with
    | none=>rw [hc] at hd; cases hd
    | some k =>
      rw [hc] at hd; cases hd; simp [zaa,zT,zU,zW,zk,zq,tC',zbg,zaQ,tB',zaq,zau,zbo,zF,zay,zI,zbp,zZ,zr,zad,zab,zbj,zbq,zbl,zaf,zbm,zas,zac,zG,zw,zu,za8,zp,zaB,zJ,zag,zE,zak,zx,zC,zai,zY,zbk,zL,zae,zK,zaw,zH,zax,zv,zar,zA,zo,zD,zm,zaC,zh,zl,zaz,zN,zM,zaA,zbt,zah,zg,zn,tBr,brN,zB,zy,zz,zaj,zt,zam,zbn,zan,zap,zao,zbr,zat]; refine ⟨_,zmK hp,?_⟩; rw [List.take_succ,hc,List.filter_append]
      by_cases e:k.lab=zdZ p
      · simp [e]
      · simp [e]
  · rintro a Γ ⟨s0,rfl,rfl⟩
    rw [show List.take (List.map trD ks).length ks=ks from List.take_of_length_le (by rw [List.length_map]; exact Nat.le_refl _)]
    exact h
theorem zgK:∀ (ks:List Tr) (l:List Nat),(ks.filter fun k=>decide (k.lab=l)).head?=zb l ks
  | [],l=>rfl
  | k :: ks,l=>by
    unfold zb; rw [List.filter_cons,List.find?_cons]
    by_cases e:k.lab=l
    · simp [e]
    · simp only [e,decide_false,Bool.false_eq_true,if_false]
      exact zgK ks l
theorem zo6:Wf 0 1 (.node [] [] []):=zko (by simp)
section
variable {P:Program} {w:World} {K:PySem.W.Frag} {mg:Str→Option Value} {base:Heap}
theorem zb5:FnScope ["_law_number","_law_inner","_law_beneath","_law_other","_law_kids_here"] ["_law_number"] (zj zdR):=⟨rfl,rfl,rfl,by decide +kernel,rfl,by decide +kernel,by decide +kernel⟩
theorem zht (d:Df K mg "_law_node" zdR ["_law_number"]) (G_law_words:Fn P w K mg base 2 "_law_words" ["_law_number"] zaS) (G_law_label:Fn P w K mg base 1 "_law_label" ["_law_number"] zce) (G_law_kids:Fn P w K mg base 4 "_law_kids" ["_law_kids_here"] zb4):Fn P w K mg base 5 "_law_node" ["_law_number"] zdq:=by
  refine d.ok zb5 (fun ds Q h=>?_) (fun f cdv A outer s H E hr ds Q h=>⟨_,(zd (zV 1 zb5.nd (zaF (za (zaZ G_law_label (hr.mono (by decide)) (za (zQ zcd (zQ zfi (pv' 0) ze) ze) zc)) (za (zaZ G_law_words (hr.mono (by decide)) (za (zQ zb9 (pv' 0) ze) zc)) (za (zaF zc) zc)))))
    (zd (zV 2 zb5.nd (zaZ G_law_kids (hr.mono (by decide)) (za (zcY s_A (za7 (zbv (za (pv' 1) zc))) zfP (zdX (zQ zcd (zQ zb9 (pv' 0) ze) ze))) zc)))
    (zd (zV 3 zb5.nd (zaF (za (zaZ G_law_label (hr.mono (by decide)) (za (zQ zcd (zQ zfi (pv' 0) ze) ze) zc)) (za (zaZ G_law_words (hr.mono (by decide)) (za (zQ zb9 (pv' 0) ze) zc)) (za (pv' 2) zc)))))
    (zd (zV 4 zb5.nd (zaZ G_law_kids (hr.mono (by decide)) (za (zcY s_A (za7 (zbv (za (pv' 1) (za (pv' 3) zc)))) zfP (zdX (zQ zcd (zQ zb9 (pv' 0) ze) ze))) zc)))
    (zi (zR (zaF (za (zaZ G_law_label (hr.mono (by decide)) (za (pv' 0) zc)) (za (zaZ G_law_words (hr.mono (by decide)) (za (zQ zb9 (pv' 0) ze) zc)) (za (pv' 4) zc)))))))))),?_⟩)
  · obtain ⟨c,rfl,_⟩:=h
    rfl
  obtain ⟨c,rfl,hq⟩:=h; simp [zaa,zT,zU,zW,zk,zq,tC',zbg,zaQ,tB',zaq,zau,zbo,zF,zay,zI,zbp,zZ,zr,zad,zab,zbj,zbq,zbl,zaf,zbm,zas,zac,zG,zw,zu,za8,zp,zaB,zJ,zag,zE,zak,zx,zC,zai,zY,zbk,zL,zae,zK,zaw,zH,zax,zv,zar,zA,zo,zD,zm,zaC,zh,zl,zaz,zN,zM,zaA,zbt,zah,zg,zn,tBr,brN,zB,zy,zz,zaj,zt,zam,zbn,zan,zap,zao,zbr,zat,zfw,ziM,zce,zaS,zb4]; intro l1 p1 ws1 w1
  have ei:D.tup [D.str l1,plc ws1,plc []]=trD (.node l1 ws1 []):=by rw [zaO]; rfl
  generalize hI:Tr.node l1 ws1 []=I at ei
  have wI:Wf 1 1 I:=by rw [← hI]; exact zko (by omega)
  have lI:zaH I.lab=true:=by rw [← hI]; exact p1
  have cI:cnt I=1:=by rw [← hI]; rfl
  have hx:=zkI [I] none (some (c / 3 % 2)); rw [ei]
  refine ⟨zcM [I] none (some (c / 3 % 2)),by rw [← zdI]; rfl,fun k hk=>?_,by have:=hx.length_le; simp at this; omega,?_⟩
  · have:=hx.subset hk
    rw [List.mem_singleton.mp this]; exact lI
  generalize zcM [I] none (some (c / 3 % 2))=xs at hx
  have hxs:∀ k ∈ xs,k=I:=fun k hk=>List.mem_singleton.mp (hx.subset hk)
  have okx:KidsOk xs (zcR xs):=zem fun k hk=>by rw [hxs k hk]; exact lI
  intro l2 p2 ws2 w2
  have eo:D.tup [D.str l2,plc ws2,D.tup (List.map trD (zcR xs))]=trD (.node l2 ws2 (zcR xs)):=by rw [zaO]; rfl
  have wO:Wf 1 2 (.node l2 ws2 (zcR xs)):=zhz okx (fun k hk=>by rw [hxs k hk]; exact wI) (fun k hk=>by rw [hxs k hk]; exact lI) (by have:=hx.length_le; simp at this; omega) (by omega)
  have cO:cnt (.node l2 ws2 (zcR xs))≤2:=by
    rw [ziq]; have h1:=okx.cnt; have h2:=zfB cnt hx; simp [cI] at h2; omega
  rw [eo]
  have lO:zaH (Tr.node l2 ws2 (zcR xs)).lab=true:=p2
  generalize Tr.node l2 ws2 (zcR xs)=O at wO cO lO; have hy:=zkI [I,O] none (some (c / 2 % 3)); have hyl:=hy.length_le; have hyc:=zfB cnt hy; simp [cI] at hyc; simp only [List.length_cons,List.length_nil] at hyl
  refine ⟨zcM [I,O] none (some (c / 2 % 3)),by rw [← zdI]; rfl,fun k hk=>?_,by omega,?_⟩
  · have:=hy.subset hk
    simp only [List.mem_cons,List.not_mem_nil,or_false] at this
    rcases this with rfl | rfl
    · exact lI
    · exact lO
  generalize zcM [I,O] none (some (c / 2 % 3))=ys at hy hyl hyc
  have hys:∀ k ∈ ys,Wf 1 2 k∧zaH k.lab=true:=fun k hk=>by
    have:=hy.subset hk
    simp only [List.mem_cons,List.not_mem_nil,or_false] at this
    rcases this with rfl | rfl
    · exact ⟨wI.up (Nat.le_refl _) (by omega),lI⟩
    · exact ⟨wO,lO⟩
  have oky:KidsOk ys (zcR ys):=zem fun k hk=>(hys k hk).2
  intro l3 p3 ws3 w3
  have:=hq (.node l3 ws3 (zcR ys)) (zhz oky (fun k hk=>(hys k hk).1) (fun k hk=>(hys k hk).2) (by omega) (by omega)) p3 (by
    rw [ziq]; have h1:=oky.cnt
    omega)
  rw [zaO] at this; exact this
theorem zbB:FnScope ["_law_node_here","_law_place","_law_found","_law_kid_here"] ["_law_node_here","_law_place"] (zj zcS):=⟨rfl,rfl,rfl,by decide +kernel,rfl,by decide +kernel,by decide +kernel⟩
theorem zfS (d:Df K mg "_law_places" zcS ["_law_node_here","_law_place"]):∀ n:Nat,Fn P w K mg base (n+1) "_law_places" ["_law_node_here","_law_place"] (zbu n):=by
  intro n
  induction n with
  | zero=>exact d.ok (k:=0) zbB (fun ds Q h=>(show False from h).elim) (fun f cdv A outer s H E hr ds Q h=>(show False from h).elim)
  | succ n ih =>
  have G_law_places:Fn P w K mg base (n+1) "_law_places" ["_law_node_here","_law_place"] (zbu n):=ih
  refine d.ok (k:=n+1) zbB (fun ds Q h=>?_) (fun f cdv A outer s H E hr ds Q h=>⟨_,(zd (zV 2 zbB.nd (za7 (zbv (za (pv' 1) zc))))
    (zd (zbJ (zaV (zP (i_A (zaG hr)) (pv' 0) ze)) (zal 3 zbB.nd)
      (zi (zV 2 zbB.nd (za7 (zjW zkf (pv' 2) (zaZ G_law_places (hr.mono (by omega)) (za (pv' 3) (za (zQ zca (pv' 1) (zaF (za (zP (i_A (zaG hr)) (pv' 3) ze) zc))) zc))))))))
    (zi (zR (pv' 2))))),?_⟩)
  · obtain ⟨t,p,c,rfl,_⟩:=h
    rfl
  obtain ⟨t,p,c,rfl,hw,hpl,hc63,hq⟩:=h; simp [zaa,zT,zU,zW,zk,zq,tC',zbg,zaQ,tB',zaq,zau,zbo,zF,zay,zI,zbp,zZ,zr,zad,zab,zbj,zbq,zbl,zaf,zbm,zas,zac,zG,zw,zu,za8,zp,zaB,zJ,zag,zE,zak,zx,zC,zai,zY,zbk,zL,zae,zK,zaw,zH,zax,zv,zar,zA,zo,zD,zm,zaC,zh,zl,zaz,zN,zM,zaA,zbt,zah,zg,zn,tBr,brN,zB,zy,zz,zaj,zt,zam,zbn,zan,zap,zao,zbr,zat]
  have hb:∀ i,(p :: (t.kds.take i).flatMap fun k=>ze0 k (p ++ [k.lab])).length≤63:=fun i=>by
    have h1:=zei t p; rw [zfL] at h1
    have h2:t.kds.flatMap (fun k=>ze0 k (p ++ [k.lab]))=(t.kds.take i).flatMap (fun k=>ze0 k (p ++ [k.lab])) ++ (t.kds.drop i).flatMap fun k=>ze0 k (p ++ [k.lab]):=by
      rw [← List.flatMap_append,List.take_append_drop]
    rw [h2] at h1; simp only [List.length_cons,List.length_append] at h1 ⊢; omega
  refine zdn (fun i Γ=>∃ s3,Γ=[.val (trD t),.val (plc p),.val (.lst ((p :: (t.kds.take i).flatMap fun k=>ze0 k (p ++ [k.lab])).map plc)),s3]) ⟨.emp,by simp⟩ ?_ ?_
  · rintro i d Γ hd ⟨s3,rfl⟩
    rw [List.getElem?_map] at hd
    cases hc:t.kds[i]? with
    | none=>rw [hc] at hd; cases hd
    | some k =>
      rw [hc] at hd; cases hd; have hm:=List.mem_of_getElem? hc; have hk:=hw.kid k hm; obtain ⟨m,rfl⟩:=hk.pos; have hb1:=hb (i+1)
      have e1:(t.kds.take (i+1)).flatMap (fun k=>ze0 k (p ++ [k.lab]))=(t.kds.take i).flatMap (fun k=>ze0 k (p ++ [k.lab])) ++ ze0 k (p ++ [k.lab]):=by
        rw [List.take_succ,hc,List.flatMap_append]; simp
      rw [e1] at hb1 ⊢
      have hck:cnt k≤63:=by
        rw [← zei k (p ++ [k.lab])]
        simp only [List.length_cons,List.length_append] at hb1; omega
      simp [zaa,zT,zU,zW,zk,zq,tC',zbg,zaQ,tB',zaq,zau,zbo,zF,zay,zI,zbp,zZ,zr,zad,zab,zbj,zbq,zbl,zaf,zbm,zas,zac,zG,zw,zu,za8,zp,zaB,zJ,zag,zE,zak,zx,zC,zai,zY,zbk,zL,zae,zK,zaw,zH,zax,zv,zar,zA,zo,zD,zm,zaC,zh,zl,zaz,zN,zM,zaA,zbt,zah,zg,zn,tBr,brN,zB,zy,zz,zaj,zt,zam,zbn,zan,zap,zao,zbr,zat,zbu]
      refine ⟨zaT (by omega),k,_,⟨rfl,rfl⟩,⟨c,hk⟩,by simp; omega,hck,_,_,rfl,rfl,zaT ?_,by simp [OD.toD]⟩
      simp only [List.length_cons,List.length_append,List.length_map] at hb1 ⊢; omega
  · rintro Γ ⟨s3,rfl⟩
    rw [show List.take (List.map trD t.kds).length t.kds=t.kds from List.take_of_length_le (by rw [List.length_map]; exact Nat.le_refl _),← zfL]
    simp [zaa,zT,zU,zW,zk,zq,tC',zbg,zaQ,tB',zaq,zau,zbo,zF,zay,zI,zbp,zZ,zr,zad,zab,zbj,zbq,zbl,zaf,zbm,zas,zac,zG,zw,zu,za8,zp,zaB,zJ,zag,zE,zak,zx,zC,zai,zY,zbk,zL,zae,zK,zaw,zH,zax,zv,zar,zA,zo,zD,zm,zaC,zh,zl,zaz,zN,zM,zaA,zbt,zah,zg,zn,tBr,brN,zB,zy,zz,zaj,zt,zam,zbn,zan,zap,zao,zbr,zat]; exact hq
theorem zdB:FnScope ["_law_node_here","_law_place","_law_label_here","_law_some"] ["_law_node_here","_law_place"] (zj zec):=⟨rfl,rfl,rfl,by decide +kernel,rfl,by decide +kernel,by decide +kernel⟩
theorem zkb (d:Df K mg "_law_at" zec ["_law_node_here","_law_place"]):Fn P w K mg base 1 "_law_at" ["_law_node_here","_law_place"] zdA:=by
  refine d.ok zdB (fun ds Q h=>?_) (fun f cdv A outer s H E hr ds Q h=>⟨_,(zd (zbJ (zaV (pv' 1)) (zal 2 zdB.nd)
      (zd (zdD 3 zdB.nd (zde (fsc:=zj zec) (N:=["_law_node_here","_law_place","_law_label_here","_law_some"]) (N':=["_law_kid_here","_law_label_here"]) (src:=[none,some 2]) (by refine ⟨rfl,?_,?_,?_,rfl,rfl⟩ <;> decide +kernel) (zaV (zP (i_A (zaG hr)) (pv' 0) ze)) (fun _ _ _ _ _ _=>(zal 0 (show (["_law_kid_here","_law_label_here"]:List Str).Nodup by decide +kernel))) (fun _ _ _ _ _ _=>(zeh (zaE (zc1 (zbE hr)) (zP (i_A (zaG hr)) (pv' 0) ze) (pv' 1)))) (fun _ _ _ _ _ _=>(pv' 0))))
    (zd (zbh (zaE (zc1 (zbE hr)) (pv' 3) (za7 (zbv zc))) (zi (zR zcZ)) zaK)
    (zi (zV 0 zdB.nd (zP (i_A (zaG hr)) (pv' 3) ze))))))
    (zi (zR (pv' 0)))),?_⟩)
  · obtain ⟨t,p,c,n,rfl,_⟩:=h
    rfl
  obtain ⟨t,p,c,n,rfl,hw,hc,hq⟩:=h; simp [zaa,zT,zU,zW,zk,zq,tC',zbg,zaQ,tB',zaq,zau,zbo,zF,zay,zI,zbp,zZ,zr,zad,zab,zbj,zbq,zbl,zaf,zbm,zas,zac,zG,zw,zu,za8,zp,zaB,zJ,zag,zE,zak,zx,zC,zai,zY,zbk,zL,zae,zK,zaw,zH,zax,zv,zar,zA,zo,zD,zm,zaC,zh,zl,zaz,zN,zM,zaA,zbt,zah,zg,zn,tBr,brN,zB,zy,zz,zaj,zt,zam,zbn,zan,zap,zao,zbr,zat]
  have key:∀ (p:Pl) (t:Tr) (n:Nat) (B s2 s3:Slot),Wf c n t→Q (.val (zbX (zS t p)))→zfv (zk 2)
    (zaa
      (zW
        (zbg
          (zw (zac (zaQ zd6 (zq 0) (tC' (D.int 2)))) [none,some 2] (zk 0)
            (tB' (zaQ zg5 (zaQ zd6 (zq 0) (tC' (D.int 0))) (zq 1))) (zq 0)))
        (zk 3))
      (zaa (zU (tB' (zaQ zg5 (zq 3) (zbg (zab zZ)))) (zT (tC' D.non)) zp)
        (zW (zaQ zd6 (zq 3) (tC' (D.int 0))) (zk 0))))
    { nx:=zT (zq 0) { nx:=fun x=>Q (Res.val D.non),rt:=fun r x=>Q r },rt:=fun r x=>Q r }
    (List.map D.str p) [Slot.val (trD t),B,s2,s3]:=by
    intro p
    induction p with
    | nil=>intro t n B s2 s3 _ q; simpa [zfv,zT,zq,zS,zbX] using q
    | cons l p ih =>
      intro t n B s2 s3 hw q; have hf:=hw.few; simp only [List.map_cons,zfv]; simp [zaa,zT,zU,zW,zk,zq,tC',zbg,zaQ,tB',zaq,zau,zbo,zF,zay,zI,zbp,zZ,zr,zad,zab,zbj,zbq,zbl,zaf,zbm,zas,zac,zG,zw,zu,za8,zp,zaB,zJ,zag,zE,zak,zx,zC,zai,zY,zbk,zL,zae,zK,zaw,zH,zax,zv,zar,zA,zo,zD,zm,zaC,zh,zl,zaz,zN,zM,zaA,zbt,zah,zg,zn,tBr,brN,zB,zy,zz,zaj,zt,zam,zbn,zan,zap,zao,zbr,zat]
      refine ⟨zaT (by omega),zhU ?_⟩
      have hh:=zgK t.kds l; obtain ⟨m,rfl⟩:=hw.pos
      cases hfil:t.kds.filter fun k=>decide (k.lab=l) with
      | nil =>
        rw [hfil] at hh
        have:zS t (l :: p)=none:=by simp [zS,← hh]
        rw [this] at q; exact ⟨true,rfl,.inr ⟨rfl,q⟩⟩
      | cons k r =>
        rw [hfil] at hh
        have hk:zb l t.kds=some k:=hh.symm
        have:zS t (l :: p)=zS k p:=by simp [zS,hk]
        rw [this] at q
        exact ⟨false,rfl,.inl ⟨rfl,_,(show atI _ ((0:Nat):Int)=_ from zdx rfl),ih k m _ _ _ (hw.kw hk) q⟩⟩
  exact key _ _ _ _ _ _ hw hq
theorem zb6:FnScope ["_law_node_here","_law_place","_law_words_here","_law_kids_here","_law_some","_law_kid_here"] ["_law_node_here","_law_place","_law_words_here","_law_kids_here"] (zj zdS):=⟨rfl,rfl,rfl,by decide +kernel,rfl,by decide +kernel,by decide +kernel⟩
theorem zhu (d:Df K mg "_law_made" zdS ["_law_node_here","_law_place","_law_words_here","_law_kids_here"]) (z_tuple:mg "tuple"=none):∀ n:Nat,Fn P w K mg base (n+1) "_law_made" ["_law_node_here","_law_place","_law_words_here","_law_kids_here"] (zaN n):=by
  intro n
  induction n with
  | zero=>exact d.ok (k:=0) zb6 (fun ds Q h=>(show False from h).elim) (fun f cdv A outer s H E hr ds Q h=>(show False from h).elim)
  | succ n ih =>
  have G_law_made:Fn P w K mg base (n+1) "_law_made" ["_law_node_here","_law_place","_law_words_here","_law_kids_here"] (zaN n):=ih
  refine d.ok (k:=n+1) zb6 (fun ds Q h=>?_) (fun f cdv A outer s H E hr ds Q h=>⟨_,(zd (zbh (zaE (zc1 (zbE hr)) (pv' 1) (zaF zc)) (zi (zR (zaF (za (zP (i_A (zaG hr)) (pv' 0) ze) (za (pv' 2) (za (pv' 3) zc)))))) zaK)
    (zd (zbQ 4 zb6.nd (zbv zc))
    (zd (zbJ (zaV (zP (i_A (zaG hr)) (pv' 0) ze)) (zal 5 zb6.nd)
      (zd (zbh (zaE (zc1 (zbE hr)) (zP (i_A (zaG hr)) (pv' 5) ze) (zP (i_A (zaG hr)) (pv' 1) ze)) (zi (zV 5 zb6.nd (zaZ G_law_made (hr.mono (by omega)) (za (pv' 5) (za (zcY s_A (pv' 1) (zdX ze) zfP) (za (pv' 2) (za (pv' 3) zc))))))) zaK)
    (zi (zdV 4 (pv' 5)))))
    (zi (zR (zc0 (zaF (za (zP (i_A (zaG hr)) (pv' 0) ze) (za (zP (i_A (zaG hr)) (pv' 0) ze) (za (zbe zd3 z_tuple PyProof.Rows.boot_tuple (za (pv' 4) zc)) zc)))))))))),?_⟩)
  · obtain ⟨t,p,ws,ks,c,m,rfl,_⟩:=h
    rfl
  obtain ⟨t,p,ws,ks,c,m,rfl,hw,hc,hn,hq⟩:=h; simp [zaa,zT,zU,zW,zk,zq,tC',zbg,zaQ,tB',zaq,zau,zbo,zF,zay,zI,zbp,zZ,zr,zad,zab,zbj,zbq,zbl,zaf,zbm,zas,zac,zG,zw,zu,za8,zp,zaB,zJ,zag,zE,zak,zx,zC,zai,zY,zbk,zL,zae,zK,zaw,zH,zax,zv,zar,zA,zo,zD,zm,zaC,zh,zl,zaz,zN,zM,zaA,zbt,zah,zg,zn,tBr,brN,zB,zy,zz,zaj,zt,zam,zbn,zan,zap,zao,zbr,zat]
  cases p with
  | nil =>
    refine .inr ⟨rfl,?_⟩; rw [zaO] at hq; exact hq
  | cons l p =>
    obtain ⟨n,rfl⟩:∃ n',n=n'+1:=⟨n-1,by simp at hn; omega⟩
    obtain ⟨m,rfl⟩:=hw.pos; have hf:=hw.few
    refine .inl ⟨by simp,?_⟩
    refine zdn (fun i Γ=>∃ s5,Γ=[.val (trD t),.val (plc (l :: p)),.val (plc ws),.val (.tup (ks.map trD)),.own (.lst (((t.kds.take i).map fun k=>if k.lab=l then zcs k p ws ks else k).map trD)),s5]) ⟨.emp,rfl⟩ ?_ ?_
    · rintro i d Γ hd ⟨s5,rfl⟩
      rw [List.getElem?_map] at hd
      cases hc':t.kds[i]? with
      | none=>rw [hc'] at hd; cases hd
      | some k =>
        rw [hc'] at hd; cases hd; have hm:=List.mem_of_getElem? hc'; simp [zaa,zT,zU,zW,zk,zq,tC',zbg,zaQ,tB',zaq,zau,zbo,zF,zay,zI,zbp,zZ,zr,zad,zab,zbj,zbq,zbl,zaf,zbm,zas,zac,zG,zw,zu,za8,zp,zaB,zJ,zag,zE,zak,zx,zC,zai,zY,zbk,zL,zae,zK,zaw,zH,zax,zv,zar,zA,zo,zD,zm,zaC,zh,zl,zaz,zN,zM,zaA,zbt,zah,zg,zn,tBr,brN,zB,zy,zz,zaj,zt,zam,zbn,zan,zap,zao,zbr,zat,zaN]
        by_cases e:k.lab=l
        · refine .inr ⟨e,k,p,ws,ks,⟨rfl,?_,rfl,rfl⟩,c,⟨m,hw.kid k hm⟩,hc,by simp at hn; omega,za6 (by omega),?_⟩
          · show zcM (l :: p) (some ((1:Nat):Int)) none=p
            rw [zgN]; rfl
          · rw [List.take_succ,List.getElem?_map,hc']
            simp [e]
        · refine .inl ⟨e,za6 (by omega),?_⟩
          rw [List.take_succ,List.getElem?_map,hc']; simp [e]
    · rintro Γ ⟨s5,rfl⟩
      rw [show List.take (List.map trD t.kds).length t.kds=t.kds from List.take_of_length_le (by rw [List.length_map]; exact Nat.le_refl _)]
      simp [zaa,zT,zU,zW,zk,zq,tC',zbg,zaQ,tB',zaq,zau,zbo,zF,zay,zI,zbp,zZ,zr,zad,zab,zbj,zbq,zbl,zaf,zbm,zas,zac,zG,zw,zu,za8,zp,zaB,zJ,zag,zE,zak,zx,zC,zai,zY,zbk,zL,zae,zK,zaw,zH,zax,zv,zar,zA,zo,zD,zm,zaC,zh,zl,zaz,zN,zM,zaA,zbt,zah,zg,zn,tBr,brN,zB,zy,zz,zaj,zt,zam,zbn,zan,zap,zao,zbr,zat]
      have e2:trD (zcs t (l :: p) ws ks)=D.tup [D.str t.lab,plc t.wds,D.tup (List.map (trD ∘ fun k=>if k.lab=l then zcs k p ws ks else k) t.kds)]:=by
        simp only [zcs]; rw [zaO]
        show D.tup [_,_,D.tup (List.map trD (List.map _ t.kds))]=_
        rw [List.map_map]; rfl
      rw [← e2]; exact ⟨zcO _,hq⟩
theorem zX:FnScope ["_law_tree_here","_law_cell","_law_number","_law_spots","_law_place","_law_node_here","_law_kid_here","_law_way","_law_room","_law_above","_law_left","_law_old","_law_at_here","_law_new"] ["_law_tree_here","_law_cell"] (zj zbW):=⟨rfl,rfl,rfl,by decide +kernel,rfl,by decide +kernel,by decide +kernel⟩
theorem ze4 (d:Df K mg "_law_changed" zbW ["_law_tree_here","_law_cell"]) (G_law_mix:Fn P w K mg base 1 "_law_mix" ["_law_cell","_law_factor"] zco) (G_law_words:Fn P w K mg base 2 "_law_words" ["_law_number"] zaS) (G_law_kids:Fn P w K mg base 4 "_law_kids" ["_law_kids_here"] zb4) (G_law_node:Fn P w K mg base 5 "_law_node" ["_law_number"] zdq) (G_law_places:Fn P w K mg base 11 "_law_places" ["_law_node_here","_law_place"] (zbu 10)) (G_law_at:Fn P w K mg base 1 "_law_at" ["_law_node_here","_law_place"] zdA) (G_law_made:Fn P w K mg base 11 "_law_made" ["_law_node_here","_law_place","_law_words_here","_law_kids_here"] (zaN 10)) (z_len:mg "len"=none) (z_tuple:mg "tuple"=none):Fn P w K mg base 12 "_law_changed" ["_law_tree_here","_law_cell"] za1:=by
  refine d.ok zX (fun ds Q h=>?_) (fun f cdv A outer s H E hr ds Q h=>⟨_,(zd (zV 2 zX.nd (zaZ G_law_mix (hr.mono (by decide)) (za (pv' 1) (za ze zc))))
    (zd (zV 3 zX.nd (zaZ G_law_places (hr.mono (by decide)) (za (pv' 0) (za (zaF zc) zc))))
    (zd (zV 4 zX.nd (zP (i_A (zaG hr)) (pv' 3) (zQ zcd (zaZ G_law_mix (hr.mono (by decide)) (za (pv' 1) (za ze zc))) (zbs zdK z_len PySem.boot_len (za (pv' 3) zc)))))
    (zd (zV 5 zX.nd (zaZ G_law_at (hr.mono (by decide)) (za (pv' 0) (za (pv' 4) zc))))
    (zd (zV 6 zX.nd (zaZ G_law_node (hr.mono (by decide)) (za (zaZ G_law_mix (hr.mono (by decide)) (za (pv' 1) (za ze zc))) zc)))
    (zd (zV 7 zX.nd (zQ zcd (pv' 2) ze))
    (zd (zV 8 zX.nd (zj6 (zfO zsx (zbs zdK z_len PySem.boot_len (za (pv' 4) zc)) ze) (zj2 (zfO zsx (zbs zdK z_len PySem.boot_len (za (pv' 3) zc)) ze))))
    (zd (zbh (PW'.pt (zdU (zaE zsx (pv' 7) ze) (zdU (zeD (pv' 8)) (zeg (zaE zsy (zaZ G_law_at (hr.mono (by decide)) (za (pv' 5) (za (zaF (za (zP (i_A (zaG hr)) (pv' 6) ze) zc)) zc))) zcZ))))) (zi (zR (zaZ G_law_made (hr.mono (by decide)) (za (pv' 0) (za (pv' 4) (za (zP (i_A (zaG hr)) (pv' 5) ze) (za (zaZ G_law_kids (hr.mono (by decide)) (za (zQ zca (zP (i_A (zaG hr)) (pv' 5) ze) (zaF (za (pv' 6) zc))) zc)) zc))))))) zaK)
    (zd (zbh (PW'.pt (zdU (zaE (zc1 (zbE hr)) (pv' 7) ze) (zeg (zaE (zhy (zbE hr)) (pv' 4) (zaF zc))))) (zd (zV 9 zX.nd (zaZ G_law_at (hr.mono (by decide)) (za (pv' 0) (za (zcY s_A (pv' 4) zfP (zdX zhi)) zc))))
    (zd (zdD 10 zX.nd (zde (fsc:=zj zbW) (N:=["_law_tree_here","_law_cell","_law_number","_law_spots","_law_place","_law_node_here","_law_kid_here","_law_way","_law_room","_law_above","_law_left","_law_old","_law_at_here","_law_new"]) (N':=["_law_one","_law_place"]) (src:=[none,some 4]) (by refine ⟨rfl,?_,?_,?_,rfl,rfl⟩ <;> decide +kernel) (zaV (zP (i_A (zaG hr)) (pv' 9) ze)) (fun _ _ _ _ _ _=>(zal 0 (show (["_law_one","_law_place"]:List Str).Nodup by decide +kernel))) (fun _ _ _ _ _ _=>(zeh (zaE (zhy (zbE hr)) (zP (i_A (zaG hr)) (pv' 0) ze) (zP (i_A (zaG hr)) (pv' 1) zhi)))) (fun _ _ _ _ _ _=>(pv' 0))))
    (zi (zR (zaZ G_law_made (hr.mono (by decide)) (za (pv' 0) (za (zcY s_A (pv' 4) zfP (zdX zhi)) (za (zP (i_A (zaG hr)) (pv' 9) ze) (za (zbe zd3 z_tuple PyProof.Rows.boot_tuple (za (pv' 10) zc)) zc))))))))) zaK)
    (zd (zbh (PW'.pt (zdU (zaE (zc1 (zbE hr)) (pv' 7) ze) (zeg (zaE (zhy (zbE hr)) (zP (i_A (zaG hr)) (pv' 5) ze) (zaF zc))))) (zd (zV 11 zX.nd (zP (i_A (zaG hr)) (pv' 5) ze))
    (zd (zV 12 zX.nd (zQ zcd (zQ zb9 (pv' 2) ze) (zbs zdK z_len PySem.boot_len (za (pv' 11) zc))))
    (zd (zV 13 zX.nd (zQ zca (zQ zca (zcY s_A (pv' 11) zfP (zdX (pv' 12))) (zaZ G_law_words (hr.mono (by decide)) (za (zQ zb9 (pv' 2) ze) zc))) (zcY s_A (pv' 11) (zdX (zQ zca (pv' 12) ze)) zfP)))
    (zi (zR (zaZ G_law_made (hr.mono (by decide)) (za (pv' 0) (za (pv' 4) (za (pv' 13) (za (zP (i_A (zaG hr)) (pv' 5) ze) zc)))))))))) zaK)
    (zi (zR (zaZ G_law_made (hr.mono (by decide)) (za (pv' 0) (za (pv' 4) (za (zaZ G_law_words (hr.mono (by decide)) (za (zQ zb9 (pv' 2) ze) zc)) (za (zP (i_A (zaG hr)) (pv' 5) ze) zc))))))))))))))))),?_⟩)
  · obtain ⟨t,x,c,rfl,_⟩:=h
    rfl
  obtain ⟨t,x,c,rfl,hw,hc,h63,hq⟩:=h; simp [zaa,zT,zU,zW,zk,zq,tC',zbg,zaQ,tB',zaq,zau,zbo,zF,zay,zI,zbp,zZ,zr,zad,zab,zbj,zbq,zbl,zaf,zbm,zas,zac,zG,zw,zu,za8,zp,zaB,zJ,zag,zE,zak,zx,zC,zai,zY,zbk,zL,zae,zK,zaw,zH,zax,zv,zar,zA,zo,zD,zm,zaC,zh,zl,zaz,zN,zM,zaA,zbt,zah,zg,zn,tBr,brN,zB,zy,zz,zaj,zt,zam,zbn,zan,zap,zao,zbr,zat,zfw,ziM]
  refine ⟨_,_,rfl,fun m m0 m1=>?_⟩
  refine ⟨t,[],c,rfl,hw.up (Nat.le_refl _) (by decide),by decide,h63,?_⟩
  refine ⟨_,_,rfl,fun m2 a0 a1=>?_⟩
  simp [zaa,zT,zU,zW,zk,zq,tC',zbg,zaQ,tB',zaq,zau,zbo,zF,zay,zI,zbp,zZ,zr,zad,zab,zbj,zbq,zbl,zaf,zbm,zas,zac,zG,zw,zu,za8,zp,zaB,zJ,zag,zE,zak,zx,zC,zai,zY,zbk,zL,zae,zK,zaw,zH,zax,zv,zar,zA,zo,zD,zm,zaC,zh,zl,zaz,zN,zM,zaA,zbt,zah,zg,zn,tBr,brN,zB,zy,zz,zaj,zt,zam,zbn,zan,zap,zao,zbr,zat]
  have hpl:0<(ze0 t []).length:=by rw [zfL]; simp
  obtain ⟨d,e1,hd⟩:=ziK ((ze0 t []).map plc) (md (i:=m2) (n:=(ze0 t []).length) hpl).1 (by rw [List.length_map]; exact (md (i:=m2) (n:=(ze0 t []).length) hpl).2)
  obtain ⟨p,hp,rfl⟩:=List.mem_map.mp hd; obtain ⟨p',nd,ep,hn⟩:=zmR hw hp; rw [List.nil_append] at ep; subst ep; obtain ⟨hp9,wn⟩:=hw.at hn
  refine ⟨hpl,_,e1,t,p,c,9,rfl,hw,by omega,?_⟩
  rw [hn]
  refine ⟨_,_,rfl,fun m3 b0 b1=>?_⟩
  refine ⟨_,rfl,fun kd wk lk ck=>?_⟩
  simp [zaa,zT,zU,zW,zk,zq,tC',zbg,zaQ,tB',zaq,zau,zbo,zF,zay,zI,zbp,zZ,zr,zad,zab,zbj,zbq,zbl,zaf,zbm,zas,zac,zG,zw,zu,za8,zp,zaB,zJ,zag,zE,zak,zx,zC,zai,zY,zbk,zL,zae,zK,zaw,zH,zax,zv,zar,zA,zo,zD,zm,zaC,zh,zl,zaz,zN,zM,zaA,zbt,zah,zg,zn,tBr,brN,zB,zy,zz,zaj,zt,zam,zbn,zan,zap,zao,zbr,zat,zbX]
  have cd5:zfw m 5:=by simp [zfw]
  have cd40:zfw m 40:=by simp [zfw]
  have wrd:∀ ws:Pl,(ws.length≤nd.wds.length+3∨ws.length≤3)→zaN 10 [trD t,plc p,plc ws,D.tup (List.map trD nd.kds)] fun r=>Q (Res.val r.toD):=fun ws h=>by
    refine ⟨t,p,ws,nd.kds,c,9,rfl,hw,by omega,Nat.le_of_lt hp9,hq _ (zpp hw hn h) ?_ (zdg _ _ _ _) (zka hn)⟩
    have:=zel (ws:=ws) (ks:=nd.kds) hw hn
    omega
  have w4:zfw m 5∧zaS [D.int (m / 5)] fun r=>zaN 10 [trD t,plc p,r.toD,D.tup (List.map trD nd.kds)] fun r=>Q (Res.val r.toD):=⟨cd5,_,rfl,fun ws hws=>wrd ws (.inr hws)⟩
  have w3 : ¬nd.wds = [] → zfw m 5 ∧
                    0<List.length nd.wds ∧
                      zfw m 40 ∧
                        zaS [D.int (m / 40)] fun r =>
                          zd8 (plc (zcM nd.wds none (some (m / 5 % ↑(List.length nd.wds))))) r.toD fun d =>
                            zd8 d (plc (zcM nd.wds (some (m / 5 % ↑(List.length nd.wds)+1)) none)) fun d =>
                              zaN 10 [trD t,plc p,d,D.tup (List.map trD nd.kds)] fun r =>
                                Q (Res.val r.toD):=fun hne=>by
    have hpos:0<nd.wds.length:=List.length_pos_iff.mpr hne
    refine ⟨cd5,hpos,cd40,_,rfl,fun ws hws=>?_⟩
    have hi:=md (i:=m / 5) (n:=nd.wds.length) hpos; have hwf:=wn.wfew; obtain ⟨k,hk⟩:=Int.eq_ofNat_of_zero_le hi.1; rw [hk] at hi ⊢
    rw [zo0,show ((k:Int)+1)=((k+1:Nat):Int) by omega,zgN]
    simp [Res.toD]
    refine ⟨zaT (by omega),zaT (by omega),wrd _ (.inl ?_)⟩
    simp; omega
  have w2 : ¬p = [] → zdA [trD t, plc (zcM p none (some (-1)))] fun r =>
                  zd6 r.toD (D.int 2) fun d =>
                    ∃ ds,
                      znK d=some ds ∧
                        ds.length≤sizeLine ∧
                          zbO (zk 0)
                            (tB'
                              (zaQ zjJ (zaQ zd6 (zq 0) (tC' (D.int 0)))
                                (zaQ zd6 (zq 1) (tC' (D.int (-1))))))
                            (zq 0)
                            (fun acc =>
                              zd6 r.toD (D.int 1) fun d =>
                                zaN 10 [trD t,plc (zcM p none (some (-1))),d,D.tup acc] fun r =>
                                  Q (Res.val r.toD))
                            ds [] [Slot.emp,Slot.val (plc p)]:=fun hne=>by
    rw [zkL]
    obtain ⟨ab,hab⟩:∃ ab,zS t p.dropLast=some ab:=by
      have:=zhA (t:=t) (p:=p) (by rw [hn]; rfl) (p.length-1)
      rw [← List.dropLast_eq_take] at this; exact Option.isSome_iff_exists.mp this
    have hf:=(hw.at hab).2.few
    refine ⟨t,p.dropLast,c,9,rfl,hw,by omega,?_⟩
    rw [hab]; simp [Res.toD,zbX,znK]
    refine ⟨zaT (by omega),?_⟩
    refine zo1 hne ?_
    have sb:(ab.kds.filter fun k=>decide (k.lab≠zdZ p)).Sublist ab.kds:=List.filter_sublist
    refine ⟨t,p.dropLast,ab.wds,_,c,9,rfl,hw,by omega,by simp; omega,hq _ (zqk hw hab sb) ?_ (zdg _ _ _ _) (zop (zdZ p) hw hab)⟩
    have:=zof (ws:=ab.wds) hw hab sb
    omega
  have t3 : (¬m % 5 = 3 ∧ zfw m 5 ∧ zaS [D.int (m / 5)] fun r => zaN 10 [trD t, plc p, r.toD, D.tup (List.map trD nd.kds)] fun r => Q (Res.val r.toD)) ∨ m % 5 = 3 ∧ ((nd.wds = [] ∧ zfw m 5 ∧ zaS [D.int (m / 5)] fun r => zaN 10 [trD t, plc p, r.toD, D.tup (List.map trD nd.kds)] fun r => Q (Res.val r.toD)) ∨ ¬nd.wds = [] ∧ zfw m 5 ∧
                    0<List.length nd.wds ∧
                      zfw m 40 ∧
                        zaS [D.int (m / 40)] fun r =>
                          zd8 (plc (zcM nd.wds none (some (m / 5 % ↑(List.length nd.wds))))) r.toD fun d =>
                            zd8 d (plc (zcM nd.wds (some (m / 5 % ↑(List.length nd.wds)+1)) none)) fun d =>
                              zaN 10 [trD t,plc p,d,D.tup (List.map trD nd.kds)] fun r =>
                                Q (Res.val r.toD)):=by
    by_cases e3:m % 5=3
    · by_cases e4:nd.wds=[]
      · exact .inr ⟨e3,.inl ⟨e4,w4⟩⟩
      · exact .inr ⟨e3,.inr ⟨e4,w3 e4⟩⟩
    · exact .inl ⟨e3,w4⟩
  by_cases p6:p.length<6
  · by_cases m2':m % 5<2
    · by_cases c60:(ze0 t []).length<60
      · refine .inr ⟨by omega,.inr ⟨m2',.inr ⟨by omega,?_⟩⟩⟩
        refine ⟨nd,[kd.lab],c,_,rfl,wn,by omega,?_⟩
        cases hk:zb kd.lab nd.kds with
        | some k' =>
          rw [show zS nd [kd.lab]=some k' by simp [zS,hk]]
          simp [Res.toD,zbX,zjN,zbG]
          by_cases e2:m % 5=2
          · by_cases e5:p=[]
            · exact .inr ⟨e2,.inl ⟨e5,t3⟩⟩
            · exact .inr ⟨e2,.inr ⟨e5,w2 e5⟩⟩
          · exact .inl ⟨e2,t3⟩
        | none =>
          rw [show zS nd [kd.lab]=none by simp [zS,hk]]
          simp [Res.toD,zbX,zjN]
          have hpk:∀ k ∈ nd.kds ++ [kd],zaH k.lab=true:=fun k hk=>by
            rcases List.mem_append.mp hk with z | z
            · exact wn.plab k z
            · rw [List.mem_singleton.mp z]; exact lk
          have hf:=wn.few; have ok:=zem hpk
          refine .inr ⟨_,_,rfl,rfl,zaT (by simp; omega),?_⟩
          refine ⟨_,nd.kds ++ [kd],rfl,.inr (by simp),hpk,by simp; omega,?_⟩
          refine ⟨t,p,nd.wds,_,c,9,rfl,hw,by omega,Nat.le_of_lt hp9,hq _ (zp2 hw hn p6 wk lk ok) ?_ (zdg _ _ _ _) (zoo hw hn hk lk wk)⟩
          have h1:=znR (ws:=nd.wds) hw hn ok; have h2:=zei t []; omega
      · refine .inr ⟨by omega,.inr ⟨m2',.inl ⟨by omega,?_⟩⟩⟩
        by_cases e2:m % 5=2
        · by_cases e5:p=[]
          · exact .inr ⟨e2,.inl ⟨e5,t3⟩⟩
          · exact .inr ⟨e2,.inr ⟨e5,w2 e5⟩⟩
        · exact .inl ⟨e2,t3⟩
    · refine .inr ⟨by omega,.inl ⟨by omega,?_⟩⟩
      by_cases e2:m % 5=2
      · by_cases e5:p=[]
        · exact .inr ⟨e2,.inl ⟨e5,t3⟩⟩
        · exact .inr ⟨e2,.inr ⟨e5,w2 e5⟩⟩
      · exact .inl ⟨e2,t3⟩
  · refine .inl ⟨by omega,by omega,?_⟩
    by_cases e2:m % 5=2
    · by_cases e5:p=[]
      · exact .inr ⟨e2,.inl ⟨e5,t3⟩⟩
      · exact .inr ⟨e2,.inr ⟨e5,w2 e5⟩⟩
    · exact .inl ⟨e2,t3⟩
theorem zcC:FnScope ["_law_cells","_law_tree_here","_law_cell"] ["_law_cells"] (zj zdO):=⟨rfl,rfl,rfl,by decide +kernel,rfl,by decide +kernel,by decide +kernel⟩
theorem zhq (d:Df K mg "_law_tree" zdO ["_law_cells"]) (G_law_changed:Fn P w K mg base 12 "_law_changed" ["_law_tree_here","_law_cell"] za1):Fn P w K mg base 13 "_law_tree" ["_law_cells"] zdp:=by
  refine d.ok zcC (fun ds Q h=>?_) (fun f cdv A outer s H E hr ds Q h=>⟨_,(zd (zV 1 zcC.nd (zaF (za (zbw []) (za (zaF zc) (za (zaF zc) zc)))))
    (zd (zbJ (zaV (pv' 0)) (zal 2 zcC.nd)
      (zi (zV 1 zcC.nd (zaZ G_law_changed (hr.mono (by decide)) (za (pv' 1) (za (pv' 2) zc))))))
    (zi (zR (pv' 1))))),?_⟩)
  · obtain ⟨ns,rfl,_⟩:=h
    rfl
  obtain ⟨ns,rfl,hl,hq⟩:=h; simp [zaa,zT,zU,zW,zk,zq,tC',zbg,zaQ,tB',zaq,zau,zbo,zF,zay,zI,zbp,zZ,zr,zad,zab,zbj,zbq,zbl,zaf,zbm,zas,zac,zG,zw,zu,za8,zp,zaB,zJ,zag,zE,zak,zx,zC,zai,zY,zbk,zL,zae,zK,zaw,zH,zax,zv,zar,zA,zo,zD,zm,zaC,zh,zl,zaz,zN,zM,zaA,zbt,zah,zg,zn,tBr,brN,zB,zy,zz,zaj,zt,zam,zbn,zan,zap,zao,zbr,zat]
  refine zdn (fun i Γ=>∃ (t:Tr) (s2:Slot),Γ=[.val (.lst (ns.map .int)),.val (trD t),s2]∧Wf i 9 t∧M71.cnt t≤63∧t.lab=[]) ⟨.node [] [] [],.emp,by rw [zaO]; rfl,zo6.up (Nat.le_refl _) (by omega),by decide,rfl⟩ ?_ ?_
  · rintro i d Γ hd ⟨t,s2,rfl,hw,h63,hlab⟩
    rw [List.getElem?_map] at hd
    cases hc:ns[i]? with
    | none=>rw [hc] at hd; cases hd
    | some x =>
      rw [hc] at hd; cases hd; have hi:=(List.getElem?_eq_some_iff.mp hc).1; simp [zaa,zT,zU,zW,zk,zq,tC',zbg,zaQ,tB',zaq,zau,zbo,zF,zay,zI,zbp,zZ,zr,zad,zab,zbj,zbq,zbl,zaf,zbm,zas,zac,zG,zw,zu,za8,zp,zaB,zJ,zag,zE,zak,zx,zC,zai,zY,zbk,zL,zae,zK,zaw,zH,zax,zv,zar,zA,zo,zD,zm,zaC,zh,zl,zaz,zN,zM,zaA,zbt,zah,zg,zn,tBr,brN,zB,zy,zz,zaj,zt,zam,zbn,zan,zap,zao,zbr,zat]
      exact ⟨t,_,i,rfl,hw,by omega,h63,fun t' a b e _=>⟨t',rfl,a,b,e.trans hlab⟩⟩
  · rintro Γ ⟨t,s2,rfl,hw,h63,hlab⟩
    rw [List.length_map] at hw; simp [zaa,zT,zU,zW,zk,zq,tC',zbg,zaQ,tB',zaq,zau,zbo,zF,zay,zI,zbp,zZ,zr,zad,zab,zbj,zbq,zbl,zaf,zbm,zas,zac,zG,zw,zu,za8,zp,zaB,zJ,zag,zE,zak,zx,zC,zai,zY,zbk,zL,zae,zK,zaw,zH,zax,zv,zar,zA,zo,zD,zm,zaC,zh,zl,zaz,zN,zM,zaA,zbt,zah,zg,zn,tBr,brN,zB,zy,zz,zaj,zt,zam,zbn,zan,zap,zao,zbr,zat]; exact hq t hw h63 hlab
end
end K83
namespace K83
open PySem L2 Lb PL MT M04 MS M70 M71 M81 M73 M72 M82 M83 M84 M85
def zle (x y:D):Prop:=∃ b:Bool,(b=true↔x=y)∧∀ Q:D→Prop,(Q (.bl b)→zrA x y Q)∧(Q (.bl (!b))→zth x y Q)
theorem zle.of {x y:D} {b:Bool} (e:eqD 100 x y=some b) (h:b=true↔x=y):zle x y:=⟨b,h,fun Q=>⟨fun q=>.inl ⟨b,e,q⟩,fun q=>.inl ⟨b,e,q⟩⟩⟩
theorem zdh (p q:Pl):zle (plc p) (plc q):=.of (zd0 99 p q) (by
  rw [decide_eq_true_eq]
  exact ⟨fun h=>by rw [h],fun h=>zcI h⟩)
theorem zjt {t u:Tr} {c d n:Nat} (h1:Wf c n t) (h2:Wf d n u) (hn:n≤20) (e:trD t=trD u):t=u:=by
  obtain ⟨b,e1,i⟩:=ziB h1 h1 100 (by omega)
  obtain ⟨b',e2,i'⟩:=ziB h1 h2 100 (by omega)
  rw [← e,e1] at e2
  have:b=true:=i.mpr rfl
  rw [← Option.some.inj e2] at i'; exact i'.mp this
theorem zbZ {c d n:Nat} {o o':Option Tr} (h1:∀ t,o=some t→Wf c n t) (h2:∀ t,o'=some t→Wf d n t) (hn:n≤20):zle (zbX o) (zbX o'):=by
  cases o with
  | none=>cases o' with
    | none=>exact .of (zoV 100) (by simp)
    | some u=>exact ⟨false,⟨fun z=>(nomatch z),fun z=>absurd z.symm (zbG u)⟩,fun Q=>⟨fun q=>.inr ⟨.inl ⟨rfl,_,zaO u⟩,q⟩,fun q=>.inr ⟨.inl ⟨rfl,_,zaO u⟩,q⟩⟩⟩
  | some t=>cases o' with
    | none=>exact ⟨false,⟨fun z=>(nomatch z),fun z=>absurd z (zbG t)⟩,fun Q=>⟨fun q=>.inr ⟨.inr ⟨⟨_,zaO t⟩,rfl⟩,q⟩,fun q=>.inr ⟨.inr ⟨⟨_,zaO t⟩,rfl⟩,q⟩⟩⟩
    | some u =>
      obtain ⟨b,e,i⟩:=ziB (h1 t rfl) (h2 u rfl) 100 (by omega)
      refine .of e ⟨fun z=>?_,fun z=>i.mpr (zjt (h1 t rfl) (h2 u rfl) hn z)⟩
      rw [i.mp z]
def zcn:SpM:=fun o ds Q=>∃ xs f a b p,o=.lst xs∧ds=[f,a,b,plc p]∧zle a f∧zle b f∧zle a b∧xs.length≤1000∧Q (st3 f a b) (.lst (xs ++ zgG f a b (plc p)))
def zcp:Nat→SpM
  | 0=>fun _ _ _=>False
  | n+1=>fun o ds Q=>∃ xs f a b c p,o=.lst xs∧ds=[trD f,trD a,trD b,plc p]∧Wf c (n+1) f∧Wf c (n+1) a∧Wf c (n+1) b∧c≤36∧zaX 60 f a b∧n≤12∧p.length+n≤100∧xs.length+cnt f+cnt a+cnt b≤900∧Q (trD (jn (n+1) f a b)) (.lst (xs ++ (cl (n+1) f a b p).map plc))
def zcB:Nat→SpM:=fun n o ds Q=>∃ xs f a b c p,o=.lst xs∧ds=[.lst [zbX f,zbX a,zbX b],plc p]∧(∀ t,f=some t→Wf c n t)∧(∀ t,a=some t→Wf c n t)∧(∀ t,b=some t→Wf c n t)∧c≤36∧(∀ t u v,f=some t→a=some u→b=some v→zaX 60 t u v)∧n≤12∧p.length+n≤101∧xs.length+oc cnt f+oc cnt a+oc cnt b≤900∧Q (zbX (zmp n f a b)) (.lst (xs ++ (zgS n f a b p).map plc))
def tgR (f a b:Tr) (Q:Res→Prop):Prop:=(cl 10 f a b []=[]∧Q (.val (.tup [.str [116,114,101,101],trD (jn 10 f a b)])))∨(cl 10 f a b []≠[]∧Q (.bk (fun z=>.tup [.str [99,108,97,115,104],z]) (.lst ((cl 10 f a b []).map plc))))
def zcw:Sp':=fun ds Q=>∃ f a b c,ds=[trD f,trD a,trD b]∧Wf c 10 f∧Wf c 10 a∧Wf c 10 b∧c≤36∧zaX 60 f a b∧cnt f+cnt a+cnt b≤900∧tgR f a b Q
instance {n:Nat}:MSpM (zcB n):=⟨fun _ _ _ _ h ⟨xs,f,a,b,c,p,e,z1,z2,z3,z4,z5,z6,z7,z8,z9,q⟩=>⟨xs,f,a,b,c,p,e,z1,z2,z3,z4,z5,z6,z7,z8,z9,h _ _ q⟩⟩
theorem zkO {l:List Nat} {R:List D→Prop} (ts:List Tr) (h:R (ts.map fun t=>zbX (zb l t.kds))):zbO (zk 0) za8 (zu zbI (zr (zq 0) (zr (zq 1) zZ))) R (ts.map trD) [] [Slot.emp,Slot.val (D.str l)]:=by
  refine zck (fun i a Γ=>∃ s0,a=(ts.take i).map (fun t=>zbX (zb l t.kds))∧Γ=[s0,.val (.str l)]) ⟨.emp,rfl,rfl⟩ ?_ ?_
  · rintro i d a Γ hd ⟨s0,rfl,rfl⟩
    rw [List.getElem?_map] at hd
    cases hc:ts[i]? with
    | none=>rw [hc] at hd; cases hd
    | some t =>
      rw [hc] at hd; cases hd; simp [zaa,zT,zU,zW,zk,zq,tC',zbg,zaQ,tB',zaq,zau,zbo,zF,zay,zI,zbp,zZ,zr,zad,zab,zbj,zbq,zbl,zaf,zbm,zas,zac,zG,zw,zu,za8,zp,zaB,zJ,zag,zE,zak,zx,zC,zai,zY,zbk,zL,zae,zK,zaw,zH,zax,zv,zar,zA,zo,zD,zm,zaC,zh,zl,zaz,zN,zM,zaA,zbt,zah,zg,zn,tBr,brN,zB,zy,zz,zaj,zt,zam,zbn,zan,zap,zao,zbr,zat,zbI]; refine ⟨t,l,⟨rfl,rfl⟩,?_⟩; rw [List.take_succ,List.getElem?_map,hc]; simp
  · rintro a Γ ⟨s0,rfl,rfl⟩
    rw [show List.take (List.map trD ts).length ts=ts from List.take_of_length_le (by rw [List.length_map]; exact Nat.le_refl _)]
    exact h
theorem zf7 {α β:Type} {f a b:α} {x:β} (h:¬ ck3 f a b):zgG f a b x=[]:=if_neg h
theorem zen {α β:Type} {f a b:α} {x:β} (h:ck3 f a b):zgG f a b x=[x]:=if_pos h
theorem zbR {c d n:Nat} {o o':Option Tr} (h1:∀ t,o=some t→Wf c n t) (h2:∀ t,o'=some t→Wf d n t) (hn:n≤20) (e:zbX o=zbX o'):o=o':=by
  cases o with
  | none=>cases o' with
    | none=>rfl
    | some u=>exact absurd e.symm (zbG u)
  | some t=>cases o' with
    | none=>exact absurd e (zbG t)
    | some u=>rw [zjt (h1 t rfl) (h2 u rfl) hn e]
section
variable {P:Program} {w:World} {K:PySem.W.Frag} {mg:Str→Option Value} {base:Heap}
theorem ziT:FnScope ["first","one","other","place","clashes"] ["first","one","other","place","clashes"] (zj zeA):=⟨rfl,rfl,rfl,by decide +kernel,rfl,by decide +kernel,by decide +kernel⟩
theorem zi5 (d:Df K mg "settled" zeA ["first","one","other","place","clashes"]):FnM P w K mg base 1 "settled" ["first","one","other","place","clashes"] 4 zcn:=by
  refine d.okM ziT (fun o ds Q h=>?_) (fun f cdv A outer s H E hr b o ds Q h=>⟨_,(zd (zbh (PW'.pt (zdU (zaE (zoq (zbE hr)) (pv' 1) (pv' 0)) (zdU (zaE (zoq (zbE hr)) (pv' 2) (pv' 0)) (zeg (zaE (zoq (zbE hr)) (pv' 1) (pv' 2)))))) (zi (zhh 4 (pv' 3))) zaK)
    (zi (zR (zqh (zaE (zlS (zbE hr)) (pv' 1) (pv' 0)) (pv' 2) (pv' 1))))),?_⟩)
  · obtain ⟨xs,f,a,b,p,rfl,rfl,_⟩:=h
    rfl
  obtain ⟨xs,f,a,b,p,rfl,rfl,⟨b1,i1,h1⟩,⟨b2,i2,h2⟩,⟨b3,i3,h3⟩,hx,hq⟩:=h
  simp [zaa,zT,zU,zW,zk,zq,tC',zbg,zaQ,tB',zaq,zau,zbo,zF,zay,zI,zbp,zZ,zr,zad,zab,zbj,zbq,zbl,zaf,zbm,zas,zac,zG,zw,zu,za8,zp,zaB,zJ,zag,zE,zak,zx,zC,zai,zY,zbk,zL,zae,zK,zaw,zH,zax,zv,zar,zA,zo,zD,zm,zaC,zh,zl,zaz,zN,zM,zaA,zbt,zah,zg,zn,tBr,brN,zB,zy,zz,zaj,zt,zam,zbn,zan,zap,zao,zbr,zat]
  have tail:∀ ys,Q (st3 f a b) (OD.lst ys)→zrA a f fun d=>d=D.bl false∧Q a (OD.lst ys)∨d=D.bl true∧Q b (OD.lst ys):=fun ys hq=>by
    refine (h1 _).1 ?_
    cases b1 with
    | true =>
      rw [st3,if_pos (i1.mp rfl)] at hq; exact .inr ⟨rfl,hq⟩
    | false =>
      rw [st3,if_neg fun z=>absurd (i1.mpr z) (by simp)] at hq
      exact .inl ⟨rfl,hq⟩
  have no:¬ ck3 f a b→zrA a f fun d=>d=D.bl false∧Q a (OD.lst xs)∨d=D.bl true∧Q b (OD.lst xs):=fun z=>tail xs (by rw [zf7 z,List.append_nil] at hq; exact hq)
  refine (h1 _).2 ?_
  cases b1 with
  | true=>exact .inl ⟨rfl,no fun z=>z.1 (i1.mp rfl)⟩
  | false =>
    refine .inr ⟨rfl,(h2 _).2 ?_⟩
    cases b2 with
    | true=>exact .inl ⟨rfl,no fun z=>z.2.1 (i2.mp rfl)⟩
    | false =>
      refine .inr ⟨rfl,(h3 _).2 ?_⟩
      cases b3 with
      | true=>exact .inl ⟨rfl,no fun z=>z.2.2 (i3.mp rfl)⟩
      | false =>
        refine .inr ⟨rfl,za6 hx,tail _ ?_⟩
        rw [zen ⟨fun z=>absurd (i1.mpr z) (by simp),fun z=>absurd (i2.mpr z) (by simp),fun z=>absurd (i3.mpr z) (by simp)⟩] at hq
        exact hq
theorem zfE:FnScope ["three","place","clashes"] ["three","place","clashes"] (zj zcV):=⟨rfl,rfl,rfl,by decide +kernel,rfl,by decide +kernel,by decide +kernel⟩
theorem zfX (d:Df K mg "joined_kid" zcV ["three","place","clashes"]) (G_settled:FnM P w K mg base 1 "settled" ["first","one","other","place","clashes"] 4 zcn):∀ n:Nat,FnM P w K mg base (2 * n+7) "joined" ["first","one","other","place","clashes"] 4 (zcp n)→FnM P w K mg base (2 * n+8) "joined_kid" ["three","place","clashes"] 2 (zcB n):=by
  intro n G_joined
  refine d.okM (k:=2 * n+7) zfE (fun o ds Q h=>?_) (fun f cdv A outer s H E hr b o ds Q h=>⟨_,(zd (zbh (zaE (zsz (zaG hr)) zcZ (pv' 0)) (zi (zR (zcJ G_settled (hr.mono (by omega)) (zaY (zP (i_A (zaG hr)) (pv' 0) ze) (zaY (zP (i_A (zaG hr)) (pv' 0) ze) (zaY (zP (i_A (zaG hr)) (pv' 0) ze) (zaY (pv' 1) (zdv 2 zc)))))))) zaK)
    (zi (zR (zcJ G_joined (hr.mono (by omega)) (zaY (zP (i_A (zaG hr)) (pv' 0) ze) (zaY (zP (i_A (zaG hr)) (pv' 0) ze) (zaY (zP (i_A (zaG hr)) (pv' 0) ze) (zaY (pv' 1) (zdv 2 zc))))))))),?_⟩)
  · obtain ⟨xs,f,a,b,c,p,rfl,rfl,_⟩:=h
    rfl
  obtain ⟨xs,f,a,b,c,p,rfl,rfl,hf,ha,hb,hc,h3,hn,hp,hx,hq⟩:=h; simp [zaa,zT,zU,zW,zk,zq,tC',zbg,zaQ,tB',zaq,zau,zbo,zF,zay,zI,zbp,zZ,zr,zad,zab,zbj,zbq,zbl,zaf,zbm,zas,zac,zG,zw,zu,za8,zp,zaB,zJ,zag,zE,zak,zx,zC,zai,zY,zbk,zL,zae,zK,zaw,zH,zax,zv,zar,zA,zo,zD,zm,zaC,zh,zl,zaz,zN,zM,zaA,zbt,zah,zg,zn,tBr,brN,zB,zy,zz,zaj,zt,zam,zbn,zan,zap,zao,zbr,zat]
  have shape:∀ o:Option Tr,zbX o=.non∨∃ es,zbX o=.tup es:=fun o=>by
    cases o with
    | none=>exact .inl rfl
    | some t=>exact .inr ⟨_,zaO t⟩
  have nonO:∀ o:Option Tr,zpg (zbX o)=o.isNone:=fun o=>by
    cases o with
    | none=>rfl
    | some t=>rw [show zbX (some t)=trD t from rfl,zaO]; rfl
  refine ⟨_,rfl,rfl,fun x hx=>?_,?_⟩
  · simp only [List.mem_cons,List.not_mem_nil,or_false] at hx
    rcases hx with rfl | rfl | rfl <;> exact shape _
  simp only [List.any_cons,List.any_nil,nonO]
  have st:(f=none∨a=none∨b=none)→zcn (OD.lst xs) [zbX f,zbX a,zbX b,plc p] fun r o'=>Q r o':=fun z=>by
    rw [zkv z,zcu z,ziw] at hq
    refine ⟨xs,_,_,_,p,rfl,rfl,zbZ ha hf (by omega),zbZ hb hf (by omega),zbZ ha hb (by omega),by omega,?_⟩
    rw [zg9 zbX (zbR ha hf (by omega)),ziv zbX (zbR ha hf (by omega)) (zbR hb hf (by omega)) (zbR ha hb (by omega))]
    exact hq
  cases f with
  | none=>exact .inr ⟨rfl,st (.inl rfl)⟩
  | some tf=>cases a with
    | none=>exact .inr ⟨rfl,st (.inr (.inl rfl))⟩
    | some ta=>cases b with
      | none=>exact .inr ⟨rfl,st (.inr (.inr rfl))⟩
      | some tb =>
        have wf:=hf tf rfl; obtain ⟨m,rfl⟩:=wf.pos
        exact .inl ⟨rfl,xs,tf,ta,tb,c,p,rfl,rfl,wf,ha _ rfl,hb _ rfl,hc,h3 _ _ _ rfl rfl rfl,by omega,by omega,hx,hq⟩
theorem zb7:FnScope ["first","one","other","place","clashes","words","kids","label","three","kid"] ["first","one","other","place","clashes"] (zj zed):=⟨rfl,rfl,rfl,by decide +kernel,rfl,by decide +kernel,by decide +kernel⟩
theorem zkc (d:Df K mg "joined" zed ["first","one","other","place","clashes"]) (G_kid_with:Fn P w K mg base 1 "kid_with" ["node","label"] zbI) (G_kid_labels:Fn P w K mg base 5 "kid_labels" ["nodes"] zcA) (G_settled:FnM P w K mg base 1 "settled" ["first","one","other","place","clashes"] 4 zcn) (z_tuple:mg "tuple"=none) (S_joined_kid:∀ n:Nat,FnM P w K mg base (2 * n+7) "joined" ["first","one","other","place","clashes"] 4 (zcp n)→FnM P w K mg base (2 * n+8) "joined_kid" ["three","place","clashes"] 2 (zcB n)):∀ n:Nat,FnM P w K mg base (2 * n+7) "joined" ["first","one","other","place","clashes"] 4 (zcp n):=by
  intro n
  induction n with
  | zero=>exact d.okM (k:=2 * 0+6) zb7 (fun o ds Q h=>(show False from h).elim) (fun f cdv A outer s H E hr b o ds Q h=>(show False from h).elim)
  | succ n ih =>
  have G_joined:FnM P w K mg base (2 * n+7) "joined" ["first","one","other","place","clashes"] 4 (zcp n):=ih
  have G_joined_kid:=S_joined_kid n ih
  refine d.okM (k:=2 * n+8) zb7 (fun o ds Q h=>?_) (fun f cdv A outer s H E hr b o ds Q h=>⟨_,(zd (zV 5 zb7.nd (zcJ G_settled (hr.mono (by omega)) (zaY (zP (i_A (zaG hr)) (pv' 0) ze) (zaY (zP (i_A (zaG hr)) (pv' 1) ze) (zaY (zP (i_A (zaG hr)) (pv' 2) ze) (zaY (pv' 3) (zdv 4 zc)))))))
    (zd (zbQ 6 zb7.nd (zbv zc))
    (zd (zbJ (zaV (zaZ G_kid_labels (hr.mono (by omega)) (za (zaF (za (pv' 0) (za (pv' 1) (za (pv' 2) zc)))) zc))) (zal 7 zb7.nd)
      (zd (zdD 8 zb7.nd (zde (fsc:=zj zed) (N:=["first","one","other","place","clashes","words","kids","label","three","kid"]) (N':=["node","label"]) (src:=[none,some 7]) (by refine ⟨rfl,?_,?_,?_,rfl,rfl⟩ <;> decide +kernel) (zaV (zaF (za (pv' 0) (za (pv' 1) (za (pv' 2) zc))))) (fun _ _ _ _ _ _=>(zal 0 (show (["node","label"]:List Str).Nodup by decide +kernel))) (fun _ _ _ _ _ _=>zcg) (fun _ _ _ _ _ _=>(zaZ G_kid_with (hr.mono (by omega)) (za (pv' 0) (za (pv' 1) zc))))))
    (zd (zV 9 zb7.nd (zcJ G_joined_kid (hr.mono (by omega)) (zaY (pv' 8) (zaY (zQ zca (pv' 3) (zaF (za (pv' 7) zc))) (zdv 4 zc)))))
    (zi (zbh (zaE zin (pv' 9) zcZ) (zi (zdV 6 (pv' 9))) zaK)))))
    (zi (zR (zc0 (zaF (za (zP (i_A (zaG hr)) (pv' 0) ze) (za (pv' 5) (za (zbe zd3 z_tuple PyProof.Rows.boot_tuple (za (pv' 6) zc)) zc)))))))))),?_⟩)
  · obtain ⟨xs,f,a,b,c,p,rfl,rfl,_⟩:=h
    rfl
  obtain ⟨xs,f,a,g,c,p,rfl,rfl,hf,ha,hg,hc,h3,hn,hp,hx,hq⟩:=h; simp [zaa,zT,zU,zW,zk,zq,tC',zbg,zaQ,tB',zaq,zau,zbo,zF,zay,zI,zbp,zZ,zr,zad,zab,zbj,zbq,zbl,zaf,zbm,zas,zac,zG,zw,zu,za8,zp,zaB,zJ,zag,zE,zak,zx,zC,zai,zY,zbk,zL,zae,zK,zaw,zH,zax,zv,zar,zA,zo,zD,zm,zaC,zh,zl,zaz,zN,zM,zaA,zbt,zah,zg,zn,tBr,brN,zB,zy,zz,zaj,zt,zam,zbn,zan,zap,zao,zbr,zat]
  refine ⟨xs,_,_,_,p,rfl,rfl,zdh _ _,zdh _ _,zdh _ _,by omega,?_⟩
  rw [zg9 plc zcI,ziv plc zcI zcI zcI]
  have e3:List.flatMap Tr.kds [f,a,g]=f.kds ++ (a.kds ++ g.kds):=by simp
  have hL:=zk2 h3
  refine ⟨[f,a,g],rfl,?_,by rw [e3]; exact Nat.lt_of_le_of_lt (zaX.top h3) (by decide),fun k hk=>?_,?_⟩
  · rw [e3,List.length_append,List.length_append]
    have:=hf.few
    have:=ha.few
    have:=hg.few
    omega
  · rw [e3] at hk
    exact zsm hf ha hg k hk
  rw [e3,show ze1 (zg4 (zaL (f.kds ++ (a.kds ++ g.kds))))=L3 f a g from rfl]
  refine ⟨_,rfl,?_⟩
  refine zdn (fun i Γ=>∃ s7 s8 s9,Γ=[.val (trD f),.val (trD a),.val (trD g),.val (plc p),.bk (fun z=>z) b (.lst (xs ++ (zgG f.wds a.wds g.wds p ++ ((L3 f a g).take i).flatMap fun l=>zgS n (zb l f.kds) (zb l a.kds) (zb l g.kds) (p ++ [l])).map plc)),.val (plc (st3 f.wds a.wds g.wds)),.own (.lst ((((L3 f a g).take i).filterMap fun l=>zmp n (zb l f.kds) (zb l a.kds) (zb l g.kds)).map trD)),s7,s8,s9]) ⟨.emp,.emp,.emp,by simp [ziw]⟩ ?_ ?_
  · rintro i x Γ hx' ⟨s7,s8,s9,rfl⟩
    rw [List.getElem?_map] at hx'
    cases hc':(L3 f a g)[i]? with
    | none=>rw [hc'] at hx'; cases hx'
    | some l =>
      rw [hc'] at hx'; cases hx'; have hpl:=zfQ (n:=n) (p:=p) hc'; have hkl:=zhL (n:=n) (f:=f) (a:=a) (b:=g) i; simp [zaa,zT,zU,zW,zk,zq,tC',zbg,zaQ,tB',zaq,zau,zbo,zF,zay,zI,zbp,zZ,zr,zad,zab,zbj,zbq,zbl,zaf,zbm,zas,zac,zG,zw,zu,za8,zp,zaB,zJ,zag,zE,zak,zx,zC,zai,zY,zbk,zL,zae,zK,zaw,zH,zax,zv,zar,zA,zo,zD,zm,zaC,zh,zl,zaz,zN,zM,zaA,zbt,zah,zg,zn,tBr,brN,zB,zy,zz,zaj,zt,zam,zbn,zan,zap,zao,zbr,zat]; refine zkO [f,a,g] ?_
      refine ⟨zaT (by omega),_,zb l f.kds,zb l a.kds,zb l g.kds,c,p ++ [l],rfl,rfl,fun t e=>hf.kw e,fun t e=>ha.kw e,fun t e=>hg.kw e,hc,fun t u v e1 e2 e3=>zaX.kid h3 e1 e2 e3,hn,by simp; omega,by simp only [List.length_append,List.length_map]; omega,?_⟩
      have tk:(L3 f a g).take (i+1)=(L3 f a g).take i ++ [l]:=by rw [List.take_succ,hc']; rfl
      simp only [tk,List.flatMap_append,List.filterMap_append,List.map_append,List.flatMap_cons,List.flatMap_nil,List.append_nil,List.filterMap_cons,List.filterMap_nil]
      have hpk:=za6 (Nat.le_trans hkl (Nat.le_trans hL (by decide)))
      cases hk:zmp n (zb l f.kds) (zb l a.kds) (zb l g.kds) with
      | none=>simp [zbX,zjN]
      | some k=>simp [zbX,zjN,zbG,hpk]
  · rintro Γ ⟨s7,s8,s9,rfl⟩
    rw [show List.take (List.map D.str (L3 f a g)).length (L3 f a g)=L3 f a g from List.take_of_length_le (by rw [List.length_map]; exact Nat.le_refl _),← zkS]
    simp [zaa,zT,zU,zW,zk,zq,tC',zbg,zaQ,tB',zaq,zau,zbo,zF,zay,zI,zbp,zZ,zr,zad,zab,zbj,zbq,zbl,zaf,zbm,zas,zac,zG,zw,zu,za8,zp,zaB,zJ,zag,zE,zak,zx,zC,zai,zY,zbk,zL,zae,zK,zaw,zH,zax,zv,zar,zA,zo,zD,zm,zaC,zh,zl,zaz,zN,zM,zaA,zbt,zah,zg,zn,tBr,brN,zB,zy,zz,zaj,zt,zam,zbn,zan,zap,zao,zbr,zat]
    have:=zcO (jn (n+1) f a g)
    rw [zaO] at hq this; exact ⟨this,hq⟩
theorem zdr:FnScope ["first","one","other","clashes","tree"] ["first","one","other"] (zj zdN):=⟨rfl,rfl,rfl,by decide +kernel,rfl,by decide +kernel,by decide +kernel⟩
theorem zhn (d:Df K mg "together" zdN ["first","one","other"]) (G_joined:FnM P w K mg base 27 "joined" ["first","one","other","place","clashes"] 4 (zcp 10)) (z_len:mg "len"=none):Fn P w K mg base 28 "together" ["first","one","other"] zcw:=by
  refine d.ok zdr (fun ds Q h=>?_) (fun f cdv A outer s H E hr ds Q h=>⟨_,(zd (zbQ 3 zdr.nd (zbv zc))
    (zd (zp6 3 (zV 4 zdr.nd (zcJ G_joined (hr.mono (by decide)) (zaY (pv' 0) (zaY (pv' 1) (zaY (pv' 2) (zaY (zaF zc) (zdv 3 zc))))))))
    (zi (zn0 (zsl (zfK (zaE (zc1 (zbE hr)) (zbs zdK z_len PySem.boot_len (za (pv' 3) zc)) ze)) (zp7 (zaF (za (zbw [116,114,101,101]) (za (pv' 4) zc)))) (zp8 3 (zbw [99,108,97,115,104]))))))),?_⟩)
  · obtain ⟨f,a,b,c,rfl,_⟩:=h
    rfl
  obtain ⟨f,a,b,c,rfl,hf,ha,hb,hc,h3,hx,hq⟩:=h; simp [zaa,zT,zU,zW,zk,zq,tC',zbg,zaQ,tB',zaq,zau,zbo,zF,zay,zI,zbp,zZ,zr,zad,zab,zbj,zbq,zbl,zaf,zbm,zas,zac,zG,zw,zu,za8,zp,zaB,zJ,zag,zE,zak,zx,zC,zai,zY,zbk,zL,zae,zK,zaw,zH,zax,zv,zar,zA,zo,zD,zm,zaC,zh,zl,zaz,zN,zM,zaA,zbt,zah,zg,zn,tBr,brN,zB,zy,zz,zaj,zt,zam,zbn,zan,zap,zao,zbr,zat]
  refine ⟨[],f,a,b,c,[],rfl,rfl,hf,ha,hb,hc,h3,by decide,by decide,by simp; omega,?_⟩
  have hl:=ziI 10 f a b []
  rcases hq with ⟨e,q⟩ | ⟨e,q⟩
  · rw [e]
    simp [zaa,zT,zU,zW,zk,zq,tC',zbg,zaQ,tB',zaq,zau,zbo,zF,zay,zI,zbp,zZ,zr,zad,zab,zbj,zbq,zbl,zaf,zbm,zas,zac,zG,zw,zu,za8,zp,zaB,zJ,zag,zE,zak,zx,zC,zai,zY,zbk,zL,zae,zK,zaw,zH,zax,zv,zar,zA,zo,zD,zm,zaC,zh,zl,zaz,zN,zM,zaA,zbt,zah,zg,zn,tBr,brN,zB,zy,zz,zaj,zt,zam,zbn,zan,zap,zao,zbr,zat,ze3,zg5,OD.toD]; exact .inl q
  · cases hc':cl 10 f a b [] with
    | nil=>exact absurd hc' e
    | cons x X =>
      rw [hc'] at q hl; simp [zaa,zT,zU,zW,zk,zq,tC',zbg,zaQ,tB',zaq,zau,zbo,zF,zay,zI,zbp,zZ,zr,zad,zab,zbj,zbq,zbl,zaf,zbm,zas,zac,zG,zw,zu,za8,zp,zaB,zJ,zag,zE,zak,zx,zC,zai,zY,zbk,zL,zae,zK,zaw,zH,zax,zv,zar,zA,zo,zD,zm,zaC,zh,zl,zaz,zN,zM,zaA,zbt,zah,zg,zn,tBr,brN,zB,zy,zz,zaj,zt,zam,zbn,zan,zap,zao,zbr,zat,ze3,zg5,OD.toD]
      exact .inl (.inl ⟨by omega,q⟩)
end
end K83
namespace K83
open PySem L2 Lb PL MT M04 MS M70 M71 M81 M73 M72 M82 M83 M84 M85
theorem zsS (xs:List Int):(zcM xs (some 1) (some 19)).length≤18:=by
  unfold zcM; rw [List.length_take,List.length_drop]
  have e1:HT.sIx xs.length 0 (some 1)=min 1 xs.length:=by unfold HT.sIx; simp
  have e2:HT.sIx xs.length xs.length (some 19)=min 19 xs.length:=by unfold HT.sIx; simp
  rw [e1,e2]; omega
theorem zsR (xs:List Int):(zcM xs (some 19) (some 37)).length≤18:=by
  unfold zcM; rw [List.length_take,List.length_drop]
  have e1:HT.sIx xs.length 0 (some 19)=min 19 xs.length:=by unfold HT.sIx; simp
  have e2:HT.sIx xs.length xs.length (some 37)=min 37 xs.length:=by unfold HT.sIx; simp
  rw [e1,e2]; omega
theorem zi9 {Q:D→Prop} {l:List Nat} {ms:List (List Nat)} (h:Q (.bl (!decide (l ∈ ms)))):zfG (.str l) (.lst (ms.map .str)) Q:=.inr (.inr ⟨l,ms,rfl,.inr rfl,h⟩)
theorem zgc {ks:List Tr} {R:List D→Prop} (h:R ((zaL ks).map .str)):zbO (zk 0) za8 (zaQ zd6 (zq 0) (tC' (D.int 0))) R (ks.map trD) [] [Slot.emp]:=by
  refine zck (fun i a Γ=>∃ s0,a=(zaL (ks.take i)).map .str∧Γ=[s0]) ⟨.emp,rfl,rfl⟩ ?_ ?_
  · rintro i d a Γ hd ⟨s0,rfl,rfl⟩
    rw [List.getElem?_map] at hd
    cases hc:ks[i]? with
    | none=>rw [hc] at hd; cases hd
    | some k =>
      rw [hc] at hd; cases hd; simp [zaa,zT,zU,zW,zk,zq,tC',zbg,zaQ,tB',zaq,zau,zbo,zF,zay,zI,zbp,zZ,zr,zad,zab,zbj,zbq,zbl,zaf,zbm,zas,zac,zG,zw,zu,za8,zp,zaB,zJ,zag,zE,zak,zx,zC,zai,zY,zbk,zL,zae,zK,zaw,zH,zax,zv,zar,zA,zo,zD,zm,zaC,zh,zl,zaz,zN,zM,zaA,zbt,zah,zg,zn,tBr,brN,zB,zy,zz,zaj,zt,zam,zbn,zan,zap,zao,zbr,zat]; rw [List.take_succ,hc,zbc]; simp [zaL]
  · rintro a Γ ⟨s0,rfl,rfl⟩
    rw [show List.take (List.map trD ks).length ks=ks from List.take_of_length_le (by rw [List.length_map]; exact Nat.le_refl _)]
    exact h
theorem zgb {fs ls:List (List Nat)} {R:List D→Prop} (h:R ((ls.filter fun l=>decide (l ∉ fs)).map .str)):zbO (zk 0) (tB' (zaQ zfG (zq 0) (zq 1))) (zq 0) R (ls.map .str) [] [Slot.emp,Slot.val (D.lst (fs.map .str))]:=by
  refine zck (fun i a Γ=>∃ s0,a=((ls.take i).filter fun l=>decide (l ∉ fs)).map .str∧Γ=[s0,.val (.lst (fs.map .str))]) ⟨.emp,rfl,rfl⟩ ?_ ?_
  · rintro i d a Γ hd ⟨s0,rfl,rfl⟩
    rw [List.getElem?_map] at hd
    cases hc:ls[i]? with
    | none=>rw [hc] at hd; cases hd
    | some l =>
      rw [hc] at hd; cases hd; simp [zaa,zT,zU,zW,zk,zq,tC',zbg,zaQ,tB',zaq,zau,zbo,zF,zay,zI,zbp,zZ,zr,zad,zab,zbj,zbq,zbl,zaf,zbm,zas,zac,zG,zw,zu,za8,zp,zaB,zJ,zag,zE,zak,zx,zC,zai,zY,zbk,zL,zae,zK,zaw,zH,zax,zv,zar,zA,zo,zD,zm,zaC,zh,zl,zaz,zN,zM,zaA,zbt,zah,zg,zn,tBr,brN,zB,zy,zz,zaj,zt,zam,zbn,zan,zap,zao,zbr,zat]; refine zi9 ?_; rw [List.take_succ,hc,List.filter_append]
      by_cases e:l ∈ fs <;> simp [e]
  · rintro a Γ ⟨s0,rfl,rfl⟩
    rw [show List.take (List.map D.str ls).length ls=ls from List.take_of_length_le (by rw [List.length_map]; exact Nat.le_refl _)]
    exact h
open Classical in
noncomputable def due {α:Type} (f a b:α):List α:=if ck3 f a b then [] else [st3 f a b]
theorem zfp {α:Type} {f a b:α} (h:ck3 f a b):due f a b=[]:=if_pos h
theorem zc7 {α:Type} {f a b:α} (h:¬ ck3 f a b):due f a b=[st3 f a b]:=if_neg h
theorem zqX {α:Type} {f a b:α} (h:a=b):due f a b=[a]:=by
  rw [zc7 fun z=>z.2.2 h]
  unfold st3; split
  · rw [h]
  · rfl
theorem zqW {α:Type} {f a b:α} (h:a=f):due f a b=[b]:=by
  rw [zc7 fun z=>z.1 h,st3,if_pos h]
theorem zqV {α:Type} {f a b:α} (h:b=f):due f a b=[a]:=by
  rw [zc7 fun z=>z.2.1 h]
  unfold st3; split
  · rename_i z; rw [h,z]
  · rfl
theorem zkT {α β:Type} (g:α→β) {f a b:α} (h1:g a=g f→a=f) (h2:g b=g f→b=f) (h3:g a=g b→a=b):ck3 (g f) (g a) (g b)↔ck3 f a b:=⟨fun ⟨u,v,w⟩=>⟨fun e=>u (by rw [e]),fun e=>v (by rw [e]),fun e=>w (by rw [e])⟩,fun ⟨u,v,w⟩=>⟨fun e=>u (h1 e),fun e=>v (h2 e),fun e=>w (h3 e)⟩⟩
theorem zhR {α β:Type} (g:α→β) {f a b:α} (h1:g a=g f→a=f) (h2:g b=g f→b=f) (h3:g a=g b→a=b):due (g f) (g a) (g b)=(due f a b).map g:=by
  by_cases e:ck3 f a b
  · rw [zfp e,zfp ((zkT g h1 h2 h3).mpr e)]; rfl
  · rw [zc7 e,zc7 fun z=>e ((zkT g h1 h2 h3).mp z),zg9 g h1]; rfl
def zk3 (f a b:Tr):List (List Nat):=uni f a ++ (zaL b.kds).filter fun l=>decide (l ∉ uni f a)
theorem zea {f a b:Tr} {l:List Nat}:l ∈ zk3 f a b↔l ∈ zaL f.kds∨l ∈ zaL a.kds∨l ∈ zaL b.kds:=by
  unfold zk3; simp only [List.mem_append,List.mem_filter,decide_eq_true_eq,zg6]; constructor
  · rintro ((z | z) | ⟨z,_⟩)
    · exact .inl z
    · exact .inr (.inl z)
    · exact .inr (.inr z)
  · rintro (z | z | z)
    · exact .inl (.inl z)
    · exact .inl (.inr z)
    · by_cases e:l ∈ zaL f.kds∨l ∈ zaL a.kds
      · exact .inl e
      · exact .inr ⟨z,e⟩
theorem ze7 {f a b:Tr} (h1:(zaL f.kds).Nodup) (h2:(zaL a.kds).Nodup) (h3:(zaL b.kds).Nodup):(zk3 f a b).Nodup:=by
  unfold zk3; rw [List.nodup_append]
  refine ⟨zer h1 h2,h3.filter _,fun x hx y hy e=>?_⟩
  rw [List.mem_filter,decide_eq_true_eq] at hy; exact hy.2 (e ▸ hx)
theorem zes {c n:Nat} {f a b:Tr} (h1:Wf c n f) (h2:Wf c n a) (h3:Wf c n b):∀ l ∈ zk3 f a b,zaH l=true:=fun l hl=>by
  rcases zea.mp hl with z | z | z <;> obtain ⟨k,hk,rfl⟩:=List.mem_map.mp z
  · exact h1.plab k hk
  · exact h2.plab k hk
  · exact h3.plab k hk
theorem zjA {c n:Nat} {f a b:Tr} (h1:Wf c n f) (h2:Wf c n a) (h3:Wf c n b):ze1 (zk3 f a b)=L3 f a b:=by
  refine zjD (zev (ze7 h1.nd h2.nd h3.nd) (zes h1 h2 h3)) (zev (zcl _) fun l hl=>zes h1 h2 h3 l ?_) fun x=>?_
  · unfold zhE at hl
    rw [zbT,zbc,zbc,List.mem_append,List.mem_append] at hl; exact zea.mpr hl
  · rw [zcr,zea]
    exact (znt (f:=f) (a:=a) (b:=b)).symm
theorem zlh {c n b:Nat} {f a g:Tr} (h1:Wf c n f) (h2:Wf c n a) (h3:Wf c n g) (h:zaX b f a g):(zk3 f a g).length≤b:=by
  refine Nat.le_trans (zdE (ze7 h1.nd h2.nd h3.nd) (m:=zhE f a g) fun x hx=>?_) (zaX.top h)
  unfold zhE; rw [zbT,zbc,zbc,List.mem_append,List.mem_append]; exact zea.mp hx
def zcz:Sp':=fun ds Q=>∃ ns:List Int,ds=[.lst (ns.map .int)]∧∀ f a b,Wf 36 9 f→Wf 36 9 a→Wf 36 9 b→M71.cnt f≤63→M71.cnt a≤63→M71.cnt b≤63→zaX 60 f a b→Q (.val (.tup [trD f,trD a,trD b]))
def zcy:Sp':=fun ds Q=>∃ f a b c n,ds=[.lst [trD f,trD a,trD b]]∧Wf c n f∧Wf c n a∧Wf c n b∧c≤36∧zaX 60 f a b∧Q (.val (.lst ((L3 f a b).map .str)))
def zbx:Sp':=fun ds Q=>∃ f a b,ds=[.lst [f,a,b]]∧zle a b∧zle a f∧zle b f∧Q (.val (.lst (due f a b)))
def zb3:Nat→SpM
  | 0=>fun _ _ _=>False
  | n+1=>fun o ds Q=>∃ xs f a b c p,o=.lst xs∧ds=[plc p,.lst [trD f,trD a,trD b]]∧Wf c (n+1) f∧Wf c (n+1) a∧Wf c (n+1) b∧c≤36∧zaX 60 f a b∧n≤12∧p.length+n≤100∧xs.length+cnt f+cnt a+cnt b≤900∧Q (trD (wt (n+1) f a b)) (.lst (xs ++ (cl (n+1) f a b p).map plc))
def zcx:Sp':=fun ds Q=>∃ f a b c,ds=[trD f,trD a,trD b]∧Wf c 10 f∧Wf c 10 a∧Wf c 10 b∧c≤36∧zaX 60 f a b∧cnt f+cnt a+cnt b≤900∧Q (.val (.bl true))
instance:MSp zbx:=⟨fun _ _ _ h ⟨f,a,b,e,z1,z2,z3,q⟩=>⟨f,a,b,e,z1,z2,z3,h _ q⟩⟩
instance {n:Nat}:MSpM (zb3 n):=⟨fun _ _ _ _ h q=>by
  cases n with
  | zero=>exact q
  | succ n =>
    obtain ⟨xs,f,a,b,c,p,e,z1,z2,z3,z4,z5,z6,z7,z8,z9,q⟩:=q; exact ⟨xs,f,a,b,c,p,e,z1,z2,z3,z4,z5,z6,z7,z8,z9,h _ _ q⟩⟩
theorem zfr {l:List Nat} {R:List D→Prop} (ts:List Tr) (h:R (ts.map fun t=>zbX (zb l t.kds))):zbO (zk 0) za8 (zu zb1 (zr (zq 0) (zr (zq 1) zZ))) R (ts.map trD) [] [Slot.emp,Slot.val (D.str l)]:=by
  refine zck (fun i a Γ=>∃ s0,a=(ts.take i).map (fun t=>zbX (zb l t.kds))∧Γ=[s0,.val (.str l)]) ⟨.emp,rfl,rfl⟩ ?_ ?_
  · rintro i d a Γ hd ⟨s0,rfl,rfl⟩
    rw [List.getElem?_map] at hd
    cases hc:ts[i]? with
    | none=>rw [hc] at hd; cases hd
    | some t =>
      rw [hc] at hd; cases hd; simp [zaa,zT,zU,zW,zk,zq,tC',zbg,zaQ,tB',zaq,zau,zbo,zF,zay,zI,zbp,zZ,zr,zad,zab,zbj,zbq,zbl,zaf,zbm,zas,zac,zG,zw,zu,za8,zp,zaB,zJ,zag,zE,zak,zx,zC,zai,zY,zbk,zL,zae,zK,zaw,zH,zax,zv,zar,zA,zo,zD,zm,zaC,zh,zl,zaz,zN,zM,zaA,zbt,zah,zg,zn,tBr,brN,zB,zy,zz,zaj,zt,zam,zbn,zan,zap,zao,zbr,zat,zb1]; refine ⟨t,l,⟨rfl,rfl⟩,?_⟩; rw [List.take_succ,List.getElem?_map,hc]; simp
  · rintro a Γ ⟨s0,rfl,rfl⟩
    rw [show List.take (List.map trD ts).length ts=ts from List.take_of_length_le (by rw [List.length_map]; exact Nat.le_refl _)]
    exact h
theorem zmH {R:List D→Prop} (ts:List Tr) (h:R (ts.map fun t=>plc t.wds)):zbO (zk 0) za8 (zaQ zd6 (zq 0) (tC' (D.int 1))) R (ts.map trD) [] [Slot.emp]:=by
  refine zck (fun i a Γ=>∃ s0,a=(ts.take i).map (fun t=>plc t.wds)∧Γ=[s0]) ⟨.emp,rfl,rfl⟩ ?_ ?_
  · rintro i d a Γ hd ⟨s0,rfl,rfl⟩
    rw [List.getElem?_map] at hd
    cases hc:ts[i]? with
    | none=>rw [hc] at hd; cases hd
    | some k =>
      rw [hc] at hd; cases hd; simp [zaa,zT,zU,zW,zk,zq,tC',zbg,zaQ,tB',zaq,zau,zbo,zF,zay,zI,zbp,zZ,zr,zad,zab,zbj,zbq,zbl,zaf,zbm,zas,zac,zG,zw,zu,za8,zp,zaB,zJ,zag,zE,zak,zx,zC,zai,zY,zbk,zL,zae,zK,zaw,zH,zax,zv,zar,zA,zo,zD,zm,zaC,zh,zl,zaz,zN,zM,zaA,zbt,zah,zg,zn,tBr,brN,zB,zy,zz,zaj,zt,zam,zbn,zan,zap,zao,zbr,zat]; rw [List.take_succ,List.getElem?_map,hc]; simp
  · rintro a Γ ⟨s0,rfl,rfl⟩
    rw [show List.take (List.map trD ts).length ts=ts from List.take_of_length_le (by rw [List.length_map]; exact Nat.le_refl _)]
    exact h
section
variable {P:Program} {w:World} {K:PySem.W.Frag} {mg:Str→Option Value} {base:Heap}
theorem zba:FnScope ["_law_script","_law_first","_law_drafts_here","_law_cell","_law_number","_law_at_here"] ["_law_script"] (zj zcf):=⟨rfl,rfl,rfl,by decide +kernel,rfl,by decide +kernel,by decide +kernel⟩
theorem zfU (d:Df K mg "_law_drafts" zcf ["_law_script"]) (G_law_mix:Fn P w K mg base 1 "_law_mix" ["_law_cell","_law_factor"] zco) (G_law_changed:Fn P w K mg base 12 "_law_changed" ["_law_tree_here","_law_cell"] za1) (G_law_tree:Fn P w K mg base 13 "_law_tree" ["_law_cells"] zdp):Fn P w K mg base 14 "_law_drafts" ["_law_script"] zcz:=by
  refine d.ok zba (fun ds Q h=>?_) (fun f cdv A outer s H E hr ds Q h=>⟨_,(zd (zV 1 zba.nd (zaZ G_law_tree (hr.mono (by decide)) (za (zcY s_A (pv' 0) (zdX ze) (zdX ze)) zc)))
    (zd (zbQ 2 zba.nd (zbv (za (pv' 1) (za (pv' 1) zc))))
    (zd (zbJ (zaV (zcY s_A (pv' 0) (zdX ze) (zdX ze))) (zal 3 zba.nd)
      (zd (zV 4 zba.nd (zaZ G_law_mix (hr.mono (by decide)) (za (pv' 3) (za ze zc))))
    (zi (zbh (zaE (zc1 (zbE hr)) (zQ zcd (pv' 4) ze) ze) (zi (zjS 2 zba.nd (znS (zde (fsc:=zj zcf) (N:=["_law_script","_law_first","_law_drafts_here","_law_cell","_law_number","_law_at_here"]) (N':=["_law_draft","_law_cell"]) (src:=[none,some 3]) (by refine ⟨rfl,?_,?_,?_,rfl,rfl⟩ <;> decide +kernel) (zaV (pv' 2)) (fun _ _ _ _ _ _=>(zal 0 (show (["_law_draft","_law_cell"]:List Str).Nodup by decide +kernel))) (fun _ _ _ _ _ _=>zcg) (fun _ _ _ _ _ _=>(zaZ G_law_changed (hr.mono (by decide)) (za (pv' 0) (za (pv' 1) zc)))))))) (zd (zV 5 zba.nd (zQ zcd (pv' 4) ze))
    (zi (zn1 2 (pv' 5) (zc0 (zaZ G_law_changed (hr.mono (by decide)) (za (zP (i_A (zaG hr)) (pv' 2) (pv' 5)) (za (pv' 3) zc)))))))))))
    (zi (zR (zc0 (zaF (za (pv' 1) (za (zP (i_A (zaG hr)) (pv' 2) ze) (za (zP (i_A (zaG hr)) (pv' 2) ze) zc)))))))))),?_⟩)
  · obtain ⟨ns,rfl,_⟩:=h
    rfl
  obtain ⟨ns,rfl,hq⟩:=h; simp [zaa,zT,zU,zW,zk,zq,tC',zbg,zaQ,tB',zaq,zau,zbo,zF,zay,zI,zbp,zZ,zr,zad,zab,zbj,zbq,zbl,zaf,zbm,zas,zac,zG,zw,zu,za8,zp,zaB,zJ,zag,zE,zak,zx,zC,zai,zY,zbk,zL,zae,zK,zaw,zH,zax,zv,zar,zA,zo,zD,zm,zaC,zh,zl,zaz,zN,zM,zaA,zbt,zah,zg,zn,tBr,brN,zB,zy,zz,zaj,zt,zam,zbn,zan,zap,zao,zbr,zat]; have h18:=zsS ns; have h37:=zsR ns
  refine ⟨zcM ns (some 1) (some 19),by rw [zdI],by omega,fun t wt ct lt=>?_⟩
  rw [zdI]; generalize (zcM ns (some 1) (some 19)).length=J at h18 wt; generalize zcM ns (some 19) (some 37)=cs at h37
  refine zdn (fun i Γ=>∃ (a b:Tr) (s3 s4 s5:Slot),Γ=[.val (.lst (ns.map .int)),.val (trD t),.own (.lst [trD a,trD b]),s3,s4,s5]∧(Wf (J+i) 9 a∧M71.cnt a≤63)∧(Wf (J+i) 9 b∧M71.cnt b≤63)∧Dr (J+3+2 * i) t a b∧zaX (J+5+2 * i) t a b) ⟨t,t,.emp,.emp,.emp,rfl,⟨wt,ct⟩,⟨wt,ct⟩,zoX wt (by omega),zaX.up (ziQ wt) (by omega)⟩ ?_ ?_
  · rintro i d Γ hd ⟨a,b,s3,s4,s5,rfl,⟨wa,ca⟩,⟨wb,cb⟩,dr,th⟩
    rw [List.getElem?_map] at hd
    cases hc:cs[i]? with
    | none=>rw [hc] at hd; cases hd
    | some x =>
      rw [hc] at hd; cases hd; have hi:=(List.getElem?_eq_some_iff.mp hc).1
      have cha:∀ (R:Res→Prop),(∀ t',Wf (J+i+1) 9 t'→M71.cnt t'≤63→One a t'→R (.val (trD t')))→za1 [trD a,.int x] R:=fun R h=>⟨a,x,J+i,rfl,wa,by omega,ca,fun t' z1 z2 _ z4=>h t' z1 z2 z4⟩
      have chb:∀ (R:Res→Prop),(∀ t',Wf (J+i+1) 9 t'→M71.cnt t'≤63→One b t'→R (.val (trD t')))→za1 [trD b,.int x] R:=fun R h=>⟨b,x,J+i,rfl,wb,by omega,cb,fun t' z1 z2 _ z4=>h t' z1 z2 z4⟩
      have ona:∀ a',One a a'→Dr (J+3+2 * i+1) t a' b:=fun a' o=>(dr.swap.one wt wb (by omega) (by omega) o).swap
      have oth:∀ a',One a a'→zaX (J+5+2 * i+1) t a' b:=fun a' o=>(th.swap.one dr.fb (by omega) o).swap
      simp [zaa,zT,zU,zW,zk,zq,tC',zbg,zaQ,tB',zaq,zau,zbo,zF,zay,zI,zbp,zZ,zr,zad,zab,zbj,zbq,zbl,zaf,zbm,zas,zac,zG,zw,zu,za8,zp,zaB,zJ,zag,zE,zak,zx,zC,zai,zY,zbk,zL,zae,zK,zaw,zH,zax,zv,zar,zA,zo,zD,zm,zaC,zh,zl,zaz,zN,zM,zaA,zbt,zah,zg,zn,tBr,brN,zB,zy,zz,zaj,zt,zam,zbn,zan,zap,zao,zbr,zat]
      refine ⟨_,_,rfl,fun m m0 m1=>?_⟩
      simp [zaa,zT,zU,zW,zk,zq,tC',zbg,zaQ,tB',zaq,zau,zbo,zF,zay,zI,zbp,zZ,zr,zad,zab,zbj,zbq,zbl,zaf,zbm,zas,zac,zG,zw,zu,za8,zp,zaB,zJ,zag,zE,zak,zx,zC,zai,zY,zbk,zL,zae,zK,zaw,zH,zax,zv,zar,zA,zo,zD,zm,zaC,zh,zl,zaz,zN,zM,zaA,zbt,zah,zg,zn,tBr,brN,zB,zy,zz,zaj,zt,zam,zbn,zan,zap,zao,zbr,zat]
      by_cases e7:m % 7=0
      · refine .inr ⟨e7,?_⟩
        simp [zaa,zT,zU,zW,zk,zq,tC',zbg,zaQ,tB',zaq,zau,zbo,zF,zay,zI,zbp,zZ,zr,zad,zab,zbj,zbq,zbl,zaf,zbm,zas,zac,zG,zw,zu,za8,zp,zaB,zJ,zag,zE,zak,zx,zC,zai,zY,zbk,zL,zae,zK,zaw,zH,zax,zv,zar,zA,zo,zD,zm,zaC,zh,zl,zaz,zN,zM,zaA,zbt,zah,zg,zn,tBr,brN,zB,zy,zz,zaj,zt,zam,zbn,zan,zap,zao,zbr,zat,zbO,vo,voS]
        refine cha _ fun a' z1 z2 z3=>chb _ fun b' y1 y2 y3=>⟨fun d hd=>?_,a',b',⟨rfl,rfl⟩,⟨z1,z2⟩,⟨y1,y2⟩,((ona a' z3).one wt z1 (by omega) (by omega) y3).up (by omega),zaX.up ((oth a' z3).one (ona a' z3).fa (by omega) y3) (by omega)⟩
        simp only [List.mem_cons,List.not_mem_nil,or_false] at hd
        rcases hd with rfl | rfl
        · exact zcO _
        · exact zcO _
      · refine .inl ⟨e7,?_⟩
        by_cases e2:m % 2=0
        · rw [e2]
          exact ⟨trD a,show atI _ ((0:Nat):Int)=_ from zdx rfl,cha _ fun a' z1 z2 z3=>⟨zcO _,0,rfl,a',b,rfl,⟨z1,z2⟩,⟨wb.up (by omega) (Nat.le_refl _),cb⟩,(ona a' z3).up (by omega),zaX.up (oth a' z3) (by omega)⟩⟩
        · rw [show m % 2=1 by omega]
          exact ⟨trD b,show atI _ ((1:Nat):Int)=_ from zdx rfl,chb _ fun b' z1 z2 z3=>⟨zcO _,1,rfl,a,b',rfl,⟨wa.up (by omega) (Nat.le_refl _),ca⟩,⟨z1,z2⟩,(dr.one wt wa (by omega) (by omega) z3).up (by omega),zaX.up (th.one dr.fa (by omega) z3) (by omega)⟩⟩
  · rintro Γ ⟨a,b,s3,s4,s5,rfl,⟨wa,ca⟩,⟨wb,cb⟩,dr,th⟩
    rw [List.length_map] at wa wb dr th; simp [zaa,zT,zU,zW,zk,zq,tC',zbg,zaQ,tB',zaq,zau,zbo,zF,zay,zI,zbp,zZ,zr,zad,zab,zbj,zbq,zbl,zaf,zbm,zas,zac,zG,zw,zu,za8,zp,zaB,zJ,zag,zE,zak,zx,zC,zai,zY,zbk,zL,zae,zK,zaw,zH,zax,zv,zar,zA,zo,zD,zm,zaC,zh,zl,zaz,zN,zM,zaA,zbt,zah,zg,zn,tBr,brN,zB,zy,zz,zaj,zt,zam,zbn,zan,zap,zao,zbr,zat]
    refine ⟨.tup fun d hd=>?_,hq t a b (wt.up (by omega) (Nat.le_refl _)) (wa.up (by omega) (Nat.le_refl _)) (wb.up (by omega) (Nat.le_refl _)) ct ca cb (zaX.up th (by omega))⟩
    simp only [List.mem_cons,List.not_mem_nil,or_false] at hd
    rcases hd with rfl | rfl | rfl <;> exact zcO _
theorem zbC:FnScope ["_law_nodes","_law_found","_law_node_here","_law_more"] ["_law_nodes"] (zj zbS):=⟨rfl,rfl,rfl,by decide +kernel,rfl,by decide +kernel,by decide +kernel⟩
theorem zfT (d:Df K mg "_law_labels" zbS ["_law_nodes"]) (G_law_rank:Fn P w K mg base 1 "_law_rank" ["_law_label_here"] zby) (z_sorted:mg "sorted"=none):Fn P w K mg base 4 "_law_labels" ["_law_nodes"] zcy:=by
  refine d.ok zbC (fun ds Q h=>?_) (fun f cdv A outer s H E hr ds Q h=>⟨_,(zd (zV 1 zbC.nd (za7 (zbv zc)))
    (zd (zbJ (zaV (pv' 0)) (zal 2 zbC.nd)
      (zd (zdD 3 zbC.nd (zde (fsc:=zj zbS) (N:=["_law_nodes","_law_found","_law_node_here","_law_more"]) (N':=["_law_kid_here"]) (src:=[none]) (by refine ⟨rfl,?_,?_,?_,rfl,rfl⟩ <;> decide +kernel) (zaV (zP (i_A (zaG hr)) (pv' 2) ze)) (fun _ _ _ _ _ _=>(zal 0 (show (["_law_kid_here"]:List Str).Nodup by decide +kernel))) (fun _ _ _ _ _ _=>zcg) (fun _ _ _ _ _ _=>(zP (i_A (zaG hr)) (pv' 0) ze))))
    (zi (zV 1 zbC.nd (za7 (zjW zkf (pv' 1) (za7 (zdW (fsc:=zj zbS) (N:=["_law_nodes","_law_found","_law_node_here","_law_more"]) (N':=["_law_one","_law_found"]) (src:=[none,some 1]) (by refine ⟨rfl,?_,?_,?_,rfl,rfl⟩ <;> decide +kernel) (zaV (pv' 3)) (fun _ _ _ _ _ _=>(zal 0 (show (["_law_one","_law_found"]:List Str).Nodup by decide +kernel))) (fun _ _ _ _ _ _=>(zeh (zaE (zlT (zaG hr)) (pv' 0) (pv' 1)))) (fun _ _ _ _ _ _=>(pv' 0))))))))))
    (zi (zR (za7 (zih G_law_rank (hr.mono (by decide)) z_sorted (za (pv' 1) zc))))))),?_⟩)
  · obtain ⟨f,a,b,c,n,rfl,_⟩:=h
    rfl
  obtain ⟨f,a,b,c,n,rfl,h1,h2,h3,hc,th,q⟩:=h; simp [zaa,zT,zU,zW,zk,zq,tC',zbg,zaQ,tB',zaq,zau,zbo,zF,zay,zI,zbp,zZ,zr,zad,zab,zbj,zbq,zbl,zaf,zbm,zas,zac,zG,zw,zu,za8,zp,zaB,zJ,zag,zE,zak,zx,zC,zai,zY,zbk,zL,zae,zK,zaw,zH,zax,zv,zar,zA,zo,zD,zm,zaC,zh,zl,zaz,zN,zM,zaA,zbt,zah,zg,zn,tBr,brN,zB,zy,zz,zaj,zt,zam,zbn,zan,zap,zao,zbr,zat,zfv]; have f1:=h1.few; have f2:=h2.few; have f3:=h3.few; have l1:=zbY f.kds; have l2:=zbY a.kds; have l3:=zbY b.kds
  refine ⟨zaT (by omega),zgc ⟨zaT (by simp; omega),?_⟩⟩
  refine zgb (fs:=[]) ?_
  have ef:((zaL f.kds).filter fun l=>decide (l ∉ ([]:List (List Nat))))=zaL f.kds:=by simp
  rw [ef]
  refine ⟨_,_,rfl,rfl,zaT (by simp; omega),?_⟩
  refine ⟨zaT (by omega),zgc ⟨zaT (by simp; omega),?_⟩⟩
  refine zgb (fs:=zaL f.kds) ?_
  have hfl:=List.length_filter_le (fun l=>decide (l ∉ zaL f.kds)) (zaL a.kds)
  have hfl2:=List.length_filter_le (fun l=>!decide (l ∈ zaL f.kds)) (zaL a.kds)
  refine ⟨_,_,rfl,rfl,zaT (by simp; omega),?_⟩
  have eu:OD.toD (.lst ([] ++ (zaL f.kds).map D.str ++ ((zaL a.kds).filter fun l=>decide (l ∉ zaL f.kds)).map D.str))=.lst ((uni f a).map .str):=by
    unfold uni; simp [OD.toD]
  have ul:(uni f a).length≤(zaL f.kds).length+(zaL a.kds).length:=by unfold uni; rw [List.length_append]; omega
  show b.kds.length≤sizeLine∧_
  rw [eu]
  refine ⟨zaT (by omega),zgc ⟨zaT (by simp; omega),?_⟩⟩
  refine zgb (fs:=uni f a) ?_
  have hfl3:=List.length_filter_le (fun l=>decide (l ∉ uni f a)) (zaL b.kds)
  refine ⟨_,_,rfl,rfl,zaT (by rw [List.length_map,List.length_map]; omega),?_⟩
  have eu3:OD.toD (.lst ((uni f a).map D.str ++ ((zaL b.kds).filter fun l=>decide (l ∉ uni f a)).map D.str))=.lst ((zk3 f a b).map .str):=by
    unfold zk3; simp [OD.toD]
  have h64:=zlh h1 h2 h3 th
  refine ⟨_,eu3,by rw [List.length_map]; omega,?_⟩
  rw [← zjA h1 h2 h3] at q
  obtain ⟨ks',lt,a',b',cc,r⟩:=zeu (sp:=zby) (fun l hl=>⟨l,rfl,hl,rfl⟩) (ms:=zk3 f a b) (by omega) (zes h1 h2 h3) (R:=fun ds=>Q (.val (.lst ds))) q
  exact ⟨ks',a',b',lt,cc,r⟩
theorem zd7:FnScope ["_law_three"] ["_law_three"] (zj zb8):=⟨rfl,rfl,rfl,by decide +kernel,rfl,by decide +kernel,by decide +kernel⟩
theorem zd9 (d:Df K mg "_law_words_due" zb8 ["_law_three"]):Fn P w K mg base 1 "_law_words_due" ["_law_three"] zbx:=by
  refine d.ok zd7 (fun ds Q h=>?_) (fun f cdv A outer s H E hr ds Q h=>⟨_,(zd (zbh (zaE (zlS (zbE hr)) (zP (i_A (zaG hr)) (pv' 0) ze) (zP (i_A (zaG hr)) (pv' 0) ze)) (zi (zR (za7 (zbv (za (zP (i_A (zaG hr)) (pv' 0) ze) zc))))) zaK)
    (zd (zbh (zaE (zlS (zbE hr)) (zP (i_A (zaG hr)) (pv' 0) ze) (zP (i_A (zaG hr)) (pv' 0) ze)) (zi (zR (za7 (zbv (za (zP (i_A (zaG hr)) (pv' 0) ze) zc))))) zaK)
    (zd (zbh (zaE (zlS (zbE hr)) (zP (i_A (zaG hr)) (pv' 0) ze) (zP (i_A (zaG hr)) (pv' 0) ze)) (zi (zR (za7 (zbv (za (zP (i_A (zaG hr)) (pv' 0) ze) zc))))) zaK)
    (zi (zR (za7 (zbv zc))))))),?_⟩)
  · obtain ⟨f,a,b,rfl,_⟩:=h
    rfl
  obtain ⟨f,a,b,rfl,⟨b1,i1,h1⟩,⟨b2,i2,h2⟩,⟨b3,i3,h3⟩,q⟩:=h
  simp [zaa,zT,zU,zW,zk,zq,tC',zbg,zaQ,tB',zaq,zau,zbo,zF,zay,zI,zbp,zZ,zr,zad,zab,zbj,zbq,zbl,zaf,zbm,zas,zac,zG,zw,zu,za8,zp,zaB,zJ,zag,zE,zak,zx,zC,zai,zY,zbk,zL,zae,zK,zaw,zH,zax,zv,zar,zA,zo,zD,zm,zaC,zh,zl,zaz,zN,zM,zaA,zbt,zah,zg,zn,tBr,brN,zB,zy,zz,zaj,zt,zam,zbn,zan,zap,zao,zbr,zat]; refine (h1 _).1 ?_
  cases b1 with
  | true=>rw [zqX (i1.mp rfl)] at q; exact .inr ⟨rfl,q⟩
  | false =>
    refine .inl ⟨rfl,(h2 _).1 ?_⟩
    cases b2 with
    | true=>rw [zqW (i2.mp rfl)] at q; exact .inr ⟨rfl,q⟩
    | false =>
      refine .inl ⟨rfl,(h3 _).1 ?_⟩
      cases b3 with
      | true=>rw [zqV (i3.mp rfl)] at q; exact .inr ⟨rfl,q⟩
      | false =>
        rw [zfp ⟨fun z=>absurd (i2.mpr z) (by simp),fun z=>absurd (i3.mpr z) (by simp),fun z=>absurd (i1.mpr z) (by simp)⟩] at q
        exact .inl ⟨rfl,q⟩
end
end K83
namespace K83
open PySem L2 Lb PL MT M04 MS M70 M71 M81 M73 M72 M82 M83 M84 M85
theorem zgg {n:Nat} {x y z:Option Tr} (h:x=none∨y=none∨z=none):znx n x y z=(due x y z).head?.join:=by
  unfold znx; rw [za5 h]; unfold due
  split <;> rfl
theorem zmN {n:Nat} {f a b:Tr} (i:Nat):(((L3 f a b).take i).filterMap fun l=>znx n (zb l f.kds) (zb l a.kds) (zb l b.kds)).length≤(L3 f a b).length:=by
  refine Nat.le_trans (List.length_filterMap_le _ _) ?_; rw [List.length_take]; exact Nat.min_le_right _ _
theorem zgQ {R:List D→Prop} (h:R []):zbO (zk 0) (tB' (zaQ (zjN true) (zq 0) (tC' D.non))) (zq 0) R [] [] [Slot.emp]:=by
  simpa [zbO] using h
theorem zgO {R:List D→Prop} (o:Option Tr) (h:R (o.toList.map trD)):zbO (zk 0) (tB' (zaQ (zjN true) (zq 0) (tC' D.non))) (zq 0) R [zbX o] [] [Slot.emp]:=by
  cases o with
  | none=>simpa [zaa,zT,zU,zW,zk,zq,tC',zbg,zaQ,tB',zaq,zau,zbo,zF,zay,zI,zbp,zZ,zr,zad,zab,zbj,zbq,zbl,zaf,zbm,zas,zac,zG,zw,zu,za8,zp,zaB,zJ,zag,zE,zak,zx,zC,zai,zY,zbk,zL,zae,zK,zaw,zH,zax,zv,zar,zA,zo,zD,zm,zaC,zh,zl,zaz,zN,zM,zaA,zbt,zah,zg,zn,tBr,brN,zB,zy,zz,zaj,zt,zam,zbn,zan,zap,zao,zbr,zat,zbO,vo,voS,zjN,zbX] using h
  | some t=>simpa [zaa,zT,zU,zW,zk,zq,tC',zbg,zaQ,tB',zaq,zau,zbo,zF,zay,zI,zbp,zZ,zr,zad,zab,zbj,zbq,zbl,zaf,zbm,zas,zac,zG,zw,zu,za8,zp,zaB,zJ,zag,zE,zak,zx,zC,zai,zY,zbk,zL,zae,zK,zaw,zH,zax,zv,zar,zA,zo,zD,zm,zaC,zh,zl,zaz,zN,zM,zaA,zbt,zah,zg,zn,tBr,brN,zB,zy,zz,zaj,zt,zam,zbn,zan,zap,zao,zbr,zat,zbO,vo,voS,zjN,zbX,zbG] using h
theorem zf6 (ts:List Tr):∀ d ∈ ts.map trD,Imm d:=fun d hd=>by
  obtain ⟨k,_,rfl⟩:=List.mem_map.mp hd; exact zcO k
section
variable {P:Program} {w:World} {K:PySem.W.Frag} {mg:Str→Option Value} {base:Heap}
theorem za9:FnScope ["_law_place","_law_three","_law_clashes","_law_words_here","_law_kids_here","_law_label_here","_law_some","_law_due"] ["_law_place","_law_three","_law_clashes"] (zj zb2):=⟨rfl,rfl,rfl,by decide +kernel,rfl,by decide +kernel,by decide +kernel⟩
theorem zhp (d:Df K mg "_law_walk" zb2 ["_law_place","_law_three","_law_clashes"]) (G_law_kid:Fn P w K mg base 1 "_law_kid" ["_law_node_here","_law_label_here"] zb1) (G_law_labels:Fn P w K mg base 4 "_law_labels" ["_law_nodes"] zcy) (G_law_words_due:Fn P w K mg base 1 "_law_words_due" ["_law_three"] zbx) (z_tuple:mg "tuple"=none):∀ n:Nat,FnM P w K mg base (n+5) "_law_walk" ["_law_place","_law_three","_law_clashes"] 2 (zb3 n):=by
  intro n
  induction n with
  | zero=>exact d.okM (k:=4) za9 (fun o ds Q h=>(show False from h).elim) (fun f cdv A outer s H E hr b o ds Q h=>(show False from h).elim)
  | succ n ih =>
  have G_law_walk:FnM P w K mg base (n+5) "_law_walk" ["_law_place","_law_three","_law_clashes"] 2 (zb3 n):=ih
  refine d.okM (k:=n+5) za9 (fun o ds Q h=>?_) (fun f cdv A outer s H E hr b o ds Q h=>⟨_,(zd (zV 3 za9.nd (zaZ G_law_words_due (hr.mono (by omega)) (za (za7 (zdW (fsc:=zj zb2) (N:=["_law_place","_law_three","_law_clashes","_law_words_here","_law_kids_here","_law_label_here","_law_some","_law_due"]) (N':=["_law_node_here"]) (src:=[none]) (by refine ⟨rfl,?_,?_,?_,rfl,rfl⟩ <;> decide +kernel) (zaV (pv' 1)) (fun _ _ _ _ _ _=>(zal 0 (show (["_law_node_here"]:List Str).Nodup by decide +kernel))) (fun _ _ _ _ _ _=>zcg) (fun _ _ _ _ _ _=>(zP (i_A (zaG hr)) (pv' 0) ze)))) zc)))
    (zd (zbh (zaE (zc1 (zbE hr)) (pv' 3) (za7 (zbv zc))) (zd (zhh 2 (pv' 0))
    (zi (zV 3 za9.nd (za7 (zbv (za (zaF zc) zc)))))) zaK)
    (zd (zbQ 4 za9.nd (zbv zc))
    (zd (zbJ (zaV (zaZ G_law_labels (hr.mono (by omega)) (za (pv' 1) zc))) (zal 5 za9.nd)
      (zd (zdD 6 za9.nd (zde (fsc:=zj zb2) (N:=["_law_place","_law_three","_law_clashes","_law_words_here","_law_kids_here","_law_label_here","_law_some","_law_due"]) (N':=["_law_node_here","_law_label_here"]) (src:=[none,some 5]) (by refine ⟨rfl,?_,?_,?_,rfl,rfl⟩ <;> decide +kernel) (zaV (pv' 1)) (fun _ _ _ _ _ _=>(zal 0 (show (["_law_node_here","_law_label_here"]:List Str).Nodup by decide +kernel))) (fun _ _ _ _ _ _=>zcg) (fun _ _ _ _ _ _=>(zaZ G_law_kid (hr.mono (by omega)) (za (pv' 0) (za (pv' 1) zc))))))
    (zi (zbh (zaE (zlR (zaG hr)) zcZ (pv' 6)) (zi (zdV 4 (zcJ G_law_walk (hr.mono (by omega)) (zaY (zQ zca (pv' 0) (zaF (za (pv' 5) zc))) (zaY (pv' 6) (zdv 2 zc)))))) (zd (zV 7 za9.nd (zaZ G_law_words_due (hr.mono (by omega)) (za (pv' 6) zc)))
    (zd (zbh (zaE (zc1 (zbE hr)) (pv' 7) (za7 (zbv zc))) (zi (zhh 2 (zQ zca (pv' 0) (zaF (za (pv' 5) zc))))) zaK)
    (zi (zbQ 4 za9.nd (zjY (zjW zkf (pv' 4) (za7 (zdW (fsc:=zj zb2) (N:=["_law_place","_law_three","_law_clashes","_law_words_here","_law_kids_here","_law_label_here","_law_some","_law_due"]) (N':=["_law_kid_here"]) (src:=[none]) (by refine ⟨rfl,?_,?_,?_,rfl,rfl⟩ <;> decide +kernel) (zaV (pv' 7)) (fun _ _ _ _ _ _=>(zal 0 (show (["_law_kid_here"]:List Str).Nodup by decide +kernel))) (fun _ _ _ _ _ _=>(zeh (zaE zin (pv' 0) zcZ))) (fun _ _ _ _ _ _=>(pv' 0))))))))))))))
    (zi (zR (zc0 (zaF (za (zP (i_A (zaG hr)) (zP (i_A (zaG hr)) (pv' 1) ze) ze) (za (zP (i_A (zaG hr)) (pv' 3) ze) (za (zbe zd3 z_tuple PyProof.Rows.boot_tuple (za (pv' 4) zc)) zc))))))))))),?_⟩)
  · obtain ⟨xs,f,a,b,c,p,rfl,rfl,_⟩:=h
    rfl
  obtain ⟨xs,f,a,g,c,p,rfl,rfl,hf,ha,hg,hc,h3,hn,hp,hx,hq⟩:=h; simp [zaa,zT,zU,zW,zk,zq,tC',zbg,zaQ,tB',zaq,zau,zbo,zF,zay,zI,zbp,zZ,zr,zad,zab,zbj,zbq,zbl,zaf,zbm,zas,zac,zG,zw,zu,za8,zp,zaB,zJ,zag,zE,zak,zx,zC,zai,zY,zbk,zL,zae,zK,zaw,zH,zax,zv,zar,zA,zo,zD,zm,zaC,zh,zl,zaz,zN,zM,zaA,zbt,zah,zg,zn,tBr,brN,zB,zy,zz,zaj,zt,zam,zbn,zan,zap,zao,zbr,zat]; refine zmH [f,a,g] ?_; refine ⟨_,_,_,rfl,zdh _ _,zdh _ _,zdh _ _,?_⟩; rw [zhR plc zcI zcI zcI]
  by_cases e:ck3 f.wds a.wds g.wds
  · rw [zfp e]
    refine ⟨true,rfl,.inr ⟨rfl,za6 (by omega),?_⟩⟩
    refine ⟨f,a,g,c,n+1,rfl,hf,ha,hg,hc,h3,?_⟩; refine ⟨_,rfl,?_⟩
    refine zdn (fun i Γ=>∃ s5 s6 s7,Γ=[.val (plc p),.val (.lst [trD f,trD a,trD g]),.bk (fun z=>z) b (.lst (xs ++ (zgG f.wds a.wds g.wds p ++ ((L3 f a g).take i).flatMap fun l=>zgS n (zb l f.kds) (zb l a.kds) (zb l g.kds) (p ++ [l])).map plc)),.val (.lst [plc []]),.own (.lst ((((L3 f a g).take i).filterMap fun l=>znx n (zb l f.kds) (zb l a.kds) (zb l g.kds)).map trD)),s5,s6,s7]) ⟨.emp,.emp,.emp,by simp [zen e]⟩ ?_ ?_
    · rintro i x Γ hx' ⟨s5,s6,s7,rfl⟩
      rw [List.getElem?_map] at hx'
      cases hc':(L3 f a g)[i]? with
      | none=>rw [hc'] at hx'; cases hx'
      | some l =>
        rw [hc'] at hx'; cases hx'; have hpl:=zfQ (n:=n) (p:=p) hc'; simp [zaa,zT,zU,zW,zk,zq,tC',zbg,zaQ,tB',zaq,zau,zbo,zF,zay,zI,zbp,zZ,zr,zad,zab,zbj,zbq,zbl,zaf,zbm,zas,zac,zG,zw,zu,za8,zp,zaB,zJ,zag,zE,zak,zx,zC,zai,zY,zbk,zL,zae,zK,zaw,zH,zax,zv,zar,zA,zo,zD,zm,zaC,zh,zl,zaz,zN,zM,zaA,zbt,zah,zg,zn,tBr,brN,zB,zy,zz,zaj,zt,zam,zbn,zan,zap,zao,zbr,zat]; refine zfr [f,a,g] ?_
        have shape:∀ o:Option Tr,zbX o=.non∨∃ es,zbX o=.tup es:=fun o=>by
          cases o with
          | none=>exact .inl rfl
          | some t=>exact .inr ⟨_,zaO t⟩
        have nonO:∀ o:Option Tr,zpg (zbX o)=o.isNone:=fun o=>by
          cases o with
          | none=>rfl
          | some t=>rw [show zbX (some t)=trD t from rfl,zaO]; rfl
        have tk:(L3 f a g).take (i+1)=(L3 f a g).take i ++ [l]:=by rw [List.take_succ,hc']; rfl
        have hkl:=zmN (n:=n) (f:=f) (a:=a) (b:=g) i; have hL:=zk2 h3; rw [List.length_flatMap,List.map_take] at hpl
        have kf:∀ t,zb l f.kds=some t→Wf c n t:=fun t e=>hf.kw e
        have ka:∀ t,zb l a.kds=some t→Wf c n t:=fun t e=>ha.kw e
        have kg:∀ t,zb l g.kds=some t→Wf c n t:=fun t e=>hg.kw e
        have kt:∀ t u v,zb l f.kds=some t→zb l a.kds=some u→zb l g.kds=some v→zaX 60 t u v:=fun t u v e1 e2 e3=>zaX.kid h3 e1 e2 e3
        simp only [tk,List.flatMap_append,List.filterMap_append,List.map_append,List.flatMap_cons,List.flatMap_nil,List.append_nil,List.filterMap_cons,List.filterMap_nil,List.map_cons,List.map_nil]; generalize zb l f.kds=F at *; generalize zb l a.kds=A' at *; generalize zb l g.kds=G at *
        refine ⟨_,rfl,rfl,fun x hx=>?_,?_⟩
        · simp only [List.mem_cons,List.not_mem_nil,or_false] at hx
          rcases hx with rfl | rfl | rfl <;> exact shape _
        simp only [List.any_cons,List.any_nil,nonO]
        by_cases hno:F=none∨A'=none∨G=none
        · rw [show (F.isNone || (A'.isNone || (G.isNone || false)))=true by rcases hno with rfl | rfl | rfl <;> simp]
          refine .inl ⟨rfl,_,_,_,rfl,zbZ ka kg (by omega),zbZ ka kf (by omega),zbZ kg kf (by omega),?_⟩
          rw [zhR zbX (zbR ka kf (by omega)) (zbR kg kf (by omega)) (zbR ka kg (by omega)),zgg hno,zcu hno]
          by_cases ck:ck3 F A' G
          · rw [zfp ck,zen ck]
            refine ⟨true,rfl,.inr ⟨rfl,zaT (by omega),za6 (by omega),_,rfl,zaT (Nat.zero_le _),?_⟩⟩
            refine zgQ ?_
            refine ⟨_,_,rfl,rfl,zaT (by simp only [List.length_append,List.length_map,List.length_nil]; omega),?_,rfl,by simp⟩
            rw [List.append_nil]; exact zf6 _
          · rw [zc7 ck,zf7 ck]
            refine ⟨false,rfl,.inl ⟨rfl,_,rfl,zaT (by simp),?_⟩⟩
            refine zgO (st3 F A' G) ?_
            have h1:(st3 F A' G).toList.length≤1:=by cases st3 F A' G <;> simp
            refine ⟨_,_,rfl,rfl,zaT (by simp only [List.length_append,List.length_map]; omega),?_,by simp,?_⟩
            · rw [← List.map_append]
              exact zf6 _
            · cases st3 F A' G <;> simp
        · obtain ⟨tf,rfl⟩:∃ t,F=some t:=by
            cases F with
            | none=>exact absurd (.inl rfl) hno
            | some t=>exact ⟨t,rfl⟩
          obtain ⟨ta,rfl⟩:∃ t,A'=some t:=by
            cases A' with
            | none=>exact absurd (.inr (.inl rfl)) hno
            | some t=>exact ⟨t,rfl⟩
          obtain ⟨tg,rfl⟩:∃ t,G=some t:=by
            cases G with
            | none=>exact absurd (.inr (.inr rfl)) hno
            | some t=>exact ⟨t,rfl⟩
          have wf:=kf tf rfl; obtain ⟨m,rfl⟩:=wf.pos
          refine .inr ⟨rfl,zaT (by omega),_,tf,ta,tg,c,p ++ [l],rfl,rfl,wf,ka _ rfl,kg _ rfl,hc,kt _ _ _ rfl rfl rfl,by omega,by simp; omega,?_,?_⟩
          · simp only [List.length_append,List.length_map,List.length_flatMap,List.map_take]
            simp only [oc] at hpl; omega
          · refine ⟨za6 (by omega),?_,rfl⟩
            rw [show zgS (m+1) (some tf) (some ta) (some tg) (p ++ [l])=cl (m+1) tf ta tg (p ++ [l]) from rfl]
            simp only [List.append_assoc]
    · rintro Γ ⟨s5,s6,s7,rfl⟩
      rw [show List.take (List.map D.str (L3 f a g)).length (L3 f a g)=L3 f a g from List.take_of_length_le (by rw [List.length_map]; exact Nat.le_refl _),← zkS]
      simp [zaa,zT,zU,zW,zk,zq,tC',zbg,zaQ,tB',zaq,zau,zbo,zF,zay,zI,zbp,zZ,zr,zad,zab,zbj,zbq,zbl,zaf,zbm,zas,zac,zG,zw,zu,za8,zp,zaB,zJ,zag,zE,zak,zx,zC,zai,zY,zbk,zL,zae,zK,zaw,zH,zax,zv,zar,zA,zo,zD,zm,zaC,zh,zl,zaz,zN,zM,zaA,zbt,zah,zg,zn,tBr,brN,zB,zy,zz,zaj,zt,zam,zbn,zan,zap,zao,zbr,zat]
      have:=zcO (wt (n+1) f a g)
      rw [zaO] at hq this; rw [znw,if_pos e] at hq this; exact ⟨this,hq⟩
  · rw [zc7 e]
    refine ⟨false,rfl,.inl ⟨rfl,?_⟩⟩; refine ⟨f,a,g,c,n+1,rfl,hf,ha,hg,hc,h3,?_⟩; refine ⟨_,rfl,?_⟩
    refine zdn (fun i Γ=>∃ s5 s6 s7,Γ=[.val (plc p),.val (.lst [trD f,trD a,trD g]),.bk (fun z=>z) b (.lst (xs ++ (zgG f.wds a.wds g.wds p ++ ((L3 f a g).take i).flatMap fun l=>zgS n (zb l f.kds) (zb l a.kds) (zb l g.kds) (p ++ [l])).map plc)),.val (.lst [plc (st3 f.wds a.wds g.wds)]),.own (.lst ((((L3 f a g).take i).filterMap fun l=>znx n (zb l f.kds) (zb l a.kds) (zb l g.kds)).map trD)),s5,s6,s7]) ⟨.emp,.emp,.emp,by simp [zf7 e]⟩ ?_ ?_
    · rintro i x Γ hx' ⟨s5,s6,s7,rfl⟩
      rw [List.getElem?_map] at hx'
      cases hc':(L3 f a g)[i]? with
      | none=>rw [hc'] at hx'; cases hx'
      | some l =>
        rw [hc'] at hx'; cases hx'; have hpl:=zfQ (n:=n) (p:=p) hc'; simp [zaa,zT,zU,zW,zk,zq,tC',zbg,zaQ,tB',zaq,zau,zbo,zF,zay,zI,zbp,zZ,zr,zad,zab,zbj,zbq,zbl,zaf,zbm,zas,zac,zG,zw,zu,za8,zp,zaB,zJ,zag,zE,zak,zx,zC,zai,zY,zbk,zL,zae,zK,zaw,zH,zax,zv,zar,zA,zo,zD,zm,zaC,zh,zl,zaz,zN,zM,zaA,zbt,zah,zg,zn,tBr,brN,zB,zy,zz,zaj,zt,zam,zbn,zan,zap,zao,zbr,zat]; refine zfr [f,a,g] ?_
        have shape:∀ o:Option Tr,zbX o=.non∨∃ es,zbX o=.tup es:=fun o=>by
          cases o with
          | none=>exact .inl rfl
          | some t=>exact .inr ⟨_,zaO t⟩
        have nonO:∀ o:Option Tr,zpg (zbX o)=o.isNone:=fun o=>by
          cases o with
          | none=>rfl
          | some t=>rw [show zbX (some t)=trD t from rfl,zaO]; rfl
        have tk:(L3 f a g).take (i+1)=(L3 f a g).take i ++ [l]:=by rw [List.take_succ,hc']; rfl
        have hkl:=zmN (n:=n) (f:=f) (a:=a) (b:=g) i; have hL:=zk2 h3; rw [List.length_flatMap,List.map_take] at hpl
        have kf:∀ t,zb l f.kds=some t→Wf c n t:=fun t e=>hf.kw e
        have ka:∀ t,zb l a.kds=some t→Wf c n t:=fun t e=>ha.kw e
        have kg:∀ t,zb l g.kds=some t→Wf c n t:=fun t e=>hg.kw e
        have kt:∀ t u v,zb l f.kds=some t→zb l a.kds=some u→zb l g.kds=some v→zaX 60 t u v:=fun t u v e1 e2 e3=>zaX.kid h3 e1 e2 e3
        simp only [tk,List.flatMap_append,List.filterMap_append,List.map_append,List.flatMap_cons,List.flatMap_nil,List.append_nil,List.filterMap_cons,List.filterMap_nil,List.map_cons,List.map_nil]; generalize zb l f.kds=F at *; generalize zb l a.kds=A' at *; generalize zb l g.kds=G at *
        refine ⟨_,rfl,rfl,fun x hx=>?_,?_⟩
        · simp only [List.mem_cons,List.not_mem_nil,or_false] at hx
          rcases hx with rfl | rfl | rfl <;> exact shape _
        simp only [List.any_cons,List.any_nil,nonO]
        by_cases hno:F=none∨A'=none∨G=none
        · rw [show (F.isNone || (A'.isNone || (G.isNone || false)))=true by rcases hno with rfl | rfl | rfl <;> simp]
          refine .inl ⟨rfl,_,_,_,rfl,zbZ ka kg (by omega),zbZ ka kf (by omega),zbZ kg kf (by omega),?_⟩
          rw [zhR zbX (zbR ka kf (by omega)) (zbR kg kf (by omega)) (zbR ka kg (by omega)),zgg hno,zcu hno]
          by_cases ck:ck3 F A' G
          · rw [zfp ck,zen ck]
            refine ⟨true,rfl,.inr ⟨rfl,zaT (by omega),za6 (by omega),_,rfl,zaT (Nat.zero_le _),?_⟩⟩
            refine zgQ ?_
            refine ⟨_,_,rfl,rfl,zaT (by simp only [List.length_append,List.length_map,List.length_nil]; omega),?_,rfl,by simp⟩
            rw [List.append_nil]; exact zf6 _
          · rw [zc7 ck,zf7 ck]
            refine ⟨false,rfl,.inl ⟨rfl,_,rfl,zaT (by simp),?_⟩⟩
            refine zgO (st3 F A' G) ?_
            have h1:(st3 F A' G).toList.length≤1:=by cases st3 F A' G <;> simp
            refine ⟨_,_,rfl,rfl,zaT (by simp only [List.length_append,List.length_map]; omega),?_,by simp,?_⟩
            · rw [← List.map_append]
              exact zf6 _
            · cases st3 F A' G <;> simp
        · obtain ⟨tf,rfl⟩:∃ t,F=some t:=by
            cases F with
            | none=>exact absurd (.inl rfl) hno
            | some t=>exact ⟨t,rfl⟩
          obtain ⟨ta,rfl⟩:∃ t,A'=some t:=by
            cases A' with
            | none=>exact absurd (.inr (.inl rfl)) hno
            | some t=>exact ⟨t,rfl⟩
          obtain ⟨tg,rfl⟩:∃ t,G=some t:=by
            cases G with
            | none=>exact absurd (.inr (.inr rfl)) hno
            | some t=>exact ⟨t,rfl⟩
          have wf:=kf tf rfl; obtain ⟨m,rfl⟩:=wf.pos
          refine .inr ⟨rfl,zaT (by omega),_,tf,ta,tg,c,p ++ [l],rfl,rfl,wf,ka _ rfl,kg _ rfl,hc,kt _ _ _ rfl rfl rfl,by omega,by simp; omega,?_,?_⟩
          · simp only [List.length_append,List.length_map,List.length_flatMap,List.map_take]
            simp only [oc] at hpl; omega
          · refine ⟨za6 (by omega),?_,rfl⟩
            rw [show zgS (m+1) (some tf) (some ta) (some tg) (p ++ [l])=cl (m+1) tf ta tg (p ++ [l]) from rfl]
            simp only [List.append_assoc]
    · rintro Γ ⟨s5,s6,s7,rfl⟩
      rw [show List.take (List.map D.str (L3 f a g)).length (L3 f a g)=L3 f a g from List.take_of_length_le (by rw [List.length_map]; exact Nat.le_refl _),← zkS]
      simp [zaa,zT,zU,zW,zk,zq,tC',zbg,zaQ,tB',zaq,zau,zbo,zF,zay,zI,zbp,zZ,zr,zad,zab,zbj,zbq,zbl,zaf,zbm,zas,zac,zG,zw,zu,za8,zp,zaB,zJ,zag,zE,zak,zx,zC,zai,zY,zbk,zL,zae,zK,zaw,zH,zax,zv,zar,zA,zo,zD,zm,zaC,zh,zl,zaz,zN,zM,zaA,zbt,zah,zg,zn,tBr,brN,zB,zy,zz,zaj,zt,zam,zbn,zan,zap,zao,zbr,zat]
      have:=zcO (wt (n+1) f a g)
      rw [zaO] at hq this; rw [znw,if_neg e] at hq this; exact ⟨this,hq⟩
end
end K83
namespace K83
open PySem L2 Lb PL MT M04 MS M70 M71 M81 M73 M72 M82 M83 M84 M85
theorem zdi {f:D→D→Option Bool}:∀ {xs:List D},(∀ x ∈ xs,f x x=some true)→eqL f xs xs=some true
  | [],_=>rfl
  | x :: xs,h=>by simp [eqL,h x List.mem_cons_self,zdi fun y hy=>h y (List.mem_cons_of_mem _ hy)]
theorem zqS {n:Nat} {t:Tr} (h:Dp n t):∀ m,2 * n+1≤m→eqD m (trD t) (trD t)=some true:=by
  induction h with
  | @mk n l ws ks h ih =>
    intro m hm
    obtain ⟨m,rfl⟩:∃ k,m=k+3:=⟨m-3,by omega⟩
    rw [zaO]
    show eqL (eqD (m+2)) _ _=_
    refine zdi fun x hx=>?_
    simp only [List.mem_cons,List.not_mem_nil,or_false] at hx
    rcases hx with rfl | rfl | rfl
    · rw [zeS]; simp
    · rw [zd0]; simp
    · show eqL (eqD (m+1)) _ _=_
      refine zdi fun y hy=>?_
      obtain ⟨k,hk,rfl⟩:=List.mem_map.mp hy
      exact ih k hk (m+1) (by omega)
theorem zoP {n:Nat} {t:Tr} (h:Dp n t) (hn:n≤20):eqD 100 (.tup [.str [116,114,101,101],trD t]) (.tup [.str [116,114,101,101],trD t])=some true:=by
  show eqL (eqD 99) _ _=_
  refine zdi fun x hx=>?_
  simp only [List.mem_cons,List.not_mem_nil,or_false] at hx
  rcases hx with rfl | rfl
  · rw [zeS]; simp
  · exact zqS h 99 (by omega)
theorem ziz (X:List Pl):eqD 100 (.tup [.str [99,108,97,115,104],.lst (X.map plc)]) (.tup [.str [99,108,97,115,104],.lst (X.map plc)])=some true:=by
  show eqL (eqD 99) _ _=_
  refine zdi fun x hx=>?_
  simp only [List.mem_cons,List.not_mem_nil,or_false] at hx
  rcases hx with rfl | rfl
  · rw [zeS]; simp
  · show (if _=_ then eqL (eqD 98) _ _ else some false)=_
    rw [if_pos rfl]
    refine zdi fun y hy=>?_
    obtain ⟨k,hk,rfl⟩:=List.mem_map.mp hy
    rw [zd0]; simp
section
variable {P:Program} {w:World} {K:PySem.W.Frag} {mg:Str→Option Value} {base:Heap}
theorem zcD:FnScope ["_law_first","_law_one","_law_other","_law_clashes","_law_tree_here","_law_found"] ["_law_first","_law_one","_law_other"] (zj zdP):=⟨rfl,rfl,rfl,by decide +kernel,rfl,by decide +kernel,by decide +kernel⟩
theorem zhr (d:Df K mg "_law_told" zdP ["_law_first","_law_one","_law_other"]) (G_together:Fn P w K mg base 28 "together" ["first","one","other"] zcw) (G_law_walk:FnM P w K mg base 15 "_law_walk" ["_law_place","_law_three","_law_clashes"] 2 (zb3 10)) (z_isinstance:mg "isinstance"=none) (z_len:mg "len"=none) (z_list:mg "list"=none) (z_tuple:mg "tuple"=none):Fn P w K mg base 29 "_law_told" ["_law_first","_law_one","_law_other"] zcx:=by
  refine d.ok zcD (fun ds Q h=>?_) (fun f cdv A outer s H E hr ds Q h=>⟨_,(zd (zbQ 3 zcD.nd (zbv zc))
    (zd (zp6 3 (zV 4 zcD.nd (zcJ G_law_walk (hr.mono (by decide)) (zaY (zaF zc) (zaY (za7 (zbv (za (pv' 0) (za (pv' 1) (za (pv' 2) zc))))) (zdv 3 zc))))))
    (zd (znZ 5 zcD.nd G_together (hr.mono (by decide)) (za (pv' 0) (za (pv' 1) (za (pv' 2) zc))))
    (zd (zbh (zfK (PW'.pt (zjQ (zfJ (zeD (zbs (zno K rfl) z_isinstance PyProof.Rows.boot_isinstance (za (pv' 5) (za (zmT z_tuple PyProof.Rows.boot_tuple) zc))))) (zhg (zaE (zhy (zbE hr)) (zbs zdK z_len PySem.boot_len (za (pv' 5) zc)) ze))))) (zi (zR zik)) zaK)
    (zd (zbh (zfK (zaE (zc1 (zbE hr)) (pv' 3) (za7 (zbv zc)))) (zi (zR (zc0 (zfO (zc1 (zbE hr)) (pv' 5) (zaF (za (zbw [116,114,101,101]) (za (pv' 4) zc))))))) zaK)
    (zd (zbh (zfK (PW'.pt (zjQ (zfJ (zeD (zbs (zno K rfl) z_isinstance PyProof.Rows.boot_isinstance (za (zP (i_A (zaG hr)) (pv' 5) ze) (za (zmT z_list PyProof.Rows.boot_list) zc))))) (zhg (zaE (zhy (zbE hr)) (pv' 5) (zaF (za (zbw [99,108,97,115,104]) (za (pv' 3) zc)))))))) (zi (zR zik)) zaK)
    (zd (zn4 (j:=⟨0,0,0,0⟩) 5 (zaF zc))
    (zi (zR (zc0 (zfO (zc1 (zbE hr)) (zaZ G_together (hr.mono (by decide)) (za (pv' 0) (za (pv' 1) (za (pv' 2) zc)))) (zaF (za (zbw [99,108,97,115,104]) (za (pv' 3) zc)))))))))))))),?_⟩)
  · obtain ⟨f,a,b,c,rfl,_⟩:=h
    rfl
  obtain ⟨f,a,b,c,rfl,hf,ha,hb,hc,h3,hx,hq⟩:=h; simp [zaa,zT,zU,zW,zk,zq,tC',zbg,zaQ,tB',zaq,zau,zbo,zF,zay,zI,zbp,zZ,zr,zad,zab,zbj,zbq,zbl,zaf,zbm,zas,zac,zG,zw,zu,za8,zp,zaB,zJ,zag,zE,zak,zx,zC,zai,zY,zbk,zL,zae,zK,zaw,zH,zax,zv,zar,zA,zo,zD,zm,zaC,zh,zl,zaz,zN,zM,zaA,zbt,zah,zg,zn,tBr,brN,zB,zy,zz,zaj,zt,zam,zbn,zan,zap,zao,zbr,zat]
  refine ⟨[],f,a,b,c,[],rfl,rfl,hf,ha,hb,hc,h3,by decide,by decide,by simp; omega,?_⟩
  have tg:∀ R:Res→Prop,tgR f a b R→zcw [trD f,trD a,trD b] R:=fun R h=>⟨f,a,b,c,rfl,hf,ha,hb,hc,h3,hx,h⟩
  have hl:=ziI 10 f a b []; refine tg _ ?_
  by_cases e:cl 10 f a b []=[]
  · have ew:=zpo e
    refine .inl ⟨e,?_⟩; rw [ew,e]; simp [zaa,zT,zU,zW,zk,zq,tC',zbg,zaQ,tB',zaq,zau,zbo,zF,zay,zI,zbp,zZ,zr,zad,zab,zbj,zbq,zbl,zaf,zbm,zas,zac,zG,zw,zu,za8,zp,zaB,zJ,zag,zE,zak,zx,zC,zai,zY,zbk,zL,zae,zK,zaw,zH,zax,zv,zar,zA,zo,zD,zm,zaC,zh,zl,zaz,zN,zM,zaA,zbt,zah,zg,zn,tBr,brN,zB,zy,zz,zaj,zt,zam,zbn,zan,zap,zao,zbr,zat]
    exact ⟨true,rfl,.inr ⟨rfl,true,zoP (zqJ hf ha hb) (by omega),by constructor,hq⟩⟩
  · refine .inr ⟨e,?_⟩
    simp [zaa,zT,zU,zW,zk,zq,tC',zbg,zaQ,tB',zaq,zau,zbo,zF,zay,zI,zbp,zZ,zr,zad,zab,zbj,zbq,zbl,zaf,zbm,zas,zac,zG,zw,zu,za8,zp,zaB,zJ,zag,zE,zak,zx,zC,zai,zY,zbk,zL,zae,zK,zaw,zH,zax,zv,zar,zA,zo,zD,zm,zaC,zh,zl,zaz,zN,zM,zaA,zbt,zah,zg,zn,tBr,brN,zB,zy,zz,zaj,zt,zam,zbn,zan,zap,zao,zbr,zat]; intro b1
    refine ⟨false,?_,.inl ⟨rfl,true,ziz _,.inl ⟨rfl,_,b1,⟨rfl,rfl⟩,_,⟨rfl,rfl,rfl⟩,by rw [List.length_map]; exact za6 (by omega),tg _ (.inr ⟨e,true,ziz _,by constructor,hq⟩)⟩⟩⟩
    show (if _=_ then eqL (eqD 99) _ _ else some false)=_
    rw [if_neg fun z=>e (by simpa using z)]
end
def zmP:Sp':=zha
section
variable {P:Program} {w:World} {K:PySem.W.Frag} {mg:Str→Option Value} {base:Heap}
theorem zib:FnScope ["_law_script","_law_first","_law_one","_law_other"] ["_law_script"] (zj ze2):=⟨rfl,rfl,rfl,by decide +kernel,rfl,by decide +kernel,by decide +kernel⟩
theorem zqs (d:Df K mg "law" ze2 ["_law_script"]) (G_law_drafts:Fn P w K mg base 14 "_law_drafts" ["_law_script"] zcz) (G_law_told:Fn P w K mg base 29 "_law_told" ["_law_first","_law_one","_law_other"] zcx):Fn P w K mg base 30 "law" ["_law_script"] zmP:=by
  refine d.ok zib (fun ds Q h=>?_) (fun f cdv A outer s H E hr ds Q h=>⟨_,(zd (zn3 (zaZ G_law_drafts (hr.mono (by decide)) (za (pv' 0) zc)) (zn9 (n:=3) (zeF (zal 1 zib.nd) (zeF (zal 2 zib.nd) (zeF (zal 3 zib.nd) zlF)))))
    (zd (zbh (PW'.pt (zjQ (zfJ (zeD (zaZ G_law_told (hr.mono (by decide)) (za (pv' 1) (za (pv' 2) (za (pv' 3) zc)))))) (zhg (zfJ (zeD (zaZ G_law_told (hr.mono (by decide)) (za (pv' 1) (za (pv' 3) (za (pv' 2) zc))))))))) (zi (zR zik)) zaK)
    (zi (zR (zj6 (zaZ G_law_told (hr.mono (by decide)) (za (pv' 3) (za (pv' 1) (za (pv' 2) zc)))) (zj2 (zaZ G_law_told (hr.mono (by decide)) (za (pv' 2) (za (pv' 3) (za (pv' 1) zc)))))))))),?_⟩)
  · obtain ⟨ns,rfl,_⟩:=h
    rfl
  obtain ⟨cs,rfl,hl,hq⟩:=h; simp [zaa,zT,zU,zW,zk,zq,tC',zbg,zaQ,tB',zaq,zau,zbo,zF,zay,zI,zbp,zZ,zr,zad,zab,zbj,zbq,zbl,zaf,zbm,zas,zac,zG,zw,zu,za8,zp,zaB,zJ,zag,zE,zak,zx,zC,zai,zY,zbk,zL,zae,zK,zaw,zH,zax,zv,zar,zA,zo,zD,zm,zaC,zh,zl,zaz,zN,zM,zaA,zbt,zah,zg,zn,tBr,brN,zB,zy,zz,zaj,zt,zam,zbn,zan,zap,zao,zbr,zat]
  refine ⟨cs,rfl,fun f a b wf wa wb cf ca cb th=>?_⟩
  have f10:Wf 36 10 f:=wf.up (Nat.le_refl _) (by omega)
  have a10:Wf 36 10 a:=wa.up (Nat.le_refl _) (by omega)
  have b10:Wf 36 10 b:=wb.up (Nat.le_refl _) (by omega)
  simp [zaa,zT,zU,zW,zk,zq,tC',zbg,zaQ,tB',zaq,zau,zbo,zF,zay,zI,zbp,zZ,zr,zad,zab,zbj,zbq,zbl,zaf,zbm,zas,zac,zG,zw,zu,za8,zp,zaB,zJ,zag,zE,zak,zx,zC,zai,zY,zbk,zL,zae,zK,zaw,zH,zax,zv,zar,zA,zo,zD,zm,zaC,zh,zl,zaz,zN,zM,zaA,zbt,zah,zg,zn,tBr,brN,zB,zy,zz,zaj,zt,zam,zbn,zan,zap,zao,zbr,zat]
  have told:∀ x y z,Wf 36 10 x→Wf 36 10 y→Wf 36 10 z→zaX 60 x y z→cnt x+cnt y+cnt z≤900→∀ R:Res→Prop,R (.val (.bl true))→zcx [trD x,trD y,trD z] R:=fun x y z h1 h2 h3 h4 h5 R h=>⟨x,y,z,36,rfl,h1,h2,h3,by omega,h4,h5,h⟩
  refine ⟨_,[],⟨rfl,rfl⟩,rfl,?_⟩
  refine told f a b f10 a10 b10 th (by omega) _ (.inr ⟨rfl,?_⟩)
  refine told f b a f10 b10 a10 th.swap (by omega) _ (.inr ⟨rfl,?_⟩)
  refine told b f a b10 f10 a10 (zaX.rot th) (by omega) _ (.inr ⟨rfl,?_⟩)
  exact told a b f a10 b10 f10 (zaX.rot (zaX.rot th)) (by omega) _ hq
end
end K83
namespace PL
open PySem L2
def Dn (K:PySem.W.Frag) (x:Str) (st:Stmt):Prop:=∃ f fd,Fun K x x st f fd∧PySem.W.nsIn K mainGlobals x=some (some (.ref f))
section
variable {K:PySem.W.Frag} {x:Str} {st:Stmt}
theorem Dn.mk {f:Addr} {oc:Value} {od an:Option Addr} {osl:Array (Option Value)} {kV doc pm cdv ct:Value} (a:PySem.W.nsIn K mainGlobals x=some (some (.ref f))) (l:K.lookup f=some ⟨oc,od,.func (PySem.W.fnOf x x (zc8 st) (zbL st) (zj st) .none kV doc pm an cdv ct),osl⟩) (c:PySem.W.codeIn K cdv x=true) (k:PySem.W.keepIn K (.ref f)=true):Dn K x st:=⟨f,_,zne l c k,a⟩
theorem Dn.df {h:Heap} {mg:Str→Option Value} (D:Dn K x st) (X:K.In h) (G:h.Ns mainGlobals mg) (ps:List Str) (hb:∀ (kV doc pm:Value) (an:Option Addr) (cdv ct:Value) (us:List Value),us.length=ps.length→bindArgs (PySem.W.fnOf x x (zc8 st) (zbL st) (zj st) .none kV doc pm an cdv ct) ⟨us,[]⟩=pure (ps.zip us)):Df K mg x st ps:=by
  obtain ⟨f,fd,F,a⟩:=D; exact ⟨f,fd,F,F.binds hb,PySem.W.mg_of X G a⟩
end
end PL
namespace K83
open PySem L2 Lb PL MT M04 MS M70 M71 M81 M73 M72 M82 M83 M84 M85
section
variable {P:Program} {w:World} {K:PySem.W.Frag} {mg:Str→Option Value} {base:Heap}
end
theorem all_mk {l:PySem.W.OpenLaw} {w:World} {K:PySem.W.Frag} {h:Heap} {mg:Str→Option Value} {fa f28  :Addr} (X:K.In h) (G:h.Ns mainGlobals mg) (hfa:mg "law"=some (.ref fa))
    {od28 an28:Option Addr} {sl28:Array (Option Value)} {oc28 kV28 dc28 pm28 cd28 ct28:Value}
    {x1:Str} {t1:Tok}
    (D1:Dn K "figures_of" zcW)
    (D2:Dn K "kids_of_all" zcG)
    (D3:Dn K "kid_with" zdT)
    (D4:Dn K "settled" zeA)
    (D5:Dn K "_law_rank" zdQ)
    (D6:Dn K "_law_mix" zeB)
    (D7:Dn K "_law_word" zda)
    (D8:Dn K "_law_label" zdu)
    (D9:Dn K "_law_at" zec)
    (D10:Dn K "_law_kid" zeC)
    (D11:Dn K "_law_words_due" zb8)
    (D12:Dn K "label_rank" zcT)
    (D13:Dn K "_law_words" zcF)
    (D14:Dn K "_law_kids" zdb)
    (D15:Dn K "_law_labels" zbS)
    (D16:Dn K "kid_labels" zcU)
    (D17:Dn K "_law_node" zdR)
    (D18:Dn K "_law_places" zcS)
    (D19:Dn K "_law_made" zdS)
    (D20:Dn K "_law_changed" zbW)
    (D21:Dn K "_law_tree" zdO)
    (D22:Dn K "_law_drafts" zcf)
    (D23:Dn K "_law_walk" zb2)
    (D24:Dn K "joined" zed)
    (D25:Dn K "together" zdN)
    (D26:Dn K "joined_kid" zcV)
    (D27:Dn K "_law_told" zdP)
    (a28:PySem.W.nsIn K mainGlobals "law"=some (some (.ref f28)))
    (l28:K.lookup f28=some ⟨oc28,od28,.func (PySem.W.fnOf "law" "law" (zc8 ze2) (zbL ze2) (zj ze2) .none kV28 dc28 pm28 an28 cd28 ct28),sl28⟩)
    (c28:PySem.W.codeIn K cd28 "law"=true)
    (k28:PySem.W.keepIn K (.ref f28)=true)
    (z1:PySem.W.nsIn K mainGlobals "int"=some none)
    (z2:PySem.W.nsIn K mainGlobals "isinstance"=some none)
    (z3:PySem.W.nsIn K mainGlobals "len"=some none)
    (z4:PySem.W.nsIn K mainGlobals "list"=some none)
    (z5:PySem.W.nsIn K mainGlobals "range"=some none)
    (z6:PySem.W.nsIn K mainGlobals "sorted"=some none)
    (z7:PySem.W.nsIn K mainGlobals "str"=some none)
    (z8:PySem.W.nsIn K mainGlobals "tuple"=some none)
    (g1:PySem.W.nsIn K mainGlobals "SMALL_LETTERS"=some (some (.str x1 t1)))
    (e1:x1=st zph)
    :
    ∃ fd:FuncData,(∀ (s:Shared) (v:Value),BindsTo s fd ⟨[v],[]⟩ [("_law_script",v)])∧∀ base:Heap,K.In base→base.Ns mainGlobals mg→FnOk l.prog w K mg base CX0 30 fa fd ["_law_script"] (zll K zha):=by
  subst e1
  have d1:=D1.df X G ["label"] fun _ _ _ _ _ _ us hl=>match us,hl with | [_],_=>rfl
  have d2:=D2.df X G ["nodes"] fun _ _ _ _ _ _ us hl=>match us,hl with | [_],_=>rfl
  have d3:=D3.df X G ["node","label"] fun _ _ _ _ _ _ us hl=>match us,hl with | [_,_],_=>rfl
  have d4:=D4.df X G ["first","one","other","place","clashes"] fun _ _ _ _ _ _ us hl=>match us,hl with | [_,_,_,_,_],_=>rfl
  have d5:=D5.df X G ["_law_label_here"] fun _ _ _ _ _ _ us hl=>match us,hl with | [_],_=>rfl
  have d6:=D6.df X G ["_law_cell","_law_factor"] fun _ _ _ _ _ _ us hl=>match us,hl with | [_,_],_=>rfl
  have d7:=D7.df X G ["_law_number"] fun _ _ _ _ _ _ us hl=>match us,hl with | [_],_=>rfl
  have d8:=D8.df X G ["_law_number"] fun _ _ _ _ _ _ us hl=>match us,hl with | [_],_=>rfl
  have d9:=D9.df X G ["_law_node_here","_law_place"] fun _ _ _ _ _ _ us hl=>match us,hl with | [_,_],_=>rfl
  have d10:=D10.df X G ["_law_node_here","_law_label_here"] fun _ _ _ _ _ _ us hl=>match us,hl with | [_,_],_=>rfl
  have d11:=D11.df X G ["_law_three"] fun _ _ _ _ _ _ us hl=>match us,hl with | [_],_=>rfl
  have d12:=D12.df X G ["label"] fun _ _ _ _ _ _ us hl=>match us,hl with | [_],_=>rfl
  have d13:=D13.df X G ["_law_number"] fun _ _ _ _ _ _ us hl=>match us,hl with | [_],_=>rfl
  have d14:=D14.df X G ["_law_kids_here"] fun _ _ _ _ _ _ us hl=>match us,hl with | [_],_=>rfl
  have d15:=D15.df X G ["_law_nodes"] fun _ _ _ _ _ _ us hl=>match us,hl with | [_],_=>rfl
  have d16:=D16.df X G ["nodes"] fun _ _ _ _ _ _ us hl=>match us,hl with | [_],_=>rfl
  have d17:=D17.df X G ["_law_number"] fun _ _ _ _ _ _ us hl=>match us,hl with | [_],_=>rfl
  have d18:=D18.df X G ["_law_node_here","_law_place"] fun _ _ _ _ _ _ us hl=>match us,hl with | [_,_],_=>rfl
  have d19:=D19.df X G ["_law_node_here","_law_place","_law_words_here","_law_kids_here"] fun _ _ _ _ _ _ us hl=>match us,hl with | [_,_,_,_],_=>rfl
  have d20:=D20.df X G ["_law_tree_here","_law_cell"] fun _ _ _ _ _ _ us hl=>match us,hl with | [_,_],_=>rfl
  have d21:=D21.df X G ["_law_cells"] fun _ _ _ _ _ _ us hl=>match us,hl with | [_],_=>rfl
  have d22:=D22.df X G ["_law_script"] fun _ _ _ _ _ _ us hl=>match us,hl with | [_],_=>rfl
  have d23:=D23.df X G ["_law_place","_law_three","_law_clashes"] fun _ _ _ _ _ _ us hl=>match us,hl with | [_,_,_],_=>rfl
  have d24:=D24.df X G ["first","one","other","place","clashes"] fun _ _ _ _ _ _ us hl=>match us,hl with | [_,_,_,_,_],_=>rfl
  have d25:=D25.df X G ["first","one","other"] fun _ _ _ _ _ _ us hl=>match us,hl with | [_,_,_],_=>rfl
  have d26:=D26.df X G ["three","place","clashes"] fun _ _ _ _ _ _ us hl=>match us,hl with | [_,_,_],_=>rfl
  have d27:=D27.df X G ["_law_first","_law_one","_law_other"] fun _ _ _ _ _ _ us hl=>match us,hl with | [_,_,_],_=>rfl
  have F28:=zne (st:=ze2) l28 c28 k28; have m28:=PySem.W.mg_of X G a28
  have b28:=F28.binds (ps:=["_law_script"]) fun _ _ _ _ _ _ us hl=>match us,hl with | [_],_=>rfl
  have d28:Df K mg "law" ze2 ["_law_script"]:=⟨f28,_,F28,b28,m28⟩
  have z_int:=PySem.W.mg_none_of X G z1; have z_isinstance:=PySem.W.mg_none_of X G z2; have z_len:=PySem.W.mg_none_of X G z3; have z_list:=PySem.W.mg_none_of X G z4; have z_range:=PySem.W.mg_none_of X G z5; have z_sorted:=PySem.W.mg_none_of X G z6; have z_str:=PySem.W.mg_none_of X G z7; have z_tuple:=PySem.W.mg_none_of X G z8; have g_SMALL_LETTERS:=PySem.W.mg_of X G g1; have e:=hfa.symm.trans m28; cases e
  refine ⟨PySem.W.fnOf "law" "law" (zc8 ze2) (zbL ze2) (zj ze2) .none kV28 dc28 pm28 an28 cd28 ct28,fun s v=>.of_eq rfl,fun base _ _=>?_⟩
  have G_figures_of:Fn l.prog w K mg base 1 "figures_of" ["label"] zbV:=zfY d1 g_SMALL_LETTERS
  have G_kids_of_all:Fn l.prog w K mg base 1 "kids_of_all" ["nodes"] zbP:=ze5 d2 
  have G_kid_with:Fn l.prog w K mg base 1 "kid_with" ["node","label"] zbI:=zhw d3 
  have G_settled:FnM l.prog w K mg base 1 "settled" ["first","one","other","place","clashes"] 4 zcn:=zi5 d4 
  have G_law_rank:Fn l.prog w K mg base 1 "_law_rank" ["_law_label_here"] zby:=zhs d5 z_int z_len
  have G_law_mix:Fn l.prog w K mg base 1 "_law_mix" ["_law_cell","_law_factor"] zco:=zi6 d6 
  have G_law_word:Fn l.prog w K mg base 1 "_law_word" ["_law_number"] zbH:=zho d7 z_range
  have G_law_label:Fn l.prog w K mg base 1 "_law_label" ["_law_number"] zce:=zgz d8 z_str
  have G_law_at:Fn l.prog w K mg base 1 "_law_at" ["_law_node_here","_law_place"] zdA:=zkb d9 
  have G_law_kid:Fn l.prog w K mg base 1 "_law_kid" ["_law_node_here","_law_label_here"] zb1:=zi7 d10 
  have G_law_words_due:Fn l.prog w K mg base 1 "_law_words_due" ["_law_three"] zbx:=zd9 d11 
  have G_label_rank:Fn l.prog w K mg base 2 "label_rank" ["label"] zbU:=zfV d12 G_figures_of z_int z_len
  have G_law_words:Fn l.prog w K mg base 2 "_law_words" ["_law_number"] zaS:=zgy d13 G_law_word z_range z_tuple
  have G_law_kids:Fn l.prog w K mg base 4 "_law_kids" ["_law_kids_here"] zb4:=zhv d14 G_law_rank z_sorted z_tuple
  have G_law_labels:Fn l.prog w K mg base 4 "_law_labels" ["_law_nodes"] zcy:=zfT d15 G_law_rank z_sorted
  have G_kid_labels:Fn l.prog w K mg base 5 "kid_labels" ["nodes"] zcA:=zfW d16 G_label_rank G_kids_of_all z_list z_sorted
  have G_law_node:Fn l.prog w K mg base 5 "_law_node" ["_law_number"] zdq:=zht d17 G_law_words G_law_label G_law_kids
  have G_law_places:Fn l.prog w K mg base 11 "_law_places" ["_law_node_here","_law_place"] (zbu 10):=zfS d18  10
  have G_law_made:Fn l.prog w K mg base 11 "_law_made" ["_law_node_here","_law_place","_law_words_here","_law_kids_here"] (zaN 10):=zhu d19 z_tuple 10
  have G_law_changed:Fn l.prog w K mg base 12 "_law_changed" ["_law_tree_here","_law_cell"] za1:=ze4 d20 G_law_mix G_law_words G_law_kids G_law_node G_law_places G_law_at G_law_made z_len z_tuple
  have G_law_tree:Fn l.prog w K mg base 13 "_law_tree" ["_law_cells"] zdp:=zhq d21 G_law_changed
  have G_law_drafts:Fn l.prog w K mg base 14 "_law_drafts" ["_law_script"] zcz:=zfU d22 G_law_mix G_law_changed G_law_tree
  have G_law_walk:FnM l.prog w K mg base 15 "_law_walk" ["_law_place","_law_three","_law_clashes"] 2 (zb3 10):=zhp d23 G_law_kid G_law_labels G_law_words_due z_tuple 10
  have S_joined_kid:=zfX (P:=l.prog) (w:=w) (base:=base) d26 G_settled
  have G_joined:FnM l.prog w K mg base 27 "joined" ["first","one","other","place","clashes"] 4 (zcp 10):=zkc d24 G_kid_with G_kid_labels G_settled z_tuple S_joined_kid 10
  have G_together:Fn l.prog w K mg base 28 "together" ["first","one","other"] zcw:=zhn d25 G_joined z_len
  have G_law_told:Fn l.prog w K mg base 29 "_law_told" ["_law_first","_law_one","_law_other"] zcx:=zhr d27 G_together G_law_walk z_isinstance z_len z_list z_tuple
  have G_law:Fn l.prog w K mg base 30 "law" ["_law_script"] zmP:=zqs d28 G_law_drafts G_law_told
  exact zqB m28 l28 base G_law
end K83
namespace PySem.W.Fast
def tw6420866659680688941:=0
def tw11325878234182259004:=0
def tw2624304741982370968:=0
def tw18323876387478966690:=0
def tw17863506066231045132:=0
def tw10850359025598434705:=0
def tw10603170146487705494:=0
def tw6704519813685039626:=0
def tw327111703606756619:=0
def tw17944297773384322514:=0
def tw4545563497002006463:=0
def tw14463776668909901306:=0
def tw2564594707628510358:=0
def tw13464764039072090169:=0
def tw16454885925515937331:=0
def tw1326491000203009669:=0
def tw13217079795179504337:=0
def tw5744064517475207599:=0
def tw3092489437972104326:=0
def tw8912317927902797745:=0
def tw9586748462844319655:=0
def tw4892416640684675545:=0
def tw3519623030656559119:=0
def tw6180045104677955983:=0
def tw8092464728198466206:=0
def tw3549548275109045214:=0
def tw1854384015927797154:=0
def tw7433378981339233775:=0
def tw16411905933995507057:=0
def tw17110061987443532870:=0
def tw1860954366097546615:=0
def tw16201058835049170226:=0
def tw1137609281293770219:=0
def tw1728433407133831375:=0
def tw18239187063993764202:=0
def tw16288314852968678186:=0
def tw12711935417789684647:=0
def tw16588385383856259443:=0
def tw15771256507269382785:=0
def tw17338871882837722577:=0
def tw8720871488256997308:=0
def tw6824776264710603685:=0
def tw12096322989769606906:=0
def tw3846630769399344969:=0
def tw3640637965583912194:=0
def tw15892178132197949858:=0
def tw11042907217169628634:=0
def tw11752143658745165978:=0
def tw1086566692530109065:=0
def tw11723343787180781377:=0
def tw1242517768904248562:=0
def tw14231407514003586389:=0
def tw2202821452727728842:=0
def tw8434716722997783189:=0
def tw1384062432360556689:=0
def tw2369121005126817707:=0
def tw5083253665746419253:=0
def tw16482656680099342695:=0
def tw8642483474292218262:=0
def tw10056087875205950984:=0
def tw4528786127451404911:=0
def tw1214996890205456707:=0
def tw7420791073483699580:=0
def tw11089688047755918011:=0
def tw1332140994526244672:=0
def tw15632766327641990081:=0
def tw17239561013935320243:=0
def tw6392167504727788632:=0
def tw15663364541467128951:=0
def tw7366295646653504469:=0
def tw12945227949506948660:=0
def tw15153532111685410088:=0
def tw8232354092375309140:=0
def tw129069223711685252:=0
def tw17498689463512409006:=0
def tw6603116501093089810:=0
def tw7985956576391733721:=0
def tw14244391708291150849:=0
def tw13342787229416402873:=0
def tw15554387264427528871:=0
def tw10523471952361500423:=0
def tw15207624685579504232:=0
def tw3257339816634357954:=0
def tw16675025295164472773:=0
def tw14515138580731527972:=0
def tw3387450904694069210:=0
def tw13592059867702637414:=0
def tw8452217437848937121:=0
def tw15601623833331265744:=0
def tw10919171810602552654:=0
def tw5305483632583247067:=0
def tw1109588393153745908:=0
def tw10988528706929134344:=0
def tw5058241806710092971:=0
def tw8829605669118256924:=0
def tw8596915169096163649:=0
def tw3253958955357294054:=0
def tw5789030163794709420:=0
def tw11619687266429352308:=0
def tw8939532212007506919:=0
def tw6868605175514259487:=0
def tw18097274197924369253:=0
def tw14931224938921145726:=0
def tw4909496732171149738:=0
def tw1248685511144298651:=0
def tw16764474111852238300:=0
def tw12761056499143172688:=0
def tw15774200517464690895:=0
def tw10903731122098560138:=0
def tw12339511821260997734:=0
def tw4896647593425374958:=0
def tw4771451631046260086:=0
def tw2173382387792418100:=0
def tw4711378894497320173:=0
def tw3202424592967498446:=0
def tw3860975954409136719:=0
def tw6822603935859873952:=0
def tw12876284944076324739:=0
def tw7495797168747957874:=0
def tw13805997853452091378:=0
def tw14947292319480601724:=0
def tw9158019154788374797:=0
def tw8325143070239941787:=0
def tw8663566181072093404:=0
def tw2887068827884295803:=0
def tw13150406859528365315:=0
def tw10073765011535208831:=0
def tw7714460696558275446:=0
def tw12360639567871068194:=0
def tw13432284394017519739:=0
def tw6563178689194713345:=0
def tw14595446394554648575:=0
def tw6322020791393943589:=0
def tw2110110380709444285:=0
def tw12892106019997962250:=0
def tw5478738896351330572:=0
def tw1582821894802578708:=0
def tw9608536442289552731:=0
def tw17592914069153524113:=0
def tw11708423206909908417:=0
def tw15437838825937243063:=0
def tw15220146823737055036:=0
def tw3785798231615507417:=0
def tw8597047255897276764:=0
def tw12556197376938760037:=0
def tw12234657063869742025:=0
def tw1925955474314843870:=0
def tw14692112404901088766:=0
def tw10851721352914591834:=0
def tw9529630119465125501:=0
def tw5078759825233954022:=0
def tw11218807037484808256:=0
def tw13054238339100482036:=0
def tw2630730626376160945:=0
def tw1616949080472096961:=0
def tw7632684308868535301:=0
def tw8323131267109709383:=0
def tw13096021820116449656:=0
def tw3005757054373791086:=0
def tw13665755987409798011:=0
def tw4175805102012715341:=0
def tw9011630270548145424:=0
def tw2290323212775857959:=0
def tw13370077006919775359:=0
def tw1697805055502715613:=0
def tw13838544764812759264:=0
def tw13897386304768515186:=0
def tw11337056651933588681:=0
def tw8463589605467479864:=0
def tw11661034725207831747:=0
end PySem.W.Fast
open PySem PySem.W PyProof.Rows
set_option maxRecDepth 100000 in
set_option maxHeartbeats 0 in
theorem PySem.Challenge.cw_codemend_k83_place_by_place_holds : PySem.Challenge.rw_codemend_k83_place_by_place.Holds := by
  w_on; o_law; k_head; (case hw=>w_witness2)
  k_fill
  refine PL.walk_law (l:=PySem.Challenge.rw_codemend_k83_place_by_place) (k:=30) (x:="_law_script") rfl rfl ⟨rfl,by decide,by decide⟩ (fun w h Y=>PySem.W.kIn_of Y) ?F
  case F =>
    intro w mg fa h KX G hmg
    refine' K83.all_mk KX G hmg ?D1 ?D2 ?D3 ?D4 ?D5 ?D6 ?D7 ?D8 ?D9 ?D10 ?D11 ?D12 ?D13 ?D14 ?D15 ?D16 ?D17 ?D18 ?D19 ?D20 ?D21 ?D22 ?D23 ?D24 ?D25 ?D26 ?D27 ?a28 ?l28 ?c28 ?k28 ?z1 ?z2 ?z3 ?z4 ?z5 ?z6 ?z7 ?z8 ?g1 ?e1
    (case D1=>apply PL.Dn.mk <;> k_is)
    (case D2=>apply PL.Dn.mk <;> k_is)
    (case D3=>apply PL.Dn.mk <;> k_is)
    (case D4=>apply PL.Dn.mk <;> k_is)
    (case D5=>apply PL.Dn.mk <;> k_is)
    (case D6=>apply PL.Dn.mk <;> k_is)
    (case D7=>apply PL.Dn.mk <;> k_is)
    (case D8=>apply PL.Dn.mk <;> k_is)
    (case D9=>apply PL.Dn.mk <;> k_is)
    (case D10=>apply PL.Dn.mk <;> k_is)
    (case D11=>apply PL.Dn.mk <;> k_is)
    (case D12=>apply PL.Dn.mk <;> k_is)
    (case D13=>apply PL.Dn.mk <;> k_is)
    (case D14=>apply PL.Dn.mk <;> k_is)
    (case D15=>apply PL.Dn.mk <;> k_is)
    (case D16=>apply PL.Dn.mk <;> k_is)
    (case D17=>apply PL.Dn.mk <;> k_is)
    (case D18=>apply PL.Dn.mk <;> k_is)
    (case D19=>apply PL.Dn.mk <;> k_is)
    (case D20=>apply PL.Dn.mk <;> k_is)
    (case D21=>apply PL.Dn.mk <;> k_is)
    (case D22=>apply PL.Dn.mk <;> k_is)
    (case D23=>apply PL.Dn.mk <;> k_is)
    (case D24=>apply PL.Dn.mk <;> k_is)
    (case D25=>apply PL.Dn.mk <;> k_is)
    (case D26=>apply PL.Dn.mk <;> k_is)
    (case D27=>apply PL.Dn.mk <;> k_is)
    (case a28=>k_is)
    (case l28=>k_is)
    (case c28=>k_is)
    (case k28=>k_is)
    (case z1=>k_is)
    (case z2=>k_is)
    (case z3=>k_is)
    (case z4=>k_is)
    (case z5=>k_is)
    (case z6=>k_is)
    (case z7=>k_is)
    (case z8=>k_is)
    (case g1=>k_is)
    (case e1=>decide +kernel)
