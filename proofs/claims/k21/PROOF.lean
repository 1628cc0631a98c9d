import PyProof.Rows.All
import Wide.All
import OpenK.AllK
import Wide.FinOn
import Lean
import PyProof.EqAt
import PyProof.EqKinds
import PyProof.TupleCall
import KE.KRevIter
import KE.KDictList
import KE.KDictLaws
import PyProof.MinMaxWalk
import PyProof.WalkInts
import PySem.Challenge.RW_busyweb_k21_rest_flows_by_trial
set_option Elab.async false
set_option linter.all false
set_option maxRecDepth 100000
namespace L2
open PySem PySem.Spec PyProof.Rows
abbrev Key:=Sum Int Str
def keyIs:Key→Value→Bool
  | .inl k,v=>Value.isInt k v
  | .inr x,v=>Value.isStrOf x v
def keyH (w:World):Key→Int
  | .inl k=>hashInt k
  | .inr x=>hashStr w x
theorem keyIs_shape:∀{k:Key} {v:Value},keyIs k v=true→(∃i t,k=Sum.inl i∧v=Value.int i t)∨(∃x t,k=Sum.inr x∧v=Value.str x t)
  | .inl i,v,h=>by
    obtain ⟨t,e⟩:=Value.isInt_shape (k:=i) (v:=v) h
    exact .inl ⟨i,t,rfl,e⟩
  | .inr x,v,h=>by
    obtain ⟨t,e⟩:=Value.isStrOf_shape (x:=x) (v:=v) h
    exact .inr ⟨x,t,rfl,e⟩
theorem keyIs_int (i:Int) (t:Tok):keyIs (.inl i) (.int i t)=true:=by simp [keyIs,Value.isInt]
theorem keyIs_str (x:Str) (t:Tok):keyIs (.inr x) (.str x t)=true:=by simp [keyIs,Value.isStrOf]
theorem key_ll (a b:Int):decide ((Sum.inl a:Key)=Sum.inl b)=(a==b):=by
  by_cases e:a=b
  · subst e;simp
  · have h:¬(Sum.inl a:Key)=Sum.inl b:=fun q=>e (Sum.inl.inj q)
    rw [decide_eq_false h]
    exact (beq_eq_false_iff_ne.mpr e).symm
theorem key_rr (a b:Str):decide ((Sum.inr a:Key)=Sum.inr b)=decide (a=b):=by
  by_cases e:a=b
  · subst e;simp
  · have h:¬(Sum.inr a:Key)=Sum.inr b:=fun q=>e (Sum.inr.inj q)
    rw [decide_eq_false h,decide_eq_false e]
theorem key_lr (a:Int) (b:Str):decide ((Sum.inl a:Key)=Sum.inr b)=false:=decide_eq_false (fun q=>nomatch q)
theorem key_rl (a:Str) (b:Int):decide ((Sum.inr a:Key)=Sum.inl b)=false:=decide_eq_false (fun q=>nomatch q)
def mixKind (prog:Program) (w:World):PySem.KeyKind prog w Key where
  is:=keyIs
  hash:=keyH w
  inj:=fun v a b ha hb=>by
    rcases keyIs_shape ha with ⟨i,t,rfl,rfl⟩ | ⟨x,t,rfl,rfl⟩
    · rcases keyIs_shape hb with ⟨j,u,rfl,e⟩ | ⟨y,u,rfl,e⟩
      · injection e with e1 _;rw [e1]
      · exact nomatch e
    · rcases keyIs_shape hb with ⟨j,u,rfl,e⟩ | ⟨y,u,rfl,e⟩
      · exact nomatch e
      · injection e with e1 _;rw [e1]
  byValue:=fun k v h=>by
    rcases keyIs_shape h with ⟨i,t,rfl,rfl⟩ | ⟨x,t,rfl,rfl⟩<;>rfl
  pyHash:=fun hv h=>by
    rcases keyIs_shape hv with ⟨i,t,rfl,rfl⟩ | ⟨x,t,rfl,rfl⟩
    · exact wpAny_pyHash_int h
    · exact wpAny_pyHash_str h
  eqBool:=fun hu hv h=>by
    rcases keyIs_shape hu with ⟨i,t,rfl,rfl⟩ | ⟨x,t,rfl,rfl⟩
    · rcases keyIs_shape hv with ⟨j,u,rfl,rfl⟩ | ⟨y,u,rfl,rfl⟩
      · rw [key_ll] at h;exact wpAny_eqBool_int h
      · rw [key_lr] at h;exact SeqAt.EqAt.int_str i t y u _ _ _ _ h
    · rcases keyIs_shape hv with ⟨j,u,rfl,rfl⟩ | ⟨y,u,rfl,rfl⟩
      · rw [key_rl] at h;exact SeqAt.EqAt.str_int x t j u _ _ _ _ h
      · rw [key_rr] at h;exact wpAny_eqBool_str h
  «strs»:=fun k x t v h=>by
    rcases keyIs_shape h with ⟨i,u,rfl,e⟩ | ⟨y,u,rfl,e⟩
    · exact nomatch e
    · injection e with e1 _
      subst e1
      cases v<;>rfl
theorem mixKind_int (prog:Program) (w:World) (i:Int) (t:Tok):(mixKind prog w).is (.inl i) (.int i t)=true:=keyIs_int i t
theorem mixKind_str (prog:Program) (w:World) (x:Str) (t:Tok):(mixKind prog w).is (.inr x) (.str x t)=true:=keyIs_str x t
end L2
namespace L2
open PySem PySem.Spec PyProof.Rows
inductive V where
  | non | bl (b:Bool) | int (i:Int) | str (x:Str) | byt (b:Array UInt8) | flt (b:UInt64) | ref (a:Addr) | ty (n:String)
  deriving DecidableEq
def RelV:V→Value→Prop
  | .non,u=>u=Value.none
  | .bl b,u=>u=Value.bool b
  | .int i,u=>∃t,u=Value.int i t
  | .str x,u=>∃t,u=Value.str x t
  | .byt b,u=>∃t,u=Value.bytes b t
  | .flt b,u=>∃t,u=Value.float b t
  | .ref a,u=>u=Value.ref a
  | .ty n,u=>u=Value.type n
abbrev Vals:List V→List Value→Prop:=Paired RelV
theorem Vals.length {xs:List V} {us:List Value} (r:Vals xs us):xs.length=us.length:=Paired.length r
theorem Vals.get:∀{xs:List V} {us:List Value} {i:Nat} {x:V},Vals xs us→xs[i]?=some x→∃u,us[i]?=some u∧RelV x u
  | _,_,_,_,.nil,e=>by simp at e
  | _,_,0,_,.cons r _,e=>by simp at e;subst e;exact ⟨_,rfl,r⟩
  | _,_,i+1,x,.cons _ t,e=>by
    obtain ⟨u,h1,h2⟩:=Vals.get (i:=i) (x:=x) t (by simpa using e)
    exact ⟨u,by simpa using h1,h2⟩
theorem Vals.set {x:V} {u:Value} (r:RelV x u):∀{xs:List V} {us:List Value} (i:Nat),Vals xs us→Vals (xs.set i x) (us.set i u)
  | _,_,_,.nil=>.nil
  | _,_,0,.cons _ t=>.cons r t
  | _,_,i+1,.cons q t=>.cons q (Vals.set r i t)
theorem Vals.append:∀{xs ys:List V} {us ws:List Value},Vals xs us→Vals ys ws→Vals (xs++ys) (us++ws)
  | _,_,_,_,.nil,s=>s
  | _,_,_,_,.cons r t,s=>.cons r (Vals.append t s)
theorem Vals.take:∀{xs:List V} {us:List Value} (n:Nat),Vals xs us→Vals (xs.take n) (us.take n)
  | _,_,0,_=>.nil
  | _,_,_+1,.nil=>.nil
  | _,_,n+1,.cons r t=>.cons r (Vals.take n t)
theorem Vals.drop:∀{xs:List V} {us:List Value} (n:Nat),Vals xs us→Vals (xs.drop n) (us.drop n)
  | _,_,0,r=>r
  | _,_,_+1,.nil=>.nil
  | _,_,n+1,.cons _ t=>Vals.drop n t
def RelO:Option V→Option Value→Prop
  | some v,some u=>RelV v u
  | none,none=>True
  | _,_=>False
def KV {κ:Type}:List (κ×V)→List (κ×Value)→Prop:=Paired fun (p:κ×V) (q:κ×Value)=>p.1=q.1∧RelV p.2 q.2
def kV:Key→V
  | .inl i=>.int i
  | .inr x=>.str x
inductive HO where
  | lst (xs:List V)
  | tup (xs:List V)
  | dK (kvs:List (Key×V)) | dT (kvs:List (List Key×V))
  | set (S:Int→Bool) (n:Nat)
  | ins (C dx:Addr) (fs:List (Str×V))
  | own (x:Addr)
  | xd (fs:List (Str×V))
  | met (f x:Addr)
  | rng (lo hi:Int)
  | frz (o:Obj) (u:HO)
  | tbl (ps:Array Value)
  | ext (φ:Heap→Prop)
abbrev Hp:=Addr→Option HO
def upd (H:Hp) (a:Addr) (o:HO):Hp:=fun b=>if b=a then some o else H b
theorem upd_same {H:Hp} {a:Addr} {o:HO}:upd H a o a=some o:=by unfold upd;rw [if_pos rfl]
theorem upd_ne {H:Hp} {a b:Addr} {o:HO} (h:b≠a):upd H a o b=H b:=by unfold upd;rw [if_neg h]
theorem ne_of {H:Hp} {a b:Addr} {o u:HO} (h:H a=some o) (h':H b=some u) (d:o≠u):a≠b:=by
  intro e;subst e;rw [h] at h';exact d (Option.some.inj h')
theorem ne_of_none {H:Hp} {a b:Addr} {o:HO} (h:H a=some o) (h':H b=none):a≠b:=by
  intro e;subst e;rw [h] at h';cases h'
section
variable (P:Program) (w:World)
def ObjOk (H:Hp) (h:Heap) (a:Addr):HO→Prop
  | .lst xs=>xs.length≤sizeLine∧∃(its:List Value) (n:Nat),Vals xs its∧h.get? a=some {cls:=.type "list",data:=.seq its.toArray n}
  | .tup xs=>xs.length≤sizeLine∧∃its:List Value,Vals xs its∧IsTup h a its.toArray
  | .dK kvs=>kvs.length≤sizeLine∧(a==sysModules)=false∧∃vs,KV kvs vs∧h.DictOf (mixKind P w) a vs
  | .dT kvs=>kvs.length≤sizeLine∧(a==sysModules)=false∧∃xs:List (List Key×Addr×Value),
      Paired (fun (p:List Key×V) (q:List Key×Addr×Value)=>p.1=q.1∧H q.2.1=some (.tup (p.1.map kV))∧RelV p.2 q.2.2) kvs xs ∧
      ∃o es ep,h.get? a=some o∧o.ExactDict∧o.data=.dict es ep∧es.toList=xs.map (entryOfKey (tupleKind (mixKind P w)))∧(xs.map (·.1)).Nodup
  | .set S n=>h.SetOf (intKind P w) a S n
  | .ins C dx fs=>H dx=some (.own a)∧fs.length≤1000∧dx≠a∧h.get? a=some (PySem.W.instObj C dx) ∧
      ∃mA,h.Ns1 dx mA∧(∀f,RelO (fs.lookup f) (mA f))∧PySem.Within mA (fs.map (·.1))
  | .own _=>∃o,h.get? a=some o
  | .xd fs=>∃mA,h.Ns1 a mA∧∀f,RelO (fs.lookup f) (mA f)
  | .rng lo hi=>∃t u v,h.get? a=some {cls:=.type "range",data:=.fields #[.int lo t,.int hi u,.int 1 v]}
  | .frz o u=>h.get? a=some o∧ObjOk H h a u
  | .tbl ps=>h.get? a=some {cls:=.none,data:=.fields ps}
  | .met f x=>h.get? a=some (PySem.W.methodObj (.ref f) (.ref x))
  | .ext φ=>φ h∧(∃o,h.get? a=some o)∧∀h1 h2:Heap,φ h1→(∀o,h1.get? a=some o→h2.get? a=some o)→φ h2
def HOk (H:Hp) (h:Heap):Prop:=∀a o,H a=some o→ObjOk P w H h a o
end
section
variable {P:Program} {w:World} {H H':Hp} {h h':Heap} {a:Addr} {o:HO}
theorem ObjOk.lt (x:ObjOk P w H h a o):a<h.objs.size:=by
  cases o with
  | lst xs=>obtain ⟨_,_,_,_,e⟩:=x;exact Heap.lt_size e
  | tup xs=>obtain ⟨_,_,_,p⟩:=x;exact p.lt
  | dK kvs=>obtain ⟨_,_,_,_,o,_,_,e,_⟩:=x;exact Heap.lt_size e
  | dT kvs=>obtain ⟨_,_,_,_,o,_,_,e,_⟩:=x;exact Heap.lt_size e
  | set S n=>obtain ⟨o,_,_,_,e,_⟩:=x;exact Heap.lt_size e
  | ins C dx fs=>obtain ⟨_,_,_,e,_⟩:=x;exact Heap.lt_size e
  | own y=>obtain ⟨_,e⟩:=x;exact Heap.lt_size e
  | xd fs=>obtain ⟨_,⟨_,_,_,e,_⟩,_⟩:=x;exact Heap.lt_size e
  | rng lo hi=>obtain ⟨_,_,_,e⟩:=x;exact Heap.lt_size e
  | frz ob u=>obtain ⟨e,_⟩:=x;exact Heap.lt_size e
  | tbl ps=>exact Heap.lt_size (show h.get? a=some _ from x)
  | met f y=>exact Heap.lt_size (show h.get? a=some _ from x)
  | ext φ=>obtain ⟨_,⟨_,e⟩,_⟩:=x;exact Heap.lt_size e
theorem Paired.mapP {α β:Type} {F G:α→β→Prop}:∀{l₁:List α} {l₂:List β},Paired F l₁ l₂→(∀a b,F a b→G a b)→Paired G l₁ l₂
  | _,_,.nil,_=>.nil
  | _,_,.cons r t,f=>.cons (f _ _ r) (Paired.mapP t f)
theorem Paired.imp' {α β:Type} {F G:α→β→Prop} (f:∀a b,F a b→G a b) {l₁:List α} {l₂:List β} (r:Paired F l₁ l₂):Paired G l₁ l₂:=Paired.mapP r f
theorem ObjOk.stay (x:ObjOk P w H h a o) (k:∀b u,(b=a∨H b=some (.own a))→h.get? b=some u→h'.get? b=some u)
    (ho:∀b,H b=some (.own a)→H' b=some (.own a)) (ht:∀b xs,H b=some (.tup xs)→H' b=some (.tup xs)):ObjOk P w H' h' a o:=by
  induction o with
  | lst xs=>obtain ⟨z,its,n,r,e⟩:=x;exact ⟨z,its,n,r,k _ _ (.inl rfl) e⟩
  | tup xs=>obtain ⟨z,its,r,ob,e,c⟩:=x;exact ⟨z,its,r,ob,k _ _ (.inl rfl) e,c⟩
  | dK kvs=>obtain ⟨z,y,vs,r,ob,es,ep,e,c⟩:=x;exact ⟨z,y,vs,r,ob,es,ep,k _ _ (.inl rfl) e,c⟩
  | dT kvs =>
    obtain ⟨z,y,xs,r,ob,es,ep,e,c⟩:=x
    exact ⟨z,y,xs,Paired.mapP r fun p q z=>⟨z.1,ht _ _ z.2.1,z.2.2⟩,ob,es,ep,k _ _ (.inl rfl) e,c⟩
  | set S n=>obtain ⟨ob,es,ep,t,e,c⟩:=x;exact ⟨ob,es,ep,t,k _ _ (.inl rfl) e,c⟩
  | ins C dx fs =>
    obtain ⟨d,z,ne,e,mA,⟨od,es,ep,e2,c⟩,r⟩:=x
    exact ⟨ho _ d,z,ne,k _ _ (.inl rfl) e,mA,⟨od,es,ep,k _ _ (.inr d) e2,c⟩,r⟩
  | own y=>obtain ⟨ob,e⟩:=x;exact ⟨ob,k _ _ (.inl rfl) e⟩
  | xd fs=>obtain ⟨mA,⟨od,es,ep,e,c⟩,r⟩:=x;exact ⟨mA,⟨od,es,ep,k _ _ (.inl rfl) e,c⟩,r⟩
  | rng lo hi=>obtain ⟨t,u,v,e⟩:=x;exact ⟨t,u,v,k _ _ (.inl rfl) e⟩
  | frz ob u ih=>obtain ⟨e,q⟩:=x;exact ⟨k _ _ (.inl rfl) e,ih q⟩
  | tbl ps =>
    have e:h.get? a=some {cls:=.none,data:=.fields ps}:=x
    show h'.get? a=some {cls:=.none,data:=.fields ps}
    exact k a _ (.inl rfl) e
  | met f y =>
    have e:h.get? a=some (PySem.W.methodObj (.ref f) (.ref y)):=x
    show h'.get? a=some (PySem.W.methodObj (.ref f) (.ref y))
    exact k a _ (.inl rfl) e
  | ext φ=>obtain ⟨p,⟨o,e⟩,st⟩:=x;exact ⟨st _ _ p fun o q=>k _ _ (.inl rfl) q,⟨o,k _ _ (.inl rfl) e⟩,st⟩
theorem HOk.lt (x:HOk P w H h) (e:H a=some o):a<h.objs.size:=(x a o e).lt
theorem HOk.fresh (x:HOk P w H h) (e:h.objs.size≤a):H a=none:=by
  cases q:H a with
  | none=>rfl
  | some u=>exact absurd (Nat.lt_of_lt_of_le (x.lt q) e) (Nat.lt_irrefl _)
theorem HOk.kept (x:HOk P w H h) (k:∀b u,h.get? b=some u→h'.get? b=some u):HOk P w H h':=fun a o e =>
  (x a o e).stay (fun b u _ q=>k b u q) (fun _ q=>q) fun _ _ q=>q
theorem HOk.laid (x:HOk P w H h) (k:∀b u,h.get? b=some u→h'.get? b=some u) (hp:h.objs.size≤a) (new:ObjOk P w (upd H a o) h' a o):HOk P w (upd H a o) h':=fun b u e=>by
  have hn:=x.fresh hp
  by_cases hb:b=a
  · subst hb;rw [upd_same] at e;cases e;exact new
  · rw [upd_ne hb] at e
    exact (x b u e).stay (fun c v _ q=>k c v q) (fun c q=>by rw [upd_ne (ne_of_none q hn)];exact q) fun c xs q=>by rw [upd_ne (ne_of_none q hn)];exact q
end
def Rd (H:Hp) (a:Addr) (u:HO):Prop:=H a=some u∨∃o,H a=some (.frz o u)
theorem Rd.of {H:Hp} {a:Addr} {u:HO} (h:H a=some u):Rd H a u:=.inl h
theorem Rd.ok {P:Program} {w:World} {H:Hp} {h:Heap} {a:Addr} {u:HO} (r:Rd H a u) (x:HOk P w H h):ObjOk P w H h a u:=by
  rcases r with r | ⟨o,r⟩
  · exact x a u r
  · obtain ⟨_,q⟩:=x a _ r
    exact q
def Mut:Option HO→Prop
  | some (.lst _)=>True
  | some (.dK _)=>True
  | some (.dT _)=>True
  | some (.set _ _)=>True
  | some (.ins _ _ _)=>True
  | some (.ext _)=>True
  | _=>False
section
variable {P:Program} {w:World} {H:Hp} {h h':Heap} {x e:Addr} {o':HO}
theorem HOk.write (ok:HOk P w H h) (mu:Mut (H x)) (he:e=x∨H e=some (.own x)) (k:∀b u,b≠e→h.get? b=some u→h'.get? b=some u) (heo:∃u,h'.get? e=some u)
    (new:ObjOk P w (upd H x o') h' x o'):HOk P w (upd H x o') h':=fun b u q=>by
  have nown:∀c y,H c=some (.own y)→c≠x:=fun c y r z=>by subst z;rw [r] at mu;exact mu
  have ntup:∀c xs,H c=some (.tup xs)→c≠x:=fun c xs r z=>by subst z;rw [r] at mu;exact mu
  by_cases hb:b=x
  · subst hb;rw [upd_same] at q;cases q;exact new
  · rw [upd_ne hb] at q
    by_cases hbe:b=e
    · have q':H b=some (.own x):=by
        rcases he with z | z
        · exact absurd (hbe.trans z) hb
        · rw [hbe];exact z
      rw [q] at q';cases q'
      obtain ⟨v,hv⟩:=heo
      exact ⟨v,by rw [hbe];exact hv⟩
    · refine (ok b u q).stay (fun c v hc r=>k c v ?_ r) (fun c r=>by rw [upd_ne (nown c b r)];exact r) fun c xs r=>by rw [upd_ne (ntup c xs r)];exact r
      rcases hc with rfl | hc
      · exact hbe
      · rintro rfl
        rcases he with z | z
        · exact nown c b hc z
        · rw [hc] at z;cases z;exact hb rfl
end
structure Un (fs ex:List Addr) (H H':Hp) (h h':Heap):Prop where
  keep:∀b o,h.get? b=some o→H b=none→b∉fs→b∉ex→h'.get? b=some o
  slot:∀b o,h.get? b=some o→H b=none→b∈fs→b∉ex→∃sl,h'.get? b=some {o with slots:=sl}
  free:∀b o,h.get? b=some o→H b=none→b∉ex→H' b=none
  there:∀b o,h.get? b=some o→b∉ex→∃o',h'.get? b=some o'
  tups:∀b xs,H b=some (.tup xs)→H' b=some (.tup xs)
  frzs:∀b o u,H b=some (.frz o u)→H' b=some (.frz o u)
  tbls:∀b ps,H b=some (.tbl ps)→∃more,H' b=some (.tbl (ps++more))
section
variable {fs fs' ex ex':List Addr} {H H1 H2:Hp} {h h1 h2 h':Heap} {a x e:Addr} {o:HO}
theorem Un.any (u:Un fs ex H H1 h h1) {b:Addr} {ob:Obj} (q:h.get? b=some ob) (n:H b=none) (hx:b∉ex):∃sl,h1.get? b=some {ob with slots:=sl}:=by
  by_cases hb:b∈fs
  · exact u.slot b ob q n hb hx
  · exact ⟨ob.slots,u.keep b ob q n hb hx⟩
theorem Un.trans (a:Un fs ex H H1 h h1) (b:Un fs ex H1 H2 h1 h2):Un fs ex H H2 h h2 where
  keep:=fun c ob q n hc hx=>b.keep c ob (a.keep c ob q n hc hx) (a.free c ob q n hx) hc hx
  slot:=fun c ob q n hc hx=>by
    obtain ⟨sl,e1⟩:=a.slot c ob q n hc hx
    obtain ⟨sl',e2⟩:=b.slot c _ e1 (a.free c ob q n hx) hc hx
    exact ⟨sl',e2⟩
  free:=fun c ob q n hx=>by
    obtain ⟨o',e1⟩:=a.there c ob q hx
    exact b.free c o' e1 (a.free c ob q n hx) hx
  there:=fun c ob q hx=>by
    obtain ⟨o',e1⟩:=a.there c ob q hx
    exact b.there c o' e1 hx
  tups:=fun c xs q=>b.tups c xs (a.tups c xs q)
  frzs:=fun c ob xs q=>b.frzs c ob xs (a.frzs c ob xs q)
  tbls:=fun c ps q=>by
    obtain ⟨m1,e1⟩:=a.tbls c ps q
    obtain ⟨m2,e2⟩:=b.tbls c _ e1
    exact ⟨m1++m2,by rw [e2,Array.append_assoc]⟩
theorem Un.kept (k:∀b u,h.get? b=some u→h'.get? b=some u):Un fs ex H H h h' :=
  ⟨fun b ob q _ _ _=>k b ob q,fun b ob q _ _ _=>⟨ob.slots,k b ob q⟩,fun _ _ _ n _=>n,fun b ob q _=>⟨ob,k b ob q⟩,fun _ _ q=>q,fun _ _ _ q=>q,fun _ ps q=>⟨#[],by rw [q];simp⟩⟩
theorem Un.refl:Un fs ex H H h h:=Un.kept fun _ _ q=>q
theorem Un.laid (k:∀b u,h.get? b=some u→h'.get? b=some u) (hp:h.objs.size≤a) (hn:H a=none):Un fs ex H (upd H a o) h h' where
  keep:=fun b u q _ _ _=>k b u q
  slot:=fun b u q _ _ _=>⟨u.slots,k b u q⟩
  free:=fun b u q n _=>by rw [upd_ne (Nat.ne_of_lt (Nat.lt_of_lt_of_le (Heap.lt_size q) hp))];exact n
  there:=fun b u q _=>⟨u,k b u q⟩
  tups:=fun b xs q=>by rw [upd_ne (ne_of_none q hn)];exact q
  frzs:=fun b u xs q=>by rw [upd_ne (ne_of_none q hn)];exact q
  tbls:=fun b ps q=>⟨#[],by rw [upd_ne (ne_of_none q hn),q];simp⟩
theorem Un.write (mu:Mut (H x)) (he:e=x∨H e=some (.own x)) (k:∀b u,b≠e→h.get? b=some u→h'.get? b=some u) (heo:∃u,h'.get? e=some u):Un fs ex H (upd H x o) h h':=by
  have hx:∀b,H b=none→b≠x:=fun b n z=>by subst z;rw [n] at mu;exact mu
  have hb:∀b,H b=none→b≠e:=fun b n z=>by
    subst z
    rcases he with r | r
    · exact hx b n r
    · rw [n] at r;cases r
  have hm:∀b u,H b=some u→¬Mut (some u)→b≠x:=fun b u q nm z=>by subst z;rw [q] at mu;exact nm mu
  refine ⟨fun b u q n _ _=>k b u (hb b n) q,fun b u q n _ _=>⟨u.slots,k b u (hb b n) q⟩,fun b u q n _=>by rw [upd_ne (hx b n)];exact n,fun b u q _=>?_,
    fun b xs q=>by rw [upd_ne (hm b _ q fun z=>z)];exact q,fun b u xs q=>by rw [upd_ne (hm b _ q fun z=>z)];exact q,fun b ps q=>⟨#[],by rw [upd_ne (hm b _ q fun z=>z),q];simp⟩⟩
  by_cases hbe:b=e
  · subst hbe;exact heo
  · exact ⟨u,k b u hbe q⟩
theorem Un.mono (u:Un fs ex H H1 h h1) (hs:∀b∈fs,b∈fs') (hx:∀b∈ex,b∈ex'):Un fs' ex' H H1 h h1 :=
  ⟨fun b ob q n hb he=>u.keep b ob q n (fun z=>hb (hs b z)) fun z=>he (hx b z),fun _ _ q n _ he=>u.any q n fun z=>he (hx _ z),fun b ob q n he=>u.free b ob q n fun z=>he (hx b z),fun b ob q he=>u.there b ob q fun z=>he (hx b z),u.tups,u.frzs,u.tbls⟩
end
def trk (h:Heap) (H:Hp):List Addr:=(List.range h.objs.size).filter fun a=>(H a).isSome
def hidT (h:Heap) (H:Hp):Heap:=PySem.W.hideAll h (trk h H)
theorem hidT_size (h:Heap) (H:Hp):(hidT h H).objs.size=h.objs.size:=PySem.W.hideAll_size _ _
theorem hidT_get {h:Heap} {H:Hp} {b:Addr} {o:Obj} (e:h.get? b=some o) (n:H b=none):(hidT h H).get? b=some o :=
  PySem.W.hideAll_get _ e fun hm=>by
    have q:(H b).isSome=true:=(List.mem_filter.mp hm).2
    rw [n] at q;simp at q
theorem of_hidT {h:Heap} {H:Hp} {b:Addr} {o:Obj} (e:(hidT h H).get? b=some o):h.get? b=some o∧H b=none:=by
  have e':h.get? b=some o:=PySem.W.of_hideAll (trk h H) e
  refine ⟨e',?_⟩
  cases q:H b with
  | none=>rfl
  | some x =>
    have hm:b∈trk h H:=List.mem_filter.mpr ⟨List.mem_range.mpr (Heap.lt_size e'),by simp [q]⟩
    have z:(hidT h H).get? b=none:=PySem.W.hideAll_none (trk h H) hm
    rw [z] at e;cases e
def allNews (g h:Heap) (L:Addr):List (Addr×Obj):=(List.range h.objs.size).filterMap fun a=>if a=L∨(g.get? a).isSome=true then none else (h.get? a).map fun o=>(a,o)
def rest (g h:Heap) (L d:Addr):List (Addr×Obj):=(allNews g h L).filter fun p=>decide (p.1≠d)
end L2
namespace L2
open PySem PySem.Spec PyProof.Rows
structure Mod (K:PySem.W.Frag) (mg:Str→Option Value) (base:Heap):Prop where
  kin:K.In base
  glob:base.Ns mainGlobals mg
  blt:∃mb,base.Ns builtinsNs mb∧∀x:Str,x≠"__name__"→mb x=bootBuiltins x
  nolimit:base.NoLimit
structure Cx where
  prog:Program
  w:World
  K:PySem.W.Frag
  mg:Str→Option Value
  base:Heap
  A:Around
  N:List Str
  s₀:Shared
  H₀:Hp
  env:Env
  outer:List Env
  stack:List Env
  ex:List Addr
  fn:Str→Bool
  calm:Bool
  pn:List (Addr×Obj)
  xe:Value→Shared→Prop
def frs (l:List Env):List Addr:=l.filterMap (·.frame)
abbrev Cx.fs (X:Cx):List Addr:=frs X.outer
def Vis (sc:Scope) (x:Str):Prop:=sc.names.lookup x=some .local∨sc.names.lookup x=some .cell∨sc.names.lookup x=some .free
def Loc (sc:Scope) (x:Str):Prop:=sc.names.lookup x=some .local∨sc.names.lookup x=some .cell
def Look (env:Env) (h:Heap) (m:Str→Option Value) (x:Str) (u:Value):Prop :=
  (env.kindOf x=some .local∧m x=some u)∨((env.kindOf x=some .cell∨env.kindOf x=some .free)∧∃c,env.cells.lookup x=some c∧h.IsCell c (some u))
structure Cx.Ok (X:Cx):Prop where
  mod:Mod X.K X.mg X.base
  kind:X.env.scope.kind=.function
  glob:X.env.globals=mainGlobals
  blt:X.env.builtins=builtinsNs
  above:X.s₀.heap.objs.size≤X.env.locals
  inj:∀x y c,X.env.cells.lookup x=some c→X.env.cells.lookup y=some c→x=y
  has:∀x,(X.env.kindOf x=some .cell∨X.env.kindOf x=some .free)→∃c,X.env.cells.lookup x=some c
  cab:∀x c,X.fn x=true→X.env.cells.lookup x=some c→X.s₀.heap.objs.size≤c
  hd:X.calm=true→X.A.handled=none
  frames:X.A.frames=some X.stack
  stk:X.stack=X.outer∨(X.stack=X.env::X.outer∧X.env.frame=some X.env.locals)
  exf:∀b∈X.ex,b≠X.env.locals∧∀x c,X.env.cells.lookup x=some c→c≠b
  bs:∀b o,X.base.get? b=some o→X.s₀.heap.get? b=some o∧X.H₀ b=none
  bsz:X.base.objs.size≤X.s₀.heap.objs.size
  noex:∀b o,X.base.get? b=some o→b∉X.ex
  exfs:∀b∈X.ex,b∉X.fs
  funs:X.s₀.heap.FunFrames X.base X.outer
  frf:∀b∈X.fs,X.H₀ b=none
structure Inv (X:Cx) (pins:List (Addr×Obj)) (σ:List (Option V)) (H:Hp) (s:Shared):Prop where
  ok:X.Ok
  os:s.os=X.s₀.os
  bare:AllBare s.gens
  base:Un X.fs X.ex X.H₀ H X.s₀.heap s.heap
  loc:∃m,s.heap.Ns X.env.locals m∧∀(i:Nat) (x:Str) (v:V),X.N[i]?=some x→σ[i]?=some (some v)→Vis X.env.scope x→∃u,RelV v u∧Look X.env s.heap m x u
  cell:∀x c,X.env.cells.lookup x=some c→∃v,s.heap.IsCell c v
  free:H X.env.locals=none
  freeC:∀x c,X.env.cells.lookup x=some c→H c=none
  pin:∀p∈X.pn++pins,s.heap.get? p.1=some p.2∧H p.1=none∧p.1≠X.env.locals∧p.1∉X.fs∧∀v,p.2.data≠.cell v
  hok:HOk X.prog X.w H s.heap
  len:σ.length=X.N.length
section
variable {X:Cx} {pins:List (Addr×Obj)} {σ:List (Option V)} {H H':Hp} {s:Shared} {h':Heap}
theorem Cx.Ok.nofr (ok:X.Ok) {b:Addr} {o:Obj} (e:X.base.get? b=some o):b∉X.fs:=fun hb=>by
  have:=(ok.funs.mem hb).1
  rw [e] at this;cases this
theorem Inv.bs (I:Inv X pins σ H s):∀b o,X.base.get? b=some o→s.heap.get? b=some o∧H b=none:=fun b o e =>
  ⟨I.base.keep b o (I.ok.bs b o e).1 (I.ok.bs b o e).2 (I.ok.nofr e) (I.ok.noex b o e),I.base.free b o (I.ok.bs b o e).1 (I.ok.bs b o e).2 (I.ok.noex b o e)⟩
theorem Inv.bk (I:Inv X pins σ H s):∀b o,X.base.get? b=some o→s.heap.get? b=some o:=fun b o e=>(I.bs b o e).1
theorem Inv.mod (I:Inv X pins σ H s):Mod X.K X.mg X.base:=I.ok.mod
theorem Inv.kIn (I:Inv X pins σ H s):X.K.In s.heap:=I.ok.mod.kin.keeps I.bk
theorem Inv.nolimit (I:Inv X pins σ H s):s.heap.NoLimit:=I.ok.mod.nolimit.keeps I.bk
theorem Inv.fr (I:Inv X pins σ H s):∃m,Fr X.base X.env.locals s.heap m :=
  let ⟨m,hn,_⟩:=I.loc
  ⟨m,hn,I.bk,Nat.le_trans I.ok.bsz I.ok.above⟩
theorem Inv.lt (I:Inv X pins σ H s):X.env.locals<s.heap.objs.size:=let ⟨_,hn,_⟩:=I.loc;hn.lt
theorem Inv.sz (I:Inv X pins σ H s):X.s₀.heap.objs.size≤s.heap.objs.size:=Nat.le_trans I.ok.above (Nat.le_of_lt I.lt)
theorem Inv.nofs (I:Inv X pins σ H s) {a:Addr} (h:s.heap.objs.size≤a):a∉X.fs:=fun hb=>by
  obtain ⟨_,o,ho,_⟩:=I.ok.funs.mem hb
  exact absurd (Nat.lt_of_lt_of_le (Heap.lt_size ho) (Nat.le_trans I.sz h)) (Nat.lt_irrefl _)
theorem Inv.cne (I:Inv X pins σ H s):∀x c,X.env.cells.lookup x=some c→c≠X.env.locals:=fun x c e z=>by
  obtain ⟨v,o,ho,hd⟩:=I.cell x c e
  obtain ⟨m,⟨o',es,ep,ho',hd',_⟩,_⟩:=I.loc
  rw [z,ho'] at ho;cases ho;rw [hd'] at hd;cases hd
theorem Inv.funs (I:Inv X pins σ H s):s.heap.FunFrames X.base X.outer:=by
  have all:∀(l:List Env),(∀b∈frs l,b∈X.fs)→X.s₀.heap.FunFrames X.base l→s.heap.FunFrames X.base l:=by
    intro l
    induction l with
    | nil=>intro _ _;trivial
    | cons env r ih =>
      intro hs hl
      obtain ⟨hk,⟨L,o,hf,hn,ho,hd⟩,hr⟩:=hl
      have hL:L∈X.fs:=hs L (by unfold frs;rw [List.filterMap_cons,hf];exact List.mem_cons_self)
      obtain ⟨sl,e⟩:=I.base.slot L o ho (I.ok.frf L hL) hL fun z=>I.ok.exfs L z hL
      exact ⟨hk,⟨L,_,hf,hn,e,hd⟩,ih (fun b hb=>hs b (by unfold frs;rw [List.filterMap_cons,hf];exact List.mem_cons_of_mem _ hb)) hr⟩
  exact all X.outer (fun _ hb=>hb) I.ok.funs
theorem Inv.stack (I:Inv X pins σ H s):s.heap.FunFrames X.base X.stack:=by
  rcases I.ok.stk with e | ⟨e,hf⟩
  · rw [e];exact I.funs
  · rw [e]
    obtain ⟨m,hn,_⟩:=I.loc
    refine .cons (by rw [I.ok.kind];decide) hf hn ?_ I.funs
    exact Heap.get?_none_of_le (Nat.le_trans I.ok.bsz I.ok.above)
theorem Inv.stkSub (I:Inv X pins σ H s):∀b∈frs X.stack,b∈X.env.locals::X.fs:=fun b hb=>by
  rcases I.ok.stk with e | ⟨e,hf⟩
  · rw [e] at hb;exact List.mem_cons_of_mem _ hb
  · rw [e] at hb
    unfold frs at hb
    rw [List.filterMap_cons,hf] at hb
    exact hb
theorem Inv.stkFree (I:Inv X pins σ H s):∀b∈frs X.stack,H b=none:=fun b hb=>by
  rcases List.mem_cons.mp (I.stkSub b hb) with e | hb
  · rw [e];exact I.free
  · obtain ⟨_,o,ho,_⟩:=I.ok.funs.mem hb
    exact I.base.free b o ho (I.ok.frf b hb) fun z=>I.ok.exfs b z hb
theorem Inv.step {g':Array GenState} {t':Nat} {d':Drawn} {ch:List Addr} (I:Inv X pins σ H s)
    (hch:∀b∈ch,(b∈X.ex∨X.s₀.heap.objs.size≤b)∧b≠X.env.locals∧(∀x c,X.env.cells.lookup x=some c→c≠b)∧∀p∈X.pn++pins,p.1≠b)
    (keep:∀b o,b≠X.env.locals→b∉X.fs→b∉ch→s.heap.get? b=some o→H b=none→h'.get? b=some o)
    (slot:∀b o,b≠X.env.locals→b∈X.fs→b∉ch→s.heap.get? b=some o→H b=none→∃sl,h'.get? b=some {o with slots:=sl}) (free:∀b o,b∉ch→s.heap.get? b=some o→H b=none→H' b=none)
    (there:∀b o,b∉ch→s.heap.get? b=some o→∃o',h'.get? b=some o')
    (tups:∀b xs,H b=some (.tup xs)→H' b=some (.tup xs)) (frzs:∀b o u,H b=some (.frz o u)→H' b=some (.frz o u)) (tbls:∀b ps,H b=some (.tbl ps)→∃more,H' b=some (.tbl (ps++more)))
    (ns:∀m,s.heap.Ns X.env.locals m→h'.Ns X.env.locals m) (hok:HOk X.prog X.w H' h') (hg:AllBare g') :
    Inv X pins σ H' {s with heap:=h',gens:=g',drawn:=d',toks:=t'}:=by
  have neL:∀b o,X.s₀.heap.get? b=some o→b≠X.env.locals:=fun b o e=>Nat.ne_of_lt (Nat.lt_of_lt_of_le (Heap.lt_size e) I.ok.above)
  have neC:∀b o,X.s₀.heap.get? b=some o→b∉X.ex→b∉ch:=fun b o e hx hb=>by
    rcases (hch b hb).1 with z | z
    · exact hx z
    · exact absurd (Nat.lt_of_lt_of_le (Heap.lt_size e) z) (Nat.lt_irrefl _)
  have cellK:∀x c,X.env.cells.lookup x=some c→∀v,s.heap.IsCell c v→h'.IsCell c v:=fun x c e v ⟨o,ho,hd⟩=>by
    have nch:c∉ch:=fun z=>(hch c z).2.2.1 x c e rfl
    by_cases hc:c∈X.fs
    · obtain ⟨sl,q⟩:=slot c o (I.cne x c e) hc nch ho (I.freeC x c e)
      exact ⟨_,q,hd⟩
    · exact ⟨o,keep c o (I.cne x c e) hc nch ho (I.freeC x c e),hd⟩
  refine ⟨I.ok,I.os,hg,⟨fun b o e n hb hx=>?_,fun b o e n hb hx=>?_,fun b o e n hx=>?_,fun b o e hx=>?_,fun b xs e=>tups b xs (I.base.tups b xs e),fun b o xs e=>frzs b o xs (I.base.frzs b o xs e),fun b ps e=>?_⟩,?_,fun x c e=>?_,?_,fun x c e=>?_,fun p hp=>?_,hok,I.len⟩
  · exact keep b o (neL b o e) hb (neC b o e hx) (I.base.keep b o e n hb hx) (I.base.free b o e n hx)
  · obtain ⟨sl,e1⟩:=I.base.slot b o e n hb hx
    obtain ⟨sl',e2⟩:=slot b _ (neL b o e) hb (neC b o e hx) e1 (I.base.free b o e n hx)
    exact ⟨sl',e2⟩
  · obtain ⟨o',e1⟩:=I.base.there b o e hx
    exact free b o' (neC b o e hx) e1 (I.base.free b o e n hx)
  · obtain ⟨o',e1⟩:=I.base.there b o e hx
    exact there b o' (neC b o e hx) e1
  · obtain ⟨m1,e1⟩:=I.base.tbls b ps e
    obtain ⟨m2,e2⟩:=tbls b _ e1
    exact ⟨m1++m2,by rw [e2,Array.append_assoc]⟩
  · obtain ⟨m,hn,hl⟩:=I.loc
    refine ⟨m,ns m hn,fun i x v e1 e2 e3=>?_⟩
    obtain ⟨u,r,l⟩:=hl i x v e1 e2 e3
    refine ⟨u,r,?_⟩
    rcases l with l | ⟨k,c,e,z⟩
    · exact .inl l
    · exact .inr ⟨k,c,e,cellK x c e _ z⟩
  · obtain ⟨v,z⟩:=I.cell x c e
    exact ⟨v,cellK x c e v z⟩
  · obtain ⟨m,⟨o,_,_,ho,_⟩,_⟩:=I.loc
    exact free _ o (fun z=>(hch _ z).2.1 rfl) ho I.free
  · obtain ⟨v,o,ho,hd⟩:=I.cell x c e
    exact free c o (fun z=>(hch c z).2.2.1 x c e rfl) ho (I.freeC x c e)
  · obtain ⟨e,n,ne,nf,d⟩:=I.pin p hp
    have nch:p.1∉ch:=fun z=>(hch p.1 z).2.2.2 p hp rfl
    exact ⟨keep p.1 p.2 ne nf nch e n,free p.1 p.2 nch e n,ne,nf,d⟩
theorem Inv.un {t':Nat} (I:Inv X pins σ H s) (u:Un X.fs [] H H' s.heap h') (hok:HOk X.prog X.w H' h'):Inv X pins σ H' {s with heap:=h',toks:=t'}:=by
  obtain ⟨m,⟨o,es,ep,ho,r⟩,_⟩:=id I.loc
  obtain ⟨sl,hL⟩:=u.any ho I.free (by simp)
  exact I.step (g':=s.gens) (d':=s.drawn) (ch:=[]) (fun _ z=>nomatch z) (fun b o _ hb _ e n=>u.keep b o e n hb (by simp)) (fun b o _ hb _ e n=>u.slot b o e n hb (by simp)) (fun b o _ e n=>u.free b o e n (by simp)) (fun b o _ e=>u.there b o e (by simp)) u.tups u.frzs u.tbls (fun m' hm=>by
    obtain ⟨o',es',ep',ho',r'⟩:=hm
    rw [ho] at ho';cases ho'
    exact ⟨_,es',ep',hL,r'⟩) hok I.bare
theorem Inv.call {g':Array GenState} {t':Nat} {d':Drawn} {ch:List Addr} (I:Inv X pins σ H s) (u:Un (frs X.stack) ch H H' s.heap h') (hok:HOk X.prog X.w H' h') (hg:AllBare g')
    (hch:∀b∈ch,(b∈X.ex∨X.s₀.heap.objs.size≤b)∧b≠X.env.locals∧(∀x c,X.env.cells.lookup x=some c→c≠b)∧∀p∈X.pn++pins,p.1≠b) :
    Inv X pins σ H' {s with heap:=h',gens:=g',drawn:=d',toks:=t'}:=by
  obtain ⟨m,⟨o,es,ep,ho,r⟩,_⟩:=id I.loc
  obtain ⟨sl,hL⟩:=u.any ho I.free fun z=>(hch _ z).2.1 rfl
  exact I.step (ch:=ch) hch (fun b o hL hb hc e n=>u.keep b o e n (fun z=>(List.mem_cons.mp (I.stkSub b z)).elim hL hb) hc) (fun b o _ _ hc e n=>u.any e n hc) (fun b o hc e n=>u.free b o e n hc) (fun b o hc e=>u.there b o e hc) u.tups u.frzs u.tbls (fun m' hm=>by
    obtain ⟨o',es',ep',ho',r'⟩:=hm
    rw [ho] at ho';cases ho'
    exact ⟨_,es',ep',hL,r'⟩) hok hg
theorem Inv.turned {t':Nat} {it:Addr} (I:Inv X pins σ H s) (k:∀b o,b≠it→s.heap.get? b=some o→h'.get? b=some o) (hn:H it=none) (hL:it≠X.env.locals)
    (h1:it∈X.ex∨X.s₀.heap.objs.size≤it) (h2:∀x c,X.env.cells.lookup x=some c→c≠it) (h3:∀p∈X.pn++pins,p.1≠it):Inv X pins σ H {s with heap:=h',toks:=t'}:=by
  have nit:∀b u,H b=some u→b≠it:=fun b u e z=>by rw [z,hn] at e;cases e
  refine I.step (g':=s.gens) (d':=s.drawn) (ch:=[it]) (fun b hb=>?_) (fun b o _ _ hc e _=>k b o (fun z=>hc (by simp [z])) e) (fun b o _ _ hc e _=>⟨o.slots,k b o (fun z=>hc (by simp [z])) e⟩) (fun _ _ _ _ n=>n)
    (fun b o hc e=>⟨o,k b o (fun z=>hc (by simp [z])) e⟩) (fun _ _ e=>e) (fun _ _ _ e=>e) (fun b ps e=>⟨#[],by rw [e];simp⟩) (fun m hm=>?_) (fun b u e=>?_) I.bare
  · have e:b=it:=by simpa using hb
    subst e
    exact ⟨h1,hL,h2,h3⟩
  · obtain ⟨o,es,ep,ho,r⟩:=hm
    exact ⟨o,es,ep,k _ o (Ne.symm hL) ho,r⟩
  · refine (I.hok b u e).stay (fun c v hc q=>k c v ?_ q) (fun _ q=>q) fun _ _ q=>q
    rcases hc with z | z
    · rw [z];exact nit b u e
    · exact nit c _ z
theorem Inv.tok (I:Inv X pins σ H s) (t:Nat):Inv X pins σ H {s with toks:=t}:=I.un (h':=s.heap) (t':=t) Un.refl I.hok
theorem Inv.kept {t':Nat} (I:Inv X pins σ H s) (k:∀b u,s.heap.get? b=some u→h'.get? b=some u):Inv X pins σ H {s with heap:=h',toks:=t'}:=I.un (Un.kept k) (I.hok.kept k)
theorem Inv.laid {a:Addr} {o:HO} {t':Nat} (I:Inv X pins σ H s) (k:∀b u,s.heap.get? b=some u→h'.get? b=some u) (hp:s.heap.objs.size≤a) (new:ObjOk X.prog X.w (upd H a o) h' a o) :
    Inv X pins σ (upd H a o) {s with heap:=h',toks:=t'}:=I.un (Un.laid k hp (I.hok.fresh hp)) (I.hok.laid k hp new)
theorem Inv.write {x e:Addr} {o:HO} {t':Nat} (I:Inv X pins σ H s) (mu:Mut (H x)) (he:e=x∨H e=some (.own x)) (k:∀b u,b≠e→s.heap.get? b=some u→h'.get? b=some u) (heo:∃u,h'.get? e=some u)
    (new:ObjOk X.prog X.w (upd H x o) h' x o):Inv X pins σ (upd H x o) {s with heap:=h',toks:=t'}:=I.un (Un.write mu he k heo) (I.hok.write mu he k heo new)
theorem Inv.weak {σ':List (Option V)} (I:Inv X pins σ H s) (hl:σ'.length=σ.length) (w:∀(i:Nat) v,σ'[i]?=some (some v)→σ[i]?=some (some v)):Inv X pins σ' H s :=
  ⟨I.ok,I.os,I.bare,I.base,let ⟨m,hn,hl'⟩:=I.loc;⟨m,hn,fun i x v e1 e2 e3=>hl' i x v e1 (w i v e2) e3⟩,I.cell,I.free,I.freeC,I.pin,I.hok,hl.trans I.len⟩
theorem Inv.pins_of {pins':List (Addr×Obj)} (I:Inv X pins σ H s) (h:∀p∈pins',s.heap.get? p.1=some p.2∧H p.1=none∧p.1≠X.env.locals∧p.1∉X.fs∧∀v,p.2.data≠.cell v):Inv X pins' σ H s :=
  ⟨I.ok,I.os,I.bare,I.base,I.loc,I.cell,I.free,I.freeC,fun p hp=>(List.mem_append.mp hp).elim (fun z=>I.pin p (List.mem_append_left _ z)) (h p),I.hok,I.len⟩
theorem nodup_ix {N:List Str} (hN:N.Nodup) {i j:Nat} {x:Str} (a:N[i]?=some x) (b:N[j]?=some x):i=j:=by
  obtain ⟨h1,e1⟩:=List.getElem?_eq_some_iff.mp a
  obtain ⟨h2,e2⟩:=List.getElem?_eq_some_iff.mp b
  exact (List.getElem_inj hN).mp (e1.trans e2.symm)
theorem store_ok2 {M:Model} {A:Around} {E:Value→Shared→Prop} {i:Nat} {x:Str} {v:V} {u:Value} {Q:Unit→Shared→Prop} (I:Inv X pins σ H s) (hN:X.N.Nodup) (hi:X.N[i]?=some x) (hx:Loc X.env.scope x) (r:RelV v u)
    (h:∀s',Inv X pins (σ.set i (some v)) H s'→(∃a,Heap.SameBut a s.heap s'.heap∧(a=X.env.locals∨X.env.cells.lookup x=some a))→Q () s') (hf:X.fn x=true∨X.env.scope.names.lookup x=some .local:=by first | exact .inl rfl | exact .inr rfl | assumption):wpAny M A (storeName X.env x u) Q E s:=by
  obtain ⟨m,hn,hl⟩:=id I.loc
  have hcls:(X.env.scope.kind==.class||(X.env.scope.kind==.module&&X.env.locals != X.env.globals))=false:=by rw [I.ok.kind];rfl
  have hiσ:i<σ.length:=by rw [I.len];exact (List.getElem?_eq_some_iff.mp hi).1
  have cne:=I.cne
  have tracked:∀{a:Addr} {h':Heap},(∃o,s.heap.get? a=some o∧H a=none)→Heap.SameBut a s.heap h'→HOk X.prog X.w H h':=fun {a h'} ha hs b ob e=>by
    obtain ⟨_,_,hfree⟩:=ha
    refine (I.hok b ob e).stay (fun c w' hc q=>(hs.2 c ?_).trans q) (fun _ q=>q) fun _ _ q=>q
    rintro rfl
    rcases hc with rfl | hc
    · rw [hfree] at e;cases e
    · rw [hfree] at hc;cases hc
  rcases hx with hk | hk
  · refine wpAny_storeName_local hk hn (fun h' hn' hs=>?_) hcls
    obtain ⟨oL,_,_,hoL,_⟩:=id hn
    refine h _ ⟨I.ok,I.os,I.bare,⟨fun b o e n hb hx=>?_,fun b o e n hb hx=>?_,I.base.free,fun b o e hx=>?_,I.base.tups,I.base.frzs,I.base.tbls⟩,⟨_,hn',fun j y v' e1 e2 e3=>?_⟩,fun y c e=>?_,I.free,I.freeC,fun p hp=>?_,tracked ⟨oL,hoL,I.free⟩ hs,by simpa using I.len⟩ ⟨_,hs,.inl rfl⟩
    · exact (hs.2 b (Nat.ne_of_lt (Nat.lt_of_lt_of_le (Heap.lt_size e) I.ok.above))).trans (I.base.keep b o e n hb hx)
    · obtain ⟨sl,e1⟩:=I.base.slot b o e n hb hx
      exact ⟨sl,(hs.2 b (Nat.ne_of_lt (Nat.lt_of_lt_of_le (Heap.lt_size e) I.ok.above))).trans e1⟩
    · obtain ⟨o',e1⟩:=I.base.there b o e hx
      exact ⟨o',(hs.2 b (Nat.ne_of_lt (Nat.lt_of_lt_of_le (Heap.lt_size e) I.ok.above))).trans e1⟩
    · by_cases hj:j=i
      · subst hj
        rw [hi] at e1;cases e1
        rw [List.getElem?_set_self hiσ] at e2
        cases e2
        exact ⟨u,r,.inl ⟨hk,by simp⟩⟩
      · rw [List.getElem?_set_ne (Ne.symm hj)] at e2
        obtain ⟨u',r',q⟩:=hl j y v' e1 e2 e3
        refine ⟨u',r',?_⟩
        rcases q with ⟨k,e⟩ | ⟨k,c,e,z⟩
        · refine .inl ⟨k,?_⟩
          have:y≠x:=fun e=>hj (nodup_ix hN e1 (e▸hi))
          simp [this,e]
        · exact .inr ⟨k,c,e,z.sameBut hs (cne y c e)⟩
    · obtain ⟨w',z⟩:=I.cell y c e
      exact ⟨w',z.sameBut hs (cne y c e)⟩
    · obtain ⟨e,n,ne,nf,d⟩:=I.pin p hp
      exact ⟨(hs.2 p.1 ne).trans e,n,ne,nf,d⟩
  · have hfn:X.fn x=true:=by
      rcases hf with z | z
      · exact z
      · rw [z] at hk;cases hk
    obtain ⟨c,hc⟩:=I.ok.has x (.inl hk)
    obtain ⟨w',z⟩:=I.cell x c hc
    refine wpAny_storeName_cell I.ok.kind hk hc z (fun h' hc' hs=>?_)
    obtain ⟨oc,hoc,hocd⟩:=id z
    refine h {s with heap:=h'} ⟨I.ok,I.os,I.bare,⟨fun b o e n hb hx=>?_,fun b o e n hb hx=>?_,I.base.free,fun b o e hx=>?_,I.base.tups,I.base.frzs,I.base.tbls⟩,⟨m,hn.sameBut hs (Ne.symm (cne x c hc)),fun j y v' e1 e2 e3=>?_⟩,fun y c' e=>?_,I.free,I.freeC,fun p hp=>?_,tracked ⟨oc,hoc,I.freeC x c hc⟩ hs,by simpa using I.len⟩ ⟨c,hs,.inr hc⟩
    · exact (hs.2 b (Nat.ne_of_lt (Nat.lt_of_lt_of_le (Heap.lt_size e) (I.ok.cab x c hfn hc)))).trans (I.base.keep b o e n hb hx)
    · obtain ⟨sl,e1⟩:=I.base.slot b o e n hb hx
      exact ⟨sl,(hs.2 b (Nat.ne_of_lt (Nat.lt_of_lt_of_le (Heap.lt_size e) (I.ok.cab x c hfn hc)))).trans e1⟩
    · obtain ⟨o',e1⟩:=I.base.there b o e hx
      exact ⟨o',(hs.2 b (Nat.ne_of_lt (Nat.lt_of_lt_of_le (Heap.lt_size e) (I.ok.cab x c hfn hc)))).trans e1⟩
    · by_cases hj:j=i
      · subst hj
        rw [hi] at e1;cases e1
        rw [List.getElem?_set_self hiσ] at e2
        cases e2
        exact ⟨u,r,.inr ⟨.inl hk,c,hc,hc'⟩⟩
      · rw [List.getElem?_set_ne (Ne.symm hj)] at e2
        obtain ⟨u',r',q⟩:=hl j y v' e1 e2 e3
        refine ⟨u',r',?_⟩
        rcases q with q | ⟨k,c',e,z'⟩
        · exact .inl q
        · refine .inr ⟨k,c',e,z'.sameBut hs ?_⟩
          rintro rfl
          exact hj (nodup_ix hN e1 (I.ok.inj _ _ _ e hc▸hi))
    · by_cases hcc:c'=c
      · subst hcc;exact ⟨_,hc'⟩
      · obtain ⟨w2,z2⟩:=I.cell y c' e
        exact ⟨w2,z2.sameBut hs hcc⟩
    · obtain ⟨e,n,ne,nf,d⟩:=I.pin p hp
      refine ⟨(hs.2 p.1 ?_).trans e,n,ne,nf,d⟩
      intro q
      rw [q,hoc] at e
      have q':oc=p.2:=Option.some.inj e
      exact d w' (by rw [←q'];exact hocd)
theorem store_ok {M:Model} {A:Around} {E:Value→Shared→Prop} {i:Nat} {x:Str} {v:V} {u:Value} {Q:Unit→Shared→Prop} (I:Inv X pins σ H s) (hN:X.N.Nodup) (hi:X.N[i]?=some x) (hx:Loc X.env.scope x) (r:RelV v u)
    (h:∀s',Inv X pins (σ.set i (some v)) H s'→Q () s') (hf:X.fn x=true∨X.env.scope.names.lookup x=some .local:=by first | exact .inl rfl | exact .inr rfl | assumption):wpAny M A (storeName X.env x u) Q E s :=
  store_ok2 I hN hi hx r (fun s' I' _=>h s' I') hf
theorem Inv.call' {s':Shared} {ch:List Addr} (I:Inv X pins σ H s) (ho:s'.os=s.os) (u:Un (frs X.stack) ch H H' s.heap s'.heap) (hok:HOk X.prog X.w H' s'.heap) (hg:AllBare s'.gens)
    (hch:∀b∈ch,(b∈X.ex∨X.s₀.heap.objs.size≤b)∧b≠X.env.locals∧(∀x c,X.env.cells.lookup x=some c→c≠b)∧∀p∈X.pn++pins,p.1≠b):Inv X pins σ H' s':=by
  obtain ⟨h',g',d',t',o'⟩:=s'
  have e:o'=s.os:=ho
  subst e
  exact I.call (g':=g') (t':=t') (d':=d') u hok hg hch
end
abbrev XK:=Value→Option Addr→Hp→Prop
abbrev St:=List (Option V)
abbrev VK:=V→Hp→Prop
abbrev TE:=St→Hp→VK→Prop
abbrev TT:=St→Hp→(Bool→Hp→Prop)→Prop
abbrev TA:=St→Hp→(List V→Hp→Prop)→Prop
structure Ends where
  nx:St→Hp→Prop
  rt:VK
  bk:St→Hp→Prop:=fun _ _=>False
  ct:St→Hp→Prop:=fun _ _=>False
abbrev TS:=Ends→St→Hp→Prop
def EP (X:Cx) (pins:List (Addr×Obj)) (σ:St) (Q:VK) (u:Value) (s':Shared):Prop:=∃v H',Inv X pins σ H' s'∧RelV v u∧Q v H'
def TP (X:Cx) (pins:List (Addr×Obj)) (σ:St) (Q:Bool→Hp→Prop) (b:Bool) (s':Shared):Prop:=∃H',Inv X pins σ H' s'∧Q b H'
def AP (X:Cx) (pins:List (Addr×Obj)) (σ:St) (Q:List V→Hp→Prop) (us:List Value) (s':Shared):Prop:=∃vs H',Inv X pins σ H' s'∧Vals vs us∧Q vs H'
def SP (X:Cx) (pins:List (Addr×Obj)) (D:Ends) (f:Flow) (s':Shared):Prop :=
  match f with
  | .next=>∃σ' H',Inv X pins σ' H' s'∧D.nx σ' H'
  | .brk=>∃σ' H',Inv X pins σ' H' s'∧D.bk σ' H'
  | .cont=>∃σ' H',Inv X pins σ' H' s'∧D.ct σ' H'
  | .ret u=>∃v σ' H',Inv X pins σ' H' s'∧RelV v u∧D.rt v H'
def PE (X:Cx) (e:Expr) (t:TE):Prop :=
  ∀(pins:List (Addr×Obj)) (s:Shared) (σ:St) (H:Hp) (Q:VK),Inv X pins σ H s→t σ H Q→wpAny (model X.prog X.w) X.A (eval e X.env) (EP X pins σ Q) X.xe s
def PT (X:Cx) (e:Expr) (t:TT):Prop :=
  ∀(pins:List (Addr×Obj)) (s:Shared) (σ:St) (H:Hp) (Q:Bool→Hp→Prop),Inv X pins σ H s→t σ H Q→wpAny (model X.prog X.w) X.A (isTrue e X.env (eval e X.env)) (TP X pins σ Q) X.xe s
def PW (X:Cx) (e:Expr) (t:TT):Prop :=
  ∀(whole:Sem Value) (pins:List (Addr×Obj)) (s:Shared) (σ:St) (H:Hp) (Q:Bool→Hp→Prop),Inv X pins σ H s→t σ H Q→wpAny (model X.prog X.w) X.A (isTrue e X.env whole) (TP X pins σ Q) X.xe s
theorem PW.pt {X:Cx} {e:Expr} {t:TT} (h:PW X e t):PT X e t:=h _
def PA (X:Cx) (es:List Expr) (t:TA):Prop :=
  ∀(pos:Pos) (pins:List (Addr×Obj)) (s:Shared) (σ:St) (H:Hp) (Q:List V→Hp→Prop),Inv X pins σ H s→t σ H Q→wpAny (model X.prog X.w) X.A (spliced (backTo pos (starEach es X.env))) (AP X pins σ Q) X.xe s
def PS (X:Cx) (st:Stmt) (t:TS):Prop :=
  ∀(pins:List (Addr×Obj)) (s:Shared) (σ:St) (H:Hp) (D:Ends),Inv X pins σ H s→t D σ H→wpAny (model X.prog X.w) X.A (exec st X.env) (SP X pins D) X.xe s
def PSs (X:Cx) (st:List Stmt) (t:TS):Prop :=
  ∀(pins:List (Addr×Obj)) (s:Shared) (σ:St) (H:Hp) (D:Ends),Inv X pins σ H s→t D σ H→wpAny (model X.prog X.w) X.A (execs st X.env) (SP X pins D) X.xe s
theorem thn {α:Type} {t:Sem α} {Q Q':α→Shared→Prop} {M:Model} {A:Around} {E:Value→Shared→Prop} {s:Shared} (h:wpAny M A t Q E s) (hQ:∀a s,Q a s→Q' a s):wpAny M A t Q' E s:=wpAny_mono h hQ fun _ _ x=>x
end L2
namespace L2
open PySem PySem.Spec PyProof.Rows
section
variable {X:Cx}
def tVar (i:Nat):TE:=fun σ H Q=>∃v,σ[i]?=some (some v)∧Q v H
def tC (v:V):TE:=fun _ H Q=>Q v H
theorem pe_var {i:Nat} {x:Str} {pos:Pos} (hN:X.N[i]?=some x) (hv:Vis X.env.scope x) (hd:(x==("__debug__":Str))=false:=by decide) (hcd:(x==("__classdict__":Str))=false:=by decide):PE X (.Name x pos) (tVar i):=by
  intro pins s σ H Q I h
  obtain ⟨v,e,h⟩:=h
  obtain ⟨m,hn,hl⟩:=I.loc
  obtain ⟨u,r,l⟩:=hl i x v hN e hv
  have fin:EP X pins σ Q u s:=⟨v,H,I,r,h⟩
  rcases l with ⟨hk,hm⟩ | ⟨hk,c,hc,hcell⟩
  · exact wpAny_Name (wpAny_loadName_local I.ok.kind hk hn hm fin) hd
  · rcases hk with hk | hk
    · exact wpAny_Name (wpAny_loadName_cell I.ok.kind hk hc hcell fin) hd
    · exact wpAny_Name (wpAny_loadName_free I.ok.kind hk hc hcell fin hcd) hd
theorem pe_int {i j pos}:PE X (.Constant (.int i) j pos) (tC (.int i)):=fun _ _ _ H _ I h=>wpAny_Constant_int ⟨.int i,H,I.tok _,⟨_,rfl⟩,h⟩
theorem pe_bl {b j pos}:PE X (.Constant (.bool b) j pos) (tC (.bl b)):=fun _ _ _ H _ I h=>Constant_bool ⟨.bl b,H,I,rfl,h⟩
theorem pe_non {j pos}:PE X (.Constant .none j pos) (tC .non):=fun _ _ _ H _ I h=>Constant_none ⟨.non,H,I,rfl,h⟩
theorem pe_str {x j pos}:PE X (.Constant (.str x) j pos) (tC (.str x)):=fun _ _ _ H _ I h=>Calls.Constant_str ⟨.str x,H,I.tok _,⟨_,rfl⟩,h⟩
def Gl (X:Cx) (x:Str):Prop:=X.env.kindOf x=some .globalImplicit
theorem ld_glob {E:Value→Shared→Prop} {pins:List (Addr×Obj)} {s:Shared} {σ:St} {H:Hp} {x:Str} {u:Value} {pos:Pos} {Q:Value→Shared→Prop} (I:Inv X pins σ H s) (hg:Gl X x) (hm:X.mg x=some u) (h:Q u s)
    (hd:(x==("__debug__":Str))=false:=by decide):wpAny (model X.prog X.w) X.A (eval (.Name x pos) X.env) Q E s :=
  Calls.Name_function_global I.ok.kind hg (Calls.loadGlobal_global (by rw [I.ok.glob];exact I.mod.glob.keeps I.bk) hm h) hd
theorem ld_blt {E:Value→Shared→Prop} {pins:List (Addr×Obj)} {s:Shared} {σ:St} {H:Hp} {x:Str} {u:Value} {pos:Pos} {Q:Value→Shared→Prop} (I:Inv X pins σ H s) (hg:Gl X x) (hm:X.mg x=none) (hv:bootBuiltins x=some u) (h:Q u s)
    (hn:x≠"__name__":=by decide) (hd:(x==("__debug__":Str))=false:=by decide):wpAny (model X.prog X.w) X.A (eval (.Name x pos) X.env) Q E s:=by
  obtain ⟨mb,h1,h2⟩:=I.mod.blt
  exact Calls.Name_function_global I.ok.kind hg (Calls.loadGlobal_builtin (by rw [I.ok.glob];exact I.mod.glob.keeps I.bk) hm (by rw [I.ok.blt];exact h1.keeps I.bk) ((h2 x hn).trans hv) h) hd
theorem pe_glob {x:Str} {v:V} {u:Value} {pos:Pos} (hg:Gl X x) (hm:X.mg x=some u) (r:RelV v u) (hd:(x==("__debug__":Str))=false:=by decide):PE X (.Name x pos) (tC v) :=
  fun _ _ _ H _ I h=>ld_glob I hg hm ⟨v,H,I,r,h⟩ hd
theorem pe_bltn {x:Str} {v:V} {u:Value} {pos:Pos} (hg:Gl X x) (hm:X.mg x=none) (hv:bootBuiltins x=some u) (r:RelV v u) (hn:x≠"__name__":=by decide) (hd:(x==("__debug__":Str))=false:=by decide):PE X (.Name x pos) (tC v) :=
  fun _ _ _ H _ I h=>ld_blt I hg hm hv ⟨v,H,I,r,h⟩ hn hd
variable {a b:Expr} {ta tb:TE} {pos:Pos}
def PC (X:Cx) (op:CmpOp) (a b:Expr) (t:TE):Prop :=
  ∀(pins:List (Addr×Obj)) (s:Shared) (σ:St) (H:Hp) (Q:VK),Inv X pins σ H s→t σ H Q →
    wpAny (model X.prog X.w) X.A (eval a X.env) (fun v s₁=>wpAny (model X.prog X.w) X.A (eval b X.env) (fun u s₂=>wpAny (model X.prog X.w) X.A (compareOp op v u) (EP X pins σ Q) X.xe s₂) X.xe s₁) X.xe s
theorem nobehind (b:Expr) {op:CmpOp} (h:op≠.In) (h2:op≠.NotIn):behindInMarks op b=false:=by
  have e1:(op==CmpOp.In)=false:=by cases op<;>first | rfl | exact absurd rfl h
  have e2:(op==CmpOp.NotIn)=false:=by cases op<;>first | rfl | exact absurd rfl h2
  cases b<;>simp [behindInMarks,e1,e2]
def tB (t:TE):TT:=fun σ H Q=>t σ H fun x H1=>∃c,x=.bl c∧Q c H1
theorem pt_cmp {op:CmpOp} {t:TE} (h:PC X op a b t) (h1:behindInMarks op b=false:=by first | exact nobehind _ (by decide) (by decide) | rfl):PT X (.Compare a [op] [b] pos) (tB t):=by
  intro pins s σ H Q I hw
  refine wpAny_isTrue_Compare1 (thn (h pins s σ H _ I hw) fun v s1 h1=>thn h1 fun u s2 h2=>thn h2 fun c s3 ⟨x,H1,I1,r1,q1⟩=>?_) h1
  obtain ⟨d,rfl,q⟩:=q1
  cases r1
  exact wpAny_truthy_bool ⟨H1,I1,q⟩
theorem pt_val {e:Expr} {t:TE} (h:PE X e t) (he:∀whole,isTrue e X.env whole=(do let v ←whole;standAt e.pos;holding [v] (truthy v)):=by intro _;rfl):PT X e (tB t):=by
  intro pins s σ H Q I hw
  refine isTrue_plain (thn (h pins s σ H _ I hw) fun v s1 ⟨x,H1,I1,r1,q1⟩=>?_) (he _)
  obtain ⟨d,rfl,q⟩:=q1
  cases r1
  exact wpAny_truthy_bool ⟨H1,I1,q⟩
variable {tA tB':TT} {rest:List Expr}
def tAnd (t u:TT):TT:=fun σ H Q=>t σ H fun c H1=>if c=true then u σ H1 Q else Q false H1
def tOr (t u:TT):TT:=fun σ H Q=>t σ H fun c H1=>if c=true then Q true H1 else u σ H1 Q
def tNot (t:TT):TT:=fun σ H Q=>t σ H fun c H1=>Q (!c) H1
theorem pw_and1 (ha:PT X a tA):PW X (.BoolOp .And [a] pos) tA:=by
  intro wh pins s σ H Q I h
  refine isTrue_and (thn (ha pins s σ H Q I h) fun c s1 e=>?_)
  cases c with
  | true=>exact isTrue_and_nil e
  | false=>exact e
theorem pw_or1 (ha:PT X a tA):PW X (.BoolOp .Or [a] pos) tA:=by
  intro wh pins s σ H Q I h
  refine isTrue_or (thn (ha pins s σ H Q I h) fun c s1 e=>?_)
  cases c with
  | false=>exact isTrue_or_nil e
  | true=>exact e
theorem pw_and (ha:PT X a tA) (hb:PW X (.BoolOp .And (b::rest) pos) tB'):PW X (.BoolOp .And (a::b::rest) pos) (tAnd tA tB'):=by
  intro wh pins s σ H Q I h
  refine isTrue_and (thn (ha pins s σ H _ I h) fun c s1 ⟨H1,I1,q1⟩=>?_)
  cases c with
  | true=>exact hb wh pins s1 σ H1 Q I1 q1
  | false=>exact ⟨H1,I1,q1⟩
theorem pw_or (ha:PT X a tA) (hb:PW X (.BoolOp .Or (b::rest) pos) tB'):PW X (.BoolOp .Or (a::b::rest) pos) (tOr tA tB'):=by
  intro wh pins s σ H Q I h
  refine isTrue_or (thn (ha pins s σ H _ I h) fun c s1 ⟨H1,I1,q1⟩=>?_)
  cases c with
  | true=>exact ⟨H1,I1,q1⟩
  | false=>exact hb wh pins s1 σ H1 Q I1 q1
theorem pt_not (ha:PT X a tA):PT X (.UnaryOp .Not a pos) (tNot tA):=by
  intro pins s σ H Q I h
  exact isTrue_not (ha pins s σ H (fun c H1=>Q (!c) H1) I h)
def tAndV (ta tb:TE):TE:=fun σ H Q=>ta σ H fun x H1=>∃c,x=.bl c∧if c=true then tb σ H1 Q else Q (.bl false) H1
def tNotV (ta:TE):TE:=fun σ H Q=>ta σ H fun x H1=>∃c,x=.bl c∧Q (.bl (!c)) H1
theorem pe_one {op} {t:TE} (h:PE X a t):PE X (.BoolOp op [a] pos) t:=fun pins s σ H Q I hw=>BoolOp_one (h pins s σ H Q I hw)
theorem pe_and (ha:PE X a ta) (hb:PE X (.BoolOp .And (b::rest) pos) tb):PE X (.BoolOp .And (a::b::rest) pos) (tAndV ta tb):=by
  intro pins s σ H Q I h
  refine BoolOp_and (thn (ha pins s σ H _ I h) fun v s1 ⟨x,H1,I1,r1,q1⟩=>?_)
  obtain ⟨c,rfl,q1⟩:=q1
  cases r1
  refine wpAny_truthy_bool ?_
  cases c with
  | true=>exact hb pins s1 σ H1 Q I1 q1
  | false=>exact ⟨.bl false,H1,I1,rfl,q1⟩
theorem pe_not (ha:PE X a ta):PE X (.UnaryOp .Not a pos) (tNotV ta):=by
  intro pins s σ H Q I h
  refine UnaryOp_ (thn (ha pins s σ H _ I h) fun v s1 ⟨x,H1,I1,r1,q1⟩=>?_)
  obtain ⟨c,rfl,q1⟩:=q1
  cases r1
  exact not_of (wpAny_truthy_bool ⟨.bl (!c),H1,I1,rfl,q1⟩)
def tIf (t:TT) (ta tb:TE):TE:=fun σ H Q=>t σ H fun c H1=>if c=true then ta σ H1 Q else tb σ H1 Q
theorem pe_ifExp {c:Expr} (hc:PT X c tA) (ha:PE X a ta) (hb:PE X b tb):PE X (.IfExp c a b pos) (tIf tA ta tb):=by
  intro pins s σ H Q I h
  refine wpAny_IfExp (thn (hc pins s σ H _ I h) fun d s1 ⟨H1,I1,q1⟩=>?_)
  cases d with
  | true=>exact ha pins s1 σ H1 Q I1 q1
  | false=>exact hb pins s1 σ H1 Q I1 q1
end
end L2
namespace L2
open PySem PySem.Spec PyProof.Rows
def SqL (K:PySem.W.Frag) (H:Hp) (a:Addr) (xs:List V):Prop :=
  Rd H a (.lst xs) ∨
    ∃(o:Obj) (its:Array Value) (n:Nat),K.lookup a=some o∧o.cls=.type "list"∧o.dict=none∧o.data=.seq its n∧its.size≤sizeLine∧Vals xs its.toList
def SqT (K:PySem.W.Frag) (H:Hp) (a:Addr) (xs:List V):Prop :=
  Rd H a (.tup xs) ∨
    ∃(o:Obj) (its:Array Value) (n:Nat),K.lookup a=some o∧o.cls=.type "tuple"∧o.data=.seq its n∧its.size≤sizeLine∧Vals xs its.toList
def absV:Value→Option V
  | .none=>some .non
  | .bool b=>some (.bl b)
  | .int i _=>some (.int i)
  | .str x _=>some (.str x)
  | .bytes b _=>some (.byt b)
  | .float b _=>some (.flt b)
  | .ref a=>some (.ref a)
  | .type n=>some (.ty n)
  | _=>none
theorem RelV.abs {x:V} {u:Value} (r:RelV x u):absV u=some x:=by
  cases x with
  | non=>cases r;rfl
  | bl _=>cases r;rfl
  | int _=>obtain ⟨t,rfl⟩:=r;rfl
  | str _=>obtain ⟨t,rfl⟩:=r;rfl
  | byt _=>obtain ⟨t,rfl⟩:=r;rfl
  | flt _=>obtain ⟨t,rfl⟩:=r;rfl
  | ref _=>cases r;rfl
  | ty _=>cases r;rfl
theorem RelV.inj {x y:V} {u:Value} (r:RelV x u) (q:RelV y u):x=y:=Option.some.inj (r.abs.symm.trans q.abs)
theorem Vals.inj:∀{xs ys:List V} {us:List Value},Vals xs us→Vals ys us→xs=ys
  | _,_,_,.nil,.nil=>rfl
  | _,_,_,.cons r t,.cons r' t'=>by rw [r.inj r',Vals.inj t t']
section
variable {X:Cx} {pins:List (Addr×Obj)} {σ:St} {H:Hp} {s:Shared} {a:Addr} {xs ys:List V}
theorem SqL.of {K:PySem.W.Frag} (h:H a=some (.lst xs)):SqL K H a xs:=.inl (.inl h)
theorem SqT.of {K:PySem.W.Frag} (h:H a=some (.tup xs)):SqT K H a xs:=.inl (.inl h)
theorem Inv.list (I:Inv X pins σ H s) (h:SqL X.K H a xs):∃its:List Value,Vals xs its∧PlainL s.heap a its.toArray∧xs.length≤sizeLine:=by
  rcases h with h | ⟨o,its,n,hk,hc,hd,hs,hz,r⟩
  · obtain ⟨z,its,n,r,e⟩:=h.ok I.hok
    exact ⟨its,r,⟨_,n,e,rfl,rfl,rfl⟩,z⟩
  · refine ⟨its.toList,r,⟨o,n,I.kIn a o hk,hc,hd,by simpa using hs⟩,?_⟩
    have e:=r.length
    simp only [Array.length_toList] at e
    omega
theorem Inv.tuple (I:Inv X pins σ H s) (h:SqT X.K H a xs):∃its:List Value,Vals xs its∧IsTup s.heap a its.toArray∧xs.length≤sizeLine:=by
  rcases h with h | ⟨o,its,n,hk,hc,hs,hz,r⟩
  · obtain ⟨z,its,r,p⟩:=h.ok I.hok
    exact ⟨its,r,p,z⟩
  · refine ⟨its.toList,r,⟨o,I.kIn a o hk,hc,n,by simpa using hs⟩,?_⟩
    have e:=r.length
    simp only [Array.length_toList] at e
    omega
theorem Inv.list_inj (I:Inv X pins σ H s) (h:SqL X.K H a xs) (h':SqL X.K H a ys):xs=ys:=by
  obtain ⟨its,r,⟨o,n,e,_,_,d⟩,_⟩:=I.list h
  obtain ⟨its',r',⟨o',n',e',_,_,d'⟩,_⟩:=I.list h'
  rw [e] at e';cases e'
  rw [d] at d'
  injection d' with d1 _
  have:its=its':=by simpa using congrArg Array.toList d1
  subst this
  exact r.inj r'
theorem Inv.tuple_inj (I:Inv X pins σ H s) (h:SqT X.K H a xs) (h':SqT X.K H a ys):xs=ys:=by
  obtain ⟨its,r,⟨o,e,_,n,d⟩,_⟩:=I.tuple h
  obtain ⟨its',r',⟨o',e',_,n',d'⟩,_⟩:=I.tuple h'
  rw [e] at e';cases e'
  rw [d] at d'
  injection d' with d1 _
  have:its=its':=by simpa using congrArg Array.toList d1
  subst this
  exact r.inj r'
end
abbrev Cx.wish (X:Cx) (E:Value→Shared→Prop):Cx:={X with xe:=E}
abbrev Cx.nox (X:Cx):Cx:=X.wish fun _ _=>False
theorem Cx.Ok.wish {X:Cx} (ok:X.Ok) (E:Value→Shared→Prop):(X.wish E).Ok :=
  ⟨ok.mod,ok.kind,ok.glob,ok.blt,ok.above,ok.inj,ok.has,ok.cab,ok.hd,ok.frames,ok.stk,ok.exf,ok.bs,ok.bsz,ok.noex,ok.exfs,ok.funs,ok.frf⟩
theorem Cx.Ok.unwish {X:Cx} {E:Value→Shared→Prop} (ok:(X.wish E).Ok):X.Ok :=
  ⟨ok.mod,ok.kind,ok.glob,ok.blt,ok.above,ok.inj,ok.has,ok.cab,ok.hd,ok.frames,ok.stk,ok.exf,ok.bs,ok.bsz,ok.noex,ok.exfs,ok.funs,ok.frf⟩
section
variable {X:Cx} {pins:List (Addr×Obj)} {σ:St} {H:Hp} {s:Shared} {E:Value→Shared→Prop}
theorem Inv.wish (I:Inv X pins σ H s) (E:Value→Shared→Prop):Inv (X.wish E) pins σ H s:=⟨I.ok.wish E,I.os,I.bare,I.base,I.loc,I.cell,I.free,I.freeC,I.pin,I.hok,I.len⟩
theorem Inv.unwish (I:Inv (X.wish E) pins σ H s):Inv X pins σ H s:=⟨I.ok.unwish,I.os,I.bare,I.base,I.loc,I.cell,I.free,I.freeC,I.pin,I.hok,I.len⟩
theorem SP.unwish {D:Ends} {f:Flow} {s':Shared} (h:SP (X.wish E) pins D f s'):SP X pins D f s':=by
  cases f with
  | next=>obtain ⟨σ',H',I,q⟩:=h;exact ⟨σ',H',I.unwish,q⟩
  | brk=>obtain ⟨σ',H',I,q⟩:=h;exact ⟨σ',H',I.unwish,q⟩
  | cont=>obtain ⟨σ',H',I,q⟩:=h;exact ⟨σ',H',I.unwish,q⟩
  | ret u=>obtain ⟨v,σ',H',I,r,q⟩:=h;exact ⟨v,σ',H',I.unwish,r,q⟩
theorem PE.nox {e:Expr} {t:TE} (h:PE X.nox e t):PE X e t:=fun pins s σ H Q I hw =>
  wpAny_mono (h pins s σ H Q (I.wish _) hw) (fun _ _ ⟨v,H',I',r,q⟩=>⟨v,H',I'.unwish,r,q⟩) fun _ _ z=>False.elim z
theorem PT.nox {e:Expr} {t:TT} (h:PT X.nox e t):PT X e t:=fun pins s σ H Q I hw =>
  wpAny_mono (h pins s σ H Q (I.wish _) hw) (fun _ _ ⟨H',I',q⟩=>⟨H',I'.unwish,q⟩) fun _ _ z=>False.elim z
theorem PSs.nox {st:List Stmt} {t:TS} (h:PSs X.nox st t):PSs X st t:=fun pins s σ H D I hw =>
  wpAny_mono (h pins s σ H D (I.wish _) hw) (fun _ _ q=>q.unwish) fun _ _ z=>False.elim z
end
section
variable {X:Cx} {st:Stmt} {rest:List Stmt} {t u:TS} {e:Expr} {te:TE} {pos:Pos}
def tNext:TS:=fun D σ H=>D.nx σ H
def tSeq (t u:TS):TS:=fun D σ H=>t {D with nx:=u D} σ H
theorem pss_nil:PSs X [] tNext:=fun _ _ σ H _ I h=>wpAny_execs_nil ⟨σ,H,I,h⟩
theorem pss_cons (h1:PS X st t) (h2:PSs X rest u):PSs X (st::rest) (tSeq t u):=by
  intro pins s σ H D I h
  refine wpAny_execs_cons (thn (h1 pins s σ H {D with nx:=u D} I h) fun f s1 q=>?_)
  cases f with
  | next =>
    obtain ⟨σ',H',I',q⟩:=q
    exact h2 pins s1 σ' H' D I' q
  | ret v=>exact q
  | brk=>exact q
  | cont=>exact q
theorem pss_one (h1:PS X st t):PSs X [st] t:=by
  intro pins s σ H D I h
  refine wpAny_execs_cons (thn (h1 pins s σ H D I h) fun f s1 q=>?_)
  cases f with
  | next=>exact wpAny_execs_nil q
  | ret v=>exact q
  | brk=>exact q
  | cont=>exact q
theorem Inv.quiet {pins:List (Addr×Obj)} {σ:St} {H:Hp} {s:Shared} (I:Inv X pins σ H s):interactive X.env=false:=by simp [interactive,I.ok.kind]
def tDrop (te:TE):TS:=fun D σ H=>te σ H fun _ H1=>D.nx σ H1
theorem ps_expr (he:PE X e te) (hs:swapsWith e none pos.line X.env=pure false:=by rfl):PS X (.Expr e pos) (tDrop te):=by
  intro pins s σ H D I h
  exact wpAny_Expr_any (thn (he pins s σ H _ I h) fun v s1 ⟨x,H1,I1,r1,q1⟩=>⟨σ,H1,I1,q1⟩) I.quiet hs
def tRet (te:TE):TS:=fun D σ H=>te σ H D.rt
theorem ps_ret (he:PE X e te):PS X (.Return (some e) pos) (tRet te):=by
  intro pins s σ H D I h
  exact wpAny_Return_some (thn (he pins s σ H _ I h) fun v s1 ⟨x,H1,I1,r1,q1⟩=>⟨x,σ,H1,I1,r1,q1⟩)
def tIfS (c:TT) (t u:TS):TS:=fun D σ H=>c σ H fun b H1=>if b=true then t D σ H1 else u D σ H1
theorem ps_if {c:Expr} {a b:List Stmt} {tc:TT} (hc:PT X c tc) (ha:PSs X a t) (hb:PSs X b u):PS X (.If c a b pos) (tIfS tc t u):=by
  intro pins s σ H D I h
  refine wpAny_If (thn (hc pins s σ H _ I h) fun d s1 ⟨H1,I1,q1⟩=>?_)
  cases d with
  | true=>exact ha pins s1 σ H1 D I1 q1
  | false=>exact hb pins s1 σ H1 D I1 q1
def tNever:TS:=fun _ _ _=>False
theorem ps_never:PS X st tNever:=fun _ _ _ _ _ _ h=>h.elim
end
abbrev TG:=V→St→Hp→(St→Hp→Prop)→Prop
abbrev TGs:=List V→St→Hp→(St→Hp→Prop)→Prop
def PG (X:Cx) (target:Expr) (t:TG):Prop :=
  ∀(pins:List (Addr×Obj)) (s:Shared) (σ:St) (H:Hp) (v:V) (u:Value) (Q:St→Hp→Prop),Inv X pins σ H s→RelV v u→t v σ H Q →
    wpAny (model X.prog X.w) X.A (assign target X.env u) (fun _ s'=>∃σ' H',Inv X pins σ' H' s'∧Q σ' H') X.xe s
def PGs (X:Cx) (ts:List Expr) (t:TGs):Prop :=
  ∀(pins:List (Addr×Obj)) (s:Shared) (σ:St) (H:Hp) (vs:List V) (us:List Value) (Q:St→Hp→Prop),Inv X pins σ H s→Vals vs us→t vs σ H Q →
    wpAny (model X.prog X.w) X.A (assignInOrder ((assignEach ts X.env).map (·.2)) us) (fun _ s'=>∃σ' H',Inv X pins σ' H' s'∧Q σ' H') X.xe s
abbrev TSet:=V→V→V→Hp→(Hp→Prop)→Prop
def PSet (X:Cx) (t:TSet):Prop :=
  ∀(pins:List (Addr×Obj)) (s:Shared) (σ:St) (H:Hp) (o i v:V) (ov iv u:Value) (Q:Hp→Prop),Inv X pins σ H s→RelV o ov→RelV i iv→RelV v u→t o i v H Q →
    wpAny (model X.prog X.w) X.A (setItem ov iv u) (fun _ s'=>∃H',Inv X pins σ H' s'∧Q H') X.xe s
abbrev TIp:=V→V→Hp→VK→Prop
def PIp (X:Cx) (op:Operator) (t:TIp):Prop :=
  ∀(pins:List (Addr×Obj)) (s:Shared) (σ:St) (H:Hp) (x y:V) (v u:Value) (Q:VK),Inv X pins σ H s→RelV x v→RelV y u→t x y H Q →
    wpAny (model X.prog X.w) X.A (inplaceOp op v u) (EP X pins σ Q) X.xe s
section
variable {X:Cx} {pos:Pos}
def gName (i:Nat):TG:=fun v σ H Q=>Q (σ.set i (some v)) H
theorem pg_name {i:Nat} {x:Str} (hN:X.N.Nodup) (hi:X.N[i]?=some x) (hx:Loc X.env.scope x) (hf:X.fn x=true∨X.env.scope.names.lookup x=some .local:=by first | exact .inl rfl | exact .inr rfl | assumption):PG X (.Name x pos) (gName i):=by
  intro pins s σ H v u Q I r h
  exact wpAny_assign_Name (store_ok I hN hi hx r (fun s' I'=>⟨_,H,I',h⟩) hf)
def gNil:TGs:=fun vs σ H Q=>vs=[]∧Q σ H
def gCons (t:TG) (u:TGs):TGs:=fun vs σ H Q=>∃v r,vs=v::r∧t v σ H fun σ' H'=>u r σ' H' Q
theorem pgs_nil:PGs X [] gNil:=by
  intro pins s σ H vs us Q I r h
  obtain ⟨e,h⟩:=h
  subst e
  cases r
  exact assignInOrder_nil ⟨σ,H,I,h⟩
theorem pgs_cons {e:Expr} {es:List Expr} {t:TG} {u:TGs} (h1:PG X e t) (h2:PGs X es u)
    (hs:(assignEach (e::es) X.env).map (·.2)=assign e X.env::(assignEach es X.env).map (·.2):=by rfl):PGs X (e::es) (gCons t u):=by
  intro pins s σ H vs us Q I r h
  obtain ⟨v,vr,e1,h⟩:=h
  subst e1
  cases r with
  | cons r rr =>
    rw [hs]
    refine assignInOrder_cons (thn (h1 pins s σ H _ _ _ I r h) fun _ s1 ⟨σ1,H1,I1,q1⟩=>?_)
    exact h2 pins s1 σ1 H1 _ _ Q I1 rr q1
def gTup (K:PySem.W.Frag) (n:Nat) (t:TGs):TG:=fun v σ H Q=>∃a xs,v=.ref a∧SqT K H a xs∧xs.length=n∧t xs σ H Q
theorem pg_tup {es:List Expr} {k:Nat} {t:TGs} {n:Nat} (hc:X.calm=true) (h:PGs X es t)
    (hn:(assignEach es X.env).length=n:=by rfl) (hst:(assignEach es X.env).findIdx? (·.1)=none:=by rfl):PG X (.Tuple es k pos) (gTup X.K n t):=by
  intro pins s σ H v u Q I r hw
  obtain ⟨a,xs,e1,hq,hl,hw⟩:=hw
  subst e1
  cases r
  obtain ⟨its,rv,ht,hz⟩:=I.tuple hq
  refine assign_Tuple_tuple (I.ok.hd hc) ht (by simp [hn,←hl,rv.length]) hst fun h' hx=>?_
  have I1:Inv X pins σ H {s with heap:=h'}:=I.kept (t':=s.toks) fun b o e=>hx b o (Nat.ne_of_lt (Heap.lt_size e)) e
  exact h pins _ σ H xs _ Q I1 (by simpa using rv) hw
def gSub (to ti:TE) (t:TSet):TG:=fun v σ H Q=>to σ H fun o H1=>ti σ H1 fun i H2=>t o i v H2 fun H3=>Q σ H3
theorem pg_sub {o i:Expr} {to ti:TE} {t:TSet} (ho:PE X o to) (hi:PE X i ti) (hs:PSet X t)
    (ha:∀v,assign (.Subscript o i pos) X.env v=(do
      let ov ←holding [v] (eval o X.env)
      let iv ←holding [v,ov] (eval i X.env)
      standAt pos
      holding [v,ov,iv] (setItem ov iv v)
      release [v,ov,iv] []):=by intro _;rfl):PG X (.Subscript o i pos) (gSub to ti t):=by
  intro pins s σ H v u Q I r h
  rw [ha]
  refine wpAny_bind (wpAny_holding (thn (ho pins s σ H _ I h) fun ov s1 ⟨x,H1,I1,r1,q1⟩=>?_))
  refine wpAny_bind (wpAny_holding (thn (hi pins s1 σ H1 _ I1 q1) fun iv s2 ⟨y,H2,I2,r2,q2⟩=>?_))
  refine wpAny_bind (wpAny_standAt (wpAny_bind (wpAny_holding (thn (hs pins s2 σ H2 x y v ov iv u _ I2 r1 r2 r q2) fun _ s3 ⟨H3,I3,q3⟩=>?_))))
  exact wpAny_release ⟨σ,H3,I3,q3⟩
def tAsg (te:TE) (g:TG):TS:=fun D σ H=>te σ H fun x H1=>g x σ H1 D.nx
theorem ps_asg {tg e:Expr} {te:TE} {g:TG} (he:PE X e te) (hg:PG X tg g) (hs:swapsWithSole [tg] e pos.line X.env=pure false:=by rfl) (hw:swappedStores [tg] e X.env=pure none:=by rfl)
    (h1:(assignEach [tg] X.env).map (·.2)=[assign tg X.env]:=by rfl):PS X (.Assign [tg] e pos) (tAsg te g):=by
  intro pins s σ H D I h
  refine wpAny_Assign_stores (thn (he pins s σ H _ I h) fun v s1 ⟨x,H1,I1,r1,q1⟩=>?_) hs hw
  rw [h1]
  exact thn (hg pins s1 σ H1 x v _ I1 r1 q1) fun _ s2 q=>q
theorem ps_set {i:Nat} {x:Str} {e:Expr} {te:TE} {pos':Pos} (hN:X.N.Nodup) (hi:X.N[i]?=some x) (hx:Loc X.env.scope x) (he:PE X e te) (hs:swapsWith e (some (.Name x pos')) pos.line X.env=pure false:=by rfl) (hf:X.fn x=true∨X.env.scope.names.lookup x=some .local:=by first | exact .inl rfl | exact .inr rfl | assumption) :
    PS X (.Assign [.Name x pos'] e pos) (tAsg te (gName i)):=by
  intro pins s σ H D I h
  refine wpAny_Assign_Name (thn (he pins s σ H _ I h) fun v s1 ⟨y,H1,I1,r1,q1⟩=>?_) hs
  exact store_ok I1 hN hi hx r1 (fun s2 I2=>⟨_,H1,I2,q1⟩) hf
def tAug (i:Nat) (te:TE) (ti:TIp):TS:=fun D σ H=>∃x,σ[i]?=some (some x)∧te σ H fun y H1=>ti x y H1 fun z H2=>D.nx (σ.set i (some z)) H2
theorem ps_aug {i:Nat} {x:Str} {e:Expr} {te:TE} {op:Operator} {ti:TIp} {pos':Pos} (hN:X.N.Nodup) (hi:X.N[i]?=some x) (hx:Loc X.env.scope x) (he:PE X e te) (ho:PIp X op ti) (hf:X.fn x=true∨X.env.scope.names.lookup x=some .local:=by first | exact .inl rfl | exact .inr rfl | assumption) :
    PS X (.AugAssign (.Name x pos') op e pos) (tAug i te ti):=by
  intro pins s σ H D I h
  obtain ⟨v,e1,h⟩:=h
  obtain ⟨m,hn,hl⟩:=I.loc
  have vis:Vis X.env.scope x:=by rcases hx with k | k;exact .inl k;exact .inr (.inl k)
  obtain ⟨u,r,l⟩:=hl i x v hi e1 vis
  refine wpAny_AugAssign_Name ?_
  have go:wpAny (model X.prog X.w) X.A (eval e X.env) (fun w s₂=>wpAny (model X.prog X.w) X.A (inplaceOp op u w) (fun r s₃=>wpAny (model X.prog X.w) X.A (storeName X.env x r) (fun _=>SP X pins D .next) X.xe s₃) X.xe s₂) X.xe s:=by
    refine thn (he pins s σ H _ I h) fun w s1 ⟨y,H1,I1,r1,q1⟩=>?_
    refine thn (ho pins s1 σ H1 v y u w _ I1 r r1 q1) fun z s2 ⟨zv,H2,I2,r2,q2⟩=>?_
    exact store_ok I2 hN hi hx r2 (fun s3 I3=>⟨_,H2,I3,q2⟩) hf
  rcases l with ⟨hk,hm⟩ | ⟨hk,c,hc,hcell⟩
  · exact wpAny_loadName_local I.ok.kind hk hn hm go
  · rcases hk with hk | hk
    · exact wpAny_loadName_cell I.ok.kind hk hc hcell go
    · rcases hx with k | k
      · have:X.env.scope.names.lookup x=some .free:=hk
        rw [k] at this;cases this
      · have:X.env.scope.names.lookup x=some .free:=hk
        rw [k] at this;cases this
def tAugS (to ti te:TE) (tget:V→V→Hp→VK→Prop) (tip:TIp) (tset:TSet):TS:=fun D σ H=>to σ H fun o H1=>ti σ H1 fun i H2=>tget o i H2 fun x H3=>te σ H3 fun y H4=>tip x y H4 fun z H5=>tset o i z H5 fun H6=>D.nx σ H6
def PGet (X:Cx) (t:V→V→Hp→VK→Prop):Prop :=
  ∀(pins:List (Addr×Obj)) (s:Shared) (σ:St) (H:Hp) (o i:V) (ov iv:Value) (Q:VK),Inv X pins σ H s→RelV o ov→RelV i iv→t o i H Q →
    wpAny (model X.prog X.w) X.A (getItem ov iv) (EP X pins σ Q) X.xe s
theorem ps_augS {o i e:Expr} {to ti te:TE} {tget:V→V→Hp→VK→Prop} {tip:TIp} {tset:TSet} {op:Operator} {tpos:Pos} (ho:PE X o to) (hi:PE X i ti) (hg:PGet X tget) (he:PE X e te) (hp:PIp X op tip) (hs:PSet X tset)
    (ha:∀ov iv new,augStore i ov iv new=(do holding [new,ov,iv] (setItem ov iv new);release [new,ov,iv] [];pure .next):=by intros;rfl):PS X (.AugAssign (.Subscript o i tpos) op e pos) (tAugS to ti te tget tip tset):=by
  intro pins s σ H D I h
  refine wpAny_AugAssign_SubscriptAny (thn (ho pins s σ H _ I h) fun ov s1 ⟨x1,H1,I1,r1,q1⟩=>?_) ha
  refine thn (hi pins s1 σ H1 _ I1 q1) fun iv s2 ⟨x2,H2,I2,r2,q2⟩=>?_
  refine thn (hg pins s2 σ H2 x1 x2 ov iv _ I2 r1 r2 q2) fun old s3 ⟨x3,H3,I3,r3,q3⟩=>?_
  refine thn (he pins s3 σ H3 _ I3 q3) fun v s4 ⟨x4,H4,I4,r4,q4⟩=>?_
  refine thn (hp pins s4 σ H4 x3 x4 old v _ I4 r3 r4 q4) fun new s5 ⟨x5,H5,I5,r5,q5⟩=>?_
  exact thn (hs pins s5 σ H5 x1 x2 x5 ov iv new _ I5 r1 r2 r5 q5) fun _ s6 ⟨H6,I6,q6⟩=>⟨σ,H6,I6,q6⟩
def ipI (f:Int→Int→Int):TIp:=fun x y H Q=>∃i j,x=.int i∧y=.int j∧Q (.int (f i j)) H
theorem ip_add:PIp X .Add (ipI fun i j=>i+j):=by
  intro pins s σ H x y v u Q I r1 r2 h
  obtain ⟨i,j,e1,e2,q⟩:=h
  subst e1;subst e2
  obtain ⟨t,rfl⟩:=r1
  obtain ⟨t',rfl⟩:=r2
  exact iadd_int ⟨.int _,H,I.tok _,⟨_,rfl⟩,q⟩
theorem ip_sub:PIp X .Sub (ipI fun i j=>i-j):=by
  intro pins s σ H x y v u Q I r1 r2 h
  obtain ⟨i,j,e1,e2,q⟩:=h
  subst e1;subst e2
  obtain ⟨t,rfl⟩:=r1
  obtain ⟨t',rfl⟩:=r2
  exact isub_int ⟨.int _,H,I.tok _,⟨_,rfl⟩,q⟩
end
section
variable {X:Cx} {pos:Pos}
def tWhile (c:TT) (tb:TS):TS:=fun D σ H=>∃W:Nat→St→Hp→Prop,(∃m,W m σ H)∧∀m σ H,W m σ H →
  c σ H fun b H1=>if b=true then ∃N:St→Hp→Prop,(∀σ' H',N σ' H'→∃m',m'<m∧W m' σ' H')∧tb {D with nx:=N,ct:=N,bk:=D.nx} σ H1 else D.nx σ H1
theorem ps_while {c:Expr} {body:List Stmt} {tc:TT} {tb:TS} (hp:PassesOwn (model X.prog X.w) X.A X.env X.xe) (hc:PT X c tc) (hb:PSs X body tb):PS X (.While c body [] pos) (tWhile tc tb):=by
  intro pins s σ H D I h
  obtain ⟨W,⟨m0,w0⟩,turn⟩:=h
  refine wpAny_While (codeAny_whileLoop (fun n s'=>∃σ' H',Inv X pins σ' H' s'∧W n σ' H') ?_ m0 ⟨σ,H,I,w0⟩)
  rintro n s1 ⟨σ1,H1,I1,w1⟩
  refine wpAny_passesOwn hp (thn (hc pins s1 σ1 H1 _ I1 (turn n σ1 H1 w1)) fun b s2 ⟨H2,I2,q2⟩=>?_)
  cases b with
  | true =>
    obtain ⟨N,hN,q2⟩:=q2
    rw [if_pos rfl]
    refine wpAny_passesOwn hp (thn (hb pins s2 σ1 H2 _ I2 q2) fun f s3 q3=>?_)
    cases f with
    | next =>
      obtain ⟨σ3,H3,I3,n3⟩:=q3
      obtain ⟨m',hm,w3⟩:=hN σ3 H3 n3
      exact ⟨m',hm,σ3,H3,I3,w3⟩
    | cont =>
      obtain ⟨σ3,H3,I3,n3⟩:=q3
      obtain ⟨m',hm,w3⟩:=hN σ3 H3 n3
      exact ⟨m',hm,σ3,H3,I3,w3⟩
    | brk=>exact q3
    | ret v=>exact q3
  | false =>
    rw [if_neg Bool.false_ne_true]
    exact wpAny_execs_nil ⟨σ1,H2,I2,q2⟩
end
structure It where
  go:Nat→Hp→Prop
  yld:Nat→Hp→V→Hp→Prop
  stop:Nat→Hp→Prop
def FpOk (X:Cx) (pins:List (Addr×Obj)) (H:Hp) (b:Addr):Prop :=
  H b=none∧b≠X.env.locals∧b∉X.fs∧(b∈X.ex∨X.s₀.heap.objs.size≤b)∧(∀x c,X.env.cells.lookup x=some c→c≠b)∧∀p∈X.pn++pins,p.1≠b
theorem Inv.fpOk {X:Cx} {pins:List (Addr×Obj)} {σ:St} {H H':Hp} {s:Shared} {b:Addr} (I:Inv X pins σ H s) (hb:s.heap.objs.size≤b) (hn:H' b=none):FpOk X pins H' b:=by
  refine ⟨hn,Nat.ne_of_gt (Nat.lt_of_lt_of_le I.lt hb),I.nofs hb,.inr (Nat.le_trans I.sz hb),fun x c e z=>?_,fun p hp z=>?_⟩
  · obtain ⟨v,q⟩:=I.cell x c e
    exact absurd (Nat.lt_of_lt_of_le q.lt (by rw [z];exact hb)) (Nat.lt_irrefl _)
  · exact absurd (Nat.lt_of_lt_of_le (Heap.lt_size (I.pin p hp).1) (by rw [z];exact hb)) (Nat.lt_irrefl _)
structure Turn (P:Program) (w:World) (K:PySem.W.Frag) (tg:Expr) (J:It) (fp:List Addr) (it:Addr) (tn:Nat→Heap→Prop):Prop where
  mem:it∈fp
  obj:∀i h,tn i h→∀b∈fp,∃o,h.get? b=some o∧∀v,o.data≠.cell v
  keep:∀i h h',tn i h→(∀b∈fp,∀o,h.get? b=some o→h'.get? b=some o)→tn i h'
  item:∀(X:Cx),X.prog=P→X.w=w→X.K=K→X.calm=true→∀(i:Nat) (pins:List (Addr×Obj)) (s:Shared) (σ:St) (H:Hp) (E:Value→Shared→Prop),Inv X pins σ H s→(∀b∈fp,FpOk X pins H b)→tn i s.heap→J.go i H →
    wpAny (model P w) X.A (pyNext (.ref it)) (fun r s1=>∃u,r=some u ∧
      wpAny (model P w) X.A (letOwnedTupleGo tg (.ref it) u) (fun _ s2=>∃x H',Inv X pins σ H' s2∧RelV x u∧J.yld i H x H'∧tn (i+1) s2.heap∧∀b∈fp,H' b=none) E s1) E s
  done:∀(X:Cx),X.prog=P→X.w=w→X.K=K→X.calm=true→∀(i:Nat) (pins:List (Addr×Obj)) (s:Shared) (σ:St) (H:Hp) (E:Value→Shared→Prop),Inv X pins σ H s→(∀b∈fp,FpOk X pins H b)→tn i s.heap→J.stop i H →
    wpAny (model P w) X.A (pyNext (.ref it)) (fun r s1=>r=none∧Inv X pins σ H s1) E s
  self:∀(A:Around) (i:Nat) (s:Shared) (Q:Value→Shared→Prop) (E:Value→Shared→Prop),tn i s.heap→Q (.ref it) s→wpAny (model P w) A (pyIter (.ref it)) Q E s
abbrev TI:=St→Hp→(It→Hp→Prop)→Prop
def PIE (X:Cx) (pins:List (Addr×Obj)) (σ:St) (tg:Expr) (R:It→Hp→Prop) (itv:Value) (s2:Shared):Prop :=
  ∃(it:Addr) (fp:List Addr) (tn:Nat→Heap→Prop) (J:It) (H':Hp),itv=.ref it∧Inv X pins σ H' s2∧Turn X.prog X.w X.K tg J fp it tn∧tn 0 s2.heap∧(∀b∈fp,FpOk X pins H' b)∧R J H'
def PI (X:Cx) (tg iter:Expr) (wi:TI):Prop :=
  ∀(pins:List (Addr×Obj)) (s:Shared) (σ:St) (H:Hp) (R:It→Hp→Prop),Inv X pins σ H s→wi σ H R →
    wpAny (model X.prog X.w) X.A (eval iter X.env) (fun v s1=>wpAny (model X.prog X.w) X.A (pyIter v) (PIE X pins σ tg R) X.xe s1) X.xe s
theorem go_of {M:Model} {A:Around} {E:Value→Shared→Prop} {s:Shared} {tg:Expr} {it:Addr} {u:Value} {o:Obj} {n:String} {vs:Array Value} {Q:Unit→Shared→Prop} (ho:s.heap.get? it=some o) (hc:o.cls=.type n) (hd:o.data=.fields vs)
    (hn:["enumerate","zip","dict_itemiterator","dict_reverseitemiterator","odict_iterator","itertools.zip_longest","itertools.pairwise"].contains n=false) (hQ:Q () s):wpAny M A (letOwnedTupleGo tg (.ref it) u) Q E s:=by
  unfold letOwnedTupleGo
  cases tg<;>first
    | exact wpAny_pure hQ
    | (cases u<;>first
        | exact wpAny_pure hQ
        | (refine wpAny_bind (wpAny_load ho ?_)
           rw [hc,hd]
           show wpAny M A (if (["enumerate","zip","dict_itemiterator","dict_reverseitemiterator","odict_iterator","itertools.zip_longest","itertools.pairwise"].contains n&&vs[0]?==some (rawInt _))=true then _ else _) Q E s
           rw [if_neg (by intro h;rw [hn,Bool.false_and] at h;cases h)]
           exact wpAny_pure hQ))
def Itl (K:PySem.W.Frag) (a:Addr):It :=
  ⟨fun i H=>∃xs x,SqL K H a xs∧xs[i]?=some x,fun i H x H'=>H'=H∧∀xs,SqL K H a xs→xs[i]?=some x,fun i H=>∃xs,SqL K H a xs∧xs.length≤i⟩
def Itt (K:PySem.W.Frag) (a:Addr):It :=
  ⟨fun i H=>∃xs x,SqT K H a xs∧xs[i]?=some x,fun i H x H'=>H'=H∧∀xs,SqT K H a xs→xs[i]?=some x,fun i H=>∃xs,SqT K H a xs∧xs.length≤i⟩
def Itr (lo:Int) (n:Nat):It:=⟨fun i _=>i<n,fun i H x H'=>H'=H∧x=.int (lo+i),fun i _=>n≤i⟩
theorem turn_list {P:Program} {w:World} {K:PySem.W.Frag} {tg:Expr} (a it:Addr):Turn P w K tg (Itl K a) [it] it (fun i h=>h.IsListIter it a i) where
  mem:=by simp
  obj:=fun i h st b hb=>by
    have e:b=it:=by simpa using hb
    subst e
    obtain ⟨o,e,c,d⟩:=st
    exact ⟨o,e,fun v z=>by rw [d] at z;cases z⟩
  keep:=fun i h h' st k=>st.at fun o e=>k it (by simp) o e
  item:=by
    intro X hP hw hK hc i pins s σ H E I hf st hg
    subst hP hw hK
    obtain ⟨xs,x,hq,hx⟩:=hg
    obtain ⟨its,rv,p,hz⟩:=I.list hq
    obtain ⟨u,hu,ru⟩:=rv.get hx
    obtain ⟨f0,f1,f2,f3,f4,f5⟩:=hf it (by simp)
    refine wpAny_pyNext_list_item st p.isList (x:=u) (by simpa using hu) fun h' st' sb=>?_
    have I1:Inv X pins σ H {s with heap:=h'}:=I.turned (t':=s.toks) (fun b o hb e=>(sb.2 b hb).trans e) f0 f1 f3 f4 f5
    obtain ⟨o,e,c,d⟩:=id st'
    exact ⟨u,rfl,go_of (s:={s with heap:=h'}) e c d (by decide) ⟨x,H,I1,ru,⟨rfl,fun ys hy=>by rw [I.list_inj hy hq];exact hx⟩,st',fun b hb=>(hf b hb).1⟩⟩
  done:=by
    intro X hP hw hK hc i pins s σ H E I hf st hg
    subst hP hw hK
    obtain ⟨xs,hq,hx⟩:=hg
    obtain ⟨its,rv,p,hz⟩:=I.list hq
    obtain ⟨f0,f1,f2,f3,f4,f5⟩:=hf it (by simp)
    have hl:=rv.length
    exact wpAny_pyNext_list_end (I.ok.hd hc) st p.isList (by simp;omega) fun h' eb=>⟨rfl,I.turned (t':=s.toks) (fun b o hb e=>eb b o hb e) f0 f1 f3 f4 f5⟩
  self:=fun _ _ _ _ _ st h=>wpAny_pyIter_listiter st h
theorem turn_tuple {P:Program} {w:World} {K:PySem.W.Frag} {tg:Expr} (a it:Addr):Turn P w K tg (Itt K a) [it] it (fun i h=>h.IsTupleIter it a i) where
  mem:=by simp
  obj:=fun i h st b hb=>by
    have e:b=it:=by simpa using hb
    subst e
    obtain ⟨o,e,c,d⟩:=st
    exact ⟨o,e,fun v z=>by rw [d] at z;cases z⟩
  keep:=fun i h h' st k=>st.at fun o e=>k it (by simp) o e
  item:=by
    intro X hP hw hK hc i pins s σ H E I hf st hg
    subst hP hw hK
    obtain ⟨xs,x,hq,hx⟩:=hg
    obtain ⟨its,rv,p,hz⟩:=I.tuple hq
    obtain ⟨u,hu,ru⟩:=rv.get hx
    obtain ⟨f0,f1,f2,f3,f4,f5⟩:=hf it (by simp)
    refine wpAny_pyNext_tuple_item st (show s.heap.IsTuple a its.toArray from p) (x:=u) (by simpa using hu) fun h' st' sb=>?_
    have I1:Inv X pins σ H {s with heap:=h'}:=I.turned (t':=s.toks) (fun b o hb e=>(sb.2 b hb).trans e) f0 f1 f3 f4 f5
    obtain ⟨o,e,c,d⟩:=id st'
    exact ⟨u,rfl,go_of (s:={s with heap:=h'}) e c d (by decide) ⟨x,H,I1,ru,⟨rfl,fun ys hy=>by rw [I.tuple_inj hy hq];exact hx⟩,st',fun b hb=>(hf b hb).1⟩⟩
  done:=by
    intro X hP hw hK hc i pins s σ H E I hf st hg
    subst hP hw hK
    obtain ⟨xs,hq,hx⟩:=hg
    obtain ⟨its,rv,p,hz⟩:=I.tuple hq
    obtain ⟨f0,f1,f2,f3,f4,f5⟩:=hf it (by simp)
    have hl:=rv.length
    exact wpAny_pyNext_tuple_end (I.ok.hd hc) st (show s.heap.IsTuple a its.toArray from p) (by simp;omega) fun h' eb=>⟨rfl,I.turned (t':=s.toks) (fun b o hb e=>eb b o hb e) f0 f1 f3 f4 f5⟩
  self:=fun _ _ _ _ _ st h=>wpAny_pyIter_tupleiter st h
theorem turn_range {P:Program} {w:World} {K:PySem.W.Frag} {tg:Expr} (it:Addr) (lo:Int) (n:Nat):Turn P w K tg (Itr lo n) [it] it (fun i h=>IsRangeIter h it (lo+(i:Nat)*1) ((n:Int)-(i:Nat)) 1) where
  mem:=by simp
  obj:=fun i h st b hb=>by
    have e:b=it:=by simpa using hb
    subst e
    exact ⟨_,st,fun v z=>by
      have z':Data.fields _=Data.cell v:=z
      cases z'⟩
  keep:=fun i h h' st k=>k it (by simp) _ st
  item:=by
    intro X hP hw hK hc i pins s σ H E I hf st hg
    subst hP hw hK
    obtain ⟨f0,f1,f2,f3,f4,f5⟩:=hf it (by simp)
    have W:=Walks.range (prog:=X.prog) (w:=X.w) (I.ok.hd hc) it lo 1 n
    refine W.item i s _ _ hg st fun v h' tk hv st' kk=>?_
    obtain ⟨t,rfl⟩:=hv
    have I1:Inv X pins σ H {s with heap:=h',toks:=tk}:=I.turned (fun b o hb e=>kk b o (by simpa using hb) e) f0 f1 f3 f4 f5
    refine ⟨_,rfl,go_of (s:={s with heap:=h',toks:=tk}) (n:="range_iterator") st' rfl rfl (by decide) ⟨.int (lo+i),H,I1,⟨t,?_⟩,⟨rfl,rfl⟩,st',fun b hb=>(hf b hb).1⟩⟩
    rw [Int.mul_one]
  done:=by
    intro X hP hw hK hc i pins s σ H E I hf st hg
    subst hP hw hK
    obtain ⟨f0,f1,f2,f3,f4,f5⟩:=hf it (by simp)
    exact wpAny_pyNext_range_end (I.ok.hd hc) st (by have:n≤i:=hg;omega) fun h' eb=>⟨rfl,I.turned (t':=s.toks) (fun b o hb e=>eb b o hb e) f0 f1 f3 f4 f5⟩
  self:=fun _ _ _ _ _ st h=>wpAny_pyIter_rangeiter st h
end L2
namespace L2
open PySem PySem.Spec PyProof.Rows
section
variable {X:Cx} {tg:Expr}
theorem range_it {pins:List (Addr×Obj)} {σ:St} {H:Hp} {s:Shared} {R:It→Hp→Prop} {E:Value→Shared→Prop} {lo hi:Int} {t u v:Tok} {tk:Nat} (I:Inv X pins σ H s) (h1:-(2^62)≤lo) (h2:lo<2^62) (h3:-(2^62)≤hi) (h4:hi<2^62)
    (q:R (Itr lo (hi-lo).toNat) H):wpAny (model X.prog X.w) X.A (pyIter (.ref s.heap.objs.size)) (PIE X pins σ tg R) E {s with heap:=s.heap.push {cls:=.type "range",data:=.fields #[.int lo t,.int hi u,.int 1 v]},toks:=tk}:=by
  refine wpAny_pyIter_range (IsRange.new ..) (small_one h1 h2 h3 h4) ?_
  have I1:Inv X pins σ H {s with heap:=s.heap.push {cls:=.type "range",data:=.fields #[.int lo t,.int hi u,.int 1 v]},toks:=tk}:=I.kept fun b o e=>Heap.get?_push_of_some _ e
  refine ⟨(s.heap.push {cls:=.type "range",data:=.fields #[.int lo t,.int hi u,.int 1 v]}).objs.size,[(s.heap.push {cls:=.type "range",data:=.fields #[.int lo t,.int hi u,.int 1 v]}).objs.size],_,_,H,rfl,
    I1.kept (t':=tk) fun b o e=>Heap.get?_push_of_some _ e,turn_range _ lo (hi-lo).toNat,?_,fun b hb=>?_,q⟩
  · have e1:lo+((0:Nat):Int)*1=lo:=by simp
    have e2:(((hi-lo).toNat:Nat):Int)-((0:Nat):Int)=Builtin.Range.rangeSize lo hi 1:=by rw [rangeSize_one];split<;>omega
    show IsRangeIter _ _ (lo+((0:Nat):Int)*1) ((((hi-lo).toNat:Nat):Int)-((0:Nat):Int)) 1
    rw [e1,e2]
    exact Heap.get?_push_size _ rfl
  · have e:b=(s.heap.push {cls:=.type "range",data:=.fields #[.int lo t,.int hi u,.int 1 v]}).objs.size:=by simpa using hb
    subst e
    exact I1.fpOk (Nat.le_refl _) (I1.hok.fresh (Nat.le_refl _))
def iRng1 (ta:TA):TI:=fun σ H R=>ta σ H fun vs H1=>∃j:Int,vs=[.int j]∧-(2^62)≤j∧j<2^62∧R (Itr 0 j.toNat) H1
theorem pi_range1 {a:Expr} {ta:TA} {p pos:Pos} (hg:Gl X "range") (hm:X.mg "range"=none) (ha:PA X [a] ta) (hs:starEach [a] X.env=[(false,eval a X.env)]:=by rfl):PI X tg (.Call (.Name "range" p) [a] [] pos) (iRng1 ta):=by
  intro pins s σ H R I h
  refine Call_ (ld_blt I hg hm boot_range (PyProof.Rows.callWith_type1 (thn (ha pos pins s σ H _ I h) fun us s1 ⟨vs,H1,I1,r1,q1⟩=>?_) hs rfl))
  obtain ⟨j,e,q1,q2,q⟩:=q1
  subst e
  cases r1 with
  | cons r rr =>
    cases rr
    obtain ⟨t,rfl⟩:=r
    exact call_range_1 (range_it I1 (by omega) (by omega) q1 q2 (by simpa using q))
def tFor (wi:TI) (g:TG) (tb:TS):TS:=fun D σ H=>wi σ H fun J H1=>∃W:Nat→Nat→St→Hp→Prop,(∃m,W 0 m σ H1)∧∀i m σ H,W i m σ H →
  (J.stop i H∧D.nx σ H)∨(J.go i H∧∃N:St→Hp→Prop,(∀σ' H',N σ' H'→∃m',m'<m∧W (i+1) m' σ' H')∧∀x H',J.yld i H x H'→g x σ H' fun σ2 H2=>tb {D with nx:=N,ct:=N,bk:=D.nx} σ2 H2)
def pinsAt (fp:List Addr) (h:Heap):List (Addr×Obj):=fp.filterMap fun b=>(h.get? b).map fun o=>(b,o)
theorem mem_pinsAt {fp:List Addr} {h:Heap} {b:Addr} {o:Obj} (hb:b∈fp) (e:h.get? b=some o):(b,o)∈pinsAt fp h:=List.mem_filterMap.mpr ⟨b,hb,by rw [e];rfl⟩
theorem of_pinsAt {fp:List Addr} {h:Heap} {p:Addr×Obj} (hp:p∈pinsAt fp h):p.1∈fp∧h.get? p.1=some p.2:=by
  obtain ⟨b,hb,e⟩:=List.mem_filterMap.mp hp
  cases q:h.get? b with
  | none=>rw [q] at e;cases e
  | some o =>
    rw [q] at e
    have e':(b,o)=p:=Option.some.inj e
    subst e'
    exact ⟨hb,q⟩
theorem Inv.pinned {pins:List (Addr×Obj)} {σ:St} {H:Hp} {s:Shared} {fp:List Addr} (I:Inv X pins σ H s) (hf:∀b∈fp,FpOk X pins H b) (ho:∀b∈fp,∃o,s.heap.get? b=some o∧∀v,o.data≠.cell v):Inv X (pins++pinsAt fp s.heap) σ H s :=
  I.pins_of fun p hp=>(List.mem_append.mp hp).elim (fun z=>I.pin p (List.mem_append_right _ z)) fun z=>by
    obtain ⟨hb,e⟩:=of_pinsAt z
    obtain ⟨f0,f1,f2,_⟩:=hf p.1 hb
    obtain ⟨o,e',d⟩:=ho p.1 hb
    rw [e] at e';cases e'
    exact ⟨e,f0,f1,f2,d⟩
theorem Inv.unpinned {pins pl:List (Addr×Obj)} {σ:St} {H:Hp} {s:Shared} (I:Inv X (pins++pl) σ H s):Inv X pins σ H s:=I.pins_of fun p hp=>I.pin p (List.mem_append_right _ (List.mem_append_left _ hp))
theorem ps_for {iter:Expr} {body:List Stmt} {wi:TI} {g:TG} {tb:TS} {pos:Pos} (hp:PassesOwn (model X.prog X.w) X.A X.env X.xe) (hc:X.calm=true) (hi:PI X tg iter wi) (hg:PG X tg g) (hb:PSs X body tb)
    (hs:∀x,foldedSetIterable iter X.env x=pure x:=by intro _;rfl):PS X (.For tg iter body [] pos) (tFor wi g tb):=by
  intro pins s σ H D I h
  refine wpAny_For (thn (hi pins s σ H _ I h) fun v s1 h1=>thn h1 fun itv s2 h2=>?_) hs
  obtain ⟨it,fp,tn,J,H2,e,I2,T,st2,f2,W,⟨m0,w0⟩,turn⟩:=h2
  subst e
  have stat:∀{H':Hp},(∀b∈fp,H' b=none)→∀b∈fp,FpOk X pins H' b:=fun hn b hb=>⟨hn b hb,(f2 b hb).2⟩
  refine codeAny_forLoop_any (fun n s'=>∃i σ' H',Inv X pins σ' H' s'∧tn i s'.heap∧(∀b∈fp,H' b=none)∧W i n σ' H') ?_ m0 ⟨0,σ,H2,I2,st2,fun b hb=>(f2 b hb).1,w0⟩
  rintro n s3 ⟨i,σ3,H3,I3,st3,fr3,w3⟩
  rcases turn i n σ3 H3 w3 with ⟨stop,qn⟩ | ⟨go,N,hN,step⟩
  · refine wpAny_passesOwn hp (thn (T.done X rfl rfl rfl hc i pins s3 σ3 H3 X.xe I3 (stat fr3) st3 stop) fun r s4 ⟨hr,I4⟩=>?_)
    subst hr
    exact wpAny_execs_nil ⟨σ3,H3,I4,qn⟩
  · refine wpAny_passesOwn hp (thn (T.item X rfl rfl rfl hc i pins s3 σ3 H3 X.xe I3 (stat fr3) st3 go) fun r s4 ⟨u,hr,h4⟩=>?_)
    subst hr
    refine wpAny_passesOwn hp (thn h4 fun _ s5 ⟨x,H5,I5,r5,y5,st5,fr5⟩=>?_)
    have I5':=I5.pinned (stat fr5) (T.obj _ _ st5)
    refine wpAny_passesOwn hp (thn (hg _ s5 σ3 H5 x u _ I5' r5 (step x H5 y5)) fun _ s6 ⟨σ6,H6,I6,q6⟩=>?_)
    refine wpAny_passesOwn hp (thn (hb _ s6 σ6 H6 _ I6 q6) fun f s7 q7=>?_)
    have again:∀{σ7:St} {H7:Hp},Inv X (pins++pinsAt fp s5.heap) σ7 H7 s7→N σ7 H7→∃m,m<n∧∃i σ' H',Inv X pins σ' H' s7∧tn i s7.heap∧(∀b∈fp,H' b=none)∧W i m σ' H':=fun {σ7 H7} I7 n7=>by
      obtain ⟨m',hm,w7⟩:=hN σ7 H7 n7
      refine ⟨m',hm,i+1,σ7,H7,I7.unpinned,T.keep _ _ _ st5 fun b hb o e=>(I7.pin (b,o) (List.mem_append_right _ (List.mem_append_right _ (mem_pinsAt hb e)))).1,fun b hb=>?_,w7⟩
      obtain ⟨o,e,d⟩:=T.obj _ _ st5 b hb
      exact (I7.pin (b,o) (List.mem_append_right _ (List.mem_append_right _ (mem_pinsAt hb e)))).2.1
    cases f with
    | next=>obtain ⟨σ7,H7,I7,n7⟩:=q7;exact again I7 n7
    | cont=>obtain ⟨σ7,H7,I7,n7⟩:=q7;exact again I7 n7
    | brk=>obtain ⟨σ7,H7,I7,q7⟩:=q7;exact ⟨σ7,H7,I7.unpinned,q7⟩
    | ret v=>obtain ⟨x7,σ7,H7,I7,r7,q7⟩:=q7;exact ⟨x7,σ7,H7,I7.unpinned,r7,q7⟩
end
end L2
namespace L2
open PySem PySem.Spec PyProof.Rows
abbrev R2:=V→V→Hp→VK→Prop
def OpR (X:Cx) (f:Value→Value→Sem Value) (r:R2):Prop :=
  ∀(pins:List (Addr×Obj)) (s:Shared) (σ:St) (H:Hp) (x y:V) (v u:Value) (Q:VK),Inv X pins σ H s→RelV x v→RelV y u→r x y H Q →
    wpAny (model X.prog X.w) X.A (f v u) (EP X pins σ Q) X.xe s
def UnR (X:Cx) (f:Value→Sem Value) (r:V→Hp→VK→Prop):Prop :=
  ∀(pins:List (Addr×Obj)) (s:Shared) (σ:St) (H:Hp) (x:V) (v:Value) (Q:VK),Inv X pins σ H s→RelV x v→r x H Q →
    wpAny (model X.prog X.w) X.A (f v) (EP X pins σ Q) X.xe s
def CallR (X:Cx) (f:Value) (r:List V→Hp→VK→Prop):Prop :=
  ∀(pins:List (Addr×Obj)) (s:Shared) (σ:St) (H:Hp) (xs:List V) (us:List Value) (Q:VK),Inv X pins σ H s→Vals xs us→r xs H Q →
    wpAny (model X.prog X.w) X.A (call f us) (EP X pins σ Q) X.xe s
def TruR (X:Cx) (r:V→Hp→(Bool→Hp→Prop)→Prop):Prop :=
  ∀(pins:List (Addr×Obj)) (s:Shared) (σ:St) (H:Hp) (x:V) (v:Value) (Q:Bool→Hp→Prop),Inv X pins σ H s→RelV x v→r x H Q →
    wpAny (model X.prog X.w) X.A (truthy v) (TP X pins σ Q) X.xe s
def tOp (r:R2) (ta tb:TE):TE:=fun σ H Q=>ta σ H fun x H1=>tb σ H1 fun y H2=>r x y H2 Q
def tUn (r:V→Hp→VK→Prop) (ta:TE):TE:=fun σ H Q=>ta σ H fun x H1=>r x H1 Q
def rI (C:Int→Int→Prop) (g:Int→Int→V):R2:=fun x y H Q=>∃i j,x=.int i∧y=.int j∧C i j∧Q (g i j) H
def rI0 (g:Int→Int→V):R2:=fun x y H Q=>∃i j,x=.int i∧y=.int j∧Q (g i j) H
def rU (g:Int→V):V→Hp→VK→Prop:=fun x H Q=>∃i,x=.int i∧Q (g i) H
section
variable {X:Cx} {a b c:Expr} {ta tb tc:TE} {pos:Pos}
theorem binT (ha:PE X a ta) (hb:PE X b tb) {pins:List (Addr×Obj)} {s:Shared} {σ:St} {H:Hp} {R:V→V→Hp→Prop} (I:Inv X pins σ H s)
    (h:ta σ H fun x H1=>tb σ H1 fun y H2=>R x y H2) {Q:Value→Shared→Prop} {f:Value→Value→Sem Value}
    (hf:∀v u s2 x y H2,Inv X pins σ H2 s2→RelV x v→RelV y u→R x y H2→wpAny (model X.prog X.w) X.A (f v u) Q X.xe s2) :
    wpAny (model X.prog X.w) X.A (eval a X.env) (fun v s₁=>wpAny (model X.prog X.w) X.A (eval b X.env) (fun u s₂=>wpAny (model X.prog X.w) X.A (f v u) Q X.xe s₂) X.xe s₁) X.xe s:=by
  refine thn (ha pins s σ H _ I h) fun v s1 ⟨x,H1,I1,r1,q1⟩=>?_
  refine thn (hb pins s1 σ H1 _ I1 q1) fun u s2 ⟨y,H2,I2,r2,q2⟩=>?_
  exact hf v u s2 x y H2 I2 r1 r2 q2
theorem pe_op {op:Operator} {r:R2} (ho:OpR X (binaryOp op) r) (ha:PE X a ta) (hb:PE X b tb):PE X (.BinOp a op b pos) (tOp r ta tb):=by
  intro pins s σ H Q I h
  exact wpAny_BinOp (binT ha hb I h fun v u s2 x y H2 I2 rx ry q=>ho pins s2 σ H2 x y v u Q I2 rx ry q)
theorem pe_un {op:UnaryOp} {r:V→Hp→VK→Prop} (ho:UnR X (unaryOp op) r) (ha:PE X a ta):PE X (.UnaryOp op a pos) (tUn r ta):=by
  intro pins s σ H Q I h
  exact UnaryOp_ (thn (ha pins s σ H _ I h) fun v s1 ⟨x,H1,I1,r1,q1⟩=>ho pins s1 σ H1 x v Q I1 r1 q1)
theorem opI {f:Value→Value→Sem Value} {C:Int→Int→Prop} {g:Int→Int→Int}
    (rule:∀(i j:Int) (t u:Tok) (s:Shared) (Q:Value→Shared→Prop) (E:Value→Shared→Prop),C i j→Q (.int (g i j) s.toks) {s with toks:=s.toks+1}→wpAny (model X.prog X.w) X.A (f (.int i t) (.int j u)) Q E s) :
    OpR X f (rI C fun i j=>.int (g i j)):=by
  intro pins s σ H x y v u Q I rx ry h
  obtain ⟨i,j,rfl,rfl,hc,q⟩:=h
  obtain ⟨t,rfl⟩:=rx
  obtain ⟨t',rfl⟩:=ry
  exact rule i j t t' s _ _ hc ⟨.int (g i j),H,I.tok _,⟨_,rfl⟩,q⟩
theorem opI0 {f:Value→Value→Sem Value} {g:Int→Int→Int}
    (rule:∀(i j:Int) (t u:Tok) (s:Shared) (Q:Value→Shared→Prop) (E:Value→Shared→Prop),Q (.int (g i j) s.toks) {s with toks:=s.toks+1}→wpAny (model X.prog X.w) X.A (f (.int i t) (.int j u)) Q E s) :
    OpR X f (rI0 fun i j=>.int (g i j)):=by
  intro pins s σ H x y v u Q I rx ry h
  obtain ⟨i,j,rfl,rfl,q⟩:=h
  obtain ⟨t,rfl⟩:=rx
  obtain ⟨t',rfl⟩:=ry
  exact rule i j t t' s _ _ ⟨.int (g i j),H,I.tok _,⟨_,rfl⟩,q⟩
theorem opB0 {f:Value→Value→Sem Value} {g:Int→Int→Bool}
    (rule:∀(i j:Int) (t u:Tok) (s:Shared) (Q:Value→Shared→Prop) (E:Value→Shared→Prop),Q (.bool (g i j)) s→wpAny (model X.prog X.w) X.A (f (.int i t) (.int j u)) Q E s) :
    OpR X f (rI0 fun i j=>.bl (g i j)):=by
  intro pins s σ H x y v u Q I rx ry h
  obtain ⟨i,j,rfl,rfl,q⟩:=h
  obtain ⟨t,rfl⟩:=rx
  obtain ⟨t',rfl⟩:=ry
  exact rule i j t t' s _ _ ⟨.bl (g i j),H,I,rfl,q⟩
def CPow (i j:Int):Prop:=0≤j∧j≤1000000∧i.natAbs<2^64
def CMul (i j:Int):Prop:=(-(2^64)<i∧i<2^64)∨(-(2^64)<j∧j<2^64)
theorem CMul.ok {i j:Int} (h:CMul i j):IntMulOk i j:=by
  rcases h with ⟨h1,h2⟩ | ⟨h1,h2⟩
  · exact .of_left (intBits_le_64 h1 h2)
  · exact .of_right (intBits_le_64 h1 h2)
theorem op_add:OpR X (binaryOp .Add) (rI0 fun i j=>.int (i+j)):=opI0 fun _ _ _ _ _ _ _ q=>add_int q
theorem op_sub:OpR X (binaryOp .Sub) (rI0 fun i j=>.int (i-j)):=opI0 fun _ _ _ _ _ _ _ q=>sub_int q
theorem op_mul:OpR X (binaryOp .Mult) (rI CMul fun i j=>.int (i*j)):=opI fun _ _ _ _ _ _ _ hc q=>mul_int q hc.ok
theorem op_mod:OpR X (binaryOp .Mod) (rI (fun _ j=>0<j) fun i j=>.int (i%j)):=opI fun i j _ _ _ _ _ hc q=>by
  have h1:(0:Int)<j:=hc
  exact mod_int' (by omega) (by rw [Int.fmod_eq_emod_of_nonneg i (by omega)];exact q)
theorem op_pow:OpR X (binaryOp .Pow) (rI CPow fun i j=>.int (i^j.toNat)):=opI fun _ _ _ _ _ _ _ hc q=>pow_int_small hc.1 hc.2.1 hc.2.2 q
theorem unI {f:Value→Sem Value} {g:Int→Int}
    (rule:∀(i:Int) (t:Tok) (s:Shared) (Q:Value→Shared→Prop) (E:Value→Shared→Prop),Q (.int (g i) s.toks) {s with toks:=s.toks+1}→wpAny (model X.prog X.w) X.A (f (.int i t)) Q E s) :
    UnR X f (rU fun i=>.int (g i)):=by
  intro pins s σ H x v Q I rx h
  obtain ⟨i,rfl,q⟩:=h
  obtain ⟨t,rfl⟩:=rx
  exact rule i t s _ _ ⟨.int (g i),H,I.tok _,⟨_,rfl⟩,q⟩
theorem un_neg:UnR X (unaryOp .USub) (rU fun i=>.int (-i)):=unI fun _ _ _ _ _ q=>neg_int q
end
def scal:V→V→Bool
  | .non,.non=>true | .non,.int _=>true | .int _,.non=>true | .non,.bl _=>true | .bl _,.non=>true | .non,.str _=>true | .str _,.non=>true
  | .int _,.int _=>true | .bl _,.bl _=>true | .str _,.str _=>true | .byt _,.byt _=>true
  | .int _,.str _=>true | .str _,.int _=>true | .bl _,.str _=>true | .str _,.bl _=>true
  | _,_=>false
def rEq:R2:=fun x y H Q=>scal x y=true∧Q (.bl (decide (x=y))) H
def rNe:R2:=fun x y H Q=>scal x y=true∧Q (.bl (!decide (x=y))) H
theorem dec_int {i j:Int}:decide (V.int i=V.int j)=(i==j):=by
  rw [Bool.eq_iff_iff]
  simp
theorem dec_bl {i j:Bool}:decide (V.bl i=V.bl j)=(i==j):=by
  rw [Bool.eq_iff_iff]
  simp
theorem dec_str {i j:Str}:decide (V.str i=V.str j)=(i==j):=by
  rw [Bool.eq_iff_iff]
  simp
theorem dec_byt {i j:Array UInt8}:decide (V.byt i=V.byt j)=(i.toList==j.toList):=by
  rw [Bool.eq_iff_iff]
  cases i
  cases j
  simp
section
variable {X:Cx} {a b c:Expr} {ta tb tc:TE} {pos:Pos}
theorem fin_bl {pins:List (Addr×Obj)} {σ:St} {H:Hp} {s:Shared} {Q:VK} {k k':Bool} (I:Inv X pins σ H s) (q:Q (.bl k) H) (e:k=k'):EP X pins σ Q (.bool k') s:=by
  subst e
  exact ⟨.bl k,H,I,rfl,q⟩
theorem op_eq:OpR X (compareOp .Eq) rEq:=by
  intro pins s σ H x y v u Q I rx ry h
  obtain ⟨hs,q⟩:=h
  cases x with
  | non =>
    cases rx
    cases y with
    | non=>cases ry;exact PySem.EqNone.eq_none_none (fin_bl I q (by simp))
    | bl j=>cases ry;exact PySem.EqNone.eq_none_bool (fin_bl I q (by simp))
    | int j=>obtain ⟨t',rfl⟩:=ry;exact PySem.EqNone.eq_none_int (fin_bl I q (by simp))
    | str j=>obtain ⟨t',rfl⟩:=ry;exact PySem.EqNone.eq_none_str (fin_bl I q (by simp))
    | _=>exact absurd (show false=true from hs) Bool.false_ne_true
  | bl i =>
    cases rx
    cases y with
    | non=>cases ry;exact PySem.EqNone.eq_bool_none (fin_bl I q (by simp))
    | bl j=>cases ry;exact eq_bool (fin_bl I q dec_bl)
    | str j=>obtain ⟨t',rfl⟩:=ry;exact PySem.EqMixed.eq_bool_str (fin_bl I q (by simp))
    | _=>exact absurd (show false=true from hs) Bool.false_ne_true
  | int i =>
    obtain ⟨t,rfl⟩:=rx
    cases y with
    | non=>cases ry;exact PySem.EqNone.eq_int_none (fin_bl I q (by simp))
    | int j=>obtain ⟨t',rfl⟩:=ry;exact eq_int (fin_bl I q dec_int)
    | str j=>obtain ⟨t',rfl⟩:=ry;exact PySem.EqMixed.eq_int_str (fin_bl I q (by simp))
    | _=>exact absurd (show false=true from hs) Bool.false_ne_true
  | str i =>
    obtain ⟨t,rfl⟩:=rx
    cases y with
    | non=>cases ry;exact PySem.EqNone.eq_str_none (fin_bl I q (by simp))
    | bl j=>cases ry;exact PySem.EqMixed.eq_str_bool (fin_bl I q (by simp))
    | int j=>obtain ⟨t',rfl⟩:=ry;exact PySem.EqMixed.eq_str_int (fin_bl I q (by simp))
    | str j=>obtain ⟨t',rfl⟩:=ry;exact eq_str (fin_bl I q dec_str)
    | _=>exact absurd (show false=true from hs) Bool.false_ne_true
  | byt i =>
    obtain ⟨t,rfl⟩:=rx
    cases y with
    | byt j=>obtain ⟨t',rfl⟩:=ry;exact PySem.W.eq_bytes (fin_bl I q dec_byt)
    | _=>exact absurd (show false=true from hs) Bool.false_ne_true
  | _=>cases y<;>exact absurd (show false=true from hs) Bool.false_ne_true
theorem op_ne:OpR X (compareOp .NotEq) rNe:=by
  intro pins s σ H x y v u Q I rx ry h
  obtain ⟨hs,q⟩:=h
  cases x with
  | non =>
    cases rx
    cases y with
    | non=>cases ry;exact PySem.EqNone.ne_none_none (fin_bl I q (by simp))
    | bl j=>cases ry;exact PySem.EqNone.ne_none_bool (fin_bl I q (by simp))
    | int j=>obtain ⟨t',rfl⟩:=ry;exact PySem.EqNone.ne_none_int (fin_bl I q (by simp))
    | str j=>obtain ⟨t',rfl⟩:=ry;exact PySem.EqNone.ne_none_str (fin_bl I q (by simp))
    | _=>exact absurd (show false=true from hs) Bool.false_ne_true
  | bl i =>
    cases rx
    cases y with
    | non=>cases ry;exact PySem.EqNone.ne_bool_none (fin_bl I q (by simp))
    | bl j=>cases ry;exact ne_bool (fin_bl I q (congrArg not dec_bl))
    | str j=>obtain ⟨t',rfl⟩:=ry;exact PySem.EqMixed.ne_bool_str (fin_bl I q (by simp))
    | _=>exact absurd (show false=true from hs) Bool.false_ne_true
  | int i =>
    obtain ⟨t,rfl⟩:=rx
    cases y with
    | non=>cases ry;exact PySem.EqNone.ne_int_none (fin_bl I q (by simp))
    | int j=>obtain ⟨t',rfl⟩:=ry;exact ne_int (fin_bl I q (congrArg not dec_int))
    | str j=>obtain ⟨t',rfl⟩:=ry;exact PySem.EqMixed.ne_int_str (fin_bl I q (by simp))
    | _=>exact absurd (show false=true from hs) Bool.false_ne_true
  | str i =>
    obtain ⟨t,rfl⟩:=rx
    cases y with
    | non=>cases ry;exact PySem.EqNone.ne_str_none (fin_bl I q (by simp))
    | bl j=>cases ry;exact PySem.EqMixed.ne_str_bool (fin_bl I q (by simp))
    | int j=>obtain ⟨t',rfl⟩:=ry;exact PySem.EqMixed.ne_str_int (fin_bl I q (by simp))
    | str j=>obtain ⟨t',rfl⟩:=ry;exact ne_str (fin_bl I q (congrArg not dec_str))
    | _=>exact absurd (show false=true from hs) Bool.false_ne_true
  | byt i =>
    obtain ⟨t,rfl⟩:=rx
    cases y with
    | byt j=>obtain ⟨t',rfl⟩:=ry;exact PySem.W.ne_bytes (fin_bl I q (congrArg not dec_byt))
    | _=>exact absurd (show false=true from hs) Bool.false_ne_true
  | _=>cases y<;>exact absurd (show false=true from hs) Bool.false_ne_true
theorem op_lt:OpR X (compareOp .Lt) (rI0 fun i j=>.bl (decide (i<j))):=opB0 fun _ _ _ _ _ _ _ q=>lt_int q
theorem op_le:OpR X (compareOp .LtE) (rI0 fun i j=>.bl (decide (i≤j))):=opB0 fun _ _ _ _ _ _ _ q=>le_int q
theorem op_gt:OpR X (compareOp .Gt) (rI0 fun i j=>.bl (decide (j<i))):=opB0 fun _ _ _ _ _ _ _ q=>gt_int q
theorem op_isN:OpR X (compareOp .Is) (fun x y H Q=>y=.non∧Q (.bl (decide (x=.non))) H):=by
  intro pins s σ H x y v u Q I rx ry h
  obtain ⟨rfl,q⟩:=h
  cases ry
  refine is_none_gen (fin_bl I q ?_)
  cases x<;>first
    | (cases rx;rfl)
    | (obtain ⟨t,rfl⟩:=rx;rfl)
theorem OpR.or {f:Value→Value→Sem Value} {r r':R2} (h:OpR X f r) (h':OpR X f r'):OpR X f (fun x y H Q=>r x y H Q∨r' x y H Q):=by
  intro pins s σ H x y v u Q I rx ry q
  rcases q with q | q
  · exact h pins s σ H x y v u Q I rx ry q
  · exact h' pins s σ H x y v u Q I rx ry q
theorem nomark (b:Expr) {op:CmpOp} (h:op≠.In:=by decide) (h2:op≠.NotIn:=by decide):behindInMarks op b=false:=by
  have e1:(op==CmpOp.In)=false:=by cases op<;>first | rfl | exact absurd rfl h
  have e2:(op==CmpOp.NotIn)=false:=by cases op<;>first | rfl | exact absurd rfl h2
  cases b<;>simp [behindInMarks,e1,e2]
theorem pe_cmpR {op:CmpOp} {r:R2} (ho:OpR X (compareOp op) r) (ha:PE X a ta) (hb:PE X b tb) (hm:behindInMarks op b=false):PE X (.Compare a [op] [b] pos) (tOp r ta tb):=by
  intro pins s σ H Q I h
  exact wpAny_Compare1 (binT ha hb I h fun v u s2 x y H2 I2 rx ry q=>ho pins s2 σ H2 x y v u Q I2 rx ry q) hm
def tTest (t:TE):TT:=fun σ H Q=>t σ H fun x H'=>∃k,x=.bl k∧Q k H'
theorem pt_cmpR {op:CmpOp} {r:R2} (ho:OpR X (compareOp op) r) (ha:PE X a ta) (hb:PE X b tb) (hm:behindInMarks op b=false):PT X (.Compare a [op] [b] pos) (tTest (tOp r ta tb)):=by
  intro pins s σ H Q I h
  refine wpAny_isTrue_Compare1 (thn (ha pins s σ H _ I h) fun v s1 ⟨x,H1,I1,r1,q1⟩=>thn (hb pins s1 σ H1 _ I1 q1) fun u s2 ⟨y,H2,I2,r2,q2⟩ =>
    thn (ho pins s2 σ H2 x y v u _ I2 r1 r2 q2) fun c s3 ⟨z,H3,I3,r3,k,e,q3⟩=>?_) hm
  subst e
  cases r3
  exact wpAny_truthy_bool ⟨H3,I3,q3⟩
def tChain (r r':R2) (ta tb tc:TE):TE:=fun σ H Q=>ta σ H fun x H1=>tb σ H1 fun y H2=>r x y H2 fun z H3=>∃k,z=.bl k ∧
  (if k=true then tc σ H3 fun w' H4=>r' y w' H4 Q else Q (.bl false) H3)
theorem pe_chain {op op':CmpOp} {r r':R2} (ho:OpR X (compareOp op) r) (ho':OpR X (compareOp op') r') (ha:PE X a ta) (hb:PE X b tb) (hc:PE X c tc)
    (hm:lastMarks [op,op'] [b,c]=false:=by with_unfolding_all rfl):PE X (.Compare a [op,op'] [b,c] pos) (tChain r r' ta tb tc):=by
  intro pins s σ H Q I h
  refine Compare_chain (thn (ha pins s σ H _ I h) fun v s1 ⟨x,H1,I1,r1,q1⟩=>chain_link (thn (hb pins s1 σ H1 _ I1 q1) fun u s2 ⟨y,H2,I2,r2,q2⟩ =>
    thn (ho pins s2 σ H2 x y v u _ I2 r1 r2 q2) fun d s3 ⟨z,H3,I3,r3,k,e,q3⟩=>?_)) hm
  subst e
  cases r3
  refine wpAny_truthy_bool ?_
  cases k with
  | false=>exact ite_ff ⟨.bl false,H3,I3,rfl,q3⟩
  | true=>exact ite_tt (chain_last (thn (hc pins s3 σ H3 _ I3 q3) fun w' s4 ⟨z',H4,I4,r4,q4⟩=>ho' pins s4 σ H4 y z' u w' Q I4 r2 r4 q4))
theorem pt_chain {op op':CmpOp} {r r':R2} (ho:OpR X (compareOp op) r) (ho':OpR X (compareOp op') r') (ha:PE X a ta) (hb:PE X b tb) (hc:PE X c tc)
    (hm:lastMarks [op,op'] [b,c]=false:=by with_unfolding_all rfl):PT X (.Compare a [op,op'] [b,c] pos) (tTest (tChain r r' ta tb tc)):=by
  intro pins s σ H Q I h
  refine isTrue_chain (thn (ha pins s σ H _ I h) fun v s1 ⟨x,H1,I1,r1,q1⟩=>test_link (thn (hb pins s1 σ H1 _ I1 q1) fun u s2 ⟨y,H2,I2,r2,q2⟩ =>
    thn (ho pins s2 σ H2 x y v u _ I2 r1 r2 q2) fun d s3 ⟨z,H3,I3,r3,k,e,q3⟩=>?_)) hm
  subst e
  cases r3
  refine wpAny_truthy_bool ?_
  cases k with
  | false =>
    obtain ⟨k',e',q'⟩:=q3
    cases e'
    exact ite_ff ⟨H3,I3,q'⟩
  | true =>
    refine ite_tt (test_last (thn (hc pins s3 σ H3 _ I3 q3) fun w' s4 ⟨z',H4,I4,r4,q4⟩=>thn (ho' pins s4 σ H4 y z' u w' _ I4 r2 r4 q4) fun d' s5 ⟨z2,H5,I5,r5,k2,e2,q5⟩=>?_))
    subst e2
    cases r5
    exact wpAny_truthy_bool ⟨H5,I5,q5⟩
def TruV (K:PySem.W.Frag) (x:V) (H:Hp) (k:Bool):Prop :=
  match x with
  | .non=>k=false
  | .bl b=>k=b
  | .int i=>k=(i != 0)
  | .str y=>y.length≤sizeLine∧k=((y.length:Int) != 0)
  | .byt y=>y.size≤sizeLine∧k=((y.size:Int) != 0)
  | .ref p=>(∃xs,SqL K H p xs∧k=!xs.isEmpty)∨(∃xs,SqT K H p xs∧k=!xs.isEmpty)∨∃kvs,H p=some (.dK kvs)∧k=!kvs.isEmpty
  | _=>False
theorem isEmpty_kv {κ:Type} {kvs:List (κ×V)} {vs:List (κ×Value)} (r:KV kvs vs):(!vs.isEmpty)=!kvs.isEmpty:=by
  cases r<;>rfl
theorem isEmpty_of {xs:List V} {its:List Value} (r:Vals xs its):(!its.toArray.isEmpty)=!xs.isEmpty:=by
  cases r<;>simp
theorem line63:(sizeLine:Nat)<2^63:=by rw [sizeLine_eq];decide
theorem tru_ok:TruR X (fun x H Q=>∃k,TruV X.K x H k∧Q k H):=by
  intro pins s σ H x v Q I rx h
  obtain ⟨k,e,q⟩:=h
  have hl:=line63
  have hs:sizeLine=16777216:=sizeLine_eq
  cases x with
  | non =>
    cases rx
    have e':k=false:=e
    subst e'
    exact truthy_none ⟨H,I,q⟩
  | bl b =>
    cases rx
    have e':k=b:=e
    subst e'
    exact wpAny_truthy_bool ⟨H,I,q⟩
  | int i =>
    obtain ⟨t,rfl⟩:=rx
    have e':k=(i != 0):=e
    subst e'
    exact PySem.P.truthy_int ⟨H,I,q⟩
  | str y =>
    obtain ⟨t,rfl⟩:=rx
    obtain ⟨hy,e'⟩:y.length≤sizeLine∧k=((y.length:Int) != 0):=e
    subst e'
    exact PySem.P.truthy_str (by omega) ⟨H,I.tok _,q⟩
  | byt y =>
    obtain ⟨t,rfl⟩:=rx
    obtain ⟨hy,e'⟩:y.size≤sizeLine∧k=((y.size:Int) != 0):=e
    subst e'
    exact PySem.W.truthy_bytes (by omega) ⟨H,I.tok _,q⟩
  | ref p =>
    cases rx
    have e':(∃xs,SqL X.K H p xs∧k=!xs.isEmpty)∨(∃xs,SqT X.K H p xs∧k=!xs.isEmpty)∨∃kvs,H p=some (.dK kvs)∧k=!kvs.isEmpty:=e
    rcases e' with ⟨xs,hx,e'⟩ | ⟨xs,hx,e'⟩ | ⟨kvs,hx,e'⟩
    · subst e'
      obtain ⟨its,r,pl,hz⟩:=I.list hx
      have hlen:=r.length
      exact wpAny_truthy_list pl.isList (by simp only [List.size_toArray];omega) ⟨H,I.tok _,by rw [isEmpty_of r];exact q⟩
    · subst e'
      obtain ⟨its,r,pl,hz⟩:=I.tuple hx
      have hlen:=r.length
      exact truthy_tuple pl (by simp only [List.size_toArray];omega) ⟨H,I.tok _,by rw [isEmpty_of r];exact q⟩
    · subst e'
      obtain ⟨hz,hS,vs,r,m⟩:kvs.length≤sizeLine∧(p==sysModules)=false∧∃vs,KV kvs vs∧s.heap.DictOf (mixKind X.prog X.w) p vs:=I.hok p _ hx
      have hlen:kvs.length=vs.length:=Paired.length r
      exact wpAny_truthy_dict hS m (by omega) ⟨H,I.tok _,by rw [isEmpty_kv r];exact q⟩
  | _=>exact (show False from e).elim
theorem pt_truth (ha:PE X a ta) (he:∀whole,isTrue a X.env whole=(do let v ←whole;standAt a.pos;holding [v] (truthy v))) :
    PT X a (fun σ H Q=>ta σ H fun x H'=>∃k,TruV X.K x H' k∧Q k H'):=by
  intro pins s σ H Q I h
  exact isTrue_plain (thn (ha pins s σ H _ I h) fun v s1 ⟨x,H1,I1,r1,q1⟩=>tru_ok pins s1 σ H1 x v Q I1 r1 q1) (he _)
theorem vals1 {x:V} {us:List Value} (r:Vals [x] us):∃u,us=[u]∧RelV x u:=by
  cases r with
  | cons r1 r2=>cases r2;exact ⟨_,rfl,r1⟩
theorem vals2 {x y:V} {us:List Value} (r:Vals [x,y] us):∃u w',us=[u,w']∧RelV x u∧RelV y w':=by
  cases r with
  | cons r1 r2 =>
    cases r2 with
    | cons r3 r4=>cases r4;exact ⟨_,_,rfl,r1,r3⟩
theorem call_max2 (hc:X.calm=true):CallR X (.builtin "max") (fun xs H Q=>∃i j,xs=[.int i,.int j]∧Q (.int (if j>i then j else i)) H):=by
  intro pins s σ H xs us Q I r h
  obtain ⟨i,j,rfl,q⟩:=h
  obtain ⟨u,w',rfl,⟨t,rfl⟩,⟨t',rfl⟩⟩:=vals2 r
  refine max_two_ints (I.ok.hd hc) fun h' tk k=>⟨_,H,I.kept k,?_,q⟩
  by_cases hj:j>i
  · rw [if_pos hj,if_pos hj];exact ⟨_,rfl⟩
  · rw [if_neg hj,if_neg hj];exact ⟨_,rfl⟩
theorem call_min2 (hc:X.calm=true):CallR X (.builtin "min") (fun xs H Q=>∃i j,xs=[.int i,.int j]∧Q (.int (if j<i then j else i)) H):=by
  intro pins s σ H xs us Q I r h
  obtain ⟨i,j,rfl,q⟩:=h
  obtain ⟨u,w',rfl,⟨t,rfl⟩,⟨t',rfl⟩⟩:=vals2 r
  refine min_two_ints (I.ok.hd hc) fun h' tk k=>⟨_,H,I.kept k,?_,q⟩
  by_cases hj:j<i
  · rw [if_pos hj,if_pos hj];exact ⟨_,rfl⟩
  · rw [if_neg hj,if_neg hj];exact ⟨_,rfl⟩
end
end L2
namespace L2
open PySem PySem.Spec PyProof.Rows
structure ObjM (h:Heap) (x dx C:Addr) (mA:Str→Option Value):Prop where
  obj:h.get? x=some (PySem.W.instObj C dx)
  ns:h.Ns1 dx mA
  ne:dx≠x
theorem lookIn_ns {h:Heap} {dx:Addr} {mA:Str→Option Value} (n:h.Ns1 dx mA):∃od,h.get? dx=some od∧∀name,PySem.W.lookIn name od=some (mA name):=by
  obtain ⟨o,es,ep,ho,hd,hk,_,hm⟩:=n
  refine ⟨o,ho,fun name=>?_⟩
  have e:=hm name
  unfold nsFind findBy at e
  rw [←Array.find?_toList] at e
  unfold PySem.W.lookIn
  rw [hd]
  dsimp only
  split
  · rename_i y q
    rw [q] at e
    exact congrArg some e
  · rename_i q
    rw [q] at e
    have a:es.toList.any (·.refKey)=false:=by
      rw [List.any_eq_false]
      intro y hy
      obtain ⟨z,t,hkey⟩:=hk y (Array.mem_toList_iff.mp hy)
      simp [DictEntry.refKey,hkey]
    have a':¬es.toList.any (·.refKey)=true:=by rw [a];exact Bool.false_ne_true
    rw [if_neg a']
    exact congrArg some e
theorem ObjM.look {h:Heap} {x dx C:Addr} {mA:Str→Option Value} (I:ObjM h x dx C mA):∃od,PySem.W.InstAt h x (PySem.W.instObj C dx) C (some od)∧∀name,PySem.W.lookIn name od=some (mA name) :=
  let ⟨od,ho,hl⟩:=lookIn_ns I.ns
  ⟨od,⟨I.obj,rfl,rfl,ho⟩,hl⟩
section
variable {prog:Program} {w:World} {A:Around} {E:Value→Shared→Prop} {s:Shared} {K:PySem.W.Frag} {x dx C f:Addr} {mA:Str→Option Value} {name:Str} {v:Value}
theorem get_map {expr:Bool} {Q:Value→Shared→Prop} (X:K.In s.heap) (I:ObjM s.heap x dx C mA) (hg:PySem.W.plainGet K C name=true) (hh:PySem.W.hasDictIn K C=true)
    (ha:PySem.W.findIn K (.ref C) name=some none) (hv:mA name=some v) (hv':PySem.W.handedIn v=true) (h:Q v {s with toks:=s.toks+1}) :
    wpAny (model prog w) A (getAttr (.ref x) name expr) Q E s:=by
  obtain ⟨od,J,hl⟩:=I.look
  exact PySem.W.get_value X J (PySem.W.plainGet_of hg).1 (PySem.W.findObj_own hh ha rfl (by rw [hl,hv])) hv' h
theorem set_map {ns:List Str} {Q:Unit→Shared→Prop} (X:K.In s.heap) (I:ObjM s.heap x dx C mA)
    (hs:PySem.W.findIn K (.ref C) "__setattr__"=some (some (.builtin "object.__setattr__"))) (hp:PySem.W.plainOver K C=true) (ht:PySem.W.takerIn K C name=some none) (hh:PySem.W.hasDictIn K C=true)
    (hw:PySem.Within mA ns) (hsz:ns.length≤sizeLine)
    (h:∀h',ObjM h' x dx C (fun y=>if y=name then some v else mA y)→Heap.SameBut dx s.heap h'→Q () {s with heap:=h',toks:=s.toks+2}) :
    wpAny (model prog w) A (setAttr (.ref x) name v) Q E s:=by
  obtain ⟨od,J,hl⟩:=I.look
  refine PySem.W.set_plain X J hs (PySem.W.osa_open (s:={s with toks:=s.toks+1}) (r:=none) X J hp ht fun b=>?_)
  obtain ⟨cd,hc,hd'⟩:=PySem.W.any_some hh
  have hx:s.heap.get? x=some ⟨.ref C,some dx,.plain,#[]⟩:=I.obj
  refine wpAny_bind (wpAny_pure (wpAny_bind (wpAny_bind (wpAny_loadPart hx (wpAny_bind (PySem.W.Looks.here (s:={s with toks:=s.toks+1}) (PySem.W.looks_clsIn X hc) ?_))))))
  rw [hd']
  refine wpAny_pure (a:=some dx) (wpAny_bind (wpAny_pure (wpAny_bind ?_)))
  refine wpAny_nsSet1 (s:={s with toks:=s.toks+1}) I.ns fun h' hn2 hs2=>?_
  obtain ⟨oD,esD,epD,hoD,hdD,hcD⟩:=hn2.count (PySem.Within.cons name v hw)
  refine wpAny_bind (wpAny_lookBehind hoD (by rw [hdD];exact pastItsLine_dict (Nat.le_trans hcD (by rw [List.length_cons];omega))) ?_)
  exact wpAny_pure (h _ ⟨(hs2.2 _ (Ne.symm I.ne)).trans I.obj,hn2,I.ne⟩ hs2)
theorem make_map {R:Result→Shared→Prop} {vs:List Value} {kw:List (Str×Value)} (X:K.In s.heap) (hm:PySem.W.makesIn K C=true)
    (hi:PySem.W.findIn K (.ref C) "__init__"=some (some (.ref f))) (hf:PySem.W.typeIn K (.ref f)=some (.type "function"))
    (h:codeAny (model prog w) (A.under (.builtin "type.__call__" ⟨.ref C::vs,kw⟩)) (.call (.ref f) ⟨.ref (s.heap.objs.size+1)::vs,kw⟩) (PySem.W.InitBack (s.heap.objs.size+1) R)
      {s with heap:=(s.heap.push PySem.W.emptyDict).push (PySem.W.instObj C s.heap.objs.size)}) :
    codeAny (model prog w) A (.call (.ref C) ⟨vs,kw⟩) R s:=by
  obtain ⟨hh,g,d,t,os⟩:=s
  exact PySem.W.make_core (PySem.W.makes_of X hm) (PySem.W.looks_findIn X hi) (fun self=>PySem.W.bind_fn X self hf) (.inl rfl) h
end
def putF (f:Str) (v:V):List (Str×V)→List (Str×V)
  | []=>[(f,v)]
  | (g,x)::r=>if g=f then (g,v)::r else (g,x)::putF f v r
theorem lookup_putF (f g:Str) (v:V):∀fs:List (Str×V),(putF f v fs).lookup g=if g=f then some v else fs.lookup g
  | []=>by
    show List.lookup g [(f,v)]=_
    by_cases h:g=f
    · have hb:(g==f)=true:=beq_iff_eq.mpr h
      simp only [List.lookup,hb,if_pos h]
    · have hb:(g==f)=false:=beq_eq_false_iff_ne.mpr h
      simp only [List.lookup,hb,if_neg h]
  | (k,x)::r=>by
    have ih:=lookup_putF f g v r
    rw [show putF f v ((k,x)::r)=(if k=f then (k,v)::r else (k,x)::putF f v r) from rfl]
    by_cases hk:k=f
    · rw [if_pos hk]
      by_cases h:g=k
      · have hb:(g==k)=true:=beq_iff_eq.mpr h
        simp only [List.lookup,hb,if_pos (h.trans hk)]
      · have hb:(g==k)=false:=beq_eq_false_iff_ne.mpr h
        simp only [List.lookup,hb,if_neg (fun e:g=f=>h (e.trans hk.symm))]
    · rw [if_neg hk]
      by_cases h:g=k
      · have hb:(g==k)=true:=beq_iff_eq.mpr h
        simp only [List.lookup,hb,if_neg (fun e:g=f=>hk (h.symm.trans e))]
      · have hb:(g==k)=false:=beq_eq_false_iff_ne.mpr h
        simp only [List.lookup,hb]
        exact ih
theorem keys_putF (f:Str) (v:V):∀fs:List (Str×V),f∈(putF f v fs).map (·.1)∧∀g,g∈fs.map (·.1)→g∈(putF f v fs).map (·.1)
  | []=>⟨by simp [putF],fun g h=>by simp at h⟩
  | (k,x)::r=>by
    obtain ⟨i1,i2⟩:=keys_putF f v r
    rw [show putF f v ((k,x)::r)=(if k=f then (k,v)::r else (k,x)::putF f v r) from rfl]
    by_cases hk:k=f
    · rw [if_pos hk]
      subst hk
      exact ⟨by simp,fun g h=>by simpa using h⟩
    · rw [if_neg hk]
      refine ⟨?_,fun g h=>?_⟩
      · rw [List.map_cons]
        exact List.mem_cons_of_mem _ i1
      · rw [List.map_cons] at h ⊢
        rcases List.mem_cons.mp h with e | e
        · exact List.mem_cons.mpr (.inl e)
        · exact List.mem_cons_of_mem _ (i2 g e)
theorem length_putF (f:Str) (v:V):∀fs:List (Str×V),(putF f v fs).length≤fs.length+1
  | []=>by simp [putF]
  | (k,x)::r=>by
    have ih:=length_putF f v r
    rw [show putF f v ((k,x)::r)=(if k=f then (k,v)::r else (k,x)::putF f v r) from rfl]
    by_cases hk:k=f
    · rw [if_pos hk,List.length_cons,List.length_cons];omega
    · rw [if_neg hk,List.length_cons,List.length_cons];omega
theorem RelO.some_of {v:V} {o:Option Value} (r:RelO (some v) o):∃u,o=some u∧RelV v u:=by
  cases o with
  | none=>exact (show False from r).elim
  | some u=>exact ⟨u,rfl,r⟩
theorem handed_of {v:V} {u:Value} (r:RelV v u):PySem.W.handedIn u=true:=by
  cases v with
  | non=>cases (show u=Value.none from r);rfl
  | bl b=>cases (show u=Value.bool b from r);rfl
  | int i=>obtain ⟨t,e⟩:=(show ∃t,u=Value.int i t from r);cases e;rfl
  | str x=>obtain ⟨t,e⟩:=(show ∃t,u=Value.str x t from r);cases e;rfl
  | byt b=>obtain ⟨t,e⟩:=(show ∃t,u=Value.bytes b t from r);cases e;rfl
  | flt b=>obtain ⟨t,e⟩:=(show ∃t,u=Value.float b t from r);cases e;rfl
  | ref a=>cases (show u=Value.ref a from r);rfl
  | ty n=>cases (show u=Value.type n from r);rfl
section
variable {P:Program} {w:World} {H H':Hp} {h h':Heap} {a C dx:Addr} {fs fs':List (Str×V)}
theorem ins_get (hok:HOk P w H h) (e:H a=some (.ins C dx fs)):∃mA,ObjM h a dx C mA∧(∀f,RelO (fs.lookup f) (mA f))∧PySem.Within mA (fs.map (·.1))∧fs.length≤1000∧H dx=some (.own a):=by
  obtain ⟨d,z,ne,ob,mA,n,r,q⟩:=(show ObjOk P w H h a (.ins C dx fs) from hok a _ e)
  exact ⟨mA,⟨ob,n,ne⟩,r,q,z,d⟩
end
structure Cls (K:PySem.W.Frag) (C:Addr):Prop where
  pg:PySem.W.plainGet K C Str.empty=true
  hd:PySem.W.hasDictIn K C=true
  po:PySem.W.plainOver K C=true
  sa:PySem.W.findIn K (.ref C) "__setattr__"=some (some (.builtin "object.__setattr__"))
theorem Cls.get {K:PySem.W.Frag} {C:Addr} (c:Cls K C) (f:Str):PySem.W.plainGet K C f=true:=c.pg
def NoAttr (K:PySem.W.Frag) (C:Addr) (f:Str):Prop:=PySem.W.findIn K (.ref C) f=some none
theorem NoAttr.taker {K:PySem.W.Frag} {C:Addr} {f:Str} (n:NoAttr K C f):PySem.W.takerIn K C f=some none:=by
  unfold PySem.W.takerIn
  rw [show PySem.W.findIn K (.ref C) f=some none from n]
  rfl
structure Con (K:PySem.W.Frag) (C:Addr) (f:Str) (v:V) (u:Value):Prop where
  at_:PySem.W.findIn K (.ref C) f=some (some u)
  rel:RelV v u
  get:PySem.W.specialIn K u "__get__"=some none
  cp:PySem.W.copiedNames.contains f=false
structure Meth (K:PySem.W.Frag) (C:Addr) (m:Str) (f:Addr):Prop where
  at_:PySem.W.findIn K (.ref C) m=some (some (.ref f))
  fn:PySem.W.isFn K (.ref f)=true
  kp:PySem.W.keepIn K (.ref f)=true
section
variable {X:Cx} {pins:List (Addr×Obj)} {σ:St} {H:Hp} {s:Shared} {a C dx:Addr} {fs:List (Str×V)} {f:Str} {v:V} {A:Around} {E:Value→Shared→Prop}
theorem getattr_ok {b:Bool} {Q:Value→Shared→Prop} (I:Inv X pins σ H s) (e:H a=some (.ins C dx fs)) (c:Cls X.K C) (n:NoAttr X.K C f) (l:fs.lookup f=some v)
    (h:∀u s',Inv X pins σ H s'→RelV v u→Q u s'):wpAny (model X.prog X.w) A (getAttr (.ref a) f b) Q E s:=by
  obtain ⟨mA,O,r,_,_,_⟩:=ins_get I.hok e
  obtain ⟨u,hu,ru⟩:=RelO.some_of (v:=v) (o:=mA f) (by rw [←l];exact r f)
  exact get_map I.kIn O (c.get f) c.hd n hu (handed_of ru) (h u _ (I.tok _) ru)
theorem setattr_ok {y:V} {u:Value} {Q:Unit→Shared→Prop} (I:Inv X pins σ H s) (e:H a=some (.ins C dx fs)) (c:Cls X.K C) (n:NoAttr X.K C f) (hl:fs.length<1000) (ry:RelV y u)
    (h:∀s',Inv X pins σ (upd H a (.ins C dx (putF f y fs))) s'→Q () s'):wpAny (model X.prog X.w) A (setAttr (.ref a) f u) Q E s:=by
  obtain ⟨mA,O,r,wi,_,ho⟩:=ins_get I.hok e
  have hz:(fs.map (·.1)).length≤sizeLine:=by rw [List.length_map,sizeLine_eq];omega
  refine set_map I.kIn O c.sa c.po n.taker c.hd wi hz fun h' O' sb=>h _ ?_
  have hd:∃o,h'.get? dx=some o:=let ⟨o,_,_,e',_⟩:=O'.ns;⟨o,e'⟩
  refine I.write (x:=a) (e:=dx) (by rw [e];exact True.intro) (.inr ho) (fun b q hb z=>(sb.2 b hb).trans z) hd ?_
  refine ⟨by rw [upd_ne O.ne];exact ho,?_,O.ne,O'.obj,_,O'.ns,fun g=>?_,fun g hg=>?_⟩
  · have:=length_putF f y fs;omega
  · show RelO ((putF f y fs).lookup g) (if g=f then some u else mA g)
    rw [lookup_putF]
    by_cases q:g=f
    · rw [if_pos q,if_pos q];exact ry
    · rw [if_neg q,if_neg q];exact r g
  · by_cases q:g=f
    · rw [q];exact (keys_putF f y fs).1
    · refine (keys_putF f y fs).2 g (wi g fun z=>hg ?_)
      show (if g=f then some u else mA g)=none
      rw [if_neg q];exact z
theorem Inv.made (I:Inv X pins σ H s):Inv X pins σ (upd (upd H s.heap.objs.size (.own (s.heap.objs.size+1))) (s.heap.objs.size+1) (.ins C s.heap.objs.size []))
    {s with heap:=(s.heap.push PySem.W.emptyDict).push (PySem.W.instObj C s.heap.objs.size)}:=by
  have e1:(s.heap.push PySem.W.emptyDict).get? s.heap.objs.size=some PySem.W.emptyDict:=Heap.get?_push_size s.heap rfl
  have e2:((s.heap.push PySem.W.emptyDict).push (PySem.W.instObj C s.heap.objs.size)).get? (s.heap.objs.size+1)=some (PySem.W.instObj C s.heap.objs.size):=by
    have:=Heap.get?_push_size (s.heap.push PySem.W.emptyDict) (o:=PySem.W.instObj C s.heap.objs.size) rfl
    rwa [Heap.size_push] at this
  have e3:(s.heap.push PySem.W.emptyDict).Ns s.heap.objs.size (fun _=>none):=⟨PySem.W.emptyDict,#[],_,e1,rfl,(fun e he=>absurd he (by simp)),fun _=>rfl⟩
  have I1:=I.laid (a:=s.heap.objs.size) (o:=.own (s.heap.objs.size+1)) (h':=s.heap.push PySem.W.emptyDict) (t':=s.toks) (fun b u q=>Heap.get?_push_of_some _ q) (Nat.le_refl _) ⟨_,e1⟩
  refine I1.laid (a:=s.heap.objs.size+1) (o:=.ins C s.heap.objs.size []) (t':=s.toks) (fun b u q=>Heap.get?_push_of_some _ q) (Nat.le_of_eq (Heap.size_push _ _)) ?_
  have ne:s.heap.objs.size≠s.heap.objs.size+1:=Nat.ne_of_lt (Nat.lt_succ_self _)
  refine ⟨by rw [upd_ne ne,upd_same],Nat.zero_le _,ne,e2,fun _=>none,(Heap.Ns1.of_empty e3).at fun o q=>Heap.get?_push_of_some _ q,fun _=>True.intro,fun y hy=>absurd rfl hy⟩
theorem attr_of {prog:Program} {w:World} {env:Env} {e:Expr} {f:Str} {pos:Pos} {s:Shared} {Q:Value→Shared→Prop} (hb:attributeBase e f env (eval e env)=eval e env)
    (h:wpAny (model prog w) A (eval e env) (fun o s₁=>wpAny (model prog w) A (getAttr o f true) Q E s₁) E s):wpAny (model prog w) A (eval (.Attribute e f pos) env) Q E s :=
  Attribute_any_ h (by rw [arm_eval_Attribute,hb])
end
def sFld (K:PySem.W.Frag) (ta tv:TE) (f:Str):TS:=fun D σ H=>tv σ H fun y H1=>ta σ H1 fun x H2=>∃a C dx fs,x=.ref a∧H2 a=some (.ins C dx fs)∧Cls K C∧NoAttr K C f∧fs.length<1000 ∧
  D.nx σ (upd H2 a (.ins C dx (putF f y fs)))
section
variable {X:Cx} {o e value:Expr} {f:Str} {pos pos' tpos:Pos} {ta tv:TE}
theorem ps_fld (ha:PE X o ta) (hv:PE X value tv) (hs:swapsWith value (some (.Attribute o f pos')) pos.line X.env=pure false):PS X (.Assign [.Attribute o f pos'] value pos) (sFld X.K ta tv f):=by
  intro pins s σ H D I h
  refine plainObj_wpAny_Assign_Attribute (thn (hv pins s σ H _ I h) fun u s1 ⟨y,H1,I1,ry,q⟩=>thn (ha pins s1 σ H1 _ I1 q) fun ov s2 ⟨x,H2,I2,rx,a,C,dx,fs,ex,ea,c,n,l,q2⟩=>?_) hs
  subst ex
  obtain rfl:ov=Value.ref a:=rx
  exact setattr_ok I2 ea c n l ry fun s3 I3=>⟨σ,_,I3,q2⟩
end
section
variable {X:Cx} {pins:List (Addr×Obj)} {σ:St} {H:Hp} {s:Shared} {A:Around} {E:Value→Shared→Prop} {Q:Value→Shared→Prop} {c:Value} {b:Bool}
inductive TyOf (K:PySem.W.Frag) (H:Hp):V→Value→Prop where
  | non:TyOf K H .non (.type "NoneType")
  | bl (x:Bool):TyOf K H (.bl x) (.type "bool")
  | int (i:Int):TyOf K H (.int i) (.type "int")
  | str (x:Str):TyOf K H (.str x) (.type "str")
  | flt (x:UInt64):TyOf K H (.flt x) (.type "float")
  | lst {a:Addr} {xs:List V} (e:H a=some (.lst xs)):TyOf K H (.ref a) (.type "list")
  | frz {a:Addr} {o:Obj} {xs:List V} (e:H a=some (.frz o (.lst xs))):TyOf K H (.ref a) (.type "list")
  | tup {a:Addr} {xs:List V} (e:H a=some (.tup xs)):TyOf K H (.ref a) (.type "tuple")
  | dK {a:Addr} {kvs:List (Key×V)} (e:H a=some (.dK kvs)):TyOf K H (.ref a) (.type "dict")
  | dT {a:Addr} {kvs:List (List Key×V)} (e:H a=some (.dT kvs)):TyOf K H (.ref a) (.type "dict")
  | ins {a C dx:Addr} {fs:List (Str×V)} (e:H a=some (.ins C dx fs)) (cl:Cls K C) (ha:PySem.W.findIn K (.ref C) "__class__"=some (some (.builtin "object.__class__")))
      (hn:PySem.W.specialIn K (.builtin "object.__class__") "__get__"=some (some (.builtin "getset_descriptor.__get__"))) (htk:PySem.W.takesIn K (.builtin "object.__class__")=some true)
      (hm:PySem.W.mroIn K C (.type "object")=some true):TyOf K H (.ref a) (.ref C)
theorem isinst_ok {x:V} {u t:Value} (I:Inv X pins σ H s) (rx:RelV x u) (ty:TyOf X.K H x t) (e:PySem.W.kitOne X.K t c=some b) (h:∀tk,Q (.bool b) {s with toks:=tk}) :
    wpAny (model X.prog X.w) A (call (.builtin "isinstance") [u,c]) Q E s:=by
  cases ty with
  | non=>cases (show u=Value.none from rx);exact PySem.W.kia_one PySem.W.kitx_none I.kIn True.intro e (fun z=>nomatch z) h
  | bl y=>cases (show u=Value.bool y from rx);exact PySem.W.kia_one PySem.W.kitx_bool I.kIn True.intro e (fun z=>nomatch z) h
  | int i=>obtain ⟨t,q⟩:=(show ∃t,u=Value.int i t from rx);cases q;exact PySem.W.kia_one PySem.W.kitx_int I.kIn True.intro e (fun z=>nomatch z) h
  | str y=>obtain ⟨t,q⟩:=(show ∃t,u=Value.str y t from rx);cases q;exact PySem.W.kia_one PySem.W.kitx_str I.kIn True.intro e (fun z=>nomatch z) h
  | flt y=>obtain ⟨t,q⟩:=(show ∃t,u=Value.float y t from rx);cases q;exact PySem.W.kia_one PySem.W.kitx_float I.kIn True.intro e (fun z=>nomatch z) h
  | @lst a xs ea =>
    cases (show u=Value.ref a from rx)
    obtain ⟨_,_,n,_,h1⟩:=(show ObjOk X.prog X.w H s.heap a (.lst xs) from I.hok a _ ea)
    exact PySem.W.kia_one PySem.W.kitx_list I.kIn ⟨_,h1,rfl⟩ e (fun z=>nomatch z) h
  | @frz a ob xs ea =>
    cases (show u=Value.ref a from rx)
    obtain ⟨_,_,_,n,_,h1⟩:=(show ObjOk X.prog X.w H s.heap a (.frz ob (.lst xs)) from I.hok a _ ea)
    exact PySem.W.kia_one PySem.W.kitx_list I.kIn ⟨_,h1,rfl⟩ e (fun z=>nomatch z) h
  | @tup a xs ea =>
    cases (show u=Value.ref a from rx)
    obtain ⟨_,_,_,p⟩:=(show ObjOk X.prog X.w H s.heap a (.tup xs) from I.hok a _ ea)
    obtain ⟨o,h1,h2,_⟩:=p
    exact PySem.W.kia_one PySem.W.kitx_tuple I.kIn ⟨o,h1,h2⟩ e (fun z=>nomatch z) h
  | @dK a kvs ea =>
    cases (show u=Value.ref a from rx)
    obtain ⟨_,_,vs,_,p⟩:=(show ObjOk X.prog X.w H s.heap a (.dK kvs) from I.hok a _ ea)
    obtain ⟨o,es,ep,h1,h2,_⟩:=p
    exact PySem.W.kia_one PySem.W.kitx_dict I.kIn ⟨o,h1,h2.1⟩ e (fun z=>nomatch z) h
  | @dT a kvs ea =>
    cases (show u=Value.ref a from rx)
    obtain ⟨_,_,xs,_,o,es,ep,h1,h2,_⟩:=(show ObjOk X.prog X.w H s.heap a (.dT kvs) from I.hok a _ ea)
    exact PySem.W.kia_one PySem.W.kitx_dict I.kIn ⟨o,h1,h2.1⟩ e (fun z=>nomatch z) h
  | @ins a C dx fs ea cl ha hn htk hm =>
    cases (show u=Value.ref a from rx)
    obtain ⟨mA,O,_⟩:=ins_get I.hok ea
    obtain ⟨od,J,_⟩:=O.look
    exact PySem.W.kia_one (PySem.W.kitx_own (cl.get _) cl.hd ha hn htk hm) I.kIn J e (fun z=>nomatch z) h
end
end L2
namespace L2
open PySem PySem.Spec PyProof.Rows
structure Room (k:Nat) (A:Around):Prop where
  hd:A.handled=none
  dp:A.depth+3*k+5<recursionLimit
  un:A.units+16*k+200<cLine
theorem Room.mono {j k:Nat} {A:Around} (r:Room k A) (h:j≤k):Room j A:=⟨r.hd,by have:=r.dp;omega,by have:=r.un;omega⟩
theorem Room.deeper {k:Nat} {A:Around} (r:Room (k+1) A) (env:Env):Room k (A.deeper env) :=
  ⟨r.hd,by have:=r.dp;show A.depth+1+3*k+5<_;omega,by have:=r.un;show A.units+3+16*k+200<_;omega⟩
theorem Room.in1 {k:Nat} {A:Around} (r:Room (k+1) A):Room k A.in1 :=
  ⟨r.hd,by have:=r.dp;show A.depth+3*k+5<_;omega,by have:=r.un;show A.units+1+16*k+200<_;omega⟩
theorem make_depth {A:Around} {C:Addr} {us:List Value} {kw:List (Str×Value)}:(A.under (.builtin "type.__call__" ⟨.ref C::us,kw⟩)).depth=A.depth+1:=by
  first | rfl | simp [Around.under,Code.weight,Code.isCreation,Code.isGuard,Code.isCaller,Code.frames,Code.isFrame,guardIds]
theorem make_units {A:Around} {C:Addr} {us:List Value} {kw:List (Str×Value)}:(A.under (.builtin "type.__call__" ⟨.ref C::us,kw⟩)).units=A.units+1:=by
  first | rfl | simp [Around.under,Code.cUnits,Code.frames,Code.isFrame]
theorem Room.make {k:Nat} {A:Around} (r:Room (k+1) A) (C:Addr) (us:List Value) (kw:List (Str×Value)):Room k (A.under (.builtin "type.__call__" ⟨.ref C::us,kw⟩)) :=
  ⟨r.hd,by have:=r.dp;rw [make_depth];omega,by have:=r.un;rw [make_units];omega⟩
theorem Room.depth {k:Nat} {A:Around} (r:Room k A):A.depth<recursionLimit:=by have:=r.dp;omega
theorem Room.units {k:Nat} {A:Around} (r:Room k A):A.units+64<cLine:=by have:=r.un;omega
def tNil:TA:=fun _ H Q=>Q [] H
def tCons (ta:TE) (tr:TA):TA:=fun σ H Q=>ta σ H fun x H1=>tr σ H1 fun xs H2=>Q (x::xs) H2
section
variable {X:Cx} {e:Expr} {es:List Expr} {te:TE} {t:TA} {pos:Pos}
theorem pa_nil:PA X [] tNil:=fun _ _ _ _ H Q I h=>Calls.spliced_nil ⟨[],H,I,.nil,h⟩
theorem pa_cons (ha:PE X e te) (hr:PA X es t) (hs:starEach (e::es) X.env=(false,eval e X.env)::starEach es X.env:=by rfl):PA X (e::es) (tCons te t):=by
  intro pos pins s σ H Q I h
  rw [hs]
  show wpAny _ _ (spliced ((false,eval e X.env)::backTo pos (starEach es X.env))) _ _ s
  refine Calls.spliced_cons (thn (ha pins s σ H _ I h) fun u s1 ⟨x,H1,I1,r1,q1⟩=>?_)
  exact thn (hr pos pins s1 σ H1 _ I1 q1) fun us s2 ⟨xs,H2,I2,r2,q2⟩=>⟨x::xs,H2,I2,.cons r1 r2,q2⟩
def tTup (t:TA):TE:=fun σ H Q=>t σ H fun xs H1=>xs.length≤sizeLine∧∀p,H1 p=none→Q (.ref p) (upd H1 p (.tup xs))
def tLst (t:TA):TE:=fun σ H Q=>t σ H fun xs H1=>xs.length≤sizeLine∧∀p,H1 p=none→Q (.ref p) (upd H1 p (.lst xs))
theorem pe_tup {x1} (h:PA X es t):PE X (.Tuple es x1 pos) (tTup t):=by
  intro pins s σ H Q I hq
  refine wpAny_Tuple_spliced (thn (h pos pins s σ H _ I hq) fun us s1 ⟨xs,H1,I1,r,z,q⟩=>⟨by rw [←r.length];exact z,?_⟩)
  have hf:H1 s1.heap.objs.size=none:=I1.hok.fresh (Nat.le_refl _)
  refine ⟨.ref s1.heap.objs.size,upd H1 s1.heap.objs.size (.tup xs),I1.laid (t':=s1.toks) (fun b u e=>Heap.get?_push_of_some _ e) (Nat.le_refl _) ?_,rfl,q _ hf⟩
  exact ⟨z,us,r,⟨_,Heap.get?_push_size _ rfl,rfl,_,rfl⟩⟩
theorem pe_lst (h:PA X es t):PE X (.List es pos) (tLst t):=by
  intro pins s σ H Q I hq
  refine wpAny_List_spliced (thn (h pos pins s σ H _ I hq) fun us s1 ⟨xs,H1,I1,r,z,q⟩=>⟨by rw [←r.length];exact z,?_⟩)
  have hf:H1 s1.heap.objs.size=none:=I1.hok.fresh (Nat.le_refl _)
  refine ⟨.ref s1.heap.objs.size,upd H1 s1.heap.objs.size (.lst xs),I1.laid (t':=s1.toks) (fun b u e=>Heap.get?_push_of_some _ e) (Nat.le_refl _) ?_,rfl,q _ hf⟩
  exact ⟨z,us,0,r,Heap.get?_push_size _ rfl⟩
end
abbrev Sp:=List V→Hp→VK→XK→Prop
abbrev CXT:=List Env→Hp→Shared→XK→Value→Shared→Prop
structure Env0 (P:Program) (w:World) (K:PySem.W.Frag) (mg:Str→Option Value) (base:Heap) (A:Around) (outer:List Env) (s:Shared) (H:Hp):Prop where
  frames:A.frames=some outer
  mod:Mod K mg base
  bs:∀b o,base.get? b=some o→s.heap.get? b=some o∧H b=none
  bsz:base.objs.size≤s.heap.objs.size
  funs:s.heap.FunFrames base outer
  frf:∀b∈frs outer,H b=none
  hok:HOk P w H s.heap
  bare:AllBare s.gens
def CE (outer:List Env) (P:Program) (w:World) (H:Hp) (s:Shared) (Q:VK) (u:Value) (s':Shared):Prop :=
  ∃v H',s'.os=s.os∧AllBare s'.gens∧Un (frs outer) [] H H' s.heap s'.heap∧HOk P w H' s'.heap∧RelV v u∧Q v H'
def CR (CX:CXT) (outer:List Env) (P:Program) (w:World) (H:Hp) (s:Shared) (Q:VK) (E:XK) (r:Result) (s':Shared):Prop :=
  match r with
  | .ok (.ret u)=>CE outer P w H s Q u s'
  | .ok _=>False
  | .error e=>CX outer H s E e s'
structure FnOk (P:Program) (w:World) (K:PySem.W.Frag) (mg:Str→Option Value) (base:Heap) (CX:CXT) (k:Nat) (f:Addr) (fd:FuncData) (ps:List Str) (sp:Sp):Prop where
  len:∀vs H Q E,sp vs H Q E→vs.length=ps.length
  run:∀(A:Around) (outer:List Env) (s:Shared) (H:Hp) (args:Args) (us:List Value) (vs:List V) (Q:VK) (E:XK),Room k A→Env0 P w K mg base A outer s H→BindsTo s fd args (ps.zip us)→Vals vs us→sp vs H Q E →
    codeAny (model P w) A (.call (.ref f) args) (CR CX outer P w H s Q E) s
theorem FnOk.mono {P:Program} {w:World} {K:PySem.W.Frag} {mg:Str→Option Value} {base:Heap} {CX:CXT} {j k:Nat} {f:Addr} {fd:FuncData} {ps:List Str} {sp:Sp} (F:FnOk P w K mg base CX j f fd ps sp) (h:j≤k) :
    FnOk P w K mg base CX k f fd ps sp:=⟨F.len,fun A outer s H args us vs Q E hr=>F.run A outer s H args us vs Q E (hr.mono h)⟩
theorem FnOk.imp {P:Program} {w:World} {K:PySem.W.Frag} {mg:Str→Option Value} {base:Heap} {CX:CXT} {k:Nat} {f:Addr} {fd:FuncData} {ps:List Str} {sp sp':Sp} (F:FnOk P w K mg base CX k f fd ps sp)
    (h:∀vs H Q E,sp' vs H Q E→sp vs H Q E):FnOk P w K mg base CX k f fd ps sp' :=
  ⟨fun vs H Q E q=>F.len vs H Q E (h _ _ _ _ q),fun A outer s H args us vs Q E hr he hb hv hs=>F.run A outer s H args us vs Q E hr he hb hv (h _ _ _ _ hs)⟩
theorem Env0.make {P:Program} {w:World} {K:PySem.W.Frag} {mg:Str→Option Value} {base:Heap} {A:Around} {outer:List Env} {s:Shared} {H:Hp} (e:Env0 P w K mg base A outer s H) (C:Addr) (us:List Value) (kw:List (Str×Value)) :
    Env0 P w K mg base (A.under (.builtin "type.__call__" ⟨.ref C::us,kw⟩)) outer s H:=⟨by first | exact e.frames | (simpa [Around.under,Code.envs,Code.isFrame,pushEnvs] using e.frames),e.mod,e.bs,e.bsz,e.funs,e.frf,e.hok,e.bare⟩
theorem Env0.in1 {P:Program} {w:World} {K:PySem.W.Frag} {mg:Str→Option Value} {base:Heap} {A:Around} {outer:List Env} {s:Shared} {H:Hp} (e:Env0 P w K mg base A outer s H) :
    Env0 P w K mg base A.in1 outer s H:=⟨e.frames,e.mod,e.bs,e.bsz,e.funs,e.frf,e.hok,e.bare⟩
section
variable {X:Cx} {pins:List (Addr×Obj)} {σ:St} {H:Hp} {s s':Shared}
theorem Inv.env0 (I:Inv X pins σ H s):Env0 X.prog X.w X.K X.mg X.base X.A X.stack s H :=
  ⟨I.ok.frames,I.ok.mod,I.bs,Nat.le_trans I.ok.bsz I.sz,I.stack,I.stkFree,I.hok,I.bare⟩
theorem Inv.after {Q:VK} {u:Value} (I:Inv X pins σ H s) (h:CE X.stack X.prog X.w H s Q u s'):EP X pins σ Q u s':=by
  obtain ⟨v,H',os,bare,un,hok,r,q⟩:=h
  obtain ⟨hh,g,d,t,os'⟩:=s'
  obtain rfl:os'=s.os:=os
  exact ⟨v,H',I.call (h':=hh) (g':=g) (d':=d) (t':=t) (ch:=[]) un hok bare (fun b z=>absurd z (by simp)),r,q⟩
end
def tCall (sp:Sp) (dvs:List V) (E:XK) (t:TA):TE:=fun σ H Q=>t σ H fun vs H1=>sp (vs++dvs) H1 Q E
def tMake (C:Addr) (sp:Sp) (dvs:List V) (E:XK) (t:TA):TE:=fun σ H Q=>t σ H fun vs H1=>∀x dx,H1 x=none→H1 dx=none→dx≠x →
  sp (.ref x::(vs++dvs)) (upd (upd H1 dx (.own x)) x (.ins C dx [])) (fun v H2=>v=.non∧Q (.ref x) H2) E
def Binds (K:PySem.W.Frag) (fd:FuncData) (ps:List Str) (ds:List Value):Prop :=
  ∀(s:Shared) (us:List Value),K.In s.heap→(us++ds).length=ps.length→BindsTo s fd ⟨us,[]⟩ (ps.zip (us++ds))
theorem Binds.all {K:PySem.W.Frag} {fd:FuncData} {ps:List Str} (h:∀us:List Value,us.length=ps.length→bindArgs fd ⟨us,[]⟩=pure (ps.zip us)):Binds K fd ps []:=fun s us _ hl=>by
  rw [List.append_nil] at hl ⊢
  exact .of_eq (h us hl)
def Passes (CX:CXT) (X:Cx) (E:XK):Prop:=∀(pins:List (Addr×Obj)) (σ:St) (H:Hp) (s:Shared) (e:Value) (s':Shared),Inv X pins σ H s→CX X.stack H s E e s'→X.xe e s'
section
variable {X:Cx} {CX:CXT} {k:Nat} {f C:Addr} {fd:FuncData} {ps:List Str} {sp:Sp} {dvs:List V} {ds:List Value} {E:XK} {x m:Str} {p pos apos:Pos} {e o:Expr} {es:List Expr} {ta:TE} {t:TA}
theorem run_fn {pins:List (Addr×Obj)} {σ:St} {H:Hp} {s:Shared} {Q:VK} {us:List Value} {vs:List V} (F:FnOk X.prog X.w X.K X.mg X.base CX k f fd ps sp) (hr:Room k X.A) (hb:Binds X.K fd ps ds) (hd:Vals dvs ds) (hx:Passes CX X E)
    (I:Inv X pins σ H s) (r:Vals vs us) (h:sp (vs++dvs) H Q E):wpAny (model X.prog X.w) X.A (call (.ref f) us) (EP X pins σ Q) X.xe s:=by
  have r2:Vals (vs++dvs) (us++ds):=r.append hd
  have hl:(us++ds).length=ps.length:=by rw [←r2.length];exact F.len _ _ _ _ h
  refine wpAny_call (codeAny_mono (F.run X.A X.stack s H ⟨us,[]⟩ (us++ds) (vs++dvs) Q E hr I.env0 (hb s us I.kIn hl) r2 h) fun r s' hq=>?_)
  cases r with
  | error e=>exact hx pins σ H s e s' I hq
  | ok fl =>
    cases fl with
    | ret u=>exact I.after hq
    | next=>exact False.elim hq
    | brk=>exact False.elim hq
    | cont=>exact False.elim hq
theorem pe_call (F:FnOk X.prog X.w X.K X.mg X.base CX k f fd ps sp) (hr:Room k X.A) (hg:Gl X x) (hm:X.mg x=some (.ref f)) (hk:PySem.W.keepIn X.K (.ref f)=true) (hb:Binds X.K fd ps ds) (hd:Vals dvs ds) (hx:Passes CX X E)
    (ha:PA X (e::es) t) (hdb:(x==("__debug__":Str))=false:=by decide) (he:starEach (e::es) X.env=(false,eval e X.env)::starEach es X.env:=by rfl) (hpl:(backTo pos (starEach es X.env)).any (·.1)=false:=by rfl) :
    PE X (.Call (.Name x p) (e::es) [] pos) (tCall sp dvs E t):=by
  intro pins s σ H Q I h
  refine wpAny_Call_Name_kw (ld_glob I hg hm ?_ hdb)
  refine PySem.W.callWith_K (h₀:=X.base) I.ok.mod.kin hk (thn (ha pos pins s σ H _ I h) fun us s1 ⟨vs,H1,I1,r,q⟩=>⟨I1.kIn,?_⟩) he hpl
  exact run_fn F hr hb hd hx I1 r q
structure Mk (K:PySem.W.Frag) (C f:Addr):Prop where
  makes:PySem.W.makesIn K C=true
  init:PySem.W.findIn K (.ref C) "__init__"=some (some (.ref f))
  fn:PySem.W.isFn K (.ref f)=true
  kp:PySem.W.keepIn K (.ref C)=true
theorem run_make {pins:List (Addr×Obj)} {σ:St} {H:Hp} {s:Shared} {Q:VK} {us:List Value} {vs:List V} (M:Mk X.K C f) (F:FnOk X.prog X.w X.K X.mg X.base CX k f fd ps sp) (hr:Room (k+1) X.A) (hb:Binds X.K fd ps ds) (hd:Vals dvs ds)
    (hx:Passes CX X E) (I:Inv X pins σ H s) (r:Vals vs us)
    (h:∀x dx,H x=none→H dx=none→dx≠x→sp (.ref x::(vs++dvs)) (upd (upd H dx (.own x)) x (.ins C dx [])) (fun v H2=>v=.non∧Q (.ref x) H2) E) :
    wpAny (model X.prog X.w) X.A (call (.ref C) us) (EP X pins σ Q) X.xe s:=by
  have hq:=h (s.heap.objs.size+1) s.heap.objs.size (I.hok.fresh (Nat.le_succ _)) (I.hok.fresh (Nat.le_refl _)) (Nat.ne_of_lt (Nat.lt_succ_self _))
  have I2:=Inv.made (C:=C) I
  have r2:Vals (V.ref (s.heap.objs.size+1)::(vs++dvs)) (Value.ref (s.heap.objs.size+1)::(us++ds)):=.cons rfl (r.append hd)
  have hl:(Value.ref (s.heap.objs.size+1)::us++ds).length=ps.length:=by
    have e:=r2.length
    rw [F.len _ _ _ _ hq] at e
    exact e.symm
  refine wpAny_call (make_map (f:=f) I.kIn M.makes M.init (beq_iff_eq.mp M.fn) (codeAny_mono (F.run _ X.stack _ _ ⟨Value.ref (s.heap.objs.size+1)::us,[]⟩ (Value.ref (s.heap.objs.size+1)::(us++ds)) _ _ E (hr.make C us [])
    (I2.env0.make C us []) (hb _ (Value.ref (s.heap.objs.size+1)::us) I2.kIn hl) r2 hq) fun r s' hq'=>?_))
  cases r with
  | error e=>exact hx pins σ _ _ e s' I2 hq'
  | ok fl =>
    cases fl with
    | ret u =>
      obtain ⟨v,H',I3,rv,ev,q3⟩:=I2.after hq'
      subst ev
      exact ⟨rv,⟨V.ref (s.heap.objs.size+1),H',I3,rfl,q3⟩⟩
    | next=>exact False.elim hq'
    | brk=>exact False.elim hq'
    | cont=>exact False.elim hq'
theorem pe_make (M:Mk X.K C f) (F:FnOk X.prog X.w X.K X.mg X.base CX k f fd ps sp) (hr:Room (k+1) X.A) (hg:Gl X x) (hm:X.mg x=some (.ref C)) (hb:Binds X.K fd ps ds) (hd:Vals dvs ds) (hx:Passes CX X E)
    (ha:PA X (e::es) t) (hdb:(x==("__debug__":Str))=false:=by decide) (he:starEach (e::es) X.env=(false,eval e X.env)::starEach es X.env:=by rfl) (hpl:(backTo pos (starEach es X.env)).any (·.1)=false:=by rfl) :
    PE X (.Call (.Name x p) (e::es) [] pos) (tMake C sp dvs E t):=by
  intro pins s σ H Q I h
  refine wpAny_Call_Name_kw (ld_glob I hg hm ?_ hdb)
  refine PySem.W.callWith_K (h₀:=X.base) I.ok.mod.kin M.kp (thn (ha pos pins s σ H _ I h) fun us s1 ⟨vs,H1,I1,r,q⟩=>⟨I1.kIn,?_⟩) he hpl
  exact run_make M F hr hb hd hx I1 r q
end
section
variable {X:Cx} {CX:CXT} {k:Nat} {f C:Addr} {fd:FuncData} {ps ks:List Str} {sp:Sp} {E:XK} {x m:Str} {p pos apos kpos:Pos} {e o:Expr} {es:List Expr} {kws:List Keyword} {te ta:TE} {t tk:TA} {nm:Option Str}
structure KBinds (K:PySem.W.Frag) (fd:FuncData) (ps ks:List Str) (g:List Value→List Value→List Value) (gV:List V→List V→List V):Prop where
  to:∀(s:Shared) (us ws:List Value),K.In s.heap→(g us ws).length=ps.length→BindsTo s fd ⟨us,ks.zip ws⟩ (ps.zip (g us ws))
  rel:∀{vs:List V} {us:List Value} {zs:List V} {ws:List Value},Vals vs us→Vals zs ws→Vals (gV vs zs) (g us ws)
variable {g:List Value→List Value→List Value} {gV:List V→List V→List V}
end
structure FnScope (N P:List Str) (sc:Scope):Prop where
  kind:sc.kind=.function
  co:sc.isCoroutine=false
  gen:sc.isGenerator=false
  nd:N.Nodup
  pre:N.take P.length=P
  par:∀x∈P,sc.names.lookup x=some .local∨sc.names.lookup x=some .cell
  nofree:∀y∈sc.names,y.2≠.free
theorem bindL_out {kindOf:Str→Option NameKind} {x:Str}:∀{binds:List (Str×Value)} {m:Str→Option Value},(∀v,(x,v)∉binds)→bindL kindOf binds m x=m x
  | [],_,_=>rfl
  | (n,v)::r,m,h=>by
    unfold bindL
    rw [bindL_out fun w hw=>h w (List.mem_cons_of_mem _ hw)]
    split
    · have:x≠n:=by rintro rfl;exact h v List.mem_cons_self
      simp [this]
    · rfl
theorem bindC_out {kindOf:Str→Option NameKind} {x:Str}:∀{binds:List (Str×Value)} {m:Str→Option Value},(∀v,(x,v)∉binds)→bindC kindOf binds m x=m x
  | [],_,_=>rfl
  | (n,v)::r,m,h=>by
    unfold bindC
    rw [bindC_out fun w hw=>h w (List.mem_cons_of_mem _ hw)]
    split
    · rfl
    · have:x≠n:=by rintro rfl;exact h v List.mem_cons_self
      simp [this]
theorem bindL_get {kindOf:Str→Option NameKind} {x:Str} {v:Value}:∀{P:List Str} {vs:List Value} {i:Nat} {m:Str→Option Value},P.Nodup→P[i]?=some x→vs[i]?=some v→kindOf x=some .local →
    bindL kindOf (P.zip vs) m x=some v
  | [],_,_,_,_,h,_,_=>by simp at h
  | _::_,[],_,_,_,_,h,_=>by simp at h
  | p::P,w::vs,0,m,nd,h1,h2,hk=>by
    simp at h1 h2;subst h1;subst h2
    show bindL kindOf ((p,w)::P.zip vs) m p=_
    unfold bindL
    rw [bindL_out fun v hv=>(List.nodup_cons.mp nd).1 (List.of_mem_zip hv).1,if_pos hk]
    simp
  | p::P,w::vs,i+1,m,nd,h1,h2,hk=>by
    show bindL kindOf ((p,w)::P.zip vs) m x=_
    unfold bindL
    exact bindL_get (i:=i) (List.nodup_cons.mp nd).2 (by simpa using h1) (by simpa using h2) hk
theorem bindC_get {kindOf:Str→Option NameKind} {x:Str} {v:Value}:∀{P:List Str} {vs:List Value} {i:Nat} {m:Str→Option Value},P.Nodup→P[i]?=some x→vs[i]?=some v→kindOf x≠some .local →
    bindC kindOf (P.zip vs) m x=some v
  | [],_,_,_,_,h,_,_=>by simp at h
  | _::_,[],_,_,_,_,h,_=>by simp at h
  | p::P,w::vs,0,m,nd,h1,h2,hk=>by
    simp at h1 h2;subst h1;subst h2
    show bindC kindOf ((p,w)::P.zip vs) m p=_
    unfold bindC
    rw [bindC_out fun v hv=>(List.nodup_cons.mp nd).1 (List.of_mem_zip hv).1,if_neg hk]
    simp
  | p::P,w::vs,i+1,m,nd,h1,h2,hk=>by
    show bindC kindOf ((p,w)::P.zip vs) m x=_
    unfold bindC
    exact bindC_get (i:=i) (List.nodup_cons.mp nd).2 (by simpa using h1) (by simpa using h2) hk
def start (N:List Str) (vs:List V):St:=vs.map some++List.replicate (N.length-vs.length) none
def cxOf (CX:CXT) (P:Program) (w:World) (K:PySem.W.Frag) (mg:Str→Option Value) (base:Heap) (N:List Str) (qual:Str) (scope:Scope) (f:Addr) (cd:Value) (A:Around) (outer:List Env) (s:Shared) (H:Hp) (E:XK):Cx where
  prog:=P
  w:=w
  K:=K
  mg:=mg
  base:=base
  A:=A.deeper (envOfC qual scope s.heap.objs.size f cd)
  N:=N
  s₀:=s
  H₀:=H
  env:=envOfC qual scope s.heap.objs.size f cd
  outer:=outer
  stack:=envOfC qual scope s.heap.objs.size f cd::outer
  ex:=[]
  calm:=true
  fn:=fun _=>true
  pn:=[]
  xe:=fun e s'=>wpAny (model P w) (A.deeper (envOfC qual scope s.heap.objs.size f cd)) (leaving (envOfC qual scope s.heap.objs.size f cd) e) (fun _ s''=>CX outer H s E e s'') (fun e' s''=>CX outer H s E e' s'') s'
theorem cell_has {sc:Scope} {n:Nat} {x:Str} (h:sc.names.lookup x=some .cell):∃c,(cellsFrom n sc.names []).lookup x=some c:=by
  have q:=PySem.W.cellsFrom_some sc.names n [] (.inl h)
  exact Option.isSome_iff_exists.mp q
theorem inv_start {CX:CXT} {P:Program} {w:World} {K:PySem.W.Frag} {mg:Str→Option Value} {base:Heap} {N ps:List Str} {qual:Str} {scope:Scope} {f:Addr} {cd:Value} {A:Around} {outer:List Env} {s s1:Shared} {H:Hp} {E:XK} {us:List Value} {vs:List V}
    (S:FnScope N ps scope) (hd:A.handled=none) (e0:Env0 P w K mg base A outer s H) (hl:vs.length=ps.length) (r:Vals vs us)
    (x:InCallC s s.heap.objs.size (bindL (envOfC qual scope s.heap.objs.size f cd).kindOf (ps.zip us) fun _=>none) (cellsFrom (s.heap.objs.size+1) scope.names []) (bindC (envOfC qual scope s.heap.objs.size f cd).kindOf (ps.zip us) fun _=>none) s1) :
    Inv (cxOf CX P w K mg base N qual scope f cd A outer s H E) [] (start N vs) H s1:=by
  have hpl:ps.length≤N.length:=by have:=congrArg List.length S.pre;rw [List.length_take] at this;omega
  obtain ⟨h1,tk,rfl,hk⟩:=x.done
  have noA:∀b:Addr,b∉(cxOf CX P w K mg base N qual scope f cd A outer s H E).ex:=fun b z=>absurd (show b∈([]:List Addr) from z) (by simp)
  refine ⟨⟨e0.mod,S.kind,rfl,rfl,Nat.le_refl _,fun y z c h1 h2=>?_,fun y hy=>?_,fun y c _ h=>?_,fun _=>hd,Around.frames_deeper e0.frames,.inr ⟨rfl,rfl⟩,fun b z=>absurd z (noA b),e0.bs,e0.bsz,fun b _ _=>noA b,fun b z=>absurd z (noA b),e0.funs,e0.frf⟩,
    rfl,e0.bare,Un.kept hk,⟨_,x.toInCall.ns,fun i y v h1 h2 h3=>?_⟩,fun y c h=>⟨_,x.cell y c h⟩,e0.hok.fresh (Nat.le_refl _),fun y c h=>?_,fun p hp=>absurd (show p∈([]:List (Addr×Obj)) from hp) (by simp),e0.hok.kept hk,?_⟩
  · exact name_of_addr x.apart (PySem.mem_of_lookup h1) (PySem.mem_of_lookup h2)
  · have hy:scope.names.lookup y=some .cell∨scope.names.lookup y=some .free:=hy
    rcases hy with hy | hy
    · exact cell_has hy
    · exact absurd rfl (S.nofree _ (PySem.mem_of_lookup hy))
  · exact Nat.le_of_lt (x.above y c (PySem.mem_of_lookup h))
  · have hi:i<vs.length:=by
      unfold start at h2
      by_cases hi:i<vs.length
      · exact hi
      · rw [List.getElem?_append_right (by simpa using hi)] at h2
        rw [List.getElem?_replicate] at h2
        split at h2<;>cases h2
    have ha:vs[i]?=some v:=by
      unfold start at h2
      rw [List.getElem?_append_left (by simpa using hi),List.getElem?_map] at h2
      cases e:vs[i]? with
      | none=>rw [e] at h2;cases h2
      | some a=>rw [e] at h2;cases h2;rfl
    obtain ⟨u,hu,rv⟩:=r.get ha
    have hp:ps[i]?=some y:=by
      rw [←S.pre,List.getElem?_take_of_lt (by omega)];exact h1
    have ndP:ps.Nodup:=by rw [←S.pre];exact S.nd.sublist (List.take_sublist _ _)
    refine ⟨u,rv,?_⟩
    rcases S.par y (List.mem_of_getElem? hp) with k | k
    · exact .inl ⟨k,bindL_get ndP hp hu k⟩
    · obtain ⟨c,e⟩:=cell_has (n:=s.heap.objs.size+1) k
      refine .inr ⟨.inl k,c,e,?_⟩
      have q:=x.cell y c e
      rw [bindC_get ndP hp hu (by show scope.names.lookup y≠_;rw [k];decide)] at q
      exact q
  · exact e0.hok.fresh (Nat.le_of_lt (x.above y c (PySem.mem_of_lookup h)))
  · unfold start
    show _=N.length
    rw [List.length_append,List.length_map,List.length_replicate]
    omega
theorem fn_of {CX:CXT} {P:Program} {w:World} {K:PySem.W.Frag} {mg:Str→Option Value} {base:Heap} {k:Nat} {f:Addr} {name qual:Str} {params:Arguments} {body:List Stmt} {scope:Scope} {dV kV doc pm cdv ct oc:Value} {an od:Option Addr}
    {osl:Array (Option Value)} {N ps:List Str} {sp:Sp} (lk:K.lookup f=some ⟨oc,od,.func (PySem.W.fnOf name qual params body scope dV kV doc pm an cdv ct),osl⟩) (hcd:PySem.W.codeIn K cdv qual=true) (S:FnScope N ps scope)
    (len:∀vs H Q E,sp vs H Q E→vs.length=ps.length)
    (hbody:∀(A:Around) (outer:List Env) (s:Shared) (H:Hp) (vs:List V) (Q:VK) (E:XK),Room k (A.deeper (envOfC qual scope s.heap.objs.size f cdv))→sp vs H Q E →
      ∃t,PSs (cxOf CX P w K mg base N qual scope f cdv A outer s H E) body t∧t {nx:=fun _ H'=>Q .non H',rt:=Q} (start N vs) H) :
    FnOk P w K mg base CX (k+1) f (PySem.W.fnOf name qual params body scope dV kV doc pm an cdv ct) ps sp:=by
  refine ⟨len,fun A outer s H args us vs Q E hr e0 hb r hsp=>?_⟩
  have hl:=len _ _ _ _ hsp
  have KX:K.In s.heap:=e0.mod.kin.keeps fun b o e=>(e0.bs b o e).1
  have lim:s.heap.NoLimit:=e0.mod.nolimit.keeps fun b o e=>(e0.bs b o e).1
  have hkind:∀y∈ps.zip us,scope.names.lookup y.1=some .local∨(scope.names.lookup y.1=some .cell∧((cellsFrom (s.heap.objs.size+1) scope.names []).lookup y.1).isSome=true):=fun ⟨n,v⟩ hy=>by
    rcases S.par n (List.of_mem_zip hy).1 with q | q
    · exact .inl q
    · exact .inr ⟨q,PySem.W.cellsFrom_some _ _ _ (.inl q)⟩
  refine codeAny_call_function hr.depth (KX _ _ lk) rfl S.co S.gen rfl (PySem.W.codeRec_of KX hcd) (hb _ _ _ _ ?_)
  refine wpAny_newFunctionEnv_cells S.kind hkind fun env he s1 x=>?_
  subst he
  refine ⟨lim.keeps x.toInCall.keep,codeAny_func ?_⟩
  obtain ⟨t,ht,hq⟩:=hbody A outer s H vs Q E (hr.deeper _) hsp
  have I:Inv (cxOf CX P w K mg base N qual scope f cdv A outer s H E) [] (start N vs) H s1:=inv_start S hr.hd e0 hl r x
  refine wpAny_mono (ht [] s1 (start N vs) H _ I hq) (fun fl s' hs=>?_) fun e s' hs=>hs
  have fin:∀{σ':St} {H':Hp} {v:V} {u:Value},Inv (cxOf CX P w K mg base N qual scope f cdv A outer s H E) [] σ' H' s'→RelV v u→Q v H'→CE outer P w H s Q u s' :=
    fun {σ' H' v u} J rv q=>⟨v,H',J.os,J.bare,J.base,J.hok,rv,q⟩
  cases fl with
  | ret u =>
    obtain ⟨v,σ',H',J,rv,q⟩:=hs
    exact fin J rv q
  | next =>
    obtain ⟨σ',H',J,q⟩:=hs
    exact fin (v:=V.non) (u:=Value.none) J rfl q
  | brk =>
    obtain ⟨_,_,_,q⟩:=hs
    exact False.elim q
  | cont =>
    obtain ⟨_,_,_,q⟩:=hs
    exact False.elim q
end L2
namespace L2
open PySem PySem.Spec PyProof.Rows
section
variable {X:Cx} {x:Str} {p pos:Pos} {e:Expr} {es:List Expr} {t:TA} {id T:String} {r:List V→Hp→VK→Prop}
def tCB (r:List V→Hp→VK→Prop) (t:TA):TE:=fun σ H Q=>t σ H fun vs H1=>r vs H1 Q
theorem pe_callB (hc:CallR X (.builtin id) r) (hg:Gl X x) (hm:X.mg x=none) (hv:bootBuiltins x=some (.builtin id)) (ha:PA X (e::es) t) (hn:x≠"__name__":=by decide) (hdb:(x==("__debug__":Str))=false:=by decide)
    (he:starEach (e::es) X.env=(false,eval e X.env)::starEach es X.env:=by rfl) (hpl:(backTo pos (starEach es X.env)).any (·.1)=false:=by rfl):PE X (.Call (.Name x p) (e::es) [] pos) (tCB r t):=by
  intro pins s σ H Q I h
  refine wpAny_Call_Name_kw (ld_blt I hg hm hv ?_ hn hdb)
  exact PyProof.Rows.callWith_builtin1 (thn (ha pos pins s σ H _ I h) fun us s1 ⟨vs,H1,I1,r1,q1⟩=>hc pins s1 σ H1 vs us Q I1 r1 q1) he hpl
theorem pe_callTy (hc:CallR X (.type T) r) (hg:Gl X x) (hm:X.mg x=none) (hv:bootBuiltins x=some (.type T)) (ha:PA X (e::es) t) (hn:x≠"__name__":=by decide) (hdb:(x==("__debug__":Str))=false:=by decide)
    (he:starEach (e::es) X.env=(false,eval e X.env)::starEach es X.env:=by rfl) (hpl:(backTo pos (starEach es X.env)).any (·.1)=false:=by rfl):PE X (.Call (.Name x p) (e::es) [] pos) (tCB r t):=by
  intro pins s σ H Q I h
  refine wpAny_Call_Name_kw (ld_blt I hg hm hv ?_ hn hdb)
  exact PyProof.Rows.callWith_type1 (thn (ha pos pins s σ H _ I h) fun us s1 ⟨vs,H1,I1,r1,q1⟩=>hc pins s1 σ H1 vs us Q I1 r1 q1) he hpl
end
end L2
namespace HT
open PySem PyProof.Rows
section
open PySem.SeqAt
open PySem.AutoSeq1 (wpAny_loadPart')
open PySem.MeetsSeq PySem.MeetsSeq2 PySem.MeetsSeq3
end
section
variable {prog:Program} {w:World} {A:Around} {E:Value→Shared→Prop} {s:Shared}
end
end HT
namespace L2
open PySem PySem.Spec PyProof.Rows
abbrev TO:=St→Hp→(Option Int→Hp→Prop)→Prop
section
variable {X:Cx} {e:Expr} {te:TE} {lo hi:Option Expr} {tl th:TO} {pos p2:Pos}
def SlR (X:Cx) (r:V→Option Int→Option Int→Hp→VK→Prop):Prop :=
  ∀(pins:List (Addr×Obj)) (s:Shared) (σ:St) (H:Hp) (x:V) (v vl vu:Value) (lo hi:Option Int) (sl:Addr) (Q:VK),Inv X pins σ H s→RelV x v→s.heap.IsSliceOf sl vl vu .none→IsPart vl lo→IsPart vu hi→r x lo hi H Q →
    ∃T id,typeLookup (.type T) "__getitem__"=pure (some (.builtin id))∧s.TypeIs v T∧wpAny (model X.prog X.w) X.A (getItem v (.ref sl)) (EP X pins σ Q) X.xe s
theorem SlR.or {r r':V→Option Int→Option Int→Hp→VK→Prop} (h:SlR X r) (h':SlR X r'):SlR X (fun x lo hi H Q=>r x lo hi H Q∨r' x lo hi H Q):=by
  intro pins s σ H x v vl vu lo hi sl Q I rx hs pl pu q
  rcases q with q | q
  · exact h pins s σ H x v vl vu lo hi sl Q I rx hs pl pu q
  · exact h' pins s σ H x v vl vu lo hi sl Q I rx hs pl pu q
end
end L2
namespace L2
open PySem PySem.Spec PyProof.Rows
def ixN (n:Nat) (i:Int):Option Nat:=if 0≤i then (if i<n then some i.toNat else none) else if -(n:Int)≤i then some (i+n).toNat else none
def atI {α:Type} (xs:List α) (i:Int):Option α:=(ixN xs.length i).bind fun j=>xs[j]?
theorem ixN_seq {n:Nat} {i:Int} {j:Nat} (h:ixN n i=some j):seqIndex? i n=some j∧j<n∧-(n:Int)≤i∧i<n:=by
  unfold ixN at h
  by_cases h0:0≤i
  · rw [if_pos h0] at h
    by_cases h1:i<n
    · rw [if_pos h1] at h
      have e:i.toNat=j:=Option.some.inj h
      exact ⟨by rw [seqIndex_of h0 h1,e],by omega,by omega,h1⟩
    · rw [if_neg h1] at h;cases h
  · rw [if_neg h0] at h
    by_cases h1:-(n:Int)≤i
    · rw [if_pos h1] at h
      have e:(i+n).toNat=j:=Option.some.inj h
      exact ⟨by rw [seqIndex_neg (by omega) h1,e],by omega,h1,by omega⟩
    · rw [if_neg h1] at h;cases h
theorem atI_get {α:Type} {xs:List α} {i:Int} {v:α} (h:atI xs i=some v):∃j,seqIndex? i xs.length=some j∧xs[j]?=some v∧j<xs.length∧-(xs.length:Int)≤i∧i<xs.length:=by
  unfold atI at h
  cases e:ixN xs.length i with
  | none=>rw [e] at h;cases h
  | some j =>
    rw [e] at h
    obtain ⟨h1,h2,h3,h4⟩:=ixN_seq e
    exact ⟨j,h1,h,h2,h3,h4⟩
theorem atI_nat {α:Type} {xs:List α} {j:Nat} {v:α} (h:xs[j]?=some v):atI xs (j:Int)=some v:=by
  have hj:j<xs.length:=(List.getElem?_eq_some_iff.mp h).1
  have e:ixN xs.length (j:Int)=some j:=by
    unfold ixN
    rw [if_pos (by omega),if_pos (by omega)];simp
  unfold atI;rw [e];exact h
def PlainIx (b:Expr):Prop:=∀o i,subscripted b false o i=operate [o,i] (getItem o i)
def IxR (X:Cx) (r:R2):Prop :=
  ∀(value slice:Expr) (pins:List (Addr×Obj)) (s:Shared) (σ:St) (H:Hp) (x y:V) (v u:Value) (Q:VK),Inv X pins σ H s→RelV x v→RelV y u→r x y H Q →
    subscripted slice false v u=operate [v,u] (getItem v u)→wpAny (model X.prog X.w) X.A (subscriptTail value slice v u) (EP X pins σ Q) X.xe s
def MtR (X:Cx) (id:String) (r:V→List V→Hp→VK→Prop):Prop :=
  ∀(pins:List (Addr×Obj)) (s:Shared) (σ:St) (H:Hp) (x:V) (xs:List V) (v:Value) (us:List Value) (Q:VK),Inv X pins σ H s→RelV x v→Vals xs us→r x xs H Q →
    wpAny (model X.prog X.w) X.A (call (.builtin id) (v::us)) (EP X pins σ Q) X.xe s
section
variable {X:Cx} {a b:Expr} {ta tb:TE} {pos:Pos}
theorem IxR.or {r r':R2} (h:IxR X r) (h':IxR X r'):IxR X (fun x y H Q=>r x y H Q∨r' x y H Q):=by
  intro value slice pins s σ H x y v u Q I rx ry q hs
  rcases q with q | q
  · exact h value slice pins s σ H x y v u Q I rx ry q hs
  · exact h' value slice pins s σ H x y v u Q I rx ry q hs
theorem MtR.or {id:String} {r r':V→List V→Hp→VK→Prop} (h:MtR X id r) (h':MtR X id r'):MtR X id (fun x xs H Q=>r x xs H Q∨r' x xs H Q):=by
  intro pins s σ H x xs v us Q I rx rs q
  rcases q with q | q
  · exact h pins s σ H x xs v us Q I rx rs q
  · exact h' pins s σ H x xs v us Q I rx rs q
theorem pe_ix {r:R2} (hr:IxR X r) (ha:PE X a ta) (hb:PE X b tb) (hs:PlainIx b):PE X (.Subscript a b pos) (tOp r ta tb):=by
  intro pins s σ H Q I h
  exact Subscript_ (binT ha hb I h fun v u s2 x y H2 I2 rx ry q=>hr a b pins s2 σ H2 x y v u Q I2 rx ry q (hs _ _))
def rIxL (K:PySem.W.Frag):R2:=fun x y H Q=>∃p xs i v,x=.ref p∧y=.int i∧SqL K H p xs∧atI xs i=some v∧Q v H
def rIxT (K:PySem.W.Frag):R2:=fun x y H Q=>∃p xs i v,x=.ref p∧y=.int i∧SqT K H p xs∧atI xs i=some v∧Q v H
theorem ix_list:IxR X (rIxL X.K):=by
  intro value slice pins s σ H x y v u Q I rx ry h hs
  obtain ⟨p,xs,i,z,rfl,rfl,hq,he,q⟩:=h
  cases rx
  obtain ⟨t,rfl⟩:=ry
  obtain ⟨its,r,pl,hz⟩:=I.list hq
  obtain ⟨j,h1,h2,h3,h4,h5⟩:=atI_get he
  obtain ⟨w,ew,rw'⟩:=r.get h2
  have hl:=r.length
  have hn:=line63
  have fin:EP X pins σ Q w s:=⟨z,H,I,rw',q⟩
  by_cases h0:0≤i
  · have hj:i.toNat=j:=by
      rw [seqIndex_of h0 h5] at h1
      exact Option.some.inj h1
    exact item_listR pl.isList h0 (by omega) (by rw [hj];simpa using ew) fin hs
  · have hj:(i+(its.toArray.size:Int)).toNat=j:=by
      rw [seqIndex_neg (by omega) h4] at h1
      rw [List.size_toArray,←hl]
      exact Option.some.inj h1
    exact subscriptTail_builtinR (x:=w) pl.isList.typeIs slot_list_getitem.lookup
      (wpAny_getItem_list_neg (Q:=fun r s'=>r=w∧EP X pins σ Q r s') pl.isList (by omega) (by rw [List.size_toArray]<;>omega) (by omega) (by rw [hj];simpa using ew) ⟨rfl,fin⟩) hs
theorem ix_tup:IxR X (rIxT X.K):=by
  intro value slice pins s σ H x y v u Q I rx ry h hs
  obtain ⟨p,xs,i,z,rfl,rfl,hq,he,q⟩:=h
  cases rx
  obtain ⟨t,rfl⟩:=ry
  obtain ⟨its,r,pl,hz⟩:=I.tuple hq
  obtain ⟨j,h1,h2,h3,h4,h5⟩:=atI_get he
  obtain ⟨w,ew,rw'⟩:=r.get h2
  have hl:=r.length
  have hn:=line63
  have fin:EP X pins σ Q w s:=⟨z,H,I,rw',q⟩
  exact subscriptTail_builtinR (x:=w) pl.typeIs slot_tuple_getitem.lookup
    (getItem_tuple (j:=j) (Q:=fun r s'=>r=w∧EP X pins σ Q r s') pl (by omega) (by omega) (by rw [List.size_toArray,←hl];exact h1) (by simpa using ew) ⟨rfl,fin⟩) hs
theorem mapSeq_set (its:List Value) (n j:Nat) (u:Value):Obj.mapSeq (·.setIfInBounds j u) {cls:=.type "list",data:=.seq its.toArray n}={cls:=.type "list",data:=.seq (its.set j u).toArray n}:=by
  simp [Obj.mapSeq]
theorem Inv.lst {pins:List (Addr×Obj)} {σ:St} {H:Hp} {s:Shared} {p:Addr} {xs:List V} (I:Inv X pins σ H s) (h:H p=some (.lst xs)) :
    ∃(its:List Value) (n:Nat),Vals xs its∧s.heap.get? p=some {cls:=.type "list",data:=.seq its.toArray n}∧xs.length≤sizeLine:=by
  obtain ⟨z,its,n,r,e⟩:=I.hok p _ h
  exact ⟨its,n,r,e,z⟩
theorem Inv.lstUpd {pins:List (Addr×Obj)} {σ:St} {H:Hp} {s:Shared} {p:Addr} {xs ys:List V} {its its':List Value} {n n':Nat} {f:Obj→Obj} (I:Inv X pins σ H s) (h:H p=some (.lst xs))
    (ho:s.heap.get? p=some {cls:=.type "list",data:=.seq its.toArray n}) (hf:f {cls:=.type "list",data:=.seq its.toArray n}={cls:=.type "list",data:=.seq its'.toArray n'}) (r:Vals ys its') (hz:ys.length≤sizeLine) (t:Nat) :
    Inv X pins σ (upd H p (.lst ys)) {s with heap:=s.heap.update p f,toks:=t}:=by
  have e:(s.heap.update p f).get? p=some {cls:=.type "list",data:=.seq its'.toArray n'}:=by
    rw [Heap.get?_update_self f ho (by rw [hf]<;>rfl),hf]
  refine I.write (x:=p) (e:=p) (by rw [h];trivial) (.inl rfl) (fun b u hb q=>(Heap.get?_update_other _ _ (Ne.symm hb)).trans q) ⟨_,e⟩ ?_
  exact ⟨hz,its',n',r,e⟩
def rSetL:V→V→V→Hp→(Hp→Prop)→Prop:=fun o i v H Q=>∃p xs k j,o=.ref p∧i=.int k∧H p=some (.lst xs)∧ixN xs.length k=some j∧Q (upd H p (.lst (xs.set j v)))
theorem set_list:PSet X rSetL:=by
  intro pins s σ H o i v ov iv u Q I ro ri rv h
  obtain ⟨p,xs,k,j,rfl,rfl,hp,hj,q⟩:=h
  cases ro
  obtain ⟨t,rfl⟩:=ri
  obtain ⟨its,n,r,ho,hz⟩:=I.lst hp
  obtain ⟨h1,h2,h3,h4⟩:=ixN_seq hj
  have hl:=r.length
  have hn:=line63
  have I':Inv X pins σ (upd H p (.lst (xs.set j v))) {s with heap:=s.heap.update p (Obj.mapSeq (·.setIfInBounds j u))} :=
    I.lstUpd hp ho (mapSeq_set its n j u) (r.set rv j) (by rw [List.length_set];exact hz) s.toks
  by_cases h0:0≤k
  · have hk:k.toNat=j:=by
      rw [seqIndex_of h0 h4] at h1
      exact Option.some.inj h1
    exact PySem.W.ki_setAt ho h0 (by omega) (by rw [List.size_toArray,←hl];exact h4) (by rw [hk];exact ⟨_,I',q⟩)
  · have hk:(k+(its.toArray.size:Int)).toNat=j:=by
      rw [seqIndex_neg (by omega) h3] at h1
      rw [List.size_toArray,←hl]
      exact Option.some.inj h1
    exact PySem.W.ki_setBack ho (by omega) (by rw [List.size_toArray,←hl];exact h3) (by omega) (by rw [hk];exact ⟨_,I',q⟩)
def flatV:V→Bool
  | .non=>true
  | .bl _=>true
  | .int _=>true
  | .str _=>true
  | _=>false
def eqV:V→V→Bool
  | .non,.non=>true
  | .bl a,.bl b=>a==b
  | .bl a,.int b=>(if a then 1 else 0)==b
  | .int a,.bl b=>a==(if b then 1 else 0)
  | .int a,.int b=>a==b
  | .str a,.str b=>a==b
  | _,_=>false
theorem eqAt_V {A:Around} {s:Shared} {y x:V} {u v:Value} (ry:RelV y u) (rx:RelV x v) (fy:flatV y=true) (fx:flatV x=true):SeqAt.EqAt A s u v (eqV y x):=by
  cases y with
  | non =>
    cases ry
    cases x with
    | non=>cases rx;exact SeqAt.EqAt.same _
    | bl b=>cases rx;exact SeqAt.EqAt.none_bool b
    | int b=>obtain ⟨t,rfl⟩:=rx;exact SeqAt.EqAt.none_int b t
    | str b=>obtain ⟨t,rfl⟩:=rx;exact SeqAt.EqAt.none_str b t
    | _=>exact absurd (show false=true from fx) Bool.false_ne_true
  | bl a =>
    cases ry
    cases x with
    | non=>cases rx;exact SeqAt.EqAt.bool_none a
    | bl b=>cases rx;exact SeqAt.EqAt.bool_bool a b
    | int b=>obtain ⟨t,rfl⟩:=rx;exact SeqAt.EqAt.bool_int a b t
    | str b=>obtain ⟨t,rfl⟩:=rx;exact SeqAt.EqAt.bool_str a b t
    | _=>exact absurd (show false=true from fx) Bool.false_ne_true
  | int a =>
    obtain ⟨t',rfl⟩:=ry
    cases x with
    | non=>cases rx;exact SeqAt.EqAt.int_none a t'
    | bl b=>cases rx;exact SeqAt.EqAt.int_bool a t' b
    | int b=>obtain ⟨t,rfl⟩:=rx;exact SeqAt.EqAt.int_int a t' b t
    | str b=>obtain ⟨t,rfl⟩:=rx;exact SeqAt.EqAt.int_str a t' b t
    | _=>exact absurd (show false=true from fx) Bool.false_ne_true
  | str a =>
    obtain ⟨t',rfl⟩:=ry
    cases x with
    | non=>cases rx;exact SeqAt.EqAt.str_none a t'
    | bl b=>cases rx;exact SeqAt.EqAt.str_bool a t' b
    | int b=>obtain ⟨t,rfl⟩:=rx;exact SeqAt.EqAt.str_int a t' b t
    | str b=>obtain ⟨t,rfl⟩:=rx;exact SeqAt.EqAt.str_str a t' b t
    | _=>exact absurd (show false=true from fx) Bool.false_ne_true
  | _=>exact absurd (show false=true from fy) Bool.false_ne_true
def eqU (x:V) (u:Value):Bool:=match u with
  | .none=>eqV .non x
  | .bool b=>eqV (.bl b) x
  | .int i _=>eqV (.int i) x
  | .str z _=>eqV (.str z) x
  | _=>false
theorem eqU_of {x y:V} {u:Value} (r:RelV y u) (f:flatV y=true):eqU x u=eqV y x:=by
  cases y with
  | non=>cases r;rfl
  | bl b=>cases r;rfl
  | int i=>obtain ⟨t,rfl⟩:=r;rfl
  | str z=>obtain ⟨t,rfl⟩:=r;rfl
  | _=>exact absurd (show false=true from f) Bool.false_ne_true
theorem any_eqU {x:V}:∀{xs:List V} {us:List Value},Vals xs us→xs.all flatV=true→us.any (eqU x)=xs.any fun y=>eqV y x
  | _,_,.nil,_=>rfl
  | y::xs,u::us,.cons r t,f=>by
    rw [List.all_cons,Bool.and_eq_true] at f
    rw [List.any_cons,List.any_cons,eqU_of r f.1,any_eqU t f.2]
theorem mem_eqAt {A:Around} {s:Shared} {x:V} {v:Value} (rx:RelV x v) (fx:flatV x=true):∀{xs:List V} {us:List Value},Vals xs us→xs.all flatV=true→∀u∈us,SeqAt.EqAt A s u v (eqU x u)
  | _,_,.nil,_=>fun u hu=>by cases hu
  | y::xs,u::us,.cons r t,f=>fun u' hu=>by
    rw [List.all_cons,Bool.and_eq_true] at f
    rcases List.mem_cons.mp hu with rfl | hu
    · rw [eqU_of r f.1];exact eqAt_V r rx f.1 fx
    · exact mem_eqAt rx fx t f.2 u' hu
def inV (x:V) (xs:List V):Bool:=xs.any fun y=>eqV y x
def rIn (K:PySem.W.Frag) (neg:Bool):R2:=fun x y H Q=>∃p xs,y=.ref p∧(SqL K H p xs∨SqT K H p xs)∧flatV x=true∧xs.all flatV=true∧Q (.bl (if neg then !inV x xs else inV x xs)) H
theorem op_in_seq:OpR X (compareOp .In) (rIn X.K false):=by
  intro pins s σ H x y v u Q I rx ry h
  obtain ⟨p,xs,rfl,hq,fx,fs,q⟩:=h
  cases ry
  rcases hq with hq | hq
  · obtain ⟨its,r,pl,hz⟩:=I.list hq
    refine SeqAt.in_listAt (eqU x) pl.isList (fun w hw=>mem_eqAt rx fx r fs w (by simpa using hw)) ⟨.bl _,H,I,rfl,?_⟩
    rw [show its.toArray.any (eqU x)=its.any (eqU x) by simp,any_eqU r fs]
    exact q
  · obtain ⟨its,r,pl,hz⟩:=I.tuple hq
    refine SeqAt.in_tupleAt (eqU x) pl (fun w hw=>mem_eqAt rx fx r fs w (by simpa using hw)) ⟨.bl _,H,I,rfl,?_⟩
    rw [show its.toArray.any (eqU x)=its.any (eqU x) by simp,any_eqU r fs]
    exact q
theorem op_notIn_seq:OpR X (compareOp .NotIn) (rIn X.K true):=by
  intro pins s σ H x y v u Q I rx ry h
  obtain ⟨p,xs,rfl,hq,fx,fs,q⟩:=h
  cases ry
  rcases hq with hq | hq
  · obtain ⟨its,r,pl,hz⟩:=I.list hq
    refine SeqAt.notIn_listAt (eqU x) pl.isList (fun w hw=>mem_eqAt rx fx r fs w (by simpa using hw)) ⟨.bl _,H,I,rfl,?_⟩
    rw [show its.toArray.any (eqU x)=its.any (eqU x) by simp,any_eqU r fs]
    exact q
  · obtain ⟨its,r,pl,hz⟩:=I.tuple hq
    refine SeqAt.notIn_tupleAt (eqU x) pl (fun w hw=>mem_eqAt rx fx r fs w (by simpa using hw)) ⟨.bl _,H,I,rfl,?_⟩
    rw [show its.toArray.any (eqU x)=its.any (eqU x) by simp,any_eqU r fs]
    exact q
theorem call_len_seq:CallR X (.builtin "len") (fun xs H Q=>∃p ys,xs=[.ref p]∧(SqL X.K H p ys∨SqT X.K H p ys)∧Q (.int ys.length) H):=by
  intro pins s σ H xs us Q I r h
  obtain ⟨p,ys,rfl,hq,q⟩:=h
  obtain ⟨u,rfl,rx⟩:=vals1 r
  cases rx
  have hn:=line63
  rcases hq with hq | hq
  · obtain ⟨its,r',pl,hz⟩:=I.list hq
    have hlen:=r'.length
    exact Calls.call_len_list pl.isList (by simp only [List.size_toArray]<;>omega) ⟨.int ys.length,H,I.tok _,⟨s.toks+1,by rw [List.size_toArray,hlen]⟩,q⟩
  · obtain ⟨its,r',pl,hz⟩:=I.tuple hq
    have hlen:=r'.length
    exact len_tuple pl (by simp only [List.size_toArray]<;>omega) ⟨.int ys.length,H,I.tok _,⟨s.toks+1,by rw [List.size_toArray,hlen]⟩,q⟩
theorem CallR.or {f:Value} {r r':List V→Hp→VK→Prop} (h:CallR X f r) (h':CallR X f r'):CallR X f (fun xs H Q=>r xs H Q∨r' xs H Q):=by
  intro pins s σ H xs us Q I rs q
  rcases q with q | q
  · exact h pins s σ H xs us Q I rs q
  · exact h' pins s σ H xs us Q I rs q
theorem call_list_of:CallR X (.type "list") (fun xs H Q=>∃p ys,xs=[.ref p]∧(SqL X.K H p ys∨SqT X.K H p ys)∧∀l,H l=none→Q (.ref l) (upd H l (.lst ys))):=by
  intro pins s σ H xs us Q I r h
  obtain ⟨p,ys,rfl,hq,q⟩:=h
  obtain ⟨u,rfl,rx⟩:=vals1 r
  cases rx
  have fin:∀(its:List Value),Vals ys its→ys.length≤sizeLine→∀(h':Heap) (c':Nat),(∀b o',s.heap.get? b=some o'→h'.get? b=some o') →
      h'.get? s.heap.objs.size=some {cls:=.type "list",dict:=none,data:=.seq its.toArray c',slots:=#[]}→EP X pins σ Q (.ref s.heap.objs.size) {s with heap:=h'}:=fun its r' hz h' c' kp e =>
    ⟨.ref s.heap.objs.size,_,I.laid (t':=s.toks) kp (Nat.le_refl _) (show ObjOk X.prog X.w _ h' _ (.lst ys) from ⟨hz,its,c',r',e⟩),rfl,q _ (I.hok.fresh (Nat.le_refl _))⟩
  rcases hq with hq | hq
  · obtain ⟨its,r',pl,hz⟩:=I.list hq
    have hlen:=r'.length
    obtain ⟨o,ho,hc,n,hd⟩:=pl.isList
    exact call_list_seq p (.inl rfl) ho hc hd (fun h' c' kp e=>fin its r' hz h' c' kp e) (by simp only [List.size_toArray]<;>omega)
  · obtain ⟨its,r',pl,hz⟩:=I.tuple hq
    have hlen:=r'.length
    obtain ⟨o,ho,hc,n,hd⟩:=pl
    exact call_list_seq p (.inr rfl) ho hc hd (fun h' c' kp e=>fin its r' hz h' c' kp e) (by simp only [List.size_toArray]<;>omega)
theorem call_tuple_of:CallR X (.type "tuple") (fun xs H Q=>∃p ys,xs=[.ref p]∧((SqL X.K H p ys∧∀l,H l=none→Q (.ref l) (upd H l (.tup ys)))∨(SqT X.K H p ys∧Q (.ref p) H))):=by
  intro pins s σ H xs us Q I r h
  obtain ⟨p,ys,rfl,h⟩:=h
  obtain ⟨u,rfl,rx⟩:=vals1 r
  cases rx
  rcases h with ⟨hq,q⟩ | ⟨hq,q⟩
  · obtain ⟨its,r',pl,hz⟩:=I.list hq
    have hlen:=r'.length
    refine call_tuple_list pl.isList (fun h' kp=>?_) (by simp only [List.size_toArray]<;>omega)
    have I1:Inv X pins σ H {s with heap:=h'}:=I.kept (t':=s.toks) kp
    have I2:Inv X pins σ (upd H h'.objs.size (.tup ys)) {s with heap:=h'.push {cls:=.type "tuple",data:=.seq its.toArray}} :=
      I1.laid (t':=s.toks) (fun b o e=>Heap.get?_push_of_some _ e) (Nat.le_refl _) (show ObjOk X.prog X.w _ _ _ (.tup ys) from ⟨hz,its,r',IsTup.new _ _⟩)
    exact ⟨.ref h'.objs.size,_,I2,rfl,q _ (I1.hok.fresh (Nat.le_refl _))⟩
  · obtain ⟨its,r',pl,hz⟩:=I.tuple hq
    exact call_tuple_same pl ⟨.ref p,H,I,rfl,q⟩
def tyV (K:PySem.W.Frag) (T:String) (x:V) (H:Hp):Prop:=match x with
  | .str _=>T="str"
  | .int _=>T="int"
  | .ref p=>(T="list"∧∃xs,SqL K H p xs)∨(T="tuple"∧∃o,K.lookup p=some o∧o.cls=.type "tuple"∧o.dict=none) ∨
      (T="dict"∧((∃kvs,H p=some (.dK kvs))∨∃kvs,H p=some (.dT kvs)))∨(T="set"∧∃S n,H p=some (.set S n))
  | _=>False
theorem tyV_is {pins:List (Addr×Obj)} {σ:St} {H:Hp} {s:Shared} {T:String} {x:V} {v:Value} (I:Inv X pins σ H s) (r:RelV x v) (ty:tyV X.K T x H) :
    s.TypeIs v T∧∀a,v=.ref a→∃ob,s.heap.get? a=some ob∧ob.dict=none:=by
  cases x with
  | str z =>
    obtain ⟨t,rfl⟩:=r
    cases (show T="str" from ty)
    exact ⟨typeIs_str s z t,fun _ e=>nomatch e⟩
  | int i =>
    obtain ⟨t,rfl⟩:=r
    cases (show T="int" from ty)
    exact ⟨typeIs_int s i t,fun _ e=>nomatch e⟩
  | ref p =>
    cases r
    rcases ty with ⟨rfl,xs,hq⟩ | ⟨rfl,o,hk,hc,hd⟩ | ⟨rfl,hk⟩ | ⟨rfl,S,n,hk⟩
    · obtain ⟨its,_,pl,_⟩:=I.list hq
      refine ⟨pl.isList.typeIs,fun a e=>?_⟩
      cases e
      obtain ⟨o,n,e,c,hd,_⟩:=pl
      exact ⟨o,e,hd⟩
    · refine ⟨⟨o,I.kIn p o hk,hc⟩,fun a e=>?_⟩
      cases e
      exact ⟨o,I.kIn _ o hk,hd⟩
    · have z:∃o,s.heap.get? p=some o∧o.ExactDict:=by
        rcases hk with ⟨kvs,hk⟩ | ⟨kvs,hk⟩
        · obtain ⟨_,_,_,_,o,_,_,e,ex,_⟩:=I.hok p _ hk
          exact ⟨o,e,ex⟩
        · obtain ⟨_,_,_,_,o,_,_,e,ex,_⟩:=I.hok p _ hk
          exact ⟨o,e,ex⟩
      obtain ⟨o,e,ex⟩:=z
      refine ⟨⟨o,e,ex.1⟩,fun a e2=>?_⟩
      cases e2
      exact ⟨o,e,ex.2.1⟩
    · obtain ⟨o,_,_,_,e,ex,_⟩:=I.hok p _ hk
      refine ⟨⟨o,e,ex.1⟩,fun a e2=>?_⟩
      cases e2
      exact ⟨o,e,ex.2.1⟩
  | _=>exact False.elim ty
def tBM (K:PySem.W.Frag) (T:String) (r:V→List V→Hp→VK→Prop) (to:TE) (t:TA):TE:=fun σ H Q=>to σ H fun x H1=>tyV K T x H1∧t σ H1 fun xs H2=>r x xs H2 Q
variable {o e:Expr} {es:List Expr} {to:TE} {t:TA} {name:Str} {apos cpos:Pos} {T id:String} {r:V→List V→Hp→VK→Prop}
theorem pe_bm (pa:PlainAttrs T) (slot:Slot T name id) (hty:typeOf (.builtin id)=pure (.type "method_descriptor")) (hm:MtR X id r) (ho:PE X o to) (ha:PA X (e::es) t)
    (hbase:attributeBase o name X.env (eval o X.env)=eval o X.env:=by rfl)
    (hfew:((backTo cpos (starEach (e::es) X.env)).all (fun x=>!x.1)&&(backToKw cpos (keywordEach [] X.env)).all (fun x=>x.1.isSome)
      && decide ((e::es).length+([]:List Keyword).length+(if ([]:List Keyword).isEmpty then 0 else 1)<30))=true:=by rfl)
    (hline:(apos.endLine==cpos.line)=true:=by rfl) (hs:starEach (e::es) X.env=(false,eval e X.env)::starEach es X.env:=by rfl) (hplain:(backTo cpos (starEach es X.env)).any (·.1)=false:=by rfl) :
    PE X (.Call (.Attribute o name apos) (e::es) [] cpos) (tBM X.K T r to t):=by
  intro pins s σ H Q I h
  refine wpAny_Call_method_late hbase hfew hline rfl (thn (ho pins s σ H _ I h) fun v s1 ⟨x,H1,I1,r1,ty,q1⟩=>?_)
  obtain ⟨h1,h2⟩:=tyV_is I1 r1 ty
  refine ⟨T,id,pa,slot,hty,h1,h2,?_⟩
  have hA:=ha cpos pins s1 σ H1 _ I1 q1
  rw [hs] at hA ⊢
  refine Calls.callWith_builtin (by show (false||(backTo cpos (starEach es X.env)).any (·.1))=false;rw [hplain]<;>rfl) (Calls.evalArgs_plain ?_)
  exact thn hA fun us s2 ⟨vs,H2,I2,r2,q2⟩=>hm pins s2 σ H2 x vs v us Q I2 r1 r2 q2
end
end L2
namespace L2
open PySem PySem.Spec PyProof.Rows
def MtM (X:Cx) (id:String) (r:V→List V→Hp→VK→Prop):Prop :=
  ∀(pins:List (Addr×Obj)) (s:Shared) (σ:St) (H:Hp) (x:V) (xs:List V) (v:Value) (us:List Value) (Q:VK),Inv X pins σ H s→RelV x v→Vals xs us→r x xs H Q →
    wpAny (model X.prog X.w) X.A (call (.builtin id) (v::us)) (EP X pins σ Q) X.xe s
theorem Vals.one:∀{x:V} {us:List Value},Vals [x] us→∃u,us=[u]∧RelV x u
  | _,_,.cons r .nil=>⟨_,rfl,r⟩
theorem Vals.two:∀{x y:V} {us:List Value},Vals [x,y] us→∃u v,us=[u,v]∧RelV x u∧RelV y v
  | _,_,_,.cons r (.cons q .nil)=>⟨_,_,rfl,r,q⟩
theorem Vals.zero:∀{us:List Value},Vals [] us→us=[]
  | _,.nil=>rfl
theorem Vals.dropLast {xs:List V} {us:List Value} (h:Vals xs us):Vals xs.dropLast us.dropLast:=by
  induction h with
  | nil=>exact .nil
  | cons r t ih =>
    cases t with
    | nil=>exact .nil
    | cons q t'=>exact .cons r ih
theorem Vals.reverse {xs:List V} {us:List Value} (h:Vals xs us):Vals xs.reverse us.reverse:=by
  induction h with
  | nil=>exact .nil
  | cons r t ih=>rw [List.reverse_cons,List.reverse_cons];exact Vals.append ih (.cons r .nil)
theorem Vals.rep {xs:List V} {us:List Value} (h:Vals xs us):∀k:Nat,Vals (List.replicate k xs).flatten (List.replicate k us).flatten
  | 0=>.nil
  | k+1=>by
    rw [List.replicate_succ,List.replicate_succ,List.flatten_cons,List.flatten_cons]
    exact Vals.append h (Vals.rep h k)
theorem foldl_rep (its:List Value):∀(k:Nat) (acc:List Value),
    List.foldl (fun x1 x2=>x1++x2) acc.toArray (List.replicate k its.toArray)=(acc++(List.replicate k its).flatten).toArray
  | 0,acc=>by simp
  | k+1,acc=>by
    have e:acc.toArray++its.toArray=(acc++its).toArray:=by simp
    have e2:(acc++its)++(List.replicate k its).flatten=acc++(List.replicate (k+1) its).flatten:=by
      rw [List.replicate_succ,List.flatten_cons,List.append_assoc]
    rw [←e2,←foldl_rep its k (acc++its),←e,List.replicate_succ,List.foldl_cons]
section
variable {X:Cx} {pins:List (Addr×Obj)} {σ:St} {H:Hp} {s:Shared} {l b:Addr} {xs ys zs:List V}
theorem Inv.lset {its its':List Value} {n:Nat} {f:Array Value→Array Value} {t':Nat} (I:Inv X pins σ H s) (hH:H l=some (.lst xs))
    (e:s.heap.get? l=some {cls:=.type "list",data:=.seq its.toArray n}) (hf:f its.toArray=its'.toArray) (hv:Vals ys its') (hz:ys.length≤sizeLine) :
    Inv X pins σ (upd H l (.lst ys)) {s with heap:=s.heap.update l (Obj.mapSeq f),toks:=t'}:=by
  have q:=PySem.IsL.update e f
  rw [hf] at q
  refine I.write (x:=l) (e:=l) (by rw [hH];exact trivial) (.inl rfl) (fun b' u hb hu=>(Heap.get?_update_other s.heap (Obj.mapSeq f) (Ne.symm hb)).trans hu) ⟨_,q⟩ ?_
  exact ⟨hz,its',_,hv,q⟩
theorem Inv.lnew {its:List Value} {t':Nat} (I:Inv X pins σ H s) (hv:Vals ys its) (hz:ys.length≤sizeLine) :
    Inv X pins σ (upd H s.heap.objs.size (.lst ys)) {s with heap:=s.heap.push {cls:=.type "list",data:=.seq its.toArray},toks:=t'} :=
  I.laid (fun _ _ q=>Heap.get?_push_of_some _ q) (Nat.le_refl _) ⟨hz,its,0,hv,Heap.get?_push_size _ rfl⟩
theorem Inv.fresh (I:Inv X pins σ H s):H s.heap.objs.size=none:=I.hok.fresh (Nat.le_refl _)
theorem Inv.lstM (I:Inv X pins σ H s) (hH:H l=some (.lst xs)):xs.length≤sizeLine∧∃(its:List Value) (n:Nat),Vals xs its∧xs.length=its.length∧s.heap.get? l=some {cls:=.type "list",data:=.seq its.toArray n}:=by
  obtain ⟨z,its,n,r,e⟩:=I.hok l _ hH
  exact ⟨z,its,n,r,r.length,e⟩
theorem notLongL {n:Nat} (h:n≤sizeLine):Builtin.List.listTooLong n=false:=by
  unfold Builtin.List.listTooLong
  exact decide_eq_false (by omega)
end
section
variable {X:Cx}
def rAppend:V→List V→Hp→VK→Prop:=fun x vs H Q=>∃l xs y,x=.ref l∧vs=[y]∧H l=some (.lst xs)∧xs.length<sizeLine∧Q .non (upd H l (.lst (xs++[y])))
theorem mt_append:MtM X "list.append" rAppend:=by
  intro pins s σ H x vs v us Q I rx rv h
  obtain ⟨l,xs,y,rfl,rfl,hH,hz,q⟩:=h
  cases rx
  obtain ⟨u,rfl,ru⟩:=rv.one
  obtain ⟨z,its,n,r,hl,e⟩:=I.lstM hH
  refine call_meets F.slot_list_append ⟨_,e,rfl⟩ F.entry_list_append (F.args_list_append_2 _ _) (PySem.list_append l its.toArray n u (by rw [List.size_toArray];omega)) ⟨e,?_⟩
  refine ⟨.non,_,I.lset (its':=its++[u]) hH e (by simp) (r.append (.cons ru .nil)) ?_,rfl,q⟩
  rw [List.length_append,List.length_singleton]
  omega
def rExtend:V→List V→Hp→VK→Prop:=fun x vs H Q=>∃l b xs zs,x=.ref l∧vs=[.ref b]∧H l=some (.lst xs)∧H b=some (.lst zs)∧xs.length+zs.length≤sizeLine∧Q .non (upd H l (.lst (xs++zs)))
theorem mt_extend:MtM X "list.extend" rExtend:=by
  intro pins s σ H x vs v us Q I rx rv h
  obtain ⟨l,b,xs,zs,rfl,rfl,hH,hB,hz,q⟩:=h
  cases rx
  obtain ⟨u,rfl,ru⟩:=rv.one
  cases ru
  obtain ⟨z,its,n,r,hl,e⟩:=I.lstM hH
  obtain ⟨z2,its2,n2,r2,hl2,e2⟩:=I.lstM hB
  have hsz:its.toArray.size+its2.toArray.size≤sizeLine:=by rw [List.size_toArray,List.size_toArray];omega
  have hlong:¬(!its.toArray.isEmpty&&Builtin.List.listTooLong (its.toArray.size+its2.toArray.size))=true:=by
    rw [notLongL hsz,Bool.and_false]
    exact Bool.false_ne_true
  refine call_meets F.slot_list_extend ⟨_,e,rfl⟩ F.entry_list_extend (F.args_list_extend_2 _ _)
    (AutoSeq1.list_extend_list_list_0 l its.toArray n b its2.toArray n2 hlong (by rw [List.size_toArray];omega) (by omega)) ⟨e,e2,?_⟩
  refine ⟨.non,_,I.lset (its':=its++its2) hH e (by simp) (r.append r2) ?_,rfl,q⟩
  rw [List.length_append]
  omega
def rCat:R2:=fun x y H Q=>∃l b xs zs,x=.ref l∧y=.ref b∧H l=some (.lst xs)∧H b=some (.lst zs)∧xs.length+zs.length≤sizeLine∧∀p,H p=none→Q (.ref p) (upd H p (.lst (xs++zs)))
theorem op_cat:OpR X (binaryOp .Add) rCat:=by
  intro pins s σ H x y v u Q I rx ry h
  obtain ⟨l,b,xs,zs,rfl,rfl,hH,hB,hz,q⟩:=h
  cases rx
  cases ry
  obtain ⟨z,its,n,r,hl,e⟩:=I.lstM hH
  obtain ⟨z2,its2,n2,r2,hl2,e2⟩:=I.lstM hB
  refine PySem.P.add_list e e2 ?_ (by rw [List.size_toArray,List.size_toArray];omega)
  have ea:its.toArray++its2.toArray=(its++its2).toArray:=by simp
  rw [ea]
  exact ⟨.ref _,_,I.lnew (t':=s.toks) (r.append r2) (by rw [List.length_append];omega),rfl,q _ I.fresh⟩
def rRep:R2:=fun x y H Q=>∃l k xs,x=.ref l∧y=.int k∧H l=some (.lst xs)∧-(2^63)≤k∧k<2^63∧xs.length*k.toNat≤sizeLine ∧
  ∀p,H p=none→Q (.ref p) (upd H p (.lst (List.replicate k.toNat xs).flatten))
theorem len_rep {α:Type} (xs:List α) (k:Nat):(List.replicate k xs).flatten.length=k*xs.length:=by
  induction k with
  | zero=>simp
  | succ k ih=>rw [List.replicate_succ,List.flatten_cons,List.length_append,ih,Nat.succ_mul,Nat.add_comm]
theorem op_rep:OpR X (binaryOp .Mult) rRep:=by
  intro pins s σ H x y v u Q I rx ry h
  obtain ⟨l,k,xs,rfl,rfl,hH,h1,h2,hz,q⟩:=h
  cases rx
  obtain ⟨t,rfl⟩:=ry
  obtain ⟨z,its,n,r,hl,e⟩:=I.lstM hH
  have hlen:its.toArray.size*k.toNat≤sizeLine:=by rw [List.size_toArray,←hl];exact hz
  have hcap:¬its.toArray.size*k.toNat>(2^63-1)/8:=by
    have:(sizeLine:Nat)≤(2^63-1)/8:=by decide
    omega
  have hfit:¬(!Builtin.List.listFitsIndex k)=true:=by
    rw [fitsIndex_both h1 h2]
    exact Bool.false_ne_true
  have hlong:¬Builtin.List.listTooLong (its.toArray.size*k.toNat)=true:=by
    rw [notLongL hlen]
    exact Bool.false_ne_true
  have hnew:List.foldl (fun x1 x2=>x1++x2) #[] (List.replicate (if its.toArray.isEmpty=true then 0 else k.toNat) its.toArray)=(List.replicate k.toNat its).flatten.toArray:=by
    have f0:∀m:Nat,List.foldl (fun x1 x2=>x1++x2) #[] (List.replicate m its.toArray)=(List.replicate m its).flatten.toArray:=fun m=>by
      have:=foldl_rep its m []
      rw [List.nil_append] at this
      exact this
    rw [f0]
    cases its with
    | nil=>simp
    | cons a r'=>rw [if_neg (by simp)]
  refine wpAny_binaryOp_repeat_ref (T:="list") (U:="int") (by decide) ⟨_,e,rfl⟩ (fun s'=>typeIs_int s' k t) noFill_list_mul F.fills_int_mul F.slot_int_rmul repeat_list F.slot_int_index.lookup
    (call_meets F.slot_int_rmul (typeIs_int s k t) F.entry_int_rmul (F.args_int_rmul_2 _ _) (int___rmul___int_list k t l its.toArray n)
      ⟨e,rfl,⟨_,e,rfl⟩,call_meets F.slot_list_mul ⟨_,e,rfl⟩ F.entry_list_mul (F.args_list_mul_2 _ _) (AutoListH.list___mul___list_int_3 l its.toArray n k t hfit hcap hlong) ⟨e,?_⟩⟩)
  rw [hnew]
  exact ⟨.ref _,_,I.lnew (t':=s.toks) (r.rep k.toNat) (by rw [len_rep,Nat.mul_comm];exact hz),rfl,q _ I.fresh⟩
end
section
variable {prog:Program} {w:World} {A:Around} {E:Value→Shared→Prop} {s:Shared}
end
section
variable {X:Cx}
end
end L2
namespace Att
open PySem PySem.W PySem.Calls PyProof.Rows
theorem ints_of_wellAll {P:Params} {h:Heap}:∀(ns:List Int) (vs:List Value),WellAll P h vs (ns.map WData.int)→IntsAre vs ns:=by
  intro ns
  induction ns with
  | nil =>
    intro vs w
    rw [List.map_nil] at w
    cases w
    exact .nil
  | cons n ns ih =>
    intro vs w
    rw [List.map_cons] at w
    cases w with
    | cons a b =>
      cases a
      exact .cons _ _ (ih _ b)
theorem script_of {l:OpenLaw} {n:Nat} (hn:l.most=some n) {P:Params} {h:Heap} {args:List WData} {vals:List Value}
    (hpre:l.row.toRowW.claim.pre args=true) (hwl:WellAll P h vals args) :
    ∃a vs ns,vals=[Value.ref a]∧args=[WData.list (ns.map WData.int)]∧h.get? a=some {cls:=.type "list",data:=.seq vs.toArray}∧IntsAre vs ns∧ns.length≤n:=by
  have hsh:WShape.hasAll [] args [.list .int]=true:=(pre_splitW hpre).1
  have hc:l.pre.holds [] {args:=args}=true:=(pre_splitW hpre).2
  obtain ⟨d,r,rfl,h1,h2⟩:=hasAllW_cons hsh
  obtain rfl:=hasAllW_nil h2
  obtain ⟨xs,rfl,h3⟩:=hasW_list h1
  obtain ⟨ns,rfl⟩:=items_int h3
  have hlen:ns.length≤n:=by
    unfold OpenLaw.pre at hc
    have h4:(WTm.not (.lt (.lit (.int (n:Int))) (.len (.arg 0)))).holds [] {args:=[.list (ns.map .int)]}=true:=by
      have h4:=(holds_andW hc).1
      rw [hn] at h4
      exact h4
    have h5:=condW_of h4 (w_not (w_lt w_lit (w_len_list (w_arg rfl))))
    rw [List.length_map] at h5
    refine Nat.le_of_not_lt fun q=>?_
    have q':(n:Int)<((ns.length:Nat):Int):=by omega
    first
      | (rw [decide_eq_true q'] at h5;exact absurd h5 (by decide))
      | (simp at h5;omega)
  cases hwl with
  | cons w1 w2 =>
    cases w2
    cases w1 with
    | list ho hall=>exact ⟨_,_,ns,rfl,rfl,ho,ints_of_wellAll ns _ hall,hlen⟩
theorem post_true (l:OpenLaw) (args:List WData):l.row.toRowW.claim.post args (.bool true) args=true :=
  postW_of (r:=l.row.toRowW) (X:=(true==true))
    (show WShape.has [] (.bool true) .bool=true by first | rfl | decide | simp [WShape.has,WShape.arms,WShape.armsAll])
    (show (WTm.eq .res (.lit (.bool true))).value [] {args:=args,res:=some (.bool true),after:=args}=some (.bool (true==true)) from w_eq_bool (w_res rfl) w_lit) rfl
theorem attach_call {l:OpenLaw} {n:Nat} {q:Program} {loose:List Str} {XP:(Str→Option Value)→Heap→Prop} {YP:World→Heap→Prop} {d:DefRec}
    (hn:l.most=some n) (hdf:d.params.defaults=[])
    (call:∀(w:World) (s₀ s₁:Shared) (mg mb:Str→Option Value) (fa:Addr) (o:Obj) (pm cd doc:Value) (a:Addr) (vs:List Value) (ns:List Int),
      Ground q loose [] XP w s₀ mg mb s₁.heap→YP w s₁.heap →
      s₁.heap.get? fa=some o→o.data=.func (docDef d.name d.params d.body d.scope pm cd doc)→s₁.heap.CodeRec cd d.name→mg d.name=some (.ref fa) →
      s₁.heap.get? a=some {cls:=.type "list",data:=.seq vs.toArray}→IntsAre vs ns→ns.length≤n→s₁.gens=#[] →
      codeAny (model l.prog w) callerA (.call (.ref fa) ⟨[.ref a],[]⟩) (fun r s'=>r=.ok (.ret (.bool true))∧OldK s₁.heap s'.heap∧s'.os=s₁.os∧AllBare s'.gens) s₁) :
    WalkO q loose XP YP l.row.toRowW d [] (fun f vs=>PySem.call f vs):=by
  intro w s₀ s₁ mg mb G Y fa o pm cd doc dV kV ho hd hcd hD hmg hg args vals as hpre hlay hrd hwl hlo
  obtain rfl:dV=.none:=Dflts.none hD hdf
  obtain rfl:kV=.none:=Dflts.noKw hD
  obtain ⟨a,vs,ns,rfl,rfl,hobj,hints,hlen⟩:=script_of hn hpre hwl
  refine enter_call (codeAny_mono (call w s₀ s₁ mg mb fa o pm cd doc a vs ns G Y ho (fd_plain hd) hcd hmg hobj hints hlen hg) fun r s' hq=>?_)
  obtain ⟨rfl,h2,h3,h4⟩:=hq
  exact ⟨.inl ⟨.bool true,.bool true,[],rfl,fun _=>rfl,.bool true,post_true l _,fun _=>⟨List.Pairwise.nil,fun _ hm=>(nomatch hm)⟩⟩,h2,h3,h4⟩
section
variable {prog:Program} {w:World} {A:Around} {E:Value→Shared→Prop} {s:Shared} {K:Frag}
def ledger (h:Heap) (L d:Addr):List (Addr×Obj):=(List.range h.objs.size).filterMap fun a=>if a=L∨a=d then none else (h.get? a).map fun o=>(a,o)
end
end Att
namespace L2
open PySem PySem.Spec PyProof.Rows
theorem vals_ints:∀{vs:List Value} {ns:List Int},IntsAre vs ns→Vals (ns.map V.int) vs
  | _,_,.nil=>.nil
  | _,_,.cons n t h=>.cons ⟨t,rfl⟩ (vals_ints h)
def Only (H:Hp):Prop:=∀b,H b=none∨∃o xs,H b=some (.frz o (.lst xs))
theorem law_call {P:Program} {w:World} {K:PySem.W.Frag} {mg mb:Str→Option Value} {CX:CXT} {k:Nat} {fa a:Addr} {fd:FuncData} {x:Str} {sp:Sp} {s₁:Shared} {vs:List Value} {ns:List Int}
    (KX:K.In s₁.heap) (hns:s₁.heap.Ns mainGlobals mg) (hb:s₁.heap.Ns builtinsNs mb) (hbb:∀x:Str,x≠"__name__"→mb x=bootBuiltins x) (hlim:s₁.heap.NoLimit) (hg:s₁.gens=#[])
    (ha:s₁.heap.get? a=some {cls:=.type "list",data:=.seq vs.toArray}) (hi:IntsAre vs ns) (hl:ns.length≤sizeLine) (hr:Room k callerA)
    (F:∀base:Heap,K.In base→base.Ns mainGlobals mg→FnOk P w K mg base CX k fa fd [x] sp) (hbind:∀(s:Shared) (u:Value),BindsTo s fd ⟨[u],[]⟩ [(x,u)])
    (hsp:∀H:Hp,Only H→SqL K H a (ns.map V.int)→sp [.ref a] H (fun v _=>v=.bl true) fun _ _ _=>False)
    (hCX:∀H e s',CX [] H s₁ (fun _ _ _=>False) e s'→False) :
    codeAny (model P w) callerA (.call (.ref fa) ⟨[.ref a],[]⟩) (fun r s'=>r=.ok (.ret (.bool true))∧OldK s₁.heap s'.heap∧s'.os=s₁.os∧AllBare s'.gens) s₁:=by
  have rv:=vals_ints hi
  have lenV:=hi.length
  have core:∀H:Hp,Only H→SqL K H a (ns.map V.int)→HOk P w H s₁.heap→(∀b,H b≠none→b=a)→(H a≠none→K.lookup a=none) →
      codeAny (model P w) callerA (.call (.ref fa) ⟨[.ref a],[]⟩) (fun r s'=>r=.ok (.ret (.bool true))∧OldK s₁.heap s'.heap∧s'.os=s₁.os∧AllBare s'.gens) s₁:=by
    intro H hO hS hok hA hK
    have base_of:∀{b:Addr} {o:Obj},s₁.heap.get? b=some o→H b=none→(hidT s₁.heap H).get? b=some o:=fun e n=>hidT_get e n
    have noA:∀{b:Addr} {o:Obj} {es:Array DictEntry} {ep:Nat},s₁.heap.get? b=some o→o.data=.dict es ep→H b=none:=fun {b o es ep} e d=>by
      cases q:H b with
      | none=>rfl
      | some u =>
        have e':b=a:=hA b (by rw [q];simp)
        subst e'
        rw [ha] at e;cases e
        have d':Data.seq vs.toArray _=Data.dict es ep:=d
        cases d'
    have nsK:∀{b:Addr} {m:Str→Option Value},s₁.heap.Ns b m→(hidT s₁.heap H).Ns b m:=fun {b m} ⟨o,es,ep,e,d,r⟩=>⟨o,es,ep,base_of e (noA e d),d,r⟩
    have hKb:K.In (hidT s₁.heap H):=fun b o e=>base_of (KX b o e) (by
      cases q:H b with
      | none=>rfl
      | some u =>
        have e':b=a:=hA b (by rw [q];simp)
        subst e'
        rw [hK (by rw [q];simp)] at e;cases e)
    have hM:Mod K mg (hidT s₁.heap H):=⟨hKb,nsK hns,⟨mb,nsK hb,hbb⟩,let ⟨mc,h1,h2⟩:=hlim;⟨mc,nsK h1,h2⟩⟩
    have e0:Env0 P w K mg (hidT s₁.heap H) callerA [] s₁ H:=⟨rfl,hM,fun b o e=>of_hidT e,Nat.le_of_eq (hidT_size _ _),trivial,fun b hb=>absurd (show b∈([]:List Addr) from hb) (by simp),hok,.of_eq hg⟩
    refine codeAny_mono ((F _ hKb (nsK hns)).run callerA [] s₁ H ⟨[.ref a],[]⟩ [.ref a] [.ref a] _ _ hr e0 (hbind s₁ (.ref a)) (.cons rfl .nil) (hsp H hO hS)) fun r s' h=>?_
    cases r with
    | error e=>exact (hCX H e s' h).elim
    | ok fl =>
      cases fl with
      | next=>exact False.elim h
      | brk=>exact False.elim h
      | cont=>exact False.elim h
      | ret u =>
        obtain ⟨v,H',os,bare,un,hok',r',q⟩:=h
        have q':v=.bl true:=q
        subst q'
        obtain rfl:u=Value.bool true:=r'
        refine ⟨rfl,OldK.of_keep fun b o e=>?_,os,bare⟩
        cases q:H b with
        | none=>exact un.keep b o e q (by intro z;exact absurd (show b∈([]:List Addr) from z) (by simp)) (by simp)
        | some u =>
          rcases hO b with z | ⟨ob,xs,z⟩
          · rw [q] at z;cases z
          · have z2:=un.frzs b ob _ z
            obtain ⟨e1,_⟩:=hok b _ z
            obtain ⟨e2,_⟩:=hok' b _ z2
            rw [e] at e1;cases e1
            exact e2
  cases hk:K.lookup a with
  | some o =>
    have e:=KX a o hk
    rw [ha] at e
    cases e
    refine core (fun _=>none) (fun _=>.inl rfl) (.inr ⟨_,vs.toArray,_,hk,rfl,rfl,rfl,by rw [List.size_toArray,lenV];exact hl,by simpa using rv⟩) (fun b u z=>by have z':(none:Option HO)=some u:=z;cases z') (fun b z=>absurd rfl z) fun z=>absurd rfl z
  | none =>
    refine core (fun b=>if b=a then some (.frz {cls:=.type "list",data:=.seq vs.toArray} (.lst (ns.map V.int))) else none) (fun b=>?_) (.inl (.inr ⟨{cls:=.type "list",data:=.seq vs.toArray},if_pos rfl⟩)) (fun b u z=>?_) (fun b z=>?_) fun _=>hk
    · by_cases hb:b=a
      · exact .inr ⟨_,_,if_pos hb⟩
      · exact .inl (if_neg hb)
    · by_cases hb:b=a
      · have z':=(if_pos hb).symm.trans z
        cases z'
        subst hb
        exact ⟨ha,by rw [List.length_map];exact hl,vs,_,rv,ha⟩
      · have z':=(if_neg hb).symm.trans z
        cases z'
    · by_cases hb:b=a
      · exact hb
      · exact absurd (if_neg hb) z
end L2
namespace L2
open PySem PySem.Spec PyProof.Rows
theorem walk_of {l:PySem.W.OpenLaw} {n k:Nat} {q:Program} {loose:List Str} {XP:(Str→Option Value)→Heap→Prop} {YP:World→Heap→Prop} {d:DefRec} {K:Params→PySem.W.Frag} {CX:World→CXT} {sp:World→Sp} {x:Str}
    (hn:l.most=some n) (hn2:n≤sizeLine) (hdf:d.params.defaults=[]) (hr:Room k callerA)
    (hY:∀(w:World) (h:Heap),YP w h→(K w.params).In h)
    (F:∀(w:World) (mg:Str→Option Value) (fa:Addr) (h:Heap),(K w.params).In h→h.Ns mainGlobals mg→mg d.name=some (.ref fa) →
      ∃fd:FuncData,(∀(s:Shared) (u:Value),BindsTo s fd ⟨[u],[]⟩ [(x,u)]) ∧
        ∀base:Heap,(K w.params).In base→base.Ns mainGlobals mg→FnOk l.prog w (K w.params) mg base (CX w) k fa fd [x] (sp w))
    (hsp:∀(w:World) (H:Hp) (a:Addr) (ns:List Int),ns.length≤n→Only H→SqL (K w.params) H a (ns.map V.int)→sp w [.ref a] H (fun v _=>v=.bl true) fun _ _ _=>False)
    (hCX:∀(w:World) (H:Hp) (s:Shared) (e:Value) (s':Shared),CX w [] H s (fun _ _ _=>False) e s'→False) :
    PySem.W.WalkO q loose XP YP l.row.toRowW d [] (fun f vs=>PySem.call f vs):=by
  refine Att.attach_call hn hdf fun w s₀ s₁ mg mb fa o pm cd doc a vs ns G Y ho hd hcd hmg hobj hints hlen hg=>?_
  have KX:=hY w _ Y
  obtain ⟨fd,hb,hF⟩:=F w mg fa _ KX G.T.g hmg
  exact law_call KX G.T.g G.T.b G.T.builtins G.T.nolimit hg hobj hints (Nat.le_trans hlen hn2) hr hF hb (fun H hO hS=>hsp w H a ns hlen hO hS) fun H e s'=>hCX w H s₁ e s'
end L2
namespace L2
open PySem PySem.Spec PyProof.Rows
def inClass (s:Stmt) (j:Nat):Stmt:=match s with
  | .ClassDef _ _ _ body _ _ _ _ _ _ _=>body.getD j (.Pass ⟨0,0,0,0⟩)
  | _=>.Pass ⟨0,0,0,0⟩
def defArgs (s:Stmt):Arguments:=match s with
  | .FunctionDef _ a _ _ _ _ _ _ _ _=>a
  | _=>{posonlyargs:=[],args:=[],vararg:=none,kwonlyargs:=[],kw_defaults:=[],kwarg:=none,defaults:=[]}
def defBody (s:Stmt):List Stmt:=match s with
  | .FunctionDef _ _ b _ _ _ _ _ _ _=>b
  | _=>[]
def defScope (s:Stmt):Scope:=match s with
  | .FunctionDef _ _ _ _ _ _ sc _ _ _=>sc
  | _=>{kind:=.function,names:=[],isGenerator:=false,isCoroutine:=false}
abbrev CX0:CXT:=fun _ _ _ _ _ _=>False
abbrev E0:XK:=fun _ _ _=>False
theorem pass0 {X:Cx}:Passes CX0 X E0:=fun _ _ _ _ _ _ _ h=>h.elim
structure Fun (K:PySem.W.Frag) (x qual:Str) (st:Stmt) (f:Addr) (fd:FuncData):Prop where
  ex:∃(oc:Value) (od:Option Addr) (kV doc pm:Value) (an:Option Addr) (cdv ct:Value) (osl:Array (Option Value)),
    fd=PySem.W.fnOf x qual (defArgs st) (defBody st) (defScope st) .none kV doc pm an cdv ct∧K.lookup f=some ⟨oc,od,.func fd,osl⟩∧PySem.W.codeIn K cdv qual=true
  kp:PySem.W.keepIn K (.ref f)=true
section
variable {P:Program} {w:World} {K:PySem.W.Frag} {mg:Str→Option Value} {base:Heap}
theorem Fun.ok {x qual:Str} {st:Stmt} {f:Addr} {fd:FuncData} {N ps:List Str} {k:Nat} {sp:Sp} (F:Fun K x qual st f fd) (S:FnScope N ps (defScope st)) (len:∀vs H Q E,sp vs H Q E→vs.length=ps.length)
    (hbody:∀(cdv:Value) (A:Around) (outer:List Env) (s:Shared) (H:Hp) (vs:List V) (Q:VK) (E:XK),Room k (A.deeper (envOfC qual (defScope st) s.heap.objs.size f cdv))→sp vs H Q E →
      ∃t,PSs (cxOf CX0 P w K mg base N qual (defScope st) f cdv A outer s H E).nox (defBody st) t∧t {nx:=fun _ H'=>Q .non H',rt:=Q} (start N vs) H):FnOk P w K mg base CX0 (k+1) f fd ps sp:=by
  obtain ⟨oc,od,kV,doc,pm,an,cdv,ct,osl,rfl,lk,hcd⟩:=F.ex
  refine fn_of lk hcd S len fun A outer s H vs Q E hr hsp=>?_
  obtain ⟨t,h,q⟩:=hbody cdv A outer s H vs Q E hr hsp
  exact ⟨t,h.nox,q⟩
theorem Fun.binds {x qual:Str} {st:Stmt} {f:Addr} {fd:FuncData} {ps:List Str} (F:Fun K x qual st f fd)
    (h:∀(kV doc pm:Value) (an:Option Addr) (cdv ct:Value) (us:List Value),us.length=ps.length→bindArgs (PySem.W.fnOf x qual (defArgs st) (defBody st) (defScope st) .none kV doc pm an cdv ct) ⟨us,[]⟩=pure (ps.zip us)):Binds K fd ps []:=by
  obtain ⟨oc,od,kV,doc,pm,an,cdv,ct,osl,rfl,lk,hcd⟩:=F.ex
  exact .all (h kV doc pm an cdv ct)
theorem fun_mk {x qual:Str} {st:Stmt} {f:Addr} {oc:Value} {od an:Option Addr} {osl:Array (Option Value)} {kV doc pm cdv ct:Value} (l:K.lookup f=some ⟨oc,od,.func (PySem.W.fnOf x qual (defArgs st) (defBody st) (defScope st) .none kV doc pm an cdv ct),osl⟩)
    (c:PySem.W.codeIn K cdv qual=true) (k:PySem.W.keepIn K (.ref f)=true):Fun K x qual st f (PySem.W.fnOf x qual (defArgs st) (defBody st) (defScope st) .none kV doc pm an cdv ct):=⟨⟨oc,od,kV,doc,pm,an,cdv,ct,osl,rfl,l,c⟩,k⟩
end
theorem hu_of {A:Around} {k:Nat} (hr:Room k A):A.units+1<cLine:=Nat.lt_of_le_of_lt (Nat.add_le_add_left (by decide:1≤64) _) hr.units
theorem small1000 {n:Nat} (h:n≤1000):n<sizeLine:=Nat.lt_of_le_of_lt h (by decide)
section
variable {X:Cx}
theorem pv (i:Nat) {x:Str} {pos:Pos} (hN:X.N[i]?=some x:=by rfl) (hv:Vis X.env.scope x:=by first | exact Or.inl rfl | exact Or.inr (Or.inl rfl) | exact Or.inr (Or.inr rfl)) (hd:(x==("__debug__":Str))=false:=by decide)
    (hcd:(x==("__classdict__":Str))=false:=by decide):PE X (.Name x pos) (tVar i):=pe_var hN hv hd hcd
end
theorem iteF {A B:Prop} (h:B):if false=true then A else B:=by
  rw [if_neg Bool.false_ne_true]
  exact h
theorem iteT {A B:Prop} (h:A):if true=true then A else B:=by
  rw [if_pos rfl]
  exact h
theorem ite2 {c A B:Prop} [Decidable c] (h1:c→A) (h2:¬c→B):if c then A else B:=by
  by_cases h:c
  · rw [if_pos h]
    exact h1 h
  · rw [if_neg h]
    exact h2 h
def Same (H H':Hp):Prop:=∀b o,H b=some o→H' b=some o
theorem Same.refl (H:Hp):Same H H:=fun _ _ h=>h
theorem Same.trans {H H1 H2:Hp} (a:Same H H1) (b:Same H1 H2):Same H H2:=fun c o h=>b c o (a c o h)
theorem Same.free {H H':Hp} (e:Same H H') {l:Addr} (h:H' l=Option.none):H l=Option.none:=by
  cases q:H l with
  | none=>rfl
  | some o =>
    rw [e l o q] at h
    cases h
theorem Same.seq {K:PySem.W.Frag} {H H':Hp} {a:Addr} {xs:List V} (e:Same H H') (h:SqL K H a xs):SqL K H' a xs:=by
  rcases h with (h | ⟨o,h⟩) | h
  · exact .inl (.inl (e _ _ h))
  · exact .inl (.inr ⟨o,e _ _ h⟩)
  · exact .inr h
end L2
namespace L2
open PySem PySem.Spec PyProof.Rows
def clOf (en:Env):List (Str×NameKind)→List (Str×Addr)→List (Str×Addr)
  | [],cs=>cs
  | (n,k)::r,cs=>if (k==NameKind.free)=true then clOf en r ((n,(en.cells.lookup n).getD 0)::cs) else clOf en r cs
theorem clOf_for {en:Env}:∀(ns:List (Str×NameKind)) (cs:List (Str×Addr)),(∀y∈ns,y.2=.free→(en.cells.lookup y.1).isSome=true) →
    (forIn ns cs fun (y:Str×NameKind) (r:List (Str×Addr))=>(if (y.2==NameKind.free)=true then (cellOf en y.1 >>= fun a=>pure (ForInStep.yield ((y.1,a)::r))) else pure (ForInStep.yield r):Sem (ForInStep (List (Str×Addr)))))=pure (clOf en ns cs):=by
  intro ns
  induction ns with
  | nil=>intro cs _;rfl
  | cons y r ih =>
    intro cs h
    obtain ⟨n,k⟩:=y
    rw [List.forIn_cons]
    have hr:=fun cs=>ih cs fun y hy=>h y (List.mem_cons_of_mem _ hy)
    dsimp only
    by_cases hk:(k==NameKind.free)=true
    · have hk':k=.free:=by simpa using hk
      obtain ⟨a,ha⟩:=Option.isSome_iff_exists.mp (h (n,k) List.mem_cons_self hk')
      have e1:cellOf en n=pure a:=by unfold cellOf;dsimp only at ha;rw [ha]
      have e2:clOf en ((n,k)::r) cs=clOf en r ((n,a)::cs):=by
        show (if (k==NameKind.free)=true then _ else _)=_
        rw [if_pos hk];dsimp only at ha;rw [ha];rfl
      rw [if_pos hk,e1,e2]
      simp only [pure_bind]
      exact hr _
    · have e2:clOf en ((n,k)::r) cs=clOf en r cs:=by
        show (if (k==NameKind.free)=true then _ else _)=_
        rw [if_neg hk]
      rw [if_neg hk,e2]
      simp only [pure_bind]
      exact hr _
theorem closureFor_cl {en:Env} {sc:Scope} (h:∀y∈sc.names,y.2=.free→(en.cells.lookup y.1).isSome=true):closureFor sc en=pure (clOf en sc.names []):=by
  have q:=clOf_for (en:=en) sc.names [] h
  unfold closureFor
  refine Eq.trans ?_ (show (forIn sc.names ([]:List (Str×Addr)) _ >>= pure)=_ by rw [q];rfl)
  rfl
theorem clOf_sub {en:Env}:∀(ns:List (Str×NameKind)) (cs:List (Str×Addr)),(∀y∈ns,y.2=.free→(en.cells.lookup y.1).isSome=true)→(∀x c,cs.lookup x=some c→en.cells.lookup x=some c) →
    ∀x c,(clOf en ns cs).lookup x=some c→en.cells.lookup x=some c
  | [],cs,_,hc,x,c,e=>hc x c e
  | (n,k)::r,cs,h,hc,x,c,e=>by
    have hr:∀y∈r,y.2=.free→(en.cells.lookup y.1).isSome=true:=fun y hy=>h y (List.mem_cons_of_mem _ hy)
    unfold clOf at e
    by_cases hk:(k==NameKind.free)=true
    · rw [if_pos hk] at e
      refine clOf_sub r _ hr (fun x' c' e'=>?_) x c e
      rw [List.lookup_cons] at e'
      cases hx:x'==n with
      | true =>
        rw [hx] at e'
        have hx':x'=n:=by simpa using hx
        obtain ⟨a,ha⟩:=Option.isSome_iff_exists.mp (h (n,k) List.mem_cons_self (by simpa using hk))
        dsimp only at ha e'
        rw [ha] at e'
        rw [hx',ha]
        exact e'
      | false=>rw [hx] at e';exact hc x' c' e'
    · rw [if_neg hk] at e
      exact clOf_sub r cs hr hc x c e
theorem clOf_has {en:Env}:∀(ns:List (Str×NameKind)) (cs:List (Str×Addr)) (x:Str),((x,NameKind.free)∈ns∨(cs.lookup x).isSome=true)→((clOf en ns cs).lookup x).isSome=true
  | [],cs,x,h=>by
    rcases h with h | h
    · cases h
    · exact h
  | (n,k)::r,cs,x,h=>by
    unfold clOf
    by_cases hk:(k==NameKind.free)=true
    · rw [if_pos hk]
      refine clOf_has r _ x ?_
      rcases h with h | h
      · rcases List.mem_cons.mp h with e | h
        · right
          rw [List.lookup_cons,show (x==n)=true by simpa using congrArg Prod.fst e]
          rfl
        · exact .inl h
      · right
        rw [List.lookup_cons]
        cases hx:x==n with
        | true=>rfl
        | false=>exact h
    · rw [if_neg hk]
      refine clOf_has r _ x ?_
      rcases h with h | h
      · rcases List.mem_cons.mp h with e | h
        · exfalso
          have e':NameKind.free=k:=congrArg Prod.snd e
          rw [←e'] at hk
          exact hk (by decide)
        · exact .inl h
      · exact .inr h
theorem relabel_free {en:Env}:∀{ns:List (Str×NameKind)} {x:Str},ns.lookup x=some .free →
    (ns.map fun (n,k)=>if (k==NameKind.free&&en.scope.kind==.function&&en.kindOf n==some .cell) then (n,NameKind.cell) else (n,k)).lookup x=some .cell ∨
    (ns.map fun (n,k)=>if (k==NameKind.free&&en.scope.kind==.function&&en.kindOf n==some .cell) then (n,NameKind.cell) else (n,k)).lookup x=some .free
  | [],_,h=>by simp at h
  | (n,k)::r,x,h=>by
    have ih:=@relabel_free en r x
    rw [List.map_cons]
    cases hx:x==n with
    | true =>
      simp only [List.lookup_cons,hx] at h
      cases h
      dsimp only
      split
      · left;simp [List.lookup_cons,hx]
      · right;simp [List.lookup_cons,hx]
    | false =>
      simp only [List.lookup_cons,hx] at h
      dsimp only
      split
      · simp only [List.lookup_cons,hx];exact ih h
      · simp only [List.lookup_cons,hx];exact ih h
theorem relabel_of {en:Env}:∀{ns:List (Str×NameKind)} {x:Str} {q:NameKind},(q=.cell∨q=.free) →
    (ns.map fun (n,k)=>if (k==NameKind.free&&en.scope.kind==.function&&en.kindOf n==some .cell) then (n,NameKind.cell) else (n,k)).lookup x=some q→(x,NameKind.free)∈ns∨(x,NameKind.cell)∈ns
  | [],_,_,_,h=>by simp at h
  | (n,k)::r,x,q,hq,h=>by
    have ih:=@relabel_of en r x q hq
    rw [List.map_cons] at h
    dsimp only at h
    by_cases hc:(k==NameKind.free&&en.scope.kind==.function&&en.kindOf n==some .cell)=true
    · rw [if_pos hc] at h
      have hk:k=.free:=by
        simp only [Bool.and_eq_true] at hc
        simpa using hc.1.1
      cases hx:x==n with
      | true =>
        have hx':x=n:=by simpa using hx
        exact .inl (by rw [hx',hk];exact List.mem_cons_self)
      | false =>
        simp only [List.lookup_cons,hx] at h
        rcases ih h with z | z
        · exact .inl (List.mem_cons_of_mem _ z)
        · exact .inr (List.mem_cons_of_mem _ z)
    · rw [if_neg hc] at h
      cases hx:x==n with
      | true =>
        have hx':x=n:=by simpa using hx
        simp only [List.lookup_cons,hx] at h
        cases h
        rcases hq with z | z
        · exact .inr (by rw [hx',←z];exact List.mem_cons_self)
        · exact .inl (by rw [hx',←z];exact List.mem_cons_self)
      | false =>
        simp only [List.lookup_cons,hx] at h
        rcases ih h with z | z
        · exact .inl (List.mem_cons_of_mem _ z)
        · exact .inr (List.mem_cons_of_mem _ z)
abbrev blk (X:Cx) (N':List Str) (sc:Scope) (C:Addr) (s2:Shared) (H2:Hp) (ex:List Addr):Cx :=
  {X with N:=N',s₀:=s2,H₀:=H2,env:=compEnvC sc (clOf X.env sc.names []) C X.env,outer:=X.stack,stack:=X.stack,ex:=ex,fn:=fun _=>false,xe:=fun _ _=>False}
def cst (σ:St) (nl:Nat) (js:List Nat):St:=List.replicate nl none++js.map fun j=>(σ[j]?).getD none
structure CScope (X:Cx) (sc:Scope) (N':List Str) (nl:Nat) (js:List Nat):Prop where
  kind:sc.kind=.function
  nocell:∀y∈sc.names,y.2≠.cell
  locs:∀y∈sc.names,y.2=.local→sc.names.lookup y.1=some .local
  frees:∀y∈sc.names,y.2=.free→X.env.kindOf y.1=some .cell∨X.env.kindOf y.1=some .free
  cap:∀(i j:Nat),js[i]?=some j→∃x,N'[nl+i]?=some x∧X.N[j]?=some x∧sc.names.lookup x=some .free
  len:N'.length=nl+js.length
def Wk (σ0 σ2:St):Prop:=σ0.length=σ2.length∧∀(i:Nat) v,σ0[i]?=some (some v)→σ2[i]?=some (some v)
def PIf (X:Cx) (ifs:List Expr) (t:TT):Prop :=
  ∀(pins:List (Addr×Obj)) (s:Shared) (σ:St) (H:Hp) (Q:Bool→Hp→Prop),Inv X pins σ H s→t σ H Q →
    wpAny (model X.prog X.w) X.A (forIn ifs true fun c r=>if r=true then do let ok ←isTrue c X.env (eval c X.env);pure (ForInStep.yield ok) else pure (ForInStep.yield r)) (TP X pins σ Q) X.xe s
theorem pif_nil {X:Cx}:PIf X [] (fun _ H Q=>Q true H):=fun _ _ _ H _ I h=>wpAny_tests_nil ⟨H,I,h⟩
theorem pif_one {X:Cx} {c:Expr} {t:TT} (h:PT X c t):PIf X [c] t:=fun pins s σ H Q I hw=>wpAny_tests_one (h pins s σ H Q I hw)
section
variable {X:Cx} {sc:Scope} {N':List Str} {nl:Nat} {js:List Nat} {pins:List (Addr×Obj)} {σ:St} {H:Hp} {s:Shared}
theorem CScope.hasC (S:CScope X sc N' nl js) (ok:X.Ok):∀y∈sc.names,y.2=.free→(X.env.cells.lookup y.1).isSome=true:=fun y hy hf=>by
  obtain ⟨c,e⟩:=ok.has y.1 (S.frees y hy hf)
  rw [e];rfl
theorem CScope.sub (S:CScope X sc N' nl js) (ok:X.Ok) {x:Str} {c:Addr} (e:(clOf X.env sc.names []).lookup x=Option.some c):X.env.cells.lookup x=Option.some c :=
  clOf_sub sc.names [] (S.hasC ok) (fun _ _ z=>by simp at z) x c e
theorem blk_ok (S:CScope X sc N' nl js) (I:Inv X pins σ H s) {fp:List Addr} {C:Addr} (hf:∀b∈fp,FpOk X pins H b) (hC:s.heap.objs.size≤C) (hfC:∀b∈fp,b≠C):(blk X N' sc C s H fp).Ok where
  mod:=I.ok.mod
  kind:=S.kind
  glob:=I.ok.glob
  blt:=I.ok.blt
  above:=hC
  inj:=fun x y c h1 h2=>I.ok.inj x y c (S.sub I.ok h1) (S.sub I.ok h2)
  has:=fun x hx=>by
    have hm:(x,NameKind.free)∈sc.names∨(x,NameKind.cell)∈sc.names:=by
      rcases hx with z | z
      · exact relabel_of (.inl rfl) z
      · exact relabel_of (.inr rfl) z
    rcases hm with z | z
    · exact Option.isSome_iff_exists.mp (clOf_has sc.names [] x (.inl z))
    · exact absurd rfl (S.nocell _ z)
  cab:=fun x c h _=>absurd (show false=true from h) Bool.false_ne_true
  hd:=I.ok.hd
  frames:=I.ok.frames
  stk:=.inl rfl
  exf:=fun b hb=>⟨hfC b hb,fun x c e=>(hf b hb).2.2.2.2.1 x c (S.sub I.ok e)⟩
  bs:=I.bs
  bsz:=Nat.le_trans I.ok.bsz I.sz
  noex:=fun b o e hb=>by
    rcases (hf b hb).2.2.2.1 with z | z
    · exact I.ok.noex b o e z
    · exact absurd (Nat.lt_of_lt_of_le (Heap.lt_size (I.ok.bs b o e).1) z) (Nat.lt_irrefl _)
  exfs:=fun b hb hs=>by
    rcases List.mem_cons.mp (I.stkSub b hs) with z | z
    · exact (hf b hb).2.1 z
    · exact (hf b hb).2.2.1 z
  funs:=I.stack
  frf:=I.stkFree
theorem cst_len (hl:N'.length=nl+js.length):(cst σ nl js).length=N'.length:=by
  unfold cst
  rw [List.length_append,List.length_replicate,List.length_map,hl]
theorem cst_get {i:Nat} {v:V} (e:(cst σ nl js)[i]?=some (some v)):∃k j,i=nl+k∧js[k]?=some j∧σ[j]?=some (some v):=by
  unfold cst at e
  by_cases hi:i<nl
  · rw [List.getElem?_append_left (by simpa using hi),List.getElem?_replicate] at e
    rw [if_pos hi] at e
    cases e
  · rw [List.getElem?_append_right (by simpa using hi),List.length_replicate,List.getElem?_map] at e
    cases q:js[i-nl]? with
    | none=>rw [q] at e;cases e
    | some j =>
      rw [q] at e
      have e':(σ[j]?).getD none=some v:=by simpa using e
      refine ⟨i-nl,j,by omega,q,?_⟩
      cases z:σ[j]? with
      | none=>rw [z] at e';cases e'
      | some w'=>rw [z] at e';simpa using e'
theorem blk_inv (S:CScope X sc N' nl js) (I:Inv X pins σ H s) {fp:List Addr} {C:Addr} {h':Heap} {t':Nat} {m:Str→Option Value} (hf:∀b∈fp,FpOk X pins H b) (hC:s.heap.objs.size≤C) (hfC:∀b∈fp,b≠C)
    (k:∀b u,s.heap.get? b=some u→h'.get? b=some u) (hn:h'.Ns C m):Inv (blk X N' sc C s H fp) pins (cst σ nl js) H {s with heap:=h',toks:=t'} where
  ok:=blk_ok S I hf hC hfC
  os:=rfl
  bare:=I.bare
  base:=Un.kept k
  loc:=by
    refine ⟨m,hn,fun i x v e1 e2 e3=>?_⟩
    obtain ⟨q,j,rfl,hj,hv⟩:=cst_get e2
    obtain ⟨x',n1,n2,n3⟩:=S.cap q j hj
    have ex:x'=x:=by
      have z:N'[nl+q]?=some x:=e1
      rw [n1] at z;exact Option.some.inj z
    subst ex
    obtain ⟨m0,_,hl⟩:=I.loc
    have kf:=S.frees (x',.free) (PySem.mem_of_lookup n3) rfl
    obtain ⟨u,r,l⟩:=hl j x' v n2 hv (by
      rcases kf with z | z
      · exact .inr (.inl z)
      · exact .inr (.inr z))
    refine ⟨u,r,?_⟩
    rcases l with ⟨z,_⟩ | ⟨_,c,hc,hcell⟩
    · rcases kf with y | y
      · rw [z] at y;cases y
      · rw [z] at y;cases y
    · obtain ⟨c',hc'⟩:=Option.isSome_iff_exists.mp (clOf_has (en:=X.env) sc.names [] x' (.inl (PySem.mem_of_lookup n3)))
      have e:c'=c:=by
        have z:=S.sub I.ok hc'
        rw [hc] at z;exact (Option.some.inj z).symm
      subst e
      obtain ⟨o,ho,hd⟩:=hcell
      exact .inr ⟨relabel_free n3,c',hc',⟨o,k _ _ ho,hd⟩⟩
  cell:=fun x c e=>by
    obtain ⟨v,o,ho,hd⟩:=I.cell x c (S.sub I.ok e)
    exact ⟨v,o,k _ _ ho,hd⟩
  free:=I.hok.fresh hC
  freeC:=fun x c e=>I.freeC x c (S.sub I.ok e)
  pin:=fun p hp=>by
    obtain ⟨e,n,ne,nf,d⟩:=I.pin p hp
    refine ⟨k _ _ e,n,Nat.ne_of_lt (Nat.lt_of_lt_of_le (Heap.lt_size e) hC),fun z=>?_,d⟩
    rcases List.mem_cons.mp (I.stkSub _ z) with y | y
    · exact ne y
    · exact nf y
  hok:=I.hok.kept k
  len:=cst_len S.len
end
theorem compLoop_any {prog:Program} {w:World} {A:Around} {R:Result→Shared→Prop} {s:Shared} {elt tg it':Expr} {ifs:List Expr} {sc:Scope} {pos:Pos} {it acc:Value} {en:Env} (I:Nat→Shared→Prop)
    (turn:∀n s,I n s→wpAny (model prog w) A (pyNext it) (fun r s1=>match r with
      | none=>R (.ok .next) s1
      | some v=>wpAny (model prog w) A (letOwnedTupleGo tg it v) (fun _ s2=>wpAny (model prog w) A (assign tg en v) (fun _ s3 =>
          wpAny (model prog w) A (forIn ifs true fun c r=>if r=true then do let ok ←isTrue c en (eval c en);pure (ForInStep.yield ok) else pure (ForInStep.yield r)) (fun ok s4 =>
            if ok=true then wpAny (model prog w) A (eval elt en) (fun x s5=>wpAny (model prog w) A (call (.builtin "list.append") [acc,x]) (fun _ s6=>∃m,m<n∧I m s6) (fun _ _=>False) s5) (fun _ _=>False) s4
            else ∃m,m<n∧I m s4) (fun _ _=>False) s3) (fun _ _=>False) s2) (fun _ _=>False) s1) (fun _ _=>False) s)
    (n:Nat) (h:I n s):codeAny (model prog w) A (.compLoop (.ListComp elt [⟨tg,it',ifs,0⟩] sc pos) 0 it acc en) R s:=by
  refine codeAny_loop rfl I (fun n s hI=>?_) n h
  show wpAny _ A ((compTurn (.ListComp elt [⟨tg,it',ifs,0⟩] sc pos) 0 it acc en).onRaise (fun x=>do noteFrame x en;theTreesLotGoes x)) _ _ s
  refine wpAny_noted ?_
  rw [compTurn_list]
  refine wpAny_bind (wpAny_standAt (wpAny_bind (wpAny_mono (turn n s hI) (fun r s1 h1=>?_) fun _ _ z=>z.elim)))
  cases r with
  | none=>exact wpAny_pure h1
  | some v =>
    refine wpAny_bind (wpAny_mono h1 (fun _ s2 h2=>?_) fun _ _ z=>z.elim)
    refine wpAny_bind (wpAny_mono h2 (fun _ s3 h3=>?_) fun _ _ z=>z.elim)
    refine wpAny_bind (wpAny_mono h3 (fun ok s4 h4=>?_) fun _ _ z=>z.elim)
    cases ok with
    | false=>exact wpAny_pure ⟨rfl,h4⟩
    | true =>
      refine wpAny_bind (wpAny_bind (wpAny_mono h4 (fun x s5 h5=>?_) fun _ _ z=>z.elim))
      exact wpAny_bind (wpAny_mono h5 (fun _ s6 h6=>wpAny_pure (wpAny_pure ⟨rfl,h6⟩)) fun _ _ z=>z.elim)
def LcW (J:It) (g:TG) (tt:TT) (te:TE) (σ0:St) (Q:VK) (H1:Hp):Prop :=
  ∃W:Nat→Nat→List V→Hp→Prop,(∃m,W 0 m [] H1)∧∀i m ys H,W i m ys H→ys.length≤sizeLine ∧
    ((J.stop i H∧∀p,H p=none→Q (.ref p) (upd H p (.lst ys))) ∨
     (J.go i H∧∀x H',J.yld i H x H'→g x σ0 H' fun σ2 H2=>Wk σ0 σ2∧tt σ2 H2 fun k H3=>if k=true then te σ2 H3 fun v H4=>ys.length<sizeLine∧∃m',m'<m∧W (i+1) m' (ys++[v]) H4 else ∃m',m'<m∧W (i+1) m' ys H3))
def tLc (wi:TI) (g:TG) (tt:TT) (te:TE) (nl:Nat) (js:List Nat):TE:=fun σ H Q=>wi σ H fun J H1=>LcW J g tt te (cst σ nl js) Q H1
section
variable {X:Cx} {sc:Scope} {N':List Str} {nl:Nat} {js:List Nat} {tg iter elt:Expr} {ifs:List Expr} {pos:Pos} {wi:TI} {g:TG} {tt:TT} {te:TE}
theorem lc_core {pins:List (Addr×Obj)} {σ:St} {H:Hp} {s:Shared} {E:Value→Shared→Prop} {RR:Value→Addr→Result→Shared→Prop} {it:Addr} {fp:List Addr} {tn:Nat→Heap→Prop} {J:It} {Q:VK} (hc:X.calm=true) (S:CScope X sc N' nl js)
    (hg:∀C s2 H2 ex,PG (blk X N' sc C s2 H2 ex) tg g) (ht:∀C s2 H2 ex,PIf (blk X N' sc C s2 H2 ex) ifs tt) (he:∀C s2 H2 ex,PE (blk X N' sc C s2 H2 ex) elt te)
    (I:Inv X pins σ H s) (T:Turn X.prog X.w X.K tg J fp it tn) (st:tn 0 s.heap) (hf:∀b∈fp,FpOk X pins H b) (h:LcW J g tt te (cst σ nl js) Q H)
    (fin:∀D C H' s' m,Inv X pins σ H' s'→s'.heap.Ns C m→FpOk X pins H' C→Q (.ref D) H'→RR (.ref D) C (.ok .next) s') :
    wpAny (model X.prog X.w) X.A (newList []) (fun acc s3=>wpAny (model X.prog X.w) X.A (newFunctionEnv sc X.env.globals (clOf X.env sc.names []) [] X.env.qual none .none (some X.env)) (fun cenv s4 =>
      codeAny (model X.prog X.w) X.A (.compStart (.ListComp elt [⟨tg,iter,ifs,0⟩] sc pos) 0 (.ref it) acc {cenv with scope:=relabel sc X.env}) (RR acc cenv.locals) s4) E s3) E s:=by
  obtain ⟨W,⟨m0,w0⟩,step⟩:=h
  refine wpAny_newObj_type (wpAny_newFunctionEnv S.nocell (by intro y hy;simp at hy) (fun h1 hns hsb=>?_) S.kind)
  dsimp only at hns hsb ⊢
  generalize hP:s.heap.push {cls:=.type "list",dict:=none,data:=.seq ([]:List Value).toArray}=P1 at hns hsb ⊢
  have hCs:P1.objs.size=s.heap.objs.size+1:=by rw [←hP,Heap.size_push]
  have hDC:s.heap.objs.size≠P1.objs.size:=by rw [hCs];exact Nat.ne_of_lt (Nat.lt_succ_self _)
  have hCle:s.heap.objs.size≤P1.objs.size:=by rw [hCs];exact Nat.le_succ _
  have ltf:∀b∈fp,b<s.heap.objs.size:=fun b hb=>by
    obtain ⟨o,e,_⟩:=T.obj 0 _ st b hb
    exact Heap.lt_size e
  have hfC:∀b∈fp,b≠P1.objs.size:=fun b hb=>Nat.ne_of_lt (Nat.lt_of_lt_of_le (ltf b hb) hCle)
  have old:∀b o,s.heap.get? b=some o→h1.get? b=some o:=fun b o e =>
    hsb.extBut b o (Nat.ne_of_lt (Nat.lt_of_lt_of_le (Heap.lt_size e) hCle)) (Heap.get?_push_of_some _ (hP▸Heap.get?_push_of_some _ e))
  have accD:h1.get? s.heap.objs.size=some {cls:=.type "list",data:=.seq ([]:List Value).toArray 0}:=hsb.extBut _ _ hDC (Heap.get?_push_of_some _ (hP▸Heap.get?_push_size _ rfl))
  generalize hDd:s.heap.objs.size=D at *
  generalize hCd:P1.objs.size=C at *
  have ltp:∀p∈X.pn++pins,p.1<D:=fun p hp=>by rw [←hDd];exact Heap.lt_size (I.pin p hp).1
  have ltc:∀x c,X.env.cells.lookup x=some c→c<D:=fun x c e=>by
    obtain ⟨v,o,ho,_⟩:=I.cell x c e
    rw [←hDd];exact Heap.lt_size ho
  have noD:D∉frs X.stack:=fun z=>by
    rcases List.mem_cons.mp (I.stkSub _ z) with y | y
    · have:=I.lt;rw [←y,hDd] at this;exact Nat.lt_irrefl _ this
    · exact I.nofs (Nat.le_of_eq hDd) y
  have fpB:∀{H':Hp} {o:Obj},(∀b∈fp,H' b=none)→∀b∈fp,FpOk (blk X N' sc C s H fp) (pins++[(D,o)]) H' b:=fun {H' o} hn b hb=>by
    obtain ⟨f0,f1,f2,f3,f4,f5⟩:=hf b hb
    refine ⟨hn b hb,hfC b hb,fun z=>?_,.inl hb,fun x c e=>f4 x c (S.sub I.ok e),fun p hp=>?_⟩
    · rcases List.mem_cons.mp (I.stkSub _ z) with y | y
      · exact f1 y
      · exact f2 y
    · have hp':p∈(X.pn++pins)++[(D,o)]:=by rw [List.append_assoc];exact hp
      rcases List.mem_append.mp hp' with z | z
      · exact f5 p z
      · have e:p=(D,o):=by simpa using z
        subst e
        exact Nat.ne_of_gt (ltf b hb)
  have repin:∀{σ':St} {H':Hp} {s':Shared} {its:List Value} {c:Nat},Inv (blk X N' sc C s H fp) pins σ' H' s'→H' D=none→s'.heap.get? D=some {cls:=.type "list",data:=.seq its.toArray c} →
      Inv (blk X N' sc C s H fp) (pins++[(D,{cls:=.type "list",data:=.seq its.toArray c})]) σ' H' s':=fun {σ' H' s' its c} I' hn e =>
    I'.pins_of fun p hp=>by
      rcases List.mem_append.mp hp with z | z
      · exact I'.pin p (List.mem_append_right _ z)
      · have e':p=(D,{cls:=.type "list",data:=.seq its.toArray c}):=by simpa using z
        subst e'
        exact ⟨e,hn,hDC,noD,fun v z=>by cases z⟩
  have loop:∀s4:Shared,s4={s with heap:=h1,toks:=s.toks+([]:List (Str×Value)).length} →
      codeAny (model X.prog X.w) X.A (.compLoop (.ListComp elt [⟨tg,iter,ifs,0⟩] sc pos) 0 (.ref it) (.ref D) (compEnvC sc (clOf X.env sc.names []) C X.env)) (RR (.ref D) C) s4:=by
    rintro s4 rfl
    refine compLoop_any (fun n s'=>∃(i:Nat) (ys:List V) (H':Hp) (its:List Value) (c:Nat),Inv (blk X N' sc C s H fp) (pins++[(D,{cls:=.type "list",data:=.seq its.toArray c})]) (cst σ nl js) H' s' ∧
      tn i s'.heap∧(∀b∈fp,H' b=none)∧Vals ys its∧W i n ys H') ?_ m0 ⟨0,[],H,[],0,?_,?_,fun b hb=>(hf b hb).1,.nil,w0⟩
    · rintro n s' ⟨i,ys,H',its,c,I',st',fr',rv,w'⟩
      obtain ⟨hz,alt⟩:=step i n ys H' w'
      rcases alt with ⟨stop,qn⟩ | ⟨go,more⟩
      · refine wpAny_mono (T.done (blk X N' sc C s H fp) rfl rfl rfl hc i _ s' _ H' (fun _ _=>False) I' (fpB fr') st' stop) (fun r s5 ⟨hr,I5⟩=>?_) fun _ _ z=>z
        subst hr
        obtain ⟨eD,nD,_⟩:=I5.pin (D,_) (List.mem_append_right _ (List.mem_append_right _ List.mem_cons_self))
        dsimp only at eD nD
        obtain ⟨mC,hnC,_⟩:=I5.loc
        have hHD:H D=none:=I.hok.fresh (Nat.le_of_eq hDd)
        have I6:Inv X pins σ (upd H' D (.lst ys)) s5:=by
          refine I.call' (ch:=fp) I5.os ?_ ?_ I5.bare fun b hb=>?_
          · have B:Un (frs X.stack) fp H H' s.heap s5.heap:=I5.base
            refine ⟨B.keep,B.slot,fun b o e n hx=>?_,B.there,fun b xs e=>?_,fun b o u e=>?_,fun b ps e=>?_⟩
            · rw [upd_ne (by rw [←hDd];exact Nat.ne_of_lt (Heap.lt_size e))];exact B.free b o e n hx
            · rw [upd_ne (ne_of_none e hHD)];exact B.tups b xs e
            · rw [upd_ne (ne_of_none e hHD)];exact B.frzs b o u e
            · rw [upd_ne (ne_of_none e hHD)];exact B.tbls b ps e
          · intro b u e
            by_cases hb:b=D
            · subst hb
              rw [upd_same] at e
              cases e
              exact ⟨hz,its,c,rv,eD⟩
            · rw [upd_ne hb] at e
              exact (I5.hok b u e).stay (fun _ _ _ q=>q) (fun x q=>by rw [upd_ne (ne_of_none q nD)];exact q) fun x xs q=>by rw [upd_ne (ne_of_none q nD)];exact q
          · obtain ⟨f0,f1,f2,f3,f4,f5⟩:=hf b hb
            exact ⟨f3,f1,f4,f5⟩
        refine fin D C _ s5 mC I6 hnC ⟨?_,?_,?_,?_,?_,?_⟩ (qn D nD)
        · rw [upd_ne (Ne.symm hDC)];exact I5.free
        · have:=I.lt;rw [hDd] at this;exact Nat.ne_of_gt (Nat.lt_of_lt_of_le this hCle)
        · exact I.nofs (by rw [hDd];exact hCle)
        · exact .inr (Nat.le_trans I.sz (by rw [hDd];exact hCle))
        · exact fun x c' e=>Nat.ne_of_lt (Nat.lt_of_lt_of_le (ltc x c' e) hCle)
        · exact fun p hp=>Nat.ne_of_lt (Nat.lt_of_lt_of_le (ltp p hp) hCle)
      · refine wpAny_mono (T.item (blk X N' sc C s H fp) rfl rfl rfl hc i _ s' _ H' (fun _ _=>False) I' (fpB fr') st' go) (fun r s5 ⟨u,hr,h5⟩=>?_) fun _ _ z=>z
        subst hr
        refine wpAny_mono h5 (fun _ s6 ⟨x,H6,I6,r6,y6,st6,fr6⟩=>?_) fun _ _ z=>z
        have I6':=I6.pinned (fpB fr6) (T.obj _ _ st6)
        refine wpAny_mono (hg C s H fp _ s6 _ H6 x u _ I6' r6 (more x H6 y6)) (fun _ s7 ⟨σ7,H7,I7,wk,q7⟩=>?_) fun _ _ z=>z
        refine wpAny_mono (ht C s H fp _ s7 σ7 H7 _ I7 q7) (fun ok s8 ⟨H8,I8,q8⟩=>?_) fun _ _ z=>z
        have again:∀{H9:Hp} {s9:Shared},Inv (blk X N' sc C s H fp) ((pins++[(D,{cls:=.type "list",data:=.seq its.toArray c})])++pinsAt fp s6.heap) σ7 H9 s9 →
            (∀b∈fp,∀o,s6.heap.get? b=some o→s9.heap.get? b=some o)∧(∀b∈fp,H9 b=none):=fun {H9 s9} I9=>by
          refine ⟨fun b hb o e=>(I9.pin (b,o) (List.mem_append_right _ (List.mem_append_right _ (mem_pinsAt hb e)))).1,fun b hb=>?_⟩
          obtain ⟨o,e,d⟩:=T.obj _ _ st6 b hb
          exact (I9.pin (b,o) (List.mem_append_right _ (List.mem_append_right _ (mem_pinsAt hb e)))).2.1
        cases ok with
        | false =>
          rw [if_neg Bool.false_ne_true] at q8 ⊢
          obtain ⟨m',hm,w8⟩:=q8
          obtain ⟨k8,fr8⟩:=again I8
          exact ⟨m',hm,i+1,ys,H8,its,c,I8.unpinned.weak wk.1 wk.2,T.keep _ _ _ st6 k8,fr8,rv,w8⟩
        | true =>
          rw [if_pos rfl] at q8 ⊢
          refine wpAny_mono (he C s H fp _ s8 σ7 H8 _ I8 q8) (fun y s9 ⟨v,H9,I9,r9,hz9,m',hm,w9⟩=>?_) fun _ _ z=>z
          obtain ⟨k9,fr9⟩:=again I9
          have I9':=I9.unpinned
          obtain ⟨eD,nD,_⟩:=I9'.pin (D,_) (List.mem_append_right _ (List.mem_append_right _ List.mem_cons_self))
          dsimp only at eD nD
          have hl:=rv.length
          refine wpAny_list_append_plain ⟨c,eD⟩ (fun h' pl sb=>?_) (by rw [List.size_toArray];omega)
          have I10:Inv (blk X N' sc C s H fp) pins σ7 H9 {s9 with heap:=h'}:=I9'.unpinned.turned (it:=D) (t':=s9.toks) (fun b o hb e=>(sb.2 b hb).trans e) nD hDC
            (.inr (Nat.le_of_eq hDd)) (fun x c' e=>Nat.ne_of_lt (ltc x c' (S.sub I.ok e))) fun p hp=>Nat.ne_of_lt (ltp p hp)
          obtain ⟨c2,e2⟩:=pl
          have ea:its.toArray.push y=(its++[y]).toArray:=by simp
          rw [ea] at e2
          refine ⟨m',hm,i+1,ys++[v],H9,its++[y],c2,(repin I10 nD e2).weak wk.1 wk.2,T.keep _ _ _ st6 fun b hb o e=>?_,fr9,rv.append (.cons r9 .nil),w9⟩
          exact (sb.2 b (Nat.ne_of_lt (ltf b hb))).trans (k9 b hb o e)
    · exact repin (blk_inv S I hf (by rw [hDd];exact hCle) hfC old hns) (I.hok.fresh (Nat.le_of_eq hDd)) accD
    · exact T.keep _ _ _ st fun b _ o e=>old b o e
  exact codeAny_compStart_list (loop _ rfl) (T.self _ 0 _ _ _ (T.keep _ _ _ st fun b _ o e=>old b o e) (loop _ rfl))
theorem pe_lc (hc:X.calm=true) (S:CScope X sc N' nl js) (hi:PI X tg iter wi)
    (hg:∀C s2 H2 ex,PG (blk X N' sc C s2 H2 ex) tg g) (ht:∀C s2 H2 ex,PIf (blk X N' sc C s2 H2 ex) ifs tt) (he:∀C s2 H2 ex,PE (blk X N' sc C s2 H2 ex) elt te)
    (hs:∀x,foldedSetIterable iter X.env x=pure x:=by intro _;rfl):PE X (.ListComp elt [⟨tg,iter,ifs,0⟩] sc pos) (tLc wi g tt te nl js):=by
  intro pins s σ H Q I h
  rw [eval_ListComp]
  refine wpAny_comprehension_free (use:=none) rfl hs (closureFor_cl (S.hasC I.ok)) S.kind S.locs (thn (hi pins s σ H _ I h) fun v s1 h1=>thn h1 fun itv s2 h2=>?_)
  obtain ⟨it,fp,tn,J,H2,rfl,I2,T,st2,f2,q2⟩:=h2
  refine lc_core (RR:=fun acc C=>compPost (model X.prog X.w) X.A X.xe none (EP X pins σ Q) acc C) hc S hg ht he I2 T st2 f2 q2 fun D C H' s' m I' hn ⟨f0,f1,f2,f3,f4,f5⟩ q=>?_
  exact ⟨m,hn,fun h' sb=>⟨.ref D,H',I'.turned (it:=C) (t':=s'.toks) (fun b o hb e=>(sb.2 b hb).trans e) f0 f1 f3 f4 f5,rfl,q⟩⟩
end
end L2
namespace L2
open PySem PySem.Spec PyProof.Rows
theorem Vals.tog:∀{xs:List V} {us:List Value} {i:Nat} {u:Value},Vals xs us→us[i]?=some u→∃x,xs[i]?=some x∧RelV x u
  | _,_,_,_,.nil,e=>by simp at e
  | _,_,0,_,.cons r _,e=>by simp at e;subst e;exact ⟨_,rfl,r⟩
  | _,_,i+1,u,.cons _ t,e=>by
    obtain ⟨x,h1,h2⟩:=Vals.tog (i:=i) (u:=u) t (by simpa using e)
    exact ⟨x,by simpa using h1,h2⟩
section
variable {X:Cx} {pins:List (Addr×Obj)} {σ:St} {H:Hp} {s:Shared}
theorem Inv.moved {o:Obj} {s':Shared} (I:Inv X pins σ H s) (mv:Moved [s.heap.objs.size] (fun a b=>b=a) {s with heap:=s.heap.push o} s'):Inv X pins σ H s':=by
  have k:∀b u,s.heap.get? b=some u→s'.heap.get? b=some u:=fun b u e=>mv.heap b u (fun z=>by
    have z':b=s.heap.objs.size:=by simpa using z
    exact absurd (Heap.lt_size e) (by rw [z'];exact Nat.lt_irrefl _)) (Heap.get?_push_of_some _ e)
  exact I.call' (ch:=[]) mv.os (Un.kept k) (I.hok.kept k) (by rw [mv.gens];exact I.bare) fun b z=>absurd z (by simp)
theorem iter_seq {A:Around} {E:Value→Shared→Prop} {Q:Value→Shared→Prop} {p:Addr} {ys:List V} (hh:A.handled=none) (I:Inv X pins σ H s) (hq:SqL X.K H p ys∨SqT X.K H p ys)
    (h:∀(it:Addr) (its:List Value) (fp:List Addr) (T:Nat→Heap→Prop) (s2:Shared),Vals ys its→Walks X.prog X.w A it fp [it] its.toArray.size (fun i v=>its.toArray[i]?=some v) T→T 0 s2.heap→(∀b∈fp,b<s2.heap.objs.size) →
      (∀s',Moved [it] (fun a b=>b=a) s2 s'→Inv X pins σ H s')→Q (.ref it) s2):wpAny (model X.prog X.w) A (pyIter (.ref p)) Q E s:=by
  rcases hq with hq | hq
  · obtain ⟨its,r,pl,hz⟩:=I.list hq
    obtain ⟨o,ho,_⟩:=id pl.isList
    have hlt:=Heap.lt_size ho
    refine wpAny_pyIter_list pl.isList (h s.heap.objs.size its [s.heap.objs.size,p] _ _ r (Walks.list hh _ p (Nat.ne_of_lt hlt) its.toArray) ⟨⟨_,Heap.get?_push_size _ rfl,rfl,rfl⟩,pl.isList.at fun o e=>Heap.get?_push_of_some _ e⟩ (fun b hb=>?_) fun s' mv=>I.moved mv)
    dsimp only
    rw [Heap.size_push]
    rcases List.mem_cons.mp hb with z | z
    · rw [z];exact Nat.lt_succ_self _
    · have z':b=p:=by simpa using z
      rw [z'];exact Nat.lt_succ_of_lt hlt
  · obtain ⟨its,r,pl,hz⟩:=I.tuple hq
    have pt:s.heap.IsTuple p its.toArray:=pl
    obtain ⟨o,ho,_⟩:=id pt
    have hlt:=Heap.lt_size ho
    refine wpAny_pyIter_tuple pt (h s.heap.objs.size its [s.heap.objs.size,p] _ _ r (Walks.tuple hh _ p (Nat.ne_of_lt hlt) its.toArray) ⟨⟨_,Heap.get?_push_size _ rfl,rfl,rfl⟩,pt.at fun o e=>Heap.get?_push_of_some _ e⟩ (fun b hb=>?_) fun s' mv=>I.moved mv)
    dsimp only
    rw [Heap.size_push]
    rcases List.mem_cons.mp hb with z | z
    · rw [z];exact Nat.lt_succ_self _
    · have z':b=p:=by simpa using z
      rw [z'];exact Nat.lt_succ_of_lt hlt
end
section
variable {X:Cx}
def tv:V→Bool
  | .bl b=>b
  | .int i=>i != 0
  | _=>false
def isBI:V→Bool
  | .bl _=>true
  | .int _=>true
  | _=>false
theorem truth_of {ys:List V} {its:List Value} {A:Around} (rv:Vals ys its) (hb:ys.all isBI=true):TruthOf X.prog X.w A (fun i v=>its.toArray[i]?=some v) (fun i=>tv (ys.getD i .non)):=by
  intro i v s Q E e h
  obtain ⟨x,h1,h2⟩:=rv.tog (i:=i) (u:=v) (by simpa using e)
  have hx:isBI x=true:=List.all_eq_true.mp hb x (List.mem_of_getElem? h1)
  dsimp only at h
  rw [List.getD_eq_getElem?_getD,h1] at h
  cases x with
  | bl b=>cases h2;exact wpAny_truthy_bool h
  | int i=>obtain ⟨t,rfl⟩:=h2;exact PySem.P.truthy_int h
  | _=>exact absurd (show false=true from hx) Bool.false_ne_true
theorem range_all {ys:List V} (f:V→Bool):(List.range ys.length).all (fun i=>f (ys.getD i .non))=ys.all f:=by
  rw [Bool.eq_iff_iff,List.all_eq_true,List.all_eq_true]
  constructor
  · intro h x hx
    obtain ⟨i,hi,rfl⟩:=List.mem_iff_getElem.mp hx
    have:=h i (List.mem_range.mpr hi)
    rwa [List.getD_eq_getElem?_getD,List.getElem?_eq_getElem hi] at this
  · intro h i hi
    have hi':=List.mem_range.mp hi
    rw [List.getD_eq_getElem?_getD,List.getElem?_eq_getElem hi']
    exact h _ (List.getElem_mem hi')
theorem range_any {ys:List V} (f:V→Bool):(List.range ys.length).any (fun i=>f (ys.getD i .non))=ys.any f:=by
  rw [Bool.eq_iff_iff,List.any_eq_true,List.any_eq_true]
  constructor
  · rintro ⟨i,hi,h⟩
    have hi':=List.mem_range.mp hi
    rw [List.getD_eq_getElem?_getD,List.getElem?_eq_getElem hi'] at h
    exact ⟨_,List.getElem_mem hi',h⟩
  · rintro ⟨x,hx,h⟩
    obtain ⟨i,hi,rfl⟩:=List.mem_iff_getElem.mp hx
    exact ⟨i,List.mem_range.mpr hi,by rw [List.getD_eq_getElem?_getD,List.getElem?_eq_getElem hi];exact h⟩
theorem call_all_seq (hc:X.calm=true):CallR X (.builtin "all") (fun xs H Q=>∃(p:Addr) (ys:List V),xs=[.ref p]∧(SqL X.K H p ys∨SqT X.K H p ys)∧ys.all isBI=true∧Q (.bl (ys.all tv)) H):=by
  intro pins s σ H xs us Q I r h
  obtain ⟨p,ys,rfl,hq,hb,q⟩:=h
  obtain ⟨u,rfl,rx⟩:=vals1 r
  cases rx
  refine call_all_walkS (iter_seq (I.ok.hd hc) I hq fun it its fp T s2 rv W st hfp inv=>⟨it,fp,[it],_,_,_,_,_,rfl,W.toS,st,truth_of rv hb,fun s' mv=>?_⟩)
  refine ⟨.bl (ys.all tv),H,inv s' mv,?_,q⟩
  show Value.bool _=Value.bool _
  rw [List.size_toArray,←rv.length,range_all]
theorem call_any_seq (hc:X.calm=true):CallR X (.builtin "any") (fun xs H Q=>∃(p:Addr) (ys:List V),xs=[.ref p]∧(SqL X.K H p ys∨SqT X.K H p ys)∧ys.all isBI=true∧Q (.bl (ys.any tv)) H):=by
  intro pins s σ H xs us Q I r h
  obtain ⟨p,ys,rfl,hq,hb,q⟩:=h
  obtain ⟨u,rfl,rx⟩:=vals1 r
  cases rx
  refine call_any_walkS (iter_seq (I.ok.hd hc) I hq fun it its fp T s2 rv W st hfp inv=>⟨it,fp,[it],_,_,_,_,_,rfl,W.toS,st,truth_of rv hb,fun s' mv=>?_⟩)
  refine ⟨.bl (ys.any tv),H,inv s' mv,?_,q⟩
  show Value.bool _=Value.bool _
  rw [List.size_toArray,←rv.length,range_any]
end
structure ItOk (J:It) (n:Nat) (val:Nat→V) (C:Hp→Prop):Prop where
  go:∀i H,C H→i<n→J.go i H
  yld:∀i H x H',C H→i<n→J.yld i H x H'→H'=H∧x=val i
  stop:∀i H,C H→n≤i→J.stop i H
theorem itok_list {K:PySem.W.Frag} {a:Addr} {xs:List V}:ItOk (Itl K a) xs.length (fun i=>xs.getD i .non) (fun H=>SqL K H a xs) where
  go:=fun i H q hi=>⟨xs,xs[i],q,by simp [hi]⟩
  yld:=fun i H x H' q hi ⟨e,y⟩=>⟨e,by rw [List.getD_eq_getElem?_getD,y xs q];rfl⟩
  stop:=fun i H q hi=>⟨xs,q,hi⟩
theorem itok_tup {K:PySem.W.Frag} {a:Addr} {xs:List V}:ItOk (Itt K a) xs.length (fun i=>xs.getD i .non) (fun H=>SqT K H a xs) where
  go:=fun i H q hi=>⟨xs,xs[i],q,by simp [hi]⟩
  yld:=fun i H x H' q hi ⟨e,y⟩=>⟨e,by rw [List.getD_eq_getElem?_getD,y xs q];rfl⟩
  stop:=fun i H q hi=>⟨xs,q,hi⟩
theorem itok_range {lo:Int} {n:Nat}:ItOk (Itr lo n) n (fun i=>.int (lo+(i:Nat))) (fun _=>True) where
  go:=fun i H _ hi=>hi
  yld:=fun i H x H' _ hi ⟨e,y⟩=>⟨e,y⟩
  stop:=fun i H _ hi=>hi
theorem lc_by {J:It} {n:Nat} {val:Nat→V} {C:Hp→Prop} {g:TG} {tt:TT} {te:TE} {σ0:St} {Q:VK} {H:Hp} (O:ItOk J n val C) (Pv:Nat→List V→Hp→Prop) (hn:n≤sizeLine) (h0:Pv 0 [] H) (hl:∀i ys H,i≤n→Pv i ys H→C H∧ys.length≤i)
    (hs:∀i ys H,i<n→Pv i ys H→g (val i) σ0 H fun σ2 H2=>Wk σ0 σ2∧tt σ2 H2 fun k H3=>if k=true then te σ2 H3 fun v H4=>ys.length<sizeLine∧∃m',m'<n-i∧(m'=n-(i+1)∧i+1≤n∧Pv (i+1) (ys++[v]) H4) else ∃m',m'<n-i∧(m'=n-(i+1)∧i+1≤n∧Pv (i+1) ys H3))
    (hd:∀ys H,Pv n ys H→∀p,H p=none→Q (.ref p) (upd H p (.lst ys))):LcW J g tt te σ0 Q H:=by
  refine ⟨fun i m ys H=>m=n-i∧i≤n∧Pv i ys H,⟨n,by simp,Nat.zero_le _,h0⟩,?_⟩
  rintro i m ys H ⟨rfl,hi,p⟩
  obtain ⟨c,hy⟩:=hl i ys H hi p
  refine ⟨by omega,?_⟩
  by_cases hlt:i<n
  · refine .inr ⟨O.go i H c hlt,fun x H' y=>?_⟩
    obtain ⟨rfl,rfl⟩:=O.yld i H x H' c hlt y
    exact hs i ys _ hlt p
  · have e:i=n:=by omega
    subst e
    exact .inl ⟨O.stop _ H c (Nat.le_refl _),hd ys H p⟩
theorem for_by {J:It} {n:Nat} {val:Nat→V} {C:Hp→Prop} {g:TG} {tb:TS} {D:Ends} {σ:St} {H:Hp} (O:ItOk J n val C) (Pv:Nat→St→Hp→Prop) (h0:Pv 0 σ H) (hl:∀i σ H,i≤n→Pv i σ H→C H)
    (hs:∀i σ H,i<n→Pv i σ H→g (val i) σ H fun σ2 H2=>tb {D with nx:=Pv (i+1),ct:=Pv (i+1),bk:=D.nx} σ2 H2) (hd:∀σ H,Pv n σ H→D.nx σ H) :
    ∃W:Nat→Nat→St→Hp→Prop,(∃m,W 0 m σ H)∧∀i m σ H,W i m σ H →
      (J.stop i H∧D.nx σ H)∨(J.go i H∧∃N:St→Hp→Prop,(∀σ' H',N σ' H'→∃m',m'<m∧W (i+1) m' σ' H')∧∀x H',J.yld i H x H'→g x σ H' fun σ2 H2=>tb {D with nx:=N,ct:=N,bk:=D.nx} σ2 H2):=by
  refine ⟨fun i m σ H=>m=n-i∧i≤n∧Pv i σ H,⟨n,by simp,Nat.zero_le _,h0⟩,?_⟩
  rintro i m σ H ⟨rfl,hi,p⟩
  have c:=hl i σ H hi p
  by_cases hlt:i<n
  · refine .inr ⟨O.go i H c hlt,Pv (i+1),fun σ' H' p'=>⟨n-(i+1),by omega,rfl,hlt,p'⟩,fun x H' y=>?_⟩
    obtain ⟨rfl,rfl⟩:=O.yld i H x H' c hlt y
    exact hs i σ _ hlt p
  · have e:i=n:=by omega
    subst e
    exact .inl ⟨O.stop _ H c (Nat.le_refl _),hd σ H p⟩
theorem wk_set {σ0:St} {i:Nat} {v:Option V} (h:σ0[i]?=some none):Wk σ0 (σ0.set i v):=by
  refine ⟨by rw [List.length_set],fun j w' e=>?_⟩
  by_cases hj:i=j
  · subst hj;rw [h] at e;cases e
  · rw [List.getElem?_set_ne hj];exact e
theorem Same.new {H:Hp} {p:Addr} {o:HO} (h:H p=none):Same H (upd H p o):=fun b u e=>by
  rw [upd_ne (ne_of_none e h)]
  exact e
theorem Same.tup {K:PySem.W.Frag} {H H':Hp} {a:Addr} {xs:List V} (e:Same H H') (h:SqT K H a xs):SqT K H' a xs:=by
  rcases h with (h | ⟨o,h⟩) | h
  · exact .inl (.inl (e _ _ h))
  · exact .inl (.inr ⟨o,e _ _ h⟩)
  · exact .inr h
theorem Same.next {H H1:Hp} {p:Addr} {o:HO} (s:Same H H1) (h:H1 p=none):Same H (upd H1 p o):=s.trans (Same.new h)
end L2
namespace L2
open PySem PySem.Spec PyProof.Rows
def tCut (t:TS):TS:=fun D σ H=>∃M:St→Hp→Prop,t {D with nx:=M} σ H∧∀σ' H',M σ' H'→D.nx σ' H'
theorem ps_cut {X:Cx} {st:Stmt} {t:TS} (h:PS X st t):PS X st (tCut t):=by
  intro pins s σ H D I hw
  obtain ⟨M,h1,h2⟩:=hw
  refine thn (h pins s σ H {D with nx:=M} I h1) fun f s' q=>?_
  cases f with
  | next=>obtain ⟨σ',H',I',q⟩:=q;exact ⟨σ',H',I',h2 _ _ q⟩
  | brk=>exact q
  | cont=>exact q
  | ret u=>exact q
theorem PI.or {X:Cx} {tg e:Expr} {w1 w2:TI} (h1:PI X tg e w1) (h2:PI X tg e w2):PI X tg e (fun σ H R=>w1 σ H R∨w2 σ H R):=by
  intro pins s σ H R I h
  rcases h with h | h
  · exact h1 pins s σ H R I h
  · exact h2 pins s σ H R I h
def Def (P:Program) (w:World) (K:PySem.W.Frag) (mg:Str→Option Value) (base:Heap) (k:Nat) (x:Str) (ps:List Str) (sp:Sp):Prop :=
  ∃f fd,FnOk P w K mg base CX0 k f fd ps sp∧mg x=some (.ref f)∧PySem.W.keepIn K (.ref f)=true∧Binds K fd ps []
theorem Def.of {P:Program} {w:World} {K:PySem.W.Frag} {mg:Str→Option Value} {base:Heap} {k:Nat} {x qual:Str} {ps:List Str} {sp:Sp} {st:Stmt} {f:Addr} {fd:FuncData}
    (F:Fun K x qual st f fd) (m:mg x=some (.ref f)) (b:Binds K fd ps []) (ok:FnOk P w K mg base CX0 k f fd ps sp):Def P w K mg base k x ps sp:=⟨f,fd,ok,m,F.kp,b⟩
theorem pe_def {X:Cx} {k:Nat} {x:Str} {ps:List Str} {sp:Sp} {e:Expr} {es:List Expr} {t:TA} {p pos:Pos} (D:Def X.prog X.w X.K X.mg X.base k x ps sp) (hr:Room k X.A) (hg:Gl X x) (ha:PA X (e::es) t)
    (hdb:(x==("__debug__":Str))=false:=by decide) (he:starEach (e::es) X.env=(false,eval e X.env)::starEach es X.env:=by rfl) (hpl:(backTo pos (starEach es X.env)).any (·.1)=false:=by rfl) :
    PE X (.Call (.Name x p) (e::es) [] pos) (tCall sp [] E0 t):=by
  obtain ⟨f,fd,F,m,kp,b⟩:=D
  exact pe_call F hr hg m kp b .nil pass0 ha hdb he hpl
def cchk (osc:Scope) (N:List Str) (sc:Scope) (N':List Str) (nl:Nat) (js:List Nat):Bool :=
  sc.kind==.function&&sc.names.all (fun y=>y.2 != .cell)&&sc.names.all (fun y=>y.2 != .local||sc.names.lookup y.1==some .local) &&
  sc.names.all (fun y=>y.2 != .free||(osc.names.lookup y.1==some .cell||osc.names.lookup y.1==some .free))&&(N'.length==nl+js.length) &&
  (List.range js.length).all (fun i=>match js[i]?,N'[nl+i]? with | some j,some x=>N[j]?==some x&&sc.names.lookup x==some .free | _,_=>false)
theorem CScope.of {X:Cx} {osc sc:Scope} {N N':List Str} {nl:Nat} {js:List Nat} (h:cchk osc N sc N' nl js=true) (h1:X.env.scope=osc) (h2:X.N=N):CScope X sc N' nl js:=by
  unfold cchk at h
  simp only [Bool.and_eq_true] at h
  obtain ⟨⟨⟨⟨⟨a1,a2⟩,a3⟩,a4⟩,a5⟩,a6⟩:=h
  refine ⟨by simpa using a1,fun y hy e=>?_,fun y hy e=>?_,fun y hy e=>?_,fun i j e=>?_,by simpa using a5⟩
  · have:=List.all_eq_true.mp a2 y hy
    rw [e] at this
    exact absurd this (by decide)
  · have:=List.all_eq_true.mp a3 y hy
    rw [e] at this
    simpa using this
  · have:=List.all_eq_true.mp a4 y hy
    rw [e] at this
    have this:(osc.names.lookup y.1==some .cell||osc.names.lookup y.1==some .free)=true:=by simpa using this
    show X.env.scope.names.lookup y.1=_∨X.env.scope.names.lookup y.1=_
    rw [h1]
    simpa using this
  · have hi:i<js.length:=(List.getElem?_eq_some_iff.mp e).1
    have:=List.all_eq_true.mp a6 i (List.mem_range.mpr hi)
    rw [e] at this
    cases q:N'[nl+i]? with
    | none=>rw [q] at this;exact absurd (show false=true from this) Bool.false_ne_true
    | some x =>
      rw [q] at this
      dsimp only at this
      rw [Bool.and_eq_true] at this
      exact ⟨x,rfl,by rw [h2];simpa using this.1,by simpa using this.2⟩
theorem at_int {ns:List Int} {k:Int} (h0:0≤k) (h:k<(ns.length:Int)):atI (ns.map V.int) k=some (.int (ns.getD k.toNat 0)):=by
  have hk:k.toNat<ns.length:=by omega
  have:=atI_nat (xs:=ns.map V.int) (j:=k.toNat) (v:=.int (ns.getD k.toNat 0)) (by rw [List.getElem?_map,List.getD_eq_getElem?_getD,List.getElem?_eq_getElem hk];rfl)
  rwa [Int.toNat_of_nonneg h0] at this
theorem flat_ints (ns:List Int):(ns.map V.int).all flatV=true:=by
  rw [List.all_eq_true]
  intro x hx
  obtain ⟨n,_,rfl⟩:=List.mem_map.mp hx
  rfl
theorem inV_ints (z:Int) (ns:List Int):inV (.int z) (ns.map V.int)=ns.any (·==z):=by
  unfold inV
  rw [List.any_map]
  rfl
theorem getD_map_int {ns:List Int} {i:Nat} (h:i<(ns.map V.int).length):∃z,(ns.map V.int).getD i .non=.int z∧ns[i]?=some z:=by
  rw [List.length_map] at h
  refine ⟨ns[i],?_,List.getElem?_eq_getElem h⟩
  rw [List.getD_eq_getElem?_getD,List.getElem?_map,List.getElem?_eq_getElem h]
  rfl
theorem take_snoc {α:Type} {l:List α} {i:Nat} {z:α} (h:l[i]?=some z):l.take (i+1)=l.take i++[z]:=by
  rw [List.take_add_one,h]
  rfl
end L2
namespace L2
open PySem
theorem kit_self (K:PySem.W.Frag) (t:Value):PySem.W.kitOne K t t=some true:=by
  unfold PySem.W.kitOne
  rw [if_pos (by simp)]
end L2
namespace L2
open PySem PySem.Spec PyProof.Rows
mutual
inductive DatV (K:PySem.W.Frag) (H:Hp):V→PyData→Prop
  | non:DatV K H .non .none
  | bl (b:Bool):DatV K H (.bl b) (.bool b)
  | int (i:Int):DatV K H (.int i) (.int i)
  | str (x:Str):DatV K H (.str x) (.str x)
  | lst {a:Addr} {xs:List V} {ds:List PyData}:SqL K H a xs→DatVs K H xs ds→DatV K H (.ref a) (.list ds)
  | tup {a:Addr} {xs:List V} {ds:List PyData}:SqT K H a xs→DatVs K H xs ds→DatV K H (.ref a) (.tuple ds)
inductive DatVs (K:PySem.W.Frag) (H:Hp):List V→List PyData→Prop
  | nil:DatVs K H [] []
  | cons {x:V} {d:PyData} {xs:List V} {ds:List PyData}:DatV K H x d→DatVs K H xs ds→DatVs K H (x::xs) (d::ds)
end
section
variable {X:Cx} {pins:List (Addr×Obj)} {σ:St} {H:Hp} {s:Shared}
mutual
theorem DatV.reads (I:Inv X pins σ H s):∀{x:V} {d:PyData} {u:Value},DatV X.K H x d→RelV x u→∃as,Reads s.heap u d as
  | _,_,_,.non,r=>by cases r;exact ⟨_,.none⟩
  | _,_,_,.bl b,r=>by cases r;exact ⟨_,.bool b⟩
  | _,_,_,.int i,r=>by obtain ⟨t,rfl⟩:=r;exact ⟨_,.int i t⟩
  | _,_,_,.str x,r=>by obtain ⟨t,rfl⟩:=r;exact ⟨_,.str x t⟩
  | _,_,_,.lst hq h,r=>by
    cases r
    obtain ⟨its,rv,pl,_⟩:=I.list hq
    obtain ⟨o,n,e,c,_,d⟩:=pl
    obtain ⟨as,q⟩:=DatVs.reads I h rv
    exact ⟨_,.list e c d (by simpa using q)⟩
  | _,_,_,.tup hq h,r=>by
    cases r
    obtain ⟨its,rv,pl,_⟩:=I.tuple hq
    obtain ⟨o,e,c,n,d⟩:=pl
    obtain ⟨as,q⟩:=DatVs.reads I h rv
    exact ⟨_,.tuple e c d (by simpa using q)⟩
theorem DatVs.reads (I:Inv X pins σ H s):∀{xs:List V} {ds:List PyData} {us:List Value},DatVs X.K H xs ds→Vals xs us→∃as,ReadsAll s.heap us ds as
  | _,_,_,.nil,.nil=>⟨_,.nil⟩
  | _,_,_,.cons h t,.cons r rr=>by
    obtain ⟨as,q⟩:=DatV.reads I h r
    obtain ⟨bs,q'⟩:=DatVs.reads I t rr
    exact ⟨_,.cons q q'⟩
end
end
def rEqD (K:PySem.W.Frag) (f:Bool→Bool):R2:=fun x y H Q=>∃d e,DatV K H x d∧DatV K H y e∧SeqAt.shaped d=true∧SeqAt.shaped e=true∧Q (.bl (f (PyData.eqv d e))) H
section
variable {X:Cx}
theorem op_eqD (hu:X.A.units+64<cLine):OpR X (compareOp .Eq) (rEqD X.K id):=by
  intro pins s σ H x y v u Q I rx ry h
  obtain ⟨d,e,hd,he,sd,se,q⟩:=h
  obtain ⟨as,r1⟩:=hd.reads I rx
  obtain ⟨bs,r2⟩:=he.reads I ry
  exact eq_dataH r1 r2 sd se hu ⟨.bl _,H,I,rfl,q⟩
theorem op_neD (hu:X.A.units+64<cLine):OpR X (compareOp .NotEq) (rEqD X.K not):=by
  intro pins s σ H x y v u Q I rx ry h
  obtain ⟨d,e,hd,he,sd,se,q⟩:=h
  obtain ⟨as,r1⟩:=hd.reads I rx
  obtain ⟨bs,r2⟩:=he.reads I ry
  exact ne_dataH r1 r2 sd se hu ⟨.bl _,H,I,rfl,q⟩
end
mutual
theorem DatV.same {K:PySem.W.Frag} {H H':Hp} (S:Same H H'):∀{x:V} {d:PyData},DatV K H x d→DatV K H' x d
  | _,_,.non=>.non
  | _,_,.bl b=>.bl b
  | _,_,.int i=>.int i
  | _,_,.str x=>.str x
  | _,_,.lst hq h=>.lst (S.seq hq) (DatVs.same S h)
  | _,_,.tup hq h=>.tup (S.tup hq) (DatVs.same S h)
theorem DatVs.same {K:PySem.W.Frag} {H H':Hp} (S:Same H H'):∀{xs:List V} {ds:List PyData},DatVs K H xs ds→DatVs K H' xs ds
  | _,_,.nil=>.nil
  | _,_,.cons h t=>.cons (DatV.same S h) (DatVs.same S t)
end
def dI (ns:List Int):PyData:=.list (ns.map PyData.int)
def dP (e:Int×Int):PyData:=.tuple [.int e.1,.int e.2]
theorem dI_lay:∀ns:List Int,PyData.canLayAll0 (ns.map PyData.int)=true∧PyData.depthAll (ns.map PyData.int)=0
  | []=>⟨rfl,rfl⟩
  | n::r=>by
    obtain ⟨h1,h2⟩:=dI_lay r
    simp only [List.map_cons,PyData.canLayAll0,PyData.canLay0,PyData.depthAll,PyData.depth,h1,h2]
    exact ⟨rfl,rfl⟩
theorem shaped_dI (ns:List Int):SeqAt.shaped (dI ns)=true:=by
  obtain ⟨h1,h2⟩:=dI_lay ns
  unfold SeqAt.shaped dI
  simp only [PyData.canLay0,PyData.depth,h1,h2]
  rfl
theorem eqvAll_dI:∀ns ms:List Int,PyData.eqvAll (ns.map PyData.int) (ms.map PyData.int)=decide (ns=ms)
  | [],[]=>rfl
  | [],_::_=>rfl
  | _::_,[]=>rfl
  | a::r,b::t=>by
    simp only [List.map_cons,PyData.eqvAll,PyData.eqv,eqvAll_dI r t]
    by_cases h:a=b<;>by_cases h':r=t<;>simp [h,h']
theorem eqv_dI (ns ms:List Int):PyData.eqv (dI ns) (dI ms)=decide (ns=ms):=eqvAll_dI ns ms
theorem datVs_ints {K:PySem.W.Frag} {H:Hp}:∀ns:List Int,DatVs K H (ns.map V.int) (ns.map PyData.int)
  | []=>.nil
  | n::r=>.cons (.int n) (datVs_ints r)
theorem dat_ints {K:PySem.W.Frag} {H:Hp} {a:Addr} {ns:List Int} (h:SqL K H a (ns.map V.int)):DatV K H (.ref a) (dI ns):=.lst h (datVs_ints ns)
def Pairs (K:PySem.W.Frag) (H:Hp):List V→List (Int×Int)→Prop:=Paired fun v e=>∃r,v=.ref r∧SqT K H r [.int e.1,.int e.2]
theorem Pairs.same {K:PySem.W.Frag} {H H':Hp} (S:Same H H') {xs:List V} {es:List (Int×Int)} (h:Pairs K H xs es):Pairs K H' xs es:=Paired.mapP h fun _ _ ⟨r,e,q⟩=>⟨r,e,S.tup q⟩
theorem Pairs.len {K:PySem.W.Frag} {H:Hp} {xs:List V} {es:List (Int×Int)} (h:Pairs K H xs es):xs.length=es.length:=Paired.length h
theorem Pairs.at {K:PySem.W.Frag} {H:Hp}:∀{xs:List V} {es:List (Int×Int)} {i:Nat},Pairs K H xs es→i<xs.length→∃r e,xs.getD i .non=.ref r∧SqT K H r [.int e.1,.int e.2]∧es[i]?=some e∧e∈es
  | _,_,_,.nil,h=>absurd h (Nat.not_lt_zero _)
  | _,_,0,.cons ⟨r,e,q⟩ _,_=>⟨r,_,e,q,rfl,List.mem_cons_self⟩
  | _,_,i+1,.cons _ t,h=>by
    obtain ⟨r,e,h1,h2,h3,h4⟩:=Pairs.at (i:=i) t (by simpa using h)
    exact ⟨r,e,by simpa using h1,h2,by simpa using h3,List.mem_cons_of_mem _ h4⟩
theorem Pairs.snoc {K:PySem.W.Frag} {H:Hp} {xs:List V} {es:List (Int×Int)} {r:Addr} {e:Int×Int} (h:Pairs K H xs es) (q:SqT K H r [.int e.1,.int e.2]):Pairs K H (xs++[.ref r]) (es++[e]):=Paired.snoc h ⟨r,rfl,q⟩
def SameX (a:Addr) (H H':Hp):Prop:=∀b o,b≠a→H b=some o→H' b=some o
theorem SameX.tup {K:PySem.W.Frag} {H H':Hp} {a r:Addr} {xs zs:List V} (S:SameX a H H') (ha:H a=some (.lst zs)) (h:SqT K H r xs):SqT K H' r xs:=by
  rcases h with (h | ⟨o,h⟩) | h
  · exact .inl (.inl (S _ _ (ne_of h ha (by intro z;cases z)) h))
  · exact .inl (.inr ⟨o,S _ _ (ne_of h ha (by intro z;cases z)) h⟩)
  · exact .inr h
theorem sameX_upd {H:Hp} {a:Addr} {o:HO}:SameX a H (upd H a o):=fun b u hb e=>by rw [upd_ne hb];exact e
end L2
namespace L2
open PySem PySem.Spec PyProof.Rows
section
variable {X:Cx} {tg:Expr}
def iSeq (K:PySem.W.Frag) (tl:TE):TI:=fun σ H R=>tl σ H fun x H1=>∃a xs,x=.ref a∧(SqL K H1 a xs∨SqT K H1 a xs)∧∀J C,ItOk J xs.length (fun i=>xs.getD i .non) C→(∀H2,Same H1 H2→C H2)→R J H1
theorem pi_seq {l:Expr} {tl:TE} (hl:PE X l tl):PI X tg l (iSeq X.K tl):=by
  intro pins s σ H R I h
  refine thn (hl pins s σ H _ I h) fun v s1 ⟨x,H1,I1,r1,q1⟩=>?_
  obtain ⟨a,xs,e,hq,q⟩:=q1
  subst e
  cases r1
  have fp:∀b∈[s1.heap.objs.size],FpOk X pins H1 b:=fun b hb=>by
    have e:b=s1.heap.objs.size:=by simpa using hb
    rw [e];exact I1.fpOk (Nat.le_refl _) (I1.hok.fresh (Nat.le_refl _))
  rcases hq with hq | hq
  · obtain ⟨its,rv,p,hz⟩:=I1.list hq
    exact wpAny_pyIter_list p.isList ⟨s1.heap.objs.size,[s1.heap.objs.size],_,_,H1,rfl,I1.kept (t':=s1.toks) fun b o e=>Heap.get?_push_of_some _ e,turn_list a _,⟨_,Heap.get?_push_size _ rfl,rfl,rfl⟩,fp,
      q _ _ itok_list fun H2 S=>S.seq hq⟩
  · obtain ⟨its,rv,p,hz⟩:=I1.tuple hq
    exact wpAny_pyIter_tuple (show s1.heap.IsTuple a its.toArray from p) ⟨s1.heap.objs.size,[s1.heap.objs.size],_,_,H1,rfl,I1.kept (t':=s1.toks) fun b o e=>Heap.get?_push_of_some _ e,turn_tuple a _,⟨_,Heap.get?_push_size _ rfl,rfl,rfl⟩,fp,
      q _ _ itok_tup fun H2 S=>S.tup hq⟩
end
inductive TyX (K:PySem.W.Frag) (H:Hp):V→Value→Prop
  | of {x:V} {t:Value}:TyOf K H x t→TyX K H x t
  | tup {a:Addr} {xs:List V}:SqT K H a xs→TyX K H (.ref a) (.type "tuple")
  | lst {a:Addr} {xs:List V}:SqL K H a xs→TyX K H (.ref a) (.type "list")
section
variable {X:Cx}
theorem call_isX:CallR X (.builtin "isinstance") (fun xs H Q=>∃x c t cv b,xs=[x,c]∧RelV c cv∧(∀u,RelV c u→u=cv)∧TyX X.K H x t∧PySem.W.kitOne X.K t cv=some b∧Q (.bl b) H):=by
  intro pins s σ H xs us Q I r h
  obtain ⟨x,c,t,cv,b,rfl,_,hu,ty,e,q⟩:=h
  obtain ⟨u,u',rfl,rx,rc⟩:=vals2 r
  obtain rfl:=hu u' rc
  have fin:∀tk,EP X pins σ Q (.bool b) {s with toks:=tk}:=fun tk=>⟨.bl b,H,I.tok _,rfl,q⟩
  cases ty with
  | of ty=>exact isinst_ok I rx ty e fin
  | @tup a ys hq =>
    cases (show u=Value.ref a from rx)
    obtain ⟨its,rv,⟨o,h1,h2,_⟩,hz⟩:=I.tuple hq
    exact PySem.W.kia_one PySem.W.kitx_tuple I.kIn ⟨o,h1,h2⟩ e (fun z=>nomatch z) fin
  | @lst a ys hq =>
    cases (show u=Value.ref a from rx)
    obtain ⟨its,rv,⟨o,n,h1,h2,_⟩,hz⟩:=I.list hq
    exact PySem.W.kia_one PySem.W.kitx_list I.kIn ⟨o,h1,h2⟩ e (fun z=>nomatch z) fin
end
end L2
namespace L2
open PySem PySem.Spec PyProof.Rows
theorem pg_pair {X:Cx} {i j:Nat} {x y:Str} {p1 p2 pos:Pos} {k:Nat} (hc:X.calm=true) (hN:X.N.Nodup) (hi:X.N[i]?=some x) (hj:X.N[j]?=some y) (hx:X.env.scope.names.lookup x=some .local) (hy:X.env.scope.names.lookup y=some .local) :
    PG X (.Tuple [.Name x p1,.Name y p2] k pos) (gTup X.K 2 (gCons (gName i) (gCons (gName j) gNil))):=pg_tup hc (pgs_cons (pg_name hN hi (.inl hx) (.inr hx)) (pgs_cons (pg_name hN hj (.inl hy) (.inr hy)) pgs_nil))
theorem kIntBool {K:PySem.W.Frag}:PySem.W.kitOne K (.type "int") (.type "bool")=some false:=by with_unfolding_all rfl
theorem Wk.trans {a b d:St} (x:Wk a b) (y:Wk b d):Wk a d:=⟨x.1.trans y.1,fun i v e=>y.2 i v (x.2 i v e)⟩
theorem wk_set2 {σ0:St} {i j:Nat} {v u:Option V} (h:σ0[i]?=some none) (h':(σ0.set i v)[j]?=some none):Wk σ0 ((σ0.set i v).set j u):=(wk_set h).trans (wk_set h')
section
variable {K:PySem.W.Frag} {H H':Hp} {a r C dx:Addr} {xs:List V} {fs:List (Str×V)}
theorem SameX.seqI (S:SameX a H H') (ha:H a=some (.ins C dx fs)) (h:SqL K H r xs):SqL K H' r xs:=by
  rcases h with (h | ⟨o,h⟩) | h
  · exact .inl (.inl (S _ _ (ne_of h ha (by intro z;cases z)) h))
  · exact .inl (.inr ⟨o,S _ _ (ne_of h ha (by intro z;cases z)) h⟩)
  · exact .inr h
theorem SameX.tupI (S:SameX a H H') (ha:H a=some (.ins C dx fs)) (h:SqT K H r xs):SqT K H' r xs:=by
  rcases h with (h | ⟨o,h⟩) | h
  · exact .inl (.inl (S _ _ (ne_of h ha (by intro z;cases z)) h))
  · exact .inl (.inr ⟨o,S _ _ (ne_of h ha (by intro z;cases z)) h⟩)
  · exact .inr h
theorem Pairs.sameI (S:SameX a H H') (ha:H a=some (.ins C dx fs)) {es:List (Int×Int)} (h:Pairs K H xs es):Pairs K H' xs es:=Paired.mapP h fun _ _ ⟨r,e,q⟩=>⟨r,e,S.tupI ha q⟩
theorem Pairs.take_snoc {xs:List V} {es:List (Int×Int)} {i:Nat} {e:Int×Int} (h:es[i]?=some e):es.take (i+1)=es.take i++[e]:=L2.take_snoc h
end
end L2
namespace L2
open PySem PySem.Spec PyProof.Rows
theorem PE.imp {X:Cx} {e:Expr} {t t':TE} (h:PE X e t) (k:∀σ H Q,t' σ H Q→t σ H Q):PE X e t':=fun pins s σ H Q I hw=>h pins s σ H Q I (k σ H Q hw)
theorem Same.upd {H H':Hp} {l:Addr} {o:HO} (e:Same H H') (h:H l=none):Same H (L2.upd H' l o):=fun b u q=>by rw [upd_ne (ne_of_none q h)];exact e _ _ q
theorem pe_defR {X:Cx} {k k':Nat} {x:Str} {ps:List Str} {sp:Sp} {e:Expr} {es:List Expr} {t:TA} {p pos:Pos} (D:Def X.prog X.w X.K X.mg X.base k x ps sp) (hr:Room k' X.A) (ha:PA X (e::es) t) (hk:k≤k':=by decide) (hg:Gl X x:=by rfl)
    (hdb:(x==("__debug__":Str))=false:=by decide) (he:starEach (e::es) X.env=(false,eval e X.env)::starEach es X.env:=by rfl) (hpl:(backTo pos (starEach es X.env)).any (·.1)=false:=by rfl) :
    PE X (.Call (.Name x p) (e::es) [] pos) (fun σ H Q=>t σ H fun vs H1=>sp vs H1 Q E0):=(pe_def D (hr.mono hk) hg ha hdb he hpl).imp fun σ H Q h=>by
  show t σ H fun vs H1=>sp (vs++[]) H1 Q E0
  simp only [List.append_nil]
  exact h
structure WebC (K:PySem.W.Frag) (C:Addr):Prop where
  cl:Cls K C
  nM:NoAttr K C "many"
  nT:NoAttr K C "ties"
  ca:PySem.W.findIn K (.ref C) "__class__"=some (some (.builtin "object.__class__"))
  cg:PySem.W.specialIn K (.builtin "object.__class__") "__get__"=some (some (.builtin "getset_descriptor.__get__"))
  ck:PySem.W.takesIn K (.builtin "object.__class__")=some true
  co:PySem.W.mroIn K C (.type "object")=some true
abbrev wFs (m:Int) (t:Addr):List (Str×V):=[("many",.int m),("ties",.ref t)]
theorem wFs_many (m:Int) (t:Addr):(wFs m t).lookup ("many":Str)=some (.int m):=rfl
theorem wFs_ties (m:Int) (t:Addr):(wFs m t).lookup ("ties":Str)=some (.ref t):=rfl
def WebAt (K:PySem.W.Frag) (C:Addr) (H:Hp) (a:Addr) (m:Int) (es:List (Int×Int)):Prop:=∃dx t xs,H a=some (.ins C dx (wFs m t))∧H t=some (.tup xs)∧Pairs K H xs es
theorem WebAt.same {K:PySem.W.Frag} {C:Addr} {H H':Hp} {a:Addr} {m:Int} {es:List (Int×Int)} (h:WebAt K C H a m es) (S:Same H H'):WebAt K C H' a m es:=by
  obtain ⟨dx,t,xs,h1,h2,h3⟩:=h
  exact ⟨dx,t,xs,S _ _ h1,S _ _ h2,h3.same S⟩
theorem WebAt.ty {K:PySem.W.Frag} {C:Addr} {H:Hp} {a:Addr} {m:Int} {es:List (Int×Int)} (W:WebC K C) (h:WebAt K C H a m es):TyOf K H (.ref a) (.ref C):=by
  obtain ⟨dx,t,xs,h1,_⟩:=h
  exact .ins h1 W.cl W.ca W.cg W.ck W.co
section
variable {X:Cx} {C:Addr} {e:Expr} {ta:TE} {pos:Pos}
def tMany (K:PySem.W.Frag) (C:Addr) (ta:TE):TE:=fun σ H Q=>ta σ H fun x H1=>∃a m es,x=.ref a∧WebAt K C H1 a m es∧Q (.int m) H1
def tTies (K:PySem.W.Frag) (C:Addr) (ta:TE):TE:=fun σ H Q=>ta σ H fun x H1=>∃a m es,x=.ref a∧WebAt K C H1 a m es∧∀t xs,H1 t=some (.tup xs)→Pairs K H1 xs es→Q (.ref t) H1
theorem pe_fld2 {f:Str} {r:V→Hp→VK→Prop} (he:PE X e ta) (hb:attributeBase e f X.env (eval e X.env)=eval e X.env) (k:∀x H Q,r x H Q→∃a C dx fs v,x=.ref a∧H a=some (.ins C dx fs)∧Cls X.K C∧NoAttr X.K C f∧fs.lookup f=some v∧Q v H) :
    PE X (.Attribute e f pos) (fun σ H Q=>ta σ H fun x H1=>r x H1 Q):=by
  intro pins s σ H Q I h
  refine attr_of hb (thn (he pins s σ H _ I h) fun u s1 ⟨x,H1,I1,rx,q⟩=>?_)
  obtain ⟨a,C',dx,fs,v,ex,ea,c,n,l,q'⟩:=k _ _ _ q
  subst ex
  obtain rfl:u=Value.ref a:=rx
  exact getattr_ok I1 ea c n l fun u' s2 I2 ru=>⟨v,H1,I2,ru,q'⟩
theorem pe_many (W:WebC X.K C) (he:PE X e ta) (hb:attributeBase e "many" X.env (eval e X.env)=eval e X.env:=by rfl):PE X (.Attribute e "many" pos) (tMany X.K C ta) :=
  pe_fld2 (r:=fun x H1 Q=>∃a m es,x=.ref a∧WebAt X.K C H1 a m es∧Q (.int m) H1) he hb fun x H Q ⟨a,m,es,ex,⟨dx,t,xs,h1,_⟩,q⟩=>⟨a,C,dx,_,_,ex,h1,W.cl,W.nM,wFs_many m t,q⟩
theorem pe_ties (W:WebC X.K C) (he:PE X e ta) (hb:attributeBase e "ties" X.env (eval e X.env)=eval e X.env:=by rfl):PE X (.Attribute e "ties" pos) (tTies X.K C ta) :=
  pe_fld2 (r:=fun x H1 Q=>∃a m es,x=.ref a∧WebAt X.K C H1 a m es∧∀t xs,H1 t=some (.tup xs)→Pairs X.K H1 xs es→Q (.ref t) H1) he hb fun x H Q ⟨a,m,es,ex,⟨dx,t,xs,h1,h2,h3⟩,q⟩=>⟨a,C,dx,_,_,ex,h1,W.cl,W.nT,wFs_ties m t,q t xs h2 h3⟩
end
def EndsIn (es:List (Int×Int)) (m:Int):Prop:=∀e∈es,0≤e.1∧e.1<m∧0≤e.2∧e.2<m
theorem EndsIn.nil {m:Int}:EndsIn [] m:=fun _ h=>nomatch h
theorem EndsIn.snoc {es:List (Int×Int)} {m:Int} {e:Int×Int} (h:EndsIn es m) (q:0≤e.1∧e.1<m∧0≤e.2∧e.2<m):EndsIn (es++[e]) m:=fun x hx=>by
  rcases List.mem_append.mp hx with z | z
  · exact h x z
  · have e':x=e:=by simpa using z
    rw [e'];exact q
def spInit (K:PySem.W.Frag) (C:Addr):Sp:=fun vs H Q _=>∃(x dx p:Addr) (m:Int) (xs:List V) (es:List (Int×Int)),vs=[.ref x,.int m,.ref p]∧H x=some (.ins C dx [])∧(SqL K H p xs∨SqT K H p xs)∧Pairs K H xs es ∧
  1≤m∧m≤20∧es.length≤40∧EndsIn es m∧∀H' t ys,SameX x H H'→H' x=some (.ins C dx (wFs m t))→H' t=some (.tup ys)→Pairs K H' ys es→Q .non H'
def MkDef (P:Program) (w:World) (K:PySem.W.Frag) (mg:Str→Option Value) (base:Heap) (k:Nat) (x:Str) (C:Addr) (ps:List Str) (sp:Sp):Prop :=
  ∃f fd,Mk K C f∧FnOk P w K mg base CX0 k f fd ps sp∧Binds K fd ps []∧mg x=some (.ref C)
def tWeb (K:PySem.W.Frag) (C:Addr) (t:TA):TE:=fun σ H Q=>t σ H fun vs H1=>∃(p:Addr) (m:Int) (xs:List V) (es:List (Int×Int)),vs=[.int m,.ref p]∧(SqL K H1 p xs∨SqT K H1 p xs)∧Pairs K H1 xs es ∧
  1≤m∧m≤20∧es.length≤40∧EndsIn es m∧∀x H',H1 x=none→Same H1 H'→WebAt K C H' x m es→Q (.ref x) H'
theorem pe_make' {X:Cx} {k k':Nat} {C:Addr} {x:Str} {ps:List Str} {sp:Sp} {e:Expr} {es:List Expr} {t:TA} {p pos:Pos} {R:List V→Hp→VK→Prop} (D:MkDef X.prog X.w X.K X.mg X.base k x C ps sp) (hr:Room k' X.A) (ha:PA X (e::es) t)
    (hR:∀vs H1 Q,R vs H1 Q→∀x dx,H1 x=none→H1 dx=none→dx≠x→sp (.ref x::vs) (upd (upd H1 dx (.own x)) x (.ins C dx [])) (fun v H2=>v=.non∧Q (.ref x) H2) E0)
    (hk:k+1≤k':=by decide) (hg:Gl X x:=by rfl)
    (hdb:(x==("__debug__":Str))=false:=by decide) (he:starEach (e::es) X.env=(false,eval e X.env)::starEach es X.env:=by rfl) (hpl:(backTo pos (starEach es X.env)).any (·.1)=false:=by rfl) :
    PE X (.Call (.Name x p) (e::es) [] pos) (fun σ H Q=>t σ H fun vs H1=>R vs H1 Q):=by
  obtain ⟨f,fd,M,F,b,m⟩:=D
  intro pins s σ H Q I h
  refine wpAny_Call_Name_kw (ld_glob I hg m ?_ hdb)
  refine PySem.W.callWith_K (h₀:=X.base) I.ok.mod.kin M.kp (thn (ha pos pins s σ H _ I h) fun us s1 ⟨vs,H1,I1,r,q⟩=>⟨I1.kIn,?_⟩) he hpl
  exact run_make (dvs:=[]) (ds:=[]) M F (hr.mono hk) b .nil pass0 I1 r fun y dy n1 n2 n3=>by
    rw [List.append_nil]
    exact hR vs H1 Q q y dy n1 n2 n3
theorem pe_web {X:Cx} {k k':Nat} {C:Addr} {x:Str} {ps:List Str} {e:Expr} {es:List Expr} {t:TA} {p pos:Pos} (D:MkDef X.prog X.w X.K X.mg X.base k x C ps (spInit X.K C)) (hr:Room k' X.A) (ha:PA X (e::es) t)
    (hk:k+1≤k':=by decide) (hg:Gl X x:=by rfl)
    (hdb:(x==("__debug__":Str))=false:=by decide) (he:starEach (e::es) X.env=(false,eval e X.env)::starEach es X.env:=by rfl) (hpl:(backTo pos (starEach es X.env)).any (·.1)=false:=by rfl) :
    PE X (.Call (.Name x p) (e::es) [] pos) (tWeb X.K C t):=by
  refine pe_make' D hr ha (fun vs H1 Q q=>?_) hk hg hdb he hpl
  obtain ⟨p',mm,xs,es',rfl,hq,hp,b1,b2,b3,b4,q⟩:=q
  intro z dz nz ndz ne
  have s1:Same H1 (upd (upd H1 dz (.own z)) z (.ins C dz [])):=(Same.new ndz).trans (Same.new (by rw [upd_ne ne.symm];exact nz))
  refine ⟨z,dz,p',mm,xs,es',rfl,upd_same,hq.imp (fun y=>s1.seq y) (fun y=>s1.tup y),hp.same s1,b1,b2,b3,b4,fun H' tt ys sx h1 h2 h3=>⟨rfl,?_⟩⟩
  exact q z H' nz (fun bb o eb=>sx _ _ (ne_of_none eb nz) (s1 _ _ eb)) ⟨dz,tt,ys,h1,h2,h3⟩
end L2
namespace L2
open PySem PySem.Spec PyProof.Rows
theorem SameX.of {H H':Hp} {a:Addr} (S:Same H H'):SameX a H H':=fun b o _ e=>S b o e
theorem SameX.trans {H H1 H2:Hp} {a:Addr} (S:SameX a H H1) (T:SameX a H1 H2):SameX a H H2:=fun b o n e=>T b o n (S b o n e)
theorem SameX.seq {K:PySem.W.Frag} {H H':Hp} {a r:Addr} {xs:List V} (S:SameX a H H') (hr:r≠a) (h:SqL K H r xs):SqL K H' r xs:=by
  rcases h with (h | ⟨o,h⟩) | h
  · exact .inl (.inl (S _ _ hr h))
  · exact .inl (.inr ⟨o,S _ _ hr h⟩)
  · exact .inr h
end L2
namespace L2
open PySem PySem.Spec PyProof.Rows
section
variable {X:Cx} {K:PySem.W.Frag}
theorem ixL (h:X.K=K):IxR X (rIxL K):=by subst h;exact ix_list
theorem ixT (h:X.K=K):IxR X (rIxT K):=by subst h;exact ix_tup
theorem opIn (h:X.K=K):OpR X (compareOp .In) (rIn K false):=by subst h;exact op_in_seq
theorem opNotIn (h:X.K=K):OpR X (compareOp .NotIn) (rIn K true):=by subst h;exact op_notIn_seq
theorem opEqD (h:X.K=K) (hu:X.A.units+64<cLine):OpR X (compareOp .Eq) (rEqD K id):=by subst h;exact op_eqD hu
theorem opNeD (h:X.K=K) (hu:X.A.units+64<cLine):OpR X (compareOp .NotEq) (rEqD K not):=by subst h;exact op_neD hu
def rLen (K:PySem.W.Frag):List V→Hp→VK→Prop:=fun xs H Q=>∃p ys,xs=[.ref p]∧(SqL K H p ys∨SqT K H p ys)∧Q (.int ys.length) H
theorem cLen (h:X.K=K):CallR X (.builtin "len") (rLen K):=by subst h;exact call_len_seq
def rList (K:PySem.W.Frag):List V→Hp→VK→Prop:=fun xs H Q=>∃p ys,xs=[.ref p]∧(SqL K H p ys∨SqT K H p ys)∧∀l,H l=none→Q (.ref l) (upd H l (.lst ys))
theorem cList (h:X.K=K):CallR X (.type "list") (rList K):=by subst h;exact call_list_of
def rTuple (K:PySem.W.Frag):List V→Hp→VK→Prop:=fun xs H Q=>∃p ys,xs=[.ref p]∧((SqL K H p ys∧∀l,H l=none→Q (.ref l) (upd H l (.tup ys)))∨(SqT K H p ys∧Q (.ref p) H))
theorem cTuple (h:X.K=K):CallR X (.type "tuple") (rTuple K):=by subst h;exact call_tuple_of
def rAll (K:PySem.W.Frag):List V→Hp→VK→Prop:=fun xs H Q=>∃(p:Addr) (ys:List V),xs=[.ref p]∧(SqL K H p ys∨SqT K H p ys)∧ys.all isBI=true∧Q (.bl (ys.all tv)) H
theorem cAll (h:X.K=K) (hc:X.calm=true):CallR X (.builtin "all") (rAll K):=by subst h;exact call_all_seq hc
def rAny (K:PySem.W.Frag):List V→Hp→VK→Prop:=fun xs H Q=>∃(p:Addr) (ys:List V),xs=[.ref p]∧(SqL K H p ys∨SqT K H p ys)∧ys.all isBI=true∧Q (.bl (ys.any tv)) H
theorem cAny (h:X.K=K) (hc:X.calm=true):CallR X (.builtin "any") (rAny K):=by subst h;exact call_any_seq hc
def rIs (K:PySem.W.Frag):List V→Hp→VK→Prop:=fun xs H Q=>∃x c t cv b,xs=[x,c]∧RelV c cv∧(∀u,RelV c u→u=cv)∧TyX K H x t∧PySem.W.kitOne K t cv=some b∧Q (.bl b) H
theorem cIs (h:X.K=K):CallR X (.builtin "isinstance") (rIs K):=by subst h;exact call_isX
theorem piSeq {tg l:Expr} {tl:TE} (h:X.K=K) (hl:PE X l tl):PI X tg l (iSeq K tl):=by subst h;exact pi_seq hl
theorem pgTup {es:List Expr} {k:Nat} {t:TGs} {n:Nat} {pos:Pos} (hK:X.K=K) (hc:X.calm=true) (h:PGs X es t) (hn:(assignEach es X.env).length=n) (hst:(assignEach es X.env).findIdx? (·.1)=none:=by rfl):PG X (.Tuple es k pos) (gTup K n t):=by
  subst hK;exact pg_tup hc h hn hst
theorem pgPair {i j:Nat} {x y:Str} {p1 p2 pos:Pos} {k:Nat} (hK:X.K=K) (hc:X.calm=true) (hN:X.N.Nodup) (hi:X.N[i]?=some x) (hj:X.N[j]?=some y) (hx:X.env.scope.names.lookup x=some .local) (hy:X.env.scope.names.lookup y=some .local) :
    PG X (.Tuple [.Name x p1,.Name y p2] k pos) (gTup K 2 (gCons (gName i) (gCons (gName j) gNil))):=by subst hK;exact pg_pair hc hN hi hj hx hy
theorem pMany {C:Addr} {e:Expr} {ta:TE} {pos:Pos} (h:X.K=K) (W:WebC K C) (he:PE X e ta) (hb:attributeBase e "many" X.env (eval e X.env)=eval e X.env:=by rfl):PE X (.Attribute e "many" pos) (tMany K C ta):=by subst h;exact pe_many W he hb
theorem pTies {C:Addr} {e:Expr} {ta:TE} {pos:Pos} (h:X.K=K) (W:WebC K C) (he:PE X e ta) (hb:attributeBase e "ties" X.env (eval e X.env)=eval e X.env:=by rfl):PE X (.Attribute e "ties" pos) (tTies K C ta):=by subst h;exact pe_ties W he hb
end
end L2
namespace L2
open PySem PySem.Spec PyProof.Rows
theorem ObjOk.live {P:Program} {w:World} {H:Hp} {h:Heap} {a:Addr} {o:HO} (x:ObjOk P w H h a o):∃ob,h.get? a=some ob:=by
  cases o with
  | lst xs=>obtain ⟨_,_,_,_,e⟩:=x;exact ⟨_,e⟩
  | tup xs=>obtain ⟨_,_,_,ob,e,_⟩:=x;exact ⟨_,e⟩
  | dK kvs=>obtain ⟨_,_,_,_,ob,_,_,e,_⟩:=x;exact ⟨_,e⟩
  | dT kvs=>obtain ⟨_,_,_,_,ob,_,_,e,_⟩:=x;exact ⟨_,e⟩
  | set S n=>obtain ⟨ob,_,_,_,e,_⟩:=x;exact ⟨_,e⟩
  | ins C dx fs=>obtain ⟨_,_,_,e,_⟩:=x;exact ⟨_,e⟩
  | own y=>exact x
  | xd fs=>obtain ⟨_,⟨_,_,_,e,_⟩,_⟩:=x;exact ⟨_,e⟩
  | rng lo hi=>obtain ⟨_,_,_,e⟩:=x;exact ⟨_,e⟩
  | frz ob u=>obtain ⟨e,_⟩:=x;exact ⟨_,e⟩
  | tbl ps=>exact ⟨_,x⟩
  | met f y=>exact ⟨_,x⟩
  | ext φ=>obtain ⟨_,e,_⟩:=x;exact e
theorem HOk.dead {P:Program} {w:World} {H:Hp} {h:Heap} {a:Addr} (x:HOk P w H h) (e:h.get? a=none):H a=none:=by
  cases q:H a with
  | none=>rfl
  | some o =>
    obtain ⟨ob,z⟩:=(x a o q).live
    rw [e] at z;cases z
def Yg (X:Cx) (H:Hp) (b:Addr):Prop:=X.s₀.heap.get? b=none∧H b=none∧∀p∈X.pn,p.1≠b
section
variable {X:Cx} {pins:List (Addr×Obj)} {σ:St} {H:Hp} {s:Shared}
theorem Inv.young (I:Inv X pins σ H s) (hex:X.ex=[]) {b:Addr} (e:s.heap.get? b=none):Yg X H b:=by
  refine ⟨?_,I.hok.dead e,fun p hp z=>?_⟩
  · cases q:X.s₀.heap.get? b with
    | none=>rfl
    | some o =>
      obtain ⟨o',z⟩:=I.base.there b o q (by rw [hex];simp)
      rw [e] at z;cases z
  · have:=(I.pin p (List.mem_append_left _ hp)).1
    rw [z,e] at this;cases this
theorem Inv.bareP (I:Inv X pins σ H s):Inv X [] σ H s:=I.pins_of fun _ h=>nomatch h
theorem Inv.noted {h':Heap} {ch:List Addr} (I:Inv X [] σ H s) (hch:∀b∈ch,Yg X H b∧∃o vs,s.heap.get? b=some o∧o.data=.fields vs)
    (keep:∀b o,s.heap.get? b=some o→b∉ch→b∉frs X.stack→h'.get? b=some o)
    (slot:∀b o,s.heap.get? b=some o→b∈frs X.stack→∃sl,h'.get? b=some {o with slots:=sl}):Inv X [] σ H {s with heap:=h'}:=by
  have up:∀b o,s.heap.get? b=some o→b∉ch→∃sl,h'.get? b=some {o with slots:=sl}:=fun b o e hb=>by
    by_cases hf:b∈frs X.stack
    · exact slot b o e hf
    · exact ⟨o.slots,keep b o e hb hf⟩
  have nchF:∀b o,s.heap.get? b=some o→(∀vs,o.data≠.fields vs)→b∉ch:=fun b o e hd hb=>by
    obtain ⟨_,o',vs,e',d⟩:=hch b hb
    rw [e] at e';cases e'
    exact hd vs d
  have nch0:∀b o,X.s₀.heap.get? b=some o→b∉ch:=fun b o e hb=>by
    have:=(hch b hb).1.1
    rw [e] at this;cases this
  have nst:∀b o,X.s₀.heap.get? b=some o→b∉X.fs→b∉frs X.stack:=fun b o e hb hs=>by
    rcases List.mem_cons.mp (I.stkSub b hs) with z | z
    · exact absurd (Nat.lt_of_lt_of_le (Heap.lt_size e) I.ok.above) (by rw [z];exact Nat.lt_irrefl _)
    · exact hb z
  obtain ⟨m,hn,hl⟩:=id I.loc
  refine ⟨I.ok,I.os,I.bare,⟨fun b o e n hb hx=>?_,fun b o e n hb hx=>?_,I.base.free,fun b o e hx=>?_,I.base.tups,I.base.frzs,I.base.tbls⟩,⟨m,?_,fun i x v e1 e2 e3=>?_⟩,fun x c e=>?_,I.free,I.freeC,fun p hp=>?_,fun b u e=>?_,I.len⟩
  · exact keep b o (I.base.keep b o e n hb hx) (nch0 b o e) (nst b o e hb)
  · obtain ⟨sl,e1⟩:=I.base.slot b o e n hb hx
    obtain ⟨sl',e2⟩:=up b _ e1 (nch0 b o e)
    exact ⟨sl',e2⟩
  · obtain ⟨o',e1⟩:=I.base.there b o e hx
    obtain ⟨sl,e2⟩:=up b o' e1 (nch0 b o e)
    exact ⟨_,e2⟩
  · obtain ⟨o,es,ep,ho,hd,r⟩:=hn
    obtain ⟨sl,e2⟩:=up _ o ho (nchF _ o ho fun vs z=>by rw [hd] at z;cases z)
    exact ⟨_,es,ep,e2,hd,r⟩
  · obtain ⟨u,r,l⟩:=hl i x v e1 e2 e3
    refine ⟨u,r,?_⟩
    rcases l with l | ⟨k,c,e,o,ho,hd⟩
    · exact .inl l
    · obtain ⟨sl,e2⟩:=up c o ho (nchF c o ho fun vs z=>by rw [hd] at z;cases z)
      exact .inr ⟨k,c,e,_,e2,hd⟩
  · obtain ⟨v,o,ho,hd⟩:=I.cell x c e
    obtain ⟨sl,e2⟩:=up c o ho (nchF c o ho fun vs z=>by rw [hd] at z;cases z)
    exact ⟨v,_,e2,hd⟩
  · obtain ⟨e,n,ne,nf,d⟩:=I.pin p hp
    refine ⟨keep p.1 p.2 e (fun hb=>(hch _ hb).1.2.2 p (by simpa using hp) rfl) (fun hs=>?_),n,ne,nf,d⟩
    rcases List.mem_cons.mp (I.stkSub _ hs) with z | z
    · exact ne z
    · exact nf z
  · refine (I.hok b u e).stay (fun c v hc q=>keep c v q (fun hb=>?_) (fun hs=>?_)) (fun _ q=>q) fun _ _ q=>q
    · have z:=(hch c hb).1.2.1
      rcases hc with hc | hc
      · rw [hc,e] at z;cases z
      · rw [hc] at z;cases z
    · have z:=I.stkFree c hs
      rcases hc with hc | hc
      · rw [hc,e] at z;cases z
      · rw [hc] at z;cases z
end
def IsX (o:Obj):Value→Prop
  | .int d A=>o.cls=.ref A∧o.dict=some d.toNat
  | C=>o.cls=C
def FlyO (X:Cx) (H:Hp) (h:Heap) (x:Addr) (C:Value) (fl:Option Value):Prop :=
  Yg X H x∧∃oe vs a0,h.get? x=some oe∧IsX oe C∧oe.data=.fields vs∧vs[0]?=some a0 ∧
    match fl with
    | none=>vs[1]?=some .none
    | some v=>∃T oT ts,vs[1]?=some (.ref T)∧T≠x∧Yg X H T∧h.get? T=some oT∧oT.data=.fields ts∧ts[3]?=some v
theorem frames_base {h base base':Heap}:∀{l:List Env},h.FunFrames base l→(∀b∈frs l,base'.get? b=none)→h.FunFrames base' l
  | [],_,_=>trivial
  | env::r,hl,hb=>by
    obtain ⟨hk,⟨L,o,hf,hn,ho,hd⟩,hr⟩:=hl
    have e:frs (env::r)=L::frs r:=by unfold frs;rw [List.filterMap_cons,hf]
    exact ⟨hk,⟨L,o,hf,hb L (by rw [e];exact List.mem_cons_self),ho,hd⟩,frames_base hr fun b z=>hb b (by rw [e];exact List.mem_cons_of_mem _ z)⟩
section
variable {X:Cx} {σ:St} {H:Hp} {s:Shared} {M:Model} {A:Around} {E:Value→Shared→Prop} {x:Addr} {C:Value}
theorem FlyO.mv {h h':Heap} {fl:Option Value} (F:FlyO X H h x C fl) (k:∀b o,h.get? b=some o→h'.get? b=some o):FlyO X H h' x C fl:=by
  obtain ⟨y,oe,vs,a0,e,c,d,v0,r⟩:=F
  refine ⟨y,oe,vs,a0,k _ _ e,c,d,v0,?_⟩
  cases fl with
  | none=>exact r
  | some v=>obtain ⟨T,oT,ts,r1,r2,r3,r4,r5⟩:=r;exact ⟨T,oT,ts,r1,r2,r3,k _ _ r4,r5⟩
theorem flight_ok {v:Value} {fr:Option Addr} {Q:Unit→Shared→Prop} (I:Inv X [] σ H s) (F:FlyO X H s.heap x C (some v))
    (k:∀s',Inv X [] σ H s'→FlyO X H s'.heap x C (some (fr.elim .none fun f=>rawInt f))→Q () s'):wpAny M A (setFlight (.ref x) fr) Q E s:=by
  obtain ⟨y,oe,vs,a0,e,c,d,v0,T,oT,ts,r1,r2,r3,r4,r5,r6⟩:=F
  have hz:3<ts.size:=(Array.getElem?_eq_some_iff.mp r6).1
  unfold setFlight
  refine wpAny_bind (wpAny_field e d r1 ?_)
  rw [if_pos (show (Value.ref T != Value.none)=true from by simp)]
  have other:∀b,b≠T→∀z:Value,(s.heap.update T (Obj.mapFields (·.setIfInBounds 3 z))).get? b=s.heap.get? b:=fun b hb z=>Heap.get?_update_other _ _ (Ne.symm hb)
  have there:=fun z:Value=>Heap.get?_update_self (Obj.mapFields (·.setIfInBounds 3 z)) r4 (Obj.isFreed_of_fields (Obj.data_mapFields r5 _))
  refine wpAny_setField r4 r5 hz (k _ (I.noted (ch:=[T]) (fun b hb=>?_) (fun b o eb hb _=>?_) fun b o eb hb=>?_) ?_)
  · have z:b=T:=by simpa using hb
    rw [z];exact ⟨r3,oT,ts,r4,r5⟩
  · rw [other b (fun z=>hb (by simp [z]))];exact eb
  · refine ⟨o.slots,?_⟩
    rw [other b ?_]
    · exact eb
    · intro z
      obtain ⟨_,o',eo,hd⟩:=I.stack.mem hb
      rw [z,r4] at eo;cases eo
      exact hd ts r5
  · refine ⟨y,oe,vs,a0,by rw [other x (Ne.symm r2)];exact e,c,d,v0,T,_,_,r1,r2,r3,there _,Obj.data_mapFields r5 _,?_⟩
    simp [hz]
def hidE (s:Shared) (l:List Addr):Heap:=PySem.W.hideAll s.heap l
theorem IsX.eqv {o o':Obj} (hc:o'.cls=o.cls) (hd:o'.dict=o.dict):∀{C:Value},IsX o C→IsX o' C:=fun {C} h=>by
  cases C<;>first
    | exact ⟨hc.trans h.1,hd.trans h.2⟩
    | exact hc.trans h
structure Hung (e:Addr) (oe tb:Obj) (vs:Array Value) (h h':Heap):Prop where
  new:h'.get? h.objs.size=some tb
  rest:∀b o,b≠e→h.get? b=some o→h'.get? b=some o
  at_:∃o',h'.get? e=some o'∧o'.cls=oe.cls∧o'.dict=oe.dict∧o'.data=.fields (vs.setIfInBounds 1 (.ref h.objs.size))
theorem Hung.mk' {e:Addr} {oe tb:Obj} {vs:Array Value} {h:Heap} (he:h.get? e=some oe) (hd:oe.data=.fields vs) (ht:tb.isFreed=false):Hung e oe tb vs h ((h.push tb).update e (Obj.mapFields (·.setIfInBounds 1 (.ref h.objs.size)))):=by
  obtain ⟨c,d,x,sl⟩:=oe
  cases hd
  have ne:=Nat.ne_of_lt (Heap.lt_size he)
  exact ⟨Heap.get?_update_of_ne _ ne (Heap.get?_push_size _ ht),fun b o hb q=>Heap.get?_update_of_ne _ (Ne.symm hb) (Heap.get?_push_of_some _ q),_,Heap.get?_update_self _ (Heap.get?_push_of_some _ he) rfl,rfl,rfl,rfl⟩
theorem entryX {base:Heap} {env:Env} {outer:List Env} {L e:Addr} {oe:Obj} {vs:Array Value} {head a0:Value} {hadNext:Bool} {Q:Unit→Shared→Prop} (hfr:A.frames=some (env::outer)) (hl:s.heap.FunFrames base (env::outer)) (hf:env.frame=some L) (he:s.heap.get? e=some oe) (hkb:base.StaysIn s.heap) (hen:base.get? e=none) (hd:oe.data=.fields vs) (hsz:1<vs.size) (h0:vs[0]?=some a0)
    (h:∀h',Heap.NotedW base (env::outer) e oe.cls a0 (rawInt L) s.heap h'→(∃o',h'.get? e=some o'∧o'.dict=oe.dict)→Q () {s with heap:=h'}):wpAny M A (do let a ←frameOf env;let pl ←entryPlaceOf L hadNext;let b ←EntryCells.newEntry head a .none (rawInt L) .none pl;setField (.ref e) 1 b) Q E s:=by
  have plain:∀{b:Addr} {o:Obj},s.heap.get? b=some o→(∀ws,o.data≠.fields ws)→b≠e:=fun q n z=>by cases (z▸q).symm.trans he;exact n vs hd
  have apart:e∉(env::outer).filterMap (·.frame):=fun m=>let ⟨_,_,q,n⟩:=hl.mem m;plain q n rfl
  refine wpAny_bind (wpAny_frameOf_fun hfr hl hf fun hp S=>wpAny_bind (wpAny_entryPlaceOf fun pl place=>wpAny_bind (wpAny_newObj_type ?_ (place.sizeOk5 _ _ _ _ _))))
  have there:=(S.2.1 e apart).trans he
  have low:base.StaysIn hp:=fun b o q=>(S.2.1 b fun m=>nomatch (hl.mem m).1.symm.trans q).trans (hkb b o q)
  refine wpAny_setField (Heap.get?_push_of_some _ there) hd hsz ?_
  have U:=Hung.mk' (tb:=⟨.type "traceback",none,.fields ([head,.ref L,.none,rawInt L,.none]++(if pl.isEmpty then List.replicate 6 Value.none else pl)).toArray,#[]⟩) there hd rfl
  obtain ⟨o',q1,q2,q3,q4⟩:=U.at_
  have kept:∀b o,s.heap.get? b=some o→(∀ws,o.data≠.fields ws)→∃sl,_:=fun b o q n=>let ⟨sl,z⟩:=S.2.2 b o q;⟨sl,U.rest b _ (plain q n) z⟩
  refine h _ ⟨fun b o q=>U.rest b o (fun z=>nomatch (z▸hen).symm.trans q) (low b o q),hl.of_keeps fun b o q n=>let ⟨_,z⟩:=kept b o q n;⟨_,z,rfl⟩,⟨o',_,hp.objs.size,_,_,q1,⟨q2,?_⟩,q4,?_,low.fresh,(Nat.ne_of_lt (Heap.lt_size there)).symm,U.new,rfl,?_⟩,kept⟩ ⟨o',q1,q3⟩
  · rw [Array.getElem?_setIfInBounds_ne (by decide),h0]
  · rw [Array.getElem?_setIfInBounds_self_of_lt hsz]
  · rw [List.getElem?_toArray];rfl
theorem note_end {v:Value} {h':Heap} {l ch:List Addr} {a0:Value} {ox:Obj} (I:Inv X [] σ H s) (hex:X.ex=[]) (y:Yg X H x) (hx:x∈ch) (hl:l=ch++frs X.stack) (iX:IsX ox C)
    (hch:∀b∈ch,Yg X H b∧∃o vs,s.heap.get? b=some o∧o.data=.fields vs) (N:Heap.NotedW (hidE s l) X.stack x ox.cls a0 v s.heap h') (hdc:∃o',h'.get? x=some o'∧o'.dict=ox.dict) :
    Inv X [] σ H {s with heap:=h'}∧FlyO X H h' x C (some v):=by
  obtain ⟨n1,n2,n3,n4⟩:=N
  subst hl
  have frd:∀b o,s.heap.get? b=some o→b∈frs X.stack→∀vs,o.data≠.fields vs:=fun b o e hb=>by
    obtain ⟨_,o',eo,hd⟩:=I.stack.mem hb
    rw [e] at eo;cases eo
    exact hd
  refine ⟨I.noted (ch:=ch) hch (fun b o e hb hs=>n1 b o (PySem.W.hideAll_get _ e fun z=>(List.mem_append.mp z).elim hb hs)) (fun b o e hb=>n4 b o e (frd b o e hb)),y,?_⟩
  obtain ⟨oe,vs,T,oT,ts,e,⟨c,v0⟩,d,r1,r2,r3,r4,r5,r6⟩:=n3
  obtain ⟨o',eo',dd⟩:=hdc
  rw [e] at eo';cases eo'
  refine ⟨oe,vs,a0,e,IsX.eqv c dd iX,d,v0,T,oT,ts,r1,r3,?_,r4,r5,r6⟩
  cases q:s.heap.get? T with
  | none=>exact I.young hex q
  | some o =>
    by_cases hT:T∈ch
    · exact (hch T hT).1
    · by_cases hf:T∈frs X.stack
      · exfalso
        obtain ⟨sl,z⟩:=n4 T o q (frd T o q hf)
        rw [r4] at z;cases z
        exact frd T o q hf ts r5
      · have:=PySem.W.hideAll_get (ch++frs X.stack) q fun z=>(List.mem_append.mp z).elim hT hf
        rw [show PySem.W.hideAll s.heap (ch++frs X.stack)=hidE s (ch++frs X.stack) from rfl,r2] at this;cases this
theorem note_ok {fl:Option Value} {L:Addr} {Q:Unit→Shared→Prop} (I:Inv X [] σ H s) (hex:X.ex=[]) (hfr:A.frames=some X.stack) (hst:X.stack=X.env::X.outer) (hL:X.env.frame=some L)
    (F:FlyO X H s.heap x C fl) (hfl:fl=none∨fl=some .none∨fl=some (rawInt L))
    (k:∀s',Inv X [] σ H s'→FlyO X H s'.heap x C (some (rawInt L))→Q () s'):wpAny M A (noteFrame (.ref x) X.env) Q E s:=by
  have hidS:∀l,(hidE s l).StaysIn s.heap:=fun l b o e=>PySem.W.of_hideAll l e
  have hidN:∀l b,b∈l→(hidE s l).get? b=none:=fun l b hb=>PySem.W.hideAll_none l hb
  have hidF:∀ch,s.heap.FunFrames (hidE s (ch++frs X.stack)) X.stack:=fun ch=>frames_base I.stack fun b hb=>hidN _ b (List.mem_append_right _ hb)
  obtain ⟨y,oe,vs,a0,e,c,d,v0,r⟩:=id F
  rcases hfl with rfl | rfl | rfl
  · have hch:∀b∈[x],Yg X H b∧∃o vs,s.heap.get? b=some o∧o.data=.fields vs:=fun b hb=>by
      have z:b=x:=by simpa using hb
      rw [z];exact ⟨y,oe,vs,e,d⟩
    have r':vs[1]?=some Value.none:=r
    unfold noteFrame
    simp only [hL]
    refine wpAny_bind (wpAny_field e d r' ?_)
    rw [if_neg (by decide)]
    refine entryX (base:=hidE s ([x]++frs X.stack)) (outer:=X.outer) (by rw [hfr,hst]) (by rw [←hst];exact hidF [x]) hL e (hidS _) (hidN _ x (by simp)) d (Array.getElem?_eq_some_iff.mp r').1 v0 fun h' N hdc=>?_
    rw [←hst] at N
    obtain ⟨I',F'⟩:=note_end I hex y (by simp) rfl c hch N hdc
    exact k _ I' F'
  · obtain ⟨T,oT,ts,r1,r2,r3,r4,r5,r6⟩:=id r
    have hch:∀b∈[x,T],Yg X H b∧∃o vs,s.heap.get? b=some o∧o.data=.fields vs:=fun b hb=>by
      have z:b=x∨b=T:=by simpa using hb
      rcases z with z | z
      · rw [z];exact ⟨y,oe,vs,e,d⟩
      · rw [z];exact ⟨r3,oT,ts,r4,r5⟩
    unfold noteFrame
    simp only [hL]
    refine wpAny_bind (wpAny_field e d r1 ?_)
    rw [if_pos (show (Value.ref T != Value.none)=true from by simp)];refine wpAny_bind (wpAny_field r4 r5 r6 ?_)
    rw [if_neg (show ¬((Value.none==rawInt L)=true) from by simp [rawInt])];refine wpAny_bind (wpAny_setField r4 r5 (Array.getElem?_eq_some_iff.mp r6).1 ?_)
    have oth:∀b,b≠T→(s.heap.update T (Obj.mapFields (·.setIfInBounds 3 Value.none))).get? b=s.heap.get? b:=fun b hb=>Heap.get?_update_other _ _ (Ne.symm hb)
    have nrec:∀b o,s.heap.get? b=some o→(∀vs,o.data≠.fields vs)→b≠T:=fun b o hb hnf q=>by
      rw [q,r4] at hb;cases hb;exact hnf ts r5
    have hidT:(hidE s ([x,T]++frs X.stack)).get? T=none:=hidN _ T (by simp)
    refine entryX (s:={s with heap:=s.heap.update T (Obj.mapFields (·.setIfInBounds 3 Value.none))}) (base:=hidE s ([x,T]++frs X.stack)) (outer:=X.outer) (by rw [hfr,hst]) (by rw [←hst];exact (hidF [x,T]).of_keeps fun b o hb hnf=>⟨o,(oth b (nrec b o hb hnf)).trans hb,rfl⟩) hL ((oth x (Ne.symm r2)).trans e)
      (fun b o hbo=>(oth b fun q=>by rw [q,hidT] at hbo;cases hbo).trans (hidS _ b o hbo)) (hidN _ x (by simp)) d (Array.getElem?_eq_some_iff.mp r1).1 v0 fun h' N hdc=>?_
    rw [←hst] at N
    obtain ⟨x1,x2,x3,x4⟩:=N
    obtain ⟨I',F'⟩:=note_end I hex y (by simp) rfl c hch ⟨x1,x2,x3,fun b o hb hnf=>x4 b o ((oth b (nrec b o hb hnf)).trans hb) hnf⟩ hdc
    exact k _ I' F'
  · obtain ⟨T,oT,ts,r1,r2,r3,r4,r5,r6⟩:=id r
    refine wpAny_noteFrame_againW (base:=hidE s ([x,T]++frs X.stack)) (cls:=oe.cls) (a0:=a0) hL ?_ (k s I F)
    exact ⟨oe,vs,T,oT,ts,e,⟨rfl,v0⟩,d,r1,hidN _ T (by simp),r2,r4,r5,r6⟩
end
def FlyE (X:Cx) (Ex:St→Value→Hp→Prop):Value→Shared→Prop:=fun e s' =>
  ∃(x:Addr) (C:Value) (fl:Option Value) (σ:St) (H:Hp),e=.ref x∧Inv X [] σ H s'∧FlyO X H s'.heap x C fl∧(fl=none∨fl=some .none∨fl=some (rawInt X.env.locals))∧Ex σ C H
def CXE (P:Program) (w:World):CXT:=fun outer H s E e s' =>
  ∃(x:Addr) (C:Value) (H':Hp),e=.ref x∧s'.os=s.os∧AllBare s'.gens∧Un (frs outer) [] H H' s.heap s'.heap∧HOk P w H' s'.heap∧s.heap.get? x=none∧H' x=none ∧
    (∃oe vs a0 T oT ts,s'.heap.get? x=some oe∧IsX oe C∧oe.data=.fields vs∧vs[0]?=some a0∧vs[1]?=some (.ref T)∧T≠x∧s.heap.get? T=none∧H' T=none∧s'.heap.get? T=some oT∧oT.data=.fields ts∧ts[3]?=some .none) ∧
    E C none H'
structure Body (X:Cx):Prop where
  ex:X.ex=[]
  st:X.stack=X.env::X.outer
  fr:X.env.frame=some X.env.locals
section
variable {X:Cx} {Ex:St→Value→Hp→Prop}
theorem fly_passes (B:Body X) {A:Around} (hfr:A.frames=some X.stack):∀e s',FlyE X Ex e s'→notedBy (model X.prog X.w) A X.env (cameBackBy (model X.prog X.w) A X.env (FlyE X Ex)) e s':=by
  rintro e s' ⟨x,C,fl,σ,H,rfl,I,F,hfl,q⟩
  refine note_ok (L:=X.env.locals) I B.ex hfr B.st B.fr F hfl fun s1 I1 F1=>?_
  obtain ⟨y,oe,vs,a0,e1,c,d,v0,T,oT,ts,r1,r2,r3,r4,r5,r6⟩:=id F1
  refine wpAny_bind (wpAny_field e1 d r1 ?_)
  rw [if_neg (by simp)]
  refine flight_ok I1 F1 fun s2 I2 F2=>⟨x,C,_,σ,H,rfl,I2,F2,.inr (.inr ?_),q⟩
  rw [B.fr];rfl
theorem passE (B:Body X) (ok:X.A.frames=some X.stack):PassesOwn (model (X.wish (FlyE X Ex)).prog (X.wish (FlyE X Ex)).w) (X.wish (FlyE X Ex)).A (X.wish (FlyE X Ex)).env (X.wish (FlyE X Ex)).xe:=fun e s' h=>fly_passes B ok e s' h
theorem PSs.more {E1:Value→Shared→Prop} {st:List Stmt} {t:TS} (h:PSs (X.wish E1) st t) (hE:∀e s,E1 e s→X.xe e s):PSs X st t:=fun pins s σ H D I hw =>
  wpAny_mono (h pins s σ H D (I.wish _) hw) (fun _ _ q=>q.unwish) fun e s z=>hE e s z
end
theorem fly_leaves {P:Program} {w:World} {K:PySem.W.Frag} {mg:Str→Option Value} {base:Heap} {N:List Str} {qual:Str} {scope:Scope} {f:Addr} {cd:Value} {A:Around} {outer:List Env} {s:Shared} {H:Hp} {E:XK}
    (B:Body (cxOf (CXE P w) P w K mg base N qual scope f cd A outer s H E)):∀e s',FlyE (cxOf (CXE P w) P w K mg base N qual scope f cd A outer s H E) (fun _ C H'=>E C none H') e s'→(cxOf (CXE P w) P w K mg base N qual scope f cd A outer s H E).xe e s':=by
  rintro e s' ⟨x,C,fl,σ,H1,rfl,I,F,hfl,q⟩
  show wpAny _ _ (leaving _ _) _ _ s'
  unfold leaving
  refine wpAny_bind (note_ok I B.ex I.ok.frames B.st B.fr F hfl fun s1 I1 F1=>?_)
  refine flight_ok I1 F1 fun s2 I2 F2=>?_
  obtain ⟨y,oe,vs,a0,e1,c,d,v0,T,oT,ts,r1,r2,r3,r4,r5,r6⟩:=id F2
  exact ⟨x,C,H1,rfl,I2.os,I2.bare,I2.base,I2.hok,y.1,y.2.1,⟨oe,vs,a0,T,oT,ts,e1,c,d,v0,r1,r2,r3.1,r3.2.1,r4,r5,r6⟩,q⟩
section
variable {P:Program} {w:World} {K:PySem.W.Frag} {mg:Str→Option Value} {base:Heap}
abbrev cxE (P:Program) (w:World) (K:PySem.W.Frag) (mg:Str→Option Value) (base:Heap) (N:List Str) (qual:Str) (scope:Scope) (f:Addr) (cd:Value) (A:Around) (outer:List Env) (s:Shared) (H:Hp) (E:XK):Cx :=
  (cxOf (CXE P w) P w K mg base N qual scope f cd A outer s H E).wish (FlyE (cxOf (CXE P w) P w K mg base N qual scope f cd A outer s H E) (fun _ C H'=>E C none H'))
theorem Fun.okE {x qual:Str} {st:Stmt} {f:Addr} {fd:FuncData} {N ps:List Str} {k:Nat} {sp:Sp} (F:Fun K x qual st f fd) (S:FnScope N ps (defScope st)) (len:∀vs H Q E,sp vs H Q E→vs.length=ps.length)
    (hbody:∀(cdv:Value) (A:Around) (outer:List Env) (s:Shared) (H:Hp) (vs:List V) (Q:VK) (E:XK),Room k (A.deeper (envOfC qual (defScope st) s.heap.objs.size f cdv))→sp vs H Q E →
      ∃t,PSs (cxE P w K mg base N qual (defScope st) f cdv A outer s H E) (defBody st) t∧t {nx:=fun _ H'=>Q .non H',rt:=Q} (start N vs) H):FnOk P w K mg base (CXE P w) (k+1) f fd ps sp:=by
  obtain ⟨oc,od,kV,doc,pm,an,cdv,ct,osl,rfl,lk,hcd⟩:=F.ex
  refine fn_of lk hcd S len fun A outer s H vs Q E hr hsp=>?_
  obtain ⟨t,h,q⟩:=hbody cdv A outer s H vs Q E hr hsp
  exact ⟨t,h.more (fly_leaves ⟨rfl,rfl,rfl⟩),q⟩
theorem bodyE {N:List Str} {qual:Str} {scope:Scope} {f:Addr} {cd:Value} {A:Around} {outer:List Env} {s:Shared} {H:Hp} {E:XK}:Body (cxOf (CXE P w) P w K mg base N qual scope f cd A outer s H E):=⟨rfl,rfl,rfl⟩
end
section
variable {X:Cx} {Ex:St→Value→Hp→Prop}
theorem ps_forE {tg iter:Expr} {body:List Stmt} {wi:TI} {g:TG} {tb:TS} {pos:Pos} (B:Body X) (hc:X.calm=true) (hi:PI (X.wish (FlyE X Ex)) tg iter wi) (hg:PG (X.wish (FlyE X Ex)) tg g) (hb:PSs (X.wish (FlyE X Ex)) body tb)
    (hs:∀x,foldedSetIterable iter X.env x=pure x:=by intro _;rfl):PS (X.wish (FlyE X Ex)) (.For tg iter body [] pos) (tFor wi g tb):=fun pins s σ H D I h =>
  ps_for (X:=X.wish (FlyE X Ex)) (passE B I.unwish.ok.frames) hc hi hg hb hs pins s σ H D I h
def DefE (P:Program) (w:World) (K:PySem.W.Frag) (mg:Str→Option Value) (base:Heap) (k:Nat) (x:Str) (ps:List Str) (sp:Sp):Prop :=
  ∃f fd,FnOk P w K mg base (CXE P w) k f fd ps sp∧mg x=some (.ref f)∧PySem.W.keepIn K (.ref f)=true∧Binds K fd ps []
theorem DefE.of {P:Program} {w:World} {K:PySem.W.Frag} {mg:Str→Option Value} {base:Heap} {k:Nat} {x qual:Str} {ps:List Str} {sp:Sp} {st:Stmt} {f:Addr} {fd:FuncData}
    (F:Fun K x qual st f fd) (m:mg x=some (.ref f)) (b:Binds K fd ps []) (ok:FnOk P w K mg base (CXE P w) k f fd ps sp):DefE P w K mg base k x ps sp:=⟨f,fd,ok,m,F.kp,b⟩
theorem fly_call {pins:List (Addr×Obj)} {σ:St} {H:Hp} {s s':Shared} {e:Value} {E:XK} (hex:X.ex=[]) (I:Inv X pins σ H s) (hE:∀C H',E C none H'→Ex σ C H') (h:CXE X.prog X.w X.stack H s E e s'):FlyE X Ex e s':=by
  obtain ⟨x,C,H',rfl,os,bare,un,hok,nx,hx,⟨oe,vs,a0,T,oT,ts,e1,c,d,v0,v1,nT,sT,hT,eT,dT,t3⟩,q⟩:=h
  have y:=I.young hex nx
  have z:=I.young hex sT
  exact ⟨x,C,some .none,σ,H',rfl,I.bareP.call' (ch:=[]) os un hok bare (fun b hb=>nomatch hb),⟨⟨y.1,hx,y.2.2⟩,oe,vs,a0,e1,c,d,v0,T,oT,ts,v1,nT,⟨z.1,hT,z.2.2⟩,eT,dT,t3⟩,.inr (.inl rfl),hE _ _ q⟩
theorem run_fnE {k:Nat} {f:Addr} {fd:FuncData} {ps:List Str} {sp:Sp} {pins:List (Addr×Obj)} {σ:St} {H:Hp} {s:Shared} {Q:VK} {us:List Value} {vs:List V} (F:FnOk X.prog X.w X.K X.mg X.base (CXE X.prog X.w) k f fd ps sp) (hr:Room k X.A) (hb:Binds X.K fd ps [])
    (hex:X.ex=[]) (I:Inv X pins σ H s) (r:Vals vs us) (h:sp vs H Q fun C _ H'=>Ex σ C H'):wpAny (model X.prog X.w) X.A (call (.ref f) us) (EP (X.wish (FlyE X Ex)) pins σ Q) (FlyE X Ex) s:=by
  have hl:(us++[]).length=ps.length:=by rw [List.append_nil,←r.length];exact F.len _ _ _ _ h
  have bt:=hb s us I.kIn hl
  rw [List.append_nil] at bt
  refine wpAny_call (codeAny_mono (F.run X.A X.stack s H ⟨us,[]⟩ us vs Q _ hr I.env0 bt r h) fun r s' hq=>?_)
  cases r with
  | error e=>exact fly_call (E:=fun C _ H'=>Ex σ C H') hex I (fun _ _ z=>z) hq
  | ok fl =>
    cases fl with
    | ret u =>
      obtain ⟨v,H',I',rv,q⟩:=I.after hq
      exact ⟨v,H',I'.wish _,rv,q⟩
    | next=>exact False.elim hq
    | brk=>exact False.elim hq
    | cont=>exact False.elim hq
def tCallE (sp:Sp) (Ex:St→Value→Hp→Prop) (t:TA):TE:=fun σ H Q=>t σ H fun vs H1=>sp vs H1 Q fun C _ H'=>Ex σ C H'
theorem pe_defE {k k':Nat} {x:Str} {ps:List Str} {sp:Sp} {e:Expr} {es:List Expr} {t:TA} {p pos:Pos} (D:DefE X.prog X.w X.K X.mg X.base k x ps sp) (hr:Room k' X.A) (hex:X.ex=[]) (hg:Gl X x) (ha:PA (X.wish (FlyE X Ex)) (e::es) t) (hk:k≤k':=by decide)
    (hdb:(x==("__debug__":Str))=false:=by decide) (he:starEach (e::es) X.env=(false,eval e X.env)::starEach es X.env:=by rfl) (hpl:(backTo pos (starEach es X.env)).any (·.1)=false:=by rfl) :
    PE (X.wish (FlyE X Ex)) (.Call (.Name x p) (e::es) [] pos) (tCallE sp Ex t):=by
  obtain ⟨f,fd,F,m,kp,b⟩:=D
  intro pins s σ H Q I h
  refine wpAny_Call_Name_kw (ld_glob I hg m ?_ hdb)
  refine PySem.W.callWith_K (h₀:=X.base) I.ok.mod.kin kp (thn (ha pos pins s σ H _ I h) fun us s1 ⟨vs,H1,I1,r,q⟩=>⟨I1.kIn,?_⟩) he hpl
  exact run_fnE F (hr.mono hk) b hex I1.unwish r q
end
end L2
namespace L2
open PySem PySem.Spec PyProof.Rows
abbrev vErr:List Value:=[.type "ValueError",.type "Exception",.type "BaseException",.type "object"]
def IsExc (K:PySem.W.Frag) (C:Addr):Prop:=PySem.W.excIn K C vErr "ValueError.__new__"=true
theorem IsExc.obj {K:PySem.W.Frag} {C:Addr} (q:IsExc K C) {h:Heap} (X:K.In h):∃bm N nm qn bs hd sn sub ab col dd k0 k1 k2 k3 k5 mN,
    h.get? C=some (excClassObj nm qn C N bs bm hd sn sub ab col dd k0 k1 k2 k3 k5 "ValueError.__new__")∧h.Ns N mN∧mN "__init__"=none∧OwnTail h vErr bm∧PySem.W.mroIn K C=fun b=>some ((Value.ref C::bm).contains b):=by
  unfold IsExc PySem.W.excIn at q
  split at q
  · next dct cd sl look =>
    split at q
    · next C' tl s0 s1 s2 s3 nn s5 em es =>
      simp only [Bool.and_eq_true,beq_iff_eq,Bool.not_eq_true'] at q
      obtain ⟨⟨⟨⟨⟨e1,e2⟩,e3⟩,e4⟩,e5⟩,e6⟩:=q
      subst e1;subst e2
      have hc:PySem.W.clsIn K C'=some cd:=by unfold PySem.W.clsIn;rw [look]
      have hm:PySem.W.mroIn K C'=fun b=>some ((Value.ref C'::tl).contains b):=by
        funext b
        unfold PySem.W.mroIn
        rw [hc,Option.bind_some,em]
        rfl
      obtain ⟨z1,z2,z3,z4,z5,z6,z7,z8,z9,z10,z11⟩:=cd
      dsimp only at em e3 e5 e6
      subst em;subst e3
      obtain ⟨ll⟩:=sl
      simp only at es
      subst es
      exact ⟨tl,_,_,_,_,_,_,_,_,_,_,_,_,_,_,_,_,X _ _ look,.of_isNs (PySem.W.isNs_of_in X e5),PySem.W.nsMap_none_of_in X e5 e6,PySem.W.tail_of_in X e4,hm⟩
    · cases q
  · cases q
def ExcO (x:Addr) (C:Value):Heap→Prop:=fun h=>∃o vs,h.get? x=some o∧IsX o C∧o.data=.fields vs
section
variable {X:Cx} {Ex:St→Value→Hp→Prop}
def tRaise (C:Addr) (Ex:St→Value→Hp→Prop) (ta:TA):TS:=fun _ σ H=>ta σ H fun vs H1=>vs.length≤sizeLine∧Ex σ (.ref C) H1
theorem ps_raise {x:Str} {C:Addr} {e:Expr} {es:List Expr} {ta:TA} {np cpos pos:Pos} (hc:X.calm=true) (hex:X.ex=[]) (hg:Gl X x) (hm:X.mg x=some (.ref C)) (q:IsExc X.K C) (ha:PA (X.wish (FlyE X Ex)) (e::es) ta)
    (hd:(x==("__debug__":Str))=false:=by decide) (he:starEach (e::es) X.env=(false,eval e X.env)::starEach es X.env:=by rfl) (hpl:(backTo cpos (starEach es X.env)).any (·.1)=false:=by rfl) :
    PS (X.wish (FlyE X Ex)) (.Raise (some (.Call (.Name x np) (e::es) [] cpos)) none pos) (tRaise C Ex ta):=by
  intro pins s σ H D I h
  obtain ⟨bm,N,nm,qn,bs,hdd,sn,sub,ab,col,dd,k0,k1,k2,k3,k5,mN,hC,hN,hni,TL,_⟩:=q.obj I.ok.mod.kin
  refine wpAny_Raise_call_subU (C:=C) (nm:=nm) (q:=qn) (N:=N) (bs:=bs) (bm:=bm) (hdct:=hdd) (sn:=sn) (sub:=sub) (ab:=ab) (col:=col) (dd:=dd) (k0:=k0) (k1:=k1) (k2:=k2) (k3:=k3) (k5:=k5)
    PySem.F.excBase_ValueError (by decide +kernel) PySem.F.excBase_ValueError (mN:=mN) (TL.hasType PySem.F.excBase_ValueError.hasBase) (I.ok.hd hc) ?_ hni (ld_glob I hg hm ⟨rfl,?_⟩ hd)
  · show (backTo cpos (starEach (e::es) X.env)).any (·.1)=false
    rw [he]
    show (false||(backTo cpos (starEach es X.env)).any (·.1))=false
    rw [hpl];rfl
  · have ha':=ha cpos pins s σ H _ I h
    rw [show (X.wish (FlyE X Ex)).env=X.env from rfl] at ha' ⊢
    rw [he] at ha' ⊢
    refine Calls.evalArgs_plain (thn ha' fun us s2 ⟨vs,H1,I2,r,z,qx⟩=>⟨rfl,by rw [←r.length];exact z,I2.bk _ _ hC,hN.keeps I2.bk,TL.keeps I2.bk,fun h' x' mk=>?_⟩)
    have I3:=I2.unwish.bareP
    obtain ⟨t,et,_,_⟩:=mk.there
    exact ⟨x',.ref C,none,σ,H1,rfl,I3.kept (t':=s2.toks) mk.keeps,⟨I3.young hex mk.new,_,_,_,et,rfl,rfl,rfl,rfl⟩,.inl rfl,qx⟩
end
end L2
namespace L2
open PySem PySem.Spec PyProof.Rows
section
variable {X:Cx} {σ:St} {H:Hp} {s:Shared}
theorem Inv.track {pins:List (Addr×Obj)} {x:Addr} {φ:Heap→Prop} (I:Inv X pins σ H s) (y:Yg X H x) (hp:∀p∈pins,p.1≠x) (ho:∃o vs,s.heap.get? x=some o∧o.data=.fields vs) (p:φ s.heap)
    (st:∀h1 h2:Heap,φ h1→(∀o,h1.get? x=some o→h2.get? x=some o)→φ h2):Inv X pins σ (upd H x (.ext φ)) s:=by
  obtain ⟨o,vs,eo,ed⟩:=ho
  have nH:∀b u,H b=some u→b≠x:=fun b u e z=>by rw [z,y.2.1] at e;cases e
  have n0:∀b u,X.s₀.heap.get? b=some u→b≠x:=fun b u e z=>by rw [z,y.1] at e;cases e
  refine ⟨I.ok,I.os,I.bare,⟨I.base.keep,I.base.slot,fun b u e n hx=>by rw [upd_ne (n0 b u e)];exact I.base.free b u e n hx,I.base.there,fun b xs e=>?_,fun b u xs e=>?_,fun b ps e=>?_⟩,I.loc,I.cell,?_,fun n c e=>?_,fun q hq=>?_,fun b u e=>?_,I.len⟩
  · have:=I.base.tups b xs e;rw [upd_ne (nH b _ this)];exact this
  · have:=I.base.frzs b u xs e;rw [upd_ne (nH b _ this)];exact this
  · obtain ⟨m,this⟩:=I.base.tbls b ps e;exact ⟨m,by rw [upd_ne (nH b _ this)];exact this⟩
  · obtain ⟨m,⟨ol,_,_,el,dl,_⟩,_⟩:=I.loc
    rw [upd_ne fun z=>by rw [z,eo] at el;cases el;rw [ed] at dl;cases dl];exact I.free
  · obtain ⟨v,oc,ec,dc⟩:=I.cell n c e
    rw [upd_ne fun z=>by rw [z,eo] at ec;cases ec;rw [ed] at dc;cases dc];exact I.freeC n c e
  · obtain ⟨q1,q2,q3⟩:=I.pin q hq
    have:q.1≠x:=(List.mem_append.mp hq).elim (y.2.2 q) (hp q)
    exact ⟨q1,by rw [upd_ne this];exact q2,q3⟩
  · by_cases hb:b=x
    · subst hb
      rw [upd_same] at e;cases e
      exact ⟨p,⟨o,eo⟩,st⟩
    · rw [upd_ne hb] at e
      exact (I.hok b u e).stay (fun _ _ _ q=>q) (fun c q=>by rw [upd_ne (nH c _ q)];exact q) fun c xs q=>by rw [upd_ne (nH c _ q)];exact q
end
section
variable {M:Model} {A:Around} {E:Value→Shared→Prop} {nm q nm' q':Str} {C N C' N':Addr} {bs bm bs' bm':List Value} {hd hd':Bool} {sn sn':List Str} {sub sub':List Value} {ab ab':Bool} {col col':Option Bool} {dd dd':Option Addr}
  {k0 k1 k2 k3 k5 l0 l1 l2 l3 l5:Option Value} {newId newId':String}
theorem matches_own {h:Heap} {g:Array GenState} {d:Drawn} {t:Nat} {os:OsState} {e:Addr} {oe:Obj} {Q:Bool→Shared→Prop} (hC:h.get? C=some (excClassObj nm q C N bs bm hd sn sub ab col dd k0 k1 k2 k3 k5 newId))
    (hF:h.get? C'=some (excClassObj nm' q' C' N' bs' bm' hd' sn' sub' ab' col' dd' l0 l1 l2 l3 l5 newId')) (he:h.get? e=some oe) (hcls:oe.cls=.ref C) (hb:bm'.contains (.type "BaseException")=true)
    (hs:(Value.ref C::bm).contains (.ref C')=true) (hq:Q true ⟨h,g,d,t,os⟩):wpAny M A (excMatches (.ref e) (.ref C')) Q E ⟨h,g,d,t,os⟩:=by
  have hB:(Value.ref C'::bm').contains (.type "BaseException")=true:=by rw [List.contains_cons,hb,Bool.or_true]
  have f:=tc_notTuple
  unfold excMatches
  repeat (first | (with_reducible refine wpAny_loadPart_at he ?_;rw [hcls]) | with_reducible refine wpAny_loadPart_at hF ?_ | (with_reducible refine wpAny_isSubtype_exc hF ?_;rw [hB]) | (with_reducible refine wpAny_isSubtype_exc hC ?_;rw [hs]) | wp_step)
  exact hq
end
section
variable {X:Cx}
theorem Inv.pn {pins:List (Addr×Obj)} {σ:St} {H:Hp} {s:Shared} (I:Inv X pins σ H s):Inv {X with pn:=X.pn++pins} [] σ H s :=
  ⟨⟨I.ok.mod,I.ok.kind,I.ok.glob,I.ok.blt,I.ok.above,I.ok.inj,I.ok.has,I.ok.cab,I.ok.hd,I.ok.frames,I.ok.stk,I.ok.exf,I.ok.bs,I.ok.bsz,I.ok.noex,I.ok.exfs,I.ok.funs,I.ok.frf⟩,I.os,I.bare,I.base,I.loc,I.cell,I.free,I.freeC,fun p hp=>I.pin p (by simpa using hp),I.hok,I.len⟩
theorem Inv.unpn {pins:List (Addr×Obj)} {σ:St} {H:Hp} {s:Shared} (I:Inv {X with pn:=X.pn++pins} [] σ H s):Inv X pins σ H s :=
  ⟨⟨I.ok.mod,I.ok.kind,I.ok.glob,I.ok.blt,I.ok.above,I.ok.inj,I.ok.has,I.ok.cab,I.ok.hd,I.ok.frames,I.ok.stk,I.ok.exf,I.ok.bs,I.ok.bsz,I.ok.noex,I.ok.exfs,I.ok.funs,I.ok.frf⟩,I.os,I.bare,I.base,I.loc,I.cell,I.free,I.freeC,fun p hp=>I.pin p (by simpa using hp),I.hok,I.len⟩
abbrev Cx.held (X:Cx) (x:Addr):Cx:={X with A:=X.A.mark (some (.ref x)),calm:=false}
theorem Inv.held {pins:List (Addr×Obj)} {σ:St} {H:Hp} {s:Shared} (I:Inv X pins σ H s) (x:Addr):Inv (X.held x) pins σ H s :=
  ⟨⟨I.ok.mod,I.ok.kind,I.ok.glob,I.ok.blt,I.ok.above,I.ok.inj,I.ok.has,I.ok.cab,fun z=>(Bool.false_ne_true z).elim,I.ok.frames,I.ok.stk,I.ok.exf,I.ok.bs,I.ok.bsz,I.ok.noex,I.ok.exfs,I.ok.funs,I.ok.frf⟩,I.os,I.bare,I.base,I.loc,I.cell,I.free,I.freeC,I.pin,I.hok,I.len⟩
theorem Inv.unheld {pins:List (Addr×Obj)} {σ:St} {H:Hp} {s:Shared} {x:Addr} (hd:X.calm=true→X.A.handled=none) (hf:X.A.frames=some X.stack) (I:Inv (X.held x) pins σ H s):Inv X pins σ H s :=
  ⟨⟨I.ok.mod,I.ok.kind,I.ok.glob,I.ok.blt,I.ok.above,I.ok.inj,I.ok.has,I.ok.cab,hd,hf,I.ok.stk,I.ok.exf,I.ok.bs,I.ok.bsz,I.ok.noex,I.ok.exfs,I.ok.funs,I.ok.frf⟩,I.os,I.bare,I.base,I.loc,I.cell,I.free,I.freeC,I.pin,I.hok,I.len⟩
theorem unbind_ok {M:Model} {A:Around} {E:Value→Shared→Prop} {pins:List (Addr×Obj)} {σ:St} {H:Hp} {s:Shared} {i:Nat} {n:Str} {pos:Pos} {Q:Unit→Shared→Prop} (I:Inv X pins σ H s) (hN:X.N.Nodup) (hi:X.N[i]?=some n) (hl:X.env.scope.names.lookup n=some .local)
    (k:∀s',Inv X pins (σ.set i none) H s'→Q () s'):wpAny M A (do bindName X.env n .none;unbindBehindTheSuite X.env n pos) Q E s:=by
  obtain ⟨m,hn,hlk⟩:=id I.loc
  have hcls:(X.env.scope.kind==.class||(X.env.scope.kind==.module&&X.env.locals != X.env.globals))=false:=by rw [I.ok.kind];rfl
  have hiσ:i<σ.length:=by rw [I.len];exact (List.getElem?_eq_some_iff.mp hi).1
  refine wpAny_nameGoes_keeps hl hn hcls fun h' v hn' sb=>k _ ?_
  have ne0:∀b o,X.s₀.heap.get? b=some o→b≠X.env.locals:=fun b o e=>Nat.ne_of_lt (Nat.lt_of_lt_of_le (Heap.lt_size e) I.ok.above)
  refine ⟨I.ok,I.os,I.bare,⟨fun b o e n hb hx=>?_,fun b o e n hb hx=>?_,I.base.free,fun b o e hx=>?_,I.base.tups,I.base.frzs,I.base.tbls⟩,⟨_,hn',fun j y v' e1 e2 e3=>?_⟩,fun y c e=>?_,I.free,I.freeC,fun p hp=>?_,fun b u e=>?_,by simpa using I.len⟩
  · exact (sb.2 b (ne0 b o e)).trans (I.base.keep b o e n hb hx)
  · obtain ⟨sl,e1⟩:=I.base.slot b o e n hb hx
    exact ⟨sl,(sb.2 b (ne0 b o e)).trans e1⟩
  · obtain ⟨o',e1⟩:=I.base.there b o e hx
    exact ⟨o',(sb.2 b (ne0 b o e)).trans e1⟩
  · by_cases hj:i=j
    · subst hj
      rw [List.getElem?_set_self hiσ] at e2
      cases e2
    · rw [List.getElem?_set_ne hj] at e2
      obtain ⟨u',r',q⟩:=hlk j y v' e1 e2 e3
      refine ⟨u',r',?_⟩
      have hne:y≠n:=fun e=>hj (nodup_ix hN hi (e▸e1))
      rcases q with ⟨k1,e⟩ | ⟨k1,c,e,z⟩
      · exact .inl ⟨k1,by simp [hne,e]⟩
      · exact .inr ⟨k1,c,e,z.sameBut sb (I.cne y c e)⟩
  · obtain ⟨w',z⟩:=I.cell y c e
    exact ⟨w',z.sameBut sb (I.cne y c e)⟩
  · obtain ⟨e,n',ne,nf,d⟩:=I.pin p hp
    exact ⟨(sb.2 p.1 ne).trans e,n',ne,nf,d⟩
  · refine (I.hok b u e).stay (fun c v' hc q=>(sb.2 c ?_).trans q) (fun _ q=>q) fun _ _ q=>q
    intro z
    have fr:=I.free
    rcases hc with hc | hc
    · rw [←z,hc,e] at fr;cases fr
    · rw [←z,hc] at fr;cases fr
end
end L2
namespace L2
open PySem PySem.Spec PyProof.Rows PySem.W Builtin Builtin.ObjectAttr Builtin.Getset_descriptor
structure ExcC (K:Frag) (A:Addr):Prop where
  ga:findIn K (.ref A) "__getattribute__"=some (some (.builtin "BaseException.__getattribute__"))
  gn:findIn K (.ref A) "__getattr__"=some none
  cl:findIn K (.ref A) "__class__"=some (some (.builtin "object.__class__"))
  cg:specialIn K (.builtin "object.__class__") "__get__"=some (some (.builtin "getset_descriptor.__get__"))
  ck:takesIn K (.builtin "object.__class__")=some true
  co:mroIn K A (.type "object")=some true
  cb:mroIn K A (.type "BaseException")=some true
  is:(clsIn K A).isSome=true
section
variable {prog:Program} {w:World} {B:Around} {E:Value→Shared→Prop} {K:Frag} {x A:Addr} {o:Obj}
theorem exc_ty {M:Model} {h:Heap} (hx:h.get? x=some o) (hc:o.cls=.ref A):Looks M h (typeOf (.ref x)) (.ref A):=by rw [←hc];exact (Looks.ld hx).andThen .now
theorem exc_isType {M:Model} {h:Heap} (X:K.In h) (q:(clsIn K A).isSome=true):Looks M h (isType (.ref A)) true:=by
  unfold clsIn at q
  split at q
  · next look =>
    intro A' Q' E' s' k z
    unfold isType loadHead
    exact wpAny_bind (wpAny_loadPart (k _ _ (X _ _ look)) (wpAny_pure z))
  · cases q
set_option maxHeartbeats 1000000 in
theorem exc_get {h:Heap} {g d t os} {R:Result→Shared→Prop} {tp:Value} (X:K.In h) (hx:h.get? x=some o) (hc:o.cls=.ref A) (hm:mroIn K A (.type "object")=some true) (z:R (.ok (.ret (.ref A))) ⟨h,g,d,t,os⟩) :
    codeAny (model prog w) B (.call (.builtin "getset_descriptor.__get__") ⟨[.builtin "object.__class__",.ref x,tp],[]⟩) R ⟨h,g,d,t,os⟩:=by
  have e0:=exc_ty (M:=model prog w) hx hc
  have e1:=looks_mroIn (M:=model prog w) X hm
  have a1:=dga_obj (.builtin "object.__class__") tp x
  have a2:=KF.owner_class
  refine codeAny_call_builtin KF.slot_gs.plain KF.entry_gs ?_
  refine KF.slot_gs.check _ _ _ _ _ _ _ _ KF.type_class (KF.args_gs _ _ _) ?_
  have nm:".".intercalate ("object.__class__".cutAt '.').dropLast="object":=congrArg Prod.fst a2
  wp_walk using e0.at
  rw [nm]
  wp_walk using e1.at
  constructor
  · exact Code.quiet_builtin _ (by decide +kernel)
  · apply codeAny_builtin KF.entry_class
    wp_walk using e0.at
    exact z
theorem exc_entry {h:Heap} {g d t os} {tk:Tok} {Q:Fin→Shared→Prop} (X:K.In h) (C:ExcC K A) (hx:h.get? x=some o) (hc:o.cls=.ref A) (z:Q (.done (.ret (.ref A))) ⟨h,g,d,t,os⟩) :
    wpAny (model prog w) B (Builtin.«object.__getattribute__» ⟨[.ref x,.str "__class__" tk],[]⟩) Q E ⟨h,g,d,t,os⟩:=by
  have e0:=exc_ty (M:=model prog w) hx hc
  have e1:=looks_findIn (M:=model prog w) X C.cl
  have e2:=looks_specialIn (M:=model prog w) X C.cg
  have e3:=looks_takesIn (M:=model prog w) X C.ck
  unfold Builtin.«object.__getattribute__»
  repeat lk
  refine wpAny_run (h:=none) (exc_get X hx hc C.co ?_)
  exact wpAny_pure (wpAny_pure z)
theorem exc_by {h:Heap} {g d t os} {tk:Tok} {Q:Value→Shared→Prop} (X:K.In h) (C:ExcC K A) (hx:h.get? x=some o) (hc:o.cls=.ref A) (z:Q (.ref A) ⟨h,g,d,t,os⟩) :
    wpAny (model prog w) B (getAttrBy (.ref x) (.str "__class__" tk) false false) Q E ⟨h,g,d,t,os⟩:=by
  have e0:=exc_ty (M:=model prog w) hx hc
  have e1:=looks_findIn (M:=model prog w) X C.ga
  have e2:=looks_findIn (M:=model prog w) X C.gn
  have e3:=looks_mroIn (M:=model prog w) X C.cb
  have f3:=PySem.F.excAttr_ValueError.ga.bind (.ref x)
  unfold getAttrBy
  refine wpAny_holding (wpAny_bind (e0.at (wpAny_bind (e1.at ?_))))
  show wpAny _ _ (getAttrByItsOwn _ _ _ _ _ _) _ _ _
  unfold getAttrByItsOwn hookBefore
  refine wpAny_bind ?_
  rw [if_pos (show onTheHeap (Value.ref A)=true from rfl)]
  refine e2.at (wpAny_bind (wpAny_attempt (wpAny_holding ?_)))
  unfold callGetattribute boundAndCalled
  rw [if_neg (by decide),f3]
  refine wpAny_bind (wpAny_pure (wpAny_call (codeAny_call_builtin PySem.F.excAttr_ValueError.ga.plain F.entry_bexc_ga ?_)))
  have kk:builtinKind "BaseException.__getattribute__"=some .slot∧splitId "BaseException.__getattribute__"=some ("BaseException","__getattribute__"):=⟨by decide +kernel,by decide +kernel⟩
  have e4:=PySem.F.args_bexc_ga (.ref x) (.str "__class__" tk)
  simp only [checkBuiltinCall,kk.1,kk.2];unfold isInstance
  refine wpAny_bind (wpAny_bind (e0.at (e3.at ?_)))
  rw [if_neg (by decide)]
  refine wpAny_of_eq (show _=pure () from e4) (exc_entry X C hx hc ?_)
  exact wpAny_pure z
theorem exc_class {s:Shared} {Q:Option Value→Shared→Prop} (X:K.In s.heap) (C:ExcC K A) (hx:s.heap.get? x=some o) (hc:o.cls=.ref A) (z:Q (some (.ref A)) {s with toks:=s.toks+1}):wpAny (model prog w) B (getAttr? (.ref x) "__class__") Q E s:=by
  obtain ⟨h,g,d,t,os⟩:=s
  unfold getAttr? getAttrBy?
  refine wpAny_bind (wpAny_mkText (wpAny_bind (wpAny_attempt (exc_by X C hx hc ?_))))
  exact wpAny_pure z
theorem kitx_exc (C:ExcC K A):KitX K (.ref x) (.ref A) (ExcO x (.ref A)) where
  ty:=fun M h _ ⟨o,vs,hx,hc,_⟩=>exc_ty hx hc
  it:=fun M h X _=>exc_isType X C.is
  ne:=fun h tp dd its n sl X htp=>by
    refine Bool.eq_false_iff.mpr fun q=>?_
    have e:A=tp:=Value.ref.inj (beq_iff_eq.mp q)
    subst e
    have q:=C.is
    unfold clsIn at q
    split at q
    · next look=>have z:=(X _ _ look).symm.trans htp;cases z
    · cases q
  ca:=fun X ⟨o,vs,hx,hc,_⟩ k=>exc_class X C hx hc k
end
section
variable {X:Cx}
end
end L2
namespace L2
open PySem PySem.Spec PyProof.Rows
section
variable {X:Cx}
theorem count_eqU {x:V}:∀{xs:List V} {us:List Value},Vals xs us→xs.all flatV=true→us.countP (eqU x)=xs.countP fun y=>eqV y x
  | _,_,.nil,_=>rfl
  | y::xs,u::us,.cons r t,h=>by
    rw [List.all_cons,Bool.and_eq_true] at h
    rw [List.countP_cons,List.countP_cons,count_eqU t h.2,eqU_of r h.1]
def rCount (K:PySem.W.Frag):V→List V→Hp→VK→Prop:=fun x vs H Q=>∃p xs y,x=.ref p∧vs=[y]∧SqL K H p xs∧flatV y=true∧xs.all flatV=true∧Q (.int (xs.countP fun z=>eqV z y:Nat)) H
theorem mt_count:MtM X "list.count" (rCount X.K):=by
  intro pins s σ H x vs v us Q I rx rv h
  obtain ⟨p,xs,y,rfl,rfl,hq,fy,fs,q⟩:=h
  cases rx
  obtain ⟨u,rfl,ry⟩:=rv.one
  obtain ⟨its,r,⟨ob,n,e,c,dn,d⟩,hz⟩:=I.list hq
  obtain ⟨oc,od,odt,osl⟩:=ob
  dsimp only at c dn d
  subst c dn d
  refine call_meets PySem.F.slot_list_count ⟨_,e,rfl⟩ PySem.F.entry_list_count (PySem.F.args_list_count_2 _ _) (SeqAt.list_countAt p its.toArray n _ _ u (eqU y)) ⟨e,fun w hw=>mem_eqAt ry fy r fs w (by simpa using hw),?_⟩
  exact ⟨.int _,H,I.tok _,⟨_,rfl⟩,by rw [show its.toArray.toList=its from rfl,count_eqU r fs];exact q⟩
theorem mCount {K:PySem.W.Frag} (h:X.K=K):MtM X "list.count" (rCount K):=by subst h;exact mt_count
end
def Big (m:Int) (es:List (Int×Int)):Prop:=m<1∨20<m∨40<(es.length:Int)
instance (m:Int) (es:List (Int×Int)):Decidable (Big m es):=by unfold Big;infer_instance
instance (es:List (Int×Int)) (m:Int):Decidable (EndsIn es m):=by unfold EndsIn;infer_instance
end L2
namespace L2
open PySem PySem.Spec PyProof.Rows
section
variable {K:PySem.W.Frag} {H:Hp}
theorem Pairs.get:∀{xs:List V} {es:List (Int×Int)} {i:Nat},Pairs K H xs es→i<es.length→∃r e,xs[i]?=some (.ref r)∧SqT K H r [.int e.1,.int e.2]∧es[i]?=some e∧e∈es
  | _,_,_,.nil,h=>absurd h (Nat.not_lt_zero _)
  | _,_,0,.cons ⟨r,e,q⟩ _,_=>⟨r,_,by rw [e];rfl,q,rfl,List.mem_cons_self⟩
  | _,_,i+1,.cons _ t,h=>by
    obtain ⟨r,e,h1,h2,h3,h4⟩:=Pairs.get (i:=i) t (by simpa using h)
    exact ⟨r,e,by simpa using h1,h2,by simpa using h3,List.mem_cons_of_mem _ h4⟩
theorem Pairs.append:∀{xs ys:List V} {es fs:List (Int×Int)},Pairs K H xs es→Pairs K H ys fs→Pairs K H (xs++ys) (es++fs)
  | _,_,_,_,.nil,s=>s
  | _,_,_,_,.cons r t,s=>.cons r (Pairs.append t s)
theorem Pairs.set {r:Addr} {e:Int×Int} (q:SqT K H r [.int e.1,.int e.2]):∀{xs:List V} {es:List (Int×Int)} (i:Nat),Pairs K H xs es→Pairs K H (xs.set i (.ref r)) (es.set i e)
  | _,_,_,.nil=>.nil
  | _,_,0,.cons _ t=>.cons ⟨r,rfl,q⟩ t
  | _,_,i+1,.cons p t=>.cons p (Pairs.set q i t)
theorem Pairs.rep {r:Addr} {e:Int×Int} (q:SqT K H r [.int e.1,.int e.2]):∀n:Nat,Pairs K H (List.replicate n [V.ref r]).flatten (List.replicate n e)
  | 0=>.nil
  | n+1=>by
    rw [List.replicate_succ,List.replicate_succ,List.flatten_cons]
    exact .cons ⟨r,rfl,q⟩ (Pairs.rep q n)
theorem ixN_nat {n:Nat} {i:Int} (h0:0≤i) (h:i<(n:Int)):ixN n i=some i.toNat:=by
  unfold ixN;rw [if_pos h0,if_pos h]
theorem atI_int {α:Type} {xs:List α} {i:Int} {v:α} (h0:0≤i) (h:xs[i.toNat]?=some v):atI xs i=some v:=by
  have:=atI_nat h
  rwa [Int.toNat_of_nonneg h0] at this
end
end L2
namespace L2
open PySem PySem.Spec PyProof.Rows
section
variable {prog:Program} {w:World} {A:Around} {E:Value→Shared→Prop} {s:Shared}
set_option maxHeartbeats 2000000 in
theorem stepT {it l:Addr} {i:Nat} {items:Array Value} {x:Value} {c d:Option Addr} {sl sl2:Array (Option Value)} {n:Nat} {P:Fin→Shared→Prop} (hit:s.heap.get? it=some {cls:=.type "tuple_iterator",dict:=c,data:=.fields #[.ref l,.int i 0],slots:=sl}) (hl:s.heap.get? l=some {cls:=.type "tuple",dict:=d,data:=.seq items n,slots:=sl2}) (hx:items[i]?=some x)
    (hP:∀h',h'.get? it=some {cls:=.type "tuple_iterator",dict:=c,data:=.fields #[.ref l,.int (i+1:Nat) 0],slots:=sl}→Heap.SameBut it s.heap h'→P (.done (.ret x)) {s with heap:=h'}) :
    wpAny (model prog w) A (Builtin.«tuple_iterator.__next__» ⟨[.ref it],[]⟩) P E s:=by
  obtain ⟨hp,g,dr,tk,os⟩:=s
  unfold Builtin.«tuple_iterator.__next__»
  wp_walk using AutoSeq1.wpAny_loadPart' hit,AutoSeq1.wpAny_loadPart' hl
  rw [Int.toNat_natCast,hx]
  wp_walk
  have up:=Heap.get?_update_self (Obj.mapFields fun v=>v.setIfInBounds 1 (rawInt ((i:Int)+1))) hit rfl
  exact hP _ up (Heap.SameBut.update ..)
set_option maxHeartbeats 2000000 in
theorem stopT {it l:Addr} {i:Nat} {items:Array Value} {c d:Option Addr} {sl sl2:Array (Option Value)} {n:Nat} {P:Fin→Shared→Prop} (hh:A.handled=none) (hit:s.heap.get? it=some {cls:=.type "tuple_iterator",dict:=c,data:=.fields #[.ref l,.int i 0],slots:=sl}) (hl:s.heap.get? l=some {cls:=.type "tuple",dict:=d,data:=.seq items n,slots:=sl2}) (hx:items[i]?=none)
    (hE:∀h' e,Heap.ExtBut it s.heap h'→(∃o,h'.get? e=some o∧o.cls=.type "StopIteration")→E (.ref e) {s with heap:=h'}) :
    wpAny (model prog w) A (Builtin.«tuple_iterator.__next__» ⟨[.ref it],[]⟩) P E s:=by
  obtain ⟨hp,g,dr,tk,os⟩:=s
  unfold Builtin.«tuple_iterator.__next__»
  wp_walk using AutoSeq1.wpAny_loadPart' hit,AutoSeq1.wpAny_loadPart' hl
  rw [Int.toNat_natCast,hx]
  wp_walk
  refine wpAny_raiseNew_none hh (hE _ _ ?_ ⟨_,Heap.get?_push_size _ rfl,rfl⟩)
  have one:=Heap.SameBut.update (h:=hp) (a:=it) (f:=Obj.mapFields fun v=>v.setIfInBounds 0 Value.none)
  exact (one.extBut.push _).push _
theorem nextT_item {it l:Addr} {i:Nat} {items:Array Value} {x:Value} {Q:Value→Shared→Prop} (hit:s.heap.IsTupleIter it l i) (hl:s.heap.IsTuple l items) (hx:items[i]?=some x) (hQ:∀h',h'.IsTupleIter it l (i+1)→Heap.SameBut it s.heap h'→Q x {s with heap:=h'}):wpAny (model prog w) A (Builtin.SmallTypes.nextOf (.ref it)) Q E s:=by
  have ty:=hit.typeIs
  obtain ⟨⟨_,c,_,sl⟩,ho,rfl,rfl⟩:=hit
  obtain ⟨⟨_,d,_,sl2⟩,hol,rfl,n,rfl⟩:=hl
  have walked:=wpAny_call_entry (prog:=prog) (w:=w) (A:=A) (E:=E) F.slot_tuple_iterator_next ty F.entry_tuple_iterator_next (stepT ho hol hx fun h' e sb=>⟨x,rfl,hQ h' ⟨_,e,rfl,rfl⟩ sb⟩) (F.args_tuple_iterator_next_1 _)
  unfold Builtin.SmallTypes.nextOf
  exact wpAny_bind (wpAny_callSpecial?_slot ty F.slot_tuple_iterator_next (wpAny_mono walked (fun v s' q=>wpAny_pure q) fun _ _ z=>z))
theorem nextT_end {it l:Addr} {i:Nat} {items:Array Value} {Q:Value→Shared→Prop} (hh:A.handled=none) (hit:s.heap.IsTupleIter it l i) (hl:s.heap.IsTuple l items) (hx:items[i]?=none) (hE:∀h' e,Heap.ExtBut it s.heap h'→(∃o,h'.get? e=some o∧o.cls=.type "StopIteration")→E (.ref e) {s with heap:=h'}):wpAny (model prog w) A (Builtin.SmallTypes.nextOf (.ref it)) Q E s:=by
  have ty:=hit.typeIs
  obtain ⟨⟨_,c,_,sl⟩,ho,rfl,rfl⟩:=hit
  obtain ⟨⟨_,d,_,sl2⟩,hol,rfl,n,rfl⟩:=hl
  have walked:=wpAny_call_entry (prog:=prog) (w:=w) (A:=A) (E:=E) (Q:=fun v s'=>Q v s') F.slot_tuple_iterator_next ty F.entry_tuple_iterator_next (stopT (show A.in1.handled=none from hh) ho hol hx hE) (F.args_tuple_iterator_next_1 _)
  unfold Builtin.SmallTypes.nextOf
  exact wpAny_bind (wpAny_callSpecial?_slot ty F.slot_tuple_iterator_next (wpAny_mono walked (fun v s' q=>wpAny_pure q) fun _ _ z=>z))
theorem tIter_at {h h':Heap} {it t:Addr} {i:Nat} (x:h.IsTupleIter it t i) (k:∀o,h.get? it=some o→h'.get? it=some o):h'.IsTupleIter it t i:=let ⟨o,ho,r⟩:=x;⟨o,k o ho,r⟩
end
def SIt (b:Bool) (h:Heap) (it l:Addr) (i:Nat):Prop:=match b with | false=>h.IsListIter it l i | true=>h.IsTupleIter it l i
def SSq (b:Bool) (h:Heap) (l:Addr) (xs:Array Value):Prop:=match b with | false=>h.IsList l xs | true=>h.IsTuple l xs
theorem SIt.keep {b:Bool} {h h':Heap} {it l:Addr} {i:Nat} (x:SIt b h it l i) (k:∀o,h.get? it=some o→h'.get? it=some o):SIt b h' it l i:=by
  cases b
  · exact Heap.IsListIter.at x k
  · exact tIter_at x k
theorem SSq.keep {b:Bool} {h h':Heap} {l:Addr} {xs:Array Value} (x:SSq b h l xs) (k:∀o,h.get? l=some o→h'.get? l=some o):SSq b h' l xs:=by
  cases b
  · exact Heap.IsList.at x k
  · exact Heap.IsTuple.at x k
theorem SIt.obj {b:Bool} {h:Heap} {it l:Addr} {i:Nat} (x:SIt b h it l i):∃o,h.get? it=some o∧∀v,o.data≠.cell v:=by
  cases b
  · obtain ⟨o,e,_,d⟩:=x;exact ⟨o,e,fun v z=>by rw [d] at z;cases z⟩
  · obtain ⟨o,e,_,d⟩:=x;exact ⟨o,e,fun v z=>by rw [d] at z;cases z⟩
theorem SSq.live {b:Bool} {h:Heap} {l:Addr} {xs:Array Value} (x:SSq b h l xs):∃o,h.get? l=some o:=by
  cases b
  · obtain ⟨o,e,_⟩:=x;exact ⟨o,e⟩
  · obtain ⟨o,e,_⟩:=x;exact ⟨o,e⟩
theorem draws_src {prog:Program} {w:World} {A:Around} (hh:A.handled=none) (b:Bool) (it l:Addr) (hne:l≠it) (items:Array Value):Draws prog w A it [it,l] items.size (fun i v=>items[i]?=some v) (fun i h=>SIt b h it l i∧SSq b h l items):=by
  cases b
  · exact Draws.list hh it l hne items
  · exact { live := fun _ _ st => let ⟨o, ho, _⟩ := st.1; ⟨o, ho⟩
            frame:=fun _ _ _ st hk=>⟨tIter_at st.1 fun o e=>hk it (by simp) o e,Heap.IsTuple.at st.2 fun o e=>hk l (by simp) o e⟩
            item:=fun i s Q E hi st hQ=>nextT_item st.1 st.2 (x:=items[i]) (by simp [hi]) fun h' hit' hs'=>hQ _ h' s.toks (by simp [hi]) ⟨hit',Heap.IsTuple.extBut st.2 hs'.extBut hne⟩ hs'
            done:=fun s Q E st hE=>nextT_end hh st.1 st.2 (by simp) hE}
structure ZA (z TO i1 i2:Addr) (f1 f2:List Addr):Prop where
  m1:i1∈f1
  m2:i2∈f2
  z1:z∉f1
  z2:z∉f2
  o1:TO∉f1
  o2:TO∉f2
  x1:i1∉f2
  x2:i2∉f1
  oz:TO≠z
theorem nin {a b:Addr} {l:List Addr} (h:a∉l) (hb:b∈l):b≠a:=fun e=>h (e▸hb)
section
variable {prog:Program} {w:World} {A:Around} {E:Value→Shared→Prop} {s:Shared} {z TI TO i1 i2:Addr} {f1 f2:List Addr} {n1 n2 i:Nat} {P1 P2:Nat→Value→Prop} {S1 S2:Nat→Heap→Prop} {a b:Value}
set_option maxHeartbeats 4000000 in
theorem zip_itemD {Q:Value→Shared→Prop} (D1:Draws prog w A i1 f1 n1 P1 S1) (D2:Draws prog w A i2 f2 n2 P2 S2) (Z:ZA z TO i1 i2 f1 f2) (hz:IsZip s.heap z TI TO .none) (hTI:IsPair s.heap TI (.ref i1) (.ref i2)) (hTO:IsPair s.heap TO a b) (h1:S1 i s.heap) (h2:S2 i s.heap) (l1:i<n1) (l2:i<n2)
    (hQ:∀x y h' tk,P1 i x→P2 i y→IsZip h' z TI TO (rawInt s.heap.objs.size)→IsPair h' TO x y→S1 (i+1) h'→S2 (i+1) h'→IsPair h' s.heap.objs.size x y→h'.objs.size=s.heap.objs.size+1 →
      (∀c o,c≠z→c≠TO→c≠i1→c≠i2→s.heap.get? c=some o→h'.get? c=some o)→Q (.ref s.heap.objs.size) {s with heap:=h',toks:=tk}) :
    wpAny (model prog w) A (Builtin.«zip.__next__» ⟨[.ref z],[]⟩) (fun fin s'=>∃v,fin=.done (.ret v)∧Q v s') E s:=by
  obtain ⟨hp,g,d,tk₀,os⟩:=s
  have Oz:=Z.oz
  have z1:=nin Z.z1 Z.m1
  have z2:=nin Z.z2 Z.m2
  have O1:=nin Z.o1 Z.m1
  have O2:=nin Z.o2 Z.m2
  have kz:=Heap.get?_update_self (Obj.mapFields fun v=>v.setIfInBounds 0 Value.ellipsis) hz rfl
  unfold Builtin.«zip.__next__»
  wp_walk using AutoSeq1.wpAny_loadPart' hz,AutoSeq1.wpAny_loadPart' hTI,wpAny_onRaise,D1.item i _ _ _ l1
  · exact D1.frame _ _ _ h1 fun c hc o e=>Heap.get?_update_of_ne _ (nin Z.z1 hc).symm e
  intro x h₂ t₂ px s₁ b₂
  have ez:=b₂.extBut _ _ z1.symm kz
  have TO2:IsPair h₂ TO a b:=b₂.extBut _ _ O1.symm (Heap.get?_update_of_ne _ Oz.symm hTO)
  have kO:=Heap.get?_update_self (Obj.mapSeq fun v=>v.setIfInBounds 0 x) TO2 rfl
  wp_walk using AutoSeq1.wpAny_loadPart' TO2,wpAny_onRaise,D2.item i _ _ _ l2
  · exact D2.frame _ _ _ h2 fun c hc o e=>Heap.get?_update_of_ne _ (nin Z.o2 hc).symm (b₂.extBut _ _ (nin Z.x1 hc) (Heap.get?_update_of_ne _ (nin Z.z2 hc).symm e))
  intro y h₄ t₄ py s₂ b₄
  have TO4:IsPair h₄ TO x b:=b₄.extBut _ _ O2.symm kO
  have ez4:IsZip h₄ z TI TO .ellipsis:=b₄.extBut _ _ z2.symm (Heap.get?_update_of_ne _ Oz ez)
  have n4:h₄.objs.size=hp.objs.size:=by rw [b₄.1,Heap.size_after_update,b₂.1,Heap.size_after_update]
  have kP:=Heap.get?_update_self (Obj.mapSeq fun v=>v.setIfInBounds 1 y) TO4 rfl
  wp_walk using AutoSeq1.wpAny_loadPart' TO4,AutoSeq1.wpAny_loadPart' kP
  have n5:(h₄.update TO (Obj.mapSeq fun v=>v.setIfInBounds 1 y)).objs.size=hp.objs.size:=Heap.size_after_update .. |>.trans n4
  have zl:z<hp.objs.size:=Heap.lt_size hz
  refine ⟨_,rfl,?_⟩
  rw [n5]
  have on:∀{c o} (f:Obj→Obj) (k:Obj→Obj),c≠z→((h₄.update TO (Obj.mapSeq fun v=>v.setIfInBounds 1 y)).push {cls:=.type "tuple",data:=.seq #[x,y]}).get? c=some o →
      ((((h₄.update TO (Obj.mapSeq fun v=>v.setIfInBounds 1 y)).push {cls:=.type "tuple",data:=.seq #[x,y]}).update z f).update z k).get? c=some o:=fun f k q e=>Heap.get?_update_of_ne _ q.symm (Heap.get?_update_of_ne _ q.symm e)
  refine hQ x y _ t₄ px py ?_ ?_ ?_ ?_ ?_ ?_ ?_
  · exact Heap.get?_update_self _ (Heap.get?_update_self _ (Heap.get?_push_of_some _ (Heap.get?_update_of_ne _ Oz ez4)) rfl) rfl
  · exact on _ _ Oz (Heap.get?_push_of_some _ kP)
  · exact D1.frame _ _ _ s₁ fun c hc o e=>on _ _ (nin Z.z1 hc) (Heap.get?_push_of_some _ (Heap.get?_update_of_ne _ (nin Z.o1 hc).symm (b₄.extBut _ _ (nin Z.x2 hc) (Heap.get?_update_of_ne _ (nin Z.o1 hc).symm e))))
  · exact D2.frame _ _ _ s₂ fun c hc o e=>on _ _ (nin Z.z2 hc) (Heap.get?_push_of_some _ (Heap.get?_update_of_ne _ (nin Z.o2 hc).symm e))
  · exact on _ _ (Nat.ne_of_gt zl) (Heap.get?_push_at n5.symm rfl)
  · rw [Heap.size_after_update,Heap.size_after_update,Heap.size_push,n5]
  · exact fun c o c1 c2 c3 c4 e=>on _ _ c1 (Heap.get?_push_of_some _ (Heap.get?_update_of_ne _ c2.symm (b₄.extBut _ _ c4 (Heap.get?_update_of_ne _ c2.symm (b₂.extBut _ _ c3 (Heap.get?_update_of_ne _ c1.symm e))))))
set_option maxHeartbeats 4000000 in
theorem zip_endD {Q:Fin→Shared→Prop} (D1:Draws prog w A i1 f1 n1 P1 S1) (D2:Draws prog w A i2 f2 n2 P2 S2) (Z:ZA z TO i1 i2 f1 f2) (hz:IsZip s.heap z TI TO .none) (hTI:IsPair s.heap TI (.ref i1) (.ref i2)) (hTO:IsPair s.heap TO a b) (h1:S1 i s.heap) (h2:S2 i s.heap) (hend:i=n1∨(i<n1∧i=n2))
    (hE:∀h' tk e,(∀c o,c≠z→c≠TO→c≠i1→c≠i2→s.heap.get? c=some o→h'.get? c=some o)→(∃o,h'.get? e=some o∧o.cls=.type "StopIteration")→E (.ref e) {s with heap:=h',toks:=tk}) :
    wpAny (model prog w) A (Builtin.«zip.__next__» ⟨[.ref z],[]⟩) Q E s:=by
  obtain ⟨hp,g,d,tk₀,os⟩:=s
  have Oz:=Z.oz
  have z1:=nin Z.z1 Z.m1
  have z2:=nin Z.z2 Z.m2
  have O1:=nin Z.o1 Z.m1
  have O2:=nin Z.o2 Z.m2
  have kz:=Heap.get?_update_self (Obj.mapFields fun v=>v.setIfInBounds 0 Value.ellipsis) hz rfl
  have first:S1 i (hp.update z (Obj.mapFields fun v=>v.setIfInBounds 0 Value.ellipsis)):=D1.frame _ _ _ h1 fun c hc o e=>Heap.get?_update_of_ne _ (nin Z.z1 hc).symm e
  unfold Builtin.«zip.__next__»
  rcases hend with rfl | ⟨l1,rfl⟩
  · wp_walk using AutoSeq1.wpAny_loadPart' hz,AutoSeq1.wpAny_loadPart' hTI,wpAny_onRaise,D1.done _ _ _ first
    rintro h₂ e b₂ ⟨o,ho,hc⟩
    have ez:h₂.get? z=_:=b₂ _ _ z1.symm kz
    have ne:e≠z:=fun q=>by rw [q,ez] at ho;cases ho;exact absurd (Value.type.inj hc) (by decide)
    wp_walk using wpAny_updatePart' ez
    exact hE _ _ _ (fun c o c1 c2 c3 c4 q=>Heap.get?_update_of_ne _ c1.symm (b₂ _ _ c3 (Heap.get?_update_of_ne _ c1.symm q))) ⟨o,Heap.get?_update_of_ne _ ne.symm ho,hc⟩
  · wp_walk using AutoSeq1.wpAny_loadPart' hz,AutoSeq1.wpAny_loadPart' hTI,wpAny_onRaise,D1.item i _ _ _ l1 first
    intro x h₂ t₂ px s₁ b₂
    have ez:h₂.get? z=_:=b₂.extBut _ _ z1.symm kz
    have TO2:IsPair h₂ TO a b:=b₂.extBut _ _ O1.symm (Heap.get?_update_of_ne _ Oz.symm hTO)
    have last:S2 i (h₂.update TO (Obj.mapSeq fun v=>v.setIfInBounds 0 x)):=D2.frame _ _ _ h2 fun c hc o e=>Heap.get?_update_of_ne _ (nin Z.o2 hc).symm (b₂.extBut _ _ (nin Z.x1 hc) (Heap.get?_update_of_ne _ (nin Z.z2 hc).symm e))
    wp_walk using AutoSeq1.wpAny_loadPart' TO2,wpAny_onRaise,D2.done _ _ _ last
    rintro h₄ e b₄ ⟨o,ho,hc⟩
    have ez4:h₄.get? z=_:=b₄ _ _ z2.symm (Heap.get?_update_of_ne _ Oz ez)
    have ne:e≠z:=fun q=>by rw [q,ez4] at ho;cases ho;exact absurd (Value.type.inj hc) (by decide)
    wp_walk using wpAny_updatePart' ez4
    exact hE _ _ _ (fun c o c1 c2 c3 c4 q=>Heap.get?_update_of_ne _ c1.symm (b₄ _ _ c4 (Heap.get?_update_of_ne _ c2.symm (b₂.extBut _ _ c3 (Heap.get?_update_of_ne _ c1.symm q))))) ⟨o,Heap.get?_update_of_ne _ ne.symm ho,hc⟩
end
end L2
namespace L2
open PySem PySem.Spec PyProof.Rows
def itC (b:Bool):String:=match b with | false=>"list_iterator" | true=>"tuple_iterator"
def SqB (b:Bool) (K:PySem.W.Frag) (H:Hp) (a:Addr) (xs:List V):Prop:=match b with | false=>SqL K H a xs | true=>SqT K H a xs
theorem SqB.of {K:PySem.W.Frag} {H:Hp} {a:Addr} {xs:List V} (h:SqL K H a xs∨SqT K H a xs):∃b,SqB b K H a xs:=by
  rcases h with h | h
  · exact ⟨false,h⟩
  · exact ⟨true,h⟩
theorem SqB.or {b:Bool} {K:PySem.W.Frag} {H:Hp} {a:Addr} {xs:List V} (h:SqB b K H a xs):SqL K H a xs∨SqT K H a xs:=by
  cases b
  · exact .inl h
  · exact .inr h
section
variable {X:Cx} {pins:List (Addr×Obj)} {σ:St} {H:Hp} {s:Shared} {b:Bool} {a c:Addr} {xs:List V}
theorem Inv.src (I:Inv X pins σ H s) (h:SqB b X.K H a xs):∃its:List Value,Vals xs its∧SSq b s.heap a its.toArray∧xs.length≤sizeLine:=by
  cases b
  · obtain ⟨its,r,p,z⟩:=I.list h;exact ⟨its,r,p.isList,z⟩
  · obtain ⟨its,r,p,z⟩:=I.tuple h;exact ⟨its,r,p,z⟩
theorem Inv.srcNe (I:Inv X pins σ H s) (h:SqB b X.K H a xs) (f:FpOk X pins H c):a≠c:=by
  have known:∀o,X.K.lookup a=some o→a≠c:=fun o hk e=>by
    have hb:=I.ok.mod.kin a o hk
    subst e
    rcases f.2.2.2.1 with z | z
    · exact I.ok.noex a o hb z
    · exact absurd (Nat.lt_of_lt_of_le (Heap.lt_size hb) (Nat.le_trans I.ok.bsz z)) (Nat.lt_irrefl _)
  have free:∀o,H a=some o→a≠c:=fun o e z=>by rw [z,f.1] at e;cases e
  cases b
  · rcases h with (h | ⟨o,h⟩) | ⟨o,_,_,hk,_⟩
    · exact free _ h
    · exact free _ h
    · exact known o hk
  · rcases h with (h | ⟨o,h⟩) | ⟨o,_,_,hk,_⟩
    · exact free _ h
    · exact free _ h
    · exact known o hk
theorem Inv.turnedLaid {h':Heap} {t':Nat} {fp:List Addr} {ys:List V} {us:List Value} (I:Inv X pins σ H s) (hf:∀b∈fp,FpOk X pins H b) (k:∀c o,c∉fp→s.heap.get? c=some o→h'.get? c=some o) (r:Vals ys us) (hz:ys.length≤sizeLine) (hT:IsTup h' s.heap.objs.size us.toArray) :
    Inv X pins σ (upd H s.heap.objs.size (.tup ys)) {s with heap:=h',toks:=t'}:=by
  have hn:H s.heap.objs.size=none:=I.hok.fresh (Nat.le_refl _)
  refine I.call' (ch:=fp) rfl ⟨fun b o e n hb hx=>k b o hx e,fun b o e n hb hx=>⟨o.slots,k b o hx e⟩,fun b o e n hx=>?_,fun b o e hx=>⟨o,k b o hx e⟩,fun b zs e=>?_,fun b o u e=>?_,fun b ps e=>⟨#[],?_⟩⟩ (fun b u e=>?_) I.bare fun b hb=>?_
  · rw [upd_ne (Nat.ne_of_lt (Heap.lt_size e))];exact n
  · rw [upd_ne (ne_of_none e hn)];exact e
  · rw [upd_ne (ne_of_none e hn)];exact e
  · rw [upd_ne (ne_of_none e hn),e];simp
  · by_cases hb:b=s.heap.objs.size
    · subst hb;rw [upd_same] at e;cases e
      exact ⟨hz,us,r,hT⟩
    · rw [upd_ne hb] at e
      refine (I.hok b u e).stay (fun c v hc q=>k c v (fun z=>?_) q) (fun c q=>by rw [upd_ne (ne_of_none q hn)];exact q) fun c zs q=>by rw [upd_ne (ne_of_none q hn)];exact q
      have z':=(hf c z).1
      rcases hc with hc | hc
      · rw [hc,e] at z';cases z'
      · rw [hc] at z';cases z'
  · obtain ⟨f0,f1,f2,f3,f4,f5⟩:=hf b hb
    exact ⟨f3,f1,f4,f5⟩
theorem Inv.turnedAll {h':Heap} {t':Nat} {fp:List Addr} (I:Inv X pins σ H s) (hf:∀b∈fp,FpOk X pins H b) (k:∀c o,c∉fp→s.heap.get? c=some o→h'.get? c=some o):Inv X pins σ H {s with heap:=h',toks:=t'}:=by
  refine I.call' (ch:=fp) rfl ⟨fun b o e n hb hx=>k b o hx e,fun b o e n hb hx=>⟨o.slots,k b o hx e⟩,fun b o e n hx=>n,fun b o e hx=>⟨o,k b o hx e⟩,fun b zs e=>e,fun b o u e=>e,fun b ps e=>⟨#[],by rw [e];simp⟩⟩ (fun b u e=>?_) I.bare fun b hb=>?_
  · refine (I.hok b u e).stay (fun c v hc q=>k c v (fun z=>?_) q) (fun c q=>q) fun c zs q=>q
    have z':=(hf c z).1
    rcases hc with hc | hc
    · rw [hc,e] at z';cases z'
    · rw [hc] at z';cases z'
  · obtain ⟨f0,f1,f2,f3,f4,f5⟩:=hf b hb
    exact ⟨f3,f1,f4,f5⟩
end
section
variable {prog:Program} {w:World} {A:Around} {E:Value→Shared→Prop} {s:Shared}
theorem iter_src {b:Bool} {l:Addr} {xs:Array Value} {Q:Value→Shared→Prop} (h:SSq b s.heap l xs) (q:Q (.ref s.heap.objs.size) {s with heap:=s.heap.push {cls:=.type (itC b),data:=.fields #[.ref l,.int 0 0]}}):wpAny (model prog w) A (pyIter (.ref l)) Q E s:=by
  cases b
  · exact wpAny_pyIter_list h q
  · exact wpAny_pyIter_tuple h q
theorem sit_new {b:Bool} {h h':Heap} {l a:Addr} (e:h'.get? a=some {cls:=.type (itC b),data:=.fields #[.ref l,.int 0 0]}):SIt b h' a l 0:=by
  cases b<;>exact ⟨_,e,rfl,rfl⟩
end
abbrev zA1 (b:Bool) (h:Heap) (l:Addr):Heap:=h.push {cls:=.type (itC b),data:=.fields #[.ref l,.int 0 0]}
abbrev zA3 (b1 b2:Bool) (h:Heap) (l1 l2:Addr):Heap:=(zA1 b2 (zA1 b1 h l1) l2).push {cls:=.type "tuple",data:=.seq #[.ref h.objs.size,.ref (zA1 b1 h l1).objs.size]}
abbrev zA4 (b1 b2:Bool) (h:Heap) (l1 l2:Addr):Heap:=(zA3 b1 b2 h l1 l2).push {cls:=.type "tuple",data:=.seq #[.none,.none]}
abbrev zA5 (b1 b2:Bool) (h:Heap) (l1 l2:Addr):Heap:=(zA4 b1 b2 h l1 l2).push {cls:=.type "zip",data:=.fields #[.none,.bool false,.bool false,.ref (zA1 b2 (zA1 b1 h l1) l2).objs.size,.ref (zA3 b1 b2 h l1 l2).objs.size]}
theorem meets_zipB (b1 b2:Bool) (l1 l2:Addr) (xs ys:Array Value):Meets (Builtin.«zip.__new__» ⟨[.type "zip",.ref l1,.ref l2],[]⟩) (fun _ R s=>SSq b1 s.heap l1 xs∧SSq b2 s.heap l2 ys∧R (.ok (.ret (.ref (zA4 b1 b2 s.heap l1 l2).objs.size))) {s with heap:=zA5 b1 b2 s.heap l1 l2}) :=
  .of_wp fun prog w A R s h=>by
    obtain ⟨hp,g,d,tk,os⟩:=s;obtain ⟨hl1,hl2,h⟩:=h;have hsub:=sub_zip
    have hL1:SSq b1 (Shared.heap ⟨hp,g,d,tk,os⟩) l1 xs:=hl1
    have hL2:SSq b2 (Shared.heap ⟨hp.push {cls:=.type (itC b1),data:=.fields #[.ref l1,.int 0 0]},g,d,tk,os⟩) l2 ys:=SSq.keep hl2 fun o e=>Heap.get?_push_of_some _ e
    wp_walk using iter_src hL1,iter_src hL2
    exact ⟨_,rfl,h⟩
section
variable {prog:Program} {w:World} {A:Around} {E:Value→Shared→Prop} {s:Shared}
theorem call_zipB {b1 b2:Bool} {l1 l2:Addr} {xs ys:Array Value} {Q:Value→Shared→Prop} (hl1:SSq b1 s.heap l1 xs) (hl2:SSq b2 s.heap l2 ys)
    (h:∀h',IsZip h' (s.heap.objs.size+4) (s.heap.objs.size+2) (s.heap.objs.size+3) .none→IsPair h' (s.heap.objs.size+2) (.ref s.heap.objs.size) (.ref (s.heap.objs.size+1)) →
      IsPair h' (s.heap.objs.size+3) .none .none→SIt b1 h' s.heap.objs.size l1 0→SIt b2 h' (s.heap.objs.size+1) l2 0→(∀c o,s.heap.get? c=some o→h'.get? c=some o)→Q (.ref (s.heap.objs.size+4)) {s with heap:=h'}) :
    wpAny (model prog w) A (call (.type "zip") [.ref l1,.ref l2]) Q E s:=by
  refine callType_new F.called_zip (by decide) (F.typeCall_zip_2 _ _) (F.newCall_zip_2 _ _) (fun obj=>F.args_object_init_3 obj _ _) F.entry_zip_new (meets_zipB b1 b2 l1 l2 xs ys) ⟨hl1,hl2,?_⟩
  have z1:(zA1 b1 s.heap l1).objs.size=s.heap.objs.size+1:=Heap.size_push ..
  have z2:(zA1 b2 (zA1 b1 s.heap l1) l2).objs.size=s.heap.objs.size+2:=by rw [Heap.size_push,z1]
  have z3:(zA3 b1 b2 s.heap l1 l2).objs.size=s.heap.objs.size+3:=by rw [Heap.size_push,z2]
  have z4:(zA4 b1 b2 s.heap l1 l2).objs.size=s.heap.objs.size+4:=by rw [Heap.size_push,z3]
  have g5:(zA5 b1 b2 s.heap l1 l2).get? (zA4 b1 b2 s.heap l1 l2).objs.size=some _:=Heap.get?_push_size _ rfl
  have g4:(zA5 b1 b2 s.heap l1 l2).get? (zA3 b1 b2 s.heap l1 l2).objs.size=some _:=Heap.get?_push_of_some _ (Heap.get?_push_size _ rfl)
  have g3:(zA5 b1 b2 s.heap l1 l2).get? (zA1 b2 (zA1 b1 s.heap l1) l2).objs.size=some _:=Heap.get?_push_of_some _ (Heap.get?_push_of_some _ (Heap.get?_push_size _ rfl))
  have g2:(zA5 b1 b2 s.heap l1 l2).get? (zA1 b1 s.heap l1).objs.size=some _:=Heap.get?_push_of_some _ (Heap.get?_push_of_some _ (Heap.get?_push_of_some _ (Heap.get?_push_size _ rfl)))
  have g1:(zA5 b1 b2 s.heap l1 l2).get? s.heap.objs.size=some _:=Heap.get?_push_of_some _ (Heap.get?_push_of_some _ (Heap.get?_push_of_some _ (Heap.get?_push_of_some _ (Heap.get?_push_size _ rfl))))
  show _∧_
  rw [z2,z3,z4] at g5;rw [z1,z2] at g3;rw [z3] at g4;rw [z1] at g2;rw [z4]
  exact ⟨⟨_,g5,rfl⟩,h _ g5 g3 g4 (sit_new (h:=s.heap) g1) (sit_new (h:=s.heap) g2) fun c o x=>Heap.get?_push_of_some _ (Heap.get?_push_of_some _ (Heap.get?_push_of_some _ (Heap.get?_push_of_some _ (Heap.get?_push_of_some _ x))))⟩
end
def Itz (K:PySem.W.Frag) (b1 b2:Bool) (a1 a2:Addr) (xs ys:List V):It :=
  ⟨fun i H=>SqB b1 K H a1 xs∧SqB b2 K H a2 ys∧i<xs.length∧i<ys.length,fun i H x H'=>∃p,x=.ref p∧H p=none∧H'=upd H p (.tup [xs.getD i .non,ys.getD i .non]),
   fun i H=>SqB b1 K H a1 xs∧SqB b2 K H a2 ys∧i=min xs.length ys.length⟩
theorem getD_val {xs:List V} {its:List Value} {i:Nat} {u:Value} (r:Vals xs its) (e:its.toArray[i]?=some u):RelV (xs.getD i .non) u:=by
  obtain ⟨x,h1,h2⟩:=r.tog (i:=i) (u:=u) (by simpa using e)
  rw [List.getD_eq_getElem?_getD,h1];exact h2
theorem zip_ne (n:Nat):n+3≠n+4∧n≠n+4∧n+1≠n+4∧n+2≠n+4∧n+2≠n+3∧n+2≠n∧n+2≠n+1∧n+3≠n∧n+3≠n+1∧n≠n+1:=by refine ⟨?_,?_,?_,?_,?_,?_,?_,?_,?_,?_⟩<;>omega
theorem turn_zip {P:Program} {w:World} {K:PySem.W.Frag} {elts:List Expr} {kx} {pos:Pos} (b1 b2:Bool) (a1 a2 z TI TO i1 i2:Addr) (xs ys:List V) (ne:TO≠z∧i1≠z∧i2≠z∧TI≠z∧TI≠TO∧TI≠i1∧TI≠i2∧TO≠i1∧TO≠i2∧i1≠i2) :
    Turn P w K (.Tuple elts kx pos) (Itz K b1 b2 a1 a2 xs ys) [z,TI,TO,i1,i2] z (fun i h=>IsZip h z TI TO .none∧IsPair h TI (.ref i1) (.ref i2)∧(∃a b,IsPair h TO a b)∧SIt b1 h i1 a1 i∧SIt b2 h i2 a2 i) where
  mem:=by simp
  obj:=fun i h st b hb=>by
    obtain ⟨hz,hTI,⟨a,b',hTO⟩,h1,h2⟩:=st
    simp only [List.mem_cons,List.not_mem_nil,or_false] at hb
    rcases hb with rfl | rfl | rfl | rfl | rfl
    · exact ⟨_,hz,fun v z=>by cases z⟩
    · exact ⟨_,hTI,fun v z=>by cases z⟩
    · exact ⟨_,hTO,fun v z=>by cases z⟩
    · exact h1.obj
    · exact h2.obj
  keep:=fun i h h' st k=>by
    obtain ⟨hz,hTI,⟨a,b',hTO⟩,h1,h2⟩:=st
    exact ⟨k z (by simp) _ hz,k TI (by simp) _ hTI,⟨a,b',k TO (by simp) _ hTO⟩,h1.keep fun o e=>k i1 (by simp) o e,h2.keep fun o e=>k i2 (by simp) o e⟩
  item:=by
    intro X hP hw hK hc i pins s σ H E I hf st hg
    subst hP hw hK
    obtain ⟨hz,hTI,⟨a,b',hTO⟩,h1,h2⟩:=st
    obtain ⟨q1,q2,hx,hy⟩:=hg
    obtain ⟨its1,r1,p1,z1⟩:=I.src q1
    obtain ⟨its2,r2,p2,z2⟩:=I.src q2
    have nz1:=I.srcNe q1 (hf z (by simp));have nz2:=I.srcNe q2 (hf z (by simp));have no1:=I.srcNe q1 (hf TO (by simp));have no2:=I.srcNe q2 (hf TO (by simp));have n11:=I.srcNe q1 (hf i1 (by simp));have n12:=I.srcNe q1 (hf i2 (by simp));have n21:=I.srcNe q2 (hf i1 (by simp));have n22:=I.srcNe q2 (hf i2 (by simp))
    obtain ⟨e1,e2,e3,e4,e5,e6,e7,e8,e9,e10⟩:=ne
    have hT:s.TypeIs (.ref z) "zip":=⟨_,hz,rfl⟩
    have D1:=draws_src (prog:=X.prog) (w:=X.w) (A:=X.A.in1) (I.ok.hd hc) b1 i1 a1 n11 its1.toArray
    have D2:=draws_src (prog:=X.prog) (w:=X.w) (A:=X.A.in1) (I.ok.hd hc) b2 i2 a2 n22 its2.toArray
    have Z:ZA z TO i1 i2 [i1,a1] [i2,a2]:=⟨by simp,by simp,by simp [e2.symm,nz1.symm],by simp [e3.symm,nz2.symm],by simp [e8,no1.symm],by simp [e9,no2.symm],by simp [e10,n21.symm],by simp [e10.symm,n12.symm],e1⟩
    have len1:=r1.length;have len2:=r2.length
    unfold pyNext
    refine wpAny_bind (wpAny_attempt (wpAny_callSpecial?_slot (name:=Str.ofString "__next__") hT F.slot_zip_next (wpAny_call_entry F.slot_zip_next hT F.entry_zip_next
      (zip_itemD D1 D2 Z hz hTI hTO ⟨h1,p1⟩ ⟨h2,p2⟩ (by simp;omega) (by simp;omega) fun x y h' tk px py hz' hTO' s1 s2 hT' hsz hk=>wpAny_pure ?_) (F.args_zip_next_1 _))))
    have r:Vals [xs.getD i .non,ys.getD i .non] [x,y]:=.cons (getD_val r1 px) (.cons (getD_val r2 py) .nil)
    have I1:Inv X pins σ (upd H s.heap.objs.size (.tup [xs.getD i .non,ys.getD i .non])) {s with heap:=h',toks:=tk} :=
      I.turnedLaid (t':=tk) hf (fun c o hc e=>hk c o (fun q=>hc (by simp [q])) (fun q=>hc (by simp [q])) (fun q=>hc (by simp [q])) (fun q=>hc (by simp [q])) e) r (by show 2≤sizeLine;decide) ⟨_,hT',rfl,_,rfl⟩
    have nH:H s.heap.objs.size=none:=I.hok.fresh (Nat.le_refl _)
    have fresh:∀b∈[z,TI,TO,i1,i2],(upd H s.heap.objs.size (.tup [xs.getD i .non,ys.getD i .non])) b=none:=fun b hb=>by
      rw [upd_ne ?_]
      · exact (hf b hb).1
      · simp only [List.mem_cons,List.not_mem_nil,or_false] at hb
        rcases hb with rfl | rfl | rfl | rfl | rfl
        · exact Nat.ne_of_lt (Heap.lt_size hz)
        · exact Nat.ne_of_lt (Heap.lt_size hTI)
        · exact Nat.ne_of_lt (Heap.lt_size hTO)
        · obtain ⟨o,e,_⟩:=h1.obj;exact Nat.ne_of_lt (Heap.lt_size e)
        · obtain ⟨o,e,_⟩:=h2.obj;exact Nat.ne_of_lt (Heap.lt_size e)
    obtain ⟨f0,f1,f2,f3,f4,f5⟩:=hf z (by simp)
    refine ⟨_,rfl,wpAny_letOwnedTupleGo_zip hz' fun h2' hz2 sb=>⟨.ref s.heap.objs.size,_,I1.turned (t':=tk) (fun b o hb e=>(sb.2 b hb).trans e) (fresh z (by simp)) f1 f3 f4 f5,rfl,⟨_,rfl,nH,rfl⟩,⟨hz2,?_,⟨x,y,?_⟩,?_,?_⟩,fresh⟩⟩
    · exact (sb.2 TI e4).trans (hk _ _ e4 e5 e6 e7 hTI)
    · exact (sb.2 TO e1).trans hTO'
    · exact s1.1.keep fun o e=>(sb.2 i1 e2).trans e
    · exact s2.1.keep fun o e=>(sb.2 i2 e3).trans e
  done:=by
    intro X hP hw hK hc i pins s σ H E I hf st hg
    subst hP hw hK
    obtain ⟨hz,hTI,⟨a,b',hTO⟩,h1,h2⟩:=st
    obtain ⟨q1,q2,hx⟩:=hg
    obtain ⟨its1,r1,p1,z1⟩:=I.src q1
    obtain ⟨its2,r2,p2,z2⟩:=I.src q2
    have nz1:=I.srcNe q1 (hf z (by simp));have nz2:=I.srcNe q2 (hf z (by simp));have no1:=I.srcNe q1 (hf TO (by simp));have no2:=I.srcNe q2 (hf TO (by simp));have n11:=I.srcNe q1 (hf i1 (by simp));have n12:=I.srcNe q1 (hf i2 (by simp));have n21:=I.srcNe q2 (hf i1 (by simp));have n22:=I.srcNe q2 (hf i2 (by simp))
    obtain ⟨e1,e2,e3,e4,e5,e6,e7,e8,e9,e10⟩:=ne
    have hT:s.TypeIs (.ref z) "zip":=⟨_,hz,rfl⟩
    have D1:=draws_src (prog:=X.prog) (w:=X.w) (A:=X.A.in1) (I.ok.hd hc) b1 i1 a1 n11 its1.toArray
    have D2:=draws_src (prog:=X.prog) (w:=X.w) (A:=X.A.in1) (I.ok.hd hc) b2 i2 a2 n22 its2.toArray
    have Z:ZA z TO i1 i2 [i1,a1] [i2,a2]:=⟨by simp,by simp,by simp [e2.symm,nz1.symm],by simp [e3.symm,nz2.symm],by simp [e8,no1.symm],by simp [e9,no2.symm],by simp [e10,n21.symm],by simp [e10.symm,n12.symm],e1⟩
    have len1:=r1.length;have len2:=r2.length
    unfold pyNext
    refine wpAny_bind (wpAny_attempt (wpAny_callSpecial?_slot (name:=Str.ofString "__next__") hT F.slot_zip_next (wpAny_call_entry F.slot_zip_next hT F.entry_zip_next
      (zip_endD D1 D2 Z hz hTI hTO ⟨h1,p1⟩ ⟨h2,p2⟩ (by simp;omega) fun h' tk e hk he=>?_) (F.args_zip_next_1 _))))
    obtain ⟨o,ho,hcl⟩:=he
    refine wpAny_bind (wpAny_isInstance (T:="StopIteration") (b:=true) ⟨o,ho,hcl⟩ isSubtype_stop ?_)
    exact wpAny_pure ⟨rfl,I.turnedAll (t':=tk) hf fun c o hc e=>hk c o (fun q=>hc (by simp [q])) (fun q=>hc (by simp [q])) (fun q=>hc (by simp [q])) (fun q=>hc (by simp [q])) e⟩
  self:=fun A i s Q E st h=>wpAny_pyIter_zip st.1 h
structure ItP (J:It) (n:Nat) (val:Nat→List V) (C:Hp→Prop):Prop where
  go:∀i H,C H→i<n→J.go i H
  yld:∀i H x H',C H→i<n→J.yld i H x H'→∃p,x=.ref p∧H p=none∧H'=upd H p (.tup (val i))
  stop:∀H,C H→J.stop n H
theorem itp_zip {K:PySem.W.Frag} {b1 b2:Bool} {a1 a2:Addr} {xs ys:List V}:ItP (Itz K b1 b2 a1 a2 xs ys) (min xs.length ys.length) (fun i=>[xs.getD i .non,ys.getD i .non]) (fun H=>SqB b1 K H a1 xs∧SqB b2 K H a2 ys) where
  go:=fun i H c hi=>⟨c.1,c.2,by omega,by omega⟩
  yld:=fun i H x H' c hi y=>y
  stop:=fun H c=>⟨c.1,c.2,rfl⟩
theorem SqB.same {b:Bool} {K:PySem.W.Frag} {H H':Hp} {a:Addr} {xs:List V} (h:SqB b K H a xs) (S:Same H H'):SqB b K H' a xs:=by
  cases b
  · exact S.seq h
  · exact S.tup h
def iZip (K:PySem.W.Frag) (ta:TA):TI:=fun σ H R=>ta σ H fun vs H1=>∃(b1 b2:Bool) (a1 a2:Addr) (xs ys:List V),vs=[.ref a1,.ref a2]∧SqB b1 K H1 a1 xs∧SqB b2 K H1 a2 ys ∧
  ∀J C,ItP J (min xs.length ys.length) (fun i=>[xs.getD i .non,ys.getD i .non]) C→(∀H2,SqB b1 K H2 a1 xs→SqB b2 K H2 a2 ys→C H2)→R J H1
section
variable {X:Cx} {K:PySem.W.Frag} {elts:List Expr} {kx:Nat} {tpos:Pos}
theorem pi_zip {a b:Expr} {ta:TA} {p pos:Pos} (hK:X.K=K) (hg:Gl X "zip") (hm:X.mg "zip"=none) (ha:PA X [a,b] ta) (hs:starEach [a,b] X.env=[(false,eval a X.env),(false,eval b X.env)]:=by rfl) (hs2:starEach [b] X.env=[(false,eval b X.env)]:=by rfl) :
    PI X (.Tuple elts kx tpos) (.Call (.Name "zip" p) [a,b] [] pos) (iZip K ta):=by
  subst hK
  intro pins s σ H R I h
  refine Call_ (ld_blt I hg hm boot_zip (PyProof.Rows.callWith_type1 (thn (ha pos pins s σ H _ I h) fun us s1 ⟨vs,H1,I1,r1,q1⟩=>?_) (by rw [hs,hs2]) (by rw [hs2];rfl)))
  obtain ⟨b1,b2,a1,a2,xs,ys,e,q1,q2,q⟩:=q1
  subst e
  obtain ⟨u,u',rfl,rx,ry⟩:=vals2 r1
  cases rx;cases ry
  obtain ⟨its1,rv1,p1,z1⟩:=I1.src q1
  obtain ⟨its2,rv2,p2,z2⟩:=I1.src q2
  refine call_zipB p1 p2 fun h' hz hTI hTO h1 h2 hk=>wpAny_pyIter_zip hz ?_
  have I2:Inv X pins σ H1 {s1 with heap:=h'}:=I1.kept (t':=s1.toks) hk
  refine ⟨_,[s1.heap.objs.size+4,s1.heap.objs.size+2,s1.heap.objs.size+3,s1.heap.objs.size,s1.heap.objs.size+1],_,_,H1,rfl,I2,turn_zip b1 b2 a1 a2 _ _ _ _ _ xs ys (zip_ne s1.heap.objs.size),⟨hz,hTI,⟨_,_,hTO⟩,h1,h2⟩,fun b hb=>?_,q _ _ itp_zip fun H2 k1 k2=>⟨k1,k2⟩⟩
  have:s1.heap.objs.size≤b:=by
    simp only [List.mem_cons,List.not_mem_nil,or_false] at hb
    rcases hb with rfl | rfl | rfl | rfl | rfl<;>first | exact Nat.le_add_right _ _ | exact Nat.le_refl _
  exact I1.fpOk this (I1.hok.fresh this)
end
theorem lc_byP {J:It} {n:Nat} {val:Nat→List V} {C:Hp→Prop} {g:TG} {tt:TT} {te:TE} {σ0:St} {Q:VK} {H:Hp} (O:ItP J n val C) (Pv:Nat→List V→Hp→Prop) (hn:n≤sizeLine) (h0:Pv 0 [] H) (hl:∀i ys H,i≤n→Pv i ys H→C H∧ys.length≤i)
    (hs:∀i ys H p,i<n→Pv i ys H→H p=none→g (.ref p) σ0 (upd H p (.tup (val i))) fun σ2 H2=>Wk σ0 σ2∧tt σ2 H2 fun k H3=>if k=true then te σ2 H3 fun v H4=>ys.length<sizeLine∧∃m',m'<n-i∧(m'=n-(i+1)∧i+1≤n∧Pv (i+1) (ys++[v]) H4) else ∃m',m'<n-i∧(m'=n-(i+1)∧i+1≤n∧Pv (i+1) ys H3))
    (hd:∀ys H,Pv n ys H→∀p,H p=none→Q (.ref p) (upd H p (.lst ys))):LcW J g tt te σ0 Q H:=by
  refine ⟨fun i m ys H=>m=n-i∧i≤n∧Pv i ys H,⟨n,by simp,Nat.zero_le _,h0⟩,?_⟩
  rintro i m ys H ⟨rfl,hi,p⟩
  obtain ⟨c,hy⟩:=hl i ys H hi p
  refine ⟨by omega,?_⟩
  by_cases hlt:i<n
  · refine .inr ⟨O.go i H c hlt,fun x H' y=>?_⟩
    obtain ⟨q,rfl,hq,rfl⟩:=O.yld i H x H' c hlt y
    exact hs i ys _ q hlt p hq
  · obtain rfl:i=n:=by omega
    exact .inl ⟨O.stop H c,hd ys H p⟩
theorem for_byP {J:It} {n:Nat} {val:Nat→List V} {C:Hp→Prop} {g:TG} {tb:TS} {D:Ends} {σ:St} {H:Hp} (O:ItP J n val C) (Pv:Nat→St→Hp→Prop) (h0:Pv 0 σ H) (hl:∀i σ H,i≤n→Pv i σ H→C H)
    (hs:∀i σ H p,i<n→Pv i σ H→H p=none→g (.ref p) σ (upd H p (.tup (val i))) fun σ2 H2=>tb {D with nx:=Pv (i+1),ct:=Pv (i+1),bk:=D.nx} σ2 H2) (hd:∀σ H,Pv n σ H→D.nx σ H) :
    ∃W:Nat→Nat→St→Hp→Prop,(∃m,W 0 m σ H)∧∀i m σ H,W i m σ H→(J.stop i H∧D.nx σ H)∨(J.go i H∧∃N:St→Hp→Prop,(∀σ' H',N σ' H'→∃m',m'<m∧W (i+1) m' σ' H')∧∀x H',J.yld i H x H'→g x σ H' fun σ2 H2=>tb {D with nx:=N,ct:=N,bk:=D.nx} σ2 H2):=by
  refine ⟨fun i m σ H=>m=n-i∧i≤n∧Pv i σ H,⟨n,by simp,Nat.zero_le _,h0⟩,?_⟩
  rintro i m σ H ⟨rfl,hi,p⟩
  have c:=hl i σ H hi p
  by_cases hlt:i<n
  · refine .inr ⟨O.go i H c hlt,Pv (i+1),fun σ' H' p'=>⟨n-(i+1),by omega,rfl,hlt,p'⟩,fun x H' y=>?_⟩
    obtain ⟨q,rfl,hq,rfl⟩:=O.yld i H x H' c hlt y
    exact hs i σ _ q hlt p hq
  · obtain rfl:i=n:=by omega
    exact .inl ⟨O.stop H c,hd σ H p⟩
end L2
namespace L2
open PySem PySem.Spec PyProof.Rows
section
variable {X:Cx} {K:PySem.W.Frag}
theorem get_list (hK:X.K=K):PGet X (fun o i H Q=>∃p xs k v,o=.ref p∧i=.int k∧0≤k∧SqL K H p xs∧xs[k.toNat]?=some v∧Q v H):=by
  subst hK
  intro pins s σ H o i ov iv Q I ro ri h
  obtain ⟨p,xs,k,v,rfl,rfl,h0,hq,hx,q⟩:=h
  cases ro
  obtain ⟨t,rfl⟩:=ri
  obtain ⟨its,r,pl,hz⟩:=I.list hq
  obtain ⟨u,hu,ru⟩:=r.get hx
  have hl:k.toNat<xs.length:=(List.getElem?_eq_some_iff.mp hx).1
  have hn:=line63
  exact wpAny_getItem_list pl.isList h0 (by omega) (by simpa using hu) ⟨v,H,I,ru,q⟩
end
theorem DefE.calm {P:Program} {w:World} {K:PySem.W.Frag} {mg:Str→Option Value} {base:Heap} {k:Nat} {x:Str} {ps:List Str} {sp:Sp} (D:DefE P w K mg base k x ps sp):Def P w K mg base k x ps (fun vs H Q _=>sp vs H Q fun _ _ _=>False):=by
  obtain ⟨f,fd,F,m,kp,b⟩:=D
  refine ⟨f,fd,⟨fun vs H Q E h=>F.len _ _ _ _ h,fun A outer s H args us vs Q E hr he hb hv hs=>codeAny_mono (F.run A outer s H args us vs Q _ hr he hb hv hs) fun r s' hq=>?_⟩,m,kp,b⟩
  cases r with
  | error e=>obtain ⟨_,_,_,_,_,_,_,_,_,_,_,z⟩:=hq;exact z.elim
  | ok fl=>cases fl<;>exact hq
theorem SqB.len {b:Bool} {K:PySem.W.Frag} {H:Hp} {a:Addr} {xs:List V} (h:SqB b K H a xs):SqL K H a xs∨SqT K H a xs:=h.or
theorem getD_ints {ns:List Int} {i:Nat} (h:i<ns.length):(ns.map V.int).getD i .non=.int (ns.getD i 0):=by
  rw [List.getD_eq_getElem?_getD,List.getElem?_map,List.getD_eq_getElem?_getD,List.getElem?_eq_getElem h];rfl
theorem get_ints {ns:List Int} {i:Nat} (h:i<ns.length):(ns.map V.int)[i]?=some (.int (ns.getD i 0)):=by
  rw [List.getElem?_map,List.getD_eq_getElem?_getD,List.getElem?_eq_getElem h];rfl
theorem set_ints {ns:List Int} {i:Nat} {v:Int}:(ns.map V.int).set i (.int v)=(ns.set i v).map V.int:=by rw [List.map_set]
theorem getD_set {ns:List Int} {i p:Nat} {v:Int} (h:p<ns.length):(ns.set i v).getD p 0=if i=p then v else ns.getD p 0:=by
  by_cases e:i=p
  · subst e;rw [if_pos rfl,List.getD_eq_getElem?_getD,List.getElem?_set_self h];rfl
  · rw [if_neg e,List.getD_eq_getElem?_getD,List.getElem?_set_ne e,List.getD_eq_getElem?_getD]
theorem rep_ints (n:Nat) (v:Int):(List.replicate n [V.int v]).flatten=(List.replicate n v).map V.int:=by
  induction n with
  | zero=>rfl
  | succ n ih=>rw [List.replicate_succ,List.flatten_cons,ih,List.replicate_succ];rfl
end L2
namespace L2
open PySem PySem.Spec PyProof.Rows
structure RoomC (k:Nat) (A:Around):Prop where
  dp:A.depth+3*k+5<recursionLimit
  un:A.units+16*k+200<cLine
theorem Room.c {k:Nat} {A:Around} (r:Room k A):RoomC k A:=⟨r.dp,r.un⟩
theorem Room.held {k:Nat} {A:Around} {v:Option Value} (r:Room k A):RoomC k (A.mark v):=⟨r.dp,r.un⟩
theorem RoomC.mono {j k:Nat} {A:Around} (r:RoomC k A) (h:j≤k):RoomC j A:=⟨by have:=r.dp;omega,by have:=r.un;omega⟩
structure FnOkC (P:Program) (w:World) (K:PySem.W.Frag) (mg:Str→Option Value) (base:Heap) (k:Nat) (f:Addr) (fd:FuncData) (ps:List Str) (sp:Sp):Prop where
  len:∀vs H Q E,sp vs H Q E→vs.length=ps.length
  run:∀(A:Around) (outer:List Env) (s:Shared) (H:Hp) (args:Args) (us:List Value) (vs:List V) (Q:VK) (E:XK),RoomC k A→Env0 P w K mg base A outer s H→BindsTo s fd args (ps.zip us)→Vals vs us→sp vs H Q E→codeAny (model P w) A (.call (.ref f) args) (CR CX0 outer P w H s Q E) s
def DefC (P:Program) (w:World) (K:PySem.W.Frag) (mg:Str→Option Value) (base:Heap) (k:Nat) (x:Str) (ps:List Str) (sp:Sp):Prop :=
  ∃f fd,FnOkC P w K mg base k f fd ps sp∧mg x=some (.ref f)∧PySem.W.keepIn K (.ref f)=true∧Binds K fd ps []
theorem DefC.of {P:Program} {w:World} {K:PySem.W.Frag} {mg:Str→Option Value} {base:Heap} {k:Nat} {x qual:Str} {ps:List Str} {sp:Sp} {st:Stmt} {f:Addr} {fd:FuncData}
    (F:Fun K x qual st f fd) (m:mg x=some (.ref f)) (b:Binds K fd ps []) (ok:FnOkC P w K mg base k f fd ps sp):DefC P w K mg base k x ps sp:=⟨f,fd,ok,m,F.kp,b⟩
theorem DefC.calm {P:Program} {w:World} {K:PySem.W.Frag} {mg:Str→Option Value} {base:Heap} {k:Nat} {x:Str} {ps:List Str} {sp:Sp} (D:DefC P w K mg base k x ps sp):Def P w K mg base k x ps sp:=by
  obtain ⟨f,fd,F,r⟩:=D
  exact ⟨f,fd,⟨F.len,fun A outer s H args us vs Q E hr=>F.run A outer s H args us vs Q E hr.c⟩,r⟩
def iSeqB (K:PySem.W.Frag) (tl:TE):TI:=fun σ H R=>tl σ H fun x H1=>∃b a xs,x=.ref a∧SqB b K H1 a xs∧∀J C,ItOk J xs.length (fun i=>xs.getD i .non) C→(∀H2,SqB b K H2 a xs→C H2)→R J H1
theorem piSeqB {X:Cx} {K:PySem.W.Frag} {tg l:Expr} {tl:TE} (hK:X.K=K) (hl:PE X l tl):PI X tg l (iSeqB K tl):=by
  subst hK
  intro pins s σ H R I h
  refine thn (hl pins s σ H _ I h) fun v s1 ⟨x,H1,I1,r1,q1⟩=>?_
  obtain ⟨b,a,xs,e,hq,q⟩:=q1
  subst e
  cases r1
  have fp:∀b∈[s1.heap.objs.size],FpOk X pins H1 b:=fun b hb=>by
    have e:b=s1.heap.objs.size:=by simpa using hb
    rw [e];exact I1.fpOk (Nat.le_refl _) (I1.hok.fresh (Nat.le_refl _))
  cases b
  · obtain ⟨its,rv,p,hz⟩:=I1.list hq
    exact wpAny_pyIter_list p.isList ⟨s1.heap.objs.size,[s1.heap.objs.size],_,_,H1,rfl,I1.kept (t':=s1.toks) fun b o e=>Heap.get?_push_of_some _ e,turn_list a _,⟨_,Heap.get?_push_size _ rfl,rfl,rfl⟩,fp,q _ _ itok_list fun H2 S=>S⟩
  · obtain ⟨its,rv,p,hz⟩:=I1.tuple hq
    exact wpAny_pyIter_tuple (show s1.heap.IsTuple a its.toArray from p) ⟨s1.heap.objs.size,[s1.heap.objs.size],_,_,H1,rfl,I1.kept (t':=s1.toks) fun b o e=>Heap.get?_push_of_some _ e,turn_tuple a _,⟨_,Heap.get?_push_size _ rfl,rfl,rfl⟩,fp,q _ _ itok_tup fun H2 S=>S⟩
end L2
namespace L2
open PySem PySem.Spec PyProof.Rows
set_option maxRecDepth 100000
section
variable {prog:Program} {w:World} {A:Around} {E:Value→Shared→Prop} {s:Shared}
end
section
variable {prog:Program} {w:World} {A:Around} {E:Value→Shared→Prop} {s:Shared}
end
theorem Vals.rev {xs:List V} {us:List Value} (r:Vals xs us):Vals xs.reverse us.reverse:=by
  induction r with
  | nil=>exact .nil
  | cons h t ih=>rw [List.reverse_cons,List.reverse_cons];exact ih.append (.cons h .nil)
section
variable {X:Cx} {K:PySem.W.Frag}
end
end L2
namespace L2
open PySem PySem.Spec PyProof.Rows
section
variable {X:Cx}
theorem op_mulB:OpR X (binaryOp .Mult) (rI (fun i j=>i.natAbs<2^200∧j.natAbs<2^200) fun i j=>.int (i*j)):=opI fun i j _ _ _ _ _ hc q=>mul_int q (by
  have h1:=intBits_le hc.1
  have h2:=intBits_le hc.2
  unfold IntMulOk
  intro h
  rw [Bool.and_eq_true] at h
  have h3:((Builtin.Int.intBits i+Builtin.Int.intBits j:Nat):Int)>bitsLine:=of_decide_eq_true h.2
  have h4:(400:Int)≤bitsLine:=by decide
  omega)
end
end L2
namespace L2
open PySem PySem.Spec PyProof.Rows
open AutoSeq1 (wpAny_loadPart')
set_option maxRecDepth 100000
set_option maxHeartbeats 1000000 in
theorem meets_enumT (l:Addr) (items:Array Value) (n:Nat) (dct:Option Addr) (sl:Array (Option Value)):Meets (Builtin.«enumerate.__new__» ⟨[.type "enumerate",.ref l],[]⟩) (fun _ R s=>s.heap.get? l=some {cls:=.type "tuple",dict:=dct,data:=.seq items n,slots:=sl} ∧
      R (.ok (.ret (.ref (s.heap.push {cls:=.type "tuple_iterator",data:=.fields #[.ref l,.int 0 0]}).objs.size))) {s with heap:=(s.heap.push {cls:=.type "tuple_iterator",data:=.fields #[.ref l,.int 0 0]}).push {cls:=.type "enumerate",data:=.fields #[.none,.bool false,.ref s.heap.objs.size,rawInt 0,.none,.none]}}) :=
  .of_wp fun prog w A R s h=>by
    obtain ⟨at_,told⟩:=h
    obtain ⟨hp,gs,dn,tk,os⟩:=s
    have self:=sub_enumerate
    have seq:Heap.IsTuple (Shared.heap ⟨hp,gs,dn,tk,os⟩) l items:=⟨_,at_,rfl,n,rfl⟩
    wp_walk using AutoSeq1.wpAny_loadPart' at_
    apply wpAny_stack_any
    intro rows
    apply wpAny_pure
    split
    rename_i cl _ _ _ _ _
    rcases Bool.eq_false_or_eq_true (cl==Value.type "enumerate") with q | q<;>rw [q]
    all_goals wp_walk using AutoSeq1.wpAny_loadPart' at_,wpAny_pyIter_tuple seq
    all_goals exact ⟨_,rfl,told⟩
section
variable {prog:Program} {w:World} {A:Around} {E:Value→Shared→Prop} {s:Shared}
theorem call_enumT {l:Addr} {items:Array Value} {Q:Value→Shared→Prop} (hL:s.heap.IsTuple l items)
    (h:∀h',IsEnum h' (s.heap.objs.size+1) s.heap.objs.size 0 .none→h'.IsTupleIter s.heap.objs.size l 0→(∀b o,s.heap.get? b=some o→h'.get? b=some o)→Q (.ref (s.heap.objs.size+1)) {s with heap:=h'}):wpAny (model prog w) A (call (.type "enumerate") [.ref l]) Q E s:=by
  obtain ⟨⟨cc,dct,dt,sl⟩,hl,hc,n,hd⟩:=hL
  replace hc:cc=.type "tuple":=hc;replace hd:dt=.seq items n:=hd;subst hc hd
  refine callType_new F.called_enumerate (by decide) (F.typeCall_enumerate_1 _) (F.newCall_enumerate_1 _) (fun obj=>F.args_object_init_2 obj _) F.entry_enumerate_new (meets_enumT l items n dct sl) ⟨hl,?_⟩
  have hz:(s.heap.push {cls:=.type "tuple_iterator",data:=.fields #[.ref l,.int 0 0]}).objs.size=s.heap.objs.size+1:=Heap.size_push ..
  show _∧_
  rw [hz]
  have he:IsEnum ((s.heap.push {cls:=.type "tuple_iterator",data:=.fields #[.ref l,.int 0 0]}).push {cls:=.type "enumerate",data:=.fields #[.none,.bool false,.ref s.heap.objs.size,rawInt 0,.none,.none]}) (s.heap.objs.size+1) s.heap.objs.size 0 .none:=by
    have:=Heap.get?_push_size (s.heap.push {cls:=.type "tuple_iterator",data:=.fields #[.ref l,.int 0 0]}) (o:={cls:=.type "enumerate",data:=.fields #[.none,.bool false,.ref s.heap.objs.size,rawInt 0,.none,.none]}) rfl
    rw [hz] at this;exact this
  exact ⟨⟨_,he,rfl⟩,h _ he ⟨_,Heap.get?_push_of_some _ (Heap.get?_push_size _ rfl),rfl,rfl⟩ fun b o x=>Heap.get?_push_of_some _ (Heap.get?_push_of_some _ x)⟩
theorem call_enumB {b:Bool} {l:Addr} {items:Array Value} {Q:Value→Shared→Prop} (hL:SSq b s.heap l items)
    (h:∀h',IsEnum h' (s.heap.objs.size+1) s.heap.objs.size 0 .none→SIt b h' s.heap.objs.size l 0→(∀b o,s.heap.get? b=some o→h'.get? b=some o)→Q (.ref (s.heap.objs.size+1)) {s with heap:=h'}):wpAny (model prog w) A (call (.type "enumerate") [.ref l]) Q E s:=by
  cases b
  · exact call_enumerate_list hL fun h' h1 h2 _ h3=>h h' h1 h2 h3
  · exact call_enumT hL fun h' h1 h2 h3=>h h' h1 h2 h3
end
def Ite (K:PySem.W.Frag) (b:Bool) (a:Addr) (xs:List V):It :=
  ⟨fun i H=>SqB b K H a xs∧i<xs.length,fun i H x H'=>∃p,x=.ref p∧H p=none∧H'=upd H p (.tup [.int (i:Nat),xs.getD i .non]),fun i H=>SqB b K H a xs∧i=xs.length⟩
theorem turn_enum {P:Program} {w:World} {K:PySem.W.Frag} {elts:List Expr} {kx} {pos:Pos} (b:Bool) (a e it:Addr) (xs:List V) (ne:e≠it) :
    Turn P w K (.Tuple elts kx pos) (Ite K b a xs) [e,it] e (fun i h=>(∃old,IsEnum h e it (i:Nat) old)∧SIt b h it a i) where
  mem:=by simp
  obj:=fun i h st c hc=>by
    obtain ⟨⟨old,he⟩,h1⟩:=st
    simp only [List.mem_cons,List.not_mem_nil,or_false] at hc
    rcases hc with rfl | rfl
    · exact ⟨_,he,fun v z=>by cases z⟩
    · exact h1.obj
  keep:=fun i h h' st k=>by
    obtain ⟨⟨old,he⟩,h1⟩:=st
    exact ⟨⟨old,k e (by simp) _ he⟩,h1.keep fun o x=>k it (by simp) o x⟩
  item:=by
    intro X hP hw hK hc i pins s σ H E I hf st hg
    subst hP hw hK
    obtain ⟨⟨old,he⟩,h1⟩:=st
    obtain ⟨q1,hx⟩:=hg
    obtain ⟨its,r1,p1,z1⟩:=I.src q1
    have na:=I.srcNe q1 (hf it (by simp));have nb:=I.srcNe q1 (hf e (by simp));have len1:=r1.length
    have D:=draws_src (prog:=X.prog) (w:=X.w) (A:=X.A.in1) (I.ok.hd hc) b it a na its.toArray
    refine wpAny_pyNext_enum_itemD D he ⟨h1,p1⟩ (by simp;omega) ne (by simp [ne,nb.symm]) fun x h' tk hPx ho hs' hT hsz hk=>?_
    have r:Vals [V.int (i:Nat),xs.getD i .non] [Value.int (i:Nat) tk,x]:=.cons ⟨tk,rfl⟩ (.cons (getD_val r1 hPx) .nil)
    have I1:Inv X pins σ (upd H s.heap.objs.size (.tup [.int (i:Nat),xs.getD i .non])) {s with heap:=h',toks:=tk+1} :=
      I.turnedLaid (t':=tk+1) hf (fun c o hc e'=>hk c o (fun q=>hc (by simp [q])) (fun q=>hc (by simp [q])) e') r (by show 2≤sizeLine;decide) ⟨_,hT,rfl,_,rfl⟩
    have nH:H s.heap.objs.size=none:=I.hok.fresh (Nat.le_refl _)
    have fresh:∀c∈[e,it],(upd H s.heap.objs.size (.tup [.int (i:Nat),xs.getD i .non])) c=none:=fun c hc=>by
      rw [upd_ne ?_]
      · exact (hf c hc).1
      · simp only [List.mem_cons,List.not_mem_nil,or_false] at hc
        rcases hc with rfl | rfl
        · exact Nat.ne_of_lt (Heap.lt_size he)
        · obtain ⟨o,e',_⟩:=h1.obj;exact Nat.ne_of_lt (Heap.lt_size e')
    obtain ⟨f0,f1,f2,f3,f4,f5⟩:=hf e (by simp)
    refine ⟨_,rfl,wpAny_letOwnedTupleGo_enum ho fun h2 he2 sb=>⟨.ref s.heap.objs.size,_,I1.turned (t':=tk+1) (fun b o hb e'=>(sb.2 b hb).trans e') (fresh e (by simp)) f1 f3 f4 f5,rfl,⟨_,rfl,nH,rfl⟩,⟨⟨x,by simpa using he2⟩,?_⟩,fresh⟩⟩
    exact hs'.1.keep fun o e'=>(sb.2 it ne.symm).trans e'
  done:=by
    intro X hP hw hK hc i pins s σ H E I hf st hg
    subst hP hw hK
    obtain ⟨⟨old,he⟩,h1⟩:=st
    obtain ⟨q1,hx⟩:=hg
    obtain ⟨its,r1,p1,z1⟩:=I.src q1
    have na:=I.srcNe q1 (hf it (by simp));have len1:=r1.length
    have D:=draws_src (prog:=X.prog) (w:=X.w) (A:=X.A.in1) (I.ok.hd hc) b it a na its.toArray
    have hs:SIt b s.heap it a its.toArray.size:=by rw [List.size_toArray,←len1,←hx];exact h1
    refine wpAny_pyNext_enum_endD D he ⟨hs,p1⟩ fun h' eb=>⟨rfl,I.turnedAll (t':=s.toks) hf fun c o hc e'=>eb c o (fun q=>hc (by simp [q])) e'⟩
  self:=fun A i s Q E st h=>by obtain ⟨⟨old,he⟩,_⟩:=st;exact wpAny_pyIter_enum he h
theorem itp_enum {K:PySem.W.Frag} {b:Bool} {a:Addr} {xs:List V}:ItP (Ite K b a xs) xs.length (fun i=>[.int (i:Nat),xs.getD i .non]) (fun H=>SqB b K H a xs) where
  go:=fun i H c hi=>⟨c,hi⟩
  yld:=fun i H x H' c hi y=>y
  stop:=fun H c=>⟨c,rfl⟩
def iEnum (K:PySem.W.Frag) (ta:TA):TI:=fun σ H R=>ta σ H fun vs H1=>∃(b:Bool) (a:Addr) (xs:List V),vs=[.ref a]∧SqB b K H1 a xs∧∀J C,ItP J xs.length (fun i=>[.int (i:Nat),xs.getD i .non]) C→(∀H2,SqB b K H2 a xs→C H2)→R J H1
theorem pi_enum {X:Cx} {K:PySem.W.Frag} {elts:List Expr} {kx:Nat} {tpos:Pos} {a:Expr} {ta:TA} {p pos:Pos} (hK:X.K=K) (hg:Gl X "enumerate") (hm:X.mg "enumerate"=none) (ha:PA X [a] ta) (hs:starEach [a] X.env=[(false,eval a X.env)]:=by rfl) :
    PI X (.Tuple elts kx tpos) (.Call (.Name "enumerate" p) [a] [] pos) (iEnum K ta):=by
  subst hK
  intro pins s σ H R I h
  refine Call_ (ld_blt I hg hm boot_enumerate (PyProof.Rows.callWith_type1 (thn (ha pos pins s σ H _ I h) fun us s1 ⟨vs,H1,I1,r1,q1⟩=>?_) hs rfl))
  obtain ⟨b,a1,xs,e,q1,q⟩:=q1
  subst e
  obtain ⟨u,rfl,rx⟩:=vals1 r1
  cases rx
  obtain ⟨its,rv1,p1,z1⟩:=I1.src q1
  refine call_enumB p1 fun h' he h1 hk=>wpAny_pyIter_enum he ?_
  have I2:Inv X pins σ H1 {s1 with heap:=h'}:=I1.kept (t':=s1.toks) hk
  refine ⟨_,[s1.heap.objs.size+1,s1.heap.objs.size],_,_,H1,rfl,I2,turn_enum b a1 _ _ xs (Nat.ne_of_gt (Nat.lt_succ_self _)),⟨⟨_,he⟩,h1⟩,fun c hc=>?_,q _ _ itp_enum fun H2 k1=>k1⟩
  have:s1.heap.objs.size≤c:=by
    simp only [List.mem_cons,List.not_mem_nil,or_false] at hc
    rcases hc with rfl | rfl<;>first | exact Nat.le_add_right _ _ | exact Nat.le_refl _
  exact I1.fpOk this (I1.hok.fresh this)
end L2
namespace L2
open PySem PySem.Spec PyProof.Rows
def Thin (H:Hp) (v:V):Prop:=∃r o xs,v=.ref r∧H r=some (.frz o (.tup xs))∧o.dict=none
theorem Thin.same {H H':Hp} {v:V} (S:Same H H') (h:Thin H v):Thin H' v:=by
  obtain ⟨r,o,xs,e,h1,h2⟩:=h
  exact ⟨r,o,xs,e,S _ _ h1,h2⟩
def WebD (K:PySem.W.Frag) (C:Addr) (H:Hp) (a:Addr) (m:Int) (es:List (Int×Int)):Prop:=∃dx t xs,H a=some (.ins C dx (wFs m t))∧H t=some (.tup xs)∧Pairs K H xs es∧∀v∈xs,Thin H v
theorem WebD.at {K:PySem.W.Frag} {C:Addr} {H:Hp} {a:Addr} {m:Int} {es:List (Int×Int)} (h:WebD K C H a m es):WebAt K C H a m es:=by
  obtain ⟨dx,t,xs,h1,h2,h3,_⟩:=h
  exact ⟨dx,t,xs,h1,h2,h3⟩
theorem WebD.same {K:PySem.W.Frag} {C:Addr} {H H':Hp} {a:Addr} {m:Int} {es:List (Int×Int)} (h:WebD K C H a m es) (S:Same H H'):WebD K C H' a m es:=by
  obtain ⟨dx,t,xs,h1,h2,h3,h4⟩:=h
  exact ⟨dx,t,xs,S _ _ h1,S _ _ h2,h3.same S,fun v hv=>(h4 v hv).same S⟩
section
variable {X:Cx} {K:PySem.W.Frag}
end
end L2
namespace L2
open PySem PySem.Spec PyProof.Rows
section
variable {prog:Program} {w:World} {A:Around} {E:Value→Shared→Prop} {s:Shared}
end
section
variable {X:Cx} {K:PySem.W.Frag}
theorem rng_acc {lo:Int} {n:Nat} {acc:Array Value} (h:ItemsOf (fun i v=>∃t,v=.int (lo+i*1) t) acc n):Vals (((List.range n).map fun i=>lo+((i:Nat):Int)).map V.int) acc.toList:=by
  obtain ⟨h1,h2⟩:=h
  have key:∀(us:List Value) (k m:Nat),us.length=m→(∀(j:Nat) v,us[j]?=some v→∃t,v=.int (lo+((k+j:Nat):Int)) t)→Vals (((List.range' k m).map fun i=>lo+((i:Nat):Int)).map V.int) us:=by
    intro us
    induction us with
    | nil=>intro k m hm _;cases hm;exact .nil
    | cons u us ih =>
      intro k m hm hv
      cases m with
      | zero=>cases hm
      | succ m =>
        rw [List.range'_succ,List.map_cons,List.map_cons]
        refine .cons ?_ (ih (k+1) m (by simpa using hm) fun j v e=>?_)
        · obtain ⟨t,e⟩:=hv 0 u rfl
          exact ⟨t,by rw [e,Nat.add_zero]⟩
        · obtain ⟨t,e'⟩:=hv (j+1) v (by simpa using e)
          exact ⟨t,by rw [e',show k+(j+1)=k+1+j by omega]⟩
  rw [List.range_eq_range']
  refine key acc.toList 0 n (by simpa using h1) fun j v e=>?_
  obtain ⟨t,e'⟩:=h2 j v (by simpa using e)
  exact ⟨t,by rw [e',Int.mul_one,Nat.zero_add]⟩
theorem listrange_ok {pins:List (Addr×Obj)} {σ:St} {H:Hp} {s:Shared} {E:Value→Shared→Prop} {lo hi:Int} {t u v:Tok} {tk:Nat} {Q:VK} (hh:X.A.handled=none) (I:Inv X pins σ H s) (h1:-(2^62)≤lo) (h2:lo<2^62) (h3:-(2^62)≤hi) (h4:hi<2^62) (hn:(hi-lo).toNat≤1000)
    (q:∀l,H l=none→Q (.ref l) (upd H l (.lst (((List.range (hi-lo).toNat).map fun i=>lo+((i:Nat):Int)).map V.int)))) :
    wpAny (model X.prog X.w) X.A (call (.type "list") [.ref s.heap.objs.size]) (EP X pins σ Q) E {s with heap:=s.heap.push {cls:=.type "range",data:=.fields #[.int lo t,.int hi u,.int 1 v]},toks:=tk}:=by
  refine call_list_range (n:=(hi-lo).toNat) hh (IsRange.new ..) (small_one h1 h2 h3 h4) (by rw [rangeSize_one];split<;>omega) (Nat.le_trans hn (by decide)) fun h' tk' acc' c' hk hS hacc=>?_
  have fr:s.heap.objs.size≤(s.heap.push {cls:=.type "range",data:=.fields #[.int lo t,.int hi u,.int 1 v]}).objs.size:=by rw [Heap.size_push];exact Nat.le_succ _
  have ea:acc'=acc'.toList.toArray:=rfl
  refine ⟨.ref _,_,I.laid (t':=tk') (fun b o e=>hk b o (Heap.get?_push_of_some _ e)) fr (show ObjOk X.prog X.w _ h' _ (.lst _) from ⟨?_,acc'.toList,c',rng_acc hacc,hS⟩),rfl,q _ (I.hok.fresh fr)⟩
  rw [List.length_map,List.length_map,List.length_range];exact Nat.le_of_lt (small1000 hn)
def tLr1 (ta:TA):TE:=fun σ H Q=>ta σ H fun vs H1=>∃j:Int,vs=[.int j]∧-(2^62)≤j∧j≤1000∧∀l,H1 l=none→Q (.ref l) (upd H1 l (.lst (((List.range j.toNat).map fun i=>0+((i:Nat):Int)).map V.int)))
theorem pe_listrange1 {e:Expr} {ta:TA} {p1 p2 pos1 pos2:Pos} (hc:X.calm=true) (hg:Gl X "list") (hm:X.mg "list"=none) (hg2:Gl X "range") (hm2:X.mg "range"=none) (ha:PA X [e] ta)
    (hs:starEach [.Call (.Name "range" p2) [e] [] pos2] X.env=[(false,eval (.Call (.Name "range" p2) [e] [] pos2) X.env)]:=by rfl) (hs2:starEach [e] X.env=[(false,eval e X.env)]:=by rfl) :
    PE X (.Call (.Name "list" p1) [.Call (.Name "range" p2) [e] [] pos2] [] pos1) (tLr1 ta):=by
  intro pins s σ H Q I h
  refine Call_ (ld_blt I hg hm boot_list (PyProof.Rows.callWith_type1 ?_ hs rfl))
  rw [hs]
  refine Calls.spliced_cons ?_
  refine Call_ (ld_blt I hg2 hm2 boot_range (PyProof.Rows.callWith_type1 (thn (ha pos2 pins s σ H _ I h) fun us s1 ⟨vs,H1,I1,r1,q1⟩=>?_) hs2 rfl))
  obtain ⟨j,rfl,b1,b2,q⟩:=q1
  obtain ⟨u,rfl,t,rfl⟩:=vals1 r1
  refine call_range_1 (Calls.spliced_nil ?_)
  exact listrange_ok (I.ok.hd hc) I1 (by decide) (by decide) b1 (by omega) (by omega) fun l nl=>by rw [Int.sub_zero];exact q l nl
end
theorem Pairs.take {K:PySem.W.Frag} {H:Hp}:∀{xs:List V} {es:List (Int×Int)} (i:Nat),Pairs K H xs es→Pairs K H (xs.take i) (es.take i)
  | _,_,_,.nil=>by rw [List.take_nil,List.take_nil];exact .nil
  | _,_,0,.cons _ _=>.nil
  | _,_,i+1,.cons p t=>.cons p (Pairs.take i t)
theorem Pairs.drop {K:PySem.W.Frag} {H:Hp}:∀{xs:List V} {es:List (Int×Int)} (i:Nat),Pairs K H xs es→Pairs K H (xs.drop i) (es.drop i)
  | _,_,_,.nil=>by rw [List.drop_nil,List.drop_nil];exact .nil
  | _,_,0,.cons p t=>.cons p t
  | _,_,i+1,.cons _ t=>Pairs.drop i t
end L2
namespace L2
open PySem PySem.Spec PyProof.Rows
section
variable {X:Cx} {tg:Expr}
end
end L2
namespace L2
open PySem PySem.Spec PyProof.Rows
section
variable {κ:Type} [DecidableEq κ]
def valV (kvs:List (κ×V)) (k:κ):Option V:=(kvs.find? fun kv=>decide (kv.1=k)).map (·.2)
def putK (kvs:List (κ×V)) (k:κ) (v:V):List (κ×V) :=
  if (kvs.any fun kv=>decide (kv.1=k))=true then kvs.map (fun kv=>if kv.1=k then (kv.1,v) else kv) else kvs++[(k,v)]
def dropK (kvs:List (κ×V)) (k:κ):List (κ×V):=kvs.filter fun kv=>decide (kv.1≠k)
theorem valV_pos {p:κ×V} {r:List (κ×V)} {k:κ} (e:p.1=k):valV (p::r) k=some p.2:=by simp [valV,List.find?_cons,e]
theorem valV_neg {p:κ×V} {r:List (κ×V)} {k:κ} (e:¬p.1=k):valV (p::r) k=valV r k:=by simp [valV,List.find?_cons,e]
theorem valV_any (k:κ):∀kvs:List (κ×V),(kvs.any fun kv=>decide (kv.1=k))=(valV kvs k).isSome
  | []=>rfl
  | p::r=>by
    rw [List.any_cons]
    by_cases e:p.1=k
    · simp only [valV_pos e,decide_eq_true e,Bool.true_or,Option.isSome_some]
    · rw [valV_neg e,decide_eq_false e,Bool.false_or];exact valV_any k r
theorem length_putK (kvs:List (κ×V)) (k:κ) (v:V):(putK kvs k v).length≤kvs.length+1:=by
  unfold putK
  split
  · rw [List.length_map];omega
  · rw [List.length_append,List.length_cons,List.length_nil];omega
theorem putK_new {kvs:List (κ×V)} {k:κ} (v:V) (h:valV kvs k=none):putK kvs k v=kvs++[(k,v)]:=by
  unfold putK
  rw [valV_any,h]
  exact if_neg (by decide)
theorem RelO.isSome_eq {o:Option V} {u:Option Value} (r:RelO o u):o.isSome=u.isSome:=by
  cases o with
  | none=>cases u with
    | none=>rfl
    | some _=>exact (show False from r).elim
  | some _=>cases u with
    | none=>exact (show False from r).elim
    | some _=>rfl
theorem RelO.getD {o:Option V} {u:Option Value} {d:V} {d':Value} (r:RelO o u) (rd:RelV d d'):RelV (o.getD d) (u.getD d'):=by
  cases o with
  | none=>cases u with
    | none=>exact rd
    | some _=>exact (show False from r).elim
  | some _=>cases u with
    | none=>exact (show False from r).elim
    | some _=>exact r
theorem KV.val {kvs:List (κ×V)} {vs:List (κ×Value)} (r:KV kvs vs) (k:κ):RelO (valV kvs k) (valueAt vs k):=by
  unfold KV at r
  induction r with
  | nil=>exact True.intro
  | @cons p q ps qs h t ih =>
    obtain ⟨h1,h2⟩:=h
    by_cases e:p.1=k
    · have e':q.1=k:=h1.symm.trans e
      have b:valueAt (q::qs) k=some q.2:=by simp [valueAt,List.find?_cons,e']
      rw [valV_pos e,b];exact h2
    · have e':¬q.1=k:=fun z=>e (h1.trans z)
      have b:valueAt (q::qs) k=valueAt qs k:=by simp [valueAt,List.find?_cons,e']
      rw [valV_neg e,b];exact ih
theorem KV.any {kvs:List (κ×V)} {vs:List (κ×Value)} (r:KV kvs vs) (k:κ):(kvs.any fun kv=>decide (kv.1=k))=vs.any fun kv=>decide (kv.1=k):=by
  unfold KV at r
  induction r with
  | nil=>rfl
  | cons h t ih=>rw [List.any_cons,List.any_cons,ih,h.1]
theorem KV.repl {kvs:List (κ×V)} {vs:List (κ×Value)} (r:KV kvs vs) (k:κ) {y:V} {u:Value} (ry:RelV y u) :
    KV (kvs.map fun kv=>if kv.1=k then (kv.1,y) else kv) (vs.map fun kv=>if kv.1=k then (kv.1,u) else kv):=by
  unfold KV at r ⊢
  induction r with
  | nil=>exact .nil
  | @cons p q ps qs h t ih =>
    rw [List.map_cons,List.map_cons]
    refine .cons ?_ ih
    obtain ⟨h1,h2⟩:=h
    by_cases e:p.1=k
    · rw [if_pos e,if_pos (h1.symm.trans e)];exact ⟨h1,ry⟩
    · rw [if_neg e,if_neg (fun z=>e (h1.trans z))];exact ⟨h1,h2⟩
theorem KV.put {kvs:List (κ×V)} {vs:List (κ×Value)} (r:KV kvs vs) (k:κ) {y:V} {u:Value} (ry:RelV y u):KV (putK kvs k y) (stored vs k u):=by
  unfold putK stored
  rw [r.any k]
  by_cases e:(vs.any fun kv=>decide (kv.1=k))=true
  · rw [if_pos e,if_pos e];exact r.repl k ry
  · rw [if_neg e,if_neg e];exact Paired.snoc r ⟨rfl,ry⟩
theorem KV.drop {kvs:List (κ×V)} {vs:List (κ×Value)} (r:KV kvs vs) (k:κ):KV (dropK kvs k) (without vs k):=by
  unfold KV at r ⊢
  unfold dropK without
  induction r with
  | nil=>exact .nil
  | @cons p q ps qs h t ih =>
    obtain ⟨h1,h2⟩:=h
    rw [List.filter_cons,List.filter_cons]
    by_cases e:p.1=k
    · have a:¬decide (p.1≠k)=true:=by simp [e]
      have b:¬decide (q.1≠k)=true:=by simp [h1.symm.trans e]
      rw [if_neg a,if_neg b];exact ih
    · have e':¬q.1=k:=fun z=>e (h1.trans z)
      have a:decide (p.1≠k)=true:=by simp [e]
      have b:decide (q.1≠k)=true:=by simp [e']
      rw [if_pos a,if_pos b];exact .cons ⟨h1,h2⟩ ih
theorem KV.keys {kvs:List (κ×V)} {vs:List (κ×Value)} (r:KV kvs vs):kvs.map (·.1)=vs.map (·.1):=by
  unfold KV at r
  induction r with
  | nil=>rfl
  | cons h t ih=>rw [List.map_cons,List.map_cons,ih,h.1]
theorem KV.length {kvs:List (κ×V)} {vs:List (κ×Value)} (r:KV kvs vs):kvs.length=vs.length:=Paired.length r
end
theorem kV_is {P:Program} {w:World} {k:Key} {u:Value} (r:RelV (kV k) u):(mixKind P w).is k u=true:=by
  cases k with
  | inl i=>obtain ⟨t,e⟩:=(show ∃t,u=Value.int i t from r);subst e;exact mixKind_int P w i t
  | inr x=>obtain ⟨t,e⟩:=(show ∃t,u=Value.str x t from r);subst e;exact mixKind_str P w x t
theorem items_are {P:Program} {w:World}:∀{ks:List Key} {us:List Value},Vals (ks.map kV) us→ItemsAre (mixKind P w) ks us
  | [],_,r=>by rw [List.map_nil] at r;cases r;exact .nil
  | k::ks,_,r=>by
    rw [List.map_cons] at r
    cases r with
    | cons h t=>exact .cons (kV_is h) (items_are t)
abbrev KT (H:Hp):List (List Key×V)→List (List Key×Addr×Value)→Prop:=Paired fun p q=>p.1=q.1∧H q.2.1=some (.tup (p.1.map kV))∧RelV p.2 q.2.2
theorem KT.val {H:Hp} {kvs:List (List Key×V)} {xs:List (List Key×Addr×Value)} (r:KT H kvs xs) (k:List Key):RelO (valV kvs k) ((atKey xs k).map (·.2)):=by
  induction r with
  | nil=>exact True.intro
  | @cons p q ps qs h t ih =>
    obtain ⟨h1,_,h2⟩:=h
    by_cases e:p.1=k
    · have e':q.1=k:=h1.symm.trans e
      have b:atKey (q::qs) k=some q.2:=by simp [atKey,List.find?_cons,e']
      rw [valV_pos e,b];exact h2
    · have e':¬q.1=k:=fun z=>e (h1.trans z)
      have b:atKey (q::qs) k=atKey qs k:=by simp [atKey,List.find?_cons,e']
      rw [valV_neg e,b];exact ih
theorem KT.repl {H:Hp} {kvs:List (List Key×V)} {xs:List (List Key×Addr×Value)} (r:KT H kvs xs) (k:List Key) {y:V} {u:Value} (ry:RelV y u) :
    KT H (kvs.map fun kv=>if kv.1=k then (kv.1,y) else kv) (xs.map (putAt k u)):=by
  induction r with
  | nil=>exact .nil
  | @cons p q ps qs h t ih =>
    rw [List.map_cons,List.map_cons]
    refine .cons ?_ ih
    obtain ⟨h1,h2,h3⟩:=h
    unfold putAt
    by_cases e:p.1=k
    · rw [if_pos e,if_pos (h1.symm.trans e)];exact ⟨h1,h2,ry⟩
    · rw [if_neg e,if_neg (fun z=>e (h1.trans z))];exact ⟨h1,h2,h3⟩
theorem KT.put {H:Hp} {kvs:List (List Key×V)} {xs:List (List Key×Addr×Value)} (r:KT H kvs xs) (k:List Key) {b:Addr} {y:V} {u:Value} (hb:H b=some (.tup (k.map kV))) (ry:RelV y u) :
    KT H (putK kvs k y) (storedH xs k b u):=by
  have e:(kvs.any fun kv=>decide (kv.1=k))=(atKey xs k).isSome:=by
    rw [valV_any,(r.val k).isSome_eq,Option.isSome_map]
  unfold putK storedH
  rw [e]
  by_cases q:(atKey xs k).isSome=true
  · rw [if_pos q,if_pos q];exact r.repl k ry
  · rw [if_neg q,if_neg q];exact Paired.snoc r ⟨rfl,hb,ry⟩
theorem KT.keeps {H H':Hp} {kvs:List (List Key×V)} {xs:List (List Key×Addr×Value)} (r:KT H kvs xs) (ht:∀b ys,H b=some (.tup ys)→H' b=some (.tup ys)):KT H' kvs xs :=
  Paired.mapP r fun _ _ z=>⟨z.1,ht _ _ z.2.1,z.2.2⟩
section
variable {P:Program} {w:World} {H:Hp} {h:Heap} {a:Addr}
theorem rd_of {u:HO} (ok:HOk P w H h) (e:Rd H a u):ObjOk P w H h a u:=e.ok ok
theorem dk_rd {kvs:List (Key×V)} (ok:HOk P w H h) (e:Rd H a (.dK kvs)):kvs.length≤sizeLine∧(a==sysModules)=false∧∃vs,KV kvs vs∧h.DictOf (mixKind P w) a vs :=
  show ObjOk P w H h a (.dK kvs) from rd_of ok e
theorem dk_of {kvs:List (Key×V)} (ok:HOk P w H h) (e:H a=some (.dK kvs)):kvs.length≤sizeLine∧(a==sysModules)=false∧∃vs,KV kvs vs∧h.DictOf (mixKind P w) a vs:=dk_rd ok (.inl e)
theorem key_of {ks:List Key} (ok:HOk P w H h) (e:H a=some (.tup (ks.map kV))):(tupleKind (mixKind P w)).is h ks a:=by
  obtain ⟨_,its,r,o,h1,h2,n,h3⟩:=(show ObjOk P w H h a (.tup (ks.map kV)) from ok a _ e)
  exact ⟨o,its.toArray,n,h1,h2,h3,by simpa using items_are r⟩
theorem dt_rd {kvs:List (List Key×V)} (ok:HOk P w H h) (e:Rd H a (.dT kvs)):kvs.length≤sizeLine∧(a==sysModules)=false ∧
    ∃xs,KT H kvs xs∧h.DictOfH (tupleKind (mixKind P w)) a xs:=by
  obtain ⟨z,y,xs,r,o,es,ep,h1,h2,h3,h4,h5⟩:=(show ObjOk P w H h a (.dT kvs) from rd_of ok e)
  refine ⟨z,y,xs,r,o,es,ep,h1,h2,h3,h4,fun x hx=>?_,h5⟩
  have all:∀{l:List (List Key×V)} {m:List (List Key×Addr×Value)},KT H l m→∀x∈m,(tupleKind (mixKind P w)).is h x.1 x.2.1:=by
    intro l m q
    induction q with
    | nil=>intro x hx;exact nomatch hx
    | @cons p q ps qs hq t ih =>
      intro x hx
      rcases List.mem_cons.mp hx with e | hx
      · subst e
        exact key_of ok (by rw [←hq.1];exact hq.2.1)
      · exact ih x hx
  exact all r x hx
theorem dt_of {kvs:List (List Key×V)} (ok:HOk P w H h) (e:H a=some (.dT kvs)):kvs.length≤sizeLine∧(a==sysModules)=false ∧
    ∃xs,KT H kvs xs∧h.DictOfH (tupleKind (mixKind P w)) a xs:=dt_rd ok (.inl e)
end
def DGet (H:Hp) (a:Addr) (y:V) (r:Option V):Prop :=
  (∃kvs k,Rd H a (.dK kvs)∧y=kV k∧r=valV kvs k)∨∃kvs k b,Rd H a (.dT kvs)∧y=.ref b∧H b=some (.tup (k.map kV))∧r=valV kvs k
def DPut (H:Hp) (a:Addr) (y v:V) (H':Hp):Prop :=
  (∃kvs k,H a=some (.dK kvs)∧y=kV k∧kvs.length<sizeLine∧H'=upd H a (.dK (putK kvs k v))) ∨
  ∃kvs k b,H a=some (.dT kvs)∧y=.ref b∧H b=some (.tup (k.map kV))∧kvs.length<sizeLine∧H'=upd H a (.dT (putK kvs k v))
theorem DGet.k {H:Hp} {a:Addr} {kvs:List (Key×V)} {k:Key} (e:H a=some (.dK kvs)):DGet H a (kV k) (valV kvs k):=.inl ⟨kvs,k,.inl e,rfl,rfl⟩
theorem DGet.t {H:Hp} {a b:Addr} {kvs:List (List Key×V)} {k:List Key} (e:H a=some (.dT kvs)) (eb:H b=some (.tup (k.map kV))):DGet H a (.ref b) (valV kvs k):=.inr ⟨kvs,k,b,.inl e,rfl,eb,rfl⟩
theorem DPut.k {H:Hp} {a:Addr} {kvs:List (Key×V)} {k:Key} {v:V} (e:H a=some (.dK kvs)) (hl:kvs.length<sizeLine):DPut H a (kV k) v (upd H a (.dK (putK kvs k v))):=.inl ⟨kvs,k,e,rfl,hl,rfl⟩
theorem DPut.t {H:Hp} {a b:Addr} {kvs:List (List Key×V)} {k:List Key} {v:V} (e:H a=some (.dT kvs)) (eb:H b=some (.tup (k.map kV))) (hl:kvs.length<sizeLine) :
    DPut H a (.ref b) v (upd H a (.dT (putK kvs k v))):=.inr ⟨kvs,k,b,e,rfl,eb,hl,rfl⟩
section
variable {X:Cx} {pins:List (Addr×Obj)} {σ:St} {H:Hp} {s:Shared} {a:Addr} {y v:V} {u r:Value} {o:Option V} {A:Around} {E:Value→Shared→Prop}
theorem Inv.big (I:Inv X pins σ H s):sysModules<s.heap.objs.size:=by
  have h:mainGlobals<s.heap.objs.size:=(I.mod.glob.keeps I.bk).lt
  exact Nat.lt_trans (by decide) h
theorem d_getItem {Q:Value→Shared→Prop} (hu:A.units+1<cLine) (I:Inv X pins σ H s) (g:DGet H a y (some v)) (ry:RelV y u) (h:∀w' s',Inv X pins σ H s'→RelV v w'→Q w' s') :
    wpAny (model X.prog X.w) A (getItem (.ref a) u) Q E s:=by
  rcases g with ⟨kvs,k,e,ey,l⟩ | ⟨kvs,k,b,e,ey,eb,l⟩
  · subst ey
    obtain ⟨z,hd,vs,rel,dd⟩:=dk_rd I.hok e
    obtain ⟨w',hw,rw'⟩:=RelO.some_of (v:=v) (o:=valueAt vs k) (by rw [l];exact rel.val k)
    exact wpAny_getItem_of (kV_is ry) dd.mapOf hw (h w' _ (I.tok _) rw')
  · subst ey
    cases (show u=Value.ref b from ry)
    obtain ⟨z,hd,xs,rel,dd⟩:=dt_rd I.hok e
    obtain ⟨w',hw,rw'⟩:=RelO.some_of (v:=v) (o:=(atKey xs k).map (·.2)) (by rw [l];exact rel.val k)
    obtain ⟨p,hp,hp2⟩:=Option.map_eq_some_iff.mp hw
    refine wpAny_getItem_heap (tupleKind_room_in1 hu) (key_of I.hok eb) dd hp ?_
    rw [hp2]
    exact h w' _ (I.tok _) rw'
theorem d_notIn {Q:Value→Shared→Prop} (hu:A.units+1<cLine) (I:Inv X pins σ H s) (g:DGet H a y o) (ry:RelV y u) (h:∀s',Inv X pins σ H s'→Q (.bool (!o.isSome)) s') :
    wpAny (model X.prog X.w) A (compareOp .NotIn u (.ref a)) Q E s:=by
  rcases g with ⟨kvs,k,e,ey,l⟩ | ⟨kvs,k,b,e,ey,eb,l⟩
  · subst ey
    obtain ⟨z,hd,vs,rel,dd⟩:=dk_rd I.hok e
    refine wpAny_notIn_of (kV_is ry) hd dd.mapOf ?_
    rw [←(rel.val k).isSome_eq,←l]
    exact h _ (I.tok _)
  · subst ey
    cases (show u=Value.ref b from ry)
    obtain ⟨z,hd,xs,rel,dd⟩:=dt_rd I.hok e
    refine wpAny_notIn_heap (tupleKind_room_in1 hu) (key_of I.hok eb) hd dd ?_
    have q:=(rel.val k).isSome_eq
    rw [Option.isSome_map] at q
    rw [←q,←l]
    exact h _ (I.tok _)
theorem d_write {h':Heap} {t':Nat} {ob:HO} (I:Inv X pins σ H s) (mu:Mut (H a)) (hs:Heap.SameBut a s.heap h') (he:∃q,h'.get? a=some q) (new:ObjOk X.prog X.w (upd H a ob) h' a ob) :
    Inv X pins σ (upd H a ob) {s with heap:=h',toks:=t'} :=
  I.write (x:=a) (e:=a) mu (.inl rfl) (fun b q hb z=>(hs.2 b hb).trans z) he new
theorem dk_new {P:Program} {w:World} {H':Hp} {h':Heap} {kvs:List (Key×V)} {vs:List (Key×Value)} (z:kvs.length≤sizeLine) (hd:(a==sysModules)=false) (rel:KV kvs vs) (dd:h'.DictOf (mixKind P w) a vs) :
    ObjOk P w H' h' a (.dK kvs):=⟨z,hd,vs,rel,dd⟩
theorem d_setItem {H':Hp} {Q:Unit→Shared→Prop} (hu:A.units+1<cLine) (I:Inv X pins σ H s) (g:DPut H a y v H') (ry:RelV y u) (rv:RelV v r) (h:∀s',Inv X pins σ H' s'→Q () s') :
    wpAny (model X.prog X.w) A (setItem (.ref a) u r) Q E s:=by
  rcases g with ⟨kvs,k,e,ey,l,eH⟩ | ⟨kvs,k,b,e,ey,eb,l,eH⟩
  · subst ey eH
    obtain ⟨z,hd,vs,rel,dd⟩:=dk_of I.hok e
    have hz:vs.length≤sizeLine:=by rw [←rel.length];exact z
    have hl:(putK kvs k v).length≤sizeLine:=by have:=length_putK kvs k v;omega
    refine wpAny_setItem_pairs (hsz:=hz) (kV_is ry) dd fun h' dd' hs=>h _ ?_
    have he:∃q,h'.get? a=some q:=let ⟨q,_,_,hq,_⟩:=dd';⟨q,hq⟩
    exact d_write I (by rw [e];exact True.intro) hs he (dk_new hl hd (rel.put k rv) dd')
  · subst ey eH
    cases (show u=Value.ref b from ry)
    obtain ⟨z,hd,xs,rel,dd⟩:=dt_of I.hok e
    have hz:xs.length≤sizeLine:=by rw [←Paired.length rel];exact z
    have hl:(putK kvs k v).length≤sizeLine:=by have:=length_putK kvs k v;omega
    refine wpAny_setItem_heap (hsz:=hz) (tupleKind_room_in1 hu) (key_of I.hok eb) dd fun h' dd' hs=>h _ ?_
    obtain ⟨q,es,ep,hq,h2,h3,h4,_,h5⟩:=dd'
    refine d_write I (by rw [e];exact True.intro) hs ⟨q,hq⟩ ⟨hl,hd,_,(rel.put k eb rv).keeps fun c ys ec=>?_,q,es,ep,hq,h2,h3,h4,h5⟩
    rw [upd_ne (ne_of ec e (fun z=>nomatch z))]
    exact ec
end
section
variable {X:Cx} {pins:List (Addr×Obj)} {σ:St} {H:Hp} {s:Shared} {a:Addr} {kvs:List (Key×V)} {k:Key} {u:Value} {A:Around} {E:Value→Shared→Prop}
end
def NoSl (i:Expr):Prop:=∀ov iv,subscripted i false ov iv=operate [ov,iv] (getItem ov iv)
theorem subD_of {prog:Program} {w:World} {A:Around} {E:Value→Shared→Prop} {s:Shared} {env:Env} {value slice:Expr} {pos:Pos} {T id:String} {Q:Value→Shared→Prop}
    (hl:typeLookup (.type T) "__getitem__"=pure (some (.builtin id))) (hs:NoSl slice)
    (h:wpAny (model prog w) A (eval value env) (fun o s₁=>wpAny (model prog w) A (eval slice env) (fun i s₂=>s₂.TypeIs o T∧wpAny (model prog w) A (getItem o i) Q E s₂) E s₁) E s) :
    wpAny (model prog w) A (eval (.Subscript value slice pos) env) Q E s:=by
  refine Subscript_ (wpAny_mono h (fun o s₁ h₁=>wpAny_mono h₁ (fun i s₂ h₂=>?_) fun _ _ x=>x) fun _ _ x=>x)
  obtain ⟨hT,h₂⟩:=h₂
  unfold subscriptTail
  refine wpAny_bind ?_
  rw [getitemInPython_of_ne hT.not_modules]
  refine wpAny_bind (wpAny_specialOf hT hl ?_)
  have fin:wpAny (model prog w) A (subscripted slice false o i) (fun r s₃=>wpAny (model prog w) A (letTemporaryGo value o r >>= fun _=>pure r) Q E s₃) E s₂:=by
    rw [hs o i]
    exact wpAny_operating (wpAny_mono h₂ (fun r s₃ h₃=>wpAny_bind (wpAny_letTemporaryGo (wpAny_pure h₃))) fun _ _ x=>x)
  first
    | exact wpAny_pure (wpAny_bind fin)
    | exact wpAny_bind (wpAny_pure (wpAny_bind fin))
    | exact wpAny_bind fin
theorem dict_typeIs {X:Cx} {pins:List (Addr×Obj)} {σ:St} {H:Hp} {s:Shared} {a:Addr} {y:V} {o:Option V} (I:Inv X pins σ H s) (g:DGet H a y o):s.TypeIs (.ref a) "dict":=by
  rcases g with ⟨kvs,k,e,_,_⟩ | ⟨kvs,k,b,e,_,_,_⟩
  · obtain ⟨_,_,vs,_,dd⟩:=dk_rd I.hok e
    exact dd.typeIs
  · obtain ⟨_,_,xs,_,dd⟩:=dt_rd I.hok e
    exact dd.typeIs
def tDGet (td ty:TE):TE:=fun σ H Q=>td σ H fun x H1=>ty σ H1 fun y H2=>∃a v,x=.ref a∧DGet H2 a y (some v)∧Q v H2
def tDNotIn (ty td:TE):TE:=fun σ H Q=>ty σ H fun y H1=>td σ H1 fun x H2=>∃a o,x=.ref a∧DGet H2 a y o∧Q (.bl (!o.isSome)) H2
def sDPut (td ty tv:TE):TS:=fun D σ H=>tv σ H fun v H1=>td σ H1 fun x H2=>ty σ H2 fun y H3=>∃a H4,x=.ref a∧DPut H3 a y v H4∧D.nx σ H4
section
variable {X:Cx} {o i e value:Expr} {pos pos' tpos:Pos} {td ty tv:TE}
theorem pe_dget (hu:X.A.units+1<cLine) (ho:PE X o td) (hi:PE X i ty) (hs:NoSl i):PE X (.Subscript o i pos) (tDGet td ty):=by
  intro pins s σ H Q I h
  refine subD_of PySem.F.slot_dict_getitem.lookup hs (thn (ho pins s σ H _ I h) fun u s1 ⟨x,H1,I1,rx,q1⟩=>thn (hi pins s1 σ H1 _ I1 q1) fun iv s2 ⟨y,H2,I2,ry,a,v,ex,g,q2⟩=>?_)
  subst ex
  obtain rfl:u=Value.ref a:=rx
  exact ⟨dict_typeIs I2 g,d_getItem hu I2 g ry fun w' s3 I3 rw'=>⟨v,H2,I3,rw',q2⟩⟩
theorem pc_dnotin (hu:X.A.units+1<cLine) (hi:PE X i ty) (ho:PE X o td):PC X .NotIn i o (tDNotIn ty td):=by
  intro pins s σ H Q I h
  refine thn (hi pins s σ H _ I h) fun iv s1 ⟨y,H1,I1,ry,q1⟩=>thn (ho pins s1 σ H1 _ I1 q1) fun u s2 ⟨x,H2,I2,rx,a,ov,ex,g,q2⟩=>?_
  subst ex
  obtain rfl:u=Value.ref a:=rx
  exact d_notIn hu I2 g ry fun s3 I3=>⟨.bl (!ov.isSome),H2,I3,rfl,q2⟩
theorem ps_dput (hu:X.A.units+1<cLine) (ho:PE X o td) (hi:PE X i ty) (hv:PE X value tv) (hs:swapsWith value (some (.Subscript o i pos')) pos.line X.env=pure false) :
    PS X (.Assign [.Subscript o i pos'] value pos) (sDPut td ty tv):=by
  intro pins s σ H D I h
  refine wpAny_Assign_Subscript (thn (hv pins s σ H _ I h) fun r s1 ⟨v,H1,I1,rv,q1⟩=>thn (ho pins s1 σ H1 _ I1 q1) fun u s2 ⟨x,H2,I2,rx,q2⟩=>thn (hi pins s2 σ H2 _ I2 q2) fun iv s3 ⟨y,H3,I3,ry,a,H4,ex,g,q3⟩=>?_) hs
  subst ex
  obtain rfl:u=Value.ref a:=rx
  exact d_setItem hu I3 g ry rv fun s4 I4=>⟨σ,H4,I4,q3⟩
end
theorem dk_empty {P:Program} {w:World} {H:Hp} (h:Heap) (hb:sysModules<h.objs.size):ObjOk P w H (h.push {cls:=.type "dict",data:=.dict #[]}) h.objs.size (.dK []) :=
  ⟨Nat.zero_le _,beq_eq_false_iff_ne.mpr (Ne.symm (Nat.ne_of_lt hb)),[],.nil,Heap.DictOf.new h⟩
section
variable {X:Cx} {pos:Pos}
end
def tPairs:List (TE×TE)→St→Hp→(List (V×V)→Hp→Prop)→Prop
  | [],_,H,Q=>Q [] H
  | (tk,tv)::r,σ,H,Q=>tk σ H fun x H1=>tv σ H1 fun y H2=>tPairs r σ H2 fun ps H3=>Q ((x,y)::ps) H3
abbrev VV:List (V×V)→List (Value×Value)→Prop:=Paired fun p q=>RelV p.1 q.1∧RelV p.2 q.2
def PPs (X:Cx) (pos:Pos) (keys:List (Option Expr)) (values:List Expr) (trs:List (TE×TE)):Prop :=
  ∀(pins:List (Addr×Obj)) (s:Shared) (σ:St) (H:Hp) (Q:List (V×V)→Hp→Prop),Inv X pins σ H s→tPairs trs σ H Q →
    wpAny (model X.prog X.w) X.A (evalPairs (pairTrees keys values X.env pos)) (fun vs s'=>∃ps H',Inv X pins σ H' s'∧VV ps vs∧Q ps H') X.xe s
theorem pps_nil {X:Cx} {pos:Pos}:PPs X pos [] [] []:=fun pins s σ H Q I h=>pairTrees_nil_walk ⟨[],H,I,.nil,h⟩
theorem pps_cons {X:Cx} {pos:Pos} {k v:Expr} {ks:List (Option Expr)} {vs:List Expr} {tk tv:TE} {trs:List (TE×TE)} (hk:PE X k tk) (hv:PE X v tv) (hr:PPs X pos ks vs trs) :
    PPs X pos (some k::ks) (v::vs) ((tk,tv)::trs):=fun pins s σ H Q I h =>
  pairTrees_cons_walk (thn (hk pins s σ H _ I h) fun u s1 ⟨x,H1,I1,rx,q1⟩=>thn (hv pins s1 σ H1 _ I1 q1) fun w2 s2 ⟨y,H2,I2,ry,q2⟩ =>
    thn (hr pins s2 σ H2 _ I2 q2) fun ws s3 ⟨ps,H3,I3,rel,q3⟩=>⟨(x,y)::ps,H3,I3,.cons ⟨rx,ry⟩ rel,q3⟩)
def mergeK (kvs more:List (Key×V)):List (Key×V):=more.foldl (fun acc kv=>putK acc kv.1 kv.2) kvs
theorem KV.merge:∀{more:List (Key×V)} {rs:List (Key×Value)} {kvs:List (Key×V)} {vs:List (Key×Value)},KV more rs→KV kvs vs→KV (mergeK kvs more) (merged vs rs):=by
  intro more rs kvs vs r
  unfold KV at r
  induction r generalizing kvs vs with
  | nil=>intro q;exact q
  | @cons p q ps qs h t ih =>
    intro r0
    have e:KV (putK kvs p.1 p.2) (stored vs q.1 q.2):=by
      have:=r0.put p.1 h.2
      rw [←h.1];exact this
    exact ih e
theorem length_mergeK:∀(more kvs:List (Key×V)),(mergeK kvs more).length≤kvs.length+more.length
  | [],kvs=>by show kvs.length≤kvs.length+0;omega
  | p::r,kvs=>by
    have h1:=length_mergeK r (putK kvs p.1 p.2)
    have h2:=length_putK kvs p.1 p.2
    show (mergeK (putK kvs p.1 p.2) r).length≤_
    rw [List.length_cons];omega
theorem carries_of {P:Program} {w:World}:∀{kvs:List (Key×V)} {ws:List (Value×Value)},VV (kvs.map fun kv=>(kV kv.1,kv.2)) ws→∃rs,Carries (mixKind P w) ws rs∧KV kvs rs
  | [],_,r=>by rw [List.map_nil] at r;cases r;exact ⟨[],True.intro,.nil⟩
  | p::kvs,_,r=>by
    rw [List.map_cons] at r
    cases r with
    | @cons a b as bs h t =>
      obtain ⟨rs,c,q⟩:=carries_of (P:=P) (w:=w) t
      obtain ⟨b1,b2⟩:=b
      exact ⟨(p.1,b2)::rs,⟨kV_is h.1,rfl,c⟩,.cons ⟨rfl,h.2⟩ q⟩
def tDisp (trs:List (TE×TE)):TE:=fun σ H Q=>∀p,H p=none→tPairs trs σ (upd H p (.dK [])) fun ps H2=>H2 p=some (.dK [])∧∃kvs:List (Key×V),ps=kvs.map (fun kv=>(kV kv.1,kv.2))∧kvs.length≤15∧Q (.ref p) (upd H2 p (.dK (mergeK [] kvs)))
theorem pe_disp {X:Cx} {pos:Pos} {keys:List (Option Expr)} {values:List Expr} {trs:List (TE×TE)} (h:PPs X pos keys values trs) (hall:keys.all (·.isSome)=true) (hl:keys.length=values.length) (h0:keys≠[])
    (h15:keys.length≤15):PE X (.Dict keys values pos) (tDisp trs):=by
  intro pins s σ H Q I q
  have hn:=I.hok.fresh (Nat.le_refl s.heap.objs.size)
  have I1:=I.laid (a:=s.heap.objs.size) (o:=.dK []) (h':=s.heap.push {cls:=.type "dict",data:=.dict #[]}) (t':=s.toks) (fun _ _ q=>Heap.get?_push_of_some _ q) (Nat.le_refl _) (dk_empty s.heap I.big)
  refine wpAny_Dict_walk (knd:=mixKind X.prog X.w) hall hl h0 h15 (thn (h pins _ σ _ _ I1 (q _ hn)) fun ws s2 ⟨ps,H2,I2,rel,e,kvs,ep,lk,q2⟩=>?_)
  subst ep
  obtain ⟨rs,c,rk⟩:=carries_of (P:=X.prog) (w:=X.w) rel
  obtain ⟨z,hd,vs0,r0,dd⟩:=dk_of I2.hok e
  cases r0
  refine ⟨rs,c,dd,fun h' dd' hs=>⟨.ref s.heap.objs.size,_,?_,rfl,q2⟩⟩
  have hz:(mergeK [] kvs).length≤sizeLine:=by
    have h1:=length_mergeK kvs []
    rw [List.length_nil] at h1
    rw [sizeLine_eq];omega
  have he:∃q,h'.get? s.heap.objs.size=some q:=let ⟨q,_,_,hq,_⟩:=dd';⟨q,hq⟩
  exact d_write I2 (by rw [e];exact True.intro) hs he (dk_new hz hd (rk.merge .nil) dd')
structure M1 (X:Cx) (o:Expr) (m:Str) (apos:Pos) (e:Expr) (cpos:Pos):Prop where
  base:attributeBase o m X.env (eval o X.env)=eval o X.env
  few:((backTo cpos (starEach [e] X.env)).all (fun x=>!x.1)&&(backToKw cpos (keywordEach [] X.env)).all (fun x=>x.1.isSome)
    && decide (([e]:List Expr).length+([]:List Keyword).length+(if ([]:List Keyword).isEmpty then 0 else 1)<30))=true
  line:(apos.endLine==cpos.line)=true
  trees:backTo cpos (starEach [e] X.env)=[(false,eval e X.env)]
structure M2 (X:Cx) (o:Expr) (m:Str) (apos:Pos) (e f:Expr) (cpos:Pos):Prop where
  base:attributeBase o m X.env (eval o X.env)=eval o X.env
  few:((backTo cpos (starEach [e,f] X.env)).all (fun x=>!x.1)&&(backToKw cpos (keywordEach [] X.env)).all (fun x=>x.1.isSome)
    && decide (([e,f]:List Expr).length+([]:List Keyword).length+(if ([]:List Keyword).isEmpty then 0 else 1)<30))=true
  line:(apos.endLine==cpos.line)=true
  trees:backTo cpos (starEach [e,f] X.env)=[(false,eval e X.env),(false,eval f X.env)]
def IsD (H:Hp) (a:Addr):Prop:=(∃kvs,Rd H a (.dK kvs))∨∃kvs,Rd H a (.dT kvs)
theorem isD_at {X:Cx} {pins:List (Addr×Obj)} {σ:St} {H:Hp} {s:Shared} {a:Addr} (I:Inv X pins σ H s) (d:IsD H a) :
    s.TypeIs (.ref a) "dict"∧(∀b,Value.ref a=.ref b→∃ob,s.heap.get? b=some ob∧ob.dict=none)∧(a==sysModules)=false:=by
  rcases d with ⟨kvs,e⟩ | ⟨kvs,e⟩
  · obtain ⟨_,hd,vs,_,dd⟩:=dk_rd I.hok e
    refine ⟨dd.typeIs,fun b q=>?_,hd⟩
    cases q
    obtain ⟨ob,_,_,h1,h2,_⟩:=dd
    exact ⟨ob,h1,h2.2.1⟩
  · obtain ⟨_,hd,xs,_,dd⟩:=dt_rd I.hok e
    refine ⟨dd.typeIs,fun b q=>?_,hd⟩
    cases q
    obtain ⟨ob,_,_,h1,h2,_⟩:=dd
    exact ⟨ob,h1,h2.2.1⟩
section
variable {X:Cx} {pins:List (Addr×Obj)} {σ:St} {H:Hp} {s:Shared} {a:Addr} {y d:V} {u r:Value} {o:Option V} {A:Around} {E:Value→Shared→Prop}
theorem d_get1 {Q:Value→Shared→Prop} (hu:A.units+1<cLine) (I:Inv X pins σ H s) (g:DGet H a y o) (ry:RelV y u) (h:∀w' s',Inv X pins σ H s'→RelV (o.getD .non) w'→Q w' s') :
    wpAny (model X.prog X.w) A (call (.builtin "dict.get") [.ref a,u]) Q E s:=by
  rcases g with ⟨kvs,k,e,ey,l⟩ | ⟨kvs,k,b,e,ey,eb,l⟩
  · subst ey
    obtain ⟨z,hd,vs,rel,dd⟩:=dk_rd I.hok e
    refine call_meetsIn PySem.F.slot_dict_get dd.typeIs PySem.F.entry_dict_get (PySem.F.args_dict_get_2 _ _) (meets_dict_get (mixKind X.prog X.w) a (kV_is ry) hd) ⟨_,dd.mapOf,h _ _ (I.tok _) ?_⟩
    rw [l]
    exact (rel.val k).getD rfl
  · subst ey
    cases (show u=Value.ref b from ry)
    obtain ⟨z,hd,xs,rel,dd⟩:=dt_rd I.hok e
    refine call_meetsIn PySem.F.slot_dict_get dd.typeIs PySem.F.entry_dict_get (PySem.F.args_dict_get_2 _ _) (meetsH_dict_get (tupleKind (mixKind X.prog X.w)) a b hd) ⟨tupleKind_room_in1 hu,k,xs,key_of I.hok eb,dd,h _ _ (I.tok _) ?_⟩
    rw [l]
    exact (rel.val k).getD rfl
end
def tDGet1 (td ty:TE):TE:=fun σ H Q=>td σ H fun x H1=>∃a,x=.ref a∧IsD H1 a∧ty σ H1 fun y H2=>∃o,DGet H2 a y o∧Q (o.getD .non) H2
section
variable {X:Cx} {o e f:Expr} {apos cpos:Pos} {td ty tx:TE}
theorem pe_dget1 (hu:X.A.units+1<cLine) (ho:PE X o td) (he:PE X e ty) (m:M1 X o "get" apos e cpos):PE X (.Call (.Attribute o "get" apos) [e] [] cpos) (tDGet1 td ty):=by
  intro pins s σ H Q I h
  refine wpAny_Call_method m.base m.few m.line PySem.F.plainAttrs_dict PySem.F.slot_dict_get PySem.F.type_dict_get (thn (ho pins s σ H _ I h) fun u s1 ⟨x,H1,I1,rx,a,ex,d,q1⟩=>?_)
  subst ex
  obtain rfl:u=Value.ref a:=rx
  obtain ⟨t1,t2,_⟩:=isD_at I1 d
  refine ⟨t1,t2,?_⟩
  rw [m.trees]
  refine Calls.callWith_builtin rfl (Calls.evalArgs_plain (Calls.spliced_cons (thn (he pins s1 σ H1 _ I1 q1) fun iv s2 ⟨y,H2,I2,ry,ov,g,q2⟩=>Calls.spliced_nil ?_)))
  exact d_get1 hu I2 g ry fun w' s3 I3 rw'=>⟨_,H2,I3,rw',q2⟩
end
section
variable {X:Cx} {pins:List (Addr×Obj)} {σ:St} {H:Hp} {s:Shared} {a:Addr} {kvs:List (Key×V)} {A:Around} {E:Value→Shared→Prop}
end
section
variable {X:Cx} {pins:List (Addr×Obj)} {σ:St} {H:Hp} {s:Shared} {a:Addr} {y:V} {u:Value} {A:Around} {E:Value→Shared→Prop}
end
end L2
namespace L2
open PySem PySem.Spec PyProof.Rows
section
variable {κ:Type} [DecidableEq κ]
end
end L2
namespace L2
open PySem PySem.Spec PyProof.Rows
section
variable {X:Cx} {pins:List (Addr×Obj)} {σ:St} {H:Hp} {s:Shared} {a:Addr} {kvs:List (Key×V)} {k:Key} {u r:Value} {z:V} {A:Around} {E:Value→Shared→Prop}
end
section
variable {X:Cx} {o e f:Expr} {apos cpos p1 pos1:Pos} {td ty tx:TE}
end
end L2
namespace L2
inductive Cn (es:List (Int×Int)):Int→Int→Prop
  | refl (a:Int):Cn es a a
  | fwd {a:Int} {e:Int×Int}:Cn es a e.1→e∈es→Cn es a e.2
  | bwd {a:Int} {e:Int×Int}:Cn es a e.2→e∈es→Cn es a e.1
theorem Cn.trans {es:List (Int×Int)} {a b c:Int} (h:Cn es a b) (h2:Cn es b c):Cn es a c:=by
  induction h2 with
  | refl=>exact h
  | fwd _ he ih=>exact .fwd ih he
  | bwd _ he ih=>exact .bwd ih he
theorem Cn.tie {es:List (Int×Int)} {e:Int×Int} (h:e∈es):Cn es e.1 e.2:=.fwd (.refl _) h
theorem Cn.eit {es:List (Int×Int)} {e:Int×Int} (h:e∈es):Cn es e.2 e.1:=.bwd (.refl _) h
theorem Cn.symm {es:List (Int×Int)} {a b:Int} (h:Cn es a b):Cn es b a:=by
  induction h with
  | refl=>exact .refl _
  | fwd _ he ih=>exact (Cn.eit he).trans ih
  | bwd _ he ih=>exact (Cn.tie he).trans ih
theorem Cn.map {es es':List (Int×Int)} {g:Int→Int} (hg:∀e∈es,Cn es' (g e.1) (g e.2)) {a b:Int} (h:Cn es a b):Cn es' (g a) (g b):=by
  induction h with
  | refl=>exact .refl _
  | fwd _ he ih=>exact ih.trans (hg _ he)
  | bwd _ he ih=>exact ih.trans (hg _ he).symm
theorem Cn.mono {es es':List (Int×Int)} (hs:∀e∈es,e∈es') {a b:Int} (h:Cn es a b):Cn es' a b:=Cn.map (g:=id) (fun e he=>Cn.tie (hs e he)) h
structure Lab (n:Int) (es:List (Int×Int)) (f:Int→Int):Prop where
  conn:∀p,0≤p→p<n→Cn es p (f p)
  same:∀e∈es,f e.1=f e.2
  low:∀p,0≤p→p<n→0≤f p∧f p≤p
theorem lab_cn {es:List (Int×Int)} {f:Int→Int} (h:∀e∈es,f e.1=f e.2) {a b:Int} (c:Cn es a b):f a=f b:=by
  induction c with
  | refl=>rfl
  | fwd _ he ih=>rw [ih,h _ he]
  | bwd _ he ih=>rw [ih,←h _ he]
theorem Lab.le {n:Int} {es:List (Int×Int)} {f g:Int→Int} (F:Lab n es f) (G:Lab n es g) {p:Int} (p0:0≤p) (p1:p<n):g p≤f p:=by
  have l:=F.low p p0 p1
  have e:=lab_cn G.same (F.conn p p0 p1)
  have:=G.low (f p) l.1 (by omega)
  omega
theorem Lab.iff {n:Int} {es:List (Int×Int)} {f:Int→Int} (F:Lab n es f) {p q:Int} (p0:0≤p) (p1:p<n) (q0:0≤q) (q1:q<n):f p=f q↔Cn es p q :=
  ⟨fun e=>(F.conn p p0 p1).trans (by rw [e];exact (F.conn q q0 q1).symm),fun c=>lab_cn F.same c⟩
theorem Lab.nil (n:Int):Lab n [] (fun p=>p):=⟨fun p _ _=>.refl p,fun e he=>(nomatch he),fun p h _=>⟨h,Int.le_refl _⟩⟩
theorem Lab.congr {n:Int} {es:List (Int×Int)} {f g:Int→Int} (F:Lab n es f) (hE:∀e∈es,0≤e.1∧e.1<n∧0≤e.2∧e.2<n) (h:∀p,0≤p→p<n→f p=g p):Lab n es g :=
  ⟨fun p p0 p1=>by rw [←h p p0 p1];exact F.conn p p0 p1,fun e he=>by
    have:=hE e he
    rw [←h _ this.1 this.2.1,←h _ this.2.2.1 this.2.2.2];exact F.same e he,fun p p0 p1=>by rw [←h p p0 p1];exact F.low p p0 p1⟩
def mrg (f:Int→Int) (e:Int×Int) (p:Int):Int:=if f p=max (f e.1) (f e.2) then min (f e.1) (f e.2) else f p
theorem Lab.merge {n:Int} {es:List (Int×Int)} {f:Int→Int} {e:Int×Int} (F:Lab n es f) (b:0≤e.1∧e.1<n∧0≤e.2∧e.2<n):Lab n (es++[e]) (mrg f e):=by
  have l1:=F.low e.1 b.1 b.2.1
  have l2:=F.low e.2 b.2.2.1 b.2.2.2
  have up:∀{x y:Int},Cn es x y→Cn (es++[e]) x y:=fun c=>c.mono fun a ha=>List.mem_append_left _ ha
  have me:e∈es++[e]:=List.mem_append_right _ (List.mem_singleton.mpr rfl)
  have c1:Cn (es++[e]) (f e.1) (f e.2):=(up (F.conn e.1 b.1 b.2.1)).symm.trans ((Cn.tie me).trans (up (F.conn e.2 b.2.2.1 b.2.2.2)))
  refine ⟨fun p p0 p1=>?_,fun a ha=>?_,fun p p0 p1=>?_⟩
  · have cp:=up (F.conn p p0 p1)
    unfold mrg
    by_cases h:f p=max (f e.1) (f e.2)
    · rw [if_pos h]
      rw [h] at cp
      by_cases g:f e.1≤f e.2
      · rw [Int.max_eq_right g] at cp;rw [Int.min_eq_left g];exact cp.trans c1.symm
      · rw [Int.max_eq_left (by omega)] at cp;rw [Int.min_eq_right (by omega)];exact cp.trans c1
    · rw [if_neg h];exact cp
  · rcases List.mem_append.mp ha with y | y
    · unfold mrg;rw [F.same a y]
    · have ea:a=e:=List.mem_singleton.mp y
      subst ea
      unfold mrg
      have h1:f a.1≤f a.2∨f a.2<f a.1:=by omega
      rcases h1 with g | g
      · rw [Int.max_eq_right g,Int.min_eq_left g,if_pos rfl];split<;>omega
      · rw [Int.max_eq_left (by omega),Int.min_eq_right (by omega),if_pos rfl];split<;>omega
  · have:=F.low p p0 p1
    unfold mrg
    by_cases h:f p=max (f e.1) (f e.2)
    · rw [if_pos h];omega
    · rw [if_neg h];exact this
def grp (n:Nat) (f:Int→Int) (r:Int):List Int:=((List.range n).filter fun (p:Nat)=>decide (f (p:Int)=r)).map fun (p:Nat)=>(p:Int)
theorem mem_grp {n:Nat} {f:Int→Int} {r p:Int}:p∈grp n f r↔0≤p∧p<n∧f p=r:=by
  unfold grp
  rw [List.mem_map]
  constructor
  · rintro ⟨m,hm,rfl⟩
    rw [List.mem_filter,List.mem_range,decide_eq_true_eq] at hm
    exact ⟨by omega,by omega,hm.2⟩
  · rintro ⟨h0,h1,h2⟩
    refine ⟨p.toNat,?_,by omega⟩
    rw [List.mem_filter,List.mem_range,decide_eq_true_eq]
    have e:((p.toNat:Nat):Int)=p:=by omega
    rw [e];exact ⟨by omega,h2⟩
end L2
namespace L2
open PySem
theorem nodup_sub {α:Type} [DecidableEq α]:∀{l l':List α},l.Nodup→(∀a∈l,a∈l')→l.length≤l'.length
  | [],_,_,_=>Nat.zero_le _
  | a::l,l',h,s=>by
    rw [List.nodup_cons] at h
    have ha:=s a List.mem_cons_self
    have:=nodup_sub (l:=l) (l':=l'.erase a) h.2 fun b hb=>(List.mem_erase_of_ne (fun (z:b=a)=>h.1 (z▸hb))).mpr (s b (List.mem_cons_of_mem _ hb))
    rw [List.length_erase_of_mem ha] at this
    have:0<l'.length:=List.length_pos_of_mem ha
    rw [List.length_cons];omega
theorem nodup_len {rs:List Int} {m:Int} (h:rs.Nodup) (b:∀p∈rs,0≤p∧p<m):rs.length≤m.toNat:=by
  have:=nodup_sub (l':=(List.range m.toNat).map fun (i:Nat)=>(i:Int)) h fun p hp=>by
    have:=b p hp
    exact List.mem_map.mpr ⟨p.toNat,List.mem_range.mpr (by omega),by omega⟩
  rwa [List.length_map,List.length_range] at this
theorem nodup_snoc {α:Type} {l:List α} {a:α} (h:l.Nodup) (n:¬a∈l):(l++[a]).Nodup:=by
  rw [List.nodup_append]
  refine ⟨h,by simp,fun x hx y hy e=>?_⟩
  rw [List.mem_singleton.mp hy] at e
  exact n (e▸hx)
def atP (p:Int) (e:Int×Int):Bool:=e.1==p||e.2==p
theorem inV_at (p a b:Int):inV (.int p) [.int a,.int b]=atP p (a,b):=by
  have:=inV_ints p [a,b]
  rw [show [V.int a,V.int b]=[a,b].map V.int from rfl,this]
  simp [atP]
theorem atP_iff {p:Int} {e:Int×Int}:atP p e=true↔e.1=p∨e.2=p:=by
  unfold atP
  rw [Bool.or_eq_true,beq_iff_eq,beq_iff_eq]
def far (e:Int×Int) (p:Int):Int:=if e.1=p then e.2 else e.1
def tieOf (es:List (Int×Int)) (t:Int):Int×Int:=es.getD t.toNat (0,0)
def sub (es:List (Int×Int)) (ss:List Int):List (Int×Int):=ss.map (tieOf es)
theorem far_cn {es:List (Int×Int)} {e:Int×Int} (h:e∈es) {p:Int} (hp:e.1=p∨e.2=p):Cn es p (far e p):=by
  unfold far
  by_cases c:e.1=p
  · rw [if_pos c,←c];exact Cn.tie h
  · rw [if_neg c]
    rcases hp with y | y
    · exact absurd y c
    · rw [←y];exact Cn.eit h
theorem far_end (e:Int×Int) {p:Int} (hp:e.1=p∨e.2=p):e.1=far e p∨e.2=far e p:=by
  unfold far
  by_cases c:e.1=p
  · rw [if_pos c];exact .inr rfl
  · rw [if_neg c];exact .inl rfl
inductive Way (es:List (Int×Int)) (ss:List Int) (a:Int):List Int→List Int→Int→Prop
  | nil:Way es ss a [] [] a
  | snoc {ts ps:List Int} {p t:Int}:Way es ss a ts ps p→t∈ss→0≤t→t<(es.length:Int)→((tieOf es t).1=p∨(tieOf es t).2=p)→¬far (tieOf es t) p∈ps++[p]→Way es ss a (ts++[t]) (ps++[p]) (far (tieOf es t) p)
theorem Way.nd {es:List (Int×Int)} {ss ts ps:List Int} {a p:Int} (h:Way es ss a ts ps p):(ps++[p]).Nodup:=by
  induction h with
  | nil=>simp
  | snoc _ _ _ _ _ hn ih=>exact nodup_snoc ih hn
theorem Way.len {es:List (Int×Int)} {ss ts ps:List Int} {a p:Int} (h:Way es ss a ts ps p):ts.length=ps.length:=by
  induction h with
  | nil=>rfl
  | snoc _ _ _ _ _ _ ih=>rw [List.length_append,List.length_append,ih];rfl
theorem Way.ends {es:List (Int×Int)} {ss ts ps:List Int} {a p:Int} (h:Way es ss a ts ps p):∀t∈ts,(tieOf es t).1∈ps++[p]∧(tieOf es t).2∈ps++[p]:=by
  induction h with
  | nil=>exact fun t ht=>nomatch ht
  | @snoc ts ps p t _ _ _ _ hp _ ih =>
    intro t' ht'
    rcases List.mem_append.mp ht' with y | y
    · exact ⟨List.mem_append_left _ (ih t' y).1,List.mem_append_left _ (ih t' y).2⟩
    · rw [List.mem_singleton.mp y]
      have mp:p∈(ps++[p])++[far (tieOf es t) p]:=List.mem_append_left _ (List.mem_append_right _ (List.mem_singleton.mpr rfl))
      have mf:far (tieOf es t) p∈(ps++[p])++[far (tieOf es t) p]:=List.mem_append_right _ (List.mem_singleton.mpr rfl)
      by_cases c:(tieOf es t).1=p
      · have e2:far (tieOf es t) p=(tieOf es t).2:=if_pos c
        rw [c];exact ⟨mp,by rw [←e2];exact mf⟩
      · have e1:far (tieOf es t) p=(tieOf es t).1:=if_neg c
        have e2:(tieOf es t).2=p:=hp.resolve_left c
        rw [e2];exact ⟨by rw [←e1];exact mf,mp⟩
theorem Way.fresh {es:List (Int×Int)} {ss ts ps:List Int} {a p t:Int} (h:Way es ss a ts ps p) (hp:(tieOf es t).1=p∨(tieOf es t).2=p) (hn:¬far (tieOf es t) p∈ps++[p]):¬t∈ts:=fun ht=>by
  have:=h.ends t ht
  rcases far_end (tieOf es t) hp with y | y
  · exact hn (y▸this.1)
  · exact hn (y▸this.2)
theorem Way.tnd {es:List (Int×Int)} {ss ts ps:List Int} {a p:Int} (h:Way es ss a ts ps p):ts.Nodup:=by
  induction h with
  | nil=>simp
  | snoc h _ _ _ hp hn ih=>exact nodup_snoc ih (h.fresh hp hn)
theorem Way.sub {es:List (Int×Int)} {ss ts ps:List Int} {a p:Int} (h:Way es ss a ts ps p):∀t∈ts,t∈ss∧0≤t∧t<(es.length:Int):=by
  induction h with
  | nil=>exact fun t ht=>nomatch ht
  | snoc _ h1 h2 h3 _ _ ih =>
    intro t' ht'
    rcases List.mem_append.mp ht' with y | y
    · exact ih t' y
    · rw [List.mem_singleton.mp y];exact ⟨h1,h2,h3⟩
theorem valV_key (ad:Int→Addr) (k:Int):∀R:List Int,valV (R.map fun r=>((Sum.inl r:Key),V.ref (ad r))) (Sum.inl k)=if k∈R then some (V.ref (ad k)) else none
  | []=>rfl
  | r::R=>by
    rw [List.map_cons]
    by_cases e:r=k
    · subst e
      rw [valV_pos rfl,if_pos List.mem_cons_self]
    · rw [valV_neg (fun z=>e (Sum.inl.inj z)),valV_key ad k R]
      by_cases h:k∈R
      · rw [if_pos h,if_pos (List.mem_cons_of_mem _ h)]
      · rw [if_neg h,if_neg (fun z=>(List.mem_cons.mp z).elim (fun y=>e y.symm) h)]
theorem cn_closed {es:List (Int×Int)} {R:List Int} {a b:Int} (ha:a∈R) (hc:∀e∈es,∀p∈R,(e.1=p∨e.2=p)→far e p∈R) (h:Cn es a b):b∈R:=by
  induction h with
  | refl=>exact ha
  | fwd _ he ih=>have:=hc _ he _ ih (.inl rfl);rwa [show far _ _=_ from if_pos rfl] at this
  | @bwd e _ he ih =>
    have:=hc _ he _ ih (.inr rfl)
    unfold far at this
    by_cases c:e.1=e.2
    · rw [if_pos c] at this;rw [c];exact this
    · rwa [if_neg c] at this
end L2
namespace L2
structure Nam (n:Int) (es:List (Int×Int)) (f:Int→Int):Prop where
  conn:∀p,0≤p→p<n→Cn es p (f p)
  same:∀e∈es,f e.1=f e.2
  rng:∀p,0≤p→p<n→0≤f p∧f p<n
theorem Nam.iff {n:Int} {es:List (Int×Int)} {f:Int→Int} (F:Nam n es f) {p q:Int} (p0:0≤p) (p1:p<n) (q0:0≤q) (q1:q<n):f p=f q↔Cn es p q :=
  ⟨fun e=>(F.conn p p0 p1).trans (by rw [e];exact (F.conn q q0 q1).symm),fun c=>lab_cn F.same c⟩
theorem Nam.nil (n:Int):Nam n [] (fun p=>p):=⟨fun p _ _=>.refl p,fun e he=>(nomatch he),fun p h h'=>⟨h,h'⟩⟩
theorem Nam.congr {n:Int} {es:List (Int×Int)} {f g:Int→Int} (F:Nam n es f) (hE:∀e∈es,0≤e.1∧e.1<n∧0≤e.2∧e.2<n) (h:∀p,0≤p→p<n→f p=g p):Nam n es g :=
  ⟨fun p p0 p1=>by rw [←h p p0 p1];exact F.conn p p0 p1,fun e he=>by
    have:=hE e he
    rw [←h _ this.1 this.2.1,←h _ this.2.2.1 this.2.2.2];exact F.same e he,fun p p0 p1=>by rw [←h p p0 p1];exact F.rng p p0 p1⟩
theorem Nam.put {n:Int} {es:List (Int×Int)} {f:Int→Int} {e:Int×Int} (F:Nam n es f) (b:0≤e.1∧e.1<n∧0≤e.2∧e.2<n):Nam n (es++[e]) (fun p=>if f p=f e.2 then f e.1 else f p):=by
  have up:∀{x y:Int},Cn es x y→Cn (es++[e]) x y:=fun c=>c.mono fun a ha=>List.mem_append_left _ ha
  have me:e∈es++[e]:=List.mem_append_right _ (List.mem_singleton.mpr rfl)
  refine ⟨fun p p0 p1=>?_,fun a ha=>?_,fun p p0 p1=>?_⟩
  · have cp:=up (F.conn p p0 p1)
    by_cases h:f p=f e.2
    · try dsimp only
      rw [if_pos h]
      rw [h] at cp
      exact cp.trans ((up (F.conn e.2 b.2.2.1 b.2.2.2)).symm.trans ((Cn.eit me).trans (up (F.conn e.1 b.1 b.2.1))))
    · try dsimp only
      rw [if_neg h];exact cp
  · rcases List.mem_append.mp ha with y | y
    · try dsimp only
      rw [F.same a y]
    · have ea:a=e:=List.mem_singleton.mp y
      subst ea
      try dsimp only
      rw [if_pos rfl];split
      · rfl
      · rfl
  · try dsimp only
    split
    · exact F.rng _ b.1 b.2.1
    · exact F.rng p p0 p1
theorem Nam.skip {n:Int} {es:List (Int×Int)} {f:Int→Int} {e:Int×Int} (F:Nam n es f) (h:f e.1=f e.2):Nam n (es++[e]) f :=
  ⟨fun p p0 p1=>(F.conn p p0 p1).mono fun a ha=>List.mem_append_left _ ha,fun a ha=>by
    rcases List.mem_append.mp ha with y | y
    · exact F.same a y
    · rw [List.mem_singleton.mp y];exact h,F.rng⟩
theorem Lab.skip {n:Int} {es:List (Int×Int)} {f:Int→Int} {e:Int×Int} (F:Lab n es f) (h:f e.1=f e.2):Lab n (es++[e]) f :=
  ⟨fun p p0 p1=>(F.conn p p0 p1).mono fun a ha=>List.mem_append_left _ ha,fun a ha=>by
    rcases List.mem_append.mp ha with y | y
    · exact F.same a y
    · rw [List.mem_singleton.mp y];exact h,F.low⟩
noncomputable def inF (es:List (Int×Int)) (i:Nat):Bool:=@decide (¬Cn (es.take i) (es.getD i (0,0)).1 (es.getD i (0,0)).2) (Classical.propDecidable _)
theorem inF_iff {es:List (Int×Int)} {i:Nat}:inF es i=true↔¬Cn (es.take i) (es.getD i (0,0)).1 (es.getD i (0,0)).2:=by
  unfold inF;exact @decide_eq_true_iff _ (Classical.propDecidable _)
noncomputable def frN (es:List (Int×Int)) (n:Nat):List Int:=((List.range n).filter fun i=>inF es i).map fun (i:Nat)=>(i:Int)
noncomputable def frst (es:List (Int×Int)):List Int:=frN es es.length
theorem frN_succ (es:List (Int×Int)) (n:Nat):frN es (n+1)=frN es n++(if inF es n=true then [(n:Int)] else []):=by
  unfold frN
  rw [List.range_succ,List.filter_append,List.map_append]
  by_cases h:inF es n=true
  · rw [if_pos h,List.filter_cons_of_pos h];rfl
  · rw [if_neg h,List.filter_cons_of_neg h];rfl
theorem mem_frN {es:List (Int×Int)} {n:Nat} {t:Int}:t∈frN es n↔0≤t∧t<n∧inF es t.toNat=true:=by
  unfold frN
  rw [List.mem_map]
  constructor
  · rintro ⟨m,hm,rfl⟩
    rw [List.mem_filter,List.mem_range] at hm
    exact ⟨by omega,by omega,hm.2⟩
  · rintro ⟨h0,h1,h2⟩
    exact ⟨t.toNat,List.mem_filter.mpr ⟨List.mem_range.mpr (by omega),h2⟩,by omega⟩
theorem frN_len (es:List (Int×Int)) (n:Nat):(frN es n).length≤n:=by
  unfold frN
  rw [List.length_map]
  exact Nat.le_trans (List.length_filter_le _ _) (by rw [List.length_range];exact Nat.le_refl _)
def upto (n:Nat):List Int:=(List.range n).map fun (i:Nat)=>(i:Int)
def oth (n:Nat) (t:Int):List Int:=(upto n).filter fun z=>decide (z≠t)
theorem upto_len (n:Nat):(upto n).length=n:=by unfold upto;rw [List.length_map,List.length_range]
theorem upto_get {n i:Nat} (h:i<n):(upto n)[i]?=some (i:Int):=by unfold upto;rw [List.getElem?_map,List.getElem?_range h];rfl
theorem mem_upto {n:Nat} {t:Int}:t∈upto n↔0≤t∧t<n:=by
  unfold upto
  rw [List.mem_map]
  constructor
  · rintro ⟨m,hm,rfl⟩
    rw [List.mem_range] at hm
    omega
  · rintro ⟨h0,h1⟩
    exact ⟨t.toNat,List.mem_range.mpr (by omega),by omega⟩
theorem upto0 (n:Nat):((List.range n).map fun i=>0+((i:Nat):Int))=upto n:=by
  unfold upto
  exact List.map_congr_left fun i _=>Int.zero_add _
noncomputable def fre (es:List (Int×Int)):List Int:=(upto es.length).filter fun z=>!((frst es).any (·==z))
end L2
namespace L2
open PySem PySem.Spec PyProof.Rows
theorem Vals.intsAre:∀{ns:List Int} {us:List Value},Vals (ns.map V.int) us→IntsAre us ns
  | [],_,.nil=>.nil
  | _::_,_,.cons r t=>by obtain ⟨k,rfl⟩:=r;exact .cons _ _ (Vals.intsAre t)
theorem IntsAre.vals:∀{ns:List Int} {us:List Value},IntsAre us ns→Vals (ns.map V.int) us
  | _,_,.nil=>.nil
  | _,_,.cons _ _ t=>.cons ⟨_,rfl⟩ (IntsAre.vals t)
section
variable {X:Cx} {K:PySem.W.Frag}
theorem cSorted (hK:X.K=K):CallR X (.builtin "sorted") (fun xs H Q=>∃(p:Addr) (ns:List Int),xs=[.ref p]∧SqL K H p (ns.map V.int)∧ns.length<64∧∀(l:Addr) (ns':List Int),H l=none→ns'.Perm ns→ns'.Pairwise (·≤·)→Q (.ref l) (upd H l (.lst (ns'.map V.int)))):=by
  subst hK
  intro pins s σ H xs us Q I r h
  obtain ⟨p,ns,rfl,hq,hz,q⟩:=h
  obtain ⟨u,rfl,rx⟩:=vals1 r
  cases rx
  obtain ⟨its,rv,pl,hzz⟩:=I.list hq
  have hlen:=rv.length
  rw [List.length_map] at hlen
  refine sorted_ints pl.isList (Vals.intsAre rv) (by omega) fun out ns' a1 a2 a3=>?_
  obtain ⟨e,he⟩:=sortedAll_at s.heap its out
  have hl':=a2.length_eq
  exact ⟨.ref _,_,I.laid (t':=s.toks) (fun _ _=>sortedAll_old) (Nat.le_succ _) (show ObjOk X.prog X.w _ (sortedAll s.heap its out) _ (.lst (ns'.map V.int)) from ⟨by rw [List.length_map];exact Nat.le_of_lt (small1000 (by omega)),out.toList,e,IntsAre.vals a1,he⟩),rfl,q _ ns' (I.hok.fresh (Nat.le_succ _)) a2 a3⟩
end
theorem sorted_uniq:∀{a b:List Int},a.Perm b→a.Pairwise (·≤·)→b.Pairwise (·≤·)→a=b:=fun h ha hb=>h.eq_of_pairwise (le:=(·≤·)) (fun _ _ _ _ x y=>Int.le_antisymm x y) ha hb
end L2
namespace L2
open PySem PySem.Spec PyProof.Rows
def lf (ls:List Int) (p:Int):Int:=ls.getD p.toNat 0
theorem lf_range (n:Nat) (p:Int) (p0:0≤p) (p1:p<n):lf ((List.range n).map fun i=>0+((i:Nat):Int)) p=p:=by
  unfold lf
  rw [List.getD_eq_getElem?_getD,List.getElem?_map,List.getElem?_range (by omega)]
  show 0+((p.toNat:Nat):Int)=p
  omega
theorem lf_map (ls:List Int) (g:Int→Int) (p:Int) (p0:0≤p) (p1:p<ls.length):lf (ls.map g) p=g (lf ls p):=by
  unfold lf
  rw [List.getD_eq_getElem?_getD,List.getElem?_map,List.getD_eq_getElem?_getD,List.getElem?_eq_getElem (show p.toNat<ls.length by omega)];rfl
theorem none_back {H0 H':Hp} {l:Addr} (s:Same H0 H') (n:H' l=none):H0 l=none:=by
  cases e:H0 l with
  | none=>rfl
  | some o=>have:=s _ _ e;rw [n] at this;cases this
theorem tie_get {K:PySem.W.Frag} {H:Hp} {ys:List V} {es:List (Int×Int)} {t:Int} (hp:Pairs K H ys es) (h0:0≤t) (h1:t<(es.length:Int)):∃r,atI ys t=some (.ref r)∧SqT K H r [.int (tieOf es t).1,.int (tieOf es t).2]∧tieOf es t∈es:=by
  have hi:t.toNat<es.length:=by omega
  obtain ⟨r,e,er,hr,ei,he⟩:=hp.get hi
  have e0:tieOf es t=e:=by unfold tieOf;rw [List.getD_eq_getElem?_getD,ei];rfl
  rw [e0]
  exact ⟨r,atI_int h0 er,hr,he⟩
theorem Nam.start (n:Nat) (m:Int) (h:m.toNat=n):Nam m [] (lf ((List.range n).map fun i=>0+((i:Nat):Int))):=(Nam.nil m).congr (fun e he=>(nomatch he)) fun p p0 p1=>(lf_range n p p0 (by omega)).symm
def dT (es:List (Int×Int)):PyData:=.tuple (es.map dP)
end L2
namespace L2
open PySem
def dp (p:Int) (es:List (Int×Int)) (fs:List Int):Nat→Int
  | 0=>0
  | i+1=>dp p es fs i+(if (es.getD i (0,0)).2=p then fs.getD i 0 else 0)-(if (es.getD i (0,0)).1=p then fs.getD i 0 else 0)
theorem dp_step {es:List (Int×Int)} {fs zs:List Int} {n i:Nat} {e:Int×Int} (hz:zs.length=n) (hi:es[i]?=some e) (b1:0≤e.1) (b2:e.1<(n:Int)) (b3:0≤e.2) (b4:e.2<(n:Int)) (h:∀p:Nat,p<n→zs.getD p 0=dp p es fs i) (p:Nat) (hp:p<n) :
    ((zs.set e.1.toNat (zs.getD e.1.toNat 0-fs.getD i 0)).set e.2.toNat ((zs.set e.1.toNat (zs.getD e.1.toNat 0-fs.getD i 0)).getD e.2.toNat 0+fs.getD i 0)).getD p 0=dp p es fs (i+1):=by
  have hE:es.getD i (0,0)=e:=by rw [List.getD_eq_getElem?_getD,hi];rfl
  have h0:=h p hp
  rw [getD_set (by rw [List.length_set];omega),getD_set (by omega),getD_set (by omega)]
  show _=dp p es fs i+_-_
  rw [hE,←h0]
  generalize fs.getD i 0=a
  have t1:e.1.toNat=p↔e.1=(p:Int):=by omega
  have t2:e.2.toNat=p↔e.2=(p:Int):=by omega
  by_cases c2:e.2=(p:Int)
  · rw [if_pos (t2.mpr c2),if_pos c2,t2.mpr c2]
    by_cases c1:e.1=(p:Int)
    · rw [if_pos (t1.mpr c1),if_pos c1,t1.mpr c1];omega
    · rw [if_neg (fun z=>c1 (t1.mp z)),if_neg c1];omega
  · rw [if_neg (fun z=>c2 (t2.mp z)),if_neg c2]
    by_cases c1:e.1=(p:Int)
    · rw [if_pos (t1.mpr c1),if_pos c1,t1.mpr c1];omega
    · rw [if_neg (fun z=>c1 (t1.mp z)),if_neg c1];omega
def memI (ps:List Int) (z:Int):Bool:=ps.any (·==z)
def ac (ps:List Int) (es:List (Int×Int)) (fs:List Int):Nat→Int
  | 0=>0
  | i+1=>ac ps es fs i+(if (memI ps (es.getD i (0,0)).1&&!memI ps (es.getD i (0,0)).2)=true then fs.getD i 0 else 0)-(if (memI ps (es.getD i (0,0)).2&&!memI ps (es.getD i (0,0)).1)=true then fs.getD i 0 else 0)
theorem getD_map0 (z:Int) (fs:List Int) (n:Nat):(fs.map (z*·)).getD n 0=z*fs.getD n 0:=by
  rw [List.getD_eq_getElem?_getD,List.getElem?_map,List.getD_eq_getElem?_getD]
  cases fs[n]? with
  | none=>exact (Int.mul_zero z).symm
  | some v=>rfl
theorem dp_map (p z:Int) (es:List (Int×Int)) (fs:List Int):∀n,dp p es (fs.map (z*·)) n=z*dp p es fs n
  | 0=>(Int.mul_zero z).symm
  | n+1=>by
    show dp p es (fs.map (z*·)) n+_-_=z*(dp p es fs n+_-_)
    rw [dp_map p z es fs n,getD_map0,Int.mul_sub,Int.mul_add]
    by_cases c1:(es.getD n (0,0)).2=p<;>by_cases c2:(es.getD n (0,0)).1=p<;>simp only [c1,c2,if_true,if_false,Int.mul_zero]
theorem getD_zip (fs gs:List Int) (h:fs.length=gs.length) (n:Nat):(List.zipWith (·+·) fs gs).getD n 0=fs.getD n 0+gs.getD n 0:=by
  rw [List.getD_eq_getElem?_getD,List.getElem?_zipWith,List.getD_eq_getElem?_getD,List.getD_eq_getElem?_getD]
  by_cases hn:n<fs.length
  · rw [List.getElem?_eq_getElem hn,List.getElem?_eq_getElem (show n<gs.length by omega)];rfl
  · rw [List.getElem?_eq_none (by omega),List.getElem?_eq_none (show gs.length≤n by omega)];rfl
theorem dp_zip (p:Int) (es:List (Int×Int)) (fs gs:List Int) (h:fs.length=gs.length):∀n,dp p es (List.zipWith (·+·) fs gs) n=dp p es fs n+dp p es gs n
  | 0=>rfl
  | n+1=>by
    show dp p es (List.zipWith (·+·) fs gs) n+_-_=(dp p es fs n+_-_)+(dp p es gs n+_-_)
    rw [dp_zip p es fs gs h n,getD_zip fs gs h]
    by_cases c1:(es.getD n (0,0)).2=p<;>by_cases c2:(es.getD n (0,0)).1=p<;>simp only [c1,c2,if_true,if_false]<;>omega
theorem sum_pick (a z:Int):∀ps:List Int,ps.Nodup→(ps.map fun p=>if z=p then a else 0).sum=if memI ps z=true then a else 0
  | [],_=>rfl
  | p::ps,h=>by
    rw [List.nodup_cons] at h
    rw [List.map_cons,List.sum_cons,sum_pick a z ps h.2]
    show _=if ((p==z)||memI ps z)=true then a else 0
    by_cases c:z=p
    · subst c
      have hn:memI ps z=false:=by
        unfold memI
        rw [List.any_eq_false]
        intro y hy e
        rw [beq_iff_eq] at e
        exact h.1 (e▸hy)
      rw [hn,if_pos rfl,beq_self_eq_true];simp
    · have hb:(p==z)=false:=by rw [beq_eq_false_iff_ne];exact fun e=>c e.symm
      rw [if_neg c,hb,Bool.false_or,Int.zero_add]
theorem sum_three (A B C:Int→Int):∀ps:List Int,(ps.map fun p=>A p+B p-C p).sum=(ps.map A).sum+(ps.map B).sum-(ps.map C).sum
  | []=>rfl
  | p::ps=>by
    rw [List.map_cons,List.sum_cons,sum_three A B C ps,List.map_cons,List.map_cons,List.map_cons,List.sum_cons,List.sum_cons,List.sum_cons];omega
theorem ac_dp (ps:List Int) (hN:ps.Nodup) (es:List (Int×Int)) (fs:List Int):∀n,ac ps es fs n=-(ps.map fun p=>dp p es fs n).sum
  | 0=>by
    have:∀ps:List Int,(ps.map fun _=>(0:Int)).sum=0:=fun ps=>by
      induction ps with
      | nil=>rfl
      | cons p ps ih=>rw [List.map_cons,List.sum_cons,ih];rfl
    show (0:Int)=-(ps.map fun _=>(0:Int)).sum
    rw [this];rfl
  | n+1=>by
    have e:=sum_three (fun p=>dp p es fs n) (fun p=>if (es.getD n (0,0)).2=p then fs.getD n 0 else 0) (fun p=>if (es.getD n (0,0)).1=p then fs.getD n 0 else 0) ps
    rw [sum_pick _ _ _ hN,sum_pick _ _ _ hN] at e
    show ac ps es fs n+_-_=-(ps.map fun p=>dp p es fs n+(if (es.getD n (0,0)).2=p then fs.getD n 0 else 0)-(if (es.getD n (0,0)).1=p then fs.getD n 0 else 0)).sum
    rw [e,ac_dp ps hN es fs n]
    cases memI ps (es.getD n (0,0)).1<;>cases memI ps (es.getD n (0,0)).2<;>simp<;>omega
theorem ac_zero {ps:List Int} (hN:ps.Nodup) {es:List (Int×Int)} {fs:List Int} {n:Nat} (h:∀p:Int,dp p es fs n=0):ac ps es fs n=0:=by
  rw [ac_dp ps hN es fs n]
  have:∀ps:List Int,(ps.map fun p=>dp p es fs n).sum=0:=fun ps=>by
    induction ps with
    | nil=>rfl
    | cons p ps ih=>rw [List.map_cons,List.sum_cons,ih,h];rfl
  rw [this];rfl
theorem getDi_set (fs:List Int) (i n:Nat) (v:Int) (h:i<fs.length):(fs.set i v).getD n 0=if i=n then v else fs.getD n 0:=by
  rw [List.getD_eq_getElem?_getD,List.getElem?_set,List.getD_eq_getElem?_getD]
  by_cases c:i=n
  · rw [if_pos c,if_pos c,if_pos h];rfl
  · rw [if_neg c,if_neg c]
theorem dp_set (p:Int) (es:List (Int×Int)) (fs:List Int) (k:Nat) (v:Int) (hk:k<fs.length):∀n,dp p es (fs.set k v) n=dp p es fs n+(if k<n then (if (es.getD k (0,0)).2=p then v-fs.getD k 0 else 0)-(if (es.getD k (0,0)).1=p then v-fs.getD k 0 else 0) else 0)
  | 0=>by show (0:Int)=0+_;rw [if_neg (Nat.not_lt_zero _)];rfl
  | n+1=>by
    show dp p es (fs.set k v) n+_-_=dp p es fs n+_-_+_
    rw [dp_set p es fs k v hk n,getDi_set fs k n v hk]
    by_cases c:k=n
    · subst c
      rw [if_neg (Nat.lt_irrefl _),if_pos rfl,if_pos (Nat.lt_succ_self _)]
      by_cases c1:(es.getD k (0,0)).2=p<;>by_cases c2:(es.getD k (0,0)).1=p<;>simp only [c1,c2,if_true,if_false]<;>omega
    · rw [if_neg c]
      by_cases c3:k<n
      · rw [if_pos c3,if_pos (show k<n+1 by omega)];omega
      · rw [if_neg c3,if_neg (show ¬k<n+1 by omega)];omega
theorem dp_nil (p:Int) (es:List (Int×Int)) (k:Nat):∀n,dp p es (List.replicate k 0) n=0
  | 0=>rfl
  | n+1=>by
    show dp p es (List.replicate k 0) n+_-_=0
    have e:(List.replicate k (0:Int)).getD n 0=0:=by
      rw [List.getD_eq_getElem?_getD,List.getElem?_replicate];split<;>rfl
    rw [dp_nil p es k n,e];simp
theorem lab_ex {m:Int}:∀{es:List (Int×Int)},(∀e∈es,0≤e.1∧e.1<m∧0≤e.2∧e.2<m)→∀n,∃f,Lab m (es.take n) f
  | es,hE,0=>⟨_,Lab.nil m⟩
  | es,hE,n+1=>by
    obtain ⟨f,F⟩:=lab_ex hE n
    rw [List.take_add_one]
    cases h:es[n]? with
    | none=>exact ⟨f,by simpa using F⟩
    | some e=>exact ⟨_,F.merge (hE e (List.mem_of_getElem? h))⟩
theorem memI_iff {ps:List Int} {z:Int}:memI ps z=true↔z∈ps:=by
  unfold memI
  rw [List.any_eq_true]
  constructor
  · rintro ⟨x,hx,e⟩;rw [←beq_iff_eq.mp e];exact hx
  · exact fun h=>⟨z,h,beq_iff_eq.mpr rfl⟩
theorem grp_nd (n:Nat) (f:Int→Int) (r:Int):(grp n f r).Nodup:=by
  unfold grp
  rw [List.nodup_iff_pairwise_ne,List.pairwise_map]
  exact (List.Pairwise.filter _ List.pairwise_lt_range).imp fun h z=>by omega
theorem frst_cn (es:List (Int×Int)):∀n,n≤es.length→∀{a b:Int},Cn (es.take n) a b→Cn (sub es (frN es n)) a b
  | 0,_,_,_,h=>h.mono fun e he=>(by simp at he)
  | n+1,hn,a,b,h=>by
    have ih:∀{a b:Int},Cn (es.take n) a b→Cn (sub es (frN es (n+1))) a b:=fun h=>(frst_cn es n (by omega) h).mono fun e he=>by
      rw [frN_succ];unfold sub at *;rw [List.map_append];exact List.mem_append_left _ he
    have hg:es[n]?=some (es.getD n (0,0)):=by rw [List.getD_eq_getElem?_getD,List.getElem?_eq_getElem (show n<es.length by omega)];rfl
    refine Cn.map (g:=id) (fun e he=>?_) h
    rw [List.take_add_one,hg] at he
    rcases List.mem_append.mp he with y | y
    · exact ih (Cn.tie y)
    · have ee:e=es.getD n (0,0):=by simpa using y
      subst ee
      by_cases c:inF es n=true
      · refine Cn.tie ?_
        rw [frN_succ,if_pos c]
        unfold sub
        rw [List.map_append]
        exact List.mem_append_right _ (List.mem_singleton.mpr rfl)
      · exact ih (Classical.byContradiction fun z=>c (inF_iff.mpr z))
def cur (es:List (Int×Int)) (a:Int) (ts:List Int):Int:=ts.foldl (fun p t=>far (tieOf es t) p) a
theorem cur_snoc (es:List (Int×Int)) (a:Int) (ts:List Int) (t:Int):cur es a (ts++[t])=far (tieOf es t) (cur es a ts):=by unfold cur;rw [List.foldl_append];rfl
theorem Way.cur {es:List (Int×Int)} {ss ts ps:List Int} {a p:Int} (h:Way es ss a ts ps p):L2.cur es a ts=p:=by
  induction h with
  | nil=>rfl
  | snoc _ _ _ _ _ _ ih=>rw [cur_snoc,ih]
theorem Way.step {es:List (Int×Int)} {ss ts ps:List Int} {a p:Int} (h:Way es ss a ts ps p):∀i t,ts[i]?=some t→(tieOf es t).1=L2.cur es a (ts.take i)∨(tieOf es t).2=L2.cur es a (ts.take i):=by
  induction h with
  | nil=>intro i t e;simp at e
  | @snoc ts ps p t h _ _ _ hp _ ih =>
    intro i t' e
    by_cases c:i<ts.length
    · rw [List.getElem?_append_left c] at e
      rw [List.take_append_of_le_length (by omega)]
      exact ih i t' e
    · have hi:i=ts.length:=by
        have:=(List.getElem?_eq_some_iff.mp e).1
        rw [List.length_append] at this
        have e1:[t].length=1:=rfl
        omega
      subst hi
      rw [List.getElem?_append_right (Nat.le_refl _),Nat.sub_self] at e
      have et:t=t':=by simpa using e
      rw [List.take_left,h.cur,←et]
      exact hp
end L2
namespace L2
open PySem PySem.Spec PyProof.Rows
section
variable {X:Cx}
end
end L2
namespace L2
open PySem PySem.Spec PyProof.Rows
section
variable {X:Cx}
theorem op_fdivB:OpR X (binaryOp .FloorDiv) (rI (fun _ j=>0<j∧j<2^200) fun i j=>.int (i/j)):=opI fun i j _ _ _ _ _ hc q=>by
  have h1:(0:Int)<j:=hc.1
  have h2:j<2^200:=hc.2
  have h3:j.natAbs≠0:=by omega
  have h4:j.natAbs<2^200:=by omega
  exact floordiv_int (by omega) (by rw [Int.fdiv_eq_ediv_of_nonneg i (by omega)];exact q) (.inl (PyProof.noPylong_of_log2 (Nat.lt_of_lt_of_le ((Nat.log2_lt h3).mpr h4) (by decide))))
end
theorem flow_dvd {m k:Int} {es:List (Int×Int)} {fs:List Int} (hE:∀e∈es,0≤e.1∧e.1<m∧0≤e.2∧e.2<m) (hd:∀p:Int,dp p es fs es.length=0) (h0:∀t,t<es.length→¬inF es t=true→k∣fs.getD t 0):∀t,t<es.length→k∣fs.getD t 0:=by
  have key:∀n t,t<es.length→es.length≤t+n→k∣fs.getD t 0:=by
    intro n
    induction n with
    | zero=>intro t ht h;omega
    | succ n ih =>
      intro t ht h
      by_cases hF:inF es t=true
      · obtain ⟨f,F⟩:=lab_ex hE t
        have hg:es[t]?=some (es.getD t (0,0)):=by rw [List.getD_eq_getElem?_getD,List.getElem?_eq_getElem ht];rfl
        obtain ⟨b1,b2,b3,b4⟩:=hE _ (List.mem_of_getElem? hg)
        have hne:¬f (es.getD t (0,0)).1=f (es.getD t (0,0)).2:=fun z=>inF_iff.mp hF ((F.iff b1 b2 b3 b4).mp z)
        have hz:=ac_zero (grp_nd m.toNat f (f (es.getD t (0,0)).1)) hd
        have hmem:∀z:Int,0≤z→z<m→memI (grp m.toNat f (f (es.getD t (0,0)).1)) z=decide (f z=f (es.getD t (0,0)).1):=fun z z0 z1=>by
          rw [Bool.eq_iff_iff,memI_iff,mem_grp,decide_eq_true_iff]
          exact ⟨fun h=>h.2.2,fun h=>⟨z0,by omega,h⟩⟩
        have st:∀j,j≤es.length→k∣(ac (grp m.toNat f (f (es.getD t (0,0)).1)) es fs j-if t<j then fs.getD t 0 else 0):=by
          intro j
          induction j with
          | zero=>intro _;rw [if_neg (Nat.not_lt_zero _)];exact ⟨0,by rw [Int.mul_zero];rfl⟩
          | succ j ihj =>
            intro hj
            have ih1:=ihj (by omega)
            show k∣(ac _ es fs j+_-_-_)
            have hgn:es[j]?=some (es.getD j (0,0)):=by rw [List.getD_eq_getElem?_getD,List.getElem?_eq_getElem (show j<es.length by omega)];rfl
            obtain ⟨d1,d2,d3,d4⟩:=hE _ (List.mem_of_getElem? hgn)
            rw [hmem _ d1 d2,hmem _ d3 d4]
            by_cases c:j<t
            · have es1:f (es.getD j (0,0)).1=f (es.getD j (0,0)).2:=F.same _ (List.mem_take_iff_getElem.mpr ⟨j,by omega,by rw [List.getD_eq_getElem?_getD,List.getElem?_eq_getElem (show j<es.length by omega)];rfl⟩)
              rw [es1,if_neg (show ¬t<j+1 by omega)]
              rw [if_neg (show ¬t<j by omega)] at ih1
              cases decide (f (es.getD j (0,0)).2=f (es.getD t (0,0)).1)<;>simpa using ih1
            · by_cases c2:j=t
              · subst c2
                rw [decide_eq_true rfl,decide_eq_false (fun z=>hne z.symm),if_pos (Nat.lt_succ_self _)]
                rw [if_neg (Nat.lt_irrefl _)] at ih1
                have e:∀A B:Int,A+(if (true&&!false)=true then B else 0)-(if (false&&!true)=true then B else 0)-B=A-0:=fun A B=>by simp
                rw [e];exact ih1
              · obtain ⟨u,hu⟩:k∣fs.getD j 0:=ih j (by omega) (by omega)
                rw [if_pos (show t<j+1 by omega)]
                rw [if_pos (show t<j by omega)] at ih1
                obtain ⟨v,hv⟩:=ih1
                have e:∀(x y:Bool) (A B C:Int),A+(if (x&&!y)=true then C else 0)-(if (y&&!x)=true then C else 0)-B=(A-B)+C*((if x=true then 1 else 0)-(if y=true then 1 else 0)):=fun x y A B C=>by
                  cases x<;>cases y<;>simp<;>omega
                rw [hu,e,hv,Int.mul_assoc,←Int.mul_add]
                exact ⟨_,rfl⟩
        have:=st es.length (Nat.le_refl _)
        rw [if_pos ht,hz] at this
        obtain ⟨v,hv⟩:=this
        exact ⟨-v,by rw [Int.mul_neg];omega⟩
      · exact h0 t ht hF
  exact fun t ht=>key es.length t ht (by omega)
theorem fre_iff {es:List (Int×Int)} {k:Nat} (hk:k<es.length):(k:Int)∈fre es↔¬inF es k=true:=by
  unfold fre
  rw [List.mem_filter,mem_upto]
  have:(frst es).any (·==(k:Int))=true↔inF es k=true:=by
    rw [show (frst es).any (·==(k:Int))=memI (frst es) (k:Int) from rfl,memI_iff]
    unfold frst
    rw [mem_frN]
    exact ⟨fun h=>h.2.2,fun h=>⟨by omega,by omega,h⟩⟩
  constructor
  · rintro ⟨_,h⟩ z
    rw [this.mpr z] at h;cases h
  · intro h
    refine ⟨⟨by omega,by omega⟩,?_⟩
    rw [Bool.eq_false_iff.mpr fun z=>h (this.mp z)];rfl
theorem fre_nd (es:List (Int×Int)):(fre es).Nodup:=by
  unfold fre upto
  refine List.Nodup.sublist List.filter_sublist ?_
  rw [List.nodup_iff_pairwise_ne,List.pairwise_map]
  exact List.pairwise_lt_range.imp fun h z=>by omega
theorem fre_len (es:List (Int×Int)):(fre es).length≤es.length:=Nat.le_trans (List.length_filter_le _ _) (by rw [upto_len];exact Nat.le_refl _)
theorem mem_fre {es:List (Int×Int)} {t:Int} (h:t∈fre es):0≤t∧t<(es.length:Int):=mem_upto.mp (List.mem_filter.mp h).1
def FW (es:List (Int×Int)) (vs fs:List Int):Prop:=fs.length=es.length∧(∀p:Int,dp p es fs es.length=0)∧∀j,j<(fre es).length→fs.getD ((fre es).getD j 0).toNat 0=vs.getD j 0
theorem fre_at {es:List (Int×Int)} {t:Nat} (ht:t<es.length) (hn:¬inF es t=true):∃j,j<(fre es).length∧(fre es).getD j 0=(t:Int):=by
  obtain ⟨j,hj,e⟩:=List.mem_iff_getElem.mp ((fre_iff ht).mpr hn)
  exact ⟨j,hj,by rw [List.getD_eq_getElem?_getD,List.getElem?_eq_getElem hj];exact e⟩
theorem FW.rest {m k:Int} {es:List (Int×Int)} {vs ws fs gs:List Int} (hE:∀e∈es,0≤e.1∧e.1<m∧0≤e.2∧e.2<m) (hf:FW es vs fs) (hg:FW es ws gs) (h:∀j,j<(fre es).length→k∣ws.getD j 0-vs.getD j 0):(gs.map (·%k))=(fs.map (·%k)):=by
  have hl:gs.length=(fs.map ((-1)*·)).length:=by rw [List.length_map,hf.1,hg.1]
  have hz:=flow_dvd (k:=k) (fs:=List.zipWith (·+·) gs (fs.map ((-1)*·))) hE (fun p=>by rw [dp_zip p es _ _ hl,dp_map,hf.2.1 p,hg.2.1 p];rfl) fun t ht hn=>by
    obtain ⟨j,hj,e⟩:=fre_at ht hn
    have h1:=hf.2.2 j hj
    have h2:=hg.2.2 j hj
    rw [e,show ((t:Nat):Int).toNat=t by omega] at h1 h2
    rw [getD_zip _ _ hl,getD_map0,h1,h2,show ws.getD j 0+-1*vs.getD j 0=ws.getD j 0-vs.getD j 0 by omega]
    exact h j hj
  apply List.ext_getElem (by rw [List.length_map,List.length_map,hf.1,hg.1])
  intro t h1 h2
  rw [List.length_map] at h1 h2
  rw [List.getElem_map,List.getElem_map]
  have hg1:=hg.1
  obtain ⟨u,hu⟩:=hz t (by omega)
  rw [getD_zip _ _ hl,getD_map0,List.getD_eq_getElem?_getD,List.getElem?_eq_getElem h1,List.getD_eq_getElem?_getD,List.getElem?_eq_getElem h2] at hu
  have hu':gs[t]+-1*fs[t]=k*u:=hu
  rw [show gs[t]=fs[t]+k*u by omega,Int.add_mul_emod_self_left]
end L2
namespace L2
end L2
namespace L2
open PySem PySem.Spec PyProof.Rows
section
variable {X:Cx}
end
def Tch (es:List (Int×Int)) (L:List Int) (p:Int):Prop:=∃t∈L,(tieOf es t).1=p∨(tieOf es t).2=p
theorem cn_alone {es:List (Int×Int)} {L:List Int} {p q:Int} (h:¬Tch es L p) (c:Cn (sub es L) p q):q=p:=by
  have:=cn_closed (R:=[p]) (List.mem_singleton.mpr rfl) (fun e he r hr hx=>by
    obtain ⟨t,ht,rfl⟩:=List.mem_map.mp he
    rw [List.mem_singleton.mp hr] at hx
    exact absurd ⟨t,ht,hx⟩ h) c
  exact List.mem_singleton.mp this
theorem dp_loops {es:List (Int×Int)} {fs:List Int} {p:Int}:∀n,(∀k,k<n→((es.getD k (0,0)).1=p↔(es.getD k (0,0)).2=p))→dp p es fs n=0
  | 0,_=>rfl
  | n+1,h=>by
    show dp p es fs n+_-_=0
    rw [dp_loops n fun k hk=>h k (by omega)]
    have:=h n (by omega)
    by_cases c:(es.getD n (0,0)).2=p
    · rw [if_pos c,if_pos (this.mpr c)];omega
    · rw [if_neg c,if_neg (fun z=>c (this.mp z))];rfl
structure FlI (m:Int) (es:List (Int×Int)) (as:List Int) (L fs:List Int):Prop where
  len:fs.length=es.length
  nd:L.Nodup
  fr:∀t∈L,0≤t∧t<(es.length:Int)∧inF es t.toNat=true
  free:∀k,k<es.length→¬inF es k=true→fs.getD k 0=as.getD k 0
  nought:∀t∈L,fs.getD t.toNat 0=0
  done:∀p,0≤p→p<m→¬Tch es L p→dp p es fs es.length=0
  held:∀p q,Tch es L p→Tch es L q→Cn es p q→Cn (sub es L) p q
theorem frst_nd (es:List (Int×Int)):(frst es).Nodup:=by
  unfold frst frN
  rw [List.nodup_iff_pairwise_ne,List.pairwise_map]
  exact (List.Pairwise.filter _ List.pairwise_lt_range).imp fun h z=>by omega
theorem FlI.start {m:Int} {es:List (Int×Int)} {as:List Int} (hl:as.length=es.length) (h0:∀k,k<es.length→inF es k=true→as.getD k 0=0):FlI m es as (frst es) as:=by
  have hin:∀t∈frst es,0≤t∧t<(es.length:Int)∧inF es t.toNat=true:=fun t ht=>mem_frN.mp ht
  have hcn:∀{p q:Int},Cn es p q→Cn (sub es (frst es)) p q:=fun {p q} c=>frst_cn es es.length (Nat.le_refl _) (by rw [List.take_length];exact c)
  refine ⟨hl,frst_nd es,hin,fun k _ _=>rfl,fun t ht=>h0 _ (by have:=hin t ht;omega) (hin t ht).2.2,fun p p0 p1 hp=>?_,fun p q _ _ c=>hcn c⟩
  refine dp_loops es.length fun k hk=>?_
  have hm:es.getD k (0,0)∈es:=by rw [List.getD_eq_getElem?_getD,List.getElem?_eq_getElem hk];exact List.getElem_mem hk
  constructor
  · intro e
    have:=cn_alone hp (hcn (show Cn es p (es.getD k (0,0)).2 by rw [←e];exact Cn.tie hm))
    exact this
  · intro e
    have:=cn_alone hp (hcn (show Cn es p (es.getD k (0,0)).1 by rw [←e];exact Cn.eit hm))
    exact this
theorem FlI.step {m:Int} {es:List (Int×Int)} {as L fs:List Int} {u t w:Int} (hE:∀e∈es,0≤e.1∧e.1<m∧0≤e.2∧e.2<m) (I:FlI m es as L fs) (ht:t∈L) (hf:L.filter (fun s=>atP u (tieOf es s))=[t])
    (hw:w=if (tieOf es t).1=u then dp u es fs es.length else -(dp u es fs es.length)):FlI m es as (L.erase t) (fs.set t.toNat w):=by
  have htF:=I.fr t ht
  have htl:t.toNat<fs.length:=by rw [I.len];omega
  have hmt:tieOf es t∈es:=by unfold tieOf;rw [List.getD_eq_getElem?_getD,List.getElem?_eq_getElem (show t.toNat<es.length by omega)];exact List.getElem_mem _
  obtain ⟨b1,b2,b3,b4⟩:=hE _ hmt
  have hut:(tieOf es t).1=u∨(tieOf es t).2=u:=by
    have:t∈L.filter (fun s=>atP u (tieOf es s)):=by rw [hf];exact List.mem_singleton.mpr rfl
    exact atP_iff.mp (List.mem_filter.mp this).2
  have honly:∀s∈L,((tieOf es s).1=u∨(tieOf es s).2=u)→s=t:=fun s hs hx=>by
    have:s∈L.filter (fun s=>atP u (tieOf es s)):=List.mem_filter.mpr ⟨hs,atP_iff.mpr hx⟩
    rw [hf] at this
    exact List.mem_singleton.mp this
  have hne:(tieOf es t).1≠(tieOf es t).2:=fun z=>inF_iff.mp htF.2.2 (by
    show Cn _ (tieOf es t).1 (tieOf es t).2
    rw [←z];exact Cn.refl _)
  obtain ⟨v,hv⟩:∃v,v=far (tieOf es t) u:=⟨_,rfl⟩
  have huv:u≠v:=by
    rw [hv];unfold far
    by_cases c:(tieOf es t).1=u
    · rw [if_pos c,←c];exact hne
    · rw [if_neg c];exact fun z=>c z.symm
  have hends:∀x,((tieOf es t).1=x∨(tieOf es t).2=x)→x=u∨x=v:=fun x hx=>by
    rw [hv];unfold far
    by_cases c:(tieOf es t).1=u
    · rw [if_pos c]
      rcases hx with y | y
      · exact .inl (y.symm.trans c)
      · exact .inr y.symm
    · rw [if_neg c]
      have c2:=hut.resolve_left c
      rcases hx with y | y
      · exact .inr y.symm
      · exact .inl (y.symm.trans c2)
  have hcuv:Cn es u v:=by rw [hv];exact far_cn hmt hut
  have hsub:∀s∈L.erase t,s∈L∧s≠t:=fun s hs=>⟨List.mem_of_mem_erase hs,fun z=>by
    rw [z] at hs
    exact (List.Nodup.not_mem_erase I.nd) hs⟩
  have hback:∀s∈L,s≠t→s∈L.erase t:=fun s hs z=>(List.mem_erase_of_ne z).mpr hs
  have hnu:¬Tch es (L.erase t) u:=fun ⟨s,hs,hx⟩=>(hsub s hs).2 (honly s (hsub s hs).1 hx)
  have hdp:∀p:Int,dp p es (fs.set t.toNat w) es.length=dp p es fs es.length+((if (tieOf es t).2=p then w else 0)-(if (tieOf es t).1=p then w else 0)):=fun p=>by
    rw [dp_set p es fs t.toNat w htl,I.nought t ht,if_pos (show t.toNat<es.length by omega)]
    show _+((if (tieOf es t).2=p then w-0 else 0)-(if (tieOf es t).1=p then w-0 else 0))=_
    rw [Int.sub_zero]
  have hdu:dp u es (fs.set t.toNat w) es.length=0:=by
    rw [hdp u,hw]
    by_cases c:(tieOf es t).1=u
    · rw [if_pos c,if_pos c,if_neg (fun z=>hne (c.trans z.symm))];omega
    · rw [if_neg c,if_neg c,if_pos (hut.resolve_left c)];omega
  have hother:∀p,p≠u→p≠v→dp p es (fs.set t.toNat w) es.length=dp p es fs es.length:=fun p h1 h2=>by
    rw [hdp p,if_neg (fun z=>(hends p (.inr z)).elim h1 h2),if_neg (fun z=>(hends p (.inl z)).elim h1 h2)];omega
  have hmap:∀{p q:Int},p≠u→q≠u→Cn (sub es L) p q→Cn (sub es (L.erase t)) p q:=fun {p q} h1 h2 c=>by
    have:=Cn.map (es':=sub es (L.erase t)) (g:=fun x=>if x=u then v else x) (fun e he=>by
      obtain ⟨s,hs,rfl⟩:=List.mem_map.mp he
      by_cases cs:s=t
      · subst cs
        have e1:(if (tieOf es s).1=u then v else (tieOf es s).1)=v:=by
          by_cases c:(tieOf es s).1=u
          · rw [if_pos c]
          · rw [if_neg c];exact ((hends _ (.inl rfl)).resolve_left c)
        have e2:(if (tieOf es s).2=u then v else (tieOf es s).2)=v:=by
          by_cases c:(tieOf es s).2=u
          · rw [if_pos c]
          · rw [if_neg c];exact ((hends _ (.inr rfl)).resolve_left c)
        show Cn _ (if (tieOf es s).1=u then v else (tieOf es s).1) (if (tieOf es s).2=u then v else (tieOf es s).2)
        rw [e1,e2];exact Cn.refl _
      · have n1:¬(tieOf es s).1=u:=fun z=>cs (honly s hs (.inl z))
        have n2:¬(tieOf es s).2=u:=fun z=>cs (honly s hs (.inr z))
        show Cn _ (if (tieOf es s).1=u then v else (tieOf es s).1) (if (tieOf es s).2=u then v else (tieOf es s).2)
        rw [if_neg n1,if_neg n2]
        exact Cn.tie (List.mem_map.mpr ⟨s,hback s hs cs,rfl⟩)) c
    have e:Cn (sub es (L.erase t)) (if p=u then v else p) (if q=u then v else q):=this
    rwa [if_neg h1,if_neg h2] at e
  refine ⟨by rw [List.length_set];exact I.len,I.nd.erase t,fun s hs=>I.fr s (hsub s hs).1,fun k hk hn=>?_,fun s hs=>?_,fun p p0 p1 hp=>?_,fun p q hp hq c=>?_⟩
  · rw [getDi_set fs t.toNat k w htl,if_neg (show ¬t.toNat=k from fun z=>hn (z▸htF.2.2))]
    exact I.free k hk hn
  · have h1:=hsub s hs
    have h2:=I.fr s h1.1
    rw [getDi_set fs t.toNat s.toNat w htl,if_neg (fun z=>h1.2 (by omega))]
    exact I.nought s h1.1
  · by_cases c1:p=u
    · rw [c1];exact hdu
    · by_cases c2:p=v
      · subst c2
        obtain ⟨f,F⟩:=lab_ex hE es.length
        rw [List.take_length] at F
        have hz:ac (grp m.toNat f (f p)) es (fs.set t.toNat w) es.length=0:=by
          have:∀n,n≤es.length→ac (grp m.toNat f (f p)) es (fs.set t.toNat w) n=0:=by
            intro n
            induction n with
            | zero=>intro _;rfl
            | succ n ih =>
              intro hn
              show ac _ es (fs.set t.toNat w) n+_-_=0
              have hmn:es.getD n (0,0)∈es:=by rw [List.getD_eq_getElem?_getD,List.getElem?_eq_getElem (show n<es.length by omega)];exact List.getElem_mem _
              obtain ⟨d1,d2,d3,d4⟩:=hE _ hmn
              have es1:=F.same _ hmn
              have hmm:memI (grp m.toNat f (f p)) (es.getD n (0,0)).1=memI (grp m.toNat f (f p)) (es.getD n (0,0)).2:=by
                rw [Bool.eq_iff_iff,memI_iff,memI_iff,mem_grp,mem_grp,es1]
                exact ⟨fun h=>⟨d3,by omega,h.2.2⟩,fun h=>⟨d1,by omega,h.2.2⟩⟩
              rw [ih (by omega),hmm]
              cases memI (grp m.toNat f (f p)) (es.getD n (0,0)).2<;>simp
          exact this es.length (Nat.le_refl _)
        rw [ac_dp _ (grp_nd _ _ _)] at hz
        have hq0:∀q∈grp m.toNat f (f p),q≠p→dp q es (fs.set t.toNat w) es.length=0:=fun q hq hqp=>by
          have hq':=mem_grp.mp hq
          by_cases c3:q=u
          · rw [c3];exact hdu
          · rw [hother q c3 hqp]
            refine I.done q hq'.1 (by omega) fun hT=>?_
            have hTp:Tch es L p:=⟨t,ht,by
              rcases hut with y | y
              · exact .inr (by rw [hv];unfold far;rw [if_pos y])
              · by_cases c:(tieOf es t).1=u
                · exact .inr (by rw [hv];unfold far;rw [if_pos c])
                · exact .inl (by rw [hv];unfold far;rw [if_neg c])⟩
            have hc:=I.held p q hTp hT ((F.iff p0 p1 hq'.1 (by omega)).mp hq'.2.2.symm)
            have:=cn_alone hp (hmap c1 c3 hc)
            exact hqp this
        have hsum:∀R:List Int,R.Nodup→(∀q∈R,q≠p→dp q es (fs.set t.toNat w) es.length=0)→(R.map fun q=>dp q es (fs.set t.toNat w) es.length).sum=if p∈R then dp p es (fs.set t.toNat w) es.length else 0:=by
          intro R
          induction R with
          | nil=>intro _ _;rfl
          | cons q R ih =>
            intro hn hq
            rw [List.nodup_cons] at hn
            rw [List.map_cons,List.sum_cons,ih hn.2 fun r hr=>hq r (List.mem_cons_of_mem _ hr)]
            by_cases e:q=p
            · subst e
              rw [if_neg hn.1,if_pos List.mem_cons_self];omega
            · rw [hq q List.mem_cons_self e]
              by_cases e2:p∈R
              · rw [if_pos e2,if_pos (List.mem_cons_of_mem _ e2)];omega
              · rw [if_neg e2,if_neg (fun z=>(List.mem_cons.mp z).elim (fun y=>e y.symm) e2)];rfl
        rw [hsum _ (grp_nd _ _ _) hq0,if_pos (mem_grp.mpr ⟨p0,by omega,rfl⟩)] at hz
        omega
      · rw [hother p c1 c2]
        refine I.done p p0 p1 fun ⟨s,hs,hx⟩=>?_
        by_cases cs:s=t
        · subst cs
          exact (hends p hx).elim c1 c2
        · exact hp ⟨s,hback s hs cs,hx⟩
  · have h1:p≠u:=fun z=>hnu (z▸hp)
    have h2:q≠u:=fun z=>hnu (z▸hq)
    obtain ⟨s,hs,hx⟩:=hp
    obtain ⟨s',hs',hx'⟩:=hq
    exact hmap h1 h2 (I.held p q ⟨s,(hsub s hs).1,hx⟩ ⟨s',(hsub s' hs').1,hx'⟩ c)
end L2
namespace L2
open PySem PySem.Spec PyProof.Rows
end L2
namespace L2
open PySem PySem.Spec PyProof.Rows
def en (p:Int) (e:Int×Int):Int:=(if e.1=p then 1 else 0)+(if e.2=p then 1 else 0)
def ens (es:List (Int×Int)) (p:Int) (ts:List Int):Int:=(ts.map fun t=>en p (tieOf es t)).sum
theorem sum_snocI (l:List Int) (a:Int):(l++[a]).sum=l.sum+a:=by
  induction l with
  | nil=>show a+0=0+a;omega
  | cons x l ih=>show x+(l++[a]).sum=x+l.sum+a;rw [ih];omega
theorem ens_snoc (es:List (Int×Int)) (p:Int) (ts:List Int) (t:Int):ens es p (ts++[t])=ens es p ts+en p (tieOf es t):=by
  unfold ens;rw [List.map_append];exact sum_snocI _ _
theorem en_far {e:Int×Int} {p:Int} (q:Int) (hp:e.1=p∨e.2=p):en q e=(if p=q then 1 else 0)+(if far e p=q then 1 else 0):=by
  unfold en far
  by_cases c:e.1=p
  · rw [if_pos c,c]
  · have c2:=hp.resolve_left c
    rw [if_neg c,c2];omega
theorem Way.cnt {es:List (Int×Int)} {ss ts ps:List Int} {a b:Int} (h:Way es ss a ts ps b) (q:Int):ens es q ts=2*(if q∈ps++[b] then 1 else 0)-(if a=q then 1 else 0)-(if b=q then 1 else 0):=by
  induction h with
  | nil =>
    rw [List.nil_append]
    show (0:Int)=_
    by_cases c:a=q
    · rw [if_pos (List.mem_singleton.mpr c.symm),if_pos c];rfl
    · rw [if_neg (fun z=>c (List.mem_singleton.mp z).symm),if_neg c];rfl
  | @snoc ts ps p t h _ _ _ hp hn ih =>
    rw [ens_snoc,ih,en_far q hp]
    obtain ⟨f,ef⟩:∃f,f=far (tieOf es t) p:=⟨_,rfl⟩
    rw [←ef] at hn ⊢
    by_cases c:f=q
    · subst c
      rw [if_neg hn,if_pos (List.mem_append_right _ (List.mem_singleton.mpr rfl)),if_pos rfl]
      omega
    · have e:(q∈ps++[p]++[f])↔q∈ps++[p]:=by
        rw [List.mem_append (t:=[f]),List.mem_singleton]
        exact ⟨fun z=>z.resolve_right (fun y=>c y.symm),.inl⟩
      rw [if_neg c]
      by_cases c2:q∈ps++[p]
      · rw [if_pos c2,if_pos (e.mpr c2)];omega
      · rw [if_neg c2,if_neg (fun z=>c2 (e.mp z))];omega
end L2
namespace L2
open PySem PySem.Spec PyProof.Rows
def Itv (K:PySem.W.Frag) (a:Addr) (xs:List V):It:=⟨fun i H=>SqL K H a xs∧i<xs.length,fun i H x H'=>H'=H∧xs[xs.length-1-i]?=some x,fun i H=>SqL K H a xs∧xs.length≤i⟩
theorem itok_rev {K:PySem.W.Frag} {a:Addr} {xs:List V}:ItOk (Itv K a xs) xs.length (fun i=>xs.getD (xs.length-1-i) .non) (fun H=>SqL K H a xs) where
  go:=fun i H q hi=>⟨q,hi⟩
  yld:=fun i H x H' q hi ⟨e,y⟩=>⟨e,by rw [List.getD_eq_getElem?_getD,y];rfl⟩
  stop:=fun i H q hi=>⟨q,hi⟩
theorem turn_rev {P:Program} {w:World} {K:PySem.W.Frag} {tg:Expr} (a it:Addr) (xs:List V):Turn P w K tg (Itv K a xs) [it] it (fun i h=>i≤xs.length∧h.IsRevIter it a ((xs.length:Int)-1-(i:Int))) where
  mem:=List.mem_singleton.mpr rfl
  obj:=fun i h st b hb=>by
    have e:b=it:=List.mem_singleton.mp hb
    subst e
    obtain ⟨_,o,e,c,d⟩:=st
    exact ⟨o,e,fun v z=>by rw [d] at z;cases z⟩
  keep:=fun i h h' st k=>⟨st.1,st.2.at fun o e=>k it (List.mem_singleton.mpr rfl) o e⟩
  item:=by
    intro X hP hw hK hc i pins s σ H E I hf st hg
    subst hP hw hK
    obtain ⟨hq,hi⟩:=hg
    obtain ⟨its,rv,p,hz⟩:=I.list hq
    obtain ⟨f0,f1,f2,f3,f4,f5⟩:=hf it (List.mem_singleton.mpr rfl)
    obtain ⟨x,hx⟩:∃x,xs[xs.length-1-i]?=some x:=⟨xs[xs.length-1-i]'(by omega),List.getElem?_eq_getElem (by omega)⟩
    obtain ⟨u,hu,ru⟩:=rv.get hx
    have st2:s.heap.IsRevIter it a ((xs.length-1-i:Nat):Int):=by
      have e:((xs.length-1-i:Nat):Int)=(xs.length:Int)-1-(i:Int):=by omega
      rw [e];exact st.2
    refine wpAny_pyNext_rev_item st2 p.isList (x:=u) (by simpa using hu) fun h' st' sb=>?_
    have I1:Inv X pins σ H {s with heap:=h'}:=I.turned (t':=s.toks) (fun b o hb e=>(sb.2 b hb).trans e) f0 f1 f3 f4 f5
    have st3:h'.IsRevIter it a ((xs.length:Int)-1-((i+1:Nat):Int)):=by
      have e:(xs.length:Int)-1-((i+1:Nat):Int)=((xs.length-1-i:Nat):Int)-1:=by omega
      rw [e];exact st'
    obtain ⟨o,e,c,d⟩:=id st'
    exact ⟨u,rfl,go_of (s:={s with heap:=h'}) e c d (by decide) ⟨x,H,I1,ru,⟨rfl,hx⟩,⟨by omega,st3⟩,fun b hb=>(hf b hb).1⟩⟩
  done:=by
    intro X hP hw hK hc i pins s σ H E I hf st hg
    subst hP hw hK
    obtain ⟨hq,hi⟩:=hg
    obtain ⟨f0,f1,f2,f3,f4,f5⟩:=hf it (List.mem_singleton.mpr rfl)
    have st2:s.heap.IsRevIter it a (-1):=by
      have e:(-1:Int)=(xs.length:Int)-1-(i:Int):=by have:=st.1;omega
      rw [e];exact st.2
    exact wpAny_pyNext_rev_end (I.ok.hd hc) st2 fun h' eb=>⟨rfl,I.turned (t':=s.toks) (fun b o hb e=>eb b o hb e) f0 f1 f3 f4 f5⟩
  self:=fun _ _ _ _ _ st h=>wpAny_pyIter_revIter st.2 h
def iRev (K:PySem.W.Frag) (ta:TA):TI:=fun σ H R=>ta σ H fun vs H1=>∃p xs,vs=[.ref p]∧SqL K H1 p xs∧∀J C,ItOk J xs.length (fun i=>xs.getD (xs.length-1-i) .non) C→(∀H2,SqL K H2 p xs→C H2)→R J H1
theorem pi_rev {X:Cx} {K:PySem.W.Frag} {tg e:Expr} {ta:TA} {p2 pos2:Pos} (hK:X.K=K) (hg2:Gl X "reversed") (hm2:X.mg "reversed"=none) (ha:PA X [e] ta) (hs2:starEach [e] X.env=[(false,eval e X.env)]:=by rfl) :
    PI X tg (.Call (.Name "reversed" p2) [e] [] pos2) (iRev K ta):=by
  subst hK
  intro pins s σ H R I h
  refine Call_ (ld_blt I hg2 hm2 boot_reversed (PyProof.Rows.callWith_type1 (thn (ha pos2 pins s σ H _ I h) fun us s1 ⟨vs,H1,I1,r1,q1⟩=>?_) hs2 rfl))
  obtain ⟨p,xs,rfl,hq,q⟩:=q1
  obtain ⟨u,rfl,rx⟩:=vals1 r1
  cases rx
  obtain ⟨its,rv,pl,hz⟩:=I1.list hq
  have hlen:=rv.length
  have e0:((its.toArray.size:Int)-1)=(xs.length:Int)-1-((0:Nat):Int):=by rw [List.size_toArray];omega
  refine call_reversed_list pl.isList (wpAny_pyIter_revIter (l:=p) (i:=(its.toArray.size:Int)-1) ⟨_,Heap.get?_push_size _ rfl,rfl,rfl⟩ ?_)
  refine ⟨s1.heap.objs.size,[s1.heap.objs.size],_,_,H1,rfl,I1.kept (t':=s1.toks) fun b o e=>Heap.get?_push_of_some _ e,turn_rev p _ xs,⟨Nat.zero_le _,?_⟩,fun b hb=>?_,q _ _ itok_rev fun H2 S=>S⟩
  · rw [←e0]
    exact ⟨_,Heap.get?_push_size _ rfl,rfl,rfl⟩
  · have e:b=s1.heap.objs.size:=List.mem_singleton.mp hb
    subst e
    exact I1.fpOk (Nat.le_refl _) (I1.hok.fresh (Nat.le_refl _))
section
variable {X:Cx}
theorem mulC_ok {i j:Int} (h1:i.natAbs<2^3000) (h2:j.natAbs<2^3000):IntMulOk i j:=by
  have h3:=intBits_le h1
  have h4:=intBits_le h2
  unfold IntMulOk
  intro h
  rw [Bool.and_eq_true] at h
  have h5:((Builtin.Int.intBits i+Builtin.Int.intBits j:Nat):Int)>bitsLine:=of_decide_eq_true h.2
  have h6:(6000:Int)≤bitsLine:=by decide
  omega
theorem op_mulC:OpR X (binaryOp .Mult) (rI (fun i j=>i.natAbs<2^3000∧j.natAbs<2^3000) fun i j=>.int (i*j)):=opI fun i j _ _ _ _ _ hc q=>mul_int q (mulC_ok hc.1 hc.2)
theorem ip_mulC:PIp X .Mult (fun x y H Q=>∃i j,x=.int i∧y=.int j∧i.natAbs<2^3000∧j.natAbs<2^3000∧Q (.int (i*j)) H):=by
  intro pins s σ H x y v u Q I r1 r2 h
  obtain ⟨i,j,rfl,rfl,c1,c2,q⟩:=h
  obtain ⟨t,rfl⟩:=r1
  obtain ⟨t',rfl⟩:=r2
  exact imul_int ⟨.int _,H,I.tok _,⟨_,rfl⟩,q⟩ (mulC_ok c1 c2)
end
def numD (k:Int):List Int→Int
  | []=>0
  | d::r=>numD k r*k+d
def dg (k:Int):Nat→Int→List Int
  | 0,_=>[]
  | n+1,N=>N%k::dg k n (N/k)
theorem dg_len (k:Int):∀n N,(dg k n N).length=n
  | 0,_=>rfl
  | n+1,N=>by show (dg k n (N/k)).length+1=n+1;rw [dg_len k n]
theorem dg_lt {k:Int} (hk:0<k):∀n N,∀d∈dg k n N,0≤d∧d<k
  | 0,_,d,h=>nomatch h
  | n+1,N,d,h=>by
    rcases List.mem_cons.mp h with e | e
    · rw [e];exact ⟨Int.emod_nonneg _ (by omega),Int.emod_lt_of_pos _ hk⟩
    · exact dg_lt hk n _ d e
theorem numD_lt {k:Int} (hk:0<k):∀ds:List Int,(∀d∈ds,0≤d∧d<k)→0≤numD k ds∧numD k ds<k^ds.length
  | [],_=>⟨Int.le_refl _,by show (0:Int)<k^0;rw [Int.pow_zero];decide⟩
  | d::r,h=>by
    obtain ⟨h1,h2⟩:=numD_lt hk r fun x hx=>h x (List.mem_cons_of_mem _ hx)
    obtain ⟨h3,h4⟩:=h d List.mem_cons_self
    show 0≤numD k r*k+d∧numD k r*k+d<k^(r.length+1)
    have h5:0≤numD k r*k:=Int.mul_nonneg h1 (by omega)
    have h6:(numD k r+1)*k≤k^r.length*k:=Int.mul_le_mul_of_nonneg_right (by omega) (by omega)
    rw [Int.pow_succ]
    rw [Int.add_mul,Int.one_mul] at h6
    omega
theorem dg_num {k:Int} (hk:0<k):∀ds:List Int,(∀d∈ds,0≤d∧d<k)→dg k ds.length (numD k ds)=ds
  | [],_=>rfl
  | d::r,h=>by
    obtain ⟨h3,h4⟩:=h d List.mem_cons_self
    show (numD k r*k+d)%k::dg k r.length ((numD k r*k+d)/k)=d::r
    have e1:(numD k r*k+d)%k=d:=by rw [Int.add_comm,Int.add_mul_emod_self_right,Int.emod_eq_of_lt h3 h4]
    have e2:(numD k r*k+d)/k=numD k r:=by rw [Int.add_comm,Int.add_mul_ediv_right _ _ (by omega),Int.ediv_eq_zero_of_lt h3 h4,Int.zero_add]
    rw [e1,e2,dg_num hk r fun x hx=>h x (List.mem_cons_of_mem _ hx)]
theorem num_dg {k:Int} (hk:0<k):∀n N,0≤N→N<k^n→numD k (dg k n N)=N
  | 0,N,h0,h1=>by
    rw [Int.pow_zero] at h1
    show (0:Int)=N
    omega
  | n+1,N,h0,h1=>by
    show numD k (dg k n (N/k))*k+N%k=N
    rw [num_dg hk n (N/k) (Int.ediv_nonneg h0 (by omega)) (by rw [Int.pow_succ] at h1;exact Int.ediv_lt_of_lt_mul hk h1)]
    have:=Int.mul_ediv_add_emod N k
    rw [Int.mul_comm] at this
    exact this
theorem kpow_small {k N:Int} {j:Nat} (h0:0<k) (h1:k≤10^20) (hj:j≤41) (n0:0≤N) (n1:N≤k^j):N.natAbs<2^3000:=by
  obtain ⟨a,rfl⟩:=Int.eq_ofNat_of_zero_le (show 0≤k by omega)
  obtain ⟨b,rfl⟩:=Int.eq_ofNat_of_zero_le n0
  have e:((a:Int))^j=((a^j:Nat):Int):=by rw [Int.natCast_pow]
  rw [e] at n1
  have n2:b≤a^j:=by omega
  have a1:a≤10^20:=by omega
  have a2:a^j≤(10^20)^41:=Nat.le_trans (Nat.pow_le_pow_left a1 j) (Nat.pow_le_pow_right (by decide) hj)
  have a3:((10^20)^41:Nat)<2^3000:=by decide +kernel
  show b<2^3000
  exact Nat.lt_of_le_of_lt (Nat.le_trans n2 a2) a3
theorem k_small {k:Int} (h0:0<k) (h1:k≤10^20):k.natAbs<2^3000:=kpow_small (j:=1) h0 h1 (by decide) (by omega) (by rw [Int.pow_succ,Int.pow_zero];omega)
def isR (m:Int) (es:List (Int×Int)) (fs:List Int) (k:Int):Bool:=(fs.all fun r=>decide (0≤r)&&decide (r<k))&&decide (∀p:Nat,p<m.toNat→dp p es fs es.length%k=0)
theorem dp_mod (p k:Int) (es:List (Int×Int)) (fs:List Int):∀n,k∣dp p es (fs.map (·%k)) n-dp p es fs n
  | 0=>⟨0,by rw [Int.mul_zero];rfl⟩
  | n+1=>by
    obtain ⟨u,hu⟩:=dp_mod p k es fs n
    have hg:(fs.map (·%k)).getD n 0=fs.getD n 0%k:=by
      rw [List.getD_eq_getElem?_getD,List.getElem?_map,List.getD_eq_getElem?_getD]
      cases fs[n]? with
      | none=>exact (Int.zero_emod k).symm
      | some v=>rfl
    have hm:fs.getD n 0%k=fs.getD n 0-k*(fs.getD n 0/k):=Int.emod_def _ _
    show k∣(dp p es (fs.map (·%k)) n+_-_)-(dp p es fs n+_-_)
    rw [hg,hm]
    generalize fs.getD n 0/k=q
    generalize fs.getD n 0=v
    by_cases c1:(es.getD n (0,0)).2=p<;>by_cases c2:(es.getD n (0,0)).1=p<;>simp only [c1,c2,if_true,if_false]
    · exact ⟨u,by omega⟩
    · exact ⟨u-q,by rw [Int.mul_sub];omega⟩
    · exact ⟨u+q,by rw [Int.mul_add];omega⟩
    · exact ⟨u,by omega⟩
theorem dvd_mod0 {k a b:Int} (h:k∣a-b) (hb:b%k=0):a%k=0:=by
  obtain ⟨u,hu⟩:=h
  rw [show a=b+k*u by omega,Int.add_mul_emod_self_left,hb]
theorem isR_mod {m k:Int} {es:List (Int×Int)} {fs:List Int} (hk:0<k) (hd:∀p:Int,dp p es fs es.length%k=0):isR m es (fs.map (·%k)) k=true:=by
  unfold isR
  rw [Bool.and_eq_true,List.all_eq_true,decide_eq_true_iff]
  refine ⟨fun r hr=>?_,fun p _=>dvd_mod0 (dp_mod p k es fs es.length) (hd p)⟩
  obtain ⟨v,_,rfl⟩:=List.mem_map.mp hr
  rw [decide_eq_true (Int.emod_nonneg v (by omega)),decide_eq_true (Int.emod_lt_of_pos v hk)];rfl
theorem FW.isR {m k:Int} {es:List (Int×Int)} {ws fs:List Int} (hk:0<k) (h:FW es ws fs):isR m es (fs.map (·%k)) k=true:=isR_mod hk fun p=>by rw [h.2.1 p];exact Int.zero_emod k
noncomputable def frv (es:List (Int×Int)) (rs:List Int):List Int:=(fre es).map fun t=>rs.getD t.toNat 0
theorem getD_map_mod (fs:List Int) (k:Int) (n:Nat):(fs.map (·%k)).getD n 0=fs.getD n 0%k:=by
  rw [List.getD_eq_getElem?_getD,List.getElem?_map,List.getD_eq_getElem?_getD]
  cases fs[n]? with
  | none=>exact (Int.zero_emod k).symm
  | some v=>rfl
theorem gD_at {xs:List Int} {i:Nat} (h:i<xs.length):xs.getD i 0=xs[i]:=by rw [List.getD_eq_getElem?_getD,List.getElem?_eq_getElem h];rfl
theorem FW.frv {k:Int} {es:List (Int×Int)} {ws fs:List Int} (hl:ws.length=(fre es).length) (hw:∀d∈ws,0≤d∧d<k) (h:FW es ws fs):frv es (fs.map (·%k))=ws:=by
  unfold L2.frv
  apply List.ext_getElem (by rw [List.length_map];exact hl.symm)
  intro i h1 h2
  rw [List.length_map] at h1
  have e:=h.2.2 i h1
  rw [gD_at h1,gD_at h2] at e
  obtain ⟨b1,b2⟩:=hw ws[i] (List.getElem_mem h2)
  rw [List.getElem_map,getD_map_mod,e,Int.emod_eq_of_lt b1 b2]
theorem isR_bounds {m k:Int} {es:List (Int×Int)} {rs:List Int} (h:isR m es rs k=true):∀r∈rs,0≤r∧r<k:=fun r hr=>by
  unfold isR at h
  rw [Bool.and_eq_true,List.all_eq_true] at h
  have:=h.1 r hr
  rw [Bool.and_eq_true,decide_eq_true_iff,decide_eq_true_iff] at this
  exact this
theorem frv_bounds {m k:Int} {es:List (Int×Int)} {rs:List Int} (hl:rs.length=es.length) (h:isR m es rs k=true):∀d∈frv es rs,0≤d∧d<k:=fun d hd=>by
  obtain ⟨t,ht,rfl⟩:=List.mem_map.mp hd
  obtain ⟨t0,t1⟩:=mem_fre ht
  have hi:t.toNat<rs.length:=by omega
  rw [gD_at hi]
  exact isR_bounds h _ (List.getElem_mem hi)
theorem frv_len (es:List (Int×Int)) (rs:List Int):(frv es rs).length=(fre es).length:=List.length_map ..
end L2
namespace L2
open PySem PySem.Spec PyProof.Rows PySem.W Builtin Builtin.ObjectAttr
structure ExI (K:Frag) (A F f:Addr):Prop where
  lk:∃nm qn N bs sn sub ab col dd k0 k1 k2 k3 k5,K.lookup A=some (excClassObj nm qn A N bs (.ref F::vErr) true sn sub ab col dd k0 k1 k2 k3 k5 "ValueError.__new__")
  up:IsExc K F
  ini:findIn K (.ref A) "__init__"=some (some (.ref f))
  fn:isFn K (.ref f)=true
  sa:findIn K (.ref A) "__setattr__"=some (some (.builtin "object.__setattr__"))
  nt:findIn K (.ref A) "tie"=some none
theorem ExI.tail {K:Frag} {A F f:Addr} (c:ExI K A F f) {h:Heap} (X:K.In h):OwnTail h vErr (.ref F::vErr):=by
  obtain ⟨bm,N,nm,qn,bs,hd,sn,sub,ab,col,dd,k0,k1,k2,k3,k5,mN,hC,hN,hni,_,_⟩:=c.up.obj X
  exact .own hC hN hni .base
theorem ExI.mro {K:Frag} {A F f:Addr} (c:ExI K A F f):mroIn K A=fun b=>some ((Value.ref A::.ref F::vErr).contains b):=by
  obtain ⟨nm,qn,N,bs,sn,sub,ab,col,dd,k0,k1,k2,k3,k5,look⟩:=c.lk
  funext b
  unfold mroIn clsIn
  rw [look];rfl
theorem ExI.dict {K:Frag} {A F f:Addr} (c:ExI K A F f):hasDictIn K A=true:=by
  obtain ⟨nm,qn,N,bs,sn,sub,ab,col,dd,k0,k1,k2,k3,k5,look⟩:=c.lk
  unfold hasDictIn clsIn
  rw [look];rfl
section
variable {prog:Program} {w:World} {B:Around} {E:Value→Shared→Prop} {K:Frag} {A F f:Addr} {h:Heap} {g:Array GenState} {d:Drawn} {t:Nat} {os:OsState}
theorem tcall_ini (c:ExI K A F f) {rest:List Value} {Q:Fin→Shared→Prop} (X:K.In h) (hz:rest.length≤sizeLine)
    (hq:∀h' e,Heap.MadeExcOf h h' e (.ref A) rest→wpAny (model prog w) B (call (.ref f) (.ref e::rest)) (fun r s'=>r=.none∧Q (.done (.ret (.ref e))) s') E ⟨h',g,d,t,os⟩) :
    wpAny (model prog w) B (Builtin.«type.__call__» ⟨.ref A::rest,[]⟩) Q E ⟨h,g,d,t,os⟩:=by
  obtain ⟨nm,qn,N,bs,sn,sub,ab,col,dd,k0,k1,k2,k3,k5,look⟩:=c.lk
  have hC:=X _ _ look
  have T:=c.tail X
  have Fn:=PySem.F.excBase_ValueError
  have hb:vErr.contains (.type "ValueError")=true:=by decide +kernel
  (repeat (first | with_reducible refine wpAny_loadPart_at hC ?_ | with_reducible refine wpAny_madeBy_exc hC ?_ | wp_step));refine codeAny_call_builtin_code (Code.quiet_builtin _ Fn.quiet) (wpAny_check_new_subU Fn hb T hC (codeAny_exc_new_subU Fn hb Fn T hC ?_ hz))
  show wpAny _ _ _ _ _ _
  generalize hob:({cls:=.ref A,data:=.fields #[.ref h.objs.size,.none,.none,.none,.bool false,.none]}:Obj)=ob
  generalize htp:({cls:=.type "tuple",data:=.seq rest.toArray}:Obj)=tp
  have kp:∀b o,h.get? b=some o→((h.push tp).push ob).get? b=some o:=fun b o e=>Heap.get?_push_of_some _ (Heap.get?_push_of_some _ e)
  have hC1:=kp _ _ hC
  have X1:K.In ((h.push tp).push ob):=fun a o e=>kp _ _ (X a o e)
  have hget:((h.push tp).push ob).get? (h.objs.size+1)=some ob:=by
    have:=Heap.get?_push_size (h.push tp) (o:=ob) (by rw [←hob];rfl)
    rwa [Heap.size_push] at this
  have hcl:ob.cls=.ref A:=by rw [←hob]
  have hcC:(Value.ref A::Value.ref F::vErr).contains (.ref A)=true:=by simp
  unfold isInstance
  (repeat (first | (with_reducible refine wpAny_loadPart_at hget ?_;rw [hcl]) | (with_reducible refine wpAny_isSubtype_exc hC1 ?_;rw [hcC]) | wp_step));show wpAny _ _ (typeLookup (.ref A) _) _ _ _
  refine (looks_findIn X1 c.ini).at (wpAny_holding (wpAny_bind ((bind_fn X1 _ (beq_iff_eq.mp c.fn)).at ?_)))
  refine wpAny_bind (wpAny_mono (hq _ (h.objs.size+1) ⟨kp,Heap.get?_none_of_le (Nat.le_succ _),h.objs.size,by rw [hget,←hob],Heap.get?_none_of_le (Nat.le_refl _),?_⟩) (fun r s' hr=>?_) fun _ _ x=>x)
  · rw [←htp];exact Heap.get?_push_of_some _ (Heap.get?_push_size _ rfl)
  · obtain ⟨rfl,hQ⟩:=hr;wp_walk;exact hQ
theorem call_ini (c:ExI K A F f) {rest:List Value} {Q:Value→Shared→Prop} (X:K.In h) (hz:rest.length≤sizeLine)
    (hq:∀h' e,Heap.MadeExcOf h h' e (.ref A) rest→wpAny (model prog w) (B.under (.builtin "type.__call__" ⟨.ref A::rest,[]⟩)) (call (.ref f) (.ref e::rest)) (fun r s'=>r=.none∧Q (.ref e) s') E ⟨h',g,d,t,os⟩) :
    wpAny (model prog w) B (call (.ref A) rest) Q E ⟨h,g,d,t,os⟩:=by
  obtain ⟨nm,qn,N,bs,sn,sub,ab,col,dd,k0,k1,k2,k3,k5,look⟩:=c.lk
  have hC:=X _ _ look
  have f1:=tc_lookup
  have f2:=tc_bind (.ref A)
  have hT:(⟨h,g,d,t,os⟩:Shared).TypeIs (.ref A) "type":=⟨_,hC,rfl⟩
  refine wpAny_call (codeAny_of_tree ?_);show wpAny _ _ (callAny (.ref A) _) _ _ _
  (repeat (any_goals (first | assumption | with_reducible refine wpAny_loadPart_at hC ?_ | wp_step)));refine ⟨rfl,?_⟩
  exact codeAny_call_builtin_at (Code.quiet_builtin _ (by decide +kernel)) entry_typeCall (wpAny_check_type_call_sub hC (tcall_ini c X hz fun h' e hm=>hq h' e hm))
end
section
variable {prog:Program} {w:World} {M:Model} {B:Around} {E:Value→Shared→Prop} {env:Env}
variable {nm q:Str} {C N:Addr} {bs bm:List Value} {hdct:Bool} {sn:List Str} {sub:List Value} {ab:Bool} {col:Option Bool} {dd:Option Addr} {k0 k1 k2 k3 k5:Option Value} {newId:String}
theorem raiseStmt_own {s:Shared} {x:Sem Value} {Q:Flow→Shared→Prop} (hbase:bm.contains (.type "BaseException")=true) (hh:B.handled=none)
    (h:wpAny M B x (fun v s1=>∃e od vs sl,v=.ref e∧s1.heap.get? C=some (excClassObj nm q C N bs bm hdct sn sub ab col dd k0 k1 k2 k3 k5 newId)∧s1.heap.get? e=some {cls:=.ref C,dict:=od,data:=.fields vs,slots:=sl}∧vs[1]?=some .none∧E (.ref e) s1) E s):wpAny M B (raiseStmt env (some x) none) Q E s:=by
  have hcB:(Value.ref C::bm).contains (.type "BaseException")=true:=by rw [List.contains_cons,hbase,Bool.or_true]
  unfold raiseStmt;refine wpAny_bind (wpAny_mono h (fun v s1 h1=>?_) fun _ _ x=>x)
  obtain ⟨e,od,vs,sl,rfl,hC,he,hv1,hE⟩:=h1
  obtain ⟨hp,gg,dw,tk,os⟩:=s1
  (repeat (first | with_reducible refine wpAny_loadPart_at he ?_ | with_reducible refine wpAny_loadPart_at hC ?_ | (with_reducible refine wpAny_isSubtype_exc hC ?_;rw [hcB]) | wp_step));rw [hv1];refine wpAny_pure ?_;rw [if_neg (by decide)];exact wpAny_pure (wpAny_raiseNew_none hh hE)
theorem raise_ini {K:Frag} {A F f:Addr} (c:ExI K A F f) {s:Shared} {x:Str} {np cpos pos:Pos} {args:List Expr} {Q:Flow→Shared→Prop} (hh:B.handled=none) (hplain:(backTo cpos (starEach args env)).any (·.1)=false)
    (h:wpAny (model prog w) B (eval (.Name x np) env) (fun v s1=>v=.ref A∧wpAny (model prog w) B (evalArgs (.ref A) true (backTo cpos (starEach args env)) []) (fun a s2=>a.kw=[]∧a.pos.length≤sizeLine∧K.In s2.heap ∧
      ∀h' e,Heap.MadeExcOf s2.heap h' e (.ref A) a.pos→wpAny (model prog w) (B.under (.builtin "type.__call__" ⟨.ref A::a.pos,[]⟩)) (call (.ref f) (.ref e::a.pos)) (fun r s'=>r=.none∧K.In s'.heap∧(∃od vs sl,s'.heap.get? e=some {cls:=.ref A,dict:=od,data:=.fields vs,slots:=sl}∧vs[1]?=some .none)∧E (.ref e) s') E {s2 with heap:=h'}) E s1) E s) :
    wpAny (model prog w) B (exec (.Raise (some (.Call (.Name x np) args [] cpos)) none pos) env) Q E s:=by
  obtain ⟨nm,qn,N,bs,sn,sub,ab,col,dd,k0,k1,k2,k3,k5,look⟩:=c.lk
  have hb:(Value.ref F::vErr).contains (.type "BaseException")=true:=by rw [List.contains_cons,show vErr.contains (.type "BaseException")=true from by decide +kernel,Bool.or_true]
  rw [arm_exec_Raise];refine wpAny_bind (wpAny_standAt (raiseStmt_own (C:=A) (nm:=nm) (q:=qn) (N:=N) (bs:=bs) (bm:=.ref F::vErr) (hdct:=true) (sn:=sn) (sub:=sub) (ab:=ab) (col:=col) (dd:=dd) (k0:=k0) (k1:=k1) (k2:=k2) (k3:=k3) (k5:=k5) (newId:="ValueError.__new__") hb hh
    (wpAny_bind (wpAny_mono (wpAny_Call_ofName (wpAny_mono h (fun v s1 h1=>?_) fun _ _ x=>x)) (fun v s3 h3=>wpAny_bind (wpAny_standAt (wpAny_pure h3))) fun _ _ x=>x))))
  obtain ⟨rfl,h1⟩:=h1
  unfold callWith;refine wpAny_bind (wpAny_holding (wpAny_mono h1 (fun a s2 h2=>wpAny_bind (wpAny_standAt ?_)) fun _ _ x=>x))
  obtain ⟨apos,akw⟩:=a
  obtain ⟨hkw,hlen,hX,h2⟩:=h2
  obtain rfl:akw=[]:=hkw
  obtain ⟨hp,gg,dw,tk,os⟩:=s2
  simp only [hplain];refine wpAny_bind (wpAny_keeperOf_exc (hX _ _ look) ?_)
  refine wpAny_bind (call_ini c hX hlen fun h' e hm=>wpAny_mono (h2 h' e hm) (fun r s' hr=>⟨hr.1,?_⟩) fun _ _ x=>x)
  obtain ⟨_,hK,⟨od,vs,sl,he,hv1⟩,hE⟩:=hr
  exact wpAny_bind (wpAny_holding (wpAny_point (wpAny_pure ⟨e,od,vs,sl,rfl,hK _ _ look,he,hv1,hE⟩)))
end
end L2
namespace L2
open PySem PySem.Spec PyProof.Rows PySem.W Builtin Builtin.ObjectAttr
def ExcN (x A:Addr):Heap→Prop:=fun h=>∃o vs a0,h.get? x=some o∧o.cls=.ref A∧o.dict=none∧o.data=.fields vs∧vs[0]?=some a0∧vs[1]?=some .none
def ExcM (x A d:Addr):Heap→Prop:=fun h=>∃o vs a0,h.get? x=some o∧o.cls=.ref A∧o.dict=some d∧o.data=.fields vs∧vs[0]?=some a0∧vs[1]?=some .none
theorem refuse_tail (self:Value) (A F:Addr):refuseLoop self "__setattr__" (.ref A::.ref F::vErr)=pure ():=by
  rw [refuseLoop_ref,refuseLoop_ref];exact PySem.F.store_ValueError.passes self
section
variable {prog:Program} {w:World} {B:Around} {E:Value→Shared→Prop} {K:Frag} {A F f x:Addr} {s:Shared}
theorem set_tie (c:ExI K A F f) {o:Obj} {vs:Array Value} {v:Value} {Q:Unit→Shared→Prop} (X:K.In s.heap) (hx:s.heap.get? x=some o) (hc:o.cls=.ref A) (hd:o.dict=none) (hv:o.data=.fields vs)
    (hq:∀h' tk,h'.get? x=some {o with dict:=some s.heap.objs.size}→h'.Ns1 s.heap.objs.size (fun y=>if y="tie" then some v else none)→(∀b u,b≠x→s.heap.get? b=some u→h'.get? b=some u)→Q () {s with heap:=h',toks:=tk}) :
    wpAny (model prog w) B (setAttr (.ref x) "tie" v) Q E s:=by
  obtain ⟨hp,gg,dw,tk,os⟩:=s
  obtain ⟨nm,qn,N,bs,sn,sub,ab,col,dd,k0,k1,k2,k3,k5,look⟩:=c.lk
  have I:InstAt hp x o A none:=⟨hx,hc,by unfold notCls;rw [hv],by rw [hd];trivial⟩
  refine set_plain X I c.sa ?_
  have SF:=PySem.F.store_object
  have hcl:clsIn K A=some {name:=nm,bases:=bs,mro:=.ref A::.ref F::vErr,ns:=N,qualname:=qn,hasDict:=true,slotNames:=sn,subclasses:=sub,abstract:=ab,collection:=col,hasDel:=false}:=by unfold clsIn;rw [look]
  have sub1:Looks (model prog w) hp (isInstance (.ref x) (.type "object")) true:=I.type.andThen (looks_mroIn X (by rw [c.mro];exact congrArg some (by simp)))
  refine codeAny_call_builtin SF.slot.plain SF.entry (@check_slot (model prog w) _ _ (⟨hp,gg,dw,tk+1,os⟩:Shared) "object.__setattr__" "object" "__setattr__" (.ref x) [.str "tie" tk,v] [] _ SF.kind SF.split sub1 (SF.args (.ref x) (.str "tie" tk) v) ?_)
  have hm:Looks (model prog w) hp (mroOf (.ref A)) (.ref A::.ref F::vErr):=(looks_clsIn X hcl).andThen .now
  rw [osa_eq,refuse_eq];refine wpAny_bind (wpAny_bind (Looks.here (s:=(⟨hp,gg,dw,tk+1,os⟩:Shared)) I.type (wpAny_bind (Looks.here (s:=(⟨hp,gg,dw,tk+1,os⟩:Shared)) hm ?_))))
  rw [refuse_tail];refine wpAny_pure (wpAny_bind (Looks.here (s:=(⟨hp,gg,dw,tk+1,os⟩:Shared)) I.type (wpAny_bind (Looks.here (s:=(⟨hp,gg,dw,tk+1,os⟩:Shared)) (looks_findIn X c.nt) (wpAny_bind (wpAny_pure ?_))))))
  refine wpAny_bind (wpAny_pure (wpAny_bind (wpAny_bind (wpAny_loadPart hx ?_))))
  rw [hc];refine wpAny_bind (Looks.here (s:=(⟨hp,gg,dw,tk+1,os⟩:Shared)) (looks_clsIn X hcl) ?_)
  rw [hd,if_neg (by simp [typeHasDict])]
  obtain ⟨oc,od,oda,osl⟩:=o
  dsimp only at hc hd hv
  subst hc hd hv
  have hx1:(hp.push {cls:=.type "dict",data:=.dict #[]}).get? x=some ⟨.ref A,none,.fields vs,osl⟩:=Heap.get?_push_of_some _ hx
  have nxs:x≠hp.objs.size:=Nat.ne_of_lt (Heap.lt_size hx)
  refine wpAny_bind (wpAny_alloc' ?_)
  refine wpAny_bind (wpAny_update' hx1 (wpAny_pure ?_))
  have hgd:((hp.push {cls:=.type "dict",data:=.dict #[]}).update x fun o=>{o with dict:=some hp.objs.size}).get? hp.objs.size=some {cls:=.type "dict",data:=.dict #[]}:=(Heap.get?_update_ne _ _ _ _ nxs.symm).trans (Heap.get?_push_size _ rfl)
  have hnd:((hp.push {cls:=.type "dict",data:=.dict #[]}).update x fun o=>{o with dict:=some hp.objs.size}).Ns hp.objs.size (fun _=>none):=⟨_,#[],_,hgd,rfl,fun e he=>absurd he (by simp),fun _=>rfl⟩
  show wpAny _ _ (storeInDict hp.objs.size (.str "tie" tk) "tie" v) _ _ _
  unfold storeInDict newKeyGuard;refine wpAny_bind (wpAny_pure (wpAny_bind (wpAny_nsSet1 (Heap.Ns1.of_empty hnd) fun h' hn' hs=>?_)))
  obtain ⟨oD,esD,epD,hoD,hdD,hcD⟩:=hn'.count (Within.cons "tie" v Within.nil)
  refine wpAny_bind (wpAny_lookBehind hoD (by rw [hdD];exact pastItsLine_dict (Nat.le_trans hcD (by rw [List.length_cons,List.length_nil,sizeLine_eq];omega))) (wpAny_pure ?_))
  refine hq h' _ ?_ hn' fun b u hb e=>(hs.2 b (Nat.ne_of_lt (Heap.lt_size e))).trans ((Heap.get?_update_ne _ _ _ _ hb).trans (Heap.get?_push_of_some _ e))
  exact (hs.2 x nxs).trans (Heap.get?_update_self _ hx1 rfl)
end
section
variable {X:Cx} {σ:St} {H:Hp} {s:Shared} {A F f x:Addr}
theorem Inv.untrack {pins:List (Addr×Obj)} {φ:Heap→Prop} (I:Inv X pins σ (upd H x (.ext φ)) s) (hx:H x=none):Inv X pins σ H s:=by
  have up:∀b u,H b=some u→upd H x (.ext φ) b=some u:=fun b u e=>by rw [upd_ne (fun z=>by rw [z,hx] at e;cases e)];exact e
  have nn:∀b,upd H x (.ext φ) b=none→H b=none:=fun b e=>by
    by_cases z:b=x
    · rw [z];exact hx
    · rwa [upd_ne z] at e
  refine ⟨I.ok,I.os,I.bare,⟨I.base.keep,I.base.slot,fun b u e n hx'=>nn b (I.base.free b u e n hx'),I.base.there,fun b xs e=>?_,fun b u xs e=>?_,fun b ps e=>?_⟩,I.loc,I.cell,nn _ I.free,fun n c e=>nn _ (I.freeC n c e),fun q hq=>?_,fun b u e=>?_,I.len⟩
  · have:=I.base.tups b xs e
    by_cases z:b=x
    · rw [z,upd_same] at this;cases this
    · rwa [upd_ne z] at this
  · have:=I.base.frzs b u xs e
    by_cases z:b=x
    · rw [z,upd_same] at this;cases this
    · rwa [upd_ne z] at this
  · obtain ⟨m,this⟩:=I.base.tbls b ps e
    refine ⟨m,?_⟩
    by_cases z:b=x
    · rw [z,upd_same] at this;cases this
    · rwa [upd_ne z] at this
  · obtain ⟨q1,q2,q3⟩:=I.pin q hq
    exact ⟨q1,nn _ q2,q3⟩
  · refine (I.hok b u (up b u e)).stay (fun _ _ _ q=>q) (fun c q=>?_) fun c xs q=>?_
    · by_cases z:c=x
      · rw [z,upd_same] at q;cases q
      · rwa [upd_ne z] at q
    · by_cases z:c=x
      · rw [z,upd_same] at q;cases q
      · rwa [upd_ne z] at q
theorem setattrX {pins:List (Addr×Obj)} {B:Around} {E:Value→Shared→Prop} {y:V} {u:Value} {Q:Unit→Shared→Prop} (I:Inv X pins σ H s) (e:H x=some (.ext (ExcN x A))) (c:ExI X.K A F f) (ry:RelV y u)
    (h:∀d s',H d=none→d≠x→Inv X pins σ (upd (upd H d (.xd [("tie",y)])) x (.ext (ExcM x A d))) s'→Q () s'):wpAny (model X.prog X.w) B (setAttr (.ref x) "tie" u) Q E s:=by
  obtain ⟨⟨o,vs,a0,hx,hc,hd,hv,v0,v1⟩,_,_⟩:=I.hok x _ e
  refine set_tie c I.kIn hx hc hd hv fun h' tk hx' hns hk=>?_
  have nxs:s.heap.objs.size≠x:=Nat.ne_of_gt (Heap.lt_size hx)
  have nH:H s.heap.objs.size=none:=I.hok.fresh (Nat.le_refl _)
  refine h s.heap.objs.size _ nH nxs ?_
  obtain ⟨od,es,ep,ho,r⟩:=id hns
  have hof:od.isFreed=false:=(Heap.get?_some_iff.mp ho).2
  have e1:(s.heap.push od).get? s.heap.objs.size=some od:=Heap.get?_push_size _ hof
  have I1:Inv X pins σ (upd H s.heap.objs.size (.xd [("tie",y)])) {s with heap:=s.heap.push od,toks:=tk}:=I.laid (a:=s.heap.objs.size) (o:=.xd [("tie",y)]) (t':=tk) (fun b u q=>Heap.get?_push_of_some _ q) (Nat.le_refl _) ⟨_,hns.at fun o q=>by rw [ho] at q;cases q;exact e1,fun g=>by
    show RelO (List.lookup g [("tie",y)]) (if g="tie" then some u else none)
    by_cases q:g="tie"
    · have hb:(g==("tie":Str))=true:=beq_iff_eq.mpr q
      simp only [List.lookup,hb,if_pos q];exact ry
    · have hb:(g==("tie":Str))=false:=beq_eq_false_iff_ne.mpr q
      simp only [List.lookup,hb,if_neg q];exact True.intro⟩
  have ex:(upd H s.heap.objs.size (.xd [("tie",y)])) x=some (.ext (ExcN x A)):=by rw [upd_ne nxs.symm];exact e
  refine I1.write (x:=x) (e:=x) (by rw [ex];exact True.intro) (.inl rfl) (fun b q hb z=>?_) ⟨_,hx'⟩ ?_
  · by_cases zz:b=s.heap.objs.size
    · rw [zz] at z ⊢
      have z':(s.heap.push od).get? s.heap.objs.size=some q:=z
      rw [e1] at z';cases z';exact ho
    · have z':(s.heap.push od).get? b=some q:=z
      refine hk b q hb ?_
      rwa [Heap.get?_push_ne _ _ _ zz] at z'
  · exact ⟨⟨_,vs,a0,hx',hc,rfl,hv,v0,v1⟩,⟨_,hx'⟩,fun h1 h2 ⟨o,vs,a0,z1,z2⟩ kk=>⟨o,vs,a0,kk _ z1,z2⟩⟩
end
section
variable {X:Cx} {Ex:St→Value→Hp→Prop}
def sFldX (K:Frag) (ta tv:TE):TS:=fun D σ H=>tv σ H fun y H1=>ta σ H1 fun x H2=>∃a A F f,x=.ref a∧H2 a=some (.ext (ExcN a A))∧ExI K A F f∧∀d,H2 d=none→d≠a→D.nx σ (upd (upd H2 d (.xd [("tie",y)])) a (.ext (ExcM a A d)))
theorem ps_fldX {o value:Expr} {ta tv:TE} {pos pos':Pos} (ha:PE X o ta) (hv:PE X value tv) (hs:swapsWith value (some (.Attribute o "tie" pos')) pos.line X.env=pure false):PS X (.Assign [.Attribute o "tie" pos'] value pos) (sFldX X.K ta tv):=by
  intro pins s σ H D I h
  refine plainObj_wpAny_Assign_Attribute (thn (hv pins s σ H _ I h) fun u s1 ⟨y,H1,I1,ry,q⟩=>thn (ha pins s1 σ H1 _ I1 q) fun ov s2 ⟨x,H2,I2,rx,a,A,F,f,ex,ea,c,q2⟩=>?_) hs
  subst ex
  obtain rfl:ov=Value.ref a:=rx
  exact setattrX I2 ea c ry fun d s3 nd ne I3=>⟨σ,_,I3,q2 d nd ne⟩
def spNF (A:Addr):Sp:=fun vs H Q _=>∃x v,vs=[.ref x,v]∧H x=some (.ext (ExcN x A))∧∀d,H d=none→d≠x→Q .non (upd (upd H d (.xd [("tie",v)])) x (.ext (ExcM x A d)))
def NFDef (P:Program) (w:World) (K:Frag) (mg:Str→Option Value) (base:Heap) (k:Nat) (x:Str) (A F:Addr):Prop :=
  ∃f fd,ExI K A F f∧FnOk P w K mg base CX0 k f fd ["self","tie"] (spNF A)∧Binds K fd ["self","tie"] []∧mg x=some (.ref A)
def tRaiseI (A:Addr) (Ex:St→Value→Hp→Prop) (ta:TA):TS:=fun _ σ H=>ta σ H fun vs H1=>∃v,vs=[v]∧∀d,H1 d=none→Ex σ (.int d A) (upd H1 d (.xd [("tie",v)]))
theorem ps_raiseI {k k':Nat} {x:Str} {A F:Addr} {e:Expr} {ta:TA} {np cpos pos:Pos} (D:NFDef X.prog X.w X.K X.mg X.base k x A F) (hr:Room k' X.A) (hc:X.calm=true) (hex:X.ex=[]) (hg:Gl X x) (ha:PA (X.wish (FlyE X Ex)) [e] ta) (hk:k+1≤k':=by decide)
    (hd:(x==("__debug__":Str))=false:=by decide) (he:starEach [e] X.env=[(false,eval e X.env)]:=by rfl) :
    PS (X.wish (FlyE X Ex)) (.Raise (some (.Call (.Name x np) [e] [] cpos)) none pos) (tRaiseI A Ex ta):=by
  obtain ⟨f,fd,c,Fk,b,hm⟩:=D
  intro pins s σ H Dn I h
  refine raise_ini c (I.ok.hd hc) ?_ (ld_glob I hg hm ⟨rfl,?_⟩ hd)
  · show (backTo cpos (starEach [e] X.env)).any (·.1)=false
    rw [he];rfl
  · have ha':=ha cpos pins s σ H _ I h
    rw [show (X.wish (FlyE X Ex)).env=X.env from rfl] at ha' ⊢
    rw [he] at ha' ⊢
    refine Calls.evalArgs_plain (thn ha' fun us s2 ⟨vs,H1,I2,r,v,ev,qx⟩=>?_)
    subst ev
    have hul:us.length=1:=r.length.symm
    refine ⟨rfl,by rw [hul];decide,I2.kIn,fun h' x' mk=>?_⟩
    have I3:=I2.unwish.bareP
    obtain ⟨t,et,_,_⟩:=mk.there
    have y:=I3.young hex mk.new
    have I4:Inv X [] σ H1 {s2 with heap:=h'}:=I3.kept (t':=s2.toks) mk.keeps
    have I5:=I4.track (φ:=ExcN x' A) y (fun p hp=>nomatch hp) ⟨_,_,et,rfl⟩ ⟨_,_,_,et,rfl,rfl,rfl,rfl,rfl⟩ fun h1 h2 ⟨o,vs,a0,z1,z2⟩ kk=>⟨o,vs,a0,kk _ z1,z2⟩
    have hq:spNF A (.ref x'::[v]) (upd H1 x' (.ext (ExcN x' A))) (fun r H2=>r=.non∧∃d,H1 d=none∧d≠x'∧H2=upd (upd (upd H1 x' (.ext (ExcN x' A))) d (.xd [("tie",v)])) x' (.ext (ExcM x' A d))) E0:=⟨x',v,rfl,upd_same,fun d hd hne=>⟨rfl,d,by rwa [upd_ne hne] at hd,hne,rfl⟩⟩
    have r2:Vals (V.ref x'::[v]) (Value.ref x'::us):=.cons rfl r
    have bt:=b _ (Value.ref x'::us) I5.kIn (by rw [List.append_nil,List.length_cons,hul];rfl)
    rw [List.append_nil] at bt
    refine wpAny_call (codeAny_mono (Fk.run _ X.stack _ _ ⟨Value.ref x'::us,[]⟩ (Value.ref x'::us) _ _ _ ((hr.mono hk).make A us []) (I5.env0.make A us []) bt r2 hq) fun res s' hq'=>?_)
    cases res with
    | error e=>exact False.elim hq'
    | ok fl =>
      cases fl with
      | ret u =>
        obtain ⟨v',H',I6,rv,ev,d,hd1,hne,eH⟩:=I5.after hq'
        subst ev
        have hxx:(upd H1 d (.xd [("tie",v)])) x'=none:=by rw [upd_ne hne.symm];exact y.2.1
        have eH2:H'=upd (upd H1 d (.xd [("tie",v)])) x' (.ext (ExcM x' A d)):=by
          rw [eH];funext b;unfold upd;by_cases z:b=x'<;>simp [z]
        rw [eH2] at I6
        obtain ⟨⟨o,vs,a0,z1,z2,z3,z4,z5,z6⟩,_,_⟩:=I6.hok x' _ upd_same
        have I7:=I6.untrack hxx
        obtain ⟨oc,od,oda,osl⟩:=o
        dsimp only at z2 z3 z4
        subst z2 z3 z4
        exact ⟨rv,I6.kIn,⟨_,_,_,z1,z6⟩,x',.int d A,none,σ,_,rfl,I7,⟨⟨y.1,hxx,y.2.2⟩,_,vs,a0,z1,⟨rfl,rfl⟩,rfl,z5,z6⟩,.inl rfl,qx d hd1⟩
      | next=>exact False.elim hq'
      | brk=>exact False.elim hq'
      | cont=>exact False.elim hq'
end
def XKind (K:Frag) (A:Addr) (C:Value):Prop:=(C=.ref A∧IsExc K A)∨∃(d:Int) (F f:Addr),C=.int d A∧ExI K A F f
def tTryX (K:Frag) (i:Nat) (CF:Addr) (tb:(St→Value→Hp→Prop)→TS) (ts:TS):TS:=fun D σ H=>∃Ex:St→Value→Hp→Prop,tb Ex D σ H∧∀σ' C H',Ex σ' C H' →
  ∃A,XKind K A C∧mroIn K A (.ref CF)=some true∧∀x,H' x=none→ts {D with nx:=fun σ2 H2=>D.nx (σ2.set i none) H2,bk:=fun σ2 H2=>D.bk (σ2.set i none) H2,ct:=fun σ2 H2=>D.ct (σ2.set i none) H2} (σ'.set i (some (.ref x))) (upd H' x (.ext (ExcO x C)))
section
variable {X:Cx}
theorem ps_tryX {body:List Stmt} {xn n:Str} {b₀:Stmt} {suite:List Stmt} {np hpos pos:Pos} {tb:(St→Value→Hp→Prop)→TS} {ts:TS} {i:Nat} {CF:Addr} (B:Body X) (hN:X.N.Nodup) (hi:X.N[i]?=some n) (hl:X.env.scope.names.lookup n=some .local)
    (hg:Gl X xn) (hm:X.mg xn=some (.ref CF)) (qF:IsExc X.K CF) (hb:∀pn Ex,PSs (({X with pn:=pn}:Cx).wish (FlyE {X with pn:=pn} Ex)) body (tb Ex))
    (hs:∀x,PSs ((X.held x).nox) (b₀::suite) ts) (hd:(xn==("__debug__":Str))=false:=by decide) :
    PS X (.Try body [.ExceptHandler (some (.Name xn np)) (some n) (b₀::suite) hpos] [] [] pos) (tTryX X.K i CF tb ts):=by
  intro pins s σ H D I h
  obtain ⟨Ex,h1,h2⟩:=h
  refine wpAny_Try_except (wpAny_mono (hb _ Ex [] s σ H D (I.pn.wish _) h1) (fun f s1 q=>?_) fun e s1 q=>?_)
  · cases f with
    | next=>obtain ⟨σ',H',J,z⟩:=q;exact wpAny_execs_nil ⟨σ',H',J.unwish.unpn,z⟩
    | brk=>obtain ⟨σ',H',J,z⟩:=q;exact ⟨σ',H',J.unwish.unpn,z⟩
    | cont=>obtain ⟨σ',H',J,z⟩:=q;exact ⟨σ',H',J.unwish.unpn,z⟩
    | ret u=>obtain ⟨v,σ',H',J,r,z⟩:=q;exact ⟨v,σ',H',J.unwish.unpn,r,z⟩
  · obtain ⟨x,C,fl,σ',H',rfl,J,F,hfl,q⟩:=q
    obtain ⟨A,kA,hsub,k⟩:=h2 σ' C H' q
    refine note_ok (X:={X with pn:=X.pn++pins}) (L:=X.env.locals) J B.ex J.ok.frames B.st B.fr F hfl fun s2 J2 F2=>flight_ok J2 F2 fun s3 J3 F3=>?_
    obtain ⟨bm',N',nm',qn',bs',hdd',sn',sub',ab',col',dd',l0,l1,l2,l3,l5,mN',hF,_,_,TF,_⟩:=qF.obj J3.kIn
    obtain ⟨y,oe,vs,a0,e1,c1,_⟩:=id F3
    have cl:oe.cls=.ref A:=by
      rcases kA with ⟨rfl,_⟩ | ⟨d,_,_,rfl,_⟩
      · exact c1
      · exact c1.1
    obtain ⟨bm,N,nm,qn,bs,hdd,sn,sub,ab,col,dd,k0,k1,k2,k3,k5,hC,hmro⟩:∃bm N nm qn bs hdd sn sub ab col dd k0 k1 k2 k3 k5,s3.heap.get? A=some (excClassObj nm qn A N bs bm hdd sn sub ab col dd k0 k1 k2 k3 k5 "ValueError.__new__")∧mroIn X.K A=fun b=>some ((Value.ref A::bm).contains b):=by
      rcases kA with ⟨_,qA⟩ | ⟨d,F',f',_,c⟩
      · obtain ⟨bm,N,nm,qn,bs,hdd,sn,sub,ab,col,dd,k0,k1,k2,k3,k5,mN,hC,_,_,_,hmro⟩:=qA.obj J3.kIn
        exact ⟨bm,N,nm,qn,bs,hdd,sn,sub,ab,col,dd,k0,k1,k2,k3,k5,hC,hmro⟩
      · obtain ⟨nm,qn,N,bs,sn,sub,ab,col,dd,k0,k1,k2,k3,k5,look⟩:=c.lk
        exact ⟨_,N,nm,qn,bs,_,sn,sub,ab,col,dd,k0,k1,k2,k3,k5,J3.kIn _ _ look,c.mro⟩
    have cont:(Value.ref A::bm).contains (.ref CF)=true:=by rw [hmro] at hsub;exact Option.some.inj hsub
    refine wpAny_handleBy_cons (codeAny_handlers_test (ld_glob (X:=X.held x) (J3.unpn.held x) hg hm ?_ hd)) (by intro z;cases z)
    obtain ⟨hp3,g3,d3,t3,os3⟩:=s3
    refine matches_own hC hF e1 cl (TF.hasType PySem.F.excBase_ValueError.hasBase) cont (codeAny_handlers_suite_as ?_)
    refine flight_ok J3 F3 fun s4 J4 F4=>?_
    obtain ⟨y4,oe4,vs4,a4,e4,c4,d4,_⟩:=id F4
    refine store_ok2 (X:=X.held x) (J4.unpn.held x) hN hi (.inl hl) (v:=.ref x) rfl (fun s5 J5 hch=>?_) (.inr hl)
    have e5:s5.heap.get? x=some oe4:=by
      obtain ⟨b,sb,hb'⟩:=hch
      refine (sb.2 x ?_).trans e4
      rintro rfl
      rcases hb' with z | z
      · obtain ⟨m,⟨ol,_,_,el,dl,_⟩,_⟩:=J4.loc
        have el':s4.heap.get? X.env.locals=some ol:=el
        rw [←z,e4] at el';cases el';rw [d4] at dl;cases dl
      · obtain ⟨v,oc,ec,dc⟩:=J4.cell _ _ z
        rw [e4] at ec;cases ec;rw [d4] at dc;cases dc
    have J6:Inv (X.held x) pins (σ'.set i (some (.ref x))) (upd H' x (.ext (ExcO x C))) s5 :=
      J5.track ⟨y4.1,y4.2.1,fun p hp=>y4.2.2 p (List.mem_append_left _ hp)⟩ (fun p hp=>y4.2.2 p (List.mem_append_right _ hp)) ⟨oe4,vs4,e5,d4⟩ ⟨oe4,vs4,e5,c4,d4⟩ fun h1 h2 ⟨o,ws,z1,z2,z3⟩ kk=>⟨o,ws,kk _ z1,z2,z3⟩
    have un:∀{σ2 H2 s6},Inv (X.held x) pins σ2 H2 s6→Inv X pins σ2 H2 s6:=fun z=>z.unheld I.ok.hd I.ok.frames
    refine wpAny_mono (hs x pins s5 _ _ _ (J6.wish _) (k x y4.2.1)) (fun f s6 z=>?_) fun _ _ z=>z.elim
    cases f with
    | next=>obtain ⟨σ2,H2,J7,z⟩:=z;exact unbind_ok (un J7.unwish) hN hi hl fun s7 J8=>⟨_,H2,J8,z⟩
    | brk=>obtain ⟨σ2,H2,J7,z⟩:=z;exact unbind_ok (un J7.unwish) hN hi hl fun s7 J8=>⟨_,H2,J8,z⟩
    | cont=>obtain ⟨σ2,H2,J7,z⟩:=z;exact unbind_ok (un J7.unwish) hN hi hl fun s7 J8=>⟨_,H2,J8,z⟩
    | ret u=>obtain ⟨v,σ2,H2,J7,r,z⟩:=z;exact unbind_ok (un J7.unwish) hN hi hl fun s7 J8=>⟨v,_,H2,J8,r,z⟩
end
section
variable {prog:Program} {w:World} {B:Around} {E:Value→Shared→Prop} {K:Frag} {A x:Addr} {s:Shared}
theorem get_tie {o od:Obj} {d:Addr} {v:Value} {Q:Value→Shared→Prop} (C:ExcC K A) (hh:hasDictIn K A=true) (nt:findIn K (.ref A) "tie"=some none) (X:K.In s.heap) (I:InstAt s.heap x o A (some od)) (hl:lookIn "tie" od=some (some v)) (hv:handedIn v=true)
    (h:Q v {s with toks:=s.toks+1}):wpAny (model prog w) B (getAttr (.ref x) "tie" true) Q E s:=by
  obtain ⟨hp,g,dw,t,os⟩:=s
  have e0:=I.type (M:=model prog w)
  have e1:=looks_findIn (M:=model prog w) X C.ga
  have e2:=looks_findIn (M:=model prog w) X C.gn
  have e3:=looks_mroIn (M:=model prog w) X C.cb
  have e5:=looks_find (M:=model prog w) X I (findObj_own hh nt rfl hl)
  have f3:=PySem.F.excAttr_ValueError.ga.bind (.ref x)
  unfold getAttr
  refine wpAny_bind (wpAny_mkText ?_)
  unfold getAttrBy
  refine wpAny_holding (wpAny_bind (e0.at (wpAny_bind (e1.at ?_))))
  show wpAny _ _ (getAttrByItsOwn _ _ _ _ _ _) _ _ _
  unfold getAttrByItsOwn hookBefore
  refine wpAny_bind ?_
  rw [if_pos (show onTheHeap (Value.ref A)=true from rfl)]
  refine e2.at (wpAny_bind (wpAny_attempt (wpAny_holding ?_)))
  unfold callGetattribute boundAndCalled
  rw [if_neg (by decide),f3]
  refine wpAny_bind (wpAny_pure (wpAny_call (codeAny_call_builtin PySem.F.excAttr_ValueError.ga.plain PySem.F.entry_bexc_ga ?_)))
  have kk:builtinKind "BaseException.__getattribute__"=some .slot∧splitId "BaseException.__getattribute__"=some ("BaseException","__getattribute__"):=⟨by decide +kernel,by decide +kernel⟩
  have e4:=PySem.F.args_bexc_ga (.ref x) (.str "tie" t)
  simp only [checkBuiltinCall,kk.1,kk.2];unfold isInstance
  refine wpAny_bind (wpAny_bind (e0.at (e3.at ?_)))
  rw [if_neg (by decide)]
  refine wpAny_of_eq (show _=pure () from e4) ?_
  unfold Builtin.«object.__getattribute__»
  refine wpAny_bind (wpAny_pure (wpAny_bind (wpAny_pure (wpAny_bind (e0.at (wpAny_bind (e5.at ?_)))))))
  refine wpAny_pure ?_
  show wpAny _ _ (handedOut v) _ _ _
  rw [handedOut_of hv];exact wpAny_pure h
end
section
variable {X:Cx}
def tTie (K:Frag) (ta:TE):TE:=fun σ H Q=>ta σ H fun x H1=>∃a A F f v,∃d:Nat,x=.ref a∧H1 a=some (.ext (ExcO a (.int (d:Int) A)))∧H1 d=some (.xd [("tie",v)])∧ExI K A F f∧ExcC K A∧Q v H1
theorem pe_tie {K:Frag} {e:Expr} {ta:TE} {pos:Pos} (hK:X.K=K) (he:PE X e ta) (hb:attributeBase e "tie" X.env (eval e X.env)=eval e X.env):PE X (.Attribute e "tie" pos) (tTie K ta):=by
  subst hK
  intro pins s σ H Q I h
  refine attr_of hb (thn (he pins s σ H _ I h) fun u s1 ⟨x,H1,I1,rx,a,A,F,f,v,d,ex,ea,ed,c,C,q⟩=>?_)
  subst ex
  obtain rfl:u=Value.ref a:=rx
  obtain ⟨⟨o,vs,hx,⟨hc,hdd⟩,hv⟩,_,_⟩:=I1.hok a _ ea
  obtain ⟨mA,hns,hr⟩:∃mA,s1.heap.Ns1 d mA∧∀f:Str,RelO (List.lookup f [(("tie":Str),v)]) (mA f):=I1.hok d _ ed
  obtain ⟨od,hod,hlk⟩:=lookIn_ns hns
  obtain ⟨u,hu,ru⟩:=RelO.some_of (v:=v) (o:=mA "tie") (by have:=hr "tie";simpa [List.lookup] using this)
  have hdd':o.dict=some d:=hdd
  exact get_tie C c.dict c.nt I1.kIn (od:=od) (d:=d) ⟨hx,hc,by unfold notCls;rw [hv],by rw [hdd'];exact hod⟩ (by rw [hlk,hu]) (handed_of ru) ⟨v,H1,I1.tok _,ru,q⟩
end
end L2
namespace L2
open PySem PySem.Spec PyProof.Rows PySem.W
def ClsX (C:Value) (A:Addr):Prop:=C=.ref A∨∃d,C=.int d A
theorem ClsX.cls {o:Obj} {C:Value} {A:Addr} (h:ClsX C A) (i:IsX o C):o.cls=.ref A:=by
  rcases h with rfl | ⟨d,rfl⟩
  · exact i
  · exact i.1
theorem kitx_excX {K:Frag} {A x:Addr} {Cv:Value} (C:ExcC K A) (q:ClsX Cv A):KitX K (.ref x) (.ref A) (ExcO x Cv) where
  ty:=fun M h _ ⟨o,vs,hx,hc,_⟩=>exc_ty hx (q.cls hc)
  it:=fun M h X _=>exc_isType X C.is
  ne:=(kitx_exc (x:=x) C).ne
  ca:=fun X ⟨o,vs,hx,hc,_⟩ k=>exc_class X C hx (q.cls hc) k
section
variable {X:Cx}
def rIsX (K:Frag):List V→Hp→VK→Prop:=fun xs H Q=>∃a A C c cv b,xs=[.ref a,c]∧RelV c cv∧(∀u,RelV c u→u=cv)∧H a=some (.ext (ExcO a C))∧ClsX C A∧ExcC K A∧kitOne K (.ref A) cv=some b∧Q (.bl b) H
theorem cIsX {K:Frag} (h:X.K=K):CallR X (.builtin "isinstance") (rIsX K):=by
  subst h
  intro pins s σ H xs us Q I r h
  obtain ⟨a,A,Cv,c,cv,b,rfl,_,hu,ha,hcl,C,e,q⟩:=h
  obtain ⟨u,u',rfl,rx,rc⟩:=vals2 r
  obtain rfl:=hu u' rc
  cases (show u=Value.ref a from rx)
  obtain ⟨p,_,_⟩:=I.hok a _ ha
  exact kia_one (kitx_excX C hcl) I.kIn p e (fun z=>nomatch z) fun tk=>⟨.bl b,H,I.tok _,rfl,q⟩
def rIdxV (K:Frag):V→List V→Hp→VK→Prop:=fun x vs H Q=>∃(p:Addr) (xs:List V) (y:V) (j:Nat),x=.ref p∧vs=[y]∧SqL K H p xs∧flatV y=true∧xs.all flatV=true∧j<xs.length∧xs.length≤1000∧eqV (xs.getD j .non) y=true∧(∀i,i<j→eqV (xs.getD i .non) y=false)∧Q (.int (j:Nat)) H
theorem mIndexV {K:Frag} (h:X.K=K):MtM X "list.index" (rIdxV K):=by
  subst h
  intro pins s σ H x vs v us Q I rx rv h
  obtain ⟨p,xs,y,j,rfl,rfl,hq,fy,fs,hj,hn,hz,hno,q⟩:=h
  cases rx
  obtain ⟨u,rfl,ry⟩:=rv.one
  obtain ⟨its,r,⟨ob,n,e,c,dn,d⟩,_⟩:=I.list hq
  obtain ⟨oc,od,odt,osl⟩:=ob
  dsimp only at c dn d
  subst c dn d
  have hl:=r.length
  have key:∀i (hi:i<its.toArray.size),eqU y its.toArray[i]=eqV (xs.getD i .non) y:=fun i hi=>by
    have hi2:i<its.length:=by simpa using hi
    have hi':i<xs.length:=by omega
    obtain ⟨u',hu,ru⟩:=r.get (List.getElem?_eq_getElem hi')
    have e2:its.toArray[i]=u':=by
      rw [List.getElem?_eq_getElem hi2] at hu
      have:=Option.some.inj hu
      simpa using this
    rw [e2,List.getD_eq_getElem?_getD,List.getElem?_eq_getElem hi']
    exact eqU_of ru (List.all_eq_true.mp fs _ (List.getElem_mem hi'))
  refine call_meets PySem.F.slot_list_index ⟨_,e,rfl⟩ PySem.F.entry_list_index (PySem.F.args_list_index_2 _ _) (SeqAt.list_indexAt p its.toArray n _ _ u (eqU y) j (by rw [List.size_toArray];omega) (by omega) (by rw [key];exact hz) fun i hi hij=>by rw [key];exact hno i hij) ⟨e,fun w hw=>mem_eqAt ry fy r fs w (by simpa using hw),?_⟩
  exact ⟨.int (j:Nat),H,I.tok _,⟨_,rfl⟩,q⟩
end
end L2
namespace L2
open PySem PySem.Spec PyProof.Rows PySem.W
section
variable {X:Cx}
def IsV (K:Frag) (H:Hp) (x c:V) (b:Bool):Prop:=∃cv,RelV c cv∧(∀u,RelV c u→u=cv)∧((∃t,TyX K H x t∧kitOne K t cv=some b)∨(∃a A C,x=.ref a∧H a=some (.ext (ExcO a C))∧ClsX C A∧ExcC K A∧kitOne K (.ref A) cv=some b))
def rIsN (K:Frag):List V→Hp→VK→Prop:=fun xs H Q=>∃x c b,xs=[x,c]∧IsV K H x c b∧Q (.bl b) H
theorem cIsN {K:Frag} (h:X.K=K):CallR X (.builtin "isinstance") (rIsN K):=by
  intro pins s σ H xs us Q I r h'
  obtain ⟨x,c,b,rfl,⟨cv,r1,r2,q⟩,k⟩:=h'
  rcases q with ⟨t,ht,e⟩ | ⟨a,A,C,rfl,ha,hC,hX,e⟩
  · exact cIs h pins s σ H _ us Q I r ⟨x,c,t,cv,b,rfl,r1,r2,ht,e,k⟩
  · exact cIsX h pins s σ H _ us Q I r ⟨a,A,C,c,cv,b,rfl,r1,r2,ha,hC,hX,e,k⟩
end
end L2
namespace L2
open PySem
theorem ac_dvd {k:Int} {ps:List Int} (hN:ps.Nodup) {es:List (Int×Int)} {fs:List Int} {n:Nat} (h:∀p∈ps,k∣dp p es fs n):k∣ac ps es fs n:=by
  rw [ac_dp ps hN es fs n]
  have:∀ps:List Int,(∀p∈ps,k∣dp p es fs n)→k∣(ps.map fun p=>dp p es fs n).sum:=fun ps=>by
    induction ps with
    | nil=>exact fun _=>⟨0,by rw [Int.mul_zero];rfl⟩
    | cons p ps ih =>
      intro h
      rw [List.map_cons,List.sum_cons]
      exact Int.dvd_add (h p List.mem_cons_self) (ih fun q hq=>h q (List.mem_cons_of_mem _ hq))
  exact Int.dvd_neg.mpr (this ps h)
theorem flow_dvdK {m k:Int} {es:List (Int×Int)} {fs:List Int} (hE:∀e∈es,0≤e.1∧e.1<m∧0≤e.2∧e.2<m) (hd:∀p:Int,0≤p→p<m→k∣dp p es fs es.length) (h0:∀t,t<es.length→¬inF es t=true→k∣fs.getD t 0):∀t,t<es.length→k∣fs.getD t 0:=by
  have key:∀n t,t<es.length→es.length≤t+n→k∣fs.getD t 0:=by
    intro n
    induction n with
    | zero=>intro t ht h;omega
    | succ n ih =>
      intro t ht h
      by_cases hF:inF es t=true
      · obtain ⟨f,F⟩:=lab_ex hE t
        have hg:es[t]?=some (es.getD t (0,0)):=by rw [List.getD_eq_getElem?_getD,List.getElem?_eq_getElem ht];rfl
        obtain ⟨b1,b2,b3,b4⟩:=hE _ (List.mem_of_getElem? hg)
        have hne:¬f (es.getD t (0,0)).1=f (es.getD t (0,0)).2:=fun z=>inF_iff.mp hF ((F.iff b1 b2 b3 b4).mp z)
        have hz:=ac_dvd (grp_nd m.toNat f (f (es.getD t (0,0)).1)) fun p hp=>by
          obtain ⟨q0,q1,_⟩:=mem_grp.mp hp
          exact hd p q0 (by omega)
        have hmem:∀z:Int,0≤z→z<m→memI (grp m.toNat f (f (es.getD t (0,0)).1)) z=decide (f z=f (es.getD t (0,0)).1):=fun z z0 z1=>by
          rw [Bool.eq_iff_iff,memI_iff,mem_grp,decide_eq_true_iff]
          exact ⟨fun h=>h.2.2,fun h=>⟨z0,by omega,h⟩⟩
        have st:∀j,j≤es.length→k∣(ac (grp m.toNat f (f (es.getD t (0,0)).1)) es fs j-if t<j then fs.getD t 0 else 0):=by
          intro j
          induction j with
          | zero=>intro _;rw [if_neg (Nat.not_lt_zero _)];exact ⟨0,by rw [Int.mul_zero];rfl⟩
          | succ j ihj =>
            intro hj
            have ih1:=ihj (by omega)
            show k∣(ac _ es fs j+_-_-_)
            have hgn:es[j]?=some (es.getD j (0,0)):=by rw [List.getD_eq_getElem?_getD,List.getElem?_eq_getElem (show j<es.length by omega)];rfl
            obtain ⟨d1,d2,d3,d4⟩:=hE _ (List.mem_of_getElem? hgn)
            rw [hmem _ d1 d2,hmem _ d3 d4]
            by_cases c:j<t
            · have es1:f (es.getD j (0,0)).1=f (es.getD j (0,0)).2:=F.same _ (List.mem_take_iff_getElem.mpr ⟨j,by omega,by rw [List.getD_eq_getElem?_getD,List.getElem?_eq_getElem (show j<es.length by omega)];rfl⟩)
              rw [es1,if_neg (show ¬t<j+1 by omega)]
              rw [if_neg (show ¬t<j by omega)] at ih1
              cases decide (f (es.getD j (0,0)).2=f (es.getD t (0,0)).1)<;>simpa using ih1
            · by_cases c2:j=t
              · subst c2
                rw [decide_eq_true rfl,decide_eq_false (fun z=>hne z.symm),if_pos (Nat.lt_succ_self _)]
                rw [if_neg (Nat.lt_irrefl _)] at ih1
                have e:∀A B:Int,A+(if (true&&!false)=true then B else 0)-(if (false&&!true)=true then B else 0)-B=A-0:=fun A B=>by simp
                rw [e];exact ih1
              · obtain ⟨u,hu⟩:k∣fs.getD j 0:=ih j (by omega) (by omega)
                rw [if_pos (show t<j+1 by omega)]
                rw [if_pos (show t<j by omega)] at ih1
                obtain ⟨v,hv⟩:=ih1
                have e:∀(x y:Bool) (A B C:Int),A+(if (x&&!y)=true then C else 0)-(if (y&&!x)=true then C else 0)-B=(A-B)+C*((if x=true then 1 else 0)-(if y=true then 1 else 0)):=fun x y A B C=>by
                  cases x<;>cases y<;>simp<;>omega
                rw [hu,e,hv,Int.mul_assoc,←Int.mul_add]
                exact ⟨_,rfl⟩
        have:=st es.length (Nat.le_refl _)
        rw [if_pos ht] at this
        obtain ⟨v,hv⟩:=this
        obtain ⟨u,hu⟩:=hz
        exact ⟨u-v,by rw [Int.mul_sub];omega⟩
      · exact h0 t ht hF
  exact fun t ht=>key es.length t ht (by omega)
theorem lead_back {m k:Int} {es:List (Int×Int)} {rs fs:List Int} (hE:∀e∈es,0≤e.1∧e.1<m∧0≤e.2∧e.2<m) (hl:rs.length=es.length) (hR:isR m es rs k=true) (h:FW es (frv es rs) fs):fs.map (·%k)=rs:=by
  have hb:=isR_bounds hR
  have hmod:∀p:Nat,p<m.toNat→dp p es rs es.length%k=0:=by
    unfold isR at hR
    rw [Bool.and_eq_true,decide_eq_true_iff] at hR
    exact hR.2
  have hfl:fs.length=(rs.map (-1*·)).length:=by rw [List.length_map,h.1,hl]
  have g:∀t,(List.zipWith (·+·) fs (rs.map (-1*·))).getD t 0=fs.getD t 0-rs.getD t 0:=fun t=>by
    rw [getD_zip _ _ hfl,getD_map0];omega
  have key:=flow_dvdK (k:=k) (fs:=List.zipWith (·+·) fs (rs.map (-1*·))) hE (fun p p0 p1=>by
    rw [dp_zip p es _ _ hfl,h.2.1 p,dp_map]
    have:=hmod p.toNat (by omega)
    rw [Int.toNat_of_nonneg p0] at this
    obtain ⟨u,hu⟩:=Int.dvd_of_emod_eq_zero this
    exact ⟨-u,by rw [Int.mul_neg];omega⟩) (fun t ht hn=>by
    obtain ⟨j,hj,ej⟩:=fre_at ht hn
    have e1:=h.2.2 j hj
    rw [ej,Int.toNat_natCast] at e1
    have e2:(frv es rs).getD j 0=rs.getD t 0:=by
      rw [gD_at (by rw [frv_len];exact hj)]
      unfold frv
      rw [List.getElem_map,←gD_at hj,ej,Int.toNat_natCast]
    rw [g t,e1,e2]
    exact ⟨0,by omega⟩)
  refine List.ext_getElem (by rw [List.length_map,h.1,hl]) fun t h1 h2=>?_
  rw [List.getElem_map]
  have ht:t<es.length:=by omega
  obtain ⟨u,hu⟩:=key t ht
  rw [g t,gD_at (by rw [h.1];exact ht),gD_at h2] at hu
  obtain ⟨b0,b1⟩:=hb rs[t] (List.getElem_mem h2)
  have e:fs[t]'(by rw [h.1];exact ht)=rs[t]+k*u:=by omega
  rw [e,Int.add_mul_emod_self_left,Int.emod_eq_of_lt b0 b1]
end L2
namespace L2
open PySem PySem.Spec PyProof.Rows
structure ZA3 (z TO i1 i2 i3:Addr) (f1 f2 f3:List Addr):Prop where
  m1:i1∈f1
  m2:i2∈f2
  m3:i3∈f3
  z1:z∉f1
  z2:z∉f2
  z3:z∉f3
  o1:TO∉f1
  o2:TO∉f2
  o3:TO∉f3
  x12:i1∉f2
  x13:i1∉f3
  x21:i2∉f1
  x23:i2∉f3
  x31:i3∉f1
  x32:i3∉f2
  oz:TO≠z
section
variable {prog:Program} {w:World} {A:Around} {E:Value→Shared→Prop} {s:Shared} {z TI TO i1 i2 i3:Addr} {f1 f2 f3:List Addr} {n1 n2 n3 i:Nat} {P1 P2 P3:Nat→Value→Prop} {S1 S2 S3:Nat→Heap→Prop} {a b c:Value}
end
end L2
namespace L2
open PySem PySem.Spec PyProof.Rows
section
variable {prog:Program} {w:World} {A:Around} {E:Value→Shared→Prop} {s:Shared}
end
section
variable {X:Cx} {K:PySem.W.Frag} {elts:List Expr} {kx:Nat} {tpos:Pos}
end
end L2
namespace L2
open PySem
def stE (es:List (Int×Int)) (s:Int×Int):Int:=if s.2=1 then (tieOf es s.1).2 else (tieOf es s.1).1
def stB (es:List (Int×Int)) (s:Int×Int):Int:=if s.2=1 then (tieOf es s.1).1 else (tieOf es s.1).2
def StV (es:List (Int×Int)) (s:Int×Int):Prop:=0≤s.1∧s.1<(es.length:Int)∧(s.2=1∨s.2=-1)
def rmN (as lo hi:List Int):List (Int×Int):=(List.range as.length).map fun i=>(hi.getD i 0-as.getD i 0,as.getD i 0-lo.getD i 0)
def rmA (rm:List (Int×Int)) (s:Int×Int):Int:=if s.2=1 then (rm.getD s.1.toNat (0,0)).1 else (rm.getD s.1.toNat (0,0)).2
theorem rmN_at {as lo hi:List Int} {i:Nat} (h:i<as.length):(rmN as lo hi).getD i (0,0)=(hi.getD i 0-as.getD i 0,as.getD i 0-lo.getD i 0):=by
  unfold rmN
  rw [List.getD_eq_getElem?_getD,List.getElem?_map,List.getElem?_range h];rfl
def stN (es rm:List (Int×Int)) (p:Int):Nat→List (Int×Int)
  | 0=>[]
  | i+1=>(stN es rm p i++if (es.getD i (0,0)).1=p∧0<(rm.getD i (0,0)).1 then [((i:Int),(1:Int))] else [])++if (es.getD i (0,0)).2=p∧0<(rm.getD i (0,0)).2 then [((i:Int),(-1:Int))] else []
def stpS (es:List (Int×Int)) (p:Int) (S:List Int×(Int→List (Int×Int))) (s:Int×Int):List Int×(Int→List (Int×Int)) :=
  if stE es s∈S.1 then S else (S.1++[stE es s],fun z=>if z=stE es s then S.2 p++[s] else S.2 z)
def rndS (es rm:List (Int×Int)) (S:List Int×(Int→List (Int×Int))) (k:Nat):List Int×(Int→List (Int×Int)):=(stN es rm (S.1.getD k 0) es.length).foldl (stpS es (S.1.getD k 0)) S
def runS (es rm:List (Int×Int)):Nat→List Int×(Int→List (Int×Int))→Nat→List Int×(Int→List (Int×Int))
  | 0,S,_=>S
  | n+1,S,k=>if k<S.1.length then runS es rm n (rndS es rm S k) (k+1) else S
def wwr (es rm:List (Int×Int)) (a:Int) (m:Nat):List Int×(Int→List (Int×Int)):=runS es rm m ([a],fun _=>[]) 0
inductive WayS (es rm:List (Int×Int)) (a:Int):List (Int×Int)→List Int→Int→Prop
  | nil:WayS es rm a [] [] a
  | snoc {ss:List (Int×Int)} {ps:List Int} {p:Int} {s:Int×Int}:WayS es rm a ss ps p→StV es s→stB es s=p→0<rmA rm s→¬stE es s∈ps++[p]→WayS es rm a (ss++[s]) (ps++[p]) (stE es s)
section
variable {es rm:List (Int×Int)} {a p:Int} {ss:List (Int×Int)} {ps:List Int}
theorem WayS.nd (h:WayS es rm a ss ps p):(ps++[p]).Nodup:=by
  induction h with
  | nil=>simp
  | snoc _ _ _ _ hn ih=>exact nodup_snoc ih hn
theorem WayS.len (h:WayS es rm a ss ps p):ss.length=ps.length:=by
  induction h with
  | nil=>rfl
  | snoc _ _ _ _ _ ih=>rw [List.length_append,List.length_append,ih];rfl
theorem WayS.first (h:WayS es rm a ss ps p):a∈ps++[p]:=by
  induction h with
  | nil=>exact List.mem_singleton.mpr rfl
  | snoc _ _ _ _ _ ih=>exact List.mem_append_left _ ih
theorem WayS.step (h:WayS es rm a ss ps p):∀s∈ss,StV es s∧0<rmA rm s∧stE es s≠a∧stE es s∈ps++[p]∧stB es s∈ps++[p]:=by
  induction h with
  | nil=>exact fun s hs=>nomatch hs
  | @snoc ss ps p s h hv hb hr hn ih =>
    intro t ht
    rcases List.mem_append.mp ht with y | y
    · obtain ⟨h1,h2,h3,h4,h5⟩:=ih t y
      exact ⟨h1,h2,h3,List.mem_append_left _ h4,List.mem_append_left _ h5⟩
    · rw [List.mem_singleton.mp y]
      exact ⟨hv,hr,fun e=>hn (e▸h.first),List.mem_append_right _ (List.mem_singleton.mpr rfl),by rw [hb];exact List.mem_append_left _ (List.mem_append_right _ (List.mem_singleton.mpr rfl))⟩
theorem st_ends {s t:Int×Int} (e:s.1=t.1):stE es s=stE es t∨stE es s=stB es t:=by
  unfold stE stB
  rw [e]
  by_cases c1:s.2=1<;>by_cases c2:t.2=1<;>simp [c1,c2]
theorem WayS.tnd (h:WayS es rm a ss ps p):(ss.map (·.1)).Nodup:=by
  induction h with
  | nil=>simp
  | @snoc ss ps p s h hv hb hr hn ih =>
    rw [List.map_append]
    refine nodup_snoc ih fun ht=>?_
    obtain ⟨t,h1,h2⟩:=List.mem_map.mp ht
    obtain ⟨_,_,_,q1,q2⟩:=h.step t h1
    rcases st_ends (es:=es) (show s.1=t.1 from h2.symm) with e | e
    · exact hn (e▸q1)
    · exact hn (e▸q2)
end
def psh (as:List Int) (ss:List (Int×Int)) (z:Int):List Int:=ss.foldl (fun as s=>as.set s.1.toNat (as.getD s.1.toNat 0+s.2*z)) as
theorem psh_snoc (as:List Int) (ss:List (Int×Int)) (s:Int×Int) (z:Int):psh as (ss++[s]) z=(psh as ss z).set s.1.toNat ((psh as ss z).getD s.1.toNat 0+s.2*z):=by unfold psh;rw [List.foldl_append];rfl
theorem psh_len (as:List Int) (z:Int) (ss:List (Int×Int)):(psh as ss z).length=as.length:=by
  induction ss generalizing as with
  | nil=>rfl
  | cons s ss ih=>exact (ih _).trans (List.length_set ..)
theorem dp_step1 {es:List (Int×Int)} {as:List Int} {s:Int×Int} {z:Int} (hl:as.length=es.length) (hv:StV es s) (p:Int):dp p es (as.set s.1.toNat (as.getD s.1.toNat 0+s.2*z)) es.length=dp p es as es.length+(if stE es s=p then z else 0)-(if stB es s=p then z else 0):=by
  obtain ⟨h0,h1,h2⟩:=hv
  rw [dp_set p es as _ _ (by omega),if_pos (by omega)]
  unfold stE stB tieOf
  have e:as.getD s.1.toNat 0+s.2*z-as.getD s.1.toNat 0=s.2*z:=by omega
  rw [e]
  rcases h2 with c | c
  · rw [c,if_pos rfl,if_pos rfl,Int.one_mul];omega
  · rw [c,if_neg (show ¬(-1:Int)=1 by decide),if_neg (show ¬(-1:Int)=1 by decide),Int.neg_mul,Int.one_mul]
    split<;>split<;>omega
theorem WayS.dp {es rm:List (Int×Int)} {a q:Int} {ss:List (Int×Int)} {ps:List Int} (h:WayS es rm a ss ps q) {as:List Int} {z:Int} (hl:as.length=es.length) (p:Int):dp p es (psh as ss z) es.length=L2.dp p es as es.length+(if q=p then z else 0)-(if a=p then z else 0):=by
  induction h with
  | nil=>show L2.dp p es as _=_;omega
  | @snoc ss ps q s h hv hb hr hn ih =>
    rw [psh_snoc,dp_step1 ((psh_len ..).trans hl) hv p,ih,hb];omega
theorem WayS.ring {es rm:List (Int×Int)} {ss:List (Int×Int)} {ps:List Int} {s:Int×Int} (h:WayS es rm (stE es s) ss ps (stB es s)) (hv:StV es s) {as:List Int} {z:Int} (hl:as.length=es.length) (p:Int):L2.dp p es (psh as (ss++[s]) z) es.length=L2.dp p es as es.length:=by
  rw [psh_snoc,dp_step1 ((psh_len ..).trans hl) hv p,h.dp hl p];omega
theorem psh_out {z:Int} {t:Nat} {ss:List (Int×Int)}:∀{as:List Int},(∀s∈ss,s.1.toNat≠t)→(psh as ss z).getD t 0=as.getD t 0:=by
  induction ss with
  | nil=>intro as _;rfl
  | cons s ss ih =>
    intro as h
    have e:=ih (as:=as.set s.1.toNat (as.getD s.1.toNat 0+s.2*z)) fun u hu=>h u (List.mem_cons_of_mem _ hu)
    refine Eq.trans e ?_
    rw [List.getD_eq_getElem?_getD,List.getElem?_set_ne (h s List.mem_cons_self),List.getD_eq_getElem?_getD]
theorem psh_in {es:List (Int×Int)} {z:Int} {s:Int×Int} {ss:List (Int×Int)}:∀{as:List Int},as.length=es.length→(∀u∈ss,StV es u)→(ss.map (·.1)).Nodup→s∈ss→(psh as ss z).getD s.1.toNat 0=as.getD s.1.toNat 0+s.2*z:=by
  induction ss with
  | nil=>intro as _ _ _ h;cases h
  | cons u ss ih =>
    intro as hl hv hn hs
    rw [List.map_cons,List.nodup_cons] at hn
    have hu:=hv u List.mem_cons_self
    have hl2:(as.set u.1.toNat (as.getD u.1.toNat 0+u.2*z)).length=es.length:=(List.length_set ..).trans hl
    rcases List.mem_cons.mp hs with y | y
    · subst y
      have e:=psh_out (z:=z) (t:=s.1.toNat) (ss:=ss) (as:=as.set s.1.toNat (as.getD s.1.toNat 0+s.2*z)) fun v hv' e=>by
        have:=hv v (List.mem_cons_of_mem _ hv')
        have e':v.1=s.1:=by have:=this.1;have:=hu.1;omega
        exact hn.1 (e'▸List.mem_map.mpr ⟨v,hv',rfl⟩)
      refine Eq.trans e ?_
      rw [getDi_set _ _ _ _ (by have:=hu.1;have:=hu.2.1;omega),if_pos rfl]
    · have e:=ih hl2 (fun v h=>hv v (List.mem_cons_of_mem _ h)) hn.2 y
      refine Eq.trans e ?_
      have hne:u.1.toNat≠s.1.toNat:=fun e=>by
        have e':s.1=u.1:=by have:=(hv s (List.mem_cons_of_mem _ y)).1;have:=hu.1;omega
        exact hn.1 (e'▸List.mem_map.mpr ⟨s,y,rfl⟩)
      rw [List.getD_eq_getElem?_getD,List.getElem?_set_ne hne,List.getD_eq_getElem?_getD]
def dueI (a l h:Int):Int:=if a<l then l-a else if a>h then h-a else 0
def dueN (as lo hi:List Int) (i:Nat):Int:=dueI (as.getD i 0) (lo.getD i 0) (hi.getD i 0)
def stpD (i:Nat) (d:Int):Int×Int:=((i:Int),if d>0 then 1 else -1)
theorem stpD_v {es:List (Int×Int)} {i:Nat} (h:i<es.length) (d:Int):StV es (stpD i d):=by
  refine ⟨by show 0≤(i:Int);omega,by show (i:Int)<_;omega,?_⟩
  show (if d>0 then (1:Int) else -1)=1∨(if d>0 then (1:Int) else -1)=-1
  split
  · exact .inl rfl
  · exact .inr rfl
theorem dueI_next {a l h d z:Int} (hlh:l≤h) (e:dueI a l h=d) (hd:d≠0) (z0:0<z) (z1:z≤(if d<0 then -d else d)):(dueI (a+(if d>0 then 1 else -1)*z) l h).natAbs<d.natAbs:=by
  unfold dueI at e
  by_cases c:a<l
  · rw [if_pos c] at e
    rw [if_neg (show ¬d<0 by omega)] at z1
    rw [if_pos (show d>0 by omega),Int.one_mul]
    unfold dueI
    split
    · omega
    · split<;>omega
  · rw [if_neg c] at e
    by_cases c2:a>h
    · rw [if_pos c2] at e
      rw [if_pos (show d<0 by omega)] at z1
      rw [if_neg (show ¬d>0 by omega),Int.neg_mul,Int.one_mul]
      unfold dueI
      split
      · omega
      · split<;>omega
    · rw [if_neg c2] at e;exact absurd e.symm hd
structure BtI (es:List (Int×Int)) (lo hi:List Int) (i:Nat) (as:List Int):Prop where
  len:as.length=es.length
  flow:∀p:Int,dp p es as es.length=0
  past:∀t,t<i→lo.getD t 0≤as.getD t 0∧as.getD t 0≤hi.getD t 0
theorem sz_pos {rm:List (Int×Int)} {d z:Int} {ss:List (Int×Int)} (hd:d≠0) (hr:∀s∈ss,0<rmA rm s) (h:z∈(if d<0 then -d else d)::ss.map (rmA rm)):0<z:=by
  rcases List.mem_cons.mp h with y | y
  · rw [y];split<;>omega
  · obtain ⟨s,h1,h2⟩:=List.mem_map.mp y
    rw [←h2];exact hr s h1
theorem way_not {es:List (Int×Int)} {as lo hi:List Int} {i:Nat} {ss:List (Int×Int)} {ps:List Int} {q:Int} (hi':i<es.length) (hl:as.length=es.length) (hd:dueN as lo hi i≠0) (hlh:lo.getD i 0≤hi.getD i 0)
    (h:WayS es (rmN as lo hi) (stE es (stpD i (dueN as lo hi i))) ss ps q):∀s∈ss,s.1≠(i:Int):=fun s hs e=>by
  obtain ⟨hv,hr,hne,_⟩:=h.step s hs
  unfold rmA at hr
  rw [e,Int.toNat_natCast,rmN_at (by omega)] at hr
  unfold dueN dueI at hd hne
  unfold stE stpD at hne
  rw [e] at hne
  rcases hv.2.2 with c | c
  · rw [c,if_pos rfl] at hne
    rw [c,if_pos rfl] at hr
    split at hd
    · rename_i c1
      rw [if_pos c1] at hne
      rw [if_pos (show lo.getD i 0-as.getD i 0>0 by omega)] at hne
      exact hne (by simp)
    · split at hd
      · dsimp only at hr;omega
      · exact hd rfl
  · rw [c,if_neg (by decide)] at hne hr
    split at hd
    · dsimp only at hr;omega
    · split at hd
      · rename_i c1 c2
        rw [if_neg c1,if_pos c2] at hne
        rw [if_neg (show ¬hi.getD i 0-as.getD i 0>0 by omega)] at hne
        exact hne (by simp)
      · exact hd rfl
theorem BtI.next {es:List (Int×Int)} {lo hi as:List Int} {i:Nat} {z:Int} {ss:List (Int×Int)} {ps:List Int} (I:BtI es lo hi i as) (hi':i<es.length) (hlh:∀t,t<es.length→lo.getD t 0≤hi.getD t 0) (hd:dueN as lo hi i≠0)
    (h:WayS es (rmN as lo hi) (stE es (stpD i (dueN as lo hi i))) ss ps (stB es (stpD i (dueN as lo hi i)))) (hz:z∈(if dueN as lo hi i<0 then -dueN as lo hi i else dueN as lo hi i)::ss.map (rmA (rmN as lo hi))) (hm:∀y∈(if dueN as lo hi i<0 then -dueN as lo hi i else dueN as lo hi i)::ss.map (rmA (rmN as lo hi)),z≤y) :
    BtI es lo hi i (psh as (ss++[stpD i (dueN as lo hi i)]) z)∧(dueN (psh as (ss++[stpD i (dueN as lo hi i)]) z) lo hi i).natAbs<(dueN as lo hi i).natAbs:=by
  have z0:0<z:=sz_pos hd (fun s hs=>(h.step s hs).2.1) hz
  have hv:=stpD_v hi' (dueN as lo hi i)
  have hno:=way_not hi' I.len hd (hlh i hi') h
  have hvs:∀u∈ss,StV es u:=fun u hu=>(h.step u hu).1
  have ei:(psh as ss z).getD i 0=as.getD i 0:=psh_out fun s hs e=>hno s hs (by have:=(hvs s hs).1;omega)
  have gi:(psh as (ss++[stpD i (dueN as lo hi i)]) z).getD i 0=as.getD i 0+(if dueN as lo hi i>0 then 1 else -1)*z:=by
    rw [psh_snoc]
    show ((psh as ss z).set ((i:Int)).toNat _).getD i 0=_
    rw [Int.toNat_natCast,getDi_set _ _ _ _ (by rw [psh_len,I.len];exact hi'),if_pos rfl]
    show (psh as ss z).getD ((i:Int)).toNat 0+_=_
    rw [Int.toNat_natCast,ei];rfl
  refine ⟨⟨(psh_len ..).trans I.len,fun p=>(h.ring hv I.len p).trans (I.flow p),fun t ht=>?_⟩,?_⟩
  · have gt:(psh as (ss++[stpD i (dueN as lo hi i)]) z).getD t 0=(psh as ss z).getD t 0:=by
      rw [psh_snoc]
      show ((psh as ss z).set ((i:Int)).toNat _).getD t 0=_
      rw [Int.toNat_natCast,getDi_set _ _ _ _ (by rw [psh_len,I.len];exact hi'),if_neg (by omega)]
    rw [gt]
    obtain ⟨b1,b2⟩:=I.past t ht
    by_cases hs:∃s∈ss,s.1.toNat=t
    · obtain ⟨s,hs,es'⟩:=hs
      have e:=psh_in (z:=z) I.len hvs h.tnd hs
      rw [es'] at e
      rw [e]
      have hr:=hm (rmA (rmN as lo hi) s) (List.mem_cons_of_mem _ (List.mem_map.mpr ⟨s,hs,rfl⟩))
      unfold rmA at hr
      rw [es',rmN_at (by rw [I.len];omega)] at hr
      rcases (hvs s hs).2.2 with c | c
      · rw [c,if_pos rfl] at hr
        rw [c,Int.one_mul]
        have hr':z≤hi.getD t 0-as.getD t 0:=hr
        omega
      · rw [c,if_neg (by decide)] at hr
        rw [c,Int.neg_mul,Int.one_mul]
        have hr':z≤as.getD t 0-lo.getD t 0:=hr
        omega
    · rw [psh_out fun s h1 h2=>hs ⟨s,h1,h2⟩]
      exact ⟨b1,b2⟩
  · show (dueI ((psh as (ss++[stpD i (dueN as lo hi i)]) z).getD i 0) (lo.getD i 0) (hi.getD i 0)).natAbs<_
    rw [gi]
    exact dueI_next (hlh i hi') rfl hd z0 (hm _ List.mem_cons_self)
def rst (m:Nat) (R:List Int):List Int:=((List.range m).map fun (j:Nat)=>(j:Int)).filter fun p=>!decide (p∈R)
inductive WhR (es:List (Int×Int)) (lo hi:List Int) (m i:Nat):List Int→Bool×List Int→Prop
  | done {as:List Int}:dueN as lo hi i=0→WhR es lo hi m i as (true,as)
  | shut {as:List Int}:dueN as lo hi i≠0→¬stB es (stpD i (dueN as lo hi i))∈(wwr es (rmN as lo hi) (stE es (stpD i (dueN as lo hi i))) m).1→WhR es lo hi m i as (false,rst m (wwr es (rmN as lo hi) (stE es (stpD i (dueN as lo hi i))) m).1)
  | next {as ws:List Int} {z:Int} {ss:List (Int×Int)} {r:Bool×List Int}:dueN as lo hi i≠0→stB es (stpD i (dueN as lo hi i))∈(wwr es (rmN as lo hi) (stE es (stpD i (dueN as lo hi i))) m).1 →
      ss=(wwr es (rmN as lo hi) (stE es (stpD i (dueN as lo hi i))) m).2 (stB es (stpD i (dueN as lo hi i)))→z∈(if dueN as lo hi i<0 then -dueN as lo hi i else dueN as lo hi i)::ss.map (rmA (rmN as lo hi))→(∀y∈(if dueN as lo hi i<0 then -dueN as lo hi i else dueN as lo hi i)::ss.map (rmA (rmN as lo hi)),z≤y) →
      ws=psh as (ss++[stpD i (dueN as lo hi i)]) z→WhR es lo hi m i ws r→WhR es lo hi m i as r
inductive BtR (es:List (Int×Int)) (lo hi:List Int) (m:Nat):Nat→Bool×List Int→Prop
  | nil:BtR es lo hi m 0 (true,List.replicate es.length 0)
  | next {i:Nat} {as:List Int} {r:Bool×List Int}:BtR es lo hi m i (true,as)→WhR es lo hi m i as r→BtR es lo hi m (i+1) r
  | stop {i:Nat} {x:List Int}:BtR es lo hi m i (false,x)→BtR es lo hi m (i+1) (false,x)
theorem BtR.shut {es:List (Int×Int)} {lo hi:List Int} {m i n:Nat} {x:List Int} (h:BtR es lo hi m i (false,x)) (hn:i≤n):BtR es lo hi m n (false,x):=by
  induction n with
  | zero => obtain rfl : i = 0 := by omega
            exact h
  | succ n ih =>
    by_cases c:i=n+1
    · exact c▸h
    · exact .stop (ih (by omega))
end L2
namespace L2
open PySem
def tS (fs:List Int):Nat→Nat→Int
  | _,0=>0
  | t,k+1=>((fs.getD t 0).natAbs:Int)+tS fs (t+1) k
theorem tS_snoc (fs:List Int):∀k t,tS fs t (k+1)=tS fs t k+((fs.getD (t+k) 0).natAbs:Int)
  | 0,t=>by show _+0=0+_;rw [Nat.add_zero];omega
  | k+1,t=>by
    show ((fs.getD t 0).natAbs:Int)+tS fs (t+1) (k+1)=(((fs.getD t 0).natAbs:Int)+tS fs (t+1) k)+_
    rw [tS_snoc fs k (t+1),show t+1+k=t+(k+1) by omega];omega
theorem tS_cut {m:Int} {es:List (Int×Int)} {fs:List Int} (hE:∀e∈es,0≤e.1∧e.1<m∧0≤e.2∧e.2<m) (hd:∀p:Int,dp p es fs es.length=0) {t k:Nat} (ht:t+1+k=es.length) (hF:inF es t=true):((fs.getD t 0).natAbs:Int)≤tS fs (t+1) k:=by
  obtain ⟨f,F⟩:=lab_ex hE t
  have gE:∀j,j<es.length→es[j]?=some (es.getD j (0,0)):=fun j hj=>by rw [List.getD_eq_getElem?_getD,List.getElem?_eq_getElem hj];rfl
  obtain ⟨b1,b2,b3,b4⟩:=hE _ (List.mem_of_getElem? (gE t (by omega)))
  have hne:¬f (es.getD t (0,0)).1=f (es.getD t (0,0)).2:=fun z=>inF_iff.mp hF ((F.iff b1 b2 b3 b4).mp z)
  have hz:=ac_zero (grp_nd m.toNat f (f (es.getD t (0,0)).1)) hd
  have hmem:∀z:Int,0≤z→z<m→memI (grp m.toNat f (f (es.getD t (0,0)).1)) z=decide (f z=f (es.getD t (0,0)).1):=fun z z0 z1=>by
    rw [Bool.eq_iff_iff,memI_iff,mem_grp,decide_eq_true_iff]
    exact ⟨fun h=>h.2.2,fun h=>⟨z0,by omega,h⟩⟩
  have bef:∀n,n≤t→ac (grp m.toNat f (f (es.getD t (0,0)).1)) es fs n=0:=by
    intro n
    induction n with
    | zero=>intro _;rfl
    | succ n ih =>
      intro hn
      show ac _ es fs n+_-_=_
      obtain ⟨d1,d2,d3,d4⟩:=hE _ (List.mem_of_getElem? (gE n (by omega)))
      have es1:f (es.getD n (0,0)).1=f (es.getD n (0,0)).2:=F.same _ (List.mem_take_iff_getElem.mpr ⟨n,by omega,by rw [List.getD_eq_getElem?_getD,List.getElem?_eq_getElem (show n<es.length by omega)];rfl⟩)
      rw [ih (by omega),hmem _ d1 d2,hmem _ d3 d4,es1]
      cases decide (f (es.getD n (0,0)).2=f (es.getD t (0,0)).1)<;>simp
  have aft:∀j,j≤k→fs.getD t 0-tS fs (t+1) j≤ac (grp m.toNat f (f (es.getD t (0,0)).1)) es fs (t+1+j)∧ac (grp m.toNat f (f (es.getD t (0,0)).1)) es fs (t+1+j)≤fs.getD t 0+tS fs (t+1) j:=by
    intro j
    induction j with
    | zero =>
      intro _
      have e:ac (grp m.toNat f (f (es.getD t (0,0)).1)) es fs (t+1)=fs.getD t 0:=by
        show ac _ es fs t+_-_=_
        rw [bef t (Nat.le_refl _),hmem _ b1 b2,hmem _ b3 b4,decide_eq_true rfl,decide_eq_false (fun z=>hne z.symm)]
        simp only [Bool.not_false,Bool.not_true,Bool.and_true,Bool.and_false,Bool.false_eq_true,if_true,if_false,reduceIte]
        omega
      rw [Nat.add_zero,e]
      show _-0≤_∧_≤_+0
      omega
    | succ j ih =>
      intro hj
      obtain ⟨i1,i2⟩:=ih (by omega)
      rw [tS_snoc]
      have e0:∀G:List Int,ac G es fs (t+1+(j+1))=ac G es fs (t+1+j)+(if (memI G (es.getD (t+1+j) (0,0)).1&&!memI G (es.getD (t+1+j) (0,0)).2)=true then fs.getD (t+1+j) 0 else 0)-(if (memI G (es.getD (t+1+j) (0,0)).2&&!memI G (es.getD (t+1+j) (0,0)).1)=true then fs.getD (t+1+j) 0 else 0):=fun _=>rfl
      rw [e0]
      have hb:-((fs.getD (t+1+j) 0).natAbs:Int)≤fs.getD (t+1+j) 0∧fs.getD (t+1+j) 0≤((fs.getD (t+1+j) 0).natAbs:Int):=by omega
      generalize memI (grp m.toNat f (f (es.getD t (0,0)).1)) (es.getD (t+1+j) (0,0)).1=x
      generalize memI (grp m.toNat f (f (es.getD t (0,0)).1)) (es.getD (t+1+j) (0,0)).2=y
      cases x<;>cases y<;>simp only [Bool.not_false,Bool.not_true,Bool.and_true,Bool.and_false,Bool.true_and,Bool.false_and,Bool.false_eq_true,if_true,if_false,reduceIte]<;>omega
  have:=aft k (Nat.le_refl _)
  rw [ht,hz] at this
  omega
theorem tS_bound {m B:Int} {es:List (Int×Int)} {fs:List Int} (hE:∀e∈es,0≤e.1∧e.1<m∧0≤e.2∧e.2<m) (hd:∀p:Int,dp p es fs es.length=0) (hB:0≤B) (h0:∀t,t<es.length→¬inF es t=true→((fs.getD t 0).natAbs:Int)≤B):∀k t,t+k=es.length→tS fs t k≤2^k*B-B
  | 0,t,_=>by show 0≤1*B-B;omega
  | k+1,t,ht=>by
    have ih:=tS_bound hE hd hB h0 k (t+1) (by omega)
    show ((fs.getD t 0).natAbs:Int)+tS fs (t+1) k≤2^(k+1)*B-B
    rw [Int.pow_succ,Int.mul_comm (2^k) 2,Int.mul_assoc]
    have hp:B≤2^k*B:=by
      have h1:(1:Int)≤2^k:=Int.pow_pos (by decide)
      have:=Int.mul_le_mul_of_nonneg_right h1 hB
      omega
    generalize (2:Int)^k*B=X at ih hp
    by_cases hF:inF es t=true
    · have:=tS_cut hE hd (t:=t) (k:=k) (by omega) hF
      omega
    · have:=h0 t (by omega) hF
      omega
theorem tS_one (fs:List Int):∀k t j,t≤j→j<t+k→((fs.getD j 0).natAbs:Int)≤tS fs t k
  | 0,t,j,h1,h2=>by omega
  | k+1,t,j,h1,h2=>by
    have hn:∀k t,0≤tS fs t k:=fun k=>by
      induction k with
      | zero=>intro t;exact Int.le_refl 0
      | succ k ih=>intro t;show 0≤_+tS fs (t+1) k;have:=ih (t+1);omega
    show _≤((fs.getD t 0).natAbs:Int)+tS fs (t+1) k
    by_cases c:t=j
    · subst c;have:=hn k (t+1);omega
    · have:=tS_one fs k (t+1) j (by omega) (by omega);omega
theorem flow_bound {m B:Int} {es:List (Int×Int)} {fs:List Int} (hE:∀e∈es,0≤e.1∧e.1<m∧0≤e.2∧e.2<m) (hd:∀p:Int,dp p es fs es.length=0) (hB:0≤B) (hz:es.length≤40) (h0:∀t,t<es.length→¬inF es t=true→((fs.getD t 0).natAbs:Int)≤B):∀t,t<es.length→((fs.getD t 0).natAbs:Int)≤2^40*B:=fun t ht=>by
  have h1:=tS_one fs es.length 0 t (Nat.zero_le _) (by omega)
  have h2:=tS_bound hE hd hB h0 es.length 0 (Nat.zero_add _)
  have h3:(2:Int)^es.length≤2^40:=by exact_mod_cast Nat.pow_le_pow_right (n:=2) (by decide) hz
  have h4:=Int.mul_le_mul_of_nonneg_right h3 hB
  omega
def lwK (fs:List Int) (k:Int):List Int:=fs.map (·/k)
def hgK (fs:List Int) (k:Int):List Int:=fs.map fun a=>-(-a/k)
def rdK (fs as:List Int) (k:Int):List Int:=List.zipWith (·+·) fs (as.map (-k*·))
structure RdF (es:List (Int×Int)) (rs:List Int) (k:Int) (gs:List Int):Prop where
  len:gs.length=es.length
  flow:∀p:Int,dp p es gs es.length=0
  zero:∀t,t<es.length→rs.getD t 0=0→gs.getD t 0=0
  pos:∀t,t<es.length→rs.getD t 0≠0→gs.getD t 0=rs.getD t 0∨gs.getD t 0=rs.getD t 0-k
def RdR (m:Int) (es:List (Int×Int)) (fs:List Int) (k:Int) (gs:List Int):Prop:=∃as,BtR es (lwK fs k) (hgK fs k) m.toNat es.length (true,as)∧gs=rdK fs as k
theorem FW.bound {m B:Int} {es:List (Int×Int)} {vs fs:List Int} (hE:∀e∈es,0≤e.1∧e.1<m∧0≤e.2∧e.2<m) (h:FW es vs fs) (hl:vs.length=(fre es).length) (hB:0≤B) (hz:es.length≤40) (hv:∀v∈vs,(v.natAbs:Int)≤B):∀t,t<es.length→((fs.getD t 0).natAbs:Int)≤2^40*B :=
  flow_bound hE h.2.1 hB hz fun t ht hn=>by
    obtain ⟨j,hj,e⟩:=fre_at ht hn
    have e1:=h.2.2 j hj
    rw [e,Int.toNat_natCast] at e1
    rw [e1,gD_at (by omega)]
    exact hv _ (List.getElem_mem _)
def LtR (m:Int) (es:List (Int×Int)) (rs:List Int) (k:Int) (gs:List Int):Prop:=∃fs,FW es (frv es rs) fs∧RdR m es fs k gs
end L2
namespace L2
open PySem PySem.Spec PyProof.Rows
section
variable {X:Cx}
end
end L2
namespace L2
open PySem PySem.Spec PyProof.Rows
section
variable {prog:Program} {w:World} {A:Around} {E:Value→Shared→Prop} {s:Shared}
end
section
variable {X:Cx}
end
end L2
namespace L2
open PySem
def mkS (n:Nat) (ss:List Int):List Int:=(List.range n).map fun (i:Nat)=>if (i:Int)∈ss then 1 else 0
theorem mkS_len (n:Nat) (ss:List Int):(mkS n ss).length=n:=by unfold mkS;rw [List.length_map,List.length_range]
theorem mkS_get {n i:Nat} {ss:List Int} (h:i<n):(mkS n ss)[i]?=some (if (i:Int)∈ss then 1 else 0):=by
  unfold mkS;rw [List.getElem?_map,List.getElem?_range h];rfl
theorem mkS_at {n i:Nat} {ss:List Int} (h:i<n):(mkS n ss).getD i 0=if (i:Int)∈ss then 1 else 0:=by
  rw [List.getD_eq_getElem?_getD,mkS_get h];rfl
theorem mkS_two {n:Nat} {ss:List Int}:∀r∈mkS n ss,0≤r∧r<2:=fun r hr=>by
  obtain ⟨i,_,rfl⟩:=List.mem_map.mp hr
  split<;>decide
structure SetOk (n:Nat) (ss:List Int):Prop where
  rng:∀t∈ss,0≤t∧t<(n:Int)
  up:ss.Pairwise (·<·)
theorem SetOk.nd {n:Nat} {ss:List Int} (h:SetOk n ss):ss.Nodup:=by
  rw [List.nodup_iff_pairwise_ne]
  exact h.up.imp fun h e=>by omega
theorem SetOk.len {n:Nat} {ss:List Int} (h:SetOk n ss):ss.length≤n:=by
  have:=nodup_len (m:=(n:Int)) h.nd h.rng
  omega
theorem isR_iff {m k:Int} {es:List (Int×Int)} {fs:List Int}:isR m es fs k=true↔(∀r∈fs,0≤r∧r<k)∧∀p:Nat,p<m.toNat→dp p es fs es.length%k=0:=by
  unfold isR
  rw [Bool.and_eq_true,decide_eq_true_iff,List.all_eq_true]
  exact ⟨fun h=>⟨fun r hr=>by simpa using h.1 r hr,h.2⟩,fun h=>⟨fun r hr=>by simpa using h.1 r hr,h.2⟩⟩
def EvS (es:List (Int×Int)) (ss:List Int):Prop:=∀p:Int,2∣dp p es (mkS es.length ss) es.length
theorem EvS.isR {m:Int} {es:List (Int×Int)} {ss:List Int} (h:EvS es ss):isR m es (mkS es.length ss) 2=true:=isR_iff.mpr ⟨mkS_two,fun p _=>by
  obtain ⟨u,hu⟩:=h p
  rw [hu];exact Int.mul_emod_right ..⟩
theorem EvS.nil (es:List (Int×Int)):EvS es []:=fun p=>by
  have e:mkS es.length []=List.replicate es.length 0:=by
    refine List.ext_getElem (by rw [mkS_len,List.length_replicate]) fun i h1 h2=>?_
    rw [List.getElem_replicate,←gD_at h1,mkS_at (by rw [mkS_len] at h1;exact h1),if_neg (fun z=>nomatch z)]
  rw [e,dp_nil]
  exact ⟨0,rfl⟩
end L2
namespace L2
open PySem PySem.Spec PyProof.Rows
section
variable {prog:Program} {w:World} {A:Around} {E:Value→Shared→Prop} {s:Shared}
end
section
variable {X:Cx} {pos p2:Pos} {o:Expr} {lo hi:Option Expr} {to:TE} {tl th:TO}
end
end L2
namespace L2
open PySem
def LlS (H:Hp):List V→List (List Int)→Prop:=Paired fun v ns=>∃r,v=.ref r∧H r=some (.lst (ns.map V.int))
theorem LlS.same {H H':Hp} (S:Same H H') {xs:List V} {ls:List (List Int)} (h:LlS H xs ls):LlS H' xs ls:=Paired.mapP h fun _ _ ⟨r,e,q⟩=>⟨r,e,S _ _ q⟩
theorem LlS.len {H:Hp} {xs:List V} {ls:List (List Int)} (h:LlS H xs ls):xs.length=ls.length:=Paired.length h
theorem LlS.at:∀{H:Hp} {xs:List V} {ls:List (List Int)} {i:Nat},LlS H xs ls→i<xs.length→∃r ns,xs.getD i .non=.ref r∧H r=some (.lst (ns.map V.int))∧ls[i]?=some ns
  | _,_,_,i,.nil,h=>absurd h (Nat.not_lt_zero _)
  | _,_,_,0,.cons ⟨r,e,q⟩ _,_=>⟨r,_,e,q,rfl⟩
  | _,_,_,i+1,.cons _ t,h=>LlS.at (i:=i) t (Nat.lt_of_succ_lt_succ h)
theorem LlS.append:∀{H:Hp} {xs ys:List V} {ls ms:List (List Int)},LlS H xs ls→LlS H ys ms→LlS H (xs++ys) (ls++ms)
  | _,_,_,_,_,.nil,h=>h
  | _,_,_,_,_,.cons a t,h=>.cons a (LlS.append t h)
theorem gdl {l:List (List Int)} {g:List Int} {j:Nat} (h:j<l.length):(l++[g]).getD j []=l.getD j []:=by
  rw [List.getD_eq_getElem?_getD,List.getD_eq_getElem?_getD,List.getElem?_append_left h]
theorem gdr {l:List (List Int)} {g:List Int}:(l++[g]).getD l.length []=g:=by
  rw [List.getD_eq_getElem?_getD,List.getElem?_append_right (Nat.le_refl _),Nat.sub_self];rfl
def lay (n:Nat) (fss:List (List Int)):Nat→List Int
  | 0=>List.replicate n 0
  | k+1=>List.zipWith (·+·) (lay n fss k) ((fss.getD k []).map ((2^k:Int)*·))
theorem lay_len {n:Nat} {fss:List (List Int)}:∀{k:Nat},(∀j,j<k→(fss.getD j []).length=n)→(lay n fss k).length=n
  | 0,_=>List.length_replicate ..
  | k+1,h=>by
    show (List.zipWith _ _ _).length=n
    rw [List.length_zipWith,List.length_map,lay_len fun j hj=>h j (by omega),h k (by omega)]
    exact Nat.min_self _
theorem lay_at {n t:Nat} {fss:List (List Int)} {k:Nat} (h:∀j,j<k+1→(fss.getD j []).length=n) (ht:t<n):(lay n fss (k+1)).getD t 0=(lay n fss k).getD t 0+2^k*(fss.getD k []).getD t 0:=by
  have h1:=lay_len (n:=n) (fss:=fss) (k:=k) fun j hj=>h j (by omega)
  have h2:=h k (by omega)
  show (List.zipWith _ _ _).getD t 0=_
  rw [List.getD_eq_getElem?_getD,List.getElem?_zipWith,List.getElem?_map,List.getElem?_eq_getElem (h1.symm▸ht),List.getElem?_eq_getElem (h2.symm▸ht),gD_at (h1.symm▸ht),gD_at (h2.symm▸ht)]
  rfl
structure LayF (m:Int) (es:List (Int×Int)) (sets fss:List (List Int)) (k:Nat):Prop where
  rd:∀j,j<k→RdF es (mkS es.length (sets.getD j [])) 2 (fss.getD j [])
  lt:∀j,j<k→LtR m es (mkS es.length (sets.getD j [])) 2 (fss.getD j [])
theorem LayF.lens {m:Int} {es:List (Int×Int)} {sets fss:List (List Int)} {k:Nat} (L:LayF m es sets fss k):∀j,j<k→(fss.getD j []).length=es.length:=fun j hj=>(L.rd j hj).len
theorem LayF.pre {m:Int} {es:List (Int×Int)} {sets fss:List (List Int)} {k:Nat} (L:LayF m es sets fss (k+1)):LayF m es sets fss k:=⟨fun j hj=>L.rd j (by omega),fun j hj=>L.lt j (by omega)⟩
theorem LayF.len {m:Int} {es:List (Int×Int)} {sets fss:List (List Int)} {k:Nat} (L:LayF m es sets fss k):(lay es.length fss k).length=es.length:=lay_len L.lens
theorem LayF.snoc {m:Int} {es:List (Int×Int)} {sets fss:List (List Int)} {ss gs:List Int} (L:LayF m es sets fss fss.length) (hs:sets[fss.length]?=some ss) (R:RdF es (mkS es.length ss) 2 gs) (D:LtR m es (mkS es.length ss) 2 gs):LayF m es sets (fss++[gs]) (fss.length+1):=by
  have e1:sets.getD fss.length []=ss:=by rw [List.getD_eq_getElem?_getD,hs];rfl
  have e2:(fss++[gs]).getD fss.length []=gs:=gdr
  constructor<;>intro j hj<;>(by_cases c:j=fss.length)
  · rw [c,e1,e2];exact R
  · rw [gdl (by omega)];exact L.rd j (by omega)
  · rw [c,e1,e2];exact D
  · rw [gdl (by omega)];exact L.lt j (by omega)
theorem LayF.flow {m:Int} {es:List (Int×Int)} {sets fss:List (List Int)}:∀{k:Nat},LayF m es sets fss k→∀p:Int,dp p es (lay es.length fss k) es.length=0
  | 0,_,p=>dp_nil ..
  | k+1,L,p=>by
    show dp p es (List.zipWith _ _ _) _=0
    rw [dp_zip p es _ _ (by rw [L.pre.len,List.length_map,L.lens k (by omega)]),dp_map,L.pre.flow p,(L.rd k (by omega)).flow p]
    simp
theorem LayF.one {m:Int} {es:List (Int×Int)} {sets fss:List (List Int)} {k j t:Nat} (L:LayF m es sets fss k) (hj:j<k) (ht:t<es.length):((t:Int)∈sets.getD j []→(fss.getD j []).getD t 0=1∨(fss.getD j []).getD t 0=-1)∧(¬(t:Int)∈sets.getD j []→(fss.getD j []).getD t 0=0):=by
  have hm:=mkS_at (ss:=sets.getD j []) ht
  constructor<;>intro c
  · rw [if_pos c] at hm
    rcases (L.rd j hj).pos t ht (by rw [hm];decide) with z | z
    · rw [hm] at z;exact .inl z
    · rw [hm] at z;exact .inr z
  · rw [if_neg c] at hm
    exact (L.rd j hj).zero t ht hm
theorem pow2_pos (k:Nat):(0:Int)<2^k:=Int.pow_pos (by decide)
theorem LayF.bound {m:Int} {es:List (Int×Int)} {sets fss:List (List Int)} {t:Nat} (ht:t<es.length):∀{k:Nat},LayF m es sets fss k→-(2^k:Int)<(lay es.length fss k).getD t 0∧(lay es.length fss k).getD t 0<2^k
  | 0,_=>by
    have:(lay es.length fss 0).getD t 0=0:=by
      show (List.replicate es.length (0:Int)).getD t 0=0
      rw [gD_at (by rw [List.length_replicate];exact ht),List.getElem_replicate]
    rw [this];decide
  | k+1,L=>by
    have ih:=LayF.bound ht L.pre
    have hp:=pow2_pos k
    have h2:(2:Int)^(k+1)=2^k*2:=Int.pow_succ ..
    rw [lay_at L.lens ht,h2]
    by_cases c:(t:Int)∈sets.getD k []
    · rcases (L.one (Nat.lt_succ_self k) ht).1 c with z | z<;>rw [z]<;>omega
    · rw [(L.one (Nat.lt_succ_self k) ht).2 c];omega
theorem LayF.nz {m:Int} {es:List (Int×Int)} {sets fss:List (List Int)} {t:Nat} (ht:t<es.length):∀{k:Nat},LayF m es sets fss k→∀{j:Nat},j<k→(t:Int)∈sets.getD j []→(lay es.length fss k).getD t 0≠0
  | k+1,L,j,hj,hm=>by
    have ib:=L.pre.bound ht
    have hp:=pow2_pos k
    rw [lay_at L.lens ht]
    by_cases c:(t:Int)∈sets.getD k []
    · rcases (L.one (Nat.lt_succ_self k) ht).1 c with z | z<;>rw [z]<;>omega
    · rw [(L.one (Nat.lt_succ_self k) ht).2 c,Int.mul_zero,Int.add_zero]
      by_cases y:j=k
      · rw [y] at hm;exact absurd hm c
      · exact LayF.nz ht L.pre (by omega) hm
end L2
namespace L2
open PySem PyProof.Rows
def gallop':Bool→Keyed→Array Keyed→Nat→Nat→Nat→StateT SortSt Sem (Option Nat):=sortPriv% PySem.Builtin.gallop
def IsI (p:Keyed):Prop:=∃n t,p.1=.int n t
def nm (p:Keyed):Int:=numOf p.1
def Seg (xs:Array Keyed) (lo hi:Nat):Prop:=∀i j,lo≤i→i≤j→j<hi→K xs i≤K xs j
def byB (left:Bool) (k x:Int):Bool:=if left then decide (x<k) else !decide (k<x)
theorem byB_le {left:Bool} {k x y:Int} (h:x≤y) (hy:byB left k y=true):byB left k x=true:=by
  unfold byB at hy ⊢
  cases left
  · simp only [Bool.false_eq_true,if_false,Bool.not_eq_true',decide_eq_false_iff_not] at hy ⊢;omega
  · simp only [if_true,decide_eq_true_eq] at hy ⊢;omega
section
variable {prog:Program} {w:World} {A:Around} {E:Value→Shared→Prop} {s:Shared}
theorem wpS_ltN {st:SortSt} {x y:Keyed} {Q:Option Bool→SortSt→Prop} (hk:kindOf st=oneType') (hx:IsI x) (hy:IsI y) (h:Q (some (decide (nm x<nm y))) st):wpS (model prog w) A E s (lt' x y) Q st:=by
  obtain ⟨a,t,ha⟩:=hx
  obtain ⟨b,u,hb⟩:=hy
  rw [lt'_eq]
  refine wpS_bind (wpS_get ?_)
  rw [hk,keyLt'_oneType,ha,hb]
  have e:(decide (nm x<nm y))=decide (a<b):=by unfold nm;rw [ha,hb];rfl
  rw [e] at h
  exact wpS_bind (wpS_lift (wpAny_attempt (oneLt_int ⟨rfl,wpS_pure h⟩)))
theorem wpS_elemN {st:SortSt} {arr:Array Keyed} {i:Nat} {Q:Keyed→SortSt→Prop} (hi:i<arr.size) (h:Q arr[i] st):wpS (model prog w) A E s (elem' arr i) Q st:=by
  rw [elem'_eq,getElem?_pos arr i hi]
  exact wpS_pure h
theorem isI_at {arr:Array Keyed} (h:IntKeys arr) {i:Nat} (hi:i<arr.size):IsI arr[i]:=h _ (by simp)
theorem nm_at {arr:Array Keyed} {i:Nat} (hi:i<arr.size):nm arr[i]=K arr i:=(K_eq hi).symm
theorem wpS_byd {st:SortSt} {left:Bool} {key:Keyed} {arr:Array Keyed} {i:Nat} {Q:Option Bool→SortSt→Prop} (hk:kindOf st=oneType') (hI:IntKeys arr) (hy:IsI key) (hi:i<arr.size) (h:Q (some (byB left (nm key) (K arr i))) st) :
    wpS (model prog w) A E s (do let x ←elem' arr i;if left then lt' x key else return (←lt' key x).map (!·)) Q st:=by
  refine wpS_bind (wpS_elemN hi ?_)
  rw [←nm_at hi] at h
  unfold byB at h
  cases left
  · rw [if_neg (by decide)] at h ⊢
    exact wpS_bind (wpS_ltN hk hy (isI_at hI hi) (wpS_pure h))
  · rw [if_pos rfl] at h ⊢
    exact wpS_ltN hk (isI_at hI hi) hy h
local macro_rules | `(tactic| w_means)=>do let n:=Lean.mkIdent (Lean.mkPrivateNameCore `PySem.Builtin.List.W1All `PySem.Builtin.gallop);`(tactic| unfold $n)
set_option maxHeartbeats 1000000 in
theorem wpS_gallop {st:SortSt} {left:Bool} {key:Keyed} {arr:Array Keyed} {base n hint:Nat} {Q:Option Nat→SortSt→Prop} (hk:kindOf st=oneType') (hI:IntKeys arr) (hy:IsI key) (hb:base+n≤arr.size) (hh:hint<n) (hs:Seg arr base (base+n))
    (h:∀r,r≤n→(∀i,i<r→byB left (nm key) (K arr (base+i))=true)→(∀i,r≤i→i<n→byB left (nm key) (K arr (base+i))=false)→Q (some r) st) :
    wpS (model prog w) A E s (gallop' left key arr base n hint) Q st:=by
  have up:∀i j,i≤j→j<n→byB left (nm key) (K arr (base+j))=true→byB left (nm key) (K arr (base+i))=true:=fun i j hij hj=>byB_le (hs _ _ (by omega) (by omega) (by omega))
  have dn:∀i j,i≤j→j<n→byB left (nm key) (K arr (base+i))=false→byB left (nm key) (K arr (base+j))=false:=fun i j hij hj z=>by
    rw [Bool.eq_false_iff] at z ⊢
    exact fun y=>z (up i j hij hj y)
  unfold gallop'
  w_means
  dsimp only
  refine wpS_bind (wpS_byd hk hI hy (by omega) ?_)
  cases hr:byB left (nm key) (K arr (base+hint)) with
  | true =>
    dsimp only
    rw [if_pos rfl]
    refine wpS_bind (wpS_mono (wpS_forRange (I:=fun x c st'=>st'=st∧∃la o,c=(none,la,o)∧x+1≤o∧la<o∧hint+la<n∧byB left (nm key) (K arr (base+(hint+la)))=true)
      (Q:=fun c st'=>st'=st∧∃la o,c=(none,la,o)∧la<o∧hint+la<n∧byB left (nm key) (K arr (base+(hint+la)))=true∧(n-hint≤o∨hint+o<n∧byB left (nm key) (K arr (base+(hint+o)))=false)) ?_ ?_ ?_) ?_)
    · rintro x c st' _ hx ⟨rfl,la,o,rfl,h1,h2,h3,h4⟩
      dsimp only
      by_cases ho:o≥n-hint
      · rw [if_pos ho]
        exact wpS_pure ⟨rfl,la,o,rfl,h2,h3,h4,.inl ho⟩
      · rw [if_neg ho]
        refine wpS_bind (wpS_byd hk hI hy (by omega) ?_)
        cases hm:byB left (nm key) (K arr (base+(hint+o))) with
        | true=>exact wpS_pure ⟨rfl,o,2*o+1,rfl,by omega,by omega,by omega,hm⟩
        | false=>exact wpS_pure ⟨rfl,la,o,rfl,h2,h3,h4,.inr ⟨by omega,hm⟩⟩
    · rintro c st' ⟨rfl,la,o,rfl,h1,h2,h3,h4⟩
      exact ⟨rfl,la,o,rfl,h2,h3,h4,.inl (by omega)⟩
    · exact ⟨rfl,0,1,rfl,by omega,by omega,by omega,hr⟩
    · rintro c st' ⟨rfl,la,o,rfl,h2,h3,h4,h5⟩
      dsimp only
      refine wpS_bind (wpS_mono (wpS_forRange (I:=fun x c st2=>st2=st'∧∃lo hi,c=(none,lo,hi)∧lo≤hi∧hi≤n∧hi-lo≤n-x∧(∀i,i<lo→byB left (nm key) (K arr (base+i))=true)∧∀i,hi≤i→i<n→byB left (nm key) (K arr (base+i))=false)
        (Q:=fun c st2=>st2=st'∧∃lo hi,c=(none,lo,hi)∧hi≤lo∧hi≤n∧(∀i,i<lo→byB left (nm key) (K arr (base+i))=true)∧∀i,hi≤i→i<n→byB left (nm key) (K arr (base+i))=false) ?_ ?_ ?_) ?_)
      · rintro x c st2 _ hx ⟨rfl,lo,hi,rfl,g1,g2,g3,g4,g5⟩
        dsimp only
        by_cases ho:lo≥hi
        · rw [if_pos ho]
          exact wpS_pure ⟨rfl,lo,hi,rfl,ho,g2,g4,g5⟩
        · rw [if_neg ho]
          refine wpS_bind (wpS_byd hk hI hy (by omega) ?_)
          cases hm:byB left (nm key) (K arr (base+(lo+(hi-lo)/2))) with
          | true=>exact wpS_pure ⟨rfl,_,hi,rfl,by omega,g2,by omega,fun i hi'=>up i _ (by omega) (by omega) hm,g5⟩
          | false=>exact wpS_pure ⟨rfl,lo,_,rfl,by omega,by omega,by omega,g4,fun i h6 h7=>dn _ i h6 h7 hm⟩
      · rintro c st2 ⟨rfl,lo,hi,rfl,g1,g2,g3,g4,g5⟩
        exact ⟨rfl,lo,hi,rfl,by omega,g2,g4,g5⟩
      · refine ⟨rfl,_,_,rfl,by omega,by omega,by omega,fun i hi'=>up i (hint+la) (by omega) h3 h4,fun i h6 h7=>?_⟩
        rcases h5 with h5 | ⟨h5,h8⟩
        · omega
        · exact dn (hint+o) i (by omega) h7 h8
      · rintro c st2 ⟨rfl,lo,hi,rfl,g1,g2,g4,g5⟩
        exact wpS_pure (h hi g2 (fun i hi'=>g4 i (by omega)) g5)
  | false =>
    dsimp only
    rw [if_neg (by decide)]
    refine wpS_bind (wpS_mono (wpS_forRange (I:=fun x c st'=>st'=st∧∃la o,c=(none,la,o)∧x+1≤o∧la<o∧la≤hint∧byB left (nm key) (K arr (base+(hint-la)))=false)
      (Q:=fun c st'=>st'=st∧∃la o,c=(none,la,o)∧la<o∧la≤hint∧byB left (nm key) (K arr (base+(hint-la)))=false∧(hint+1≤o∨o≤hint∧byB left (nm key) (K arr (base+(hint-o)))=true)) ?_ ?_ ?_) ?_)
    · rintro x c st' _ hx ⟨rfl,la,o,rfl,h1,h2,h3,h4⟩
      dsimp only
      by_cases ho:o≥hint+1
      · rw [if_pos ho]
        exact wpS_pure ⟨rfl,la,o,rfl,h2,h3,h4,.inl ho⟩
      · rw [if_neg ho]
        refine wpS_bind (wpS_byd hk hI hy (by omega) ?_)
        cases hm:byB left (nm key) (K arr (base+(hint-o))) with
        | true=>exact wpS_pure ⟨rfl,la,o,rfl,h2,h3,h4,.inr ⟨by omega,hm⟩⟩
        | false=>exact wpS_pure ⟨rfl,o,2*o+1,rfl,by omega,by omega,by omega,hm⟩
    · rintro c st' ⟨rfl,la,o,rfl,h1,h2,h3,h4⟩
      exact ⟨rfl,la,o,rfl,h2,h3,h4,.inl (by omega)⟩
    · exact ⟨rfl,0,1,rfl,by omega,by omega,by omega,hr⟩
    · rintro c st' ⟨rfl,la,o,rfl,h2,h3,h4,h5⟩
      dsimp only
      refine wpS_bind (wpS_mono (wpS_forRange (I:=fun x c st2=>st2=st'∧∃lo hi,c=(none,lo,hi)∧lo≤hi∧hi≤n∧hi-lo≤n-x∧(∀i,i<lo→byB left (nm key) (K arr (base+i))=true)∧∀i,hi≤i→i<n→byB left (nm key) (K arr (base+i))=false)
        (Q:=fun c st2=>st2=st'∧∃lo hi,c=(none,lo,hi)∧hi≤lo∧hi≤n∧(∀i,i<lo→byB left (nm key) (K arr (base+i))=true)∧∀i,hi≤i→i<n→byB left (nm key) (K arr (base+i))=false) ?_ ?_ ?_) ?_)
      · rintro x c st2 _ hx ⟨rfl,lo,hi,rfl,g1,g2,g3,g4,g5⟩
        dsimp only
        by_cases ho:lo≥hi
        · rw [if_pos ho]
          exact wpS_pure ⟨rfl,lo,hi,rfl,ho,g2,g4,g5⟩
        · rw [if_neg ho]
          refine wpS_bind (wpS_byd hk hI hy (by omega) ?_)
          cases hm:byB left (nm key) (K arr (base+(lo+(hi-lo)/2))) with
          | true=>exact wpS_pure ⟨rfl,_,hi,rfl,by omega,g2,by omega,fun i hi'=>up i _ (by omega) (by omega) hm,g5⟩
          | false=>exact wpS_pure ⟨rfl,lo,_,rfl,by omega,by omega,by omega,g4,fun i h6 h7=>dn _ i h6 h7 hm⟩
      · rintro c st2 ⟨rfl,lo,hi,rfl,g1,g2,g3,g4,g5⟩
        exact ⟨rfl,lo,hi,rfl,by omega,g2,g4,g5⟩
      · refine ⟨rfl,_,_,rfl,by omega,by omega,by omega,fun i hi'=>?_,fun i h6 h7=>dn (hint-la) i h6 h7 h4⟩
        rcases h5 with h5 | ⟨h5,h8⟩
        · omega
        · exact up i (hint-o) (by omega) (by omega) h8
      · rintro c st2 ⟨rfl,lo,hi,rfl,g1,g2,g4,g5⟩
        exact wpS_pure (h hi g2 (fun i hi'=>g4 i (by omega)) g5)
end
end L2
namespace L2
open PySem PyProof.Rows
structure MJ (Z out xs ys:List Keyed):Prop where
  perm:(out++(xs++ys)).Perm Z
  so:out.Pairwise fun x y=>nm x≤nm y
  le:∀x∈out,∀y∈xs++ys,nm x≤nm y
  sx:xs.Pairwise fun x y=>nm x≤nm y
  sy:ys.Pairwise fun x y=>nm x≤nm y
structure Fn (Z zs:List Keyed):Prop where
  perm:zs.Perm Z
  so:zs.Pairwise fun x y=>nm x≤nm y
theorem MJ.mvX {Z out x1 x2 ys:List Keyed} (M:MJ Z out (x1++x2) ys) (h:∀x∈x1,∀y∈ys,nm x≤nm y):MJ Z (out++x1) x2 ys:=by
  obtain ⟨p,so,le,sx,sy⟩:=M
  rw [List.pairwise_append] at sx
  refine ⟨by simpa only [List.append_assoc] using p,List.pairwise_append.mpr ⟨so,sx.1,fun x hx y hy=>le x hx y (by simp [hy])⟩,fun x hx y hy=>?_,sx.2.1,sy⟩
  rcases List.mem_append.mp hx with hx | hx
  · exact le x hx y (by rcases List.mem_append.mp hy with z | z<;>simp [z])
  · rcases List.mem_append.mp hy with z | z
    · exact sx.2.2 x hx y z
    · exact h x hx y z
theorem MJ.mvY {Z out xs y1 y2:List Keyed} (M:MJ Z out xs (y1++y2)) (h:∀y∈y1,∀x∈xs,nm y≤nm x):MJ Z (out++y1) xs y2:=by
  obtain ⟨p,so,le,sx,sy⟩:=M
  rw [List.pairwise_append] at sy
  refine ⟨List.Perm.trans ?_ p,List.pairwise_append.mpr ⟨so,sy.1,fun x hx y hy=>le x hx y (by simp [hy])⟩,fun x hx y hy=>?_,sx,sy.2.1⟩
  · rw [List.append_assoc]
    refine List.Perm.append_left _ ?_
    rw [←List.append_assoc,←List.append_assoc]
    exact List.Perm.append_right _ List.perm_append_comm
  · rcases List.mem_append.mp hx with hx | hx
    · exact le x hx y (by rcases List.mem_append.mp hy with z | z<;>simp [z])
    · rcases List.mem_append.mp hy with z | z
      · exact h x hx y z
      · exact sy.2.2 x hx y z
theorem MJ.fin {Z out xs ys:List Keyed} (M:MJ Z out xs ys) (h:∀y∈ys,∀x∈xs,nm y≤nm x):Fn Z (out++ys++xs):=by
  have M1:MJ Z out xs (ys++[]):=by rw [List.append_nil];exact M
  have M2:=M1.mvY h
  exact ⟨by simpa using M2.perm,List.pairwise_append.mpr ⟨M2.so,M2.sx,fun x hx y hy=>M2.le x hx y (by simp [hy])⟩⟩
theorem MJ.finX {Z out xs:List Keyed} (M:MJ Z out xs []):Fn Z (out++xs++[]):=by
  have:=M.fin fun y hy=>nomatch hy
  simpa using this
def MI (a b out:Array Keyed) (ia ib:Nat):Prop:=MJ (a.toList++b.toList) out.toList (a.toList.drop ia) (b.toList.drop ib)
theorem ext_list (a:Array Keyed) (i j:Nat) (h:j≤a.size):(a.extract i j).toList=(a.toList.drop i).take (j-i):=by
  simp [Array.toList_extract,List.extract_eq_drop_take]
theorem ext_all (a:Array Keyed) (i:Nat):(a.extract i a.size).toList=a.toList.drop i:=by
  rw [ext_list a i a.size (Nat.le_refl _),List.take_of_length_le (by simp)]
theorem drop_at {a:Array Keyed} {i:Nat} (h:i<a.size):a.toList.drop i=a[i]::a.toList.drop (i+1):=by
  rw [List.drop_eq_getElem_cons (by simpa using h)];simp
theorem head_le {a:Array Keyed} {i:Nat} (h:i<a.size) (hs:(a.toList.drop i).Pairwise fun x y=>nm x≤nm y) {z:Int} (hz:z≤nm a[i]):∀x∈a.toList.drop i,z≤nm x:=fun x hx=>by
  rw [drop_at h] at hs hx
  rcases List.mem_cons.mp hx with e | e
  · rw [e];exact hz
  · have:=(List.pairwise_cons.mp hs).1 x e;omega
theorem take_le {a:Array Keyed} {i k:Nat} (h:i+k≤a.size) {z:Int} (hz:∀j,j<k→K a (i+j)≤z):∀x∈(a.toList.drop i).take k,nm x≤z:=fun x hx=>by
  obtain ⟨j,hj,rfl⟩:=List.mem_iff_getElem.mp hx
  have hj2:j<k:=by rw [List.length_take] at hj;omega
  have:=hz j hj2
  rw [←nm_at (show i+j<a.size by omega)] at this
  simpa using this
section
variable {a b out:Array Keyed} {ia ib k:Nat}
theorem MI.b1 (M:MI a b out ia ib) (hia:ia<a.size) (hib:ib<b.size) (h:nm b[ib]≤nm a[ia]):MI a b (out.push b[ib]) ia (ib+1):=by
  unfold MI at M ⊢
  have sx:=M.sx
  rw [drop_at hib] at M
  rw [Array.toList_push]
  exact MJ.mvY (y1:=[b[ib]]) M fun y hy=>by rw [List.mem_singleton.mp hy];exact head_le hia sx h
theorem MI.a1 (M:MI a b out ia ib) (hia:ia<a.size) (hib:ib<b.size) (h:nm a[ia]≤nm b[ib]):MI a b (out.push a[ia]) (ia+1) ib:=by
  unfold MI at M ⊢
  have sy:=M.sy
  rw [drop_at hia] at M
  rw [Array.toList_push]
  exact MJ.mvX (x1:=[a[ia]]) M fun y hy=>by rw [List.mem_singleton.mp hy];exact head_le hib sy h
theorem drop_split (l:List Keyed) (i k:Nat):l.drop i=(l.drop i).take k++l.drop (i+k):=by rw [←List.drop_drop,List.take_append_drop]
theorem MI.aK (M:MI a b out ia ib) (hk:ia+k≤a.size) (hib:ib<b.size) (h:∀i,i<k→K a (ia+i)≤nm b[ib]):MI a b (out++a.extract ia (ia+k)) (ia+k) ib:=by
  unfold MI at M ⊢
  have sy:=M.sy
  rw [drop_split a.toList ia k] at M
  rw [Array.toList_append,ext_list _ _ _ hk,Nat.add_sub_cancel_left]
  exact MJ.mvX M fun x hx=>head_le hib sy (take_le hk h x hx)
theorem MI.bK (M:MI a b out ia ib) (hk:ib+k≤b.size) (hia:ia<a.size) (h:∀i,i<k→K b (ib+i)≤nm a[ia]):MI a b (out++b.extract ib (ib+k)) ia (ib+k):=by
  unfold MI at M ⊢
  have sx:=M.sx
  rw [drop_split b.toList ib k] at M
  rw [Array.toList_append,ext_list _ _ _ hk,Nat.add_sub_cancel_left]
  exact MJ.mvY M fun x hx=>head_le hia sx (take_le hk h x hx)
theorem MI.doneB (M:MI a b out ia ib) (h:ib=b.size):Fn (a.toList++b.toList) (out++a.extract ia a.size++b.extract ib b.size).toList:=by
  unfold MI at M
  rw [Array.toList_append,Array.toList_append,ext_all,ext_all]
  have e:b.toList.drop ib=[]:=List.drop_of_length_le (by rw [h];simp)
  rw [e] at M ⊢
  exact M.finX
theorem MI.lastA (M:MI a b out ia ib) (h:ia+1=a.size) (hl:∀y∈b.toList,nm y≤nm (a[ia]'(by omega))):Fn (a.toList++b.toList) (out++b.extract ib b.size++a.extract ia a.size).toList:=by
  unfold MI at M
  rw [Array.toList_append,Array.toList_append,ext_all,ext_all]
  exact M.fin fun y hy x hx=>head_le (by omega) M.sx (hl y (List.mem_of_mem_drop hy)) x hx
end
end L2
namespace L2
open PySem PyProof.Rows
def mergeLo':Array Keyed→Array Keyed→StateT SortSt Sem (Array Keyed):=sortPriv% PySem.Builtin.mergeLo
def setG':Nat→StateT SortSt Sem Unit:=sortPriv% PySem.Builtin.setMinGallop
structure SmS (st st':SortSt):Prop where
  kind:kindOf st'=kindOf st
  arr:arrOf st'=arrOf st
  pend:pendingOf st'=pendingOf st
  failed:failedOf st'=failedOf st
theorem SmS.refl (st:SortSt):SmS st st:=⟨rfl,rfl,rfl,rfl⟩
section
variable {prog:Program} {w:World} {A:Around} {E:Value→Shared→Prop} {s:Shared}
theorem wpS_setG {st:SortSt} {g:Nat} {Q:Unit→SortSt→Prop} (h:Q () (SortSt.mk' (kindOf st) (arrOf st) (pendingOf st) g (failedOf st))):wpS (model prog w) A E s (setG' g) Q st:=wpS_modify h
theorem SmS.g {st0 st:SortSt} (S:SmS st0 st) (g:Nat):SmS st0 (SortSt.mk' (kindOf st) (arrOf st) (pendingOf st) g (failedOf st)):=⟨S.kind,S.arr,S.pend,S.failed⟩
theorem byF {k x:Int}:byB false k x=true↔x≤k:=by unfold byB;simp
theorem byT {k x:Int}:byB true k x=true↔x<k:=by unfold byB;simp
theorem byF' {k x:Int}:byB false k x=false↔k<x:=by unfold byB;simp
theorem byT' {k x:Int}:byB true k x=false↔k≤x:=by unfold byB;simp
local macro_rules | `(tactic| w_means)=>do let n:=Lean.mkIdent (Lean.mkPrivateNameCore `PySem.Builtin.List.W1All `PySem.Builtin.mergeLo);`(tactic| unfold $n)
set_option maxHeartbeats 4000000 in
theorem wpS_mergeLo {st:SortSt} {a b:Array Keyed} {Q:Array Keyed→SortSt→Prop} (hk:kindOf st=oneType') (Ia:IntKeys a) (Ib:IntKeys b) (sa:Seg a 0 a.size) (sb:Seg b 0 b.size) (a0:0<a.size) (b0:0<b.size) (hf:nm b[0]<nm a[0]) (hl:∀i,i<b.size→K b i<K a (a.size-1))
    (h:∀z st',SmS st st'→Fn (a.toList++b.toList) z.toList→Q z st') :
    wpS (model prog w) A E s (mergeLo' a b) Q st:=by
  have pw:∀c:Array Keyed,Seg c 0 c.size→c.toList.Pairwise fun x y=>nm x≤nm y:=fun c hc=>by
    rw [List.pairwise_iff_getElem]
    intro i j hi hj hij
    have hi':i<c.size:=by simpa using hi
    have hj':j<c.size:=by simpa using hj
    have:=hc i j (by omega) (by omega) hj'
    rw [←nm_at hi',←nm_at hj'] at this
    simpa using this
  have hl2:∀i (hi:i<a.size),i+1=a.size→∀y∈b.toList,nm y≤nm a[i]:=fun i hi e y hy=>by
    obtain ⟨j,hj,rfl⟩:=List.mem_iff_getElem.mp hy
    have hj':j<b.size:=by simpa using hj
    have:=hl j hj'
    rw [←nm_at hj',show a.size-1=i by omega,←nm_at hi] at this
    have e2:b.toList[j]=b[j]:=by simp
    rw [e2];omega
  have M0:MI a b #[] 0 0:=⟨by simp,List.Pairwise.nil,(fun x hx=>nomatch hx),by simpa using pw a sa,by simpa using pw b sb⟩
  have M1:MI a b #[b[0]] 0 1:=M0.b1 a0 b0 (by omega)
  unfold mergeLo'
  w_means
  dsimp only
  refine wpS_bind (wpS_lift (wpAny_rule ⟨rfl,?_⟩))
  refine wpS_bind (wpS_elemN b0 ?_)
  by_cases c1:1=b.size
  · rw [if_pos (by simpa using c1)]
    exact wpS_pure (h _ _ (SmS.refl _) (M1.doneB c1))
  rw [if_neg (by simpa using c1)]
  by_cases c2:0+1=a.size
  · rw [if_pos (by simpa using c2)]
    exact wpS_pure (h _ _ (SmS.refl _) (M1.lastA c2 (hl2 _ _ c2)))
  rw [if_neg (by simpa using c2)]
  refine wpS_bind (wpS_get ?_)
  refine wpS_bind (wpS_mono (wpS_forRange (I:=fun x c st'=>SmS st st'∧∃out ia ib g,c=(none,out,ia,ib,g)∧MI a b out ia ib∧ia+1<a.size∧ib<b.size∧x+1≤ia+ib)
    (Q:=fun c st'=>SmS st st'∧∃z d,c=(some z,d)∧Fn (a.toList++b.toList) z.toList) ?_ ?_ ?_) ?_)
  · rintro x c st' _ hx ⟨S,out,ia,ib,g,rfl,M,i1,i2,i3⟩
    dsimp only
    refine wpS_bind (wpS_mono (wpS_forRange (I:=fun y c st2=>SmS st st2∧∃out ia ib u v,c=(none,out,ia,ib,u,v)∧MI a b out ia ib∧ia+1<a.size∧ib<b.size∧x+y+1≤ia+ib)
      (Q:=fun c st2=>SmS st st2∧((∃z d,c=(some z,d)∧Fn (a.toList++b.toList) z.toList)∨∃out ia ib u v,c=(none,out,ia,ib,u,v)∧MI a b out ia ib∧ia+1<a.size∧ib<b.size∧x+2≤ia+ib)) ?_ ?_ ?_) ?_)
    · rintro y c st2 _ hy ⟨S2,out,ia,ib,u,v,rfl,M,i1,i2,i3⟩
      dsimp only
      refine wpS_bind (wpS_elemN i2 (wpS_bind (wpS_elemN (show ia<a.size by omega) (wpS_bind (wpS_ltN (S2.kind.trans hk) (isI_at Ib _) (isI_at Ia _) ?_)))))
      by_cases c3:nm b[ib]<nm a[ia]
      · rw [decide_eq_true c3]
        dsimp only
        rw [if_pos rfl]
        have N:=M.b1 (by omega) i2 (by omega)
        refine wpS_bind (wpS_elemN i2 ?_)
        by_cases c4:ib+1=b.size
        · rw [if_pos (by simpa using c4)]
          exact wpS_pure ⟨S2,.inl ⟨_,_,rfl,N.doneB c4⟩⟩
        rw [if_neg (by simpa using c4)]
        by_cases c5:v+1≥g
        · rw [if_pos c5]
          exact wpS_pure ⟨S2,.inr ⟨_,_,_,_,_,rfl,N,i1,by omega,by omega⟩⟩
        · rw [if_neg c5]
          exact wpS_pure ⟨S2,_,_,_,_,_,rfl,N,i1,by omega,by omega⟩
      · rw [decide_eq_false c3]
        dsimp only
        rw [if_neg (by decide)]
        have N:=M.a1 (by omega) i2 (by omega)
        refine wpS_bind (wpS_elemN (show ia<a.size by omega) ?_)
        by_cases c4:ia+1+1=a.size
        · rw [if_pos (by simpa using c4)]
          exact wpS_pure ⟨S2,.inl ⟨_,_,rfl,N.lastA c4 (hl2 _ _ c4)⟩⟩
        rw [if_neg (by simpa using c4)]
        by_cases c5:u+1≥g
        · rw [if_pos c5]
          exact wpS_pure ⟨S2,.inr ⟨_,_,_,_,_,rfl,N,by omega,i2,by omega⟩⟩
        · rw [if_neg c5]
          exact wpS_pure ⟨S2,_,_,_,_,_,rfl,N,by omega,i2,by omega⟩
    · rintro c st2 ⟨S2,out,ia,ib,u,v,rfl,M,i1,i2,i3⟩
      exact ⟨S2,.inr ⟨_,_,_,_,_,rfl,M,i1,i2,by omega⟩⟩
    · exact ⟨S,_,_,_,_,_,rfl,M,i1,i2,by omega⟩
    clear i3 i2 i1 M
    rintro c st2 ⟨S2,⟨z,d,rfl,F⟩ | ⟨out,ia,ib,u,v,rfl,M,i1,i2,i3⟩⟩
    · exact wpS_pure ⟨S2,_,_,rfl,F⟩
    dsimp only
    refine wpS_bind (wpS_lift (wpAny_rule ⟨rfl,?_⟩))
    refine wpS_bind (wpS_mono (wpS_forRange (I:=fun y c st2=>SmS st st2∧∃out ia ib g u v,c=(none,out,ia,ib,g,u,v)∧MI a b out ia ib∧ia+1<a.size∧ib<b.size∧x+2≤ia+ib)
      (Q:=fun c st2=>SmS st st2∧((∃z d,c=(some z,d)∧Fn (a.toList++b.toList) z.toList)∨∃out ia ib g u v,c=(none,out,ia,ib,g,u,v)∧MI a b out ia ib∧ia+1<a.size∧ib<b.size∧x+2≤ia+ib)) ?_ ?_ ?_) ?_)
    · clear i3 i2 i1 M S2 S
      rintro y c st2 _ hy ⟨S2,out,ia,ib,g,u,v,rfl,M,i1,i2,i3⟩
      dsimp only
      have hb0:∀k,(∀i,k≤i→i<a.size-ia→byB false (nm b[ib]) (K a (ia+i))=false)→(∀i,i<k→byB false (nm b[ib]) (K a (ia+i))=true)→ia+k<a.size:=fun k _ h2=>by
        rcases Nat.lt_or_ge (ia+k) a.size with z | z
        · exact z
        · have e1:=byF.mp (h2 (a.size-1-ia) (by omega))
          have e2:=hl ib i2
          rw [←nm_at i2] at e2
          rw [show ia+(a.size-1-ia)=a.size-1 by omega] at e1
          omega
      by_cases cg:g>1
      case' pos=>rw [if_pos cg];refine wpS_bind (wpS_setG ?_);have S3:=S2.g (g-1)
      case' neg=>rw [if_neg cg];refine wpS_bind (wpS_setG ?_);have S3:=S2.g g
      all_goals
        refine wpS_bind (wpS_elemN i2 (wpS_bind (wpS_gallop (S3.kind.trans hk) Ia (isI_at Ib _) (by omega) (by omega) (fun i j p q r=>sa i j (by omega) q (by omega)) fun k k1 k2 k3=>?_)))
        have k4:=hb0 k k3 k2
        have k5:=byF'.mp (k3 k (Nat.le_refl _) (by omega))
        rw [←nm_at k4] at k5
        dsimp only
        by_cases ck:k>0
        case' pos=>rw [if_pos ck];split
        case' neg=>(rw [if_neg ck];have k0:k=0:=by omega);subst k0;have N:=M;have k6:=k4;have k7:=k5
        case pos.isTrue c4 =>
          have c4':ia+k+1=a.size:=by simpa using c4
          exact wpS_pure ⟨S3,.inl ⟨_,_,rfl,(M.aK (k:=k) (by omega) i2 fun i hi=>byF.mp (k2 i hi)).lastA c4' (hl2 _ _ c4')⟩⟩
        case' pos.isFalse c4=>(rw [if_neg (by simpa using (show ¬ia+k=a.size by omega))];have c4':¬ia+k+1=a.size:=by simpa using c4);have N:=M.aK (k:=k) (by omega) i2 fun i hi=>byF.mp (k2 i hi);have k6:=k4;have k7:=k5
        all_goals
          have N2:=N.b1 k6 i2 (Int.le_of_lt k7)
          refine wpS_bind (wpS_elemN i2 ?_)
          by_cases c6:ib+1=b.size
          · rw [if_pos (by simpa using c6)]
            exact wpS_pure ⟨S3,.inl ⟨_,_,rfl,N2.doneB c6⟩⟩
          rw [if_neg (by simpa using c6)]
          refine wpS_bind (wpS_elemN k6 (wpS_bind (wpS_gallop (S3.kind.trans hk) Ib (isI_at Ia _) (by omega) (by omega) (fun i j p q r=>sb i j (by omega) q (by omega)) fun k' q1 q2 q3=>?_)))
          have N3:=N2.bK (k:=k') (by omega) k6 fun i hi=>Int.le_of_lt (byT.mp (q2 i hi))
          have q4:∀(hh:ib+1+k'<b.size),_≤nm b[ib+1+k']:=fun hh=>by
            have:=byT'.mp (q3 k' (Nat.le_refl _) (by omega))
            rwa [←nm_at hh] at this
          dsimp only
          by_cases cq:k'>0
          case' pos=>rw [if_pos cq];split
          case' neg=>(rw [if_neg cq];have k0:k'=0:=by omega);subst k0;have q5:ib+1+0<b.size:=by omega
          case pos.isTrue c7 =>
            have c7':ib+1+k'=b.size:=by simpa using c7
            exact wpS_pure ⟨S3,.inl ⟨_,_,rfl,N3.doneB c7'⟩⟩
          case' pos.isFalse c7=>(have c7':¬ib+1+k'=b.size:=by simpa using c7);have q5:ib+1+k'<b.size:=by omega
          case' neg=>have N4:=N2.a1 k6 q5 (q4 q5)
          case' pos.isFalse c7=>have N4:=N3.a1 k6 q5 (q4 q5)
          all_goals
            refine wpS_bind (wpS_elemN k6 ?_)
            split
            · rename_i c8
              have c8':=LawfulBEq.eq_of_beq c8
              exact wpS_pure ⟨S3,.inl ⟨_,_,rfl,N4.lastA c8' (hl2 _ _ c8')⟩⟩
            · rename_i c8
              rw [beq_iff_eq] at c8
              split
              · exact wpS_pure ⟨S3,.inr ⟨_,_,_,_,_,_,rfl,N4,by omega,q5,by omega⟩⟩
              · exact wpS_pure ⟨S3,_,_,_,_,_,_,rfl,N4,by omega,q5,by omega⟩
    · rintro c st2 ⟨S2,out,ia,ib,g,u,v,rfl,M,i1,i2,i3⟩
      exact ⟨S2,.inr ⟨_,_,_,_,_,_,rfl,M,i1,i2,i3⟩⟩
    · exact ⟨S2,_,_,_,_,_,_,rfl,M,i1,i2,i3⟩
    clear i3 i2 i1 M
    rintro c st3 ⟨S3,⟨z,d,rfl,F⟩ | ⟨out,ia,ib,g,u,v,rfl,M,i1,i2,i3⟩⟩
    · exact wpS_pure ⟨S3,_,_,rfl,F⟩
    · exact wpS_bind (wpS_setG (wpS_pure ⟨S3.g _,_,_,_,_,rfl,M,i1,i2,by omega⟩))
  · rintro c st' ⟨S,out,ia,ib,g,rfl,M,i1,i2,i3⟩
    omega
  · exact ⟨SmS.refl _,_,_,_,_,rfl,M1,by omega,by omega,by omega⟩
  · rintro c st' ⟨S,z,d,rfl,F⟩
    exact wpS_pure (h z st' S F)
end
end L2
namespace L2
open PySem PyProof.Rows
structure MG (Z xs ys o:List Keyed):Prop where
  perm:((xs++ys)++o).Perm Z
  so:o.Pairwise fun x y=>nm x≤nm y
  le:∀x∈xs++ys,∀y∈o,nm x≤nm y
  sx:xs.Pairwise fun x y=>nm x≤nm y
  sy:ys.Pairwise fun x y=>nm x≤nm y
theorem MG.mvX {Z x1 x2 ys o:List Keyed} (M:MG Z (x1++x2) ys o) (h:∀y∈ys,∀x∈x2,nm y≤nm x):MG Z x1 ys (x2++o):=by
  obtain ⟨p,so,le,sx,sy⟩:=M
  rw [List.pairwise_append] at sx
  refine ⟨List.Perm.trans ?_ p,List.pairwise_append.mpr ⟨sx.2.1,so,fun x hx y hy=>le x (by simp [hx]) y hy⟩,fun x hx y hy=>?_,sx.1,sy⟩
  · rw [←List.append_assoc]
    refine List.Perm.append_right _ ?_
    rw [List.append_assoc,List.append_assoc]
    exact List.Perm.append_left _ List.perm_append_comm
  · rcases List.mem_append.mp hy with hy | hy
    · rcases List.mem_append.mp hx with z | z
      · exact sx.2.2 x z y hy
      · exact h x z y hy
    · exact le x (by rcases List.mem_append.mp hx with z | z<;>simp [z]) y hy
theorem MG.mvY {Z xs y1 y2 o:List Keyed} (M:MG Z xs (y1++y2) o) (h:∀x∈xs,∀y∈y2,nm x≤nm y):MG Z xs y1 (y2++o):=by
  obtain ⟨p,so,le,sx,sy⟩:=M
  rw [List.pairwise_append] at sy
  refine ⟨by simpa only [List.append_assoc] using p,List.pairwise_append.mpr ⟨sy.2.1,so,fun x hx y hy=>le x (by simp [hx]) y hy⟩,fun x hx y hy=>?_,sx,sy.1⟩
  rcases List.mem_append.mp hy with hy | hy
  · rcases List.mem_append.mp hx with z | z
    · exact h x z y hy
    · exact sy.2.2 x z y hy
  · exact le x (by rcases List.mem_append.mp hx with z | z<;>simp [z]) y hy
theorem MG.fin {Z xs ys o:List Keyed} (M:MG Z xs ys o) (h:∀y∈ys,∀x∈xs,nm y≤nm x):Fn Z (ys++xs++o):=by
  have M1:MG Z ([]++xs) ys o:=M
  have M2:=M1.mvX h
  refine ⟨by simpa using M2.perm,?_⟩
  rw [List.append_assoc]
  exact List.pairwise_append.mpr ⟨M2.sy,M2.so,fun x hx y hy=>M2.le x (by simp [hx]) y hy⟩
def MH (a b out:Array Keyed) (na nb:Nat):Prop:=MG (a.toList++b.toList) (a.toList.take na) (b.toList.take nb) out.toList.reverse
theorem ext_take (a:Array Keyed) (n:Nat) (h:n≤a.size):(a.extract 0 n).toList=a.toList.take n:=by
  rw [ext_list a 0 n h];simp
theorem take_at {a:Array Keyed} {n:Nat} (h0:1≤n) (h:n-1<a.size):a.toList.take n=a.toList.take (n-1)++[a[n-1]]:=by
  obtain ⟨k,rfl⟩:∃k,n=k+1:=⟨n-1,by omega⟩
  have h':k<a.toList.length:=by simpa using h
  rw [List.take_succ,List.getElem?_eq_getElem h']
  simp
theorem last_le {a:Array Keyed} {n:Nat} (h0:1≤n) (h:n-1<a.size) (hs:(a.toList.take n).Pairwise fun x y=>nm x≤nm y) {z:Int} (hz:nm a[n-1]≤z):∀x∈a.toList.take n,nm x≤z:=fun x hx=>by
  rw [take_at h0 h] at hs hx
  rcases List.mem_append.mp hx with e | e
  · have:=(List.pairwise_append.mp hs).2.2 x e _ (List.mem_singleton.mpr rfl);omega
  · rw [List.mem_singleton.mp e];exact hz
theorem take_split (l:List Keyed) {i n:Nat} (h:i≤n):l.take n=l.take i++(l.drop i).take (n-i):=by
  rw [←List.take_add,show i+(n-i)=n by omega]
theorem mid_le {a:Array Keyed} {i n:Nat} (hi:i≤n) (h:n≤a.size) {z:Int} (hz:∀j,i≤j→j<n→z≤K a j):∀x∈(a.toList.drop i).take (n-i),z≤nm x:=fun x hx=>by
  obtain ⟨j,hj,rfl⟩:=List.mem_iff_getElem.mp hx
  have hj2:j<n-i:=by rw [List.length_take] at hj;omega
  have:=hz (i+j) (by omega) (by omega)
  rw [←nm_at (show i+j<a.size by omega)] at this
  simpa using this
section
variable {a b out:Array Keyed} {na nb k:Nat}
theorem MH.a1 (M:MH a b out na nb) (h0:1≤na) (hna:na-1<a.size) (h1:1≤nb) (hnb:nb-1<b.size) (h:nm b[nb-1]≤nm a[na-1]):MH a b (out.push a[na-1]) (na-1) nb:=by
  unfold MH at M ⊢
  have sy:=M.sy
  rw [take_at h0 hna] at M
  rw [Array.toList_push,List.reverse_append]
  exact MG.mvX M fun y hy x hx=>by rw [List.mem_singleton.mp hx];exact last_le h1 hnb sy h y hy
theorem MH.b1 (M:MH a b out na nb) (h0:1≤na) (hna:na-1<a.size) (h1:1≤nb) (hnb:nb-1<b.size) (h:nm a[na-1]≤nm b[nb-1]):MH a b (out.push b[nb-1]) na (nb-1):=by
  unfold MH at M ⊢
  have sx:=M.sx
  rw [take_at h1 hnb] at M
  rw [Array.toList_push,List.reverse_append]
  exact MG.mvY M fun x hx y hy=>by rw [List.mem_singleton.mp hy];exact last_le h0 hna sx h x hx
theorem MH.aK (M:MH a b out na nb) (hk:k≤na) (hna:na≤a.size) (h1:1≤nb) (hnb:nb-1<b.size) (h:∀i,k≤i→i<na→nm b[nb-1]≤K a i):MH a b (out++(a.extract k na).reverse) k nb:=by
  unfold MH at M ⊢
  have sy:=M.sy
  rw [take_split a.toList hk] at M
  rw [Array.toList_append,Array.toList_reverse,List.reverse_append,List.reverse_reverse,ext_list _ _ _ hna]
  exact MG.mvX M fun y hy x hx=>Int.le_trans (last_le h1 hnb sy (Int.le_refl _) y hy) (mid_le hk hna h x hx)
theorem MH.bK (M:MH a b out na nb) (hk:k≤nb) (hnb:nb≤b.size) (h0:1≤na) (hna:na-1<a.size) (h:∀i,k≤i→i<nb→nm a[na-1]≤K b i):MH a b (out++(b.extract k nb).reverse) na k:=by
  unfold MH at M ⊢
  have sx:=M.sx
  rw [take_split b.toList hk] at M
  rw [Array.toList_append,Array.toList_reverse,List.reverse_append,List.reverse_reverse,ext_list _ _ _ hnb]
  exact MG.mvY M fun y hy x hx=>Int.le_trans (last_le h0 hna sx (Int.le_refl _) y hy) (mid_le hk hnb h x hx)
theorem MH.doneA (M:MH a b out na nb) (h:na=0) (hnb:nb≤b.size):Fn (a.toList++b.toList) (a.extract 0 na++b.extract 0 nb++out.reverse).toList:=by
  subst h
  unfold MH at M
  rw [Array.toList_append,Array.toList_append,Array.toList_reverse,ext_take _ _ (Nat.zero_le _),ext_take _ _ hnb]
  have:=M.fin fun y hy x hx=>by simp at hx
  simpa using this
theorem MH.firstB (M:MH a b out na nb) (h:nb=1) (hna:na≤a.size) (hb:0<b.size) (hf:∀x∈a.toList,nm b[0]≤nm x):Fn (a.toList++b.toList) (b.extract 0 nb++a.extract 0 na++out.reverse).toList:=by
  subst h
  unfold MH at M
  rw [Array.toList_append,Array.toList_append,Array.toList_reverse,ext_take _ _ hna,ext_take _ _ hb]
  refine M.fin fun y hy x hx=>?_
  rw [take_at (Nat.le_refl 1) hb] at hy
  simp at hy
  rw [hy]
  exact hf x (List.mem_of_mem_take hx)
end
end L2
namespace L2
open PySem PyProof.Rows
def mergeHi':Array Keyed→Array Keyed→StateT SortSt Sem (Array Keyed):=sortPriv% PySem.Builtin.mergeHi
theorem seg_pw (c:Array Keyed) (hc:Seg c 0 c.size):c.toList.Pairwise fun x y=>nm x≤nm y:=by
  rw [List.pairwise_iff_getElem]
  intro i j hi hj hij
  have hi':i<c.size:=by simpa using hi
  have hj':j<c.size:=by simpa using hj
  have:=hc i j (by omega) (by omega) hj'
  rw [←nm_at hi',←nm_at hj'] at this
  simpa using this
section
variable {prog:Program} {w:World} {A:Around} {E:Value→Shared→Prop} {s:Shared}
local macro_rules | `(tactic| w_means)=>do let n:=Lean.mkIdent (Lean.mkPrivateNameCore `PySem.Builtin.List.W1All `PySem.Builtin.mergeHi);`(tactic| unfold $n)
set_option maxHeartbeats 4000000 in
theorem wpS_mergeHi {st:SortSt} {a b:Array Keyed} {Q:Array Keyed→SortSt→Prop} (hk:kindOf st=oneType') (Ia:IntKeys a) (Ib:IntKeys b) (sa:Seg a 0 a.size) (sb:Seg b 0 b.size) (a0:0<a.size) (b0:0<b.size) (hf:nm b[0]<nm a[0]) (hl:∀i,i<b.size→K b i<K a (a.size-1))
    (h:∀z st',SmS st st'→Fn (a.toList++b.toList) z.toList→Q z st') :
    wpS (model prog w) A E s (mergeHi' a b) Q st:=by
  have hf2:∀i,i<a.size→nm b[0]<K a i:=fun i hi=>by
    have:=sa 0 i (by omega) (by omega) hi
    rw [←nm_at a0] at this
    omega
  have hf3:∀x∈a.toList,nm b[0]≤nm x:=fun x hx=>by
    obtain ⟨j,hj,rfl⟩:=List.mem_iff_getElem.mp hx
    have hj':j<a.size:=by simpa using hj
    have:=hf2 j hj'
    rw [←nm_at hj'] at this
    have e2:a.toList[j]=a[j]:=by simp
    rw [e2];omega
  have ta:∀c:Array Keyed,c.toList.take c.size=c.toList:=fun c=>List.take_of_length_le (by simp)
  have M0:MH a b #[] a.size b.size:=by
    unfold MH
    rw [ta a,ta b]
    exact ⟨by simp,List.Pairwise.nil,(fun x hx y hy=>nomatch hy),seg_pw a sa,seg_pw b sb⟩
  have hlast:=hl (b.size-1) (by omega)
  rw [←nm_at (show b.size-1<b.size by omega),←nm_at (show a.size-1<a.size by omega)] at hlast
  have M1:MH a b #[a[a.size-1]] (a.size-1) b.size:=M0.a1 a0 (by omega) b0 (by omega) (by omega)
  unfold mergeHi'
  w_means
  dsimp only
  refine wpS_bind (wpS_lift (wpAny_rule ⟨rfl,?_⟩))
  refine wpS_bind (wpS_elemN (show a.size-1<a.size by omega) ?_)
  by_cases c1:a.size-1=0
  · rw [if_pos (by simpa using c1)]
    exact wpS_pure (h _ _ (SmS.refl _) (M1.doneA c1 (Nat.le_refl _)))
  rw [if_neg (by simpa using c1)]
  by_cases c2:b.size=1
  · rw [if_pos (by simpa using c2)]
    exact wpS_pure (h _ _ (SmS.refl _) (M1.firstB c2 (by omega) b0 hf3))
  rw [if_neg (by simpa using c2)]
  refine wpS_bind (wpS_get ?_)
  refine wpS_bind (wpS_mono (wpS_forRange (I:=fun x c st'=>SmS st st'∧∃na nb out g,c=(none,na,nb,out,g)∧MH a b out na nb∧1≤na∧2≤nb∧na≤a.size∧nb≤b.size∧x+1+na+nb≤a.size+b.size)
    (Q:=fun c st'=>SmS st st'∧∃z d,c=(some z,d)∧Fn (a.toList++b.toList) z.toList) ?_ ?_ ?_) ?_)
  · rintro x c st' _ hx ⟨S,na,nb,out,g,rfl,M,i1,i2,i4,i5,i3⟩
    dsimp only
    refine wpS_bind (wpS_mono (wpS_forRange (I:=fun y c st2=>SmS st st2∧∃na nb out u v,c=(none,na,nb,out,u,v)∧MH a b out na nb∧1≤na∧2≤nb∧na≤a.size∧nb≤b.size∧x+y+1+na+nb≤a.size+b.size)
      (Q:=fun c st2=>SmS st st2∧((∃z d,c=(some z,d)∧Fn (a.toList++b.toList) z.toList)∨∃na nb out u v,c=(none,na,nb,out,u,v)∧MH a b out na nb∧1≤na∧2≤nb∧na≤a.size∧nb≤b.size∧x+2+na+nb≤a.size+b.size)) ?_ ?_ ?_) ?_)
    · clear i3 i2 i1 M i4 i5
      rintro y c st2 _ hy ⟨S2,na,nb,out,u,v,rfl,M,i1,i2,i4,i5,i3⟩
      dsimp only
      have j1:nb-1<b.size:=by omega
      have j2:na-1<a.size:=by omega
      refine wpS_bind (wpS_elemN j1 (wpS_bind (wpS_elemN j2 (wpS_bind (wpS_ltN (S2.kind.trans hk) (isI_at Ib _) (isI_at Ia _) ?_)))))
      by_cases c3:nm b[nb-1]<nm a[na-1]
      · rw [decide_eq_true c3]
        dsimp only
        rw [if_pos rfl]
        have N:=M.a1 i1 j2 (by omega) j1 (by omega)
        refine wpS_bind (wpS_elemN j2 ?_)
        by_cases c4:na-1=0
        · rw [if_pos (by simpa using c4)]
          exact wpS_pure ⟨S2,.inl ⟨_,_,rfl,N.doneA c4 (by omega)⟩⟩
        rw [if_neg (by simpa using c4)]
        by_cases c5:u+1≥g
        · rw [if_pos c5]
          exact wpS_pure ⟨S2,.inr ⟨_,_,_,_,_,rfl,N,by omega,i2,by omega,i5,by omega⟩⟩
        · rw [if_neg c5]
          exact wpS_pure ⟨S2,_,_,_,_,_,rfl,N,by omega,i2,by omega,i5,by omega⟩
      · rw [decide_eq_false c3]
        dsimp only
        rw [if_neg (by decide)]
        have N:=M.b1 i1 j2 (by omega) j1 (by omega)
        refine wpS_bind (wpS_elemN j1 ?_)
        by_cases c4:nb-1=1
        · rw [if_pos (by simpa using c4)]
          exact wpS_pure ⟨S2,.inl ⟨_,_,rfl,N.firstB c4 (by omega) b0 hf3⟩⟩
        rw [if_neg (by simpa using c4)]
        by_cases c5:v+1≥g
        · rw [if_pos c5]
          exact wpS_pure ⟨S2,.inr ⟨_,_,_,_,_,rfl,N,i1,by omega,i4,by omega,by omega⟩⟩
        · rw [if_neg c5]
          exact wpS_pure ⟨S2,_,_,_,_,_,rfl,N,i1,by omega,i4,by omega,by omega⟩
    · rintro c st2 ⟨S2,na,nb,out,u,v,rfl,M,i1,i2,i4,i5,i3⟩
      exact ⟨S2,.inr ⟨_,_,_,_,_,rfl,M,i1,i2,i4,i5,by omega⟩⟩
    · exact ⟨S,_,_,_,_,_,rfl,M,i1,i2,i4,i5,by omega⟩
    clear i3 i2 i1 M i4 i5
    rintro c st2 ⟨S2,⟨z,d,rfl,F⟩ | ⟨na,nb,out,u,v,rfl,M,i1,i2,i4,i5,i3⟩⟩
    · exact wpS_pure ⟨S2,_,_,rfl,F⟩
    dsimp only
    refine wpS_bind (wpS_lift (wpAny_rule ⟨rfl,?_⟩))
    refine wpS_bind (wpS_mono (wpS_forRange (I:=fun y c st2=>SmS st st2∧∃na nb out g u v,c=(none,na,nb,out,g,u,v)∧MH a b out na nb∧1≤na∧2≤nb∧na≤a.size∧nb≤b.size∧x+2+na+nb≤a.size+b.size)
      (Q:=fun c st2=>SmS st st2∧((∃z d,c=(some z,d)∧Fn (a.toList++b.toList) z.toList)∨∃na nb out g u v,c=(none,na,nb,out,g,u,v)∧MH a b out na nb∧1≤na∧2≤nb∧na≤a.size∧nb≤b.size∧x+2+na+nb≤a.size+b.size)) ?_ ?_ ?_) ?_)
    · clear i3 i2 i1 M S2 S i4 i5
      rintro y c st2 _ hy ⟨S2,na,nb,out,g,u,v,rfl,M,i1,i2,i4,i5,i3⟩
      dsimp only
      have j1:nb-1<b.size:=by omega
      by_cases cg:g>1
      case' pos=>rw [if_pos cg];refine wpS_bind (wpS_setG ?_);have S3:=S2.g (g-1)
      case' neg=>rw [if_neg cg];refine wpS_bind (wpS_setG ?_);have S3:=S2.g g
      all_goals
        refine wpS_bind (wpS_elemN j1 (wpS_bind (wpS_gallop (S3.kind.trans hk) Ia (isI_at Ib _) (by omega) (by omega) (fun i j p q r=>sa i j (by omega) q (by omega)) fun k k1 k2 k3=>?_)))
        have k2':∀i,i<k→K a i≤nm b[nb-1]:=fun i hi=>by
          have:=byF.mp (k2 i hi)
          rwa [Nat.zero_add] at this
        have N0:=M.aK k1 i4 (by omega) j1 fun i p q=>by
          have:=byF'.mp (k3 i p q)
          rw [Nat.zero_add] at this
          exact Int.le_of_lt this
        dsimp only
        by_cases ck:na-k>0
        case' pos=>rw [if_pos ck];split
        case' neg=>(rw [if_neg ck];have k0:k=na:=by omega);subst k0;have N:=M;have k6:1≤k:=i1
        case pos.isTrue c4 =>
          rw [beq_iff_eq] at c4
          exact wpS_pure ⟨S3,.inl ⟨_,_,rfl,N0.doneA c4 i5⟩⟩
        case' pos.isFalse c4=>rw [beq_iff_eq] at c4;have N:=N0;have k6:1≤k:=by omega
        all_goals
          have k7:k-1<a.size:=by omega
          have k8:=k2' (k-1) (by omega)
          rw [←nm_at k7] at k8
          have N2:=N.b1 k6 k7 (by omega) j1 k8
          refine wpS_bind (wpS_elemN j1 ?_)
          by_cases c6:nb-1=1
          · rw [if_pos (by simpa using c6)]
            exact wpS_pure ⟨S3,.inl ⟨_,_,rfl,N2.firstB c6 (by omega) b0 hf3⟩⟩
          rw [if_neg (by simpa using c6)]
          refine wpS_bind (wpS_elemN k7 (wpS_bind (wpS_gallop (S3.kind.trans hk) Ib (isI_at Ia _) (by omega) (by omega) (fun i j p q r=>sb i j (by omega) q (by omega)) fun k' q1 q2 q3=>?_)))
          have N3:=N2.bK q1 (by omega) k6 k7 fun i p q=>by
            have:=byT'.mp (q3 i p q)
            rwa [Nat.zero_add] at this
          have q4:1≤k':=by
            rcases Nat.eq_zero_or_pos k' with z | z
            · have e1:=byT'.mp (q3 0 (by omega) (by omega))
              have e2:=hf2 (k-1) k7
              rw [Nat.add_zero,←nm_at b0] at e1
              rw [←nm_at k7] at e2
              omega
            · exact z
          have q5:∀i (hi:i<k') (hb:i<b.size),nm b[i]≤nm a[k-1]:=fun i hi hb=>by
            have:=byT.mp (q2 i hi)
            rw [Nat.zero_add,←nm_at hb] at this
            omega
          dsimp only
          by_cases cq:nb-1-k'>0
          case' pos=>rw [if_pos cq];split
          case' neg=>(rw [if_neg cq];have k0:k'=nb-1:=by omega);have N4:=N2.a1 k6 k7 (by omega) (by omega) (q5 (nb-1-1) (by omega) (by omega));have q6:2≤nb-1:=by omega
          case pos.isTrue c7 =>
            rw [beq_iff_eq] at c7
            exact wpS_pure ⟨S3,.inl ⟨_,_,rfl,N3.firstB c7 (by omega) b0 hf3⟩⟩
          case' pos.isFalse c7=>rw [beq_iff_eq] at c7;rw [if_neg (by simpa using (show ¬k'=0 by omega))];have N4:=N3.a1 k6 k7 q4 (by omega) (q5 (k'-1) (by omega) (by omega));have q6:2≤k':=by omega
          all_goals
            refine wpS_bind (wpS_elemN k7 ?_)
            split
            · rename_i c8
              rw [beq_iff_eq] at c8
              exact wpS_pure ⟨S3,.inl ⟨_,_,rfl,N4.doneA c8 (by omega)⟩⟩
            · rename_i c8
              rw [beq_iff_eq] at c8
              split
              · exact wpS_pure ⟨S3,.inr ⟨_,_,_,_,_,_,rfl,N4,by omega,q6,by omega,by omega,by omega⟩⟩
              · exact wpS_pure ⟨S3,_,_,_,_,_,_,rfl,N4,by omega,q6,by omega,by omega,by omega⟩
    · rintro c st2 ⟨S2,na,nb,out,g,u,v,rfl,M,i1,i2,i4,i5,i3⟩
      exact ⟨S2,.inr ⟨_,_,_,_,_,_,rfl,M,i1,i2,i4,i5,i3⟩⟩
    · exact ⟨S2,_,_,_,_,_,_,rfl,M,i1,i2,i4,i5,i3⟩
    clear i3 i2 i1 M i4 i5
    rintro c st3 ⟨S3,⟨z,d,rfl,F⟩ | ⟨na,nb,out,g,u,v,rfl,M,i1,i2,i4,i5,i3⟩⟩
    · exact wpS_pure ⟨S3,_,_,rfl,F⟩
    · exact wpS_bind (wpS_setG (wpS_pure ⟨S3.g _,_,_,_,_,rfl,M,i1,i2,i4,i5,by omega⟩))
  · rintro c st' ⟨S,na,nb,out,g,rfl,M,i1,i2,i4,i5,i3⟩
    omega
  · exact ⟨SmS.refl _,_,_,_,_,rfl,M1,by omega,by omega,by omega,by omega,by omega⟩
  · rintro c st' ⟨S,z,d,rfl,F⟩
    exact wpS_pure (h z st' S F)
end
end L2
namespace L2
open PySem PyProof.Rows
def sl (a:Array Keyed) (lo hi:Nat):List Keyed:=(a.toList.drop lo).take (hi-lo)
theorem sl_len {a:Array Keyed} {lo hi:Nat} (h:hi≤a.size):(sl a lo hi).length=hi-lo:=by
  unfold sl;rw [List.length_take,List.length_drop,Array.length_toList];omega
theorem sl_get {a:Array Keyed} {lo hi i:Nat} (h:hi≤a.size) (hi2:i<(sl a lo hi).length):(sl a lo hi)[i]=a[lo+i]'(by rw [sl_len h] at hi2;omega):=by
  have h3:=hi2
  rw [sl_len h] at h3
  have e:(sl a lo hi)[i]?=a[lo+i]?:=by unfold sl;rw [List.getElem?_take_of_lt h3,List.getElem?_drop,Array.getElem?_toList]
  rw [List.getElem?_eq_getElem hi2,getElem?_pos a (lo+i) (by omega)] at e
  exact Option.some.inj e
theorem mem_sl {a:Array Keyed} {lo hi:Nat} (h:hi≤a.size) {x:Keyed} (hx:x∈sl a lo hi):∃i,lo≤i∧i<hi∧nm x=K a i:=by
  obtain ⟨i,hi2,rfl⟩:=List.mem_iff_getElem.mp hx
  have h3:=hi2
  rw [sl_len h] at h3
  exact ⟨lo+i,by omega,by omega,by rw [sl_get h,nm_at]⟩
theorem seg_iff {a:Array Keyed} {lo hi:Nat} (h:hi≤a.size):Seg a lo hi↔(sl a lo hi).Pairwise fun x y=>nm x≤nm y:=by
  rw [List.pairwise_iff_getElem]
  constructor
  · intro hs i j hi2 hj hij
    rw [sl_get h,sl_get h,nm_at,nm_at]
    rw [sl_len h] at hj
    exact hs _ _ (by omega) (by omega) (by omega)
  · intro hp i j h1 h2 h3
    rcases Nat.lt_or_ge i j with z | z
    · have:=hp (i-lo) (j-lo) (by rw [sl_len h];omega) (by rw [sl_len h];omega) (by omega)
      rw [sl_get h,sl_get h,nm_at,nm_at,show lo+(i-lo)=i by omega,show lo+(j-lo)=j by omega] at this
      exact this
    · rw [show i=j by omega];exact Int.le_refl _
theorem sl_ext (a:Array Keyed) (lo hi:Nat) (h:hi≤a.size):(a.extract lo hi).toList=sl a lo hi:=ext_list a lo hi h
theorem sl_app (a:Array Keyed) {i j k:Nat} (h:i≤j) (h2:j≤k):sl a i k=sl a i j++sl a j k:=by
  unfold sl
  rw [take_split (a.toList.drop i) (show j-i≤k-i by omega),List.drop_drop,show i+(j-i)=j by omega,show k-i-(j-i)=k-j by omega]
theorem sl_all (a:Array Keyed):a.toList=sl a 0 a.size:=by
  unfold sl;rw [List.drop_zero,List.take_of_length_le (by simp)]
def spl (a:Array Keyed) (s:Nat) (l:List Keyed):Array Keyed:=l.zipIdx.foldl (fun a x=>a.setIfInBounds (s+x.2) x.1) a
theorem spl_aux {s:Nat}:∀(l:List Keyed) (a:Array Keyed) (k:Nat),s+k+l.length≤a.size→((l.zipIdx k).foldl (fun a x=>a.setIfInBounds (s+x.2) x.1) a).toList=a.toList.take (s+k)++l++a.toList.drop (s+k+l.length)
  | [],a,k,h=>by simp
  | p::l,a,k,h=>by
    rw [List.length_cons] at h
    rw [List.zipIdx_cons,List.foldl_cons,spl_aux l _ (k+1) (by rw [Array.size_setIfInBounds];omega),Array.toList_setIfInBounds]
    have hl:s+k<a.toList.length:=by simp;omega
    have e1:(a.toList.set (s+k) p).take (s+(k+1))=a.toList.take (s+k)++[p]:=by
      rw [show s+(k+1)=s+k+1 by omega,List.take_succ,List.take_set_of_le (Nat.le_refl _),List.getElem?_set_self hl];rfl
    have e2:(a.toList.set (s+k) p).drop (s+(k+1)+l.length)=a.toList.drop (s+k+(p::l).length):=by
      rw [List.drop_set_of_lt (by omega),List.length_cons,show s+(k+1)+l.length=s+k+(l.length+1) by omega]
    rw [e1,e2,List.append_assoc,List.append_assoc]
    simp
theorem spl_list {a:Array Keyed} {s:Nat} {l:List Keyed} (h:s+l.length≤a.size):(spl a s l).toList=a.toList.take s++l++a.toList.drop (s+l.length):=spl_aux l a 0 h
theorem spl_get {a:Array Keyed} {s:Nat} {l:List Keyed} (h:s+l.length≤a.size) {m:Nat} (hm:m<s∨s+l.length≤m):(spl a s l)[m]?=a[m]?:=by
  have hat:a.toList.length=a.size:=Array.length_toList
  rw [←Array.getElem?_toList,spl_list h,←Array.getElem?_toList]
  rcases hm with hm | hm
  · rw [List.append_assoc,List.getElem?_append_left (by rw [List.length_take];omega),List.getElem?_take_of_lt hm]
  · rw [List.getElem?_append_right (by rw [List.length_append,List.length_take];omega),List.length_append,List.length_take,List.getElem?_drop]
    congr 1;omega
theorem spl_size {a:Array Keyed} {s:Nat} {l:List Keyed} (h:s+l.length≤a.size):(spl a s l).size=a.size:=by
  have hat:a.toList.length=a.size:=Array.length_toList
  rw [←Array.length_toList,spl_list h,List.length_append,List.length_append,List.length_take,List.length_drop];omega
theorem take_sl (a:Array Keyed) {n:Nat} (h:n≤a.size):a.toList.take n=sl a 0 n:=by unfold sl;simp
theorem drop_sl (a:Array Keyed) (n:Nat):a.toList.drop n=sl a n a.size:=by
  unfold sl;rw [List.take_of_length_le (by simp)]
theorem spl_perm {a:Array Keyed} {s e:Nat} {l:List Keyed} (hs:s≤e) (he:e≤a.size) (hl:l.Perm (sl a s e)):(spl a s l).Perm a:=by
  have hll:l.length=e-s:=by rw [hl.length_eq,sl_len he]
  rw [Array.perm_iff_toList_perm,spl_list (by omega),show s+l.length=e by omega,take_sl a (by omega),drop_sl]
  have:a.toList=sl a 0 s++sl a s e++sl a e a.size:=by rw [←sl_app a (Nat.zero_le _) hs,←sl_app a (Nat.zero_le _) he,←sl_all]
  rw [this]
  exact List.Perm.append_right _ (List.Perm.append_left _ hl)
theorem spl_sl {a:Array Keyed} {lo s e hi:Nat} {l:List Keyed} (h1:lo≤s) (hs:s≤e) (h2:e≤hi) (he:hi≤a.size) (hl:l.length=e-s):sl (spl a s l) lo hi=sl a lo s++l++sl a e hi:=by
  have ht:(a.toList.take s).length=s:=by rw [List.length_take,Array.length_toList];omega
  have d1:(a.toList.take s++l++a.toList.drop e).drop lo=(a.toList.take s).drop lo++l++a.toList.drop e:=by
    rw [List.append_assoc,List.drop_append_of_le_length (by omega),List.append_assoc]
  have d2:(a.toList.take s).drop lo=sl a lo s:=by unfold sl;rw [List.drop_take]
  have hd:(sl a lo s).length=s-lo:=sl_len (by omega)
  unfold sl at hd ⊢
  rw [spl_list (by omega),show s+l.length=e by omega,d1,d2]
  unfold sl
  rw [List.take_append,List.take_of_length_le (by rw [List.length_append,hd];omega),List.length_append,hd,hl]
  congr 2
  omega
end L2
namespace L2
open PySem PyProof.Rows
theorem ext_at {a:Array Keyed} {lo hi i:Nat} (h:hi≤a.size) (hi2:lo+i<hi):(a.extract lo hi)[i]?=a[lo+i]?:=by
  rw [←Array.getElem?_toList,sl_ext a lo hi h]
  unfold sl
  rw [List.getElem?_take_of_lt (by omega),List.getElem?_drop,Array.getElem?_toList]
theorem K_ext {a:Array Keyed} {lo hi i:Nat} (h:hi≤a.size) (hi2:lo+i<hi):K (a.extract lo hi) i=K a (lo+i):=K_congr (ext_at h hi2)
theorem ext_size {a:Array Keyed} {lo hi:Nat} (h:hi≤a.size):(a.extract lo hi).size=hi-lo:=by
  rw [←Array.length_toList,sl_ext a lo hi h,sl_len h]
theorem ext_int {a:Array Keyed} {lo hi:Nat} (h:hi≤a.size) (hI:IntKeys a):IntKeys (a.extract lo hi):=fun p hp=>by
  rw [sl_ext a lo hi h] at hp
  exact hI p (List.mem_of_mem_drop (List.mem_of_mem_take hp))
theorem ext_seg {a:Array Keyed} {lo hi l h2:Nat} (h:hi≤a.size) (hs:Seg a l h2) (h3:l≤lo) (h4:hi≤h2):Seg (a.extract lo hi) 0 (a.extract lo hi).size:=fun i j p q r=>by
  rw [ext_size h] at r
  rw [K_ext h (by omega),K_ext h (by omega)]
  exact hs _ _ (by omega) (by omega) (by omega)
section
variable {prog:Program} {w:World} {A:Around} {E:Value→Shared→Prop} {s:Shared}
theorem wpS_setS {σ:Type} {st st2:σ} {M:Model} {Q:PUnit→σ→Prop} (h:Q ⟨⟩ st2):wpS M A E s (set st2:StateT σ Sem PUnit) Q st:=by
  unfold wpS;rw [StateT.run_set];exact wpAny_pure ⟨rfl,h⟩
local macro_rules | `(tactic| w_means)=>do let n:=Lean.mkIdent (Lean.mkPrivateNameCore `PySem.Builtin.List.W1All `PySem.Builtin.mergeAt);`(tactic| unfold $n)
set_option maxHeartbeats 4000000 in
theorem wpS_mergeAt {st:SortSt} {i sa na pw sb nb pw2:Nat} {Q:Bool→SortSt→Prop} (hk:kindOf st=oneType') (hfl:failedOf st=none) (hI:IntKeys (arrOf st)) (p1:(pendingOf st)[i]?=some (sa,na,pw)) (p2:(pendingOf st)[i+1]?=some (sb,nb,pw2)) (e:sb=sa+na) (na0:1≤na) (nb0:1≤nb) (hz:sb+nb≤(arrOf st).size) (s1:Seg (arrOf st) sa (sa+na)) (s2:Seg (arrOf st) sb (sb+nb))
    (h:∀st',kindOf st'=oneType'→failedOf st'=none→(arrOf st').Perm (arrOf st)→Seg (arrOf st') sa (sb+nb)→(∀m,m<sa∨sb+nb≤m→(arrOf st')[m]?=(arrOf st)[m]?)→pendingOf st'=((pendingOf st).setIfInBounds i (sa,na+nb,pw)).eraseIdxIfInBounds (i+1)→Q true st') :
    wpS (model prog w) A E s (mergeAt' i) Q st:=by
  rcases st with ⟨kd,arr,pend,gl,fl⟩
  dsimp only [kindOf,arrOf,pendingOf,gallopOf,failedOf] at hk hfl hI p1 p2 hz s1 s2 h
  unfold mergeAt'
  w_means
  dsimp only
  refine wpS_bind (wpS_get ?_)
  rw [p1,p2]
  dsimp only
  refine wpS_bind (wpS_setS ?_)
  refine wpS_bind (wpS_elemN (show sb<arr.size by omega) ?_)
  refine wpS_bind (wpS_gallop hk hI (isI_at hI _) (by omega) (by omega) s1 fun k k1 k2 k3=>?_)
  have kb:=nm_at (show sb<arr.size by omega)
  have k2':∀i,sa≤i→i<sa+k→K arr i≤K arr sb:=fun i p q=>by
    have:=byF.mp (k2 (i-sa) (by omega))
    rwa [kb,show sa+(i-sa)=i by omega] at this
  have k3':∀i,sa+k≤i→i<sb→K arr sb<K arr i:=fun i p q=>by
    have:=byF'.mp (k3 (i-sa) (by omega) (by omega))
    rwa [kb,show sa+(i-sa)=i by omega] at this
  dsimp only
  by_cases c1:na-k=0
  · rw [if_pos (by simpa using c1)]
    refine wpS_pure (h _ hk hfl (Array.Perm.refl _) ?_ (fun m _=>rfl) rfl)
    show Seg arr sa (sb+nb)
    intro i j p q r
    by_cases c2:j<sb
    · exact s1 i j p q (by omega)
    · by_cases c3:sb≤i
      · exact s2 i j c3 q r
      · exact Int.le_trans (k2' i p (by omega)) (s2 sb j (Nat.le_refl _) (by omega) r)
  rw [if_neg (by simpa using c1)]
  have el:sa+k+(na-k)-1=sb-1:=by omega
  rw [el]
  refine wpS_bind (wpS_elemN (show sb-1<arr.size by omega) ?_)
  refine wpS_bind (wpS_gallop hk hI (isI_at hI _) (by omega) (by omega) s2 fun r q1 q2 q3=>?_)
  have kl:=nm_at (show sb-1<arr.size by omega)
  have q2':∀i,sb≤i→i<sb+r→K arr i<K arr (sb-1):=fun i p q=>by
    have:=byT.mp (q2 (i-sb) (by omega))
    rwa [kl,show sb+(i-sb)=i by omega] at this
  have q3':∀i,sb+r≤i→i<sb+nb→K arr (sb-1)≤K arr i:=fun i p q=>by
    have:=byT'.mp (q3 (i-sb) (by omega) (by omega))
    rwa [kl,show sb+(i-sb)=i by omega] at this
  dsimp only
  have kx:=k3' (sb-1) (by omega) (by omega)
  have r0:r≠0:=fun z=>by
    have:=q3' sb (by omega) (by omega)
    omega
  rw [if_neg (by simpa using r0)]
  have xs:=ext_size (a:=arr) (lo:=sa+k) (hi:=sb) (by omega)
  have ys:=ext_size (a:=arr) (lo:=sb) (hi:=sb+r) (by omega)
  have x0:0<(arr.extract (sa+k) sb).size:=by omega
  have y0:0<(arr.extract sb (sb+r)).size:=by omega
  have hf:nm (arr.extract sb (sb+r))[0]<nm (arr.extract (sa+k) sb)[0]:=by
    rw [nm_at,nm_at,K_ext (by omega) (by omega),K_ext (by omega) (by omega)]
    exact k3' _ (by omega) (by omega)
  have hl:∀i,i<(arr.extract sb (sb+r)).size→K (arr.extract sb (sb+r)) i<K (arr.extract (sa+k) sb) ((arr.extract (sa+k) sb).size-1):=fun i hi=>by
    rw [ys] at hi
    rw [xs,K_ext (by omega) (by omega),K_ext (by omega) (by omega),show sa+k+(sb-(sa+k)-1)=sb-1 by omega]
    exact q2' _ (by omega) (by omega)
  have fin:∀(z:Array Keyed) (st':SortSt),SmS (SortSt.mk' kd arr ((pend.setIfInBounds i (sa,na+nb,pw)).eraseIdxIfInBounds (i+1)) gl fl) st'→Fn ((arr.extract (sa+k) sb).toList++(arr.extract sb (sb+r)).toList) z.toList →
      Q true (SortSt.mk' (kindOf st') (spl (arrOf st') (sa+k) z.toList) (pendingOf st') (gallopOf st') (failedOf st')):=fun z st' S F=>by
    rw [sl_ext arr _ _ (by omega),sl_ext arr _ _ (by omega),←sl_app arr (by omega) (by omega)] at F
    have hzl:z.toList.length=sb+r-(sa+k):=by rw [F.perm.length_eq,sl_len (by omega)]
    have ea':arrOf st'=arr:=S.arr
    refine h _ (S.kind.trans hk) (S.failed.trans hfl) ?_ ?_ ?_ S.pend
    · show (spl (arrOf st') (sa+k) z.toList).Perm arr
      rw [ea']
      exact spl_perm (by omega) (by omega) F.perm
    · show Seg (spl (arrOf st') (sa+k) z.toList) sa (sb+nb)
      rw [ea',seg_iff (by rw [spl_size (by omega)];omega),spl_sl (e:=sb+r) (by omega) (by omega) (by omega) hz hzl]
      have zm:∀y∈z.toList,∃j,sa+k≤j∧j<sb+r∧nm y=K arr j:=fun y hy=>mem_sl (by omega) (F.perm.mem_iff.mp hy)
      have P1:=(seg_iff (a:=arr) (lo:=sa) (hi:=sa+k) (by omega)).mp fun i j p q r=>s1 i j p q (by omega)
      have P3:=(seg_iff (a:=arr) (lo:=sb+r) (hi:=sb+nb) (by omega)).mp fun i j p q r=>s2 i j (by omega) q r
      refine List.pairwise_append.mpr ⟨List.pairwise_append.mpr ⟨P1,F.so,fun x hx y hy=>?_⟩,P3,fun x hx y hy=>?_⟩
      · obtain ⟨i,i1,i2,ei⟩:=mem_sl (by omega) hx
        obtain ⟨j,j1,j2,ej⟩:=zm y hy
        rw [ei,ej]
        by_cases c2:j<sb
        · exact s1 i j i1 (by omega) (by omega)
        · exact Int.le_trans (k2' i i1 i2) (s2 sb j (Nat.le_refl _) (by omega) (by omega))
      · obtain ⟨j,j1,j2,ej⟩:=mem_sl hz hy
        rcases List.mem_append.mp hx with hx | hx
        · obtain ⟨i,i1,i2,ei⟩:=mem_sl (by omega) hx
          rw [ei,ej]
          exact Int.le_trans (k2' i i1 i2) (s2 sb j (Nat.le_refl _) (by omega) (by omega))
        · obtain ⟨i,i1,i2,ei⟩:=zm x hx
          rw [ei,ej]
          by_cases c2:i<sb
          · exact Int.le_trans (s1 i (sb-1) (by omega) (by omega) (by omega)) (q3' j (by omega) (by omega))
          · exact s2 i j (by omega) (by omega) (by omega)
    · intro m hm
      show (spl (arrOf st') (sa+k) z.toList)[m]?=arr[m]?
      rw [ea']
      exact spl_get (by omega) (by omega)
  by_cases c4:na-k≤r
  · rw [if_pos c4]
    refine wpS_bind (wpS_mergeLo hk (ext_int (by omega) hI) (ext_int (by omega) hI) (ext_seg (by omega) s1 (by omega) (by omega)) (ext_seg (by omega) s2 (by omega) (by omega)) x0 y0 hf hl fun z st' S F=>?_)
    refine wpS_bind (wpS_modify (wpS_bind (wpS_get (wpS_pure ?_))))
    have e1:failedOf st'=none:=S.failed.trans hfl
    have e2:(failedOf st').isNone=true:=by rw [e1];rfl
    show Q (failedOf st').isNone _
    rw [e2]
    exact fin z st' S F
  · rw [if_neg c4]
    refine wpS_bind (wpS_mergeHi hk (ext_int (by omega) hI) (ext_int (by omega) hI) (ext_seg (by omega) s1 (by omega) (by omega)) (ext_seg (by omega) s2 (by omega) (by omega)) x0 y0 hf hl fun z st' S F=>?_)
    refine wpS_bind (wpS_modify (wpS_bind (wpS_get (wpS_pure ?_))))
    have e1:failedOf st'=none:=S.failed.trans hfl
    have e2:(failedOf st').isNone=true:=by rw [e1];rfl
    show Q (failedOf st').isNone _
    rw [e2]
    exact fin z st' S F
end
end L2
namespace L2
open PySem PyProof.Rows
structure Kp (lo:Nat) (st st':SortSt):Prop where
  perm:(arrOf st').Perm (arrOf st)
  pre:∀m,m<lo→(arrOf st')[m]?=(arrOf st)[m]?
  kind:kindOf st'=kindOf st
  pend:pendingOf st'=pendingOf st
  failed:failedOf st'=failedOf st
theorem Kp.refl (lo:Nat) (st:SortSt):Kp lo st st:=⟨Array.Perm.refl _,fun _ _=>rfl,rfl,rfl,rfl⟩
theorem Kp.size {lo:Nat} {st st':SortSt} (h:Kp lo st st'):(arrOf st').size=(arrOf st).size:=h.perm.size_eq
theorem perm_int {a b:Array Keyed} (h:a.Perm b) (hI:IntKeys b):IntKeys a:=fun p hp=>hI p ((Array.perm_iff_toList_perm.mp h).mem_iff.mp hp)
theorem Kp.int {lo:Nat} {st st':SortSt} (h:Kp lo st st') (hI:IntKeys (arrOf st)):IntKeys (arrOf st'):=perm_int h.perm hI
theorem Kp.rev {lo i j d:Nat} {st st':SortSt} (h:Kp lo st st') (hi:lo≤i) (hj:j≤(arrOf st').size) (hd:d=(j-i)/2):Kp lo st (setArr st' (mirror (arrOf st') i j d)):=by
  subst hd
  refine ⟨(mirror_perm _ _ _ _).trans h.perm,fun m hm=>?_,h.kind,h.pend,h.failed⟩
  show (mirror (arrOf st') i j ((j-i)/2))[m]?=_
  rw [getElem?_mirror_all hj,if_neg (by omega)]
  exact h.pre m hm
theorem Kp.bub {lo src d:Nat} {st st':SortSt} (h:Kp lo st st') (hs:src<(arrOf st').size) (hd:d≤src) (hl:lo≤src-d):Kp lo st (setArr st' (bubble (arrOf st') src d)):=by
  refine ⟨(bubble_perm _ _ _).trans h.perm,fun m hm=>?_,h.kind,h.pend,h.failed⟩
  show (bubble (arrOf st') src d)[m]?=_
  rw [getElem?_bubble hs d hd,if_neg (by omega),if_neg (by omega)]
  exact h.pre m hm
section
variable {prog:Program} {w:World} {A:Around} {E:Value→Shared→Prop} {s:Shared}
theorem wpS_ltI {st:SortSt} {i j:Nat} {Q:Option Bool→SortSt→Prop} (hk:kindOf st=oneType') (hI:IntKeys (arrOf st)) (hi:i<(arrOf st).size) (hj:j<(arrOf st).size) (h:Q (some (decide (K (arrOf st) i<K (arrOf st) j))) st):wpS (model prog w) A E s (ltAt' i j) Q st:=by
  rw [ltAt'_eq]
  refine wpS_bind (wpS_get (wpS_bind (wpS_elemN hi (wpS_bind (wpS_elemN hj (wpS_ltN hk (isI_at hI hi) (isI_at hI hj) ?_))))))
  rw [nm_at,nm_at]
  exact h
theorem seg_adj {a:Array Keyed} {lo hi:Nat} (h:∀i,lo≤i→i+1<hi→K a i≤K a (i+1)):Seg a lo hi:=fun i j p q r=>by
  obtain ⟨d,rfl⟩:∃d,j=i+d:=⟨j-i,by omega⟩
  clear q
  induction d with
  | zero=>exact Int.le_refl _
  | succ d ih=>exact Int.le_trans (ih (by omega)) (h (i+d) (by omega) (by omega))
theorem seg_put {a:Array Keyed} {lo k l:Nat} (hs:Seg a lo (lo+k)) (hz:lo+k<a.size) (hl:l≤k) (h1:∀i,i<l→K a (lo+i)≤K a (lo+k)) (h2:∀i,l≤i→i<k→K a (lo+k)≤K a (lo+i)):Seg (bubble a (lo+k) (lo+k-(lo+l))) lo (lo+(k+1)):=by
  have v:∀i,K (bubble a (lo+k) (lo+k-(lo+l))) (lo+i)=if i<l then K a (lo+i) else if i=l then K a (lo+k) else if i≤k then K a (lo+(i-1)) else K a (lo+i):=fun i=>by
    rw [K_bubble hz (by omega),show lo+k-(lo+k-(lo+l))=lo+l by omega]
    by_cases c1:i<l
    · rw [if_neg (by omega),if_neg (by omega),if_pos c1]
    · by_cases c2:i=l
      · rw [if_pos (by omega),if_neg c1,if_pos c2]
      · by_cases c3:i≤k
        · rw [if_neg (by omega),if_pos (by omega),if_neg c1,if_neg c2,if_pos c3,show lo+i-1=lo+(i-1) by omega]
        · rw [if_neg (by omega),if_neg (by omega),if_neg c1,if_neg c2,if_neg c3]
  refine seg_adj fun n p q=>?_
  obtain ⟨i,rfl⟩:∃i,n=lo+i:=⟨n-lo,by omega⟩
  rw [Nat.add_assoc,v,v]
  rcases Nat.lt_trichotomy (i+1) l with c | c | c
  · rw [if_pos (show i<l by omega),if_pos c]
    exact hs _ _ (by omega) (by omega) (by omega)
  · rw [if_pos (show i<l by omega),if_neg (show ¬i+1<l by omega),if_pos c]
    exact h1 i (by omega)
  · rw [if_neg (show ¬i<l by omega),if_neg (show ¬i+1<l by omega),if_neg (show ¬i+1=l by omega),if_pos (show i+1≤k by omega),Nat.add_sub_cancel]
    by_cases c2:i=l
    · rw [if_pos c2]
      exact h2 i (by omega) (by omega)
    · rw [if_neg c2,if_pos (show i≤k by omega)]
      exact hs _ _ (by omega) (by omega) (by omega)
theorem wpS_find {α:Type} {st:SortSt} {k:Nat} {p:Nat→Bool} {f:Nat→Option α×Nat×Nat→StateT SortSt Sem (ForInStep (Option α×Nat×Nat))} {Q:Option α×Nat×Nat→SortSt→Prop} (hp:∀i j,i≤j→j<k→p i=true→p j=true)
    (hf:∀x l r (R:ForInStep (Option α×Nat×Nat)→SortSt→Prop),r≤k→(r≤l→R (.done (none,l,r)) st)→(l<r→R (.yield (if p ((l+r)/2)=true then (none,l,(l+r)/2) else (none,(l+r)/2+1,r))) st)→wpS (model prog w) A E s (f x (none,l,r)) R st)
    (h:∀l r,l≤k→(∀i,i<l→p i=false)→(∀i,l≤i→i<k→p i=true)→Q (none,l,r) st):wpS (model prog w) A E s (forIn [0:k] ((none,0,k):Option α×Nat×Nat) f) Q st:=by
  refine wpS_forRange (I:=fun x c st2=>st2=st∧∃l r,c=(none,l,r)∧l≤r∧r≤k∧r+x≤k+l∧(∀i,i<l→p i=false)∧∀i,r≤i→i<k→p i=true) ?_ ?_ ⟨rfl,0,k,rfl,by omega,by omega,by omega,(fun i z=>by omega),(fun i y z=>by omega)⟩
  · rintro x c st2 _ _ ⟨rfl,l,r,rfl,a1,a2,a3,a4,a5⟩
    refine hf x l r _ a2 (fun z=>h l r (by omega) a4 fun i y=>a5 i (by omega)) fun z=>?_
    cases c:p ((l+r)/2) with
    | true=>exact ⟨rfl,_,_,rfl,by omega,by omega,by omega,a4,fun i y y2=>hp _ i y y2 c⟩
    | false =>
      refine ⟨rfl,_,_,rfl,by omega,a2,by omega,fun i y=>?_,a5⟩
      cases d:p i with
      | false=>rfl
      | true=>exact ((c.symm.trans (hp i _ (by omega) (by omega) d))).symm
  · rintro c st2 ⟨rfl,l,r,rfl,a1,a2,a3,a4,a5⟩
    exact h l r (by omega) a4 fun i y=>a5 i (by omega)
set_option maxHeartbeats 1000000 in
theorem wpS_bsort {st:SortSt} {lo n ok:Nat} {Q:Bool→SortSt→Prop} (hk:kindOf st=oneType') (hI:IntKeys (arrOf st)) (hn:lo+n≤(arrOf st).size) (hok:ok≤n) (hs:Seg (arrOf st) lo (lo+ok))
    (h:∀st',Kp lo st st'→Seg (arrOf st') lo (lo+n)→Q true st'):wpS (model prog w) A E s (binarySort' lo n ok) Q st:=by
  have one:∀a:Array Keyed,Seg a lo (lo+1):=fun a=>seg_adj fun i p q=>by omega
  rw [binarySort'_eq]
  refine wpS_bind (wpS_mono (wpS_forRange (I:=fun k c st1=>c=(none,())∧Kp lo st st1∧(k≤n→Seg (arrOf st1) lo (lo+k))∧(n≤k→Seg (arrOf st1) lo (lo+n))) (Q:=fun c st1=>c=(none,())∧Kp lo st st1∧Seg (arrOf st1) lo (lo+n)) ?_ ?_ ?_) ?_)
  · rintro k c st1 b1 b2 ⟨rfl,B,S,_⟩
    have z1:=B.size
    have S1:=S (by omega)
    refine wpS_bind (wpS_find (p:=fun i=>decide (K (arrOf st1) (lo+k)<K (arrOf st1) (lo+i))) (fun i j p q y=>decide_eq_true (Int.lt_of_lt_of_le (of_decide_eq_true y) (S1 _ _ (by omega) (by omega) (by omega)))) (fun x l r R r1 R1 R2=>?_) fun l r l1 d1 d2=>?_)
    · dsimp only
      by_cases c:r≤l
      · rw [if_pos c]
        exact wpS_pure (R1 c)
      · rw [if_neg c]
        refine wpS_bind (wpS_ltI (B.kind.trans hk) (B.int hI) (by omega) (by omega) ?_)
        have R3:=R2 (by omega)
        dsimp only at R3 ⊢
        cases e:decide (K (arrOf st1) (lo+k)<K (arrOf st1) (lo+(l+r)/2)) with
        | true=>rw [e] at R3;exact wpS_pure R3
        | false=>rw [e] at R3;exact wpS_pure R3
    · show wpS _ _ _ _ (do moveDown' (lo+k) (lo+l);pure (ForInStep.yield (none,()))) _ _
      rw [moveDown'_eq]
      have P:=seg_put S1 (by omega) l1 (fun i y=>Int.not_lt.mp (of_decide_eq_false (d1 i y))) fun i y y2=>Int.le_of_lt (of_decide_eq_true (d2 i y y2))
      refine wpS_bind (wpS_modify (wpS_pure ⟨rfl,B.bub (by omega) (by omega) (by omega),fun _=>P,fun y=>?_⟩))
      rw [show n=k+1 by omega];exact P
  · rintro c st1 ⟨rfl,B,_,S⟩
    exact ⟨rfl,B,S (by omega)⟩
  · refine ⟨rfl,Kp.refl _ _,fun y=>?_,fun y=>?_⟩
    · by_cases c:ok=0
      · subst c;exact one _
      · rw [show max ok 1=ok by omega];exact hs
    · by_cases c:ok=0
      · exact seg_adj fun i p q=>by omega
      · rw [show n=ok by omega];exact hs
  · rintro c st1 ⟨rfl,B,S⟩
    exact wpS_pure (h st1 B S)
end
end L2
namespace L2
open PySem PyProof.Rows
def Up (a:Array Keyed) (lo hi:Nat):Prop:=∀i,lo≤i→i+1<hi→K a i≤K a (i+1)
def Dn (a:Array Keyed) (lo hi:Nat):Prop:=∀i,lo≤i→i+1<hi→K a (i+1)≤K a i
def Fl (a:Array Keyed) (lo hi:Nat):Prop:=∀i,lo≤i→i+1<hi→K a i=K a (i+1)
theorem Up.more {a:Array Keyed} {lo hi:Nat} (h:Up a lo hi) (e:K a (hi-1)≤K a hi):Up a lo (hi+1):=fun i p q=>by
  by_cases c:i+1<hi
  · exact h i p c
  · rw [show i=hi-1 by omega,show hi-1+1=hi by omega];exact e
theorem Dn.more {a b:Array Keyed} {lo hi:Nat} (h:Dn a lo hi) (hb:∀i,K b i=K a i) (e:K a hi≤K a (hi-1)):Dn b lo (hi+1):=fun i p q=>by
  rw [hb,hb]
  by_cases c:i+1<hi
  · exact h i p c
  · rw [show i=hi-1 by omega,show hi-1+1=hi by omega];exact e
theorem Fl.more {a:Array Keyed} {lo hi:Nat} (h:Fl a lo hi) (e:K a (hi-1)=K a hi):Fl a lo (hi+1):=fun i p q=>by
  by_cases c:i+1<hi
  · exact h i p c
  · rw [show i=hi-1 by omega,show hi-1+1=hi by omega];exact e
theorem Fl.last {a:Array Keyed} {lo hi:Nat} (h:Fl a lo hi):∀d i,lo≤i→i+d+1=hi→K a i=K a (hi-1)
  | 0,i,p,q=>by rw [show hi-1=i by omega]
  | d+1,i,p,q=>(h i p (by omega)).trans (Fl.last h d (i+1) (by omega) (by omega))
theorem Fl.mir {a:Array Keyed} {lo hi:Nat} (h:Fl a lo hi) (hz:hi≤a.size) (k:Nat):K (mirror a lo hi ((hi-lo)/2)) k=K a k:=K_mirror_equal hz (fun i p q=>h.last (hi-1-i) i p (by omega)) k
theorem Up.flat {a:Array Keyed} {lo hi:Nat} (h:Up a lo hi) (e:K a (hi-1)≤K a lo):Fl a lo hi:=fun i p q=>by
  have S:=seg_adj h
  have e1:=S lo i (Nat.le_refl _) p (by omega)
  have e2:=h i p q
  have e3:=S (i+1) (hi-1) (by omega) (by omega) (by omega)
  omega
theorem Dn.mir {a:Array Keyed} {lo hi:Nat} (h:Dn a lo hi) (hz:hi≤a.size):Up (mirror a lo hi ((hi-lo)/2)) lo hi:=fun i p q=>by
  have:=h (lo+hi-1-(i+1)) (by omega) (by omega)
  rw [K_mirror hz,K_mirror hz,if_pos ⟨p,by omega⟩,if_pos ⟨by omega,q⟩]
  rwa [show lo+hi-1-(i+1)+1=lo+hi-1-i by omega] at this
section
variable {prog:Program} {w:World} {A:Around} {E:Value→Shared→Prop} {s:Shared}
theorem wpS_rv {st:SortSt} {i j:Nat} {Q:Unit→SortSt→Prop} (h:Q () (setArr st (mirror (arrOf st) i j ((j-i)/2)))):wpS (model prog w) A E s (reverseSlice' i j) Q st:=wpS_reverse h
theorem wpS_asc {st:SortSt} {lo a nrem:Nat} {f:Nat→Option (Option Nat)×Nat→StateT SortSt Sem (ForInStep (Option (Option Nat)×Nat))} {Q:Option (Option Nat)×Nat→SortSt→Prop}
    (hf:∀x n (R:ForInStep (Option (Option Nat)×Nat)→SortSt→Prop),1≤n→n<nrem→(K (arrOf st) (lo+n)<K (arrOf st) (lo+n-1)→R (.done (none,n)) st)→(K (arrOf st) (lo+n-1)≤K (arrOf st) (lo+n)→R (.yield (none,n+1)) st)→wpS (model prog w) A E s (f x (none,n)) R st)
    (ha:1≤a) (han:a≤nrem) (hs:Up (arrOf st) lo (lo+a)) (h:∀n,a≤n→n≤nrem→Up (arrOf st) lo (lo+n)→(n<nrem→K (arrOf st) (lo+n)<K (arrOf st) (lo+n-1))→Q (none,n) st) :
    wpS (model prog w) A E s (forIn [a:nrem] ((none,a):Option (Option Nat)×Nat) f) Q st:=by
  refine wpS_forRange (I:=fun x c st'=>st'=st∧c=(none,x)∧Up (arrOf st) lo (lo+x)) ?_ ?_ ⟨rfl,rfl,hs⟩
  · rintro x c st' hx hxn ⟨rfl,rfl,u⟩
    exact hf x x _ (by omega) hxn (fun z=>h x hx (by omega) u fun _=>z) fun z=>⟨rfl,rfl,u.more z⟩
  · rintro c st' ⟨rfl,rfl,u⟩
    rw [show max a nrem=nrem by omega] at u ⊢
    exact h nrem han (Nat.le_refl _) u fun z=>by omega
theorem wpS_cmp {st:SortSt} {i j:Nat} {Q:Option Bool→SortSt→Prop} (hk:kindOf st=oneType') (hI:IntKeys (arrOf st)) (hi:i<(arrOf st).size) (hj:j<(arrOf st).size) (h1:K (arrOf st) i<K (arrOf st) j→Q (some true) st) (h2:K (arrOf st) j≤K (arrOf st) i→Q (some false) st):wpS (model prog w) A E s (ltAt' i j) Q st:=wpS_ltI hk hI hi hj (by
  by_cases c:K (arrOf st) i<K (arrOf st) j
  · rw [decide_eq_true c];exact h1 c
  · rw [decide_eq_false c];exact h2 (Int.not_lt.mp c))
set_option maxHeartbeats 2000000 in
theorem wpS_run {st:SortSt} {lo nrem:Nat} {Q:Option Nat→SortSt→Prop} (hk:kindOf st=oneType') (hI:IntKeys (arrOf st)) (hn:lo+nrem≤(arrOf st).size) (h1:1≤nrem)
    (h:∀m st',Kp lo st st'→1≤m→m≤nrem→Seg (arrOf st') lo (lo+m)→Q (some m) st'):wpS (model prog w) A E s (countRun' lo nrem) Q st:=by
  rw [countRun'_eq]
  dsimp only
  refine wpS_bind (wpS_asc (lo:=lo) (fun x n R n1 n2 r1 r2=>wpS_bind (wpS_cmp hk hI (by omega) (by omega) (fun z=>wpS_pure (r1 z)) fun z=>wpS_pure (r2 z))) (Nat.le_refl 1) h1 (fun i p q=>by omega) fun n n1 n2 u hlt=>?_)
  dsimp only
  by_cases c1:n=nrem
  · rw [if_pos (by simpa using c1)]
    exact wpS_pure (h n st (Kp.refl _ _) n1 n2 (seg_adj u))
  rw [if_neg (by simpa using c1)]
  have less:=hlt (by omega)
  have hz:lo+n≤(arrOf st).size:=by omega
  by_cases c2:n>1
  case' pos =>
    rw [if_pos c2]
    refine wpS_bind (wpS_cmp hk hI (by omega) (by omega) (fun z=>wpS_pure (h n st (Kp.refl _ _) n1 n2 (seg_adj u))) fun z=>?_)
    dsimp only
    rw [if_neg (by decide)]
    have B:=(Kp.refl lo st).rev (Nat.le_refl _) hz rfl
    have fl:=u.flat z
    have D:Dn (arrOf (setArr st (mirror (arrOf st) lo (lo+n) ((lo+n-lo)/2)))) lo (lo+n+1):=Dn.more (a:=arrOf st) (fun i p q=>Int.le_of_eq (fl i p q).symm) (fl.mir hz) (Int.le_of_lt less)
    refine wpS_bind (wpS_rv ?_)
    generalize setArr st (mirror (arrOf st) lo (lo+n) ((lo+n-lo)/2))=st1 at B D
  case' neg =>
    rw [if_neg c2]
    have B:=Kp.refl lo st
    have D:Dn (arrOf st) lo (lo+n+1):=Dn.more (fun i p q=>by omega) (fun _=>rfl) (Int.le_of_lt less)
  all_goals
    refine wpS_bind (wpS_lift (wpAny_rule ⟨rfl,?_⟩))
    refine wpS_bind (wpS_mono (wpS_forRange (I:=fun x c st2=>∃q,c=(none,x,q)∧q<x∧Kp lo st st2∧Dn (arrOf st2) lo (lo+x)∧Fl (arrOf st2) (lo+x-(q+1)) (lo+x))
      (Q:=fun c st2=>∃x q,c=(none,x,q)∧1≤x∧x≤nrem∧q<x∧Kp lo st st2∧Dn (arrOf st2) lo (lo+x)∧Fl (arrOf st2) (lo+x-(q+1)) (lo+x)) ?_ ?_ ?_) ?_)
    · rintro x c st2 b1 b2 ⟨q,rfl,hq,B2,D2,F2⟩
      have z2:=B2.size
      dsimp only
      refine wpS_bind (wpS_cmp (B2.kind.trans hk) (B2.int hI) (by omega) (by omega) (fun z=>?_) fun z=>?_)
      · dsimp only
        rw [if_pos rfl]
        by_cases c3:q>0
        · rw [if_pos c3]
          exact wpS_bind (wpS_rv (wpS_pure ⟨0,rfl,by omega,B2.rev (by omega) (by omega) rfl,D2.more (F2.mir (by omega)) (Int.le_of_lt z),fun i p y=>by omega⟩))
        · rw [if_neg c3]
          exact wpS_pure ⟨0,rfl,by omega,B2,D2.more (fun _=>rfl) (Int.le_of_lt z),fun i p y=>by omega⟩
      · dsimp only
        rw [if_neg (by decide)]
        refine wpS_bind (wpS_cmp (B2.kind.trans hk) (B2.int hI) (by omega) (by omega) (fun y=>wpS_pure ⟨x,q,rfl,by omega,by omega,hq,B2,D2,F2⟩) fun y=>?_)
        have e:=Int.le_antisymm z y
        refine wpS_pure ⟨q+1,rfl,by omega,B2,D2.more (fun _=>rfl) y,?_⟩
        rw [show lo+(x+1)-(q+1+1)=lo+x-(q+1) by omega]
        exact F2.more e
    · rintro c st2 ⟨q,rfl,hq,B2,D2,F2⟩
      rw [show max (n+1) nrem=nrem by omega] at *
      exact ⟨nrem,q,rfl,h1,Nat.le_refl _,hq,B2,D2,F2⟩
    · exact ⟨0,rfl,by omega,B,D,fun i p y=>by omega⟩
    rintro c st2 ⟨x,q,rfl,x1,x2,hq,B2,D2,F2⟩
    have z2:=B2.size
    dsimp only
    by_cases c3:q>0
    case' pos =>
      rw [if_pos c3]
      have B3:=B2.rev (i:=lo+x-(q+1)) (j:=lo+x) (by omega) (by omega) rfl
      have D3:Dn (arrOf (setArr st2 (mirror (arrOf st2) (lo+x-(q+1)) (lo+x) ((lo+x-(lo+x-(q+1)))/2)))) lo (lo+x):=fun i p y=>by
        have m:=F2.mir (show lo+x≤(arrOf st2).size by omega)
        exact Int.le_trans (Int.le_of_eq (m (i+1))) (Int.le_trans (D2 i p y) (Int.le_of_eq (m i).symm))
      refine wpS_bind (wpS_rv ?_)
      generalize setArr st2 (mirror (arrOf st2) (lo+x-(q+1)) (lo+x) ((lo+x-(lo+x-(q+1)))/2))=st3 at B3 D3
    case' neg =>
      rw [if_neg c3]
      obtain ⟨st3,e3⟩:∃st3,st3=st2:=⟨_,rfl⟩
      have B3:=B2
      have D3:=D2
      rw [←e3] at B3 D3 ⊢
    all_goals
      have z3:=B3.size
      have B4:=B3.rev (i:=lo) (j:=lo+x) (Nat.le_refl _) (by omega) rfl
      have U4:Up (arrOf (setArr st3 (mirror (arrOf st3) lo (lo+x) ((lo+x-lo)/2)))) lo (lo+x):=D3.mir (by omega)
      refine wpS_bind (wpS_rv ?_)
      generalize setArr st3 (mirror (arrOf st3) lo (lo+x) ((lo+x-lo)/2))=st4 at B4 U4 ⊢
      have z4:=B4.size
      exact wpS_bind (wpS_asc (lo:=lo) (fun y m R m1 m2 r1 r2=>wpS_bind (wpS_cmp (B4.kind.trans hk) (B4.int hI) (by omega) (by omega) (fun z=>wpS_pure (r1 z)) fun z=>wpS_pure (r2 z))) x1 x2 U4 fun m m1 m2 um _=>wpS_pure (h m _ B4 (by omega) m2 (seg_adj um)))
end
end L2
namespace L2
open PySem PyProof.Rows
def PCh (a:Array Keyed):Nat→List (Nat×Nat×Nat)→Nat→Prop
  | lo,[],hi=>lo=hi
  | lo,x::r,hi=>x.1=lo∧1≤x.2.1∧Seg a lo (lo+x.2.1)∧PCh a (lo+x.2.1) r hi
theorem PCh.app {a:Array Keyed}:∀{L R:List (Nat×Nat×Nat)} {lo hi:Nat},PCh a lo (L++R) hi↔∃mid,PCh a lo L mid∧PCh a mid R hi
  | [],R,lo,hi=>⟨fun h=>⟨lo,rfl,h⟩,fun ⟨mid,h1,h2⟩=>by
      have e:lo=mid:=h1
      rw [e];exact h2⟩
  | x::L,R,lo,hi=>by
    constructor
    · rintro ⟨h1,h2,h3,h4⟩
      obtain ⟨mid,h5,h6⟩:=(PCh.app (L:=L)).mp h4
      exact ⟨mid,⟨h1,h2,h3,h5⟩,h6⟩
    · rintro ⟨mid,⟨h1,h2,h3,h5⟩,h6⟩
      exact ⟨h1,h2,h3,(PCh.app (L:=L)).mpr ⟨mid,h5,h6⟩⟩
theorem PCh.len {a:Array Keyed}:∀{L:List (Nat×Nat×Nat)} {lo hi:Nat},PCh a lo L hi→lo+L.length≤hi
  | [],lo,hi,h=>Nat.le_of_eq h
  | x::L,lo,hi,⟨h1,h2,h3,h4⟩=>by
    have:=PCh.len h4
    rw [List.length_cons];omega
theorem PCh.cg {a b:Array Keyed}:∀{L:List (Nat×Nat×Nat)} {lo hi:Nat},(∀m,lo≤m→m<hi→b[m]?=a[m]?)→PCh a lo L hi→PCh b lo L hi
  | [],lo,hi,_,h=>h
  | x::L,lo,hi,e,⟨h1,h2,h3,h4⟩=>by
    have hl:=PCh.len h4
    refine ⟨h1,h2,fun i j p q r=>?_,PCh.cg (fun m p q=>e m (by omega) q) h4⟩
    rw [K_congr (e i p (by omega)),K_congr (e j (by omega) (by omega))]
    exact h3 i j p q r
theorem PCh.mod {a:Array Keyed} {g:Nat×Nat×Nat→Nat×Nat×Nat} (hg:∀x,(g x).1=x.1∧(g x).2.1=x.2.1):∀{L:List (Nat×Nat×Nat)} {lo hi:Nat} (k:Nat),PCh a lo L hi→PCh a lo (L.modify k g) hi
  | [],lo,hi,k,h=>by rw [List.modify_nil];exact h
  | x::L,lo,hi,0,⟨h1,h2,h3,h4⟩=>by
    rw [List.modify_zero_cons]
    refine ⟨(hg x).1.trans h1,?_,?_,?_⟩
    · rw [(hg x).2];exact h2
    · rw [(hg x).2];exact h3
    · rw [(hg x).2];exact h4
  | x::L,lo,hi,k+1,⟨h1,h2,h3,h4⟩=>by
    rw [List.modify_succ_cons]
    exact ⟨h1,h2,h3,PCh.mod hg k h4⟩
structure SI (a₀:Array Keyed) (st:SortSt) (hi:Nat):Prop where
  perm:(arrOf st).Perm a₀
  kind:kindOf st=oneType'
  failed:failedOf st=none
  pc:PCh (arrOf st) 0 (pendingOf st).toList hi
section
variable {prog:Program} {w:World} {A:Around} {E:Value→Shared→Prop} {s:Shared} {a₀:Array Keyed}
theorem wpS_mrg {st:SortSt} {i hi:Nat} {Q:Bool→SortSt→Prop} (h0:IntKeys a₀) (I:SI a₀ st hi) (hh:hi≤a₀.size) (hi2:i+1<(pendingOf st).size)
    (h:∀st',SI a₀ st' hi→(∀m,hi≤m→(arrOf st')[m]?=(arrOf st)[m]?)→(pendingOf st').size+1=(pendingOf st).size→Q true st'):wpS (model prog w) A E s (mergeAt' i) Q st:=by
  have hz:=I.perm.size_eq
  obtain ⟨L,eL⟩:∃L,L=(pendingOf st).toList:=⟨_,rfl⟩
  have hLl:L.length=(pendingOf st).size:=by rw [eL];simp
  have pc:=I.pc
  rw [←eL] at pc
  have eP:L=L.take i++L[i]'(by omega)::L[i+1]'(by omega)::L.drop (i+2):=by
    rw [←List.drop_eq_getElem_cons (show i+1<L.length by omega),←List.drop_eq_getElem_cons (show i<L.length by omega),List.take_append_drop]
  obtain ⟨P,eP1⟩:∃P,P=L.take i:=⟨_,rfl⟩
  obtain ⟨R,eR⟩:∃R,R=L.drop (i+2):=⟨_,rfl⟩
  obtain ⟨⟨sa,na,pw⟩,ex⟩:∃x,x=L[i]'(by omega):=⟨_,rfl⟩
  obtain ⟨⟨sb,nb,pw2⟩,ey⟩:∃y,y=L[i+1]'(by omega):=⟨_,rfl⟩
  have hPl:P.length=i:=by rw [eP1,List.length_take];omega
  have p1:(pendingOf st)[i]?=some (sa,na,pw):=by rw [←Array.getElem?_toList,←eL,ex];exact List.getElem?_eq_getElem _
  have p2:(pendingOf st)[i+1]?=some (sb,nb,pw2):=by rw [←Array.getElem?_toList,←eL,ey];exact List.getElem?_eq_getElem _
  rw [←eP1,←eR,←ex,←ey] at eP
  rw [eP] at pc
  obtain ⟨mid,pcP,e1,n1,s1,e2,n2,s2,pcR⟩:=PCh.app.mp pc
  dsimp only at e1 n1 s1 e2 n2 s2 pcR
  subst e1
  subst e2
  have lR:=pcR.len
  refine wpS_mergeAt I.kind I.failed (perm_int I.perm h0) p1 p2 rfl n1 n2 (by omega) s1 s2 fun st' k1 k2 k3 k4 k5 k6=>h st' ⟨k3.trans I.perm,k1,k2,?_⟩ (fun m hm=>k5 m (.inr (by omega))) ?_
  · rw [k6,Array.toList_eraseIdxIfInBounds,Array.toList_setIfInBounds,←eL,eP,List.set_append_right _ _ (by omega),hPl,Nat.sub_self,List.set_cons_zero,List.eraseIdx_append_of_length_le (by omega),hPl,Nat.add_sub_cancel_left]
    show PCh (arrOf st') 0 (P++(sa,na+nb,pw)::R) hi
    refine PCh.app.mpr ⟨sa,PCh.cg (fun m _ q=>k5 m (.inl q)) pcP,rfl,(by show 1≤na+nb;omega),?_,?_⟩
    · show Seg (arrOf st') sa (sa+(na+nb))
      rw [←Nat.add_assoc];exact k4
    · show PCh (arrOf st') (sa+(na+nb)) R hi
      rw [←Nat.add_assoc]
      exact PCh.cg (fun m p _=>k5 m (.inr p)) pcR
  · rw [k6,←Array.length_toList,Array.toList_eraseIdxIfInBounds,Array.toList_setIfInBounds,List.length_eraseIdx,List.length_set,←eL,if_pos (by omega)]
    omega
end
end L2
namespace L2
open PySem PyProof.Rows
theorem SI.mod {a₀:Array Keyed} {st:SortSt} {hi:Nat} (I:SI a₀ st hi) {g:Nat×Nat×Nat→Nat×Nat×Nat} (hg:∀x,(g x).1=x.1∧(g x).2.1=x.2.1) (k:Nat):SI a₀ (setPending st ((pendingOf st).modify k g)) hi:=by
  refine ⟨I.perm,I.kind,I.failed,?_⟩
  show PCh (arrOf st) 0 ((pendingOf st).modify k g).toList hi
  rw [Array.toList_modify]
  exact I.pc.mod hg k
theorem SI.push {a₀:Array Keyed} {st:SortSt} {hi n:Nat} (I:SI a₀ st hi) (hn:1≤n) (hs:Seg (arrOf st) hi (hi+n)):SI a₀ (setPending st ((pendingOf st).push (hi,n,0))) (hi+n):=by
  refine ⟨I.perm,I.kind,I.failed,?_⟩
  show PCh (arrOf st) 0 ((pendingOf st).push (hi,n,0)).toList (hi+n)
  rw [Array.toList_push]
  exact PCh.app.mpr ⟨hi,I.pc,rfl,hn,hs,rfl⟩
theorem SI.kp {a₀:Array Keyed} {st st':SortSt} {hi:Nat} (I:SI a₀ st hi) (h:Kp hi st st'):SI a₀ st' hi :=
  ⟨h.perm.trans I.perm,h.kind.trans I.kind,h.failed.trans I.failed,by rw [h.pend];exact I.pc.cg fun m _ q=>h.pre m q⟩
theorem seg_cg {a b:Array Keyed} {lo hi:Nat} (e:∀m,lo≤m→b[m]?=a[m]?) (h:Seg a lo hi):Seg b lo hi:=fun i j p q r=>by
  rw [K_congr (e i p),K_congr (e j (by omega))];exact h i j p q r
section
variable {prog:Program} {w:World} {A:Around} {E:Value→Shared→Prop} {s:Shared} {a₀:Array Keyed}
set_option maxHeartbeats 2000000 in
theorem wpS_runs {st:SortSt} {Q:Unit→SortSt→Prop} (h0:IntKeys a₀) (hB:SBase a₀ st) (h2:2≤a₀.size)
    (h:∀st',(arrOf st').Perm a₀→failedOf st'=none→SortedTo (arrOf st') a₀.size→Q () st'):wpS (model prog w) A E s sortRuns' Q st:=by
  rw [sortRuns'_eq]
  refine wpS_bind (wpS_get ?_)
  dsimp only
  simp only [hB.size]
  have I0:SI a₀ st 0:=⟨hB.perm,hB.kind,hB.failed,by rw [hB.pend];rfl⟩
  refine wpS_bind (wpS_mono (wpS_forRange (I:=fun x c st'=>∃lo,c=(none,lo)∧x≤lo∧lo≤a₀.size∧SI a₀ st' lo)
    (Q:=fun c st'=>c=(none,a₀.size)∧SI a₀ st' a₀.size) ?_ ?_ ⟨0,rfl,Nat.le_refl _,Nat.zero_le _,I0⟩) ?_)
  · rintro x c st' _ hx ⟨lo,rfl,l1,l2,I⟩
    have hz:=I.perm.size_eq
    dsimp only
    by_cases c1:lo≥a₀.size
    · rw [if_pos c1]
      have:lo=a₀.size:=by omega
      subst this
      exact wpS_pure ⟨rfl,I⟩
    rw [if_neg c1]
    refine wpS_bind (wpS_run I.kind (perm_int I.perm h0) (by omega) (by omega) fun n st1 k1 n1 n2 s1=>?_)
    have I1:=I.kp k1
    have hz1:=I1.perm.size_eq
    dsimp only
    generalize minRun' a₀.size a₀.size 0=mr
    by_cases c2:n<mr
    case' pos =>
      rw [if_pos c2]
      refine wpS_bind (wpS_lift (wpAny_rule ⟨rfl,?_⟩))
      refine wpS_bind (wpS_bsort I1.kind (perm_int I1.perm h0) (by omega) (by omega) s1 fun st2 k2 s2=>?_)
      have I2:=I1.kp k2
      have N1:1≤min (a₀.size-lo) mr:=by omega
      have N2:lo+min (a₀.size-lo) mr≤a₀.size:=by omega
      rw [if_neg (by decide)]
      generalize min (a₀.size-lo) mr=N at s2 N1 N2 ⊢
    case' neg =>
      rw [if_neg c2]
      obtain ⟨N,eN⟩:∃N,N=n:=⟨_,rfl⟩
      obtain ⟨st2,est⟩:∃st2,st2=st1:=⟨_,rfl⟩
      have I2:=I1
      have s2:=s1
      have N1:=n1
      have N2:lo+n≤a₀.size:=by omega
      rw [←est] at I2 s2 ⊢
      rw [←eN] at s2 N1 N2 ⊢
    all_goals
      refine wpS_bind (wpS_get ?_)
      split
      · refine wpS_bind (wpS_mono (wpS_forRange (I:=fun _ c st3=>c=(none,())∧SI a₀ st3 lo∧Seg (arrOf st3) lo (lo+N)) (Q:=fun c st3=>c=(none,())∧SI a₀ st3 lo∧Seg (arrOf st3) lo (lo+N)) ?_ ?_ ⟨rfl,I2,s2⟩) ?_)
        · rintro y c st3 _ _ ⟨rfl,I3,s3⟩
          refine wpS_bind (wpS_get ?_)
          by_cases cz:(pendingOf st3).size>1
          · rw [if_pos cz]
            split
            · split
              · exact wpS_pure ⟨rfl,I3,s3⟩
              · refine wpS_bind (wpS_mrg h0 I3 l2 (by omega) fun st4 I4 e4 z4=>?_)
                rw [if_neg (by decide)]
                exact wpS_pure ⟨rfl,I4,seg_cg e4 s3⟩
            · exact wpS_pure ⟨rfl,I3,s3⟩
          · rw [if_neg cz]
            exact wpS_pure ⟨rfl,I3,s3⟩
        · rintro c st3 hh
          exact hh
        · rintro c st3 ⟨rfl,I3,s3⟩
          dsimp only
          refine wpS_bind (wpS_modify (wpS_bind (wpS_modify (wpS_pure ⟨_,rfl,by omega,N2,?_⟩))))
          refine SI.push (SI.mod I3 ?_ _) N1 s3
          exact fun x=>⟨rfl,rfl⟩
      · exact wpS_bind (wpS_modify (wpS_pure ⟨_,rfl,by omega,N2,I2.push N1 s2⟩))
  · rintro c st' ⟨lo,rfl,l1,l2,I⟩
    have:lo=a₀.size:=by omega
    subst this
    exact ⟨rfl,I⟩
  · rintro c st' ⟨rfl,I⟩
    dsimp only
    have hpl:=I.pc.len
    rw [Array.length_toList] at hpl
    refine wpS_bind (wpS_mono (wpS_forRange (I:=fun x c st2=>c=(none,())∧SI a₀ st2 a₀.size∧((pendingOf st2).size≤1∨(pendingOf st2).size+x≤a₀.size)) (Q:=fun c st2=>c=(none,())∧SI a₀ st2 a₀.size∧(pendingOf st2).size≤1) ?_ ?_ ⟨rfl,I,by omega⟩) ?_)
    · rintro y c st2 _ hy ⟨rfl,I2,z2⟩
      refine wpS_bind (wpS_get ?_)
      by_cases c1:(pendingOf st2).size≤1
      · rw [if_pos c1]
        exact wpS_pure ⟨rfl,I2,c1⟩
      · rw [if_neg c1]
        refine wpS_bind (wpS_mrg h0 I2 (Nat.le_refl _) ?_ fun st4 I4 e4 z4=>?_)
        · have:∀(c:Prop) [Decidable c] (u v:Nat),u+1<(pendingOf st2).size→v+1<(pendingOf st2).size→(if c then u else v)+1<(pendingOf st2).size:=fun c _ u v h1 h2=>by split<;>assumption
          exact this _ _ _ (by omega) (by omega)
        · rw [if_neg (by decide)]
          exact wpS_pure ⟨rfl,I4,by omega⟩
    · rintro c st2 ⟨rfl,I2,z2⟩
      exact ⟨rfl,I2,by omega⟩
    · rintro c st2 ⟨rfl,I2,z2⟩
      refine wpS_pure (h st2 I2.perm I2.failed ?_)
      have pc:=I2.pc
      have hl:(pendingOf st2).toList.length≤1:=by rw [Array.length_toList];exact z2
      generalize (pendingOf st2).toList=L at pc hl
      match L,pc,hl with
      | [],pc,_ =>
        have:0=a₀.size:=pc
        omega
      | [x],⟨e1,e2,e3,e4⟩,_ =>
        have e5:0+x.2.1=a₀.size:=e4
        rw [e5] at e3
        exact fun i j p q=>e3 i j (Nat.zero_le _) p q
end
end L2
namespace L2
open PySem PySem.Spec PyProof.Rows
section
variable {prog:Program} {w:World} {A:Around} {E:Value→Shared→Prop} {s:Shared}
abbrev lstO (xs:Array Value) (n:Nat):Obj:={cls:=.type "list",data:=.seq xs n}
set_option maxHeartbeats 2000000 in
theorem sort_big {a:Addr} {vs:List Value} {ns:List Int} {n:Nat} {P:Fin→Shared→Prop} (ho:s.heap.get? a=some (lstO vs.toArray n)) (hI:IntsAre vs ns) (hm:2≤vs.length) (hM:vs.length≤900)
    (h:∀(h':Heap) (tk:_) (out:Array Value) (ns':List Int) (e:Nat),(∀b o,b≠a→s.heap.get? b=some o→h'.get? b=some o)→h'.get? a=some (lstO out e)→IntsAre out.toList ns'→ns'.Perm ns→ns'.Pairwise (·≤·)→P (.done (.ret .none)) {s with heap:=h',toks:=tk}):wpAny (model prog w) A (Builtin.«list.sort» ⟨[.ref a],[]⟩) P E s:=by
  obtain ⟨hp,gs,dn,tk,os⟩:=s
  have hz:vs.toArray.size≤sizeLine:=by rw [sizeLine_eq];simp;omega
  rw [list_sort_plain]
  obtain ⟨v₁,v₂,rest,e⟩:∃v₁ v₂ rest,vs=v₁::v₂::rest:=by
    rcases vs with _ | ⟨v₁,_ | ⟨v₂,rest⟩⟩
    · exact absurd hm (by simp)
    · exact absurd hm (by simp)
    · exact ⟨_,_,_,rfl⟩
  have hkind:keyKind' vs.toArray=pure oneType':=by subst e;exact keyKind_ints hI
  have hn2:¬vs.toArray.size<2:=by simp;omega
  have hn3:¬vs.toArray.toList.toArray.size>sizeLine:=by simpa using hz
  wp_walk
  rw [if_neg hn3]
  wp_walk
  rw [if_neg hn2]
  have hal:a<hp.objs.size:=Heap.lt_size ho
  obtain ⟨G,eG⟩:∃G,G=((hp.update a (Obj.mapSeq fun _=>(#[]:Array Value))).push {cls:=.type "tuple",data:=.seq vs.toArray.toList.toArray}).push {cls:=.type "list",data:=.seq #[]}:=⟨_,rfl⟩
  have gb:∀b o,b≠a→hp.get? b=some o→G.get? b=some o:=fun b o hb q=>by
    rw [eG]
    exact Heap.get?_push_of_some _ (Heap.get?_push_of_some _ (Heap.get?_update_of_ne _ hb.symm q))
  have ga:G.get? a=some (lstO #[] (if (#[]:Array Value).size==vs.toArray.size then n else n+1)):=by
    rw [eG]
    exact Heap.get?_push_of_some _ (Heap.get?_push_of_some _ (get?_update_seq ho fun _=>#[]))
  rw [←eG]
  refine wpAny_mono (wpS_runs (Q:=fun _ st'=>(arrOf st').Perm (pairsOf vs)∧failedOf st'=none∧SortedTo (arrOf st') (pairsOf vs).size) hI.intKeys ⟨Array.Perm.refl _,rfl,rfl,rfl⟩ (by rw [pairsOf_size];exact hm) fun st' p q r=>⟨p,q,r⟩) (fun r s' hr=>?_) fun _ _ e=>e
  obtain ⟨⟨⟩,st'⟩:=r
  obtain ⟨rfl,p1,p2,p3⟩:=hr
  obtain ⟨ns',q1,q2,q3⟩:=sorted_out hI p1 p3
  dsimp only at p2
  dsimp only
  rw [p2]
  have hsz:(Array.map (fun x:Keyed=>x.2) (arrOf st')).size≤sizeLine+1:=by
    have:(arrOf st').size=vs.length:=p1.size_eq.trans (pairsOf_size vs)
    rw [Array.size_map,this,sizeLine_eq];omega
  wp_walk
  obtain ⟨k,ek⟩:∃k,k=(if ((#[]:Array Value).size==vs.toArray.size)=true then n else n+1):=⟨_,rfl⟩
  rw [←ek] at ga ⊢
  obtain ⟨out,eo⟩:∃out,out=Array.map (fun x:Keyed=>x.2) (arrOf st'):=⟨_,rfl⟩
  rw [←eo] at hsz
  have q1':IntsAre out.toList ns':=by rw [eo];exact q1
  have pl:(Obj.mapSeq (fun _=>out) (lstO #[] k)).data.pastItsLine=none:=by
    show Data.pastItsLine (.seq out _)=none
    unfold Data.pastItsLine
    simp only
    rw [if_neg (by omega)]
  have en:=get?_update_seq ga fun _=>out
  rw [←eo,pl]
  dsimp only
  refine wpAny_pure ?_
  rw [if_neg (by rw [bne_self_eq_false];decide)]
  exact wpAny_pure (h _ tk out ns' _ (fun b o hb q=>Heap.get?_update_of_ne _ hb.symm (gb b o hb q)) en q1' q2 q3)
set_option maxHeartbeats 2000000 in
theorem sorted_big {l:Addr} {vs:List Value} {ns:List Int} {Q:Value→Shared→Prop} (hl:s.heap.IsList l vs.toArray) (hI:IntsAre vs ns) (hm:2≤vs.length) (hM:vs.length≤900)
    (h:∀(h':Heap) (tk:Nat) (out:Array Value) (ns':List Int) (e:Nat),(∀b o,s.heap.get? b=some o→h'.get? b=some o)→h'.get? (s.heap.objs.size+1)=some (lstO out e)→IntsAre out.toList ns'→ns'.Perm ns→ns'.Pairwise (·≤·)→Q (.ref (s.heap.objs.size+1)) {s with heap:=h',toks:=tk}):wpAny (model prog w) A (call (.builtin "sorted") [.ref l]) Q E s:=by
  have hz:vs.length≤sizeLine:=by rw [sizeLine_eq];omega
  apply Calls.call_function_entry kind_sorted plain_sorted entry_sorted (args_sorted1 _)
  unfold Builtin.«sorted»
  obtain ⟨hp,gs,dn,tk,os⟩:=s
  obtain ⟨G,eG⟩:∃G,G=(hp.push (lstO #[] 0)).update hp.objs.size (Obj.mapSeq (·++vs.toArray)):=⟨_,rfl⟩
  have gz:G.objs.size=hp.objs.size+1:=by rw [eG,Heap.size_update,size_push']
  have gb:∀b o,hp.get? b=some o→G.get? b=some o:=fun b o q=>by
    rw [eG]
    exact Heap.get?_update_of_ne _ (Nat.ne_of_gt (Heap.lt_size q)) (Heap.get?_push_of_some _ q)
  have C:∀Q':List Value→Shared→Prop,Q' vs ⟨G,gs,dn,tk,os⟩→wpAny (model prog w) A.in1 (collect (.ref l)) Q' E ⟨hp,gs,dn,tk,os⟩:=fun Q' hq=>collect_list hl (by rw [eG] at hq;exact hq) hz
  have at1:(G.push (lstO vs.toArray 0)).get? G.objs.size=some (lstO vs.toArray 0):=Heap.get?_push_size _ rfl
  have C2:∀Q':Value→Shared→Prop,(∀(h':Heap) (tk':Nat) (out:Array Value) (ns':List Int) (e:Nat),(∀b o,b≠G.objs.size→(G.push (lstO vs.toArray 0)).get? b=some o→h'.get? b=some o)→h'.get? G.objs.size=some (lstO out e)→IntsAre out.toList ns'→ns'.Perm ns→ns'.Pairwise (·≤·)→Q' .none ⟨h',gs,dn,tk',os⟩)→wpAny (model prog w) A.in1 (call (.builtin "list.sort") [.ref G.objs.size]) Q' E ⟨G.push (lstO vs.toArray 0),gs,dn,tk,os⟩:=fun Q' hq =>
    wpAny_call_entry slot_list_sort ⟨_,at1,rfl⟩ entry_list_sort (sort_big (s:=⟨G.push (lstO vs.toArray 0),gs,dn,tk,os⟩) at1 hI hm hM fun h' tk' out ns' e k1 k2 k3 k4 k5=>⟨_,rfl,hq h' tk' out ns' e k1 k2 k3 k4 k5⟩) (args_list_sort _)
  repeat (first | refine C _ ?_ | refine C2 _ ?_ | wp_step)
  intro h' tk' out ns' e k1 k2 k3 k4 k5
  rw [gz] at k1 k2 ⊢
  exact wpAny_pure ⟨_,rfl,h h' tk' out ns' e (fun b o q=>k1 b o (fun z=>by rw [z] at q;exact absurd (Heap.lt_size q) (Nat.not_lt.mpr (Nat.le_succ _))) (Heap.get?_push_of_some _ (gb b o q))) k2 k3 k4 k5⟩
end
end L2
namespace L2
open PySem PySem.Spec PyProof.Rows
section
variable {X:Cx} {K:PySem.W.Frag}
theorem cSortedB (hK:X.K=K):CallR X (.builtin "sorted") (fun xs H Q=>∃(p:Addr) (ns:List Int),xs=[.ref p]∧SqL K H p (ns.map V.int)∧ns.length≤900∧∀(l:Addr) (ns':List Int),H l=none→ns'.Perm ns→ns'.Pairwise (·≤·)→Q (.ref l) (upd H l (.lst (ns'.map V.int)))):=by
  intro pins s σ H xs us Q I r h
  obtain ⟨p,ns,rfl,hq,hz,q⟩:=h
  by_cases h64:ns.length<64
  · exact cSorted hK pins s σ H _ us Q I r ⟨p,ns,rfl,hq,h64,q⟩
  subst hK
  obtain ⟨u,rfl,rx⟩:=vals1 r
  cases rx
  obtain ⟨its,rv,pl,_⟩:=I.list hq
  have hlen:=rv.length
  rw [List.length_map] at hlen
  refine sorted_big pl.isList (Vals.intsAre rv) (by omega) (by omega) fun h' tk out ns' e keep at1 a1 a2 a3=>?_
  have hl':=a2.length_eq
  exact ⟨.ref _,_,I.laid (t':=tk) keep (Nat.le_succ _) (show ObjOk X.prog X.w _ h' _ (.lst (ns'.map V.int)) from ⟨by rw [List.length_map];exact Nat.le_of_lt (small1000 (by omega)),out.toList,e,IntsAre.vals a1,at1⟩),rfl,q _ ns' (I.hok.fresh (Nat.le_succ _)) a2 a3⟩
end
end L2
namespace L2
open PySem PySem.Spec PyProof.Rows
theorem cn_amt {es:List (Int×Int)} {F:List Int} (hF:∀t∈F,0≤t∧t<(es.length:Int)) {a b:Int} (h:Cn (sub es F) a b):∃x:List Int,x.length=es.length∧(∀t:Nat,¬(t:Int)∈F→x.getD t 0=0)∧∀p:Int,dp p es x es.length=(if b=p then 1 else 0)-(if a=p then 1 else 0):=by
  have stp:∀(x:List Int) (t:Int) (d:Int),t∈F→x.length=es.length→(∀u:Nat,¬(u:Int)∈F→x.getD u 0=0)→(x.set t.toNat (x.getD t.toNat 0+d)).length=es.length∧(∀u:Nat,¬(u:Int)∈F→(x.set t.toNat (x.getD t.toNat 0+d)).getD u 0=0)∧∀p:Int,dp p es (x.set t.toNat (x.getD t.toNat 0+d)) es.length=dp p es x es.length+((if (tieOf es t).2=p then d else 0)-(if (tieOf es t).1=p then d else 0)):=fun x t d ht hl hz=>by
    have hb:=hF t ht
    have hk:t.toNat<x.length:=by omega
    refine ⟨by rw [List.length_set];exact hl,fun u hu=>?_,fun p=>?_⟩
    · have hn:t.toNat≠u:=fun z=>hu (by rw [←z,Int.toNat_of_nonneg hb.1];exact ht)
      rw [List.getD_eq_getElem?_getD,List.getElem?_set_ne hn,←List.getD_eq_getElem?_getD]
      exact hz u hu
    · rw [dp_set p es x t.toNat _ hk,if_pos (show t.toNat<es.length by omega),show x.getD t.toNat 0+d-x.getD t.toNat 0=d by omega]
      rfl
  induction h with
  | refl=>exact ⟨List.replicate es.length 0,List.length_replicate ..,fun t _=>by rw [List.getD_eq_getElem?_getD,List.getElem?_replicate];split<;>rfl,fun p=>by rw [dp_nil,Int.sub_self]⟩
  | @fwd e _ he ih =>
    obtain ⟨x,hl,hz,hd⟩:=ih
    obtain ⟨t,ht,rfl⟩:=List.mem_map.mp he
    obtain ⟨s1,s2,s3⟩:=stp x t 1 ht hl hz
    refine ⟨_,s1,s2,fun p=>?_⟩
    rw [s3,hd];omega
  | @bwd e _ he ih =>
    obtain ⟨x,hl,hz,hd⟩:=ih
    obtain ⟨t,ht,rfl⟩:=List.mem_map.mp he
    obtain ⟨s1,s2,s3⟩:=stp x t (-1) ht hl hz
    refine ⟨_,s1,s2,fun p=>?_⟩
    rw [s3,hd]
    split<;>split<;>split<;>omega
theorem fre_not {es:List (Int×Int)} {t:Int} (h:t∈fre es):¬inF es t.toNat=true:=fun z=>by
  have h1:=mem_fre h
  have h2:=(List.mem_filter.mp h).2
  rw [show (frst es).any (·==t)=true from memI_iff.mpr (mem_frN.mpr ⟨h1.1,h1.2,z⟩)] at h2
  exact nomatch h2
theorem ring_ex {es:List (Int×Int)} {t:Int} (ht:t∈fre es):∃g:List Int,g.length=es.length∧(∀p:Int,dp p es g es.length=0)∧∀u∈fre es,g.getD u.toNat 0=if u=t then 1 else 0:=by
  have hb:=mem_fre ht
  have hn:=fre_not ht
  have hc:Cn (es.take t.toNat) (es.getD t.toNat (0,0)).1 (es.getD t.toNat (0,0)).2:=Classical.byContradiction fun z=>hn (inF_iff.mpr z)
  have hF:∀u∈frN es t.toNat,0≤u∧u<(es.length:Int):=fun u hu=>by have:=mem_frN.mp hu;omega
  obtain ⟨x,hl,hz,hd⟩:=cn_amt hF (frst_cn es t.toNat (by omega) hc).symm
  have xf:∀u∈fre es,x.getD u.toNat 0=0:=fun u hu=>hz u.toNat fun z=>by
    have:=(mem_frN.mp z).2.2
    exact fre_not hu (by rwa [Int.toNat_natCast] at this)
  have hk:t.toNat<x.length:=by omega
  refine ⟨x.set t.toNat 1,by rw [List.length_set];exact hl,fun p=>?_,fun u hu=>?_⟩
  · rw [dp_set p es x t.toNat _ hk,if_pos (show t.toNat<es.length by omega),hd,xf t ht]
    omega
  · have hub:=mem_fre hu
    by_cases c:u=t
    · rw [if_pos c,c,List.getD_eq_getElem?_getD,List.getElem?_set_self hk];rfl
    · rw [if_neg c,List.getD_eq_getElem?_getD,List.getElem?_set_ne (show t.toNat≠u.toNat by omega),←List.getD_eq_getElem?_getD]
      exact xf u hu
theorem fre_nodup (es:List (Int×Int)):(fre es).Nodup:=by
  unfold fre
  refine List.Pairwise.filter _ ?_
  unfold upto
  rw [List.pairwise_map]
  exact List.nodup_range.imp fun h z=>h (by omega)
theorem zip_get (fs gs:List Int) (h:fs.length=gs.length) (i:Nat):(List.zipWith (·+·) fs gs).getD i 0=fs.getD i 0+gs.getD i 0:=by
  rw [List.getD_eq_getElem?_getD,List.getD_eq_getElem?_getD,List.getD_eq_getElem?_getD,List.getElem?_zipWith]
  by_cases c:i<fs.length
  · rw [List.getElem?_eq_getElem c,List.getElem?_eq_getElem (show i<gs.length by omega)];rfl
  · rw [List.getElem?_eq_none (show fs.length≤i by omega),List.getElem?_eq_none (show gs.length≤i by omega)];rfl
theorem FW.ex {es:List (Int×Int)} (ws:List Int):∃fs,FW es ws fs:=by
  have go:∀n,n≤(fre es).length→∃fs:List Int,fs.length=es.length∧(∀p:Int,dp p es fs es.length=0)∧∀j,j<(fre es).length→fs.getD ((fre es).getD j 0).toNat 0=if j<n then ws.getD j 0 else 0:=by
    intro n
    induction n with
    | zero=>exact fun _=>⟨List.replicate es.length 0,List.length_replicate ..,fun p=>dp_nil ..,fun j _=>by rw [if_neg (Nat.not_lt_zero _),List.getD_eq_getElem?_getD,List.getElem?_replicate];split<;>rfl⟩
    | succ n ih =>
      intro hn
      obtain ⟨fs,hl,hd,hv⟩:=ih (by omega)
      have gn:(fre es).getD n 0=(fre es)[n]'(by omega):=gD_at (by omega)
      obtain ⟨g,gl,gd,gv⟩:=ring_ex (List.getElem_mem (show n<(fre es).length by omega))
      have e1:fs.length=(g.map (ws.getD n 0*·)).length:=by rw [List.length_map,hl,gl]
      refine ⟨List.zipWith (·+·) fs (g.map (ws.getD n 0*·)),by rw [List.length_zipWith,←e1,Nat.min_self];exact hl,fun p=>by rw [dp_zip p es fs _ e1,dp_map,hd,gd];omega,fun j hj=>?_⟩
      have gj:(fre es).getD j 0=(fre es)[j]:=gD_at hj
      have e2:(g.map (ws.getD n 0*·)).getD ((fre es).getD j 0).toNat 0=ws.getD n 0*g.getD ((fre es).getD j 0).toNat 0:=by
        rw [List.getD_eq_getElem?_getD,List.getElem?_map,List.getD_eq_getElem?_getD (l:=g)]
        cases g[((fre es).getD j 0).toNat]? with
        | none=>exact (Int.mul_zero _).symm
        | some v=>rfl
      rw [zip_get _ _ e1,hv j hj,e2,gj,gv _ (List.getElem_mem hj)]
      by_cases c:j=n
      · subst c
        rw [if_neg (Nat.lt_irrefl _),if_pos rfl,if_pos (Nat.lt_succ_self _)];omega
      · have c2:¬(fre es)[j]=(fre es)[n]'(by omega):=fun z=>by
          rcases Nat.lt_or_gt_of_ne c with y | y
          · exact List.pairwise_iff_getElem.mp (fre_nodup es) j n hj (by omega) y z
          · exact List.pairwise_iff_getElem.mp (fre_nodup es) n j (by omega) hj y z.symm
        rw [if_neg c2,Int.mul_zero,Int.add_zero]
        by_cases c3:j<n
        · rw [if_pos c3,if_pos (by omega)]
        · rw [if_neg c3,if_neg (by omega)]
  obtain ⟨fs,hl,hd,hv⟩:=go _ (Nat.le_refl _)
  exact ⟨fs,hl,hd,fun j hj=>by rw [hv j hj,if_pos hj]⟩
def rws (k:Nat):Nat→List (List Int)
  | 0=>[[]]
  | n+1=>(rws k n).flatMap fun row=>(upto k).map fun r=>row++[r]
theorem mem_rws {k:Nat}:∀{n:Nat} {row:List Int},row∈rws k n↔row.length=n∧∀d∈row,0≤d∧d<(k:Int)
  | 0,row=>by
    show row∈[[]]↔_
    rw [List.mem_singleton]
    constructor
    · rintro rfl;exact ⟨rfl,fun d hd=>nomatch hd⟩
    · rintro ⟨h,_⟩;exact List.length_eq_zero_iff.mp h
  | n+1,row=>by
    show row∈(rws k n).flatMap (fun row=>(upto k).map fun r=>row++[r])↔_
    rw [List.mem_flatMap]
    constructor
    · rintro ⟨q,hq,h⟩
      obtain ⟨r,hr,rfl⟩:=List.mem_map.mp h
      obtain ⟨h1,h2⟩:=mem_rws.mp hq
      refine ⟨by rw [List.length_append,h1];rfl,fun d hd=>?_⟩
      rcases List.mem_append.mp hd with y | y
      · exact h2 d y
      · rw [List.mem_singleton.mp y];exact mem_upto.mp hr
    · rintro ⟨h1,h2⟩
      have hne:row≠[]:=fun z=>by rw [z] at h1;exact nomatch h1
      refine ⟨row.dropLast,mem_rws.mpr ⟨by rw [List.length_dropLast,h1];rfl,fun d hd=>h2 d ((List.dropLast_sublist row).subset hd)⟩,List.mem_map.mpr ⟨row.getLast hne,mem_upto.mpr (h2 _ (List.getLast_mem hne)),List.dropLast_concat_getLast hne⟩⟩
theorem rws_nodup {k:Nat}:∀n:Nat,(rws k n).Nodup
  | 0=>List.nodup_cons.mpr ⟨(fun h=>nomatch h),List.Pairwise.nil⟩
  | n+1=>by
    show ((rws k n).flatMap fun row=>(upto k).map fun r=>row++[r]).Nodup
    unfold List.Nodup
    rw [List.pairwise_flatMap]
    refine ⟨fun row _=>?_,(rws_nodup n).imp fun {p q} hpq x hx y hy z=>?_⟩
    · rw [List.pairwise_map]
      unfold upto
      rw [List.pairwise_map]
      refine List.nodup_range.imp fun h z=>h ?_
      have:=List.append_cancel_left z
      injection this with this
      omega
    · obtain ⟨r,_,rfl⟩:=List.mem_map.mp hx
      obtain ⟨r',_,rfl⟩:=List.mem_map.mp hy
      exact hpq (List.append_inj' z rfl).1
theorem rws_len {k:Nat}:∀n:Nat,(rws k n).length=k^n
  | 0=>rfl
  | n+1=>by
    show ((rws k n).flatMap fun row=>(upto k).map fun r=>row++[r]).length=_
    rw [List.length_flatMap,Nat.pow_succ,←rws_len n]
    generalize rws k n=L
    induction L with
    | nil=>rw [List.length_nil,Nat.zero_mul];rfl
    | cons a r ih=>rw [List.map_cons,List.sum_cons,ih,List.length_map,upto_len,List.length_cons,Nat.succ_mul,Nat.add_comm]
noncomputable def tri (m:Int) (es:List (Int×Int)) (k:Nat) (L:List (List Int)):List Int:=(L.filter fun r=>isR m es r (k:Int)).map fun r=>numD (k:Int) (frv es r)
theorem tri_perm {m:Int} {es:List (Int×Int)} {k:Nat} (hE:∀e∈es,0≤e.1∧e.1<m∧0≤e.2∧e.2<m) (hk:1≤k):(tri m es k (rws k es.length)).Perm (upto (k^(fre es).length)):=by
  have hkp:(0:Int)<(k:Int):=by omega
  have hpw:(((k^(fre es).length:Nat)):Int)=(k:Int)^(fre es).length:=by rw [Int.natCast_pow]
  have nd2:(upto (k^(fre es).length)).Nodup:=by
    unfold upto
    refine List.pairwise_map.mpr (List.nodup_range.imp fun h z=>h (by omega))
  have nd1:(tri m es k (rws k es.length)).Nodup:=by
    unfold tri
    refine List.pairwise_map.mpr (List.Pairwise.imp_of_mem ?_ ((rws_nodup es.length).filter _))
    intro r1 r2 h1 h2 hn z
    rw [List.mem_filter] at h1 h2
    have l1:=(mem_rws.mp h1.1).1
    have l2:=(mem_rws.mp h2.1).1
    have e1:=dg_num hkp (frv es r1) (frv_bounds l1 h1.2)
    have e2:=dg_num hkp (frv es r2) (frv_bounds l2 h2.2)
    rw [frv_len] at e1 e2
    rw [z,e2] at e1
    obtain ⟨fs,hf⟩:=FW.ex (es:=es) (frv es r1)
    have b1:=lead_back hE l1 h1.2 hf
    rw [←e1] at hf
    exact hn (b1.symm.trans (lead_back hE l2 h2.2 hf))
  refine (List.perm_ext_iff_of_nodup nd1 nd2).mpr fun N=>?_
  rw [mem_upto,hpw]
  unfold tri
  rw [List.mem_map]
  constructor
  · rintro ⟨r,hr,rfl⟩
    rw [List.mem_filter] at hr
    have:=numD_lt hkp (frv es r) (frv_bounds (mem_rws.mp hr.1).1 hr.2)
    rwa [frv_len] at this
  · rintro ⟨n0,n1⟩
    obtain ⟨fs,hf⟩:=FW.ex (es:=es) (dg (k:Int) (fre es).length N)
    have hdb:=dg_lt hkp (fre es).length N
    have hdl:=dg_len (k:Int) (fre es).length N
    have hR:=FW.isR (m:=m) hkp hf
    refine ⟨fs.map (·%(k:Int)),List.mem_filter.mpr ⟨mem_rws.mpr ⟨by rw [List.length_map];exact hf.1,isR_bounds hR⟩,hR⟩,?_⟩
    rw [FW.frv hdl hdb hf,num_dg hkp _ N n0 n1]
end L2
namespace Pk
open PySem L2 PyProof.Rows
def top (i:Nat):Stmt:=PySem.Challenge.pw_busyweb_k21_rest_flows_by_trial.main.body.getD i (.Pass ⟨0,0,0,0⟩)
abbrev sNF:Stmt:=inClass (top 8) 0
abbrev sN:Stmt:=inClass (top 16) 0
abbrev sTi:Stmt:=top 17
abbrev sMe:Stmt:=top 18
abbrev sAm:Stmt:=top 20
abbrev sGs:Stmt:=top 21
abbrev sAd:Stmt:=top 22
abbrev sTm:Stmt:=top 23
abbrev sFr:Stmt:=top 25
abbrev sFt:Stmt:=top 26
abbrev sFe:Stmt:=top 27
abbrev sFw:Stmt:=top 28
abbrev sWb:Stmt:=top 29
abbrev sRg:Stmt:=top 30
abbrev sRo:Stmt:=top 31
abbrev sCr:Stmt:=top 33
abbrev sRs:Stmt:=top 34
abbrev sIr:Stmt:=top 35
abbrev sFz:Stmt:=top 36
abbrev sFi:Stmt:=top 37
abbrev sHm:Stmt:=top 38
abbrev sRn:Stmt:=top 39
abbrev sRm:Stmt:=top 40
abbrev sC:Stmt:=top 42
abbrev sH:Stmt:=top 43
abbrev sDr:Stmt:=top 44
abbrev sWb2:Stmt:=top 45
abbrev sLg:Stmt:=top 46
abbrev sKi:Stmt:=top 47
abbrev sRf:Stmt:=top 48
abbrev sLi:Stmt:=top 49
abbrev sL:Stmt:=top 50
structure Cs where
  FlowError:Addr
  BadWeb:Addr
  TooMany:Addr
  BadPlace:Addr
  BadTie:Addr
  BadFlow:Addr
  BadRest:Addr
  NoFlow:Addr
  BadSet:Addr
  BadPaper:Addr
  BadText:Addr
  BadDeed:Addr
  Web:Addr
structure Kind (K:PySem.W.Frag) (c:Cs) (A:Addr) (nm:Str):Prop where
  ex:ExcC K A
  ks:∃b1 b2 b3 b4 b5 b6 b7 b8 b9 b10 b11:Bool,PySem.W.kitOne K (.ref A) (.ref c.BadDeed)=some b1∧PySem.W.kitOne K (.ref A) (.ref c.BadFlow)=some b2∧PySem.W.kitOne K (.ref A) (.ref c.BadPaper)=some b3∧PySem.W.kitOne K (.ref A) (.ref c.BadPlace)=some b4 ∧
    PySem.W.kitOne K (.ref A) (.ref c.BadRest)=some b5∧PySem.W.kitOne K (.ref A) (.ref c.BadSet)=some b6∧PySem.W.kitOne K (.ref A) (.ref c.BadText)=some b7∧PySem.W.kitOne K (.ref A) (.ref c.BadTie)=some b8 ∧
    PySem.W.kitOne K (.ref A) (.ref c.BadWeb)=some b9∧PySem.W.kitOne K (.ref A) (.ref c.NoFlow)=some b10∧PySem.W.kitOne K (.ref A) (.ref c.TooMany)=some b11 ∧
    ([V.bl b1,.bl b2,.bl b3,.bl b4,.bl b5,.bl b6,.bl b7,.bl b8,.bl b9,.bl b10,.bl b11].countP fun z=>eqV z (.bl true))=1 ∧
    ∃j:Nat,j<11∧eqV ([V.bl b1,.bl b2,.bl b3,.bl b4,.bl b5,.bl b6,.bl b7,.bl b8,.bl b9,.bl b10,.bl b11].getD j .non) (.bl true)=true∧(∀i,i<j→eqV ([V.bl b1,.bl b2,.bl b3,.bl b4,.bl b5,.bl b6,.bl b7,.bl b8,.bl b9,.bl b10,.bl b11].getD i .non) (.bl true)=false) ∧
    [V.str "BadDeed",.str "BadFlow",.str "BadPaper",.str "BadPlace",.str "BadRest",.str "BadSet",.str "BadText",.str "BadTie",.str "BadWeb",.str "NoFlow",.str "TooMany"][j]?=some (V.str nm)
  ve:PySem.W.kitOne K (.ref A) (.type "ValueError")=some true
structure Txt (K:PySem.W.Frag) (mg:Str→Option Value) (c:Cs):Prop where
  ValueError:mg "ValueError"=none
  all:mg "all"=none
  any:mg "any"=none
  bool:mg "bool"=none
  enumerate:mg "enumerate"=none
  int:mg "int"=none
  isinstance:mg "isinstance"=none
  len:mg "len"=none
  list:mg "list"=none
  max:mg "max"=none
  min:mg "min"=none
  range:mg "range"=none
  reversed:mg "reversed"=none
  sorted:mg "sorted"=none
  tuple:mg "tuple"=none
  zip:mg "zip"=none
  mFlowError:mg "FlowError"=some (.ref c.FlowError)
  mBadWeb:mg "BadWeb"=some (.ref c.BadWeb)
  mTooMany:mg "TooMany"=some (.ref c.TooMany)
  mBadPlace:mg "BadPlace"=some (.ref c.BadPlace)
  mBadTie:mg "BadTie"=some (.ref c.BadTie)
  mBadFlow:mg "BadFlow"=some (.ref c.BadFlow)
  mBadRest:mg "BadRest"=some (.ref c.BadRest)
  mNoFlow:mg "NoFlow"=some (.ref c.NoFlow)
  mBadSet:mg "BadSet"=some (.ref c.BadSet)
  mBadPaper:mg "BadPaper"=some (.ref c.BadPaper)
  mBadText:mg "BadText"=some (.ref c.BadText)
  mBadDeed:mg "BadDeed"=some (.ref c.BadDeed)
  mWeb:mg "Web"=some (.ref c.Web)
  web:WebC K c.Web
  most_places:∃t,mg "MOST_PLACES"=some (.int 20 t)
  most_ties:∃t,mg "MOST_TIES"=some (.int 40 t)
  xFlowError:IsExc K c.FlowError
  xBadTie:IsExc K c.BadTie
  rBadTie:PySem.W.mroIn K c.BadTie (.ref c.FlowError)=some true
  kdBadTie:Kind K c c.BadTie "BadTie"
  xBadFlow:IsExc K c.BadFlow
  rBadFlow:PySem.W.mroIn K c.BadFlow (.ref c.FlowError)=some true
  kdBadFlow:Kind K c c.BadFlow "BadFlow"
  xBadRest:IsExc K c.BadRest
  rBadRest:PySem.W.mroIn K c.BadRest (.ref c.FlowError)=some true
  kdBadRest:Kind K c c.BadRest "BadRest"
  rNoFlow:PySem.W.mroIn K c.NoFlow (.ref c.FlowError)=some true
  kdNoFlow:Kind K c c.NoFlow "NoFlow"
  xNoFlow:∃f,ExI K c.NoFlow c.FlowError f
def spLaw (K:PySem.W.Frag):Sp:=fun vs H Q _=>∃(a:Addr) (ns:List Int),vs=[.ref a]∧SqL K H a (ns.map V.int)∧ns.length≤63∧∀H',Q (.bl true) H'
section
variable {P:Program} {w:World} {K:PySem.W.Frag} {mg:Str→Option Value} {base:Heap} {c:Cs}
theorem scN:FnScope ["self","many","ties","start","end"] ["self","many","ties"] (defScope sN):=⟨rfl,rfl,rfl,by decide +kernel,rfl,by decide +kernel,by decide +kernel⟩
theorem putF2 (m:Int) (t:Addr):putF "ties" (.ref t) (putF "many" (.int m) [])=wFs m t:=rfl
theorem ok_N {f:Addr} {fd:FuncData} (F:Fun K "__init__" "Web.__init__" sN f fd) (T:Txt K mg c):FnOk P w K mg base CX0 1 f fd ["self","many","ties"] (spInit K c.Web):=by
  refine F.ok scN (fun vs H Q E h=>?_) (fun cdv A outer s H vs Q E hr h=>?_)
  · obtain ⟨x,dx,p,m,xs,es,rfl,_⟩:=h
    rfl
  · obtain ⟨x,dx,p,m,xs,es,rfl,hx,hS,hp,m1,m2,hz,hE,k⟩:=h
    have hlen:=hp.len
    refine ⟨_,pss_cons (ps_if (PW.pt (pw_or (pt_cmpR op_lt (pv 1) (pe_int) (nomark _)) (pw_or (pt_cmpR op_gt (pv 1) (pe_glob (v:=.int 20) (by rfl) T.most_places.choose_spec ⟨_,rfl⟩) (nomark _)) (pw_or1 (pt_cmpR op_gt (pe_callB (cLen (K:=K) rfl) (by rfl) T.len PySem.boot_len (pa_cons (pv 2) pa_nil)) (pe_glob (v:=.int 40) (by rfl) T.most_ties.choose_spec ⟨_,rfl⟩) (nomark _))))))
        (pss_one (ps_never)) (pss_nil))
      (pss_cons (ps_for PassesOwn.never rfl (piSeq (K:=K) rfl (pv 2)) (pgTup (K:=K) (n:=2) rfl rfl (pgs_cons (pg_name (i:=3) scN.nd rfl (Or.inl rfl)) (pgs_cons (pg_name (i:=4) scN.nd rfl (Or.inl rfl)) (pgs_nil))) rfl)
        (pss_one (ps_if (pt_not (PW.pt (pw_and (pt_chain op_le op_lt (pe_int) (pv 3) (pv 1)) (pw_and1 (pt_chain op_le op_lt (pe_int) (pv 4) (pv 1))))))
        (pss_one (ps_never)) (pss_nil))))
      (pss_cons (ps_fld (pv 0) (pv 1) rfl)
      (pss_one (ps_fld (pv 0) (pe_callTy (cTuple (K:=K) rfl) (by rfl) T.tuple PyProof.Rows.boot_tuple (pa_cons (pe_lc (N':=["start","end"]) (nl:=2) (js:=[]) rfl (.of (osc:=defScope sN) (N:=["self","many","ties","start","end"]) (by decide +kernel) rfl rfl) (piSeq (K:=K) rfl (pv 2))
        (fun _ _ _ _=>pgPair (K:=K) (i:=0) (j:=1) rfl rfl (show (["start","end"]:List Str).Nodup by decide +kernel) rfl rfl rfl rfl) (fun _ _ _ _=>pif_nil)
        (fun _ _ _ _=>pe_tup (pa_cons (pv 0) (pa_cons (pv 1) pa_nil)))) pa_nil)) rfl)))),?_⟩
    refine ⟨_,rfl,_,_,rfl,rfl,_,rfl,?_⟩
    rw [decide_eq_false (by omega)]
    refine iteF ⟨_,rfl,_,_,rfl,rfl,_,rfl,?_⟩
    rw [decide_eq_false (by omega)]
    refine iteF ⟨_,rfl,p,xs,rfl,hS,_,_,rfl,rfl,_,rfl,?_⟩
    rw [decide_eq_false (by omega)]
    refine iteF ⟨_,rfl,p,xs,rfl,hS,fun J C O hC=>for_by O (fun i σ H2=>H2=H∧∃v3 v4,σ=[some (.ref x),some (.int m),some (.ref p),v3,v4]) ⟨rfl,_,_,rfl⟩ (fun i σ H2 _ h=>by rw [h.1];exact hC _ (Same.refl _)) ?_ ?_⟩
    · rintro i σ H2 hi ⟨rfl,v3,v4,rfl⟩
      obtain ⟨r,e,er,hr2,_,he⟩:=hp.at hi
      obtain ⟨b1,b2,b3,b4⟩:=hE e he
      dsimp only
      rw [er]
      refine ⟨r,_,rfl,hr2,rfl,_,_,rfl,_,_,rfl,rfl,?_⟩
      refine ⟨_,rfl,_,_,rfl,rfl,_,rfl,?_⟩
      rw [decide_eq_true b1]
      refine iteT ⟨_,rfl,_,_,rfl,rfl,_,rfl,?_⟩
      rw [decide_eq_true b2]
      refine iteT ⟨_,rfl,_,_,rfl,rfl,_,rfl,?_⟩
      rw [decide_eq_true b3]
      refine iteT ⟨_,rfl,_,_,rfl,rfl,_,rfl,?_⟩
      rw [decide_eq_true b4]
      exact iteF ⟨rfl,_,_,rfl⟩
    · rintro σ H2 ⟨rfl,v3,v4,rfl⟩
      refine ⟨_,rfl,_,rfl,x,c.Web,dx,_,rfl,hx,T.web.cl,T.web.nM,(by show 0<1000;decide),?_⟩
      have sx:SameX x H2 (upd H2 x (.ins c.Web dx (putF "many" (.int m) []))):=sameX_upd
      have hS':=hS.imp (fun y=>sx.seqI hx y) (fun y=>sx.tupI hx y)
      have hp':=hp.sameI sx hx
      have hx':(upd H2 x (.ins c.Web dx (putF "many" (.int m) []))) x=some (.ins c.Web dx (putF "many" (.int m) [])):=upd_same
      generalize upd H2 x (.ins c.Web dx (putF "many" (.int m) []))=H3 at sx hS' hp' hx'
      refine ⟨_,rfl,p,xs,rfl,hS',fun J C O hC=>lc_by O (fun i ys H4=>Same H3 H4∧Pairs K H4 ys (es.take i)) (Nat.le_of_lt (small1000 (by omega))) ⟨Same.refl _,.nil⟩ ?_ ?_ ?_⟩
      · rintro i ys H4 hi ⟨s4,h4⟩
        have:=h4.len
        rw [List.length_take] at this
        exact ⟨hC _ s4,by omega⟩
      · rintro i ys H4 hi ⟨s4,h4⟩
        obtain ⟨r,e,er,hr2,he,_⟩:=(hp'.same s4).at hi
        have hl4:=h4.len
        rw [List.length_take] at hl4
        try dsimp only
        rw [er]
        refine ⟨r,_,rfl,hr2,rfl,_,_,rfl,_,_,rfl,rfl,wk_set2 rfl rfl,iteT ?_⟩
        refine ⟨_,rfl,_,rfl,(by show 2≤sizeLine;decide),fun t ht=>⟨small1000 (by omega),_,by omega,rfl,hi,s4.next ht,?_⟩⟩
        rw [take_snoc he]
        exact (h4.same (Same.new ht)).snoc (SqT.of upd_same)
      · rintro ys H4 ⟨s4,h4⟩ l hl
        rw [show es.take xs.length=es from List.take_of_length_le (by omega)] at h4
        refine ⟨l,ys,rfl,.inl ⟨SqL.of upd_same,fun t ht=>?_⟩⟩
        have s5:Same H3 (upd (upd H4 l (.lst ys)) t (.tup ys)):=(s4.next hl).next ht
        refine ⟨_,rfl,x,c.Web,dx,_,rfl,s5 _ _ hx',T.web.cl,T.web.nT,(by show 1<1000;decide),?_⟩
        rw [putF2]
        have hxt:t≠x:=(ne_of_none (((s4.next hl)) _ _ hx') ht).symm
        refine k _ t ys ((sx.trans (.of s5)).trans sameX_upd) upd_same (by rw [upd_ne hxt];exact upd_same) ?_
        exact Pairs.sameI sameX_upd (s5 _ _ hx') ((h4.same (Same.new hl)).same (Same.new ht))
theorem scNF:FnScope ["self","tie"] ["self","tie"] (defScope sNF):=⟨rfl,rfl,rfl,by decide +kernel,rfl,by decide +kernel,by decide +kernel⟩
theorem ok_NF {f:Addr} {fd:FuncData} (F:Fun K "__init__" "NoFlow.__init__" sNF f fd) (T:Txt K mg c) (cX:ExI K c.NoFlow c.FlowError f):FnOk P w K mg base CX0 1 f fd ["self","tie"] (spNF c.NoFlow):=by
  refine F.ok scNF (fun vs H Q E h=>?_) (fun cdv A outer s H vs Q E hr h=>?_)
  · obtain ⟨x,v,rfl,_⟩:=h
    rfl
  · obtain ⟨x,v,rfl,hx,k⟩:=h
    refine ⟨_,pss_one (ps_fldX (pv 0) (pv 1) rfl),?_⟩
    exact ⟨_,rfl,_,rfl,x,_,_,_,rfl,hx,cX,fun d nd ne=>k d nd ne⟩
def spTi (K:PySem.W.Frag) (C cT:Addr):Sp:=fun vs H Q E=>∃(x:Addr) (p m:Int) (es:List (Int×Int)),vs=[.ref x,.int p]∧WebAt K C H x m es∧(0≤p→p<(es.length:Int)→Q .non H)∧(¬(0≤p∧p<(es.length:Int))→E (.ref cT) none H)
theorem scTi:FnScope ["web","tie"] ["web","tie"] (defScope sTi):=⟨rfl,rfl,rfl,by decide +kernel,rfl,by decide +kernel,by decide +kernel⟩
theorem ok_Ti {f:Addr} {fd:FuncData} (F:Fun K "check_tie" "check_tie" sTi f fd) (T:Txt K mg c):FnOk P w K mg base (CXE P w) 1 f fd ["web","tie"] (spTi K c.Web c.BadTie):=by
  refine F.okE scTi (fun vs H Q E h=>?_) (fun cdv A outer s H vs Q E hr h=>?_)
  · obtain ⟨x,p,m,es,rfl,_⟩:=h
    rfl
  · obtain ⟨x,p,m,es,rfl,hw,k1,k2⟩:=h
    refine ⟨_,pss_one (ps_if (pt_not (pt_chain op_le op_lt (pe_int) (pv 1) (pe_callB (cLen (K:=K) rfl) (by rfl) T.len PySem.boot_len (pa_cons (pTies (K:=K) rfl T.web (pv 0)) pa_nil))))
        (pss_one (ps_raise rfl rfl (by rfl) T.mBadTie T.xBadTie (pa_cons pe_str pa_nil))) (pss_nil)),?_⟩
    refine ⟨_,rfl,_,_,rfl,rfl,_,rfl,ite2 (fun c1=>?_) (fun c1=>?_)⟩
    · refine ⟨_,rfl,x,m,es,rfl,hw,fun t ys ht hp=>⟨t,ys,rfl,.inr (SqT.of ht),_,_,rfl,rfl,_,rfl,?_⟩⟩
      have hl:=hp.len
      by_cases c2:p<(ys.length:Int)
      · rw [decide_eq_true c2]
        exact iteF (k1 (of_decide_eq_true c1) (by omega))
      · rw [decide_eq_false c2]
        exact iteT ⟨(by show 1≤sizeLine;decide),k2 fun z=>c2 (by omega)⟩
    · exact ⟨_,rfl,iteT ⟨(by show 1≤sizeLine;decide),k2 fun z=>c1 (decide_eq_true z.1)⟩⟩
def spMe (K:PySem.W.Frag):Sp:=fun vs H Q _=>∃(l:Addr) (a b:Int) (ls:List Int),vs=[.ref l,.int a,.int b]∧SqL K H l (ls.map V.int)∧ls.length≤900∧0≤a∧a<ls.length∧0≤b∧b<ls.length ∧
  ∀l2 H',H l2=none→Same H H'→H' l2=some (.lst ((ls.map fun x=>if x=max (lf ls a) (lf ls b) then min (lf ls a) (lf ls b) else x).map V.int))→Q (.ref l2) H'
theorem imin (i j:Int):(if j<i then j else i)=min i j:=by split<;>omega
theorem imax (i j:Int):(if j>i then j else i)=max i j:=by split<;>omega
theorem scMe:FnScope ["labels","one","two","low","high"] ["labels","one","two"] (defScope sMe):=⟨rfl,rfl,rfl,by decide +kernel,rfl,by decide +kernel,by decide +kernel⟩
set_option maxHeartbeats 4000000 in
theorem ok_Me {f:Addr} {fd:FuncData} (F:Fun K "merged" "merged" sMe f fd) (T:Txt K mg c):FnOk P w K mg base CX0 1 f fd ["labels","one","two"] (spMe K):=by
  refine F.ok scMe (fun vs H Q E h=>?_) (fun cdv A outer s H vs Q E hr h=>?_)
  · obtain ⟨l,a,b,ls,rfl,_⟩:=h
    rfl
  · obtain ⟨l,a,b,ls,rfl,hl,hz,a0,a1,b0,b1,k⟩:=h
    refine ⟨_,pss_cons (ps_set (i:=3) scMe.nd rfl (Or.inr rfl) (pe_callB (call_min2 rfl) (by rfl) T.min PyProof.Rows.boot_min (pa_cons (pe_ix (ixL (K:=K) rfl) (pv 0) (pv 1) (fun _ _=>rfl)) (pa_cons (pe_ix (ixL (K:=K) rfl) (pv 0) (pv 2) (fun _ _=>rfl)) pa_nil))))
      (pss_cons (ps_set (i:=4) scMe.nd rfl (Or.inr rfl) (pe_callB (call_max2 rfl) (by rfl) T.max PyProof.Rows.boot_max (pa_cons (pe_ix (ixL (K:=K) rfl) (pv 0) (pv 1) (fun _ _=>rfl)) (pa_cons (pe_ix (ixL (K:=K) rfl) (pv 0) (pv 2) (fun _ _=>rfl)) pa_nil))))
      (pss_one (ps_ret (pe_lc (N':=["label","low","high"]) (nl:=1) (js:=[3,4]) rfl (.of (osc:=defScope sMe) (N:=["labels","one","two","low","high"]) (by decide +kernel) rfl rfl) (piSeq (K:=K) rfl (pv 0))
        (fun _ _ _ _=>pg_name (i:=0) (show (["label","low","high"]:List Str).Nodup by decide +kernel) rfl (Or.inl rfl)) (fun _ _ _ _=>pif_nil)
        (fun _ _ _ _=>pe_ifExp (pt_cmpR op_eq (pv 0) (pv 2) (nomark _)) (pv 1) (pv 0)))))),?_⟩
    refine ⟨_,rfl,_,rfl,l,_,_,_,rfl,rfl,hl,at_int a0 a1,_,rfl,_,rfl,l,_,_,_,rfl,rfl,hl,at_int b0 b1,_,_,rfl,?_⟩
    refine ⟨_,rfl,_,rfl,l,_,_,_,rfl,rfl,hl,at_int a0 a1,_,rfl,_,rfl,l,_,_,_,rfl,rfl,hl,at_int b0 b1,_,_,rfl,?_⟩
    have hf:∀x:Int,(if x=max (lf ls a) (lf ls b) then min (lf ls a) (lf ls b) else x)=(if x=(if ls.getD b.toNat 0>ls.getD a.toNat 0 then ls.getD b.toNat 0 else ls.getD a.toNat 0) then (if ls.getD b.toNat 0<ls.getD a.toNat 0 then ls.getD b.toNat 0 else ls.getD a.toNat 0) else x):=fun x=>by
      rw [imin,imax];rfl
    refine ⟨_,rfl,l,_,rfl,.inl hl,fun J C O hC=>lc_by O (fun i ys H2=>H2=H∧ys=((ls.map fun x=>if x=max (lf ls a) (lf ls b) then min (lf ls a) (lf ls b) else x).take i).map V.int) (by rw [List.length_map];exact Nat.le_of_lt (small1000 (by omega))) ⟨rfl,rfl⟩ ?_ ?_ ?_⟩
    · rintro i ys H2 hi ⟨rfl,rfl⟩
      exact ⟨hC _ (Same.refl _),by rw [List.length_map,List.length_take];omega⟩
    · rintro i ys H hi ⟨rfl,rfl⟩
      obtain ⟨v,ev,gv⟩:=getD_map_int hi
      rw [List.length_map] at hi
      dsimp only
      rw [ev]
      have fin:∀u,u=(if v=max (lf ls a) (lf ls b) then min (lf ls a) (lf ls b) else v)→((ls.map fun x=>if x=max (lf ls a) (lf ls b) then min (lf ls a) (lf ls b) else x).take i).map V.int++[V.int u]=((ls.map fun x=>if x=max (lf ls a) (lf ls b) then min (lf ls a) (lf ls b) else x).take (i+1)).map V.int:=fun u e=>by
        have hv:(ls.map fun x=>if x=max (lf ls a) (lf ls b) then min (lf ls a) (lf ls b) else x)[i]?=some u:=by rw [List.getElem?_map,gv,e];rfl
        rw [take_snoc hv,List.map_append];rfl
      have hl2:(((ls.map fun x=>if x=max (lf ls a) (lf ls b) then min (lf ls a) (lf ls b) else x).take i).map V.int).length<sizeLine:=small1000 (by rw [List.length_map,List.length_take];omega)
      refine ⟨wk_set rfl,iteT ?_⟩
      refine ⟨_,rfl,_,rfl,rfl,_,rfl,ite2 (fun c1=>?_) (fun c1=>?_)⟩
      · refine ⟨_,rfl,hl2,_,by rw [List.length_map];omega,rfl,by rw [List.length_map];omega,rfl,fin _ ?_⟩
        have c1':=of_decide_eq_true c1
        injection c1' with c1'
        rw [hf,if_pos c1']
      · refine ⟨_,rfl,hl2,_,by rw [List.length_map];omega,rfl,by rw [List.length_map];omega,rfl,fin _ ?_⟩
        rw [hf,if_neg (fun z=>c1 (decide_eq_true (by rw [z])))]
    · rintro ys H ⟨rfl,rfl⟩ l2 nl
      rw [List.length_map,List.take_of_length_le (by rw [List.length_map];omega)]
      exact k l2 _ nl (Same.new nl) upd_same
def spAm (K:PySem.W.Frag) (C cF:Addr):Sp:=fun vs H Q E=>∃(x f:Addr) (m:Int) (es:List (Int×Int)) (xs:List V),vs=[.ref x,.ref f]∧WebAt K C H x m es∧(SqL K H f xs∨SqT K H f xs)∧(xs.length=es.length→Q .non H)∧(xs.length≠es.length→E (.ref cF) none H)
theorem scAm:FnScope ["web","flow"] ["web","flow"] (defScope sAm):=⟨rfl,rfl,rfl,by decide +kernel,rfl,by decide +kernel,by decide +kernel⟩
theorem ok_Am {f:Addr} {fd:FuncData} (F:Fun K "check_amounts" "check_amounts" sAm f fd) (T:Txt K mg c):FnOk P w K mg base (CXE P w) 1 f fd ["web","flow"] (spAm K c.Web c.BadFlow):=by
  refine F.okE scAm (fun vs H Q E h=>?_) (fun cdv A outer s H vs Q E hr h=>?_)
  · obtain ⟨x,f,m,es,xs,rfl,_⟩:=h
    rfl
  · obtain ⟨x,f,m,es,xs,rfl,hw,hS,k1,k2⟩:=h
    refine ⟨_,pss_one (ps_if (pt_cmpR op_ne (pe_callB (cLen (K:=K) rfl) (by rfl) T.len PySem.boot_len (pa_cons (pv 1) pa_nil)) (pe_callB (cLen (K:=K) rfl) (by rfl) T.len PySem.boot_len (pa_cons (pTies (K:=K) rfl T.web (pv 0)) pa_nil)) (nomark _))
        (pss_one (ps_raise rfl rfl (by rfl) T.mBadFlow T.xBadFlow (pa_cons pe_str pa_nil))) (pss_nil)),?_⟩
    refine ⟨_,rfl,f,xs,rfl,hS,_,rfl,x,m,es,rfl,hw,fun t ys ht hp=>⟨t,ys,rfl,.inr (SqT.of ht),rfl,_,rfl,?_⟩⟩
    have hl:=hp.len
    by_cases e:xs.length=es.length
    · rw [decide_eq_true (show V.int (xs.length:Int)=V.int (ys.length:Int) by rw [hl,e])]
      exact iteF (k1 e)
    · rw [decide_eq_false (show ¬V.int (xs.length:Int)=V.int (ys.length:Int) by rw [hl];intro z;injection z with z;omega)]
      exact iteT ⟨(by show 1≤sizeLine;decide),k2 e⟩
theorem upd_none {H:Hp} {q l:Addr} {o:HO} (h:upd H q o l=none):H l=none:=by
  by_cases e:l=q
  · subst e;rw [upd_same] at h;cases h
  · rwa [upd_ne e] at h
def spGs (K:PySem.W.Frag) (C:Addr):Sp:=fun vs H Q _=>∃(x f:Addr) (b:Bool) (m:Int) (es:List (Int×Int)) (fs:List Int),vs=[.ref x,.ref f]∧WebAt K C H x m es∧SqB b K H f (fs.map V.int)∧fs.length=es.length∧1≤m∧m≤20∧es.length≤40∧EndsIn es m ∧
  ∀(l:Addr) (H':Hp) (zs:List Int),H' l=some (.lst (zs.map V.int))→zs.length=m.toNat→(∀p:Nat,p<m.toNat→zs.getD p 0=dp p es fs es.length)→Same H H'→Q (.ref l) H'
theorem scGs:FnScope ["web","flow","told","ends","amount"] ["web","flow"] (defScope sGs):=⟨rfl,rfl,rfl,by decide +kernel,rfl,by decide +kernel,by decide +kernel⟩
set_option maxHeartbeats 4000000 in
theorem ok_Gs {f:Addr} {fd:FuncData} (F:Fun K "gains" "gains" sGs f fd) (T:Txt K mg c):FnOk P w K mg base CX0 1 f fd ["web","flow"] (spGs K c.Web):=by
  refine F.ok scGs (fun vs H Q E h=>?_) (fun cdv A outer s H vs Q E hr h=>?_)
  · obtain ⟨x,f,b,m,es,fs,rfl,_⟩:=h
    rfl
  · obtain ⟨x,f,b,m,es,fs,rfl,hw,hf,hlen,m1,m2,hz,hE,k⟩:=h
    refine ⟨_,pss_cons (ps_set (i:=2) scGs.nd rfl (Or.inl rfl) (pe_op op_rep (pe_lst (pa_cons (pe_int) pa_nil)) (pMany (K:=K) rfl T.web (pv 0))))
      (pss_cons (ps_for PassesOwn.never rfl (pi_zip (K:=K) rfl rfl T.zip (pa_cons (pTies (K:=K) rfl T.web (pv 0)) (pa_cons (pv 1) pa_nil))) (pgTup (K:=K) (n:=2) rfl rfl (pgs_cons (pg_name (i:=3) scGs.nd rfl (Or.inl rfl)) (pgs_cons (pg_name (i:=4) scGs.nd rfl (Or.inl rfl)) (pgs_nil))) rfl)
        (pss_cons (ps_augS (pv 2) (pe_ix (ixT (K:=K) rfl) (pv 3) (pe_int) (fun _ _=>rfl)) (get_list (K:=K) rfl) (pv 4) ip_sub set_list)
      (pss_one (ps_augS (pv 2) (pe_ix (ixT (K:=K) rfl) (pv 3) (pe_int) (fun _ _=>rfl)) (get_list (K:=K) rfl) (pv 4) ip_add set_list))))
      (pss_one (ps_ret (pv 2)))),?_⟩
    refine ⟨(by show 1≤sizeLine;decide),fun q hq=>?_⟩
    refine ⟨_,rfl,x,m,es,rfl,hw.same (Same.new hq),q,m,_,rfl,rfl,upd_same,by omega,by omega,Nat.le_of_lt (small1000 (by show 1*m.toNat≤1000;omega)),fun l hl=>?_⟩
    rw [rep_ints]
    have hlH:H l=none:=upd_none hl
    have s1:Same H (upd (upd H q (.lst [.int 0])) l (.lst ((List.replicate m.toNat 0).map V.int))):=(Same.new hq).next hl
    have e1:(upd (upd H q (.lst [.int 0])) l (.lst ((List.replicate m.toNat 0).map V.int))) l=some (.lst ((List.replicate m.toNat 0).map V.int)):=upd_same
    generalize upd (upd H q (.lst [.int 0])) l (.lst ((List.replicate m.toNat 0).map V.int))=H1 at s1 e1
    refine ⟨_,rfl,x,m,es,rfl,hw.same s1,fun t ys ht hp=>⟨_,rfl,true,b,t,f,ys,fs.map V.int,rfl,SqT.of ht,hf.same s1,fun J C O hC=>?_⟩⟩
    have hpl:=hp.len
    have sXH:∀{H2:Hp},SameX l H1 H2→Same H H2:=fun sX b o e=>sX b o (ne_of_none e hlH) (s1 b o e)
    have hn:min ys.length (fs.map V.int).length=es.length:=by rw [List.length_map,hlen,hpl];exact Nat.min_self _
    refine for_byP O (fun i σ H2=>∃zs v3 v4,σ=[some (.ref x),some (.ref f),some (.ref l),v3,v4]∧H2 l=some (.lst (zs.map V.int))∧zs.length=m.toNat∧(∀p:Nat,p<m.toNat→zs.getD p 0=dp p es fs i)∧SameX l H1 H2) ⟨List.replicate m.toNat 0,none,none,rfl,e1,List.length_replicate ..,fun p hp=>?_,.of (Same.refl _)⟩ ?_ ?_ ?_
    · rw [List.getD_eq_getElem?_getD,List.getElem?_replicate,if_pos hp];rfl
    · rintro i σ H2 _ ⟨zs,v3,v4,rfl,e2,hzl,hd,sX⟩
      exact hC H2 (SameX.tup sX e1 (SqT.of ht)) (hf.same (sXH sX))
    · rintro i σ H2 p hi ⟨zs,v3,v4,rfl,e2,hzl,hd,sX⟩ hp2
      rw [hn] at hi
      obtain ⟨r,e,er,hr2,ei,he⟩:=hp.at (i:=i) (by omega)
      obtain ⟨b1,b2,b3,b4⟩:=hE e he
      dsimp only
      rw [er,getD_ints (by omega)]
      refine ⟨p,_,rfl,SqT.of upd_same,rfl,_,_,rfl,_,_,rfl,rfl,?_⟩
      have s3:Same H2 (upd H2 p (.tup [.ref r,.int (fs.getD i 0)])):=Same.new hp2
      have e3:=s3 _ _ e2
      have r3:SqT K (upd H2 p (.tup [.ref r,.int (fs.getD i 0)])) r [.int e.1,.int e.2]:=s3.tup (SameX.tup sX e1 hr2)
      generalize upd H2 p (.tup [.ref r,.int (fs.getD i 0)])=H3 at s3 e3 r3
      refine ⟨_,rfl,_,rfl,r,_,0,_,rfl,rfl,r3,rfl,l,_,e.1,_,rfl,rfl,b1,SqL.of e3,get_ints (by omega),_,rfl,_,_,rfl,rfl,l,_,e.1,_,rfl,rfl,e3,ixN_nat b1 (by rw [List.length_map];omega),?_⟩
      rw [set_ints]
      have x4:SameX l H3 (upd H3 l (.lst ((zs.set e.1.toNat (zs.getD e.1.toNat 0-fs.getD i 0)).map V.int))):=sameX_upd
      have e4:(upd H3 l (.lst ((zs.set e.1.toNat (zs.getD e.1.toNat 0-fs.getD i 0)).map V.int))) l=some (.lst ((zs.set e.1.toNat (zs.getD e.1.toNat 0-fs.getD i 0)).map V.int)):=upd_same
      have r4:=SameX.tup x4 e3 r3
      generalize upd H3 l (.lst ((zs.set e.1.toNat (zs.getD e.1.toNat 0-fs.getD i 0)).map V.int))=H4 at x4 e4 r4
      refine ⟨_,rfl,_,rfl,r,_,1,_,rfl,rfl,r4,rfl,l,_,e.2,_,rfl,rfl,b3,SqL.of e4,get_ints (by rw [List.length_set];omega),_,rfl,_,_,rfl,rfl,l,_,e.2,_,rfl,rfl,e4,ixN_nat b3 (by rw [List.length_map,List.length_set];omega),?_⟩
      rw [set_ints]
      exact ⟨_,_,_,rfl,upd_same,by rw [List.length_set,List.length_set];exact hzl,fun p hp=>dp_step hzl ei b1 (by omega) b3 (by omega) hd p hp,((sX.trans (.of s3)).trans x4).trans sameX_upd⟩
    · rintro σ H2 ⟨zs,v3,v4,rfl,e2,hzl,hd,sX⟩
      rw [hn] at hd
      exact ⟨_,rfl,k l H2 zs e2 hzl hd (sXH sX)⟩
def spAd (K:PySem.W.Frag) (cF:Addr):Sp:=fun vs H Q E=>∃(p q:Addr) (b1 b2:Bool) (ns ms:List Int),vs=[.ref p,.ref q]∧SqB b1 K H p (ns.map V.int)∧SqB b2 K H q (ms.map V.int)∧ns.length≤900∧(ns.length≠ms.length→E (.ref cF) none H) ∧
  (ns.length=ms.length→∀l H',H l=none→Same H H'→H' l=some (.lst ((List.zipWith (·+·) ns ms).map V.int))→Q (.ref l) H')
theorem scAd:FnScope ["one","two"] ["one","two"] (defScope sAd):=⟨rfl,rfl,rfl,by decide +kernel,rfl,by decide +kernel,by decide +kernel⟩
set_option maxHeartbeats 4000000 in
theorem ok_Ad {f:Addr} {fd:FuncData} (F:Fun K "added" "added" sAd f fd) (T:Txt K mg c):FnOk P w K mg base (CXE P w) 1 f fd ["one","two"] (spAd K c.BadFlow):=by
  refine F.okE scAd (fun vs H Q E h=>?_) (fun cdv A outer s H vs Q E hr h=>?_)
  · obtain ⟨p,q,b1,b2,ns,ms,rfl,_⟩:=h
    rfl
  · obtain ⟨p,q,b1,b2,ns,ms,rfl,hp,hq,hz,k1,k2⟩:=h
    refine ⟨_,pss_cons (ps_if (pt_cmpR op_ne (pe_callB (cLen (K:=K) rfl) (by rfl) T.len PySem.boot_len (pa_cons (pv 0) pa_nil)) (pe_callB (cLen (K:=K) rfl) (by rfl) T.len PySem.boot_len (pa_cons (pv 1) pa_nil)) (nomark _))
        (pss_one (ps_raise rfl rfl (by rfl) T.mBadFlow T.xBadFlow (pa_cons pe_str pa_nil))) (pss_nil))
      (pss_one (ps_ret (pe_lc (N':=["first","second"]) (nl:=2) (js:=[]) rfl (.of (osc:=defScope sAd) (N:=["one","two"]) (by decide +kernel) rfl rfl) (pi_zip (K:=K) rfl rfl T.zip (pa_cons (pv 0) (pa_cons (pv 1) pa_nil)))
        (fun _ _ _ _=>pgPair (K:=K) (i:=0) (j:=1) rfl rfl (show (["first","second"]:List Str).Nodup by decide +kernel) rfl rfl rfl rfl) (fun _ _ _ _=>pif_nil)
        (fun _ _ _ _=>pe_op op_add (pv 0) (pv 1))))),?_⟩
    refine ⟨_,rfl,p,_,rfl,hp.or,_,rfl,q,_,rfl,hq.or,rfl,_,rfl,?_⟩
    by_cases e:ns.length=ms.length
    · rw [decide_eq_true (show V.int ((ns.map V.int).length:Int)=V.int ((ms.map V.int).length:Int) by rw [List.length_map,List.length_map,e])]
      refine iteF ?_
      have hn:min (ns.map V.int).length (ms.map V.int).length=ns.length:=by rw [List.length_map,List.length_map,←e];exact Nat.min_self _
      have hzl:(List.zipWith (·+·) ns ms).length=ns.length:=by rw [List.length_zipWith,←e];exact Nat.min_self _
      refine ⟨_,rfl,_,rfl,b1,b2,p,q,_,_,rfl,hp,hq,fun J C O hC=>lc_byP O (fun i ys H2=>Same H H2∧ys=((List.zipWith (·+·) ns ms).take i).map V.int) (by rw [hn];exact Nat.le_of_lt (small1000 (by omega))) ⟨Same.refl _,rfl⟩ ?_ ?_ ?_⟩
      · rintro i ys H2 hi ⟨s2,rfl⟩
        exact ⟨hC _ (hp.same s2) (hq.same s2),by rw [List.length_map,List.length_take];omega⟩
      · rintro i ys H2 r hi ⟨s2,rfl⟩ nr
        rw [hn] at hi
        have hv:(List.zipWith (·+·) ns ms)[i]?=some (ns.getD i 0+ms.getD i 0):=by
          rw [List.getElem?_zipWith,List.getD_eq_getElem?_getD,List.getD_eq_getElem?_getD,List.getElem?_eq_getElem hi,List.getElem?_eq_getElem (show i<ms.length by omega)];rfl
        dsimp only
        rw [getD_ints hi,getD_ints (show i<ms.length by omega)]
        refine ⟨r,_,rfl,SqT.of upd_same,rfl,_,_,rfl,_,_,rfl,rfl,wk_set2 rfl rfl,iteT ?_⟩
        refine ⟨_,rfl,_,rfl,_,_,rfl,rfl,small1000 (by rw [List.length_map,List.length_take];omega),_,by rw [hn];omega,rfl,by rw [hn];omega,s2.next nr,?_⟩
        rw [take_snoc hv,List.map_append];rfl
      · rintro ys H2 ⟨s2,rfl⟩ l nl
        rw [hn,List.take_of_length_le (by omega)]
        exact k2 e l _ (by
          cases e':H l with
          | none=>rfl
          | some o=>have:=s2 _ _ e';rw [nl] at this;cases this) (s2.next nl) upd_same
    · rw [decide_eq_false (show ¬V.int ((ns.map V.int).length:Int)=V.int ((ms.map V.int).length:Int) by rw [List.length_map,List.length_map];intro z;injection z with z;omega)]
      exact iteT ⟨(by show 1≤sizeLine;decide),k1 e⟩
def spTm (K:PySem.W.Frag):Sp:=fun vs H Q _=>∃(p:Addr) (b:Bool) (z:Int) (ns:List Int),vs=[.int z,.ref p]∧SqB b K H p (ns.map V.int)∧ns.length≤900∧z.natAbs<2^200∧(∀v∈ns,v.natAbs<2^200) ∧
  ∀l H',H l=none→Same H H'→H' l=some (.lst ((ns.map (z*·)).map V.int))→Q (.ref l) H'
theorem scTm:FnScope ["number","flow"] ["number","flow"] (defScope sTm):=⟨rfl,rfl,rfl,by decide +kernel,rfl,by decide +kernel,by decide +kernel⟩
set_option maxHeartbeats 4000000 in
theorem ok_Tm {f:Addr} {fd:FuncData} (F:Fun K "times" "times" sTm f fd) (T:Txt K mg c):FnOk P w K mg base CX0 1 f fd ["number","flow"] (spTm K):=by
  refine F.ok scTm (fun vs H Q E h=>?_) (fun cdv A outer s H vs Q E hr h=>?_)
  · obtain ⟨p,b,z,ns,rfl,_⟩:=h
    rfl
  · obtain ⟨p,b,z,ns,rfl,hp,hz,hzb,hnb,k⟩:=h
    refine ⟨_,pss_one (ps_ret (pe_lc (N':=["amount","number"]) (nl:=1) (js:=[0]) rfl (.of (osc:=defScope sTm) (N:=["number","flow"]) (by decide +kernel) rfl rfl) (piSeq (K:=K) rfl (pv 1))
        (fun _ _ _ _=>pg_name (i:=0) (show (["amount","number"]:List Str).Nodup by decide +kernel) rfl (Or.inl rfl)) (fun _ _ _ _=>pif_nil)
        (fun _ _ _ _=>pe_op op_mulB (pv 1) (pv 0)))),?_⟩
    refine ⟨_,rfl,p,_,rfl,hp.or,fun J C O hC=>lc_by O (fun i ys H2=>H2=H∧ys=((ns.map (z*·)).take i).map V.int) (by rw [List.length_map];exact Nat.le_of_lt (small1000 (by omega))) ⟨rfl,rfl⟩ ?_ ?_ ?_⟩
    · rintro i ys H2 hi ⟨rfl,rfl⟩
      exact ⟨hC _ (Same.refl _),by rw [List.length_map,List.length_take];omega⟩
    · rintro i ys H hi ⟨rfl,rfl⟩
      obtain ⟨v,ev,gv⟩:=getD_map_int hi
      rw [List.length_map] at hi
      have hv:(ns.map (z*·))[i]?=some (z*v):=by rw [List.getElem?_map,gv];rfl
      dsimp only
      rw [ev]
      refine ⟨wk_set rfl,iteT ?_⟩
      refine ⟨_,rfl,_,rfl,_,_,rfl,rfl,⟨hzb,hnb v (List.mem_of_getElem? gv)⟩,small1000 (by rw [List.length_map,List.length_take];omega),_,by rw [List.length_map];omega,rfl,by rw [List.length_map];omega,rfl,?_⟩
      rw [take_snoc hv,List.map_append];rfl
    · rintro ys H ⟨rfl,rfl⟩ l nl
      rw [List.length_map,List.take_of_length_le (by rw [List.length_map];omega)]
      exact k l _ nl (Same.new nl) upd_same
def spFe (K:PySem.W.Frag) (c:Cs):Sp:=fun vs H Q _=>∃(x:Addr) (t p m:Int) (es:List (Int×Int)),vs=[.ref x,.int t,.int p]∧WebAt K c.Web H x m es∧0≤t∧t<(es.length:Int)∧Q (.int (far (tieOf es t) p)) H
theorem scFe:FnScope ["web","tie","place","ends"] ["web","tie","place"] (defScope sFe):=⟨rfl,rfl,rfl,by decide +kernel,rfl,by decide +kernel,by decide +kernel⟩
set_option maxHeartbeats 4000000 in
theorem ok_Fe {f:Addr} {fd:FuncData} (F:Fun K "far_end" "far_end" sFe f fd) (T:Txt K mg c):FnOk P w K mg base CX0 1 f fd ["web","tie","place"] (spFe K c):=by
  refine F.ok scFe (fun vs H Q E h=>?_) (fun cdv A outer s H vs Q E hr h=>?_)
  · obtain ⟨x,t,p,m,es,rfl,_⟩:=h
    rfl
  · obtain ⟨x,t,p,m,es,rfl,hw,t0,t1,k⟩:=h
    refine ⟨_,pss_cons (ps_set (i:=3) scFe.nd rfl (Or.inl rfl) (pe_ix (ixT (K:=K) rfl) (pTies (K:=K) rfl T.web (pv 0)) (pv 1) (fun _ _=>rfl)))
      (pss_one (ps_ret (pe_ifExp (pt_cmpR op_eq (pe_ix (ixT (K:=K) rfl) (pv 3) (pe_int) (fun _ _=>rfl)) (pv 2) (nomark _)) (pe_ix (ixT (K:=K) rfl) (pv 3) (pe_int) (fun _ _=>rfl)) (pe_ix (ixT (K:=K) rfl) (pv 3) (pe_int) (fun _ _=>rfl))))),?_⟩
    refine ⟨_,rfl,x,m,es,rfl,hw,fun tt ys ht hp=>?_⟩
    obtain ⟨r,ar,hr2,_⟩:=tie_get hp t0 t1
    unfold far at k
    refine ⟨_,rfl,tt,ys,t,.ref r,rfl,rfl,SqT.of ht,ar,?_⟩
    refine ⟨_,rfl,r,_,0,_,rfl,rfl,hr2,rfl,_,rfl,rfl,_,rfl,ite2 (fun c1=>?_) (fun c1=>?_)⟩
    · have c1':=of_decide_eq_true c1
      injection c1' with c1'
      rw [if_pos c1'] at k
      exact ⟨_,rfl,r,_,1,_,rfl,rfl,hr2,rfl,k⟩
    · rw [if_neg (fun z=>c1 (decide_eq_true (by rw [z])))] at k
      exact ⟨_,rfl,r,_,0,_,rfl,rfl,hr2,rfl,k⟩
structure FwI (H:Hp) (m:Int) (es:List (Int×Int)) (ss:List Int) (a:Int) (d r:Addr) (H2:Hp) (rs:List Int) (ad:Int→Addr) (wy pl:Int→List Int):Prop where
  same:Same H H2
  dd:H2 d=some (.dK (rs.map fun p=>((Sum.inl p:Key),V.ref (ad p))))
  rr:H2 r=some (.lst (rs.map V.int))
  nd:rs.Nodup
  rng:∀p∈rs,0≤p∧p<m
  a0:a∈rs
  cell:∀p∈rs,H (ad p)=none∧ad p≠r∧H2 (ad p)=some (.lst ((wy p).map V.int))
  way:∀p∈rs,Way es ss a (wy p) (pl p) p∧∀q∈pl p,q∈rs
def spFw (K:PySem.W.Frag) (c:Cs):Sp:=fun vs H Q _=>∃(x q:Addr) (a b m:Int) (es:List (Int×Int)) (ss:List Int),vs=[.ref x,.ref q,.int a,.int b]∧WebAt K c.Web H x m es∧SqL K H q (ss.map V.int)∧(∀t∈ss,0≤t∧t<(es.length:Int))∧ss.length≤900∧0≤a∧a<m∧m≤20∧EndsIn es m ∧
  (¬Cn (sub es ss) a b→∀H',Same H H'→Q .non H')∧(∀l ts ps H',Same H H'→H l=none→H' l=some (.lst (ts.map V.int))→Way es ss a ts ps b→Q (.ref l) H')
theorem scFw:FnScope ["web","some","start","goal","ways","reached","step","place","tie","other"] ["web","some","start","goal"] (defScope sFw):=⟨rfl,rfl,rfl,by decide +kernel,rfl,by decide +kernel,by decide +kernel⟩
set_option maxHeartbeats 8000000 in
theorem ok_Fw {f:Addr} {fd:FuncData} (F:Fun K "find_way" "find_way" sFw f fd) (T:Txt K mg c) (D_Fe:Def P w K mg base 1 "far_end" ["web","tie","place"] (spFe K c)):FnOk P w K mg base CX0 2 f fd ["web","some","start","goal"] (spFw K c):=by
  refine F.ok scFw (fun vs H Q E h=>?_) (fun cdv A outer s H vs Q E hr h=>?_)
  · obtain ⟨x,q,a,b,m,es,ss,rfl,_⟩:=h
    rfl
  · obtain ⟨x,q,a,b,m,es,ss,rfl,hw,hq,hss,hsl,a0,a1,m2,hE,k1,k2⟩:=h
    refine ⟨_,pss_cons (ps_set (i:=4) scFw.nd rfl (Or.inl rfl) (pe_disp (pps_cons (pv 2) (pe_lst pa_nil) (pps_nil)) rfl rfl (by simp) (by decide)))
      (pss_cons (ps_set (i:=5) scFw.nd rfl (Or.inl rfl) (pe_lst (pa_cons (pv 2) pa_nil)))
      (pss_cons (ps_set (i:=6) scFw.nd rfl (Or.inl rfl) (pe_int))
      (pss_cons (ps_while PassesOwn.never (PW.pt (pw_and (pt_cmp (pc_dnotin (hu_of hr) (pv 3) (pv 4))) (pw_and1 (pt_cmpR op_lt (pv 6) (pe_callB (cLen (K:=K) rfl) (by rfl) T.len PySem.boot_len (pa_cons (pv 5) pa_nil)) (nomark _)))))
        (pss_cons (ps_set (i:=7) scFw.nd rfl (Or.inr rfl) (pe_ix (ixL (K:=K) rfl) (pv 5) (pv 6) (fun _ _=>rfl)))
      (pss_cons (ps_for PassesOwn.never rfl (piSeqB (K:=K) rfl (pe_lc (N':=["one","web","place"]) (nl:=1) (js:=[0,7]) rfl (.of (osc:=defScope sFw) (N:=["web","some","start","goal","ways","reached","step","place","tie","other"]) (by decide +kernel) rfl rfl) (piSeq (K:=K) rfl (pv 1))
        (fun _ _ _ _=>pg_name (i:=0) (show (["one","web","place"]:List Str).Nodup by decide +kernel) rfl (Or.inl rfl)) (fun _ _ _ _=>pif_one (pt_cmpR (opIn (K:=K) rfl) (pv 2) (pe_ix (ixT (K:=K) rfl) (pTies (K:=K) rfl T.web (pv 1)) (pv 0) (fun _ _=>rfl)) (by with_unfolding_all rfl)))
        (fun _ _ _ _=>pv 0))) (pg_name (i:=8) scFw.nd rfl (Or.inl rfl))
        (pss_cons (ps_set (i:=9) scFw.nd rfl (Or.inl rfl) (pe_defR D_Fe hr (pa_cons (pv 0) (pa_cons (pv 8) (pa_cons (pv 7) pa_nil)))))
      (pss_one (ps_cut (ps_if (pt_cmp (pc_dnotin (hu_of hr) (pv 9) (pv 4)))
        (pss_cons (ps_dput (hu_of hr) (pv 4) (pv 9) (pe_op op_cat (pe_dget (hu_of hr) (pv 4) (pv 7) (fun _ _=>rfl)) (pe_lst (pa_cons (pv 8) pa_nil))) rfl)
      (pss_one (ps_expr (pe_bm PySem.F.plainAttrs_list PySem.F.slot_list_append PySem.F.type_list_append mt_append (pv 5) (pa_cons (pv 9) pa_nil))))) (pss_nil))))))
      (pss_one (ps_aug (i:=6) scFw.nd rfl (Or.inl rfl) (pe_int) ip_add)))))
      (pss_one (ps_ret (pe_dget1 (hu_of hr) (pv 4) (pv 3) ⟨rfl,rfl,rfl,rfl⟩)))))),?_⟩
    intro d nd
    have s1:Same H (upd H d (.dK [])):=Same.new nd
    have d1:(upd H d (.dK [])) d=some (.dK []):=upd_same
    generalize upd H d (.dK [])=H1 at s1 d1
    refine ⟨_,rfl,by decide,fun l0 nl0=>?_⟩
    have s2:=s1.next (o:=.lst []) nl0
    have d2:=Same.new (o:=.lst []) nl0 _ _ d1
    have e2:(upd H1 l0 (.lst [])) l0=some (.lst []):=upd_same
    have l0H:H l0=none:=none_back s1 nl0
    generalize upd H1 l0 (.lst [])=H2 at s2 d2 e2
    refine ⟨d2,[(Sum.inl a,.ref l0)],rfl,(by show 1≤15;decide),?_⟩
    have d3:(upd H2 d (.dK (mergeK [] [((Sum.inl a:Key),V.ref l0)]))) d=some (.dK ([a].map fun p=>((Sum.inl p:Key),V.ref l0))):=upd_same
    have s3:Same H (upd H2 d (.dK (mergeK [] [((Sum.inl a:Key),V.ref l0)]))):=s2.upd nd
    have e3:(upd H2 d (.dK (mergeK [] [((Sum.inl a:Key),V.ref l0)]))) l0=some (.lst []):=by rw [upd_ne (ne_of_none d1 nl0).symm];exact e2
    generalize upd H2 d (.dK (mergeK [] [((Sum.inl a:Key),V.ref l0)]))=H3 at d3 s3 e3
    refine ⟨_,rfl,(by show 1≤sizeLine;decide),fun r nr=>?_⟩
    have s4:=s3.next (o:=.lst [V.int a]) nr
    have d4:=Same.new (o:=.lst [V.int a]) nr _ _ d3
    have e4:=Same.new (o:=.lst [V.int a]) nr _ _ e3
    have r4:(upd H3 r (.lst [V.int a])) r=some (.lst ([a].map V.int)):=upd_same
    have rH:H r=none:=none_back s3 nr
    have lr:l0≠r:=ne_of_none e3 nr
    generalize upd H3 r (.lst [V.int a])=H4 at s4 d4 e4 r4
    clear s3 d3 e3 s2 d2 e2 nl0 s1 d1 nr
    have drn:d≠r:=ne_of d4 r4 (by intro z;cases z)
    refine ⟨fun n σ H2=>∃(rs:List Int) (st:Nat) (ad:Int→Addr) (wy pl:Int→List Int) (v7 v8 v9:Option V),n=m.toNat-st∧σ=[some (.ref x),some (.ref q),some (.int a),some (.int b),some (.ref d),some (.ref r),some (.int st),v7,v8,v9]∧FwI H m es ss a d r H2 rs ad wy pl∧st≤rs.length ∧
      (∀j,j<st→∀t∈ss,((tieOf es t).1=rs.getD j 0∨(tieOf es t).2=rs.getD j 0)→far (tieOf es t) (rs.getD j 0)∈rs),⟨m.toNat-0,[a],0,fun _=>l0,fun _=>[],fun _=>[],none,none,none,rfl,rfl,?_,Nat.zero_le _,fun j hj=>absurd hj (Nat.not_lt_zero _)⟩,?_⟩
    · refine ⟨s4,d4,r4,by simp,fun p hp=>?_,List.mem_singleton.mpr rfl,fun p hp=>⟨l0H,lr,e4⟩,fun p hp=>?_⟩
      · rw [List.mem_singleton.mp hp];exact ⟨a0,a1⟩
      · rw [List.mem_singleton.mp hp];exact ⟨.nil,fun q hq=>nomatch hq⟩
    rintro n σ H5 ⟨rs,st,ad,wy,pl,v7,v8,v9,rfl,rfl,I,hst,clo⟩
    have hrl:=nodup_len I.nd I.rng
    refine ⟨_,rfl,_,rfl,d,_,rfl,DGet.k (k:=Sum.inl b) I.dd,_,rfl,?_⟩
    rw [valV_key]
    by_cases hb:b∈rs
    · rw [if_pos hb]
      refine iteF (iteF ?_)
      obtain ⟨n1,_,c1⟩:=I.cell b hb
      refine ⟨_,rfl,d,rfl,.inl ⟨_,.inl I.dd⟩,_,rfl,_,DGet.k (k:=Sum.inl b) I.dd,?_⟩
      rw [valV_key,if_pos hb]
      exact k2 (ad b) (wy b) (pl b) H5 I.same n1 c1 (I.way b hb).1
    · rw [if_neg hb]
      refine iteT ⟨_,rfl,_,rfl,r,_,rfl,.inl (SqL.of I.rr),_,_,rfl,rfl,_,rfl,?_⟩
      have hlm:(rs.map V.int).length=rs.length:=List.length_map ..
      by_cases hlt:st<rs.length
      · rw [decide_eq_true (show (st:Int)<((rs.map V.int).length:Int) by omega)]
        refine iteT ⟨_,fun σ' H' h=>h,?_⟩
        have hpm:rs.getD st 0∈rs:=by rw [List.getD_eq_getElem?_getD,List.getElem?_eq_getElem hlt];exact List.getElem_mem hlt
        have hat:atI (rs.map V.int) (st:Int)=some (.int (rs.getD st 0)):=at_int (ns:=rs) (k:=(st:Int)) (by omega) (by omega)
        refine ⟨_,rfl,_,rfl,r,_,_,_,rfl,rfl,SqL.of I.rr,hat,?_⟩
        obtain ⟨p,ep⟩:∃p,p=rs.getD st 0:=⟨_,rfl⟩
        rw [←ep] at hpm
        have hw5:=hw.same I.same
        refine ⟨_,rfl,q,_,rfl,.inl (I.same.seq hq),fun J C O hC=>lc_by O (fun i ys H6=>H6=H5∧ys=((ss.take i).filter fun t=>atP (rs.getD st 0) (tieOf es t)).map V.int) (by rw [List.length_map];exact Nat.le_of_lt (small1000 (by omega))) ⟨rfl,rfl⟩ ?_ ?_ ?_⟩
        · rintro i ys H6 hi ⟨rfl,rfl⟩
          refine ⟨hC _ (Same.refl _),?_⟩
          rw [List.length_map]
          exact Nat.le_trans (List.length_filter_le _ _) (by rw [List.length_take];omega)
        · rintro i ys H6 hi ⟨rfl,rfl⟩
          obtain ⟨v,ev,gv⟩:=getD_map_int hi
          rw [List.length_map] at hi
          have hv:=hss v (List.mem_of_getElem? gv)
          have hyl:(((ss.take i).filter fun t=>atP (rs.getD st 0) (tieOf es t)).map V.int).length<sizeLine:=small1000 (by
            rw [List.length_map]
            have:=List.length_filter_le (fun t=>atP (rs.getD st 0) (tieOf es t)) (ss.take i)
            rw [List.length_take] at this;omega)
          try dsimp only
          rw [ev]
          refine ⟨wk_set rfl,_,rfl,_,rfl,x,m,es,rfl,hw5,fun tt ys ht hp=>?_⟩
          obtain ⟨r2,ar,hr2,_⟩:=tie_get hp hv.1 hv.2
          refine ⟨_,rfl,tt,ys,v,.ref r2,rfl,rfl,SqT.of ht,ar,r2,_,rfl,.inr hr2,rfl,rfl,_,rfl,?_⟩
          rw [if_neg Bool.false_ne_true,show inV (V.int (rs.getD st 0)) [V.int (tieOf es v).1,V.int (tieOf es v).2]=atP (rs.getD st 0) (tieOf es v) from inV_at ..]
          refine ite2 (fun c1=>?_) (fun c1=>?_)
          · refine ⟨_,rfl,hyl,_,by rw [List.length_map];omega,rfl,by rw [List.length_map];omega,rfl,?_⟩
            rw [take_snoc gv,List.filter_append,List.map_append,List.filter_cons_of_pos (p:=fun t=>atP (rs.getD st 0) (tieOf es t)) c1];rfl
          · refine ⟨_,by rw [List.length_map];omega,rfl,by rw [List.length_map];omega,rfl,?_⟩
            rw [take_snoc gv,List.filter_append,List.map_append,List.filter_cons_of_neg (p:=fun t=>atP (rs.getD st 0) (tieOf es t)) c1];exact (List.append_nil _).symm
        · rintro ys H6 ⟨rfl,rfl⟩ l nl
          rw [List.length_map,List.take_length,←ep]
          have sN:=Same.new (o:=.lst ((ss.filter fun t=>atP p (tieOf es t)).map V.int)) nl
          have eN:(upd H6 l (.lst ((ss.filter fun t=>atP p (tieOf es t)).map V.int))) l=some (.lst ((ss.filter fun t=>atP p (tieOf es t)).map V.int)):=upd_same
          generalize upd H6 l (.lst ((ss.filter fun t=>atP p (tieOf es t)).map V.int))=H7 at sN eN
          have I7:FwI H m es ss a d r H7 rs ad wy pl:=⟨I.same.trans sN,sN _ _ I.dd,sN _ _ I.rr,I.nd,I.rng,I.a0,fun p hp=>⟨(I.cell p hp).1,(I.cell p hp).2.1,sN _ _ (I.cell p hp).2.2⟩,I.way⟩
          have nlr:l≠r:=(ne_of_none I.rr nl).symm
          have nld:l≠d:=(ne_of_none I.dd nl).symm
          have nlH:H l=none:=none_back I.same nl
          refine ⟨false,l,_,rfl,SqL.of eN,fun J C O hC=>for_by O (fun i σ H8=>∃(rs':List Int) (ad:Int→Addr) (wy pl:Int→List Int) (v8 v9:Option V),σ=[some (.ref x),some (.ref q),some (.int a),some (.int b),some (.ref d),some (.ref r),some (.int st),some (.int p),v8,v9]∧FwI H m es ss a d r H8 rs' ad wy pl∧(∃more,rs'=rs++more) ∧
            H8 l=some (.lst ((ss.filter fun t=>atP p (tieOf es t)).map V.int))∧∀t∈(ss.filter fun t=>atP p (tieOf es t)).take i,far (tieOf es t) p∈rs') ⟨rs,ad,wy,pl,_,_,rfl,I7,⟨[],(List.append_nil _).symm⟩,eN,fun t ht=>(by simp at ht)⟩ (fun i σ H8 _ h=>?_) ?_ ?_⟩
          · obtain ⟨rs',ad,wy,pl,v8,v9,_,_,_,l8,_⟩:=h
            exact hC _ (SqL.of l8)
          · rintro i σ H8 hi ⟨rs',ad,wy,pl,v8,v9,rfl,I8,⟨more,em⟩,l8,hdone⟩
            obtain ⟨v,ev,gv⟩:=getD_map_int hi
            have hvF:=List.mem_filter.mp (List.mem_of_getElem? gv)
            have hv:=hss v hvF.1
            have hva:=atP_iff.mp hvF.2
            have hp8:p∈rs':=by rw [em];exact List.mem_append_left _ hpm
            have hw8:=hw.same I8.same
            obtain ⟨_,_,_,hte⟩:∃dx t xs,tieOf es v∈es:=⟨0,0,0,by
              unfold tieOf
              rw [List.getD_eq_getElem?_getD,List.getElem?_eq_getElem (show v.toNat<es.length by omega)];exact List.getElem_mem _⟩
            have hb4:=hE _ hte
            have hor:0≤far (tieOf es v) p∧far (tieOf es v) p<m:=by
              unfold far;split
              · exact ⟨hb4.2.2.1,hb4.2.2.2⟩
              · exact ⟨hb4.1,hb4.2.1⟩
            try dsimp only
            rw [ev]
            refine ⟨_,rfl,_,rfl,_,rfl,x,v,p,m,es,rfl,hw8,hv.1,hv.2,?_⟩
            obtain ⟨o,eo⟩:∃o,o=far (tieOf es v) p:=⟨_,rfl⟩
            refine ⟨fun σ' H'=>∃(rs':List Int) (ad:Int→Addr) (wy pl:Int→List Int),σ'=[some (.ref x),some (.ref q),some (.int a),some (.int b),some (.ref d),some (.ref r),some (.int st),some (.int p),some (.int v),some (.int (far (tieOf es v) p))]∧FwI H m es ss a d r H' rs' ad wy pl∧(∃more,rs'=rs++more) ∧
              H' l=some (.lst ((ss.filter fun t=>atP p (tieOf es t)).map V.int))∧∀t∈(ss.filter fun t=>atP p (tieOf es t)).take (i+1),far (tieOf es t) p∈rs',?_,?_⟩
            · refine ⟨_,rfl,_,rfl,d,_,rfl,DGet.k (k:=Sum.inl (far (tieOf es v) p)) I8.dd,_,rfl,?_⟩
              rw [valV_key,←eo]
              rw [←eo] at hor
              by_cases ho:o∈rs'
              · rw [if_pos ho]
                refine iteF ⟨rs',ad,wy,pl,rfl,I8,⟨more,em⟩,l8,fun t ht=>?_⟩
                rw [take_snoc gv] at ht
                rcases List.mem_append.mp ht with y | y
                · exact hdone t y
                · rw [List.mem_singleton.mp y,←eo];exact ho
              · rw [if_neg ho]
                refine iteT ?_
                obtain ⟨n1,nr1,c1⟩:=I8.cell p hp8
                obtain ⟨wp,wq⟩:=I8.way p hp8
                have hwl:(wy p).length≤20:=by
                  rw [wp.len]
                  have:=nodup_len (m:=m) wp.nd fun z hz=>by
                    rcases List.mem_append.mp hz with y | y
                    · exact I8.rng z (wq z y)
                    · rw [List.mem_singleton.mp y];exact I8.rng p hp8
                  rw [List.length_append] at this
                  omega
                have hrl8:=nodup_len I8.nd I8.rng
                refine ⟨_,rfl,_,rfl,d,.ref (ad p),rfl,?_,_,rfl,(by show 1≤sizeLine;decide),fun q1 nq1=>?_⟩
                · have:=DGet.k (k:=Sum.inl p) I8.dd
                  rw [valV_key,if_pos hp8] at this
                  exact this
                have s9:=Same.new (o:=.lst [V.int v]) nq1
                have e9:(upd H8 q1 (.lst [V.int v])) q1=some (.lst [V.int v]):=upd_same
                generalize upd H8 q1 (.lst [V.int v])=H9 at s9 e9
                refine ⟨ad p,q1,_,_,rfl,rfl,s9 _ _ c1,e9,Nat.le_of_lt (small1000 (by rw [List.length_map];show (wy p).length+1≤1000;omega)),fun q2 nq2=>?_⟩
                rw [show (wy p).map V.int++[V.int v]=(wy p++[v]).map V.int by rw [List.map_append];rfl]
                have s10:=s9.next (o:=.lst ((wy p++[v]).map V.int)) nq2
                have e10:(upd H9 q2 (.lst ((wy p++[v]).map V.int))) q2=some (.lst ((wy p++[v]).map V.int)):=upd_same
                generalize upd H9 q2 (.lst ((wy p++[v]).map V.int))=H10 at s10 e10
                have q2H8:H8 q2=none:=none_back s9 nq2
                have d10:=s10 _ _ I8.dd
                have r10:=s10 _ _ I8.rr
                have pk:putK (rs'.map fun p=>((Sum.inl p:Key),V.ref (ad p))) (Sum.inl o) (V.ref q2)=(rs'++[o]).map fun z=>((Sum.inl z:Key),V.ref (if z=o then q2 else ad z)):=by
                  rw [putK_new _ (by rw [valV_key,if_neg ho]),List.map_append]
                  congr 1
                  · refine List.map_congr_left fun z hz=>?_
                    rw [if_neg (show ¬z=o from fun y=>ho (y▸hz))]
                  · rw [List.map_cons,List.map_nil,if_pos rfl]
                refine ⟨_,rfl,_,rfl,d,_,rfl,DPut.k (k:=Sum.inl o) d10 (small1000 (by rw [List.length_map];omega)),?_⟩
                rw [pk]
                have r11:(upd H10 d (.dK ((rs'++[o]).map fun z=>((Sum.inl z:Key),V.ref (if z=o then q2 else ad z))))) r=some (.lst (rs'.map V.int)):=by rw [upd_ne drn.symm];exact r10
                refine ⟨_,rfl,.inl ⟨rfl,_,SqL.of r11⟩,_,rfl,r,_,_,rfl,rfl,r11,small1000 (by rw [List.length_map];omega),?_⟩
                have q2r:q2≠r:=(ne_of_none I8.rr q2H8).symm
                have q2d:q2≠d:=(ne_of_none I8.dd q2H8).symm
                have lq:∀z∈rs',ad z≠d:=fun z hz=>ne_of (I8.cell z hz).2.2 I8.dd (by intro y;cases y)
                refine ⟨rs'++[o],fun z=>if z=o then q2 else ad z,fun z=>if z=o then wy p++[v] else wy z,fun z=>if z=o then pl p++[p] else pl z,rfl,⟨((I8.same.trans s10).upd nd).upd rH,?_,?_,nodup_snoc I8.nd ho,fun z hz=>?_,List.mem_append_left _ I8.a0,fun z hz=>?_,fun z hz=>?_⟩,⟨more++[o],by rw [em,List.append_assoc]⟩,?_,fun t ht=>?_⟩
                · rw [upd_ne drn];exact upd_same
                · rw [show (rs'++[o]).map V.int=rs'.map V.int++[V.int o] by rw [List.map_append];rfl];exact upd_same
                · rcases List.mem_append.mp hz with y | y
                  · exact I8.rng z y
                  · rw [List.mem_singleton.mp y];exact hor
                · try dsimp only
                  rcases List.mem_append.mp hz with y | y
                  · have hne:¬z=o:=fun w=>ho (w▸y)
                    obtain ⟨n2,nr2,c2⟩:=I8.cell z y
                    rw [if_neg hne,if_neg hne]
                    exact ⟨n2,nr2,by rw [upd_ne nr2,upd_ne (lq z y)];exact s10 _ _ c2⟩
                  · rw [if_pos (List.mem_singleton.mp y),if_pos (List.mem_singleton.mp y)]
                    exact ⟨none_back I8.same q2H8,q2r,by rw [upd_ne q2r,upd_ne q2d];exact e10⟩
                · try dsimp only
                  rcases List.mem_append.mp hz with y | y
                  · have hne:¬z=o:=fun w=>ho (w▸y)
                    rw [if_neg hne,if_neg hne]
                    exact ⟨(I8.way z y).1,fun w hw=>List.mem_append_left _ ((I8.way z y).2 w hw)⟩
                  · have hzo:=List.mem_singleton.mp y
                    rw [if_pos hzo,if_pos hzo,hzo,eo]
                    refine ⟨.snoc wp hvF.1 hv.1 hv.2 hva fun w=>?_,fun w hw=>?_⟩
                    · rw [←eo] at w
                      rcases List.mem_append.mp w with y | y
                      · exact ho (wq _ y)
                      · exact ho (List.mem_singleton.mp y▸hp8)
                    · rcases List.mem_append.mp hw with y | y
                      · exact List.mem_append_left _ (wq _ y)
                      · rw [List.mem_singleton.mp y];exact List.mem_append_left _ hp8
                · rw [upd_ne nlr,upd_ne nld];exact s10 _ _ l8
                · rw [take_snoc gv] at ht
                  rcases List.mem_append.mp ht with y | y
                  · exact List.mem_append_left _ (hdone t y)
                  · rw [List.mem_singleton.mp y,←eo];exact List.mem_append_right _ (List.mem_singleton.mpr rfl)
            · rintro σ' H' ⟨rs',ad,wy,pl,rfl,I',ext,l',hdone'⟩
              exact ⟨rs',ad,wy,pl,_,_,rfl,I',ext,l',hdone'⟩
          · rintro σ H8 ⟨rs',ad,wy,pl,v8,v9,rfl,I8,⟨more,em⟩,l8,hdone⟩
            rw [List.length_map,List.take_length] at hdone
            have hrl8:=nodup_len I8.nd I8.rng
            refine ⟨_,rfl,_,_,rfl,rfl,m.toNat-(st+1),by omega,rs',st+1,ad,wy,pl,_,_,_,rfl,rfl,I8,by rw [em,List.length_append];omega,fun j hj t ht hta=>?_⟩
            by_cases hjs:j<st
            · have ej:rs'.getD j 0=rs.getD j 0:=by rw [em,List.getD_eq_getElem?_getD,List.getElem?_append_left (by omega),List.getD_eq_getElem?_getD]
              rw [ej] at hta ⊢
              rw [em]
              exact List.mem_append_left _ (clo j hjs t ht hta)
            · have hje:j=st:=by omega
              have ej:rs'.getD j 0=p:=by rw [hje,ep,em,List.getD_eq_getElem?_getD,List.getElem?_append_left hlt,List.getD_eq_getElem?_getD]
              rw [ej] at hta ⊢
              exact hdone t (List.mem_filter.mpr ⟨ht,atP_iff.mpr hta⟩)
      · rw [decide_eq_false (show ¬(st:Int)<((rs.map V.int).length:Int) by omega)]
        refine iteF ?_
        refine ⟨_,rfl,d,rfl,.inl ⟨_,.inl I.dd⟩,_,rfl,_,DGet.k (k:=Sum.inl b) I.dd,?_⟩
        rw [valV_key,if_neg hb]
        refine k1 (fun h=>hb (cn_closed I.a0 (fun e he p hp hep=>?_) h)) H5 I.same
        obtain ⟨t,ht,rfl⟩:=List.mem_map.mp he
        obtain ⟨j,hj,rfl⟩:=List.mem_iff_getElem.mp hp
        have ej:rs.getD j 0=rs[j]:=by rw [List.getD_eq_getElem?_getD,List.getElem?_eq_getElem hj];rfl
        have:=clo j (by omega) t ht (by rw [ej];exact hep)
        rwa [ej] at this
def spFr (K:PySem.W.Frag) (c:Cs):Sp:=fun vs H Q _=>∃(x:Addr) (m:Int) (es:List (Int×Int)),vs=[.ref x]∧WebAt K c.Web H x m es∧1≤m∧m≤20∧es.length≤40∧EndsIn es m∧∀l H',H l=none→Same H H'→H' l=some (.lst ((frst es).map V.int))→Q (.ref l) H'
theorem scFr:FnScope ["web","labels","taken","tie","ends"] ["web"] (defScope sFr):=⟨rfl,rfl,rfl,by decide +kernel,rfl,by decide +kernel,by decide +kernel⟩
set_option maxHeartbeats 4000000 in
theorem ok_Fr {f:Addr} {fd:FuncData} (F:Fun K "forest" "forest" sFr f fd) (T:Txt K mg c) (D_Me:Def P w K mg base 1 "merged" ["labels","one","two"] (spMe K)):FnOk P w K mg base CX0 2 f fd ["web"] (spFr K c):=by
  refine F.ok scFr (fun vs H Q E h=>?_) (fun cdv A outer s H vs Q E hr h=>?_)
  · obtain ⟨x,m,es,rfl,_⟩:=h
    rfl
  · obtain ⟨x,m,es,rfl,hw,m1,m2,hz,hE,k⟩:=h
    refine ⟨_,pss_cons (ps_set (i:=1) scFr.nd rfl (Or.inl rfl) (pe_listrange1 rfl rfl T.list rfl T.range (pa_cons (pMany (K:=K) rfl T.web (pv 0)) pa_nil)))
      (pss_cons (ps_set (i:=2) scFr.nd rfl (Or.inl rfl) (pe_lst pa_nil))
      (pss_cons (ps_for PassesOwn.never rfl (pi_enum (K:=K) rfl rfl T.enumerate (pa_cons (pTies (K:=K) rfl T.web (pv 0)) pa_nil)) (pgTup (K:=K) (n:=2) rfl rfl (pgs_cons (pg_name (i:=3) scFr.nd rfl (Or.inl rfl)) (pgs_cons (pg_name (i:=4) scFr.nd rfl (Or.inl rfl)) (pgs_nil))) rfl)
        (pss_one (ps_cut (ps_if (pt_cmpR op_ne (pe_ix (ixL (K:=K) rfl) (pv 1) (pe_ix (ixT (K:=K) rfl) (pv 4) (pe_int) (fun _ _=>rfl)) (fun _ _=>rfl)) (pe_ix (ixL (K:=K) rfl) (pv 1) (pe_ix (ixT (K:=K) rfl) (pv 4) (pe_int) (fun _ _=>rfl)) (fun _ _=>rfl)) (nomark _))
        (pss_cons (ps_expr (pe_bm PySem.F.plainAttrs_list PySem.F.slot_list_append PySem.F.type_list_append mt_append (pv 2) (pa_cons (pv 3) pa_nil)))
      (pss_one (ps_set (i:=1) scFr.nd rfl (Or.inl rfl) (pe_defR D_Me hr (pa_cons (pv 1) (pa_cons (pe_ix (ixT (K:=K) rfl) (pv 4) (pe_int) (fun _ _=>rfl)) (pa_cons (pe_ix (ixT (K:=K) rfl) (pv 4) (pe_int) (fun _ _=>rfl)) pa_nil))))))) (pss_nil)))))
      (pss_one (ps_ret (pv 2))))),?_⟩
    refine ⟨_,rfl,x,m,es,rfl,hw,m,rfl,by omega,by omega,fun l0 nl0=>?_⟩
    have s0:Same H (upd H l0 (.lst (((List.range m.toNat).map fun i=>0+((i:Nat):Int)).map V.int))):=Same.new nl0
    have e0:(upd H l0 (.lst (((List.range m.toNat).map fun i=>0+((i:Nat):Int)).map V.int))) l0=some (.lst (((List.range m.toNat).map fun i=>0+((i:Nat):Int)).map V.int)):=upd_same
    generalize upd H l0 (.lst (((List.range m.toNat).map fun i=>0+((i:Nat):Int)).map V.int))=H0 at s0 e0
    refine ⟨by decide,fun tk ntk=>?_⟩
    have s1:=s0.next (o:=.lst []) ntk
    have e1:=Same.new (o:=.lst []) ntk _ _ e0
    have k1:(upd H0 tk (.lst [])) tk=some (.lst []):=upd_same
    have tkH:H tk=none:=none_back s0 ntk
    generalize upd H0 tk (.lst [])=H1 at s1 e1 k1
    have nlt:l0≠tk:=ne_of_none e0 ntk
    refine ⟨_,rfl,x,m,es,rfl,hw.same s1,fun t ys ht hp=>⟨true,t,ys,rfl,SqT.of ht,fun J C O hC=>?_⟩⟩
    have hpl:=hp.len
    have ntt:t≠tk:=ne_of ht k1 (by intro z;cases z)
    refine for_byP O (fun i σ H2=>∃(lb:Addr) (ls:List Int) (v3 v4:Option V),σ=[some (.ref x),some (.ref lb),some (.ref tk),v3,v4]∧Same H H2∧SameX tk H1 H2∧lb≠tk∧H2 lb=some (.lst (ls.map V.int))∧H2 tk=some (.lst ((frN es i).map V.int))∧ls.length=m.toNat∧Lab m (es.take i) (lf ls)) ⟨l0,_,none,none,rfl,s1,fun _ _ _ z=>z,nlt,e1,k1,by rw [List.length_map,List.length_range],(Lab.nil m).congr (fun e he=>(nomatch he)) fun p p0 p1=>(lf_range m.toNat p p0 (by omega)).symm⟩ (fun i σ H2 _ h=>?_) ?_ ?_
    · obtain ⟨lb,ls,v3,v4,_,_,sx,_⟩:=h
      exact hC _ (SqT.of (sx _ _ ntt ht))
    · rintro i σ H2 p hi ⟨lb,ls,v3,v4,rfl,s2,sx2,hlt,hl2,ht2,hll,hL⟩ hp2
      obtain ⟨r,e,er,hr2,ei,he⟩:=hp.at hi
      obtain ⟨b1,b2,b3,b4⟩:=hE e he
      have hr1:SqT K H2 r [.int e.1,.int e.2]:=by
        exact sx2.tup k1 hr2
      have hE1:es.getD i (0,0)=e:=by rw [List.getD_eq_getElem?_getD,ei];rfl
      have hfl:=frN_len es i
      dsimp only
      rw [er]
      have s3:=Same.new (o:=.tup [.int (i:Nat),.ref r]) hp2
      have t3:(upd H2 p (.tup [.int (i:Nat),.ref r])) p=some (.tup [.int (i:Nat),.ref r]):=upd_same
      refine ⟨p,_,rfl,SqT.of t3,rfl,_,_,rfl,_,_,rfl,rfl,?_⟩
      generalize upd H2 p (.tup [.int (i:Nat),.ref r])=H3 at s3 t3
      have hl3:=s3 _ _ hl2
      have ht3:=s3 _ _ ht2
      have hr3:=s3.tup hr1
      have a1:atI (ls.map V.int) e.1=some (.int (lf ls e.1)):=at_int (ns:=ls) b1 (by omega)
      have a2:atI (ls.map V.int) e.2=some (.int (lf ls e.2)):=at_int (ns:=ls) b3 (by omega)
      refine ⟨fun σ' H'=>∃(lb:Addr) (ls:List Int),σ'=[some (.ref x),some (.ref lb),some (.ref tk),some (.int (i:Nat)),some (.ref r)]∧Same H H'∧SameX tk H1 H'∧lb≠tk∧H' lb=some (.lst (ls.map V.int))∧H' tk=some (.lst ((frN es (i+1)).map V.int))∧ls.length=m.toNat∧Lab m (es.take (i+1)) (lf ls),?_,?_⟩
      · refine ⟨_,rfl,_,rfl,r,_,0,_,rfl,rfl,hr3,rfl,lb,_,_,_,rfl,rfl,SqL.of hl3,a1,_,rfl,_,rfl,r,_,1,_,rfl,rfl,hr3,rfl,lb,_,_,_,rfl,rfl,SqL.of hl3,a2,rfl,_,rfl,?_⟩
        have hiff:=(hL.iff b1 b2 b3 b4)
        rw [take_snoc ei,frN_succ]
        by_cases c1:lf ls e.1=lf ls e.2
        · rw [decide_eq_true (show V.int (lf ls e.1)=V.int (lf ls e.2) by rw [c1])]
          have hn:¬inF es i=true:=fun z=>(inF_iff.mp z) (by rw [hE1];exact hiff.mp c1)
          rw [if_neg hn,List.append_nil]
          exact iteF ⟨lb,ls,rfl,s2.trans s3,fun b o hb z=>s3 _ _ (sx2 b o hb z),hlt,hl3,ht3,hll,hL.skip c1⟩
        · rw [decide_eq_false (show ¬V.int (lf ls e.1)=V.int (lf ls e.2) by intro z;injection z with z;exact c1 z)]
          have hn:inF es i=true:=inF_iff.mpr (by rw [hE1];exact fun z=>c1 (hiff.mpr z))
          rw [if_pos hn]
          refine iteT ⟨_,rfl,.inl ⟨rfl,_,SqL.of ht3⟩,_,rfl,tk,_,_,rfl,rfl,ht3,small1000 (by rw [List.length_map];omega),?_⟩
          have x4:SameX tk H3 (upd H3 tk (.lst ((frN es i).map V.int++[V.int (i:Int)]))):=sameX_upd
          have t4:(upd H3 tk (.lst ((frN es i).map V.int++[V.int (i:Int)]))) tk=some (.lst ((frN es i++[(i:Int)]).map V.int)):=by rw [List.map_append];exact upd_same
          have s4:Same H (upd H3 tk (.lst ((frN es i).map V.int++[V.int (i:Int)]))):=(s2.trans s3).upd tkH
          generalize upd H3 tk (.lst ((frN es i).map V.int++[V.int (i:Int)]))=H4 at x4 t4 s4
          have hl4:=x4 _ _ hlt hl3
          have hr4:SqT K H4 r [.int e.1,.int e.2]:=x4.tup ht3 hr3
          refine ⟨_,rfl,_,rfl,r,_,0,_,rfl,rfl,hr4,rfl,_,rfl,r,_,1,_,rfl,rfl,hr4,rfl,lb,e.1,e.2,ls,rfl,SqL.of hl4,by omega,b1,by omega,b3,by omega,fun l5 H5 nl5 s5 e5=>?_⟩
          refine ⟨l5,_,rfl,s4.trans s5,fun b o hb z=>s5 _ _ (x4 _ _ hb (s3 _ _ (sx2 b o hb z))),(ne_of_none t4 nl5).symm,e5,s5 _ _ t4,by rw [List.length_map];exact hll,?_⟩
          refine (hL.merge ⟨b1,b2,b3,b4⟩).congr (fun a ha=>?_) fun p p0 p1=>(lf_map ls (fun x=>if x=max (lf ls e.1) (lf ls e.2) then min (lf ls e.1) (lf ls e.2) else x) p p0 (by omega)).symm
          rcases List.mem_append.mp ha with y | y
          · exact hE a (List.mem_of_mem_take y)
          · rw [List.mem_singleton.mp y];exact ⟨b1,b2,b3,b4⟩
      · rintro σ' H' ⟨lb,ls,rfl,h'⟩
        exact ⟨lb,ls,_,_,rfl,h'⟩
    · rintro σ H2 ⟨lb,ls,v3,v4,rfl,s2,sx2,hlt,hl2,ht2,hll,hL⟩
      rw [hpl] at ht2
      exact ⟨_,rfl,k tk H2 tkH s2 ht2⟩
def spFt (K:PySem.W.Frag) (c:Cs):Sp:=fun vs H Q _=>∃(x:Addr) (m:Int) (es:List (Int×Int)),vs=[.ref x]∧WebAt K c.Web H x m es∧1≤m∧m≤20∧es.length≤40∧EndsIn es m∧∀l H',H l=none→Same H H'→H' l=some (.lst ((fre es).map V.int))→Q (.ref l) H'
theorem scFt:FnScope ["web","taken"] ["web"] (defScope sFt):=⟨rfl,rfl,rfl,by decide +kernel,rfl,by decide +kernel,by decide +kernel⟩
theorem flt_len (g:Int→Bool) (n i:Nat):(((upto n).take i).filter g).length≤i:=Nat.le_trans (List.length_filter_le _ _) (by rw [List.length_take];omega)
set_option maxHeartbeats 4000000 in
theorem ok_Ft {f:Addr} {fd:FuncData} (F:Fun K "free_ties" "free_ties" sFt f fd) (T:Txt K mg c) (D_Fr:Def P w K mg base 2 "forest" ["web"] (spFr K c)):FnOk P w K mg base CX0 3 f fd ["web"] (spFt K c):=by
  refine F.ok scFt (fun vs H Q E h=>?_) (fun cdv A outer s H vs Q E hr h=>?_)
  · obtain ⟨x,m,es,rfl,_⟩:=h
    rfl
  · obtain ⟨x,m,es,rfl,hw,m1,m2,hz,hE,k⟩:=h
    refine ⟨_,pss_cons (ps_set (i:=1) scFt.nd rfl (Or.inr rfl) (pe_defR D_Fr hr (pa_cons (pv 0) pa_nil)))
      (pss_one (ps_ret (pe_lc (N':=["tie","taken"]) (nl:=1) (js:=[1]) rfl (.of (osc:=defScope sFt) (N:=["web","taken"]) (by decide +kernel) rfl rfl) (pi_range1 rfl T.range (pa_cons (pe_callB (cLen (K:=K) rfl) (by rfl) T.len PySem.boot_len (pa_cons (pTies (K:=K) rfl T.web (pv 0)) pa_nil)) pa_nil))
        (fun _ _ _ _=>pg_name (i:=0) (show (["tie","taken"]:List Str).Nodup by decide +kernel) rfl (Or.inl rfl)) (fun _ _ _ _=>pif_one (pt_cmpR (opNotIn (K:=K) rfl) (pv 0) (pv 1) (by with_unfolding_all rfl)))
        (fun _ _ _ _=>pv 0)))),?_⟩
    refine ⟨_,rfl,x,m,es,rfl,hw,m1,m2,hz,hE,fun tk H1 ntk s1 e1=>?_⟩
    refine ⟨_,rfl,x,m,es,rfl,hw.same s1,fun t ys ht hp=>⟨t,ys,rfl,.inr (SqT.of ht),(ys.length:Int),rfl,by omega,?_,?_⟩⟩
    · have:=hp.len;omega
    have hpl:=hp.len
    rw [show ((ys.length:Int)).toNat=es.length from hpl]
    refine lc_by itok_range (fun i zs H2=>H2=H1∧zs=(((upto es.length).take i).filter fun z=>!((frst es).any (·==z))).map V.int) (Nat.le_of_lt (small1000 (by omega))) ⟨rfl,rfl⟩ ?_ ?_ ?_
    · rintro i zs H2 hi ⟨rfl,rfl⟩
      exact ⟨trivial,by rw [List.length_map];exact flt_len _ _ _⟩
    · rintro i zs H2 hi ⟨rfl,rfl⟩
      have hg:=upto_get hi
      have hl2:=flt_len (fun z=>!((frst es).any (·==z))) es.length i
      try dsimp only
      refine ⟨wk_set rfl,_,rfl,_,rfl,tk,_,rfl,.inl (SqL.of e1),rfl,flat_ints _,_,rfl,?_⟩
      rw [if_pos rfl,inV_ints,Int.zero_add]
      refine ite2 (fun c1=>?_) (fun c1=>?_)
      · refine ⟨_,rfl,small1000 (by rw [List.length_map];omega),_,by omega,rfl,by omega,rfl,?_⟩
        rw [take_snoc hg,List.filter_append,List.map_append,List.filter_cons_of_pos (p:=fun z=>!((frst es).any (·==z))) c1];rfl
      · refine ⟨_,by omega,rfl,by omega,rfl,?_⟩
        rw [take_snoc hg,List.filter_append,List.map_append,List.filter_cons_of_neg (p:=fun z=>!((frst es).any (·==z))) c1];exact (List.append_nil _).symm
    · rintro zs H2 ⟨rfl,rfl⟩ l nl
      rw [List.take_of_length_le (by rw [upto_len];exact Nat.le_refl _)]
      exact k l _ (none_back s1 nl) (s1.next nl) upd_same
def spWb (K:PySem.W.Frag) (c:Cs):Sp:=fun vs H Q _=>∃(x q:Addr) (t m:Int) (es:List (Int×Int)) (ss:List Int),vs=[.ref x,.int t,.ref q]∧WebAt K c.Web H x m es∧0≤t∧t<(es.length:Int)∧SqL K H q (ss.map V.int)∧(∀t∈ss,0≤t∧t<(es.length:Int))∧ss.length≤900∧m≤20∧EndsIn es m ∧
  (¬Cn (sub es ss) (tieOf es t).2 (tieOf es t).1→∀H',Same H H'→Q .non H')∧(∀l ts ps H',Same H H'→H l=none→H' l=some (.lst (ts.map V.int))→Way es ss (tieOf es t).2 ts ps (tieOf es t).1→Q (.ref l) H')
theorem scWb:FnScope ["web","tie","some","ends"] ["web","tie","some"] (defScope sWb):=⟨rfl,rfl,rfl,by decide +kernel,rfl,by decide +kernel,by decide +kernel⟩
set_option maxHeartbeats 4000000 in
theorem ok_Wb {f:Addr} {fd:FuncData} (F:Fun K "way_back" "way_back" sWb f fd) (T:Txt K mg c) (D_Fw:Def P w K mg base 2 "find_way" ["web","some","start","goal"] (spFw K c)):FnOk P w K mg base CX0 3 f fd ["web","tie","some"] (spWb K c):=by
  refine F.ok scWb (fun vs H Q E h=>?_) (fun cdv A outer s H vs Q E hr h=>?_)
  · obtain ⟨x,q,t,m,es,ss,rfl,_⟩:=h
    rfl
  · obtain ⟨x,q,t,m,es,ss,rfl,hw,t0,t1,hq,hss,hsl,m2,hE,k1,k2⟩:=h
    refine ⟨_,pss_cons (ps_set (i:=3) scWb.nd rfl (Or.inl rfl) (pe_ix (ixT (K:=K) rfl) (pTies (K:=K) rfl T.web (pv 0)) (pv 1) (fun _ _=>rfl)))
      (pss_one (ps_ret (pe_defR D_Fw hr (pa_cons (pv 0) (pa_cons (pv 2) (pa_cons (pe_ix (ixT (K:=K) rfl) (pv 3) (pe_int) (fun _ _=>rfl)) (pa_cons (pe_ix (ixT (K:=K) rfl) (pv 3) (pe_int) (fun _ _=>rfl)) pa_nil))))))),?_⟩
    refine ⟨_,rfl,x,m,es,rfl,hw,fun tt ys ht hp=>?_⟩
    obtain ⟨r,ar,hr2,hm⟩:=tie_get hp t0 t1
    obtain ⟨b1,b2,b3,b4⟩:=hE _ hm
    refine ⟨_,rfl,tt,ys,t,.ref r,rfl,rfl,SqT.of ht,ar,?_⟩
    exact ⟨_,rfl,_,rfl,_,rfl,r,_,1,_,rfl,rfl,hr2,rfl,_,rfl,r,_,0,_,rfl,rfl,hr2,rfl,x,q,_,_,m,es,ss,rfl,hw,hq,hss,hsl,b3,b4,m2,hE,k1,k2⟩
def RingF (es:List (Int×Int)) (t:Int) (ts fs:List Int):Prop:=fs.length=es.length∧(∀k:Nat,k<es.length→(fs.getD k 0=1∨fs.getD k 0=-1∨fs.getD k 0=0)∧(fs.getD k 0≠0↔(k:Int)=t∨(k:Int)∈ts))∧fs.getD t.toNat 0=1∧∀p:Int,dp p es fs es.length=0
def spRg (K:PySem.W.Frag) (c:Cs):Sp:=fun vs H Q _=>∃(x q:Addr) (t m:Int) (es:List (Int×Int)) (ss ts ps:List Int),vs=[.ref x,.int t,.ref q]∧WebAt K c.Web H x m es∧es.length≤40∧0≤t∧t<(es.length:Int)∧SqL K H q (ts.map V.int)∧Way es ss (tieOf es t).2 ts ps (tieOf es t).1∧¬t∈ss ∧
  ∀l fs H',H l=none→Same H H'→H' l=some (.lst (fs.map V.int))→RingF es t ts fs→Q (.ref l) H'
theorem scRg:FnScope ["web","tie","back","told","place","one"] ["web","tie","back"] (defScope sRg):=⟨rfl,rfl,rfl,by decide +kernel,rfl,by decide +kernel,by decide +kernel⟩
set_option maxHeartbeats 4000000 in
theorem ok_Rg {f:Addr} {fd:FuncData} (F:Fun K "ring_flow" "ring_flow" sRg f fd) (T:Txt K mg c) (D_Fe:Def P w K mg base 1 "far_end" ["web","tie","place"] (spFe K c)):FnOk P w K mg base CX0 2 f fd ["web","tie","back"] (spRg K c):=by
  refine F.ok scRg (fun vs H Q E h=>?_) (fun cdv A outer s H vs Q E hr h=>?_)
  · obtain ⟨x,q,t,m,es,ss,ts,ps,rfl,_⟩:=h
    rfl
  · obtain ⟨x,q,t,m,es,ss,ts,ps,rfl,hw,hz,t0,t1,hq,hway,htn,k⟩:=h
    refine ⟨_,pss_cons (ps_set (i:=3) scRg.nd rfl (Or.inl rfl) (pe_op op_rep (pe_lst (pa_cons (pe_int) pa_nil)) (pe_callB (cLen (K:=K) rfl) (by rfl) T.len PySem.boot_len (pa_cons (pTies (K:=K) rfl T.web (pv 0)) pa_nil))))
      (pss_cons (ps_asg (pe_int) (pg_sub (pv 3) (pv 1) set_list))
      (pss_cons (ps_set (i:=4) scRg.nd rfl (Or.inl rfl) (pe_ix (ixT (K:=K) rfl) (pe_ix (ixT (K:=K) rfl) (pTies (K:=K) rfl T.web (pv 0)) (pv 1) (fun _ _=>rfl)) (pe_int) (fun _ _=>rfl)))
      (pss_cons (ps_for PassesOwn.never rfl (piSeqB (K:=K) rfl (pv 2)) (pg_name (i:=5) scRg.nd rfl (Or.inl rfl))
        (pss_cons (ps_asg (pe_ifExp (pt_cmpR op_eq (pe_ix (ixT (K:=K) rfl) (pe_ix (ixT (K:=K) rfl) (pTies (K:=K) rfl T.web (pv 0)) (pv 5) (fun _ _=>rfl)) (pe_int) (fun _ _=>rfl)) (pv 4) (nomark _)) (pe_int) (pe_un un_neg (pe_int))) (pg_sub (pv 3) (pv 5) set_list))
      (pss_one (ps_set (i:=4) scRg.nd rfl (Or.inl rfl) (pe_defR D_Fe hr (pa_cons (pv 0) (pa_cons (pv 5) (pa_cons (pv 4) pa_nil))))))))
      (pss_one (ps_ret (pv 3)))))),?_⟩
    refine ⟨(by show 1≤sizeLine;decide),fun l1 nl1=>?_⟩
    have s1:Same H (upd H l1 (.lst [V.int 0])):=Same.new nl1
    have e1:(upd H l1 (.lst [V.int 0])) l1=some (.lst [V.int 0]):=upd_same
    generalize upd H l1 (.lst [V.int 0])=H1 at s1 e1
    refine ⟨_,rfl,x,m,es,rfl,hw.same s1,fun tt ys ht hp=>⟨tt,ys,rfl,.inr (SqT.of ht),l1,(ys.length:Int),_,rfl,rfl,e1,by omega,?_,?_,fun l nl=>?_⟩⟩
    · have:=hp.len;omega
    · have:=hp.len;exact Nat.le_of_lt (small1000 (by show 1*(ys.length:Int).toNat≤1000;omega))
    have hpl:=hp.len
    rw [rep_ints,show ((ys.length:Int)).toNat=es.length from hpl]
    have s2:=s1.next (o:=.lst ((List.replicate es.length (0:Int)).map V.int)) nl
    have e2:(upd H1 l (.lst ((List.replicate es.length (0:Int)).map V.int))) l=some (.lst ((List.replicate es.length (0:Int)).map V.int)):=upd_same
    have nlH:H l=none:=none_back s1 nl
    generalize upd H1 l (.lst ((List.replicate es.length (0:Int)).map V.int))=H2 at s2 e2
    have hln:((List.replicate es.length (0:Int)).map V.int).length=es.length:=by rw [List.length_map,List.length_replicate]
    refine ⟨_,rfl,_,rfl,l,_,t,_,rfl,rfl,e2,ixN_nat t0 (by rw [hln];exact t1),?_⟩
    rw [set_ints]
    have s3:Same H (upd H2 l (.lst (((List.replicate es.length (0:Int)).set t.toNat 1).map V.int))):=s2.upd nlH
    have e3:(upd H2 l (.lst (((List.replicate es.length (0:Int)).set t.toNat 1).map V.int))) l=some (.lst (((List.replicate es.length (0:Int)).set t.toNat 1).map V.int)):=upd_same
    generalize upd H2 l (.lst (((List.replicate es.length (0:Int)).set t.toNat 1).map V.int))=H3 at s3 e3
    refine ⟨_,rfl,x,m,es,rfl,hw.same s3,fun tt3 ys3 ht3 hp3=>?_⟩
    obtain ⟨r,ar,hr2,_⟩:=tie_get hp3 t0 t1
    refine ⟨_,rfl,tt3,ys3,t,.ref r,rfl,rfl,SqT.of ht3,ar,r,_,1,_,rfl,rfl,hr2,rfl,?_⟩
    have rep0:∀k:Nat,(List.replicate es.length (0:Int)).getD k 0=0:=fun k=>by
      rw [List.getD_eq_getElem?_getD,List.getElem?_replicate];split<;>rfl
    have hrl:(List.replicate es.length (0:Int)).length=es.length:=List.length_replicate ..
    refine ⟨_,rfl,false,q,_,rfl,s3.seq hq,fun J C O hC=>for_by O (fun i σ H4=>∃(fs:List Int) (v5:Option V),σ=[some (.ref x),some (.int t),some (.ref q),some (.ref l),some (.int (cur es (tieOf es t).2 (ts.take i))),v5]∧Same H H4∧H4 l=some (.lst (fs.map V.int))∧fs.length=es.length ∧
      (∀k:Nat,k<es.length→(fs.getD k 0=1∨fs.getD k 0=-1∨fs.getD k 0=0)∧(fs.getD k 0≠0↔(k:Int)=t∨(k:Int)∈ts.take i))∧fs.getD t.toNat 0=1 ∧
      ∀p:Int,dp p es fs es.length=(if cur es (tieOf es t).2 (ts.take i)=p then 1 else 0)-(if (tieOf es t).1=p then 1 else 0)) ⟨_,none,rfl,s3,e3,by rw [List.length_set];exact hrl,fun k hk=>?_,by rw [getDi_set _ _ _ _ (by omega),if_pos rfl],fun p=>?_⟩ (fun i σ H4 _ h=>?_) ?_ ?_⟩
    · rw [getDi_set _ _ _ _ (by omega),rep0]
      by_cases c1:t.toNat=k
      · rw [if_pos c1];exact ⟨.inl rfl,fun _=>.inl (by omega),fun _=>(by decide)⟩
      · rw [if_neg c1];exact ⟨.inr (.inr rfl),fun z=>absurd rfl z,fun z=>by rcases z with z | z;exact absurd (show t.toNat=k by omega) c1;simp at z⟩
    · rw [dp_set p es _ _ _ (by omega),dp_nil,rep0,if_pos (show t.toNat<es.length by omega)]
      show 0+((if (tieOf es t).2=p then (1:Int)-0 else 0)-(if (tieOf es t).1=p then (1:Int)-0 else 0))=(if (tieOf es t).2=p then 1 else 0)-(if (tieOf es t).1=p then 1 else 0)
      omega
    · obtain ⟨fs,v5,_,s4,_⟩:=h
      exact hC _ (s4.seq hq)
    · rintro i σ H4 hi ⟨fs,v5,rfl,s4,e4,hfl,hval,ht1,hd⟩
      obtain ⟨v,ev,gv⟩:=getD_map_int hi
      rw [List.length_map] at hi
      have hv:=hway.sub v (List.mem_of_getElem? gv)
      have hst:=hway.step i v gv
      have hnd:=hway.tnd
      have hvt:¬v=t:=fun z=>htn (z▸hv.1)
      have hvi:¬v∈ts.take i:=fun z=>by
        rw [List.nodup_iff_pairwise_ne] at hnd
        obtain ⟨j,hj,ej⟩:=List.mem_take_iff_getElem.mp z
        have h1:=(List.pairwise_iff_getElem.mp hnd) j i (by omega) hi (by omega)
        have h2:ts[i]=v:=by rw [List.getElem?_eq_getElem hi] at gv;exact Option.some.inj gv
        exact h1 (ej.trans h2.symm)
      have hvn:fs.getD v.toNat 0=0:=by
        have:=(hval v.toNat (by omega)).2
        rw [show ((v.toNat:Nat):Int)=v by omega] at this
        exact Classical.byContradiction fun z=>(this.mp z).elim hvt hvi
      try dsimp only
      rw [ev]
      obtain ⟨u,eu⟩:∃u,u=cur es (tieOf es t).2 (ts.take i):=⟨_,rfl⟩
      rw [←eu] at hst hd ⊢
      have fin:∀(w:Int) (H5:Hp),w=(if (tieOf es v).1=u then 1 else -1)→Same H H5→H5 l=some (.lst ((fs.set v.toNat w).map V.int))→∃(fs:List Int) (v5:Option V),[some (V.ref x),some (.int t),some (.ref q),some (.ref l),some (.int (far (tieOf es v) u)),some (.int v)]=[some (.ref x),some (.int t),some (.ref q),some (.ref l),some (.int (cur es (tieOf es t).2 (ts.take (i+1)))),v5]∧Same H H5∧H5 l=some (.lst (fs.map V.int))∧fs.length=es.length ∧
          (∀k:Nat,k<es.length→(fs.getD k 0=1∨fs.getD k 0=-1∨fs.getD k 0=0)∧(fs.getD k 0≠0↔(k:Int)=t∨(k:Int)∈ts.take (i+1)))∧fs.getD t.toNat 0=1 ∧
          ∀p:Int,dp p es fs es.length=(if cur es (tieOf es t).2 (ts.take (i+1))=p then 1 else 0)-(if (tieOf es t).1=p then 1 else 0):=fun w H5 ew s5 e5=>by
        have ec:cur es (tieOf es t).2 (ts.take (i+1))=far (tieOf es v) u:=by rw [take_snoc gv,cur_snoc,←eu]
        rw [ec]
        refine ⟨fs.set v.toNat w,some (.int v),rfl,s5,e5,by rw [List.length_set];exact hfl,fun k hk=>?_,?_,fun p=>?_⟩
        · rw [getDi_set _ _ _ _ (by omega),take_snoc gv]
          by_cases c1:v.toNat=k
          · rw [if_pos c1]
            refine ⟨by rw [ew];split<;>simp,fun _=>.inr (List.mem_append_right _ (List.mem_singleton.mpr (by omega))),fun _=>?_⟩
            rw [ew];split<;>decide
          · rw [if_neg c1]
            refine ⟨(hval k hk).1,fun z=>((hval k hk).2.mp z).imp_right (List.mem_append_left _),fun z=>(hval k hk).2.mpr (z.imp_right fun y=>?_)⟩
            rcases List.mem_append.mp y with y | y
            · exact y
            · exact absurd (show v.toNat=k by have:=List.mem_singleton.mp y;omega) c1
        · rw [getDi_set _ _ _ _ (by omega),if_neg (fun z=>hvt (by omega))];exact ht1
        · rw [dp_set p es _ _ _ (by omega),hvn,if_pos (show v.toNat<es.length by omega),hd p]
          show _+((if (tieOf es v).2=p then w-0 else 0)-(if (tieOf es v).1=p then w-0 else 0))=_
          unfold far
          rw [ew]
          by_cases c1:(tieOf es v).1=u
          · rw [if_pos c1,if_pos c1,c1]
            by_cases c2:u=p<;>by_cases c3:(tieOf es v).2=p<;>simp only [c2,c3,if_true,if_false]<;>omega
          · have c0:=hst.resolve_left c1
            rw [if_neg c1,if_neg c1,c0]
            by_cases c2:u=p<;>by_cases c3:(tieOf es v).1=p<;>simp only [c2,c3,if_true,if_false]<;>omega
      have hw4:=hw.same s4
      have hix:ixN (fs.map V.int).length v=some v.toNat:=ixN_nat hv.2.1 (by rw [List.length_map];omega)
      refine ⟨_,rfl,x,m,es,rfl,hw4,fun tt5 ys5 ht5 hp5=>?_⟩
      obtain ⟨r5,ar5,hr5,_⟩:=tie_get hp5 hv.2.1 hv.2.2
      refine ⟨_,rfl,tt5,ys5,v,.ref r5,rfl,rfl,SqT.of ht5,ar5,r5,_,0,_,rfl,rfl,hr5,rfl,_,rfl,rfl,_,rfl,ite2 (fun c1=>?_) (fun c1=>?_)⟩
      · have c1':=of_decide_eq_true c1
        injection c1' with c1'
        refine ⟨_,rfl,_,rfl,l,_,v,_,rfl,rfl,e4,hix,?_⟩
        rw [set_ints]
        have s5:Same H (upd H4 l (.lst ((fs.set v.toNat 1).map V.int))):=s4.upd nlH
        refine ⟨_,rfl,_,rfl,_,rfl,x,v,u,m,es,rfl,hw.same s5,hv.2.1,hv.2.2,?_⟩
        exact fin 1 _ (by rw [if_pos c1']) s5 upd_same
      · refine ⟨_,rfl,_,rfl,_,rfl,l,_,v,_,rfl,rfl,e4,hix,?_⟩
        rw [set_ints]
        have s5:Same H (upd H4 l (.lst ((fs.set v.toNat (-1)).map V.int))):=s4.upd nlH
        refine ⟨_,rfl,_,rfl,_,rfl,x,v,u,m,es,rfl,hw.same s5,hv.2.1,hv.2.2,?_⟩
        exact fin (-1) _ (by rw [if_neg (fun z=>c1 (decide_eq_true (by rw [z])))]) s5 upd_same
    · rintro σ H4 ⟨fs,v5,rfl,s4,e4,hfl,hval,ht1,hd⟩
      rw [List.length_map,List.take_length] at hval hd
      rw [hway.cur] at hd
      exact ⟨_,rfl,k l fs H4 nlH s4 e4 ⟨hfl,hval,ht1,fun p=>by rw [hd p,Int.sub_self]⟩⟩
def spRo (K:PySem.W.Frag) (c:Cs):Sp:=fun vs H Q E=>∃(x:Addr) (t m:Int) (es:List (Int×Int)),vs=[.ref x,.int t]∧WebAt K c.Web H x m es∧1≤m∧m≤20∧es.length≤40∧EndsIn es m∧(¬(0≤t∧t<(es.length:Int))∨t∈frst es→∀H',Same H H'→E (.ref c.BadTie) none H') ∧
  (0≤t→t<(es.length:Int)→¬t∈frst es→∀l ts ps fs H',H l=none→Same H H'→H' l=some (.lst (fs.map V.int))→Way es (frst es) (tieOf es t).2 ts ps (tieOf es t).1→RingF es t ts fs→Q (.ref l) H')
theorem scRo:FnScope ["web","tie","taken"] ["web","tie"] (defScope sRo):=⟨rfl,rfl,rfl,by decide +kernel,rfl,by decide +kernel,by decide +kernel⟩
theorem frst_in {es:List (Int×Int)}:∀t∈frst es,0≤t∧t<(es.length:Int):=fun t ht=>⟨(mem_frN.mp ht).1,(mem_frN.mp ht).2.1⟩
set_option maxHeartbeats 4000000 in
theorem ok_Ro {f:Addr} {fd:FuncData} (F:Fun K "ring_of" "ring_of" sRo f fd) (T:Txt K mg c) (D_Ti:DefE P w K mg base 1 "check_tie" ["web","tie"] (spTi K c.Web c.BadTie)) (D_Fr:Def P w K mg base 2 "forest" ["web"] (spFr K c)) (D_Wb:Def P w K mg base 3 "way_back" ["web","tie","some"] (spWb K c)) (D_Rg:Def P w K mg base 2 "ring_flow" ["web","tie","back"] (spRg K c)):FnOk P w K mg base (CXE P w) 4 f fd ["web","tie"] (spRo K c):=by
  refine F.okE scRo (fun vs H Q E h=>?_) (fun cdv A outer s H vs Q E hr h=>?_)
  · obtain ⟨x,t,m,es,rfl,_⟩:=h
    rfl
  · obtain ⟨x,t,m,es,rfl,hw,m1,m2,hz,hE,k1,k2⟩:=h
    refine ⟨_,pss_cons (ps_expr (pe_defE D_Ti hr rfl rfl (pa_cons (pv 0) (pa_cons (pv 1) pa_nil))))
      (pss_cons (ps_set (i:=2) scRo.nd rfl (Or.inl rfl) (pe_defR D_Fr hr (pa_cons (pv 0) pa_nil)))
      (pss_cons (ps_if (pt_cmpR (opIn (K:=K) rfl) (pv 1) (pv 2) (by with_unfolding_all rfl))
        (pss_one (ps_raise rfl rfl (by rfl) T.mBadTie T.xBadTie (pa_cons pe_str pa_nil))) (pss_nil))
      (pss_one (ps_ret (pe_defR D_Rg hr (pa_cons (pv 0) (pa_cons (pv 1) (pa_cons (pe_defR D_Wb hr (pa_cons (pv 0) (pa_cons (pv 1) (pa_cons (pv 2) pa_nil)))) pa_nil)))))))),?_⟩
    refine ⟨_,rfl,_,rfl,x,t,m,es,rfl,hw,fun h0 h1=>?_,fun z=>k1 (.inl z) H (Same.refl _)⟩
    refine ⟨_,rfl,x,m,es,rfl,hw,m1,m2,hz,hE,fun tk H1 ntk s1 e1=>?_⟩
    have hfl:(frst es).length≤es.length:=frN_len es es.length
    refine ⟨_,rfl,_,rfl,tk,_,rfl,.inl (SqL.of e1),rfl,flat_ints _,_,rfl,?_⟩
    rw [if_neg Bool.false_ne_true,inV_ints,show ((frst es).any (·==t))=memI (frst es) t from rfl]
    by_cases hm:t∈frst es
    · rw [memI_iff.mpr hm]
      exact iteT ⟨(by show 1≤sizeLine;decide),k1 (.inr hm) H1 s1⟩
    · rw [show memI (frst es) t=false from Bool.eq_false_iff.mpr fun z=>hm (memI_iff.mp z)]
      refine iteF ?_
      refine ⟨_,rfl,_,rfl,_,rfl,_,rfl,_,rfl,x,tk,t,m,es,frst es,rfl,hw.same s1,h0,h1,SqL.of e1,frst_in,by omega,m2,hE,fun hn=>?_,fun l2 ts ps H2 s2 nl2 e2 hway=>?_⟩
      · exfalso
        apply hn
        have:=frst_cn es es.length (Nat.le_refl _) (a:=(tieOf es t).2) (b:=(tieOf es t).1) (by
          rw [List.take_length]
          refine Cn.eit ?_
          unfold tieOf
          rw [List.getD_eq_getElem?_getD,List.getElem?_eq_getElem (show t.toNat<es.length by omega)];exact List.getElem_mem _)
        exact this
      · exact ⟨x,l2,t,m,es,frst es,ts,ps,rfl,hw.same (s1.trans s2),hz,h0,h1,SqL.of e2,hway,hm,fun l fs H3 nl s3 e3 hR=>k2 h0 h1 hm l ts ps fs H3 (none_back (s1.trans s2) nl) ((s1.trans s2).trans s3) e3 hway hR⟩
def spCr (K:PySem.W.Frag) (cR:Addr):Sp:=fun vs H Q E=>∃k:Int,vs=[.int k]∧(2≤k→k≤10^20→Q .non H)∧(¬(2≤k∧k≤10^20)→E (.ref cR) none H)
theorem scCr:FnScope ["k"] ["k"] (defScope sCr):=⟨rfl,rfl,rfl,by decide +kernel,rfl,by decide +kernel,by decide +kernel⟩
theorem ok_Cr {f:Addr} {fd:FuncData} (F:Fun K "check_rest" "check_rest" sCr f fd) (T:Txt K mg c):FnOk P w K mg base (CXE P w) 1 f fd ["k"] (spCr K c.BadRest):=by
  refine F.okE scCr (fun vs H Q E h=>?_) (fun cdv A outer s H vs Q E hr h=>?_)
  · obtain ⟨k,rfl,_⟩:=h
    rfl
  · obtain ⟨k,rfl,k1,k2⟩:=h
    refine ⟨_,pss_one (ps_if (PW.pt (pw_or (pt_cmpR op_lt (pv 0) (pe_int) (nomark _)) (pw_or1 (pt_cmpR op_gt (pv 0) (pe_op op_pow (pe_int) (pe_int)) (nomark _)))))
        (pss_one (ps_raise rfl rfl (by rfl) T.mBadRest T.xBadRest (pa_cons pe_str pa_nil))) (pss_nil)),?_⟩
    refine ⟨_,rfl,_,_,rfl,rfl,_,rfl,?_⟩
    by_cases c1:k<2
    · rw [decide_eq_true c1]
      exact iteT (iteT ⟨(by show 1≤sizeLine;decide),k2 (by omega)⟩)
    · rw [decide_eq_false c1]
      refine iteF ⟨_,rfl,_,_,rfl,rfl,⟨by decide,by decide,by decide⟩,_,_,rfl,rfl,_,rfl,?_⟩
      have e:(10:Int)^(20:Int).toNat=10^20:=rfl
      by_cases c2:k>(10:Int)^(20:Int).toNat
      · rw [decide_eq_true c2]
        rw [e] at c2
        exact iteT ⟨(by show 1≤sizeLine;decide),k2 (by omega)⟩
      · rw [decide_eq_false c2]
        rw [e] at c2
        exact iteF (k1 (by omega) (by omega))
def spRs (K:PySem.W.Frag) (cR:Addr):Sp:=fun vs H Q E=>∃(f:Addr) (b:Bool) (k:Int) (fs:List Int),vs=[.ref f,.int k]∧SqB b K H f (fs.map V.int)∧fs.length≤900∧(¬(2≤k∧k≤10^20)→E (.ref cR) none H) ∧
  (2≤k→k≤10^20→∀l H',H l=none→Same H H'→H' l=some (.lst ((fs.map (·%k)).map V.int))→Q (.ref l) H')
theorem scRs:FnScope ["amounts","k"] ["amounts","k"] (defScope sRs):=⟨rfl,rfl,rfl,by decide +kernel,rfl,by decide +kernel,by decide +kernel⟩
set_option maxHeartbeats 4000000 in
theorem ok_Rs {f:Addr} {fd:FuncData} (F:Fun K "rests_of" "rests_of" sRs f fd) (T:Txt K mg c) (D_Cr:DefE P w K mg base 1 "check_rest" ["k"] (spCr K c.BadRest)):FnOk P w K mg base (CXE P w) 2 f fd ["amounts","k"] (spRs K c.BadRest):=by
  refine F.okE scRs (fun vs H Q E h=>?_) (fun cdv A outer s H vs Q E hr h=>?_)
  · obtain ⟨f,b,k,fs,rfl,_⟩:=h
    rfl
  · obtain ⟨f,b,k,fs,rfl,hf,hz,k1,k2⟩:=h
    refine ⟨_,pss_cons (ps_expr (pe_defE D_Cr hr rfl rfl (pa_cons (pv 1) pa_nil)))
      (pss_one (ps_ret (pe_lc (N':=["amount","k"]) (nl:=1) (js:=[1]) rfl (.of (osc:=defScope sRs) (N:=["amounts","k"]) (by decide +kernel) rfl rfl) (piSeq (K:=K) rfl (pv 0))
        (fun _ _ _ _=>pg_name (i:=0) (show (["amount","k"]:List Str).Nodup by decide +kernel) rfl (Or.inl rfl)) (fun _ _ _ _=>pif_nil)
        (fun _ _ _ _=>pe_op op_mod (pv 0) (pv 1))))),?_⟩
    refine ⟨_,rfl,k,rfl,fun h0 h1=>?_,fun z=>k1 z⟩
    refine ⟨_,rfl,f,_,rfl,hf.or,fun J C O hC=>lc_by O (fun i ys H2=>H2=H∧ys=((fs.map (·%k)).take i).map V.int) (by rw [List.length_map];exact Nat.le_of_lt (small1000 (by omega))) ⟨rfl,rfl⟩ ?_ ?_ ?_⟩
    · rintro i ys H2 hi ⟨rfl,rfl⟩
      exact ⟨hC _ (Same.refl _),by rw [List.length_map,List.length_take];omega⟩
    · rintro i ys H hi ⟨rfl,rfl⟩
      obtain ⟨v,ev,gv⟩:=getD_map_int hi
      rw [List.length_map] at hi
      have hv:(fs.map (·%k))[i]?=some (v%k):=by rw [List.getElem?_map,gv];rfl
      try dsimp only
      rw [ev]
      refine ⟨wk_set rfl,iteT ⟨_,rfl,_,rfl,_,_,rfl,rfl,(by show 0<k;omega),small1000 (by rw [List.length_map,List.length_take];omega),_,by rw [List.length_map];omega,rfl,by rw [List.length_map];omega,rfl,?_⟩⟩
      rw [take_snoc hv,List.map_append];rfl
    · rintro ys H ⟨rfl,rfl⟩ l nl
      rw [List.length_map,List.take_of_length_le (by rw [List.length_map];omega)]
      exact k2 h0 h1 l _ nl (Same.new nl) upd_same
theorem any_isR {m k:Int} {es:List (Int×Int)} {fs zs:List Int} (hz:zs.length=m.toNat) (hd:∀p:Nat,p<m.toNat→zs.getD p 0=dp p es fs es.length) (ha:(fs.all fun r=>decide (0≤r)&&decide (r<k))=true):(!((zs.map (·%k)).map V.int).any tv)=isR m es fs k:=by
  unfold isR
  rw [ha,Bool.true_and,Bool.eq_iff_iff,decide_eq_true_iff,Bool.not_eq_true',List.any_eq_false]
  constructor
  · intro h p hp
    rw [←hd p hp,gD_at (by omega)]
    have:=h (.int (zs[p]%k)) (List.mem_map_of_mem (List.mem_map_of_mem (f:=(·%k)) (List.getElem_mem (by omega))))
    simpa [tv] using this
  · intro h x hx
    obtain ⟨z,hzz,rfl⟩:=List.mem_map.mp hx
    obtain ⟨y,hy,rfl⟩:=List.mem_map.mp hzz
    obtain ⟨i,hi,rfl⟩:=List.mem_iff_getElem.mp hy
    have e:=hd i (by omega)
    rw [gD_at hi] at e
    have e':zs[i]%k=0:=by rw [e];exact h i (by omega)
    simp [tv,e']
def spIr (K:PySem.W.Frag) (c:Cs):Sp:=fun vs H Q E=>∃(x f:Addr) (b:Bool) (m k:Int) (es:List (Int×Int)) (fs:List Int),vs=[.ref x,.ref f,.int k]∧WebAt K c.Web H x m es∧SqB b K H f (fs.map V.int)∧fs.length≤900∧1≤m∧m≤20∧es.length≤40∧EndsIn es m ∧
  (¬(2≤k∧k≤10^20)→E (.ref c.BadRest) none H)∧(2≤k→k≤10^20→fs.length≠es.length→E (.ref c.BadFlow) none H)∧(2≤k→k≤10^20→fs.length=es.length→∀H',Same H H'→Q (.bl (isR m es fs k)) H')
theorem scIr:FnScope ["web","rests","k"] ["web","rests","k"] (defScope sIr):=⟨rfl,rfl,rfl,by decide +kernel,rfl,by decide +kernel,by decide +kernel⟩
theorem all_blR {α:Type} (g:α→Bool):∀l:List α,(l.map fun a=>V.bl (g a)).all isBI=true∧(l.map fun a=>V.bl (g a)).all tv=l.all g
  | []=>⟨rfl,rfl⟩
  | a::l=>by
    rw [List.map_cons,List.all_cons,List.all_cons,List.all_cons,(all_blR g l).1,(all_blR g l).2]
    exact ⟨rfl,rfl⟩
set_option maxHeartbeats 4000000 in
theorem ok_Ir {f:Addr} {fd:FuncData} (F:Fun K "is_rest_flow" "is_rest_flow" sIr f fd) (T:Txt K mg c) (D_Cr:DefE P w K mg base 1 "check_rest" ["k"] (spCr K c.BadRest)) (D_Am:DefE P w K mg base 1 "check_amounts" ["web","flow"] (spAm K c.Web c.BadFlow)) (D_Rs:DefE P w K mg base 2 "rests_of" ["amounts","k"] (spRs K c.BadRest)) (D_Gs:Def P w K mg base 1 "gains" ["web","flow"] (spGs K c.Web)):FnOk P w K mg base (CXE P w) 3 f fd ["web","rests","k"] (spIr K c):=by
  refine F.okE scIr (fun vs H Q E h=>?_) (fun cdv A outer s H vs Q E hr h=>?_)
  · obtain ⟨x,f,b,m,k,es,fs,rfl,_⟩:=h
    rfl
  · obtain ⟨x,f,b,m,k,es,fs,rfl,hw,hf,hfz,m1,m2,hz,hE,k1,k2,k3⟩:=h
    refine ⟨_,pss_cons (ps_expr (pe_defE D_Cr hr rfl rfl (pa_cons (pv 2) pa_nil)))
      (pss_cons (ps_expr (pe_defE D_Am hr rfl rfl (pa_cons (pv 0) (pa_cons (pv 1) pa_nil))))
      (pss_cons (ps_if (pt_not (pt_val (pe_callB (cAll (K:=K) rfl rfl) (by rfl) T.all PyProof.Rows.boot_all (pa_cons (pe_lc (N':=["rest","k"]) (nl:=1) (js:=[2]) rfl (.of (osc:=defScope sIr) (N:=["web","rests","k"]) (by decide +kernel) rfl rfl) (piSeq (K:=K) rfl (pv 1))
        (fun _ _ _ _=>pg_name (i:=0) (show (["rest","k"]:List Str).Nodup by decide +kernel) rfl (Or.inl rfl)) (fun _ _ _ _=>pif_nil)
        (fun _ _ _ _=>pe_chain op_le op_lt (pe_int) (pv 0) (pv 1))) pa_nil))))
        (pss_one (ps_ret (pe_bl))) (pss_nil))
      (pss_one (ps_ret (pe_not (pe_callB (cAny (K:=K) rfl rfl) (by rfl) T.any PyProof.Rows.boot_any (pa_cons (pe_defE D_Rs hr rfl rfl (pa_cons (pe_defR D_Gs hr (pa_cons (pv 0) (pa_cons (pv 1) pa_nil))) (pa_cons (pv 2) pa_nil))) pa_nil))))))),?_⟩
    refine ⟨_,rfl,k,rfl,fun h0 h1=>?_,fun z=>k1 z⟩
    refine ⟨_,rfl,_,rfl,x,f,m,es,_,rfl,hw,hf.or,fun e=>?_,fun z=>k2 h0 h1 (by rwa [List.length_map] at z)⟩
    rw [List.length_map] at e
    refine ⟨_,rfl,f,_,rfl,hf.or,fun J C O hC=>lc_by O (fun i ys H2=>H2=H∧ys=(fs.take i).map fun r=>V.bl (decide (0≤r)&&decide (r<k))) (by rw [List.length_map];exact Nat.le_of_lt (small1000 (by omega))) ⟨rfl,rfl⟩ ?_ ?_ ?_⟩
    · rintro i ys H2 hi ⟨rfl,rfl⟩
      exact ⟨hC _ (Same.refl _),by rw [List.length_map,List.length_take];omega⟩
    · rintro i ys H hi ⟨rfl,rfl⟩
      obtain ⟨v,ev,gv⟩:=getD_map_int hi
      rw [List.length_map] at hi
      try dsimp only
      rw [ev]
      have hl2:((fs.take i).map fun r=>V.bl (decide (0≤r)&&decide (r<k))).length<sizeLine:=small1000 (by rw [List.length_map,List.length_take];omega)
      have fin:∀b,b=(decide (0≤v)&&decide (v<k))→((fs.take i).map fun r=>V.bl (decide (0≤r)&&decide (r<k)))++[V.bl b]=(fs.take (i+1)).map fun r=>V.bl (decide (0≤r)&&decide (r<k)):=fun b e=>by
        rw [take_snoc gv,List.map_append,e];rfl
      refine ⟨wk_set rfl,iteT ?_⟩
      refine ⟨_,rfl,_,_,rfl,rfl,_,rfl,ite2 (fun c=>?_) (fun c=>?_)⟩
      · refine ⟨_,rfl,_,_,rfl,rfl,hl2,_,by rw [List.length_map];omega,rfl,by rw [List.length_map];omega,rfl,fin _ ?_⟩
        rw [c,Bool.true_and]
      · refine ⟨hl2,_,by rw [List.length_map];omega,rfl,by rw [List.length_map];omega,rfl,fin _ ?_⟩
        rw [Bool.eq_false_iff.mpr c,Bool.false_and]
    · rintro ys H ⟨rfl,rfl⟩ l nl
      rw [List.length_map,List.take_length]
      refine ⟨l,_,rfl,.inl (SqL.of upd_same),(all_blR _ _).1,_,rfl,?_⟩
      rw [(all_blR _ _).2]
      have s1:=Same.new (o:=.lst (fs.map fun r=>V.bl (decide (0≤r)&&decide (r<k)))) nl
      generalize upd H l (.lst (fs.map fun r=>V.bl (decide (0≤r)&&decide (r<k))))=H1 at s1
      cases ha:fs.all fun r=>decide (0≤r)&&decide (r<k) with
      | false =>
        have e0:isR m es fs k=false:=by unfold isR;rw [ha,Bool.false_and]
        have:=k3 h0 h1 e H1 s1
        rw [e0] at this
        exact iteT this
      | true =>
        refine iteF ?_
        refine ⟨_,rfl,_,rfl,x,f,b,m,es,fs,rfl,hw.same s1,hf.same s1,e,m1,m2,hz,hE,fun lg H2 zs e2 hzl hd s2=>?_⟩
        refine ⟨_,rfl,lg,false,k,zs,rfl,SqL.of e2,by omega,fun z=>absurd ⟨h0,h1⟩ z,fun _ _ l3 H3 nl3 s3 e3=>⟨l3,_,rfl,.inl (SqL.of e3),?_,_,rfl,?_⟩⟩
        · rw [List.all_eq_true]
          intro y hy
          obtain ⟨z,_,rfl⟩:=List.mem_map.mp hy
          rfl
        · rw [any_isR hzl hd ha]
          exact k3 h0 h1 e H3 ((s1.trans s2).trans s3)
def spFz (K:PySem.W.Frag) (c:Cs):Sp:=fun vs H Q E=>∃(x q:Addr) (m:Int) (es:List (Int×Int)) (ws:List Int),vs=[.ref x,.ref q]∧WebAt K c.Web H x m es∧SqL K H q (ws.map V.int)∧1≤m∧m≤20∧es.length≤40∧EndsIn es m∧(∀v∈ws,v.natAbs<2^200) ∧
  (ws.length≠(fre es).length→∀H',Same H H'→E (.ref c.BadFlow) none H')∧(ws.length=(fre es).length→∀l fs H',H l=none→Same H H'→H' l=some (.lst (fs.map V.int))→FW es ws fs→Q (.ref l) H')
theorem scFz:FnScope ["web","values","free","told","tie","value"] ["web","values"] (defScope sFz):=⟨rfl,rfl,rfl,by decide +kernel,rfl,by decide +kernel,by decide +kernel⟩
theorem ring_free {es:List (Int×Int)} {t:Int} {ts ps fs:List Int} {a b:Int} (hw:Way es (frst es) a ts ps b) (hR:RingF es t ts fs):∀k:Nat,k<es.length→¬(k:Int)∈frst es→fs.getD k 0=if (k:Int)=t then 1 else 0:=fun k hk hn=>by
  by_cases c1:(k:Int)=t
  · rw [if_pos c1]
    have:=hR.2.2.1
    rwa [show t.toNat=k by omega] at this
  · rw [if_neg c1]
    refine Classical.byContradiction fun z=>?_
    rcases (hR.2.1 k hk).2.mp z with y | y
    · exact c1 y
    · exact hn (hw.sub _ y).1
theorem fre_not {es:List (Int×Int)} {t:Int} (h:t∈fre es):¬t∈frst es:=fun z=>by
  have h1:=(List.mem_filter.mp h).2
  rw [show (frst es).any (·==t)=memI (frst es) t from rfl,memI_iff.mpr z] at h1
  cases h1
set_option maxHeartbeats 8000000 in
theorem ok_Fz {f:Addr} {fd:FuncData} (F:Fun K "filled_whole" "filled_whole" sFz f fd) (T:Txt K mg c) (D_Ft:Def P w K mg base 3 "free_ties" ["web"] (spFt K c)) (D_Ad:DefE P w K mg base 1 "added" ["one","two"] (spAd K c.BadFlow)) (D_Tm:Def P w K mg base 1 "times" ["number","flow"] (spTm K)) (D_Ro:DefE P w K mg base 4 "ring_of" ["web","tie"] (spRo K c)):FnOk P w K mg base (CXE P w) 5 f fd ["web","values"] (spFz K c):=by
  refine F.okE scFz (fun vs H Q E h=>?_) (fun cdv A outer s H vs Q E hr h=>?_)
  · obtain ⟨x,q,m,es,ws,rfl,_⟩:=h
    rfl
  · obtain ⟨x,q,m,es,ws,rfl,hw,hq,m1,m2,hz,hE,hb,k1,k2⟩:=h
    refine ⟨_,pss_cons (ps_set (i:=2) scFz.nd rfl (Or.inl rfl) (pe_defR D_Ft hr (pa_cons (pv 0) pa_nil)))
      (pss_cons (ps_if (pt_cmpR op_ne (pe_callB (cLen (K:=K) rfl) (by rfl) T.len PySem.boot_len (pa_cons (pv 1) pa_nil)) (pe_callB (cLen (K:=K) rfl) (by rfl) T.len PySem.boot_len (pa_cons (pv 2) pa_nil)) (nomark _))
        (pss_one (ps_raise rfl rfl (by rfl) T.mBadFlow T.xBadFlow (pa_cons pe_str pa_nil))) (pss_nil))
      (pss_cons (ps_set (i:=3) scFz.nd rfl (Or.inl rfl) (pe_op op_rep (pe_lst (pa_cons (pe_int) pa_nil)) (pe_callB (cLen (K:=K) rfl) (by rfl) T.len PySem.boot_len (pa_cons (pTies (K:=K) rfl T.web (pv 0)) pa_nil))))
      (pss_cons (ps_forE bodyE rfl (pi_zip (K:=K) rfl rfl T.zip (pa_cons (pv 2) (pa_cons (pv 1) pa_nil))) (pgTup (K:=K) (n:=2) rfl rfl (pgs_cons (pg_name (i:=4) scFz.nd rfl (Or.inl rfl)) (pgs_cons (pg_name (i:=5) scFz.nd rfl (Or.inl rfl)) (pgs_nil))) rfl)
        (pss_one (ps_set (i:=3) scFz.nd rfl (Or.inl rfl) (pe_defE D_Ad hr rfl rfl (pa_cons (pv 3) (pa_cons (pe_defR D_Tm hr (pa_cons (pv 5) (pa_cons (pe_defE D_Ro hr rfl rfl (pa_cons (pv 0) (pa_cons (pv 4) pa_nil))) pa_nil))) pa_nil))))))
      (pss_one (ps_ret (pv 3)))))),?_⟩
    refine ⟨_,rfl,x,m,es,rfl,hw,m1,m2,hz,hE,fun lf H1 nlf s1 e1=>?_⟩
    have hfl:=fre_len es
    refine ⟨_,rfl,q,_,rfl,.inl (s1.seq hq),_,rfl,lf,_,rfl,.inl (SqL.of e1),rfl,_,rfl,?_⟩
    by_cases el:ws.length=(fre es).length
    · rw [decide_eq_true (show V.int ((ws.map V.int).length:Int)=V.int (((fre es).map V.int).length:Int) by rw [List.length_map,List.length_map,el])]
      refine iteF ?_
      refine ⟨(by show 1≤sizeLine;decide),fun l1 nl1=>?_⟩
      have s2:=s1.next (o:=.lst [V.int 0]) nl1
      have e2:(upd H1 l1 (.lst [V.int 0])) l1=some (.lst [V.int 0]):=upd_same
      have f2:=Same.new (o:=.lst [V.int 0]) nl1 _ _ e1
      generalize upd H1 l1 (.lst [V.int 0])=H2 at s2 e2 f2
      refine ⟨_,rfl,x,m,es,rfl,hw.same s2,fun tt ys ht hp=>⟨tt,ys,rfl,.inr (SqT.of ht),l1,(ys.length:Int),_,rfl,rfl,e2,by omega,?_,?_,fun l nl=>?_⟩⟩
      · have:=hp.len;omega
      · have:=hp.len;exact Nat.le_of_lt (small1000 (by show 1*(ys.length:Int).toNat≤1000;omega))
      have hpl:=hp.len
      rw [rep_ints,show ((ys.length:Int)).toNat=es.length from hpl]
      have s3:=s2.next (o:=.lst ((List.replicate es.length (0:Int)).map V.int)) nl
      have e3:(upd H2 l (.lst ((List.replicate es.length (0:Int)).map V.int))) l=some (.lst ((List.replicate es.length (0:Int)).map V.int)):=upd_same
      have f3:=Same.new (o:=.lst ((List.replicate es.length (0:Int)).map V.int)) nl _ _ f2
      have nlH:H l=none:=none_back s2 nl
      generalize upd H2 l (.lst ((List.replicate es.length (0:Int)).map V.int))=H3 at s3 e3 f3
      have rep0:∀k:Nat,(List.replicate es.length (0:Int)).getD k 0=0:=fun k=>by
        rw [List.getD_eq_getElem?_getD,List.getElem?_replicate];split<;>rfl
      have hn:min ((fre es).map V.int).length (ws.map V.int).length=(fre es).length:=by rw [List.length_map,List.length_map,el];exact Nat.min_self _
      refine ⟨_,rfl,_,rfl,false,false,lf,q,_,_,rfl,SqL.of f3,s3.seq hq,fun J C O hC=>?_⟩
      refine for_byP O (fun i σ H4=>∃(lt:Addr) (fs:List Int) (v4 v5:Option V),σ=[some (.ref x),some (.ref q),some (.ref lf),some (.ref lt),v4,v5]∧Same H3 H4∧H lt=none∧H4 lt=some (.lst (fs.map V.int))∧fs.length=es.length∧(∀p:Int,dp p es fs es.length=0)∧∀j,j<(fre es).length→fs.getD ((fre es).getD j 0).toNat 0=if j<i then ws.getD j 0 else 0) ⟨l,_,none,none,rfl,Same.refl _,nlH,e3,List.length_replicate ..,fun p=>dp_nil p es es.length es.length,fun j hj=>by rw [rep0,if_neg (Nat.not_lt_zero _)]⟩ (fun i σ H4 _ h=>?_) ?_ ?_
      · obtain ⟨lt,fs,v4,v5,_,s4,_⟩:=h
        exact hC _ (SqL.of (s4 _ _ f3)) ((s3.trans s4).seq hq)
      · rintro i σ H4 p hi ⟨lt,fs,v4,v5,rfl,s4,nlt,e4,hfl4,hd4,hv4⟩ hp4
        rw [hn] at hi
        have hmem:(fre es).getD i 0∈fre es:=by rw [List.getD_eq_getElem?_getD,List.getElem?_eq_getElem hi];exact List.getElem_mem hi
        have hwm:ws.getD i 0∈ws:=by rw [List.getD_eq_getElem?_getD,List.getElem?_eq_getElem (show i<ws.length by omega)];exact List.getElem_mem _
        have hti:=mem_fre hmem
        have hnf:=fre_not hmem
        try dsimp only
        rw [getD_ints hi,getD_ints (show i<ws.length by omega)]
        obtain ⟨t,et⟩:∃t,t=(fre es).getD i 0:=⟨_,rfl⟩
        obtain ⟨v,ev⟩:∃v,v=ws.getD i 0:=⟨_,rfl⟩
        rw [←et] at hmem hti hnf ⊢
        rw [←ev] at hwm ⊢
        have s5:=Same.new (o:=.tup [.int t,.int v]) hp4
        have t5:(upd H4 p (.tup [.int t,.int v])) p=some (.tup [.int t,.int v]):=upd_same
        refine ⟨p,_,rfl,SqT.of t5,rfl,_,_,rfl,_,_,rfl,rfl,?_⟩
        generalize upd H4 p (.tup [.int t,.int v])=H5 at s5 t5
        have e5:=s5 _ _ e4
        have s35:=(s3.trans s4).trans s5
        refine ⟨_,rfl,_,rfl,_,rfl,_,rfl,x,t,m,es,rfl,hw.same s35,m1,m2,hz,hE,fun z=>?_,fun _ _ _ lr ts ps rs H6 nlr s6 r6 hway hR=>?_⟩
        · rcases z with z | z
          · exact absurd ⟨hti.1,hti.2⟩ z
          · exact absurd z hnf
        have hrl:=hR.1
        refine ⟨lr,false,v,rs,rfl,SqL.of r6,by omega,hb v hwm,fun y hy=>?_,fun lm H7 nlm s7 e7=>?_⟩
        · obtain ⟨j,hj,rfl⟩:=List.mem_iff_getElem.mp hy
          have:=(hR.2.1 j (by omega)).1
          rw [List.getD_eq_getElem?_getD,List.getElem?_eq_getElem hj] at this
          have h3:rs[j]=1∨rs[j]=-1∨rs[j]=0:=this
          rcases h3 with z | z | z<;>rw [z]<;>decide
        have s57:=s6.trans s7
        have hml:(rs.map (v*·)).length=rs.length:=List.length_map ..
        refine ⟨lt,lm,false,false,fs,rs.map (v*·),rfl,SqL.of (s57 _ _ e5),SqL.of e7,by omega,fun z=>absurd (by omega) z,fun _ la H8 nla s8 e8=>?_⟩
        have hzl:fs.length=(rs.map (v*·)).length:=by omega
        refine ⟨la,_,_,_,rfl,((s4.trans s5).trans s57).trans s8,none_back (s35.trans s57) nla,e8,by rw [List.length_zipWith];omega,fun p=>by rw [dp_zip p es _ _ hzl,dp_map,hd4 p,hR.2.2.2 p,Int.mul_zero];rfl,fun j hj=>?_⟩
        have hmj:(fre es).getD j 0∈fre es:=by rw [List.getD_eq_getElem?_getD,List.getElem?_eq_getElem hj];exact List.getElem_mem hj
        have htj:=mem_fre hmj
        have hrj:=ring_free hway hR ((fre es).getD j 0).toNat (by omega) (by rw [show ((((fre es).getD j 0).toNat:Nat):Int)=(fre es).getD j 0 by omega];exact fre_not hmj)
        rw [show ((((fre es).getD j 0).toNat:Nat):Int)=(fre es).getD j 0 by omega] at hrj
        rw [getD_zip _ _ hzl,getD_map0,hv4 j hj,hrj]
        by_cases c1:j=i
        · subst c1
          rw [if_neg (Nat.lt_irrefl _),if_pos (Nat.lt_succ_self _),if_pos et.symm,←ev];omega
        · have hne:¬(fre es).getD j 0=t:=fun z=>by
            rw [et,List.getD_eq_getElem?_getD,List.getElem?_eq_getElem hj,List.getD_eq_getElem?_getD,List.getElem?_eq_getElem hi] at z
            have hnd:=fre_nd es
            rw [List.nodup_iff_pairwise_ne] at hnd
            have hp:=List.pairwise_iff_getElem.mp hnd
            have z':(fre es)[j]=(fre es)[i]:=z
            by_cases c2:j<i
            · exact hp j i hj hi c2 z'
            · exact hp i j hi hj (by omega) z'.symm
          rw [if_neg hne,Int.mul_zero,Int.add_zero]
          by_cases c2:j<i
          · rw [if_pos c2,if_pos (by omega)]
          · rw [if_neg c2,if_neg (by omega)]
      · rintro σ H4 ⟨lt,fs,v4,v5,rfl,s4,nlt,e4,hfl4,hd4,hv4⟩
        rw [hn] at hv4
        exact ⟨_,rfl,k2 el lt fs H4 nlt (s3.trans s4) e4 ⟨hfl4,hd4,fun j hj=>by rw [hv4 j hj,if_pos hj]⟩⟩
    · rw [decide_eq_false (show ¬V.int ((ws.map V.int).length:Int)=V.int (((fre es).map V.int).length:Int) by rw [List.length_map,List.length_map];intro z;injection z with z;omega)]
      exact iteT ⟨(by show 1≤sizeLine;decide),k1 el H1 s1⟩
def spFi (K:PySem.W.Frag) (c:Cs):Sp:=fun vs H Q E=>∃(x q:Addr) (m k:Int) (es:List (Int×Int)) (ws:List Int),vs=[.ref x,.ref q,.int k]∧WebAt K c.Web H x m es∧SqL K H q (ws.map V.int)∧1≤m∧m≤20∧es.length≤40∧EndsIn es m∧(∀v∈ws,v.natAbs<2^200) ∧
  (¬(2≤k∧k≤10^20)→E (.ref c.BadRest) none H)∧(2≤k→k≤10^20→ws.length≠(fre es).length→∀H',Same H H'→E (.ref c.BadFlow) none H') ∧
  (2≤k→k≤10^20→ws.length=(fre es).length→∀l fs H',H l=none→Same H H'→H' l=some (.lst ((fs.map (·%k)).map V.int))→FW es ws fs→Q (.ref l) H')
theorem scFi:FnScope ["web","values","k"] ["web","values","k"] (defScope sFi):=⟨rfl,rfl,rfl,by decide +kernel,rfl,by decide +kernel,by decide +kernel⟩
set_option maxHeartbeats 4000000 in
theorem ok_Fi {f:Addr} {fd:FuncData} (F:Fun K "filled" "filled" sFi f fd) (T:Txt K mg c) (D_Cr:DefE P w K mg base 1 "check_rest" ["k"] (spCr K c.BadRest)) (D_Rs:DefE P w K mg base 2 "rests_of" ["amounts","k"] (spRs K c.BadRest)) (D_Fz:DefE P w K mg base 5 "filled_whole" ["web","values"] (spFz K c)):FnOk P w K mg base (CXE P w) 6 f fd ["web","values","k"] (spFi K c):=by
  refine F.okE scFi (fun vs H Q E h=>?_) (fun cdv A outer s H vs Q E hr h=>?_)
  · obtain ⟨x,q,m,k,es,ws,rfl,_⟩:=h
    rfl
  · obtain ⟨x,q,m,k,es,ws,rfl,hw,hq,m1,m2,hz,hE,hb,k1,k2,k3⟩:=h
    refine ⟨_,pss_cons (ps_expr (pe_defE D_Cr hr rfl rfl (pa_cons (pv 2) pa_nil)))
      (pss_one (ps_ret (pe_defE D_Rs hr rfl rfl (pa_cons (pe_defE D_Fz hr rfl rfl (pa_cons (pv 0) (pa_cons (pv 1) pa_nil))) (pa_cons (pv 2) pa_nil))))),?_⟩
    refine ⟨_,rfl,k,rfl,fun h0 h1=>?_,fun z=>k1 z⟩
    refine ⟨_,rfl,_,rfl,x,q,m,es,ws,rfl,hw,hq,m1,m2,hz,hE,hb,fun z=>k2 h0 h1 z,fun el l fs H1 nl s1 e1 hF=>?_⟩
    have hfl:=hF.1
    exact ⟨_,rfl,l,false,k,fs,rfl,SqL.of e1,by omega,fun z=>absurd ⟨h0,h1⟩ z,fun _ _ l2 H2 nl2 s2 e2=>k3 h0 h1 el l2 fs H2 (none_back s1 nl2) (s1.trans s2) e2 hF⟩
def spHm (K:PySem.W.Frag) (c:Cs):Sp:=fun vs H Q E=>∃(x:Addr) (m k:Int) (es:List (Int×Int)),vs=[.ref x,.int k]∧WebAt K c.Web H x m es∧1≤m∧m≤20∧es.length≤40∧EndsIn es m ∧
  (¬(2≤k∧k≤10^20)→E (.ref c.BadRest) none H)∧(2≤k→k≤10^20→∀H',Same H H'→Q (.int (k^(fre es).length)) H')
theorem scHm:FnScope ["web","k","told","tie"] ["web","k"] (defScope sHm):=⟨rfl,rfl,rfl,by decide +kernel,rfl,by decide +kernel,by decide +kernel⟩
set_option maxHeartbeats 4000000 in
theorem ok_Hm {f:Addr} {fd:FuncData} (F:Fun K "how_many_rests" "how_many_rests" sHm f fd) (T:Txt K mg c) (D_Cr:DefE P w K mg base 1 "check_rest" ["k"] (spCr K c.BadRest)) (D_Ft:Def P w K mg base 3 "free_ties" ["web"] (spFt K c)):FnOk P w K mg base (CXE P w) 4 f fd ["web","k"] (spHm K c):=by
  refine F.okE scHm (fun vs H Q E h=>?_) (fun cdv A outer s H vs Q E hr h=>?_)
  · obtain ⟨x,m,k,es,rfl,_⟩:=h
    rfl
  · obtain ⟨x,m,k,es,rfl,hw,m1,m2,hz,hE,k1,k2⟩:=h
    refine ⟨_,pss_cons (ps_expr (pe_defE D_Cr hr rfl rfl (pa_cons (pv 1) pa_nil)))
      (pss_cons (ps_set (i:=2) scHm.nd rfl (Or.inl rfl) (pe_int))
      (pss_cons (ps_forE bodyE rfl (piSeq (K:=K) rfl (pe_defR D_Ft hr (pa_cons (pv 0) pa_nil))) (pg_name (i:=3) scHm.nd rfl (Or.inl rfl))
        (pss_one (ps_aug (i:=2) scHm.nd rfl (Or.inl rfl) (pv 1) ip_mulC)))
      (pss_one (ps_ret (pv 2))))),?_⟩
    refine ⟨_,rfl,k,rfl,fun h0 h1=>?_,fun z=>k1 z⟩
    have hfl:=fre_len es
    refine ⟨_,rfl,x,m,es,rfl,hw,m1,m2,hz,hE,fun lf H1 nlf s1 e1=>⟨lf,_,rfl,.inl (SqL.of e1),fun J C O hC=>for_by O (fun i σ H2=>H2=H1∧∃v,σ=[some (.ref x),some (.int k),some (.int (k^i)),v]) ⟨rfl,none,?_⟩ (fun i σ H2 _ h=>by rw [h.1];exact hC _ (Same.refl _)) ?_ ?_⟩⟩
    · rw [Int.pow_zero];rfl
    · rintro i σ H2 hi ⟨rfl,v,rfl⟩
      rw [List.length_map] at hi
      have hp:0<k^i:=Int.pow_pos (by omega)
      refine ⟨_,rfl,_,rfl,_,_,rfl,rfl,kpow_small (k:=k) (j:=i) (by omega) h1 (by omega) (by omega) (Int.le_refl _),k_small (by omega) h1,rfl,some _,by rw [Int.pow_succ];rfl⟩
    · rintro σ H2 ⟨rfl,v,rfl⟩
      rw [List.length_map]
      exact ⟨_,rfl,k2 h0 h1 H2 s1⟩
def spRn (K:PySem.W.Frag) (c:Cs):Sp:=fun vs H Q E=>∃(x f:Addr) (m k:Int) (es:List (Int×Int)) (rs:List Int),vs=[.ref x,.ref f,.int k]∧WebAt K c.Web H x m es∧SqL K H f (rs.map V.int)∧rs.length≤900∧1≤m∧m≤20∧es.length≤40∧EndsIn es m ∧
  (¬(2≤k∧k≤10^20)→E (.ref c.BadRest) none H)∧(2≤k→k≤10^20→rs.length≠es.length→E (.ref c.BadFlow) none H) ∧
  (2≤k→k≤10^20→rs.length=es.length→isR m es rs k=false→∀(d:Nat) H',Same H H'→H' d=none→E (.int d c.NoFlow) none (upd H' d (.xd [("tie",.non)]))) ∧
  (2≤k→k≤10^20→rs.length=es.length→isR m es rs k=true→∀H',Same H H'→Q (.int (numD k (frv es rs))) H')
theorem scRn:FnScope ["web","rests","k","told","tie"] ["web","rests","k"] (defScope sRn):=⟨rfl,rfl,rfl,by decide +kernel,rfl,by decide +kernel,by decide +kernel⟩
theorem num_step {k:Int} {ds:List Int} {i:Nat} (h:i<ds.length):numD k (ds.drop (ds.length-i))*k+ds.getD (ds.length-1-i) 0=numD k (ds.drop (ds.length-(i+1))):=by
  have h1:ds.length-(i+1)<ds.length:=by omega
  rw [List.drop_eq_getElem_cons h1,show ds.length-(i+1)+1=ds.length-i by omega]
  show _=numD k _*k+_
  rw [gD_at (show ds.length-1-i<ds.length by omega)]
  congr 1
  congr 1
  omega
theorem num_small {k:Int} {ds:List Int} (h0:2≤k) (h1:k≤10^20) (hl:ds.length≤40) (hb:∀d∈ds,0≤d∧d<k) (j:Nat):(numD k (ds.drop j)).natAbs<2^3000:=by
  obtain ⟨h2,h3⟩:=numD_lt (show 0<k by omega) (ds.drop j) fun d hd=>hb d (List.mem_of_mem_drop hd)
  exact kpow_small (j:=(ds.drop j).length) (by omega) h1 (by rw [List.length_drop];omega) h2 (by omega)
set_option maxHeartbeats 4000000 in
theorem ok_Rn {f:Addr} {fd:FuncData} (F:Fun K "rest_number" "rest_number" sRn f fd) (T:Txt K mg c) (D_NF:NFDef P w K mg base 1 "NoFlow" c.NoFlow c.FlowError) (D_Ir:DefE P w K mg base 3 "is_rest_flow" ["web","rests","k"] (spIr K c)) (D_Ft:Def P w K mg base 3 "free_ties" ["web"] (spFt K c)):FnOk P w K mg base (CXE P w) 4 f fd ["web","rests","k"] (spRn K c):=by
  refine F.okE scRn (fun vs H Q E h=>?_) (fun cdv A outer s H vs Q E hr h=>?_)
  · obtain ⟨x,f,m,k,es,rs,rfl,_⟩:=h
    rfl
  · obtain ⟨x,f,m,k,es,rs,rfl,hw,hf,hz9,m1,m2,hz,hE,k1,k2,k3,k4⟩:=h
    refine ⟨_,pss_cons (ps_if (pt_not (pt_val (pe_defE D_Ir hr rfl rfl (pa_cons (pv 0) (pa_cons (pv 1) (pa_cons (pv 2) pa_nil))))))
        (pss_one (ps_raiseI D_NF hr rfl rfl (by rfl) (pa_cons pe_non pa_nil))) (pss_nil))
      (pss_cons (ps_set (i:=3) scRn.nd rfl (Or.inl rfl) (pe_int))
      (pss_cons (ps_forE bodyE rfl (pi_rev (K:=K) rfl rfl T.reversed (pa_cons (pe_defR D_Ft hr (pa_cons (pv 0) pa_nil)) pa_nil)) (pg_name (i:=4) scRn.nd rfl (Or.inl rfl))
        (pss_one (ps_set (i:=3) scRn.nd rfl (Or.inl rfl) (pe_op op_add (pe_op op_mulC (pv 3) (pv 2)) (pe_ix (ixL (K:=K) rfl) (pv 1) (pv 4) (fun _ _=>rfl))))))
      (pss_one (ps_ret (pv 3))))),?_⟩
    refine ⟨_,rfl,_,rfl,_,rfl,x,f,false,m,k,es,rs,rfl,hw,hf,hz9,m1,m2,hz,hE,fun z=>k1 z,fun h0 h1 z=>k2 h0 h1 z,fun h0 h1 hl H1 s1=>⟨_,rfl,?_⟩⟩
    cases hR:isR m es rs k with
    | false=>exact iteT ⟨_,rfl,fun d nd=>k3 h0 h1 hl hR d H1 s1 nd⟩
    | true =>
    refine iteF ?_
    have kk:=k4 h0 h1 hl hR
    have hfl:=fre_len es
    have hvl:=frv_len es rs
    have hvb:=frv_bounds hl hR
    refine ⟨_,rfl,x,m,es,rfl,hw.same s1,m1,m2,hz,hE,fun lf H2 nlf s2 e2=>⟨lf,_,rfl,SqL.of e2,fun J C O hC=>for_by O (fun i σ H3=>H3=H2∧∃v,σ=[some (.ref x),some (.ref f),some (.int k),some (.int (numD k ((frv es rs).drop ((frv es rs).length-i)))),v]) ⟨rfl,none,?_⟩ (fun i σ H3 _ h=>by rw [h.1];exact hC _ (SqL.of e2)) ?_ ?_⟩⟩
    · rw [Nat.sub_zero,List.drop_length];rfl
    · rintro i σ H3 hi ⟨rfl,v,rfl⟩
      rw [List.length_map] at hi
      try dsimp only
      rw [List.length_map,getD_ints (show (fre es).length-1-i<(fre es).length by omega)]
      have hmem:(fre es).getD ((fre es).length-1-i) 0∈fre es:=by rw [gD_at (by omega)];exact List.getElem_mem _
      obtain ⟨t0,t1⟩:=mem_fre hmem
      have hst:=num_step (k:=k) (ds:=frv es rs) (i:=i) (by omega)
      have hgv:(frv es rs).getD ((frv es rs).length-1-i) 0=rs.getD ((fre es).getD ((fre es).length-1-i) 0).toNat 0:=by
        rw [hvl,gD_at (by omega),gD_at (show (fre es).length-1-i<(fre es).length by omega)]
        unfold frv
        rw [List.getElem_map]
      have s02:=s1.trans s2
      refine ⟨_,rfl,_,rfl,_,_,rfl,rfl,⟨num_small h0 h1 (by omega) hvb _,k_small (by omega) h1⟩,_,rfl,_,rfl,f,_,_,_,rfl,rfl,s02.seq hf,at_int (ns:=rs) t0 (by omega),_,_,rfl,rfl,rfl,some _,by rw [←hst,hgv];rfl⟩
    · rintro σ H3 ⟨rfl,v,rfl⟩
      rw [List.length_map,←hvl,Nat.sub_self]
      exact ⟨_,rfl,kk _ (s1.trans s2)⟩
def spRm (K:PySem.W.Frag) (c:Cs):Sp:=fun vs H Q E=>∃(x:Addr) (m k N:Int) (es:List (Int×Int)),vs=[.ref x,.int N,.int k]∧WebAt K c.Web H x m es∧1≤m∧m≤20∧es.length≤40∧EndsIn es m ∧
  (¬(2≤k∧k≤10^20)→E (.ref c.BadRest) none H) ∧
  (2≤k→k≤10^20→¬(0≤N∧N<k^(fre es).length)→∀(d:Nat) H',Same H H'→H' d=none→E (.int d c.NoFlow) none (upd H' d (.xd [("tie",.non)]))) ∧
  (2≤k→k≤10^20→0≤N→N<k^(fre es).length→∀l fs H',H l=none→Same H H'→H' l=some (.lst ((fs.map (·%k)).map V.int))→FW es (dg k (fre es).length N) fs→Q (.ref l) H')
theorem scRm:FnScope ["web","number","k","values","left","tie"] ["web","number","k"] (defScope sRm):=⟨rfl,rfl,rfl,by decide +kernel,rfl,by decide +kernel,by decide +kernel⟩
set_option maxHeartbeats 4000000 in
theorem ok_Rm {f:Addr} {fd:FuncData} (F:Fun K "rests_numbered" "rests_numbered" sRm f fd) (T:Txt K mg c) (D_NF:NFDef P w K mg base 1 "NoFlow" c.NoFlow c.FlowError) (D_Cr:DefE P w K mg base 1 "check_rest" ["k"] (spCr K c.BadRest)) (D_Hm:DefE P w K mg base 4 "how_many_rests" ["web","k"] (spHm K c)) (D_Ft:Def P w K mg base 3 "free_ties" ["web"] (spFt K c)) (D_Fi:DefE P w K mg base 6 "filled" ["web","values","k"] (spFi K c)):FnOk P w K mg base (CXE P w) 7 f fd ["web","number","k"] (spRm K c):=by
  refine F.okE scRm (fun vs H Q E h=>?_) (fun cdv A outer s H vs Q E hr h=>?_)
  · obtain ⟨x,m,k,N,es,rfl,_⟩:=h
    rfl
  · obtain ⟨x,m,k,N,es,rfl,hw,m1,m2,hz,hE,k1,k2,k3⟩:=h
    refine ⟨_,pss_cons (ps_expr (pe_defE D_Cr hr rfl rfl (pa_cons (pv 2) pa_nil)))
      (pss_cons (ps_if (pt_not (pt_chain op_le op_lt (pe_int) (pv 1) (pe_defE D_Hm hr rfl rfl (pa_cons (pv 0) (pa_cons (pv 2) pa_nil)))))
        (pss_one (ps_raiseI D_NF hr rfl rfl (by rfl) (pa_cons pe_non pa_nil))) (pss_nil))
      (pss_cons (ps_set (i:=3) scRm.nd rfl (Or.inl rfl) (pe_lst pa_nil))
      (pss_cons (ps_set (i:=4) scRm.nd rfl (Or.inl rfl) (pv 1))
      (pss_cons (ps_forE bodyE rfl (piSeqB (K:=K) rfl (pe_defR D_Ft hr (pa_cons (pv 0) pa_nil))) (pg_name (i:=5) scRm.nd rfl (Or.inl rfl))
        (pss_cons (ps_expr (pe_bm PySem.F.plainAttrs_list PySem.F.slot_list_append PySem.F.type_list_append mt_append (pv 3) (pa_cons (pe_op op_mod (pv 4) (pv 2)) pa_nil)))
      (pss_one (ps_set (i:=4) scRm.nd rfl (Or.inl rfl) (pe_op op_fdivB (pv 4) (pv 2))))))
      (pss_one (ps_ret (pe_defE D_Fi hr rfl rfl (pa_cons (pv 0) (pa_cons (pv 3) (pa_cons (pv 2) pa_nil)))))))))),?_⟩
    refine ⟨_,rfl,k,rfl,fun h0 h1=>?_,fun z=>k1 z⟩
    refine ⟨_,rfl,_,_,rfl,rfl,_,rfl,ite2 (fun c1=>?_) (fun c1=>?_)⟩
    rotate_left
    · exact ⟨_,rfl,iteT ⟨_,rfl,fun d nd=>k2 h0 h1 (fun z=>c1 (decide_eq_true z.1)) d H (Same.refl _) nd⟩⟩
    have n0:0≤N:=of_decide_eq_true c1
    refine ⟨_,rfl,_,rfl,x,m,k,es,rfl,hw,m1,m2,hz,hE,fun z=>absurd ⟨h0,h1⟩ z,fun _ _ H1 s1=>⟨_,_,rfl,rfl,_,rfl,?_⟩⟩
    by_cases n1:N<k^(fre es).length
    rotate_left
    · rw [decide_eq_false n1]
      exact iteT ⟨_,rfl,fun d nd=>k2 h0 h1 (fun z=>n1 z.2) d H1 s1 nd⟩
    have kk:=k3 h0 h1 n0 n1
    rw [decide_eq_true n1]
    refine iteF ?_
    have hfl:=fre_len es
    have hk0:0<k:=by omega
    refine ⟨by decide,fun lv nlv=>?_⟩
    have s2:=s1.next (o:=.lst []) nlv
    have e2:(upd H1 lv (.lst [])) lv=some (.lst []):=upd_same
    have nlvH:H lv=none:=none_back s1 nlv
    generalize upd H1 lv (.lst [])=H2 at s2 e2
    refine ⟨_,rfl,_,rfl,x,m,es,rfl,hw.same s2,m1,m2,hz,hE,fun lf H3 nlf s3 e3=>⟨false,lf,_,rfl,SqL.of e3,fun J C O hC=>for_by O (fun i σ H4=>∃(ws:List Int) (le:Int) (v:Option V),σ=[some (.ref x),some (.int N),some (.int k),some (.ref lv),some (.int le),v]∧Same H H4∧H4 lv=some (.lst (ws.map V.int))∧H4 lf=some (.lst ((fre es).map V.int))∧ws.length=i∧ws++dg k ((fre es).length-i) le=dg k (fre es).length N) ⟨[],N,none,rfl,s2.trans s3,s3 _ _ e2,e3,rfl,rfl⟩ (fun i σ H4 _ h=>?_) ?_ ?_⟩⟩
    · obtain ⟨ws,le,v,_,_,_,e,_⟩:=h
      exact hC _ (SqL.of e)
    · rintro i σ H4 hi ⟨ws,le,v,rfl,s4,w4,f4,hwl,hd⟩
      rw [List.length_map] at hi
      have nvf:lf≠lv:=(ne_of_none e2 nlf).symm
      refine ⟨_,rfl,.inl ⟨rfl,_,SqL.of w4⟩,_,rfl,_,rfl,_,_,rfl,rfl,hk0,lv,_,_,rfl,rfl,w4,small1000 (by rw [List.length_map];omega),?_⟩
      refine ⟨_,rfl,_,rfl,_,_,rfl,rfl,⟨hk0,by omega⟩,?_⟩
      refine ⟨ws++[le%k],le/k,_,rfl,s4.upd nlvH,by rw [List.map_append];exact upd_same,by rw [upd_ne nvf];exact f4,by rw [List.length_append,hwl];rfl,?_⟩
      rw [←hd,show (fre es).length-i=((fre es).length-(i+1))+1 by omega,List.append_assoc];rfl
    · rintro σ H4 ⟨ws,le,v,rfl,s4,w4,f4,hwl,hd⟩
      rw [List.length_map] at hwl
      have ew:ws=dg k (fre es).length N:=by
        rw [←hd,List.length_map,Nat.sub_self]
        exact (List.append_nil ws).symm
      have hb:∀v∈ws,v.natAbs<2^200:=fun v hv=>by
        rw [ew] at hv
        have:=dg_lt hk0 _ _ v hv
        omega
      refine ⟨_,rfl,_,rfl,_,rfl,x,lv,m,k,es,ws,rfl,hw.same s4,SqL.of w4,m1,m2,hz,hE,hb,fun z=>absurd ⟨h0,h1⟩ z,fun _ _ z=>absurd hwl z,fun _ _ _ l fs H5 nl s5 e5 hF=>?_⟩
      rw [ew] at hF
      exact kk l fs H5 (none_back s4 nl) (s4.trans s5) e5 hF
def spC (K:PySem.W.Frag):Sp:=fun vs H Q _=>∃(a:Addr) (ns:List Int) (k:Int),vs=[.ref a,.int k]∧SqL K H a (ns.map V.int)∧0≤k∧Q (.int (ns.getD k.toNat 0)) H
theorem scC:FnScope ["script","k"] ["script","k"] (defScope sC):=⟨rfl,rfl,rfl,by decide +kernel,rfl,by decide +kernel,by decide +kernel⟩
theorem ok_C {f:Addr} {fd:FuncData} (F:Fun K "_law_cell" "_law_cell" sC f fd) (T:Txt K mg c):FnOk P w K mg base CX0 1 f fd ["script","k"] (spC K):=by
  refine F.ok scC (fun vs H Q E h=>?_) (fun cdv A outer s H vs Q E hr h=>?_)
  · obtain ⟨a,ns,k,rfl,_⟩:=h
    rfl
  · obtain ⟨a,ns,k,rfl,hS,h0,q⟩:=h
    refine ⟨_,pss_cons (ps_if (pt_cmpR op_lt (pv 1) (pe_callB (cLen (K:=K) rfl) (by rfl) T.len PySem.boot_len (pa_cons (pv 0) pa_nil)) (nomark _))
        (pss_one (ps_ret (pe_ix (ixL (K:=K) rfl) (pv 0) (pv 1) (fun _ _=>rfl)))) (pss_nil))
      (pss_one (ps_ret (pe_int))),?_⟩
    refine ⟨_,rfl,_,rfl,a,_,rfl,.inl hS,_,_,rfl,rfl,_,rfl,?_⟩
    refine ite2 (fun c=>?_) (fun c=>?_)
    · have c':=of_decide_eq_true c
      rw [List.length_map] at c'
      exact ⟨_,rfl,_,rfl,a,_,k,_,rfl,rfl,hS,at_int h0 c',q⟩
    · have c':¬k<((ns.map V.int).length:Int):=fun z=>c (decide_eq_true z)
      rw [List.length_map] at c'
      have e:ns.getD k.toNat 0=0:=by rw [List.getD_eq_getElem?_getD,List.getElem?_eq_none (by omega)];rfl
      rw [e] at q
      exact q
def spH (_:PySem.W.Frag):Sp:=fun vs H Q _=>∃i,vs=[.int i]∧Q (.bl true) H
theorem scH:FnScope ["found"] ["found"] (defScope sH):=⟨rfl,rfl,rfl,by decide +kernel,rfl,by decide +kernel,by decide +kernel⟩
theorem ok_H {f:Addr} {fd:FuncData} (F:Fun K "_law_whole" "_law_whole" sH f fd) (T:Txt K mg c):FnOk P w K mg base CX0 1 f fd ["found"] (spH K):=by
  refine F.ok scH (fun vs H Q E h=>?_) (fun cdv A outer s H vs Q E hr h=>?_)
  · obtain ⟨i,rfl,_⟩:=h
    rfl
  · obtain ⟨i,rfl,k⟩:=h
    refine ⟨_,pss_one (ps_ret (pe_and (pe_callB (cIs (K:=K) rfl) (by rfl) T.isinstance PyProof.Rows.boot_isinstance (pa_cons (pv 0) (pa_cons (pe_bltn (v:=.ty "int") (by rfl) T.int PyProof.Rows.boot_int rfl) pa_nil))) (pe_one (pe_not (pe_callB (cIs (K:=K) rfl) (by rfl) T.isinstance PyProof.Rows.boot_isinstance (pa_cons (pv 0) (pa_cons (pe_bltn (v:=.ty "bool") (by rfl) T.bool PyProof.Rows.boot_bool rfl) pa_nil))))))),?_⟩
    refine ⟨_,rfl,_,_,_,_,true,rfl,rfl,fun _ z=>z,.of (.int i),kit_self _ _,true,rfl,iteT ?_⟩
    exact ⟨_,rfl,_,_,_,_,false,rfl,rfl,fun _ z=>z,.of (.int i),kIntBool,false,rfl,k⟩
def spDr (K:PySem.W.Frag):Sp:=fun vs H Q _=>∃(a:Addr) (ns:List Int) (p ba n:Int) (b:Bool),vs=[.ref a,.int p,.int ba,.int n,.bl b]∧SqL K H a (ns.map V.int)∧0≤p∧0<ba∧ba<2^200∧0≤n∧n≤900 ∧
  ∀(l:Addr) (fs:List Int) (H':Hp),H l=none→Same H H'→H' l=some (.lst (fs.map V.int))→fs.length=n.toNat→(∀v∈fs,0≤v∧v<ba)→Q (.ref l) H'
theorem scDr:FnScope ["script","at","base","many","by_digits","cell","found","mixed","k"] ["script","at","base","many","by_digits"] (defScope sDr):=⟨rfl,rfl,rfl,by decide +kernel,rfl,by decide +kernel,by decide +kernel⟩
set_option maxHeartbeats 4000000 in
theorem ok_Dr {f:Addr} {fd:FuncData} (F:Fun K "_law_drawn" "_law_drawn" sDr f fd) (T:Txt K mg c) (D_C:Def P w K mg base 1 "_law_cell" ["script","k"] (spC K)):FnOk P w K mg base CX0 2 f fd ["script","at","base","many","by_digits"] (spDr K):=by
  refine F.ok scDr (fun vs H Q E h=>?_) (fun cdv A outer s H vs Q E hr h=>?_)
  · obtain ⟨a,ns,p,ba,n,b,rfl,_⟩:=h
    rfl
  · obtain ⟨a,ns,p,ba,n,b,rfl,hS,p0,b1,b2,n0,n1,k⟩:=h
    refine ⟨_,pss_cons (ps_set (i:=5) scDr.nd rfl (Or.inl rfl) (pe_defR D_C hr (pa_cons (pv 0) (pa_cons (pv 1) pa_nil))))
      (pss_cons (ps_set (i:=6) scDr.nd rfl (Or.inl rfl) (pe_lst pa_nil))
      (pss_cons (ps_cut (ps_set (i:=7) scDr.nd rfl (Or.inl rfl) (pe_op op_add (pe_op op_mod (pv 5) (pe_int)) (pe_int))))
      (pss_cons (ps_for PassesOwn.never rfl (pi_range1 rfl T.range (pa_cons (pv 3) pa_nil)) (pg_name (i:=8) scDr.nd rfl (Or.inl rfl))
        (pss_one (ps_cut (ps_if (pt_truth (pv 4) (by intro _;rfl))
        (pss_cons (ps_expr (pe_bm PySem.F.plainAttrs_list PySem.F.slot_list_append PySem.F.type_list_append mt_append (pv 6) (pa_cons (pe_op op_mod (pv 5) (pv 2)) pa_nil)))
      (pss_one (ps_set (i:=5) scDr.nd rfl (Or.inl rfl) (pe_op op_fdivB (pv 5) (pv 2))))) (pss_cons (ps_cut (ps_set (i:=7) scDr.nd rfl (Or.inl rfl) (pe_op op_mod (pe_op op_add (pe_op op_add (pe_op op_mul (pv 7) (pv 7)) (pe_op op_mul (pe_int) (pv 8))) (pe_int)) (pe_int))))
      (pss_one (ps_expr (pe_bm PySem.F.plainAttrs_list PySem.F.slot_list_append PySem.F.type_list_append mt_append (pv 6) (pa_cons (pe_op op_mod (pe_op op_fdivB (pv 7) (pe_int)) (pv 2)) pa_nil)))))))))
      (pss_one (ps_ret (pv 6)))))),?_⟩
    refine ⟨_,rfl,_,rfl,a,ns,p,rfl,hS,p0,?_⟩
    generalize ns.getD p.toNat 0=c0
    refine ⟨by decide,fun l nl=>?_⟩
    have s0:Same H (upd H l (.lst [])):=Same.new nl
    have e0:(upd H l (.lst [])) l=some (.lst []):=upd_same
    generalize upd H l (.lst [])=H0 at s0 e0
    refine ⟨fun σ' H'=>H'=H0∧∃mi:Int,0≤mi∧mi<2^32∧σ'=[some (.ref a),some (.int p),some (.int ba),some (.int n),some (.bl b),some (.int c0),some (.ref l),some (.int mi),none],?_,?_⟩
    · have h1:=Int.emod_nonneg c0 (show (2147483629:Int)≠0 by decide)
      have h2:=Int.emod_lt_of_pos c0 (show (0:Int)<2147483629 by decide)
      exact ⟨_,rfl,_,_,rfl,rfl,(by show (0:Int)<2147483629;decide),_,_,rfl,rfl,rfl,_,by omega,by omega,rfl⟩
    rintro σ' H0 ⟨rfl,mi,hm0,hm1,rfl⟩
    refine ⟨_,rfl,n,rfl,by omega,by omega,for_by itok_range (fun i σ H2=>∃(fs:List Int) (ce mi:Int) (v8:Option V),σ=[some (.ref a),some (.int p),some (.int ba),some (.int n),some (.bl b),some (.int ce),some (.ref l),some (.int mi),v8]∧0≤mi∧mi<2^32∧Same H H2∧H2 l=some (.lst (fs.map V.int))∧fs.length=i∧∀v∈fs,0≤v∧v<ba) ⟨[],_,_,none,rfl,hm0,hm1,s0,e0,rfl,fun v hv=>nomatch hv⟩ (fun _ _ _ _ _=>trivial) ?_ ?_⟩
    · rintro i σ H2 hi ⟨fs,ce,mi,v8,rfl,hm0,hm1,s2,e2,hfl,hb⟩
      have hi':i<n.toNat:=hi
      have app:∀w:Int,∀v∈fs++[w%ba],0≤v∧v<ba:=fun w v hv=>by
        rcases List.mem_append.mp hv with y | y
        · exact hb v y
        · rw [List.mem_singleton.mp y];exact ⟨Int.emod_nonneg _ (by omega),Int.emod_lt_of_pos _ b1⟩
      refine ⟨fun σ' H'=>∃(fs:List Int) (ce mi:Int) (v8:Option V),σ'=[some (.ref a),some (.int p),some (.int ba),some (.int n),some (.bl b),some (.int ce),some (.ref l),some (.int mi),v8]∧0≤mi∧mi<2^32∧Same H H'∧H' l=some (.lst (fs.map V.int))∧fs.length=i+1∧∀v∈fs,0≤v∧v<ba,?_,fun _ _ z=>z⟩
      refine ⟨_,rfl,b,rfl,ite2 (fun c1=>?_) (fun c1=>?_)⟩
      · refine ⟨_,rfl,.inl ⟨rfl,_,SqL.of e2⟩,_,rfl,_,rfl,_,_,rfl,rfl,b1,l,_,_,rfl,rfl,e2,small1000 (by rw [List.length_map];omega),?_⟩
        refine ⟨_,rfl,_,rfl,_,_,rfl,rfl,⟨b1,b2⟩,?_⟩
        exact ⟨fs++[ce%ba],_,_,_,rfl,hm0,hm1,s2.upd nl,by rw [List.map_append];exact upd_same,by rw [List.length_append,hfl];rfl,app ce⟩
      · refine ⟨fun σ' H'=>H'=H2∧∃mi:Int,0≤mi∧mi<2^32∧σ'=[some (.ref a),some (.int p),some (.int ba),some (.int n),some (.bl b),some (.int ce),some (.ref l),some (.int mi),some (.int (0+(i:Nat)))],?_,?_⟩
        · refine ⟨_,rfl,_,rfl,_,_,rfl,rfl,.inl ⟨by omega,by omega⟩,_,rfl,_,_,rfl,rfl,.inl ⟨by decide,by decide⟩,_,_,rfl,rfl,_,_,rfl,rfl,_,_,rfl,rfl,(by show (0:Int)<2147483647;decide),rfl,_,Int.emod_nonneg _ (by decide),?_,rfl⟩
          have:=Int.emod_lt_of_pos (mi*mi+48271*(0+(i:Nat))+7) (show (0:Int)<2147483647 by decide)
          omega
        rintro σ' H2 ⟨rfl,mi,hm0,hm1,rfl⟩
        refine ⟨_,rfl,.inl ⟨rfl,_,SqL.of e2⟩,_,rfl,_,_,rfl,rfl,⟨by decide,by decide⟩,_,rfl,_,_,rfl,rfl,b1,l,_,_,rfl,rfl,e2,small1000 (by rw [List.length_map];omega),?_⟩
        exact ⟨fs++[mi/8%ba],_,_,_,rfl,hm0,hm1,s2.upd nl,by rw [List.map_append];exact upd_same,by rw [List.length_append,hfl];rfl,app (mi/8)⟩
    · rintro σ H2 ⟨fs,ce,mi,v8,rfl,hm0,hm1,s2,e2,hfl,hb⟩
      exact ⟨_,rfl,k l fs H2 nl s2 e2 hfl hb⟩
def spWb2 (K:PySem.W.Frag):Sp:=fun vs H Q _=>∃(a:Addr) (ns:List Int) (mo so:Int),vs=[.ref a,.int mo,.int so]∧SqL K H a (ns.map V.int)∧1≤mo∧mo≤20∧0≤so∧so≤40 ∧
  ∀(t l:Addr) (m:Int) (xs:List V) (es:List (Int×Int)) (H':Hp),H l=none→Same H H'→H' t=some (.tup [.int m,.ref l])→H' l=some (.lst xs)→Pairs K H' xs es→1≤m→m≤mo→(es.length:Int)≤so→EndsIn es m→Q (.ref t) H'
theorem scWb2:FnScope ["script","most","some","lead","many","count","ends"] ["script","most","some"] (defScope sWb2):=⟨rfl,rfl,rfl,by decide +kernel,rfl,by decide +kernel,by decide +kernel⟩
set_option maxHeartbeats 4000000 in
theorem ok_Wb2 {f:Addr} {fd:FuncData} (F:Fun K "_law_web" "_law_web" sWb2 f fd) (T:Txt K mg c) (D_C:Def P w K mg base 1 "_law_cell" ["script","k"] (spC K)) (D_Dr:Def P w K mg base 2 "_law_drawn" ["script","at","base","many","by_digits"] (spDr K)):FnOk P w K mg base CX0 3 f fd ["script","most","some"] (spWb2 K):=by
  refine F.ok scWb2 (fun vs H Q E h=>?_) (fun cdv A outer s H vs Q E hr h=>?_)
  · obtain ⟨a,ns,mo,so,rfl,_⟩:=h
    rfl
  · obtain ⟨a,ns,mo,so,rfl,hS,o1,o2,o3,o4,k⟩:=h
    refine ⟨_,pss_cons (ps_set (i:=3) scWb2.nd rfl (Or.inl rfl) (pe_defR D_C hr (pa_cons (pv 0) (pa_cons (pe_int) pa_nil))))
      (pss_cons (ps_cut (ps_set (i:=4) scWb2.nd rfl (Or.inl rfl) (pe_op op_add (pe_int) (pe_op op_mod (pv 3) (pv 1)))))
      (pss_cons (ps_cut (ps_set (i:=5) scWb2.nd rfl (Or.inl rfl) (pe_op op_mod (pe_op op_fdivB (pv 3) (pv 1)) (pe_op op_add (pv 2) (pe_int)))))
      (pss_cons (ps_set (i:=6) scWb2.nd rfl (Or.inr rfl) (pe_defR D_Dr hr (pa_cons (pv 0) (pa_cons (pe_int) (pa_cons (pv 4) (pa_cons (pe_op op_mul (pe_int) (pv 5)) (pa_cons (pe_cmpR op_eq (pe_op op_mod (pe_op op_fdivB (pv 3) (pe_op op_mul (pv 1) (pe_op op_add (pv 2) (pe_int)))) (pe_int)) (pe_int) (nomark _)) pa_nil)))))))
      (pss_one (ps_ret (pe_tup (pa_cons (pv 4) (pa_cons (pe_lc (N':=["k","ends"]) (nl:=1) (js:=[6]) rfl (.of (osc:=defScope sWb2) (N:=["script","most","some","lead","many","count","ends"]) (by decide +kernel) rfl rfl) (pi_range1 rfl T.range (pa_cons (pv 5) pa_nil))
        (fun _ _ _ _=>pg_name (i:=0) (show (["k","ends"]:List Str).Nodup by decide +kernel) rfl (Or.inl rfl)) (fun _ _ _ _=>pif_nil)
        (fun _ _ _ _=>pe_tup (pa_cons (pe_ix (ixL (K:=K) rfl) (pv 1) (pe_op op_mul (pe_int) (pv 0)) (fun _ _=>rfl)) (pa_cons (pe_ix (ixL (K:=K) rfl) (pv 1) (pe_op op_add (pe_op op_mul (pe_int) (pv 0)) (pe_int)) (fun _ _=>rfl)) pa_nil)))) pa_nil)))))))),?_⟩
    refine ⟨_,rfl,a,ns,0,rfl,hS,by decide,?_⟩
    generalize ns.getD (0:Int).toNat 0=f1
    refine ⟨fun σ' H'=>H'=H∧∃m:Int,1≤m∧m≤mo∧σ'=[some (.ref a),some (.int mo),some (.int so),some (.int f1),some (.int m),none,none],?_,?_⟩
    · have b1:=Int.emod_nonneg f1 (show mo≠0 by omega)
      have b2:=Int.emod_lt_of_pos f1 (show (0:Int)<mo by omega)
      exact ⟨_,rfl,_,rfl,_,_,rfl,rfl,(by show 0<mo;omega),_,_,rfl,rfl,rfl,_,by omega,by omega,rfl⟩
    rintro σ' H ⟨rfl,m,m1,m2,rfl⟩
    refine ⟨fun σ' H'=>H'=H∧∃ct:Int,0≤ct∧ct≤so∧σ'=[some (.ref a),some (.int mo),some (.int so),some (.int f1),some (.int m),some (.int ct),none],?_,?_⟩
    · have b1:=fun z:Int=>Int.emod_nonneg z (show so+1≠0 by omega)
      have b2:=fun z:Int=>Int.emod_lt_of_pos z (show (0:Int)<so+1 by omega)
      refine ⟨_,rfl,_,rfl,_,_,rfl,rfl,⟨by omega,by omega⟩,_,rfl,_,_,rfl,rfl,_,_,rfl,rfl,(by show 0<so+1;omega),rfl,_,b1 _,?_,rfl⟩
      have:=b2 (f1/mo)
      omega
    rintro σ' H ⟨rfl,ct,ct0,ct1,rfl⟩
    have hmm:0<mo*(so+1):=Int.mul_pos (by omega) (by omega)
    have hmm2:mo*(so+1)<2^200:=by
      have:mo*(so+1)≤20*41:=Int.mul_le_mul o2 (by omega) (by omega) (by decide)
      omega
    refine ⟨_,rfl,_,rfl,_,rfl,_,_,rfl,rfl,.inl ⟨by decide,by decide⟩,_,rfl,_,rfl,_,rfl,_,_,rfl,rfl,_,_,rfl,rfl,.inl ⟨by omega,by omega⟩,_,_,rfl,rfl,⟨hmm,hmm2⟩,_,_,rfl,rfl,(by show (0:Int)<2;decide),rfl,a,ns,1,m,_,_,rfl,hS,by decide,by omega,by omega,by omega,by omega,fun le ds H1 nle s1 e1 hdl hdb=>?_⟩
    have hdl':ds.length=2*ct.toNat:=by rw [hdl];omega
    refine ⟨_,rfl,_,rfl,ct,rfl,by omega,by omega,lc_by itok_range (fun i ys H2=>Same H1 H2∧∃es,Pairs K H2 ys es∧es.length=i∧EndsIn es m) (Nat.le_of_lt (small1000 (by omega))) ⟨Same.refl _,[],.nil,rfl,EndsIn.nil⟩ ?_ ?_ ?_⟩
    · rintro i ys H2 hi ⟨s2,es,hp,he,_⟩
      exact ⟨trivial,by have:=hp.len;omega⟩
    · rintro i ys H2 hi ⟨s2,es,hp,he,hE⟩
      have hi':i<ct.toNat:=hi
      have hyl:=hp.len
      have e2:=s2 _ _ e1
      have a1:atI (ds.map V.int) (2*(0+(i:Nat)):Int)=some (.int (ds.getD (2*i) 0)):=by
        have:=at_int (ns:=ds) (k:=(2*(0+(i:Nat)):Int)) (by omega) (by omega)
        rwa [show (2*(0+(i:Nat)):Int).toNat=2*i by omega] at this
      have a2:atI (ds.map V.int) (2*(0+(i:Nat))+1:Int)=some (.int (ds.getD (2*i+1) 0)):=by
        have:=at_int (ns:=ds) (k:=(2*(0+(i:Nat))+1:Int)) (by omega) (by omega)
        rwa [show (2*(0+(i:Nat))+1:Int).toNat=2*i+1 by omega] at this
      have d1:=hdb (ds.getD (2*i) 0) (by rw [List.getD_eq_getElem?_getD,List.getElem?_eq_getElem (show 2*i<ds.length by omega)];exact List.getElem_mem _)
      have d2:=hdb (ds.getD (2*i+1) 0) (by rw [List.getD_eq_getElem?_getD,List.getElem?_eq_getElem (show 2*i+1<ds.length by omega)];exact List.getElem_mem _)
      refine ⟨wk_set rfl,iteT ⟨_,rfl,_,rfl,_,_,rfl,rfl,.inl ⟨by decide,by decide⟩,le,_,_,_,rfl,rfl,SqL.of e2,a1,_,rfl,_,rfl,_,_,rfl,rfl,.inl ⟨by decide,by decide⟩,_,_,rfl,rfl,le,_,_,_,rfl,rfl,SqL.of e2,a2,(by show 2≤sizeLine;decide),fun t nt=>?_⟩⟩
      have s3:=Same.new (o:=.tup [.int (ds.getD (2*i) 0),.int (ds.getD (2*i+1) 0)]) nt
      refine ⟨small1000 (by omega),_,by omega,rfl,by omega,s2.trans s3,es++[(ds.getD (2*i) 0,ds.getD (2*i+1) 0)],?_,by rw [List.length_append,he];rfl,hE.snoc ⟨d1.1,d1.2,d2.1,d2.2⟩⟩
      exact (hp.same s3).snoc (e:=(ds.getD (2*i) 0,ds.getD (2*i+1) 0)) (SqT.of upd_same)
    · rintro ys H2 ⟨s2,es,hp,he,hE⟩ l nl
      have s3:=Same.new (o:=.lst ys) nl
      have l3:(upd H2 l (.lst ys)) l=some (.lst ys):=upd_same
      have p3:=hp.same s3
      have s13:=(s1.trans s2).trans s3
      have nlH:H l=none:=none_back (s1.trans s2) nl
      generalize upd H2 l (.lst ys)=H3 at s3 l3 p3 s13
      refine ⟨(by show 2≤sizeLine;decide),fun t nt=>?_⟩
      exact k t l m ys es _ nlH (s13.next nt) upd_same (Same.new nt _ _ l3) (p3.same (Same.new nt)) m1 m2 (by omega) hE
def spLg (K:PySem.W.Frag):Sp:=fun vs H Q _=>∃(l f:Addr) (m:Int) (xs:List V) (es:List (Int×Int)) (fs:List Int),vs=[.int m,.ref l,.ref f]∧SqL K H l xs∧Pairs K H xs es∧SqL K H f (fs.map V.int)∧fs.length=es.length∧1≤m∧m≤20∧es.length≤40∧EndsIn es m ∧
  ∀(l2:Addr) (zs:List Int) (H':Hp),H l2=none→Same H H'→H' l2=some (.lst (zs.map V.int))→zs.length=m.toNat→(∀p:Nat,p<m.toNat→zs.getD p 0=dp p es fs es.length)→Q (.ref l2) H'
theorem scLg:FnScope ["many","ties","amounts","gains_v","k"] ["many","ties","amounts"] (defScope sLg):=⟨rfl,rfl,rfl,by decide +kernel,rfl,by decide +kernel,by decide +kernel⟩
set_option maxHeartbeats 4000000 in
theorem ok_Lg {f:Addr} {fd:FuncData} (F:Fun K "_law_gains" "_law_gains" sLg f fd) (T:Txt K mg c):FnOk P w K mg base CX0 1 f fd ["many","ties","amounts"] (spLg K):=by
  refine F.ok scLg (fun vs H Q E h=>?_) (fun cdv A outer s H vs Q E hr h=>?_)
  · obtain ⟨l,f,m,xs,es,fs,rfl,_⟩:=h
    rfl
  · obtain ⟨l,f,m,xs,es,fs,rfl,hl,hp,hf,hfl,m1,m2,hz,hE,k⟩:=h
    have hxl:=hp.len
    refine ⟨_,pss_cons (ps_set (i:=3) scLg.nd rfl (Or.inl rfl) (pe_op op_rep (pe_lst (pa_cons (pe_int) pa_nil)) (pv 0)))
      (pss_cons (ps_for PassesOwn.never rfl (pi_range1 rfl T.range (pa_cons (pe_callB (cLen (K:=K) rfl) (by rfl) T.len PySem.boot_len (pa_cons (pv 1) pa_nil)) pa_nil)) (pg_name (i:=4) scLg.nd rfl (Or.inl rfl))
        (pss_cons (ps_asg (pe_op op_sub (pe_ix (ixL (K:=K) rfl) (pv 3) (pe_ix (ixT (K:=K) rfl) (pe_ix (ixL (K:=K) rfl) (pv 1) (pv 4) (fun _ _=>rfl)) (pe_int) (fun _ _=>rfl)) (fun _ _=>rfl)) (pe_ix (ixL (K:=K) rfl) (pv 2) (pv 4) (fun _ _=>rfl))) (pg_sub (pv 3) (pe_ix (ixT (K:=K) rfl) (pe_ix (ixL (K:=K) rfl) (pv 1) (pv 4) (fun _ _=>rfl)) (pe_int) (fun _ _=>rfl)) set_list))
      (pss_one (ps_asg (pe_op op_add (pe_ix (ixL (K:=K) rfl) (pv 3) (pe_ix (ixT (K:=K) rfl) (pe_ix (ixL (K:=K) rfl) (pv 1) (pv 4) (fun _ _=>rfl)) (pe_int) (fun _ _=>rfl)) (fun _ _=>rfl)) (pe_ix (ixL (K:=K) rfl) (pv 2) (pv 4) (fun _ _=>rfl))) (pg_sub (pv 3) (pe_ix (ixT (K:=K) rfl) (pe_ix (ixL (K:=K) rfl) (pv 1) (pv 4) (fun _ _=>rfl)) (pe_int) (fun _ _=>rfl)) set_list)))))
      (pss_one (ps_ret (pv 3)))),?_⟩
    refine ⟨(by show 1≤sizeLine;decide),fun l1 nl1=>?_⟩
    have s1:Same H (upd H l1 (.lst [V.int 0])):=Same.new nl1
    have e1:(upd H l1 (.lst [V.int 0])) l1=some (.lst [V.int 0]):=upd_same
    generalize upd H l1 (.lst [V.int 0])=H1 at s1 e1
    refine ⟨_,rfl,l1,m,_,rfl,rfl,e1,by omega,by omega,Nat.le_of_lt (small1000 (by show 1*m.toNat≤1000;omega)),fun g ng=>?_⟩
    rw [rep_ints]
    have s2:=s1.next (o:=.lst ((List.replicate m.toNat (0:Int)).map V.int)) ng
    have e2:(upd H1 g (.lst ((List.replicate m.toNat (0:Int)).map V.int))) g=some (.lst ((List.replicate m.toNat (0:Int)).map V.int)):=upd_same
    have ngH:H g=none:=none_back s1 ng
    generalize upd H1 g (.lst ((List.replicate m.toNat (0:Int)).map V.int))=H2 at s2 e2
    refine ⟨_,rfl,l,xs,rfl,.inl (s2.seq hl),(xs.length:Int),rfl,by omega,by omega,for_by itok_range (fun i σ H3=>∃(zs:List Int) (v4:Option V),σ=[some (.int m),some (.ref l),some (.ref f),some (.ref g),v4]∧Same H H3∧H3 g=some (.lst (zs.map V.int))∧zs.length=m.toNat∧∀p:Nat,p<m.toNat→zs.getD p 0=dp p es fs i) ⟨_,none,rfl,s2,e2,List.length_replicate ..,fun p hp=>?_⟩ (fun _ _ _ _ _=>trivial) ?_ ?_⟩
    · rw [List.getD_eq_getElem?_getD,List.getElem?_replicate,if_pos hp];rfl
    · rintro i σ H3 hi ⟨zs,v4,rfl,s3,e3,hzl,hd⟩
      have hi':i<es.length:=by have:i<xs.length:=hi;omega
      obtain ⟨r,ar,hr2,hm⟩:=tie_get (hp.same s3) (show (0:Int)≤0+(i:Nat) by omega) (show (0+(i:Nat):Int)<(es.length:Int) by omega)
      have eT:tieOf es (0+(i:Nat):Int)=es.getD i (0,0):=by unfold tieOf;rw [show (0+(i:Nat):Int).toNat=i by omega]
      rw [eT] at hr2 hm
      have hg:es[i]?=some (es.getD i (0,0)):=by rw [List.getD_eq_getElem?_getD,List.getElem?_eq_getElem hi'];rfl
      obtain ⟨b1,b2,b3,b4⟩:=hE _ hm
      have af:atI (fs.map V.int) (0+(i:Nat):Int)=some (.int (fs.getD i 0)):=by
        have:=at_int (ns:=fs) (k:=(0+(i:Nat):Int)) (by omega) (by omega)
        rwa [show (0+(i:Nat):Int).toNat=i by omega] at this
      have step:=dp_step (n:=m.toNat) hzl hg b1 (by omega) b3 (by omega) hd
      generalize es.getD i (0,0)=e at *
      have a1:atI (zs.map V.int) e.1=some (.int (zs.getD e.1.toNat 0)):=at_int (ns:=zs) b1 (by omega)
      refine ⟨_,rfl,_,rfl,_,rfl,l,xs,_,.ref r,rfl,rfl,s3.seq hl,ar,r,_,0,_,rfl,rfl,hr2,rfl,g,_,_,_,rfl,rfl,SqL.of e3,a1,_,rfl,_,rfl,f,_,_,_,rfl,rfl,s3.seq hf,af,_,_,rfl,rfl,?_⟩
      refine ⟨_,rfl,_,rfl,_,rfl,l,xs,_,.ref r,rfl,rfl,s3.seq hl,ar,r,_,0,_,rfl,rfl,hr2,rfl,g,_,e.1,_,rfl,rfl,e3,ixN_nat b1 (by rw [List.length_map];omega),?_⟩
      rw [set_ints]
      have s4:Same H (upd H3 g (.lst ((zs.set e.1.toNat (zs.getD e.1.toNat 0-fs.getD i 0)).map V.int))):=s3.upd ngH
      have e4:(upd H3 g (.lst ((zs.set e.1.toNat (zs.getD e.1.toNat 0-fs.getD i 0)).map V.int))) g=some (.lst ((zs.set e.1.toNat (zs.getD e.1.toNat 0-fs.getD i 0)).map V.int)):=upd_same
      have hr4:SqT K (upd H3 g (.lst ((zs.set e.1.toNat (zs.getD e.1.toNat 0-fs.getD i 0)).map V.int))) r [.int e.1,.int e.2]:=(sameX_upd (a:=g)).tup e3 hr2
      generalize upd H3 g (.lst ((zs.set e.1.toNat (zs.getD e.1.toNat 0-fs.getD i 0)).map V.int))=H4 at s4 e4 hr4
      have a2:atI ((zs.set e.1.toNat (zs.getD e.1.toNat 0-fs.getD i 0)).map V.int) e.2=some (.int ((zs.set e.1.toNat (zs.getD e.1.toNat 0-fs.getD i 0)).getD e.2.toNat 0)):=at_int (ns:=zs.set e.1.toNat (zs.getD e.1.toNat 0-fs.getD i 0)) b3 (by rw [List.length_set];omega)
      refine ⟨_,rfl,_,rfl,_,rfl,l,xs,_,.ref r,rfl,rfl,s4.seq hl,ar,r,_,1,_,rfl,rfl,hr4,rfl,g,_,_,_,rfl,rfl,SqL.of e4,a2,_,rfl,_,rfl,f,_,_,_,rfl,rfl,s4.seq hf,af,_,_,rfl,rfl,?_⟩
      refine ⟨_,rfl,_,rfl,_,rfl,l,xs,_,.ref r,rfl,rfl,s4.seq hl,ar,r,_,1,_,rfl,rfl,hr4,rfl,g,_,e.2,_,rfl,rfl,e4,ixN_nat b3 (by rw [List.length_map,List.length_set];omega),?_⟩
      rw [set_ints]
      exact ⟨_,_,rfl,s4.upd ngH,upd_same,by rw [List.length_set,List.length_set];exact hzl,step⟩
    · rintro σ H3 ⟨zs,v4,rfl,s3,e3,hzl,hd⟩
      rw [show ((xs.length:Int)).toNat=es.length from hxl] at hd
      exact ⟨_,rfl,k g zs H3 ngH s3 e3 hzl hd⟩
def KdV (K:PySem.W.Frag) (c:Cs) (H:Hp) (v:V) (nm:Str):Prop:=∃b1 b2 b3 b4 b5 b6 b7 b8 b9 b10 b11:Bool,(∀H',Same H H'→IsV K H' v (.ref c.BadDeed) b1∧IsV K H' v (.ref c.BadFlow) b2∧IsV K H' v (.ref c.BadPaper) b3∧IsV K H' v (.ref c.BadPlace) b4∧IsV K H' v (.ref c.BadRest) b5∧IsV K H' v (.ref c.BadSet) b6∧IsV K H' v (.ref c.BadText) b7∧IsV K H' v (.ref c.BadTie) b8∧IsV K H' v (.ref c.BadWeb) b9∧IsV K H' v (.ref c.NoFlow) b10∧IsV K H' v (.ref c.TooMany) b11) ∧
  ((∀H',Same H H'→IsV K H' v (.ty "ValueError") true)∧([V.bl b1,.bl b2,.bl b3,.bl b4,.bl b5,.bl b6,.bl b7,.bl b8,.bl b9,.bl b10,.bl b11].countP fun z=>eqV z (.bl true))=1∧(∃j:Nat,j<11∧eqV ([V.bl b1,.bl b2,.bl b3,.bl b4,.bl b5,.bl b6,.bl b7,.bl b8,.bl b9,.bl b10,.bl b11].getD j .non) (.bl true)=true∧(∀i,i<j→eqV ([V.bl b1,.bl b2,.bl b3,.bl b4,.bl b5,.bl b6,.bl b7,.bl b8,.bl b9,.bl b10,.bl b11].getD i .non) (.bl true)=false)∧[V.str "BadDeed",.str "BadFlow",.str "BadPaper",.str "BadPlace",.str "BadRest",.str "BadSet",.str "BadText",.str "BadTie",.str "BadWeb",.str "NoFlow",.str "TooMany"][j]?=some (V.str nm))∨(([V.bl b1,.bl b2,.bl b3,.bl b4,.bl b5,.bl b6,.bl b7,.bl b8,.bl b9,.bl b10,.bl b11].countP fun z=>eqV z (.bl true))=0∧nm="other"))
theorem kdv_exc {K:PySem.W.Frag} {c:Cs} {H:Hp} {a A:Addr} {C:Value} {nm:Str} (ha:H a=some (.ext (ExcO a C))) (hC:ClsX C A) (kd:Kind K c A nm):KdV K c H (.ref a) nm:=by
  obtain ⟨b1,b2,b3,b4,b5,b6,b7,b8,b9,b10,b11,h1,h2,h3,h4,h5,h6,h7,h8,h9,h10,h11,cnt,j,hj,hj1,hj2,hnm⟩:=kd.ks
  have iv:∀{cv:Addr} {b:Bool},PySem.W.kitOne K (.ref A) (.ref cv)=some b→∀H',Same H H'→IsV K H' (.ref a) (.ref cv) b:=fun e H' S=>⟨_,rfl,fun _ z=>z,.inr ⟨a,A,C,rfl,S _ _ ha,hC,kd.ex,e⟩⟩
  exact ⟨b1,b2,b3,b4,b5,b6,b7,b8,b9,b10,b11,fun H' S=>⟨iv h1 H' S,iv h2 H' S,iv h3 H' S,iv h4 H' S,iv h5 H' S,iv h6 H' S,iv h7 H' S,iv h8 H' S,iv h9 H' S,iv h10 H' S,iv h11 H' S⟩,.inl ⟨fun H' S=>⟨_,rfl,fun _ z=>z,.inr ⟨a,A,C,rfl,S _ _ ha,hC,kd.ex,kd.ve⟩⟩,cnt,j,hj,hj1,hj2,hnm⟩⟩
def spKi (K:PySem.W.Frag) (c:Cs):Sp:=fun vs H Q _=>∃(v:V) (nm:Str),vs=[v]∧KdV K c H v nm∧∀H',Same H H'→Q (.str nm) H'
theorem scKi:FnScope ["found","names","kinds"] ["found"] (defScope sKi):=⟨rfl,rfl,rfl,by decide +kernel,rfl,by decide +kernel,by decide +kernel⟩
set_option maxHeartbeats 4000000 in
theorem ok_Ki {f:Addr} {fd:FuncData} (F:Fun K "_law_kind" "_law_kind" sKi f fd) (T:Txt K mg c):FnOk P w K mg base CX0 1 f fd ["found"] (spKi K c):=by
  refine F.ok scKi (fun vs H Q E h=>?_) (fun cdv A outer s H vs Q E hr h=>?_)
  · obtain ⟨v,nm,rfl,_⟩:=h
    rfl
  · obtain ⟨v,nm,rfl,⟨b1,b2,b3,b4,b5,b6,b7,b8,b9,b10,b11,hI,hN⟩,k⟩:=h
    refine ⟨_,pss_cons (ps_set (i:=1) scKi.nd rfl (Or.inl rfl) (pe_lst (pa_cons (pe_str) (pa_cons (pe_str) (pa_cons (pe_str) (pa_cons (pe_str) (pa_cons (pe_str) (pa_cons (pe_str) (pa_cons (pe_str) (pa_cons (pe_str) (pa_cons (pe_str) (pa_cons (pe_str) pa_nil))))))))))))
      (pss_cons (ps_set (i:=2) scKi.nd rfl (Or.inl rfl) (pe_lst (pa_cons (pe_callB (cIsN (K:=K) rfl) (by rfl) T.isinstance PyProof.Rows.boot_isinstance (pa_cons (pv 0) (pa_cons (pe_glob (v:=.ref c.BadDeed) (by rfl) T.mBadDeed rfl) pa_nil))) (pa_cons (pe_callB (cIsN (K:=K) rfl) (by rfl) T.isinstance PyProof.Rows.boot_isinstance (pa_cons (pv 0) (pa_cons (pe_glob (v:=.ref c.BadFlow) (by rfl) T.mBadFlow rfl) pa_nil))) (pa_cons (pe_callB (cIsN (K:=K) rfl) (by rfl) T.isinstance PyProof.Rows.boot_isinstance (pa_cons (pv 0) (pa_cons (pe_glob (v:=.ref c.BadPaper) (by rfl) T.mBadPaper rfl) pa_nil))) pa_nil)))))
      (pss_cons (ps_set (i:=2) scKi.nd rfl (Or.inl rfl) (pe_op op_cat (pv 2) (pe_lst (pa_cons (pe_callB (cIsN (K:=K) rfl) (by rfl) T.isinstance PyProof.Rows.boot_isinstance (pa_cons (pv 0) (pa_cons (pe_glob (v:=.ref c.BadPlace) (by rfl) T.mBadPlace rfl) pa_nil))) (pa_cons (pe_callB (cIsN (K:=K) rfl) (by rfl) T.isinstance PyProof.Rows.boot_isinstance (pa_cons (pv 0) (pa_cons (pe_glob (v:=.ref c.BadRest) (by rfl) T.mBadRest rfl) pa_nil))) (pa_cons (pe_callB (cIsN (K:=K) rfl) (by rfl) T.isinstance PyProof.Rows.boot_isinstance (pa_cons (pv 0) (pa_cons (pe_glob (v:=.ref c.BadSet) (by rfl) T.mBadSet rfl) pa_nil))) pa_nil))))))
      (pss_cons (ps_set (i:=2) scKi.nd rfl (Or.inl rfl) (pe_op op_cat (pv 2) (pe_lst (pa_cons (pe_callB (cIsN (K:=K) rfl) (by rfl) T.isinstance PyProof.Rows.boot_isinstance (pa_cons (pv 0) (pa_cons (pe_glob (v:=.ref c.BadText) (by rfl) T.mBadText rfl) pa_nil))) (pa_cons (pe_callB (cIsN (K:=K) rfl) (by rfl) T.isinstance PyProof.Rows.boot_isinstance (pa_cons (pv 0) (pa_cons (pe_glob (v:=.ref c.BadTie) (by rfl) T.mBadTie rfl) pa_nil))) (pa_cons (pe_callB (cIsN (K:=K) rfl) (by rfl) T.isinstance PyProof.Rows.boot_isinstance (pa_cons (pv 0) (pa_cons (pe_glob (v:=.ref c.BadWeb) (by rfl) T.mBadWeb rfl) pa_nil))) pa_nil))))))
      (pss_cons (ps_set (i:=2) scKi.nd rfl (Or.inl rfl) (pe_op op_cat (pv 2) (pe_lst (pa_cons (pe_callB (cIsN (K:=K) rfl) (by rfl) T.isinstance PyProof.Rows.boot_isinstance (pa_cons (pv 0) (pa_cons (pe_glob (v:=.ref c.NoFlow) (by rfl) T.mNoFlow rfl) pa_nil))) (pa_cons (pe_callB (cIsN (K:=K) rfl) (by rfl) T.isinstance PyProof.Rows.boot_isinstance (pa_cons (pv 0) (pa_cons (pe_glob (v:=.ref c.TooMany) (by rfl) T.mTooMany rfl) pa_nil))) pa_nil)))))
      (pss_cons (ps_if (PW.pt (pw_or (pt_cmpR op_ne (pe_bm PySem.F.plainAttrs_list PySem.F.slot_list_count PySem.F.type_list_count (mCount (K:=K) rfl) (pv 2) (pa_cons (pe_bl) pa_nil)) (pe_int) (nomark _)) (pw_or1 (pt_not (pt_val (pe_callB (cIsN (K:=K) rfl) (by rfl) T.isinstance PyProof.Rows.boot_isinstance (pa_cons (pv 0) (pa_cons (pe_bltn (v:=.ty "ValueError") (by rfl) T.ValueError (show bootBuiltins "ValueError"=some (.type "ValueError") by decide +kernel) rfl) pa_nil))))))))
        (pss_one (ps_ret (pe_str))) (pss_nil))
      (pss_one (ps_ret (pe_ix (ixL (K:=K) rfl) (pe_op op_cat (pv 1) (pe_lst (pa_cons (pe_str) pa_nil))) (pe_bm PySem.F.plainAttrs_list PySem.F.slot_list_index PySem.F.type_list_index (mIndexV (K:=K) rfl) (pv 2) (pa_cons (pe_bl) pa_nil)) (fun _ _=>rfl))))))))),?_⟩
    refine ⟨(by show 10≤sizeLine;decide),fun ln nln=>?_⟩
    have s0:=Same.new (o:=.lst [V.str "BadDeed",.str "BadFlow",.str "BadPaper",.str "BadPlace",.str "BadRest",.str "BadSet",.str "BadText",.str "BadTie",.str "BadWeb",.str "NoFlow"]) nln
    have e0:(upd H ln (.lst [V.str "BadDeed",.str "BadFlow",.str "BadPaper",.str "BadPlace",.str "BadRest",.str "BadSet",.str "BadText",.str "BadTie",.str "BadWeb",.str "NoFlow"])) ln=some (.lst [V.str "BadDeed",.str "BadFlow",.str "BadPaper",.str "BadPlace",.str "BadRest",.str "BadSet",.str "BadText",.str "BadTie",.str "BadWeb",.str "NoFlow"]):=upd_same
    generalize upd H ln (.lst [V.str "BadDeed",.str "BadFlow",.str "BadPaper",.str "BadPlace",.str "BadRest",.str "BadSet",.str "BadText",.str "BadTie",.str "BadWeb",.str "NoFlow"])=H0 at s0 e0
    obtain ⟨i1,i2,i3,-⟩:=hI H0 s0
    refine ⟨_,rfl,v,_,b1,rfl,i1,_,rfl,v,_,b2,rfl,i2,_,rfl,v,_,b3,rfl,i3,(by show 3≤sizeLine;decide),fun l1 n1=>?_⟩
    have s1:=s0.next (o:=.lst [.bl b1,.bl b2,.bl b3]) n1
    have e1:(upd H0 l1 (.lst [.bl b1,.bl b2,.bl b3])) l1=some (.lst [.bl b1,.bl b2,.bl b3]):=upd_same
    have m1:=Same.new (o:=.lst [.bl b1,.bl b2,.bl b3]) n1 _ _ e0
    generalize upd H0 l1 (.lst [.bl b1,.bl b2,.bl b3])=H1 at s1 e1 m1
    obtain ⟨-,-,-,i4,i5,i6,-⟩:=hI H1 s1
    refine ⟨_,rfl,_,rfl,v,_,b4,rfl,i4,_,rfl,v,_,b5,rfl,i5,_,rfl,v,_,b6,rfl,i6,(by show 3≤sizeLine;decide),fun l2 n2=>?_⟩
    have s2:=Same.new (o:=.lst [.bl b4,.bl b5,.bl b6]) n2
    refine ⟨l1,l2,_,_,rfl,rfl,s2 _ _ e1,upd_same,(by show 6≤sizeLine;decide),fun l3 n3=>?_⟩
    have s3:=(s1.trans s2).next (o:=.lst ([.bl b1,.bl b2,.bl b3]++[.bl b4,.bl b5,.bl b6])) n3
    have m3:=(s2.next (o:=.lst ([.bl b1,.bl b2,.bl b3]++[.bl b4,.bl b5,.bl b6])) n3) _ _ m1
    have e3:(upd (upd H1 l2 (.lst [.bl b4,.bl b5,.bl b6])) l3 (.lst ([.bl b1,.bl b2,.bl b3]++[.bl b4,.bl b5,.bl b6]))) l3=some (.lst ([.bl b1,.bl b2,.bl b3]++[.bl b4,.bl b5,.bl b6])):=upd_same
    generalize upd (upd H1 l2 (.lst [.bl b4,.bl b5,.bl b6])) l3 (.lst ([.bl b1,.bl b2,.bl b3]++[.bl b4,.bl b5,.bl b6]))=H3 at s3 e3 m3
    obtain ⟨-,-,-,-,-,-,i7,i8,i9,-⟩:=hI H3 s3
    refine ⟨_,rfl,_,rfl,v,_,b7,rfl,i7,_,rfl,v,_,b8,rfl,i8,_,rfl,v,_,b9,rfl,i9,(by show 3≤sizeLine;decide),fun l4 n4=>?_⟩
    have s4:=Same.new (o:=.lst [.bl b7,.bl b8,.bl b9]) n4
    refine ⟨l3,l4,_,_,rfl,rfl,s4 _ _ e3,upd_same,(by show 9≤sizeLine;decide),fun l5 n5=>?_⟩
    have s5:=(s3.trans s4).next (o:=.lst (([.bl b1,.bl b2,.bl b3]++[.bl b4,.bl b5,.bl b6])++[.bl b7,.bl b8,.bl b9])) n5
    have m5:=(s4.next (o:=.lst (([.bl b1,.bl b2,.bl b3]++[.bl b4,.bl b5,.bl b6])++[.bl b7,.bl b8,.bl b9])) n5) _ _ m3
    have e5:(upd (upd H3 l4 (.lst [.bl b7,.bl b8,.bl b9])) l5 (.lst (([.bl b1,.bl b2,.bl b3]++[.bl b4,.bl b5,.bl b6])++[.bl b7,.bl b8,.bl b9]))) l5=some (.lst (([.bl b1,.bl b2,.bl b3]++[.bl b4,.bl b5,.bl b6])++[.bl b7,.bl b8,.bl b9])):=upd_same
    generalize upd (upd H3 l4 (.lst [.bl b7,.bl b8,.bl b9])) l5 (.lst (([.bl b1,.bl b2,.bl b3]++[.bl b4,.bl b5,.bl b6])++[.bl b7,.bl b8,.bl b9]))=H5 at s5 e5 m5
    obtain ⟨-,-,-,-,-,-,-,-,-,i10,i11⟩:=hI H5 s5
    refine ⟨_,rfl,_,rfl,v,_,b10,rfl,i10,_,rfl,v,_,b11,rfl,i11,(by show 2≤sizeLine;decide),fun l6 n6=>?_⟩
    have s6:=Same.new (o:=.lst [.bl b10,.bl b11]) n6
    refine ⟨l5,l6,_,_,rfl,rfl,s6 _ _ e5,upd_same,(by show 11≤sizeLine;decide),fun l7 n7=>?_⟩
    have s7:=(s5.trans s6).next (o:=.lst ((([.bl b1,.bl b2,.bl b3]++[.bl b4,.bl b5,.bl b6])++[.bl b7,.bl b8,.bl b9])++[.bl b10,.bl b11])) n7
    have m7:=(s6.next (o:=.lst ((([.bl b1,.bl b2,.bl b3]++[.bl b4,.bl b5,.bl b6])++[.bl b7,.bl b8,.bl b9])++[.bl b10,.bl b11])) n7) _ _ m5
    have e7:(upd (upd H5 l6 (.lst [.bl b10,.bl b11])) l7 (.lst ((([.bl b1,.bl b2,.bl b3]++[.bl b4,.bl b5,.bl b6])++[.bl b7,.bl b8,.bl b9])++[.bl b10,.bl b11]))) l7=some (.lst [V.bl b1,.bl b2,.bl b3,.bl b4,.bl b5,.bl b6,.bl b7,.bl b8,.bl b9,.bl b10,.bl b11]):=upd_same
    generalize upd (upd H5 l6 (.lst [.bl b10,.bl b11])) l7 (.lst ((([.bl b1,.bl b2,.bl b3]++[.bl b4,.bl b5,.bl b6])++[.bl b7,.bl b8,.bl b9])++[.bl b10,.bl b11]))=H7 at s7 e7 m7
    refine ⟨_,rfl,.inl ⟨rfl,_,SqL.of e7⟩,l7,_,_,rfl,rfl,SqL.of e7,rfl,rfl,rfl,_,rfl,?_⟩
    rcases hN with ⟨hV,cnt,j,hj,hj1,hj2,hnm⟩ | ⟨cnt,rfl⟩
    rotate_left
    · rw [cnt]
      exact iteT (iteT (k _ s7))
    rw [cnt]
    refine iteF ⟨_,rfl,v,_,true,rfl,hV H7 s7,_,rfl,iteF ?_⟩
    refine ⟨_,rfl,(by show 1≤sizeLine;decide),fun l8 n8=>⟨ln,l8,_,_,rfl,rfl,Same.new n8 _ _ m7,upd_same,(by show 11≤sizeLine;decide),fun l9 n9=>?_⟩⟩
    have s9:=((Same.new (o:=.lst [V.str "TooMany"]) n8).next (o:=.lst ([V.str "BadDeed",.str "BadFlow",.str "BadPaper",.str "BadPlace",.str "BadRest",.str "BadSet",.str "BadText",.str "BadTie",.str "BadWeb",.str "NoFlow"]++[V.str "TooMany"])) n9)
    refine ⟨_,rfl,.inl ⟨rfl,_,SqL.of (s9 _ _ e7)⟩,l7,_,_,j,rfl,rfl,SqL.of (s9 _ _ e7),rfl,rfl,hj,(by show 11≤1000;decide),hj1,hj2,l9,_,_,_,rfl,rfl,SqL.of upd_same,atI_int (i:=(j:Int)) (by omega) (by rw [Int.toNat_natCast];exact hnm),?_⟩
    exact k _ (s7.trans s9)
def spRf (K:PySem.W.Frag) (c:Cs):Sp:=fun vs H Q _=>∃(x q:Addr) (m k:Int) (es:List (Int×Int)) (rs:List Int),vs=[.ref x,.ref q,.int k]∧WebAt K c.Web H x m es∧SqL K H q (rs.map V.int)∧rs.length=es.length∧1≤m∧m≤20∧es.length≤40∧EndsIn es m∧2≤k∧k≤10^20∧isR m es rs k=false∧∀H',Same H H'→Q (.bl true) H'
theorem scRf:FnScope ["web","rests","k","found","e"] ["web","rests","k"] (defScope sRf):=⟨rfl,rfl,rfl,by decide +kernel,rfl,by decide +kernel,by decide +kernel⟩
set_option maxHeartbeats 4000000 in
theorem ok_Rf {f:Addr} {fd:FuncData} (F:Fun K "_law_refused" "_law_refused" sRf f fd) (T:Txt K mg c) (D_Rn:DefE P w K mg base 4 "rest_number" ["web","rests","k"] (spRn K c)) (D_Ki:Def P w K mg base 1 "_law_kind" ["found"] (spKi K c)):FnOk P w K mg base CX0 5 f fd ["web","rests","k"] (spRf K c):=by
  refine F.ok scRf (fun vs H Q E h=>?_) (fun cdv A outer s H vs Q E hr h=>?_)
  · obtain ⟨x,q,m,k,es,rs,rfl,_⟩:=h
    rfl
  · obtain ⟨x,q,m,k,es,rs,rfl,hw,hq,hl,m1,m2,hz,hE,h0,h1,hR,kk⟩:=h
    have hu:A.units+3+64<cLine:=hr.units
    refine ⟨_,pss_cons (ps_set (i:=3) scRf.nd rfl (Or.inl rfl) (pe_non))
      (pss_cons (ps_cut (ps_tryX (i:=4) ⟨rfl,rfl,rfl⟩ scRf.nd rfl rfl (by rfl) T.mFlowError T.xFlowError (fun pn Ex=>pss_one (ps_expr (pe_defE D_Rn hr rfl rfl (pa_cons (pv 0) (pa_cons (pv 1) (pa_cons (pv 2) pa_nil)))))) (fun x=>pss_one (ps_set (i:=3) scRf.nd rfl (Or.inl rfl) (pv 4)))))
      (pss_one (ps_ret (pe_and (pe_cmpR op_eq (pe_defR D_Ki hr (pa_cons (pv 3) pa_nil)) (pe_str) (nomark _)) (pe_one (pe_cmpR op_isN (pe_tie (K:=K) rfl (pv 3) (by rfl)) (pe_non) (nomark _))))))),?_⟩
    refine ⟨fun σ' H'=>∃y d:Nat,σ'=[some (.ref x),some (.ref q),some (.int k),some (.ref y),none]∧Same H H'∧H' y=some (.ext (ExcO y (.int d c.NoFlow)))∧H' d=some (.xd [("tie",.non)]),?_,?_⟩
    · refine ⟨fun σ' C H'=>∃d:Nat,σ'=[some (.ref x),some (.ref q),some (.int k),some .non,none]∧Same H H'∧C=.int d c.NoFlow∧H' d=some (.xd [("tie",.non)]),?_,?_⟩
      · exact ⟨_,rfl,_,rfl,_,rfl,x,q,m,k,es,rs,rfl,hw,hq,by omega,m1,m2,hz,hE,fun z=>absurd ⟨h0,h1⟩ z,fun _ _ z=>absurd hl z,fun _ _ _ _ d H' s' nd=>⟨d,rfl,s'.next nd,rfl,upd_same⟩,fun _ _ _ z=>absurd (hR.symm.trans z) (fun y=>nomatch y)⟩
      · rintro σ' C H' ⟨d,rfl,s1,rfl,hd⟩
        obtain ⟨f0,hx0⟩:=T.xNoFlow
        exact ⟨_,.inr ⟨_,_,f0,rfl,hx0⟩,T.rNoFlow,fun y ny=>⟨_,rfl,y,d,rfl,s1.next ny,upd_same,by rw [upd_ne (ne_of_none hd ny)];exact hd⟩⟩
    · rintro σ' H2 ⟨y,d,rfl,s2,hy,hd⟩
      refine ⟨_,rfl,.ref y,"NoFlow",rfl,kdv_exc hy (.inr ⟨_,rfl⟩) T.kdNoFlow,fun H3 s3=>⟨rfl,_,rfl,?_⟩⟩
      obtain ⟨f0,hx0⟩:=T.xNoFlow
      exact iteT ⟨_,rfl,y,_,_,f0,.non,d,rfl,s3 _ _ hy,s3 _ _ hd,hx0,T.kdNoFlow.ex,rfl,(show Q (V.bl (decide (V.non=V.non))) H3 from by rw [decide_eq_true rfl];exact kk _ (s2.trans s3))⟩
theorem LlS.upd {H:Hp} {l:Addr} {o:HO}:∀{xs:List V} {ls:List (List Int)},(∀v∈xs,v≠.ref l)→LlS H xs ls→LlS (upd H l o) xs ls
  | _,_,_,.nil=>.nil
  | _,_,hn,.cons ⟨r,e,q⟩ t=>.cons ⟨r,e,by rw [upd_ne (fun z=>hn _ List.mem_cons_self (by rw [e,z]))];exact q⟩ (LlS.upd (fun v hv=>hn v (List.mem_cons_of_mem _ hv)) t)
def Frh (H:Hp) (xs:List V):Prop:=∀v∈xs,∃r,v=.ref r∧H r=none
theorem Frh.ne {H:Hp} {xs:List V} {l:Addr} {o:HO} (h:Frh H xs) (hl:H l=some o):∀v∈xs,v≠.ref l:=fun v hv z=>by
  obtain ⟨r,e,n⟩:=h v hv
  rw [e] at z
  injection z with z
  rw [z,hl] at n
  exact nomatch n
theorem Frh.back {H H':Hp} {xs:List V} (s:Same H H') (h:Frh H' xs):Frh H xs:=fun v hv=>by
  obtain ⟨r,e,n⟩:=h v hv
  exact ⟨r,e,none_back s n⟩
theorem LlS.ne {H:Hp} {l:Addr} (hl:H l=none):∀{xs:List V} {ls:List (List Int)},LlS H xs ls→∀v∈xs,v≠.ref l
  | _,_,.nil,v,hv=>nomatch hv
  | _,_,.cons ⟨r,e,q⟩ t,v,hv=>by
    rcases List.mem_cons.mp hv with y | y
    · rw [y,e];intro z;injection z with z;rw [z,hl] at q;exact nomatch q
    · exact LlS.ne hl t v y
def spLi (K:PySem.W.Frag):Sp:=fun vs H Q _=>∃(k n:Nat),vs=[.int k,.int n]∧1≤k∧k≤900∧n≤40∧k^n≤900∧∀(l:Addr) (xs:List V) (H':Hp),H l=none→Same H H'→H' l=some (.lst xs)→LlS H' xs (rws k n)→Frh H xs→Q (.ref l) H'
theorem scLi:FnScope ["k","many","rows","turn","longer","row"] ["k","many"] (defScope sLi):=⟨rfl,rfl,rfl,by decide +kernel,rfl,by decide +kernel,by decide +kernel⟩
theorem fm_take (k:Nat) (L:List (List Int)) {j:Nat} {g:List Int} (h:L[j]?=some g):((L.take (j+1)).flatMap fun row=>(upto k).map fun r=>row++[r])=((L.take j).flatMap fun row=>(upto k).map fun r=>row++[r])++(upto k).map fun r=>g++[r]:=by
  rw [take_snoc h,List.flatMap_append]
  simp
theorem fm_len (k:Nat):∀L:List (List Int),(L.flatMap fun row=>(upto k).map fun r=>row++[r]).length=L.length*k
  | []=>(Nat.zero_mul k).symm
  | a::r=>by rw [List.flatMap_cons,List.length_append,fm_len k r,List.length_map,upto_len,List.length_cons,Nat.succ_mul,Nat.add_comm]
set_option maxHeartbeats 8000000 in
theorem ok_Li {f:Addr} {fd:FuncData} (F:Fun K "_law_lists" "_law_lists" sLi f fd) (T:Txt K mg c):FnOk P w K mg base CX0 1 f fd ["k","many"] (spLi K):=by
  refine F.ok scLi (fun vs H Q E h=>?_) (fun cdv A outer s H vs Q E hr h=>?_)
  · obtain ⟨k,n,rfl,_⟩:=h
    rfl
  · obtain ⟨k,n,rfl,k1,k9,n4,hkn,kk⟩:=h
    have hu:A.units+3+64<cLine:=hr.units
    refine ⟨_,pss_cons (ps_set (i:=2) scLi.nd rfl (Or.inl rfl) (pe_lst (pa_cons (pe_lst pa_nil) pa_nil)))
      (pss_cons (ps_for PassesOwn.never rfl (pi_range1 rfl T.range (pa_cons (pv 1) pa_nil)) (pg_name (i:=3) scLi.nd rfl (Or.inl rfl))
        (pss_cons (ps_set (i:=4) scLi.nd rfl (Or.inl rfl) (pe_lst pa_nil))
      (pss_cons (ps_for PassesOwn.never rfl (piSeqB (K:=K) rfl (pv 2)) (pg_name (i:=5) scLi.nd rfl (Or.inr rfl))
        (pss_one (ps_expr (pe_bm PySem.F.plainAttrs_list PySem.F.slot_list_extend PySem.F.type_list_extend mt_extend (pv 4) (pa_cons (pe_lc (N':=["rest","row"]) (nl:=1) (js:=[5]) rfl (.of (osc:=defScope sLi) (N:=["k","many","rows","turn","longer","row"]) (by decide +kernel) rfl rfl) (pi_range1 rfl T.range (pa_cons (pv 0) pa_nil))
        (fun _ _ _ _=>pg_name (i:=0) (show (["rest","row"]:List Str).Nodup by decide +kernel) rfl (Or.inl rfl)) (fun _ _ _ _=>pif_nil)
        (fun _ _ _ _=>pe_op op_cat (pv 1) (pe_lst (pa_cons (pv 0) pa_nil)))) pa_nil)))))
      (pss_one (ps_set (i:=2) scLi.nd rfl (Or.inl rfl) (pv 4))))))
      (pss_one (ps_ret (pv 2)))),?_⟩
    clear hu
    refine ⟨by decide,fun l0 n0=>?_⟩
    have s0:=Same.new (o:=.lst []) n0
    have e0:(upd H l0 (.lst [])) l0=some (.lst (([]:List Int).map V.int)):=upd_same
    generalize upd H l0 (.lst [])=H0 at s0 e0
    refine ⟨(by show 1≤sizeLine;decide),fun lr nlr=>?_⟩
    have s1:=s0.next (o:=.lst [V.ref l0]) nlr
    have e1:(upd H0 lr (.lst [V.ref l0])) lr=some (.lst [V.ref l0]):=upd_same
    have e01:=Same.new (o:=.lst [V.ref l0]) nlr _ _ e0
    generalize upd H0 lr (.lst [V.ref l0])=H1 at s1 e1 e01
    refine ⟨_,rfl,(n:Int),rfl,by omega,by omega,?_⟩
    rw [show ((n:Int)).toNat=n from Int.toNat_natCast n]
    have pw:∀i,i≤n→k^i≤900:=fun i hi=>Nat.le_trans (Nat.pow_le_pow_right k1 hi) hkn
    refine for_by itok_range (fun i σ H2=>∃(lr:Addr) (xs:List V) (v3 v4 v5:Option V),σ=[some (.int k),some (.int n),some (.ref lr),v3,v4,v5]∧Same H H2∧H lr=none∧H2 lr=some (.lst xs)∧LlS H2 xs (rws k i)∧Frh H xs) ⟨lr,_,none,none,none,rfl,s1,none_back s0 nlr,e1,.cons ⟨l0,rfl,e01⟩ .nil,fun v hv=>⟨l0,List.mem_singleton.mp hv,n0⟩⟩ (fun _ _ _ _ _=>trivial) ?_ ?_
    · rintro i σ H2 hi ⟨lr,xs,v3,v4,v5,rfl,s2,nlr,e2,L2',F2⟩
      have hi':i<n:=hi
      have hxl:=L2'.len
      rw [rws_len] at hxl
      have hp1:=pw i (by omega)
      have hp2:=pw (i+1) (by omega)
      refine ⟨by decide,fun ll nll=>?_⟩
      have s3:=s2.next (o:=.lst []) nll
      have e3:(upd H2 ll (.lst [])) lr=some (.lst xs):=Same.new nll _ _ e2
      have g3:(upd H2 ll (.lst [])) ll=some (.lst []):=upd_same
      have L3:=L2'.same (Same.new (o:=.lst []) nll)
      have nx:=LlS.ne nll L2'
      have llr:lr≠ll:=ne_of_none e2 nll
      have llH:H ll=none:=none_back s2 nll
      generalize upd H2 ll (.lst [])=H3 at s3 e3 g3 L3
      refine ⟨_,rfl,false,lr,_,rfl,SqL.of e3,fun J C O hC=>for_by O (fun j σ H4=>∃(ys:List V) (v5:Option V),σ=[some (.int k),some (.int n),some (.ref lr),some (.int (0+(i:Nat))),some (.ref ll),v5]∧Same H H4∧H4 lr=some (.lst xs)∧H4 ll=some (.lst ys)∧LlS H4 xs (rws k i)∧LlS H4 ys (((rws k i).take j).flatMap fun row=>(upto k).map fun r=>row++[r])∧Frh H ys∧∀v∈ys,v≠.ref ll) ⟨[],_,rfl,s3,e3,g3,L3,.nil,(fun v hv=>nomatch hv),(fun v hv=>nomatch hv)⟩ (fun j σ H4 _ h=>?_) ?_ ?_⟩
      · obtain ⟨ys,v5,_,_,e4,_⟩:=h
        exact hC _ (SqL.of e4)
      · rintro j σ H4 hj ⟨ys,v5,rfl,s4,e4,g4,L4,M4,F4,N4⟩
        obtain ⟨r,row,er,hr4,grow⟩:=L4.at hj
        have hrow:=(mem_rws.mp (List.mem_of_getElem? grow)).1
        have hyl:=M4.len
        rw [fm_len,List.length_take,rws_len] at hyl
        have hpk:k^(i+1)=k^i*k:=Nat.pow_succ ..
        have hjx:j<k^i:=by omega
        have hyk:(j+1)*k≤k^i*k:=Nat.mul_le_mul_right _ hjx
        have hyj:ys.length=j*k:=by rw [hyl,Nat.min_eq_left (by omega)]
        rw [Nat.succ_mul] at hyk
        try dsimp only
        rw [er]
        refine ⟨_,rfl,.inl ⟨rfl,_,SqL.of g4⟩,_,rfl,(k:Int),rfl,by omega,by omega,?_⟩
        rw [show ((k:Int)).toNat=k from Int.toNat_natCast k]
        refine lc_by itok_range (fun t zs H5=>Same H4 H5∧LlS H5 zs (((upto k).take t).map fun r=>row++[r])∧Frh H4 zs) (Nat.le_of_lt (small1000 (by omega))) ⟨Same.refl _,.nil,(fun v hv=>nomatch hv)⟩ ?_ ?_ ?_
        · rintro t zs H5 ht ⟨s5,L5,F5⟩
          have:=L5.len
          rw [List.length_map,List.length_take,upto_len] at this
          exact ⟨trivial,by omega⟩
        · rintro t zs H5 ht ⟨s5,L5,F5⟩
          have hzl:=L5.len
          rw [List.length_map,List.length_take,upto_len] at hzl
          refine ⟨wk_set rfl,iteT ⟨_,rfl,_,rfl,(by show 1≤sizeLine;decide),fun q1 nq1=>?_⟩⟩
          have s6:=Same.new (o:=.lst [V.int (0+(t:Nat))]) nq1
          have e6:(upd H5 q1 (.lst [V.int (0+(t:Nat))])) q1=some (.lst [V.int (0+(t:Nat))]):=upd_same
          generalize upd H5 q1 (.lst [V.int (0+(t:Nat))])=H6 at s6 e6
          refine ⟨r,q1,_,_,rfl,rfl,(s5.trans s6) _ _ hr4,e6,Nat.le_of_lt (small1000 (by rw [List.length_map];show row.length+1≤1000;omega)),fun q2 nq2=>?_⟩
          have s7:=s6.next (o:=.lst (row.map V.int++[V.int (0+(t:Nat))])) nq2
          refine ⟨small1000 (by omega),_,by omega,rfl,by omega,s5.trans s7,?_,fun v hv=>?_⟩
          · rw [take_snoc (upto_get (show t<k from ht)),List.map_append]
            refine LlS.append (L5.same s7) (.cons ⟨q2,rfl,?_⟩ .nil)
            rw [upd_same,List.map_append,Int.zero_add];rfl
          · rcases List.mem_append.mp hv with y | y
            · exact F5 v y
            · exact ⟨q2,List.mem_singleton.mp y,none_back (s5.trans s6) nq2⟩
        rintro zs H5 ⟨s5,L5,F5⟩ lz nlz
        rw [List.take_of_length_le (by rw [upto_len];exact Nat.le_refl _)] at L5
        have hzl:=L5.len
        rw [List.length_map,upto_len] at hzl
        have s6:=s5.next (o:=.lst zs) nlz
        have z6:(upd H5 lz (.lst zs)) lz=some (.lst zs):=upd_same
        have L6:=L5.same (Same.new (o:=.lst zs) nlz)
        generalize upd H5 lz (.lst zs)=H6 at s6 z6 L6
        have zne:=Frh.ne F5 g4
        refine ⟨ll,lz,ys,zs,rfl,rfl,s6 _ _ g4,z6,Nat.le_of_lt (small1000 (by omega)),?_⟩
        refine ⟨ys++zs,_,rfl,(s4.trans s6).upd llH,by rw [upd_ne llr];exact s6 _ _ e4,upd_same,LlS.upd nx (L4.same s6),?_,fun v hv=>?_,fun v hv=>?_⟩
        · rw [fm_take k _ grow]
          exact LlS.append (LlS.upd N4 (M4.same s6)) (LlS.upd zne L6)
        · rcases List.mem_append.mp hv with y | y
          · exact F4 v y
          · exact (Frh.back s4 F5) v y
        · rcases List.mem_append.mp hv with y | y
          · exact N4 v y
          · exact zne v y
      · rintro σ H4 ⟨ys,v5,rfl,s4,e4,g4,L4,M4,F4,N4⟩
        rw [hxl,List.take_of_length_le (by rw [rws_len];exact Nat.le_refl _)] at M4
        exact ⟨_,rfl,ll,ys,_,_,_,rfl,s4,llH,g4,M4,F4⟩
    · rintro σ H2 ⟨lr,xs,v3,v4,v5,rfl,s2,nlr,e2,L2',F2⟩
      exact ⟨_,rfl,kk lr xs H2 nlr s2 e2 L2' F2⟩
theorem scL:FnScope ["script","many","ties","web","k","numbers","rests","due","told","number","count"] ["script"] (defScope sL):=⟨rfl,rfl,rfl,by decide +kernel,rfl,by decide +kernel,by decide +kernel⟩
theorem tri_snoc {m:Int} {es:List (Int×Int)} {k:Nat} {L:List (List Int)} {i:Nat} {r:List Int} (h:L[i]?=some r):tri m es k (L.take (i+1))=tri m es k (L.take i)++if isR m es r (k:Int)=true then [numD (k:Int) (frv es r)] else []:=by
  unfold tri
  rw [take_snoc h,List.filter_append,List.map_append]
  by_cases c:isR m es r (k:Int)=true
  · rw [if_pos c,List.filter_cons_of_pos (p:=fun r=>isR m es r (k:Int)) c];rfl
  · rw [if_neg c,List.filter_cons_of_neg (p:=fun r=>isR m es r (k:Int)) c];rfl
theorem tri_len {m:Int} {es:List (Int×Int)} {k:Nat} {L:List (List Int)} (i:Nat):(tri m es k (L.take i)).length≤i:=by
  unfold tri
  rw [List.length_map]
  exact Nat.le_trans (List.length_filter_le _ _) (by rw [List.length_take];omega)
theorem eD_of {m g:Int} {es:List (Int×Int)} {rs zs:List Int} (ha:∀r∈rs,0≤r∧r<g) (zl:zs.length=m.toNat) (hd:∀p:Nat,p<m.toNat→zs.getD p 0=dp p es rs es.length):(zs.all fun z=>decide (V.int (z%g)=V.int 0))=isR m es rs g:=by
  have ha':(rs.all fun r=>decide (0≤r)&&decide (r<g))=true:=List.all_eq_true.mpr fun r hr=>by
    rw [decide_eq_true (ha r hr).1,decide_eq_true (ha r hr).2];rfl
  unfold isR
  rw [ha',Bool.true_and,Bool.eq_iff_iff,decide_eq_true_iff,List.all_eq_true]
  constructor
  · intro h p hp
    have hpz:p<zs.length:=by omega
    have:=of_decide_eq_true (h zs[p] (List.getElem_mem hpz))
    injection this with this
    rw [←hd p hp,gD_at hpz];exact this
  · intro h z hz2
    obtain ⟨p,hp,rfl⟩:=List.mem_iff_getElem.mp hz2
    have:=h p (by omega)
    rw [←hd p (by omega),gD_at hp] at this
    exact decide_eq_true (by rw [this])
set_option maxHeartbeats 16000000 in
theorem ok_L {f:Addr} {fd:FuncData} (F:Fun K "law" "law" sL f fd) (T:Txt K mg c) (D_C:Def P w K mg base 1 "_law_cell" ["script","k"] (spC K)) (D_H:Def P w K mg base 1 "_law_whole" ["found"] (spH K)) (D_Wb2:Def P w K mg base 3 "_law_web" ["script","most","some"] (spWb2 K)) (D_Lg:Def P w K mg base 1 "_law_gains" ["many","ties","amounts"] (spLg K)) (D_Rf:Def P w K mg base 5 "_law_refused" ["web","rests","k"] (spRf K c)) (D_Li:Def P w K mg base 1 "_law_lists" ["k","many"] (spLi K)) (D_Ir:DefE P w K mg base 3 "is_rest_flow" ["web","rests","k"] (spIr K c)) (D_Rn:DefE P w K mg base 4 "rest_number" ["web","rests","k"] (spRn K c)) (D_Rm:DefE P w K mg base 7 "rests_numbered" ["web","number","k"] (spRm K c)) (D_Hm:DefE P w K mg base 4 "how_many_rests" ["web","k"] (spHm K c)) (D_N:MkDef P w K mg base 1 "Web" c.Web ["self","many","ties"] (spInit K c.Web)):FnOk P w K mg base CX0 8 f fd ["script"] (spLaw K):=by
  refine F.ok scL (fun vs H Q E h=>?_) (fun cdv A outer s H vs Q E hr h=>?_)
  · obtain ⟨a,ns,rfl,_⟩:=h
    rfl
  · obtain ⟨a,ns,rfl,hS,hlen,kk⟩:=h
    have hu:A.units+3+64<cLine:=hr.units
    refine ⟨_,pss_cons (ps_asg (pe_defR D_Wb2 hr (pa_cons (pv 0) (pa_cons (pe_int) (pa_cons (pe_int) pa_nil)))) (pgTup (K:=K) (n:=2) rfl rfl (pgs_cons (pg_name (i:=1) scL.nd rfl (Or.inl rfl)) (pgs_cons (pg_name (i:=2) scL.nd rfl (Or.inl rfl)) (pgs_nil))) rfl))
      (pss_cons (ps_set (i:=3) scL.nd rfl (Or.inl rfl) (pe_web D_N hr (pa_cons (pv 1) (pa_cons (pv 2) pa_nil))))
      (pss_cons (ps_set (i:=4) scL.nd rfl (Or.inr rfl) (pe_op op_add (pe_int) (pe_op op_mod (pe_defR D_C hr (pa_cons (pv 0) (pa_cons (pe_int) pa_nil))) (pe_int))))
      (pss_cons (ps_cut (ps_if (pt_cmpR op_gt (pe_callB (cLen (K:=K) rfl) (by rfl) T.len PySem.boot_len (pa_cons (pv 2) pa_nil)) (pe_int) (nomark _))
        (pss_one (ps_set (i:=4) scL.nd rfl (Or.inr rfl) (pe_int))) (pss_nil)))
      (pss_cons (ps_set (i:=5) scL.nd rfl (Or.inl rfl) (pe_lst pa_nil))
      (pss_cons (ps_for PassesOwn.never rfl (piSeqB (K:=K) rfl (pe_defR D_Li hr (pa_cons (pv 4) (pa_cons (pe_callB (cLen (K:=K) rfl) (by rfl) T.len PySem.boot_len (pa_cons (pv 2) pa_nil)) pa_nil)))) (pg_name (i:=6) scL.nd rfl (Or.inl rfl))
        (pss_cons (ps_set (i:=7) scL.nd rfl (Or.inl rfl) (pe_callB (cAll (K:=K) rfl rfl) (by rfl) T.all PyProof.Rows.boot_all (pa_cons (pe_lc (N':=["total","k"]) (nl:=1) (js:=[4]) rfl (.of (osc:=defScope sL) (N:=["script","many","ties","web","k","numbers","rests","due","told","number","count"]) (by decide +kernel) rfl rfl) (piSeq (K:=K) rfl (pe_defR D_Lg hr (pa_cons (pv 1) (pa_cons (pv 2) (pa_cons (pv 6) pa_nil)))))
        (fun _ _ _ _=>pg_name (i:=0) (show (["total","k"]:List Str).Nodup by decide +kernel) rfl (Or.inl rfl)) (fun _ _ _ _=>pif_nil)
        (fun _ _ _ _=>pe_cmpR op_eq (pe_op op_mod (pv 0) (pv 1)) (pe_int) (nomark _))) pa_nil)))
      (pss_cons (ps_set (i:=8) scL.nd rfl (Or.inl rfl) (pe_defR D_Ir.calm hr (pa_cons (pv 3) (pa_cons (pe_callTy (cList (K:=K) rfl) (by rfl) T.list PyProof.Rows.boot_list (pa_cons (pv 6) pa_nil)) (pa_cons (pv 4) pa_nil)))))
      (pss_cons (ps_if (PW.pt (pw_or (pt_not (pt_val (pe_callB (cIs (K:=K) rfl) (by rfl) T.isinstance PyProof.Rows.boot_isinstance (pa_cons (pv 8) (pa_cons (pe_bltn (v:=.ty "bool") (by rfl) T.bool PyProof.Rows.boot_bool rfl) pa_nil))))) (pw_or1 (pt_cmpR op_ne (pv 8) (pv 7) (nomark _)))))
        (pss_one (ps_ret (pe_bl))) (pss_nil))
      (pss_one (ps_cut (ps_if (pt_truth (pv 7) (by intro _;rfl))
        (pss_cons (ps_set (i:=9) scL.nd rfl (Or.inl rfl) (pe_defR D_Rn.calm hr (pa_cons (pv 3) (pa_cons (pe_callTy (cList (K:=K) rfl) (by rfl) T.list PyProof.Rows.boot_list (pa_cons (pv 6) pa_nil)) (pa_cons (pv 4) pa_nil)))))
      (pss_cons (ps_if (PW.pt (pw_or (pt_not (pt_val (pe_defR D_H hr (pa_cons (pv 9) pa_nil)))) (pw_or1 (pt_cmpR (opNeD (K:=K) rfl hu) (pe_defR D_Rm.calm hr (pa_cons (pv 3) (pa_cons (pv 9) (pa_cons (pv 4) pa_nil)))) (pv 6) (nomark _)))))
        (pss_one (ps_ret (pe_bl))) (pss_nil))
      (pss_one (ps_expr (pe_bm PySem.F.plainAttrs_list PySem.F.slot_list_append PySem.F.type_list_append mt_append (pv 5) (pa_cons (pv 9) pa_nil)))))) (pss_one (ps_if (pt_not (pt_val (pe_defR D_Rf hr (pa_cons (pv 3) (pa_cons (pe_callTy (cList (K:=K) rfl) (by rfl) T.list PyProof.Rows.boot_list (pa_cons (pv 6) pa_nil)) (pa_cons (pv 4) pa_nil))))))
        (pss_one (ps_ret (pe_bl))) (pss_nil))))))))))
      (pss_cons (ps_set (i:=10) scL.nd rfl (Or.inl rfl) (pe_defR D_Hm.calm hr (pa_cons (pv 3) (pa_cons (pv 4) pa_nil))))
      (pss_one (ps_ret (pe_and (pe_defR D_H hr (pa_cons (pv 10) pa_nil)) (pe_and (pe_cmpR op_eq (pv 10) (pe_callB (cLen (K:=K) rfl) (by rfl) T.len PySem.boot_len (pa_cons (pv 5) pa_nil)) (nomark _)) (pe_one (pe_cmpR (opEqD (K:=K) rfl hu) (pe_callB (cSortedB (K:=K) rfl) (by rfl) T.sorted PyProof.Rows.boot_sorted (pa_cons (pv 5) pa_nil)) (pe_listrange1 rfl rfl T.list rfl T.range (pa_cons (pv 10) pa_nil)) (nomark _))))))))))))),?_⟩
    clear hu
    refine ⟨_,rfl,a,ns,4,6,rfl,hS,by decide,by decide,by decide,by decide,fun t l m xs es H1 hl sH ht hl1 hp m1 m2 hz hE=>?_⟩
    refine ⟨t,_,rfl,SqT.of ht,rfl,_,_,rfl,_,_,rfl,rfl,?_⟩
    have hxl:=hp.len
    have hz6:es.length≤6:=by omega
    have hz':es.length≤40:=by omega
    have m20:m≤20:=by omega
    refine ⟨_,rfl,_,rfl,l,m,xs,es,rfl,.inl (SqL.of hl1),hp,m1,m20,hz',hE,fun x HW nx sW hw=>?_⟩
    have lW:=sW _ _ hl1
    have pW:=hp.same sW
    have SW:=(sH.trans sW).seq hS
    clear sW hp hl1 sH ht hS
    refine ⟨_,rfl,a,ns,2,rfl,SW,by decide,_,_,rfl,rfl,(by show (0:Int)<3;decide),_,_,rfl,rfl,?_⟩
    have c0:=Int.emod_nonneg (ns.getD (2:Int).toNat 0) (show (3:Int)≠0 by decide)
    have c1:=Int.emod_lt_of_pos (ns.getD (2:Int).toNat 0) (show (0:Int)<3 by decide)
    refine ⟨fun σ' H'=>H'=HW∧∃k:Nat,2≤k∧k≤4∧k^es.length≤900∧σ'=[some (.ref a),some (.int m),some (.ref l),some (.ref x),some (.int k),none,none,none,none,none,none],?_,?_⟩
    · refine ⟨_,rfl,l,xs,rfl,.inl (SqL.of lW),_,_,rfl,rfl,_,rfl,ite2 (fun c=>?_) (fun c=>?_)⟩
      · refine ⟨rfl,2,by decide,by decide,Nat.le_trans (Nat.pow_le_pow_right (by decide) hz6) (by decide),rfl⟩
      · have c':¬(4:Int)<(xs.length:Int):=fun z=>c (decide_eq_true z)
        obtain ⟨k,ek⟩:∃k:Nat,(k:Int)=2+ns.getD (2:Int).toNat 0%3:=⟨(2+ns.getD (2:Int).toNat 0%3).toNat,by omega⟩
        have k4:k≤4:=by omega
        refine ⟨rfl,k,by omega,k4,Nat.le_trans (Nat.pow_le_pow_left k4 _) (Nat.le_trans (Nat.pow_le_pow_right (by decide) (show es.length≤4 by omega)) (by decide)),?_⟩
        rw [ek];rfl
    clear c0 c1
    rintro σ' HW' ⟨rfl,k,k2,k4,kn,rfl⟩
    have kI2:(2:Int)≤(k:Int):=by omega
    have kI20:(k:Int)≤10^20:=by omega
    refine ⟨by decide,fun ln nln=>?_⟩
    have s2:=Same.new (o:=.lst []) nln
    have e2:(upd HW' ln (.lst [])) ln=some (.lst []):=upd_same
    generalize upd HW' ln (.lst [])=H2 at s2 e2
    refine ⟨_,rfl,_,rfl,l,xs,rfl,.inl (SqL.of (s2 _ _ lW)),k,es.length,by rw [hxl],by omega,by omega,hz',kn,fun lq ys H3 nlq s3 e3 L3 F3=>?_⟩
    have hyl:=L3.len
    rw [rws_len] at hyl
    have e23:=s3 _ _ e2
    have nel:=F3.ne e2
    have nqn:lq≠ln:=(ne_of_none e2 nlq).symm
    refine ⟨false,lq,_,rfl,SqL.of e3,fun J C O hC=>for_by O (fun i σ H4=>∃v6 v7 v8 v9:Option V,σ=[some (.ref a),some (.int m),some (.ref l),some (.ref x),some (.int k),some (.ref ln),v6,v7,v8,v9,none]∧Same HW' H4∧H4 lq=some (.lst ys)∧LlS H4 ys (rws k es.length)∧H4 ln=some (.lst ((tri m es k ((rws k es.length).take i)).map V.int))) ⟨none,none,none,none,rfl,s2.trans s3,e3,L3,e23⟩ (fun i σ H4 _ h=>?_) ?_ ?_⟩
    · obtain ⟨v6,v7,v8,v9,_,_,q4,_⟩:=h
      exact hC _ (SqL.of q4)
    · rintro i σ H4 hi ⟨v6,v7,v8,v9,rfl,s4,q4,L4,n4⟩
      obtain ⟨r,rs,er,hr4,grs⟩:=L4.at hi
      obtain ⟨rl,rb⟩:=mem_rws.mp (List.mem_of_getElem? grs)
      have htl:=tri_len (m:=m) (es:=es) (k:=k) (L:=rws k es.length) i
      try dsimp only
      rw [er]
      have l4:=s4 _ _ lW
      have p4:=pW.same s4
      have w4:=hw.same s4
      refine ⟨_,rfl,_,rfl,_,rfl,l,r,m,xs,es,rs,rfl,SqL.of l4,p4,SqL.of hr4,rl,m1,m20,hz',hE,fun l2 zs HL nl2 sL eL zl hd=>?_⟩
      have hzm:(zs.map V.int).length=zs.length:=List.length_map ..
      have hzs:zs.length≤20:=by omega
      refine ⟨l2,_,rfl,.inl (SqL.of eL),fun J C O hC=>lc_by O (fun i ys HH=>HH=HL∧ys=(zs.take i).map fun z=>V.bl (decide (V.int (z%(k:Int))=V.int 0))) (by rw [hzm];exact Nat.le_of_lt (small1000 (by omega))) ⟨rfl,rfl⟩ ?_ ?_ ?_⟩
      · rintro i ys HH hi ⟨rfl,rfl⟩
        exact ⟨hC _ (Same.refl _),by rw [List.length_map,List.length_take];omega⟩
      · rintro i ys HH hi ⟨rfl,rfl⟩
        obtain ⟨v,ev,gv⟩:=getD_map_int hi
        rw [hzm] at hi
        try dsimp only
        rw [ev]
        refine ⟨wk_set rfl,iteT ⟨_,rfl,_,rfl,_,_,rfl,rfl,(by show (0:Int)<(k:Int);omega),rfl,small1000 (by rw [List.length_map,List.length_take];omega),_,by omega,rfl,by omega,rfl,?_⟩⟩
        rw [take_snoc gv,List.map_append];rfl
      rintro ys' HM ⟨rfl,rfl⟩ l3 n3
      rw [hzm,List.take_length]
      refine ⟨l3,_,rfl,.inl (SqL.of upd_same),(all_blR _ _).1,?_⟩
      rw [(all_blR _ _).2,eD_of rb zl hd]
      have sN:=sL.next (o:=.lst (zs.map fun z=>V.bl (decide (V.int (z%(k:Int))=V.int 0)))) n3
      generalize upd HM l3 (.lst (zs.map fun z=>V.bl (decide (V.int (z%(k:Int))=V.int 0))))=HN at sN
      refine ⟨_,rfl,_,rfl,r,_,rfl,.inl (SqL.of (sN _ _ hr4)),fun c1 nc1=>?_⟩
      have sO:=sN.next (o:=.lst (rs.map V.int)) nc1
      have cO:(upd HN c1 (.lst (rs.map V.int))) c1=some (.lst (rs.map V.int)):=upd_same
      generalize upd HN c1 (.lst (rs.map V.int))=HO at sO cO
      refine ⟨_,rfl,x,c1,false,m,(k:Int),es,rs,rfl,w4.same sO,SqL.of cO,by omega,m1,m20,hz',hE,fun z=>absurd ⟨kI2,kI20⟩ z,fun _ _ z=>absurd rl z,fun _ _ _ HP sP=>?_⟩
      have s4P:=sO.trans sP
      refine ⟨_,rfl,_,_,_,_,true,rfl,rfl,fun _ z=>z,.of (.bl _),kit_self _ _,_,rfl,iteF ⟨_,rfl,_,rfl,rfl,_,rfl,?_⟩⟩
      rw [show decide (V.bl (isR m es rs (k:Int))=V.bl (isR m es rs (k:Int)))=true from decide_eq_true rfl]
      refine iteF ?_
      have w4P:=w4.same s4P
      have r4P:=s4P _ _ hr4
      have n4P:=s4P _ _ n4
      have q4P:=s4P _ _ q4
      have L4P:=L4.same s4P
      have s0P:=s4.trans s4P
      refine ⟨fun σ' H'=>∃v6 v7 v8 v9:Option V,σ'=[some (.ref a),some (.int m),some (.ref l),some (.ref x),some (.int k),some (.ref ln),v6,v7,v8,v9,none]∧Same HW' H'∧H' lq=some (.lst ys)∧LlS H' ys (rws k es.length)∧H' ln=some (.lst ((tri m es k ((rws k es.length).take (i+1))).map V.int)),?_,fun _ _ z=>z⟩
      refine ⟨_,rfl,_,rfl,?_⟩
      rw [tri_snoc grs]
      cases hR:isR m es rs (k:Int) with
      | true =>
        have hkp:(0:Int)<(k:Int):=by omega
        have hvb:=frv_bounds rl hR
        obtain ⟨N,eN⟩:∃N,numD (k:Int) (frv es rs)=N:=⟨_,rfl⟩
        obtain ⟨b0,b1⟩:=numD_lt hkp (frv es rs) hvb
        rw [frv_len,eN] at b1
        rw [eN] at b0
        refine iteT ⟨_,rfl,_,rfl,r,_,rfl,.inl (SqL.of r4P),fun c2 nc2=>?_⟩
        have sQ:=Same.new (o:=.lst (rs.map V.int)) nc2
        have cQ:(upd HP c2 (.lst (rs.map V.int))) c2=some (.lst (rs.map V.int)):=upd_same
        generalize upd HP c2 (.lst (rs.map V.int))=HQ at sQ cQ
        refine ⟨_,rfl,x,c2,m,(k:Int),es,rs,rfl,w4P.same sQ,SqL.of cQ,by omega,m1,m20,hz',hE,fun z=>absurd ⟨kI2,kI20⟩ z,fun _ _ z=>absurd rl z,fun _ _ _ z=>absurd (hR.symm.trans z) (fun y=>nomatch y),fun _ _ _ _ HR sR=>?_⟩
        have sPR:=sQ.trans sR
        refine ⟨_,rfl,_,rfl,_,rfl,iteF ⟨_,rfl,_,rfl,_,rfl,x,m,(k:Int),_,es,rfl,w4P.same sPR,m1,m20,hz',hE,fun z=>absurd ⟨kI2,kI20⟩ z,fun _ _ z=>absurd ⟨by rw [eN];exact b0,by rw [eN];exact b1⟩ z,fun _ _ _ _ lf fs HS nlf sS eS hF=>?_⟩⟩
        have sPS:=sPR.trans sS
        rw [←frv_len es rs,dg_num hkp (frv es rs) hvb] at hF
        refine ⟨_,rfl,dI (fs.map (·%(k:Int))),dI rs,dat_ints (SqL.of eS),dat_ints (SqL.of (sPS _ _ r4P)),shaped_dI _,shaped_dI _,_,rfl,?_⟩
        rw [eqv_dI,decide_eq_true (lead_back hE rl hR hF)]
        have nS:=sPS _ _ n4P
        refine iteF ⟨_,rfl,.inl ⟨rfl,_,SqL.of nS⟩,_,rfl,ln,_,_,rfl,rfl,nS,small1000 (by rw [List.length_map];omega),?_⟩
        refine ⟨_,_,_,_,rfl,(s0P.trans sPS).upd nln,by rw [upd_ne nqn];exact sPS _ _ q4P,LlS.upd nel (L4P.same sPS),?_⟩
        rw [if_pos rfl,List.map_append];exact upd_same
      | false =>
        refine iteF ⟨_,rfl,_,rfl,r,_,rfl,.inl (SqL.of r4P),fun c2 nc2=>?_⟩
        have sQ:=Same.new (o:=.lst (rs.map V.int)) nc2
        have cQ:(upd HP c2 (.lst (rs.map V.int))) c2=some (.lst (rs.map V.int)):=upd_same
        generalize upd HP c2 (.lst (rs.map V.int))=HQ at sQ cQ
        refine ⟨_,rfl,x,c2,m,(k:Int),es,rs,rfl,w4P.same sQ,SqL.of cQ,rl,m1,m20,hz',hE,kI2,kI20,hR,fun HR sR=>⟨true,rfl,iteF ?_⟩⟩
        have sPR:=sQ.trans sR
        refine ⟨_,_,_,_,rfl,s0P.trans sPR,sPR _ _ q4P,L4P.same sPR,?_⟩
        rw [if_neg (by decide),List.append_nil];exact sPR _ _ n4P
    · rintro σ H4 ⟨v6,v7,v8,v9,rfl,s4,q4,L4,n4⟩
      rw [hyl,List.take_of_length_le (by rw [rws_len];exact Nat.le_refl _)] at n4
      have hP:=tri_perm (m:=m) (k:=k) hE (by omega)
      have hPl:=hP.length_eq
      rw [upto_len] at hPl
      have hc:(((k^(fre es).length:Nat)):Int)=(k:Int)^(fre es).length:=by rw [Int.natCast_pow]
      have hb9:(tri m es k (rws k es.length)).length≤900:=by
        have:=tri_len (m:=m) (es:=es) (k:=k) (L:=rws k es.length) (rws k es.length).length
        rw [List.take_length,rws_len] at this
        omega
      obtain ⟨TN,eT⟩:∃TN,TN=tri m es k (rws k es.length):=⟨_,rfl⟩
      rw [←eT] at n4 hP hPl hb9
      have htm:(TN.map V.int).length=TN.length:=List.length_map ..
      refine ⟨_,rfl,_,rfl,x,m,(k:Int),es,rfl,hw.same s4,m1,m20,hz',hE,fun z=>absurd ⟨kI2,kI20⟩ z,fun _ _ H5 s5=>?_⟩
      rw [←hc,←hPl]
      refine ⟨_,rfl,_,rfl,_,rfl,iteT ⟨_,rfl,_,rfl,ln,_,rfl,.inl (SqL.of (s5 _ _ n4)),rfl,_,rfl,?_⟩⟩
      rw [decide_eq_true (show V.int ((TN.length:Nat):Int)=V.int ((TN.map V.int).length:Int) by rw [htm])]
      refine iteT ⟨_,rfl,ln,TN,rfl,SqL.of (s5 _ _ n4),hb9,fun lS ns' nlS hPm hPw=>?_⟩
      have s6:=Same.new (o:=.lst (ns'.map V.int)) nlS
      have e6:(upd H5 lS (.lst (ns'.map V.int))) lS=some (.lst (ns'.map V.int)):=upd_same
      generalize upd H5 lS (.lst (ns'.map V.int))=H6 at s6 e6
      refine ⟨_,rfl,((TN.length:Nat):Int),rfl,by omega,by omega,fun lR nlR=>?_⟩
      rw [Int.toNat_natCast,upto0]
      refine ⟨dI ns',dI (upto TN.length),dat_ints (SqL.of (Same.new nlR _ _ e6)),dat_ints (SqL.of upd_same),shaped_dI _,shaped_dI _,?_⟩
      have up:(upto TN.length).Pairwise (·≤·):=by
        unfold upto
        exact List.pairwise_map.mpr (List.pairwise_lt_range.imp fun h=>by omega)
      rw [eqv_dI,decide_eq_true (sorted_uniq (hPm.trans (by rw [hPl];exact hP)) hPw up)]
      exact kk _
end
theorem len_1 {us:List Value} (h:us.length=1):∃a,us=[a]:=List.length_eq_one_iff.mp h
theorem len_s {us:List Value} {n:Nat} (h:us.length=n+1):∃a r,us=a::r∧r.length=n:=by
  cases us with
  | nil=>cases h
  | cons a r=>exact ⟨a,r,rfl,Nat.succ.inj h⟩
theorem len_2 {us:List Value} (h:us.length=2):∃a b,us=[a,b]:=by
  obtain ⟨a,r,rfl,h1⟩:=len_s h
  obtain ⟨b,rfl⟩:=len_1 h1
  exact ⟨a,b,rfl⟩
theorem len_3 {us:List Value} (h:us.length=3):∃a b c,us=[a,b,c]:=by
  obtain ⟨a,r,rfl,h1⟩:=len_s h
  obtain ⟨b,c,rfl⟩:=len_2 h1
  exact ⟨a,b,c,rfl⟩
theorem len_4 {us:List Value} (h:us.length=4):∃a b c d,us=[a,b,c,d]:=by
  obtain ⟨a,r,rfl,h1⟩:=len_s h
  obtain ⟨b,c,d,rfl⟩:=len_3 h1
  exact ⟨a,b,c,d,rfl⟩
theorem len_5 {us:List Value} (h:us.length=5):∃a b c d e,us=[a,b,c,d,e]:=by
  obtain ⟨a,r,rfl,h1⟩:=len_s h
  obtain ⟨b,c,d,e,rfl⟩:=len_4 h1
  exact ⟨a,b,c,d,e,rfl⟩
theorem all_mk {l:PySem.W.OpenLaw} {w:World} {K:PySem.W.Frag} {h:Heap} {mg:Str→Option Value} {fa f1 f2 f3 f4 f5 f6 f7 f8 f9 f10 f11 f12 f13 f14 f15 f16 f17 f18 f19 f20 f21 f22 f23 f24 f25 f26 f27 f28 f29 f30 f31 f32 qFlowError qBadWeb qTooMany qBadPlace qBadTie qBadFlow qBadRest qNoFlow qBadSet qBadPaper qBadText qBadDeed qWeb:Addr} (X:K.In h) (G:h.Ns mainGlobals mg) (hfa:mg "law"=some (.ref fa))
    {tk1 tk2:Tok} {od1 an1 od2 an2 od3 an3 od4 an4 od5 an5 od6 an6 od7 an7 od8 an8 od9 an9 od10 an10 od11 an11 od12 an12 od13 an13 od14 an14 od15 an15 od16 an16 od17 an17 od18 an18 od19 an19 od20 an20 od21 an21 od22 an22 od23 an23 od24 an24 od25 an25 od26 an26 od27 an27 od28 an28 od29 an29 od30 an30 od31 an31 od32 an32:Option Addr} {sl1 sl2 sl3 sl4 sl5 sl6 sl7 sl8 sl9 sl10 sl11 sl12 sl13 sl14 sl15 sl16 sl17 sl18 sl19 sl20 sl21 sl22 sl23 sl24 sl25 sl26 sl27 sl28 sl29 sl30 sl31 sl32:Array (Option Value)} {oc1 kV1 dc1 pm1 cd1 ct1 oc2 kV2 dc2 pm2 cd2 ct2 oc3 kV3 dc3 pm3 cd3 ct3 oc4 kV4 dc4 pm4 cd4 ct4 oc5 kV5 dc5 pm5 cd5 ct5 oc6 kV6 dc6 pm6 cd6 ct6 oc7 kV7 dc7 pm7 cd7 ct7 oc8 kV8 dc8 pm8 cd8 ct8 oc9 kV9 dc9 pm9 cd9 ct9 oc10 kV10 dc10 pm10 cd10 ct10 oc11 kV11 dc11 pm11 cd11 ct11 oc12 kV12 dc12 pm12 cd12 ct12 oc13 kV13 dc13 pm13 cd13 ct13 oc14 kV14 dc14 pm14 cd14 ct14 oc15 kV15 dc15 pm15 cd15 ct15 oc16 kV16 dc16 pm16 cd16 ct16 oc17 kV17 dc17 pm17 cd17 ct17 oc18 kV18 dc18 pm18 cd18 ct18 oc19 kV19 dc19 pm19 cd19 ct19 oc20 kV20 dc20 pm20 cd20 ct20 oc21 kV21 dc21 pm21 cd21 ct21 oc22 kV22 dc22 pm22 cd22 ct22 oc23 kV23 dc23 pm23 cd23 ct23 oc24 kV24 dc24 pm24 cd24 ct24 oc25 kV25 dc25 pm25 cd25 ct25 oc26 kV26 dc26 pm26 cd26 ct26 oc27 kV27 dc27 pm27 cd27 ct27 oc28 kV28 dc28 pm28 cd28 ct28 oc29 kV29 dc29 pm29 cd29 ct29 oc30 kV30 dc30 pm30 cd30 ct30 oc31 kV31 dc31 pm31 cd31 ct31 oc32 kV32 dc32 pm32 cd32 ct32:Value}
    {xnmNoFlow xqnNoFlow:Str} {xbsNoFlow xsuNoFlow:List Value} {xnsNoFlow:Addr} {xsnNoFlow:List Str} {xabNoFlow:Bool} {xcoNoFlow:Option Bool} {xddNoFlow:Option Addr} {xaNoFlow xbNoFlow xcNoFlow xdNoFlow xeNoFlow:Option Value}
    (aCFlowError:PySem.W.nsIn K mainGlobals "FlowError"=some (some (.ref qFlowError)))
    (aCBadWeb:PySem.W.nsIn K mainGlobals "BadWeb"=some (some (.ref qBadWeb)))
    (aCTooMany:PySem.W.nsIn K mainGlobals "TooMany"=some (some (.ref qTooMany)))
    (aCBadPlace:PySem.W.nsIn K mainGlobals "BadPlace"=some (some (.ref qBadPlace)))
    (aCBadTie:PySem.W.nsIn K mainGlobals "BadTie"=some (some (.ref qBadTie)))
    (aCBadFlow:PySem.W.nsIn K mainGlobals "BadFlow"=some (some (.ref qBadFlow)))
    (aCBadRest:PySem.W.nsIn K mainGlobals "BadRest"=some (some (.ref qBadRest)))
    (aCNoFlow:PySem.W.nsIn K mainGlobals "NoFlow"=some (some (.ref qNoFlow)))
    (aCBadSet:PySem.W.nsIn K mainGlobals "BadSet"=some (some (.ref qBadSet)))
    (aCBadPaper:PySem.W.nsIn K mainGlobals "BadPaper"=some (some (.ref qBadPaper)))
    (aCBadText:PySem.W.nsIn K mainGlobals "BadText"=some (some (.ref qBadText)))
    (aCBadDeed:PySem.W.nsIn K mainGlobals "BadDeed"=some (some (.ref qBadDeed)))
    (aCWeb:PySem.W.nsIn K mainGlobals "Web"=some (some (.ref qWeb)))
    (a1:PySem.W.findIn K (.ref qNoFlow) "__init__"=some (some (.ref f1)))
    (i1:PySem.W.isFn K (.ref f1)=true)
    (l1:K.lookup f1=some ⟨oc1,od1,.func (PySem.W.fnOf "__init__" "NoFlow.__init__" (defArgs sNF) (defBody sNF) (defScope sNF) .none kV1 dc1 pm1 an1 cd1 ct1),sl1⟩)
    (c1:PySem.W.codeIn K cd1 "NoFlow.__init__"=true)
    (k1:PySem.W.keepIn K (.ref f1)=true)
    (a2:PySem.W.findIn K (.ref qWeb) "__init__"=some (some (.ref f2)))
    (i2:PySem.W.isFn K (.ref f2)=true)
    (l2:K.lookup f2=some ⟨oc2,od2,.func (PySem.W.fnOf "__init__" "Web.__init__" (defArgs sN) (defBody sN) (defScope sN) .none kV2 dc2 pm2 an2 cd2 ct2),sl2⟩)
    (c2:PySem.W.codeIn K cd2 "Web.__init__"=true)
    (k2:PySem.W.keepIn K (.ref f2)=true)
    (a3:PySem.W.nsIn K mainGlobals "check_tie"=some (some (.ref f3)))
    (l3:K.lookup f3=some ⟨oc3,od3,.func (PySem.W.fnOf "check_tie" "check_tie" (defArgs sTi) (defBody sTi) (defScope sTi) .none kV3 dc3 pm3 an3 cd3 ct3),sl3⟩)
    (c3:PySem.W.codeIn K cd3 "check_tie"=true)
    (k3:PySem.W.keepIn K (.ref f3)=true)
    (a4:PySem.W.nsIn K mainGlobals "merged"=some (some (.ref f4)))
    (l4:K.lookup f4=some ⟨oc4,od4,.func (PySem.W.fnOf "merged" "merged" (defArgs sMe) (defBody sMe) (defScope sMe) .none kV4 dc4 pm4 an4 cd4 ct4),sl4⟩)
    (c4:PySem.W.codeIn K cd4 "merged"=true)
    (k4:PySem.W.keepIn K (.ref f4)=true)
    (a5:PySem.W.nsIn K mainGlobals "check_amounts"=some (some (.ref f5)))
    (l5:K.lookup f5=some ⟨oc5,od5,.func (PySem.W.fnOf "check_amounts" "check_amounts" (defArgs sAm) (defBody sAm) (defScope sAm) .none kV5 dc5 pm5 an5 cd5 ct5),sl5⟩)
    (c5:PySem.W.codeIn K cd5 "check_amounts"=true)
    (k5:PySem.W.keepIn K (.ref f5)=true)
    (a6:PySem.W.nsIn K mainGlobals "gains"=some (some (.ref f6)))
    (l6:K.lookup f6=some ⟨oc6,od6,.func (PySem.W.fnOf "gains" "gains" (defArgs sGs) (defBody sGs) (defScope sGs) .none kV6 dc6 pm6 an6 cd6 ct6),sl6⟩)
    (c6:PySem.W.codeIn K cd6 "gains"=true)
    (k6:PySem.W.keepIn K (.ref f6)=true)
    (a7:PySem.W.nsIn K mainGlobals "added"=some (some (.ref f7)))
    (l7:K.lookup f7=some ⟨oc7,od7,.func (PySem.W.fnOf "added" "added" (defArgs sAd) (defBody sAd) (defScope sAd) .none kV7 dc7 pm7 an7 cd7 ct7),sl7⟩)
    (c7:PySem.W.codeIn K cd7 "added"=true)
    (k7:PySem.W.keepIn K (.ref f7)=true)
    (a8:PySem.W.nsIn K mainGlobals "times"=some (some (.ref f8)))
    (l8:K.lookup f8=some ⟨oc8,od8,.func (PySem.W.fnOf "times" "times" (defArgs sTm) (defBody sTm) (defScope sTm) .none kV8 dc8 pm8 an8 cd8 ct8),sl8⟩)
    (c8:PySem.W.codeIn K cd8 "times"=true)
    (k8:PySem.W.keepIn K (.ref f8)=true)
    (a9:PySem.W.nsIn K mainGlobals "forest"=some (some (.ref f9)))
    (l9:K.lookup f9=some ⟨oc9,od9,.func (PySem.W.fnOf "forest" "forest" (defArgs sFr) (defBody sFr) (defScope sFr) .none kV9 dc9 pm9 an9 cd9 ct9),sl9⟩)
    (c9:PySem.W.codeIn K cd9 "forest"=true)
    (k9:PySem.W.keepIn K (.ref f9)=true)
    (a10:PySem.W.nsIn K mainGlobals "free_ties"=some (some (.ref f10)))
    (l10:K.lookup f10=some ⟨oc10,od10,.func (PySem.W.fnOf "free_ties" "free_ties" (defArgs sFt) (defBody sFt) (defScope sFt) .none kV10 dc10 pm10 an10 cd10 ct10),sl10⟩)
    (c10:PySem.W.codeIn K cd10 "free_ties"=true)
    (k10:PySem.W.keepIn K (.ref f10)=true)
    (a11:PySem.W.nsIn K mainGlobals "far_end"=some (some (.ref f11)))
    (l11:K.lookup f11=some ⟨oc11,od11,.func (PySem.W.fnOf "far_end" "far_end" (defArgs sFe) (defBody sFe) (defScope sFe) .none kV11 dc11 pm11 an11 cd11 ct11),sl11⟩)
    (c11:PySem.W.codeIn K cd11 "far_end"=true)
    (k11:PySem.W.keepIn K (.ref f11)=true)
    (a12:PySem.W.nsIn K mainGlobals "find_way"=some (some (.ref f12)))
    (l12:K.lookup f12=some ⟨oc12,od12,.func (PySem.W.fnOf "find_way" "find_way" (defArgs sFw) (defBody sFw) (defScope sFw) .none kV12 dc12 pm12 an12 cd12 ct12),sl12⟩)
    (c12:PySem.W.codeIn K cd12 "find_way"=true)
    (k12:PySem.W.keepIn K (.ref f12)=true)
    (a13:PySem.W.nsIn K mainGlobals "way_back"=some (some (.ref f13)))
    (l13:K.lookup f13=some ⟨oc13,od13,.func (PySem.W.fnOf "way_back" "way_back" (defArgs sWb) (defBody sWb) (defScope sWb) .none kV13 dc13 pm13 an13 cd13 ct13),sl13⟩)
    (c13:PySem.W.codeIn K cd13 "way_back"=true)
    (k13:PySem.W.keepIn K (.ref f13)=true)
    (a14:PySem.W.nsIn K mainGlobals "ring_flow"=some (some (.ref f14)))
    (l14:K.lookup f14=some ⟨oc14,od14,.func (PySem.W.fnOf "ring_flow" "ring_flow" (defArgs sRg) (defBody sRg) (defScope sRg) .none kV14 dc14 pm14 an14 cd14 ct14),sl14⟩)
    (c14:PySem.W.codeIn K cd14 "ring_flow"=true)
    (k14:PySem.W.keepIn K (.ref f14)=true)
    (a15:PySem.W.nsIn K mainGlobals "ring_of"=some (some (.ref f15)))
    (l15:K.lookup f15=some ⟨oc15,od15,.func (PySem.W.fnOf "ring_of" "ring_of" (defArgs sRo) (defBody sRo) (defScope sRo) .none kV15 dc15 pm15 an15 cd15 ct15),sl15⟩)
    (c15:PySem.W.codeIn K cd15 "ring_of"=true)
    (k15:PySem.W.keepIn K (.ref f15)=true)
    (a16:PySem.W.nsIn K mainGlobals "check_rest"=some (some (.ref f16)))
    (l16:K.lookup f16=some ⟨oc16,od16,.func (PySem.W.fnOf "check_rest" "check_rest" (defArgs sCr) (defBody sCr) (defScope sCr) .none kV16 dc16 pm16 an16 cd16 ct16),sl16⟩)
    (c16:PySem.W.codeIn K cd16 "check_rest"=true)
    (k16:PySem.W.keepIn K (.ref f16)=true)
    (a17:PySem.W.nsIn K mainGlobals "rests_of"=some (some (.ref f17)))
    (l17:K.lookup f17=some ⟨oc17,od17,.func (PySem.W.fnOf "rests_of" "rests_of" (defArgs sRs) (defBody sRs) (defScope sRs) .none kV17 dc17 pm17 an17 cd17 ct17),sl17⟩)
    (c17:PySem.W.codeIn K cd17 "rests_of"=true)
    (k17:PySem.W.keepIn K (.ref f17)=true)
    (a18:PySem.W.nsIn K mainGlobals "is_rest_flow"=some (some (.ref f18)))
    (l18:K.lookup f18=some ⟨oc18,od18,.func (PySem.W.fnOf "is_rest_flow" "is_rest_flow" (defArgs sIr) (defBody sIr) (defScope sIr) .none kV18 dc18 pm18 an18 cd18 ct18),sl18⟩)
    (c18:PySem.W.codeIn K cd18 "is_rest_flow"=true)
    (k18:PySem.W.keepIn K (.ref f18)=true)
    (a19:PySem.W.nsIn K mainGlobals "filled_whole"=some (some (.ref f19)))
    (l19:K.lookup f19=some ⟨oc19,od19,.func (PySem.W.fnOf "filled_whole" "filled_whole" (defArgs sFz) (defBody sFz) (defScope sFz) .none kV19 dc19 pm19 an19 cd19 ct19),sl19⟩)
    (c19:PySem.W.codeIn K cd19 "filled_whole"=true)
    (k19:PySem.W.keepIn K (.ref f19)=true)
    (a20:PySem.W.nsIn K mainGlobals "filled"=some (some (.ref f20)))
    (l20:K.lookup f20=some ⟨oc20,od20,.func (PySem.W.fnOf "filled" "filled" (defArgs sFi) (defBody sFi) (defScope sFi) .none kV20 dc20 pm20 an20 cd20 ct20),sl20⟩)
    (c20:PySem.W.codeIn K cd20 "filled"=true)
    (k20:PySem.W.keepIn K (.ref f20)=true)
    (a21:PySem.W.nsIn K mainGlobals "how_many_rests"=some (some (.ref f21)))
    (l21:K.lookup f21=some ⟨oc21,od21,.func (PySem.W.fnOf "how_many_rests" "how_many_rests" (defArgs sHm) (defBody sHm) (defScope sHm) .none kV21 dc21 pm21 an21 cd21 ct21),sl21⟩)
    (c21:PySem.W.codeIn K cd21 "how_many_rests"=true)
    (k21:PySem.W.keepIn K (.ref f21)=true)
    (a22:PySem.W.nsIn K mainGlobals "rest_number"=some (some (.ref f22)))
    (l22:K.lookup f22=some ⟨oc22,od22,.func (PySem.W.fnOf "rest_number" "rest_number" (defArgs sRn) (defBody sRn) (defScope sRn) .none kV22 dc22 pm22 an22 cd22 ct22),sl22⟩)
    (c22:PySem.W.codeIn K cd22 "rest_number"=true)
    (k22:PySem.W.keepIn K (.ref f22)=true)
    (a23:PySem.W.nsIn K mainGlobals "rests_numbered"=some (some (.ref f23)))
    (l23:K.lookup f23=some ⟨oc23,od23,.func (PySem.W.fnOf "rests_numbered" "rests_numbered" (defArgs sRm) (defBody sRm) (defScope sRm) .none kV23 dc23 pm23 an23 cd23 ct23),sl23⟩)
    (c23:PySem.W.codeIn K cd23 "rests_numbered"=true)
    (k23:PySem.W.keepIn K (.ref f23)=true)
    (a24:PySem.W.nsIn K mainGlobals "_law_cell"=some (some (.ref f24)))
    (l24:K.lookup f24=some ⟨oc24,od24,.func (PySem.W.fnOf "_law_cell" "_law_cell" (defArgs sC) (defBody sC) (defScope sC) .none kV24 dc24 pm24 an24 cd24 ct24),sl24⟩)
    (c24:PySem.W.codeIn K cd24 "_law_cell"=true)
    (k24:PySem.W.keepIn K (.ref f24)=true)
    (a25:PySem.W.nsIn K mainGlobals "_law_whole"=some (some (.ref f25)))
    (l25:K.lookup f25=some ⟨oc25,od25,.func (PySem.W.fnOf "_law_whole" "_law_whole" (defArgs sH) (defBody sH) (defScope sH) .none kV25 dc25 pm25 an25 cd25 ct25),sl25⟩)
    (c25:PySem.W.codeIn K cd25 "_law_whole"=true)
    (k25:PySem.W.keepIn K (.ref f25)=true)
    (a26:PySem.W.nsIn K mainGlobals "_law_drawn"=some (some (.ref f26)))
    (l26:K.lookup f26=some ⟨oc26,od26,.func (PySem.W.fnOf "_law_drawn" "_law_drawn" (defArgs sDr) (defBody sDr) (defScope sDr) .none kV26 dc26 pm26 an26 cd26 ct26),sl26⟩)
    (c26:PySem.W.codeIn K cd26 "_law_drawn"=true)
    (k26:PySem.W.keepIn K (.ref f26)=true)
    (a27:PySem.W.nsIn K mainGlobals "_law_web"=some (some (.ref f27)))
    (l27:K.lookup f27=some ⟨oc27,od27,.func (PySem.W.fnOf "_law_web" "_law_web" (defArgs sWb2) (defBody sWb2) (defScope sWb2) .none kV27 dc27 pm27 an27 cd27 ct27),sl27⟩)
    (c27:PySem.W.codeIn K cd27 "_law_web"=true)
    (k27:PySem.W.keepIn K (.ref f27)=true)
    (a28:PySem.W.nsIn K mainGlobals "_law_gains"=some (some (.ref f28)))
    (l28:K.lookup f28=some ⟨oc28,od28,.func (PySem.W.fnOf "_law_gains" "_law_gains" (defArgs sLg) (defBody sLg) (defScope sLg) .none kV28 dc28 pm28 an28 cd28 ct28),sl28⟩)
    (c28:PySem.W.codeIn K cd28 "_law_gains"=true)
    (k28:PySem.W.keepIn K (.ref f28)=true)
    (a29:PySem.W.nsIn K mainGlobals "_law_kind"=some (some (.ref f29)))
    (l29:K.lookup f29=some ⟨oc29,od29,.func (PySem.W.fnOf "_law_kind" "_law_kind" (defArgs sKi) (defBody sKi) (defScope sKi) .none kV29 dc29 pm29 an29 cd29 ct29),sl29⟩)
    (c29:PySem.W.codeIn K cd29 "_law_kind"=true)
    (k29:PySem.W.keepIn K (.ref f29)=true)
    (a30:PySem.W.nsIn K mainGlobals "_law_refused"=some (some (.ref f30)))
    (l30:K.lookup f30=some ⟨oc30,od30,.func (PySem.W.fnOf "_law_refused" "_law_refused" (defArgs sRf) (defBody sRf) (defScope sRf) .none kV30 dc30 pm30 an30 cd30 ct30),sl30⟩)
    (c30:PySem.W.codeIn K cd30 "_law_refused"=true)
    (k30:PySem.W.keepIn K (.ref f30)=true)
    (a31:PySem.W.nsIn K mainGlobals "_law_lists"=some (some (.ref f31)))
    (l31:K.lookup f31=some ⟨oc31,od31,.func (PySem.W.fnOf "_law_lists" "_law_lists" (defArgs sLi) (defBody sLi) (defScope sLi) .none kV31 dc31 pm31 an31 cd31 ct31),sl31⟩)
    (c31:PySem.W.codeIn K cd31 "_law_lists"=true)
    (k31:PySem.W.keepIn K (.ref f31)=true)
    (a32:PySem.W.nsIn K mainGlobals "law"=some (some (.ref f32)))
    (l32:K.lookup f32=some ⟨oc32,od32,.func (PySem.W.fnOf "law" "law" (defArgs sL) (defBody sL) (defScope sL) .none kV32 dc32 pm32 an32 cd32 ct32),sl32⟩)
    (c32:PySem.W.codeIn K cd32 "law"=true)
    (k32:PySem.W.keepIn K (.ref f32)=true)
    (pg:PySem.W.plainGet K qWeb Str.empty=true)
    (hd:PySem.W.hasDictIn K qWeb=true)
    (po:PySem.W.plainOver K qWeb=true)
    (sa:PySem.W.findIn K (.ref qWeb) "__setattr__"=some (some (.builtin "object.__setattr__")))
    (nM:PySem.W.findIn K (.ref qWeb) "many"=some none)
    (nT:PySem.W.findIn K (.ref qWeb) "ties"=some none)
    (ca:PySem.W.findIn K (.ref qWeb) "__class__"=some (some (.builtin "object.__class__")))
    (cg:PySem.W.specialIn K (.builtin "object.__class__") "__get__"=some (some (.builtin "getset_descriptor.__get__")))
    (ck:PySem.W.takesIn K (.builtin "object.__class__")=some true)
    (co:PySem.W.mroIn K qWeb (.type "object")=some true)
    (mk:PySem.W.makesIn K qWeb=true)
    (kc:PySem.W.keepIn K (.ref qWeb)=true)
    (mp:PySem.W.nsIn K mainGlobals "MOST_PLACES"=some (some (.int 20 tk1)))
    (mt:PySem.W.nsIn K mainGlobals "MOST_TIES"=some (some (.int 40 tk2)))
    (lk_NoFlow:K.lookup qNoFlow=some ⟨.type "type",xddNoFlow,.cls {name:=xnmNoFlow,bases:=xbsNoFlow,mro:=[.ref qNoFlow,.ref qFlowError,.type "ValueError",.type "Exception",.type "BaseException",.type "object"],ns:=xnsNoFlow,qualname:=xqnNoFlow,hasDict:=true,slotNames:=xsnNoFlow,subclasses:=xsuNoFlow,abstract:=xabNoFlow,collection:=xcoNoFlow,hasDel:=false},#[xaNoFlow,xbNoFlow,xcNoFlow,xdNoFlow,some (.builtin "ValueError.__new__"),xeNoFlow]⟩)
    (sa_NoFlow:PySem.W.findIn K (.ref qNoFlow) "__setattr__"=some (some (.builtin "object.__setattr__")))
    (nt_NoFlow:PySem.W.findIn K (.ref qNoFlow) "tie"=some none)
    (x_ie_FlowError:PySem.W.excIn K qFlowError vErr "ValueError.__new__"=true)
    (x_ie_BadTie:PySem.W.excIn K qBadTie vErr "ValueError.__new__"=true)
    (x_mr_BadTie:PySem.W.mroIn K qBadTie (.ref qFlowError)=some true)
    (x_ga_BadTie:PySem.W.findIn K (.ref qBadTie) "__getattribute__"=some (some (.builtin "BaseException.__getattribute__")))
    (x_gn_BadTie:PySem.W.findIn K (.ref qBadTie) "__getattr__"=some none)
    (x_cl_BadTie:PySem.W.findIn K (.ref qBadTie) "__class__"=some (some (.builtin "object.__class__")))
    (x_co_BadTie:PySem.W.mroIn K qBadTie (.type "object")=some true)
    (x_cb_BadTie:PySem.W.mroIn K qBadTie (.type "BaseException")=some true)
    (x_is_BadTie:PySem.W.isClsIn K qBadTie=true)
    (x_k_BadTie_BadWeb:PySem.W.kitOne K (.ref qBadTie) (.ref qBadWeb)=some false)
    (x_k_BadTie_TooMany:PySem.W.kitOne K (.ref qBadTie) (.ref qTooMany)=some false)
    (x_k_BadTie_BadPlace:PySem.W.kitOne K (.ref qBadTie) (.ref qBadPlace)=some false)
    (x_k_BadTie_BadTie:PySem.W.kitOne K (.ref qBadTie) (.ref qBadTie)=some true)
    (x_k_BadTie_BadFlow:PySem.W.kitOne K (.ref qBadTie) (.ref qBadFlow)=some false)
    (x_k_BadTie_BadRest:PySem.W.kitOne K (.ref qBadTie) (.ref qBadRest)=some false)
    (x_k_BadTie_NoFlow:PySem.W.kitOne K (.ref qBadTie) (.ref qNoFlow)=some false)
    (x_k_BadTie_BadSet:PySem.W.kitOne K (.ref qBadTie) (.ref qBadSet)=some false)
    (x_k_BadTie_BadPaper:PySem.W.kitOne K (.ref qBadTie) (.ref qBadPaper)=some false)
    (x_k_BadTie_BadText:PySem.W.kitOne K (.ref qBadTie) (.ref qBadText)=some false)
    (x_k_BadTie_BadDeed:PySem.W.kitOne K (.ref qBadTie) (.ref qBadDeed)=some false)
    (x_kf_BadTie:PySem.W.kitOne K (.ref qBadTie) (.ref qFlowError)=some true)
    (x_kv_BadTie:PySem.W.kitOne K (.ref qBadTie) (.type "ValueError")=some true)
    (x_ie_BadFlow:PySem.W.excIn K qBadFlow vErr "ValueError.__new__"=true)
    (x_mr_BadFlow:PySem.W.mroIn K qBadFlow (.ref qFlowError)=some true)
    (x_ga_BadFlow:PySem.W.findIn K (.ref qBadFlow) "__getattribute__"=some (some (.builtin "BaseException.__getattribute__")))
    (x_gn_BadFlow:PySem.W.findIn K (.ref qBadFlow) "__getattr__"=some none)
    (x_cl_BadFlow:PySem.W.findIn K (.ref qBadFlow) "__class__"=some (some (.builtin "object.__class__")))
    (x_co_BadFlow:PySem.W.mroIn K qBadFlow (.type "object")=some true)
    (x_cb_BadFlow:PySem.W.mroIn K qBadFlow (.type "BaseException")=some true)
    (x_is_BadFlow:PySem.W.isClsIn K qBadFlow=true)
    (x_k_BadFlow_BadWeb:PySem.W.kitOne K (.ref qBadFlow) (.ref qBadWeb)=some false)
    (x_k_BadFlow_TooMany:PySem.W.kitOne K (.ref qBadFlow) (.ref qTooMany)=some false)
    (x_k_BadFlow_BadPlace:PySem.W.kitOne K (.ref qBadFlow) (.ref qBadPlace)=some false)
    (x_k_BadFlow_BadTie:PySem.W.kitOne K (.ref qBadFlow) (.ref qBadTie)=some false)
    (x_k_BadFlow_BadFlow:PySem.W.kitOne K (.ref qBadFlow) (.ref qBadFlow)=some true)
    (x_k_BadFlow_BadRest:PySem.W.kitOne K (.ref qBadFlow) (.ref qBadRest)=some false)
    (x_k_BadFlow_NoFlow:PySem.W.kitOne K (.ref qBadFlow) (.ref qNoFlow)=some false)
    (x_k_BadFlow_BadSet:PySem.W.kitOne K (.ref qBadFlow) (.ref qBadSet)=some false)
    (x_k_BadFlow_BadPaper:PySem.W.kitOne K (.ref qBadFlow) (.ref qBadPaper)=some false)
    (x_k_BadFlow_BadText:PySem.W.kitOne K (.ref qBadFlow) (.ref qBadText)=some false)
    (x_k_BadFlow_BadDeed:PySem.W.kitOne K (.ref qBadFlow) (.ref qBadDeed)=some false)
    (x_kf_BadFlow:PySem.W.kitOne K (.ref qBadFlow) (.ref qFlowError)=some true)
    (x_kv_BadFlow:PySem.W.kitOne K (.ref qBadFlow) (.type "ValueError")=some true)
    (x_ie_BadRest:PySem.W.excIn K qBadRest vErr "ValueError.__new__"=true)
    (x_mr_BadRest:PySem.W.mroIn K qBadRest (.ref qFlowError)=some true)
    (x_ga_BadRest:PySem.W.findIn K (.ref qBadRest) "__getattribute__"=some (some (.builtin "BaseException.__getattribute__")))
    (x_gn_BadRest:PySem.W.findIn K (.ref qBadRest) "__getattr__"=some none)
    (x_cl_BadRest:PySem.W.findIn K (.ref qBadRest) "__class__"=some (some (.builtin "object.__class__")))
    (x_co_BadRest:PySem.W.mroIn K qBadRest (.type "object")=some true)
    (x_cb_BadRest:PySem.W.mroIn K qBadRest (.type "BaseException")=some true)
    (x_is_BadRest:PySem.W.isClsIn K qBadRest=true)
    (x_k_BadRest_BadWeb:PySem.W.kitOne K (.ref qBadRest) (.ref qBadWeb)=some false)
    (x_k_BadRest_TooMany:PySem.W.kitOne K (.ref qBadRest) (.ref qTooMany)=some false)
    (x_k_BadRest_BadPlace:PySem.W.kitOne K (.ref qBadRest) (.ref qBadPlace)=some false)
    (x_k_BadRest_BadTie:PySem.W.kitOne K (.ref qBadRest) (.ref qBadTie)=some false)
    (x_k_BadRest_BadFlow:PySem.W.kitOne K (.ref qBadRest) (.ref qBadFlow)=some false)
    (x_k_BadRest_BadRest:PySem.W.kitOne K (.ref qBadRest) (.ref qBadRest)=some true)
    (x_k_BadRest_NoFlow:PySem.W.kitOne K (.ref qBadRest) (.ref qNoFlow)=some false)
    (x_k_BadRest_BadSet:PySem.W.kitOne K (.ref qBadRest) (.ref qBadSet)=some false)
    (x_k_BadRest_BadPaper:PySem.W.kitOne K (.ref qBadRest) (.ref qBadPaper)=some false)
    (x_k_BadRest_BadText:PySem.W.kitOne K (.ref qBadRest) (.ref qBadText)=some false)
    (x_k_BadRest_BadDeed:PySem.W.kitOne K (.ref qBadRest) (.ref qBadDeed)=some false)
    (x_kf_BadRest:PySem.W.kitOne K (.ref qBadRest) (.ref qFlowError)=some true)
    (x_kv_BadRest:PySem.W.kitOne K (.ref qBadRest) (.type "ValueError")=some true)
    (x_mr_NoFlow:PySem.W.mroIn K qNoFlow (.ref qFlowError)=some true)
    (x_ga_NoFlow:PySem.W.findIn K (.ref qNoFlow) "__getattribute__"=some (some (.builtin "BaseException.__getattribute__")))
    (x_gn_NoFlow:PySem.W.findIn K (.ref qNoFlow) "__getattr__"=some none)
    (x_cl_NoFlow:PySem.W.findIn K (.ref qNoFlow) "__class__"=some (some (.builtin "object.__class__")))
    (x_co_NoFlow:PySem.W.mroIn K qNoFlow (.type "object")=some true)
    (x_cb_NoFlow:PySem.W.mroIn K qNoFlow (.type "BaseException")=some true)
    (x_is_NoFlow:PySem.W.isClsIn K qNoFlow=true)
    (x_k_NoFlow_BadWeb:PySem.W.kitOne K (.ref qNoFlow) (.ref qBadWeb)=some false)
    (x_k_NoFlow_TooMany:PySem.W.kitOne K (.ref qNoFlow) (.ref qTooMany)=some false)
    (x_k_NoFlow_BadPlace:PySem.W.kitOne K (.ref qNoFlow) (.ref qBadPlace)=some false)
    (x_k_NoFlow_BadTie:PySem.W.kitOne K (.ref qNoFlow) (.ref qBadTie)=some false)
    (x_k_NoFlow_BadFlow:PySem.W.kitOne K (.ref qNoFlow) (.ref qBadFlow)=some false)
    (x_k_NoFlow_BadRest:PySem.W.kitOne K (.ref qNoFlow) (.ref qBadRest)=some false)
    (x_k_NoFlow_NoFlow:PySem.W.kitOne K (.ref qNoFlow) (.ref qNoFlow)=some true)
    (x_k_NoFlow_BadSet:PySem.W.kitOne K (.ref qNoFlow) (.ref qBadSet)=some false)
    (x_k_NoFlow_BadPaper:PySem.W.kitOne K (.ref qNoFlow) (.ref qBadPaper)=some false)
    (x_k_NoFlow_BadText:PySem.W.kitOne K (.ref qNoFlow) (.ref qBadText)=some false)
    (x_k_NoFlow_BadDeed:PySem.W.kitOne K (.ref qNoFlow) (.ref qBadDeed)=some false)
    (x_kf_NoFlow:PySem.W.kitOne K (.ref qNoFlow) (.ref qFlowError)=some true)
    (x_kv_NoFlow:PySem.W.kitOne K (.ref qNoFlow) (.type "ValueError")=some true)
    (z0:PySem.W.nsIn K mainGlobals "ValueError"=some none)
    (z1:PySem.W.nsIn K mainGlobals "all"=some none)
    (z2:PySem.W.nsIn K mainGlobals "any"=some none)
    (z3:PySem.W.nsIn K mainGlobals "bool"=some none)
    (z4:PySem.W.nsIn K mainGlobals "enumerate"=some none)
    (z5:PySem.W.nsIn K mainGlobals "int"=some none)
    (z6:PySem.W.nsIn K mainGlobals "isinstance"=some none)
    (z7:PySem.W.nsIn K mainGlobals "len"=some none)
    (z8:PySem.W.nsIn K mainGlobals "list"=some none)
    (z9:PySem.W.nsIn K mainGlobals "max"=some none)
    (z10:PySem.W.nsIn K mainGlobals "min"=some none)
    (z11:PySem.W.nsIn K mainGlobals "range"=some none)
    (z12:PySem.W.nsIn K mainGlobals "reversed"=some none)
    (z13:PySem.W.nsIn K mainGlobals "sorted"=some none)
    (z14:PySem.W.nsIn K mainGlobals "tuple"=some none)
    (z15:PySem.W.nsIn K mainGlobals "zip"=some none) :
    ∃fd:FuncData,(∀(s:Shared) (v:Value),BindsTo s fd ⟨[v],[]⟩ [("script",v)])∧∀base:Heap,K.In base→base.Ns mainGlobals mg→FnOk l.prog w K mg base CX0 8 fa fd ["script"] (spLaw K):=by
  have e:=hfa.symm.trans (PySem.W.mg_of X G a32)
  cases e
  have cX_NoFlow:ExI K qNoFlow qFlowError f1:=⟨⟨_,_,_,_,_,_,_,_,_,_,_,_,_,_,lk_NoFlow⟩,x_ie_FlowError,a1,i1,sa_NoFlow,nt_NoFlow⟩
  have T:Txt K mg (⟨qFlowError,qBadWeb,qTooMany,qBadPlace,qBadTie,qBadFlow,qBadRest,qNoFlow,qBadSet,qBadPaper,qBadText,qBadDeed,qWeb⟩:Cs):=⟨PySem.W.mg_none_of X G z0,PySem.W.mg_none_of X G z1,PySem.W.mg_none_of X G z2,PySem.W.mg_none_of X G z3,PySem.W.mg_none_of X G z4,PySem.W.mg_none_of X G z5,PySem.W.mg_none_of X G z6,PySem.W.mg_none_of X G z7,PySem.W.mg_none_of X G z8,PySem.W.mg_none_of X G z9,PySem.W.mg_none_of X G z10,PySem.W.mg_none_of X G z11,PySem.W.mg_none_of X G z12,PySem.W.mg_none_of X G z13,PySem.W.mg_none_of X G z14,PySem.W.mg_none_of X G z15,PySem.W.mg_of X G aCFlowError,PySem.W.mg_of X G aCBadWeb,PySem.W.mg_of X G aCTooMany,PySem.W.mg_of X G aCBadPlace,PySem.W.mg_of X G aCBadTie,PySem.W.mg_of X G aCBadFlow,PySem.W.mg_of X G aCBadRest,PySem.W.mg_of X G aCNoFlow,PySem.W.mg_of X G aCBadSet,PySem.W.mg_of X G aCBadPaper,PySem.W.mg_of X G aCBadText,PySem.W.mg_of X G aCBadDeed,PySem.W.mg_of X G aCWeb,⟨⟨pg,hd,po,sa⟩,nM,nT,ca,cg,ck,co⟩,⟨_,PySem.W.mg_of X G mp⟩,⟨_,PySem.W.mg_of X G mt⟩,x_ie_FlowError,x_ie_BadTie,x_mr_BadTie,⟨⟨x_ga_BadTie,x_gn_BadTie,x_cl_BadTie,cg,ck,x_co_BadTie,x_cb_BadTie,x_is_BadTie⟩,⟨_,_,_,_,_,_,_,_,_,_,_,x_k_BadTie_BadDeed,x_k_BadTie_BadFlow,x_k_BadTie_BadPaper,x_k_BadTie_BadPlace,x_k_BadTie_BadRest,x_k_BadTie_BadSet,x_k_BadTie_BadText,x_k_BadTie_BadTie,x_k_BadTie_BadWeb,x_k_BadTie_NoFlow,x_k_BadTie_TooMany,rfl,7,by decide,rfl,by decide,rfl⟩,x_kv_BadTie⟩,x_ie_BadFlow,x_mr_BadFlow,⟨⟨x_ga_BadFlow,x_gn_BadFlow,x_cl_BadFlow,cg,ck,x_co_BadFlow,x_cb_BadFlow,x_is_BadFlow⟩,⟨_,_,_,_,_,_,_,_,_,_,_,x_k_BadFlow_BadDeed,x_k_BadFlow_BadFlow,x_k_BadFlow_BadPaper,x_k_BadFlow_BadPlace,x_k_BadFlow_BadRest,x_k_BadFlow_BadSet,x_k_BadFlow_BadText,x_k_BadFlow_BadTie,x_k_BadFlow_BadWeb,x_k_BadFlow_NoFlow,x_k_BadFlow_TooMany,rfl,1,by decide,rfl,by decide,rfl⟩,x_kv_BadFlow⟩,x_ie_BadRest,x_mr_BadRest,⟨⟨x_ga_BadRest,x_gn_BadRest,x_cl_BadRest,cg,ck,x_co_BadRest,x_cb_BadRest,x_is_BadRest⟩,⟨_,_,_,_,_,_,_,_,_,_,_,x_k_BadRest_BadDeed,x_k_BadRest_BadFlow,x_k_BadRest_BadPaper,x_k_BadRest_BadPlace,x_k_BadRest_BadRest,x_k_BadRest_BadSet,x_k_BadRest_BadText,x_k_BadRest_BadTie,x_k_BadRest_BadWeb,x_k_BadRest_NoFlow,x_k_BadRest_TooMany,rfl,4,by decide,rfl,by decide,rfl⟩,x_kv_BadRest⟩,x_mr_NoFlow,⟨⟨x_ga_NoFlow,x_gn_NoFlow,x_cl_NoFlow,cg,ck,x_co_NoFlow,x_cb_NoFlow,x_is_NoFlow⟩,⟨_,_,_,_,_,_,_,_,_,_,_,x_k_NoFlow_BadDeed,x_k_NoFlow_BadFlow,x_k_NoFlow_BadPaper,x_k_NoFlow_BadPlace,x_k_NoFlow_BadRest,x_k_NoFlow_BadSet,x_k_NoFlow_BadText,x_k_NoFlow_BadTie,x_k_NoFlow_BadWeb,x_k_NoFlow_NoFlow,x_k_NoFlow_TooMany,rfl,9,by decide,rfl,by decide,rfl⟩,x_kv_NoFlow⟩,⟨_,cX_NoFlow⟩⟩
  have F1:=fun_mk (st:=sNF) l1 c1 k1
  have F2:=fun_mk (st:=sN) l2 c2 k2
  have F3:=fun_mk (st:=sTi) l3 c3 k3
  have F4:=fun_mk (st:=sMe) l4 c4 k4
  have F5:=fun_mk (st:=sAm) l5 c5 k5
  have F6:=fun_mk (st:=sGs) l6 c6 k6
  have F7:=fun_mk (st:=sAd) l7 c7 k7
  have F8:=fun_mk (st:=sTm) l8 c8 k8
  have F9:=fun_mk (st:=sFr) l9 c9 k9
  have F10:=fun_mk (st:=sFt) l10 c10 k10
  have F11:=fun_mk (st:=sFe) l11 c11 k11
  have F12:=fun_mk (st:=sFw) l12 c12 k12
  have F13:=fun_mk (st:=sWb) l13 c13 k13
  have F14:=fun_mk (st:=sRg) l14 c14 k14
  have F15:=fun_mk (st:=sRo) l15 c15 k15
  have F16:=fun_mk (st:=sCr) l16 c16 k16
  have F17:=fun_mk (st:=sRs) l17 c17 k17
  have F18:=fun_mk (st:=sIr) l18 c18 k18
  have F19:=fun_mk (st:=sFz) l19 c19 k19
  have F20:=fun_mk (st:=sFi) l20 c20 k20
  have F21:=fun_mk (st:=sHm) l21 c21 k21
  have F22:=fun_mk (st:=sRn) l22 c22 k22
  have F23:=fun_mk (st:=sRm) l23 c23 k23
  have F24:=fun_mk (st:=sC) l24 c24 k24
  have F25:=fun_mk (st:=sH) l25 c25 k25
  have F26:=fun_mk (st:=sDr) l26 c26 k26
  have F27:=fun_mk (st:=sWb2) l27 c27 k27
  have F28:=fun_mk (st:=sLg) l28 c28 k28
  have F29:=fun_mk (st:=sKi) l29 c29 k29
  have F30:=fun_mk (st:=sRf) l30 c30 k30
  have F31:=fun_mk (st:=sLi) l31 c31 k31
  have F32:=fun_mk (st:=sL) l32 c32 k32
  have b1:=F1.binds (ps:=["self","tie"]) fun _ _ _ _ _ _ us hl=>by obtain ⟨_,_,rfl⟩:=len_2 hl;rfl
  have b2:=F2.binds (ps:=["self","many","ties"]) fun _ _ _ _ _ _ us hl=>by obtain ⟨_,_,_,rfl⟩:=len_3 hl;rfl
  have b3:=F3.binds (ps:=["web","tie"]) fun _ _ _ _ _ _ us hl=>by obtain ⟨_,_,rfl⟩:=len_2 hl;rfl
  have b4:=F4.binds (ps:=["labels","one","two"]) fun _ _ _ _ _ _ us hl=>by obtain ⟨_,_,_,rfl⟩:=len_3 hl;rfl
  have b5:=F5.binds (ps:=["web","flow"]) fun _ _ _ _ _ _ us hl=>by obtain ⟨_,_,rfl⟩:=len_2 hl;rfl
  have b6:=F6.binds (ps:=["web","flow"]) fun _ _ _ _ _ _ us hl=>by obtain ⟨_,_,rfl⟩:=len_2 hl;rfl
  have b7:=F7.binds (ps:=["one","two"]) fun _ _ _ _ _ _ us hl=>by obtain ⟨_,_,rfl⟩:=len_2 hl;rfl
  have b8:=F8.binds (ps:=["number","flow"]) fun _ _ _ _ _ _ us hl=>by obtain ⟨_,_,rfl⟩:=len_2 hl;rfl
  have b9:=F9.binds (ps:=["web"]) fun _ _ _ _ _ _ us hl=>by obtain ⟨_,rfl⟩:=len_1 hl;rfl
  have b10:=F10.binds (ps:=["web"]) fun _ _ _ _ _ _ us hl=>by obtain ⟨_,rfl⟩:=len_1 hl;rfl
  have b11:=F11.binds (ps:=["web","tie","place"]) fun _ _ _ _ _ _ us hl=>by obtain ⟨_,_,_,rfl⟩:=len_3 hl;rfl
  have b12:=F12.binds (ps:=["web","some","start","goal"]) fun _ _ _ _ _ _ us hl=>by obtain ⟨_,_,_,_,rfl⟩:=len_4 hl;rfl
  have b13:=F13.binds (ps:=["web","tie","some"]) fun _ _ _ _ _ _ us hl=>by obtain ⟨_,_,_,rfl⟩:=len_3 hl;rfl
  have b14:=F14.binds (ps:=["web","tie","back"]) fun _ _ _ _ _ _ us hl=>by obtain ⟨_,_,_,rfl⟩:=len_3 hl;rfl
  have b15:=F15.binds (ps:=["web","tie"]) fun _ _ _ _ _ _ us hl=>by obtain ⟨_,_,rfl⟩:=len_2 hl;rfl
  have b16:=F16.binds (ps:=["k"]) fun _ _ _ _ _ _ us hl=>by obtain ⟨_,rfl⟩:=len_1 hl;rfl
  have b17:=F17.binds (ps:=["amounts","k"]) fun _ _ _ _ _ _ us hl=>by obtain ⟨_,_,rfl⟩:=len_2 hl;rfl
  have b18:=F18.binds (ps:=["web","rests","k"]) fun _ _ _ _ _ _ us hl=>by obtain ⟨_,_,_,rfl⟩:=len_3 hl;rfl
  have b19:=F19.binds (ps:=["web","values"]) fun _ _ _ _ _ _ us hl=>by obtain ⟨_,_,rfl⟩:=len_2 hl;rfl
  have b20:=F20.binds (ps:=["web","values","k"]) fun _ _ _ _ _ _ us hl=>by obtain ⟨_,_,_,rfl⟩:=len_3 hl;rfl
  have b21:=F21.binds (ps:=["web","k"]) fun _ _ _ _ _ _ us hl=>by obtain ⟨_,_,rfl⟩:=len_2 hl;rfl
  have b22:=F22.binds (ps:=["web","rests","k"]) fun _ _ _ _ _ _ us hl=>by obtain ⟨_,_,_,rfl⟩:=len_3 hl;rfl
  have b23:=F23.binds (ps:=["web","number","k"]) fun _ _ _ _ _ _ us hl=>by obtain ⟨_,_,_,rfl⟩:=len_3 hl;rfl
  have b24:=F24.binds (ps:=["script","k"]) fun _ _ _ _ _ _ us hl=>by obtain ⟨_,_,rfl⟩:=len_2 hl;rfl
  have b25:=F25.binds (ps:=["found"]) fun _ _ _ _ _ _ us hl=>by obtain ⟨_,rfl⟩:=len_1 hl;rfl
  have b26:=F26.binds (ps:=["script","at","base","many","by_digits"]) fun _ _ _ _ _ _ us hl=>by obtain ⟨_,_,_,_,_,rfl⟩:=len_5 hl;rfl
  have b27:=F27.binds (ps:=["script","most","some"]) fun _ _ _ _ _ _ us hl=>by obtain ⟨_,_,_,rfl⟩:=len_3 hl;rfl
  have b28:=F28.binds (ps:=["many","ties","amounts"]) fun _ _ _ _ _ _ us hl=>by obtain ⟨_,_,_,rfl⟩:=len_3 hl;rfl
  have b29:=F29.binds (ps:=["found"]) fun _ _ _ _ _ _ us hl=>by obtain ⟨_,rfl⟩:=len_1 hl;rfl
  have b30:=F30.binds (ps:=["web","rests","k"]) fun _ _ _ _ _ _ us hl=>by obtain ⟨_,_,_,rfl⟩:=len_3 hl;rfl
  have b31:=F31.binds (ps:=["k","many"]) fun _ _ _ _ _ _ us hl=>by obtain ⟨_,_,rfl⟩:=len_2 hl;rfl
  refine ⟨PySem.W.fnOf "law" "law" (defArgs sL) (defBody sL) (defScope sL) .none kV32 dc32 pm32 an32 cd32 ct32,fun s v=>.of_eq rfl,fun base _ _=>?_⟩
  have D_N:MkDef l.prog w K mg base 1 "Web" qWeb ["self","many","ties"] (spInit K qWeb):=⟨f2,_,⟨mk,a2,i2,kc⟩,ok_N F2 T,b2,PySem.W.mg_of X G aCWeb⟩
  have D_NF:NFDef l.prog w K mg base 1 "NoFlow" qNoFlow qFlowError:=⟨f1,_,cX_NoFlow,ok_NF F1 T cX_NoFlow,b1,PySem.W.mg_of X G aCNoFlow⟩
  have D_Ti:DefE l.prog w K mg base 1 "check_tie" ["web","tie"] (spTi K qWeb qBadTie):=.of F3 (PySem.W.mg_of X G a3) b3 (ok_Ti F3 T )
  have D_Me:Def l.prog w K mg base 1 "merged" ["labels","one","two"] (spMe K):=.of F4 (PySem.W.mg_of X G a4) b4 (ok_Me F4 T )
  have D_Am:DefE l.prog w K mg base 1 "check_amounts" ["web","flow"] (spAm K qWeb qBadFlow):=.of F5 (PySem.W.mg_of X G a5) b5 (ok_Am F5 T )
  have D_Gs:Def l.prog w K mg base 1 "gains" ["web","flow"] (spGs K qWeb):=.of F6 (PySem.W.mg_of X G a6) b6 (ok_Gs F6 T )
  have D_Ad:DefE l.prog w K mg base 1 "added" ["one","two"] (spAd K qBadFlow):=.of F7 (PySem.W.mg_of X G a7) b7 (ok_Ad F7 T )
  have D_Tm:Def l.prog w K mg base 1 "times" ["number","flow"] (spTm K):=.of F8 (PySem.W.mg_of X G a8) b8 (ok_Tm F8 T )
  have D_Fe:Def l.prog w K mg base 1 "far_end" ["web","tie","place"] (spFe K (⟨qFlowError,qBadWeb,qTooMany,qBadPlace,qBadTie,qBadFlow,qBadRest,qNoFlow,qBadSet,qBadPaper,qBadText,qBadDeed,qWeb⟩:Cs)):=.of F11 (PySem.W.mg_of X G a11) b11 (ok_Fe F11 T )
  have D_Fw:Def l.prog w K mg base 2 "find_way" ["web","some","start","goal"] (spFw K (⟨qFlowError,qBadWeb,qTooMany,qBadPlace,qBadTie,qBadFlow,qBadRest,qNoFlow,qBadSet,qBadPaper,qBadText,qBadDeed,qWeb⟩:Cs)):=.of F12 (PySem.W.mg_of X G a12) b12 (ok_Fw F12 T D_Fe)
  have D_Fr:Def l.prog w K mg base 2 "forest" ["web"] (spFr K (⟨qFlowError,qBadWeb,qTooMany,qBadPlace,qBadTie,qBadFlow,qBadRest,qNoFlow,qBadSet,qBadPaper,qBadText,qBadDeed,qWeb⟩:Cs)):=.of F9 (PySem.W.mg_of X G a9) b9 (ok_Fr F9 T D_Me)
  have D_Ft:Def l.prog w K mg base 3 "free_ties" ["web"] (spFt K (⟨qFlowError,qBadWeb,qTooMany,qBadPlace,qBadTie,qBadFlow,qBadRest,qNoFlow,qBadSet,qBadPaper,qBadText,qBadDeed,qWeb⟩:Cs)):=.of F10 (PySem.W.mg_of X G a10) b10 (ok_Ft F10 T D_Fr)
  have D_Wb:Def l.prog w K mg base 3 "way_back" ["web","tie","some"] (spWb K (⟨qFlowError,qBadWeb,qTooMany,qBadPlace,qBadTie,qBadFlow,qBadRest,qNoFlow,qBadSet,qBadPaper,qBadText,qBadDeed,qWeb⟩:Cs)):=.of F13 (PySem.W.mg_of X G a13) b13 (ok_Wb F13 T D_Fw)
  have D_Rg:Def l.prog w K mg base 2 "ring_flow" ["web","tie","back"] (spRg K (⟨qFlowError,qBadWeb,qTooMany,qBadPlace,qBadTie,qBadFlow,qBadRest,qNoFlow,qBadSet,qBadPaper,qBadText,qBadDeed,qWeb⟩:Cs)):=.of F14 (PySem.W.mg_of X G a14) b14 (ok_Rg F14 T D_Fe)
  have D_Ro:DefE l.prog w K mg base 4 "ring_of" ["web","tie"] (spRo K (⟨qFlowError,qBadWeb,qTooMany,qBadPlace,qBadTie,qBadFlow,qBadRest,qNoFlow,qBadSet,qBadPaper,qBadText,qBadDeed,qWeb⟩:Cs)):=.of F15 (PySem.W.mg_of X G a15) b15 (ok_Ro F15 T D_Ti D_Fr D_Wb D_Rg)
  have D_Cr:DefE l.prog w K mg base 1 "check_rest" ["k"] (spCr K qBadRest):=.of F16 (PySem.W.mg_of X G a16) b16 (ok_Cr F16 T )
  have D_Rs:DefE l.prog w K mg base 2 "rests_of" ["amounts","k"] (spRs K qBadRest):=.of F17 (PySem.W.mg_of X G a17) b17 (ok_Rs F17 T D_Cr)
  have D_Ir:DefE l.prog w K mg base 3 "is_rest_flow" ["web","rests","k"] (spIr K (⟨qFlowError,qBadWeb,qTooMany,qBadPlace,qBadTie,qBadFlow,qBadRest,qNoFlow,qBadSet,qBadPaper,qBadText,qBadDeed,qWeb⟩:Cs)):=.of F18 (PySem.W.mg_of X G a18) b18 (ok_Ir F18 T D_Cr D_Am D_Rs D_Gs)
  have D_Fz:DefE l.prog w K mg base 5 "filled_whole" ["web","values"] (spFz K (⟨qFlowError,qBadWeb,qTooMany,qBadPlace,qBadTie,qBadFlow,qBadRest,qNoFlow,qBadSet,qBadPaper,qBadText,qBadDeed,qWeb⟩:Cs)):=.of F19 (PySem.W.mg_of X G a19) b19 (ok_Fz F19 T D_Ft D_Ad D_Tm D_Ro)
  have D_Fi:DefE l.prog w K mg base 6 "filled" ["web","values","k"] (spFi K (⟨qFlowError,qBadWeb,qTooMany,qBadPlace,qBadTie,qBadFlow,qBadRest,qNoFlow,qBadSet,qBadPaper,qBadText,qBadDeed,qWeb⟩:Cs)):=.of F20 (PySem.W.mg_of X G a20) b20 (ok_Fi F20 T D_Cr D_Rs D_Fz)
  have D_Hm:DefE l.prog w K mg base 4 "how_many_rests" ["web","k"] (spHm K (⟨qFlowError,qBadWeb,qTooMany,qBadPlace,qBadTie,qBadFlow,qBadRest,qNoFlow,qBadSet,qBadPaper,qBadText,qBadDeed,qWeb⟩:Cs)):=.of F21 (PySem.W.mg_of X G a21) b21 (ok_Hm F21 T D_Cr D_Ft)
  have D_Rn:DefE l.prog w K mg base 4 "rest_number" ["web","rests","k"] (spRn K (⟨qFlowError,qBadWeb,qTooMany,qBadPlace,qBadTie,qBadFlow,qBadRest,qNoFlow,qBadSet,qBadPaper,qBadText,qBadDeed,qWeb⟩:Cs)):=.of F22 (PySem.W.mg_of X G a22) b22 (ok_Rn F22 T D_NF D_Ir D_Ft)
  have D_Rm:DefE l.prog w K mg base 7 "rests_numbered" ["web","number","k"] (spRm K (⟨qFlowError,qBadWeb,qTooMany,qBadPlace,qBadTie,qBadFlow,qBadRest,qNoFlow,qBadSet,qBadPaper,qBadText,qBadDeed,qWeb⟩:Cs)):=.of F23 (PySem.W.mg_of X G a23) b23 (ok_Rm F23 T D_NF D_Cr D_Hm D_Ft D_Fi)
  have D_C:Def l.prog w K mg base 1 "_law_cell" ["script","k"] (spC K):=.of F24 (PySem.W.mg_of X G a24) b24 (ok_C F24 T )
  have D_H:Def l.prog w K mg base 1 "_law_whole" ["found"] (spH K):=.of F25 (PySem.W.mg_of X G a25) b25 (ok_H F25 T )
  have D_Dr:Def l.prog w K mg base 2 "_law_drawn" ["script","at","base","many","by_digits"] (spDr K):=.of F26 (PySem.W.mg_of X G a26) b26 (ok_Dr F26 T D_C)
  have D_Wb2:Def l.prog w K mg base 3 "_law_web" ["script","most","some"] (spWb2 K):=.of F27 (PySem.W.mg_of X G a27) b27 (ok_Wb2 F27 T D_C D_Dr)
  have D_Lg:Def l.prog w K mg base 1 "_law_gains" ["many","ties","amounts"] (spLg K):=.of F28 (PySem.W.mg_of X G a28) b28 (ok_Lg F28 T )
  have D_Ki:Def l.prog w K mg base 1 "_law_kind" ["found"] (spKi K (⟨qFlowError,qBadWeb,qTooMany,qBadPlace,qBadTie,qBadFlow,qBadRest,qNoFlow,qBadSet,qBadPaper,qBadText,qBadDeed,qWeb⟩:Cs)):=.of F29 (PySem.W.mg_of X G a29) b29 (ok_Ki F29 T )
  have D_Rf:Def l.prog w K mg base 5 "_law_refused" ["web","rests","k"] (spRf K (⟨qFlowError,qBadWeb,qTooMany,qBadPlace,qBadTie,qBadFlow,qBadRest,qNoFlow,qBadSet,qBadPaper,qBadText,qBadDeed,qWeb⟩:Cs)):=.of F30 (PySem.W.mg_of X G a30) b30 (ok_Rf F30 T D_Rn D_Ki)
  have D_Li:Def l.prog w K mg base 1 "_law_lists" ["k","many"] (spLi K):=.of F31 (PySem.W.mg_of X G a31) b31 (ok_Li F31 T )
  exact ok_L F32 T D_C D_H D_Wb2 D_Lg D_Rf D_Li D_Ir D_Rn D_Rm D_Hm D_N
theorem walk {l:PySem.W.OpenLaw} {q:Program} {loose:List Str} {XP:(Str→Option Value)→Heap→Prop} {YP:World→Heap→Prop} {d:DefRec} {K:Params→PySem.W.Frag} (hn:l.most=some 63) (hdf:d.params.defaults=[])
    (hY:∀(w:World) (h:Heap),YP w h→(K w.params).In h)
    (F:∀(w:World) (mg:Str→Option Value) (fa:Addr) (h:Heap),(K w.params).In h→h.Ns mainGlobals mg→mg d.name=some (.ref fa) →
      ∃fd:FuncData,(∀(s:Shared) (u:Value),BindsTo s fd ⟨[u],[]⟩ [("script",u)])∧∀base:Heap,(K w.params).In base→base.Ns mainGlobals mg→FnOk l.prog w (K w.params) mg base CX0 8 fa fd ["script"] (spLaw (K w.params))) :
    PySem.W.WalkO q loose XP YP l.row.toRowW d [] (fun f vs=>PySem.call f vs) :=
  L2.walk_of (n:=63) (k:=8) (x:="script") (CX:=fun _=>CX0) (sp:=fun w=>spLaw (K w.params)) hn (by decide) hdf ⟨rfl,by decide,by decide⟩ hY F (fun _ _ a ns hl _ hS=>⟨a,ns,rfl,hS,hl,fun _=>rfl⟩) fun _ _ _ _ _ z=>z
end Pk
namespace PySem.W.Fast
theorem tw13611903446900946632:True:=⟨⟩
theorem tw17946144829326312870:True:=⟨⟩
theorem tw7683724253354292320:True:=⟨⟩
theorem tw7608429072078136726:True:=⟨⟩
theorem tw8551945452272402742:True:=⟨⟩
theorem tw5001833591592360747:True:=⟨⟩
theorem tw3425852060976049650:True:=⟨⟩
theorem tw17450582873578921800:True:=⟨⟩
theorem tw14407970792621703542:True:=⟨⟩
theorem tw17292908833213973405:True:=⟨⟩
theorem tw8324278199074537880:True:=⟨⟩
theorem tw409977221733971961:True:=⟨⟩
theorem tw9090608547800805746:True:=⟨⟩
theorem tw7206396811362205467:True:=⟨⟩
theorem tw15656863250126793988:True:=⟨⟩
theorem tw5900734142563921823:True:=⟨⟩
theorem tw10901687650028211581:True:=⟨⟩
theorem tw16996663813597081871:True:=⟨⟩
theorem tw16962481110496382779:True:=⟨⟩
theorem tw1791004677189662797:True:=⟨⟩
theorem tw13256362360690736703:True:=⟨⟩
theorem tw334831991368026918:True:=⟨⟩
theorem tw4116274191494841787:True:=⟨⟩
theorem tw14990561960109568128:True:=⟨⟩
theorem tw16408659637177782099:True:=⟨⟩
theorem tw1713502228521833541:True:=⟨⟩
theorem tw15264763043247533825:True:=⟨⟩
theorem tw13854965213720151983:True:=⟨⟩
theorem tw221454797731995049:True:=⟨⟩
theorem tw18361794229845077791:True:=⟨⟩
theorem tw13736945278247255989:True:=⟨⟩
theorem tw18032964270819026744:True:=⟨⟩
theorem tw4344287194493086219:True:=⟨⟩
theorem tw9000972892857636392:True:=⟨⟩
theorem tw11330927700411085894:True:=⟨⟩
theorem tw15043499966575022975:True:=⟨⟩
theorem tw9199628487214836425:True:=⟨⟩
theorem tw16719130529825965180:True:=⟨⟩
theorem tw1553034308910100111:True:=⟨⟩
theorem tw17556226201205357225:True:=⟨⟩
theorem tw9257649627905251584:True:=⟨⟩
theorem tw6488614032027941167:True:=⟨⟩
theorem tw13671535030001760236:True:=⟨⟩
theorem tw15227368409787891180:True:=⟨⟩
theorem tw2441217271932449324:True:=⟨⟩
theorem tw16949234617956203939:True:=⟨⟩
theorem tw11892304000631281500:True:=⟨⟩
theorem tw4451425421094965047:True:=⟨⟩
theorem tw16919114358531566595:True:=⟨⟩
theorem tw9209741838028377258:True:=⟨⟩
theorem tw13740086021102709865:True:=⟨⟩
theorem tw2912135645893751153:True:=⟨⟩
theorem tw4376629408672436907:True:=⟨⟩
theorem tw780545035767730452:True:=⟨⟩
theorem tw1264008413468430633:True:=⟨⟩
theorem tw2835085505870613778:True:=⟨⟩
theorem tw11154051869757499823:True:=⟨⟩
theorem tw14712407979619763023:True:=⟨⟩
theorem tw11864916531565400252:True:=⟨⟩
theorem tw3324958589983419200:True:=⟨⟩
theorem tw8766352774692052148:True:=⟨⟩
theorem tw10622580085073539850:True:=⟨⟩
theorem tw7928406884482293313:True:=⟨⟩
theorem tw9383187400842132978:True:=⟨⟩
theorem tw137957125036677193:True:=⟨⟩
theorem tw16991138259620795337:True:=⟨⟩
theorem tw17548360715046826356:True:=⟨⟩
theorem tw6257087219255179088:True:=⟨⟩
theorem tw14796579976133666708:True:=⟨⟩
theorem tw6671434249698759228:True:=⟨⟩
theorem tw7780325467529944885:True:=⟨⟩
theorem tw3127792264811027222:True:=⟨⟩
theorem tw478060027220953707:True:=⟨⟩
theorem tw4714119364607029542:True:=⟨⟩
theorem tw17904532860888780935:True:=⟨⟩
theorem tw7878878983210594435:True:=⟨⟩
theorem tw17780128387718165785:True:=⟨⟩
theorem tw9867144047384006741:True:=⟨⟩
theorem tw9815360495618170826:True:=⟨⟩
theorem tw4632264019348356083:True:=⟨⟩
theorem tw13324833968342560529:True:=⟨⟩
theorem tw4083747477206703177:True:=⟨⟩
theorem tw10764262217379765966:True:=⟨⟩
theorem tw4215142859116571375:True:=⟨⟩
theorem tw10578451135323125794:True:=⟨⟩
theorem tw17540310607235210201:True:=⟨⟩
theorem tw3668409519005187950:True:=⟨⟩
theorem tw9432301614332578485:True:=⟨⟩
theorem tw14002805521029968338:True:=⟨⟩
theorem tw17989926923328773284:True:=⟨⟩
theorem tw6124027680527016200:True:=⟨⟩
theorem tw15992392964926708591:True:=⟨⟩
theorem tw11477510297343109867:True:=⟨⟩
theorem tw11186238323934197621:True:=⟨⟩
theorem tw4086663458892415414:True:=⟨⟩
theorem tw11652226393525825590:True:=⟨⟩
theorem tw10368166066076959039:True:=⟨⟩
theorem tw12552730378060519175:True:=⟨⟩
theorem tw9861455720903667609:True:=⟨⟩
theorem tw8561175458249710233:True:=⟨⟩
theorem tw154982877335884225:True:=⟨⟩
theorem tw16853382138853585385:True:=⟨⟩
theorem tw11994581496371674880:True:=⟨⟩
theorem tw15145070069019660746:True:=⟨⟩
theorem tw4006116294085193175:True:=⟨⟩
theorem tw12260835892885301318:True:=⟨⟩
theorem tw13965994755851368959:True:=⟨⟩
theorem tw4317130242589437841:True:=⟨⟩
theorem tw17103047299359309356:True:=⟨⟩
theorem tw9772773204560342811:True:=⟨⟩
theorem tw1650461630642333113:True:=⟨⟩
theorem tw9837238019031389303:True:=⟨⟩
theorem tw16637901993155094478:True:=⟨⟩
theorem tw147927780419978323:True:=⟨⟩
theorem tw7256004170062076470:True:=⟨⟩
theorem tw64219750388487729:True:=⟨⟩
theorem tw5119729503197211860:True:=⟨⟩
theorem tw15607942775029182817:True:=⟨⟩
theorem tw15883685396110237953:True:=⟨⟩
theorem tw12250525498282542568:True:=⟨⟩
theorem tw4502410505201285167:True:=⟨⟩
theorem tw12879300346829909:True:=⟨⟩
theorem tw4120230234903567004:True:=⟨⟩
theorem tw2194525537656249447:True:=⟨⟩
theorem tw14762085536550561300:True:=⟨⟩
theorem tw15506117538522250665:True:=⟨⟩
theorem tw13824535839375282379:True:=⟨⟩
theorem tw277167733304725294:True:=⟨⟩
theorem tw8191569277814901430:True:=⟨⟩
theorem tw1925363399827036880:True:=⟨⟩
theorem tw16152743567600453889:True:=⟨⟩
theorem tw14815066804400445922:True:=⟨⟩
theorem tw8056981249944516557:True:=⟨⟩
theorem tw3930314613867842521:True:=⟨⟩
theorem tw8194524511104974388:True:=⟨⟩
theorem tw6260598089214534427:True:=⟨⟩
theorem tw1707839433990457711:True:=⟨⟩
theorem tw2157711302919774728:True:=⟨⟩
theorem tw16019945408324729738:True:=⟨⟩
theorem tw9772828551136213405:True:=⟨⟩
theorem tw12211987790986762433:True:=⟨⟩
theorem tw6327207011778567629:True:=⟨⟩
theorem tw16856074970697559491:True:=⟨⟩
theorem tw459593529015600856:True:=⟨⟩
theorem tw10184613128426721528:True:=⟨⟩
theorem tw4840346560409784234:True:=⟨⟩
theorem tw8835655663196412398:True:=⟨⟩
theorem tw4703229355036847406:True:=⟨⟩
theorem tw2579155807876098385:True:=⟨⟩
theorem tw873884361380587594:True:=⟨⟩
theorem tw6455682281217348975:True:=⟨⟩
theorem tw8820482025035462640:True:=⟨⟩
theorem tw3972254842331432928:True:=⟨⟩
theorem tw1702630975490792592:True:=⟨⟩
theorem tw9530491102842276916:True:=⟨⟩
theorem tw9823629293203947389:True:=⟨⟩
theorem tw10946434009798967843:True:=⟨⟩
theorem tw8395486769159438581:True:=⟨⟩
theorem tw7851654464562448709:True:=⟨⟩
theorem tw1224747807931094603:True:=⟨⟩
theorem tw8814042910019279658:True:=⟨⟩
theorem tw17163013178923638388:True:=⟨⟩
theorem tw590585351209409417:True:=⟨⟩
theorem tw14346889687829440088:True:=⟨⟩
theorem tw6063334157081972451:True:=⟨⟩
theorem tw8310281649936952545:True:=⟨⟩
theorem tw897670898263254521:True:=⟨⟩
theorem tw16257153223852886704:True:=⟨⟩
theorem tw6510877362077580588:True:=⟨⟩
theorem tw3326260636479186655:True:=⟨⟩
theorem tw3286937061944425082:True:=⟨⟩
theorem tw3581461241819125545:True:=⟨⟩
theorem tw1139489503060404902:True:=⟨⟩
theorem tw16729376908071700818:True:=⟨⟩
theorem tw2044255594969617071:True:=⟨⟩
theorem tw6038998770872412582:True:=⟨⟩
theorem tw16747912685347634506:True:=⟨⟩
theorem tw13187195508897601483:True:=⟨⟩
theorem tw3789168002862795147:True:=⟨⟩
theorem tw3512069521905574880:True:=⟨⟩
theorem tw14236684024206276914:True:=⟨⟩
theorem tw471110543453304314:True:=⟨⟩
theorem tw16363088238726985249:True:=⟨⟩
theorem tw14019453306742332165:True:=⟨⟩
theorem tw18271034641281348894:True:=⟨⟩
theorem tw15112396545431081769:True:=⟨⟩
theorem tw3560309752713739074:True:=⟨⟩
theorem tw91483921530932015:True:=⟨⟩
theorem tw11186693899777413769:True:=⟨⟩
theorem tw11645879525113278390:True:=⟨⟩
theorem tw2939415731619766598:True:=⟨⟩
theorem tw9553344614724866203:True:=⟨⟩
theorem tw5208682080794076326:True:=⟨⟩
theorem tw11697179382310500855:True:=⟨⟩
theorem tw3877851173510843375:True:=⟨⟩
theorem tw12970831231431305598:True:=⟨⟩
theorem tw3366404035695018805:True:=⟨⟩
theorem tw7210549340402066793:True:=⟨⟩
theorem tw9904344898019348185:True:=⟨⟩
theorem tw4028595228667617976:True:=⟨⟩
theorem tw3178272791768819986:True:=⟨⟩
theorem tw12550329767399926435:True:=⟨⟩
theorem tw9916721194969932966:True:=⟨⟩
theorem tw3162180831957529285:True:=⟨⟩
theorem tw14077438093081413162:True:=⟨⟩
theorem tw9351311541619729647:True:=⟨⟩
theorem tw6277447291113775541:True:=⟨⟩
theorem tw14662975356868308185:True:=⟨⟩
theorem tw15507604307845213920:True:=⟨⟩
theorem tw13233500119594233789:True:=⟨⟩
theorem tw4883192463374281139:True:=⟨⟩
theorem tw8276420862127314148:True:=⟨⟩
theorem tw2236579978654641688:True:=⟨⟩
theorem tw17058487215360702613:True:=⟨⟩
theorem tw7894117399056191082:True:=⟨⟩
theorem tw6223338279375807505:True:=⟨⟩
theorem tw11650344267301337311:True:=⟨⟩
theorem tw10423292074083403441:True:=⟨⟩
theorem tw12405349425032068255:True:=⟨⟩
theorem tw884668271093399764:True:=⟨⟩
theorem tw13536309364724191041:True:=⟨⟩
theorem tw185486625907753377:True:=⟨⟩
theorem tw205975362894357132:True:=⟨⟩
theorem tw17652524965806548132:True:=⟨⟩
theorem tw16655017487344084342:True:=⟨⟩
theorem tw6982344802837172452:True:=⟨⟩
theorem tw16601264655643189985:True:=⟨⟩
theorem tw1193013568718441259:True:=⟨⟩
theorem tw3789832630508554683:True:=⟨⟩
theorem tw9443266006104453054:True:=⟨⟩
theorem tw2182852618325736948:True:=⟨⟩
theorem tw6680245589690330828:True:=⟨⟩
theorem tw11535070903070071175:True:=⟨⟩
theorem tw8770173930877984693:True:=⟨⟩
theorem tw1425211538748996077:True:=⟨⟩
theorem tw12867202708760401465:True:=⟨⟩
theorem tw5068817723357039408:True:=⟨⟩
theorem tw13956271974190012060:True:=⟨⟩
theorem tw3289174424589980458:True:=⟨⟩
theorem tw8789850744486567943:True:=⟨⟩
theorem tw11580879265054107823:True:=⟨⟩
theorem tw7667992084603564403:True:=⟨⟩
theorem tw15353729704374778548:True:=⟨⟩
theorem tw602830998988560706:True:=⟨⟩
theorem tw13356570835167719039:True:=⟨⟩
theorem tw11136823792898451678:True:=⟨⟩
theorem tw12798982064761889672:True:=⟨⟩
theorem tw13130330746639607852:True:=⟨⟩
theorem tw16295255933321728791:True:=⟨⟩
theorem tw16231880740346416694:True:=⟨⟩
theorem tw10344267479128650336:True:=⟨⟩
theorem tw2338546125989177064:True:=⟨⟩
theorem tw18334690823880671383:True:=⟨⟩
theorem tw15919111429241383168:True:=⟨⟩
theorem tw11186023336167398857:True:=⟨⟩
theorem tw2754967703060187236:True:=⟨⟩
theorem tw210101629679282268:True:=⟨⟩
theorem tw2824193565317947276:True:=⟨⟩
theorem tw6859711811392161258:True:=⟨⟩
theorem tw2935179535316466468:True:=⟨⟩
theorem tw13215961704950521660:True:=⟨⟩
theorem tw14564322979573133234:True:=⟨⟩
theorem tw4249824390482901871:True:=⟨⟩
theorem tw4600425314859513344:True:=⟨⟩
theorem tw13635326720860496738:True:=⟨⟩
theorem tw10364980708159779398:True:=⟨⟩
theorem tw10567070670363558546:True:=⟨⟩
theorem tw7901719109436412:True:=⟨⟩
theorem tw11441218656875831255:True:=⟨⟩
theorem tw16909283507738983059:True:=⟨⟩
theorem tw5316534998329111657:True:=⟨⟩
theorem tw7319879972782105008:True:=⟨⟩
theorem tw15992336845231766178:True:=⟨⟩
theorem tw1509091255003203750:True:=⟨⟩
theorem tw11479336776908690432:True:=⟨⟩
theorem tw12285085634997525018:True:=⟨⟩
theorem tw7358545280727670283:True:=⟨⟩
theorem tw6952756359282431871:True:=⟨⟩
theorem tw12951685381639653869:True:=⟨⟩
theorem tw7444845542933884520:True:=⟨⟩
theorem tw10338773747610063817:True:=⟨⟩
theorem tw16343342032189146005:True:=⟨⟩
theorem tw2484428267148046223:True:=⟨⟩
theorem tw12883615616066841879:True:=⟨⟩
theorem tw8592776046587758401:True:=⟨⟩
theorem tw10471341799370273366:True:=⟨⟩
theorem tw16843679534163664801:True:=⟨⟩
theorem tw2081744749922748054:True:=⟨⟩
theorem tw5581371762142277863:True:=⟨⟩
theorem tw16990255297798045520:True:=⟨⟩
theorem tw4673785736465749533:True:=⟨⟩
theorem tw12638056294822442552:True:=⟨⟩
theorem tw7742967172788018105:True:=⟨⟩
theorem tw6157646617403669507:True:=⟨⟩
theorem tw14801075268126596692:True:=⟨⟩
theorem tw1802885619047153832:True:=⟨⟩
theorem tw13016142001826654217:True:=⟨⟩
theorem tw2919415275100965045:True:=⟨⟩
theorem tw15786613986550504300:True:=⟨⟩
theorem tw4796174986387033003:True:=⟨⟩
theorem tw4013128927743460804:True:=⟨⟩
theorem tw3936455540439509878:True:=⟨⟩
theorem tw17994773884298682285:True:=⟨⟩
theorem tw12886062418061487752:True:=⟨⟩
theorem tw8050252171115330792:True:=⟨⟩
theorem tw15252358100154947120:True:=⟨⟩
theorem tw4506851730645763300:True:=⟨⟩
theorem tw16953699266394528477:True:=⟨⟩
theorem tw15950773720503837717:True:=⟨⟩
theorem tw9631223876960954126:True:=⟨⟩
theorem tw4346834469248587065:True:=⟨⟩
theorem tw9074643768134038657:True:=⟨⟩
theorem tw13346816732402077549:True:=⟨⟩
theorem tw3186626198753798318:True:=⟨⟩
theorem tw18109602446645172536:True:=⟨⟩
theorem tw11349243243596296615:True:=⟨⟩
theorem tw16048039920906973210:True:=⟨⟩
theorem tw12703068841014126424:True:=⟨⟩
theorem tw6162444447686541104:True:=⟨⟩
theorem tw4415685513076473801:True:=⟨⟩
theorem tw15552075787865749317:True:=⟨⟩
theorem tw14916218538417991093:True:=⟨⟩
theorem tw6916772300829476738:True:=⟨⟩
theorem tw9318684448177003513:True:=⟨⟩
theorem tw1701948228164541368:True:=⟨⟩
theorem tw751561762165817931:True:=⟨⟩
theorem tw4998061973708296058:True:=⟨⟩
theorem tw6463482159985520649:True:=⟨⟩
theorem tw12934538622030743797:True:=⟨⟩
theorem tw3128340429346817585:True:=⟨⟩
theorem tw1877669321051731603:True:=⟨⟩
theorem tw18132308131912374371:True:=⟨⟩
theorem tw6770399511730914152:True:=⟨⟩
theorem tw10264848269272614795:True:=⟨⟩
theorem tw17867642756497506605:True:=⟨⟩
theorem tw4061642385037319970:True:=⟨⟩
theorem tw5073025763977362974:True:=⟨⟩
theorem tw16067195862189014822:True:=⟨⟩
theorem tw11546980640364478569:True:=⟨⟩
theorem tw4863598785898998544:True:=⟨⟩
theorem tw9312227218024836465:True:=⟨⟩
theorem tw10469772727675076928:True:=⟨⟩
theorem tw5221350622313706608:True:=⟨⟩
theorem tw5115768315010856373:True:=⟨⟩
theorem tw4069209993133360733:True:=⟨⟩
theorem tw268602404308018858:True:=⟨⟩
theorem tw9819501366734929559:True:=⟨⟩
theorem tw9934723886104082190:True:=⟨⟩
theorem tw6935445210540361738:True:=⟨⟩
theorem tw4124431990196121810:True:=⟨⟩
theorem tw11780149760223233066:True:=⟨⟩
theorem tw6445430883011762914:True:=⟨⟩
theorem tw14103124243232273115:True:=⟨⟩
theorem tw17574247156069097072:True:=⟨⟩
theorem tw200886971018512435:True:=⟨⟩
theorem tw16921117154930668316:True:=⟨⟩
theorem tw17950839023727228804:True:=⟨⟩
theorem tw2045388918570783610:True:=⟨⟩
theorem tw10800613583045384953:True:=⟨⟩
theorem tw14783595467668244471:True:=⟨⟩
theorem tw2904996724470275913:True:=⟨⟩
theorem tw14804381617022040951:True:=⟨⟩
theorem tw901513169228017852:True:=⟨⟩
theorem tw2024981039672681800:True:=⟨⟩
theorem tw16857833134303732890:True:=⟨⟩
theorem tw5320281363676157929:True:=⟨⟩
theorem tw5835895055777585070:True:=⟨⟩
theorem tw7599322290932245217:True:=⟨⟩
theorem tw3008628504579514680:True:=⟨⟩
theorem tw13724548970980410432:True:=⟨⟩
theorem tw10079305230488293623:True:=⟨⟩
theorem tw1316004194974025406:True:=⟨⟩
theorem tw2743317988564061316:True:=⟨⟩
theorem tw3863697283043790913:True:=⟨⟩
theorem tw4854096155057342037:True:=⟨⟩
theorem tw6084220518536337792:True:=⟨⟩
theorem tw10250764543413829356:True:=⟨⟩
theorem tw5505385705676319381:True:=⟨⟩
theorem tw15557533122314017192:True:=⟨⟩
theorem tw1248161064124039824:True:=⟨⟩
theorem tw14638970142001315653:True:=⟨⟩
theorem tw13528935661612183817:True:=⟨⟩
theorem tw4875394626422904666:True:=⟨⟩
theorem tw14071943525536067151:True:=⟨⟩
theorem tw18418905778104654339:True:=⟨⟩
theorem tw14276510616838943049:True:=⟨⟩
theorem tw18028719754604071984:True:=⟨⟩
theorem tw5528896573232967182:True:=⟨⟩
theorem tw9159640135236338484:True:=⟨⟩
theorem tw17567359736782108366:True:=⟨⟩
theorem tw15387834960876422044:True:=⟨⟩
theorem tw16214106594124889627:True:=⟨⟩
theorem tw17845606020667398330:True:=⟨⟩
theorem tw1930661039411953135:True:=⟨⟩
theorem tw8529286816653106:True:=⟨⟩
end PySem.W.Fast
open PySem PySem.W PyProof.Rows
set_option maxRecDepth 100000 in
set_option maxHeartbeats 0 in
theorem PySem.Challenge.cw_busyweb_k21_rest_flows_by_trial_holds : PySem.Challenge.rw_busyweb_k21_rest_flows_by_trial.Holds := by
  w_on;o_law;k_head;(case hw=>w_witness2)
  k_fill
  refine Pk.walk (l:=PySem.Challenge.rw_busyweb_k21_rest_flows_by_trial) rfl rfl (fun w h Y=>PySem.W.kIn_of Y) ?F
  case F =>
    intro w mg fa h KX G hmg
    refine' Pk.all_mk KX G hmg ?aCFlowError ?aCBadWeb ?aCTooMany ?aCBadPlace ?aCBadTie ?aCBadFlow ?aCBadRest ?aCNoFlow ?aCBadSet ?aCBadPaper ?aCBadText ?aCBadDeed ?aCWeb ?a1 ?i1 ?l1 ?c1 ?k1 ?a2 ?i2 ?l2 ?c2 ?k2 ?a3 ?l3 ?c3 ?k3 ?a4 ?l4 ?c4 ?k4 ?a5 ?l5 ?c5 ?k5 ?a6 ?l6 ?c6 ?k6 ?a7 ?l7 ?c7 ?k7 ?a8 ?l8 ?c8 ?k8 ?a9 ?l9 ?c9 ?k9 ?a10 ?l10 ?c10 ?k10 ?a11 ?l11 ?c11 ?k11 ?a12 ?l12 ?c12 ?k12 ?a13 ?l13 ?c13 ?k13 ?a14 ?l14 ?c14 ?k14 ?a15 ?l15 ?c15 ?k15 ?a16 ?l16 ?c16 ?k16 ?a17 ?l17 ?c17 ?k17 ?a18 ?l18 ?c18 ?k18 ?a19 ?l19 ?c19 ?k19 ?a20 ?l20 ?c20 ?k20 ?a21 ?l21 ?c21 ?k21 ?a22 ?l22 ?c22 ?k22 ?a23 ?l23 ?c23 ?k23 ?a24 ?l24 ?c24 ?k24 ?a25 ?l25 ?c25 ?k25 ?a26 ?l26 ?c26 ?k26 ?a27 ?l27 ?c27 ?k27 ?a28 ?l28 ?c28 ?k28 ?a29 ?l29 ?c29 ?k29 ?a30 ?l30 ?c30 ?k30 ?a31 ?l31 ?c31 ?k31 ?a32 ?l32 ?c32 ?k32 ?pg ?hd ?po ?sa ?nM ?nT ?ca ?cg ?ck ?co ?mk ?kc ?mp ?mt ?lk_NoFlow ?sa_NoFlow ?nt_NoFlow ?x_ie_FlowError ?x_ie_BadTie ?x_mr_BadTie ?x_ga_BadTie ?x_gn_BadTie ?x_cl_BadTie ?x_co_BadTie ?x_cb_BadTie ?x_is_BadTie ?x_k_BadTie_BadWeb ?x_k_BadTie_TooMany ?x_k_BadTie_BadPlace ?x_k_BadTie_BadTie ?x_k_BadTie_BadFlow ?x_k_BadTie_BadRest ?x_k_BadTie_NoFlow ?x_k_BadTie_BadSet ?x_k_BadTie_BadPaper ?x_k_BadTie_BadText ?x_k_BadTie_BadDeed ?x_kf_BadTie ?x_kv_BadTie ?x_ie_BadFlow ?x_mr_BadFlow ?x_ga_BadFlow ?x_gn_BadFlow ?x_cl_BadFlow ?x_co_BadFlow ?x_cb_BadFlow ?x_is_BadFlow ?x_k_BadFlow_BadWeb ?x_k_BadFlow_TooMany ?x_k_BadFlow_BadPlace ?x_k_BadFlow_BadTie ?x_k_BadFlow_BadFlow ?x_k_BadFlow_BadRest ?x_k_BadFlow_NoFlow ?x_k_BadFlow_BadSet ?x_k_BadFlow_BadPaper ?x_k_BadFlow_BadText ?x_k_BadFlow_BadDeed ?x_kf_BadFlow ?x_kv_BadFlow ?x_ie_BadRest ?x_mr_BadRest ?x_ga_BadRest ?x_gn_BadRest ?x_cl_BadRest ?x_co_BadRest ?x_cb_BadRest ?x_is_BadRest ?x_k_BadRest_BadWeb ?x_k_BadRest_TooMany ?x_k_BadRest_BadPlace ?x_k_BadRest_BadTie ?x_k_BadRest_BadFlow ?x_k_BadRest_BadRest ?x_k_BadRest_NoFlow ?x_k_BadRest_BadSet ?x_k_BadRest_BadPaper ?x_k_BadRest_BadText ?x_k_BadRest_BadDeed ?x_kf_BadRest ?x_kv_BadRest ?x_mr_NoFlow ?x_ga_NoFlow ?x_gn_NoFlow ?x_cl_NoFlow ?x_co_NoFlow ?x_cb_NoFlow ?x_is_NoFlow ?x_k_NoFlow_BadWeb ?x_k_NoFlow_TooMany ?x_k_NoFlow_BadPlace ?x_k_NoFlow_BadTie ?x_k_NoFlow_BadFlow ?x_k_NoFlow_BadRest ?x_k_NoFlow_NoFlow ?x_k_NoFlow_BadSet ?x_k_NoFlow_BadPaper ?x_k_NoFlow_BadText ?x_k_NoFlow_BadDeed ?x_kf_NoFlow ?x_kv_NoFlow ?z0 ?z1 ?z2 ?z3 ?z4 ?z5 ?z6 ?z7 ?z8 ?z9 ?z10 ?z11 ?z12 ?z13 ?z14 ?z15
    (case aCFlowError=>k_is)
    (case aCBadWeb=>k_is)
    (case aCTooMany=>k_is)
    (case aCBadPlace=>k_is)
    (case aCBadTie=>k_is)
    (case aCBadFlow=>k_is)
    (case aCBadRest=>k_is)
    (case aCNoFlow=>k_is)
    (case aCBadSet=>k_is)
    (case aCBadPaper=>k_is)
    (case aCBadText=>k_is)
    (case aCBadDeed=>k_is)
    (case aCWeb=>k_is)
    (case a1=>k_is)
    (case i1=>k_is)
    (case l1=>k_is)
    (case c1=>k_is)
    (case k1=>k_is)
    (case a2=>k_is)
    (case i2=>k_is)
    (case l2=>k_is)
    (case c2=>k_is)
    (case k2=>k_is)
    (case a3=>k_is)
    (case l3=>k_is)
    (case c3=>k_is)
    (case k3=>k_is)
    (case a4=>k_is)
    (case l4=>k_is)
    (case c4=>k_is)
    (case k4=>k_is)
    (case a5=>k_is)
    (case l5=>k_is)
    (case c5=>k_is)
    (case k5=>k_is)
    (case a6=>k_is)
    (case l6=>k_is)
    (case c6=>k_is)
    (case k6=>k_is)
    (case a7=>k_is)
    (case l7=>k_is)
    (case c7=>k_is)
    (case k7=>k_is)
    (case a8=>k_is)
    (case l8=>k_is)
    (case c8=>k_is)
    (case k8=>k_is)
    (case a9=>k_is)
    (case l9=>k_is)
    (case c9=>k_is)
    (case k9=>k_is)
    (case a10=>k_is)
    (case l10=>k_is)
    (case c10=>k_is)
    (case k10=>k_is)
    (case a11=>k_is)
    (case l11=>k_is)
    (case c11=>k_is)
    (case k11=>k_is)
    (case a12=>k_is)
    (case l12=>k_is)
    (case c12=>k_is)
    (case k12=>k_is)
    (case a13=>k_is)
    (case l13=>k_is)
    (case c13=>k_is)
    (case k13=>k_is)
    (case a14=>k_is)
    (case l14=>k_is)
    (case c14=>k_is)
    (case k14=>k_is)
    (case a15=>k_is)
    (case l15=>k_is)
    (case c15=>k_is)
    (case k15=>k_is)
    (case a16=>k_is)
    (case l16=>k_is)
    (case c16=>k_is)
    (case k16=>k_is)
    (case a17=>k_is)
    (case l17=>k_is)
    (case c17=>k_is)
    (case k17=>k_is)
    (case a18=>k_is)
    (case l18=>k_is)
    (case c18=>k_is)
    (case k18=>k_is)
    (case a19=>k_is)
    (case l19=>k_is)
    (case c19=>k_is)
    (case k19=>k_is)
    (case a20=>k_is)
    (case l20=>k_is)
    (case c20=>k_is)
    (case k20=>k_is)
    (case a21=>k_is)
    (case l21=>k_is)
    (case c21=>k_is)
    (case k21=>k_is)
    (case a22=>k_is)
    (case l22=>k_is)
    (case c22=>k_is)
    (case k22=>k_is)
    (case a23=>k_is)
    (case l23=>k_is)
    (case c23=>k_is)
    (case k23=>k_is)
    (case a24=>k_is)
    (case l24=>k_is)
    (case c24=>k_is)
    (case k24=>k_is)
    (case a25=>k_is)
    (case l25=>k_is)
    (case c25=>k_is)
    (case k25=>k_is)
    (case a26=>k_is)
    (case l26=>k_is)
    (case c26=>k_is)
    (case k26=>k_is)
    (case a27=>k_is)
    (case l27=>k_is)
    (case c27=>k_is)
    (case k27=>k_is)
    (case a28=>k_is)
    (case l28=>k_is)
    (case c28=>k_is)
    (case k28=>k_is)
    (case a29=>k_is)
    (case l29=>k_is)
    (case c29=>k_is)
    (case k29=>k_is)
    (case a30=>k_is)
    (case l30=>k_is)
    (case c30=>k_is)
    (case k30=>k_is)
    (case a31=>k_is)
    (case l31=>k_is)
    (case c31=>k_is)
    (case k31=>k_is)
    (case a32=>k_is)
    (case l32=>k_is)
    (case c32=>k_is)
    (case k32=>k_is)
    (case pg=>k_is)
    (case hd=>k_is)
    (case po=>k_is)
    (case sa=>k_is)
    (case nM=>k_is)
    (case nT=>k_is)
    (case ca=>k_is)
    (case cg=>k_is)
    (case ck=>k_is)
    (case co=>k_is)
    (case mk=>k_is)
    (case kc=>k_is)
    (case mp=>k_is)
    (case mt=>k_is)
    (case lk_NoFlow=>k_is)
    (case sa_NoFlow=>k_is)
    (case nt_NoFlow=>k_is)
    (case x_ie_FlowError=>k_exc)
    (case x_ie_BadTie=>k_exc)
    (case x_mr_BadTie=>k_is)
    (case x_ga_BadTie=>k_is)
    (case x_gn_BadTie=>k_is)
    (case x_cl_BadTie=>k_is)
    (case x_co_BadTie=>k_is)
    (case x_cb_BadTie=>k_is)
    (case x_is_BadTie=>k_is)
    (case x_k_BadTie_BadWeb=>kit_is)
    (case x_k_BadTie_TooMany=>kit_is)
    (case x_k_BadTie_BadPlace=>kit_is)
    (case x_k_BadTie_BadTie=>kit_is)
    (case x_k_BadTie_BadFlow=>kit_is)
    (case x_k_BadTie_BadRest=>kit_is)
    (case x_k_BadTie_NoFlow=>kit_is)
    (case x_k_BadTie_BadSet=>kit_is)
    (case x_k_BadTie_BadPaper=>kit_is)
    (case x_k_BadTie_BadText=>kit_is)
    (case x_k_BadTie_BadDeed=>kit_is)
    (case x_kf_BadTie=>kit_is)
    (case x_kv_BadTie=>kit_is)
    (case x_ie_BadFlow=>k_exc)
    (case x_mr_BadFlow=>k_is)
    (case x_ga_BadFlow=>k_is)
    (case x_gn_BadFlow=>k_is)
    (case x_cl_BadFlow=>k_is)
    (case x_co_BadFlow=>k_is)
    (case x_cb_BadFlow=>k_is)
    (case x_is_BadFlow=>k_is)
    (case x_k_BadFlow_BadWeb=>kit_is)
    (case x_k_BadFlow_TooMany=>kit_is)
    (case x_k_BadFlow_BadPlace=>kit_is)
    (case x_k_BadFlow_BadTie=>kit_is)
    (case x_k_BadFlow_BadFlow=>kit_is)
    (case x_k_BadFlow_BadRest=>kit_is)
    (case x_k_BadFlow_NoFlow=>kit_is)
    (case x_k_BadFlow_BadSet=>kit_is)
    (case x_k_BadFlow_BadPaper=>kit_is)
    (case x_k_BadFlow_BadText=>kit_is)
    (case x_k_BadFlow_BadDeed=>kit_is)
    (case x_kf_BadFlow=>kit_is)
    (case x_kv_BadFlow=>kit_is)
    (case x_ie_BadRest=>k_exc)
    (case x_mr_BadRest=>k_is)
    (case x_ga_BadRest=>k_is)
    (case x_gn_BadRest=>k_is)
    (case x_cl_BadRest=>k_is)
    (case x_co_BadRest=>k_is)
    (case x_cb_BadRest=>k_is)
    (case x_is_BadRest=>k_is)
    (case x_k_BadRest_BadWeb=>kit_is)
    (case x_k_BadRest_TooMany=>kit_is)
    (case x_k_BadRest_BadPlace=>kit_is)
    (case x_k_BadRest_BadTie=>kit_is)
    (case x_k_BadRest_BadFlow=>kit_is)
    (case x_k_BadRest_BadRest=>kit_is)
    (case x_k_BadRest_NoFlow=>kit_is)
    (case x_k_BadRest_BadSet=>kit_is)
    (case x_k_BadRest_BadPaper=>kit_is)
    (case x_k_BadRest_BadText=>kit_is)
    (case x_k_BadRest_BadDeed=>kit_is)
    (case x_kf_BadRest=>kit_is)
    (case x_kv_BadRest=>kit_is)
    (case x_mr_NoFlow=>k_is)
    (case x_ga_NoFlow=>k_is)
    (case x_gn_NoFlow=>k_is)
    (case x_cl_NoFlow=>k_is)
    (case x_co_NoFlow=>k_is)
    (case x_cb_NoFlow=>k_is)
    (case x_is_NoFlow=>k_is)
    (case x_k_NoFlow_BadWeb=>kit_is)
    (case x_k_NoFlow_TooMany=>kit_is)
    (case x_k_NoFlow_BadPlace=>kit_is)
    (case x_k_NoFlow_BadTie=>kit_is)
    (case x_k_NoFlow_BadFlow=>kit_is)
    (case x_k_NoFlow_BadRest=>kit_is)
    (case x_k_NoFlow_NoFlow=>kit_is)
    (case x_k_NoFlow_BadSet=>kit_is)
    (case x_k_NoFlow_BadPaper=>kit_is)
    (case x_k_NoFlow_BadText=>kit_is)
    (case x_k_NoFlow_BadDeed=>kit_is)
    (case x_kf_NoFlow=>kit_is)
    (case x_kv_NoFlow=>kit_is)
    (case z0=>k_is)
    (case z1=>k_is)
    (case z2=>k_is)
    (case z3=>k_is)
    (case z4=>k_is)
    (case z5=>k_is)
    (case z6=>k_is)
    (case z7=>k_is)
    (case z8=>k_is)
    (case z9=>k_is)
    (case z10=>k_is)
    (case z11=>k_is)
    (case z12=>k_is)
    (case z13=>k_is)
    (case z14=>k_is)
    (case z15=>k_is)
