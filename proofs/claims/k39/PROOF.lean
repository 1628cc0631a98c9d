import PyProof.Rows.All
import Wide.All
import OpenK.AllK
import Wide.FinOn
import Lean
import PyProof.EqAt
import PyProof.EqKinds
import PyProof.TupleCall
import KE.KRevIter
import KE.KDictList
import KE.KDictLaws
import PyProof.MinMaxWalk
import PyProof.WalkInts
import PySem.Challenge.RW_busyweb_k39_layers
set_option Elab.async false
set_option linter.all false
set_option maxRecDepth 100000
set_option maxHeartbeats 16000000
open Bool renaming false_ne_true → aV, and_eq_true → cK, eq_iff_iff → cQ, false_and → cX, false_eq_true → dg, and_false → dm, true_and → du, not_false → dO, not_true → eh, and_true → ek, and_self → fj
open Int renaming toNat_natCast → bz, emod_lt_of_pos → bD, emod_nonneg → bU, mul_zero → cW, one_mul → dW, mul_nonneg → eA, zero_add → ff, neg_mul → fL, mul_add → fM, le_refl → fN
open List renaming getD_eq_getElem?_getD → aa, length_map → ae, getElem?_eq_getElem → ak, mem_singleton → ao, length_append → aw, replicate → az, length_take → aD, mem_append → aF, mem_append_right → aG, map_append → aH, mem_append_left → aK, size_toArray → aT, mem_cons_self → aU, mem_cons_of_mem → aW, mem_of_getElem? → aZ, map_cons → bf, length_replicate → bg, take_of_length_le → bh, mem_cons → bq, getElem?_map → br, length_cons → bB, range → bF, length_singleton → bI, mem_filter → bJ, length_set → bN, zipWith → bQ, append_nil → bT, mem_iff_getElem → bV, take_length → bZ, mem_map → b_, getElem_mem → cf, mem_range → cj, length_drop → cm, getElem?_replicate → cq, length_range → cu, nodup_iff_pairwise_ne → cA, getElem?_eq_some_iff → cD, getElem?_append_left → cE, all_eq_true → cJ, length_filter_le → cN, lookup_cons → cP, filter_append → cU, filter_cons_of_pos → cY, filter_cons_of_neg → cZ, all_cons → c_, replicate_succ → di, getElem?_set_ne → dw, not_mem_nil → dA, any_eq_true → dB, nodup_cons → dJ, sum_cons → dN, length_zipWith → dU, pairwise_map → eJ, append_assoc → eK, any_cons → eP, ext_getElem → eU, find?_cons → fc, lookup → fK, map_nil → fT
open Nat renaming le_of_lt → aM, le_refl → aO, ne_of_lt → bj, lt_of_lt_of_le → bp, not_lt_zero → bM, lt_succ_self → bY, le_trans → cx, lt_irrefl → cS, zero_le → dM, ne_of_gt → eL, min_self → eM, le_of_eq → fS, le_succ → gj
open PyProof.Rows renaming boot_isinstance → bc, callWith_type1 → bE, boot_list → cH, boot_all → dH
open PySem renaming boot_len → aS, mem_of_lookup → dC
open PySem.Heap renaming get?_push_of_some → au, get?_update_of_ne → aA, lt_size → aR, get?_push_size → aY, get?_update_self → bC, size_push → cG, size_after_update → cI, get?_push_at → dD, SameBut → fU
open PySem.W renaming Frag → ai, nsIn → aC, mg_of → aI, keepIn → aJ, codeIn → aL, fnOf → aP, kitOne → bu, mg_none_of → bH, findIn → cy, kia_one → cO, emptyDict → dj, mroIn → dE, instObj → dS, excIn → fi
namespace L2
open PySem PySem.Spec PyProof.Rows
abbrev Key:=Sum Int Str
def oj:Key→Value→Bool
 | .inl k,v=>Value.isInt k v
 | .inr x,v=>Value.isStrOf x v
def Bk (w:World):Key→Int
 | .inl k=>hashInt k
 | .inr x=>hashStr w x
theorem eO:∀{k:Key} {v:Value},oj k v=true→(∃i t,k=Sum.inl i∧v=Value.int i t)∨(∃x t,k=Sum.inr x∧v=Value.str x t)
 | .inl i,v,h=>by
  obtain ⟨t,e⟩:=Value.isInt_shape (k:=i) (v:=v) h
  exact .inl ⟨i,t,rfl,e⟩
 | .inr x,v,h=>by
  obtain ⟨t,e⟩:=Value.isStrOf_shape (x:=x) (v:=v) h
  exact .inr ⟨x,t,rfl,e⟩
theorem p_ (i:Int) (t:Tok):oj (.inl i) (.int i t)=true:=by simp [oj,Value.isInt]
theorem pZ (x:Str) (t:Tok):oj (.inr x) (.str x t)=true:=by simp [oj,Value.isStrOf]
theorem v_ (a b:Int):decide ((Sum.inl a:Key)=Sum.inl b)=(a==b):=by
 by_cases e:a=b
 ·subst e;simp
 ·have h:¬(Sum.inl a:Key)=Sum.inl b:=fun q=>e (Sum.inl.inj q)
  rw [decide_eq_false h]
  exact (beq_eq_false_iff_ne.mpr e).symm
theorem vX (a b:Str):decide ((Sum.inr a:Key)=Sum.inr b)=decide (a=b):=by
 by_cases e:a=b
 ·subst e;simp
 ·have h:¬(Sum.inr a:Key)=Sum.inr b:=fun q=>e (Sum.inr.inj q)
  rw [decide_eq_false h,decide_eq_false e]
theorem vZ (a:Int) (b:Str):decide ((Sum.inl a:Key)=Sum.inr b)=false:=decide_eq_false (fun q=>nomatch q)
theorem vY (a:Str) (b:Int):decide ((Sum.inr a:Key)=Sum.inl b)=false:=decide_eq_false (fun q=>nomatch q)
def e_ (prog:Program) (w:World):PySem.KeyKind prog w Key where
 is:=oj
 hash:=Bk w
 inj:=fun v a b ha hb=>by
  rcases eO ha with ⟨i,t,rfl,rfl⟩ | ⟨x,t,rfl,rfl⟩
  ·rcases eO hb with ⟨j,u,rfl,e⟩ | ⟨y,u,rfl,e⟩
   ·injection e with e1 _;rw [e1]
   ·exact nomatch e
  ·rcases eO hb with ⟨j,u,rfl,e⟩ | ⟨y,u,rfl,e⟩
   ·exact nomatch e
   ·injection e with e1 _;rw [e1]
 byValue:=fun k v h=>by
  rcases eO h with ⟨i,t,rfl,rfl⟩ | ⟨x,t,rfl,rfl⟩<;>rfl
 pyHash:=fun hv h=>by
  rcases eO hv with ⟨i,t,rfl,rfl⟩ | ⟨x,t,rfl,rfl⟩
  ·exact wpAny_pyHash_int h
  ·exact wpAny_pyHash_str h
 eqBool:=fun hu hv h=>by
  rcases eO hu with ⟨i,t,rfl,rfl⟩ | ⟨x,t,rfl,rfl⟩
  ·rcases eO hv with ⟨j,u,rfl,rfl⟩ | ⟨y,u,rfl,rfl⟩
   ·rw [v_] at h;exact wpAny_eqBool_int h
   ·rw [vZ] at h;exact SeqAt.EqAt.int_str i t y u _ _ _ _ h
  ·rcases eO hv with ⟨j,u,rfl,rfl⟩ | ⟨y,u,rfl,rfl⟩
   ·rw [vY] at h;exact SeqAt.EqAt.str_int x t j u _ _ _ _ h
   ·rw [vX] at h;exact wpAny_eqBool_str h
 «strs»:=fun k x t v h=>by
  rcases eO h with ⟨i,u,rfl,e⟩ | ⟨y,u,rfl,e⟩
  ·exact nomatch e
  ·injection e with e1 _
   subst e1
   cases v<;>rfl
theorem mq (prog:Program) (w:World) (i:Int) (t:Tok):(e_ prog w).is (.inl i) (.int i t)=true:=p_ i t
theorem mn (prog:Program) (w:World) (x:Str) (t:Tok):(e_ prog w).is (.inr x) (.str x t)=true:=pZ x t
end L2
namespace L2
open PySem PySem.Spec PyProof.Rows
inductive V where
 | non | bl (b:Bool) | int (i:Int) | str (x:Str) | byt (b:Array UInt8) | flt (b:UInt64) | ref (a:Addr) | ty (n:String)
 deriving DecidableEq
def RelV:V→Value→Prop
 | .non,u=>u=Value.none
 | .bl b,u=>u=Value.bool b
 | .int i,u=>∃t,u=Value.int i t
 | .str x,u=>∃t,u=Value.str x t
 | .byt b,u=>∃t,u=Value.bytes b t
 | .flt b,u=>∃t,u=Value.float b t
 | .ref a,u=>u=Value.ref a
 | .ty n,u=>u=Value.type n
abbrev Vals:List V→List Value→Prop:=Paired RelV
theorem Vals.length {xs:List V} {us:List Value} (r:Vals xs us):xs.length=us.length:=Paired.length r
theorem Vals.get:∀{xs:List V} {us:List Value} {i:Nat} {x:V},Vals xs us→xs[i]?=some x→∃u,us[i]?=some u∧RelV x u
 | _,_,_,_,.nil,e=>by simp at e
 | _,_,0,_,.cons r _,e=>by simp at e;subst e;exact ⟨_,rfl,r⟩
 | _,_,i+1,x,.cons _ t,e=>by
  obtain ⟨u,h1,h2⟩:=Vals.get (i:=i) (x:=x) t (by simpa using e)
  exact ⟨u,by simpa using h1,h2⟩
theorem Vals.set {x:V} {u:Value} (r:RelV x u):∀{xs:List V} {us:List Value} (i:Nat),Vals xs us→Vals (xs.set i x) (us.set i u)
 | _,_,_,.nil=>.nil
 | _,_,0,.cons _ t=>.cons r t
 | _,_,i+1,.cons q t=>.cons q (Vals.set r i t)
theorem Vals.append:∀{xs ys:List V} {us ws:List Value},Vals xs us→Vals ys ws→Vals (xs++ys) (us++ws)
 | _,_,_,_,.nil,s=>s
 | _,_,_,_,.cons r t,s=>.cons r (Vals.append t s)
theorem Vals.take:∀{xs:List V} {us:List Value} (n:Nat),Vals xs us→Vals (xs.take n) (us.take n)
 | _,_,0,_=>.nil
 | _,_,_+1,.nil=>.nil
 | _,_,n+1,.cons r t=>.cons r (Vals.take n t)
theorem Vals.drop:∀{xs:List V} {us:List Value} (n:Nat),Vals xs us→Vals (xs.drop n) (us.drop n)
 | _,_,0,r=>r
 | _,_,_+1,.nil=>.nil
 | _,_,n+1,.cons _ t=>Vals.drop n t
def mM:Option V→Option Value→Prop
 | some v,some u=>RelV v u
 | none,none=>True
 | _,_=>False
def KV {κ:Type}:List (κ×V)→List (κ×Value)→Prop:=Paired fun (p:κ×V) (q:κ×Value)=>p.1=q.1∧RelV p.2 q.2
def kV:Key→V
 | .inl i=>.int i
 | .inr x=>.str x
inductive HO where
 | lst (xs:List V)
 | tup (xs:List V)
 | dK (kvs:List (Key×V)) | dT (kvs:List (List Key×V))
 | set (S:Int→Bool) (n:Nat)
 | ins (C dx:Addr) (fs:List (Str×V))
 | own (x:Addr)
 | xd (fs:List (Str×V))
 | met (f x:Addr)
 | rng (lo hi:Int)
 | frz (o:Obj) (u:HO)
 | tbl (ps:Array Value)
 | ext (φ:Heap→Prop)
abbrev Hp:=Addr→Option HO
def upd (H:Hp) (a:Addr) (o:HO):Hp:=fun b=>if b=a then some o else H b
theorem av {H:Hp} {a:Addr} {o:HO}:upd H a o a=some o:=by unfold upd;rw [if_pos rfl]
theorem bX {H:Hp} {a b:Addr} {o:HO} (h:b≠a):upd H a o b=H b:=by unfold upd;rw [if_neg h]
theorem ic {H:Hp} {a b:Addr} {o u:HO} (h:H a=some o) (h':H b=some u) (d:o≠u):a≠b:=by
 intro e;subst e;rw [h] at h';exact d (Option.some.inj h')
theorem bw {H:Hp} {a b:Addr} {o:HO} (h:H a=some o) (h':H b=none):a≠b:=by
 intro e;subst e;rw [h] at h';cases h'
section
variable (P:Program) (w:World)
def fv (H:Hp) (h:Heap) (a:Addr):HO→Prop
 | .lst xs=>xs.length≤sizeLine∧∃(its:List Value) (n:Nat),Vals xs its∧h.get? a=some {cls:=.type "list",data:=.seq its.toArray n}
 | .tup xs=>xs.length≤sizeLine∧∃its:List Value,Vals xs its∧IsTup h a its.toArray
 | .dK kvs=>kvs.length≤sizeLine∧(a==sysModules)=false∧∃vs,KV kvs vs∧h.DictOf (e_ P w) a vs
 | .dT kvs=>kvs.length≤sizeLine∧(a==sysModules)=false∧∃xs:List (List Key×Addr×Value),
   Paired (fun (p:List Key×V) (q:List Key×Addr×Value)=>p.1=q.1∧H q.2.1=some (.tup (p.1.map kV))∧RelV p.2 q.2.2) kvs xs ∧
   ∃o es ep,h.get? a=some o∧o.ExactDict∧o.data=.dict es ep∧es.toList=xs.map (entryOfKey (tupleKind (e_ P w)))∧(xs.map (·.1)).Nodup
 | .set S n=>h.SetOf (intKind P w) a S n
 | .ins C dx fs=>H dx=some (.own a)∧fs.length≤1000∧dx≠a∧h.get? a=some (dS C dx) ∧
   ∃mA,h.Ns1 dx mA∧(∀f,mM (fs.lookup f) (mA f))∧PySem.Within mA (fs.map (·.1))
 | .own _=>∃o,h.get? a=some o
 | .xd fs=>∃mA,h.Ns1 a mA∧∀f,mM (fs.lookup f) (mA f)
 | .rng lo hi=>∃t u v,h.get? a=some {cls:=.type "range",data:=.fields #[.int lo t,.int hi u,.int 1 v]}
 | .frz o u=>h.get? a=some o∧fv H h a u
 | .tbl ps=>h.get? a=some {cls:=.none,data:=.fields ps}
 | .met f x=>h.get? a=some (PySem.W.methodObj (.ref f) (.ref x))
 | .ext φ=>φ h∧(∃o,h.get? a=some o)∧∀h1 h2:Heap,φ h1→(∀o,h1.get? a=some o→h2.get? a=some o)→φ h2
def HOk (H:Hp) (h:Heap):Prop:=∀a o,H a=some o→fv P w H h a o
end
section
variable {P:Program} {w:World} {H H':Hp} {h h':Heap} {a:Addr} {o:HO}
theorem fv.lt (x:fv P w H h a o):a<h.objs.size:=by
 cases o with
 | lst xs=>obtain ⟨_,_,_,_,e⟩:=x;exact aR e
 | tup xs=>obtain ⟨_,_,_,p⟩:=x;exact p.lt
 | dK kvs=>obtain ⟨_,_,_,_,o,_,_,e,_⟩:=x;exact aR e
 | dT kvs=>obtain ⟨_,_,_,_,o,_,_,e,_⟩:=x;exact aR e
 | set S n=>obtain ⟨o,_,_,_,e,_⟩:=x;exact aR e
 | ins C dx fs=>obtain ⟨_,_,_,e,_⟩:=x;exact aR e
 | own y=>obtain ⟨_,e⟩:=x;exact aR e
 | xd fs=>obtain ⟨_,⟨_,_,_,e,_⟩,_⟩:=x;exact aR e
 | rng lo hi=>obtain ⟨_,_,_,e⟩:=x;exact aR e
 | frz ob u=>obtain ⟨e,_⟩:=x;exact aR e
 | tbl ps=>exact aR (show h.get? a=some _ from x)
 | met f y=>exact aR (show h.get? a=some _ from x)
 | ext φ=>obtain ⟨_,⟨_,e⟩,_⟩:=x;exact aR e
theorem Paired.oM {α β:Type} {F G:α→β→Prop}:∀{l₁:List α} {l₂:List β},Paired F l₁ l₂→(∀a b,F a b→G a b)→Paired G l₁ l₂
 | _,_,.nil,_=>.nil
 | _,_,.cons r t,f=>.cons (f _ _ r) (Paired.oM t f)
theorem fv.o_ (x:fv P w H h a o) (k:∀b u,(b=a∨H b=some (.own a))→h.get? b=some u→h'.get? b=some u)
  (ho:∀b,H b=some (.own a)→H' b=some (.own a)) (ht:∀b xs,H b=some (.tup xs)→H' b=some (.tup xs)):fv P w H' h' a o:=by
 induction o with
 | lst xs=>obtain ⟨z,its,n,r,e⟩:=x;exact ⟨z,its,n,r,k _ _ (.inl rfl) e⟩
 | tup xs=>obtain ⟨z,its,r,ob,e,c⟩:=x;exact ⟨z,its,r,ob,k _ _ (.inl rfl) e,c⟩
 | dK kvs=>obtain ⟨z,y,vs,r,ob,es,ep,e,c⟩:=x;exact ⟨z,y,vs,r,ob,es,ep,k _ _ (.inl rfl) e,c⟩
 | dT kvs =>
  obtain ⟨z,y,xs,r,ob,es,ep,e,c⟩:=x
  exact ⟨z,y,xs,Paired.oM r fun p q z=>⟨z.1,ht _ _ z.2.1,z.2.2⟩,ob,es,ep,k _ _ (.inl rfl) e,c⟩
 | set S n=>obtain ⟨ob,es,ep,t,e,c⟩:=x;exact ⟨ob,es,ep,t,k _ _ (.inl rfl) e,c⟩
 | ins C dx fs =>
  obtain ⟨d,z,ne,e,mA,⟨od,es,ep,e2,c⟩,r⟩:=x
  exact ⟨ho _ d,z,ne,k _ _ (.inl rfl) e,mA,⟨od,es,ep,k _ _ (.inr d) e2,c⟩,r⟩
 | own y=>obtain ⟨ob,e⟩:=x;exact ⟨ob,k _ _ (.inl rfl) e⟩
 | xd fs=>obtain ⟨mA,⟨od,es,ep,e,c⟩,r⟩:=x;exact ⟨mA,⟨od,es,ep,k _ _ (.inl rfl) e,c⟩,r⟩
 | rng lo hi=>obtain ⟨t,u,v,e⟩:=x;exact ⟨t,u,v,k _ _ (.inl rfl) e⟩
 | frz ob u ih=>obtain ⟨e,q⟩:=x;exact ⟨k _ _ (.inl rfl) e,ih q⟩
 | tbl ps =>
  have e:h.get? a=some {cls:=.none,data:=.fields ps}:=x
  show h'.get? a=some {cls:=.none,data:=.fields ps}
  exact k a _ (.inl rfl) e
 | met f y =>
  have e:h.get? a=some (PySem.W.methodObj (.ref f) (.ref y)):=x
  show h'.get? a=some (PySem.W.methodObj (.ref f) (.ref y))
  exact k a _ (.inl rfl) e
 | ext φ=>obtain ⟨p,⟨o,e⟩,st⟩:=x;exact ⟨st _ _ p fun o q=>k _ _ (.inl rfl) q,⟨o,k _ _ (.inl rfl) e⟩,st⟩
theorem HOk.lt (x:HOk P w H h) (e:H a=some o):a<h.objs.size:=(x a o e).lt
theorem HOk.fresh (x:HOk P w H h) (e:h.objs.size≤a):H a=none:=by
 cases q:H a with
 | none=>rfl
 | some u=>exact absurd (bp (x.lt q) e) (cS _)
theorem HOk.kept (x:HOk P w H h) (k:∀b u,h.get? b=some u→h'.get? b=some u):HOk P w H h':=fun a o e =>
 (x a o e).o_ (fun b u _ q=>k b u q) (fun _ q=>q) fun _ _ q=>q
theorem HOk.laid (x:HOk P w H h) (k:∀b u,h.get? b=some u→h'.get? b=some u) (hp:h.objs.size≤a) (new:fv P w (upd H a o) h' a o):HOk P w (upd H a o) h':=fun b u e=>by
 have hn:=x.fresh hp
 by_cases hb:b=a
 ·subst hb;rw [av] at e;cases e;exact new
 ·rw [bX hb] at e
  exact (x b u e).o_ (fun c v _ q=>k c v q) (fun c q=>by rw [bX (bw q hn)];exact q) fun c xs q=>by rw [bX (bw q hn)];exact q
end
def Rd (H:Hp) (a:Addr) (u:HO):Prop:=H a=some u∨∃o,H a=some (.frz o u)
theorem Rd.ok {P:Program} {w:World} {H:Hp} {h:Heap} {a:Addr} {u:HO} (r:Rd H a u) (x:HOk P w H h):fv P w H h a u:=by
 rcases r with r | ⟨o,r⟩
 ·exact x a u r
 ·obtain ⟨_,q⟩:=x a _ r
  exact q
def Mut:Option HO→Prop
 | some (.lst _)=>True
 | some (.dK _)=>True
 | some (.dT _)=>True
 | some (.set _ _)=>True
 | some (.ins _ _ _)=>True
 | some (.ext _)=>True
 | _=>False
section
variable {P:Program} {w:World} {H:Hp} {h h':Heap} {x e:Addr} {o':HO}
theorem HOk.write (ok:HOk P w H h) (mu:Mut (H x)) (he:e=x∨H e=some (.own x)) (k:∀b u,b≠e→h.get? b=some u→h'.get? b=some u) (heo:∃u,h'.get? e=some u)
  (new:fv P w (upd H x o') h' x o'):HOk P w (upd H x o') h':=fun b u q=>by
 have nown:∀c y,H c=some (.own y)→c≠x:=fun c y r z=>by subst z;rw [r] at mu;exact mu
 have ntup:∀c xs,H c=some (.tup xs)→c≠x:=fun c xs r z=>by subst z;rw [r] at mu;exact mu
 by_cases hb:b=x
 ·subst hb;rw [av] at q;cases q;exact new
 ·rw [bX hb] at q
  by_cases hbe:b=e
  ·have q':H b=some (.own x):=by
    rcases he with z | z
    ·exact absurd (hbe.trans z) hb
    ·rw [hbe];exact z
   rw [q] at q';cases q'
   obtain ⟨v,hv⟩:=heo
   exact ⟨v,by rw [hbe];exact hv⟩
  ·refine (ok b u q).o_ (fun c v hc r=>k c v ?_ r) (fun c r=>by rw [bX (nown c b r)];exact r) fun c xs r=>by rw [bX (ntup c xs r)];exact r
   rcases hc with rfl | hc
   ·exact hbe
   ·rintro rfl
    rcases he with z | z
    ·exact nown c b hc z
    ·rw [hc] at z;cases z;exact hb rfl
end
structure Un (fs ex:List Addr) (H H':Hp) (h h':Heap):Prop where
 keep:∀b o,h.get? b=some o→H b=none→b∉fs→b∉ex→h'.get? b=some o
 slot:∀b o,h.get? b=some o→H b=none→b∈fs→b∉ex→∃sl,h'.get? b=some {o with slots:=sl}
 free:∀b o,h.get? b=some o→H b=none→b∉ex→H' b=none
 there:∀b o,h.get? b=some o→b∉ex→∃o',h'.get? b=some o'
 tups:∀b xs,H b=some (.tup xs)→H' b=some (.tup xs)
 frzs:∀b o u,H b=some (.frz o u)→H' b=some (.frz o u)
 tbls:∀b ps,H b=some (.tbl ps)→∃more,H' b=some (.tbl (ps++more))
section
variable {fs fs' ex ex':List Addr} {H H1 H2:Hp} {h h1 h2 h':Heap} {a x e:Addr} {o:HO}
theorem Un.any (u:Un fs ex H H1 h h1) {b:Addr} {ob:Obj} (q:h.get? b=some ob) (n:H b=none) (hx:b∉ex):∃sl,h1.get? b=some {ob with slots:=sl}:=by
 by_cases hb:b∈fs
 ·exact u.slot b ob q n hb hx
 ·exact ⟨ob.slots,u.keep b ob q n hb hx⟩
theorem Un.kept (k:∀b u,h.get? b=some u→h'.get? b=some u):Un fs ex H H h h' :=
 ⟨fun b ob q _ _ _=>k b ob q,fun b ob q _ _ _=>⟨ob.slots,k b ob q⟩,fun _ _ _ n _=>n,fun b ob q _=>⟨ob,k b ob q⟩,fun _ _ q=>q,fun _ _ _ q=>q,fun _ ps q=>⟨#[],by rw [q];simp⟩⟩
theorem Un.refl:Un fs ex H H h h:=Un.kept fun _ _ q=>q
theorem Un.laid (k:∀b u,h.get? b=some u→h'.get? b=some u) (hp:h.objs.size≤a) (hn:H a=none):Un fs ex H (upd H a o) h h' where
 keep:=fun b u q _ _ _=>k b u q
 slot:=fun b u q _ _ _=>⟨u.slots,k b u q⟩
 free:=fun b u q n _=>by rw [bX (bj (bp (aR q) hp))];exact n
 there:=fun b u q _=>⟨u,k b u q⟩
 tups:=fun b xs q=>by rw [bX (bw q hn)];exact q
 frzs:=fun b u xs q=>by rw [bX (bw q hn)];exact q
 tbls:=fun b ps q=>⟨#[],by rw [bX (bw q hn),q];simp⟩
theorem Un.write (mu:Mut (H x)) (he:e=x∨H e=some (.own x)) (k:∀b u,b≠e→h.get? b=some u→h'.get? b=some u) (heo:∃u,h'.get? e=some u):Un fs ex H (upd H x o) h h':=by
 have hx:∀b,H b=none→b≠x:=fun b n z=>by subst z;rw [n] at mu;exact mu
 have hb:∀b,H b=none→b≠e:=fun b n z=>by
  subst z
  rcases he with r | r
  ·exact hx b n r
  ·rw [n] at r;cases r
 have hm:∀b u,H b=some u→¬Mut (some u)→b≠x:=fun b u q nm z=>by subst z;rw [q] at mu;exact nm mu
 refine ⟨fun b u q n _ _=>k b u (hb b n) q,fun b u q n _ _=>⟨u.slots,k b u (hb b n) q⟩,fun b u q n _=>by rw [bX (hx b n)];exact n,fun b u q _=>?_,
  fun b xs q=>by rw [bX (hm b _ q fun z=>z)];exact q,fun b u xs q=>by rw [bX (hm b _ q fun z=>z)];exact q,fun b ps q=>⟨#[],by rw [bX (hm b _ q fun z=>z),q];simp⟩⟩
 by_cases hbe:b=e
 ·subst hbe;exact heo
 ·exact ⟨u,k b u hbe q⟩
end
def trk (h:Heap) (H:Hp):List Addr:=(bF h.objs.size).filter fun a=>(H a).isSome
def qe (h:Heap) (H:Hp):Heap:=PySem.W.hideAll h (trk h H)
theorem qd (h:Heap) (H:Hp):(qe h H).objs.size=h.objs.size:=PySem.W.hideAll_size _ _
theorem rQ {h:Heap} {H:Hp} {b:Addr} {o:Obj} (e:h.get? b=some o) (n:H b=none):(qe h H).get? b=some o :=
 PySem.W.hideAll_get _ e fun hm=>by
  have q:(H b).isSome=true:=(bJ.mp hm).2
  rw [n] at q;simp at q
theorem uk {h:Heap} {H:Hp} {b:Addr} {o:Obj} (e:(qe h H).get? b=some o):h.get? b=some o∧H b=none:=by
 have e':h.get? b=some o:=PySem.W.of_hideAll (trk h H) e
 refine ⟨e',?_⟩
 cases q:H b with
 | none=>rfl
 | some x =>
  have hm:b∈trk h H:=bJ.mpr ⟨cj.mpr (aR e'),by simp [q]⟩
  have z:(qe h H).get? b=none:=PySem.W.hideAll_none (trk h H) hm
  rw [z] at e;cases e
def uO (g h:Heap) (L:Addr):List (Addr×Obj):=(bF h.objs.size).filterMap fun a=>if a=L∨(g.get? a).isSome=true then none else (h.get? a).map fun o=>(a,o)
def rest (g h:Heap) (L d:Addr):List (Addr×Obj):=(uO g h L).filter fun p=>decide (p.1≠d)
end L2
namespace L2
open PySem PySem.Spec PyProof.Rows
structure Mod (K:ai) (mg:Str→Option Value) (base:Heap):Prop where
 kin:K.In base
 glob:base.Ns mainGlobals mg
 blt:∃mb,base.Ns builtinsNs mb∧∀x:Str,x≠"__name__"→mb x=bootBuiltins x
 nolimit:base.NoLimit
structure Cx where
 prog:Program
 w:World
 K:ai
 mg:Str→Option Value
 base:Heap
 A:Around
 N:List Str
 s₀:Shared
 H₀:Hp
 env:Env
 outer:List Env
 stack:List Env
 ex:List Addr
 fn:Str→Bool
 calm:Bool
 pn:List (Addr×Obj)
 xe:Value→Shared→Prop
def frs (l:List Env):List Addr:=l.filterMap (·.frame)
abbrev Cx.fs (X:Cx):List Addr:=frs X.outer
def Vis (sc:Scope) (x:Str):Prop:=sc.names.lookup x=some .local∨sc.names.lookup x=some .cell∨sc.names.lookup x=some .free
def Loc (sc:Scope) (x:Str):Prop:=sc.names.lookup x=some .local∨sc.names.lookup x=some .cell
def Look (env:Env) (h:Heap) (m:Str→Option Value) (x:Str) (u:Value):Prop :=
 (env.kindOf x=some .local∧m x=some u)∨((env.kindOf x=some .cell∨env.kindOf x=some .free)∧∃c,env.cells.lookup x=some c∧h.IsCell c (some u))
structure Cx.Ok (X:Cx):Prop where
 mod:Mod X.K X.mg X.base
 kind:X.env.scope.kind=.function
 glob:X.env.globals=mainGlobals
 blt:X.env.builtins=builtinsNs
 above:X.s₀.heap.objs.size≤X.env.locals
 inj:∀x y c,X.env.cells.lookup x=some c→X.env.cells.lookup y=some c→x=y
 has:∀x,(X.env.kindOf x=some .cell∨X.env.kindOf x=some .free)→∃c,X.env.cells.lookup x=some c
 cab:∀x c,X.fn x=true→X.env.cells.lookup x=some c→X.s₀.heap.objs.size≤c
 hd:X.calm=true→X.A.handled=none
 frames:X.A.frames=some X.stack
 stk:X.stack=X.outer∨(X.stack=X.env::X.outer∧X.env.frame=some X.env.locals)
 exf:∀b∈X.ex,b≠X.env.locals∧∀x c,X.env.cells.lookup x=some c→c≠b
 bs:∀b o,X.base.get? b=some o→X.s₀.heap.get? b=some o∧X.H₀ b=none
 bsz:X.base.objs.size≤X.s₀.heap.objs.size
 noex:∀b o,X.base.get? b=some o→b∉X.ex
 exfs:∀b∈X.ex,b∉X.fs
 kB:X.s₀.heap.FunFrames X.base X.outer
 frf:∀b∈X.fs,X.H₀ b=none
structure Inv (X:Cx) (pins:List (Addr×Obj)) (σ:List (Option V)) (H:Hp) (s:Shared):Prop where
 ok:X.Ok
 os:s.os=X.s₀.os
 bare:AllBare s.gens
 base:Un X.fs X.ex X.H₀ H X.s₀.heap s.heap
 loc:∃m,s.heap.Ns X.env.locals m∧∀(i:Nat) (x:Str) (v:V),X.N[i]?=some x→σ[i]?=some (some v)→Vis X.env.scope x→∃u,RelV v u∧Look X.env s.heap m x u
 cell:∀x c,X.env.cells.lookup x=some c→∃v,s.heap.IsCell c v
 free:H X.env.locals=none
 freeC:∀x c,X.env.cells.lookup x=some c→H c=none
 pin:∀p∈X.pn++pins,s.heap.get? p.1=some p.2∧H p.1=none∧p.1≠X.env.locals∧p.1∉X.fs∧∀v,p.2.data≠.cell v
 hok:HOk X.prog X.w H s.heap
 len:σ.length=X.N.length
section
variable {X:Cx} {pins:List (Addr×Obj)} {σ:List (Option V)} {H H':Hp} {s:Shared} {h':Heap}
theorem Cx.Ok.Bj (ok:X.Ok) {b:Addr} {o:Obj} (e:X.base.get? b=some o):b∉X.fs:=fun hb=>by
 have:=(ok.kB.mem hb).1
 rw [e] at this;cases this
theorem Inv.bs (I:Inv X pins σ H s):∀b o,X.base.get? b=some o→s.heap.get? b=some o∧H b=none:=fun b o e =>
 ⟨I.base.keep b o (I.ok.bs b o e).1 (I.ok.bs b o e).2 (I.ok.Bj e) (I.ok.noex b o e),I.base.free b o (I.ok.bs b o e).1 (I.ok.bs b o e).2 (I.ok.noex b o e)⟩
theorem Inv.bk (I:Inv X pins σ H s):∀b o,X.base.get? b=some o→s.heap.get? b=some o:=fun b o e=>(I.bs b o e).1
theorem Inv.mod (I:Inv X pins σ H s):Mod X.K X.mg X.base:=I.ok.mod
theorem Inv.kIn (I:Inv X pins σ H s):X.K.In s.heap:=I.ok.mod.kin.keeps I.bk
theorem Inv.lt (I:Inv X pins σ H s):X.env.locals<s.heap.objs.size:=let ⟨_,hn,_⟩:=I.loc;hn.lt
theorem Inv.sz (I:Inv X pins σ H s):X.s₀.heap.objs.size≤s.heap.objs.size:=cx I.ok.above (aM I.lt)
theorem Inv.zq (I:Inv X pins σ H s) {a:Addr} (h:s.heap.objs.size≤a):a∉X.fs:=fun hb=>by
 obtain ⟨_,o,ho,_⟩:=I.ok.kB.mem hb
 exact absurd (bp (aR ho) (cx I.sz h)) (cS _)
theorem Inv.cne (I:Inv X pins σ H s):∀x c,X.env.cells.lookup x=some c→c≠X.env.locals:=fun x c e z=>by
 obtain ⟨v,o,ho,hd⟩:=I.cell x c e
 obtain ⟨m,⟨o',es,ep,ho',hd',_⟩,_⟩:=I.loc
 rw [z,ho'] at ho;cases ho;rw [hd'] at hd;cases hd
theorem Inv.kB (I:Inv X pins σ H s):s.heap.FunFrames X.base X.outer:=by
 have all:∀(l:List Env),(∀b∈frs l,b∈X.fs)→X.s₀.heap.FunFrames X.base l→s.heap.FunFrames X.base l:=by
  intro l
  induction l with
  | nil=>intro _ _;trivial
  | cons env r ih =>
   intro hs hl
   obtain ⟨hk,⟨L,o,hf,hn,ho,hd⟩,hr⟩:=hl
   have hL:L∈X.fs:=hs L (by unfold frs;rw [List.filterMap_cons,hf];exact aU)
   obtain ⟨sl,e⟩:=I.base.slot L o ho (I.ok.frf L hL) hL fun z=>I.ok.exfs L z hL
   exact ⟨hk,⟨L,_,hf,hn,e,hd⟩,ih (fun b hb=>hs b (by unfold frs;rw [List.filterMap_cons,hf];exact aW _ hb)) hr⟩
 exact all X.outer (fun _ hb=>hb) I.ok.kB
theorem Inv.stack (I:Inv X pins σ H s):s.heap.FunFrames X.base X.stack:=by
 rcases I.ok.stk with e | ⟨e,hf⟩
 ·rw [e];exact I.kB
 ·rw [e]
  obtain ⟨m,hn,_⟩:=I.loc
  refine .cons (by rw [I.ok.kind];decide) hf hn ?_ I.kB
  exact Heap.get?_none_of_le (cx I.ok.bsz I.ok.above)
theorem Inv.iS (I:Inv X pins σ H s):∀b∈frs X.stack,b∈X.env.locals::X.fs:=fun b hb=>by
 rcases I.ok.stk with e | ⟨e,hf⟩
 ·rw [e] at hb;exact aW _ hb
 ·rw [e] at hb
  unfold frs at hb
  rw [List.filterMap_cons,hf] at hb
  exact hb
theorem Inv.lS (I:Inv X pins σ H s):∀b∈frs X.stack,H b=none:=fun b hb=>by
 rcases bq.mp (I.iS b hb) with e | hb
 ·rw [e];exact I.free
 ·obtain ⟨_,o,ho,_⟩:=I.ok.kB.mem hb
  exact I.base.free b o ho (I.ok.frf b hb) fun z=>I.ok.exfs b z hb
theorem Inv.step {g':Array GenState} {t':Nat} {d':Drawn} {ch:List Addr} (I:Inv X pins σ H s)
  (hch:∀b∈ch,(b∈X.ex∨X.s₀.heap.objs.size≤b)∧b≠X.env.locals∧(∀x c,X.env.cells.lookup x=some c→c≠b)∧∀p∈X.pn++pins,p.1≠b)
  (keep:∀b o,b≠X.env.locals→b∉X.fs→b∉ch→s.heap.get? b=some o→H b=none→h'.get? b=some o)
  (slot:∀b o,b≠X.env.locals→b∈X.fs→b∉ch→s.heap.get? b=some o→H b=none→∃sl,h'.get? b=some {o with slots:=sl}) (free:∀b o,b∉ch→s.heap.get? b=some o→H b=none→H' b=none)
  (there:∀b o,b∉ch→s.heap.get? b=some o→∃o',h'.get? b=some o')
  (tups:∀b xs,H b=some (.tup xs)→H' b=some (.tup xs)) (frzs:∀b o u,H b=some (.frz o u)→H' b=some (.frz o u)) (tbls:∀b ps,H b=some (.tbl ps)→∃more,H' b=some (.tbl (ps++more)))
  (ns:∀m,s.heap.Ns X.env.locals m→h'.Ns X.env.locals m) (hok:HOk X.prog X.w H' h') (hg:AllBare g') :
  Inv X pins σ H' {s with heap:=h',gens:=g',drawn:=d',toks:=t'}:=by
 have neL:∀b o,X.s₀.heap.get? b=some o→b≠X.env.locals:=fun b o e=>bj (bp (aR e) I.ok.above)
 have neC:∀b o,X.s₀.heap.get? b=some o→b∉X.ex→b∉ch:=fun b o e hx hb=>by
  rcases (hch b hb).1 with z | z
  ·exact hx z
  ·exact absurd (bp (aR e) z) (cS _)
 have cellK:∀x c,X.env.cells.lookup x=some c→∀v,s.heap.IsCell c v→h'.IsCell c v:=fun x c e v ⟨o,ho,hd⟩=>by
  have nch:c∉ch:=fun z=>(hch c z).2.2.1 x c e rfl
  by_cases hc:c∈X.fs
  ·obtain ⟨sl,q⟩:=slot c o (I.cne x c e) hc nch ho (I.freeC x c e)
   exact ⟨_,q,hd⟩
  ·exact ⟨o,keep c o (I.cne x c e) hc nch ho (I.freeC x c e),hd⟩
 refine ⟨I.ok,I.os,hg,⟨fun b o e n hb hx=>?_,fun b o e n hb hx=>?_,fun b o e n hx=>?_,fun b o e hx=>?_,fun b xs e=>tups b xs (I.base.tups b xs e),fun b o xs e=>frzs b o xs (I.base.frzs b o xs e),fun b ps e=>?_⟩,?_,fun x c e=>?_,?_,fun x c e=>?_,fun p hp=>?_,hok,I.len⟩
 ·exact keep b o (neL b o e) hb (neC b o e hx) (I.base.keep b o e n hb hx) (I.base.free b o e n hx)
 ·obtain ⟨sl,e1⟩:=I.base.slot b o e n hb hx
  obtain ⟨sl',e2⟩:=slot b _ (neL b o e) hb (neC b o e hx) e1 (I.base.free b o e n hx)
  exact ⟨sl',e2⟩
 ·obtain ⟨o',e1⟩:=I.base.there b o e hx
  exact free b o' (neC b o e hx) e1 (I.base.free b o e n hx)
 ·obtain ⟨o',e1⟩:=I.base.there b o e hx
  exact there b o' (neC b o e hx) e1
 ·obtain ⟨m1,e1⟩:=I.base.tbls b ps e
  obtain ⟨m2,e2⟩:=tbls b _ e1
  exact ⟨m1++m2,by rw [e2,Array.append_assoc]⟩
 ·obtain ⟨m,hn,hl⟩:=I.loc
  refine ⟨m,ns m hn,fun i x v e1 e2 e3=>?_⟩
  obtain ⟨u,r,l⟩:=hl i x v e1 e2 e3
  refine ⟨u,r,?_⟩
  rcases l with l | ⟨k,c,e,z⟩
  ·exact .inl l
  ·exact .inr ⟨k,c,e,cellK x c e _ z⟩
 ·obtain ⟨v,z⟩:=I.cell x c e
  exact ⟨v,cellK x c e v z⟩
 ·obtain ⟨m,⟨o,_,_,ho,_⟩,_⟩:=I.loc
  exact free _ o (fun z=>(hch _ z).2.1 rfl) ho I.free
 ·obtain ⟨v,o,ho,hd⟩:=I.cell x c e
  exact free c o (fun z=>(hch c z).2.2.1 x c e rfl) ho (I.freeC x c e)
 ·obtain ⟨e,n,ne,nf,d⟩:=I.pin p hp
  have nch:p.1∉ch:=fun z=>(hch p.1 z).2.2.2 p hp rfl
  exact ⟨keep p.1 p.2 ne nf nch e n,free p.1 p.2 nch e n,ne,nf,d⟩
theorem Inv.un {t':Nat} (I:Inv X pins σ H s) (u:Un X.fs [] H H' s.heap h') (hok:HOk X.prog X.w H' h'):Inv X pins σ H' {s with heap:=h',toks:=t'}:=by
 obtain ⟨m,⟨o,es,ep,ho,r⟩,_⟩:=id I.loc
 obtain ⟨sl,hL⟩:=u.any ho I.free (by simp)
 exact I.step (g':=s.gens) (d':=s.drawn) (ch:=[]) (fun _ z=>nomatch z) (fun b o _ hb _ e n=>u.keep b o e n hb (by simp)) (fun b o _ hb _ e n=>u.slot b o e n hb (by simp)) (fun b o _ e n=>u.free b o e n (by simp)) (fun b o _ e=>u.there b o e (by simp)) u.tups u.frzs u.tbls (fun m' hm=>by
  obtain ⟨o',es',ep',ho',r'⟩:=hm
  rw [ho] at ho';cases ho'
  exact ⟨_,es',ep',hL,r'⟩) hok I.bare
theorem Inv.call {g':Array GenState} {t':Nat} {d':Drawn} {ch:List Addr} (I:Inv X pins σ H s) (u:Un (frs X.stack) ch H H' s.heap h') (hok:HOk X.prog X.w H' h') (hg:AllBare g')
  (hch:∀b∈ch,(b∈X.ex∨X.s₀.heap.objs.size≤b)∧b≠X.env.locals∧(∀x c,X.env.cells.lookup x=some c→c≠b)∧∀p∈X.pn++pins,p.1≠b) :
  Inv X pins σ H' {s with heap:=h',gens:=g',drawn:=d',toks:=t'}:=by
 obtain ⟨m,⟨o,es,ep,ho,r⟩,_⟩:=id I.loc
 obtain ⟨sl,hL⟩:=u.any ho I.free fun z=>(hch _ z).2.1 rfl
 exact I.step (ch:=ch) hch (fun b o hL hb hc e n=>u.keep b o e n (fun z=>(bq.mp (I.iS b z)).elim hL hb) hc) (fun b o _ _ hc e n=>u.any e n hc) (fun b o hc e n=>u.free b o e n hc) (fun b o hc e=>u.there b o e hc) u.tups u.frzs u.tbls (fun m' hm=>by
  obtain ⟨o',es',ep',ho',r'⟩:=hm
  rw [ho] at ho';cases ho'
  exact ⟨_,es',ep',hL,r'⟩) hok hg
theorem Inv.turned {t':Nat} {it:Addr} (I:Inv X pins σ H s) (k:∀b o,b≠it→s.heap.get? b=some o→h'.get? b=some o) (hn:H it=none) (hL:it≠X.env.locals)
  (h1:it∈X.ex∨X.s₀.heap.objs.size≤it) (h2:∀x c,X.env.cells.lookup x=some c→c≠it) (h3:∀p∈X.pn++pins,p.1≠it):Inv X pins σ H {s with heap:=h',toks:=t'}:=by
 have nit:∀b u,H b=some u→b≠it:=fun b u e z=>by rw [z,hn] at e;cases e
 refine I.step (g':=s.gens) (d':=s.drawn) (ch:=[it]) (fun b hb=>?_) (fun b o _ _ hc e _=>k b o (fun z=>hc (by simp [z])) e) (fun b o _ _ hc e _=>⟨o.slots,k b o (fun z=>hc (by simp [z])) e⟩) (fun _ _ _ _ n=>n)
  (fun b o hc e=>⟨o,k b o (fun z=>hc (by simp [z])) e⟩) (fun _ _ e=>e) (fun _ _ _ e=>e) (fun b ps e=>⟨#[],by rw [e];simp⟩) (fun m hm=>?_) (fun b u e=>?_) I.bare
 ·have e:b=it:=by simpa using hb
  subst e
  exact ⟨h1,hL,h2,h3⟩
 ·obtain ⟨o,es,ep,ho,r⟩:=hm
  exact ⟨o,es,ep,k _ o (Ne.symm hL) ho,r⟩
 ·refine (I.hok b u e).o_ (fun c v hc q=>k c v ?_ q) (fun _ q=>q) fun _ _ q=>q
  rcases hc with z | z
  ·rw [z];exact nit b u e
  ·exact nit c _ z
theorem Inv.tok (I:Inv X pins σ H s) (t:Nat):Inv X pins σ H {s with toks:=t}:=I.un (h':=s.heap) (t':=t) Un.refl I.hok
theorem Inv.kept {t':Nat} (I:Inv X pins σ H s) (k:∀b u,s.heap.get? b=some u→h'.get? b=some u):Inv X pins σ H {s with heap:=h',toks:=t'}:=I.un (Un.kept k) (I.hok.kept k)
theorem Inv.laid {a:Addr} {o:HO} {t':Nat} (I:Inv X pins σ H s) (k:∀b u,s.heap.get? b=some u→h'.get? b=some u) (hp:s.heap.objs.size≤a) (new:fv X.prog X.w (upd H a o) h' a o) :
  Inv X pins σ (upd H a o) {s with heap:=h',toks:=t'}:=I.un (Un.laid k hp (I.hok.fresh hp)) (I.hok.laid k hp new)
theorem Inv.write {x e:Addr} {o:HO} {t':Nat} (I:Inv X pins σ H s) (mu:Mut (H x)) (he:e=x∨H e=some (.own x)) (k:∀b u,b≠e→s.heap.get? b=some u→h'.get? b=some u) (heo:∃u,h'.get? e=some u)
  (new:fv X.prog X.w (upd H x o) h' x o):Inv X pins σ (upd H x o) {s with heap:=h',toks:=t'}:=I.un (Un.write mu he k heo) (I.hok.write mu he k heo new)
theorem Inv.weak {σ':List (Option V)} (I:Inv X pins σ H s) (hl:σ'.length=σ.length) (w:∀(i:Nat) v,σ'[i]?=some (some v)→σ[i]?=some (some v)):Inv X pins σ' H s :=
 ⟨I.ok,I.os,I.bare,I.base,let ⟨m,hn,hl'⟩:=I.loc;⟨m,hn,fun i x v e1 e2 e3=>hl' i x v e1 (w i v e2) e3⟩,I.cell,I.free,I.freeC,I.pin,I.hok,hl.trans I.len⟩
theorem Inv.jn {pins':List (Addr×Obj)} (I:Inv X pins σ H s) (h:∀p∈pins',s.heap.get? p.1=some p.2∧H p.1=none∧p.1≠X.env.locals∧p.1∉X.fs∧∀v,p.2.data≠.cell v):Inv X pins' σ H s :=
 ⟨I.ok,I.os,I.bare,I.base,I.loc,I.cell,I.free,I.freeC,fun p hp=>(aF.mp hp).elim (fun z=>I.pin p (aK _ z)) (h p),I.hok,I.len⟩
theorem kl {N:List Str} (hN:N.Nodup) {i j:Nat} {x:Str} (a:N[i]?=some x) (b:N[j]?=some x):i=j:=by
 obtain ⟨h1,e1⟩:=cD.mp a
 obtain ⟨h2,e2⟩:=cD.mp b
 exact (List.getElem_inj hN).mp (e1.trans e2.symm)
theorem kL {M:Model} {A:Around} {E:Value→Shared→Prop} {i:Nat} {x:Str} {v:V} {u:Value} {Q:Unit→Shared→Prop} (I:Inv X pins σ H s) (hN:X.N.Nodup) (hi:X.N[i]?=some x) (hx:Loc X.env.scope x) (r:RelV v u)
  (h:∀s',Inv X pins (σ.set i (some v)) H s'→(∃a,fU a s.heap s'.heap∧(a=X.env.locals∨X.env.cells.lookup x=some a))→Q () s') (hf:X.fn x=true∨X.env.scope.names.lookup x=some .local:=by first | exact .inl rfl | exact .inr rfl | assumption):wpAny M A (storeName X.env x u) Q E s:=by
 obtain ⟨m,hn,hl⟩:=id I.loc
 have hcls:(X.env.scope.kind==.class||(X.env.scope.kind==.module&&X.env.locals != X.env.globals))=false:=by rw [I.ok.kind];rfl
 have hiσ:i<σ.length:=by rw [I.len];exact (cD.mp hi).1
 have cne:=I.cne
 have tracked:∀{a:Addr} {h':Heap},(∃o,s.heap.get? a=some o∧H a=none)→fU a s.heap h'→HOk X.prog X.w H h':=fun {a h'} ha hs b ob e=>by
  obtain ⟨_,_,hfree⟩:=ha
  refine (I.hok b ob e).o_ (fun c w' hc q=>(hs.2 c ?_).trans q) (fun _ q=>q) fun _ _ q=>q
  rintro rfl
  rcases hc with rfl | hc
  ·rw [hfree] at e;cases e
  ·rw [hfree] at hc;cases hc
 rcases hx with hk | hk
 ·refine wpAny_storeName_local hk hn (fun h' hn' hs=>?_) hcls
  obtain ⟨oL,_,_,hoL,_⟩:=id hn
  refine h _ ⟨I.ok,I.os,I.bare,⟨fun b o e n hb hx=>?_,fun b o e n hb hx=>?_,I.base.free,fun b o e hx=>?_,I.base.tups,I.base.frzs,I.base.tbls⟩,⟨_,hn',fun j y v' e1 e2 e3=>?_⟩,fun y c e=>?_,I.free,I.freeC,fun p hp=>?_,tracked ⟨oL,hoL,I.free⟩ hs,by simpa using I.len⟩ ⟨_,hs,.inl rfl⟩
  ·exact (hs.2 b (bj (bp (aR e) I.ok.above))).trans (I.base.keep b o e n hb hx)
  ·obtain ⟨sl,e1⟩:=I.base.slot b o e n hb hx
   exact ⟨sl,(hs.2 b (bj (bp (aR e) I.ok.above))).trans e1⟩
  ·obtain ⟨o',e1⟩:=I.base.there b o e hx
   exact ⟨o',(hs.2 b (bj (bp (aR e) I.ok.above))).trans e1⟩
  ·by_cases hj:j=i
   ·subst hj
    rw [hi] at e1;cases e1
    rw [List.getElem?_set_self hiσ] at e2
    cases e2
    exact ⟨u,r,.inl ⟨hk,by simp⟩⟩
   ·rw [dw (Ne.symm hj)] at e2
    obtain ⟨u',r',q⟩:=hl j y v' e1 e2 e3
    refine ⟨u',r',?_⟩
    rcases q with ⟨k,e⟩ | ⟨k,c,e,z⟩
    ·refine .inl ⟨k,?_⟩
     have:y≠x:=fun e=>hj (kl hN e1 (e▸hi))
     simp [this,e]
    ·exact .inr ⟨k,c,e,z.sameBut hs (cne y c e)⟩
  ·obtain ⟨w',z⟩:=I.cell y c e
   exact ⟨w',z.sameBut hs (cne y c e)⟩
  ·obtain ⟨e,n,ne,nf,d⟩:=I.pin p hp
   exact ⟨(hs.2 p.1 ne).trans e,n,ne,nf,d⟩
 ·have hfn:X.fn x=true:=by
   rcases hf with z | z
   ·exact z
   ·rw [z] at hk;cases hk
  obtain ⟨c,hc⟩:=I.ok.has x (.inl hk)
  obtain ⟨w',z⟩:=I.cell x c hc
  refine wpAny_storeName_cell I.ok.kind hk hc z (fun h' hc' hs=>?_)
  obtain ⟨oc,hoc,hocd⟩:=id z
  refine h {s with heap:=h'} ⟨I.ok,I.os,I.bare,⟨fun b o e n hb hx=>?_,fun b o e n hb hx=>?_,I.base.free,fun b o e hx=>?_,I.base.tups,I.base.frzs,I.base.tbls⟩,⟨m,hn.sameBut hs (Ne.symm (cne x c hc)),fun j y v' e1 e2 e3=>?_⟩,fun y c' e=>?_,I.free,I.freeC,fun p hp=>?_,tracked ⟨oc,hoc,I.freeC x c hc⟩ hs,by simpa using I.len⟩ ⟨c,hs,.inr hc⟩
  ·exact (hs.2 b (bj (bp (aR e) (I.ok.cab x c hfn hc)))).trans (I.base.keep b o e n hb hx)
  ·obtain ⟨sl,e1⟩:=I.base.slot b o e n hb hx
   exact ⟨sl,(hs.2 b (bj (bp (aR e) (I.ok.cab x c hfn hc)))).trans e1⟩
  ·obtain ⟨o',e1⟩:=I.base.there b o e hx
   exact ⟨o',(hs.2 b (bj (bp (aR e) (I.ok.cab x c hfn hc)))).trans e1⟩
  ·by_cases hj:j=i
   ·subst hj
    rw [hi] at e1;cases e1
    rw [List.getElem?_set_self hiσ] at e2
    cases e2
    exact ⟨u,r,.inr ⟨.inl hk,c,hc,hc'⟩⟩
   ·rw [dw (Ne.symm hj)] at e2
    obtain ⟨u',r',q⟩:=hl j y v' e1 e2 e3
    refine ⟨u',r',?_⟩
    rcases q with q | ⟨k,c',e,z'⟩
    ·exact .inl q
    ·refine .inr ⟨k,c',e,z'.sameBut hs ?_⟩
     rintro rfl
     exact hj (kl hN e1 (I.ok.inj _ _ _ e hc▸hi))
  ·by_cases hcc:c'=c
   ·subst hcc;exact ⟨_,hc'⟩
   ·obtain ⟨w2,z2⟩:=I.cell y c' e
    exact ⟨w2,z2.sameBut hs hcc⟩
  ·obtain ⟨e,n,ne,nf,d⟩:=I.pin p hp
   refine ⟨(hs.2 p.1 ?_).trans e,n,ne,nf,d⟩
   intro q
   rw [q,hoc] at e
   have q':oc=p.2:=Option.some.inj e
   exact d w' (by rw [←q'];exact hocd)
theorem jc {M:Model} {A:Around} {E:Value→Shared→Prop} {i:Nat} {x:Str} {v:V} {u:Value} {Q:Unit→Shared→Prop} (I:Inv X pins σ H s) (hN:X.N.Nodup) (hi:X.N[i]?=some x) (hx:Loc X.env.scope x) (r:RelV v u)
  (h:∀s',Inv X pins (σ.set i (some v)) H s'→Q () s') (hf:X.fn x=true∨X.env.scope.names.lookup x=some .local:=by first | exact .inl rfl | exact .inr rfl | assumption):wpAny M A (storeName X.env x u) Q E s :=
 kL I hN hi hx r (fun s' I' _=>h s' I') hf
theorem Inv.qT {s':Shared} {ch:List Addr} (I:Inv X pins σ H s) (ho:s'.os=s.os) (u:Un (frs X.stack) ch H H' s.heap s'.heap) (hok:HOk X.prog X.w H' s'.heap) (hg:AllBare s'.gens)
  (hch:∀b∈ch,(b∈X.ex∨X.s₀.heap.objs.size≤b)∧b≠X.env.locals∧(∀x c,X.env.cells.lookup x=some c→c≠b)∧∀p∈X.pn++pins,p.1≠b):Inv X pins σ H' s':=by
 obtain ⟨h',g',d',t',o'⟩:=s'
 have e:o'=s.os:=ho
 subst e
 exact I.call (g':=g') (t':=t') (d':=d') u hok hg hch
end
abbrev XK:=Value→Option Addr→Hp→Prop
abbrev St:=List (Option V)
abbrev VK:=V→Hp→Prop
abbrev TE:=St→Hp→VK→Prop
abbrev TT:=St→Hp→(Bool→Hp→Prop)→Prop
abbrev TA:=St→Hp→(List V→Hp→Prop)→Prop
structure Ends where
 nx:St→Hp→Prop
 rt:VK
 bk:St→Hp→Prop:=fun _ _=>False
 ct:St→Hp→Prop:=fun _ _=>False
abbrev TS:=Ends→St→Hp→Prop
def EP (X:Cx) (pins:List (Addr×Obj)) (σ:St) (Q:VK) (u:Value) (s':Shared):Prop:=∃v H',Inv X pins σ H' s'∧RelV v u∧Q v H'
def TP (X:Cx) (pins:List (Addr×Obj)) (σ:St) (Q:Bool→Hp→Prop) (b:Bool) (s':Shared):Prop:=∃H',Inv X pins σ H' s'∧Q b H'
def AP (X:Cx) (pins:List (Addr×Obj)) (σ:St) (Q:List V→Hp→Prop) (us:List Value) (s':Shared):Prop:=∃vs H',Inv X pins σ H' s'∧Vals vs us∧Q vs H'
def SP (X:Cx) (pins:List (Addr×Obj)) (D:Ends) (f:Flow) (s':Shared):Prop :=
 match f with
 | .next=>∃σ' H',Inv X pins σ' H' s'∧D.nx σ' H'
 | .brk=>∃σ' H',Inv X pins σ' H' s'∧D.bk σ' H'
 | .cont=>∃σ' H',Inv X pins σ' H' s'∧D.ct σ' H'
 | .ret u=>∃v σ' H',Inv X pins σ' H' s'∧RelV v u∧D.rt v H'
def PE (X:Cx) (e:Expr) (t:TE):Prop :=
 ∀(pins:List (Addr×Obj)) (s:Shared) (σ:St) (H:Hp) (Q:VK),Inv X pins σ H s→t σ H Q→wpAny (model X.prog X.w) X.A (eval e X.env) (EP X pins σ Q) X.xe s
def PT (X:Cx) (e:Expr) (t:TT):Prop :=
 ∀(pins:List (Addr×Obj)) (s:Shared) (σ:St) (H:Hp) (Q:Bool→Hp→Prop),Inv X pins σ H s→t σ H Q→wpAny (model X.prog X.w) X.A (isTrue e X.env (eval e X.env)) (TP X pins σ Q) X.xe s
def PW (X:Cx) (e:Expr) (t:TT):Prop :=
 ∀(whole:Sem Value) (pins:List (Addr×Obj)) (s:Shared) (σ:St) (H:Hp) (Q:Bool→Hp→Prop),Inv X pins σ H s→t σ H Q→wpAny (model X.prog X.w) X.A (isTrue e X.env whole) (TP X pins σ Q) X.xe s
theorem PW.pt {X:Cx} {e:Expr} {t:TT} (h:PW X e t):PT X e t:=h _
def PA (X:Cx) (es:List Expr) (t:TA):Prop :=
 ∀(pos:Pos) (pins:List (Addr×Obj)) (s:Shared) (σ:St) (H:Hp) (Q:List V→Hp→Prop),Inv X pins σ H s→t σ H Q→wpAny (model X.prog X.w) X.A (spliced (backTo pos (starEach es X.env))) (AP X pins σ Q) X.xe s
def PS (X:Cx) (st:Stmt) (t:TS):Prop :=
 ∀(pins:List (Addr×Obj)) (s:Shared) (σ:St) (H:Hp) (D:Ends),Inv X pins σ H s→t D σ H→wpAny (model X.prog X.w) X.A (exec st X.env) (SP X pins D) X.xe s
def PSs (X:Cx) (st:List Stmt) (t:TS):Prop :=
 ∀(pins:List (Addr×Obj)) (s:Shared) (σ:St) (H:Hp) (D:Ends),Inv X pins σ H s→t D σ H→wpAny (model X.prog X.w) X.A (execs st X.env) (SP X pins D) X.xe s
theorem thn {α:Type} {t:Sem α} {Q Q':α→Shared→Prop} {M:Model} {A:Around} {E:Value→Shared→Prop} {s:Shared} (h:wpAny M A t Q E s) (hQ:∀a s,Q a s→Q' a s):wpAny M A t Q' E s:=wpAny_mono h hQ fun _ _ x=>x
end L2
namespace L2
open PySem PySem.Spec PyProof.Rows
section
variable {X:Cx}
def zI (i:Nat):TE:=fun σ H Q=>∃v,σ[i]?=some (some v)∧Q v H
def tC (v:V):TE:=fun _ H Q=>Q v H
theorem vL {i:Nat} {x:Str} {pos:Pos} (hN:X.N[i]?=some x) (hv:Vis X.env.scope x) (hd:(x==("__debug__":Str))=false:=by decide) (hcd:(x==("__classdict__":Str))=false:=by decide):PE X (.Name x pos) (zI i):=by
 intro pins s σ H Q I h
 obtain ⟨v,e,h⟩:=h
 obtain ⟨m,hn,hl⟩:=I.loc
 obtain ⟨u,r,l⟩:=hl i x v hN e hv
 have fin:EP X pins σ Q u s:=⟨v,H,I,r,h⟩
 rcases l with ⟨hk,hm⟩ | ⟨hk,c,hc,hcell⟩
 ·exact wpAny_Name (wpAny_loadName_local I.ok.kind hk hn hm fin) hd
 ·rcases hk with hk | hk
  ·exact wpAny_Name (wpAny_loadName_cell I.ok.kind hk hc hcell fin) hd
  ·exact wpAny_Name (wpAny_loadName_free I.ok.kind hk hc hcell fin hcd) hd
theorem aN {i j pos}:PE X (.Constant (.int i) j pos) (tC (.int i)):=fun _ _ _ H _ I h=>wpAny_Constant_int ⟨.int i,H,I.tok _,⟨_,rfl⟩,h⟩
theorem jO {b j pos}:PE X (.Constant (.bool b) j pos) (tC (.bl b)):=fun _ _ _ H _ I h=>Constant_bool ⟨.bl b,H,I,rfl,h⟩
theorem pE {j pos}:PE X (.Constant .none j pos) (tC .non):=fun _ _ _ H _ I h=>Constant_none ⟨.non,H,I,rfl,h⟩
theorem gS {x j pos}:PE X (.Constant (.str x) j pos) (tC (.str x)):=fun _ _ _ H _ I h=>Calls.Constant_str ⟨.str x,H,I.tok _,⟨_,rfl⟩,h⟩
def Gl (X:Cx) (x:Str):Prop:=X.env.kindOf x=some .globalImplicit
theorem iu {E:Value→Shared→Prop} {pins:List (Addr×Obj)} {s:Shared} {σ:St} {H:Hp} {x:Str} {u:Value} {pos:Pos} {Q:Value→Shared→Prop} (I:Inv X pins σ H s) (hg:Gl X x) (hm:X.mg x=some u) (h:Q u s)
  (hd:(x==("__debug__":Str))=false:=by decide):wpAny (model X.prog X.w) X.A (eval (.Name x pos) X.env) Q E s :=
 Calls.Name_function_global I.ok.kind hg (Calls.loadGlobal_global (by rw [I.ok.glob];exact I.mod.glob.keeps I.bk) hm h) hd
theorem gw {E:Value→Shared→Prop} {pins:List (Addr×Obj)} {s:Shared} {σ:St} {H:Hp} {x:Str} {u:Value} {pos:Pos} {Q:Value→Shared→Prop} (I:Inv X pins σ H s) (hg:Gl X x) (hm:X.mg x=none) (hv:bootBuiltins x=some u) (h:Q u s)
  (hn:x≠"__name__":=by decide) (hd:(x==("__debug__":Str))=false:=by decide):wpAny (model X.prog X.w) X.A (eval (.Name x pos) X.env) Q E s:=by
 obtain ⟨mb,h1,h2⟩:=I.mod.blt
 exact Calls.Name_function_global I.ok.kind hg (Calls.loadGlobal_builtin (by rw [I.ok.glob];exact I.mod.glob.keeps I.bk) hm (by rw [I.ok.blt];exact h1.keeps I.bk) ((h2 x hn).trans hv) h) hd
theorem fw {x:Str} {v:V} {u:Value} {pos:Pos} (hg:Gl X x) (hm:X.mg x=some u) (r:RelV v u) (hd:(x==("__debug__":Str))=false:=by decide):PE X (.Name x pos) (tC v) :=
 fun _ _ _ H _ I h=>iu I hg hm ⟨v,H,I,r,h⟩ hd
theorem kj {x:Str} {v:V} {u:Value} {pos:Pos} (hg:Gl X x) (hm:X.mg x=none) (hv:bootBuiltins x=some u) (r:RelV v u) (hn:x≠"__name__":=by decide) (hd:(x==("__debug__":Str))=false:=by decide):PE X (.Name x pos) (tC v) :=
 fun _ _ _ H _ I h=>gw I hg hm hv ⟨v,H,I,r,h⟩ hn hd
variable {a b:Expr} {ta tb:TE} {pos:Pos}
def PC (X:Cx) (op:CmpOp) (a b:Expr) (t:TE):Prop :=
 ∀(pins:List (Addr×Obj)) (s:Shared) (σ:St) (H:Hp) (Q:VK),Inv X pins σ H s→t σ H Q →
  wpAny (model X.prog X.w) X.A (eval a X.env) (fun v s₁=>wpAny (model X.prog X.w) X.A (eval b X.env) (fun u s₂=>wpAny (model X.prog X.w) X.A (compareOp op v u) (EP X pins σ Q) X.xe s₂) X.xe s₁) X.xe s
def tB (t:TE):TT:=fun σ H Q=>t σ H fun x H1=>∃c,x=.bl c∧Q c H1
theorem kN {op:CmpOp} {t:TE} (h:PC X op a b t) (h1:behindInMarks op b=false:=by first | exact nobehind _ (by decide) (by decide) | rfl):PT X (.Compare a [op] [b] pos) (tB t):=by
 intro pins s σ H Q I hw
 refine wpAny_isTrue_Compare1 (thn (h pins s σ H _ I hw) fun v s1 h1=>thn h1 fun u s2 h2=>thn h2 fun c s3 ⟨x,H1,I1,r1,q1⟩=>?_) h1
 obtain ⟨d,rfl,q⟩:=q1
 cases r1
 exact wpAny_truthy_bool ⟨H1,I1,q⟩
theorem gX {e:Expr} {t:TE} (h:PE X e t) (he:∀whole,isTrue e X.env whole=(do let v ←whole;standAt e.pos;holding [v] (truthy v)):=by intro _;rfl):PT X e (tB t):=by
 intro pins s σ H Q I hw
 refine isTrue_plain (thn (h pins s σ H _ I hw) fun v s1 ⟨x,H1,I1,r1,q1⟩=>?_) (he _)
 obtain ⟨d,rfl,q⟩:=q1
 cases r1
 exact wpAny_truthy_bool ⟨H1,I1,q⟩
variable {tA tB':TT} {rest:List Expr}
def Aw (t u:TT):TT:=fun σ H Q=>t σ H fun c H1=>if c=true then u σ H1 Q else Q false H1
def tOr (t u:TT):TT:=fun σ H Q=>t σ H fun c H1=>if c=true then Q true H1 else u σ H1 Q
def An (t:TT):TT:=fun σ H Q=>t σ H fun c H1=>Q (!c) H1
theorem gW (ha:PT X a tA):PW X (.BoolOp .And [a] pos) tA:=by
 intro wh pins s σ H Q I h
 refine isTrue_and (thn (ha pins s σ H Q I h) fun c s1 e=>?_)
 cases c with
 | true=>exact isTrue_and_nil e
 | false=>exact e
theorem iV (ha:PT X a tA):PW X (.BoolOp .Or [a] pos) tA:=by
 intro wh pins s σ H Q I h
 refine isTrue_or (thn (ha pins s σ H Q I h) fun c s1 e=>?_)
 cases c with
 | false=>exact isTrue_or_nil e
 | true=>exact e
theorem iW (ha:PT X a tA) (hb:PW X (.BoolOp .And (b::rest) pos) tB'):PW X (.BoolOp .And (a::b::rest) pos) (Aw tA tB'):=by
 intro wh pins s σ H Q I h
 refine isTrue_and (thn (ha pins s σ H _ I h) fun c s1 ⟨H1,I1,q1⟩=>?_)
 cases c with
 | true=>exact hb wh pins s1 σ H1 Q I1 q1
 | false=>exact ⟨H1,I1,q1⟩
theorem jN (ha:PT X a tA) (hb:PW X (.BoolOp .Or (b::rest) pos) tB'):PW X (.BoolOp .Or (a::b::rest) pos) (tOr tA tB'):=by
 intro wh pins s σ H Q I h
 refine isTrue_or (thn (ha pins s σ H _ I h) fun c s1 ⟨H1,I1,q1⟩=>?_)
 cases c with
 | true=>exact ⟨H1,I1,q1⟩
 | false=>exact hb wh pins s1 σ H1 Q I1 q1
theorem ig (ha:PT X a tA):PT X (.UnaryOp .Not a pos) (An tA):=by
 intro pins s σ H Q I h
 exact isTrue_not (ha pins s σ H (fun c H1=>Q (!c) H1) I h)
def xB (ta tb:TE):TE:=fun σ H Q=>ta σ H fun x H1=>∃c,x=.bl c∧if c=true then tb σ H1 Q else Q (.bl false) H1
def xq (ta:TE):TE:=fun σ H Q=>ta σ H fun x H1=>∃c,x=.bl c∧Q (.bl (!c)) H1
theorem pC {op} {t:TE} (h:PE X a t):PE X (.BoolOp op [a] pos) t:=fun pins s σ H Q I hw=>BoolOp_one (h pins s σ H Q I hw)
theorem mZ (ha:PE X a ta) (hb:PE X (.BoolOp .And (b::rest) pos) tb):PE X (.BoolOp .And (a::b::rest) pos) (xB ta tb):=by
 intro pins s σ H Q I h
 refine BoolOp_and (thn (ha pins s σ H _ I h) fun v s1 ⟨x,H1,I1,r1,q1⟩=>?_)
 obtain ⟨c,rfl,q1⟩:=q1
 cases r1
 refine wpAny_truthy_bool ?_
 cases c with
 | true=>exact hb pins s1 σ H1 Q I1 q1
 | false=>exact ⟨.bl false,H1,I1,rfl,q1⟩
theorem pD (ha:PE X a ta):PE X (.UnaryOp .Not a pos) (xq ta):=by
 intro pins s σ H Q I h
 refine UnaryOp_ (thn (ha pins s σ H _ I h) fun v s1 ⟨x,H1,I1,r1,q1⟩=>?_)
 obtain ⟨c,rfl,q1⟩:=q1
 cases r1
 exact not_of (wpAny_truthy_bool ⟨.bl (!c),H1,I1,rfl,q1⟩)
def tIf (t:TT) (ta tb:TE):TE:=fun σ H Q=>t σ H fun c H1=>if c=true then ta σ H1 Q else tb σ H1 Q
theorem gq {c:Expr} (hc:PT X c tA) (ha:PE X a ta) (hb:PE X b tb):PE X (.IfExp c a b pos) (tIf tA ta tb):=by
 intro pins s σ H Q I h
 refine wpAny_IfExp (thn (hc pins s σ H _ I h) fun d s1 ⟨H1,I1,q1⟩=>?_)
 cases d with
 | true=>exact ha pins s1 σ H1 Q I1 q1
 | false=>exact hb pins s1 σ H1 Q I1 q1
end
end L2
namespace L2
open PySem PySem.Spec PyProof.Rows
def SqL (K:ai) (H:Hp) (a:Addr) (xs:List V):Prop :=
 Rd H a (.lst xs) ∨
  ∃(o:Obj) (its:Array Value) (n:Nat),K.lookup a=some o∧o.cls=.type "list"∧o.dict=none∧o.data=.seq its n∧its.size≤sizeLine∧Vals xs its.toList
def SqT (K:ai) (H:Hp) (a:Addr) (xs:List V):Prop :=
 Rd H a (.tup xs) ∨
  ∃(o:Obj) (its:Array Value) (n:Nat),K.lookup a=some o∧o.cls=.type "tuple"∧o.data=.seq its n∧its.size≤sizeLine∧Vals xs its.toList
def Bq:Value→Option V
 | .none=>some .non
 | .bool b=>some (.bl b)
 | .int i _=>some (.int i)
 | .str x _=>some (.str x)
 | .bytes b _=>some (.byt b)
 | .float b _=>some (.flt b)
 | .ref a=>some (.ref a)
 | .type n=>some (.ty n)
 | _=>none
theorem RelV.abs {x:V} {u:Value} (r:RelV x u):Bq u=some x:=by
 cases x with
 | non=>cases r;rfl
 | bl _=>cases r;rfl
 | int _=>obtain ⟨t,rfl⟩:=r;rfl
 | str _=>obtain ⟨t,rfl⟩:=r;rfl
 | byt _=>obtain ⟨t,rfl⟩:=r;rfl
 | flt _=>obtain ⟨t,rfl⟩:=r;rfl
 | ref _=>cases r;rfl
 | ty _=>cases r;rfl
theorem RelV.inj {x y:V} {u:Value} (r:RelV x u) (q:RelV y u):x=y:=Option.some.inj (r.abs.symm.trans q.abs)
theorem Vals.inj:∀{xs ys:List V} {us:List Value},Vals xs us→Vals ys us→xs=ys
 | _,_,_,.nil,.nil=>rfl
 | _,_,_,.cons r t,.cons r' t'=>by rw [r.inj r',Vals.inj t t']
section
variable {X:Cx} {pins:List (Addr×Obj)} {σ:St} {H:Hp} {s:Shared} {a:Addr} {xs ys:List V}
theorem SqL.of {K:ai} (h:H a=some (.lst xs)):SqL K H a xs:=.inl (.inl h)
theorem SqT.of {K:ai} (h:H a=some (.tup xs)):SqT K H a xs:=.inl (.inl h)
theorem Inv.list (I:Inv X pins σ H s) (h:SqL X.K H a xs):∃its:List Value,Vals xs its∧PlainL s.heap a its.toArray∧xs.length≤sizeLine:=by
 rcases h with h | ⟨o,its,n,hk,hc,hd,hs,hz,r⟩
 ·obtain ⟨z,its,n,r,e⟩:=h.ok I.hok
  exact ⟨its,r,⟨_,n,e,rfl,rfl,rfl⟩,z⟩
 ·refine ⟨its.toList,r,⟨o,n,I.kIn a o hk,hc,hd,by simpa using hs⟩,?_⟩
  have e:=r.length
  simp only [Array.length_toList] at e
  omega
theorem Inv.tuple (I:Inv X pins σ H s) (h:SqT X.K H a xs):∃its:List Value,Vals xs its∧IsTup s.heap a its.toArray∧xs.length≤sizeLine:=by
 rcases h with h | ⟨o,its,n,hk,hc,hs,hz,r⟩
 ·obtain ⟨z,its,r,p⟩:=h.ok I.hok
  exact ⟨its,r,p,z⟩
 ·refine ⟨its.toList,r,⟨o,I.kIn a o hk,hc,n,by simpa using hs⟩,?_⟩
  have e:=r.length
  simp only [Array.length_toList] at e
  omega
theorem Inv.rF (I:Inv X pins σ H s) (h:SqL X.K H a xs) (h':SqL X.K H a ys):xs=ys:=by
 obtain ⟨its,r,⟨o,n,e,_,_,d⟩,_⟩:=I.list h
 obtain ⟨its',r',⟨o',n',e',_,_,d'⟩,_⟩:=I.list h'
 rw [e] at e';cases e'
 rw [d] at d'
 injection d' with d1 _
 have:its=its':=by simpa using congrArg Array.toList d1
 subst this
 exact r.inj r'
theorem Inv.oX (I:Inv X pins σ H s) (h:SqT X.K H a xs) (h':SqT X.K H a ys):xs=ys:=by
 obtain ⟨its,r,⟨o,e,_,n,d⟩,_⟩:=I.tuple h
 obtain ⟨its',r',⟨o',e',_,n',d'⟩,_⟩:=I.tuple h'
 rw [e] at e';cases e'
 rw [d] at d'
 injection d' with d1 _
 have:its=its':=by simpa using congrArg Array.toList d1
 subst this
 exact r.inj r'
end
abbrev Cx.ia (X:Cx) (E:Value→Shared→Prop):Cx:={X with xe:=E}
abbrev Cx.nox (X:Cx):Cx:=X.ia fun _ _=>False
theorem Cx.Ok.ia {X:Cx} (ok:X.Ok) (E:Value→Shared→Prop):(X.ia E).Ok :=
 ⟨ok.mod,ok.kind,ok.glob,ok.blt,ok.above,ok.inj,ok.has,ok.cab,ok.hd,ok.frames,ok.stk,ok.exf,ok.bs,ok.bsz,ok.noex,ok.exfs,ok.kB,ok.frf⟩
theorem Cx.Ok.fC {X:Cx} {E:Value→Shared→Prop} (ok:(X.ia E).Ok):X.Ok :=
 ⟨ok.mod,ok.kind,ok.glob,ok.blt,ok.above,ok.inj,ok.has,ok.cab,ok.hd,ok.frames,ok.stk,ok.exf,ok.bs,ok.bsz,ok.noex,ok.exfs,ok.kB,ok.frf⟩
section
variable {X:Cx} {pins:List (Addr×Obj)} {σ:St} {H:Hp} {s:Shared} {E:Value→Shared→Prop}
theorem Inv.ia (I:Inv X pins σ H s) (E:Value→Shared→Prop):Inv (X.ia E) pins σ H s:=⟨I.ok.ia E,I.os,I.bare,I.base,I.loc,I.cell,I.free,I.freeC,I.pin,I.hok,I.len⟩
theorem Inv.fC (I:Inv (X.ia E) pins σ H s):Inv X pins σ H s:=⟨I.ok.fC,I.os,I.bare,I.base,I.loc,I.cell,I.free,I.freeC,I.pin,I.hok,I.len⟩
theorem SP.fC {D:Ends} {f:Flow} {s':Shared} (h:SP (X.ia E) pins D f s'):SP X pins D f s':=by
 cases f with
 | next=>obtain ⟨σ',H',I,q⟩:=h;exact ⟨σ',H',I.fC,q⟩
 | brk=>obtain ⟨σ',H',I,q⟩:=h;exact ⟨σ',H',I.fC,q⟩
 | cont=>obtain ⟨σ',H',I,q⟩:=h;exact ⟨σ',H',I.fC,q⟩
 | ret u=>obtain ⟨v,σ',H',I,r,q⟩:=h;exact ⟨v,σ',H',I.fC,r,q⟩
theorem PSs.nox {st:List Stmt} {t:TS} (h:PSs X.nox st t):PSs X st t:=fun pins s σ H D I hw =>
 wpAny_mono (h pins s σ H D (I.ia _) hw) (fun _ _ q=>q.fC) fun _ _ z=>False.elim z
end
section
variable {X:Cx} {st:Stmt} {rest:List Stmt} {t u:TS} {e:Expr} {te:TE} {pos:Pos}
def xr:TS:=fun D σ H=>D.nx σ H
def Ak (t u:TS):TS:=fun D σ H=>t {D with nx:=u D} σ H
theorem cL:PSs X [] xr:=fun _ _ σ H _ I h=>wpAny_execs_nil ⟨σ,H,I,h⟩
theorem ax (h1:PS X st t) (h2:PSs X rest u):PSs X (st::rest) (Ak t u):=by
 intro pins s σ H D I h
 refine wpAny_execs_cons (thn (h1 pins s σ H {D with nx:=u D} I h) fun f s1 q=>?_)
 cases f with
 | next =>
  obtain ⟨σ',H',I',q⟩:=q
  exact h2 pins s1 σ' H' D I' q
 | ret v=>exact q
 | brk=>exact q
 | cont=>exact q
theorem aQ (h1:PS X st t):PSs X [st] t:=by
 intro pins s σ H D I h
 refine wpAny_execs_cons (thn (h1 pins s σ H D I h) fun f s1 q=>?_)
 cases f with
 | next=>exact wpAny_execs_nil q
 | ret v=>exact q
 | brk=>exact q
 | cont=>exact q
theorem Inv.quiet {pins:List (Addr×Obj)} {σ:St} {H:Hp} {s:Shared} (I:Inv X pins σ H s):interactive X.env=false:=by simp [interactive,I.ok.kind]
def xt (te:TE):TS:=fun D σ H=>te σ H fun _ H1=>D.nx σ H1
theorem dk (he:PE X e te) (hs:swapsWith e none pos.line X.env=pure false:=by rfl):PS X (.Expr e pos) (xt te):=by
 intro pins s σ H D I h
 exact wpAny_Expr_any (thn (he pins s σ H _ I h) fun v s1 ⟨x,H1,I1,r1,q1⟩=>⟨σ,H1,I1,q1⟩) I.quiet hs
def Am (te:TE):TS:=fun D σ H=>te σ H D.rt
theorem cC (he:PE X e te):PS X (.Return (some e) pos) (Am te):=by
 intro pins s σ H D I h
 exact wpAny_Return_some (thn (he pins s σ H _ I h) fun v s1 ⟨x,H1,I1,r1,q1⟩=>⟨x,σ,H1,I1,r1,q1⟩)
def As (c:TT) (t u:TS):TS:=fun D σ H=>c σ H fun b H1=>if b=true then t D σ H1 else u D σ H1
theorem dZ {c:Expr} {a b:List Stmt} {tc:TT} (hc:PT X c tc) (ha:PSs X a t) (hb:PSs X b u):PS X (.If c a b pos) (As tc t u):=by
 intro pins s σ H D I h
 refine wpAny_If (thn (hc pins s σ H _ I h) fun d s1 ⟨H1,I1,q1⟩=>?_)
 cases d with
 | true=>exact ha pins s1 σ H1 D I1 q1
 | false=>exact hb pins s1 σ H1 D I1 q1
def vp:TS:=fun _ _ _=>False
theorem je:PS X st vp:=fun _ _ _ _ _ _ h=>h.elim
end
abbrev TG:=V→St→Hp→(St→Hp→Prop)→Prop
abbrev TGs:=List V→St→Hp→(St→Hp→Prop)→Prop
def PG (X:Cx) (target:Expr) (t:TG):Prop :=
 ∀(pins:List (Addr×Obj)) (s:Shared) (σ:St) (H:Hp) (v:V) (u:Value) (Q:St→Hp→Prop),Inv X pins σ H s→RelV v u→t v σ H Q →
  wpAny (model X.prog X.w) X.A (assign target X.env u) (fun _ s'=>∃σ' H',Inv X pins σ' H' s'∧Q σ' H') X.xe s
def PGs (X:Cx) (ts:List Expr) (t:TGs):Prop :=
 ∀(pins:List (Addr×Obj)) (s:Shared) (σ:St) (H:Hp) (vs:List V) (us:List Value) (Q:St→Hp→Prop),Inv X pins σ H s→Vals vs us→t vs σ H Q →
  wpAny (model X.prog X.w) X.A (assignInOrder ((assignEach ts X.env).map (·.2)) us) (fun _ s'=>∃σ' H',Inv X pins σ' H' s'∧Q σ' H') X.xe s
abbrev wJ:=V→V→V→Hp→(Hp→Prop)→Prop
def zE (X:Cx) (t:wJ):Prop :=
 ∀(pins:List (Addr×Obj)) (s:Shared) (σ:St) (H:Hp) (o i v:V) (ov iv u:Value) (Q:Hp→Prop),Inv X pins σ H s→RelV o ov→RelV i iv→RelV v u→t o i v H Q →
  wpAny (model X.prog X.w) X.A (setItem ov iv u) (fun _ s'=>∃H',Inv X pins σ H' s'∧Q H') X.xe s
abbrev TIp:=V→V→Hp→VK→Prop
def PIp (X:Cx) (op:Operator) (t:TIp):Prop :=
 ∀(pins:List (Addr×Obj)) (s:Shared) (σ:St) (H:Hp) (x y:V) (v u:Value) (Q:VK),Inv X pins σ H s→RelV x v→RelV y u→t x y H Q →
  wpAny (model X.prog X.w) X.A (inplaceOp op v u) (EP X pins σ Q) X.xe s
section
variable {X:Cx} {pos:Pos}
def mB (i:Nat):TG:=fun v σ H Q=>Q (σ.set i (some v)) H
theorem bG {i:Nat} {x:Str} (hN:X.N.Nodup) (hi:X.N[i]?=some x) (hx:Loc X.env.scope x) (hf:X.fn x=true∨X.env.scope.names.lookup x=some .local:=by first | exact .inl rfl | exact .inr rfl | assumption):PG X (.Name x pos) (mB i):=by
 intro pins s σ H v u Q I r h
 exact wpAny_assign_Name (jc I hN hi hx r (fun s' I'=>⟨_,H,I',h⟩) hf)
def zB:TGs:=fun vs σ H Q=>vs=[]∧Q σ H
def qi (t:TG) (u:TGs):TGs:=fun vs σ H Q=>∃v r,vs=v::r∧t v σ H fun σ' H'=>u r σ' H' Q
theorem fW:PGs X [] zB:=by
 intro pins s σ H vs us Q I r h
 obtain ⟨e,h⟩:=h
 subst e
 cases r
 exact assignInOrder_nil ⟨σ,H,I,h⟩
theorem dh {e:Expr} {es:List Expr} {t:TG} {u:TGs} (h1:PG X e t) (h2:PGs X es u)
  (hs:(assignEach (e::es) X.env).map (·.2)=assign e X.env::(assignEach es X.env).map (·.2):=by rfl):PGs X (e::es) (qi t u):=by
 intro pins s σ H vs us Q I r h
 obtain ⟨v,vr,e1,h⟩:=h
 subst e1
 cases r with
 | cons r rr =>
  rw [hs]
  refine assignInOrder_cons (thn (h1 pins s σ H _ _ _ I r h) fun _ s1 ⟨σ1,H1,I1,q1⟩=>?_)
  exact h2 pins s1 σ1 H1 _ _ Q I1 rr q1
def xh (K:ai) (n:Nat) (t:TGs):TG:=fun v σ H Q=>∃a xs,v=.ref a∧SqT K H a xs∧xs.length=n∧t xs σ H Q
theorem sM {es:List Expr} {k:Nat} {t:TGs} {n:Nat} (hc:X.calm=true) (h:PGs X es t)
  (hn:(assignEach es X.env).length=n:=by rfl) (hst:(assignEach es X.env).findIdx? (·.1)=none:=by rfl):PG X (.Tuple es k pos) (xh X.K n t):=by
 intro pins s σ H v u Q I r hw
 obtain ⟨a,xs,e1,hq,hl,hw⟩:=hw
 subst e1
 cases r
 obtain ⟨its,rv,ht,hz⟩:=I.tuple hq
 refine assign_Tuple_tuple (I.ok.hd hc) ht (by simp [hn,←hl,rv.length]) hst fun h' hx=>?_
 have I1:Inv X pins σ H {s with heap:=h'}:=I.kept (t':=s.toks) fun b o e=>hx b o (bj (aR e)) e
 exact h pins _ σ H xs _ Q I1 (by simpa using rv) hw
def Bn (to ti:TE) (t:wJ):TG:=fun v σ H Q=>to σ H fun o H1=>ti σ H1 fun i H2=>t o i v H2 fun H3=>Q σ H3
theorem jS {o i:Expr} {to ti:TE} {t:wJ} (ho:PE X o to) (hi:PE X i ti) (hs:zE X t)
  (ha:∀v,assign (.Subscript o i pos) X.env v=(do
   let ov ←holding [v] (eval o X.env)
   let iv ←holding [v,ov] (eval i X.env)
   standAt pos
   holding [v,ov,iv] (setItem ov iv v)
   release [v,ov,iv] []):=by intro _;rfl):PG X (.Subscript o i pos) (Bn to ti t):=by
 intro pins s σ H v u Q I r h
 rw [ha]
 refine wpAny_bind (wpAny_holding (thn (ho pins s σ H _ I h) fun ov s1 ⟨x,H1,I1,r1,q1⟩=>?_))
 refine wpAny_bind (wpAny_holding (thn (hi pins s1 σ H1 _ I1 q1) fun iv s2 ⟨y,H2,I2,r2,q2⟩=>?_))
 refine wpAny_bind (wpAny_standAt (wpAny_bind (wpAny_holding (thn (hs pins s2 σ H2 x y v ov iv u _ I2 r1 r2 r q2) fun _ s3 ⟨H3,I3,q3⟩=>?_))))
 exact wpAny_release ⟨σ,H3,I3,q3⟩
def xA (te:TE) (g:TG):TS:=fun D σ H=>te σ H fun x H1=>g x σ H1 D.nx
theorem ij {tg e:Expr} {te:TE} {g:TG} (he:PE X e te) (hg:PG X tg g) (hs:swapsWithSole [tg] e pos.line X.env=pure false:=by rfl) (hw:swappedStores [tg] e X.env=pure none:=by rfl)
  (h1:(assignEach [tg] X.env).map (·.2)=[assign tg X.env]:=by rfl):PS X (.Assign [tg] e pos) (xA te g):=by
 intro pins s σ H D I h
 refine wpAny_Assign_stores (thn (he pins s σ H _ I h) fun v s1 ⟨x,H1,I1,r1,q1⟩=>?_) hs hw
 rw [h1]
 exact thn (hg pins s1 σ H1 x v _ I1 r1 q1) fun _ s2 q=>q
theorem bA {i:Nat} {x:Str} {e:Expr} {te:TE} {pos':Pos} (hN:X.N.Nodup) (hi:X.N[i]?=some x) (hx:Loc X.env.scope x) (he:PE X e te) (hs:swapsWith e (some (.Name x pos')) pos.line X.env=pure false:=by rfl) (hf:X.fn x=true∨X.env.scope.names.lookup x=some .local:=by first | exact .inl rfl | exact .inr rfl | assumption) :
  PS X (.Assign [.Name x pos'] e pos) (xA te (mB i)):=by
 intro pins s σ H D I h
 refine wpAny_Assign_Name (thn (he pins s σ H _ I h) fun v s1 ⟨y,H1,I1,r1,q1⟩=>?_) hs
 exact jc I1 hN hi hx r1 (fun s2 I2=>⟨_,H1,I2,q1⟩) hf
def Av (i:Nat) (te:TE) (ti:TIp):TS:=fun D σ H=>∃x,σ[i]?=some (some x)∧te σ H fun y H1=>ti x y H1 fun z H2=>D.nx (σ.set i (some z)) H2
theorem pw {i:Nat} {x:Str} {e:Expr} {te:TE} {op:Operator} {ti:TIp} {pos':Pos} (hN:X.N.Nodup) (hi:X.N[i]?=some x) (hx:Loc X.env.scope x) (he:PE X e te) (ho:PIp X op ti) (hf:X.fn x=true∨X.env.scope.names.lookup x=some .local:=by first | exact .inl rfl | exact .inr rfl | assumption) :
  PS X (.AugAssign (.Name x pos') op e pos) (Av i te ti):=by
 intro pins s σ H D I h
 obtain ⟨v,e1,h⟩:=h
 obtain ⟨m,hn,hl⟩:=I.loc
 have vis:Vis X.env.scope x:=by rcases hx with k | k;exact .inl k;exact .inr (.inl k)
 obtain ⟨u,r,l⟩:=hl i x v hi e1 vis
 refine wpAny_AugAssign_Name ?_
 have go:wpAny (model X.prog X.w) X.A (eval e X.env) (fun w s₂=>wpAny (model X.prog X.w) X.A (inplaceOp op u w) (fun r s₃=>wpAny (model X.prog X.w) X.A (storeName X.env x r) (fun _=>SP X pins D .next) X.xe s₃) X.xe s₂) X.xe s:=by
  refine thn (he pins s σ H _ I h) fun w s1 ⟨y,H1,I1,r1,q1⟩=>?_
  refine thn (ho pins s1 σ H1 v y u w _ I1 r r1 q1) fun z s2 ⟨zv,H2,I2,r2,q2⟩=>?_
  exact jc I2 hN hi hx r2 (fun s3 I3=>⟨_,H2,I3,q2⟩) hf
 rcases l with ⟨hk,hm⟩ | ⟨hk,c,hc,hcell⟩
 ·exact wpAny_loadName_local I.ok.kind hk hn hm go
 ·rcases hk with hk | hk
  ·exact wpAny_loadName_cell I.ok.kind hk hc hcell go
  ·rcases hx with k | k
   ·have:X.env.scope.names.lookup x=some .free:=hk
    rw [k] at this;cases this
   ·have:X.env.scope.names.lookup x=some .free:=hk
    rw [k] at this;cases this
def xy (to ti te:TE) (tget:V→V→Hp→VK→Prop) (tip:TIp) (tset:wJ):TS:=fun D σ H=>to σ H fun o H1=>ti σ H1 fun i H2=>tget o i H2 fun x H3=>te σ H3 fun y H4=>tip x y H4 fun z H5=>tset o i z H5 fun H6=>D.nx σ H6
def Ab (X:Cx) (t:V→V→Hp→VK→Prop):Prop :=
 ∀(pins:List (Addr×Obj)) (s:Shared) (σ:St) (H:Hp) (o i:V) (ov iv:Value) (Q:VK),Inv X pins σ H s→RelV o ov→RelV i iv→t o i H Q →
  wpAny (model X.prog X.w) X.A (getItem ov iv) (EP X pins σ Q) X.xe s
theorem lY {o i e:Expr} {to ti te:TE} {tget:V→V→Hp→VK→Prop} {tip:TIp} {tset:wJ} {op:Operator} {tpos:Pos} (ho:PE X o to) (hi:PE X i ti) (hg:Ab X tget) (he:PE X e te) (hp:PIp X op tip) (hs:zE X tset)
  (ha:∀ov iv new,augStore i ov iv new=(do holding [new,ov,iv] (setItem ov iv new);release [new,ov,iv] [];pure .next):=by intros;rfl):PS X (.AugAssign (.Subscript o i tpos) op e pos) (xy to ti te tget tip tset):=by
 intro pins s σ H D I h
 refine wpAny_AugAssign_SubscriptAny (thn (ho pins s σ H _ I h) fun ov s1 ⟨x1,H1,I1,r1,q1⟩=>?_) ha
 refine thn (hi pins s1 σ H1 _ I1 q1) fun iv s2 ⟨x2,H2,I2,r2,q2⟩=>?_
 refine thn (hg pins s2 σ H2 x1 x2 ov iv _ I2 r1 r2 q2) fun old s3 ⟨x3,H3,I3,r3,q3⟩=>?_
 refine thn (he pins s3 σ H3 _ I3 q3) fun v s4 ⟨x4,H4,I4,r4,q4⟩=>?_
 refine thn (hp pins s4 σ H4 x3 x4 old v _ I4 r3 r4 q4) fun new s5 ⟨x5,H5,I5,r5,q5⟩=>?_
 exact thn (hs pins s5 σ H5 x1 x2 x5 ov iv new _ I5 r1 r2 r5 q5) fun _ s6 ⟨H6,I6,q6⟩=>⟨σ,H6,I6,q6⟩
def ipI (f:Int→Int→Int):TIp:=fun x y H Q=>∃i j,x=.int i∧y=.int j∧Q (.int (f i j)) H
theorem nB:PIp X .Add (ipI fun i j=>i+j):=by
 intro pins s σ H x y v u Q I r1 r2 h
 obtain ⟨i,j,e1,e2,q⟩:=h
 subst e1;subst e2
 obtain ⟨t,rfl⟩:=r1
 obtain ⟨t',rfl⟩:=r2
 exact iadd_int ⟨.int _,H,I.tok _,⟨_,rfl⟩,q⟩
theorem we:PIp X .Sub (ipI fun i j=>i-j):=by
 intro pins s σ H x y v u Q I r1 r2 h
 obtain ⟨i,j,e1,e2,q⟩:=h
 subst e1;subst e2
 obtain ⟨t,rfl⟩:=r1
 obtain ⟨t',rfl⟩:=r2
 exact isub_int ⟨.int _,H,I.tok _,⟨_,rfl⟩,q⟩
end
section
variable {X:Cx} {pos:Pos}
def vj (c:TT) (tb:TS):TS:=fun D σ H=>∃W:Nat→St→Hp→Prop,(∃m,W m σ H)∧∀m σ H,W m σ H →
 c σ H fun b H1=>if b=true then ∃N:St→Hp→Prop,(∀σ' H',N σ' H'→∃m',m'<m∧W m' σ' H')∧tb {D with nx:=N,ct:=N,bk:=D.nx} σ H1 else D.nx σ H1
theorem jd {c:Expr} {body:List Stmt} {tc:TT} {tb:TS} (hp:PassesOwn (model X.prog X.w) X.A X.env X.xe) (hc:PT X c tc) (hb:PSs X body tb):PS X (.While c body [] pos) (vj tc tb):=by
 intro pins s σ H D I h
 obtain ⟨W,⟨m0,w0⟩,turn⟩:=h
 refine wpAny_While (codeAny_whileLoop (fun n s'=>∃σ' H',Inv X pins σ' H' s'∧W n σ' H') ?_ m0 ⟨σ,H,I,w0⟩)
 rintro n s1 ⟨σ1,H1,I1,w1⟩
 refine wpAny_passesOwn hp (thn (hc pins s1 σ1 H1 _ I1 (turn n σ1 H1 w1)) fun b s2 ⟨H2,I2,q2⟩=>?_)
 cases b with
 | true =>
  obtain ⟨N,hN,q2⟩:=q2
  rw [if_pos rfl]
  refine wpAny_passesOwn hp (thn (hb pins s2 σ1 H2 _ I2 q2) fun f s3 q3=>?_)
  cases f with
  | next =>
   obtain ⟨σ3,H3,I3,n3⟩:=q3
   obtain ⟨m',hm,w3⟩:=hN σ3 H3 n3
   exact ⟨m',hm,σ3,H3,I3,w3⟩
  | cont =>
   obtain ⟨σ3,H3,I3,n3⟩:=q3
   obtain ⟨m',hm,w3⟩:=hN σ3 H3 n3
   exact ⟨m',hm,σ3,H3,I3,w3⟩
  | brk=>exact q3
  | ret v=>exact q3
 | false =>
  rw [if_neg aV]
  exact wpAny_execs_nil ⟨σ1,H2,I2,q2⟩
end
structure It where
 go:Nat→Hp→Prop
 yld:Nat→Hp→V→Hp→Prop
 stop:Nat→Hp→Prop
def lO (X:Cx) (pins:List (Addr×Obj)) (H:Hp) (b:Addr):Prop :=
 H b=none∧b≠X.env.locals∧b∉X.fs∧(b∈X.ex∨X.s₀.heap.objs.size≤b)∧(∀x c,X.env.cells.lookup x=some c→c≠b)∧∀p∈X.pn++pins,p.1≠b
theorem Inv.u_ {X:Cx} {pins:List (Addr×Obj)} {σ:St} {H H':Hp} {s:Shared} {b:Addr} (I:Inv X pins σ H s) (hb:s.heap.objs.size≤b) (hn:H' b=none):lO X pins H' b:=by
 refine ⟨hn,eL (bp I.lt hb),I.zq hb,.inr (cx I.sz hb),fun x c e z=>?_,fun p hp z=>?_⟩
 ·obtain ⟨v,q⟩:=I.cell x c e
  exact absurd (bp q.lt (by rw [z];exact hb)) (cS _)
 ·exact absurd (bp (aR (I.pin p hp).1) (by rw [z];exact hb)) (cS _)
structure Turn (P:Program) (w:World) (K:ai) (tg:Expr) (J:It) (fp:List Addr) (it:Addr) (tn:Nat→Heap→Prop):Prop where
 mem:it∈fp
 obj:∀i h,tn i h→∀b∈fp,∃o,h.get? b=some o∧∀v,o.data≠.cell v
 keep:∀i h h',tn i h→(∀b∈fp,∀o,h.get? b=some o→h'.get? b=some o)→tn i h'
 item:∀(X:Cx),X.prog=P→X.w=w→X.K=K→X.calm=true→∀(i:Nat) (pins:List (Addr×Obj)) (s:Shared) (σ:St) (H:Hp) (E:Value→Shared→Prop),Inv X pins σ H s→(∀b∈fp,lO X pins H b)→tn i s.heap→J.go i H →
  wpAny (model P w) X.A (pyNext (.ref it)) (fun r s1=>∃u,r=some u ∧
   wpAny (model P w) X.A (letOwnedTupleGo tg (.ref it) u) (fun _ s2=>∃x H',Inv X pins σ H' s2∧RelV x u∧J.yld i H x H'∧tn (i+1) s2.heap∧∀b∈fp,H' b=none) E s1) E s
 done:∀(X:Cx),X.prog=P→X.w=w→X.K=K→X.calm=true→∀(i:Nat) (pins:List (Addr×Obj)) (s:Shared) (σ:St) (H:Hp) (E:Value→Shared→Prop),Inv X pins σ H s→(∀b∈fp,lO X pins H b)→tn i s.heap→J.stop i H →
  wpAny (model P w) X.A (pyNext (.ref it)) (fun r s1=>r=none∧Inv X pins σ H s1) E s
 self:∀(A:Around) (i:Nat) (s:Shared) (Q:Value→Shared→Prop) (E:Value→Shared→Prop),tn i s.heap→Q (.ref it) s→wpAny (model P w) A (pyIter (.ref it)) Q E s
abbrev TI:=St→Hp→(It→Hp→Prop)→Prop
def PIE (X:Cx) (pins:List (Addr×Obj)) (σ:St) (tg:Expr) (R:It→Hp→Prop) (itv:Value) (s2:Shared):Prop :=
 ∃(it:Addr) (fp:List Addr) (tn:Nat→Heap→Prop) (J:It) (H':Hp),itv=.ref it∧Inv X pins σ H' s2∧Turn X.prog X.w X.K tg J fp it tn∧tn 0 s2.heap∧(∀b∈fp,lO X pins H' b)∧R J H'
def PI (X:Cx) (tg iter:Expr) (wi:TI):Prop :=
 ∀(pins:List (Addr×Obj)) (s:Shared) (σ:St) (H:Hp) (R:It→Hp→Prop),Inv X pins σ H s→wi σ H R →
  wpAny (model X.prog X.w) X.A (eval iter X.env) (fun v s1=>wpAny (model X.prog X.w) X.A (pyIter v) (PIE X pins σ tg R) X.xe s1) X.xe s
theorem uA {M:Model} {A:Around} {E:Value→Shared→Prop} {s:Shared} {tg:Expr} {it:Addr} {u:Value} {o:Obj} {n:String} {vs:Array Value} {Q:Unit→Shared→Prop} (ho:s.heap.get? it=some o) (hc:o.cls=.type n) (hd:o.data=.fields vs)
    (hn:["enumerate","zip","dict_itemiterator","dict_reverseitemiterator","odict_iterator","itertools.zip_longest","itertools.pairwise"].contains n=false) (hQ:Q () s):wpAny M A (letOwnedTupleGo tg (.ref it) u) Q E s:=by
  unfold letOwnedTupleGo
  cases tg<;>first
    | exact wpAny_pure hQ
    | (cases u<;>first
        | exact wpAny_pure hQ
        | (refine wpAny_bind (wpAny_load ho ?_)
           rw [hc,hd]
           show wpAny M A (if (["enumerate","zip","dict_itemiterator","dict_reverseitemiterator","odict_iterator","itertools.zip_longest","itertools.pairwise"].contains n&&vs[0]?==some (rawInt _))=true then _ else _) Q E s
           rw [if_neg (by intro h;rw [hn,cX] at h;cases h)]
           exact wpAny_pure hQ))
def Itl (K:ai) (a:Addr):It :=
 ⟨fun i H=>∃xs x,SqL K H a xs∧xs[i]?=some x,fun i H x H'=>H'=H∧∀xs,SqL K H a xs→xs[i]?=some x,fun i H=>∃xs,SqL K H a xs∧xs.length≤i⟩
def Itt (K:ai) (a:Addr):It :=
 ⟨fun i H=>∃xs x,SqT K H a xs∧xs[i]?=some x,fun i H x H'=>H'=H∧∀xs,SqT K H a xs→xs[i]?=some x,fun i H=>∃xs,SqT K H a xs∧xs.length≤i⟩
def Itr (lo:Int) (n:Nat):It:=⟨fun i _=>i<n,fun i H x H'=>H'=H∧x=.int (lo+i),fun i _=>n≤i⟩
theorem kJ {P:Program} {w:World} {K:ai} {tg:Expr} (a it:Addr):Turn P w K tg (Itl K a) [it] it (fun i h=>h.IsListIter it a i) where
 mem:=by simp
 obj:=fun i h st b hb=>by
  have e:b=it:=by simpa using hb
  subst e
  obtain ⟨o,e,c,d⟩:=st
  exact ⟨o,e,fun v z=>by rw [d] at z;cases z⟩
 keep:=fun i h h' st k=>st.at fun o e=>k it (by simp) o e
 item:=by
  intro X hP hw hK hc i pins s σ H E I hf st hg
  subst hP hw hK
  obtain ⟨xs,x,hq,hx⟩:=hg
  obtain ⟨its,rv,p,hz⟩:=I.list hq
  obtain ⟨u,hu,ru⟩:=rv.get hx
  obtain ⟨f0,f1,f2,f3,f4,f5⟩:=hf it (by simp)
  refine wpAny_pyNext_list_item st p.isList (x:=u) (by simpa using hu) fun h' st' sb=>?_
  have I1:Inv X pins σ H {s with heap:=h'}:=I.turned (t':=s.toks) (fun b o hb e=>(sb.2 b hb).trans e) f0 f1 f3 f4 f5
  obtain ⟨o,e,c,d⟩:=id st'
  exact ⟨u,rfl,uA (s:={s with heap:=h'}) e c d (by decide) ⟨x,H,I1,ru,⟨rfl,fun ys hy=>by rw [I.rF hy hq];exact hx⟩,st',fun b hb=>(hf b hb).1⟩⟩
 done:=by
  intro X hP hw hK hc i pins s σ H E I hf st hg
  subst hP hw hK
  obtain ⟨xs,hq,hx⟩:=hg
  obtain ⟨its,rv,p,hz⟩:=I.list hq
  obtain ⟨f0,f1,f2,f3,f4,f5⟩:=hf it (by simp)
  have hl:=rv.length
  exact wpAny_pyNext_list_end (I.ok.hd hc) st p.isList (by simp;omega) fun h' eb=>⟨rfl,I.turned (t':=s.toks) (fun b o hb e=>eb b o hb e) f0 f1 f3 f4 f5⟩
 self:=fun _ _ _ _ _ st h=>wpAny_pyIter_listiter st h
theorem jQ {P:Program} {w:World} {K:ai} {tg:Expr} (a it:Addr):Turn P w K tg (Itt K a) [it] it (fun i h=>h.IsTupleIter it a i) where
 mem:=by simp
 obj:=fun i h st b hb=>by
  have e:b=it:=by simpa using hb
  subst e
  obtain ⟨o,e,c,d⟩:=st
  exact ⟨o,e,fun v z=>by rw [d] at z;cases z⟩
 keep:=fun i h h' st k=>st.at fun o e=>k it (by simp) o e
 item:=by
  intro X hP hw hK hc i pins s σ H E I hf st hg
  subst hP hw hK
  obtain ⟨xs,x,hq,hx⟩:=hg
  obtain ⟨its,rv,p,hz⟩:=I.tuple hq
  obtain ⟨u,hu,ru⟩:=rv.get hx
  obtain ⟨f0,f1,f2,f3,f4,f5⟩:=hf it (by simp)
  refine wpAny_pyNext_tuple_item st (show s.heap.IsTuple a its.toArray from p) (x:=u) (by simpa using hu) fun h' st' sb=>?_
  have I1:Inv X pins σ H {s with heap:=h'}:=I.turned (t':=s.toks) (fun b o hb e=>(sb.2 b hb).trans e) f0 f1 f3 f4 f5
  obtain ⟨o,e,c,d⟩:=id st'
  exact ⟨u,rfl,uA (s:={s with heap:=h'}) e c d (by decide) ⟨x,H,I1,ru,⟨rfl,fun ys hy=>by rw [I.oX hy hq];exact hx⟩,st',fun b hb=>(hf b hb).1⟩⟩
 done:=by
  intro X hP hw hK hc i pins s σ H E I hf st hg
  subst hP hw hK
  obtain ⟨xs,hq,hx⟩:=hg
  obtain ⟨its,rv,p,hz⟩:=I.tuple hq
  obtain ⟨f0,f1,f2,f3,f4,f5⟩:=hf it (by simp)
  have hl:=rv.length
  exact wpAny_pyNext_tuple_end (I.ok.hd hc) st (show s.heap.IsTuple a its.toArray from p) (by simp;omega) fun h' eb=>⟨rfl,I.turned (t':=s.toks) (fun b o hb e=>eb b o hb e) f0 f1 f3 f4 f5⟩
 self:=fun _ _ _ _ _ st h=>wpAny_pyIter_tupleiter st h
theorem nQ {P:Program} {w:World} {K:ai} {tg:Expr} (it:Addr) (lo:Int) (n:Nat):Turn P w K tg (Itr lo n) [it] it (fun i h=>IsRangeIter h it (lo+(i:Nat)*1) ((n:Int)-(i:Nat)) 1) where
 mem:=by simp
 obj:=fun i h st b hb=>by
  have e:b=it:=by simpa using hb
  subst e
  exact ⟨_,st,fun v z=>by
   have z':Data.fields _=Data.cell v:=z
   cases z'⟩
 keep:=fun i h h' st k=>k it (by simp) _ st
 item:=by
  intro X hP hw hK hc i pins s σ H E I hf st hg
  subst hP hw hK
  obtain ⟨f0,f1,f2,f3,f4,f5⟩:=hf it (by simp)
  have W:=Walks.range (prog:=X.prog) (w:=X.w) (I.ok.hd hc) it lo 1 n
  refine W.item i s _ _ hg st fun v h' tk hv st' kk=>?_
  obtain ⟨t,rfl⟩:=hv
  have I1:Inv X pins σ H {s with heap:=h',toks:=tk}:=I.turned (fun b o hb e=>kk b o (by simpa using hb) e) f0 f1 f3 f4 f5
  refine ⟨_,rfl,uA (s:={s with heap:=h',toks:=tk}) (n:="range_iterator") st' rfl rfl (by decide) ⟨.int (lo+i),H,I1,⟨t,?_⟩,⟨rfl,rfl⟩,st',fun b hb=>(hf b hb).1⟩⟩
  rw [Int.mul_one]
 done:=by
  intro X hP hw hK hc i pins s σ H E I hf st hg
  subst hP hw hK
  obtain ⟨f0,f1,f2,f3,f4,f5⟩:=hf it (by simp)
  exact wpAny_pyNext_range_end (I.ok.hd hc) st (by have:n≤i:=hg;omega) fun h' eb=>⟨rfl,I.turned (t':=s.toks) (fun b o hb e=>eb b o hb e) f0 f1 f3 f4 f5⟩
 self:=fun _ _ _ _ _ st h=>wpAny_pyIter_rangeiter st h
end L2
namespace L2
open PySem PySem.Spec PyProof.Rows
section
variable {X:Cx} {tg:Expr}
theorem mU {pins:List (Addr×Obj)} {σ:St} {H:Hp} {s:Shared} {R:It→Hp→Prop} {E:Value→Shared→Prop} {lo hi:Int} {t u v:Tok} {tk:Nat} (I:Inv X pins σ H s) (h1:-(2^62)≤lo) (h2:lo<2^62) (h3:-(2^62)≤hi) (h4:hi<2^62)
  (q:R (Itr lo (hi-lo).toNat) H):wpAny (model X.prog X.w) X.A (pyIter (.ref s.heap.objs.size)) (PIE X pins σ tg R) E {s with heap:=s.heap.push {cls:=.type "range",data:=.fields #[.int lo t,.int hi u,.int 1 v]},toks:=tk}:=by
 refine wpAny_pyIter_range (IsRange.new ..) (small_one h1 h2 h3 h4) ?_
 have I1:Inv X pins σ H {s with heap:=s.heap.push {cls:=.type "range",data:=.fields #[.int lo t,.int hi u,.int 1 v]},toks:=tk}:=I.kept fun b o e=>au _ e
 refine ⟨(s.heap.push {cls:=.type "range",data:=.fields #[.int lo t,.int hi u,.int 1 v]}).objs.size,[(s.heap.push {cls:=.type "range",data:=.fields #[.int lo t,.int hi u,.int 1 v]}).objs.size],_,_,H,rfl,
  I1.kept (t':=tk) fun b o e=>au _ e,nQ _ lo (hi-lo).toNat,?_,fun b hb=>?_,q⟩
 ·have e1:lo+((0:Nat):Int)*1=lo:=by simp
  have e2:(((hi-lo).toNat:Nat):Int)-((0:Nat):Int)=Builtin.Range.rangeSize lo hi 1:=by rw [rangeSize_one];split<;>omega
  show IsRangeIter _ _ (lo+((0:Nat):Int)*1) ((((hi-lo).toNat:Nat):Int)-((0:Nat):Int)) 1
  rw [e1,e2]
  exact aY _ rfl
 ·have e:b=(s.heap.push {cls:=.type "range",data:=.fields #[.int lo t,.int hi u,.int 1 v]}).objs.size:=by simpa using hb
  subst e
  exact I1.u_ (aO _) (I1.hok.fresh (aO _))
def zx (ta:TA):TI:=fun σ H R=>ta σ H fun vs H1=>∃j:Int,vs=[.int j]∧-(2^62)≤j∧j<2^62∧R (Itr 0 j.toNat) H1
def zw (ta:TA):TI:=fun σ H R=>ta σ H fun vs H1=>∃i j:Int,vs=[.int i,.int j]∧(-(2^62)≤i∧i<2^62∧-(2^62)≤j∧j<2^62)∧R (Itr i (j-i).toNat) H1
theorem ef {a:Expr} {ta:TA} {p pos:Pos} (hg:Gl X "range") (hm:X.mg "range"=none) (ha:PA X [a] ta) (hs:starEach [a] X.env=[(false,eval a X.env)]:=by rfl):PI X tg (.Call (.Name "range" p) [a] [] pos) (zx ta):=by
 intro pins s σ H R I h
 refine Call_ (gw I hg hm boot_range (bE (thn (ha pos pins s σ H _ I h) fun us s1 ⟨vs,H1,I1,r1,q1⟩=>?_) hs rfl))
 obtain ⟨j,e,q1,q2,q⟩:=q1
 subst e
 cases r1 with
 | cons r rr =>
  cases rr
  obtain ⟨t,rfl⟩:=r
  exact call_range_1 (mU I1 (by omega) (by omega) q1 q2 (by simpa using q))
theorem kT {a b:Expr} {ta:TA} {p pos:Pos} (hg:Gl X "range") (hm:X.mg "range"=none) (ha:PA X [a,b] ta) (hs:starEach [a,b] X.env=[(false,eval a X.env),(false,eval b X.env)]:=by rfl) (hs2:starEach [b] X.env=[(false,eval b X.env)]:=by rfl) :
  PI X tg (.Call (.Name "range" p) [a,b] [] pos) (zw ta):=by
 intro pins s σ H R I h
 refine Call_ (gw I hg hm boot_range (bE (thn (ha pos pins s σ H _ I h) fun us s1 ⟨vs,H1,I1,r1,q1⟩=>?_) (by rw [hs,hs2]) (by rw [hs2];rfl)))
 obtain ⟨i,j,e,⟨q1,q2,q3,q4⟩,q⟩:=q1
 subst e
 cases r1 with
 | cons r rr =>
  cases rr with
  | cons r' rr =>
   cases rr
   obtain ⟨t,rfl⟩:=r
   obtain ⟨t',rfl⟩:=r'
   exact call_range_2 (mU I1 q1 q2 q3 q4 q)
def zJ (wi:TI) (g:TG) (tb:TS):TS:=fun D σ H=>wi σ H fun J H1=>∃W:Nat→Nat→St→Hp→Prop,(∃m,W 0 m σ H1)∧∀i m σ H,W i m σ H →
 (J.stop i H∧D.nx σ H)∨(J.go i H∧∃N:St→Hp→Prop,(∀σ' H',N σ' H'→∃m',m'<m∧W (i+1) m' σ' H')∧∀x H',J.yld i H x H'→g x σ H' fun σ2 H2=>tb {D with nx:=N,ct:=N,bk:=D.nx} σ2 H2)
def kQ (fp:List Addr) (h:Heap):List (Addr×Obj):=fp.filterMap fun b=>(h.get? b).map fun o=>(b,o)
theorem hZ {fp:List Addr} {h:Heap} {b:Addr} {o:Obj} (hb:b∈fp) (e:h.get? b=some o):(b,o)∈kQ fp h:=List.mem_filterMap.mpr ⟨b,hb,by rw [e];rfl⟩
theorem pL {fp:List Addr} {h:Heap} {p:Addr×Obj} (hp:p∈kQ fp h):p.1∈fp∧h.get? p.1=some p.2:=by
 obtain ⟨b,hb,e⟩:=List.mem_filterMap.mp hp
 cases q:h.get? b with
 | none=>rw [q] at e;cases e
 | some o =>
  rw [q] at e
  have e':(b,o)=p:=Option.some.inj e
  subst e'
  exact ⟨hb,q⟩
theorem Inv.pinned {pins:List (Addr×Obj)} {σ:St} {H:Hp} {s:Shared} {fp:List Addr} (I:Inv X pins σ H s) (hf:∀b∈fp,lO X pins H b) (ho:∀b∈fp,∃o,s.heap.get? b=some o∧∀v,o.data≠.cell v):Inv X (pins++kQ fp s.heap) σ H s :=
 I.jn fun p hp=>(aF.mp hp).elim (fun z=>I.pin p (aG _ z)) fun z=>by
  obtain ⟨hb,e⟩:=pL z
  obtain ⟨f0,f1,f2,_⟩:=hf p.1 hb
  obtain ⟨o,e',d⟩:=ho p.1 hb
  rw [e] at e';cases e'
  exact ⟨e,f0,f1,f2,d⟩
theorem Inv.gJ {pins pl:List (Addr×Obj)} {σ:St} {H:Hp} {s:Shared} (I:Inv X (pins++pl) σ H s):Inv X pins σ H s:=I.jn fun p hp=>I.pin p (aG _ (aK _ hp))
theorem fk {iter:Expr} {body:List Stmt} {wi:TI} {g:TG} {tb:TS} {pos:Pos} (hp:PassesOwn (model X.prog X.w) X.A X.env X.xe) (hc:X.calm=true) (hi:PI X tg iter wi) (hg:PG X tg g) (hb:PSs X body tb)
  (hs:∀x,foldedSetIterable iter X.env x=pure x:=by intro _;rfl):PS X (.For tg iter body [] pos) (zJ wi g tb):=by
 intro pins s σ H D I h
 refine wpAny_For (thn (hi pins s σ H _ I h) fun v s1 h1=>thn h1 fun itv s2 h2=>?_) hs
 obtain ⟨it,fp,tn,J,H2,e,I2,T,st2,f2,W,⟨m0,w0⟩,turn⟩:=h2
 subst e
 have stat:∀{H':Hp},(∀b∈fp,H' b=none)→∀b∈fp,lO X pins H' b:=fun hn b hb=>⟨hn b hb,(f2 b hb).2⟩
 refine codeAny_forLoop_any (fun n s'=>∃i σ' H',Inv X pins σ' H' s'∧tn i s'.heap∧(∀b∈fp,H' b=none)∧W i n σ' H') ?_ m0 ⟨0,σ,H2,I2,st2,fun b hb=>(f2 b hb).1,w0⟩
 rintro n s3 ⟨i,σ3,H3,I3,st3,fr3,w3⟩
 rcases turn i n σ3 H3 w3 with ⟨stop,qn⟩ | ⟨go,N,hN,step⟩
 ·refine wpAny_passesOwn hp (thn (T.done X rfl rfl rfl hc i pins s3 σ3 H3 X.xe I3 (stat fr3) st3 stop) fun r s4 ⟨hr,I4⟩=>?_)
  subst hr
  exact wpAny_execs_nil ⟨σ3,H3,I4,qn⟩
 ·refine wpAny_passesOwn hp (thn (T.item X rfl rfl rfl hc i pins s3 σ3 H3 X.xe I3 (stat fr3) st3 go) fun r s4 ⟨u,hr,h4⟩=>?_)
  subst hr
  refine wpAny_passesOwn hp (thn h4 fun _ s5 ⟨x,H5,I5,r5,y5,st5,fr5⟩=>?_)
  have I5':=I5.pinned (stat fr5) (T.obj _ _ st5)
  refine wpAny_passesOwn hp (thn (hg _ s5 σ3 H5 x u _ I5' r5 (step x H5 y5)) fun _ s6 ⟨σ6,H6,I6,q6⟩=>?_)
  refine wpAny_passesOwn hp (thn (hb _ s6 σ6 H6 _ I6 q6) fun f s7 q7=>?_)
  have again:∀{σ7:St} {H7:Hp},Inv X (pins++kQ fp s5.heap) σ7 H7 s7→N σ7 H7→∃m,m<n∧∃i σ' H',Inv X pins σ' H' s7∧tn i s7.heap∧(∀b∈fp,H' b=none)∧W i m σ' H':=fun {σ7 H7} I7 n7=>by
   obtain ⟨m',hm,w7⟩:=hN σ7 H7 n7
   refine ⟨m',hm,i+1,σ7,H7,I7.gJ,T.keep _ _ _ st5 fun b hb o e=>(I7.pin (b,o) (aG _ (aG _ (hZ hb e)))).1,fun b hb=>?_,w7⟩
   obtain ⟨o,e,d⟩:=T.obj _ _ st5 b hb
   exact (I7.pin (b,o) (aG _ (aG _ (hZ hb e)))).2.1
  cases f with
  | next=>obtain ⟨σ7,H7,I7,n7⟩:=q7;exact again I7 n7
  | cont=>obtain ⟨σ7,H7,I7,n7⟩:=q7;exact again I7 n7
  | brk=>obtain ⟨σ7,H7,I7,q7⟩:=q7;exact ⟨σ7,H7,I7.gJ,q7⟩
  | ret v=>obtain ⟨x7,σ7,H7,I7,r7,q7⟩:=q7;exact ⟨x7,σ7,H7,I7.gJ,r7,q7⟩
end
end L2
namespace L2
open PySem PySem.Spec PyProof.Rows
abbrev R2:=V→V→Hp→VK→Prop
def OpR (X:Cx) (f:Value→Value→Sem Value) (r:R2):Prop :=
 ∀(pins:List (Addr×Obj)) (s:Shared) (σ:St) (H:Hp) (x y:V) (v u:Value) (Q:VK),Inv X pins σ H s→RelV x v→RelV y u→r x y H Q →
  wpAny (model X.prog X.w) X.A (f v u) (EP X pins σ Q) X.xe s
def UnR (X:Cx) (f:Value→Sem Value) (r:V→Hp→VK→Prop):Prop :=
 ∀(pins:List (Addr×Obj)) (s:Shared) (σ:St) (H:Hp) (x:V) (v:Value) (Q:VK),Inv X pins σ H s→RelV x v→r x H Q →
  wpAny (model X.prog X.w) X.A (f v) (EP X pins σ Q) X.xe s
def fR (X:Cx) (f:Value) (r:List V→Hp→VK→Prop):Prop :=
 ∀(pins:List (Addr×Obj)) (s:Shared) (σ:St) (H:Hp) (xs:List V) (us:List Value) (Q:VK),Inv X pins σ H s→Vals xs us→r xs H Q →
  wpAny (model X.prog X.w) X.A (call f us) (EP X pins σ Q) X.xe s
def tOp (r:R2) (ta tb:TE):TE:=fun σ H Q=>ta σ H fun x H1=>tb σ H1 fun y H2=>r x y H2 Q
def tUn (r:V→Hp→VK→Prop) (ta:TE):TE:=fun σ H Q=>ta σ H fun x H1=>r x H1 Q
def rI (C:Int→Int→Prop) (g:Int→Int→V):R2:=fun x y H Q=>∃i j,x=.int i∧y=.int j∧C i j∧Q (g i j) H
def rI0 (g:Int→Int→V):R2:=fun x y H Q=>∃i j,x=.int i∧y=.int j∧Q (g i j) H
def rU (g:Int→V):V→Hp→VK→Prop:=fun x H Q=>∃i,x=.int i∧Q (g i) H
section
variable {X:Cx} {a b c:Expr} {ta tb tc:TE} {pos:Pos}
theorem zD (ha:PE X a ta) (hb:PE X b tb) {pins:List (Addr×Obj)} {s:Shared} {σ:St} {H:Hp} {R:V→V→Hp→Prop} (I:Inv X pins σ H s)
  (h:ta σ H fun x H1=>tb σ H1 fun y H2=>R x y H2) {Q:Value→Shared→Prop} {f:Value→Value→Sem Value}
  (hf:∀v u s2 x y H2,Inv X pins σ H2 s2→RelV x v→RelV y u→R x y H2→wpAny (model X.prog X.w) X.A (f v u) Q X.xe s2) :
  wpAny (model X.prog X.w) X.A (eval a X.env) (fun v s₁=>wpAny (model X.prog X.w) X.A (eval b X.env) (fun u s₂=>wpAny (model X.prog X.w) X.A (f v u) Q X.xe s₂) X.xe s₁) X.xe s:=by
 refine thn (ha pins s σ H _ I h) fun v s1 ⟨x,H1,I1,r1,q1⟩=>?_
 refine thn (hb pins s1 σ H1 _ I1 q1) fun u s2 ⟨y,H2,I2,r2,q2⟩=>?_
 exact hf v u s2 x y H2 I2 r1 r2 q2
theorem bK {op:Operator} {r:R2} (ho:OpR X (binaryOp op) r) (ha:PE X a ta) (hb:PE X b tb):PE X (.BinOp a op b pos) (tOp r ta tb):=by
 intro pins s σ H Q I h
 exact wpAny_BinOp (zD ha hb I h fun v u s2 x y H2 I2 rx ry q=>ho pins s2 σ H2 x y v u Q I2 rx ry q)
theorem kW {op:UnaryOp} {r:V→Hp→VK→Prop} (ho:UnR X (unaryOp op) r) (ha:PE X a ta):PE X (.UnaryOp op a pos) (tUn r ta):=by
 intro pins s σ H Q I h
 exact UnaryOp_ (thn (ha pins s σ H _ I h) fun v s1 ⟨x,H1,I1,r1,q1⟩=>ho pins s1 σ H1 x v Q I1 r1 q1)
theorem opI {f:Value→Value→Sem Value} {C:Int→Int→Prop} {g:Int→Int→Int}
  (rule:∀(i j:Int) (t u:Tok) (s:Shared) (Q:Value→Shared→Prop) (E:Value→Shared→Prop),C i j→Q (.int (g i j) s.toks) {s with toks:=s.toks+1}→wpAny (model X.prog X.w) X.A (f (.int i t) (.int j u)) Q E s) :
  OpR X f (rI C fun i j=>.int (g i j)):=by
 intro pins s σ H x y v u Q I rx ry h
 obtain ⟨i,j,rfl,rfl,hc,q⟩:=h
 obtain ⟨t,rfl⟩:=rx
 obtain ⟨t',rfl⟩:=ry
 exact rule i j t t' s _ _ hc ⟨.int (g i j),H,I.tok _,⟨_,rfl⟩,q⟩
theorem zX {f:Value→Value→Sem Value} {g:Int→Int→Int}
  (rule:∀(i j:Int) (t u:Tok) (s:Shared) (Q:Value→Shared→Prop) (E:Value→Shared→Prop),Q (.int (g i j) s.toks) {s with toks:=s.toks+1}→wpAny (model X.prog X.w) X.A (f (.int i t) (.int j u)) Q E s) :
  OpR X f (rI0 fun i j=>.int (g i j)):=by
 intro pins s σ H x y v u Q I rx ry h
 obtain ⟨i,j,rfl,rfl,q⟩:=h
 obtain ⟨t,rfl⟩:=rx
 obtain ⟨t',rfl⟩:=ry
 exact rule i j t t' s _ _ ⟨.int (g i j),H,I.tok _,⟨_,rfl⟩,q⟩
theorem xf {f:Value→Value→Sem Value} {g:Int→Int→Bool}
  (rule:∀(i j:Int) (t u:Tok) (s:Shared) (Q:Value→Shared→Prop) (E:Value→Shared→Prop),Q (.bool (g i j)) s→wpAny (model X.prog X.w) X.A (f (.int i t) (.int j u)) Q E s) :
  OpR X f (rI0 fun i j=>.bl (g i j)):=by
 intro pins s σ H x y v u Q I rx ry h
 obtain ⟨i,j,rfl,rfl,q⟩:=h
 obtain ⟨t,rfl⟩:=rx
 obtain ⟨t',rfl⟩:=ry
 exact rule i j t t' s _ _ ⟨.bl (g i j),H,I,rfl,q⟩
def Br (i j:Int):Prop:=0<j∧j<1073741824
def Ae (i j:Int):Prop:=0≤j∧j≤1000000∧i.natAbs<2^64
def zH (i j:Int):Prop:=(-(2^64)<i∧i<2^64)∨(-(2^64)<j∧j<2^64)
theorem zH.ok {i j:Int} (h:zH i j):IntMulOk i j:=by
 rcases h with ⟨h1,h2⟩ | ⟨h1,h2⟩
 ·exact .of_left (intBits_le_64 h1 h2)
 ·exact .of_right (intBits_le_64 h1 h2)
theorem eW:OpR X (binaryOp .Add) (rI0 fun i j=>.int (i+j)):=zX fun _ _ _ _ _ _ _ q=>add_int q
theorem gr:OpR X (binaryOp .Sub) (rI0 fun i j=>.int (i-j)):=zX fun _ _ _ _ _ _ _ q=>sub_int q
theorem jq:OpR X (binaryOp .Mult) (rI zH fun i j=>.int (i*j)):=opI fun _ _ _ _ _ _ _ hc q=>mul_int q hc.ok
theorem eV:OpR X (binaryOp .FloorDiv) (rI Br fun i j=>.int (i/j)):=opI fun i j _ _ _ _ _ hc q=>by
 have h1:(0:Int)<j:=hc.1
 have h2:j<1073741824:=hc.2
 exact floordiv_int (by omega) (by rw [Int.fdiv_eq_ediv_of_nonneg i (by omega)];exact q) (.inl (PyProof.noPylong_small (by omega)))
theorem dX:OpR X (binaryOp .Mod) (rI (fun _ j=>0<j) fun i j=>.int (i%j)):=opI fun i j _ _ _ _ _ hc q=>by
 have h1:(0:Int)<j:=hc
 exact mod_int' (by omega) (by rw [Int.fmod_eq_emod_of_nonneg i (by omega)];exact q)
theorem sP:OpR X (binaryOp .Pow) (rI Ae fun i j=>.int (i^j.toNat)):=opI fun _ _ _ _ _ _ _ hc q=>pow_int_small hc.1 hc.2.1 hc.2.2 q
theorem sO:OpR X (binaryOp .LShift) (rI Ae fun i j=>.int (i*2^j.toNat)):=opI fun _ _ _ _ _ _ _ hc q=>lshift_int_small hc.1 hc.2.1 hc.2.2 q
theorem unI {f:Value→Sem Value} {g:Int→Int}
  (rule:∀(i:Int) (t:Tok) (s:Shared) (Q:Value→Shared→Prop) (E:Value→Shared→Prop),Q (.int (g i) s.toks) {s with toks:=s.toks+1}→wpAny (model X.prog X.w) X.A (f (.int i t)) Q E s) :
  UnR X f (rU fun i=>.int (g i)):=by
 intro pins s σ H x v Q I rx h
 obtain ⟨i,rfl,q⟩:=h
 obtain ⟨t,rfl⟩:=rx
 exact rule i t s _ _ ⟨.int (g i),H,I.tok _,⟨_,rfl⟩,q⟩
theorem iR:UnR X (unaryOp .USub) (rU fun i=>.int (-i)):=unI fun _ _ _ _ _ q=>neg_int q
end
def zK:V→V→Bool
 | .non,.non=>true | .non,.int _=>true | .int _,.non=>true | .non,.bl _=>true | .bl _,.non=>true | .non,.str _=>true | .str _,.non=>true
 | .int _,.int _=>true | .bl _,.bl _=>true | .str _,.str _=>true | .byt _,.byt _=>true
 | .int _,.str _=>true | .str _,.int _=>true | .bl _,.str _=>true | .str _,.bl _=>true
 | _,_=>false
def rEq:R2:=fun x y H Q=>zK x y=true∧Q (.bl (decide (x=y))) H
def rNe:R2:=fun x y H Q=>zK x y=true∧Q (.bl (!decide (x=y))) H
theorem qG {i j:Int}:decide (V.int i=V.int j)=(i==j):=by
 rw [cQ]
 simp
theorem tj {i j:Bool}:decide (V.bl i=V.bl j)=(i==j):=by
 rw [cQ]
 simp
theorem qE {i j:Str}:decide (V.str i=V.str j)=(i==j):=by
 rw [cQ]
 simp
theorem qH {i j:Array UInt8}:decide (V.byt i=V.byt j)=(i.toList==j.toList):=by
 rw [cQ]
 cases i
 cases j
 simp
section
variable {X:Cx} {a b c:Expr} {ta tb tc:TE} {pos:Pos}
theorem dR {pins:List (Addr×Obj)} {σ:St} {H:Hp} {s:Shared} {Q:VK} {k k':Bool} (I:Inv X pins σ H s) (q:Q (.bl k) H) (e:k=k'):EP X pins σ Q (.bool k') s:=by
 subst e
 exact ⟨.bl k,H,I,rfl,q⟩
theorem gm:OpR X (compareOp .Eq) rEq:=by
 intro pins s σ H x y v u Q I rx ry h
 obtain ⟨hs,q⟩:=h
 cases x with
 | non =>
  cases rx
  cases y with
  | non=>cases ry;exact PySem.EqNone.eq_none_none (dR I q (by simp))
  | bl j=>cases ry;exact PySem.EqNone.eq_none_bool (dR I q (by simp))
  | int j=>obtain ⟨t',rfl⟩:=ry;exact PySem.EqNone.eq_none_int (dR I q (by simp))
  | str j=>obtain ⟨t',rfl⟩:=ry;exact PySem.EqNone.eq_none_str (dR I q (by simp))
  | _=>exact absurd (show false=true from hs) aV
 | bl i =>
  cases rx
  cases y with
  | non=>cases ry;exact PySem.EqNone.eq_bool_none (dR I q (by simp))
  | bl j=>cases ry;exact eq_bool (dR I q tj)
  | str j=>obtain ⟨t',rfl⟩:=ry;exact PySem.EqMixed.eq_bool_str (dR I q (by simp))
  | _=>exact absurd (show false=true from hs) aV
 | int i =>
  obtain ⟨t,rfl⟩:=rx
  cases y with
  | non=>cases ry;exact PySem.EqNone.eq_int_none (dR I q (by simp))
  | int j=>obtain ⟨t',rfl⟩:=ry;exact eq_int (dR I q qG)
  | str j=>obtain ⟨t',rfl⟩:=ry;exact PySem.EqMixed.eq_int_str (dR I q (by simp))
  | _=>exact absurd (show false=true from hs) aV
 | str i =>
  obtain ⟨t,rfl⟩:=rx
  cases y with
  | non=>cases ry;exact PySem.EqNone.eq_str_none (dR I q (by simp))
  | bl j=>cases ry;exact PySem.EqMixed.eq_str_bool (dR I q (by simp))
  | int j=>obtain ⟨t',rfl⟩:=ry;exact PySem.EqMixed.eq_str_int (dR I q (by simp))
  | str j=>obtain ⟨t',rfl⟩:=ry;exact eq_str (dR I q qE)
  | _=>exact absurd (show false=true from hs) aV
 | byt i =>
  obtain ⟨t,rfl⟩:=rx
  cases y with
  | byt j=>obtain ⟨t',rfl⟩:=ry;exact PySem.W.eq_bytes (dR I q qH)
  | _=>exact absurd (show false=true from hs) aV
 | _=>cases y<;>exact absurd (show false=true from hs) aV
theorem l_:OpR X (compareOp .NotEq) rNe:=by
 intro pins s σ H x y v u Q I rx ry h
 obtain ⟨hs,q⟩:=h
 cases x with
 | non =>
  cases rx
  cases y with
  | non=>cases ry;exact PySem.EqNone.ne_none_none (dR I q (by simp))
  | bl j=>cases ry;exact PySem.EqNone.ne_none_bool (dR I q (by simp))
  | int j=>obtain ⟨t',rfl⟩:=ry;exact PySem.EqNone.ne_none_int (dR I q (by simp))
  | str j=>obtain ⟨t',rfl⟩:=ry;exact PySem.EqNone.ne_none_str (dR I q (by simp))
  | _=>exact absurd (show false=true from hs) aV
 | bl i =>
  cases rx
  cases y with
  | non=>cases ry;exact PySem.EqNone.ne_bool_none (dR I q (by simp))
  | bl j=>cases ry;exact ne_bool (dR I q (congrArg not tj))
  | str j=>obtain ⟨t',rfl⟩:=ry;exact PySem.EqMixed.ne_bool_str (dR I q (by simp))
  | _=>exact absurd (show false=true from hs) aV
 | int i =>
  obtain ⟨t,rfl⟩:=rx
  cases y with
  | non=>cases ry;exact PySem.EqNone.ne_int_none (dR I q (by simp))
  | int j=>obtain ⟨t',rfl⟩:=ry;exact ne_int (dR I q (congrArg not qG))
  | str j=>obtain ⟨t',rfl⟩:=ry;exact PySem.EqMixed.ne_int_str (dR I q (by simp))
  | _=>exact absurd (show false=true from hs) aV
 | str i =>
  obtain ⟨t,rfl⟩:=rx
  cases y with
  | non=>cases ry;exact PySem.EqNone.ne_str_none (dR I q (by simp))
  | bl j=>cases ry;exact PySem.EqMixed.ne_str_bool (dR I q (by simp))
  | int j=>obtain ⟨t',rfl⟩:=ry;exact PySem.EqMixed.ne_str_int (dR I q (by simp))
  | str j=>obtain ⟨t',rfl⟩:=ry;exact ne_str (dR I q (congrArg not qE))
  | _=>exact absurd (show false=true from hs) aV
 | byt i =>
  obtain ⟨t,rfl⟩:=rx
  cases y with
  | byt j=>obtain ⟨t',rfl⟩:=ry;exact PySem.W.ne_bytes (dR I q (congrArg not qH))
  | _=>exact absurd (show false=true from hs) aV
 | _=>cases y<;>exact absurd (show false=true from hs) aV
theorem iB:OpR X (compareOp .Lt) (rI0 fun i j=>.bl (decide (i<j))):=xf fun _ _ _ _ _ _ _ q=>lt_int q
theorem pJ:OpR X (compareOp .LtE) (rI0 fun i j=>.bl (decide (i≤j))):=xf fun _ _ _ _ _ _ _ q=>le_int q
theorem iO:OpR X (compareOp .Gt) (rI0 fun i j=>.bl (decide (j<i))):=xf fun _ _ _ _ _ _ _ q=>gt_int q
theorem ui:OpR X (compareOp .GtE) (rI0 fun i j=>.bl (decide (j≤i))):=xf fun _ _ _ _ _ _ _ q=>ge_int q
theorem vP:OpR X (compareOp .Is) (fun x y H Q=>y=.non∧Q (.bl (decide (x=.non))) H):=by
 intro pins s σ H x y v u Q I rx ry h
 obtain ⟨rfl,q⟩:=h
 cases ry
 refine is_none_gen (dR I q ?_)
 cases x<;>first
  | (cases rx;rfl)
  | (obtain ⟨t,rfl⟩:=rx;rfl)
theorem cw (b:Expr) {op:CmpOp} (h:op≠.In:=by decide) (h2:op≠.NotIn:=by decide):behindInMarks op b=false:=by
 have e1:(op==CmpOp.In)=false:=by cases op<;>first | rfl | exact absurd rfl h
 have e2:(op==CmpOp.NotIn)=false:=by cases op<;>first | rfl | exact absurd rfl h2
 cases b<;>simp [behindInMarks,e1,e2]
theorem gz {op:CmpOp} {r:R2} (ho:OpR X (compareOp op) r) (ha:PE X a ta) (hb:PE X b tb) (hm:behindInMarks op b=false):PE X (.Compare a [op] [b] pos) (tOp r ta tb):=by
 intro pins s σ H Q I h
 exact wpAny_Compare1 (zD ha hb I h fun v u s2 x y H2 I2 rx ry q=>ho pins s2 σ H2 x y v u Q I2 rx ry q) hm
def vm (t:TE):TT:=fun σ H Q=>t σ H fun x H'=>∃k,x=.bl k∧Q k H'
theorem bL {op:CmpOp} {r:R2} (ho:OpR X (compareOp op) r) (ha:PE X a ta) (hb:PE X b tb) (hm:behindInMarks op b=false):PT X (.Compare a [op] [b] pos) (vm (tOp r ta tb)):=by
 intro pins s σ H Q I h
 refine wpAny_isTrue_Compare1 (thn (ha pins s σ H _ I h) fun v s1 ⟨x,H1,I1,r1,q1⟩=>thn (hb pins s1 σ H1 _ I1 q1) fun u s2 ⟨y,H2,I2,r2,q2⟩ =>
  thn (ho pins s2 σ H2 x y v u _ I2 r1 r2 q2) fun c s3 ⟨z,H3,I3,r3,k,e,q3⟩=>?_) hm
 subst e
 cases r3
 exact wpAny_truthy_bool ⟨H3,I3,q3⟩
def sk (r r':R2) (ta tb tc:TE):TE:=fun σ H Q=>ta σ H fun x H1=>tb σ H1 fun y H2=>r x y H2 fun z H3=>∃k,z=.bl k ∧
 (if k=true then tc σ H3 fun w' H4=>r' y w' H4 Q else Q (.bl false) H3)
theorem mY {op op':CmpOp} {r r':R2} (ho:OpR X (compareOp op) r) (ho':OpR X (compareOp op') r') (ha:PE X a ta) (hb:PE X b tb) (hc:PE X c tc)
  (hm:lastMarks [op,op'] [b,c]=false:=by with_unfolding_all rfl):PE X (.Compare a [op,op'] [b,c] pos) (sk r r' ta tb tc):=by
 intro pins s σ H Q I h
 refine Compare_chain (thn (ha pins s σ H _ I h) fun v s1 ⟨x,H1,I1,r1,q1⟩=>chain_link (thn (hb pins s1 σ H1 _ I1 q1) fun u s2 ⟨y,H2,I2,r2,q2⟩ =>
  thn (ho pins s2 σ H2 x y v u _ I2 r1 r2 q2) fun d s3 ⟨z,H3,I3,r3,k,e,q3⟩=>?_)) hm
 subst e
 cases r3
 refine wpAny_truthy_bool ?_
 cases k with
 | false=>exact ite_ff ⟨.bl false,H3,I3,rfl,q3⟩
 | true=>exact ite_tt (chain_last (thn (hc pins s3 σ H3 _ I3 q3) fun w' s4 ⟨z',H4,I4,r4,q4⟩=>ho' pins s4 σ H4 y z' u w' Q I4 r2 r4 q4))
theorem ke {op op':CmpOp} {r r':R2} (ho:OpR X (compareOp op) r) (ho':OpR X (compareOp op') r') (ha:PE X a ta) (hb:PE X b tb) (hc:PE X c tc)
  (hm:lastMarks [op,op'] [b,c]=false:=by with_unfolding_all rfl):PT X (.Compare a [op,op'] [b,c] pos) (vm (sk r r' ta tb tc)):=by
 intro pins s σ H Q I h
 refine isTrue_chain (thn (ha pins s σ H _ I h) fun v s1 ⟨x,H1,I1,r1,q1⟩=>test_link (thn (hb pins s1 σ H1 _ I1 q1) fun u s2 ⟨y,H2,I2,r2,q2⟩ =>
  thn (ho pins s2 σ H2 x y v u _ I2 r1 r2 q2) fun d s3 ⟨z,H3,I3,r3,k,e,q3⟩=>?_)) hm
 subst e
 cases r3
 refine wpAny_truthy_bool ?_
 cases k with
 | false =>
  obtain ⟨k',e',q'⟩:=q3
  cases e'
  exact ite_ff ⟨H3,I3,q'⟩
 | true =>
  refine ite_tt (test_last (thn (hc pins s3 σ H3 _ I3 q3) fun w' s4 ⟨z',H4,I4,r4,q4⟩=>thn (ho' pins s4 σ H4 y z' u w' _ I4 r2 r4 q4) fun d' s5 ⟨z2,H5,I5,r5,k2,e2,q5⟩=>?_))
  subst e2
  cases r5
  exact wpAny_truthy_bool ⟨H5,I5,q5⟩
theorem kZ:(sizeLine:Nat)<2^63:=by rw [sizeLine_eq];decide
theorem vals1 {x:V} {us:List Value} (r:Vals [x] us):∃u,us=[u]∧RelV x u:=by
 cases r with
 | cons r1 r2=>cases r2;exact ⟨_,rfl,r1⟩
theorem vals2 {x y:V} {us:List Value} (r:Vals [x,y] us):∃u w',us=[u,w']∧RelV x u∧RelV y w':=by
 cases r with
 | cons r1 r2 =>
  cases r2 with
  | cons r3 r4=>cases r4;exact ⟨_,_,rfl,r1,r3⟩
theorem ji:fR X (.builtin "abs") (fun xs H Q=>∃i,xs=[.int i]∧Q (.int (if i<0 then -i else i)) H):=by
 intro pins s σ H xs us Q I r h
 obtain ⟨i,rfl,q⟩:=h
 obtain ⟨u,rfl,t,rfl⟩:=vals1 r
 exact call_abs_int fun u tk=>⟨.int (if i<0 then -i else i),H,I.tok _,⟨_,rfl⟩,q⟩
theorem qR (hc:X.calm=true):fR X (.builtin "max") (fun xs H Q=>∃i j,xs=[.int i,.int j]∧Q (.int (if j>i then j else i)) H):=by
 intro pins s σ H xs us Q I r h
 obtain ⟨i,j,rfl,q⟩:=h
 obtain ⟨u,w',rfl,⟨t,rfl⟩,⟨t',rfl⟩⟩:=vals2 r
 refine max_two_ints (I.ok.hd hc) fun h' tk k=>⟨_,H,I.kept k,?_,q⟩
 by_cases hj:j>i
 ·rw [if_pos hj,if_pos hj];exact ⟨_,rfl⟩
 ·rw [if_neg hj,if_neg hj];exact ⟨_,rfl⟩
theorem qQ (hc:X.calm=true):fR X (.builtin "min") (fun xs H Q=>∃i j,xs=[.int i,.int j]∧Q (.int (if j<i then j else i)) H):=by
 intro pins s σ H xs us Q I r h
 obtain ⟨i,j,rfl,q⟩:=h
 obtain ⟨u,w',rfl,⟨t,rfl⟩,⟨t',rfl⟩⟩:=vals2 r
 refine min_two_ints (I.ok.hd hc) fun h' tk k=>⟨_,H,I.kept k,?_,q⟩
 by_cases hj:j<i
 ·rw [if_pos hj,if_pos hj];exact ⟨_,rfl⟩
 ·rw [if_neg hj,if_neg hj];exact ⟨_,rfl⟩
theorem qS:fR X (.type "int") (fun xs H Q=>(∃i,xs=[.int i]∧Q (.int i) H)∨∃k,xs=[.bl k]∧Q (.int (if k then 1 else 0)) H):=by
 intro pins s σ H xs us Q I r h
 rcases h with ⟨i,rfl,q⟩ | ⟨k,rfl,q⟩
 ·obtain ⟨u,rfl,t,rfl⟩:=vals1 r
  exact call_int_int ⟨.int i,H,I,⟨_,rfl⟩,q⟩
 ·obtain ⟨u,rfl,r1⟩:=vals1 r
  cases r1
  exact call_int_bool ⟨.int (if k then 1 else 0),H,I.tok _,⟨_,rfl⟩,q⟩
end
end L2
namespace L2
open PySem PySem.Spec PyProof.Rows
structure vb (h:Heap) (x dx C:Addr) (mA:Str→Option Value):Prop where
 obj:h.get? x=some (dS C dx)
 ns:h.Ns1 dx mA
 ne:dx≠x
theorem pR {h:Heap} {dx:Addr} {mA:Str→Option Value} (n:h.Ns1 dx mA):∃od,h.get? dx=some od∧∀name,PySem.W.lookIn name od=some (mA name):=by
 obtain ⟨o,es,ep,ho,hd,hk,_,hm⟩:=n
 refine ⟨o,ho,fun name=>?_⟩
 have e:=hm name
 unfold nsFind findBy at e
 rw [←Array.find?_toList] at e
 unfold PySem.W.lookIn
 rw [hd]
 dsimp only
 split
 ·rename_i y q
  rw [q] at e
  exact congrArg some e
 ·rename_i q
  rw [q] at e
  have a:es.toList.any (·.refKey)=false:=by
   rw [List.any_eq_false]
   intro y hy
   obtain ⟨z,t,hkey⟩:=hk y (Array.mem_toList_iff.mp hy)
   simp [DictEntry.refKey,hkey]
  have a':¬es.toList.any (·.refKey)=true:=by rw [a];exact aV
  rw [if_neg a']
  exact congrArg some e
theorem vb.look {h:Heap} {x dx C:Addr} {mA:Str→Option Value} (I:vb h x dx C mA):∃od,PySem.W.InstAt h x (dS C dx) C (some od)∧∀name,PySem.W.lookIn name od=some (mA name) :=
 let ⟨od,ho,hl⟩:=pR I.ns
 ⟨od,⟨I.obj,rfl,rfl,ho⟩,hl⟩
section
variable {prog:Program} {w:World} {A:Around} {E:Value→Shared→Prop} {s:Shared} {K:ai} {x dx C f:Addr} {mA:Str→Option Value} {name:Str} {v:Value}
theorem get_map {expr:Bool} {Q:Value→Shared→Prop} (X:K.In s.heap) (I:vb s.heap x dx C mA) (hg:PySem.W.plainGet K C name=true) (hh:PySem.W.hasDictIn K C=true)
  (ha:cy K (.ref C) name=some none) (hv:mA name=some v) (hv':PySem.W.handedIn v=true) (h:Q v {s with toks:=s.toks+1}) :
  wpAny (model prog w) A (getAttr (.ref x) name expr) Q E s:=by
 obtain ⟨od,J,hl⟩:=I.look
 exact PySem.W.get_value X J (PySem.W.plainGet_of hg).1 (PySem.W.findObj_own hh ha rfl (by rw [hl,hv])) hv' h
theorem tM {ns:List Str} {Q:Unit→Shared→Prop} (X:K.In s.heap) (I:vb s.heap x dx C mA)
  (hs:cy K (.ref C) "__setattr__"=some (some (.builtin "object.__setattr__"))) (hp:PySem.W.plainOver K C=true) (ht:PySem.W.takerIn K C name=some none) (hh:PySem.W.hasDictIn K C=true)
  (hw:PySem.Within mA ns) (hsz:ns.length≤sizeLine)
  (h:∀h',vb h' x dx C (fun y=>if y=name then some v else mA y)→fU dx s.heap h'→Q () {s with heap:=h',toks:=s.toks+2}) :
  wpAny (model prog w) A (setAttr (.ref x) name v) Q E s:=by
 obtain ⟨od,J,hl⟩:=I.look
 refine PySem.W.set_plain X J hs (PySem.W.osa_open (s:={s with toks:=s.toks+1}) (r:=none) X J hp ht fun b=>?_)
 obtain ⟨cd,hc,hd'⟩:=PySem.W.any_some hh
 have hx:s.heap.get? x=some ⟨.ref C,some dx,.plain,#[]⟩:=I.obj
 refine wpAny_bind (wpAny_pure (wpAny_bind (wpAny_bind (wpAny_loadPart hx (wpAny_bind (PySem.W.Looks.here (s:={s with toks:=s.toks+1}) (PySem.W.looks_clsIn X hc) ?_))))))
 rw [hd']
 refine wpAny_pure (a:=some dx) (wpAny_bind (wpAny_pure (wpAny_bind ?_)))
 refine wpAny_nsSet1 (s:={s with toks:=s.toks+1}) I.ns fun h' hn2 hs2=>?_
 obtain ⟨oD,esD,epD,hoD,hdD,hcD⟩:=hn2.count (PySem.Within.cons name v hw)
 refine wpAny_bind (wpAny_lookBehind hoD (by rw [hdD];exact pastItsLine_dict (cx hcD (by rw [bB];omega))) ?_)
 exact wpAny_pure (h _ ⟨(hs2.2 _ (Ne.symm I.ne)).trans I.obj,hn2,I.ne⟩ hs2)
theorem rD {R:Result→Shared→Prop} {vs:List Value} {kw:List (Str×Value)} (X:K.In s.heap) (hm:PySem.W.makesIn K C=true)
  (hi:cy K (.ref C) "__init__"=some (some (.ref f))) (hf:PySem.W.typeIn K (.ref f)=some (.type "function"))
  (h:codeAny (model prog w) (A.under (.builtin "type.__call__" ⟨.ref C::vs,kw⟩)) (.call (.ref f) ⟨.ref (s.heap.objs.size+1)::vs,kw⟩) (PySem.W.InitBack (s.heap.objs.size+1) R)
   {s with heap:=(s.heap.push dj).push (dS C s.heap.objs.size)}) :
  codeAny (model prog w) A (.call (.ref C) ⟨vs,kw⟩) R s:=by
 obtain ⟨hh,g,d,t,os⟩:=s
 exact PySem.W.make_core (PySem.W.makes_of X hm) (PySem.W.looks_findIn X hi) (fun self=>PySem.W.bind_fn X self hf) (.inl rfl) h
end
def jL (f:Str) (v:V):List (Str×V)→List (Str×V)
 | []=>[(f,v)]
 | (g,x)::r=>if g=f then (g,v)::r else (g,x)::jL f v r
theorem ju (f g:Str) (v:V):∀fs:List (Str×V),(jL f v fs).lookup g=if g=f then some v else fs.lookup g
 | []=>by
  show fK g [(f,v)]=_
  by_cases h:g=f
  ·have hb:(g==f)=true:=beq_iff_eq.mpr h
   simp only [fK,hb,if_pos h]
  ·have hb:(g==f)=false:=beq_eq_false_iff_ne.mpr h
   simp only [fK,hb,if_neg h]
 | (k,x)::r=>by
  have ih:=ju f g v r
  rw [show jL f v ((k,x)::r)=(if k=f then (k,v)::r else (k,x)::jL f v r) from rfl]
  by_cases hk:k=f
  ·rw [if_pos hk]
   by_cases h:g=k
   ·have hb:(g==k)=true:=beq_iff_eq.mpr h
    simp only [fK,hb,if_pos (h.trans hk)]
   ·have hb:(g==k)=false:=beq_eq_false_iff_ne.mpr h
    simp only [fK,hb,if_neg (fun e:g=f=>h (e.trans hk.symm))]
  ·rw [if_neg hk]
   by_cases h:g=k
   ·have hb:(g==k)=true:=beq_iff_eq.mpr h
    simp only [fK,hb,if_neg (fun e:g=f=>hk (h.symm.trans e))]
   ·have hb:(g==k)=false:=beq_eq_false_iff_ne.mpr h
    simp only [fK,hb]
    exact ih
theorem jx (f:Str) (v:V):∀fs:List (Str×V),f∈(jL f v fs).map (·.1)∧∀g,g∈fs.map (·.1)→g∈(jL f v fs).map (·.1)
 | []=>⟨by simp [jL],fun g h=>by simp at h⟩
 | (k,x)::r=>by
  obtain ⟨i1,i2⟩:=jx f v r
  rw [show jL f v ((k,x)::r)=(if k=f then (k,v)::r else (k,x)::jL f v r) from rfl]
  by_cases hk:k=f
  ·rw [if_pos hk]
   subst hk
   exact ⟨by simp,fun g h=>by simpa using h⟩
  ·rw [if_neg hk]
   refine ⟨?_,fun g h=>?_⟩
   ·rw [bf]
    exact aW _ i1
   ·rw [bf] at h ⊢
    rcases bq.mp h with e | e
    ·exact bq.mpr (.inl e)
    ·exact aW _ (i2 g e)
theorem jw (f:Str) (v:V):∀fs:List (Str×V),(jL f v fs).length≤fs.length+1
 | []=>by simp [jL]
 | (k,x)::r=>by
  have ih:=jw f v r
  rw [show jL f v ((k,x)::r)=(if k=f then (k,v)::r else (k,x)::jL f v r) from rfl]
  by_cases hk:k=f
  ·rw [if_pos hk,bB,bB];omega
  ·rw [if_neg hk,bB,bB];omega
theorem mM.some_of {v:V} {o:Option Value} (r:mM (some v) o):∃u,o=some u∧RelV v u:=by
 cases o with
 | none=>exact (show False from r).elim
 | some u=>exact ⟨u,rfl,r⟩
theorem qg {v:V} {u:Value} (r:RelV v u):PySem.W.handedIn u=true:=by
 cases v with
 | non=>cases (show u=Value.none from r);rfl
 | bl b=>cases (show u=Value.bool b from r);rfl
 | int i=>obtain ⟨t,e⟩:=(show ∃t,u=Value.int i t from r);cases e;rfl
 | str x=>obtain ⟨t,e⟩:=(show ∃t,u=Value.str x t from r);cases e;rfl
 | byt b=>obtain ⟨t,e⟩:=(show ∃t,u=Value.bytes b t from r);cases e;rfl
 | flt b=>obtain ⟨t,e⟩:=(show ∃t,u=Value.float b t from r);cases e;rfl
 | ref a=>cases (show u=Value.ref a from r);rfl
 | ty n=>cases (show u=Value.type n from r);rfl
section
variable {P:Program} {w:World} {H H':Hp} {h h':Heap} {a C dx:Addr} {fs fs':List (Str×V)}
theorem mz (hok:HOk P w H h) (e:H a=some (.ins C dx fs)):∃mA,vb h a dx C mA∧(∀f,mM (fs.lookup f) (mA f))∧PySem.Within mA (fs.map (·.1))∧fs.length≤1000∧H dx=some (.own a):=by
 obtain ⟨d,z,ne,ob,mA,n,r,q⟩:=(show fv P w H h a (.ins C dx fs) from hok a _ e)
 exact ⟨mA,⟨ob,n,ne⟩,r,q,z,d⟩
end
structure Cls (K:ai) (C:Addr):Prop where
 pg:PySem.W.plainGet K C Str.empty=true
 hd:PySem.W.hasDictIn K C=true
 po:PySem.W.plainOver K C=true
 sa:cy K (.ref C) "__setattr__"=some (some (.builtin "object.__setattr__"))
theorem Cls.get {K:ai} {C:Addr} (c:Cls K C) (f:Str):PySem.W.plainGet K C f=true:=c.pg
def iZ (K:ai) (C:Addr) (f:Str):Prop:=cy K (.ref C) f=some none
theorem iZ.xm {K:ai} {C:Addr} {f:Str} (n:iZ K C f):PySem.W.takerIn K C f=some none:=by
 unfold PySem.W.takerIn
 rw [show cy K (.ref C) f=some none from n]
 rfl
section
variable {X:Cx} {pins:List (Addr×Obj)} {σ:St} {H:Hp} {s:Shared} {a C dx:Addr} {fs:List (Str×V)} {f:Str} {v:V} {A:Around} {E:Value→Shared→Prop}
theorem oq {b:Bool} {Q:Value→Shared→Prop} (I:Inv X pins σ H s) (e:H a=some (.ins C dx fs)) (c:Cls X.K C) (n:iZ X.K C f) (l:fs.lookup f=some v)
  (h:∀u s',Inv X pins σ H s'→RelV v u→Q u s'):wpAny (model X.prog X.w) A (getAttr (.ref a) f b) Q E s:=by
 obtain ⟨mA,O,r,_,_,_⟩:=mz I.hok e
 obtain ⟨u,hu,ru⟩:=mM.some_of (v:=v) (o:=mA f) (by rw [←l];exact r f)
 exact get_map I.kIn O (c.get f) c.hd n hu (qg ru) (h u _ (I.tok _) ru)
theorem nR {y:V} {u:Value} {Q:Unit→Shared→Prop} (I:Inv X pins σ H s) (e:H a=some (.ins C dx fs)) (c:Cls X.K C) (n:iZ X.K C f) (hl:fs.length<1000) (ry:RelV y u)
  (h:∀s',Inv X pins σ (upd H a (.ins C dx (jL f y fs))) s'→Q () s'):wpAny (model X.prog X.w) A (setAttr (.ref a) f u) Q E s:=by
 obtain ⟨mA,O,r,wi,_,ho⟩:=mz I.hok e
 have hz:(fs.map (·.1)).length≤sizeLine:=by rw [ae,sizeLine_eq];omega
 refine tM I.kIn O c.sa c.po n.xm c.hd wi hz fun h' O' sb=>h _ ?_
 have hd:∃o,h'.get? dx=some o:=let ⟨o,_,_,e',_⟩:=O'.ns;⟨o,e'⟩
 refine I.write (x:=a) (e:=dx) (by rw [e];exact True.intro) (.inr ho) (fun b q hb z=>(sb.2 b hb).trans z) hd ?_
 refine ⟨by rw [bX O.ne];exact ho,?_,O.ne,O'.obj,_,O'.ns,fun g=>?_,fun g hg=>?_⟩
 ·have:=jw f y fs;omega
 ·show mM ((jL f y fs).lookup g) (if g=f then some u else mA g)
  rw [ju]
  by_cases q:g=f
  ·rw [if_pos q,if_pos q];exact ry
  ·rw [if_neg q,if_neg q];exact r g
 ·by_cases q:g=f
  ·rw [q];exact (jx f y fs).1
  ·refine (jx f y fs).2 g (wi g fun z=>hg ?_)
   show (if g=f then some u else mA g)=none
   rw [if_neg q];exact z
theorem Inv.made (I:Inv X pins σ H s):Inv X pins σ (upd (upd H s.heap.objs.size (.own (s.heap.objs.size+1))) (s.heap.objs.size+1) (.ins C s.heap.objs.size []))
  {s with heap:=(s.heap.push dj).push (dS C s.heap.objs.size)}:=by
 have e1:(s.heap.push dj).get? s.heap.objs.size=some dj:=aY s.heap rfl
 have e2:((s.heap.push dj).push (dS C s.heap.objs.size)).get? (s.heap.objs.size+1)=some (dS C s.heap.objs.size):=by
  have:=aY (s.heap.push dj) (o:=dS C s.heap.objs.size) rfl
  rwa [cG] at this
 have e3:(s.heap.push dj).Ns s.heap.objs.size (fun _=>none):=⟨dj,#[],_,e1,rfl,(fun e he=>absurd he (by simp)),fun _=>rfl⟩
 have I1:=I.laid (a:=s.heap.objs.size) (o:=.own (s.heap.objs.size+1)) (h':=s.heap.push dj) (t':=s.toks) (fun b u q=>au _ q) (aO _) ⟨_,e1⟩
 refine I1.laid (a:=s.heap.objs.size+1) (o:=.ins C s.heap.objs.size []) (t':=s.toks) (fun b u q=>au _ q) (fS (cG _ _)) ?_
 have ne:s.heap.objs.size≠s.heap.objs.size+1:=bj (bY _)
 refine ⟨by rw [bX ne,av],dM _,ne,e2,fun _=>none,(Heap.Ns1.of_empty e3).at fun o q=>au _ q,fun _=>True.intro,fun y hy=>absurd rfl hy⟩
theorem uM {prog:Program} {w:World} {env:Env} {e:Expr} {f:Str} {pos:Pos} {s:Shared} {Q:Value→Shared→Prop} (hb:attributeBase e f env (eval e env)=eval e env)
  (h:wpAny (model prog w) A (eval e env) (fun o s₁=>wpAny (model prog w) A (getAttr o f true) Q E s₁) E s):wpAny (model prog w) A (eval (.Attribute e f pos) env) Q E s :=
 Attribute_any_ h (by rw [arm_eval_Attribute,hb])
end
def AQ (K:ai) (ta tv:TE) (f:Str):TS:=fun D σ H=>tv σ H fun y H1=>ta σ H1 fun x H2=>∃a C dx fs,x=.ref a∧H2 a=some (.ins C dx fs)∧Cls K C∧iZ K C f∧fs.length<1000 ∧
 D.nx σ (upd H2 a (.ins C dx (jL f y fs)))
section
variable {X:Cx} {o e value:Expr} {f:Str} {pos pos' tpos:Pos} {ta tv:TE}
theorem sJ (ha:PE X o ta) (hv:PE X value tv) (hs:swapsWith value (some (.Attribute o f pos')) pos.line X.env=pure false):PS X (.Assign [.Attribute o f pos'] value pos) (AQ X.K ta tv f):=by
 intro pins s σ H D I h
 refine plainObj_wpAny_Assign_Attribute (thn (hv pins s σ H _ I h) fun u s1 ⟨y,H1,I1,ry,q⟩=>thn (ha pins s1 σ H1 _ I1 q) fun ov s2 ⟨x,H2,I2,rx,a,C,dx,fs,ex,ea,c,n,l,q2⟩=>?_) hs
 subst ex
 obtain rfl:ov=Value.ref a:=rx
 exact nR I2 ea c n l ry fun s3 I3=>⟨σ,_,I3,q2⟩
end
section
variable {X:Cx} {pins:List (Addr×Obj)} {σ:St} {H:Hp} {s:Shared} {A:Around} {E:Value→Shared→Prop} {Q:Value→Shared→Prop} {c:Value} {b:Bool}
inductive oJ (K:ai) (H:Hp):V→Value→Prop where
 | non:oJ K H .non (.type "NoneType")
 | bl (x:Bool):oJ K H (.bl x) (.type "bool")
 | int (i:Int):oJ K H (.int i) (.type "int")
 | str (x:Str):oJ K H (.str x) (.type "str")
 | flt (x:UInt64):oJ K H (.flt x) (.type "float")
 | lst {a:Addr} {xs:List V} (e:H a=some (.lst xs)):oJ K H (.ref a) (.type "list")
 | frz {a:Addr} {o:Obj} {xs:List V} (e:H a=some (.frz o (.lst xs))):oJ K H (.ref a) (.type "list")
 | tup {a:Addr} {xs:List V} (e:H a=some (.tup xs)):oJ K H (.ref a) (.type "tuple")
 | dK {a:Addr} {kvs:List (Key×V)} (e:H a=some (.dK kvs)):oJ K H (.ref a) (.type "dict")
 | dT {a:Addr} {kvs:List (List Key×V)} (e:H a=some (.dT kvs)):oJ K H (.ref a) (.type "dict")
 | ins {a C dx:Addr} {fs:List (Str×V)} (e:H a=some (.ins C dx fs)) (cl:Cls K C) (ha:cy K (.ref C) "__class__"=some (some (.builtin "object.__class__")))
   (hn:PySem.W.specialIn K (.builtin "object.__class__") "__get__"=some (some (.builtin "getset_descriptor.__get__"))) (htk:PySem.W.takesIn K (.builtin "object.__class__")=some true)
   (hm:dE K C (.type "object")=some true):oJ K H (.ref a) (.ref C)
theorem qb {x:V} {u t:Value} (I:Inv X pins σ H s) (rx:RelV x u) (ty:oJ X.K H x t) (e:bu X.K t c=some b) (h:∀tk,Q (.bool b) {s with toks:=tk}) :
  wpAny (model X.prog X.w) A (call (.builtin "isinstance") [u,c]) Q E s:=by
 cases ty with
 | non=>cases (show u=Value.none from rx);exact cO PySem.W.kitx_none I.kIn True.intro e (fun z=>nomatch z) h
 | bl y=>cases (show u=Value.bool y from rx);exact cO PySem.W.kitx_bool I.kIn True.intro e (fun z=>nomatch z) h
 | int i=>obtain ⟨t,q⟩:=(show ∃t,u=Value.int i t from rx);cases q;exact cO PySem.W.kitx_int I.kIn True.intro e (fun z=>nomatch z) h
 | str y=>obtain ⟨t,q⟩:=(show ∃t,u=Value.str y t from rx);cases q;exact cO PySem.W.kitx_str I.kIn True.intro e (fun z=>nomatch z) h
 | flt y=>obtain ⟨t,q⟩:=(show ∃t,u=Value.float y t from rx);cases q;exact cO PySem.W.kitx_float I.kIn True.intro e (fun z=>nomatch z) h
 | @lst a xs ea =>
  cases (show u=Value.ref a from rx)
  obtain ⟨_,_,n,_,h1⟩:=(show fv X.prog X.w H s.heap a (.lst xs) from I.hok a _ ea)
  exact cO PySem.W.kitx_list I.kIn ⟨_,h1,rfl⟩ e (fun z=>nomatch z) h
 | @frz a ob xs ea =>
  cases (show u=Value.ref a from rx)
  obtain ⟨_,_,_,n,_,h1⟩:=(show fv X.prog X.w H s.heap a (.frz ob (.lst xs)) from I.hok a _ ea)
  exact cO PySem.W.kitx_list I.kIn ⟨_,h1,rfl⟩ e (fun z=>nomatch z) h
 | @tup a xs ea =>
  cases (show u=Value.ref a from rx)
  obtain ⟨_,_,_,p⟩:=(show fv X.prog X.w H s.heap a (.tup xs) from I.hok a _ ea)
  obtain ⟨o,h1,h2,_⟩:=p
  exact cO PySem.W.kitx_tuple I.kIn ⟨o,h1,h2⟩ e (fun z=>nomatch z) h
 | @dK a kvs ea =>
  cases (show u=Value.ref a from rx)
  obtain ⟨_,_,vs,_,p⟩:=(show fv X.prog X.w H s.heap a (.dK kvs) from I.hok a _ ea)
  obtain ⟨o,es,ep,h1,h2,_⟩:=p
  exact cO PySem.W.kitx_dict I.kIn ⟨o,h1,h2.1⟩ e (fun z=>nomatch z) h
 | @dT a kvs ea =>
  cases (show u=Value.ref a from rx)
  obtain ⟨_,_,xs,_,o,es,ep,h1,h2,_⟩:=(show fv X.prog X.w H s.heap a (.dT kvs) from I.hok a _ ea)
  exact cO PySem.W.kitx_dict I.kIn ⟨o,h1,h2.1⟩ e (fun z=>nomatch z) h
 | @ins a C dx fs ea cl ha hn htk hm =>
  cases (show u=Value.ref a from rx)
  obtain ⟨mA,O,_⟩:=mz I.hok ea
  obtain ⟨od,J,_⟩:=O.look
  exact cO (PySem.W.kitx_own (cl.get _) cl.hd ha hn htk hm) I.kIn J e (fun z=>nomatch z) h
end
end L2
namespace L2
open PySem PySem.Spec PyProof.Rows
structure iw (k:Nat) (A:Around):Prop where
 hd:A.handled=none
 dp:A.depth+3*k+5<recursionLimit
 un:A.units+16*k+200<cLine
theorem iw.mono {j k:Nat} {A:Around} (r:iw k A) (h:j≤k):iw j A:=⟨r.hd,by have:=r.dp;omega,by have:=r.un;omega⟩
theorem iw.deeper {k:Nat} {A:Around} (r:iw (k+1) A) (env:Env):iw k (A.deeper env) :=
 ⟨r.hd,by have:=r.dp;show A.depth+1+3*k+5<_;omega,by have:=r.un;show A.units+3+16*k+200<_;omega⟩
theorem og {A:Around} {C:Addr} {us:List Value} {kw:List (Str×Value)}:(A.under (.builtin "type.__call__" ⟨.ref C::us,kw⟩)).depth=A.depth+1:=by
 first | rfl | simp [Around.under,Code.weight,Code.isCreation,Code.isGuard,Code.isCaller,Code.frames,Code.isFrame,guardIds]
theorem n_ {A:Around} {C:Addr} {us:List Value} {kw:List (Str×Value)}:(A.under (.builtin "type.__call__" ⟨.ref C::us,kw⟩)).units=A.units+1:=by
 first | rfl | simp [Around.under,Code.cUnits,Code.frames,Code.isFrame]
theorem iw.make {k:Nat} {A:Around} (r:iw (k+1) A) (C:Addr) (us:List Value) (kw:List (Str×Value)):iw k (A.under (.builtin "type.__call__" ⟨.ref C::us,kw⟩)) :=
 ⟨r.hd,by have:=r.dp;rw [og];omega,by have:=r.un;rw [n_];omega⟩
theorem iw.depth {k:Nat} {A:Around} (r:iw k A):A.depth<recursionLimit:=by have:=r.dp;omega
theorem iw.units {k:Nat} {A:Around} (r:iw k A):A.units+64<cLine:=by have:=r.un;omega
def Ao:TA:=fun _ H Q=>Q [] H
def xw (ta:TE) (tr:TA):TA:=fun σ H Q=>ta σ H fun x H1=>tr σ H1 fun xs H2=>Q (x::xs) H2
section
variable {X:Cx} {e:Expr} {es:List Expr} {te:TE} {t:TA} {pos:Pos}
theorem ay:PA X [] Ao:=fun _ _ _ _ H Q I h=>Calls.spliced_nil ⟨[],H,I,.nil,h⟩
theorem ah (ha:PE X e te) (hr:PA X es t) (hs:starEach (e::es) X.env=(false,eval e X.env)::starEach es X.env:=by rfl):PA X (e::es) (xw te t):=by
 intro pos pins s σ H Q I h
 rw [hs]
 show wpAny _ _ (spliced ((false,eval e X.env)::backTo pos (starEach es X.env))) _ _ s
 refine Calls.spliced_cons (thn (ha pins s σ H _ I h) fun u s1 ⟨x,H1,I1,r1,q1⟩=>?_)
 exact thn (hr pos pins s1 σ H1 _ I1 q1) fun us s2 ⟨xs,H2,I2,r2,q2⟩=>⟨x::xs,H2,I2,.cons r1 r2,q2⟩
def Ai (t:TA):TE:=fun σ H Q=>t σ H fun xs H1=>xs.length≤sizeLine∧∀p,H1 p=none→Q (.ref p) (upd H1 p (.tup xs))
def Ap (t:TA):TE:=fun σ H Q=>t σ H fun xs H1=>xs.length≤sizeLine∧∀p,H1 p=none→Q (.ref p) (upd H1 p (.lst xs))
theorem iz {x1} (h:PA X es t):PE X (.Tuple es x1 pos) (Ai t):=by
 intro pins s σ H Q I hq
 refine wpAny_Tuple_spliced (thn (h pos pins s σ H _ I hq) fun us s1 ⟨xs,H1,I1,r,z,q⟩=>⟨by rw [←r.length];exact z,?_⟩)
 have hf:H1 s1.heap.objs.size=none:=I1.hok.fresh (aO _)
 refine ⟨.ref s1.heap.objs.size,upd H1 s1.heap.objs.size (.tup xs),I1.laid (t':=s1.toks) (fun b u e=>au _ e) (aO _) ?_,rfl,q _ hf⟩
 exact ⟨z,us,r,⟨_,aY _ rfl,rfl,_,rfl⟩⟩
theorem de (h:PA X es t):PE X (.List es pos) (Ap t):=by
 intro pins s σ H Q I hq
 refine wpAny_List_spliced (thn (h pos pins s σ H _ I hq) fun us s1 ⟨xs,H1,I1,r,z,q⟩=>⟨by rw [←r.length];exact z,?_⟩)
 have hf:H1 s1.heap.objs.size=none:=I1.hok.fresh (aO _)
 refine ⟨.ref s1.heap.objs.size,upd H1 s1.heap.objs.size (.lst xs),I1.laid (t':=s1.toks) (fun b u e=>au _ e) (aO _) ?_,rfl,q _ hf⟩
 exact ⟨z,us,0,r,aY _ rfl⟩
end
abbrev Sp:=List V→Hp→VK→XK→Prop
abbrev CXT:=List Env→Hp→Shared→XK→Value→Shared→Prop
structure qW (P:Program) (w:World) (K:ai) (mg:Str→Option Value) (base:Heap) (A:Around) (outer:List Env) (s:Shared) (H:Hp):Prop where
 frames:A.frames=some outer
 mod:Mod K mg base
 bs:∀b o,base.get? b=some o→s.heap.get? b=some o∧H b=none
 bsz:base.objs.size≤s.heap.objs.size
 kB:s.heap.FunFrames base outer
 frf:∀b∈frs outer,H b=none
 hok:HOk P w H s.heap
 bare:AllBare s.gens
def CE (outer:List Env) (P:Program) (w:World) (H:Hp) (s:Shared) (Q:VK) (u:Value) (s':Shared):Prop :=
 ∃v H',s'.os=s.os∧AllBare s'.gens∧Un (frs outer) [] H H' s.heap s'.heap∧HOk P w H' s'.heap∧RelV v u∧Q v H'
def CR (CX:CXT) (outer:List Env) (P:Program) (w:World) (H:Hp) (s:Shared) (Q:VK) (E:XK) (r:Result) (s':Shared):Prop :=
 match r with
 | .ok (.ret u)=>CE outer P w H s Q u s'
 | .ok _=>False
 | .error e=>CX outer H s E e s'
structure fm (P:Program) (w:World) (K:ai) (mg:Str→Option Value) (base:Heap) (CX:CXT) (k:Nat) (f:Addr) (fd:FuncData) (ps:List Str) (sp:Sp):Prop where
 len:∀vs H Q E,sp vs H Q E→vs.length=ps.length
 run:∀(A:Around) (outer:List Env) (s:Shared) (H:Hp) (args:Args) (us:List Value) (vs:List V) (Q:VK) (E:XK),iw k A→qW P w K mg base A outer s H→BindsTo s fd args (ps.zip us)→Vals vs us→sp vs H Q E →
  codeAny (model P w) A (.call (.ref f) args) (CR CX outer P w H s Q E) s
theorem qW.make {P:Program} {w:World} {K:ai} {mg:Str→Option Value} {base:Heap} {A:Around} {outer:List Env} {s:Shared} {H:Hp} (e:qW P w K mg base A outer s H) (C:Addr) (us:List Value) (kw:List (Str×Value)) :
  qW P w K mg base (A.under (.builtin "type.__call__" ⟨.ref C::us,kw⟩)) outer s H:=⟨by first | exact e.frames | (simpa [Around.under,Code.envs,Code.isFrame,pushEnvs] using e.frames),e.mod,e.bs,e.bsz,e.kB,e.frf,e.hok,e.bare⟩
section
variable {X:Cx} {pins:List (Addr×Obj)} {σ:St} {H:Hp} {s s':Shared}
theorem Inv.xi (I:Inv X pins σ H s):qW X.prog X.w X.K X.mg X.base X.A X.stack s H :=
 ⟨I.ok.frames,I.ok.mod,I.bs,cx I.ok.bsz I.sz,I.stack,I.lS,I.hok,I.bare⟩
theorem Inv.after {Q:VK} {u:Value} (I:Inv X pins σ H s) (h:CE X.stack X.prog X.w H s Q u s'):EP X pins σ Q u s':=by
 obtain ⟨v,H',os,bare,un,hok,r,q⟩:=h
 obtain ⟨hh,g,d,t,os'⟩:=s'
 obtain rfl:os'=s.os:=os
 exact ⟨v,H',I.call (h':=hh) (g':=g) (d':=d) (t':=t) (ch:=[]) un hok bare (fun b z=>absurd z (by simp)),r,q⟩
end
def vw (sp:Sp) (dvs:List V) (E:XK) (t:TA):TE:=fun σ H Q=>t σ H fun vs H1=>sp (vs++dvs) H1 Q E
def Binds (K:ai) (fd:FuncData) (ps:List Str) (ds:List Value):Prop :=
 ∀(s:Shared) (us:List Value),K.In s.heap→(us++ds).length=ps.length→BindsTo s fd ⟨us,[]⟩ (ps.zip (us++ds))
theorem Binds.all {K:ai} {fd:FuncData} {ps:List Str} (h:∀us:List Value,us.length=ps.length→bindArgs fd ⟨us,[]⟩=pure (ps.zip us)):Binds K fd ps []:=fun s us _ hl=>by
 rw [bT] at hl ⊢
 exact .of_eq (h us hl)
def Passes (CX:CXT) (X:Cx) (E:XK):Prop:=∀(pins:List (Addr×Obj)) (σ:St) (H:Hp) (s:Shared) (e:Value) (s':Shared),Inv X pins σ H s→CX X.stack H s E e s'→X.xe e s'
section
variable {X:Cx} {CX:CXT} {k:Nat} {f C:Addr} {fd:FuncData} {ps:List Str} {sp:Sp} {dvs:List V} {ds:List Value} {E:XK} {x m:Str} {p pos apos:Pos} {e o:Expr} {es:List Expr} {ta:TE} {t:TA}
theorem vD {pins:List (Addr×Obj)} {σ:St} {H:Hp} {s:Shared} {Q:VK} {us:List Value} {vs:List V} (F:fm X.prog X.w X.K X.mg X.base CX k f fd ps sp) (hr:iw k X.A) (hb:Binds X.K fd ps ds) (hd:Vals dvs ds) (hx:Passes CX X E)
  (I:Inv X pins σ H s) (r:Vals vs us) (h:sp (vs++dvs) H Q E):wpAny (model X.prog X.w) X.A (call (.ref f) us) (EP X pins σ Q) X.xe s:=by
 have r2:Vals (vs++dvs) (us++ds):=r.append hd
 have hl:(us++ds).length=ps.length:=by rw [←r2.length];exact F.len _ _ _ _ h
 refine wpAny_call (codeAny_mono (F.run X.A X.stack s H ⟨us,[]⟩ (us++ds) (vs++dvs) Q E hr I.xi (hb s us I.kIn hl) r2 h) fun r s' hq=>?_)
 cases r with
 | error e=>exact hx pins σ H s e s' I hq
 | ok fl =>
  cases fl with
  | ret u=>exact I.after hq
  | next=>exact False.elim hq
  | brk=>exact False.elim hq
  | cont=>exact False.elim hq
theorem ug (F:fm X.prog X.w X.K X.mg X.base CX k f fd ps sp) (hr:iw k X.A) (hg:Gl X x) (hm:X.mg x=some (.ref f)) (hk:aJ X.K (.ref f)=true) (hb:Binds X.K fd ps ds) (hd:Vals dvs ds) (hx:Passes CX X E)
  (ha:PA X (e::es) t) (hdb:(x==("__debug__":Str))=false:=by decide) (he:starEach (e::es) X.env=(false,eval e X.env)::starEach es X.env:=by rfl) (hpl:(backTo pos (starEach es X.env)).any (·.1)=false:=by rfl) :
  PE X (.Call (.Name x p) (e::es) [] pos) (vw sp dvs E t):=by
 intro pins s σ H Q I h
 refine wpAny_Call_Name_kw (iu I hg hm ?_ hdb)
 refine PySem.W.callWith_K (h₀:=X.base) I.ok.mod.kin hk (thn (ha pos pins s σ H _ I h) fun us s1 ⟨vs,H1,I1,r,q⟩=>⟨I1.kIn,?_⟩) he hpl
 exact vD F hr hb hd hx I1 r q
structure Mk (K:ai) (C f:Addr):Prop where
 makes:PySem.W.makesIn K C=true
 init:cy K (.ref C) "__init__"=some (some (.ref f))
 fn:PySem.W.isFn K (.ref f)=true
 kp:aJ K (.ref C)=true
theorem rn {pins:List (Addr×Obj)} {σ:St} {H:Hp} {s:Shared} {Q:VK} {us:List Value} {vs:List V} (M:Mk X.K C f) (F:fm X.prog X.w X.K X.mg X.base CX k f fd ps sp) (hr:iw (k+1) X.A) (hb:Binds X.K fd ps ds) (hd:Vals dvs ds)
  (hx:Passes CX X E) (I:Inv X pins σ H s) (r:Vals vs us)
  (h:∀x dx,H x=none→H dx=none→dx≠x→sp (.ref x::(vs++dvs)) (upd (upd H dx (.own x)) x (.ins C dx [])) (fun v H2=>v=.non∧Q (.ref x) H2) E) :
  wpAny (model X.prog X.w) X.A (call (.ref C) us) (EP X pins σ Q) X.xe s:=by
 have hq:=h (s.heap.objs.size+1) s.heap.objs.size (I.hok.fresh (gj _)) (I.hok.fresh (aO _)) (bj (bY _))
 have I2:=Inv.made (C:=C) I
 have r2:Vals (V.ref (s.heap.objs.size+1)::(vs++dvs)) (Value.ref (s.heap.objs.size+1)::(us++ds)):=.cons rfl (r.append hd)
 have hl:(Value.ref (s.heap.objs.size+1)::us++ds).length=ps.length:=by
  have e:=r2.length
  rw [F.len _ _ _ _ hq] at e
  exact e.symm
 refine wpAny_call (rD (f:=f) I.kIn M.makes M.init (beq_iff_eq.mp M.fn) (codeAny_mono (F.run _ X.stack _ _ ⟨Value.ref (s.heap.objs.size+1)::us,[]⟩ (Value.ref (s.heap.objs.size+1)::(us++ds)) _ _ E (hr.make C us [])
  (I2.xi.make C us []) (hb _ (Value.ref (s.heap.objs.size+1)::us) I2.kIn hl) r2 hq) fun r s' hq'=>?_))
 cases r with
 | error e=>exact hx pins σ _ _ e s' I2 hq'
 | ok fl =>
  cases fl with
  | ret u =>
   obtain ⟨v,H',I3,rv,ev,q3⟩:=I2.after hq'
   subst ev
   exact ⟨rv,⟨V.ref (s.heap.objs.size+1),H',I3,rfl,q3⟩⟩
  | next=>exact False.elim hq'
  | brk=>exact False.elim hq'
  | cont=>exact False.elim hq'
end
section
variable {X:Cx} {CX:CXT} {k:Nat} {f C:Addr} {fd:FuncData} {ps ks:List Str} {sp:Sp} {E:XK} {x m:Str} {p pos apos kpos:Pos} {e o:Expr} {es:List Expr} {kws:List Keyword} {te ta:TE} {t tk:TA} {nm:Option Str}
variable {g:List Value→List Value→List Value} {gV:List V→List V→List V}
end
structure bS (N P:List Str) (sc:Scope):Prop where
 kind:sc.kind=.function
 co:sc.isCoroutine=false
 gen:sc.isGenerator=false
 nd:N.Nodup
 pre:N.take P.length=P
 par:∀x∈P,sc.names.lookup x=some .local∨sc.names.lookup x=some .cell
 nofree:∀y∈sc.names,y.2≠.free
theorem lK {kindOf:Str→Option NameKind} {x:Str}:∀{binds:List (Str×Value)} {m:Str→Option Value},(∀v,(x,v)∉binds)→bindL kindOf binds m x=m x
 | [],_,_=>rfl
 | (n,v)::r,m,h=>by
  unfold bindL
  rw [lK fun w hw=>h w (aW _ hw)]
  split
  ·have:x≠n:=by rintro rfl;exact h v aU
   simp [this]
  ·rfl
theorem lM {kindOf:Str→Option NameKind} {x:Str}:∀{binds:List (Str×Value)} {m:Str→Option Value},(∀v,(x,v)∉binds)→bindC kindOf binds m x=m x
 | [],_,_=>rfl
 | (n,v)::r,m,h=>by
  unfold bindC
  rw [lM fun w hw=>h w (aW _ hw)]
  split
  ·rfl
  ·have:x≠n:=by rintro rfl;exact h v aU
   simp [this]
theorem lL {kindOf:Str→Option NameKind} {x:Str} {v:Value}:∀{P:List Str} {vs:List Value} {i:Nat} {m:Str→Option Value},P.Nodup→P[i]?=some x→vs[i]?=some v→kindOf x=some .local →
  bindL kindOf (P.zip vs) m x=some v
 | [],_,_,_,_,h,_,_=>by simp at h
 | _::_,[],_,_,_,_,h,_=>by simp at h
 | p::P,w::vs,0,m,nd,h1,h2,hk=>by
  simp at h1 h2;subst h1;subst h2
  show bindL kindOf ((p,w)::P.zip vs) m p=_
  unfold bindL
  rw [lK fun v hv=>(dJ.mp nd).1 (List.of_mem_zip hv).1,if_pos hk]
  simp
 | p::P,w::vs,i+1,m,nd,h1,h2,hk=>by
  show bindL kindOf ((p,w)::P.zip vs) m x=_
  unfold bindL
  exact lL (i:=i) (dJ.mp nd).2 (by simpa using h1) (by simpa using h2) hk
theorem lN {kindOf:Str→Option NameKind} {x:Str} {v:Value}:∀{P:List Str} {vs:List Value} {i:Nat} {m:Str→Option Value},P.Nodup→P[i]?=some x→vs[i]?=some v→kindOf x≠some .local →
  bindC kindOf (P.zip vs) m x=some v
 | [],_,_,_,_,h,_,_=>by simp at h
 | _::_,[],_,_,_,_,h,_=>by simp at h
 | p::P,w::vs,0,m,nd,h1,h2,hk=>by
  simp at h1 h2;subst h1;subst h2
  show bindC kindOf ((p,w)::P.zip vs) m p=_
  unfold bindC
  rw [lM fun v hv=>(dJ.mp nd).1 (List.of_mem_zip hv).1,if_neg hk]
  simp
 | p::P,w::vs,i+1,m,nd,h1,h2,hk=>by
  show bindC kindOf ((p,w)::P.zip vs) m x=_
  unfold bindC
  exact lN (i:=i) (dJ.mp nd).2 (by simpa using h1) (by simpa using h2) hk
def start (N:List Str) (vs:List V):St:=vs.map some++az (N.length-vs.length) none
def oG (CX:CXT) (P:Program) (w:World) (K:ai) (mg:Str→Option Value) (base:Heap) (N:List Str) (qual:Str) (scope:Scope) (f:Addr) (cd:Value) (A:Around) (outer:List Env) (s:Shared) (H:Hp) (E:XK):Cx where
 prog:=P
 w:=w
 K:=K
 mg:=mg
 base:=base
 A:=A.deeper (envOfC qual scope s.heap.objs.size f cd)
 N:=N
 s₀:=s
 H₀:=H
 env:=envOfC qual scope s.heap.objs.size f cd
 outer:=outer
 stack:=envOfC qual scope s.heap.objs.size f cd::outer
 ex:=[]
 calm:=true
 fn:=fun _=>true
 pn:=[]
 xe:=fun e s'=>wpAny (model P w) (A.deeper (envOfC qual scope s.heap.objs.size f cd)) (leaving (envOfC qual scope s.heap.objs.size f cd) e) (fun _ s''=>CX outer H s E e s'') (fun e' s''=>CX outer H s E e' s'') s'
theorem nJ {sc:Scope} {n:Nat} {x:Str} (h:sc.names.lookup x=some .cell):∃c,(cellsFrom n sc.names []).lookup x=some c:=by
 have q:=PySem.W.cellsFrom_some sc.names n [] (.inl h)
 exact Option.isSome_iff_exists.mp q
theorem lx {CX:CXT} {P:Program} {w:World} {K:ai} {mg:Str→Option Value} {base:Heap} {N ps:List Str} {qual:Str} {scope:Scope} {f:Addr} {cd:Value} {A:Around} {outer:List Env} {s s1:Shared} {H:Hp} {E:XK} {us:List Value} {vs:List V}
  (S:bS N ps scope) (hd:A.handled=none) (e0:qW P w K mg base A outer s H) (hl:vs.length=ps.length) (r:Vals vs us)
  (x:InCallC s s.heap.objs.size (bindL (envOfC qual scope s.heap.objs.size f cd).kindOf (ps.zip us) fun _=>none) (cellsFrom (s.heap.objs.size+1) scope.names []) (bindC (envOfC qual scope s.heap.objs.size f cd).kindOf (ps.zip us) fun _=>none) s1) :
  Inv (oG CX P w K mg base N qual scope f cd A outer s H E) [] (start N vs) H s1:=by
 have hpl:ps.length≤N.length:=by have:=congrArg List.length S.pre;rw [aD] at this;omega
 obtain ⟨h1,tk,rfl,hk⟩:=x.done
 have noA:∀b:Addr,b∉(oG CX P w K mg base N qual scope f cd A outer s H E).ex:=fun b z=>absurd (show b∈([]:List Addr) from z) (by simp)
 refine ⟨⟨e0.mod,S.kind,rfl,rfl,aO _,fun y z c h1 h2=>?_,fun y hy=>?_,fun y c _ h=>?_,fun _=>hd,Around.frames_deeper e0.frames,.inr ⟨rfl,rfl⟩,fun b z=>absurd z (noA b),e0.bs,e0.bsz,fun b _ _=>noA b,fun b z=>absurd z (noA b),e0.kB,e0.frf⟩,
  rfl,e0.bare,Un.kept hk,⟨_,x.toInCall.ns,fun i y v h1 h2 h3=>?_⟩,fun y c h=>⟨_,x.cell y c h⟩,e0.hok.fresh (aO _),fun y c h=>?_,fun p hp=>absurd (show p∈([]:List (Addr×Obj)) from hp) (by simp),e0.hok.kept hk,?_⟩
 ·exact name_of_addr x.apart (dC h1) (dC h2)
 ·have hy:scope.names.lookup y=some .cell∨scope.names.lookup y=some .free:=hy
  rcases hy with hy | hy
  ·exact nJ hy
  ·exact absurd rfl (S.nofree _ (dC hy))
 ·exact aM (x.above y c (dC h))
 ·have hi:i<vs.length:=by
   unfold start at h2
   by_cases hi:i<vs.length
   ·exact hi
   ·rw [List.getElem?_append_right (by simpa using hi)] at h2
    rw [cq] at h2
    split at h2<;>cases h2
  have ha:vs[i]?=some v:=by
   unfold start at h2
   rw [cE (by simpa using hi),br] at h2
   cases e:vs[i]? with
   | none=>rw [e] at h2;cases h2
   | some a=>rw [e] at h2;cases h2;rfl
  obtain ⟨u,hu,rv⟩:=r.get ha
  have hp:ps[i]?=some y:=by
   rw [←S.pre,List.getElem?_take_of_lt (by omega)];exact h1
  have ndP:ps.Nodup:=by rw [←S.pre];exact S.nd.sublist (List.take_sublist _ _)
  refine ⟨u,rv,?_⟩
  rcases S.par y (aZ hp) with k | k
  ·exact .inl ⟨k,lL ndP hp hu k⟩
  ·obtain ⟨c,e⟩:=nJ (n:=s.heap.objs.size+1) k
   refine .inr ⟨.inl k,c,e,?_⟩
   have q:=x.cell y c e
   rw [lN ndP hp hu (by show scope.names.lookup y≠_;rw [k];decide)] at q
   exact q
 ·exact e0.hok.fresh (aM (x.above y c (dC h)))
 ·unfold start
  show _=N.length
  rw [aw,ae,bg]
  omega
theorem wj {CX:CXT} {P:Program} {w:World} {K:ai} {mg:Str→Option Value} {base:Heap} {k:Nat} {f:Addr} {name qual:Str} {params:Arguments} {body:List Stmt} {scope:Scope} {dV kV doc pm cdv ct oc:Value} {an od:Option Addr}
  {osl:Array (Option Value)} {N ps:List Str} {sp:Sp} (lk:K.lookup f=some ⟨oc,od,.func (aP name qual params body scope dV kV doc pm an cdv ct),osl⟩) (hcd:aL K cdv qual=true) (S:bS N ps scope)
  (len:∀vs H Q E,sp vs H Q E→vs.length=ps.length)
  (hbody:∀(A:Around) (outer:List Env) (s:Shared) (H:Hp) (vs:List V) (Q:VK) (E:XK),iw k (A.deeper (envOfC qual scope s.heap.objs.size f cdv))→sp vs H Q E →
   ∃t,PSs (oG CX P w K mg base N qual scope f cdv A outer s H E) body t∧t {nx:=fun _ H'=>Q .non H',rt:=Q} (start N vs) H) :
  fm P w K mg base CX (k+1) f (aP name qual params body scope dV kV doc pm an cdv ct) ps sp:=by
 refine ⟨len,fun A outer s H args us vs Q E hr e0 hb r hsp=>?_⟩
 have hl:=len _ _ _ _ hsp
 have KX:K.In s.heap:=e0.mod.kin.keeps fun b o e=>(e0.bs b o e).1
 have lim:s.heap.NoLimit:=e0.mod.nolimit.keeps fun b o e=>(e0.bs b o e).1
 have hkind:∀y∈ps.zip us,scope.names.lookup y.1=some .local∨(scope.names.lookup y.1=some .cell∧((cellsFrom (s.heap.objs.size+1) scope.names []).lookup y.1).isSome=true):=fun ⟨n,v⟩ hy=>by
  rcases S.par n (List.of_mem_zip hy).1 with q | q
  ·exact .inl q
  ·exact .inr ⟨q,PySem.W.cellsFrom_some _ _ _ (.inl q)⟩
 refine codeAny_call_function hr.depth (KX _ _ lk) rfl S.co S.gen rfl (PySem.W.codeRec_of KX hcd) (hb _ _ _ _ ?_)
 refine wpAny_newFunctionEnv_cells S.kind hkind fun env he s1 x=>?_
 subst he
 refine ⟨lim.keeps x.toInCall.keep,codeAny_func ?_⟩
 obtain ⟨t,ht,hq⟩:=hbody A outer s H vs Q E (hr.deeper _) hsp
 have I:Inv (oG CX P w K mg base N qual scope f cdv A outer s H E) [] (start N vs) H s1:=lx S hr.hd e0 hl r x
 refine wpAny_mono (ht [] s1 (start N vs) H _ I hq) (fun fl s' hs=>?_) fun e s' hs=>hs
 have fin:∀{σ':St} {H':Hp} {v:V} {u:Value},Inv (oG CX P w K mg base N qual scope f cdv A outer s H E) [] σ' H' s'→RelV v u→Q v H'→CE outer P w H s Q u s' :=
  fun {σ' H' v u} J rv q=>⟨v,H',J.os,J.bare,J.base,J.hok,rv,q⟩
 cases fl with
 | ret u =>
  obtain ⟨v,σ',H',J,rv,q⟩:=hs
  exact fin J rv q
 | next =>
  obtain ⟨σ',H',J,q⟩:=hs
  exact fin (v:=V.non) (u:=Value.none) J rfl q
 | brk =>
  obtain ⟨_,_,_,q⟩:=hs
  exact False.elim q
 | cont =>
  obtain ⟨_,_,_,q⟩:=hs
  exact False.elim q
end L2
namespace L2
open PySem PySem.Spec PyProof.Rows
section
variable {X:Cx} {x:Str} {p pos:Pos} {e:Expr} {es:List Expr} {t:TA} {id T:String} {r:List V→Hp→VK→Prop}
def tCB (r:List V→Hp→VK→Prop) (t:TA):TE:=fun σ H Q=>t σ H fun vs H1=>r vs H1 Q
theorem a_ (hc:fR X (.builtin id) r) (hg:Gl X x) (hm:X.mg x=none) (hv:bootBuiltins x=some (.builtin id)) (ha:PA X (e::es) t) (hn:x≠"__name__":=by decide) (hdb:(x==("__debug__":Str))=false:=by decide)
  (he:starEach (e::es) X.env=(false,eval e X.env)::starEach es X.env:=by rfl) (hpl:(backTo pos (starEach es X.env)).any (·.1)=false:=by rfl):PE X (.Call (.Name x p) (e::es) [] pos) (tCB r t):=by
 intro pins s σ H Q I h
 refine wpAny_Call_Name_kw (gw I hg hm hv ?_ hn hdb)
 exact PyProof.Rows.callWith_builtin1 (thn (ha pos pins s σ H _ I h) fun us s1 ⟨vs,H1,I1,r1,q1⟩=>hc pins s1 σ H1 vs us Q I1 r1 q1) he hpl
theorem fq (hc:fR X (.type T) r) (hg:Gl X x) (hm:X.mg x=none) (hv:bootBuiltins x=some (.type T)) (ha:PA X (e::es) t) (hn:x≠"__name__":=by decide) (hdb:(x==("__debug__":Str))=false:=by decide)
  (he:starEach (e::es) X.env=(false,eval e X.env)::starEach es X.env:=by rfl) (hpl:(backTo pos (starEach es X.env)).any (·.1)=false:=by rfl):PE X (.Call (.Name x p) (e::es) [] pos) (tCB r t):=by
 intro pins s σ H Q I h
 refine wpAny_Call_Name_kw (gw I hg hm hv ?_ hn hdb)
 exact bE (thn (ha pos pins s σ H _ I h) fun us s1 ⟨vs,H1,I1,r1,q1⟩=>hc pins s1 σ H1 vs us Q I1 r1 q1) he hpl
end
end L2
namespace HT
open PySem PyProof.Rows
section
open PySem.SeqAt
open PySem.AutoSeq1 (wpAny_loadPart')
open PySem.MeetsSeq PySem.MeetsSeq2 PySem.MeetsSeq3
end
section
variable {prog:Program} {w:World} {A:Around} {E:Value→Shared→Prop} {s:Shared}
def sIx (n d:Nat):Option Int→Nat
 | none=>d
 | some v=>if v<0 then (v+(n:Int)).toNat else min v.toNat n
theorem mS (n d:Nat):sIx n d none=d:=rfl
end
end HT
namespace L2
open PySem PySem.Spec PyProof.Rows
abbrev TO:=St→Hp→(Option Int→Hp→Prop)→Prop
def PO (X:Cx) (e:Option Expr) (t:TO):Prop :=
 ∀(pins:List (Addr×Obj)) (s:Shared) (σ:St) (H:Hp) (Q:Option Int→Hp→Prop),Inv X pins σ H s→t σ H Q →
  wpAny (model X.prog X.w) X.A (evalPart e X.env) (fun u s'=>∃o H',Inv X pins σ H' s'∧IsPart u o∧Q o H') X.xe s
def tD:TO:=fun _ H Q=>Q none H
def xp (t:TE):TO:=fun σ H Q=>t σ H fun x H1=>∃i,x=.int i∧Q (some i) H1
section
variable {X:Cx} {e:Expr} {te:TE} {lo hi:Option Expr} {tl th:TO} {pos p2:Pos}
theorem ip:PO X none tD:=by
 intro pins s σ H Q I h
 rw [evalPart_none]
 exact wpAny_pure ⟨none,H,I,.none,h⟩
theorem gL (h:PE X e te):PO X (some e) (xp te):=by
 intro pins s σ H Q I hw
 rw [evalPart_some]
 refine thn (h pins s σ H _ I hw) fun u s1 ⟨x,H1,I1,r1,q1⟩=>?_
 obtain ⟨i,rfl,q⟩:=q1
 obtain ⟨t,rfl⟩:=r1
 exact ⟨some i,H1,I1,.int i t,q⟩
def SlR (X:Cx) (r:V→Option Int→Option Int→Hp→VK→Prop):Prop :=
 ∀(pins:List (Addr×Obj)) (s:Shared) (σ:St) (H:Hp) (x:V) (v vl vu:Value) (lo hi:Option Int) (sl:Addr) (Q:VK),Inv X pins σ H s→RelV x v→s.heap.IsSliceOf sl vl vu .none→IsPart vl lo→IsPart vu hi→r x lo hi H Q →
  ∃T id,typeLookup (.type T) "__getitem__"=pure (some (.builtin id))∧s.TypeIs v T∧wpAny (model X.prog X.w) X.A (getItem v (.ref sl)) (EP X pins σ Q) X.xe s
def tSl (r:V→Option Int→Option Int→Hp→VK→Prop) (te:TE) (tl th:TO):TE:=fun σ H Q=>te σ H fun x H1=>tl σ H1 fun l H2=>th σ H2 fun u H3=>r x l u H3 Q
theorem gM {r:V→Option Int→Option Int→Hp→VK→Prop} (hr:SlR X r) (he:PE X e te) (hl:PO X lo tl) (hu:PO X hi th):PE X (.Subscript e (.Slice lo hi none p2) pos) (tSl r te tl th):=by
 intro pins s σ H Q I h
 refine Subscript_ (thn (he pins s σ H _ I h) fun v s1 ⟨x,H1,I1,r1,q1⟩=>?_)
 refine wpAny_Slice (thn (hl pins s1 σ H1 _ I1 q1) fun vl s2 ⟨l,H2,I2,pl,q2⟩=>thn (hu pins s2 σ H2 _ I2 q2) fun vu s3 ⟨u,H3,I3,pu,q3⟩=>?_)
 rw [evalPart_none]
 refine wpAny_pure ?_
 have I4:Inv X pins σ H3 {s3 with heap:=s3.heap.push {cls:=.type "slice",data:=.fields #[vl,vu,.none]}}:=I3.kept (t':=s3.toks) fun b ob q=>au _ q
 obtain ⟨T,id,hT,ht,hg⟩:=hr pins {s3 with heap:=s3.heap.push {cls:=.type "slice",data:=.fields #[vl,vu,.none]}} σ H3 x v vl vu l u s3.heap.objs.size Q I4 r1 (Heap.IsSliceOf.new ..) pl pu q3
 show wpAny (model X.prog X.w) X.A (subscriptTail e (.Slice lo hi none p2) v (.ref s3.heap.objs.size)) (EP X pins σ Q) X.xe {s3 with heap:=s3.heap.push {cls:=.type "slice",data:=.fields #[vl,vu,.none]}}
 exact tail_any (ops:=[.ref s3.heap.objs.size,v]) ht hT hg (by with_unfolding_all rfl)
def rX (xs:List V) (lo hi:Option Int):List V:=(xs.drop (HT.sIx xs.length 0 lo)).take (HT.sIx xs.length xs.length hi-HT.sIx xs.length 0 lo)
theorem mG (xs:List V) (lo hi:Option Int):(rX xs lo hi).length≤xs.length:=by
 unfold rX
 rw [aD,cm]
 omega
end
end L2
namespace L2
open PySem PySem.Spec PyProof.Rows
def ixN (n:Nat) (i:Int):Option Nat:=if 0≤i then (if i<n then some i.toNat else none) else if -(n:Int)≤i then some (i+n).toNat else none
def atI {α:Type} (xs:List α) (i:Int):Option α:=(ixN xs.length i).bind fun j=>xs[j]?
theorem qa {n:Nat} {i:Int} {j:Nat} (h:ixN n i=some j):seqIndex? i n=some j∧j<n∧-(n:Int)≤i∧i<n:=by
 unfold ixN at h
 by_cases h0:0≤i
 ·rw [if_pos h0] at h
  by_cases h1:i<n
  ·rw [if_pos h1] at h
   have e:i.toNat=j:=Option.some.inj h
   exact ⟨by rw [seqIndex_of h0 h1,e],by omega,by omega,h1⟩
  ·rw [if_neg h1] at h;cases h
 ·rw [if_neg h0] at h
  by_cases h1:-(n:Int)≤i
  ·rw [if_pos h1] at h
   have e:(i+n).toNat=j:=Option.some.inj h
   exact ⟨by rw [seqIndex_neg (by omega) h1,e],by omega,h1,by omega⟩
  ·rw [if_neg h1] at h;cases h
theorem qV {α:Type} {xs:List α} {i:Int} {v:α} (h:atI xs i=some v):∃j,seqIndex? i xs.length=some j∧xs[j]?=some v∧j<xs.length∧-(xs.length:Int)≤i∧i<xs.length:=by
 unfold atI at h
 cases e:ixN xs.length i with
 | none=>rw [e] at h;cases h
 | some j =>
  rw [e] at h
  obtain ⟨h1,h2,h3,h4⟩:=qa e
  exact ⟨j,h1,h,h2,h3,h4⟩
theorem mJ {α:Type} {xs:List α} {j:Nat} {v:α} (h:xs[j]?=some v):atI xs (j:Int)=some v:=by
 have hj:j<xs.length:=(cD.mp h).1
 have e:ixN xs.length (j:Int)=some j:=by
  unfold ixN
  rw [if_pos (by omega),if_pos (by omega)];simp
 unfold atI;rw [e];exact h
def uR (b:Expr):Prop:=∀o i,subscripted b false o i=operate [o,i] (getItem o i)
def IxR (X:Cx) (r:R2):Prop :=
 ∀(value slice:Expr) (pins:List (Addr×Obj)) (s:Shared) (σ:St) (H:Hp) (x y:V) (v u:Value) (Q:VK),Inv X pins σ H s→RelV x v→RelV y u→r x y H Q →
  subscripted slice false v u=operate [v,u] (getItem v u)→wpAny (model X.prog X.w) X.A (subscriptTail value slice v u) (EP X pins σ Q) X.xe s
def MtR (X:Cx) (id:String) (r:V→List V→Hp→VK→Prop):Prop :=
 ∀(pins:List (Addr×Obj)) (s:Shared) (σ:St) (H:Hp) (x:V) (xs:List V) (v:Value) (us:List Value) (Q:VK),Inv X pins σ H s→RelV x v→Vals xs us→r x xs H Q →
  wpAny (model X.prog X.w) X.A (call (.builtin id) (v::us)) (EP X pins σ Q) X.xe s
section
variable {X:Cx} {a b:Expr} {ta tb:TE} {pos:Pos}
theorem cn {r:R2} (hr:IxR X r) (ha:PE X a ta) (hb:PE X b tb) (hs:uR b):PE X (.Subscript a b pos) (tOp r ta tb):=by
 intro pins s σ H Q I h
 exact Subscript_ (zD ha hb I h fun v u s2 x y H2 I2 rx ry q=>hr a b pins s2 σ H2 x y v u Q I2 rx ry q (hs _ _))
def zU (K:ai):R2:=fun x y H Q=>∃p xs i v,x=.ref p∧y=.int i∧SqL K H p xs∧atI xs i=some v∧Q v H
def zT (K:ai):R2:=fun x y H Q=>∃p xs i v,x=.ref p∧y=.int i∧SqT K H p xs∧atI xs i=some v∧Q v H
theorem uv:IxR X (zU X.K):=by
 intro value slice pins s σ H x y v u Q I rx ry h hs
 obtain ⟨p,xs,i,z,rfl,rfl,hq,he,q⟩:=h
 cases rx
 obtain ⟨t,rfl⟩:=ry
 obtain ⟨its,r,pl,hz⟩:=I.list hq
 obtain ⟨j,h1,h2,h3,h4,h5⟩:=qV he
 obtain ⟨w,ew,rw'⟩:=r.get h2
 have hl:=r.length
 have hn:=kZ
 have fin:EP X pins σ Q w s:=⟨z,H,I,rw',q⟩
 by_cases h0:0≤i
 ·have hj:i.toNat=j:=by
   rw [seqIndex_of h0 h5] at h1
   exact Option.some.inj h1
  exact item_listR pl.isList h0 (by omega) (by rw [hj];simpa using ew) fin hs
 ·have hj:(i+(its.toArray.size:Int)).toNat=j:=by
   rw [seqIndex_neg (by omega) h4] at h1
   rw [aT,←hl]
   exact Option.some.inj h1
  exact subscriptTail_builtinR (x:=w) pl.isList.typeIs slot_list_getitem.lookup
   (wpAny_getItem_list_neg (Q:=fun r s'=>r=w∧EP X pins σ Q r s') pl.isList (by omega) (by rw [aT]<;>omega) (by omega) (by rw [hj];simpa using ew) ⟨rfl,fin⟩) hs
theorem wa:IxR X (zT X.K):=by
 intro value slice pins s σ H x y v u Q I rx ry h hs
 obtain ⟨p,xs,i,z,rfl,rfl,hq,he,q⟩:=h
 cases rx
 obtain ⟨t,rfl⟩:=ry
 obtain ⟨its,r,pl,hz⟩:=I.tuple hq
 obtain ⟨j,h1,h2,h3,h4,h5⟩:=qV he
 obtain ⟨w,ew,rw'⟩:=r.get h2
 have hl:=r.length
 have hn:=kZ
 have fin:EP X pins σ Q w s:=⟨z,H,I,rw',q⟩
 exact subscriptTail_builtinR (x:=w) pl.typeIs slot_tuple_getitem.lookup
  (getItem_tuple (j:=j) (Q:=fun r s'=>r=w∧EP X pins σ Q r s') pl (by omega) (by omega) (by rw [aT,←hl];exact h1) (by simpa using ew) ⟨rfl,fin⟩) hs
theorem nY (its:List Value) (n j:Nat) (u:Value):Obj.mapSeq (·.setIfInBounds j u) {cls:=.type "list",data:=.seq its.toArray n}={cls:=.type "list",data:=.seq (its.set j u).toArray n}:=by
 simp [Obj.mapSeq]
theorem Inv.lst {pins:List (Addr×Obj)} {σ:St} {H:Hp} {s:Shared} {p:Addr} {xs:List V} (I:Inv X pins σ H s) (h:H p=some (.lst xs)) :
  ∃(its:List Value) (n:Nat),Vals xs its∧s.heap.get? p=some {cls:=.type "list",data:=.seq its.toArray n}∧xs.length≤sizeLine:=by
 obtain ⟨z,its,n,r,e⟩:=I.hok p _ h
 exact ⟨its,n,r,e,z⟩
theorem Inv.sQ {pins:List (Addr×Obj)} {σ:St} {H:Hp} {s:Shared} {p:Addr} {xs ys:List V} {its its':List Value} {n n':Nat} {f:Obj→Obj} (I:Inv X pins σ H s) (h:H p=some (.lst xs))
  (ho:s.heap.get? p=some {cls:=.type "list",data:=.seq its.toArray n}) (hf:f {cls:=.type "list",data:=.seq its.toArray n}={cls:=.type "list",data:=.seq its'.toArray n'}) (r:Vals ys its') (hz:ys.length≤sizeLine) (t:Nat) :
  Inv X pins σ (upd H p (.lst ys)) {s with heap:=s.heap.update p f,toks:=t}:=by
 have e:(s.heap.update p f).get? p=some {cls:=.type "list",data:=.seq its'.toArray n'}:=by
  rw [bC f ho (by rw [hf]<;>rfl),hf]
 refine I.write (x:=p) (e:=p) (by rw [h];trivial) (.inl rfl) (fun b u hb q=>(Heap.get?_update_other _ _ (Ne.symm hb)).trans q) ⟨_,e⟩ ?_
 exact ⟨hz,its',n',r,e⟩
def yq:V→V→V→Hp→(Hp→Prop)→Prop:=fun o i v H Q=>∃p xs k j,o=.ref p∧i=.int k∧H p=some (.lst xs)∧ixN xs.length k=some j∧Q (upd H p (.lst (xs.set j v)))
theorem set_list:zE X yq:=by
 intro pins s σ H o i v ov iv u Q I ro ri rv h
 obtain ⟨p,xs,k,j,rfl,rfl,hp,hj,q⟩:=h
 cases ro
 obtain ⟨t,rfl⟩:=ri
 obtain ⟨its,n,r,ho,hz⟩:=I.lst hp
 obtain ⟨h1,h2,h3,h4⟩:=qa hj
 have hl:=r.length
 have hn:=kZ
 have I':Inv X pins σ (upd H p (.lst (xs.set j v))) {s with heap:=s.heap.update p (Obj.mapSeq (·.setIfInBounds j u))} :=
  I.sQ hp ho (nY its n j u) (r.set rv j) (by rw [bN];exact hz) s.toks
 by_cases h0:0≤k
 ·have hk:k.toNat=j:=by
   rw [seqIndex_of h0 h4] at h1
   exact Option.some.inj h1
  exact PySem.W.ki_setAt ho h0 (by omega) (by rw [aT,←hl];exact h4) (by rw [hk];exact ⟨_,I',q⟩)
 ·have hk:(k+(its.toArray.size:Int)).toNat=j:=by
   rw [seqIndex_neg (by omega) h3] at h1
   rw [aT,←hl]
   exact Option.some.inj h1
  exact PySem.W.ki_setBack ho (by omega) (by rw [aT,←hl];exact h3) (by omega) (by rw [hk];exact ⟨_,I',q⟩)
theorem iT (lo hi:Option Int) (n:Nat):(sliceBounds lo hi none n).1=((HT.sIx n 0 lo:Nat):Int)∧(sliceBounds lo hi none n).2.1=((HT.sIx n n hi:Nat):Int)∧(sliceBounds lo hi none n).2.2=1:=by
 refine ⟨?_,?_,rfl⟩
 ·cases lo with
  | none=>simp [sliceBounds,HT.sIx]
  | some i =>
   simp only [sliceBounds,HT.sIx,Option.getD_none,show (1:Int)>0 by decide,if_true]
   by_cases h:i<0
   ·simp only [h,if_true]<;>omega
   ·simp only [h,if_false]<;>omega
 ·cases hi with
  | none=>simp [sliceBounds,HT.sIx]
  | some i =>
   simp only [sliceBounds,HT.sIx,Option.getD_none,show (1:Int)>0 by decide,if_true]
   by_cases h:i<0
   ·simp only [h,if_true]<;>omega
   ·simp only [h,if_false]<;>omega
theorem kb (its:List Value) (lo hi:Option Int):slicePick its.toArray lo hi none=((its.drop (HT.sIx its.length 0 lo)).take (HT.sIx its.length its.length hi-HT.sIx its.length 0 lo)).toArray:=by
 obtain ⟨h1,h2,h3⟩:=iT lo hi its.toArray.size
 unfold slicePick
 rw [h1,h2,h3]
 simp only [sliceRange_one,pick_run,aT]<;>rfl
def zS (K:ai):V→Option Int→Option Int→Hp→VK→Prop:=fun x lo hi H Q=>∃a xs,x=.ref a∧SqL K H a xs∧∀p,H p=none→Q (.ref p) (upd H p (.lst (rX xs lo hi)))
theorem tJ:SlR X (zS X.K):=by
 intro pins s σ H x v vl vu lo hi sl Q I rx hs pl pu h
 obtain ⟨a,xs,rfl,hx,q⟩:=h
 cases rx
 obtain ⟨its,r,ht,hz⟩:=I.list hx
 have hlen:=r.length
 refine ⟨"list",_,slot_list_getitem.lookup,ht.isList.typeIs,?_⟩
 refine wpAny_getItem_list_slice ht.isList hs pl pu .none (by simp) ?_ (by rw [aT]<;>omega)
 rw [kb,←hlen]
 refine ⟨.ref s.heap.objs.size,_,I.laid (t':=s.toks) (o:=.lst (rX xs lo hi)) (fun b ob q=>au _ q) (aO _) ?_,rfl,q _ (I.hok.fresh (aO _))⟩
 exact ⟨cx (mG xs lo hi) hz,_,0,(r.drop (HT.sIx xs.length 0 lo)).take (HT.sIx xs.length xs.length hi-HT.sIx xs.length 0 lo),aY _ rfl⟩
def iE:V→Bool
 | .non=>true
 | .bl _=>true
 | .int _=>true
 | .str _=>true
 | _=>false
def eqV:V→V→Bool
 | .non,.non=>true
 | .bl a,.bl b=>a==b
 | .bl a,.int b=>(if a then 1 else 0)==b
 | .int a,.bl b=>a==(if b then 1 else 0)
 | .int a,.int b=>a==b
 | .str a,.str b=>a==b
 | _,_=>false
theorem wt {A:Around} {s:Shared} {y x:V} {u v:Value} (ry:RelV y u) (rx:RelV x v) (fy:iE y=true) (fx:iE x=true):SeqAt.EqAt A s u v (eqV y x):=by
 cases y with
 | non =>
  cases ry
  cases x with
  | non=>cases rx;exact SeqAt.EqAt.same _
  | bl b=>cases rx;exact SeqAt.EqAt.none_bool b
  | int b=>obtain ⟨t,rfl⟩:=rx;exact SeqAt.EqAt.none_int b t
  | str b=>obtain ⟨t,rfl⟩:=rx;exact SeqAt.EqAt.none_str b t
  | _=>exact absurd (show false=true from fx) aV
 | bl a =>
  cases ry
  cases x with
  | non=>cases rx;exact SeqAt.EqAt.bool_none a
  | bl b=>cases rx;exact SeqAt.EqAt.bool_bool a b
  | int b=>obtain ⟨t,rfl⟩:=rx;exact SeqAt.EqAt.bool_int a b t
  | str b=>obtain ⟨t,rfl⟩:=rx;exact SeqAt.EqAt.bool_str a b t
  | _=>exact absurd (show false=true from fx) aV
 | int a =>
  obtain ⟨t',rfl⟩:=ry
  cases x with
  | non=>cases rx;exact SeqAt.EqAt.int_none a t'
  | bl b=>cases rx;exact SeqAt.EqAt.int_bool a t' b
  | int b=>obtain ⟨t,rfl⟩:=rx;exact SeqAt.EqAt.int_int a t' b t
  | str b=>obtain ⟨t,rfl⟩:=rx;exact SeqAt.EqAt.int_str a t' b t
  | _=>exact absurd (show false=true from fx) aV
 | str a =>
  obtain ⟨t',rfl⟩:=ry
  cases x with
  | non=>cases rx;exact SeqAt.EqAt.str_none a t'
  | bl b=>cases rx;exact SeqAt.EqAt.str_bool a t' b
  | int b=>obtain ⟨t,rfl⟩:=rx;exact SeqAt.EqAt.str_int a t' b t
  | str b=>obtain ⟨t,rfl⟩:=rx;exact SeqAt.EqAt.str_str a t' b t
  | _=>exact absurd (show false=true from fx) aV
 | _=>exact absurd (show false=true from fy) aV
def eqU (x:V) (u:Value):Bool:=match u with
 | .none=>eqV .non x
 | .bool b=>eqV (.bl b) x
 | .int i _=>eqV (.int i) x
 | .str z _=>eqV (.str z) x
 | _=>false
theorem qz {x y:V} {u:Value} (r:RelV y u) (f:iE y=true):eqU x u=eqV y x:=by
 cases y with
 | non=>cases r;rfl
 | bl b=>cases r;rfl
 | int i=>obtain ⟨t,rfl⟩:=r;rfl
 | str z=>obtain ⟨t,rfl⟩:=r;rfl
 | _=>exact absurd (show false=true from f) aV
theorem jI {x:V}:∀{xs:List V} {us:List Value},Vals xs us→xs.all iE=true→us.any (eqU x)=xs.any fun y=>eqV y x
 | _,_,.nil,_=>rfl
 | y::xs,u::us,.cons r t,f=>by
  rw [c_,cK] at f
  rw [eP,eP,qz r f.1,jI t f.2]
theorem gO {A:Around} {s:Shared} {x:V} {v:Value} (rx:RelV x v) (fx:iE x=true):∀{xs:List V} {us:List Value},Vals xs us→xs.all iE=true→∀u∈us,SeqAt.EqAt A s u v (eqU x u)
 | _,_,.nil,_=>fun u hu=>by cases hu
 | y::xs,u::us,.cons r t,f=>fun u' hu=>by
  rw [c_,cK] at f
  rcases bq.mp hu with rfl | hu
  ·rw [qz r f.1];exact wt r rx f.1 fx
  ·exact gO rx fx t f.2 u' hu
def inV (x:V) (xs:List V):Bool:=xs.any fun y=>eqV y x
def rIn (K:ai) (neg:Bool):R2:=fun x y H Q=>∃p xs,y=.ref p∧(SqL K H p xs∨SqT K H p xs)∧iE x=true∧xs.all iE=true∧Q (.bl (if neg then !inV x xs else inV x xs)) H
theorem pK:OpR X (compareOp .In) (rIn X.K false):=by
 intro pins s σ H x y v u Q I rx ry h
 obtain ⟨p,xs,rfl,hq,fx,fs,q⟩:=h
 cases ry
 rcases hq with hq | hq
 ·obtain ⟨its,r,pl,hz⟩:=I.list hq
  refine SeqAt.in_listAt (eqU x) pl.isList (fun w hw=>gO rx fx r fs w (by simpa using hw)) ⟨.bl _,H,I,rfl,?_⟩
  rw [show its.toArray.any (eqU x)=its.any (eqU x) by simp,jI r fs]
  exact q
 ·obtain ⟨its,r,pl,hz⟩:=I.tuple hq
  refine SeqAt.in_tupleAt (eqU x) pl (fun w hw=>gO rx fx r fs w (by simpa using hw)) ⟨.bl _,H,I,rfl,?_⟩
  rw [show its.toArray.any (eqU x)=its.any (eqU x) by simp,jI r fs]
  exact q
theorem kX:OpR X (compareOp .NotIn) (rIn X.K true):=by
 intro pins s σ H x y v u Q I rx ry h
 obtain ⟨p,xs,rfl,hq,fx,fs,q⟩:=h
 cases ry
 rcases hq with hq | hq
 ·obtain ⟨its,r,pl,hz⟩:=I.list hq
  refine SeqAt.notIn_listAt (eqU x) pl.isList (fun w hw=>gO rx fx r fs w (by simpa using hw)) ⟨.bl _,H,I,rfl,?_⟩
  rw [show its.toArray.any (eqU x)=its.any (eqU x) by simp,jI r fs]
  exact q
 ·obtain ⟨its,r,pl,hz⟩:=I.tuple hq
  refine SeqAt.notIn_tupleAt (eqU x) pl (fun w hw=>gO rx fx r fs w (by simpa using hw)) ⟨.bl _,H,I,rfl,?_⟩
  rw [show its.toArray.any (eqU x)=its.any (eqU x) by simp,jI r fs]
  exact q
theorem lG:fR X (.builtin "len") (fun xs H Q=>∃p ys,xs=[.ref p]∧(SqL X.K H p ys∨SqT X.K H p ys)∧Q (.int ys.length) H):=by
 intro pins s σ H xs us Q I r h
 obtain ⟨p,ys,rfl,hq,q⟩:=h
 obtain ⟨u,rfl,rx⟩:=vals1 r
 cases rx
 have hn:=kZ
 rcases hq with hq | hq
 ·obtain ⟨its,r',pl,hz⟩:=I.list hq
  have hlen:=r'.length
  exact Calls.call_len_list pl.isList (by simp only [aT]<;>omega) ⟨.int ys.length,H,I.tok _,⟨s.toks+1,by rw [aT,hlen]⟩,q⟩
 ·obtain ⟨its,r',pl,hz⟩:=I.tuple hq
  have hlen:=r'.length
  exact len_tuple pl (by simp only [aT]<;>omega) ⟨.int ys.length,H,I.tok _,⟨s.toks+1,by rw [aT,hlen]⟩,q⟩
theorem lF:fR X (.type "list") (fun xs H Q=>∃p ys,xs=[.ref p]∧(SqL X.K H p ys∨SqT X.K H p ys)∧∀l,H l=none→Q (.ref l) (upd H l (.lst ys))):=by
 intro pins s σ H xs us Q I r h
 obtain ⟨p,ys,rfl,hq,q⟩:=h
 obtain ⟨u,rfl,rx⟩:=vals1 r
 cases rx
 have fin:∀(its:List Value),Vals ys its→ys.length≤sizeLine→∀(h':Heap) (c':Nat),(∀b o',s.heap.get? b=some o'→h'.get? b=some o') →
   h'.get? s.heap.objs.size=some {cls:=.type "list",dict:=none,data:=.seq its.toArray c',slots:=#[]}→EP X pins σ Q (.ref s.heap.objs.size) {s with heap:=h'}:=fun its r' hz h' c' kp e =>
  ⟨.ref s.heap.objs.size,_,I.laid (t':=s.toks) kp (aO _) (show fv X.prog X.w _ h' _ (.lst ys) from ⟨hz,its,c',r',e⟩),rfl,q _ (I.hok.fresh (aO _))⟩
 rcases hq with hq | hq
 ·obtain ⟨its,r',pl,hz⟩:=I.list hq
  have hlen:=r'.length
  obtain ⟨o,ho,hc,n,hd⟩:=pl.isList
  exact call_list_seq p (.inl rfl) ho hc hd (fun h' c' kp e=>fin its r' hz h' c' kp e) (by simp only [aT]<;>omega)
 ·obtain ⟨its,r',pl,hz⟩:=I.tuple hq
  have hlen:=r'.length
  obtain ⟨o,ho,hc,n,hd⟩:=pl
  exact call_list_seq p (.inr rfl) ho hc hd (fun h' c' kp e=>fin its r' hz h' c' kp e) (by simp only [aT]<;>omega)
theorem kD:fR X (.type "tuple") (fun xs H Q=>∃p ys,xs=[.ref p]∧((SqL X.K H p ys∧∀l,H l=none→Q (.ref l) (upd H l (.tup ys)))∨(SqT X.K H p ys∧Q (.ref p) H))):=by
 intro pins s σ H xs us Q I r h
 obtain ⟨p,ys,rfl,h⟩:=h
 obtain ⟨u,rfl,rx⟩:=vals1 r
 cases rx
 rcases h with ⟨hq,q⟩ | ⟨hq,q⟩
 ·obtain ⟨its,r',pl,hz⟩:=I.list hq
  have hlen:=r'.length
  refine call_tuple_list pl.isList (fun h' kp=>?_) (by simp only [aT]<;>omega)
  have I1:Inv X pins σ H {s with heap:=h'}:=I.kept (t':=s.toks) kp
  have I2:Inv X pins σ (upd H h'.objs.size (.tup ys)) {s with heap:=h'.push {cls:=.type "tuple",data:=.seq its.toArray}} :=
   I1.laid (t':=s.toks) (fun b o e=>au _ e) (aO _) (show fv X.prog X.w _ _ _ (.tup ys) from ⟨hz,its,r',IsTup.new _ _⟩)
  exact ⟨.ref h'.objs.size,_,I2,rfl,q _ (I1.hok.fresh (aO _))⟩
 ·obtain ⟨its,r',pl,hz⟩:=I.tuple hq
  exact call_tuple_same pl ⟨.ref p,H,I,rfl,q⟩
def tyV (K:ai) (T:String) (x:V) (H:Hp):Prop:=match x with
 | .str _=>T="str"
 | .int _=>T="int"
 | .ref p=>(T="list"∧∃xs,SqL K H p xs)∨(T="tuple"∧∃o,K.lookup p=some o∧o.cls=.type "tuple"∧o.dict=none) ∨
   (T="dict"∧((∃kvs,H p=some (.dK kvs))∨∃kvs,H p=some (.dT kvs)))∨(T="set"∧∃S n,H p=some (.set S n))
 | _=>False
theorem vi {pins:List (Addr×Obj)} {σ:St} {H:Hp} {s:Shared} {T:String} {x:V} {v:Value} (I:Inv X pins σ H s) (r:RelV x v) (ty:tyV X.K T x H) :
  s.TypeIs v T∧∀a,v=.ref a→∃ob,s.heap.get? a=some ob∧ob.dict=none:=by
 cases x with
 | str z =>
  obtain ⟨t,rfl⟩:=r
  cases (show T="str" from ty)
  exact ⟨typeIs_str s z t,fun _ e=>nomatch e⟩
 | int i =>
  obtain ⟨t,rfl⟩:=r
  cases (show T="int" from ty)
  exact ⟨typeIs_int s i t,fun _ e=>nomatch e⟩
 | ref p =>
  cases r
  rcases ty with ⟨rfl,xs,hq⟩ | ⟨rfl,o,hk,hc,hd⟩ | ⟨rfl,hk⟩ | ⟨rfl,S,n,hk⟩
  ·obtain ⟨its,_,pl,_⟩:=I.list hq
   refine ⟨pl.isList.typeIs,fun a e=>?_⟩
   cases e
   obtain ⟨o,n,e,c,hd,_⟩:=pl
   exact ⟨o,e,hd⟩
  ·refine ⟨⟨o,I.kIn p o hk,hc⟩,fun a e=>?_⟩
   cases e
   exact ⟨o,I.kIn _ o hk,hd⟩
  ·have z:∃o,s.heap.get? p=some o∧o.ExactDict:=by
    rcases hk with ⟨kvs,hk⟩ | ⟨kvs,hk⟩
    ·obtain ⟨_,_,_,_,o,_,_,e,ex,_⟩:=I.hok p _ hk
     exact ⟨o,e,ex⟩
    ·obtain ⟨_,_,_,_,o,_,_,e,ex,_⟩:=I.hok p _ hk
     exact ⟨o,e,ex⟩
   obtain ⟨o,e,ex⟩:=z
   refine ⟨⟨o,e,ex.1⟩,fun a e2=>?_⟩
   cases e2
   exact ⟨o,e,ex.2.1⟩
  ·obtain ⟨o,_,_,_,e,ex,_⟩:=I.hok p _ hk
   refine ⟨⟨o,e,ex.1⟩,fun a e2=>?_⟩
   cases e2
   exact ⟨o,e,ex.2.1⟩
 | _=>exact False.elim ty
def tBM (K:ai) (T:String) (r:V→List V→Hp→VK→Prop) (to:TE) (t:TA):TE:=fun σ H Q=>to σ H fun x H1=>tyV K T x H1∧t σ H1 fun xs H2=>r x xs H2 Q
variable {o e:Expr} {es:List Expr} {to:TE} {t:TA} {name:Str} {apos cpos:Pos} {T id:String} {r:V→List V→Hp→VK→Prop}
theorem gC (pa:PlainAttrs T) (slot:Slot T name id) (hty:typeOf (.builtin id)=pure (.type "method_descriptor")) (hm:MtR X id r) (ho:PE X o to) (ha:PA X (e::es) t)
  (hbase:attributeBase o name X.env (eval o X.env)=eval o X.env:=by rfl)
  (hfew:((backTo cpos (starEach (e::es) X.env)).all (fun x=>!x.1)&&(backToKw cpos (keywordEach [] X.env)).all (fun x=>x.1.isSome)
   && decide ((e::es).length+([]:List Keyword).length+(if ([]:List Keyword).isEmpty then 0 else 1)<30))=true:=by rfl)
  (hline:(apos.endLine==cpos.line)=true:=by rfl) (hs:starEach (e::es) X.env=(false,eval e X.env)::starEach es X.env:=by rfl) (hplain:(backTo cpos (starEach es X.env)).any (·.1)=false:=by rfl) :
  PE X (.Call (.Attribute o name apos) (e::es) [] cpos) (tBM X.K T r to t):=by
 intro pins s σ H Q I h
 refine wpAny_Call_method_late hbase hfew hline rfl (thn (ho pins s σ H _ I h) fun v s1 ⟨x,H1,I1,r1,ty,q1⟩=>?_)
 obtain ⟨h1,h2⟩:=vi I1 r1 ty
 refine ⟨T,id,pa,slot,hty,h1,h2,?_⟩
 have hA:=ha cpos pins s1 σ H1 _ I1 q1
 rw [hs] at hA ⊢
 refine Calls.callWith_builtin (by show (false||(backTo cpos (starEach es X.env)).any (·.1))=false;rw [hplain]<;>rfl) (Calls.evalArgs_plain ?_)
 exact thn hA fun us s2 ⟨vs,H2,I2,r2,q2⟩=>hm pins s2 σ H2 x vs v us Q I2 r1 r2 q2
end
end L2
namespace L2
open PySem PySem.Spec PyProof.Rows
def MtM (X:Cx) (id:String) (r:V→List V→Hp→VK→Prop):Prop :=
 ∀(pins:List (Addr×Obj)) (s:Shared) (σ:St) (H:Hp) (x:V) (xs:List V) (v:Value) (us:List Value) (Q:VK),Inv X pins σ H s→RelV x v→Vals xs us→r x xs H Q →
  wpAny (model X.prog X.w) X.A (call (.builtin id) (v::us)) (EP X pins σ Q) X.xe s
theorem Vals.one:∀{x:V} {us:List Value},Vals [x] us→∃u,us=[u]∧RelV x u
 | _,_,.cons r .nil=>⟨_,rfl,r⟩
theorem Vals.eraseIdx:∀{xs:List V} {us:List Value} (i:Nat),Vals xs us→Vals (xs.eraseIdx i) (us.eraseIdx i)
 | _,_,_,.nil=>.nil
 | _,_,0,.cons _ t=>t
 | _,_,i+1,.cons r t=>.cons r (Vals.eraseIdx i t)
theorem Vals.rep {xs:List V} {us:List Value} (h:Vals xs us):∀k:Nat,Vals (az k xs).flatten (az k us).flatten
 | 0=>.nil
 | k+1=>by
  rw [di,di,List.flatten_cons,List.flatten_cons]
  exact Vals.append h (Vals.rep h k)
theorem foldl_rep (its:List Value):∀(k:Nat) (acc:List Value),
  List.foldl (fun x1 x2=>x1++x2) acc.toArray (az k its.toArray)=(acc++(az k its).flatten).toArray
 | 0,acc=>by simp
 | k+1,acc=>by
  have e:acc.toArray++its.toArray=(acc++its).toArray:=by simp
  have e2:(acc++its)++(az k its).flatten=acc++(az (k+1) its).flatten:=by
   rw [di,List.flatten_cons,eK]
  rw [←e2,←foldl_rep its k (acc++its),←e,di,List.foldl_cons]
section
variable {X:Cx} {pins:List (Addr×Obj)} {σ:St} {H:Hp} {s:Shared} {l b:Addr} {xs ys zs:List V}
theorem Inv.xg {its its':List Value} {n:Nat} {f:Array Value→Array Value} {t':Nat} (I:Inv X pins σ H s) (hH:H l=some (.lst xs))
  (e:s.heap.get? l=some {cls:=.type "list",data:=.seq its.toArray n}) (hf:f its.toArray=its'.toArray) (hv:Vals ys its') (hz:ys.length≤sizeLine) :
  Inv X pins σ (upd H l (.lst ys)) {s with heap:=s.heap.update l (Obj.mapSeq f),toks:=t'}:=by
 have q:=PySem.IsL.update e f
 rw [hf] at q
 refine I.write (x:=l) (e:=l) (by rw [hH];exact trivial) (.inl rfl) (fun b' u hb hu=>(Heap.get?_update_other s.heap (Obj.mapSeq f) (Ne.symm hb)).trans hu) ⟨_,q⟩ ?_
 exact ⟨hz,its',_,hv,q⟩
theorem Inv.zY {its:List Value} {t':Nat} (I:Inv X pins σ H s) (hv:Vals ys its) (hz:ys.length≤sizeLine) :
  Inv X pins σ (upd H s.heap.objs.size (.lst ys)) {s with heap:=s.heap.push {cls:=.type "list",data:=.seq its.toArray},toks:=t'} :=
 I.laid (fun _ _ q=>au _ q) (aO _) ⟨hz,its,0,hv,aY _ rfl⟩
theorem Inv.fresh (I:Inv X pins σ H s):H s.heap.objs.size=none:=I.hok.fresh (aO _)
theorem Inv.sS (I:Inv X pins σ H s) (hH:H l=some (.lst xs)):xs.length≤sizeLine∧∃(its:List Value) (n:Nat),Vals xs its∧xs.length=its.length∧s.heap.get? l=some {cls:=.type "list",data:=.seq its.toArray n}:=by
 obtain ⟨z,its,n,r,e⟩:=I.hok l _ hH
 exact ⟨z,its,n,r,r.length,e⟩
theorem nh {n:Nat} (h:n≤sizeLine):Builtin.List.listTooLong n=false:=by
 unfold Builtin.List.listTooLong
 exact decide_eq_false (by omega)
end
section
variable {X:Cx}
def tV:V→List V→Hp→VK→Prop:=fun x vs H Q=>∃l xs y,x=.ref l∧vs=[y]∧H l=some (.lst xs)∧xs.length<sizeLine∧Q .non (upd H l (.lst (xs++[y])))
theorem eI:MtM X "list.append" tV:=by
 intro pins s σ H x vs v us Q I rx rv h
 obtain ⟨l,xs,y,rfl,rfl,hH,hz,q⟩:=h
 cases rx
 obtain ⟨u,rfl,ru⟩:=rv.one
 obtain ⟨z,its,n,r,hl,e⟩:=I.sS hH
 refine call_meets F.slot_list_append ⟨_,e,rfl⟩ F.entry_list_append (F.args_list_append_2 _ _) (PySem.list_append l its.toArray n u (by rw [aT];omega)) ⟨e,?_⟩
 refine ⟨.non,_,I.xg (its':=its++[u]) hH e (by simp) (r.append (.cons ru .nil)) ?_,rfl,q⟩
 rw [aw,bI]
 omega
def tU:V→List V→Hp→VK→Prop:=fun x vs H Q=>∃l b xs zs,x=.ref l∧vs=[.ref b]∧H l=some (.lst xs)∧H b=some (.lst zs)∧xs.length+zs.length≤sizeLine∧Q .non (upd H l (.lst (xs++zs)))
theorem jr:MtM X "list.extend" tU:=by
 intro pins s σ H x vs v us Q I rx rv h
 obtain ⟨l,b,xs,zs,rfl,rfl,hH,hB,hz,q⟩:=h
 cases rx
 obtain ⟨u,rfl,ru⟩:=rv.one
 cases ru
 obtain ⟨z,its,n,r,hl,e⟩:=I.sS hH
 obtain ⟨z2,its2,n2,r2,hl2,e2⟩:=I.sS hB
 have hsz:its.toArray.size+its2.toArray.size≤sizeLine:=by rw [aT,aT];omega
 have hlong:¬(!its.toArray.isEmpty&&Builtin.List.listTooLong (its.toArray.size+its2.toArray.size))=true:=by
  rw [nh hsz,dm]
  exact aV
 refine call_meets F.slot_list_extend ⟨_,e,rfl⟩ F.entry_list_extend (F.args_list_extend_2 _ _)
  (AutoSeq1.list_extend_list_list_0 l its.toArray n b its2.toArray n2 hlong (by rw [aT];omega) (by omega)) ⟨e,e2,?_⟩
 refine ⟨.non,_,I.xg (its':=its++its2) hH e (by simp) (r.append r2) ?_,rfl,q⟩
 rw [aw]
 omega
def AZ:R2:=fun x y H Q=>∃l b xs zs,x=.ref l∧y=.ref b∧H l=some (.lst xs)∧H b=some (.lst zs)∧xs.length+zs.length≤sizeLine∧∀p,H p=none→Q (.ref p) (upd H p (.lst (xs++zs)))
theorem gd:OpR X (binaryOp .Add) AZ:=by
 intro pins s σ H x y v u Q I rx ry h
 obtain ⟨l,b,xs,zs,rfl,rfl,hH,hB,hz,q⟩:=h
 cases rx
 cases ry
 obtain ⟨z,its,n,r,hl,e⟩:=I.sS hH
 obtain ⟨z2,its2,n2,r2,hl2,e2⟩:=I.sS hB
 refine PySem.P.add_list e e2 ?_ (by rw [aT,aT];omega)
 have ea:its.toArray++its2.toArray=(its++its2).toArray:=by simp
 rw [ea]
 exact ⟨.ref _,_,I.zY (t':=s.toks) (r.append r2) (by rw [aw];omega),rfl,q _ I.fresh⟩
def AU:R2:=fun x y H Q=>∃l k xs,x=.ref l∧y=.int k∧H l=some (.lst xs)∧-(2^63)≤k∧k<2^63∧xs.length*k.toNat≤sizeLine ∧
 ∀p,H p=none→Q (.ref p) (upd H p (.lst (az k.toNat xs).flatten))
theorem len_rep {α:Type} (xs:List α) (k:Nat):(az k xs).flatten.length=k*xs.length:=by
 induction k with
 | zero=>simp
 | succ k ih=>rw [di,List.flatten_cons,aw,ih,Nat.succ_mul,Nat.add_comm]
theorem iA:OpR X (binaryOp .Mult) AU:=by
 intro pins s σ H x y v u Q I rx ry h
 obtain ⟨l,k,xs,rfl,rfl,hH,h1,h2,hz,q⟩:=h
 cases rx
 obtain ⟨t,rfl⟩:=ry
 obtain ⟨z,its,n,r,hl,e⟩:=I.sS hH
 have hlen:its.toArray.size*k.toNat≤sizeLine:=by rw [aT,←hl];exact hz
 have hcap:¬its.toArray.size*k.toNat>(2^63-1)/8:=by
  have:(sizeLine:Nat)≤(2^63-1)/8:=by decide
  omega
 have hfit:¬(!Builtin.List.listFitsIndex k)=true:=by
  rw [fitsIndex_both h1 h2]
  exact aV
 have hlong:¬Builtin.List.listTooLong (its.toArray.size*k.toNat)=true:=by
  rw [nh hlen]
  exact aV
 have hnew:List.foldl (fun x1 x2=>x1++x2) #[] (az (if its.toArray.isEmpty=true then 0 else k.toNat) its.toArray)=(az k.toNat its).flatten.toArray:=by
  have f0:∀m:Nat,List.foldl (fun x1 x2=>x1++x2) #[] (az m its.toArray)=(az m its).flatten.toArray:=fun m=>by
   have:=foldl_rep its m []
   rw [List.nil_append] at this
   exact this
  rw [f0]
  cases its with
  | nil=>simp
  | cons a r'=>rw [if_neg (by simp)]
 refine wpAny_binaryOp_repeat_ref (T:="list") (U:="int") (by decide) ⟨_,e,rfl⟩ (fun s'=>typeIs_int s' k t) noFill_list_mul F.fills_int_mul F.slot_int_rmul repeat_list F.slot_int_index.lookup
  (call_meets F.slot_int_rmul (typeIs_int s k t) F.entry_int_rmul (F.args_int_rmul_2 _ _) (int___rmul___int_list k t l its.toArray n)
   ⟨e,rfl,⟨_,e,rfl⟩,call_meets F.slot_list_mul ⟨_,e,rfl⟩ F.entry_list_mul (F.args_list_mul_2 _ _) (AutoListH.list___mul___list_int_3 l its.toArray n k t hfit hcap hlong) ⟨e,?_⟩⟩)
 rw [hnew]
 exact ⟨.ref _,_,I.zY (t':=s.toks) (r.rep k.toNat) (by rw [len_rep,Nat.mul_comm];exact hz),rfl,q _ I.fresh⟩
end
section
variable {prog:Program} {w:World} {A:Around} {E:Value→Shared→Prop} {s:Shared}
end
section
variable {X:Cx}
end
end L2
namespace Att
open PySem PySem.W PySem.Calls PyProof.Rows
theorem jz {P:Params} {h:Heap}:∀(ns:List Int) (vs:List Value),WellAll P h vs (ns.map WData.int)→IntsAre vs ns:=by
 intro ns
 induction ns with
 | nil =>
  intro vs w
  rw [fT] at w
  cases w
  exact .nil
 | cons n ns ih =>
  intro vs w
  rw [bf] at w
  cases w with
  | cons a b =>
   cases a
   exact .cons _ _ (ih _ b)
theorem pe {l:OpenLaw} {n:Nat} (hn:l.most=some n) {P:Params} {h:Heap} {args:List WData} {vals:List Value}
  (hpre:l.row.toRowW.claim.pre args=true) (hwl:WellAll P h vals args) :
  ∃a vs ns,vals=[Value.ref a]∧args=[WData.list (ns.map WData.int)]∧h.get? a=some {cls:=.type "list",data:=.seq vs.toArray}∧IntsAre vs ns∧ns.length≤n:=by
 have hsh:WShape.hasAll [] args [.list .int]=true:=(pre_splitW hpre).1
 have hc:l.pre.holds [] {args:=args}=true:=(pre_splitW hpre).2
 obtain ⟨d,r,rfl,h1,h2⟩:=hasAllW_cons hsh
 obtain rfl:=hasAllW_nil h2
 obtain ⟨xs,rfl,h3⟩:=hasW_list h1
 obtain ⟨ns,rfl⟩:=items_int h3
 have hlen:ns.length≤n:=by
  unfold OpenLaw.pre at hc
  have h4:(WTm.not (.lt (.lit (.int (n:Int))) (.len (.arg 0)))).holds [] {args:=[.list (ns.map .int)]}=true:=by
   have h4:=(holds_andW hc).1
   rw [hn] at h4
   exact h4
  have h5:=condW_of h4 (w_not (w_lt w_lit (w_len_list (w_arg rfl))))
  rw [ae] at h5
  refine Nat.le_of_not_lt fun q=>?_
  have q':(n:Int)<((ns.length:Nat):Int):=by omega
  first
   | (rw [decide_eq_true q'] at h5;exact absurd h5 (by decide))
   | (simp at h5;omega)
 cases hwl with
 | cons w1 w2 =>
  cases w2
  cases w1 with
  | list ho hall=>exact ⟨_,_,ns,rfl,rfl,ho,jz ns _ hall,hlen⟩
theorem pB (l:OpenLaw) (args:List WData):l.row.toRowW.claim.post args (.bool true) args=true :=
 postW_of (r:=l.row.toRowW) (X:=(true==true))
  (show WShape.has [] (.bool true) .bool=true by first | rfl | decide | simp [WShape.has,WShape.arms,WShape.armsAll])
  (show (WTm.eq .res (.lit (.bool true))).value [] {args:=args,res:=some (.bool true),after:=args}=some (.bool (true==true)) from w_eq_bool (w_res rfl) w_lit) rfl
theorem mI {l:OpenLaw} {n:Nat} {q:Program} {loose:List Str} {XP:(Str→Option Value)→Heap→Prop} {YP:World→Heap→Prop} {d:DefRec}
  (hn:l.most=some n) (hdf:d.params.defaults=[])
  (call:∀(w:World) (s₀ s₁:Shared) (mg mb:Str→Option Value) (fa:Addr) (o:Obj) (pm cd doc:Value) (a:Addr) (vs:List Value) (ns:List Int),
   Ground q loose [] XP w s₀ mg mb s₁.heap→YP w s₁.heap →
   s₁.heap.get? fa=some o→o.data=.func (docDef d.name d.params d.body d.scope pm cd doc)→s₁.heap.CodeRec cd d.name→mg d.name=some (.ref fa) →
   s₁.heap.get? a=some {cls:=.type "list",data:=.seq vs.toArray}→IntsAre vs ns→ns.length≤n→s₁.gens=#[] →
   codeAny (model l.prog w) callerA (.call (.ref fa) ⟨[.ref a],[]⟩) (fun r s'=>r=.ok (.ret (.bool true))∧OldK s₁.heap s'.heap∧s'.os=s₁.os∧AllBare s'.gens) s₁) :
  WalkO q loose XP YP l.row.toRowW d [] (fun f vs=>PySem.call f vs):=by
 intro w s₀ s₁ mg mb G Y fa o pm cd doc dV kV ho hd hcd hD hmg hg args vals as hpre hlay hrd hwl hlo
 obtain rfl:dV=.none:=Dflts.none hD hdf
 obtain rfl:kV=.none:=Dflts.noKw hD
 obtain ⟨a,vs,ns,rfl,rfl,hobj,hints,hlen⟩:=pe hn hpre hwl
 refine enter_call (codeAny_mono (call w s₀ s₁ mg mb fa o pm cd doc a vs ns G Y ho (fd_plain hd) hcd hmg hobj hints hlen hg) fun r s' hq=>?_)
 obtain ⟨rfl,h2,h3,h4⟩:=hq
 exact ⟨.inl ⟨.bool true,.bool true,[],rfl,fun _=>rfl,.bool true,pB l _,fun _=>⟨List.Pairwise.nil,fun _ hm=>(nomatch hm)⟩⟩,h2,h3,h4⟩
section
variable {prog:Program} {w:World} {A:Around} {E:Value→Shared→Prop} {s:Shared} {K:Frag}
end
end Att
namespace L2
open PySem PySem.Spec PyProof.Rows
theorem kH:∀{vs:List Value} {ns:List Int},IntsAre vs ns→Vals (ns.map V.int) vs
 | _,_,.nil=>.nil
 | _,_,.cons n t h=>.cons ⟨t,rfl⟩ (kH h)
def zF (H:Hp):Prop:=∀b,H b=none∨∃o xs,H b=some (.frz o (.lst xs))
theorem rK {P:Program} {w:World} {K:ai} {mg mb:Str→Option Value} {CX:CXT} {k:Nat} {fa a:Addr} {fd:FuncData} {x:Str} {sp:Sp} {s₁:Shared} {vs:List Value} {ns:List Int}
  (KX:K.In s₁.heap) (hns:s₁.heap.Ns mainGlobals mg) (hb:s₁.heap.Ns builtinsNs mb) (hbb:∀x:Str,x≠"__name__"→mb x=bootBuiltins x) (hlim:s₁.heap.NoLimit) (hg:s₁.gens=#[])
  (ha:s₁.heap.get? a=some {cls:=.type "list",data:=.seq vs.toArray}) (hi:IntsAre vs ns) (hl:ns.length≤sizeLine) (hr:iw k callerA)
  (F:∀base:Heap,K.In base→base.Ns mainGlobals mg→fm P w K mg base CX k fa fd [x] sp) (hbind:∀(s:Shared) (u:Value),BindsTo s fd ⟨[u],[]⟩ [(x,u)])
  (hsp:∀H:Hp,zF H→SqL K H a (ns.map V.int)→sp [.ref a] H (fun v _=>v=.bl true) fun _ _ _=>False)
  (hCX:∀H e s',CX [] H s₁ (fun _ _ _=>False) e s'→False) :
  codeAny (model P w) callerA (.call (.ref fa) ⟨[.ref a],[]⟩) (fun r s'=>r=.ok (.ret (.bool true))∧OldK s₁.heap s'.heap∧s'.os=s₁.os∧AllBare s'.gens) s₁:=by
 have rv:=kH hi
 have lenV:=hi.length
 have core:∀H:Hp,zF H→SqL K H a (ns.map V.int)→HOk P w H s₁.heap→(∀b,H b≠none→b=a)→(H a≠none→K.lookup a=none) →
   codeAny (model P w) callerA (.call (.ref fa) ⟨[.ref a],[]⟩) (fun r s'=>r=.ok (.ret (.bool true))∧OldK s₁.heap s'.heap∧s'.os=s₁.os∧AllBare s'.gens) s₁:=by
  intro H hO hS hok hA hK
  have base_of:∀{b:Addr} {o:Obj},s₁.heap.get? b=some o→H b=none→(qe s₁.heap H).get? b=some o:=fun e n=>rQ e n
  have noA:∀{b:Addr} {o:Obj} {es:Array DictEntry} {ep:Nat},s₁.heap.get? b=some o→o.data=.dict es ep→H b=none:=fun {b o es ep} e d=>by
   cases q:H b with
   | none=>rfl
   | some u =>
    have e':b=a:=hA b (by rw [q];simp)
    subst e'
    rw [ha] at e;cases e
    have d':Data.seq vs.toArray _=Data.dict es ep:=d
    cases d'
  have nsK:∀{b:Addr} {m:Str→Option Value},s₁.heap.Ns b m→(qe s₁.heap H).Ns b m:=fun {b m} ⟨o,es,ep,e,d,r⟩=>⟨o,es,ep,base_of e (noA e d),d,r⟩
  have hKb:K.In (qe s₁.heap H):=fun b o e=>base_of (KX b o e) (by
   cases q:H b with
   | none=>rfl
   | some u =>
    have e':b=a:=hA b (by rw [q];simp)
    subst e'
    rw [hK (by rw [q];simp)] at e;cases e)
  have hM:Mod K mg (qe s₁.heap H):=⟨hKb,nsK hns,⟨mb,nsK hb,hbb⟩,let ⟨mc,h1,h2⟩:=hlim;⟨mc,nsK h1,h2⟩⟩
  have e0:qW P w K mg (qe s₁.heap H) callerA [] s₁ H:=⟨rfl,hM,fun b o e=>uk e,fS (qd _ _),trivial,fun b hb=>absurd (show b∈([]:List Addr) from hb) (by simp),hok,.of_eq hg⟩
  refine codeAny_mono ((F _ hKb (nsK hns)).run callerA [] s₁ H ⟨[.ref a],[]⟩ [.ref a] [.ref a] _ _ hr e0 (hbind s₁ (.ref a)) (.cons rfl .nil) (hsp H hO hS)) fun r s' h=>?_
  cases r with
  | error e=>exact (hCX H e s' h).elim
  | ok fl =>
   cases fl with
   | next=>exact False.elim h
   | brk=>exact False.elim h
   | cont=>exact False.elim h
   | ret u =>
    obtain ⟨v,H',os,bare,un,hok',r',q⟩:=h
    have q':v=.bl true:=q
    subst q'
    obtain rfl:u=Value.bool true:=r'
    refine ⟨rfl,OldK.of_keep fun b o e=>?_,os,bare⟩
    cases q:H b with
    | none=>exact un.keep b o e q (by intro z;exact absurd (show b∈([]:List Addr) from z) (by simp)) (by simp)
    | some u =>
     rcases hO b with z | ⟨ob,xs,z⟩
     ·rw [q] at z;cases z
     ·have z2:=un.frzs b ob _ z
      obtain ⟨e1,_⟩:=hok b _ z
      obtain ⟨e2,_⟩:=hok' b _ z2
      rw [e] at e1;cases e1
      exact e2
 cases hk:K.lookup a with
 | some o =>
  have e:=KX a o hk
  rw [ha] at e
  cases e
  refine core (fun _=>none) (fun _=>.inl rfl) (.inr ⟨_,vs.toArray,_,hk,rfl,rfl,rfl,by rw [aT,lenV];exact hl,by simpa using rv⟩) (fun b u z=>by have z':(none:Option HO)=some u:=z;cases z') (fun b z=>absurd rfl z) fun z=>absurd rfl z
 | none =>
  refine core (fun b=>if b=a then some (.frz {cls:=.type "list",data:=.seq vs.toArray} (.lst (ns.map V.int))) else none) (fun b=>?_) (.inl (.inr ⟨{cls:=.type "list",data:=.seq vs.toArray},if_pos rfl⟩)) (fun b u z=>?_) (fun b z=>?_) fun _=>hk
  ·by_cases hb:b=a
   ·exact .inr ⟨_,_,if_pos hb⟩
   ·exact .inl (if_neg hb)
  ·by_cases hb:b=a
   ·have z':=(if_pos hb).symm.trans z
    cases z'
    subst hb
    exact ⟨ha,by rw [ae];exact hl,vs,_,rv,ha⟩
   ·have z':=(if_neg hb).symm.trans z
    cases z'
  ·by_cases hb:b=a
   ·exact hb
   ·exact absurd (if_neg hb) z
end L2
namespace L2
open PySem PySem.Spec PyProof.Rows
theorem tm {l:PySem.W.OpenLaw} {n k:Nat} {q:Program} {loose:List Str} {XP:(Str→Option Value)→Heap→Prop} {YP:World→Heap→Prop} {d:DefRec} {K:Params→ai} {CX:World→CXT} {sp:World→Sp} {x:Str}
  (hn:l.most=some n) (hn2:n≤sizeLine) (hdf:d.params.defaults=[]) (hr:iw k callerA)
  (hY:∀(w:World) (h:Heap),YP w h→(K w.params).In h)
  (F:∀(w:World) (mg:Str→Option Value) (fa:Addr) (h:Heap),(K w.params).In h→h.Ns mainGlobals mg→mg d.name=some (.ref fa) →
   ∃fd:FuncData,(∀(s:Shared) (u:Value),BindsTo s fd ⟨[u],[]⟩ [(x,u)]) ∧
    ∀base:Heap,(K w.params).In base→base.Ns mainGlobals mg→fm l.prog w (K w.params) mg base (CX w) k fa fd [x] (sp w))
  (hsp:∀(w:World) (H:Hp) (a:Addr) (ns:List Int),ns.length≤n→zF H→SqL (K w.params) H a (ns.map V.int)→sp w [.ref a] H (fun v _=>v=.bl true) fun _ _ _=>False)
  (hCX:∀(w:World) (H:Hp) (s:Shared) (e:Value) (s':Shared),CX w [] H s (fun _ _ _=>False) e s'→False) :
  PySem.W.WalkO q loose XP YP l.row.toRowW d [] (fun f vs=>PySem.call f vs):=by
 refine Att.mI hn hdf fun w s₀ s₁ mg mb fa o pm cd doc a vs ns G Y ho hd hcd hmg hobj hints hlen hg=>?_
 have KX:=hY w _ Y
 obtain ⟨fd,hb,hF⟩:=F w mg fa _ KX G.T.g hmg
 exact rK KX G.T.g G.T.b G.T.builtins G.T.nolimit hg hobj hints (cx hlen hn2) hr hF hb (fun H hO hS=>hsp w H a ns hlen hO hS) fun H e s'=>hCX w H s₁ e s'
end L2
namespace L2
open PySem PySem.Spec PyProof.Rows
def inClass (s:Stmt) (j:Nat):Stmt:=match s with
 | .ClassDef _ _ _ body _ _ _ _ _ _ _=>body.getD j (.Pass ⟨0,0,0,0⟩)
 | _=>.Pass ⟨0,0,0,0⟩
def bW (s:Stmt):Arguments:=match s with
 | .FunctionDef _ a _ _ _ _ _ _ _ _=>a
 | _=>{posonlyargs:=[],args:=[],vararg:=none,kwonlyargs:=[],kw_defaults:=[],kwarg:=none,defaults:=[]}
def bO (s:Stmt):List Stmt:=match s with
 | .FunctionDef _ _ b _ _ _ _ _ _ _=>b
 | _=>[]
def aB (s:Stmt):Scope:=match s with
 | .FunctionDef _ _ _ _ _ _ sc _ _ _=>sc
 | _=>{kind:=.function,names:=[],isGenerator:=false,isCoroutine:=false}
abbrev CX0:CXT:=fun _ _ _ _ _ _=>False
abbrev E0:XK:=fun _ _ _=>False
theorem vN {X:Cx}:Passes CX0 X E0:=fun _ _ _ _ _ _ _ h=>h.elim
structure Fun (K:ai) (x qual:Str) (st:Stmt) (f:Addr) (fd:FuncData):Prop where
 ex:∃(oc:Value) (od:Option Addr) (kV doc pm:Value) (an:Option Addr) (cdv ct:Value) (osl:Array (Option Value)),
  fd=aP x qual (bW st) (bO st) (aB st) .none kV doc pm an cdv ct∧K.lookup f=some ⟨oc,od,.func fd,osl⟩∧aL K cdv qual=true
 kp:aJ K (.ref f)=true
section
variable {P:Program} {w:World} {K:ai} {mg:Str→Option Value} {base:Heap}
theorem Fun.ok {x qual:Str} {st:Stmt} {f:Addr} {fd:FuncData} {N ps:List Str} {k:Nat} {sp:Sp} (F:Fun K x qual st f fd) (S:bS N ps (aB st)) (len:∀vs H Q E,sp vs H Q E→vs.length=ps.length)
  (hbody:∀(cdv:Value) (A:Around) (outer:List Env) (s:Shared) (H:Hp) (vs:List V) (Q:VK) (E:XK),iw k (A.deeper (envOfC qual (aB st) s.heap.objs.size f cdv))→sp vs H Q E →
   ∃t,PSs (oG CX0 P w K mg base N qual (aB st) f cdv A outer s H E).nox (bO st) t∧t {nx:=fun _ H'=>Q .non H',rt:=Q} (start N vs) H):fm P w K mg base CX0 (k+1) f fd ps sp:=by
 obtain ⟨oc,od,kV,doc,pm,an,cdv,ct,osl,rfl,lk,hcd⟩:=F.ex
 refine wj lk hcd S len fun A outer s H vs Q E hr hsp=>?_
 obtain ⟨t,h,q⟩:=hbody cdv A outer s H vs Q E hr hsp
 exact ⟨t,h.nox,q⟩
theorem Fun.binds {x qual:Str} {st:Stmt} {f:Addr} {fd:FuncData} {ps:List Str} (F:Fun K x qual st f fd)
  (h:∀(kV doc pm:Value) (an:Option Addr) (cdv ct:Value) (us:List Value),us.length=ps.length→bindArgs (aP x qual (bW st) (bO st) (aB st) .none kV doc pm an cdv ct) ⟨us,[]⟩=pure (ps.zip us)):Binds K fd ps []:=by
 obtain ⟨oc,od,kV,doc,pm,an,cdv,ct,osl,rfl,lk,hcd⟩:=F.ex
 exact .all (h kV doc pm an cdv ct)
theorem cM {x qual:Str} {st:Stmt} {f:Addr} {oc:Value} {od an:Option Addr} {osl:Array (Option Value)} {kV doc pm cdv ct:Value} (l:K.lookup f=some ⟨oc,od,.func (aP x qual (bW st) (bO st) (aB st) .none kV doc pm an cdv ct),osl⟩)
  (c:aL K cdv qual=true) (k:aJ K (.ref f)=true):Fun K x qual st f (aP x qual (bW st) (bO st) (aB st) .none kV doc pm an cdv ct):=⟨⟨oc,od,kV,doc,pm,an,cdv,ct,osl,rfl,l,c⟩,k⟩
end
theorem i_ {A:Around} {k:Nat} (hr:iw k A):A.units+1<cLine:=Nat.lt_of_le_of_lt (Nat.add_le_add_left (by decide:1≤64) _) hr.units
theorem aE {n:Nat} (h:n≤1000):n<sizeLine:=Nat.lt_of_le_of_lt h (by decide)
section
variable {X:Cx}
theorem pv (i:Nat) {x:Str} {pos:Pos} (hN:X.N[i]?=some x:=by rfl) (hv:Vis X.env.scope x:=by first | exact Or.inl rfl | exact Or.inr (Or.inl rfl) | exact Or.inr (Or.inr rfl)) (hd:(x==("__debug__":Str))=false:=by decide)
  (hcd:(x==("__classdict__":Str))=false:=by decide):PE X (.Name x pos) (zI i):=vL hN hv hd hcd
end
theorem gb {A B:Prop} (h:B):if false=true then A else B:=by
 rw [if_neg aV]
 exact h
theorem ft {A B:Prop} (h:A):if true=true then A else B:=by
 rw [if_pos rfl]
 exact h
theorem fX {c A B:Prop} [Decidable c] (h1:c→A) (h2:¬c→B):if c then A else B:=by
 by_cases h:c
 ·rw [if_pos h]
  exact h1 h
 ·rw [if_neg h]
  exact h2 h
def bx (H H':Hp):Prop:=∀b o,H b=some o→H' b=some o
theorem bx.refl (H:Hp):bx H H:=fun _ _ h=>h
theorem bx.trans {H H1 H2:Hp} (a:bx H H1) (b:bx H1 H2):bx H H2:=fun c o h=>b c o (a c o h)
theorem bx.seq {K:ai} {H H':Hp} {a:Addr} {xs:List V} (e:bx H H') (h:SqL K H a xs):SqL K H' a xs:=by
 rcases h with (h | ⟨o,h⟩) | h
 ·exact .inl (.inl (e _ _ h))
 ·exact .inl (.inr ⟨o,e _ _ h⟩)
 ·exact .inr h
end L2
namespace L2
open PySem PySem.Spec PyProof.Rows
def lQ (en:Env):List (Str×NameKind)→List (Str×Addr)→List (Str×Addr)
 | [],cs=>cs
 | (n,k)::r,cs=>if (k==NameKind.free)=true then lQ en r ((n,(en.cells.lookup n).getD 0)::cs) else lQ en r cs
theorem rZ {en:Env}:∀(ns:List (Str×NameKind)) (cs:List (Str×Addr)),(∀y∈ns,y.2=.free→(en.cells.lookup y.1).isSome=true) →
  (forIn ns cs fun (y:Str×NameKind) (r:List (Str×Addr))=>(if (y.2==NameKind.free)=true then (cellOf en y.1 >>= fun a=>pure (ForInStep.yield ((y.1,a)::r))) else pure (ForInStep.yield r):Sem (ForInStep (List (Str×Addr)))))=pure (lQ en ns cs):=by
 intro ns
 induction ns with
 | nil=>intro cs _;rfl
 | cons y r ih =>
  intro cs h
  obtain ⟨n,k⟩:=y
  rw [List.forIn_cons]
  have hr:=fun cs=>ih cs fun y hy=>h y (aW _ hy)
  dsimp only
  by_cases hk:(k==NameKind.free)=true
  ·have hk':k=.free:=by simpa using hk
   obtain ⟨a,ha⟩:=Option.isSome_iff_exists.mp (h (n,k) aU hk')
   have e1:cellOf en n=pure a:=by unfold cellOf;dsimp only at ha;rw [ha]
   have e2:lQ en ((n,k)::r) cs=lQ en r ((n,a)::cs):=by
    show (if (k==NameKind.free)=true then _ else _)=_
    rw [if_pos hk];dsimp only at ha;rw [ha];rfl
   rw [if_pos hk,e1,e2]
   simp only [pure_bind]
   exact hr _
  ·have e2:lQ en ((n,k)::r) cs=lQ en r cs:=by
    show (if (k==NameKind.free)=true then _ else _)=_
    rw [if_neg hk]
   rw [if_neg hk,e2]
   simp only [pure_bind]
   exact hr _
theorem iG {en:Env} {sc:Scope} (h:∀y∈sc.names,y.2=.free→(en.cells.lookup y.1).isSome=true):closureFor sc en=pure (lQ en sc.names []):=by
 have q:=rZ (en:=en) sc.names [] h
 unfold closureFor
 refine Eq.trans ?_ (show (forIn sc.names ([]:List (Str×Addr)) _ >>= pure)=_ by rw [q];rfl)
 rfl
theorem kC {en:Env}:∀(ns:List (Str×NameKind)) (cs:List (Str×Addr)),(∀y∈ns,y.2=.free→(en.cells.lookup y.1).isSome=true)→(∀x c,cs.lookup x=some c→en.cells.lookup x=some c) →
  ∀x c,(lQ en ns cs).lookup x=some c→en.cells.lookup x=some c
 | [],cs,_,hc,x,c,e=>hc x c e
 | (n,k)::r,cs,h,hc,x,c,e=>by
  have hr:∀y∈r,y.2=.free→(en.cells.lookup y.1).isSome=true:=fun y hy=>h y (aW _ hy)
  unfold lQ at e
  by_cases hk:(k==NameKind.free)=true
  ·rw [if_pos hk] at e
   refine kC r _ hr (fun x' c' e'=>?_) x c e
   rw [cP] at e'
   cases hx:x'==n with
   | true =>
    rw [hx] at e'
    have hx':x'=n:=by simpa using hx
    obtain ⟨a,ha⟩:=Option.isSome_iff_exists.mp (h (n,k) aU (by simpa using hk))
    dsimp only at ha e'
    rw [ha] at e'
    rw [hx',ha]
    exact e'
   | false=>rw [hx] at e';exact hc x' c' e'
  ·rw [if_neg hk] at e
   exact kC r cs hr hc x c e
theorem jh {en:Env}:∀(ns:List (Str×NameKind)) (cs:List (Str×Addr)) (x:Str),((x,NameKind.free)∈ns∨(cs.lookup x).isSome=true)→((lQ en ns cs).lookup x).isSome=true
 | [],cs,x,h=>by
  rcases h with h | h
  ·cases h
  ·exact h
 | (n,k)::r,cs,x,h=>by
  unfold lQ
  by_cases hk:(k==NameKind.free)=true
  ·rw [if_pos hk]
   refine jh r _ x ?_
   rcases h with h | h
   ·rcases bq.mp h with e | h
    ·right
     rw [cP,show (x==n)=true by simpa using congrArg Prod.fst e]
     rfl
    ·exact .inl h
   ·right
    rw [cP]
    cases hx:x==n with
    | true=>rfl
    | false=>exact h
  ·rw [if_neg hk]
   refine jh r _ x ?_
   rcases h with h | h
   ·rcases bq.mp h with e | h
    ·exfalso
     have e':NameKind.free=k:=congrArg Prod.snd e
     rw [←e'] at hk
     exact hk (by decide)
    ·exact .inl h
   ·exact .inr h
theorem iU {en:Env}:∀{ns:List (Str×NameKind)} {x:Str},ns.lookup x=some .free →
  (ns.map fun (n,k)=>if (k==NameKind.free&&en.scope.kind==.function&&en.kindOf n==some .cell) then (n,NameKind.cell) else (n,k)).lookup x=some .cell ∨
  (ns.map fun (n,k)=>if (k==NameKind.free&&en.scope.kind==.function&&en.kindOf n==some .cell) then (n,NameKind.cell) else (n,k)).lookup x=some .free
 | [],_,h=>by simp at h
 | (n,k)::r,x,h=>by
  have ih:=@iU en r x
  rw [bf]
  cases hx:x==n with
  | true =>
   simp only [cP,hx] at h
   cases h
   dsimp only
   split
   ·left;simp [cP,hx]
   ·right;simp [cP,hx]
  | false =>
   simp only [cP,hx] at h
   dsimp only
   split
   ·simp only [cP,hx];exact ih h
   ·simp only [cP,hx];exact ih h
theorem iN {en:Env}:∀{ns:List (Str×NameKind)} {x:Str} {q:NameKind},(q=.cell∨q=.free) →
  (ns.map fun (n,k)=>if (k==NameKind.free&&en.scope.kind==.function&&en.kindOf n==some .cell) then (n,NameKind.cell) else (n,k)).lookup x=some q→(x,NameKind.free)∈ns∨(x,NameKind.cell)∈ns
 | [],_,_,_,h=>by simp at h
 | (n,k)::r,x,q,hq,h=>by
  have ih:=@iN en r x q hq
  rw [bf] at h
  dsimp only at h
  by_cases hc:(k==NameKind.free&&en.scope.kind==.function&&en.kindOf n==some .cell)=true
  ·rw [if_pos hc] at h
   have hk:k=.free:=by
    simp only [cK] at hc
    simpa using hc.1.1
   cases hx:x==n with
   | true =>
    have hx':x=n:=by simpa using hx
    exact .inl (by rw [hx',hk];exact aU)
   | false =>
    simp only [cP,hx] at h
    rcases ih h with z | z
    ·exact .inl (aW _ z)
    ·exact .inr (aW _ z)
  ·rw [if_neg hc] at h
   cases hx:x==n with
   | true =>
    have hx':x=n:=by simpa using hx
    simp only [cP,hx] at h
    cases h
    rcases hq with z | z
    ·exact .inr (by rw [hx',←z];exact aU)
    ·exact .inl (by rw [hx',←z];exact aU)
   | false =>
    simp only [cP,hx] at h
    rcases ih h with z | z
    ·exact .inl (aW _ z)
    ·exact .inr (aW _ z)
abbrev blk (X:Cx) (N':List Str) (sc:Scope) (C:Addr) (s2:Shared) (H2:Hp) (ex:List Addr):Cx :=
 {X with N:=N',s₀:=s2,H₀:=H2,env:=compEnvC sc (lQ X.env sc.names []) C X.env,outer:=X.stack,stack:=X.stack,ex:=ex,fn:=fun _=>false,xe:=fun _ _=>False}
def cst (σ:St) (nl:Nat) (js:List Nat):St:=az nl none++js.map fun j=>(σ[j]?).getD none
structure hJ (X:Cx) (sc:Scope) (N':List Str) (nl:Nat) (js:List Nat):Prop where
 kind:sc.kind=.function
 nocell:∀y∈sc.names,y.2≠.cell
 locs:∀y∈sc.names,y.2=.local→sc.names.lookup y.1=some .local
 frees:∀y∈sc.names,y.2=.free→X.env.kindOf y.1=some .cell∨X.env.kindOf y.1=some .free
 cap:∀(i j:Nat),js[i]?=some j→∃x,N'[nl+i]?=some x∧X.N[j]?=some x∧sc.names.lookup x=some .free
 len:N'.length=nl+js.length
def Wk (σ0 σ2:St):Prop:=σ0.length=σ2.length∧∀(i:Nat) v,σ0[i]?=some (some v)→σ2[i]?=some (some v)
def PIf (X:Cx) (ifs:List Expr) (t:TT):Prop :=
 ∀(pins:List (Addr×Obj)) (s:Shared) (σ:St) (H:Hp) (Q:Bool→Hp→Prop),Inv X pins σ H s→t σ H Q →
  wpAny (model X.prog X.w) X.A (forIn ifs true fun c r=>if r=true then do let ok ←isTrue c X.env (eval c X.env);pure (ForInStep.yield ok) else pure (ForInStep.yield r)) (TP X pins σ Q) X.xe s
theorem dG {X:Cx}:PIf X [] (fun _ H Q=>Q true H):=fun _ _ _ H _ I h=>wpAny_tests_nil ⟨H,I,h⟩
theorem gY {X:Cx} {c:Expr} {t:TT} (h:PT X c t):PIf X [c] t:=fun pins s σ H Q I hw=>wpAny_tests_one (h pins s σ H Q I hw)
section
variable {X:Cx} {sc:Scope} {N':List Str} {nl:Nat} {js:List Nat} {pins:List (Addr×Obj)} {σ:St} {H:Hp} {s:Shared}
theorem hJ.zA (S:hJ X sc N' nl js) (ok:X.Ok):∀y∈sc.names,y.2=.free→(X.env.cells.lookup y.1).isSome=true:=fun y hy hf=>by
 obtain ⟨c,e⟩:=ok.has y.1 (S.frees y hy hf)
 rw [e];rfl
theorem hJ.sub (S:hJ X sc N' nl js) (ok:X.Ok) {x:Str} {c:Addr} (e:(lQ X.env sc.names []).lookup x=Option.some c):X.env.cells.lookup x=Option.some c :=
 kC sc.names [] (S.zA ok) (fun _ _ z=>by simp at z) x c e
theorem wF (S:hJ X sc N' nl js) (I:Inv X pins σ H s) {fp:List Addr} {C:Addr} (hf:∀b∈fp,lO X pins H b) (hC:s.heap.objs.size≤C) (hfC:∀b∈fp,b≠C):(blk X N' sc C s H fp).Ok where
 mod:=I.ok.mod
 kind:=S.kind
 glob:=I.ok.glob
 blt:=I.ok.blt
 above:=hC
 inj:=fun x y c h1 h2=>I.ok.inj x y c (S.sub I.ok h1) (S.sub I.ok h2)
 has:=fun x hx=>by
  have hm:(x,NameKind.free)∈sc.names∨(x,NameKind.cell)∈sc.names:=by
   rcases hx with z | z
   ·exact iN (.inl rfl) z
   ·exact iN (.inr rfl) z
  rcases hm with z | z
  ·exact Option.isSome_iff_exists.mp (jh sc.names [] x (.inl z))
  ·exact absurd rfl (S.nocell _ z)
 cab:=fun x c h _=>absurd (show false=true from h) aV
 hd:=I.ok.hd
 frames:=I.ok.frames
 stk:=.inl rfl
 exf:=fun b hb=>⟨hfC b hb,fun x c e=>(hf b hb).2.2.2.2.1 x c (S.sub I.ok e)⟩
 bs:=I.bs
 bsz:=cx I.ok.bsz I.sz
 noex:=fun b o e hb=>by
  rcases (hf b hb).2.2.2.1 with z | z
  ·exact I.ok.noex b o e z
  ·exact absurd (bp (aR (I.ok.bs b o e).1) z) (cS _)
 exfs:=fun b hb hs=>by
  rcases bq.mp (I.iS b hs) with z | z
  ·exact (hf b hb).2.1 z
  ·exact (hf b hb).2.2.1 z
 kB:=I.stack
 frf:=I.lS
theorem uI (hl:N'.length=nl+js.length):(cst σ nl js).length=N'.length:=by
 unfold cst
 rw [aw,bg,ae,hl]
theorem uJ {i:Nat} {v:V} (e:(cst σ nl js)[i]?=some (some v)):∃k j,i=nl+k∧js[k]?=some j∧σ[j]?=some (some v):=by
 unfold cst at e
 by_cases hi:i<nl
 ·rw [cE (by simpa using hi),cq] at e
  rw [if_pos hi] at e
  cases e
 ·rw [List.getElem?_append_right (by simpa using hi),bg,br] at e
  cases q:js[i-nl]? with
  | none=>rw [q] at e;cases e
  | some j =>
   rw [q] at e
   have e':(σ[j]?).getD none=some v:=by simpa using e
   refine ⟨i-nl,j,by omega,q,?_⟩
   cases z:σ[j]? with
   | none=>rw [z] at e';cases e'
   | some w'=>rw [z] at e';simpa using e'
theorem uL (S:hJ X sc N' nl js) (I:Inv X pins σ H s) {fp:List Addr} {C:Addr} {h':Heap} {t':Nat} {m:Str→Option Value} (hf:∀b∈fp,lO X pins H b) (hC:s.heap.objs.size≤C) (hfC:∀b∈fp,b≠C)
  (k:∀b u,s.heap.get? b=some u→h'.get? b=some u) (hn:h'.Ns C m):Inv (blk X N' sc C s H fp) pins (cst σ nl js) H {s with heap:=h',toks:=t'} where
 ok:=wF S I hf hC hfC
 os:=rfl
 bare:=I.bare
 base:=Un.kept k
 loc:=by
  refine ⟨m,hn,fun i x v e1 e2 e3=>?_⟩
  obtain ⟨q,j,rfl,hj,hv⟩:=uJ e2
  obtain ⟨x',n1,n2,n3⟩:=S.cap q j hj
  have ex:x'=x:=by
   have z:N'[nl+q]?=some x:=e1
   rw [n1] at z;exact Option.some.inj z
  subst ex
  obtain ⟨m0,_,hl⟩:=I.loc
  have kf:=S.frees (x',.free) (dC n3) rfl
  obtain ⟨u,r,l⟩:=hl j x' v n2 hv (by
   rcases kf with z | z
   ·exact .inr (.inl z)
   ·exact .inr (.inr z))
  refine ⟨u,r,?_⟩
  rcases l with ⟨z,_⟩ | ⟨_,c,hc,hcell⟩
  ·rcases kf with y | y
   ·rw [z] at y;cases y
   ·rw [z] at y;cases y
  ·obtain ⟨c',hc'⟩:=Option.isSome_iff_exists.mp (jh (en:=X.env) sc.names [] x' (.inl (dC n3)))
   have e:c'=c:=by
    have z:=S.sub I.ok hc'
    rw [hc] at z;exact (Option.some.inj z).symm
   subst e
   obtain ⟨o,ho,hd⟩:=hcell
   exact .inr ⟨iU n3,c',hc',⟨o,k _ _ ho,hd⟩⟩
 cell:=fun x c e=>by
  obtain ⟨v,o,ho,hd⟩:=I.cell x c (S.sub I.ok e)
  exact ⟨v,o,k _ _ ho,hd⟩
 free:=I.hok.fresh hC
 freeC:=fun x c e=>I.freeC x c (S.sub I.ok e)
 pin:=fun p hp=>by
  obtain ⟨e,n,ne,nf,d⟩:=I.pin p hp
  refine ⟨k _ _ e,n,bj (bp (aR e) hC),fun z=>?_,d⟩
  rcases bq.mp (I.iS _ z) with y | y
  ·exact ne y
  ·exact nf y
 hok:=I.hok.kept k
 len:=uI S.len
end
theorem lC {prog:Program} {w:World} {A:Around} {R:Result→Shared→Prop} {s:Shared} {elt tg it':Expr} {ifs:List Expr} {sc:Scope} {pos:Pos} {it acc:Value} {en:Env} (I:Nat→Shared→Prop)
  (turn:∀n s,I n s→wpAny (model prog w) A (pyNext it) (fun r s1=>match r with
   | none=>R (.ok .next) s1
   | some v=>wpAny (model prog w) A (letOwnedTupleGo tg it v) (fun _ s2=>wpAny (model prog w) A (assign tg en v) (fun _ s3 =>
     wpAny (model prog w) A (forIn ifs true fun c r=>if r=true then do let ok ←isTrue c en (eval c en);pure (ForInStep.yield ok) else pure (ForInStep.yield r)) (fun ok s4 =>
      if ok=true then wpAny (model prog w) A (eval elt en) (fun x s5=>wpAny (model prog w) A (call (.builtin "list.append") [acc,x]) (fun _ s6=>∃m,m<n∧I m s6) (fun _ _=>False) s5) (fun _ _=>False) s4
      else ∃m,m<n∧I m s4) (fun _ _=>False) s3) (fun _ _=>False) s2) (fun _ _=>False) s1) (fun _ _=>False) s)
  (n:Nat) (h:I n s):codeAny (model prog w) A (.compLoop (.ListComp elt [⟨tg,it',ifs,0⟩] sc pos) 0 it acc en) R s:=by
 refine codeAny_loop rfl I (fun n s hI=>?_) n h
 show wpAny _ A ((compTurn (.ListComp elt [⟨tg,it',ifs,0⟩] sc pos) 0 it acc en).onRaise (fun x=>do noteFrame x en;theTreesLotGoes x)) _ _ s
 refine wpAny_noted ?_
 rw [compTurn_list]
 refine wpAny_bind (wpAny_standAt (wpAny_bind (wpAny_mono (turn n s hI) (fun r s1 h1=>?_) fun _ _ z=>z.elim)))
 cases r with
 | none=>exact wpAny_pure h1
 | some v =>
  refine wpAny_bind (wpAny_mono h1 (fun _ s2 h2=>?_) fun _ _ z=>z.elim)
  refine wpAny_bind (wpAny_mono h2 (fun _ s3 h3=>?_) fun _ _ z=>z.elim)
  refine wpAny_bind (wpAny_mono h3 (fun ok s4 h4=>?_) fun _ _ z=>z.elim)
  cases ok with
  | false=>exact wpAny_pure ⟨rfl,h4⟩
  | true =>
   refine wpAny_bind (wpAny_bind (wpAny_mono h4 (fun x s5 h5=>?_) fun _ _ z=>z.elim))
   exact wpAny_bind (wpAny_mono h5 (fun _ s6 h6=>wpAny_pure (wpAny_pure ⟨rfl,h6⟩)) fun _ _ z=>z.elim)
def LcW (J:It) (g:TG) (tt:TT) (te:TE) (σ0:St) (Q:VK) (H1:Hp):Prop :=
  ∃W:Nat→Nat→List V→Hp→Prop,(∃m,W 0 m [] H1)∧∀i m ys H,W i m ys H→ys.length≤sizeLine ∧
    ((J.stop i H∧∀p,H p=none→Q (.ref p) (upd H p (.lst ys))) ∨
     (J.go i H∧∀x H',J.yld i H x H'→g x σ0 H' fun σ2 H2=>Wk σ0 σ2∧tt σ2 H2 fun k H3=>if k=true then te σ2 H3 fun v H4=>ys.length<sizeLine∧∃m',m'<m∧W (i+1) m' (ys++[v]) H4 else ∃m',m'<m∧W (i+1) m' ys H3))
def tLc (wi:TI) (g:TG) (tt:TT) (te:TE) (nl:Nat) (js:List Nat):TE:=fun σ H Q=>wi σ H fun J H1=>LcW J g tt te (cst σ nl js) Q H1
section
variable {X:Cx} {sc:Scope} {N':List Str} {nl:Nat} {js:List Nat} {tg iter elt:Expr} {ifs:List Expr} {pos:Pos} {wi:TI} {g:TG} {tt:TT} {te:TE}
theorem pV {pins:List (Addr×Obj)} {σ:St} {H:Hp} {s:Shared} {E:Value→Shared→Prop} {RR:Value→Addr→Result→Shared→Prop} {it:Addr} {fp:List Addr} {tn:Nat→Heap→Prop} {J:It} {Q:VK} (hc:X.calm=true) (S:hJ X sc N' nl js)
  (hg:∀C s2 H2 ex,PG (blk X N' sc C s2 H2 ex) tg g) (ht:∀C s2 H2 ex,PIf (blk X N' sc C s2 H2 ex) ifs tt) (he:∀C s2 H2 ex,PE (blk X N' sc C s2 H2 ex) elt te)
  (I:Inv X pins σ H s) (T:Turn X.prog X.w X.K tg J fp it tn) (st:tn 0 s.heap) (hf:∀b∈fp,lO X pins H b) (h:LcW J g tt te (cst σ nl js) Q H)
  (fin:∀D C H' s' m,Inv X pins σ H' s'→s'.heap.Ns C m→lO X pins H' C→Q (.ref D) H'→RR (.ref D) C (.ok .next) s') :
  wpAny (model X.prog X.w) X.A (newList []) (fun acc s3=>wpAny (model X.prog X.w) X.A (newFunctionEnv sc X.env.globals (lQ X.env sc.names []) [] X.env.qual none .none (some X.env)) (fun cenv s4 =>
   codeAny (model X.prog X.w) X.A (.compStart (.ListComp elt [⟨tg,iter,ifs,0⟩] sc pos) 0 (.ref it) acc {cenv with scope:=relabel sc X.env}) (RR acc cenv.locals) s4) E s3) E s:=by
 obtain ⟨W,⟨m0,w0⟩,step⟩:=h
 refine wpAny_newObj_type (wpAny_newFunctionEnv S.nocell (by intro y hy;simp at hy) (fun h1 hns hsb=>?_) S.kind)
 dsimp only at hns hsb ⊢
 generalize hP:s.heap.push {cls:=.type "list",dict:=none,data:=.seq ([]:List Value).toArray}=P1 at hns hsb ⊢
 have hCs:P1.objs.size=s.heap.objs.size+1:=by rw [←hP,cG]
 have hDC:s.heap.objs.size≠P1.objs.size:=by rw [hCs];exact bj (bY _)
 have hCle:s.heap.objs.size≤P1.objs.size:=by rw [hCs];exact gj _
 have ltf:∀b∈fp,b<s.heap.objs.size:=fun b hb=>by
  obtain ⟨o,e,_⟩:=T.obj 0 _ st b hb
  exact aR e
 have hfC:∀b∈fp,b≠P1.objs.size:=fun b hb=>bj (bp (ltf b hb) hCle)
 have old:∀b o,s.heap.get? b=some o→h1.get? b=some o:=fun b o e =>
  hsb.extBut b o (bj (bp (aR e) hCle)) (au _ (hP▸au _ e))
 have accD:h1.get? s.heap.objs.size=some {cls:=.type "list",data:=.seq ([]:List Value).toArray 0}:=hsb.extBut _ _ hDC (au _ (hP▸aY _ rfl))
 generalize hDd:s.heap.objs.size=D at *
 generalize hCd:P1.objs.size=C at *
 have ltp:∀p∈X.pn++pins,p.1<D:=fun p hp=>by rw [←hDd];exact aR (I.pin p hp).1
 have ltc:∀x c,X.env.cells.lookup x=some c→c<D:=fun x c e=>by
  obtain ⟨v,o,ho,_⟩:=I.cell x c e
  rw [←hDd];exact aR ho
 have noD:D∉frs X.stack:=fun z=>by
  rcases bq.mp (I.iS _ z) with y | y
  ·have:=I.lt;rw [←y,hDd] at this;exact cS _ this
  ·exact I.zq (fS hDd) y
 have fpB:∀{H':Hp} {o:Obj},(∀b∈fp,H' b=none)→∀b∈fp,lO (blk X N' sc C s H fp) (pins++[(D,o)]) H' b:=fun {H' o} hn b hb=>by
  obtain ⟨f0,f1,f2,f3,f4,f5⟩:=hf b hb
  refine ⟨hn b hb,hfC b hb,fun z=>?_,.inl hb,fun x c e=>f4 x c (S.sub I.ok e),fun p hp=>?_⟩
  ·rcases bq.mp (I.iS _ z) with y | y
   ·exact f1 y
   ·exact f2 y
  ·have hp':p∈(X.pn++pins)++[(D,o)]:=by rw [eK];exact hp
   rcases aF.mp hp' with z | z
   ·exact f5 p z
   ·have e:p=(D,o):=by simpa using z
    subst e
    exact eL (ltf b hb)
 have repin:∀{σ':St} {H':Hp} {s':Shared} {its:List Value} {c:Nat},Inv (blk X N' sc C s H fp) pins σ' H' s'→H' D=none→s'.heap.get? D=some {cls:=.type "list",data:=.seq its.toArray c} →
   Inv (blk X N' sc C s H fp) (pins++[(D,{cls:=.type "list",data:=.seq its.toArray c})]) σ' H' s':=fun {σ' H' s' its c} I' hn e =>
  I'.jn fun p hp=>by
   rcases aF.mp hp with z | z
   ·exact I'.pin p (aG _ z)
   ·have e':p=(D,{cls:=.type "list",data:=.seq its.toArray c}):=by simpa using z
    subst e'
    exact ⟨e,hn,hDC,noD,fun v z=>by cases z⟩
 have loop:∀s4:Shared,s4={s with heap:=h1,toks:=s.toks+([]:List (Str×Value)).length} →
   codeAny (model X.prog X.w) X.A (.compLoop (.ListComp elt [⟨tg,iter,ifs,0⟩] sc pos) 0 (.ref it) (.ref D) (compEnvC sc (lQ X.env sc.names []) C X.env)) (RR (.ref D) C) s4:=by
  rintro s4 rfl
  refine lC (fun n s'=>∃(i:Nat) (ys:List V) (H':Hp) (its:List Value) (c:Nat),Inv (blk X N' sc C s H fp) (pins++[(D,{cls:=.type "list",data:=.seq its.toArray c})]) (cst σ nl js) H' s' ∧
   tn i s'.heap∧(∀b∈fp,H' b=none)∧Vals ys its∧W i n ys H') ?_ m0 ⟨0,[],H,[],0,?_,?_,fun b hb=>(hf b hb).1,.nil,w0⟩
  ·rintro n s' ⟨i,ys,H',its,c,I',st',fr',rv,w'⟩
   obtain ⟨hz,alt⟩:=step i n ys H' w'
   rcases alt with ⟨stop,qn⟩ | ⟨go,more⟩
   ·refine wpAny_mono (T.done (blk X N' sc C s H fp) rfl rfl rfl hc i _ s' _ H' (fun _ _=>False) I' (fpB fr') st' stop) (fun r s5 ⟨hr,I5⟩=>?_) fun _ _ z=>z
    subst hr
    obtain ⟨eD,nD,_⟩:=I5.pin (D,_) (aG _ (aG _ aU))
    dsimp only at eD nD
    obtain ⟨mC,hnC,_⟩:=I5.loc
    have hHD:H D=none:=I.hok.fresh (fS hDd)
    have I6:Inv X pins σ (upd H' D (.lst ys)) s5:=by
     refine I.qT (ch:=fp) I5.os ?_ ?_ I5.bare fun b hb=>?_
     ·have B:Un (frs X.stack) fp H H' s.heap s5.heap:=I5.base
      refine ⟨B.keep,B.slot,fun b o e n hx=>?_,B.there,fun b xs e=>?_,fun b o u e=>?_,fun b ps e=>?_⟩
      ·rw [bX (by rw [←hDd];exact bj (aR e))];exact B.free b o e n hx
      ·rw [bX (bw e hHD)];exact B.tups b xs e
      ·rw [bX (bw e hHD)];exact B.frzs b o u e
      ·rw [bX (bw e hHD)];exact B.tbls b ps e
     ·intro b u e
      by_cases hb:b=D
      ·subst hb
       rw [av] at e
       cases e
       exact ⟨hz,its,c,rv,eD⟩
      ·rw [bX hb] at e
       exact (I5.hok b u e).o_ (fun _ _ _ q=>q) (fun x q=>by rw [bX (bw q nD)];exact q) fun x xs q=>by rw [bX (bw q nD)];exact q
     ·obtain ⟨f0,f1,f2,f3,f4,f5⟩:=hf b hb
      exact ⟨f3,f1,f4,f5⟩
    refine fin D C _ s5 mC I6 hnC ⟨?_,?_,?_,?_,?_,?_⟩ (qn D nD)
    ·rw [bX (Ne.symm hDC)];exact I5.free
    ·have:=I.lt;rw [hDd] at this;exact eL (bp this hCle)
    ·exact I.zq (by rw [hDd];exact hCle)
    ·exact .inr (cx I.sz (by rw [hDd];exact hCle))
    ·exact fun x c' e=>bj (bp (ltc x c' e) hCle)
    ·exact fun p hp=>bj (bp (ltp p hp) hCle)
   ·refine wpAny_mono (T.item (blk X N' sc C s H fp) rfl rfl rfl hc i _ s' _ H' (fun _ _=>False) I' (fpB fr') st' go) (fun r s5 ⟨u,hr,h5⟩=>?_) fun _ _ z=>z
    subst hr
    refine wpAny_mono h5 (fun _ s6 ⟨x,H6,I6,r6,y6,st6,fr6⟩=>?_) fun _ _ z=>z
    have I6':=I6.pinned (fpB fr6) (T.obj _ _ st6)
    refine wpAny_mono (hg C s H fp _ s6 _ H6 x u _ I6' r6 (more x H6 y6)) (fun _ s7 ⟨σ7,H7,I7,wk,q7⟩=>?_) fun _ _ z=>z
    refine wpAny_mono (ht C s H fp _ s7 σ7 H7 _ I7 q7) (fun ok s8 ⟨H8,I8,q8⟩=>?_) fun _ _ z=>z
    have again:∀{H9:Hp} {s9:Shared},Inv (blk X N' sc C s H fp) ((pins++[(D,{cls:=.type "list",data:=.seq its.toArray c})])++kQ fp s6.heap) σ7 H9 s9 →
      (∀b∈fp,∀o,s6.heap.get? b=some o→s9.heap.get? b=some o)∧(∀b∈fp,H9 b=none):=fun {H9 s9} I9=>by
     refine ⟨fun b hb o e=>(I9.pin (b,o) (aG _ (aG _ (hZ hb e)))).1,fun b hb=>?_⟩
     obtain ⟨o,e,d⟩:=T.obj _ _ st6 b hb
     exact (I9.pin (b,o) (aG _ (aG _ (hZ hb e)))).2.1
    cases ok with
    | false =>
     rw [if_neg aV] at q8 ⊢
     obtain ⟨m',hm,w8⟩:=q8
     obtain ⟨k8,fr8⟩:=again I8
     exact ⟨m',hm,i+1,ys,H8,its,c,I8.gJ.weak wk.1 wk.2,T.keep _ _ _ st6 k8,fr8,rv,w8⟩
    | true =>
     rw [if_pos rfl] at q8 ⊢
     refine wpAny_mono (he C s H fp _ s8 σ7 H8 _ I8 q8) (fun y s9 ⟨v,H9,I9,r9,hz9,m',hm,w9⟩=>?_) fun _ _ z=>z
     obtain ⟨k9,fr9⟩:=again I9
     have I9':=I9.gJ
     obtain ⟨eD,nD,_⟩:=I9'.pin (D,_) (aG _ (aG _ aU))
     dsimp only at eD nD
     have hl:=rv.length
     refine wpAny_list_append_plain ⟨c,eD⟩ (fun h' pl sb=>?_) (by rw [aT];omega)
     have I10:Inv (blk X N' sc C s H fp) pins σ7 H9 {s9 with heap:=h'}:=I9'.gJ.turned (it:=D) (t':=s9.toks) (fun b o hb e=>(sb.2 b hb).trans e) nD hDC
      (.inr (fS hDd)) (fun x c' e=>bj (ltc x c' (S.sub I.ok e))) fun p hp=>bj (ltp p hp)
     obtain ⟨c2,e2⟩:=pl
     have ea:its.toArray.push y=(its++[y]).toArray:=by simp
     rw [ea] at e2
     refine ⟨m',hm,i+1,ys++[v],H9,its++[y],c2,(repin I10 nD e2).weak wk.1 wk.2,T.keep _ _ _ st6 fun b hb o e=>?_,fr9,rv.append (.cons r9 .nil),w9⟩
     exact (sb.2 b (bj (ltf b hb))).trans (k9 b hb o e)
  ·exact repin (uL S I hf (by rw [hDd];exact hCle) hfC old hns) (I.hok.fresh (fS hDd)) accD
  ·exact T.keep _ _ _ st fun b _ o e=>old b o e
 exact codeAny_compStart_list (loop _ rfl) (T.self _ 0 _ _ _ (T.keep _ _ _ st fun b _ o e=>old b o e) (loop _ rfl))
theorem fG (hc:X.calm=true) (S:hJ X sc N' nl js) (hi:PI X tg iter wi)
  (hg:∀C s2 H2 ex,PG (blk X N' sc C s2 H2 ex) tg g) (ht:∀C s2 H2 ex,PIf (blk X N' sc C s2 H2 ex) ifs tt) (he:∀C s2 H2 ex,PE (blk X N' sc C s2 H2 ex) elt te)
  (hs:∀x,foldedSetIterable iter X.env x=pure x:=by intro _;rfl):PE X (.ListComp elt [⟨tg,iter,ifs,0⟩] sc pos) (tLc wi g tt te nl js):=by
 intro pins s σ H Q I h
 rw [eval_ListComp]
 refine wpAny_comprehension_free (use:=none) rfl hs (iG (S.zA I.ok)) S.kind S.locs (thn (hi pins s σ H _ I h) fun v s1 h1=>thn h1 fun itv s2 h2=>?_)
 obtain ⟨it,fp,tn,J,H2,rfl,I2,T,st2,f2,q2⟩:=h2
 refine pV (RR:=fun acc C=>compPost (model X.prog X.w) X.A X.xe none (EP X pins σ Q) acc C) hc S hg ht he I2 T st2 f2 q2 fun D C H' s' m I' hn ⟨f0,f1,f2,f3,f4,f5⟩ q=>?_
 exact ⟨m,hn,fun h' sb=>⟨.ref D,H',I'.turned (it:=C) (t':=s'.toks) (fun b o hb e=>(sb.2 b hb).trans e) f0 f1 f3 f4 f5,rfl,q⟩⟩
theorem hX {i:Nat} {x:Str} {pos' spos:Pos} (hc:X.calm=true) (S:hJ X sc N' nl js) (hi:PI X tg iter wi)
  (hg:∀C s2 H2 ex,PG (blk X N' sc C s2 H2 ex) tg g) (ht:∀C s2 H2 ex,PIf (blk X N' sc C s2 H2 ex) ifs tt) (he:∀C s2 H2 ex,PE (blk X N' sc C s2 H2 ex) elt te)
  (hN:X.N.Nodup) (hx:X.N[i]?=some x) (hloc:X.env.scope.names.lookup x=some .local)
  (hsw:swapsWith (.ListComp elt [⟨tg,iter,ifs,0⟩] sc pos) (some (.Name x pos')) spos.line X.env=pure true:=by rfl) (hs:∀x,foldedSetIterable iter X.env x=pure x:=by intro _;rfl) :
  PS X (.Assign [.Name x pos'] (.ListComp elt [⟨tg,iter,ifs,0⟩] sc pos) spos) (xA (tLc wi g tt te nl js) (mB i)):=by
 intro pins s σ H D0 I h
 rw [exec_Assign_Name_used _ _ _ _ hsw]
 refine wpAny_bind (wpAny_standAt (wpAny_bind ?_))
 show wpAny _ X.A (do let _ ←comprehension (.ListComp elt [⟨tg,iter,ifs,0⟩] sc pos) sc X.env _ (newList []) false (eval iter X.env) (some (assign (.Name x pos') X.env))) _ _ s
 refine wpAny_bind (wpAny_mono (wpAny_comprehension_free (use:=some (assign (.Name x pos') X.env)) (Q:=fun _ s'=>SP X pins D0 .next s') rfl hs (iG (S.zA I.ok)) S.kind S.locs
  (thn (hi pins s σ H _ I h) fun v s1 h1=>thn h1 fun itv s2 h2=>?_)) (fun _ s' hq=>wpAny_pure (wpAny_pure hq)) fun _ _ e=>e)
 obtain ⟨it,fp,tn,J,H2,rfl,I2,T,st2,f2,q2⟩:=h2
 refine pV (RR:=fun acc C=>compPost (model X.prog X.w) X.A X.xe (some (assign (.Name x pos') X.env)) (fun _ s'=>SP X pins D0 .next s') acc C) hc S hg ht he I2 T st2 f2 q2 fun D C H' s' m I' hn ⟨f0,f1,f2,f3,f4,f5⟩ q=>?_
 show wpAny _ X.A (assign (.Name x pos') X.env (.ref D)) _ _ s'
 obtain ⟨o,es,ep,ho,hd,r⟩:=hn
 have I2':Inv X (pins++[(C,o)]) σ H' s':=I'.jn fun p hp=>by
  rcases aF.mp hp with z | z
  ·exact I'.pin p (aG _ z)
  ·have e':p=(C,o):=by simpa using z
   subst e'
   exact ⟨ho,f0,f1,f2,fun v z=>by rw [hd] at z;cases z⟩
 refine wpAny_assign_Name (jc I2' hN hx (.inl hloc) (v:=.ref D) rfl (fun s3 I3=>?_) (.inr hloc))
 obtain ⟨e3,_⟩:=I3.pin (C,o) (aG _ (aG _ aU))
 refine ⟨m,⟨o,es,ep,e3,hd,r⟩,fun h' sb=>⟨_,H',I3.gJ.turned (it:=C) (t':=s3.toks) (fun b o hb e=>(sb.2 b hb).trans e) f0 f1 f3 f4 f5,q⟩⟩
end
end L2
namespace L2
open PySem PySem.Spec PyProof.Rows
theorem Vals.tog:∀{xs:List V} {us:List Value} {i:Nat} {u:Value},Vals xs us→us[i]?=some u→∃x,xs[i]?=some x∧RelV x u
 | _,_,_,_,.nil,e=>by simp at e
 | _,_,0,_,.cons r _,e=>by simp at e;subst e;exact ⟨_,rfl,r⟩
 | _,_,i+1,u,.cons _ t,e=>by
  obtain ⟨x,h1,h2⟩:=Vals.tog (i:=i) (u:=u) t (by simpa using e)
  exact ⟨x,by simpa using h1,h2⟩
theorem Vals.kr {ns:List Int} {us:List Value} {i:Nat} {u:Value} (r:Vals (ns.map V.int) us) (e:us.toArray[i]?=some u):∃t,u=.int (ns.getD i 0) t:=by
 obtain ⟨x,h1,h2⟩:=r.tog (i:=i) (u:=u) (by simpa using e)
 rw [br] at h1
 cases q:ns[i]? with
 | none=>rw [q] at h1;cases h1
 | some z =>
  rw [q] at h1
  have e':V.int z=x:=Option.some.inj h1
  subst e'
  obtain ⟨t,rfl⟩:=h2
  exact ⟨t,by rw [aa,q];rfl⟩
theorem jm (ns:List Int):∀k,preSum (fun i=>ns.getD i 0) k=(ns.take k).sum
 | 0=>by simp [preSum]
 | k+1=>by
  rw [preSum,jm ns k,List.take_add_one,List.sum_append,aa]
  cases ns[k]?<;>simp
section
variable {X:Cx} {pins:List (Addr×Obj)} {σ:St} {H:Hp} {s:Shared}
theorem Inv.moved {o:Obj} {s':Shared} (I:Inv X pins σ H s) (mv:Moved [s.heap.objs.size] (fun a b=>b=a) {s with heap:=s.heap.push o} s'):Inv X pins σ H s':=by
 have k:∀b u,s.heap.get? b=some u→s'.heap.get? b=some u:=fun b u e=>mv.heap b u (fun z=>by
  have z':b=s.heap.objs.size:=by simpa using z
  exact absurd (aR e) (by rw [z'];exact cS _)) (au _ e)
 exact I.qT (ch:=[]) mv.os (Un.kept k) (I.hok.kept k) (by rw [mv.gens];exact I.bare) fun b z=>absurd z (by simp)
theorem jf {A:Around} {E:Value→Shared→Prop} {Q:Value→Shared→Prop} {p:Addr} {ys:List V} (hh:A.handled=none) (I:Inv X pins σ H s) (hq:SqL X.K H p ys∨SqT X.K H p ys)
  (h:∀(it:Addr) (its:List Value) (fp:List Addr) (T:Nat→Heap→Prop) (s2:Shared),Vals ys its→Walks X.prog X.w A it fp [it] its.toArray.size (fun i v=>its.toArray[i]?=some v) T→T 0 s2.heap→(∀b∈fp,b<s2.heap.objs.size) →
   (∀s',Moved [it] (fun a b=>b=a) s2 s'→Inv X pins σ H s')→Q (.ref it) s2):wpAny (model X.prog X.w) A (pyIter (.ref p)) Q E s:=by
 rcases hq with hq | hq
 ·obtain ⟨its,r,pl,hz⟩:=I.list hq
  obtain ⟨o,ho,_⟩:=id pl.isList
  have hlt:=aR ho
  refine wpAny_pyIter_list pl.isList (h s.heap.objs.size its [s.heap.objs.size,p] _ _ r (Walks.list hh _ p (bj hlt) its.toArray) ⟨⟨_,aY _ rfl,rfl,rfl⟩,pl.isList.at fun o e=>au _ e⟩ (fun b hb=>?_) fun s' mv=>I.moved mv)
  dsimp only
  rw [cG]
  rcases bq.mp hb with z | z
  ·rw [z];exact bY _
  ·have z':b=p:=by simpa using z
   rw [z'];exact Nat.lt_succ_of_lt hlt
 ·obtain ⟨its,r,pl,hz⟩:=I.tuple hq
  have pt:s.heap.IsTuple p its.toArray:=pl
  obtain ⟨o,ho,_⟩:=id pt
  have hlt:=aR ho
  refine wpAny_pyIter_tuple pt (h s.heap.objs.size its [s.heap.objs.size,p] _ _ r (Walks.tuple hh _ p (bj hlt) its.toArray) ⟨⟨_,aY _ rfl,rfl,rfl⟩,pt.at fun o e=>au _ e⟩ (fun b hb=>?_) fun s' mv=>I.moved mv)
  dsimp only
  rw [cG]
  rcases bq.mp hb with z | z
  ·rw [z];exact bY _
  ·have z':b=p:=by simpa using z
   rw [z'];exact Nat.lt_succ_of_lt hlt
end
section
variable {X:Cx}
theorem lD (hc:X.calm=true):fR X (.builtin "sum") (fun xs H Q=>∃(p:Addr) (ns:List Int),xs=[.ref p]∧(SqL X.K H p (ns.map V.int)∨SqT X.K H p (ns.map V.int))∧Q (.int ns.sum) H):=by
 intro pins s σ H xs us Q I r h
 obtain ⟨p,ns,rfl,hq,q⟩:=h
 obtain ⟨u,rfl,rx⟩:=vals1 r
 cases rx
 refine call_sum_walkAnyS (jf (I.ok.hd hc) I hq fun it its fp T s2 rv W st hfp inv=>⟨it,fp,[it],_,_,_,_,fun i=>ns.getD i 0,rfl,W.toS,st,hfp,fun i v e=>rv.kr e,fun s' t' mv=>?_⟩)
 have hl:its.toArray.size=ns.length:=by
  have:=rv.length
  rw [ae] at this
  rw [aT];omega
 refine ⟨.int ns.sum,H,inv s' mv,⟨t',?_⟩,q⟩
 rw [jm,hl,bZ]
def tv:V→Bool
 | .bl b=>b
 | .int i=>i != 0
 | _=>false
def oN:V→Bool
 | .bl _=>true
 | .int _=>true
 | _=>false
theorem mO {ys:List V} {its:List Value} {A:Around} (rv:Vals ys its) (hb:ys.all oN=true):TruthOf X.prog X.w A (fun i v=>its.toArray[i]?=some v) (fun i=>tv (ys.getD i .non)):=by
 intro i v s Q E e h
 obtain ⟨x,h1,h2⟩:=rv.tog (i:=i) (u:=v) (by simpa using e)
 have hx:oN x=true:=cJ.mp hb x (aZ h1)
 dsimp only at h
 rw [aa,h1] at h
 cases x with
 | bl b=>cases h2;exact wpAny_truthy_bool h
 | int i=>obtain ⟨t,rfl⟩:=h2;exact PySem.P.truthy_int h
 | _=>exact absurd (show false=true from hx) aV
theorem range_all {ys:List V} (f:V→Bool):(bF ys.length).all (fun i=>f (ys.getD i .non))=ys.all f:=by
 rw [cQ,cJ,cJ]
 constructor
 ·intro h x hx
  obtain ⟨i,hi,rfl⟩:=bV.mp hx
  have:=h i (cj.mpr hi)
  rwa [aa,ak hi] at this
 ·intro h i hi
  have hi':=cj.mp hi
  rw [aa,ak hi']
  exact h _ (cf hi')
theorem range_any {ys:List V} (f:V→Bool):(bF ys.length).any (fun i=>f (ys.getD i .non))=ys.any f:=by
 rw [cQ,dB,dB]
 constructor
 ·rintro ⟨i,hi,h⟩
  have hi':=cj.mp hi
  rw [aa,ak hi'] at h
  exact ⟨_,cf hi',h⟩
 ·rintro ⟨x,hx,h⟩
  obtain ⟨i,hi,rfl⟩:=bV.mp hx
  exact ⟨i,cj.mpr hi,by rw [aa,ak hi];exact h⟩
theorem lI (hc:X.calm=true):fR X (.builtin "all") (fun xs H Q=>∃(p:Addr) (ys:List V),xs=[.ref p]∧(SqL X.K H p ys∨SqT X.K H p ys)∧ys.all oN=true∧Q (.bl (ys.all tv)) H):=by
 intro pins s σ H xs us Q I r h
 obtain ⟨p,ys,rfl,hq,hb,q⟩:=h
 obtain ⟨u,rfl,rx⟩:=vals1 r
 cases rx
 refine call_all_walkS (jf (I.ok.hd hc) I hq fun it its fp T s2 rv W st hfp inv=>⟨it,fp,[it],_,_,_,_,_,rfl,W.toS,st,mO rv hb,fun s' mv=>?_⟩)
 refine ⟨.bl (ys.all tv),H,inv s' mv,?_,q⟩
 show Value.bool _=Value.bool _
 rw [aT,←rv.length,range_all]
theorem lH (hc:X.calm=true):fR X (.builtin "any") (fun xs H Q=>∃(p:Addr) (ys:List V),xs=[.ref p]∧(SqL X.K H p ys∨SqT X.K H p ys)∧ys.all oN=true∧Q (.bl (ys.any tv)) H):=by
 intro pins s σ H xs us Q I r h
 obtain ⟨p,ys,rfl,hq,hb,q⟩:=h
 obtain ⟨u,rfl,rx⟩:=vals1 r
 cases rx
 refine call_any_walkS (jf (I.ok.hd hc) I hq fun it its fp T s2 rv W st hfp inv=>⟨it,fp,[it],_,_,_,_,_,rfl,W.toS,st,mO rv hb,fun s' mv=>?_⟩)
 refine ⟨.bl (ys.any tv),H,inv s' mv,?_,q⟩
 show Value.bool _=Value.bool _
 rw [aT,←rv.length,range_any]
theorem getD_mem' {ns:List Int} {i:Nat} (h:i<ns.length):ns.getD i 0∈ns:=by
 rw [aa,ak h]
 exact cf h
theorem lE (hc:X.calm=true):fR X (.builtin "min") (fun xs H Q=>∃(p:Addr) (ns:List Int),xs=[.ref p]∧(SqL X.K H p (ns.map V.int)∨SqT X.K H p (ns.map V.int))∧0<ns.length∧∀M,M∈ns→(∀a∈ns,M≤a)→Q (.int M) H):=by
 intro pins s σ H xs us Q I r h
 obtain ⟨p,ns,rfl,hq,hn,q⟩:=h
 obtain ⟨u,rfl,rx⟩:=vals1 r
 cases rx
 refine call_min_walkS (jf (I.ok.hd hc) I hq fun it its fp T s2 rv W st hfp inv=>?_)
 have hl:its.toArray.size=ns.length:=by
  have:=rv.length
  rw [ae] at this
  rw [aT];omega
 refine ⟨it,fp,[it],_,_,_,_,_,rfl,W.toS,st,hfp,by omega,CmpOf.ints_lt (fun i=>ns.getD i 0) (fun i v e=>rv.kr e),fun v s' e mv=>?_⟩
 obtain ⟨h1,h2⟩:=argBest_lt (fun i=>ns.getD i 0) (its.toArray.size-1)
 obtain ⟨t,rfl⟩:=rv.kr e
 refine ⟨.int _,H,inv s' mv,⟨t,rfl⟩,q _ (getD_mem' (by omega)) fun a ha=>?_⟩
 obtain ⟨j,hj,rfl⟩:=bV.mp ha
 have:=h2 j (by omega)
 have ej:ns.getD j 0=ns[j]:=by rw [aa,ak hj];rfl
 rw [←ej]
 exact this
end
structure uS (J:It) (n:Nat) (val:Nat→V) (C:Hp→Prop):Prop where
 go:∀i H,C H→i<n→J.go i H
 yld:∀i H x H',C H→i<n→J.yld i H x H'→H'=H∧x=val i
 stop:∀i H,C H→n≤i→J.stop i H
theorem lj {K:ai} {a:Addr} {xs:List V}:uS (Itl K a) xs.length (fun i=>xs.getD i .non) (fun H=>SqL K H a xs) where
 go:=fun i H q hi=>⟨xs,xs[i],q,by simp [hi]⟩
 yld:=fun i H x H' q hi ⟨e,y⟩=>⟨e,by rw [aa,y xs q];rfl⟩
 stop:=fun i H q hi=>⟨xs,q,hi⟩
theorem nv {K:ai} {a:Addr} {xs:List V}:uS (Itt K a) xs.length (fun i=>xs.getD i .non) (fun H=>SqT K H a xs) where
 go:=fun i H q hi=>⟨xs,xs[i],q,by simp [hi]⟩
 yld:=fun i H x H' q hi ⟨e,y⟩=>⟨e,by rw [aa,y xs q];rfl⟩
 stop:=fun i H q hi=>⟨xs,q,hi⟩
theorem dv {lo:Int} {n:Nat}:uS (Itr lo n) n (fun i=>.int (lo+(i:Nat))) (fun _=>True) where
 go:=fun i H _ hi=>hi
 yld:=fun i H x H' _ hi ⟨e,y⟩=>⟨e,y⟩
 stop:=fun i H _ hi=>hi
theorem fD {J:It} {n:Nat} {val:Nat→V} {C:Hp→Prop} {g:TG} {tt:TT} {te:TE} {σ0:St} {Q:VK} {H:Hp} (O:uS J n val C) (Pv:Nat→List V→Hp→Prop) (hn:n≤sizeLine) (h0:Pv 0 [] H) (hl:∀i ys H,i≤n→Pv i ys H→C H∧ys.length≤i)
  (hs:∀i ys H,i<n→Pv i ys H→g (val i) σ0 H fun σ2 H2=>Wk σ0 σ2∧tt σ2 H2 fun k H3=>if k=true then te σ2 H3 fun v H4=>ys.length<sizeLine∧∃m',m'<n-i∧(m'=n-(i+1)∧i+1≤n∧Pv (i+1) (ys++[v]) H4) else ∃m',m'<n-i∧(m'=n-(i+1)∧i+1≤n∧Pv (i+1) ys H3))
  (hd:∀ys H,Pv n ys H→∀p,H p=none→Q (.ref p) (upd H p (.lst ys))):LcW J g tt te σ0 Q H:=by
 refine ⟨fun i m ys H=>m=n-i∧i≤n∧Pv i ys H,⟨n,by simp,dM _,h0⟩,?_⟩
 rintro i m ys H ⟨rfl,hi,p⟩
 obtain ⟨c,hy⟩:=hl i ys H hi p
 refine ⟨by omega,?_⟩
 by_cases hlt:i<n
 ·refine .inr ⟨O.go i H c hlt,fun x H' y=>?_⟩
  obtain ⟨rfl,rfl⟩:=O.yld i H x H' c hlt y
  exact hs i ys _ hlt p
 ·have e:i=n:=by omega
  subst e
  exact .inl ⟨O.stop _ H c (aO _),hd ys H p⟩
theorem fF {J:It} {n:Nat} {val:Nat→V} {C:Hp→Prop} {g:TG} {tb:TS} {D:Ends} {σ:St} {H:Hp} (O:uS J n val C) (Pv:Nat→St→Hp→Prop) (h0:Pv 0 σ H) (hl:∀i σ H,i≤n→Pv i σ H→C H)
  (hs:∀i σ H,i<n→Pv i σ H→g (val i) σ H fun σ2 H2=>tb {D with nx:=Pv (i+1),ct:=Pv (i+1),bk:=D.nx} σ2 H2) (hd:∀σ H,Pv n σ H→D.nx σ H) :
  ∃W:Nat→Nat→St→Hp→Prop,(∃m,W 0 m σ H)∧∀i m σ H,W i m σ H →
   (J.stop i H∧D.nx σ H)∨(J.go i H∧∃N:St→Hp→Prop,(∀σ' H',N σ' H'→∃m',m'<m∧W (i+1) m' σ' H')∧∀x H',J.yld i H x H'→g x σ H' fun σ2 H2=>tb {D with nx:=N,ct:=N,bk:=D.nx} σ2 H2):=by
 refine ⟨fun i m σ H=>m=n-i∧i≤n∧Pv i σ H,⟨n,by simp,dM _,h0⟩,?_⟩
 rintro i m σ H ⟨rfl,hi,p⟩
 have c:=hl i σ H hi p
 by_cases hlt:i<n
 ·refine .inr ⟨O.go i H c hlt,Pv (i+1),fun σ' H' p'=>⟨n-(i+1),by omega,rfl,hlt,p'⟩,fun x H' y=>?_⟩
  obtain ⟨rfl,rfl⟩:=O.yld i H x H' c hlt y
  exact hs i σ _ hlt p
 ·have e:i=n:=by omega
  subst e
  exact .inl ⟨O.stop _ H c (aO _),hd σ H p⟩
theorem dQ {σ0:St} {i:Nat} {v:Option V} (h:σ0[i]?=some none):Wk σ0 (σ0.set i v):=by
 refine ⟨by rw [bN],fun j w' e=>?_⟩
 by_cases hj:i=j
 ·subst hj;rw [h] at e;cases e
 ·rw [dw hj];exact e
theorem bx.new {H:Hp} {p:Addr} {o:HO} (h:H p=none):bx H (upd H p o):=fun b u e=>by
 rw [bX (bw e h)]
 exact e
theorem bx.tup {K:ai} {H H':Hp} {a:Addr} {xs:List V} (e:bx H H') (h:SqT K H a xs):SqT K H' a xs:=by
 rcases h with (h | ⟨o,h⟩) | h
 ·exact .inl (.inl (e _ _ h))
 ·exact .inl (.inr ⟨o,e _ _ h⟩)
 ·exact .inr h
theorem bx.next {H H1:Hp} {p:Addr} {o:HO} (s:bx H H1) (h:H1 p=none):bx H (upd H1 p o):=s.trans (bx.new h)
end L2
namespace L2
open PySem PySem.Spec PyProof.Rows
def Au (t:TS):TS:=fun D σ H=>∃M:St→Hp→Prop,t {D with nx:=M} σ H∧∀σ' H',M σ' H'→D.nx σ' H'
theorem dq {X:Cx} {st:Stmt} {t:TS} (h:PS X st t):PS X st (Au t):=by
 intro pins s σ H D I hw
 obtain ⟨M,h1,h2⟩:=hw
 refine thn (h pins s σ H {D with nx:=M} I h1) fun f s' q=>?_
 cases f with
 | next=>obtain ⟨σ',H',I',q⟩:=q;exact ⟨σ',H',I',h2 _ _ q⟩
 | brk=>exact q
 | cont=>exact q
 | ret u=>exact q
def Def (P:Program) (w:World) (K:ai) (mg:Str→Option Value) (base:Heap) (k:Nat) (x:Str) (ps:List Str) (sp:Sp):Prop :=
 ∃f fd,fm P w K mg base CX0 k f fd ps sp∧mg x=some (.ref f)∧aJ K (.ref f)=true∧Binds K fd ps []
theorem Def.of {P:Program} {w:World} {K:ai} {mg:Str→Option Value} {base:Heap} {k:Nat} {x qual:Str} {ps:List Str} {sp:Sp} {st:Stmt} {f:Addr} {fd:FuncData}
  (F:Fun K x qual st f fd) (m:mg x=some (.ref f)) (b:Binds K fd ps []) (ok:fm P w K mg base CX0 k f fd ps sp):Def P w K mg base k x ps sp:=⟨f,fd,ok,m,F.kp,b⟩
theorem vM {X:Cx} {k:Nat} {x:Str} {ps:List Str} {sp:Sp} {e:Expr} {es:List Expr} {t:TA} {p pos:Pos} (D:Def X.prog X.w X.K X.mg X.base k x ps sp) (hr:iw k X.A) (hg:Gl X x) (ha:PA X (e::es) t)
  (hdb:(x==("__debug__":Str))=false:=by decide) (he:starEach (e::es) X.env=(false,eval e X.env)::starEach es X.env:=by rfl) (hpl:(backTo pos (starEach es X.env)).any (·.1)=false:=by rfl) :
  PE X (.Call (.Name x p) (e::es) [] pos) (vw sp [] E0 t):=by
 obtain ⟨f,fd,F,m,kp,b⟩:=D
 exact ug F hr hg m kp b .nil vN ha hdb he hpl
def z_ (osc:Scope) (N:List Str) (sc:Scope) (N':List Str) (nl:Nat) (js:List Nat):Bool :=
 sc.kind==.function&&sc.names.all (fun y=>y.2 != .cell)&&sc.names.all (fun y=>y.2 != .local||sc.names.lookup y.1==some .local) &&
 sc.names.all (fun y=>y.2 != .free||(osc.names.lookup y.1==some .cell||osc.names.lookup y.1==some .free))&&(N'.length==nl+js.length) &&
 (bF js.length).all (fun i=>match js[i]?,N'[nl+i]? with | some j,some x=>N[j]?==some x&&sc.names.lookup x==some .free | _,_=>false)
theorem hJ.of {X:Cx} {osc sc:Scope} {N N':List Str} {nl:Nat} {js:List Nat} (h:z_ osc N sc N' nl js=true) (h1:X.env.scope=osc) (h2:X.N=N):hJ X sc N' nl js:=by
 unfold z_ at h
 simp only [cK] at h
 obtain ⟨⟨⟨⟨⟨a1,a2⟩,a3⟩,a4⟩,a5⟩,a6⟩:=h
 refine ⟨by simpa using a1,fun y hy e=>?_,fun y hy e=>?_,fun y hy e=>?_,fun i j e=>?_,by simpa using a5⟩
 ·have:=cJ.mp a2 y hy
  rw [e] at this
  exact absurd this (by decide)
 ·have:=cJ.mp a3 y hy
  rw [e] at this
  simpa using this
 ·have:=cJ.mp a4 y hy
  rw [e] at this
  have this:(osc.names.lookup y.1==some .cell||osc.names.lookup y.1==some .free)=true:=by simpa using this
  show X.env.scope.names.lookup y.1=_∨X.env.scope.names.lookup y.1=_
  rw [h1]
  simpa using this
 ·have hi:i<js.length:=(cD.mp e).1
  have:=cJ.mp a6 i (cj.mpr hi)
  rw [e] at this
  cases q:N'[nl+i]? with
  | none=>rw [q] at this;exact absurd (show false=true from this) aV
  | some x =>
   rw [q] at this
   dsimp only at this
   rw [cK] at this
   exact ⟨x,rfl,by rw [h2];simpa using this.1,by simpa using this.2⟩
theorem dY {ns:List Int} {k:Int} (h0:0≤k) (h:k<(ns.length:Int)):atI (ns.map V.int) k=some (.int (ns.getD k.toNat 0)):=by
 have hk:k.toNat<ns.length:=by omega
 have:=mJ (xs:=ns.map V.int) (j:=k.toNat) (v:=.int (ns.getD k.toNat 0)) (by rw [br,aa,ak hk];rfl)
 rwa [Int.toNat_of_nonneg h0] at this
theorem fQ (ns:List Int):(ns.map V.int).all iE=true:=by
 rw [cJ]
 intro x hx
 obtain ⟨n,_,rfl⟩:=b_.mp hx
 rfl
theorem gy (z:Int) (ns:List Int):inV (.int z) (ns.map V.int)=ns.any (·==z):=by
 unfold inV
 rw [List.any_map]
 rfl
theorem getD_map_int {ns:List Int} {i:Nat} (h:i<(ns.map V.int).length):∃z,(ns.map V.int).getD i .non=.int z∧ns[i]?=some z:=by
 rw [ae] at h
 refine ⟨ns[i],?_,ak h⟩
 rw [aa,br,ak h]
 rfl
theorem take_snoc {α:Type} {l:List α} {i:Nat} {z:α} (h:l[i]?=some z):l.take (i+1)=l.take i++[z]:=by
 rw [List.take_add_one,h]
 rfl
end L2
namespace L2
open PySem
theorem kq (K:ai) (t:Value):bu K t t=some true:=by
 unfold bu
 rw [if_pos (by simp)]
end L2
namespace L2
open PySem PySem.Spec PyProof.Rows
mutual
inductive lP (K:ai) (H:Hp):V→PyData→Prop
 | non:lP K H .non .none
 | bl (b:Bool):lP K H (.bl b) (.bool b)
 | int (i:Int):lP K H (.int i) (.int i)
 | str (x:Str):lP K H (.str x) (.str x)
 | lst {a:Addr} {xs:List V} {ds:List PyData}:SqL K H a xs→gU K H xs ds→lP K H (.ref a) (.list ds)
 | tup {a:Addr} {xs:List V} {ds:List PyData}:SqT K H a xs→gU K H xs ds→lP K H (.ref a) (.tuple ds)
inductive gU (K:ai) (H:Hp):List V→List PyData→Prop
 | nil:gU K H [] []
 | cons {x:V} {d:PyData} {xs:List V} {ds:List PyData}:lP K H x d→gU K H xs ds→gU K H (x::xs) (d::ds)
end
section
variable {X:Cx} {pins:List (Addr×Obj)} {σ:St} {H:Hp} {s:Shared}
mutual
theorem lP.reads (I:Inv X pins σ H s):∀{x:V} {d:PyData} {u:Value},lP X.K H x d→RelV x u→∃as,Reads s.heap u d as
 | _,_,_,.non,r=>by cases r;exact ⟨_,.none⟩
 | _,_,_,.bl b,r=>by cases r;exact ⟨_,.bool b⟩
 | _,_,_,.int i,r=>by obtain ⟨t,rfl⟩:=r;exact ⟨_,.int i t⟩
 | _,_,_,.str x,r=>by obtain ⟨t,rfl⟩:=r;exact ⟨_,.str x t⟩
 | _,_,_,.lst hq h,r=>by
  cases r
  obtain ⟨its,rv,pl,_⟩:=I.list hq
  obtain ⟨o,n,e,c,_,d⟩:=pl
  obtain ⟨as,q⟩:=gU.reads I h rv
  exact ⟨_,.list e c d (by simpa using q)⟩
 | _,_,_,.tup hq h,r=>by
  cases r
  obtain ⟨its,rv,pl,_⟩:=I.tuple hq
  obtain ⟨o,e,c,n,d⟩:=pl
  obtain ⟨as,q⟩:=gU.reads I h rv
  exact ⟨_,.tuple e c d (by simpa using q)⟩
theorem gU.reads (I:Inv X pins σ H s):∀{xs:List V} {ds:List PyData} {us:List Value},gU X.K H xs ds→Vals xs us→∃as,ReadsAll s.heap us ds as
 | _,_,_,.nil,.nil=>⟨_,.nil⟩
 | _,_,_,.cons h t,.cons r rr=>by
  obtain ⟨as,q⟩:=lP.reads I h r
  obtain ⟨bs,q'⟩:=gU.reads I t rr
  exact ⟨_,.cons q q'⟩
end
end
def xc (K:ai) (f:Bool→Bool):R2:=fun x y H Q=>∃d e,lP K H x d∧lP K H y e∧SeqAt.shaped d=true∧SeqAt.shaped e=true∧Q (.bl (f (PyData.eqv d e))) H
section
variable {X:Cx}
theorem vQ (hu:X.A.units+64<cLine):OpR X (compareOp .Eq) (xc X.K id):=by
 intro pins s σ H x y v u Q I rx ry h
 obtain ⟨d,e,hd,he,sd,se,q⟩:=h
 obtain ⟨as,r1⟩:=hd.reads I rx
 obtain ⟨bs,r2⟩:=he.reads I ry
 exact eq_dataH r1 r2 sd se hu ⟨.bl _,H,I,rfl,q⟩
theorem vO (hu:X.A.units+64<cLine):OpR X (compareOp .NotEq) (xc X.K not):=by
 intro pins s σ H x y v u Q I rx ry h
 obtain ⟨d,e,hd,he,sd,se,q⟩:=h
 obtain ⟨as,r1⟩:=hd.reads I rx
 obtain ⟨bs,r2⟩:=he.reads I ry
 exact ne_dataH r1 r2 sd se hu ⟨.bl _,H,I,rfl,q⟩
end
mutual
theorem lP.same {K:ai} {H H':Hp} (S:bx H H'):∀{x:V} {d:PyData},lP K H x d→lP K H' x d
 | _,_,.non=>.non
 | _,_,.bl b=>.bl b
 | _,_,.int i=>.int i
 | _,_,.str x=>.str x
 | _,_,.lst hq h=>.lst (S.seq hq) (gU.same S h)
 | _,_,.tup hq h=>.tup (S.tup hq) (gU.same S h)
theorem gU.same {K:ai} {H H':Hp} (S:bx H H'):∀{xs:List V} {ds:List PyData},gU K H xs ds→gU K H' xs ds
 | _,_,.nil=>.nil
 | _,_,.cons h t=>.cons (lP.same S h) (gU.same S t)
end
def dI (ns:List Int):PyData:=.list (ns.map PyData.int)
def dP (e:Int×Int):PyData:=.tuple [.int e.1,.int e.2]
theorem qL:∀ns:List Int,PyData.canLayAll0 (ns.map PyData.int)=true∧PyData.depthAll (ns.map PyData.int)=0
 | []=>⟨rfl,rfl⟩
 | n::r=>by
  obtain ⟨h1,h2⟩:=qL r
  simp only [bf,PyData.canLayAll0,PyData.canLay0,PyData.depthAll,PyData.depth,h1,h2]
  exact ⟨rfl,rfl⟩
theorem eQ (ns:List Int):SeqAt.shaped (dI ns)=true:=by
 obtain ⟨h1,h2⟩:=qL ns
 unfold SeqAt.shaped dI
 simp only [PyData.canLay0,PyData.depth,h1,h2]
 rfl
theorem lA:∀ns ms:List Int,PyData.eqvAll (ns.map PyData.int) (ms.map PyData.int)=decide (ns=ms)
 | [],[]=>rfl
 | [],_::_=>rfl
 | _::_,[]=>rfl
 | a::r,b::t=>by
  simp only [bf,PyData.eqvAll,PyData.eqv,lA r t]
  by_cases h:a=b<;>by_cases h':r=t<;>simp [h,h']
theorem jE (ns ms:List Int):PyData.eqv (dI ns) (dI ms)=decide (ns=ms):=lA ns ms
theorem jW {K:ai} {H:Hp}:∀ns:List Int,gU K H (ns.map V.int) (ns.map PyData.int)
 | []=>.nil
 | n::r=>.cons (.int n) (jW r)
theorem fh {K:ai} {H:Hp} {a:Addr} {ns:List Int} (h:SqL K H a (ns.map V.int)):lP K H (.ref a) (dI ns):=.lst h (jW ns)
def Pairs (K:ai) (H:Hp):List V→List (Int×Int)→Prop:=Paired fun v e=>∃r,v=.ref r∧SqT K H r [.int e.1,.int e.2]
theorem Pairs.same {K:ai} {H H':Hp} (S:bx H H') {xs:List V} {es:List (Int×Int)} (h:Pairs K H xs es):Pairs K H' xs es:=Paired.oM h fun _ _ ⟨r,e,q⟩=>⟨r,e,S.tup q⟩
theorem Pairs.len {K:ai} {H:Hp} {xs:List V} {es:List (Int×Int)} (h:Pairs K H xs es):xs.length=es.length:=Paired.length h
theorem Pairs.at {K:ai} {H:Hp}:∀{xs:List V} {es:List (Int×Int)} {i:Nat},Pairs K H xs es→i<xs.length→∃r e,xs.getD i .non=.ref r∧SqT K H r [.int e.1,.int e.2]∧es[i]?=some e∧e∈es
 | _,_,_,.nil,h=>absurd h (bM _)
 | _,_,0,.cons ⟨r,e,q⟩ _,_=>⟨r,_,e,q,rfl,aU⟩
 | _,_,i+1,.cons _ t,h=>by
  obtain ⟨r,e,h1,h2,h3,h4⟩:=Pairs.at (i:=i) t (by simpa using h)
  exact ⟨r,e,by simpa using h1,h2,by simpa using h3,aW _ h4⟩
theorem Pairs.snoc {K:ai} {H:Hp} {xs:List V} {es:List (Int×Int)} {r:Addr} {e:Int×Int} (h:Pairs K H xs es) (q:SqT K H r [.int e.1,.int e.2]):Pairs K H (xs++[.ref r]) (es++[e]):=Paired.snoc h ⟨r,rfl,q⟩
def eY (a:Addr) (H H':Hp):Prop:=∀b o,b≠a→H b=some o→H' b=some o
theorem eY.tup {K:ai} {H H':Hp} {a r:Addr} {xs zs:List V} (S:eY a H H') (ha:H a=some (.lst zs)) (h:SqT K H r xs):SqT K H' r xs:=by
 rcases h with (h | ⟨o,h⟩) | h
 ·exact .inl (.inl (S _ _ (ic h ha (by intro z;cases z)) h))
 ·exact .inl (.inr ⟨o,S _ _ (ic h ha (by intro z;cases z)) h⟩)
 ·exact .inr h
theorem Pairs.lU {K:ai} {H H':Hp} {a:Addr} {zs:List V} (S:eY a H H') (ha:H a=some (.lst zs)) {xs:List V} {es:List (Int×Int)} (h:Pairs K H xs es):Pairs K H' xs es :=
 Paired.oM h fun _ _ ⟨r,e,q⟩=>⟨r,e,S.tup ha q⟩
theorem dF {H:Hp} {a:Addr} {o:HO}:eY a H (upd H a o):=fun b u hb e=>by rw [bX hb];exact e
end L2
namespace L2
open PySem PySem.Spec PyProof.Rows
section
variable {X:Cx} {tg:Expr}
def zZ (K:ai) (tl:TE):TI:=fun σ H R=>tl σ H fun x H1=>∃a xs,x=.ref a∧(SqL K H1 a xs∨SqT K H1 a xs)∧∀J C,uS J xs.length (fun i=>xs.getD i .non) C→(∀H2,bx H1 H2→C H2)→R J H1
theorem vI {l:Expr} {tl:TE} (hl:PE X l tl):PI X tg l (zZ X.K tl):=by
 intro pins s σ H R I h
 refine thn (hl pins s σ H _ I h) fun v s1 ⟨x,H1,I1,r1,q1⟩=>?_
 obtain ⟨a,xs,e,hq,q⟩:=q1
 subst e
 cases r1
 have fp:∀b∈[s1.heap.objs.size],lO X pins H1 b:=fun b hb=>by
  have e:b=s1.heap.objs.size:=by simpa using hb
  rw [e];exact I1.u_ (aO _) (I1.hok.fresh (aO _))
 rcases hq with hq | hq
 ·obtain ⟨its,rv,p,hz⟩:=I1.list hq
  exact wpAny_pyIter_list p.isList ⟨s1.heap.objs.size,[s1.heap.objs.size],_,_,H1,rfl,I1.kept (t':=s1.toks) fun b o e=>au _ e,kJ a _,⟨_,aY _ rfl,rfl,rfl⟩,fp,
   q _ _ lj fun H2 S=>S.seq hq⟩
 ·obtain ⟨its,rv,p,hz⟩:=I1.tuple hq
  exact wpAny_pyIter_tuple (show s1.heap.IsTuple a its.toArray from p) ⟨s1.heap.objs.size,[s1.heap.objs.size],_,_,H1,rfl,I1.kept (t':=s1.toks) fun b o e=>au _ e,jQ a _,⟨_,aY _ rfl,rfl,rfl⟩,fp,
   q _ _ nv fun H2 S=>S.tup hq⟩
end
inductive TyX (K:ai) (H:Hp):V→Value→Prop
 | of {x:V} {t:Value}:oJ K H x t→TyX K H x t
 | tup {a:Addr} {xs:List V}:SqT K H a xs→TyX K H (.ref a) (.type "tuple")
 | lst {a:Addr} {xs:List V}:SqL K H a xs→TyX K H (.ref a) (.type "list")
section
variable {X:Cx}
theorem r_:fR X (.builtin "isinstance") (fun xs H Q=>∃x c t cv b,xs=[x,c]∧RelV c cv∧(∀u,RelV c u→u=cv)∧TyX X.K H x t∧bu X.K t cv=some b∧Q (.bl b) H):=by
 intro pins s σ H xs us Q I r h
 obtain ⟨x,c,t,cv,b,rfl,_,hu,ty,e,q⟩:=h
 obtain ⟨u,u',rfl,rx,rc⟩:=vals2 r
 obtain rfl:=hu u' rc
 have fin:∀tk,EP X pins σ Q (.bool b) {s with toks:=tk}:=fun tk=>⟨.bl b,H,I.tok _,rfl,q⟩
 cases ty with
 | of ty=>exact qb I rx ty e fin
 | @tup a ys hq =>
  cases (show u=Value.ref a from rx)
  obtain ⟨its,rv,⟨o,h1,h2,_⟩,hz⟩:=I.tuple hq
  exact cO PySem.W.kitx_tuple I.kIn ⟨o,h1,h2⟩ e (fun z=>nomatch z) fin
 | @lst a ys hq =>
  cases (show u=Value.ref a from rx)
  obtain ⟨its,rv,⟨o,n,h1,h2,_⟩,hz⟩:=I.list hq
  exact cO PySem.W.kitx_list I.kIn ⟨o,h1,h2⟩ e (fun z=>nomatch z) fin
end
end L2
namespace L2
open PySem PySem.Spec PyProof.Rows
theorem t_ {X:Cx} {i j:Nat} {x y:Str} {p1 p2 pos:Pos} {k:Nat} (hc:X.calm=true) (hN:X.N.Nodup) (hi:X.N[i]?=some x) (hj:X.N[j]?=some y) (hx:X.env.scope.names.lookup x=some .local) (hy:X.env.scope.names.lookup y=some .local) :
  PG X (.Tuple [.Name x p1,.Name y p2] k pos) (xh X.K 2 (qi (mB i) (qi (mB j) zB))):=sM hc (dh (bG hN hi (.inl hx) (.inr hx)) (dh (bG hN hj (.inl hy) (.inr hy)) fW))
theorem rM {K:ai}:bu K (.type "int") (.type "bool")=some false:=by with_unfolding_all rfl
theorem Wk.trans {a b d:St} (x:Wk a b) (y:Wk b d):Wk a d:=⟨x.1.trans y.1,fun i v e=>y.2 i v (x.2 i v e)⟩
theorem iK {σ0:St} {i j:Nat} {v u:Option V} (h:σ0[i]?=some none) (h':(σ0.set i v)[j]?=some none):Wk σ0 ((σ0.set i v).set j u):=(dQ h).trans (dQ h')
section
variable {K:ai} {H H':Hp} {a r C dx:Addr} {xs:List V} {fs:List (Str×V)}
theorem eY.Ax (S:eY a H H') (ha:H a=some (.ins C dx fs)) (h:SqL K H r xs):SqL K H' r xs:=by
 rcases h with (h | ⟨o,h⟩) | h
 ·exact .inl (.inl (S _ _ (ic h ha (by intro z;cases z)) h))
 ·exact .inl (.inr ⟨o,S _ _ (ic h ha (by intro z;cases z)) h⟩)
 ·exact .inr h
theorem eY.tupI (S:eY a H H') (ha:H a=some (.ins C dx fs)) (h:SqT K H r xs):SqT K H' r xs:=by
 rcases h with (h | ⟨o,h⟩) | h
 ·exact .inl (.inl (S _ _ (ic h ha (by intro z;cases z)) h))
 ·exact .inl (.inr ⟨o,S _ _ (ic h ha (by intro z;cases z)) h⟩)
 ·exact .inr h
theorem Pairs.vC (S:eY a H H') (ha:H a=some (.ins C dx fs)) {es:List (Int×Int)} (h:Pairs K H xs es):Pairs K H' xs es:=Paired.oM h fun _ _ ⟨r,e,q⟩=>⟨r,e,S.tupI ha q⟩
end
end L2
namespace L2
open PySem PySem.Spec PyProof.Rows
theorem PE.imp {X:Cx} {e:Expr} {t t':TE} (h:PE X e t) (k:∀σ H Q,t' σ H Q→t σ H Q):PE X e t':=fun pins s σ H Q I hw=>h pins s σ H Q I (k σ H Q hw)
theorem bx.upd {H H':Hp} {l:Addr} {o:HO} (e:bx H H') (h:H l=none):bx H (L2.upd H' l o):=fun b u q=>by rw [bX (bw q h)];exact e _ _ q
theorem bP {X:Cx} {k k':Nat} {x:Str} {ps:List Str} {sp:Sp} {e:Expr} {es:List Expr} {t:TA} {p pos:Pos} (D:Def X.prog X.w X.K X.mg X.base k x ps sp) (hr:iw k' X.A) (ha:PA X (e::es) t) (hk:k≤k':=by decide) (hg:Gl X x:=by rfl)
  (hdb:(x==("__debug__":Str))=false:=by decide) (he:starEach (e::es) X.env=(false,eval e X.env)::starEach es X.env:=by rfl) (hpl:(backTo pos (starEach es X.env)).any (·.1)=false:=by rfl) :
  PE X (.Call (.Name x p) (e::es) [] pos) (fun σ H Q=>t σ H fun vs H1=>sp vs H1 Q E0):=(vM D (hr.mono hk) hg ha hdb he hpl).imp fun σ H Q h=>by
 show t σ H fun vs H1=>sp (vs++[]) H1 Q E0
 simp only [bT]
 exact h
structure wI (K:ai) (C:Addr):Prop where
 cl:Cls K C
 nM:iZ K C "many"
 nT:iZ K C "ties"
 ca:cy K (.ref C) "__class__"=some (some (.builtin "object.__class__"))
 cg:PySem.W.specialIn K (.builtin "object.__class__") "__get__"=some (some (.builtin "getset_descriptor.__get__"))
 ck:PySem.W.takesIn K (.builtin "object.__class__")=some true
 co:dE K C (.type "object")=some true
abbrev wFs (m:Int) (t:Addr):List (Str×V):=[("many",.int m),("ties",.ref t)]
theorem qZ (m:Int) (t:Addr):(wFs m t).lookup ("many":Str)=some (.int m):=rfl
theorem qY (m:Int) (t:Addr):(wFs m t).lookup ("ties":Str)=some (.ref t):=rfl
def fb (K:ai) (C:Addr) (H:Hp) (a:Addr) (m:Int) (es:List (Int×Int)):Prop:=∃dx t xs,H a=some (.ins C dx (wFs m t))∧H t=some (.tup xs)∧Pairs K H xs es
theorem fb.same {K:ai} {C:Addr} {H H':Hp} {a:Addr} {m:Int} {es:List (Int×Int)} (h:fb K C H a m es) (S:bx H H'):fb K C H' a m es:=by
 obtain ⟨dx,t,xs,h1,h2,h3⟩:=h
 exact ⟨dx,t,xs,S _ _ h1,S _ _ h2,h3.same S⟩
section
variable {X:Cx} {C:Addr} {e:Expr} {ta:TE} {pos:Pos}
def vq (K:ai) (C:Addr) (ta:TE):TE:=fun σ H Q=>ta σ H fun x H1=>∃a m es,x=.ref a∧fb K C H1 a m es∧Q (.int m) H1
def vk (K:ai) (C:Addr) (ta:TE):TE:=fun σ H Q=>ta σ H fun x H1=>∃a m es,x=.ref a∧fb K C H1 a m es∧∀t xs,H1 t=some (.tup xs)→Pairs K H1 xs es→Q (.ref t) H1
theorem pF {f:Str} {r:V→Hp→VK→Prop} (he:PE X e ta) (hb:attributeBase e f X.env (eval e X.env)=eval e X.env) (k:∀x H Q,r x H Q→∃a C dx fs v,x=.ref a∧H a=some (.ins C dx fs)∧Cls X.K C∧iZ X.K C f∧fs.lookup f=some v∧Q v H) :
  PE X (.Attribute e f pos) (fun σ H Q=>ta σ H fun x H1=>r x H1 Q):=by
 intro pins s σ H Q I h
 refine uM hb (thn (he pins s σ H _ I h) fun u s1 ⟨x,H1,I1,rx,q⟩=>?_)
 obtain ⟨a,C',dx,fs,v,ex,ea,c,n,l,q'⟩:=k _ _ _ q
 subst ex
 obtain rfl:u=Value.ref a:=rx
 exact oq I1 ea c n l fun u' s2 I2 ru=>⟨v,H1,I2,ru,q'⟩
theorem ud (W:wI X.K C) (he:PE X e ta) (hb:attributeBase e "many" X.env (eval e X.env)=eval e X.env:=by rfl):PE X (.Attribute e "many" pos) (vq X.K C ta) :=
 pF (r:=fun x H1 Q=>∃a m es,x=.ref a∧fb X.K C H1 a m es∧Q (.int m) H1) he hb fun x H Q ⟨a,m,es,ex,⟨dx,t,xs,h1,_⟩,q⟩=>⟨a,C,dx,_,_,ex,h1,W.cl,W.nM,qZ m t,q⟩
theorem uc (W:wI X.K C) (he:PE X e ta) (hb:attributeBase e "ties" X.env (eval e X.env)=eval e X.env:=by rfl):PE X (.Attribute e "ties" pos) (vk X.K C ta) :=
 pF (r:=fun x H1 Q=>∃a m es,x=.ref a∧fb X.K C H1 a m es∧∀t xs,H1 t=some (.tup xs)→Pairs X.K H1 xs es→Q (.ref t) H1) he hb fun x H Q ⟨a,m,es,ex,⟨dx,t,xs,h1,h2,h3⟩,q⟩=>⟨a,C,dx,_,_,ex,h1,W.cl,W.nT,qY m t,q t xs h2 h3⟩
end
def cV (es:List (Int×Int)) (m:Int):Prop:=∀e∈es,0≤e.1∧e.1<m∧0≤e.2∧e.2<m
theorem cV.nil {m:Int}:cV [] m:=fun _ h=>nomatch h
theorem cV.snoc {es:List (Int×Int)} {m:Int} {e:Int×Int} (h:cV es m) (q:0≤e.1∧e.1<m∧0≤e.2∧e.2<m):cV (es++[e]) m:=fun x hx=>by
 rcases aF.mp hx with z | z
 ·exact h x z
 ·have e':x=e:=by simpa using z
  rw [e'];exact q
def mR (K:ai) (C:Addr):Sp:=fun vs H Q _=>∃(x dx p:Addr) (m:Int) (xs:List V) (es:List (Int×Int)),vs=[.ref x,.int m,.ref p]∧H x=some (.ins C dx [])∧(SqL K H p xs∨SqT K H p xs)∧Pairs K H xs es ∧
 1≤m∧m≤20∧es.length≤40∧cV es m∧∀H' t ys,eY x H H'→H' x=some (.ins C dx (wFs m t))→H' t=some (.tup ys)→Pairs K H' ys es→Q .non H'
def sg (P:Program) (w:World) (K:ai) (mg:Str→Option Value) (base:Heap) (k:Nat) (x:Str) (C:Addr) (ps:List Str) (sp:Sp):Prop :=
 ∃f fd,Mk K C f∧fm P w K mg base CX0 k f fd ps sp∧Binds K fd ps []∧mg x=some (.ref C)
def Ah (K:ai) (C:Addr) (t:TA):TE:=fun σ H Q=>t σ H fun vs H1=>∃(p:Addr) (m:Int) (xs:List V) (es:List (Int×Int)),vs=[.int m,.ref p]∧(SqL K H1 p xs∨SqT K H1 p xs)∧Pairs K H1 xs es ∧
 1≤m∧m≤20∧es.length≤40∧cV es m∧∀x H',H1 x=none→bx H1 H'→fb K C H' x m es→Q (.ref x) H'
theorem rq {X:Cx} {k k':Nat} {C:Addr} {x:Str} {ps:List Str} {sp:Sp} {e:Expr} {es:List Expr} {t:TA} {p pos:Pos} {R:List V→Hp→VK→Prop} (D:sg X.prog X.w X.K X.mg X.base k x C ps sp) (hr:iw k' X.A) (ha:PA X (e::es) t)
  (hR:∀vs H1 Q,R vs H1 Q→∀x dx,H1 x=none→H1 dx=none→dx≠x→sp (.ref x::vs) (upd (upd H1 dx (.own x)) x (.ins C dx [])) (fun v H2=>v=.non∧Q (.ref x) H2) E0)
  (hk:k+1≤k':=by decide) (hg:Gl X x:=by rfl)
  (hdb:(x==("__debug__":Str))=false:=by decide) (he:starEach (e::es) X.env=(false,eval e X.env)::starEach es X.env:=by rfl) (hpl:(backTo pos (starEach es X.env)).any (·.1)=false:=by rfl) :
  PE X (.Call (.Name x p) (e::es) [] pos) (fun σ H Q=>t σ H fun vs H1=>R vs H1 Q):=by
 obtain ⟨f,fd,M,F,b,m⟩:=D
 intro pins s σ H Q I h
 refine wpAny_Call_Name_kw (iu I hg m ?_ hdb)
 refine PySem.W.callWith_K (h₀:=X.base) I.ok.mod.kin M.kp (thn (ha pos pins s σ H _ I h) fun us s1 ⟨vs,H1,I1,r,q⟩=>⟨I1.kIn,?_⟩) he hpl
 exact rn (dvs:=[]) (ds:=[]) M F (hr.mono hk) b .nil vN I1 r fun y dy n1 n2 n3=>by
  rw [bT]
  exact hR vs H1 Q q y dy n1 n2 n3
theorem vK {X:Cx} {k k':Nat} {C:Addr} {x:Str} {ps:List Str} {e:Expr} {es:List Expr} {t:TA} {p pos:Pos} (D:sg X.prog X.w X.K X.mg X.base k x C ps (mR X.K C)) (hr:iw k' X.A) (ha:PA X (e::es) t)
  (hk:k+1≤k':=by decide) (hg:Gl X x:=by rfl)
  (hdb:(x==("__debug__":Str))=false:=by decide) (he:starEach (e::es) X.env=(false,eval e X.env)::starEach es X.env:=by rfl) (hpl:(backTo pos (starEach es X.env)).any (·.1)=false:=by rfl) :
  PE X (.Call (.Name x p) (e::es) [] pos) (Ah X.K C t):=by
 refine rq D hr ha (fun vs H1 Q q=>?_) hk hg hdb he hpl
 obtain ⟨p',mm,xs,es',rfl,hq,hp,b1,b2,b3,b4,q⟩:=q
 intro z dz nz ndz ne
 have s1:bx H1 (upd (upd H1 dz (.own z)) z (.ins C dz [])):=(bx.new ndz).trans (bx.new (by rw [bX ne.symm];exact nz))
 refine ⟨z,dz,p',mm,xs,es',rfl,av,hq.imp (fun y=>s1.seq y) (fun y=>s1.tup y),hp.same s1,b1,b2,b3,b4,fun H' tt ys sx h1 h2 h3=>⟨rfl,?_⟩⟩
 exact q z H' nz (fun bb o eb=>sx _ _ (bw eb nz) (s1 _ _ eb)) ⟨dz,tt,ys,h1,h2,h3⟩
end L2
namespace L2
open PySem PySem.Spec PyProof.Rows
theorem eY.of {H H':Hp} {a:Addr} (S:bx H H'):eY a H H':=fun b o _ e=>S b o e
theorem eY.trans {H H1 H2:Hp} {a:Addr} (S:eY a H H1) (T:eY a H1 H2):eY a H H2:=fun b o n e=>T b o n (S b o n e)
end L2
namespace L2
open PySem PySem.Spec PyProof.Rows
section
variable {X:Cx} {K:ai}
theorem ixL (h:X.K=K):IxR X (zU K):=by subst h;exact uv
theorem ixT (h:X.K=K):IxR X (zT K):=by subst h;exact wa
theorem slL (h:X.K=K):SlR X (zS K):=by subst h;exact tJ
theorem uj (h:X.K=K):OpR X (compareOp .In) (rIn K false):=by subst h;exact pK
theorem ma (h:X.K=K):OpR X (compareOp .NotIn) (rIn K true):=by subst h;exact kX
theorem vR (h:X.K=K) (hu:X.A.units+64<cLine):OpR X (compareOp .Eq) (xc K id):=by subst h;exact vQ hu
theorem md (h:X.K=K) (hu:X.A.units+64<cLine):OpR X (compareOp .NotEq) (xc K not):=by subst h;exact vO hu
def AX (K:ai):List V→Hp→VK→Prop:=fun xs H Q=>∃p ys,xs=[.ref p]∧(SqL K H p ys∨SqT K H p ys)∧Q (.int ys.length) H
theorem gc (h:X.K=K):fR X (.builtin "len") (AX K):=by subst h;exact lG
def yr (K:ai):List V→Hp→VK→Prop:=fun xs H Q=>∃p ys,xs=[.ref p]∧(SqL K H p ys∨SqT K H p ys)∧∀l,H l=none→Q (.ref l) (upd H l (.lst ys))
theorem lJ (h:X.K=K):fR X (.type "list") (yr K):=by subst h;exact lF
def vH (K:ai):List V→Hp→VK→Prop:=fun xs H Q=>∃p ys,xs=[.ref p]∧((SqL K H p ys∧∀l,H l=none→Q (.ref l) (upd H l (.tup ys)))∨(SqT K H p ys∧Q (.ref p) H))
theorem wC (h:X.K=K):fR X (.type "tuple") (vH K):=by subst h;exact kD
def AR (K:ai):List V→Hp→VK→Prop:=fun xs H Q=>∃(p:Addr) (ns:List Int),xs=[.ref p]∧(SqL K H p (ns.map V.int)∨SqT K H p (ns.map V.int))∧Q (.int ns.sum) H
theorem Aa (h:X.K=K) (hc:X.calm=true):fR X (.builtin "sum") (AR K):=by subst h;exact lD hc
def Ba (K:ai):List V→Hp→VK→Prop:=fun xs H Q=>∃(p:Addr) (ys:List V),xs=[.ref p]∧(SqL K H p ys∨SqT K H p ys)∧ys.all oN=true∧Q (.bl (ys.all tv)) H
theorem va (h:X.K=K) (hc:X.calm=true):fR X (.builtin "all") (Ba K):=by subst h;exact lI hc
def A_ (K:ai):List V→Hp→VK→Prop:=fun xs H Q=>∃(p:Addr) (ys:List V),xs=[.ref p]∧(SqL K H p ys∨SqT K H p ys)∧ys.all oN=true∧Q (.bl (ys.any tv)) H
theorem wD (h:X.K=K) (hc:X.calm=true):fR X (.builtin "any") (A_ K):=by subst h;exact lH hc
def AW (K:ai):List V→Hp→VK→Prop:=fun xs H Q=>∃(p:Addr) (ns:List Int),xs=[.ref p]∧(SqL K H p (ns.map V.int)∨SqT K H p (ns.map V.int))∧0<ns.length∧∀M,M∈ns→(∀a∈ns,M≤a)→Q (.int M) H
theorem Bp (h:X.K=K) (hc:X.calm=true):fR X (.builtin "min") (AW K):=by subst h;exact lE hc
def rIs (K:ai):List V→Hp→VK→Prop:=fun xs H Q=>∃x c t cv b,xs=[x,c]∧RelV c cv∧(∀u,RelV c u→u=cv)∧TyX K H x t∧bu K t cv=some b∧Q (.bl b) H
theorem cIs (h:X.K=K):fR X (.builtin "isinstance") (rIs K):=by subst h;exact r_
theorem f_ {tg l:Expr} {tl:TE} (h:X.K=K) (hl:PE X l tl):PI X tg l (zZ K tl):=by subst h;exact vI hl
theorem jo {es:List Expr} {k:Nat} {t:TGs} {n:Nat} {pos:Pos} (hK:X.K=K) (hc:X.calm=true) (h:PGs X es t) (hn:(assignEach es X.env).length=n) (hst:(assignEach es X.env).findIdx? (·.1)=none:=by rfl):PG X (.Tuple es k pos) (xh K n t):=by
 subst hK;exact sM hc h hn hst
theorem kU {i j:Nat} {x y:Str} {p1 p2 pos:Pos} {k:Nat} (hK:X.K=K) (hc:X.calm=true) (hN:X.N.Nodup) (hi:X.N[i]?=some x) (hj:X.N[j]?=some y) (hx:X.env.scope.names.lookup x=some .local) (hy:X.env.scope.names.lookup y=some .local) :
  PG X (.Tuple [.Name x p1,.Name y p2] k pos) (xh K 2 (qi (mB i) (qi (mB j) zB))):=by subst hK;exact t_ hc hN hi hj hx hy
theorem uh {C:Addr} {e:Expr} {ta:TE} {pos:Pos} (h:X.K=K) (W:wI K C) (he:PE X e ta) (hb:attributeBase e "many" X.env (eval e X.env)=eval e X.env:=by rfl):PE X (.Attribute e "many" pos) (vq K C ta):=by subst h;exact ud W he hb
theorem gF {C:Addr} {e:Expr} {ta:TE} {pos:Pos} (h:X.K=K) (W:wI K C) (he:PE X e ta) (hb:attributeBase e "ties" X.env (eval e X.env)=eval e X.env:=by rfl):PE X (.Attribute e "ties" pos) (vk K C ta):=by subst h;exact uc W he hb
end
end L2
namespace L2
open PySem PySem.Spec PyProof.Rows
theorem fv.live {P:Program} {w:World} {H:Hp} {h:Heap} {a:Addr} {o:HO} (x:fv P w H h a o):∃ob,h.get? a=some ob:=by
 cases o with
 | lst xs=>obtain ⟨_,_,_,_,e⟩:=x;exact ⟨_,e⟩
 | tup xs=>obtain ⟨_,_,_,ob,e,_⟩:=x;exact ⟨_,e⟩
 | dK kvs=>obtain ⟨_,_,_,_,ob,_,_,e,_⟩:=x;exact ⟨_,e⟩
 | dT kvs=>obtain ⟨_,_,_,_,ob,_,_,e,_⟩:=x;exact ⟨_,e⟩
 | set S n=>obtain ⟨ob,_,_,_,e,_⟩:=x;exact ⟨_,e⟩
 | ins C dx fs=>obtain ⟨_,_,_,e,_⟩:=x;exact ⟨_,e⟩
 | own y=>exact x
 | xd fs=>obtain ⟨_,⟨_,_,_,e,_⟩,_⟩:=x;exact ⟨_,e⟩
 | rng lo hi=>obtain ⟨_,_,_,e⟩:=x;exact ⟨_,e⟩
 | frz ob u=>obtain ⟨e,_⟩:=x;exact ⟨_,e⟩
 | tbl ps=>exact ⟨_,x⟩
 | met f y=>exact ⟨_,x⟩
 | ext φ=>obtain ⟨_,e,_⟩:=x;exact e
theorem HOk.dead {P:Program} {w:World} {H:Hp} {h:Heap} {a:Addr} (x:HOk P w H h) (e:h.get? a=none):H a=none:=by
 cases q:H a with
 | none=>rfl
 | some o =>
  obtain ⟨ob,z⟩:=(x a o q).live
  rw [e] at z;cases z
def Yg (X:Cx) (H:Hp) (b:Addr):Prop:=X.s₀.heap.get? b=none∧H b=none∧∀p∈X.pn,p.1≠b
section
variable {X:Cx} {pins:List (Addr×Obj)} {σ:St} {H:Hp} {s:Shared}
theorem Inv.young (I:Inv X pins σ H s) (hex:X.ex=[]) {b:Addr} (e:s.heap.get? b=none):Yg X H b:=by
 refine ⟨?_,I.hok.dead e,fun p hp z=>?_⟩
 ·cases q:X.s₀.heap.get? b with
  | none=>rfl
  | some o =>
   obtain ⟨o',z⟩:=I.base.there b o q (by rw [hex];simp)
   rw [e] at z;cases z
 ·have:=(I.pin p (aK _ hp)).1
  rw [z,e] at this;cases this
theorem Inv.wG (I:Inv X pins σ H s):Inv X [] σ H s:=I.jn fun _ h=>nomatch h
theorem Inv.vT {h':Heap} {ch:List Addr} (I:Inv X [] σ H s) (hch:∀b∈ch,Yg X H b∧∃o vs,s.heap.get? b=some o∧o.data=.fields vs)
  (keep:∀b o,s.heap.get? b=some o→b∉ch→b∉frs X.stack→h'.get? b=some o)
  (slot:∀b o,s.heap.get? b=some o→b∈frs X.stack→∃sl,h'.get? b=some {o with slots:=sl}):Inv X [] σ H {s with heap:=h'}:=by
 have up:∀b o,s.heap.get? b=some o→b∉ch→∃sl,h'.get? b=some {o with slots:=sl}:=fun b o e hb=>by
  by_cases hf:b∈frs X.stack
  ·exact slot b o e hf
  ·exact ⟨o.slots,keep b o e hb hf⟩
 have nchF:∀b o,s.heap.get? b=some o→(∀vs,o.data≠.fields vs)→b∉ch:=fun b o e hd hb=>by
  obtain ⟨_,o',vs,e',d⟩:=hch b hb
  rw [e] at e';cases e'
  exact hd vs d
 have nch0:∀b o,X.s₀.heap.get? b=some o→b∉ch:=fun b o e hb=>by
  have:=(hch b hb).1.1
  rw [e] at this;cases this
 have nst:∀b o,X.s₀.heap.get? b=some o→b∉X.fs→b∉frs X.stack:=fun b o e hb hs=>by
  rcases bq.mp (I.iS b hs) with z | z
  ·exact absurd (bp (aR e) I.ok.above) (by rw [z];exact cS _)
  ·exact hb z
 obtain ⟨m,hn,hl⟩:=id I.loc
 refine ⟨I.ok,I.os,I.bare,⟨fun b o e n hb hx=>?_,fun b o e n hb hx=>?_,I.base.free,fun b o e hx=>?_,I.base.tups,I.base.frzs,I.base.tbls⟩,⟨m,?_,fun i x v e1 e2 e3=>?_⟩,fun x c e=>?_,I.free,I.freeC,fun p hp=>?_,fun b u e=>?_,I.len⟩
 ·exact keep b o (I.base.keep b o e n hb hx) (nch0 b o e) (nst b o e hb)
 ·obtain ⟨sl,e1⟩:=I.base.slot b o e n hb hx
  obtain ⟨sl',e2⟩:=up b _ e1 (nch0 b o e)
  exact ⟨sl',e2⟩
 ·obtain ⟨o',e1⟩:=I.base.there b o e hx
  obtain ⟨sl,e2⟩:=up b o' e1 (nch0 b o e)
  exact ⟨_,e2⟩
 ·obtain ⟨o,es,ep,ho,hd,r⟩:=hn
  obtain ⟨sl,e2⟩:=up _ o ho (nchF _ o ho fun vs z=>by rw [hd] at z;cases z)
  exact ⟨_,es,ep,e2,hd,r⟩
 ·obtain ⟨u,r,l⟩:=hl i x v e1 e2 e3
  refine ⟨u,r,?_⟩
  rcases l with l | ⟨k,c,e,o,ho,hd⟩
  ·exact .inl l
  ·obtain ⟨sl,e2⟩:=up c o ho (nchF c o ho fun vs z=>by rw [hd] at z;cases z)
   exact .inr ⟨k,c,e,_,e2,hd⟩
 ·obtain ⟨v,o,ho,hd⟩:=I.cell x c e
  obtain ⟨sl,e2⟩:=up c o ho (nchF c o ho fun vs z=>by rw [hd] at z;cases z)
  exact ⟨v,_,e2,hd⟩
 ·obtain ⟨e,n,ne,nf,d⟩:=I.pin p hp
  refine ⟨keep p.1 p.2 e (fun hb=>(hch _ hb).1.2.2 p (by simpa using hp) rfl) (fun hs=>?_),n,ne,nf,d⟩
  rcases bq.mp (I.iS _ hs) with z | z
  ·exact ne z
  ·exact nf z
 ·refine (I.hok b u e).o_ (fun c v hc q=>keep c v q (fun hb=>?_) (fun hs=>?_)) (fun _ q=>q) fun _ _ q=>q
  ·have z:=(hch c hb).1.2.1
   rcases hc with hc | hc
   ·rw [hc,e] at z;cases z
   ·rw [hc] at z;cases z
  ·have z:=I.lS c hs
   rcases hc with hc | hc
   ·rw [hc,e] at z;cases z
   ·rw [hc] at z;cases z
end
def IsX (o:Obj):Value→Prop
 | .int d A=>o.cls=.ref A∧o.dict=some d.toNat
 | C=>o.cls=C
def vc (X:Cx) (H:Hp) (h:Heap) (x:Addr) (C:Value) (fl:Option Value):Prop :=
 Yg X H x∧∃oe vs a0,h.get? x=some oe∧IsX oe C∧oe.data=.fields vs∧vs[0]?=some a0 ∧
  match fl with
  | none=>vs[1]?=some .none
  | some v=>∃T oT ts,vs[1]?=some (.ref T)∧T≠x∧Yg X H T∧h.get? T=some oT∧oT.data=.fields ts∧ts[3]?=some v
theorem jA {h base base':Heap}:∀{l:List Env},h.FunFrames base l→(∀b∈frs l,base'.get? b=none)→h.FunFrames base' l
 | [],_,_=>trivial
 | env::r,hl,hb=>by
  obtain ⟨hk,⟨L,o,hf,hn,ho,hd⟩,hr⟩:=hl
  have e:frs (env::r)=L::frs r:=by unfold frs;rw [List.filterMap_cons,hf]
  exact ⟨hk,⟨L,o,hf,hb L (by rw [e];exact aU),ho,hd⟩,jA hr fun b z=>hb b (by rw [e];exact aW _ z)⟩
section
variable {X:Cx} {σ:St} {H:Hp} {s:Shared} {M:Model} {A:Around} {E:Value→Shared→Prop} {x:Addr} {C:Value}
theorem iD {v:Value} {fr:Option Addr} {Q:Unit→Shared→Prop} (I:Inv X [] σ H s) (F:vc X H s.heap x C (some v))
  (k:∀s',Inv X [] σ H s'→vc X H s'.heap x C (some (fr.elim .none fun f=>rawInt f))→Q () s'):wpAny M A (setFlight (.ref x) fr) Q E s:=by
 obtain ⟨y,oe,vs,a0,e,c,d,v0,T,oT,ts,r1,r2,r3,r4,r5,r6⟩:=F
 have hz:3<ts.size:=(Array.getElem?_eq_some_iff.mp r6).1
 unfold setFlight
 refine wpAny_bind (wpAny_field e d r1 ?_)
 rw [if_pos (show (Value.ref T != Value.none)=true from by simp)]
 have other:∀b,b≠T→∀z:Value,(s.heap.update T (Obj.mapFields (·.setIfInBounds 3 z))).get? b=s.heap.get? b:=fun b hb z=>Heap.get?_update_other _ _ (Ne.symm hb)
 have there:=fun z:Value=>bC (Obj.mapFields (·.setIfInBounds 3 z)) r4 (Obj.isFreed_of_fields (Obj.data_mapFields r5 _))
 refine wpAny_setField r4 r5 hz (k _ (I.vT (ch:=[T]) (fun b hb=>?_) (fun b o eb hb _=>?_) fun b o eb hb=>?_) ?_)
 ·have z:b=T:=by simpa using hb
  rw [z];exact ⟨r3,oT,ts,r4,r5⟩
 ·rw [other b (fun z=>hb (by simp [z]))];exact eb
 ·refine ⟨o.slots,?_⟩
  rw [other b ?_]
  ·exact eb
  ·intro z
   obtain ⟨_,o',eo,hd⟩:=I.stack.mem hb
   rw [z,r4] at eo;cases eo
   exact hd ts r5
 ·refine ⟨y,oe,vs,a0,by rw [other x (Ne.symm r2)];exact e,c,d,v0,T,_,_,r1,r2,r3,there _,Obj.data_mapFields r5 _,?_⟩
  simp [hz]
def rR (s:Shared) (l:List Addr):Heap:=PySem.W.hideAll s.heap l
theorem IsX.eqv {o o':Obj} (hc:o'.cls=o.cls) (hd:o'.dict=o.dict):∀{C:Value},IsX o C→IsX o' C:=fun {C} h=>by
 cases C<;>first
  | exact ⟨hc.trans h.1,hd.trans h.2⟩
  | exact hc.trans h
structure zG (e:Addr) (oe tb:Obj) (vs:Array Value) (h h':Heap):Prop where
 new:h'.get? h.objs.size=some tb
 rest:∀b o,b≠e→h.get? b=some o→h'.get? b=some o
 at_:∃o',h'.get? e=some o'∧o'.cls=oe.cls∧o'.dict=oe.dict∧o'.data=.fields (vs.setIfInBounds 1 (.ref h.objs.size))
theorem zG.mk' {e:Addr} {oe tb:Obj} {vs:Array Value} {h:Heap} (he:h.get? e=some oe) (hd:oe.data=.fields vs) (ht:tb.isFreed=false):zG e oe tb vs h ((h.push tb).update e (Obj.mapFields (·.setIfInBounds 1 (.ref h.objs.size)))):=by
 obtain ⟨c,d,x,sl⟩:=oe
 cases hd
 have ne:=bj (aR he)
 exact ⟨aA _ ne (aY _ ht),fun b o hb q=>aA _ (Ne.symm hb) (au _ q),_,bC _ (au _ he) rfl,rfl,rfl,rfl⟩
theorem s_ {base:Heap} {env:Env} {outer:List Env} {L e:Addr} {oe:Obj} {vs:Array Value} {head a0:Value} {hadNext:Bool} {Q:Unit→Shared→Prop} (hfr:A.frames=some (env::outer)) (hl:s.heap.FunFrames base (env::outer)) (hf:env.frame=some L) (he:s.heap.get? e=some oe) (hkb:base.StaysIn s.heap) (hen:base.get? e=none) (hd:oe.data=.fields vs) (hsz:1<vs.size) (h0:vs[0]?=some a0)
  (h:∀h',Heap.NotedW base (env::outer) e oe.cls a0 (rawInt L) s.heap h'→(∃o',h'.get? e=some o'∧o'.dict=oe.dict)→Q () {s with heap:=h'}):wpAny M A (do let a ←frameOf env;let pl ←entryPlaceOf L hadNext;let b ←EntryCells.newEntry head a .none (rawInt L) .none pl;setField (.ref e) 1 b) Q E s:=by
 have plain:∀{b:Addr} {o:Obj},s.heap.get? b=some o→(∀ws,o.data≠.fields ws)→b≠e:=fun q n z=>by cases (z▸q).symm.trans he;exact n vs hd
 have apart:e∉(env::outer).filterMap (·.frame):=fun m=>let ⟨_,_,q,n⟩:=hl.mem m;plain q n rfl
 refine wpAny_bind (wpAny_frameOf_fun hfr hl hf fun hp S=>wpAny_bind (wpAny_entryPlaceOf fun pl place=>wpAny_bind (wpAny_newObj_type ?_ (place.sizeOk5 _ _ _ _ _))))
 have there:=(S.2.1 e apart).trans he
 have low:base.StaysIn hp:=fun b o q=>(S.2.1 b fun m=>nomatch (hl.mem m).1.symm.trans q).trans (hkb b o q)
 refine wpAny_setField (au _ there) hd hsz ?_
 have U:=zG.mk' (tb:=⟨.type "traceback",none,.fields ([head,.ref L,.none,rawInt L,.none]++(if pl.isEmpty then az 6 Value.none else pl)).toArray,#[]⟩) there hd rfl
 obtain ⟨o',q1,q2,q3,q4⟩:=U.at_
 have kept:∀b o,s.heap.get? b=some o→(∀ws,o.data≠.fields ws)→∃sl,_:=fun b o q n=>let ⟨sl,z⟩:=S.2.2 b o q;⟨sl,U.rest b _ (plain q n) z⟩
 refine h _ ⟨fun b o q=>U.rest b o (fun z=>nomatch (z▸hen).symm.trans q) (low b o q),hl.of_keeps fun b o q n=>let ⟨_,z⟩:=kept b o q n;⟨_,z,rfl⟩,⟨o',_,hp.objs.size,_,_,q1,⟨q2,?_⟩,q4,?_,low.fresh,(bj (aR there)).symm,U.new,rfl,?_⟩,kept⟩ ⟨o',q1,q3⟩
 ·rw [Array.getElem?_setIfInBounds_ne (by decide),h0]
 ·rw [Array.getElem?_setIfInBounds_self_of_lt hsz]
 ·rw [List.getElem?_toArray];rfl
theorem nc {v:Value} {h':Heap} {l ch:List Addr} {a0:Value} {ox:Obj} (I:Inv X [] σ H s) (hex:X.ex=[]) (y:Yg X H x) (hx:x∈ch) (hl:l=ch++frs X.stack) (iX:IsX ox C)
  (hch:∀b∈ch,Yg X H b∧∃o vs,s.heap.get? b=some o∧o.data=.fields vs) (N:Heap.NotedW (rR s l) X.stack x ox.cls a0 v s.heap h') (hdc:∃o',h'.get? x=some o'∧o'.dict=ox.dict) :
  Inv X [] σ H {s with heap:=h'}∧vc X H h' x C (some v):=by
 obtain ⟨n1,n2,n3,n4⟩:=N
 subst hl
 have frd:∀b o,s.heap.get? b=some o→b∈frs X.stack→∀vs,o.data≠.fields vs:=fun b o e hb=>by
  obtain ⟨_,o',eo,hd⟩:=I.stack.mem hb
  rw [e] at eo;cases eo
  exact hd
 refine ⟨I.vT (ch:=ch) hch (fun b o e hb hs=>n1 b o (PySem.W.hideAll_get _ e fun z=>(aF.mp z).elim hb hs)) (fun b o e hb=>n4 b o e (frd b o e hb)),y,?_⟩
 obtain ⟨oe,vs,T,oT,ts,e,⟨c,v0⟩,d,r1,r2,r3,r4,r5,r6⟩:=n3
 obtain ⟨o',eo',dd⟩:=hdc
 rw [e] at eo';cases eo'
 refine ⟨oe,vs,a0,e,IsX.eqv c dd iX,d,v0,T,oT,ts,r1,r3,?_,r4,r5,r6⟩
 cases q:s.heap.get? T with
 | none=>exact I.young hex q
 | some o =>
  by_cases hT:T∈ch
  ·exact (hch T hT).1
  ·by_cases hf:T∈frs X.stack
   ·exfalso
    obtain ⟨sl,z⟩:=n4 T o q (frd T o q hf)
    rw [r4] at z;cases z
    exact frd T o q hf ts r5
   ·have:=PySem.W.hideAll_get (ch++frs X.stack) q fun z=>(aF.mp z).elim hT hf
    rw [show PySem.W.hideAll s.heap (ch++frs X.stack)=rR s (ch++frs X.stack) from rfl,r2] at this;cases this
theorem mh {fl:Option Value} {L:Addr} {Q:Unit→Shared→Prop} (I:Inv X [] σ H s) (hex:X.ex=[]) (hfr:A.frames=some X.stack) (hst:X.stack=X.env::X.outer) (hL:X.env.frame=some L)
  (F:vc X H s.heap x C fl) (hfl:fl=none∨fl=some .none∨fl=some (rawInt L))
  (k:∀s',Inv X [] σ H s'→vc X H s'.heap x C (some (rawInt L))→Q () s'):wpAny M A (noteFrame (.ref x) X.env) Q E s:=by
 have hidS:∀l,(rR s l).StaysIn s.heap:=fun l b o e=>PySem.W.of_hideAll l e
 have hidN:∀l b,b∈l→(rR s l).get? b=none:=fun l b hb=>PySem.W.hideAll_none l hb
 have hidF:∀ch,s.heap.FunFrames (rR s (ch++frs X.stack)) X.stack:=fun ch=>jA I.stack fun b hb=>hidN _ b (aG _ hb)
 obtain ⟨y,oe,vs,a0,e,c,d,v0,r⟩:=id F
 rcases hfl with rfl | rfl | rfl
 ·have hch:∀b∈[x],Yg X H b∧∃o vs,s.heap.get? b=some o∧o.data=.fields vs:=fun b hb=>by
   have z:b=x:=by simpa using hb
   rw [z];exact ⟨y,oe,vs,e,d⟩
  have r':vs[1]?=some Value.none:=r
  unfold noteFrame
  simp only [hL]
  refine wpAny_bind (wpAny_field e d r' ?_)
  rw [if_neg (by decide)]
  refine s_ (base:=rR s ([x]++frs X.stack)) (outer:=X.outer) (by rw [hfr,hst]) (by rw [←hst];exact hidF [x]) hL e (hidS _) (hidN _ x (by simp)) d (Array.getElem?_eq_some_iff.mp r').1 v0 fun h' N hdc=>?_
  rw [←hst] at N
  obtain ⟨I',F'⟩:=nc I hex y (by simp) rfl c hch N hdc
  exact k _ I' F'
 ·obtain ⟨T,oT,ts,r1,r2,r3,r4,r5,r6⟩:=id r
  have hch:∀b∈[x,T],Yg X H b∧∃o vs,s.heap.get? b=some o∧o.data=.fields vs:=fun b hb=>by
   have z:b=x∨b=T:=by simpa using hb
   rcases z with z | z
   ·rw [z];exact ⟨y,oe,vs,e,d⟩
   ·rw [z];exact ⟨r3,oT,ts,r4,r5⟩
  unfold noteFrame
  simp only [hL]
  refine wpAny_bind (wpAny_field e d r1 ?_)
  rw [if_pos (show (Value.ref T != Value.none)=true from by simp)];refine wpAny_bind (wpAny_field r4 r5 r6 ?_)
  rw [if_neg (show ¬((Value.none==rawInt L)=true) from by simp [rawInt])];refine wpAny_bind (wpAny_setField r4 r5 (Array.getElem?_eq_some_iff.mp r6).1 ?_)
  have oth:∀b,b≠T→(s.heap.update T (Obj.mapFields (·.setIfInBounds 3 Value.none))).get? b=s.heap.get? b:=fun b hb=>Heap.get?_update_other _ _ (Ne.symm hb)
  have nrec:∀b o,s.heap.get? b=some o→(∀vs,o.data≠.fields vs)→b≠T:=fun b o hb hnf q=>by
   rw [q,r4] at hb;cases hb;exact hnf ts r5
  have qe:(rR s ([x,T]++frs X.stack)).get? T=none:=hidN _ T (by simp)
  refine s_ (s:={s with heap:=s.heap.update T (Obj.mapFields (·.setIfInBounds 3 Value.none))}) (base:=rR s ([x,T]++frs X.stack)) (outer:=X.outer) (by rw [hfr,hst]) (by rw [←hst];exact (hidF [x,T]).of_keeps fun b o hb hnf=>⟨o,(oth b (nrec b o hb hnf)).trans hb,rfl⟩) hL ((oth x (Ne.symm r2)).trans e)
   (fun b o hbo=>(oth b fun q=>by rw [q,qe] at hbo;cases hbo).trans (hidS _ b o hbo)) (hidN _ x (by simp)) d (Array.getElem?_eq_some_iff.mp r1).1 v0 fun h' N hdc=>?_
  rw [←hst] at N
  obtain ⟨x1,x2,x3,x4⟩:=N
  obtain ⟨I',F'⟩:=nc I hex y (by simp) rfl c hch ⟨x1,x2,x3,fun b o hb hnf=>x4 b o ((oth b (nrec b o hb hnf)).trans hb) hnf⟩ hdc
  exact k _ I' F'
 ·obtain ⟨T,oT,ts,r1,r2,r3,r4,r5,r6⟩:=id r
  refine wpAny_noteFrame_againW (base:=rR s ([x,T]++frs X.stack)) (cls:=oe.cls) (a0:=a0) hL ?_ (k s I F)
  exact ⟨oe,vs,T,oT,ts,e,⟨rfl,v0⟩,d,r1,hidN _ T (by simp),r2,r4,r5,r6⟩
end
def jK (X:Cx) (Ex:St→Value→Hp→Prop):Value→Shared→Prop:=fun e s' =>
 ∃(x:Addr) (C:Value) (fl:Option Value) (σ:St) (H:Hp),e=.ref x∧Inv X [] σ H s'∧vc X H s'.heap x C fl∧(fl=none∨fl=some .none∨fl=some (rawInt X.env.locals))∧Ex σ C H
def CXE (P:Program) (w:World):CXT:=fun outer H s E e s' =>
 ∃(x:Addr) (C:Value) (H':Hp),e=.ref x∧s'.os=s.os∧AllBare s'.gens∧Un (frs outer) [] H H' s.heap s'.heap∧HOk P w H' s'.heap∧s.heap.get? x=none∧H' x=none ∧
  (∃oe vs a0 T oT ts,s'.heap.get? x=some oe∧IsX oe C∧oe.data=.fields vs∧vs[0]?=some a0∧vs[1]?=some (.ref T)∧T≠x∧s.heap.get? T=none∧H' T=none∧s'.heap.get? T=some oT∧oT.data=.fields ts∧ts[3]?=some .none) ∧
  E C none H'
structure Body (X:Cx):Prop where
 ex:X.ex=[]
 st:X.stack=X.env::X.outer
 fr:X.env.frame=some X.env.locals
section
variable {X:Cx} {Ex:St→Value→Hp→Prop}
theorem ow (B:Body X) {A:Around} (hfr:A.frames=some X.stack):∀e s',jK X Ex e s'→notedBy (model X.prog X.w) A X.env (cameBackBy (model X.prog X.w) A X.env (jK X Ex)) e s':=by
 rintro e s' ⟨x,C,fl,σ,H,rfl,I,F,hfl,q⟩
 refine mh (L:=X.env.locals) I B.ex hfr B.st B.fr F hfl fun s1 I1 F1=>?_
 obtain ⟨y,oe,vs,a0,e1,c,d,v0,T,oT,ts,r1,r2,r3,r4,r5,r6⟩:=id F1
 refine wpAny_bind (wpAny_field e1 d r1 ?_)
 rw [if_neg (by simp)]
 refine iD I1 F1 fun s2 I2 F2=>⟨x,C,_,σ,H,rfl,I2,F2,.inr (.inr ?_),q⟩
 rw [B.fr];rfl
theorem yu (B:Body X) (ok:X.A.frames=some X.stack):PassesOwn (model (X.ia (jK X Ex)).prog (X.ia (jK X Ex)).w) (X.ia (jK X Ex)).A (X.ia (jK X Ex)).env (X.ia (jK X Ex)).xe:=fun e s' h=>ow B ok e s' h
theorem PSs.more {E1:Value→Shared→Prop} {st:List Stmt} {t:TS} (h:PSs (X.ia E1) st t) (hE:∀e s,E1 e s→X.xe e s):PSs X st t:=fun pins s σ H D I hw =>
 wpAny_mono (h pins s σ H D (I.ia _) hw) (fun _ _ q=>q.fC) fun e s z=>hE e s z
end
theorem oy {P:Program} {w:World} {K:ai} {mg:Str→Option Value} {base:Heap} {N:List Str} {qual:Str} {scope:Scope} {f:Addr} {cd:Value} {A:Around} {outer:List Env} {s:Shared} {H:Hp} {E:XK}
  (B:Body (oG (CXE P w) P w K mg base N qual scope f cd A outer s H E)):∀e s',jK (oG (CXE P w) P w K mg base N qual scope f cd A outer s H E) (fun _ C H'=>E C none H') e s'→(oG (CXE P w) P w K mg base N qual scope f cd A outer s H E).xe e s':=by
 rintro e s' ⟨x,C,fl,σ,H1,rfl,I,F,hfl,q⟩
 show wpAny _ _ (leaving _ _) _ _ s'
 unfold leaving
 refine wpAny_bind (mh I B.ex I.ok.frames B.st B.fr F hfl fun s1 I1 F1=>?_)
 refine iD I1 F1 fun s2 I2 F2=>?_
 obtain ⟨y,oe,vs,a0,e1,c,d,v0,T,oT,ts,r1,r2,r3,r4,r5,r6⟩:=id F2
 exact ⟨x,C,H1,rfl,I2.os,I2.bare,I2.base,I2.hok,y.1,y.2.1,⟨oe,vs,a0,T,oT,ts,e1,c,d,v0,r1,r2,r3.1,r3.2.1,r4,r5,r6⟩,q⟩
section
variable {P:Program} {w:World} {K:ai} {mg:Str→Option Value} {base:Heap}
abbrev cxE (P:Program) (w:World) (K:ai) (mg:Str→Option Value) (base:Heap) (N:List Str) (qual:Str) (scope:Scope) (f:Addr) (cd:Value) (A:Around) (outer:List Env) (s:Shared) (H:Hp) (E:XK):Cx :=
 (oG (CXE P w) P w K mg base N qual scope f cd A outer s H E).ia (jK (oG (CXE P w) P w K mg base N qual scope f cd A outer s H E) (fun _ C H'=>E C none H'))
theorem Fun.okE {x qual:Str} {st:Stmt} {f:Addr} {fd:FuncData} {N ps:List Str} {k:Nat} {sp:Sp} (F:Fun K x qual st f fd) (S:bS N ps (aB st)) (len:∀vs H Q E,sp vs H Q E→vs.length=ps.length)
  (hbody:∀(cdv:Value) (A:Around) (outer:List Env) (s:Shared) (H:Hp) (vs:List V) (Q:VK) (E:XK),iw k (A.deeper (envOfC qual (aB st) s.heap.objs.size f cdv))→sp vs H Q E →
   ∃t,PSs (cxE P w K mg base N qual (aB st) f cdv A outer s H E) (bO st) t∧t {nx:=fun _ H'=>Q .non H',rt:=Q} (start N vs) H):fm P w K mg base (CXE P w) (k+1) f fd ps sp:=by
 obtain ⟨oc,od,kV,doc,pm,an,cdv,ct,osl,rfl,lk,hcd⟩:=F.ex
 refine wj lk hcd S len fun A outer s H vs Q E hr hsp=>?_
 obtain ⟨t,h,q⟩:=hbody cdv A outer s H vs Q E hr hsp
 exact ⟨t,h.more (oy ⟨rfl,rfl,rfl⟩),q⟩
theorem uK {N:List Str} {qual:Str} {scope:Scope} {f:Addr} {cd:Value} {A:Around} {outer:List Env} {s:Shared} {H:Hp} {E:XK}:Body (oG (CXE P w) P w K mg base N qual scope f cd A outer s H E):=⟨rfl,rfl,rfl⟩
end
section
variable {X:Cx} {Ex:St→Value→Hp→Prop}
theorem lV {tg iter:Expr} {body:List Stmt} {wi:TI} {g:TG} {tb:TS} {pos:Pos} (B:Body X) (hc:X.calm=true) (hi:PI (X.ia (jK X Ex)) tg iter wi) (hg:PG (X.ia (jK X Ex)) tg g) (hb:PSs (X.ia (jK X Ex)) body tb)
  (hs:∀x,foldedSetIterable iter X.env x=pure x:=by intro _;rfl):PS (X.ia (jK X Ex)) (.For tg iter body [] pos) (zJ wi g tb):=fun pins s σ H D I h =>
 fk (X:=X.ia (jK X Ex)) (yu B I.fC.ok.frames) hc hi hg hb hs pins s σ H D I h
def gT (P:Program) (w:World) (K:ai) (mg:Str→Option Value) (base:Heap) (k:Nat) (x:Str) (ps:List Str) (sp:Sp):Prop :=
 ∃f fd,fm P w K mg base (CXE P w) k f fd ps sp∧mg x=some (.ref f)∧aJ K (.ref f)=true∧Binds K fd ps []
theorem gT.of {P:Program} {w:World} {K:ai} {mg:Str→Option Value} {base:Heap} {k:Nat} {x qual:Str} {ps:List Str} {sp:Sp} {st:Stmt} {f:Addr} {fd:FuncData}
  (F:Fun K x qual st f fd) (m:mg x=some (.ref f)) (b:Binds K fd ps []) (ok:fm P w K mg base (CXE P w) k f fd ps sp):gT P w K mg base k x ps sp:=⟨f,fd,ok,m,F.kp,b⟩
theorem rT {pins:List (Addr×Obj)} {σ:St} {H:Hp} {s s':Shared} {e:Value} {E:XK} (hex:X.ex=[]) (I:Inv X pins σ H s) (hE:∀C H',E C none H'→Ex σ C H') (h:CXE X.prog X.w X.stack H s E e s'):jK X Ex e s':=by
 obtain ⟨x,C,H',rfl,os,bare,un,hok,nx,hx,⟨oe,vs,a0,T,oT,ts,e1,c,d,v0,v1,nT,sT,hT,eT,dT,t3⟩,q⟩:=h
 have y:=I.young hex nx
 have z:=I.young hex sT
 exact ⟨x,C,some .none,σ,H',rfl,I.wG.qT (ch:=[]) os un hok bare (fun b hb=>nomatch hb),⟨⟨y.1,hx,y.2.2⟩,oe,vs,a0,e1,c,d,v0,T,oT,ts,v1,nT,⟨z.1,hT,z.2.2⟩,eT,dT,t3⟩,.inr (.inl rfl),hE _ _ q⟩
theorem tQ {k:Nat} {f:Addr} {fd:FuncData} {ps:List Str} {sp:Sp} {pins:List (Addr×Obj)} {σ:St} {H:Hp} {s:Shared} {Q:VK} {us:List Value} {vs:List V} (F:fm X.prog X.w X.K X.mg X.base (CXE X.prog X.w) k f fd ps sp) (hr:iw k X.A) (hb:Binds X.K fd ps [])
  (hex:X.ex=[]) (I:Inv X pins σ H s) (r:Vals vs us) (h:sp vs H Q fun C _ H'=>Ex σ C H'):wpAny (model X.prog X.w) X.A (call (.ref f) us) (EP (X.ia (jK X Ex)) pins σ Q) (jK X Ex) s:=by
 have hl:(us++[]).length=ps.length:=by rw [bT,←r.length];exact F.len _ _ _ _ h
 have bt:=hb s us I.kIn hl
 rw [bT] at bt
 refine wpAny_call (codeAny_mono (F.run X.A X.stack s H ⟨us,[]⟩ us vs Q _ hr I.xi bt r h) fun r s' hq=>?_)
 cases r with
 | error e=>exact rT (E:=fun C _ H'=>Ex σ C H') hex I (fun _ _ z=>z) hq
 | ok fl =>
  cases fl with
  | ret u =>
   obtain ⟨v,H',I',rv,q⟩:=I.after hq
   exact ⟨v,H',I'.ia _,rv,q⟩
  | next=>exact False.elim hq
  | brk=>exact False.elim hq
  | cont=>exact False.elim hq
def vv (sp:Sp) (Ex:St→Value→Hp→Prop) (t:TA):TE:=fun σ H Q=>t σ H fun vs H1=>sp vs H1 Q fun C _ H'=>Ex σ C H'
theorem fH {k k':Nat} {x:Str} {ps:List Str} {sp:Sp} {e:Expr} {es:List Expr} {t:TA} {p pos:Pos} (D:gT X.prog X.w X.K X.mg X.base k x ps sp) (hr:iw k' X.A) (hex:X.ex=[]) (hg:Gl X x) (ha:PA (X.ia (jK X Ex)) (e::es) t) (hk:k≤k':=by decide)
  (hdb:(x==("__debug__":Str))=false:=by decide) (he:starEach (e::es) X.env=(false,eval e X.env)::starEach es X.env:=by rfl) (hpl:(backTo pos (starEach es X.env)).any (·.1)=false:=by rfl) :
  PE (X.ia (jK X Ex)) (.Call (.Name x p) (e::es) [] pos) (vv sp Ex t):=by
 obtain ⟨f,fd,F,m,kp,b⟩:=D
 intro pins s σ H Q I h
 refine wpAny_Call_Name_kw (iu I hg m ?_ hdb)
 refine PySem.W.callWith_K (h₀:=X.base) I.ok.mod.kin kp (thn (ha pos pins s σ H _ I h) fun us s1 ⟨vs,H1,I1,r,q⟩=>⟨I1.kIn,?_⟩) he hpl
 exact tQ F (hr.mono hk) b hex I1.fC r q
end
end L2
namespace L2
open PySem PySem.Spec PyProof.Rows
abbrev tq:List Value:=[.type "ValueError",.type "Exception",.type "BaseException",.type "object"]
def jJ (K:ai) (C:Addr):Prop:=fi K C tq "ValueError.__new__"=true
theorem jJ.obj {K:ai} {C:Addr} (q:jJ K C) {h:Heap} (X:K.In h):∃bm N nm qn bs hd sn sub ab col dd k0 k1 k2 k3 k5 mN,
  h.get? C=some (excClassObj nm qn C N bs bm hd sn sub ab col dd k0 k1 k2 k3 k5 "ValueError.__new__")∧h.Ns N mN∧mN "__init__"=none∧OwnTail h tq bm∧dE K C=fun b=>some ((Value.ref C::bm).contains b):=by
 unfold jJ fi at q
 split at q
 ·next dct cd sl look =>
  split at q
  ·next C' tl s0 s1 s2 s3 nn s5 em es =>
   simp only [cK,beq_iff_eq,Bool.not_eq_true'] at q
   obtain ⟨⟨⟨⟨⟨e1,e2⟩,e3⟩,e4⟩,e5⟩,e6⟩:=q
   subst e1;subst e2
   have hc:PySem.W.clsIn K C'=some cd:=by unfold PySem.W.clsIn;rw [look]
   have hm:dE K C'=fun b=>some ((Value.ref C'::tl).contains b):=by
    funext b
    unfold dE
    rw [hc,Option.bind_some,em]
    rfl
   obtain ⟨z1,z2,z3,z4,z5,z6,z7,z8,z9,z10,z11⟩:=cd
   dsimp only at em e3 e5 e6
   subst em;subst e3
   obtain ⟨ll⟩:=sl
   simp only at es
   subst es
   exact ⟨tl,_,_,_,_,_,_,_,_,_,_,_,_,_,_,_,_,X _ _ look,.of_isNs (PySem.W.isNs_of_in X e5),PySem.W.nsMap_none_of_in X e5 e6,PySem.W.tail_of_in X e4,hm⟩
  ·cases q
 ·cases q
def si (x:Addr) (C:Value):Heap→Prop:=fun h=>∃o vs,h.get? x=some o∧IsX o C∧o.data=.fields vs
section
variable {X:Cx} {Ex:St→Value→Hp→Prop}
def vo (C:Addr) (Ex:St→Value→Hp→Prop) (ta:TA):TS:=fun _ σ H=>ta σ H fun vs H1=>vs.length≤sizeLine∧Ex σ (.ref C) H1
theorem fP {x:Str} {C:Addr} {e:Expr} {es:List Expr} {ta:TA} {np cpos pos:Pos} (hc:X.calm=true) (hex:X.ex=[]) (hg:Gl X x) (hm:X.mg x=some (.ref C)) (q:jJ X.K C) (ha:PA (X.ia (jK X Ex)) (e::es) ta)
  (hd:(x==("__debug__":Str))=false:=by decide) (he:starEach (e::es) X.env=(false,eval e X.env)::starEach es X.env:=by rfl) (hpl:(backTo cpos (starEach es X.env)).any (·.1)=false:=by rfl) :
  PS (X.ia (jK X Ex)) (.Raise (some (.Call (.Name x np) (e::es) [] cpos)) none pos) (vo C Ex ta):=by
 intro pins s σ H D I h
 obtain ⟨bm,N,nm,qn,bs,hdd,sn,sub,ab,col,dd,k0,k1,k2,k3,k5,mN,hC,hN,hni,TL,_⟩:=q.obj I.ok.mod.kin
 refine wpAny_Raise_call_subU (C:=C) (nm:=nm) (q:=qn) (N:=N) (bs:=bs) (bm:=bm) (hdct:=hdd) (sn:=sn) (sub:=sub) (ab:=ab) (col:=col) (dd:=dd) (k0:=k0) (k1:=k1) (k2:=k2) (k3:=k3) (k5:=k5)
  PySem.F.excBase_ValueError (by decide +kernel) PySem.F.excBase_ValueError (mN:=mN) (TL.hasType PySem.F.excBase_ValueError.hasBase) (I.ok.hd hc) ?_ hni (iu I hg hm ⟨rfl,?_⟩ hd)
 ·show (backTo cpos (starEach (e::es) X.env)).any (·.1)=false
  rw [he]
  show (false||(backTo cpos (starEach es X.env)).any (·.1))=false
  rw [hpl];rfl
 ·have ha':=ha cpos pins s σ H _ I h
  rw [show (X.ia (jK X Ex)).env=X.env from rfl] at ha' ⊢
  rw [he] at ha' ⊢
  refine Calls.evalArgs_plain (thn ha' fun us s2 ⟨vs,H1,I2,r,z,qx⟩=>⟨rfl,by rw [←r.length];exact z,I2.bk _ _ hC,hN.keeps I2.bk,TL.keeps I2.bk,fun h' x' mk=>?_⟩)
  have I3:=I2.fC.wG
  obtain ⟨t,et,_,_⟩:=mk.there
  exact ⟨x',.ref C,none,σ,H1,rfl,I3.kept (t':=s2.toks) mk.keeps,⟨I3.young hex mk.new,_,_,_,et,rfl,rfl,rfl,rfl⟩,.inl rfl,qx⟩
end
end L2
namespace L2
open PySem PySem.Spec PyProof.Rows
section
variable {X:Cx} {σ:St} {H:Hp} {s:Shared}
theorem Inv.xl {pins:List (Addr×Obj)} {x:Addr} {φ:Heap→Prop} (I:Inv X pins σ H s) (y:Yg X H x) (hp:∀p∈pins,p.1≠x) (ho:∃o vs,s.heap.get? x=some o∧o.data=.fields vs) (p:φ s.heap)
  (st:∀h1 h2:Heap,φ h1→(∀o,h1.get? x=some o→h2.get? x=some o)→φ h2):Inv X pins σ (upd H x (.ext φ)) s:=by
 obtain ⟨o,vs,eo,ed⟩:=ho
 have nH:∀b u,H b=some u→b≠x:=fun b u e z=>by rw [z,y.2.1] at e;cases e
 have n0:∀b u,X.s₀.heap.get? b=some u→b≠x:=fun b u e z=>by rw [z,y.1] at e;cases e
 refine ⟨I.ok,I.os,I.bare,⟨I.base.keep,I.base.slot,fun b u e n hx=>by rw [bX (n0 b u e)];exact I.base.free b u e n hx,I.base.there,fun b xs e=>?_,fun b u xs e=>?_,fun b ps e=>?_⟩,I.loc,I.cell,?_,fun n c e=>?_,fun q hq=>?_,fun b u e=>?_,I.len⟩
 ·have:=I.base.tups b xs e;rw [bX (nH b _ this)];exact this
 ·have:=I.base.frzs b u xs e;rw [bX (nH b _ this)];exact this
 ·obtain ⟨m,this⟩:=I.base.tbls b ps e;exact ⟨m,by rw [bX (nH b _ this)];exact this⟩
 ·obtain ⟨m,⟨ol,_,_,el,dl,_⟩,_⟩:=I.loc
  rw [bX fun z=>by rw [z,eo] at el;cases el;rw [ed] at dl;cases dl];exact I.free
 ·obtain ⟨v,oc,ec,dc⟩:=I.cell n c e
  rw [bX fun z=>by rw [z,eo] at ec;cases ec;rw [ed] at dc;cases dc];exact I.freeC n c e
 ·obtain ⟨q1,q2,q3⟩:=I.pin q hq
  have:q.1≠x:=(aF.mp hq).elim (y.2.2 q) (hp q)
  exact ⟨q1,by rw [bX this];exact q2,q3⟩
 ·by_cases hb:b=x
  ·subst hb
   rw [av] at e;cases e
   exact ⟨p,⟨o,eo⟩,st⟩
  ·rw [bX hb] at e
   exact (I.hok b u e).o_ (fun _ _ _ q=>q) (fun c q=>by rw [bX (nH c _ q)];exact q) fun c xs q=>by rw [bX (nH c _ q)];exact q
end
section
variable {M:Model} {A:Around} {E:Value→Shared→Prop} {nm q nm' q':Str} {C N C' N':Addr} {bs bm bs' bm':List Value} {hd hd':Bool} {sn sn':List Str} {sub sub':List Value} {ab ab':Bool} {col col':Option Bool} {dd dd':Option Addr}
 {k0 k1 k2 k3 k5 l0 l1 l2 l3 l5:Option Value} {newId newId':String}
theorem mw {h:Heap} {g:Array GenState} {d:Drawn} {t:Nat} {os:OsState} {e:Addr} {oe:Obj} {Q:Bool→Shared→Prop} (hC:h.get? C=some (excClassObj nm q C N bs bm hd sn sub ab col dd k0 k1 k2 k3 k5 newId))
  (hF:h.get? C'=some (excClassObj nm' q' C' N' bs' bm' hd' sn' sub' ab' col' dd' l0 l1 l2 l3 l5 newId')) (he:h.get? e=some oe) (hcls:oe.cls=.ref C) (hb:bm'.contains (.type "BaseException")=true)
  (hs:(Value.ref C::bm).contains (.ref C')=true) (hq:Q true ⟨h,g,d,t,os⟩):wpAny M A (excMatches (.ref e) (.ref C')) Q E ⟨h,g,d,t,os⟩:=by
 have hB:(Value.ref C'::bm').contains (.type "BaseException")=true:=by rw [List.contains_cons,hb,Bool.or_true]
 have f:=tc_notTuple
 unfold excMatches
 repeat (first | (with_reducible refine wpAny_loadPart_at he ?_;rw [hcls]) | with_reducible refine wpAny_loadPart_at hF ?_ | (with_reducible refine wpAny_isSubtype_exc hF ?_;rw [hB]) | (with_reducible refine wpAny_isSubtype_exc hC ?_;rw [hs]) | wp_step)
 exact hq
end
def Aj (K:ai) (i:Nat) (CF:Addr) (tb:(St→Value→Hp→Prop)→TS) (ts:TS):TS:=fun D σ H=>∃Ex:St→Value→Hp→Prop,tb Ex D σ H∧∀σ' C H',Ex σ' C H' →
 ∃A,C=.ref A∧jJ K A∧dE K A (.ref CF)=some true∧∀x,H' x=none→ts {D with nx:=fun σ2 H2=>D.nx (σ2.set i none) H2,bk:=fun σ2 H2=>D.bk (σ2.set i none) H2,ct:=fun σ2 H2=>D.ct (σ2.set i none) H2} (σ'.set i (some (.ref x))) (upd H' x (.ext (si x C)))
section
variable {X:Cx}
theorem Inv.pn {pins:List (Addr×Obj)} {σ:St} {H:Hp} {s:Shared} (I:Inv X pins σ H s):Inv {X with pn:=X.pn++pins} [] σ H s :=
 ⟨⟨I.ok.mod,I.ok.kind,I.ok.glob,I.ok.blt,I.ok.above,I.ok.inj,I.ok.has,I.ok.cab,I.ok.hd,I.ok.frames,I.ok.stk,I.ok.exf,I.ok.bs,I.ok.bsz,I.ok.noex,I.ok.exfs,I.ok.kB,I.ok.frf⟩,I.os,I.bare,I.base,I.loc,I.cell,I.free,I.freeC,fun p hp=>I.pin p (by simpa using hp),I.hok,I.len⟩
theorem Inv.uT {pins:List (Addr×Obj)} {σ:St} {H:Hp} {s:Shared} (I:Inv {X with pn:=X.pn++pins} [] σ H s):Inv X pins σ H s :=
 ⟨⟨I.ok.mod,I.ok.kind,I.ok.glob,I.ok.blt,I.ok.above,I.ok.inj,I.ok.has,I.ok.cab,I.ok.hd,I.ok.frames,I.ok.stk,I.ok.exf,I.ok.bs,I.ok.bsz,I.ok.noex,I.ok.exfs,I.ok.kB,I.ok.frf⟩,I.os,I.bare,I.base,I.loc,I.cell,I.free,I.freeC,fun p hp=>I.pin p (by simpa using hp),I.hok,I.len⟩
abbrev Cx.held (X:Cx) (x:Addr):Cx:={X with A:=X.A.mark (some (.ref x)),calm:=false}
theorem Inv.held {pins:List (Addr×Obj)} {σ:St} {H:Hp} {s:Shared} (I:Inv X pins σ H s) (x:Addr):Inv (X.held x) pins σ H s :=
 ⟨⟨I.ok.mod,I.ok.kind,I.ok.glob,I.ok.blt,I.ok.above,I.ok.inj,I.ok.has,I.ok.cab,fun z=>(aV z).elim,I.ok.frames,I.ok.stk,I.ok.exf,I.ok.bs,I.ok.bsz,I.ok.noex,I.ok.exfs,I.ok.kB,I.ok.frf⟩,I.os,I.bare,I.base,I.loc,I.cell,I.free,I.freeC,I.pin,I.hok,I.len⟩
theorem Inv.vh {pins:List (Addr×Obj)} {σ:St} {H:Hp} {s:Shared} {x:Addr} (hd:X.calm=true→X.A.handled=none) (hf:X.A.frames=some X.stack) (I:Inv (X.held x) pins σ H s):Inv X pins σ H s :=
 ⟨⟨I.ok.mod,I.ok.kind,I.ok.glob,I.ok.blt,I.ok.above,I.ok.inj,I.ok.has,I.ok.cab,hd,hf,I.ok.stk,I.ok.exf,I.ok.bs,I.ok.bsz,I.ok.noex,I.ok.exfs,I.ok.kB,I.ok.frf⟩,I.os,I.bare,I.base,I.loc,I.cell,I.free,I.freeC,I.pin,I.hok,I.len⟩
theorem ix {M:Model} {A:Around} {E:Value→Shared→Prop} {pins:List (Addr×Obj)} {σ:St} {H:Hp} {s:Shared} {i:Nat} {n:Str} {pos:Pos} {Q:Unit→Shared→Prop} (I:Inv X pins σ H s) (hN:X.N.Nodup) (hi:X.N[i]?=some n) (hl:X.env.scope.names.lookup n=some .local)
  (k:∀s',Inv X pins (σ.set i none) H s'→Q () s'):wpAny M A (do bindName X.env n .none;unbindBehindTheSuite X.env n pos) Q E s:=by
 obtain ⟨m,hn,hlk⟩:=id I.loc
 have hcls:(X.env.scope.kind==.class||(X.env.scope.kind==.module&&X.env.locals != X.env.globals))=false:=by rw [I.ok.kind];rfl
 have hiσ:i<σ.length:=by rw [I.len];exact (cD.mp hi).1
 refine wpAny_nameGoes_keeps hl hn hcls fun h' v hn' sb=>k _ ?_
 have ne0:∀b o,X.s₀.heap.get? b=some o→b≠X.env.locals:=fun b o e=>bj (bp (aR e) I.ok.above)
 refine ⟨I.ok,I.os,I.bare,⟨fun b o e n hb hx=>?_,fun b o e n hb hx=>?_,I.base.free,fun b o e hx=>?_,I.base.tups,I.base.frzs,I.base.tbls⟩,⟨_,hn',fun j y v' e1 e2 e3=>?_⟩,fun y c e=>?_,I.free,I.freeC,fun p hp=>?_,fun b u e=>?_,by simpa using I.len⟩
 ·exact (sb.2 b (ne0 b o e)).trans (I.base.keep b o e n hb hx)
 ·obtain ⟨sl,e1⟩:=I.base.slot b o e n hb hx
  exact ⟨sl,(sb.2 b (ne0 b o e)).trans e1⟩
 ·obtain ⟨o',e1⟩:=I.base.there b o e hx
  exact ⟨o',(sb.2 b (ne0 b o e)).trans e1⟩
 ·by_cases hj:i=j
  ·subst hj
   rw [List.getElem?_set_self hiσ] at e2
   cases e2
  ·rw [dw hj] at e2
   obtain ⟨u',r',q⟩:=hlk j y v' e1 e2 e3
   refine ⟨u',r',?_⟩
   have hne:y≠n:=fun e=>hj (kl hN hi (e▸e1))
   rcases q with ⟨k1,e⟩ | ⟨k1,c,e,z⟩
   ·exact .inl ⟨k1,by simp [hne,e]⟩
   ·exact .inr ⟨k1,c,e,z.sameBut sb (I.cne y c e)⟩
 ·obtain ⟨w',z⟩:=I.cell y c e
  exact ⟨w',z.sameBut sb (I.cne y c e)⟩
 ·obtain ⟨e,n',ne,nf,d⟩:=I.pin p hp
  exact ⟨(sb.2 p.1 ne).trans e,n',ne,nf,d⟩
 ·refine (I.hok b u e).o_ (fun c v' hc q=>(sb.2 c ?_).trans q) (fun _ q=>q) fun _ _ q=>q
  intro z
  have fr:=I.free
  rcases hc with hc | hc
  ·rw [←z,hc,e] at fr;cases fr
  ·rw [←z,hc] at fr;cases fr
theorem tY {body:List Stmt} {xn n:Str} {b₀:Stmt} {suite:List Stmt} {np hpos pos:Pos} {tb:(St→Value→Hp→Prop)→TS} {ts:TS} {i:Nat} {CF:Addr} (B:Body X) (hN:X.N.Nodup) (hi:X.N[i]?=some n) (hl:X.env.scope.names.lookup n=some .local)
  (hg:Gl X xn) (hm:X.mg xn=some (.ref CF)) (qF:jJ X.K CF) (hb:∀pn Ex,PSs (({X with pn:=pn}:Cx).ia (jK {X with pn:=pn} Ex)) body (tb Ex))
  (hs:∀x,PSs ((X.held x).nox) (b₀::suite) ts) (hd:(xn==("__debug__":Str))=false:=by decide) :
  PS X (.Try body [.ExceptHandler (some (.Name xn np)) (some n) (b₀::suite) hpos] [] [] pos) (Aj X.K i CF tb ts):=by
 intro pins s σ H D I h
 obtain ⟨Ex,h1,h2⟩:=h
 refine wpAny_Try_except (wpAny_mono (hb _ Ex [] s σ H D (I.pn.ia _) h1) (fun f s1 q=>?_) fun e s1 q=>?_)
 ·cases f with
  | next=>obtain ⟨σ',H',J,z⟩:=q;exact wpAny_execs_nil ⟨σ',H',J.fC.uT,z⟩
  | brk=>obtain ⟨σ',H',J,z⟩:=q;exact ⟨σ',H',J.fC.uT,z⟩
  | cont=>obtain ⟨σ',H',J,z⟩:=q;exact ⟨σ',H',J.fC.uT,z⟩
  | ret u=>obtain ⟨v,σ',H',J,r,z⟩:=q;exact ⟨v,σ',H',J.fC.uT,r,z⟩
 ·obtain ⟨x,C,fl,σ',H',rfl,J,F,hfl,q⟩:=q
  obtain ⟨A,rfl,qA,hsub,k⟩:=h2 σ' C H' q
  refine mh (X:={X with pn:=X.pn++pins}) (L:=X.env.locals) J B.ex J.ok.frames B.st B.fr F hfl fun s2 J2 F2=>iD J2 F2 fun s3 J3 F3=>?_
  obtain ⟨bm,N,nm,qn,bs,hdd,sn,sub,ab,col,dd,k0,k1,k2,k3,k5,mN,hC,hNs,hni,TL,hmro⟩:=qA.obj J3.kIn
  obtain ⟨bm',N',nm',qn',bs',hdd',sn',sub',ab',col',dd',l0,l1,l2,l3,l5,mN',hF,_,_,TF,_⟩:=qF.obj J3.kIn
  obtain ⟨y,oe,vs,a0,e1,c1,_⟩:=id F3
  have cont:(Value.ref A::bm).contains (.ref CF)=true:=by rw [hmro] at hsub;exact Option.some.inj hsub
  refine wpAny_handleBy_cons (codeAny_handlers_test (iu (X:=X.held x) (J3.uT.held x) hg hm ?_ hd)) (by intro z;cases z)
  obtain ⟨hp3,g3,d3,t3,os3⟩:=s3
  refine mw hC hF e1 c1 (TF.hasType PySem.F.excBase_ValueError.hasBase) cont (codeAny_handlers_suite_as ?_)
  refine iD J3 F3 fun s4 J4 F4=>?_
  obtain ⟨y4,oe4,vs4,a4,e4,c4,d4,_⟩:=id F4
  refine kL (X:=X.held x) (J4.uT.held x) hN hi (.inl hl) (v:=.ref x) rfl (fun s5 J5 hch=>?_) (.inr hl)
  have e5:s5.heap.get? x=some oe4:=by
   obtain ⟨b,sb,hb'⟩:=hch
   refine (sb.2 x ?_).trans e4
   rintro rfl
   rcases hb' with z | z
   ·obtain ⟨m,⟨ol,_,_,el,dl,_⟩,_⟩:=J4.loc
    have el':s4.heap.get? X.env.locals=some ol:=el
    rw [←z,e4] at el';cases el';rw [d4] at dl;cases dl
   ·obtain ⟨v,oc,ec,dc⟩:=J4.cell _ _ z
    rw [e4] at ec;cases ec;rw [d4] at dc;cases dc
  have J6:Inv (X.held x) pins (σ'.set i (some (.ref x))) (upd H' x (.ext (si x (.ref A)))) s5 :=
   J5.xl ⟨y4.1,y4.2.1,fun p hp=>y4.2.2 p (aK _ hp)⟩ (fun p hp=>y4.2.2 p (aG _ hp)) ⟨oe4,vs4,e5,d4⟩ ⟨oe4,vs4,e5,c4,d4⟩ fun h1 h2 ⟨o,ws,z1,z2,z3⟩ kk=>⟨o,ws,kk _ z1,z2,z3⟩
  have un:∀{σ2 H2 s6},Inv (X.held x) pins σ2 H2 s6→Inv X pins σ2 H2 s6:=fun z=>z.vh I.ok.hd I.ok.frames
  refine wpAny_mono (hs x pins s5 _ _ _ (J6.ia _) (k x y4.2.1)) (fun f s6 z=>?_) fun _ _ z=>z.elim
  cases f with
  | next=>obtain ⟨σ2,H2,J7,z⟩:=z;exact ix (un J7.fC) hN hi hl fun s7 J8=>⟨_,H2,J8,z⟩
  | brk=>obtain ⟨σ2,H2,J7,z⟩:=z;exact ix (un J7.fC) hN hi hl fun s7 J8=>⟨_,H2,J8,z⟩
  | cont=>obtain ⟨σ2,H2,J7,z⟩:=z;exact ix (un J7.fC) hN hi hl fun s7 J8=>⟨_,H2,J8,z⟩
  | ret u=>obtain ⟨v,σ2,H2,J7,r,z⟩:=z;exact ix (un J7.fC) hN hi hl fun s7 J8=>⟨v,_,H2,J8,r,z⟩
end
end L2
namespace L2
open PySem PySem.Spec PyProof.Rows PySem.W Builtin Builtin.ObjectAttr Builtin.Getset_descriptor
structure vd (K:Frag) (A:Addr):Prop where
 ga:findIn K (.ref A) "__getattribute__"=some (some (.builtin "BaseException.__getattribute__"))
 gn:findIn K (.ref A) "__getattr__"=some none
 cl:findIn K (.ref A) "__class__"=some (some (.builtin "object.__class__"))
 cg:specialIn K (.builtin "object.__class__") "__get__"=some (some (.builtin "getset_descriptor.__get__"))
 ck:takesIn K (.builtin "object.__class__")=some true
 co:mroIn K A (.type "object")=some true
 cb:mroIn K A (.type "BaseException")=some true
 is:(clsIn K A).isSome=true
section
variable {prog:Program} {w:World} {B:Around} {E:Value→Shared→Prop} {K:Frag} {x A:Addr} {o:Obj}
theorem nC {M:Model} {h:Heap} (hx:h.get? x=some o) (hc:o.cls=.ref A):Looks M h (typeOf (.ref x)) (.ref A):=by rw [←hc];exact (Looks.ld hx).andThen .now
theorem oC {M:Model} {h:Heap} (X:K.In h) (q:(clsIn K A).isSome=true):Looks M h (isType (.ref A)) true:=by
 unfold clsIn at q
 split at q
 ·next look =>
  intro A' Q' E' s' k z
  unfold isType loadHead
  exact wpAny_bind (wpAny_loadPart (k _ _ (X _ _ look)) (wpAny_pure z))
 ·cases q
theorem uF {h:Heap} {g d t os} {R:Result→Shared→Prop} {tp:Value} (X:K.In h) (hx:h.get? x=some o) (hc:o.cls=.ref A) (hm:mroIn K A (.type "object")=some true) (z:R (.ok (.ret (.ref A))) ⟨h,g,d,t,os⟩) :
  codeAny (model prog w) B (.call (.builtin "getset_descriptor.__get__") ⟨[.builtin "object.__class__",.ref x,tp],[]⟩) R ⟨h,g,d,t,os⟩:=by
 have e0:=nC (M:=model prog w) hx hc
 have e1:=looks_mroIn (M:=model prog w) X hm
 have a1:=dga_obj (.builtin "object.__class__") tp x
 have a2:=KF.owner_class
 refine codeAny_call_builtin KF.slot_gs.plain KF.entry_gs ?_
 refine KF.slot_gs.check _ _ _ _ _ _ _ _ KF.type_class (KF.args_gs _ _ _) ?_
 have nm:".".intercalate ("object.__class__".cutAt '.').dropLast="object":=congrArg Prod.fst a2
 wp_walk using e0.at
 rw [nm]
 wp_walk using e1.at
 constructor
 ·exact Code.quiet_builtin _ (by decide +kernel)
 ·apply codeAny_builtin KF.entry_class
  wp_walk using e0.at
  exact z
theorem qv {h:Heap} {g d t os} {tk:Tok} {Q:Fin→Shared→Prop} (X:K.In h) (C:vd K A) (hx:h.get? x=some o) (hc:o.cls=.ref A) (z:Q (.done (.ret (.ref A))) ⟨h,g,d,t,os⟩) :
  wpAny (model prog w) B (Builtin.«object.__getattribute__» ⟨[.ref x,.str "__class__" tk],[]⟩) Q E ⟨h,g,d,t,os⟩:=by
 have e0:=nC (M:=model prog w) hx hc
 have e1:=looks_findIn (M:=model prog w) X C.cl
 have e2:=looks_specialIn (M:=model prog w) X C.cg
 have e3:=looks_takesIn (M:=model prog w) X C.ck
 unfold Builtin.«object.__getattribute__»
 repeat lk
 refine wpAny_run (h:=none) (uF X hx hc C.co ?_)
 exact wpAny_pure (wpAny_pure z)
theorem wm {h:Heap} {g d t os} {tk:Tok} {Q:Value→Shared→Prop} (X:K.In h) (C:vd K A) (hx:h.get? x=some o) (hc:o.cls=.ref A) (z:Q (.ref A) ⟨h,g,d,t,os⟩) :
  wpAny (model prog w) B (getAttrBy (.ref x) (.str "__class__" tk) false false) Q E ⟨h,g,d,t,os⟩:=by
 have e0:=nC (M:=model prog w) hx hc
 have e1:=looks_findIn (M:=model prog w) X C.ga
 have e2:=looks_findIn (M:=model prog w) X C.gn
 have e3:=looks_mroIn (M:=model prog w) X C.cb
 have f3:=PySem.F.excAttr_ValueError.ga.bind (.ref x)
 unfold getAttrBy
 refine wpAny_holding (wpAny_bind (e0.at (wpAny_bind (e1.at ?_))))
 show wpAny _ _ (getAttrByItsOwn _ _ _ _ _ _) _ _ _
 unfold getAttrByItsOwn hookBefore
 refine wpAny_bind ?_
 rw [if_pos (show onTheHeap (Value.ref A)=true from rfl)]
 refine e2.at (wpAny_bind (wpAny_attempt (wpAny_holding ?_)))
 unfold callGetattribute boundAndCalled
 rw [if_neg (by decide),f3]
 refine wpAny_bind (wpAny_pure (wpAny_call (codeAny_call_builtin PySem.F.excAttr_ValueError.ga.plain F.entry_bexc_ga ?_)))
 have kk:builtinKind "BaseException.__getattribute__"=some .slot∧splitId "BaseException.__getattribute__"=some ("BaseException","__getattribute__"):=⟨by decide +kernel,by decide +kernel⟩
 have e4:=PySem.F.args_bexc_ga (.ref x) (.str "__class__" tk)
 simp only [checkBuiltinCall,kk.1,kk.2];unfold isInstance
 refine wpAny_bind (wpAny_bind (e0.at (e3.at ?_)))
 rw [if_neg (by decide)]
 refine wpAny_of_eq (show _=pure () from e4) (qv X C hx hc ?_)
 exact wpAny_pure z
theorem qw {s:Shared} {Q:Option Value→Shared→Prop} (X:K.In s.heap) (C:vd K A) (hx:s.heap.get? x=some o) (hc:o.cls=.ref A) (z:Q (some (.ref A)) {s with toks:=s.toks+1}):wpAny (model prog w) B (getAttr? (.ref x) "__class__") Q E s:=by
 obtain ⟨h,g,d,t,os⟩:=s
 unfold getAttr? getAttrBy?
 refine wpAny_bind (wpAny_mkText (wpAny_bind (wpAny_attempt (wm X C hx hc ?_))))
 exact wpAny_pure z
theorem rL (C:vd K A):KitX K (.ref x) (.ref A) (si x (.ref A)) where
 ty:=fun M h _ ⟨o,vs,hx,hc,_⟩=>nC hx hc
 it:=fun M h X _=>oC X C.is
 ne:=fun h tp dd its n sl X htp=>by
  refine Bool.eq_false_iff.mpr fun q=>?_
  have e:A=tp:=Value.ref.inj (beq_iff_eq.mp q)
  subst e
  have q:=C.is
  unfold clsIn at q
  split at q
  ·next look=>have z:=(X _ _ look).symm.trans htp;cases z
  ·cases q
 ca:=fun X ⟨o,vs,hx,hc,_⟩ k=>qw X C hx hc k
end
section
variable {X:Cx}
def zV (K:Frag):List V→Hp→VK→Prop:=fun xs H Q=>∃a A c cv b,xs=[.ref a,c]∧RelV c cv∧(∀u,RelV c u→u=cv)∧H a=some (.ext (si a (.ref A)))∧vd K A∧kitOne K (.ref A) cv=some b∧Q (.bl b) H
theorem sf:fR X (.builtin "isinstance") (zV X.K):=by
 intro pins s σ H xs us Q I r h
 obtain ⟨a,A,c,cv,b,rfl,_,hu,ha,C,e,q⟩:=h
 obtain ⟨u,u',rfl,rx,rc⟩:=vals2 r
 obtain rfl:=hu u' rc
 cases (show u=Value.ref a from rx)
 obtain ⟨p,_,_⟩:=I.hok a _ ha
 exact kia_one (rL C) I.kIn p e (fun z=>nomatch z) fun tk=>⟨.bl b,H,I.tok _,rfl,q⟩
theorem nK {K:Frag} (h:X.K=K):fR X (.builtin "isinstance") (zV K):=by subst h;exact sf
end
end L2
namespace L2
open PySem PySem.Spec PyProof.Rows
section
variable {X:Cx}
theorem jH {x:V}:∀{xs:List V} {us:List Value},Vals xs us→xs.all iE=true→us.countP (eqU x)=xs.countP fun y=>eqV y x
 | _,_,.nil,_=>rfl
 | y::xs,u::us,.cons r t,h=>by
  rw [c_,cK] at h
  rw [List.countP_cons,List.countP_cons,jH t h.2,qz r h.1]
def sF (K:ai):V→List V→Hp→VK→Prop:=fun x vs H Q=>∃p xs y,x=.ref p∧vs=[y]∧SqL K H p xs∧iE y=true∧xs.all iE=true∧Q (.int (xs.countP fun z=>eqV z y:Nat)) H
theorem rC:MtM X "list.count" (sF X.K):=by
 intro pins s σ H x vs v us Q I rx rv h
 obtain ⟨p,xs,y,rfl,rfl,hq,fy,fs,q⟩:=h
 cases rx
 obtain ⟨u,rfl,ry⟩:=rv.one
 obtain ⟨its,r,⟨ob,n,e,c,dn,d⟩,hz⟩:=I.list hq
 obtain ⟨oc,od,odt,osl⟩:=ob
 dsimp only at c dn d
 subst c dn d
 refine call_meets PySem.F.slot_list_count ⟨_,e,rfl⟩ PySem.F.entry_list_count (PySem.F.args_list_count_2 _ _) (SeqAt.list_countAt p its.toArray n _ _ u (eqU y)) ⟨e,fun w hw=>gO ry fy r fs w (by simpa using hw),?_⟩
 exact ⟨.int _,H,I.tok _,⟨_,rfl⟩,by rw [show its.toArray.toList=its from rfl,jH r fs];exact q⟩
theorem vU {K:ai} (h:X.K=K):MtM X "list.count" (sF K):=by subst h;exact rC
end
def Big (m:Int) (es:List (Int×Int)):Prop:=m<1∨20<m∨40<(es.length:Int)
instance (m:Int) (es:List (Int×Int)):Decidable (Big m es):=by unfold Big;infer_instance
instance (es:List (Int×Int)) (m:Int):Decidable (cV es m):=by unfold cV;infer_instance
end L2
namespace L2
open PySem PySem.Spec PyProof.Rows
section
variable {K:ai} {H:Hp}
theorem Pairs.get:∀{xs:List V} {es:List (Int×Int)} {i:Nat},Pairs K H xs es→i<es.length→∃r e,xs[i]?=some (.ref r)∧SqT K H r [.int e.1,.int e.2]∧es[i]?=some e∧e∈es
 | _,_,_,.nil,h=>absurd h (bM _)
 | _,_,0,.cons ⟨r,e,q⟩ _,_=>⟨r,_,by rw [e];rfl,q,rfl,aU⟩
 | _,_,i+1,.cons _ t,h=>by
  obtain ⟨r,e,h1,h2,h3,h4⟩:=Pairs.get (i:=i) t (by simpa using h)
  exact ⟨r,e,by simpa using h1,h2,by simpa using h3,aW _ h4⟩
theorem Pairs.append:∀{xs ys:List V} {es fs:List (Int×Int)},Pairs K H xs es→Pairs K H ys fs→Pairs K H (xs++ys) (es++fs)
 | _,_,_,_,.nil,s=>s
 | _,_,_,_,.cons r t,s=>.cons r (Pairs.append t s)
theorem gP {n:Nat} {i:Int} (h0:0≤i) (h:i<(n:Int)):ixN n i=some i.toNat:=by
 unfold ixN;rw [if_pos h0,if_pos h]
theorem mK {α:Type} {xs:List α} {i:Int} {v:α} (h0:0≤i) (h:xs[i.toNat]?=some v):atI xs i=some v:=by
 have:=mJ h
 rwa [Int.toNat_of_nonneg h0] at this
end
end L2
namespace L2
open PySem PySem.Spec PyProof.Rows
section
variable {prog:Program} {w:World} {A:Around} {E:Value→Shared→Prop} {s:Shared}
theorem stepT {it l:Addr} {i:Nat} {items:Array Value} {x:Value} {c d:Option Addr} {sl sl2:Array (Option Value)} {n:Nat} {P:Fin→Shared→Prop} (hit:s.heap.get? it=some {cls:=.type "tuple_iterator",dict:=c,data:=.fields #[.ref l,.int i 0],slots:=sl}) (hl:s.heap.get? l=some {cls:=.type "tuple",dict:=d,data:=.seq items n,slots:=sl2}) (hx:items[i]?=some x)
  (hP:∀h',h'.get? it=some {cls:=.type "tuple_iterator",dict:=c,data:=.fields #[.ref l,.int (i+1:Nat) 0],slots:=sl}→fU it s.heap h'→P (.done (.ret x)) {s with heap:=h'}) :
  wpAny (model prog w) A (Builtin.«tuple_iterator.__next__» ⟨[.ref it],[]⟩) P E s:=by
 obtain ⟨hp,g,dr,tk,os⟩:=s
 unfold Builtin.«tuple_iterator.__next__»
 wp_walk using AutoSeq1.wpAny_loadPart' hit,AutoSeq1.wpAny_loadPart' hl
 rw [bz,hx]
 wp_walk
 have up:=bC (Obj.mapFields fun v=>v.setIfInBounds 1 (rawInt ((i:Int)+1))) hit rfl
 exact hP _ up (Heap.SameBut.update ..)
theorem xC {it l:Addr} {i:Nat} {items:Array Value} {c d:Option Addr} {sl sl2:Array (Option Value)} {n:Nat} {P:Fin→Shared→Prop} (hh:A.handled=none) (hit:s.heap.get? it=some {cls:=.type "tuple_iterator",dict:=c,data:=.fields #[.ref l,.int i 0],slots:=sl}) (hl:s.heap.get? l=some {cls:=.type "tuple",dict:=d,data:=.seq items n,slots:=sl2}) (hx:items[i]?=none)
  (hE:∀h' e,Heap.ExtBut it s.heap h'→(∃o,h'.get? e=some o∧o.cls=.type "StopIteration")→E (.ref e) {s with heap:=h'}) :
  wpAny (model prog w) A (Builtin.«tuple_iterator.__next__» ⟨[.ref it],[]⟩) P E s:=by
 obtain ⟨hp,g,dr,tk,os⟩:=s
 unfold Builtin.«tuple_iterator.__next__»
 wp_walk using AutoSeq1.wpAny_loadPart' hit,AutoSeq1.wpAny_loadPart' hl
 rw [bz,hx]
 wp_walk
 refine wpAny_raiseNew_none hh (hE _ _ ?_ ⟨_,aY _ rfl,rfl⟩)
 have one:=Heap.SameBut.update (h:=hp) (a:=it) (f:=Obj.mapFields fun v=>v.setIfInBounds 0 Value.none)
 exact (one.extBut.push _).push _
theorem nU {it l:Addr} {i:Nat} {items:Array Value} {x:Value} {Q:Value→Shared→Prop} (hit:s.heap.IsTupleIter it l i) (hl:s.heap.IsTuple l items) (hx:items[i]?=some x) (hQ:∀h',h'.IsTupleIter it l (i+1)→fU it s.heap h'→Q x {s with heap:=h'}):wpAny (model prog w) A (Builtin.SmallTypes.nextOf (.ref it)) Q E s:=by
 have ty:=hit.typeIs
 obtain ⟨⟨_,c,_,sl⟩,ho,rfl,rfl⟩:=hit
 obtain ⟨⟨_,d,_,sl2⟩,hol,rfl,n,rfl⟩:=hl
 have walked:=wpAny_call_entry (prog:=prog) (w:=w) (A:=A) (E:=E) F.slot_tuple_iterator_next ty F.entry_tuple_iterator_next (stepT ho hol hx fun h' e sb=>⟨x,rfl,hQ h' ⟨_,e,rfl,rfl⟩ sb⟩) (F.args_tuple_iterator_next_1 _)
 unfold Builtin.SmallTypes.nextOf
 exact wpAny_bind (wpAny_callSpecial?_slot ty F.slot_tuple_iterator_next (wpAny_mono walked (fun v s' q=>wpAny_pure q) fun _ _ z=>z))
theorem pM {it l:Addr} {i:Nat} {items:Array Value} {Q:Value→Shared→Prop} (hh:A.handled=none) (hit:s.heap.IsTupleIter it l i) (hl:s.heap.IsTuple l items) (hx:items[i]?=none) (hE:∀h' e,Heap.ExtBut it s.heap h'→(∃o,h'.get? e=some o∧o.cls=.type "StopIteration")→E (.ref e) {s with heap:=h'}):wpAny (model prog w) A (Builtin.SmallTypes.nextOf (.ref it)) Q E s:=by
 have ty:=hit.typeIs
 obtain ⟨⟨_,c,_,sl⟩,ho,rfl,rfl⟩:=hit
 obtain ⟨⟨_,d,_,sl2⟩,hol,rfl,n,rfl⟩:=hl
 have walked:=wpAny_call_entry (prog:=prog) (w:=w) (A:=A) (E:=E) (Q:=fun v s'=>Q v s') F.slot_tuple_iterator_next ty F.entry_tuple_iterator_next (xC (show A.in1.handled=none from hh) ho hol hx hE) (F.args_tuple_iterator_next_1 _)
 unfold Builtin.SmallTypes.nextOf
 exact wpAny_bind (wpAny_callSpecial?_slot ty F.slot_tuple_iterator_next (wpAny_mono walked (fun v s' q=>wpAny_pure q) fun _ _ z=>z))
theorem mQ {h h':Heap} {it t:Addr} {i:Nat} (x:h.IsTupleIter it t i) (k:∀o,h.get? it=some o→h'.get? it=some o):h'.IsTupleIter it t i:=let ⟨o,ho,r⟩:=x;⟨o,k o ho,r⟩
end
def SIt (b:Bool) (h:Heap) (it l:Addr) (i:Nat):Prop:=match b with | false=>h.IsListIter it l i | true=>h.IsTupleIter it l i
def SSq (b:Bool) (h:Heap) (l:Addr) (xs:Array Value):Prop:=match b with | false=>h.IsList l xs | true=>h.IsTuple l xs
theorem SIt.keep {b:Bool} {h h':Heap} {it l:Addr} {i:Nat} (x:SIt b h it l i) (k:∀o,h.get? it=some o→h'.get? it=some o):SIt b h' it l i:=by
 cases b
 ·exact Heap.IsListIter.at x k
 ·exact mQ x k
theorem SSq.keep {b:Bool} {h h':Heap} {l:Addr} {xs:Array Value} (x:SSq b h l xs) (k:∀o,h.get? l=some o→h'.get? l=some o):SSq b h' l xs:=by
 cases b
 ·exact Heap.IsList.at x k
 ·exact Heap.IsTuple.at x k
theorem SIt.obj {b:Bool} {h:Heap} {it l:Addr} {i:Nat} (x:SIt b h it l i):∃o,h.get? it=some o∧∀v,o.data≠.cell v:=by
 cases b
 ·obtain ⟨o,e,_,d⟩:=x;exact ⟨o,e,fun v z=>by rw [d] at z;cases z⟩
 ·obtain ⟨o,e,_,d⟩:=x;exact ⟨o,e,fun v z=>by rw [d] at z;cases z⟩
theorem fu {prog:Program} {w:World} {A:Around} (hh:A.handled=none) (b:Bool) (it l:Addr) (hne:l≠it) (items:Array Value):Draws prog w A it [it,l] items.size (fun i v=>items[i]?=some v) (fun i h=>SIt b h it l i∧SSq b h l items):=by
  cases b
  · exact Draws.list hh it l hne items
  · exact { live := fun _ _ st => let ⟨o, ho, _⟩ := st.1; ⟨o, ho⟩
            frame:=fun _ _ _ st hk=>⟨mQ st.1 fun o e=>hk it (by simp) o e,Heap.IsTuple.at st.2 fun o e=>hk l (by simp) o e⟩
            item:=fun i s Q E hi st hQ=>nU st.1 st.2 (x:=items[i]) (by simp [hi]) fun h' hit' hs'=>hQ _ h' s.toks (by simp [hi]) ⟨hit',Heap.IsTuple.extBut st.2 hs'.extBut hne⟩ hs'
            done:=fun s Q E st hE=>pM hh st.1 st.2 (by simp) hE}
structure ZA (z TO i1 i2:Addr) (f1 f2:List Addr):Prop where
 m1:i1∈f1
 m2:i2∈f2
 z1:z∉f1
 z2:z∉f2
 o1:TO∉f1
 o2:TO∉f2
 x1:i1∉f2
 x2:i2∉f1
 oz:TO≠z
theorem nin {a b:Addr} {l:List Addr} (h:a∉l) (hb:b∈l):b≠a:=fun e=>h (e▸hb)
section
variable {prog:Program} {w:World} {A:Around} {E:Value→Shared→Prop} {s:Shared} {z TI TO i1 i2:Addr} {f1 f2:List Addr} {n1 n2 i:Nat} {P1 P2:Nat→Value→Prop} {S1 S2:Nat→Heap→Prop} {a b:Value}
theorem oO {Q:Value→Shared→Prop} (D1:Draws prog w A i1 f1 n1 P1 S1) (D2:Draws prog w A i2 f2 n2 P2 S2) (Z:ZA z TO i1 i2 f1 f2) (hz:IsZip s.heap z TI TO .none) (hTI:IsPair s.heap TI (.ref i1) (.ref i2)) (hTO:IsPair s.heap TO a b) (h1:S1 i s.heap) (h2:S2 i s.heap) (l1:i<n1) (l2:i<n2)
  (hQ:∀x y h' tk,P1 i x→P2 i y→IsZip h' z TI TO (rawInt s.heap.objs.size)→IsPair h' TO x y→S1 (i+1) h'→S2 (i+1) h'→IsPair h' s.heap.objs.size x y→h'.objs.size=s.heap.objs.size+1 →
   (∀c o,c≠z→c≠TO→c≠i1→c≠i2→s.heap.get? c=some o→h'.get? c=some o)→Q (.ref s.heap.objs.size) {s with heap:=h',toks:=tk}) :
  wpAny (model prog w) A (Builtin.«zip.__next__» ⟨[.ref z],[]⟩) (fun fin s'=>∃v,fin=.done (.ret v)∧Q v s') E s:=by
 obtain ⟨hp,g,d,tk₀,os⟩:=s
 have Oz:=Z.oz
 have z1:=nin Z.z1 Z.m1
 have z2:=nin Z.z2 Z.m2
 have O1:=nin Z.o1 Z.m1
 have O2:=nin Z.o2 Z.m2
 have kz:=bC (Obj.mapFields fun v=>v.setIfInBounds 0 Value.ellipsis) hz rfl
 unfold Builtin.«zip.__next__»
 wp_walk using AutoSeq1.wpAny_loadPart' hz,AutoSeq1.wpAny_loadPart' hTI,wpAny_onRaise,D1.item i _ _ _ l1
 ·exact D1.frame _ _ _ h1 fun c hc o e=>aA _ (nin Z.z1 hc).symm e
 intro x h₂ t₂ px s₁ b₂
 have ez:=b₂.extBut _ _ z1.symm kz
 have TO2:IsPair h₂ TO a b:=b₂.extBut _ _ O1.symm (aA _ Oz.symm hTO)
 have kO:=bC (Obj.mapSeq fun v=>v.setIfInBounds 0 x) TO2 rfl
 wp_walk using AutoSeq1.wpAny_loadPart' TO2,wpAny_onRaise,D2.item i _ _ _ l2
 ·exact D2.frame _ _ _ h2 fun c hc o e=>aA _ (nin Z.o2 hc).symm (b₂.extBut _ _ (nin Z.x1 hc) (aA _ (nin Z.z2 hc).symm e))
 intro y h₄ t₄ py s₂ b₄
 have TO4:IsPair h₄ TO x b:=b₄.extBut _ _ O2.symm kO
 have ez4:IsZip h₄ z TI TO .ellipsis:=b₄.extBut _ _ z2.symm (aA _ Oz ez)
 have n4:h₄.objs.size=hp.objs.size:=by rw [b₄.1,cI,b₂.1,cI]
 have kP:=bC (Obj.mapSeq fun v=>v.setIfInBounds 1 y) TO4 rfl
 wp_walk using AutoSeq1.wpAny_loadPart' TO4,AutoSeq1.wpAny_loadPart' kP
 have n5:(h₄.update TO (Obj.mapSeq fun v=>v.setIfInBounds 1 y)).objs.size=hp.objs.size:=cI .. |>.trans n4
 have zl:z<hp.objs.size:=aR hz
 refine ⟨_,rfl,?_⟩
 rw [n5]
 have on:∀{c o} (f:Obj→Obj) (k:Obj→Obj),c≠z→((h₄.update TO (Obj.mapSeq fun v=>v.setIfInBounds 1 y)).push {cls:=.type "tuple",data:=.seq #[x,y]}).get? c=some o →
   ((((h₄.update TO (Obj.mapSeq fun v=>v.setIfInBounds 1 y)).push {cls:=.type "tuple",data:=.seq #[x,y]}).update z f).update z k).get? c=some o:=fun f k q e=>aA _ q.symm (aA _ q.symm e)
 refine hQ x y _ t₄ px py ?_ ?_ ?_ ?_ ?_ ?_ ?_
 ·exact bC _ (bC _ (au _ (aA _ Oz ez4)) rfl) rfl
 ·exact on _ _ Oz (au _ kP)
 ·exact D1.frame _ _ _ s₁ fun c hc o e=>on _ _ (nin Z.z1 hc) (au _ (aA _ (nin Z.o1 hc).symm (b₄.extBut _ _ (nin Z.x2 hc) (aA _ (nin Z.o1 hc).symm e))))
 ·exact D2.frame _ _ _ s₂ fun c hc o e=>on _ _ (nin Z.z2 hc) (au _ (aA _ (nin Z.o2 hc).symm e))
 ·exact on _ _ (eL zl) (dD n5.symm rfl)
 ·rw [cI,cI,cG,n5]
 ·exact fun c o c1 c2 c3 c4 e=>on _ _ c1 (au _ (aA _ c2.symm (b₄.extBut _ _ c4 (aA _ c2.symm (b₂.extBut _ _ c3 (aA _ c1.symm e))))))
theorem qX {Q:Fin→Shared→Prop} (D1:Draws prog w A i1 f1 n1 P1 S1) (D2:Draws prog w A i2 f2 n2 P2 S2) (Z:ZA z TO i1 i2 f1 f2) (hz:IsZip s.heap z TI TO .none) (hTI:IsPair s.heap TI (.ref i1) (.ref i2)) (hTO:IsPair s.heap TO a b) (h1:S1 i s.heap) (h2:S2 i s.heap) (hend:i=n1∨(i<n1∧i=n2))
  (hE:∀h' tk e,(∀c o,c≠z→c≠TO→c≠i1→c≠i2→s.heap.get? c=some o→h'.get? c=some o)→(∃o,h'.get? e=some o∧o.cls=.type "StopIteration")→E (.ref e) {s with heap:=h',toks:=tk}) :
  wpAny (model prog w) A (Builtin.«zip.__next__» ⟨[.ref z],[]⟩) Q E s:=by
 obtain ⟨hp,g,d,tk₀,os⟩:=s
 have Oz:=Z.oz
 have z1:=nin Z.z1 Z.m1
 have z2:=nin Z.z2 Z.m2
 have O1:=nin Z.o1 Z.m1
 have O2:=nin Z.o2 Z.m2
 have kz:=bC (Obj.mapFields fun v=>v.setIfInBounds 0 Value.ellipsis) hz rfl
 have first:S1 i (hp.update z (Obj.mapFields fun v=>v.setIfInBounds 0 Value.ellipsis)):=D1.frame _ _ _ h1 fun c hc o e=>aA _ (nin Z.z1 hc).symm e
 unfold Builtin.«zip.__next__»
 rcases hend with rfl | ⟨l1,rfl⟩
 ·wp_walk using AutoSeq1.wpAny_loadPart' hz,AutoSeq1.wpAny_loadPart' hTI,wpAny_onRaise,D1.done _ _ _ first
  rintro h₂ e b₂ ⟨o,ho,hc⟩
  have ez:h₂.get? z=_:=b₂ _ _ z1.symm kz
  have ne:e≠z:=fun q=>by rw [q,ez] at ho;cases ho;exact absurd (Value.type.inj hc) (by decide)
  wp_walk using wpAny_updatePart' ez
  exact hE _ _ _ (fun c o c1 c2 c3 c4 q=>aA _ c1.symm (b₂ _ _ c3 (aA _ c1.symm q))) ⟨o,aA _ ne.symm ho,hc⟩
 ·wp_walk using AutoSeq1.wpAny_loadPart' hz,AutoSeq1.wpAny_loadPart' hTI,wpAny_onRaise,D1.item i _ _ _ l1 first
  intro x h₂ t₂ px s₁ b₂
  have ez:h₂.get? z=_:=b₂.extBut _ _ z1.symm kz
  have TO2:IsPair h₂ TO a b:=b₂.extBut _ _ O1.symm (aA _ Oz.symm hTO)
  have last:S2 i (h₂.update TO (Obj.mapSeq fun v=>v.setIfInBounds 0 x)):=D2.frame _ _ _ h2 fun c hc o e=>aA _ (nin Z.o2 hc).symm (b₂.extBut _ _ (nin Z.x1 hc) (aA _ (nin Z.z2 hc).symm e))
  wp_walk using AutoSeq1.wpAny_loadPart' TO2,wpAny_onRaise,D2.done _ _ _ last
  rintro h₄ e b₄ ⟨o,ho,hc⟩
  have ez4:h₄.get? z=_:=b₄ _ _ z2.symm (aA _ Oz ez)
  have ne:e≠z:=fun q=>by rw [q,ez4] at ho;cases ho;exact absurd (Value.type.inj hc) (by decide)
  wp_walk using wpAny_updatePart' ez4
  exact hE _ _ _ (fun c o c1 c2 c3 c4 q=>aA _ c1.symm (b₄ _ _ c4 (aA _ c2.symm (b₂.extBut _ _ c3 (aA _ c1.symm q))))) ⟨o,aA _ ne.symm ho,hc⟩
end
end L2
namespace L2
open PySem PySem.Spec PyProof.Rows
def itC (b:Bool):String:=match b with | false=>"list_iterator" | true=>"tuple_iterator"
def SqB (b:Bool) (K:ai) (H:Hp) (a:Addr) (xs:List V):Prop:=match b with | false=>SqL K H a xs | true=>SqT K H a xs
theorem SqB.or {b:Bool} {K:ai} {H:Hp} {a:Addr} {xs:List V} (h:SqB b K H a xs):SqL K H a xs∨SqT K H a xs:=by
 cases b
 ·exact .inl h
 ·exact .inr h
section
variable {X:Cx} {pins:List (Addr×Obj)} {σ:St} {H:Hp} {s:Shared} {b:Bool} {a c:Addr} {xs:List V}
theorem Inv.src (I:Inv X pins σ H s) (h:SqB b X.K H a xs):∃its:List Value,Vals xs its∧SSq b s.heap a its.toArray∧xs.length≤sizeLine:=by
 cases b
 ·obtain ⟨its,r,p,z⟩:=I.list h;exact ⟨its,r,p.isList,z⟩
 ·obtain ⟨its,r,p,z⟩:=I.tuple h;exact ⟨its,r,p,z⟩
theorem Inv.fV (I:Inv X pins σ H s) (h:SqB b X.K H a xs) (f:lO X pins H c):a≠c:=by
 have known:∀o,X.K.lookup a=some o→a≠c:=fun o hk e=>by
  have hb:=I.ok.mod.kin a o hk
  subst e
  rcases f.2.2.2.1 with z | z
  ·exact I.ok.noex a o hb z
  ·exact absurd (bp (aR hb) (cx I.ok.bsz z)) (cS _)
 have free:∀o,H a=some o→a≠c:=fun o e z=>by rw [z,f.1] at e;cases e
 cases b
 ·rcases h with (h | ⟨o,h⟩) | ⟨o,_,_,hk,_⟩
  ·exact free _ h
  ·exact free _ h
  ·exact known o hk
 ·rcases h with (h | ⟨o,h⟩) | ⟨o,_,_,hk,_⟩
  ·exact free _ h
  ·exact free _ h
  ·exact known o hk
theorem Inv.iL {h':Heap} {t':Nat} {fp:List Addr} {ys:List V} {us:List Value} (I:Inv X pins σ H s) (hf:∀b∈fp,lO X pins H b) (k:∀c o,c∉fp→s.heap.get? c=some o→h'.get? c=some o) (r:Vals ys us) (hz:ys.length≤sizeLine) (hT:IsTup h' s.heap.objs.size us.toArray) :
  Inv X pins σ (upd H s.heap.objs.size (.tup ys)) {s with heap:=h',toks:=t'}:=by
 have hn:H s.heap.objs.size=none:=I.hok.fresh (aO _)
 refine I.qT (ch:=fp) rfl ⟨fun b o e n hb hx=>k b o hx e,fun b o e n hb hx=>⟨o.slots,k b o hx e⟩,fun b o e n hx=>?_,fun b o e hx=>⟨o,k b o hx e⟩,fun b zs e=>?_,fun b o u e=>?_,fun b ps e=>⟨#[],?_⟩⟩ (fun b u e=>?_) I.bare fun b hb=>?_
 ·rw [bX (bj (aR e))];exact n
 ·rw [bX (bw e hn)];exact e
 ·rw [bX (bw e hn)];exact e
 ·rw [bX (bw e hn),e];simp
 ·by_cases hb:b=s.heap.objs.size
  ·subst hb;rw [av] at e;cases e
   exact ⟨hz,us,r,hT⟩
  ·rw [bX hb] at e
   refine (I.hok b u e).o_ (fun c v hc q=>k c v (fun z=>?_) q) (fun c q=>by rw [bX (bw q hn)];exact q) fun c zs q=>by rw [bX (bw q hn)];exact q
   have z':=(hf c z).1
   rcases hc with hc | hc
   ·rw [hc,e] at z';cases z'
   ·rw [hc] at z';cases z'
 ·obtain ⟨f0,f1,f2,f3,f4,f5⟩:=hf b hb
  exact ⟨f3,f1,f4,f5⟩
theorem Inv.jj {h':Heap} {t':Nat} {fp:List Addr} (I:Inv X pins σ H s) (hf:∀b∈fp,lO X pins H b) (k:∀c o,c∉fp→s.heap.get? c=some o→h'.get? c=some o):Inv X pins σ H {s with heap:=h',toks:=t'}:=by
 refine I.qT (ch:=fp) rfl ⟨fun b o e n hb hx=>k b o hx e,fun b o e n hb hx=>⟨o.slots,k b o hx e⟩,fun b o e n hx=>n,fun b o e hx=>⟨o,k b o hx e⟩,fun b zs e=>e,fun b o u e=>e,fun b ps e=>⟨#[],by rw [e];simp⟩⟩ (fun b u e=>?_) I.bare fun b hb=>?_
 ·refine (I.hok b u e).o_ (fun c v hc q=>k c v (fun z=>?_) q) (fun c q=>q) fun c zs q=>q
  have z':=(hf c z).1
  rcases hc with hc | hc
  ·rw [hc,e] at z';cases z'
  ·rw [hc] at z';cases z'
 ·obtain ⟨f0,f1,f2,f3,f4,f5⟩:=hf b hb
  exact ⟨f3,f1,f4,f5⟩
end
section
variable {prog:Program} {w:World} {A:Around} {E:Value→Shared→Prop} {s:Shared}
theorem nA {b:Bool} {l:Addr} {xs:Array Value} {Q:Value→Shared→Prop} (h:SSq b s.heap l xs) (q:Q (.ref s.heap.objs.size) {s with heap:=s.heap.push {cls:=.type (itC b),data:=.fields #[.ref l,.int 0 0]}}):wpAny (model prog w) A (pyIter (.ref l)) Q E s:=by
 cases b
 ·exact wpAny_pyIter_list h q
 ·exact wpAny_pyIter_tuple h q
theorem pd {b:Bool} {h h':Heap} {l a:Addr} (e:h'.get? a=some {cls:=.type (itC b),data:=.fields #[.ref l,.int 0 0]}):SIt b h' a l 0:=by
 cases b<;>exact ⟨_,e,rfl,rfl⟩
end
abbrev zA1 (b:Bool) (h:Heap) (l:Addr):Heap:=h.push {cls:=.type (itC b),data:=.fields #[.ref l,.int 0 0]}
abbrev zA3 (b1 b2:Bool) (h:Heap) (l1 l2:Addr):Heap:=(zA1 b2 (zA1 b1 h l1) l2).push {cls:=.type "tuple",data:=.seq #[.ref h.objs.size,.ref (zA1 b1 h l1).objs.size]}
abbrev zA4 (b1 b2:Bool) (h:Heap) (l1 l2:Addr):Heap:=(zA3 b1 b2 h l1 l2).push {cls:=.type "tuple",data:=.seq #[.none,.none]}
abbrev zA5 (b1 b2:Bool) (h:Heap) (l1 l2:Addr):Heap:=(zA4 b1 b2 h l1 l2).push {cls:=.type "zip",data:=.fields #[.none,.bool false,.bool false,.ref (zA1 b2 (zA1 b1 h l1) l2).objs.size,.ref (zA3 b1 b2 h l1 l2).objs.size]}
theorem nW (b1 b2:Bool) (l1 l2:Addr) (xs ys:Array Value):Meets (Builtin.«zip.__new__» ⟨[.type "zip",.ref l1,.ref l2],[]⟩) (fun _ R s=>SSq b1 s.heap l1 xs∧SSq b2 s.heap l2 ys∧R (.ok (.ret (.ref (zA4 b1 b2 s.heap l1 l2).objs.size))) {s with heap:=zA5 b1 b2 s.heap l1 l2}) :=
 .of_wp fun prog w A R s h=>by
  obtain ⟨hp,g,d,tk,os⟩:=s;obtain ⟨hl1,hl2,h⟩:=h;have hsub:=sub_zip
  have hL1:SSq b1 (Shared.heap ⟨hp,g,d,tk,os⟩) l1 xs:=hl1
  have hL2:SSq b2 (Shared.heap ⟨hp.push {cls:=.type (itC b1),data:=.fields #[.ref l1,.int 0 0]},g,d,tk,os⟩) l2 ys:=SSq.keep hl2 fun o e=>au _ e
  wp_walk using nA hL1,nA hL2
  exact ⟨_,rfl,h⟩
section
variable {prog:Program} {w:World} {A:Around} {E:Value→Shared→Prop} {s:Shared}
theorem qN {b1 b2:Bool} {l1 l2:Addr} {xs ys:Array Value} {Q:Value→Shared→Prop} (hl1:SSq b1 s.heap l1 xs) (hl2:SSq b2 s.heap l2 ys)
  (h:∀h',IsZip h' (s.heap.objs.size+4) (s.heap.objs.size+2) (s.heap.objs.size+3) .none→IsPair h' (s.heap.objs.size+2) (.ref s.heap.objs.size) (.ref (s.heap.objs.size+1)) →
   IsPair h' (s.heap.objs.size+3) .none .none→SIt b1 h' s.heap.objs.size l1 0→SIt b2 h' (s.heap.objs.size+1) l2 0→(∀c o,s.heap.get? c=some o→h'.get? c=some o)→Q (.ref (s.heap.objs.size+4)) {s with heap:=h'}) :
  wpAny (model prog w) A (call (.type "zip") [.ref l1,.ref l2]) Q E s:=by
 refine callType_new F.called_zip (by decide) (F.typeCall_zip_2 _ _) (F.newCall_zip_2 _ _) (fun obj=>F.args_object_init_3 obj _ _) F.entry_zip_new (nW b1 b2 l1 l2 xs ys) ⟨hl1,hl2,?_⟩
 have z1:(zA1 b1 s.heap l1).objs.size=s.heap.objs.size+1:=cG ..
 have z2:(zA1 b2 (zA1 b1 s.heap l1) l2).objs.size=s.heap.objs.size+2:=by rw [cG,z1]
 have z3:(zA3 b1 b2 s.heap l1 l2).objs.size=s.heap.objs.size+3:=by rw [cG,z2]
 have z4:(zA4 b1 b2 s.heap l1 l2).objs.size=s.heap.objs.size+4:=by rw [cG,z3]
 have g5:(zA5 b1 b2 s.heap l1 l2).get? (zA4 b1 b2 s.heap l1 l2).objs.size=some _:=aY _ rfl
 have g4:(zA5 b1 b2 s.heap l1 l2).get? (zA3 b1 b2 s.heap l1 l2).objs.size=some _:=au _ (aY _ rfl)
 have g3:(zA5 b1 b2 s.heap l1 l2).get? (zA1 b2 (zA1 b1 s.heap l1) l2).objs.size=some _:=au _ (au _ (aY _ rfl))
 have g2:(zA5 b1 b2 s.heap l1 l2).get? (zA1 b1 s.heap l1).objs.size=some _:=au _ (au _ (au _ (aY _ rfl)))
 have g1:(zA5 b1 b2 s.heap l1 l2).get? s.heap.objs.size=some _:=au _ (au _ (au _ (au _ (aY _ rfl))))
 show _∧_
 rw [z2,z3,z4] at g5;rw [z1,z2] at g3;rw [z3] at g4;rw [z1] at g2;rw [z4]
 exact ⟨⟨_,g5,rfl⟩,h _ g5 g3 g4 (pd (h:=s.heap) g1) (pd (h:=s.heap) g2) fun c o x=>au _ (au _ (au _ (au _ (au _ x))))⟩
end
def Itz (K:ai) (b1 b2:Bool) (a1 a2:Addr) (xs ys:List V):It :=
  ⟨fun i H=>SqB b1 K H a1 xs∧SqB b2 K H a2 ys∧i<xs.length∧i<ys.length,fun i H x H'=>∃p,x=.ref p∧H p=none∧H'=upd H p (.tup [xs.getD i .non,ys.getD i .non]),
   fun i H=>SqB b1 K H a1 xs∧SqB b2 K H a2 ys∧i=min xs.length ys.length⟩
theorem h_ {xs:List V} {its:List Value} {i:Nat} {u:Value} (r:Vals xs its) (e:its.toArray[i]?=some u):RelV (xs.getD i .non) u:=by
 obtain ⟨x,h1,h2⟩:=r.tog (i:=i) (u:=u) (by simpa using e)
 rw [aa,h1];exact h2
theorem vg (n:Nat):n+3≠n+4∧n≠n+4∧n+1≠n+4∧n+2≠n+4∧n+2≠n+3∧n+2≠n∧n+2≠n+1∧n+3≠n∧n+3≠n+1∧n≠n+1:=by refine ⟨?_,?_,?_,?_,?_,?_,?_,?_,?_,?_⟩<;>omega
theorem rf {P:Program} {w:World} {K:ai} {elts:List Expr} {kx} {pos:Pos} (b1 b2:Bool) (a1 a2 z TI TO i1 i2:Addr) (xs ys:List V) (ne:TO≠z∧i1≠z∧i2≠z∧TI≠z∧TI≠TO∧TI≠i1∧TI≠i2∧TO≠i1∧TO≠i2∧i1≠i2) :
  Turn P w K (.Tuple elts kx pos) (Itz K b1 b2 a1 a2 xs ys) [z,TI,TO,i1,i2] z (fun i h=>IsZip h z TI TO .none∧IsPair h TI (.ref i1) (.ref i2)∧(∃a b,IsPair h TO a b)∧SIt b1 h i1 a1 i∧SIt b2 h i2 a2 i) where
 mem:=by simp
 obj:=fun i h st b hb=>by
  obtain ⟨hz,hTI,⟨a,b',hTO⟩,h1,h2⟩:=st
  simp only [bq,dA,or_false] at hb
  rcases hb with rfl | rfl | rfl | rfl | rfl
  ·exact ⟨_,hz,fun v z=>by cases z⟩
  ·exact ⟨_,hTI,fun v z=>by cases z⟩
  ·exact ⟨_,hTO,fun v z=>by cases z⟩
  ·exact h1.obj
  ·exact h2.obj
 keep:=fun i h h' st k=>by
  obtain ⟨hz,hTI,⟨a,b',hTO⟩,h1,h2⟩:=st
  exact ⟨k z (by simp) _ hz,k TI (by simp) _ hTI,⟨a,b',k TO (by simp) _ hTO⟩,h1.keep fun o e=>k i1 (by simp) o e,h2.keep fun o e=>k i2 (by simp) o e⟩
 item:=by
  intro X hP hw hK hc i pins s σ H E I hf st hg
  subst hP hw hK
  obtain ⟨hz,hTI,⟨a,b',hTO⟩,h1,h2⟩:=st
  obtain ⟨q1,q2,hx,hy⟩:=hg
  obtain ⟨its1,r1,p1,z1⟩:=I.src q1
  obtain ⟨its2,r2,p2,z2⟩:=I.src q2
  have nz1:=I.fV q1 (hf z (by simp));have nz2:=I.fV q2 (hf z (by simp));have no1:=I.fV q1 (hf TO (by simp));have no2:=I.fV q2 (hf TO (by simp));have n11:=I.fV q1 (hf i1 (by simp));have n12:=I.fV q1 (hf i2 (by simp));have n21:=I.fV q2 (hf i1 (by simp));have n22:=I.fV q2 (hf i2 (by simp))
  obtain ⟨e1,e2,e3,e4,e5,e6,e7,e8,e9,e10⟩:=ne
  have hT:s.TypeIs (.ref z) "zip":=⟨_,hz,rfl⟩
  have D1:=fu (prog:=X.prog) (w:=X.w) (A:=X.A.in1) (I.ok.hd hc) b1 i1 a1 n11 its1.toArray
  have D2:=fu (prog:=X.prog) (w:=X.w) (A:=X.A.in1) (I.ok.hd hc) b2 i2 a2 n22 its2.toArray
  have Z:ZA z TO i1 i2 [i1,a1] [i2,a2]:=⟨by simp,by simp,by simp [e2.symm,nz1.symm],by simp [e3.symm,nz2.symm],by simp [e8,no1.symm],by simp [e9,no2.symm],by simp [e10,n21.symm],by simp [e10.symm,n12.symm],e1⟩
  have len1:=r1.length;have len2:=r2.length
  unfold pyNext
  refine wpAny_bind (wpAny_attempt (wpAny_callSpecial?_slot (name:=Str.ofString "__next__") hT F.slot_zip_next (wpAny_call_entry F.slot_zip_next hT F.entry_zip_next
   (oO D1 D2 Z hz hTI hTO ⟨h1,p1⟩ ⟨h2,p2⟩ (by simp;omega) (by simp;omega) fun x y h' tk px py hz' hTO' s1 s2 hT' hsz hk=>wpAny_pure ?_) (F.args_zip_next_1 _))))
  have r:Vals [xs.getD i .non,ys.getD i .non] [x,y]:=.cons (h_ r1 px) (.cons (h_ r2 py) .nil)
  have I1:Inv X pins σ (upd H s.heap.objs.size (.tup [xs.getD i .non,ys.getD i .non])) {s with heap:=h',toks:=tk} :=
   I.iL (t':=tk) hf (fun c o hc e=>hk c o (fun q=>hc (by simp [q])) (fun q=>hc (by simp [q])) (fun q=>hc (by simp [q])) (fun q=>hc (by simp [q])) e) r (by show 2≤sizeLine;decide) ⟨_,hT',rfl,_,rfl⟩
  have nH:H s.heap.objs.size=none:=I.hok.fresh (aO _)
  have fresh:∀b∈[z,TI,TO,i1,i2],(upd H s.heap.objs.size (.tup [xs.getD i .non,ys.getD i .non])) b=none:=fun b hb=>by
   rw [bX ?_]
   ·exact (hf b hb).1
   ·simp only [bq,dA,or_false] at hb
    rcases hb with rfl | rfl | rfl | rfl | rfl
    ·exact bj (aR hz)
    ·exact bj (aR hTI)
    ·exact bj (aR hTO)
    ·obtain ⟨o,e,_⟩:=h1.obj;exact bj (aR e)
    ·obtain ⟨o,e,_⟩:=h2.obj;exact bj (aR e)
  obtain ⟨f0,f1,f2,f3,f4,f5⟩:=hf z (by simp)
  refine ⟨_,rfl,wpAny_letOwnedTupleGo_zip hz' fun h2' hz2 sb=>⟨.ref s.heap.objs.size,_,I1.turned (t':=tk) (fun b o hb e=>(sb.2 b hb).trans e) (fresh z (by simp)) f1 f3 f4 f5,rfl,⟨_,rfl,nH,rfl⟩,⟨hz2,?_,⟨x,y,?_⟩,?_,?_⟩,fresh⟩⟩
  ·exact (sb.2 TI e4).trans (hk _ _ e4 e5 e6 e7 hTI)
  ·exact (sb.2 TO e1).trans hTO'
  ·exact s1.1.keep fun o e=>(sb.2 i1 e2).trans e
  ·exact s2.1.keep fun o e=>(sb.2 i2 e3).trans e
 done:=by
  intro X hP hw hK hc i pins s σ H E I hf st hg
  subst hP hw hK
  obtain ⟨hz,hTI,⟨a,b',hTO⟩,h1,h2⟩:=st
  obtain ⟨q1,q2,hx⟩:=hg
  obtain ⟨its1,r1,p1,z1⟩:=I.src q1
  obtain ⟨its2,r2,p2,z2⟩:=I.src q2
  have nz1:=I.fV q1 (hf z (by simp));have nz2:=I.fV q2 (hf z (by simp));have no1:=I.fV q1 (hf TO (by simp));have no2:=I.fV q2 (hf TO (by simp));have n11:=I.fV q1 (hf i1 (by simp));have n12:=I.fV q1 (hf i2 (by simp));have n21:=I.fV q2 (hf i1 (by simp));have n22:=I.fV q2 (hf i2 (by simp))
  obtain ⟨e1,e2,e3,e4,e5,e6,e7,e8,e9,e10⟩:=ne
  have hT:s.TypeIs (.ref z) "zip":=⟨_,hz,rfl⟩
  have D1:=fu (prog:=X.prog) (w:=X.w) (A:=X.A.in1) (I.ok.hd hc) b1 i1 a1 n11 its1.toArray
  have D2:=fu (prog:=X.prog) (w:=X.w) (A:=X.A.in1) (I.ok.hd hc) b2 i2 a2 n22 its2.toArray
  have Z:ZA z TO i1 i2 [i1,a1] [i2,a2]:=⟨by simp,by simp,by simp [e2.symm,nz1.symm],by simp [e3.symm,nz2.symm],by simp [e8,no1.symm],by simp [e9,no2.symm],by simp [e10,n21.symm],by simp [e10.symm,n12.symm],e1⟩
  have len1:=r1.length;have len2:=r2.length
  unfold pyNext
  refine wpAny_bind (wpAny_attempt (wpAny_callSpecial?_slot (name:=Str.ofString "__next__") hT F.slot_zip_next (wpAny_call_entry F.slot_zip_next hT F.entry_zip_next
   (qX D1 D2 Z hz hTI hTO ⟨h1,p1⟩ ⟨h2,p2⟩ (by simp;omega) fun h' tk e hk he=>?_) (F.args_zip_next_1 _))))
  obtain ⟨o,ho,hcl⟩:=he
  refine wpAny_bind (wpAny_isInstance (T:="StopIteration") (b:=true) ⟨o,ho,hcl⟩ isSubtype_stop ?_)
  exact wpAny_pure ⟨rfl,I.jj (t':=tk) hf fun c o hc e=>hk c o (fun q=>hc (by simp [q])) (fun q=>hc (by simp [q])) (fun q=>hc (by simp [q])) (fun q=>hc (by simp [q])) e⟩
 self:=fun A i s Q E st h=>wpAny_pyIter_zip st.1 h
structure ItP (J:It) (n:Nat) (val:Nat→List V) (C:Hp→Prop):Prop where
 go:∀i H,C H→i<n→J.go i H
 yld:∀i H x H',C H→i<n→J.yld i H x H'→∃p,x=.ref p∧H p=none∧H'=upd H p (.tup (val i))
 stop:∀H,C H→J.stop n H
theorem uw {K:ai} {b1 b2:Bool} {a1 a2:Addr} {xs ys:List V}:ItP (Itz K b1 b2 a1 a2 xs ys) (min xs.length ys.length) (fun i=>[xs.getD i .non,ys.getD i .non]) (fun H=>SqB b1 K H a1 xs∧SqB b2 K H a2 ys) where
 go:=fun i H c hi=>⟨c.1,c.2,by omega,by omega⟩
 yld:=fun i H x H' c hi y=>y
 stop:=fun H c=>⟨c.1,c.2,rfl⟩
theorem SqB.same {b:Bool} {K:ai} {H H':Hp} {a:Addr} {xs:List V} (h:SqB b K H a xs) (S:bx H H'):SqB b K H' a xs:=by
 cases b
 ·exact S.seq h
 ·exact S.tup h
def Bm (K:ai) (ta:TA):TI:=fun σ H R=>ta σ H fun vs H1=>∃(b1 b2:Bool) (a1 a2:Addr) (xs ys:List V),vs=[.ref a1,.ref a2]∧SqB b1 K H1 a1 xs∧SqB b2 K H1 a2 ys ∧
 ∀J C,ItP J (min xs.length ys.length) (fun i=>[xs.getD i .non,ys.getD i .non]) C→(∀H2,SqB b1 K H2 a1 xs→SqB b2 K H2 a2 ys→C H2)→R J H1
section
variable {X:Cx} {K:ai} {elts:List Expr} {kx:Nat} {tpos:Pos}
theorem kS {a b:Expr} {ta:TA} {p pos:Pos} (hK:X.K=K) (hg:Gl X "zip") (hm:X.mg "zip"=none) (ha:PA X [a,b] ta) (hs:starEach [a,b] X.env=[(false,eval a X.env),(false,eval b X.env)]:=by rfl) (hs2:starEach [b] X.env=[(false,eval b X.env)]:=by rfl) :
  PI X (.Tuple elts kx tpos) (.Call (.Name "zip" p) [a,b] [] pos) (Bm K ta):=by
 subst hK
 intro pins s σ H R I h
 refine Call_ (gw I hg hm boot_zip (bE (thn (ha pos pins s σ H _ I h) fun us s1 ⟨vs,H1,I1,r1,q1⟩=>?_) (by rw [hs,hs2]) (by rw [hs2];rfl)))
 obtain ⟨b1,b2,a1,a2,xs,ys,e,q1,q2,q⟩:=q1
 subst e
 obtain ⟨u,u',rfl,rx,ry⟩:=vals2 r1
 cases rx;cases ry
 obtain ⟨its1,rv1,p1,z1⟩:=I1.src q1
 obtain ⟨its2,rv2,p2,z2⟩:=I1.src q2
 refine qN p1 p2 fun h' hz hTI hTO h1 h2 hk=>wpAny_pyIter_zip hz ?_
 have I2:Inv X pins σ H1 {s1 with heap:=h'}:=I1.kept (t':=s1.toks) hk
 refine ⟨_,[s1.heap.objs.size+4,s1.heap.objs.size+2,s1.heap.objs.size+3,s1.heap.objs.size,s1.heap.objs.size+1],_,_,H1,rfl,I2,rf b1 b2 a1 a2 _ _ _ _ _ xs ys (vg s1.heap.objs.size),⟨hz,hTI,⟨_,_,hTO⟩,h1,h2⟩,fun b hb=>?_,q _ _ uw fun H2 k1 k2=>⟨k1,k2⟩⟩
 have:s1.heap.objs.size≤b:=by
  simp only [bq,dA,or_false] at hb
  rcases hb with rfl | rfl | rfl | rfl | rfl<;>first | exact Nat.le_add_right _ _ | exact aO _
 exact I1.u_ this (I1.hok.fresh this)
end
theorem nk {J:It} {n:Nat} {val:Nat→List V} {C:Hp→Prop} {g:TG} {tt:TT} {te:TE} {σ0:St} {Q:VK} {H:Hp} (O:ItP J n val C) (Pv:Nat→List V→Hp→Prop) (hn:n≤sizeLine) (h0:Pv 0 [] H) (hl:∀i ys H,i≤n→Pv i ys H→C H∧ys.length≤i)
  (hs:∀i ys H p,i<n→Pv i ys H→H p=none→g (.ref p) σ0 (upd H p (.tup (val i))) fun σ2 H2=>Wk σ0 σ2∧tt σ2 H2 fun k H3=>if k=true then te σ2 H3 fun v H4=>ys.length<sizeLine∧∃m',m'<n-i∧(m'=n-(i+1)∧i+1≤n∧Pv (i+1) (ys++[v]) H4) else ∃m',m'<n-i∧(m'=n-(i+1)∧i+1≤n∧Pv (i+1) ys H3))
  (hd:∀ys H,Pv n ys H→∀p,H p=none→Q (.ref p) (upd H p (.lst ys))):LcW J g tt te σ0 Q H:=by
 refine ⟨fun i m ys H=>m=n-i∧i≤n∧Pv i ys H,⟨n,by simp,dM _,h0⟩,?_⟩
 rintro i m ys H ⟨rfl,hi,p⟩
 obtain ⟨c,hy⟩:=hl i ys H hi p
 refine ⟨by omega,?_⟩
 by_cases hlt:i<n
 ·refine .inr ⟨O.go i H c hlt,fun x H' y=>?_⟩
  obtain ⟨q,rfl,hq,rfl⟩:=O.yld i H x H' c hlt y
  exact hs i ys _ q hlt p hq
 ·obtain rfl:i=n:=by omega
  exact .inl ⟨O.stop H c,hd ys H p⟩
theorem jC {J:It} {n:Nat} {val:Nat→List V} {C:Hp→Prop} {g:TG} {tb:TS} {D:Ends} {σ:St} {H:Hp} (O:ItP J n val C) (Pv:Nat→St→Hp→Prop) (h0:Pv 0 σ H) (hl:∀i σ H,i≤n→Pv i σ H→C H)
  (hs:∀i σ H p,i<n→Pv i σ H→H p=none→g (.ref p) σ (upd H p (.tup (val i))) fun σ2 H2=>tb {D with nx:=Pv (i+1),ct:=Pv (i+1),bk:=D.nx} σ2 H2) (hd:∀σ H,Pv n σ H→D.nx σ H) :
  ∃W:Nat→Nat→St→Hp→Prop,(∃m,W 0 m σ H)∧∀i m σ H,W i m σ H→(J.stop i H∧D.nx σ H)∨(J.go i H∧∃N:St→Hp→Prop,(∀σ' H',N σ' H'→∃m',m'<m∧W (i+1) m' σ' H')∧∀x H',J.yld i H x H'→g x σ H' fun σ2 H2=>tb {D with nx:=N,ct:=N,bk:=D.nx} σ2 H2):=by
 refine ⟨fun i m σ H=>m=n-i∧i≤n∧Pv i σ H,⟨n,by simp,dM _,h0⟩,?_⟩
 rintro i m σ H ⟨rfl,hi,p⟩
 have c:=hl i σ H hi p
 by_cases hlt:i<n
 ·refine .inr ⟨O.go i H c hlt,Pv (i+1),fun σ' H' p'=>⟨n-(i+1),by omega,rfl,hlt,p'⟩,fun x H' y=>?_⟩
  obtain ⟨q,rfl,hq,rfl⟩:=O.yld i H x H' c hlt y
  exact hs i σ _ q hlt p hq
 ·obtain rfl:i=n:=by omega
  exact .inl ⟨O.stop H c,hd σ H p⟩
end L2
namespace L2
open PySem PySem.Spec PyProof.Rows
section
variable {X:Cx} {K:ai}
theorem ku (hK:X.K=K):Ab X (fun o i H Q=>∃p xs k v,o=.ref p∧i=.int k∧0≤k∧SqL K H p xs∧xs[k.toNat]?=some v∧Q v H):=by
 subst hK
 intro pins s σ H o i ov iv Q I ro ri h
 obtain ⟨p,xs,k,v,rfl,rfl,h0,hq,hx,q⟩:=h
 cases ro
 obtain ⟨t,rfl⟩:=ri
 obtain ⟨its,r,pl,hz⟩:=I.list hq
 obtain ⟨u,hu,ru⟩:=r.get hx
 have hl:k.toNat<xs.length:=(cD.mp hx).1
 have hn:=kZ
 exact wpAny_getItem_list pl.isList h0 (by omega) (by simpa using hu) ⟨v,H,I,ru,q⟩
end
theorem gT.calm {P:Program} {w:World} {K:ai} {mg:Str→Option Value} {base:Heap} {k:Nat} {x:Str} {ps:List Str} {sp:Sp} (D:gT P w K mg base k x ps sp):Def P w K mg base k x ps (fun vs H Q _=>sp vs H Q fun _ _ _=>False):=by
 obtain ⟨f,fd,F,m,kp,b⟩:=D
 refine ⟨f,fd,⟨fun vs H Q E h=>F.len _ _ _ _ h,fun A outer s H args us vs Q E hr he hb hv hs=>codeAny_mono (F.run A outer s H args us vs Q _ hr he hb hv hs) fun r s' hq=>?_⟩,m,kp,b⟩
 cases r with
 | error e=>obtain ⟨_,_,_,_,_,_,_,_,_,_,_,z⟩:=hq;exact z.elim
 | ok fl=>cases fl<;>exact hq
theorem getD_ints {ns:List Int} {i:Nat} (h:i<ns.length):(ns.map V.int).getD i .non=.int (ns.getD i 0):=by
 rw [aa,br,aa,ak h];rfl
theorem ky {ns:List Int} {i:Nat} (h:i<ns.length):(ns.map V.int)[i]?=some (.int (ns.getD i 0)):=by
 rw [br,aa,ak h];rfl
theorem fO {ns:List Int} {i:Nat} {v:Int}:(ns.map V.int).set i (.int v)=(ns.set i v).map V.int:=by rw [List.map_set]
theorem kA {ns:List Int} {i p:Nat} {v:Int} (h:p<ns.length):(ns.set i v).getD p 0=if i=p then v else ns.getD p 0:=by
 by_cases e:i=p
 ·subst e;rw [if_pos rfl,aa,List.getElem?_set_self h];rfl
 ·rw [if_neg e,aa,dw e,aa]
theorem fZ (n:Nat) (v:Int):(az n [V.int v]).flatten=(az n v).map V.int:=by
 induction n with
 | zero=>rfl
 | succ n ih=>rw [di,List.flatten_cons,ih,di];rfl
end L2
namespace L2
open PySem PySem.Spec PyProof.Rows
structure mL (k:Nat) (A:Around):Prop where
 dp:A.depth+3*k+5<recursionLimit
 un:A.units+16*k+200<cLine
theorem iw.held {k:Nat} {A:Around} {v:Option Value} (r:iw k A):mL k (A.mark v):=⟨r.dp,r.un⟩
theorem mL.mono {j k:Nat} {A:Around} (r:mL k A) (h:j≤k):mL j A:=⟨by have:=r.dp;omega,by have:=r.un;omega⟩
abbrev cxC (P:Program) (w:World) (K:ai) (mg:Str→Option Value) (base:Heap) (N:List Str) (qual:Str) (scope:Scope) (f:Addr) (cd:Value) (A:Around) (outer:List Env) (s:Shared) (H:Hp) (E:XK):Cx:={oG CX0 P w K mg base N qual scope f cd A outer s H E with calm:=false}
theorem oo {P:Program} {w:World} {K:ai} {mg:Str→Option Value} {base:Heap} {N ps:List Str} {qual:Str} {scope:Scope} {f:Addr} {cd:Value} {A:Around} {outer:List Env} {s s1:Shared} {H:Hp} {E:XK} {us:List Value} {vs:List V}
  (S:bS N ps scope) (e0:qW P w K mg base A outer s H) (hl:vs.length=ps.length) (r:Vals vs us) (x:InCallC s s.heap.objs.size (bindL (envOfC qual scope s.heap.objs.size f cd).kindOf (ps.zip us) fun _=>none) (cellsFrom (s.heap.objs.size+1) scope.names []) (bindC (envOfC qual scope s.heap.objs.size f cd).kindOf (ps.zip us) fun _=>none) s1) :
  Inv (cxC P w K mg base N qual scope f cd A outer s H E) [] (start N vs) H s1:=by
 have e1:qW P w K mg base {A with handled:=none} outer s H:=⟨e0.frames,e0.mod,e0.bs,e0.bsz,e0.kB,e0.frf,e0.hok,e0.bare⟩
 have I:=lx (CX:=CX0) (E:=E) (A:={A with handled:=none}) S rfl e1 hl r x
 exact ⟨⟨I.ok.mod,I.ok.kind,I.ok.glob,I.ok.blt,I.ok.above,I.ok.inj,I.ok.has,I.ok.cab,fun z=>(aV z).elim,Around.frames_deeper e0.frames,I.ok.stk,I.ok.exf,I.ok.bs,I.ok.bsz,I.ok.noex,I.ok.exfs,I.ok.kB,I.ok.frf⟩,I.os,I.bare,I.base,I.loc,I.cell,I.free,I.freeC,I.pin,I.hok,I.len⟩
structure sh (P:Program) (w:World) (K:ai) (mg:Str→Option Value) (base:Heap) (k:Nat) (f:Addr) (fd:FuncData) (ps:List Str) (sp:Sp):Prop where
 len:∀vs H Q E,sp vs H Q E→vs.length=ps.length
 run:∀(A:Around) (outer:List Env) (s:Shared) (H:Hp) (args:Args) (us:List Value) (vs:List V) (Q:VK) (E:XK),mL k A→qW P w K mg base A outer s H→BindsTo s fd args (ps.zip us)→Vals vs us→sp vs H Q E→codeAny (model P w) A (.call (.ref f) args) (CR CX0 outer P w H s Q E) s
theorem Fun.okC {P:Program} {w:World} {K:ai} {mg:Str→Option Value} {base:Heap} {x qual:Str} {st:Stmt} {f:Addr} {fd:FuncData} {N ps:List Str} {k:Nat} {sp:Sp} (F:Fun K x qual st f fd) (S:bS N ps (aB st)) (len:∀vs H Q E,sp vs H Q E→vs.length=ps.length)
  (hbody:∀(cdv:Value) (A:Around) (outer:List Env) (s:Shared) (H:Hp) (vs:List V) (Q:VK) (E:XK),mL k (A.deeper (envOfC qual (aB st) s.heap.objs.size f cdv))→sp vs H Q E →
   ∃t,PSs (cxC P w K mg base N qual (aB st) f cdv A outer s H E).nox (bO st) t∧t {nx:=fun _ H'=>Q .non H',rt:=Q} (start N vs) H):sh P w K mg base (k+1) f fd ps sp:=by
 obtain ⟨oc,od,kV,doc,pm,an,cdv,ct,osl,rfl,lk,hcd⟩:=F.ex
 refine ⟨len,fun A outer s H args us vs Q E hr e0 hb r hsp=>?_⟩
 have hl:=len _ _ _ _ hsp
 have KX:K.In s.heap:=e0.mod.kin.keeps fun b o e=>(e0.bs b o e).1
 have lim:s.heap.NoLimit:=e0.mod.nolimit.keeps fun b o e=>(e0.bs b o e).1
 have hkind:∀y∈ps.zip us,(aB st).names.lookup y.1=some .local∨((aB st).names.lookup y.1=some .cell∧((cellsFrom (s.heap.objs.size+1) (aB st).names []).lookup y.1).isSome=true):=fun ⟨n,v⟩ hy=>by
  rcases S.par n (List.of_mem_zip hy).1 with q | q
  ·exact .inl q
  ·exact .inr ⟨q,PySem.W.cellsFrom_some _ _ _ (.inl q)⟩
 refine codeAny_call_function (by have:=hr.dp;omega) (KX _ _ lk) rfl S.co S.gen rfl (PySem.W.codeRec_of KX hcd) (hb _ _ _ _ ?_)
 refine wpAny_newFunctionEnv_cells S.kind hkind fun env he s1 x=>?_
 subst he
 refine ⟨lim.keeps x.toInCall.keep,codeAny_func ?_⟩
 obtain ⟨t,ht',hq⟩:=hbody cdv A outer s H vs Q E ⟨by have:=hr.dp;show A.depth+1+3*k+5<_;omega,by have:=hr.un;show A.units+3+16*k+200<_;omega⟩ hsp
 have ht:=ht'.nox
 have I:Inv (cxC P w K mg base N qual (aB st) f cdv A outer s H E) [] (start N vs) H s1:=oo S e0 hl r x
 refine wpAny_mono (ht [] s1 (start N vs) H _ I hq) (fun fl s' hs=>?_) fun e s' hs=>hs
 have fin:∀{σ':St} {H':Hp} {v:V} {u:Value},Inv (cxC P w K mg base N qual (aB st) f cdv A outer s H E) [] σ' H' s'→RelV v u→Q v H'→CE outer P w H s Q u s':=fun {σ' H' v u} J rv q=>⟨v,H',J.os,J.bare,J.base,J.hok,rv,q⟩
 cases fl with
 | ret u=>obtain ⟨v,σ',H',J,rv,q⟩:=hs;exact fin J rv q
 | next=>obtain ⟨σ',H',J,q⟩:=hs;exact fin (v:=V.non) (u:=Value.none) J rfl q
 | brk=>obtain ⟨_,_,_,q⟩:=hs;exact False.elim q
 | cont=>obtain ⟨_,_,_,q⟩:=hs;exact False.elim q
def wK (P:Program) (w:World) (K:ai) (mg:Str→Option Value) (base:Heap) (k:Nat) (x:Str) (ps:List Str) (sp:Sp):Prop :=
 ∃f fd,sh P w K mg base k f fd ps sp∧mg x=some (.ref f)∧aJ K (.ref f)=true∧Binds K fd ps []
theorem wK.of {P:Program} {w:World} {K:ai} {mg:Str→Option Value} {base:Heap} {k:Nat} {x qual:Str} {ps:List Str} {sp:Sp} {st:Stmt} {f:Addr} {fd:FuncData}
  (F:Fun K x qual st f fd) (m:mg x=some (.ref f)) (b:Binds K fd ps []) (ok:sh P w K mg base k f fd ps sp):wK P w K mg base k x ps sp:=⟨f,fd,ok,m,F.kp,b⟩
theorem ue {X:Cx} {k k':Nat} {x:Str} {ps:List Str} {sp:Sp} {e:Expr} {es:List Expr} {t:TA} {p pos:Pos} (D:wK X.prog X.w X.K X.mg X.base k x ps sp) (hr:mL k' X.A) (ha:PA X (e::es) t) (hk:k≤k':=by decide) (hg:Gl X x:=by rfl)
  (hdb:(x==("__debug__":Str))=false:=by decide) (he:starEach (e::es) X.env=(false,eval e X.env)::starEach es X.env:=by rfl) (hpl:(backTo pos (starEach es X.env)).any (·.1)=false:=by rfl) :
  PE X (.Call (.Name x p) (e::es) [] pos) (fun σ H Q=>t σ H fun vs H1=>sp vs H1 Q E0):=by
 obtain ⟨f,fd,F,m,kp,b⟩:=D
 intro pins s σ H Q I h
 refine wpAny_Call_Name_kw (iu I hg m ?_ hdb)
 refine PySem.W.callWith_K (h₀:=X.base) I.ok.mod.kin kp (thn (ha pos pins s σ H _ I h) fun us s1 ⟨vs,H1,I1,r,q⟩=>⟨I1.kIn,?_⟩) he hpl
 have hl:(us++[]).length=ps.length:=by rw [bT,←r.length];exact F.len _ _ _ _ q
 have bt:=b s1 us I1.kIn hl
 rw [bT] at bt
 refine wpAny_call (codeAny_mono (F.run X.A X.stack s1 H1 ⟨us,[]⟩ us vs Q E0 (hr.mono hk) I1.xi bt r q) fun r s' hq=>?_)
 cases r with
 | error e=>exact False.elim hq
 | ok fl =>
  cases fl with
  | ret u=>exact I1.after hq
  | next=>exact False.elim hq
  | brk=>exact False.elim hq
  | cont=>exact False.elim hq
def zu (K:ai) (tl:TE):TI:=fun σ H R=>tl σ H fun x H1=>∃b a xs,x=.ref a∧SqB b K H1 a xs∧∀J C,uS J xs.length (fun i=>xs.getD i .non) C→(∀H2,SqB b K H2 a xs→C H2)→R J H1
theorem iy {X:Cx} {K:ai} {tg l:Expr} {tl:TE} (hK:X.K=K) (hl:PE X l tl):PI X tg l (zu K tl):=by
 subst hK
 intro pins s σ H R I h
 refine thn (hl pins s σ H _ I h) fun v s1 ⟨x,H1,I1,r1,q1⟩=>?_
 obtain ⟨b,a,xs,e,hq,q⟩:=q1
 subst e
 cases r1
 have fp:∀b∈[s1.heap.objs.size],lO X pins H1 b:=fun b hb=>by
  have e:b=s1.heap.objs.size:=by simpa using hb
  rw [e];exact I1.u_ (aO _) (I1.hok.fresh (aO _))
 cases b
 ·obtain ⟨its,rv,p,hz⟩:=I1.list hq
  exact wpAny_pyIter_list p.isList ⟨s1.heap.objs.size,[s1.heap.objs.size],_,_,H1,rfl,I1.kept (t':=s1.toks) fun b o e=>au _ e,kJ a _,⟨_,aY _ rfl,rfl,rfl⟩,fp,q _ _ lj fun H2 S=>S⟩
 ·obtain ⟨its,rv,p,hz⟩:=I1.tuple hq
  exact wpAny_pyIter_tuple (show s1.heap.IsTuple a its.toArray from p) ⟨s1.heap.objs.size,[s1.heap.objs.size],_,_,H1,rfl,I1.kept (t':=s1.toks) fun b o e=>au _ e,jQ a _,⟨_,aY _ rfl,rfl,rfl⟩,fp,q _ _ nv fun H2 S=>S⟩
end L2
namespace L2
open PySem PySem.Spec PyProof.Rows
set_option maxRecDepth 100000
theorem oh:typeLookup (.type "list_reverseiterator") "__len__"=pure none:=by rw [typeLookup_type,builtinLookup_eq_fast];kernel_rfl
theorem rE:typeLookup (.type "list_reverseiterator") "__length_hint__"=pure (some (.builtin "list_reverseiterator.__length_hint__")):=by rw [typeLookup_type,builtinLookup_eq_fast];kernel_rfl
section
variable {prog:Program} {w:World} {A:Around} {E:Value→Shared→Prop} {s:Shared}
theorem rP {I:Addr} {Q:Bool→Shared→Prop} (hT:s.TypeIs (.ref I) "list_reverseiterator") (h:Q false s):wpAny (model prog w) A (Builtin.List.listLengthHint (.ref I)) Q E s:=by
 obtain ⟨f,hf⟩:∃f,f="list_reverseiterator.__length_hint__":=⟨_,rfl⟩
 have a1:=oh
 have a2:=rE
 have a3:splitId f=some ("list_reverseiterator","__length_hint__"):=by rw [hf];decide +kernel
 have a4:isSubtype (.type "list_reverseiterator") (.type "list_reverseiterator")=pure true:=by rw [isSubtype_type];kernel_rfl
 rw [←hf] at a2
 wp_walk
 rw [a3]
 wp_walk
 subst hf
 apply wpAny_ite_true
 ·decide +kernel
 apply wpAny_ite_false
 ·decide +kernel
 exact wpAny_pure h
theorem oB {R:Result→Shared→Prop} {I l:Addr} {items:Array Value} (hh:A.handled=none) (hit:s.heap.IsRevIter I l ((items.size:Int)-1)) (hl:s.heap.IsList l items) (hne:l≠I) (hsz:items.size≤sizeLine) (S:Addr) (res:Value) (c₀:Nat) (hSI:S≠I) (hSl:S≠l)
  (hS:s.heap.get? S=some {cls:=.type "list",data:=.seq #[] c₀})
  (hR:∀h' tk acc' c',(∀b o,b≠S→b≠I→s.heap.get? b=some o→h'.get? b=some o)→h'.get? S=some {cls:=.type "list",dict:=none,data:=.seq acc' c',slots:=#[]}→ItemsOf (fun i v=>items[items.size-1-i]?=some v) acc' items.size→R (.ok (.ret res)) {s with heap:=h',toks:=tk}) :
  wpAny (model prog w) A.in1 (Builtin.List.listExtendWith (.ref S) (.ref I) res) (fun fin s'=>match fin with | .done f=>R (.ok f) s' | .again c'=>c'.quiet=true∧codeAny (model prog w) A c' R s') (fun e s'=>R (.error e) s') s:=by
 have W:=(Walks.listRev (prog:=prog) (w:=w) (A:=A.in1) hh I l hne items).toS
 have ty:=hit.typeIs
 have n1:Builtin.List.listSameRef (.ref S) (.ref I)=false:=by simp [Builtin.List.listSameRef,hSI]
 have n2:(Value.type "list_reverseiterator"==Value.type "list")=false:=by decide
 have n3:(Value.type "list_reverseiterator"==Value.type "tuple")=false:=by decide
 obtain ⟨hp,gs,dn,tk,os⟩:=s
 wp_walk using wpAny_pyIter_revIter hit,rP ty
 constructor
 ·exact plainId_quiet F.plain_extend_loop _
 have start:hp.IsRevIter I l ((items.size:Int)-1-((0:Nat):Int)):=by simpa using hit
 refine codeAny_extend_loopS W hsz S (by simp [hSI,hSl]) res items.size 0 _ #[] c₀ rfl (dM _) ⟨dM _,start,hl⟩ hS (ItemsOf.nil _) fun s' acc' c' moved at_ all=>?_
 rw [moved.eq_with]
 exact hR s'.heap s'.toks acc' c' (fun b o h1 h2 q=>moved.heap b o (by simp [h1,h2]) q) at_ all
end
section
variable {prog:Program} {w:World} {A:Around} {E:Value→Shared→Prop} {s:Shared}
theorem kE {I l:Addr} {items:Array Value} {Q:Value→Shared→Prop} (hh:A.handled=none) (hit:s.heap.IsRevIter I l ((items.size:Int)-1)) (hl:s.heap.IsList l items) (hne:l≠I) (hsz:items.size≤sizeLine)
  (hQ:∀h' tk acc' c',(∀b o,b≠I→s.heap.get? b=some o→h'.get? b=some o)→h'.get? s.heap.objs.size=some {cls:=.type "list",dict:=none,data:=.seq acc' c',slots:=#[]}→ItemsOf (fun i v=>items[items.size-1-i]?=some v) acc' items.size→Q (.ref s.heap.objs.size) {s with heap:=h',toks:=tk}) :
  wpAny (model prog w) A (call (.type "list") [.ref I]) Q E s:=by
 obtain ⟨hp,gs,dn,tk,os⟩:=s
 have iI:I<hp.objs.size:=let ⟨_,q,_⟩:=hit;aR q
 have il:l<hp.objs.size:=let ⟨_,q,_⟩:=hl;aR q
 obtain ⟨new,hn⟩:∃o:Obj,o={cls:=.type "list",data:=.seq #[]}:=⟨_,rfl⟩
 apply callType_codes (Q₁:=fun obj s₁=>(obj,s₁)=(.ref hp.objs.size,⟨hp.push new,gs,dn,tk,os⟩)) F.called_list (F.typeCall_list_1 _) F.entry_list_init (code_list_new _ (by rw [hn]))
 intro obj s₁ e
 cases e
 have at_:(hp.push new).get? hp.objs.size=some new:=aY _ (by rw [hn];rfl)
 subst hn
 refine ⟨⟨_,at_,rfl⟩,F.args_list_init_2 _ _,?_⟩
 have at2:=bC (Obj.mapSeq fun _=>(#[]:Array Value)) at_ rfl
 have old:∀b o,hp.get? b=some o→((hp.push {cls:=.type "list",data:=.seq #[]}).update hp.objs.size (Obj.mapSeq fun _=>(#[]:Array Value))).get? b=some o:=fun b o q=>aA _ (eL (aR q)) (au _ q)
 unfold Builtin.«list.__init__»
 have more:=oB (prog:=prog) (w:=w) (R:=wants (fun r s₂=>r=.none∧Q (.ref hp.objs.size) s₂) E) (A:=A.in1) (s:=⟨_,gs,dn,tk,os⟩) hh (hit.at fun o e=>old I o e) (hl.at fun o e=>old l o e) hne hsz _ .none _ (eL iI) (eL il) at2
  (fun h' tk acc' c' keep at3 all=>⟨rfl,hQ h' tk acc' c' (fun b o hb q=>keep b o (bj (aR q)) hb (old b o q)) at3 all⟩)
 repeat (first | exact more | with_reducible apply AutoSeq1.wpAny_loadPart' at_ | wp_step)
end
theorem tT {its:List Value} {acc:Array Value} (h:ItemsOf (fun i v=>its.toArray[its.toArray.size-1-i]?=some v) acc its.toArray.size):acc=its.reverse.toArray:=by
 obtain ⟨h1,h2⟩:=h
 apply Array.ext
 ·rw [h1];simp
 ·intro i hi hi2
  have:=h2 i acc[i] (Array.getElem?_eq_getElem hi)
  have hL:acc.size=its.length:=by rw [h1];simp
  simp only [aT,List.getElem?_toArray] at this
  have e:its.reverse[i]?=some acc[i]:=by
   rw [List.getElem?_reverse (by omega)]
   exact this
  have hi3:i<its.reverse.length:=by simpa using hi2
  rw [ak hi3] at e
  have e':=Option.some.inj e
  simpa using e'.symm
theorem Vals.rev {xs:List V} {us:List Value} (r:Vals xs us):Vals xs.reverse us.reverse:=by
 induction r with
 | nil=>exact .nil
 | cons h t ih=>rw [List.reverse_cons,List.reverse_cons];exact ih.append (.cons h .nil)
section
variable {X:Cx} {K:ai}
def Al (K:ai) (ta:TA):TE:=fun σ H Q=>ta σ H fun vs H1=>∃p xs,vs=[.ref p]∧SqL K H1 p xs∧∀l,H1 l=none→Q (.ref l) (upd H1 l (.lst xs.reverse))
theorem nS {e:Expr} {ta:TA} {p1 p2 pos1 pos2:Pos} (hK:X.K=K) (hc:X.calm=true) (hg:Gl X "list") (hm:X.mg "list"=none) (hg2:Gl X "reversed") (hm2:X.mg "reversed"=none) (ha:PA X [e] ta)
  (hs:starEach [.Call (.Name "reversed" p2) [e] [] pos2] X.env=[(false,eval (.Call (.Name "reversed" p2) [e] [] pos2) X.env)]:=by rfl) (hs2:starEach [e] X.env=[(false,eval e X.env)]:=by rfl) :
  PE X (.Call (.Name "list" p1) [.Call (.Name "reversed" p2) [e] [] pos2] [] pos1) (Al K ta):=by
 subst hK
 intro pins s σ H Q I h
 refine Call_ (gw I hg hm boot_list (bE ?_ hs rfl))
 rw [hs]
 refine Calls.spliced_cons ?_
 refine Call_ (gw I hg2 hm2 boot_reversed (bE (thn (ha pos2 pins s σ H _ I h) fun us s1 ⟨vs,H1,I1,r1,q1⟩=>?_) hs2 rfl))
 obtain ⟨p,xs,rfl,hq,q⟩:=q1
 obtain ⟨u,rfl,rx⟩:=vals1 r1
 cases rx
 obtain ⟨its,rv,pl,hz⟩:=I1.list hq
 have hlen:=rv.length
 have hl:=pl.isList
 have ltp:p<s1.heap.objs.size:=by obtain ⟨o,e,_⟩:=hl;exact aR e
 refine call_reversed_list hl (Calls.spliced_nil ?_)
 have I2:Inv X pins σ H1 {s1 with heap:=s1.heap.push (revObj p ((its.toArray.size:Int)-1))}:=I1.kept (t':=s1.toks) fun b o e=>au _ e
 refine kE (I.ok.hd hc) ⟨_,aY _ rfl,rfl,rfl⟩ (hl.push _) (bj ltp) (by simp only [aT];omega) fun h' tk acc' c' hk hS hacc=>?_
 have hacc':=tT hacc
 subst hacc'
 have sz:(s1.heap.push (revObj p ((its.toArray.size:Int)-1))).objs.size=s1.heap.objs.size+1:=cG ..
 have kp:∀b o,s1.heap.get? b=some o→h'.get? b=some o:=fun b o e=>hk b o (bj (aR e)) (au _ e)
 have fr:s1.heap.objs.size≤(s1.heap.push (revObj p ((its.toArray.size:Int)-1))).objs.size:=by rw [sz];exact gj _
 exact ⟨.ref _,_,I1.laid (t':=tk) kp fr (show fv X.prog X.w _ h' _ (.lst xs.reverse) from ⟨by rw [List.length_reverse];exact hz,its.reverse,c',Vals.rev rv,hS⟩),rfl,q _ (I1.hok.fresh fr)⟩
end
end L2
namespace L2
open PySem PySem.Spec PyProof.Rows
section
variable {X:Cx}
theorem iq:OpR X (binaryOp .Mult) (rI (fun i j=>i.natAbs<2^200∧j.natAbs<2^200) fun i j=>.int (i*j)):=opI fun i j _ _ _ _ _ hc q=>mul_int q (by
 have h1:=intBits_le hc.1
 have h2:=intBits_le hc.2
 unfold IntMulOk
 intro h
 rw [cK] at h
 have h3:((Builtin.Int.intBits i+Builtin.Int.intBits j:Nat):Int)>bitsLine:=of_decide_eq_true h.2
 have h4:(400:Int)≤bitsLine:=by decide
 omega)
end
end L2
namespace L2
open PySem PySem.Spec PyProof.Rows
open AutoSeq1 (wpAny_loadPart')
set_option maxRecDepth 100000
theorem mr (l:Addr) (items:Array Value) (n:Nat) (dct:Option Addr) (sl:Array (Option Value)):Meets (Builtin.«enumerate.__new__» ⟨[.type "enumerate",.ref l],[]⟩) (fun _ R s=>s.heap.get? l=some {cls:=.type "tuple",dict:=dct,data:=.seq items n,slots:=sl} ∧
   R (.ok (.ret (.ref (s.heap.push {cls:=.type "tuple_iterator",data:=.fields #[.ref l,.int 0 0]}).objs.size))) {s with heap:=(s.heap.push {cls:=.type "tuple_iterator",data:=.fields #[.ref l,.int 0 0]}).push {cls:=.type "enumerate",data:=.fields #[.none,.bool false,.ref s.heap.objs.size,rawInt 0,.none,.none]}}) :=
 .of_wp fun prog w A R s h=>by
  obtain ⟨at_,told⟩:=h
  obtain ⟨hp,gs,dn,tk,os⟩:=s
  have self:=sub_enumerate
  have seq:Heap.IsTuple (Shared.heap ⟨hp,gs,dn,tk,os⟩) l items:=⟨_,at_,rfl,n,rfl⟩
  wp_walk using AutoSeq1.wpAny_loadPart' at_
  apply wpAny_stack_any
  intro rows
  apply wpAny_pure
  split
  rename_i cl _ _ _ _ _
  rcases Bool.eq_false_or_eq_true (cl==Value.type "enumerate") with q | q<;>rw [q]
  all_goals wp_walk using AutoSeq1.wpAny_loadPart' at_,wpAny_pyIter_tuple seq
  all_goals exact ⟨_,rfl,told⟩
section
variable {prog:Program} {w:World} {A:Around} {E:Value→Shared→Prop} {s:Shared}
theorem oH {l:Addr} {items:Array Value} {Q:Value→Shared→Prop} (hL:s.heap.IsTuple l items)
  (h:∀h',IsEnum h' (s.heap.objs.size+1) s.heap.objs.size 0 .none→h'.IsTupleIter s.heap.objs.size l 0→(∀b o,s.heap.get? b=some o→h'.get? b=some o)→Q (.ref (s.heap.objs.size+1)) {s with heap:=h'}):wpAny (model prog w) A (call (.type "enumerate") [.ref l]) Q E s:=by
 obtain ⟨⟨cc,dct,dt,sl⟩,hl,hc,n,hd⟩:=hL
 replace hc:cc=.type "tuple":=hc;replace hd:dt=.seq items n:=hd;subst hc hd
 refine callType_new F.called_enumerate (by decide) (F.typeCall_enumerate_1 _) (F.newCall_enumerate_1 _) (fun obj=>F.args_object_init_2 obj _) F.entry_enumerate_new (mr l items n dct sl) ⟨hl,?_⟩
 have hz:(s.heap.push {cls:=.type "tuple_iterator",data:=.fields #[.ref l,.int 0 0]}).objs.size=s.heap.objs.size+1:=cG ..
 show _∧_
 rw [hz]
 have he:IsEnum ((s.heap.push {cls:=.type "tuple_iterator",data:=.fields #[.ref l,.int 0 0]}).push {cls:=.type "enumerate",data:=.fields #[.none,.bool false,.ref s.heap.objs.size,rawInt 0,.none,.none]}) (s.heap.objs.size+1) s.heap.objs.size 0 .none:=by
  have:=aY (s.heap.push {cls:=.type "tuple_iterator",data:=.fields #[.ref l,.int 0 0]}) (o:={cls:=.type "enumerate",data:=.fields #[.none,.bool false,.ref s.heap.objs.size,rawInt 0,.none,.none]}) rfl
  rw [hz] at this;exact this
 exact ⟨⟨_,he,rfl⟩,h _ he ⟨_,au _ (aY _ rfl),rfl,rfl⟩ fun b o x=>au _ (au _ x)⟩
theorem oI {b:Bool} {l:Addr} {items:Array Value} {Q:Value→Shared→Prop} (hL:SSq b s.heap l items)
  (h:∀h',IsEnum h' (s.heap.objs.size+1) s.heap.objs.size 0 .none→SIt b h' s.heap.objs.size l 0→(∀b o,s.heap.get? b=some o→h'.get? b=some o)→Q (.ref (s.heap.objs.size+1)) {s with heap:=h'}):wpAny (model prog w) A (call (.type "enumerate") [.ref l]) Q E s:=by
 cases b
 ·exact call_enumerate_list hL fun h' h1 h2 _ h3=>h h' h1 h2 h3
 ·exact oH hL fun h' h1 h2 h3=>h h' h1 h2 h3
end
def Ite (K:ai) (b:Bool) (a:Addr) (xs:List V):It :=
 ⟨fun i H=>SqB b K H a xs∧i<xs.length,fun i H x H'=>∃p,x=.ref p∧H p=none∧H'=upd H p (.tup [.int (i:Nat),xs.getD i .non]),fun i H=>SqB b K H a xs∧i=xs.length⟩
theorem oW {P:Program} {w:World} {K:ai} {elts:List Expr} {kx} {pos:Pos} (b:Bool) (a e it:Addr) (xs:List V) (ne:e≠it) :
  Turn P w K (.Tuple elts kx pos) (Ite K b a xs) [e,it] e (fun i h=>(∃old,IsEnum h e it (i:Nat) old)∧SIt b h it a i) where
 mem:=by simp
 obj:=fun i h st c hc=>by
  obtain ⟨⟨old,he⟩,h1⟩:=st
  simp only [bq,dA,or_false] at hc
  rcases hc with rfl | rfl
  ·exact ⟨_,he,fun v z=>by cases z⟩
  ·exact h1.obj
 keep:=fun i h h' st k=>by
  obtain ⟨⟨old,he⟩,h1⟩:=st
  exact ⟨⟨old,k e (by simp) _ he⟩,h1.keep fun o x=>k it (by simp) o x⟩
 item:=by
  intro X hP hw hK hc i pins s σ H E I hf st hg
  subst hP hw hK
  obtain ⟨⟨old,he⟩,h1⟩:=st
  obtain ⟨q1,hx⟩:=hg
  obtain ⟨its,r1,p1,z1⟩:=I.src q1
  have na:=I.fV q1 (hf it (by simp));have nb:=I.fV q1 (hf e (by simp));have len1:=r1.length
  have D:=fu (prog:=X.prog) (w:=X.w) (A:=X.A.in1) (I.ok.hd hc) b it a na its.toArray
  refine wpAny_pyNext_enum_itemD D he ⟨h1,p1⟩ (by simp;omega) ne (by simp [ne,nb.symm]) fun x h' tk hPx ho hs' hT hsz hk=>?_
  have r:Vals [V.int (i:Nat),xs.getD i .non] [Value.int (i:Nat) tk,x]:=.cons ⟨tk,rfl⟩ (.cons (h_ r1 hPx) .nil)
  have I1:Inv X pins σ (upd H s.heap.objs.size (.tup [.int (i:Nat),xs.getD i .non])) {s with heap:=h',toks:=tk+1} :=
   I.iL (t':=tk+1) hf (fun c o hc e'=>hk c o (fun q=>hc (by simp [q])) (fun q=>hc (by simp [q])) e') r (by show 2≤sizeLine;decide) ⟨_,hT,rfl,_,rfl⟩
  have nH:H s.heap.objs.size=none:=I.hok.fresh (aO _)
  have fresh:∀c∈[e,it],(upd H s.heap.objs.size (.tup [.int (i:Nat),xs.getD i .non])) c=none:=fun c hc=>by
   rw [bX ?_]
   ·exact (hf c hc).1
   ·simp only [bq,dA,or_false] at hc
    rcases hc with rfl | rfl
    ·exact bj (aR he)
    ·obtain ⟨o,e',_⟩:=h1.obj;exact bj (aR e')
  obtain ⟨f0,f1,f2,f3,f4,f5⟩:=hf e (by simp)
  refine ⟨_,rfl,wpAny_letOwnedTupleGo_enum ho fun h2 he2 sb=>⟨.ref s.heap.objs.size,_,I1.turned (t':=tk+1) (fun b o hb e'=>(sb.2 b hb).trans e') (fresh e (by simp)) f1 f3 f4 f5,rfl,⟨_,rfl,nH,rfl⟩,⟨⟨x,by simpa using he2⟩,?_⟩,fresh⟩⟩
  exact hs'.1.keep fun o e'=>(sb.2 it ne.symm).trans e'
 done:=by
  intro X hP hw hK hc i pins s σ H E I hf st hg
  subst hP hw hK
  obtain ⟨⟨old,he⟩,h1⟩:=st
  obtain ⟨q1,hx⟩:=hg
  obtain ⟨its,r1,p1,z1⟩:=I.src q1
  have na:=I.fV q1 (hf it (by simp));have len1:=r1.length
  have D:=fu (prog:=X.prog) (w:=X.w) (A:=X.A.in1) (I.ok.hd hc) b it a na its.toArray
  have hs:SIt b s.heap it a its.toArray.size:=by rw [aT,←len1,←hx];exact h1
  refine wpAny_pyNext_enum_endD D he ⟨hs,p1⟩ fun h' eb=>⟨rfl,I.jj (t':=s.toks) hf fun c o hc e'=>eb c o (fun q=>hc (by simp [q])) e'⟩
 self:=fun A i s Q E st h=>by obtain ⟨⟨old,he⟩,_⟩:=st;exact wpAny_pyIter_enum he h
theorem rO {K:ai} {b:Bool} {a:Addr} {xs:List V}:ItP (Ite K b a xs) xs.length (fun i=>[.int (i:Nat),xs.getD i .non]) (fun H=>SqB b K H a xs) where
 go:=fun i H c hi=>⟨c,hi⟩
 yld:=fun i H x H' c hi y=>y
 stop:=fun H c=>⟨c,rfl⟩
def zy (K:ai) (ta:TA):TI:=fun σ H R=>ta σ H fun vs H1=>∃(b:Bool) (a:Addr) (xs:List V),vs=[.ref a]∧SqB b K H1 a xs∧∀J C,ItP J xs.length (fun i=>[.int (i:Nat),xs.getD i .non]) C→(∀H2,SqB b K H2 a xs→C H2)→R J H1
theorem lZ {X:Cx} {K:ai} {elts:List Expr} {kx:Nat} {tpos:Pos} {a:Expr} {ta:TA} {p pos:Pos} (hK:X.K=K) (hg:Gl X "enumerate") (hm:X.mg "enumerate"=none) (ha:PA X [a] ta) (hs:starEach [a] X.env=[(false,eval a X.env)]:=by rfl) :
  PI X (.Tuple elts kx tpos) (.Call (.Name "enumerate" p) [a] [] pos) (zy K ta):=by
 subst hK
 intro pins s σ H R I h
 refine Call_ (gw I hg hm boot_enumerate (bE (thn (ha pos pins s σ H _ I h) fun us s1 ⟨vs,H1,I1,r1,q1⟩=>?_) hs rfl))
 obtain ⟨b,a1,xs,e,q1,q⟩:=q1
 subst e
 obtain ⟨u,rfl,rx⟩:=vals1 r1
 cases rx
 obtain ⟨its,rv1,p1,z1⟩:=I1.src q1
 refine oI p1 fun h' he h1 hk=>wpAny_pyIter_enum he ?_
 have I2:Inv X pins σ H1 {s1 with heap:=h'}:=I1.kept (t':=s1.toks) hk
 refine ⟨_,[s1.heap.objs.size+1,s1.heap.objs.size],_,_,H1,rfl,I2,oW b a1 _ _ xs (eL (bY _)),⟨⟨_,he⟩,h1⟩,fun c hc=>?_,q _ _ rO fun H2 k1=>k1⟩
 have:s1.heap.objs.size≤c:=by
  simp only [bq,dA,or_false] at hc
  rcases hc with rfl | rfl<;>first | exact Nat.le_add_right _ _ | exact aO _
 exact I1.u_ this (I1.hok.fresh this)
end L2
namespace L2
open PySem PySem.Spec PyProof.Rows
def jP (H:Hp) (v:V):Prop:=∃r o xs,v=.ref r∧H r=some (.frz o (.tup xs))∧o.dict=none
theorem jP.same {H H':Hp} {v:V} (S:bx H H') (h:jP H v):jP H' v:=by
 obtain ⟨r,o,xs,e,h1,h2⟩:=h
 exact ⟨r,o,xs,e,S _ _ h1,h2⟩
section
variable {X:Cx} {K:ai}
def xo (t:TA):TE:=fun σ H Q=>t σ H fun xs H1=>xs.length≤sizeLine∧∀p o,H1 p=none→o.dict=none→Q (.ref p) (upd H1 p (.frz o (.tup xs)))
theorem kg {es:List Expr} {t:TA} {x1} {pos:Pos} (h:PA X es t):PE X (.Tuple es x1 pos) (xo t):=by
 intro pins s σ H Q I hq
 refine wpAny_Tuple_spliced (thn (h pos pins s σ H _ I hq) fun us s1 ⟨xs,H1,I1,r,z,q⟩=>⟨by rw [←r.length];exact z,?_⟩)
 have hf:H1 s1.heap.objs.size=none:=I1.hok.fresh (aO _)
 refine ⟨.ref s1.heap.objs.size,upd H1 s1.heap.objs.size (.frz {cls:=.type "tuple",data:=.seq us.toArray} (.tup xs)),I1.laid (t':=s1.toks) (fun b u e=>au _ e) (aO _) ?_,rfl,q _ _ hf rfl⟩
 exact ⟨aY _ rfl,z,us,r,⟨_,aY _ rfl,rfl,_,rfl⟩⟩
def xx (K:ai) (to:TE) (t:TA):TE:=fun σ H Q=>to σ H fun x H1=>jP H1 x∧t σ H1 fun vs H2=>∃p xs y,x=.ref p∧vs=[y]∧SqT K H2 p xs∧iE y=true∧xs.all iE=true∧Q (.int (xs.countP fun z=>eqV z y:Nat)) H2
theorem uf {o e:Expr} {to:TE} {t:TA} {apos cpos:Pos} (hK:X.K=K) (ho:PE X o to) (ha:PA X [e] t) (hbase:attributeBase o "count" X.env (eval o X.env)=eval o X.env:=by rfl)
  (hfew:((backTo cpos (starEach [e] X.env)).all (fun x=>!x.1)&&(backToKw cpos (keywordEach [] X.env)).all (fun x=>x.1.isSome)&&decide ([e].length+([]:List Keyword).length+(if ([]:List Keyword).isEmpty then 0 else 1)<30))=true:=by rfl)
  (hline:(apos.endLine==cpos.line)=true:=by rfl) (hs:starEach [e] X.env=(false,eval e X.env)::starEach [] X.env:=by rfl) (hplain:(backTo cpos (starEach [] X.env)).any (·.1)=false:=by rfl) :
  PE X (.Call (.Attribute o "count" apos) [e] [] cpos) (xx K to t):=by
 subst hK
 intro pins s σ H Q I h
 refine wpAny_Call_method_late hbase hfew hline rfl (thn (ho pins s σ H _ I h) fun v s1 ⟨x,H1,I1,r1,ty,q1⟩=>?_)
 obtain ⟨r,ob,xs0,rfl,hr,hd⟩:=ty
 cases r1
 obtain ⟨g1,_,its0,_,⟨ob',e1,c1,_⟩⟩:=I1.hok r _ hr
 refine ⟨"tuple","tuple.count",PySem.F.plainAttrs_tuple,PySem.F.slot_tuple_count,PySem.F.type_tuple_count,⟨ob',e1,c1⟩,fun a ea=>⟨ob,by cases ea;exact g1,hd⟩,?_⟩
 have hA:=ha cpos pins s1 σ H1 _ I1 q1
 rw [hs] at hA ⊢
 refine Calls.callWith_builtin (by show (false||(backTo cpos (starEach [] X.env)).any (·.1))=false;rw [hplain]<;>rfl) (Calls.evalArgs_plain ?_)
 refine thn hA fun us s2 ⟨vs,H2,I2,r2,q2⟩=>?_
 obtain ⟨p,xs,y,ep,rfl,hq,fy,fs,q⟩:=q2
 cases ep
 obtain ⟨u,rfl,ry⟩:=r2.one
 obtain ⟨its,rr,⟨o2,e2,c2,n,d2⟩,hz⟩:=I2.tuple hq
 obtain ⟨oc,od,odt,osl⟩:=o2
 dsimp only at c2 d2
 subst c2 d2
 refine call_meets PySem.F.slot_tuple_count ⟨_,e2,rfl⟩ PySem.F.entry_tuple_count (PySem.F.args_tuple_count_2 _ _) (SeqAt.tuple_countAt r its.toArray n _ _ u (eqU y)) ⟨e2,fun w hw=>gO ry fy rr fs w (by simpa using hw),?_⟩
 exact ⟨.int _,H2,I2.tok _,⟨_,rfl⟩,by rw [show its.toArray.toList=its from rfl,jH rr fs];exact q⟩
end
end L2
namespace L2
open PySem PySem.Spec PyProof.Rows
section
variable {prog:Program} {w:World} {A:Around} {E:Value→Shared→Prop} {s:Shared}
end
section
variable {X:Cx} {K:ai}
theorem tR {lo:Int} {n:Nat} {acc:Array Value} (h:ItemsOf (fun i v=>∃t,v=.int (lo+i*1) t) acc n):Vals (((bF n).map fun i=>lo+((i:Nat):Int)).map V.int) acc.toList:=by
 obtain ⟨h1,h2⟩:=h
 have key:∀(us:List Value) (k m:Nat),us.length=m→(∀(j:Nat) v,us[j]?=some v→∃t,v=.int (lo+((k+j:Nat):Int)) t)→Vals (((List.range' k m).map fun i=>lo+((i:Nat):Int)).map V.int) us:=by
  intro us
  induction us with
  | nil=>intro k m hm _;cases hm;exact .nil
  | cons u us ih =>
   intro k m hm hv
   cases m with
   | zero=>cases hm
   | succ m =>
    rw [List.range'_succ,bf,bf]
    refine .cons ?_ (ih (k+1) m (by simpa using hm) fun j v e=>?_)
    ·obtain ⟨t,e⟩:=hv 0 u rfl
     exact ⟨t,by rw [e,Nat.add_zero]⟩
    ·obtain ⟨t,e'⟩:=hv (j+1) v (by simpa using e)
     exact ⟨t,by rw [e',show k+(j+1)=k+1+j by omega]⟩
 rw [List.range_eq_range']
 refine key acc.toList 0 n (by simpa using h1) fun j v e=>?_
 obtain ⟨t,e'⟩:=h2 j v (by simpa using e)
 exact ⟨t,by rw [e',Int.mul_one,Nat.zero_add]⟩
theorem iY {pins:List (Addr×Obj)} {σ:St} {H:Hp} {s:Shared} {E:Value→Shared→Prop} {lo hi:Int} {t u v:Tok} {tk:Nat} {Q:VK} (hh:X.A.handled=none) (I:Inv X pins σ H s) (h1:-(2^62)≤lo) (h2:lo<2^62) (h3:-(2^62)≤hi) (h4:hi<2^62) (hn:(hi-lo).toNat≤1000)
  (q:∀l,H l=none→Q (.ref l) (upd H l (.lst (((bF (hi-lo).toNat).map fun i=>lo+((i:Nat):Int)).map V.int)))) :
  wpAny (model X.prog X.w) X.A (call (.type "list") [.ref s.heap.objs.size]) (EP X pins σ Q) E {s with heap:=s.heap.push {cls:=.type "range",data:=.fields #[.int lo t,.int hi u,.int 1 v]},toks:=tk}:=by
 refine call_list_range (n:=(hi-lo).toNat) hh (IsRange.new ..) (small_one h1 h2 h3 h4) (by rw [rangeSize_one];split<;>omega) (cx hn (by decide)) fun h' tk' acc' c' hk hS hacc=>?_
 have fr:s.heap.objs.size≤(s.heap.push {cls:=.type "range",data:=.fields #[.int lo t,.int hi u,.int 1 v]}).objs.size:=by rw [cG];exact gj _
 have ea:acc'=acc'.toList.toArray:=rfl
 refine ⟨.ref _,_,I.laid (t':=tk') (fun b o e=>hk b o (au _ e)) fr (show fv X.prog X.w _ h' _ (.lst _) from ⟨?_,acc'.toList,c',tR hacc,hS⟩),rfl,q _ (I.hok.fresh fr)⟩
 rw [ae,ae,cu];exact aM (aE hn)
def Ar (ta:TA):TE:=fun σ H Q=>ta σ H fun vs H1=>∃j:Int,vs=[.int j]∧-(2^62)≤j∧j≤1000∧∀l,H1 l=none→Q (.ref l) (upd H1 l (.lst (((bF j.toNat).map fun i=>0+((i:Nat):Int)).map V.int)))
def Aq (ta:TA):TE:=fun σ H Q=>ta σ H fun vs H1=>∃i j:Int,vs=[.int i,.int j]∧0≤i∧i≤1000∧-(2^62)≤j∧j≤1000∧∀l,H1 l=none→Q (.ref l) (upd H1 l (.lst (((bF (j-i).toNat).map fun k=>i+((k:Nat):Int)).map V.int)))
theorem gN {e:Expr} {ta:TA} {p1 p2 pos1 pos2:Pos} (hc:X.calm=true) (hg:Gl X "list") (hm:X.mg "list"=none) (hg2:Gl X "range") (hm2:X.mg "range"=none) (ha:PA X [e] ta)
  (hs:starEach [.Call (.Name "range" p2) [e] [] pos2] X.env=[(false,eval (.Call (.Name "range" p2) [e] [] pos2) X.env)]:=by rfl) (hs2:starEach [e] X.env=[(false,eval e X.env)]:=by rfl) :
  PE X (.Call (.Name "list" p1) [.Call (.Name "range" p2) [e] [] pos2] [] pos1) (Ar ta):=by
 intro pins s σ H Q I h
 refine Call_ (gw I hg hm boot_list (bE ?_ hs rfl))
 rw [hs]
 refine Calls.spliced_cons ?_
 refine Call_ (gw I hg2 hm2 boot_range (bE (thn (ha pos2 pins s σ H _ I h) fun us s1 ⟨vs,H1,I1,r1,q1⟩=>?_) hs2 rfl))
 obtain ⟨j,rfl,b1,b2,q⟩:=q1
 obtain ⟨u,rfl,t,rfl⟩:=vals1 r1
 refine call_range_1 (Calls.spliced_nil ?_)
 exact iY (I.ok.hd hc) I1 (by decide) (by decide) b1 (by omega) (by omega) fun l nl=>by rw [Int.sub_zero];exact q l nl
theorem kh {e e':Expr} {ta:TA} {p1 p2 pos1 pos2:Pos} (hc:X.calm=true) (hg:Gl X "list") (hm:X.mg "list"=none) (hg2:Gl X "range") (hm2:X.mg "range"=none) (ha:PA X [e,e'] ta)
  (hs:starEach [.Call (.Name "range" p2) [e,e'] [] pos2] X.env=[(false,eval (.Call (.Name "range" p2) [e,e'] [] pos2) X.env)]:=by rfl) (hs2:starEach [e,e'] X.env=[(false,eval e X.env),(false,eval e' X.env)]:=by rfl) (hs3:starEach [e'] X.env=[(false,eval e' X.env)]:=by rfl) :
  PE X (.Call (.Name "list" p1) [.Call (.Name "range" p2) [e,e'] [] pos2] [] pos1) (Aq ta):=by
 intro pins s σ H Q I h
 refine Call_ (gw I hg hm boot_list (bE ?_ hs rfl))
 rw [hs]
 refine Calls.spliced_cons ?_
 refine Call_ (gw I hg2 hm2 boot_range (bE (thn (ha pos2 pins s σ H _ I h) fun us s1 ⟨vs,H1,I1,r1,q1⟩=>?_) (by rw [hs2,hs3]) (by rw [hs3];rfl)))
 obtain ⟨i,j,rfl,b1,b2,b3,b4,q⟩:=q1
 obtain ⟨u,u',rfl,⟨t,rfl⟩,⟨t',rfl⟩⟩:=vals2 r1
 refine call_range_2 (Calls.spliced_nil ?_)
 exact iY (I.ok.hd hc) I1 (by omega) (by omega) b3 (by omega) (by omega) fun l nl=>q l nl
end
theorem mF {xs:List V} {p:Int} (h0:0≤p) (h1:p<(xs.length:Int)):rX xs none (some p)=xs.take p.toNat:=by
 have e:HT.sIx xs.length xs.length (some p)=p.toNat:=by
  show (if p<0 then (p+(xs.length:Int)).toNat else min p.toNat xs.length)=_
  rw [if_neg (by omega)];omega
 unfold rX
 rw [e,HT.mS,List.drop_zero,Nat.sub_zero]
theorem iF {xs:List V} {p:Int} (h0:0≤p) (h1:p<(xs.length:Int)):rX xs (some (p+1)) none=xs.drop (p.toNat+1):=by
 have e:HT.sIx xs.length 0 (some (p+1))=p.toNat+1:=by
  show (if p+1<0 then (p+1+(xs.length:Int)).toNat else min (p+1).toNat xs.length)=_
  rw [if_neg (by omega)];omega
 unfold rX
 rw [e,HT.mS,bh (by rw [cm];exact aO _)]
end L2
namespace L2
open PySem PySem.Spec PyProof.Rows
section
variable {X:Cx} {tg:Expr}
end
end L2
namespace L2
open PySem PySem.Spec PyProof.Rows
section
variable {κ:Type} [DecidableEq κ]
def nP (kvs:List (κ×V)) (k:κ):Option V:=(kvs.find? fun kv=>decide (kv.1=k)).map (·.2)
def putK (kvs:List (κ×V)) (k:κ) (v:V):List (κ×V) :=
 if (kvs.any fun kv=>decide (kv.1=k))=true then kvs.map (fun kv=>if kv.1=k then (kv.1,v) else kv) else kvs++[(k,v)]
theorem ja {p:κ×V} {r:List (κ×V)} {k:κ} (e:p.1=k):nP (p::r) k=some p.2:=by simp [nP,fc,e]
theorem jb {p:κ×V} {r:List (κ×V)} {k:κ} (e:¬p.1=k):nP (p::r) k=nP r k:=by simp [nP,fc,e]
theorem j_ (k:κ):∀kvs:List (κ×V),(kvs.any fun kv=>decide (kv.1=k))=(nP kvs k).isSome
 | []=>rfl
 | p::r=>by
  rw [eP]
  by_cases e:p.1=k
  ·simp only [ja e,decide_eq_true e,Bool.true_or,Option.isSome_some]
  ·rw [jb e,decide_eq_false e,Bool.false_or];exact j_ k r
theorem ir (kvs:List (κ×V)) (k:κ) (v:V):(putK kvs k v).length≤kvs.length+1:=by
 unfold putK
 split
 ·rw [ae];omega
 ·rw [aw,bB,List.length_nil];omega
theorem mV {kvs:List (κ×V)} {k:κ} (v:V) (h:nP kvs k=none):putK kvs k v=kvs++[(k,v)]:=by
 unfold putK
 rw [j_,h]
 exact if_neg (by decide)
theorem mM.jy {o:Option V} {u:Option Value} (r:mM o u):o.isSome=u.isSome:=by
 cases o with
 | none=>cases u with
  | none=>rfl
  | some _=>exact (show False from r).elim
 | some _=>cases u with
  | none=>exact (show False from r).elim
  | some _=>rfl
theorem mM.getD {o:Option V} {u:Option Value} {d:V} {d':Value} (r:mM o u) (rd:RelV d d'):RelV (o.getD d) (u.getD d'):=by
 cases o with
 | none=>cases u with
  | none=>exact rd
  | some _=>exact (show False from r).elim
 | some _=>cases u with
  | none=>exact (show False from r).elim
  | some _=>exact r
theorem KV.val {kvs:List (κ×V)} {vs:List (κ×Value)} (r:KV kvs vs) (k:κ):mM (nP kvs k) (valueAt vs k):=by
 unfold KV at r
 induction r with
 | nil=>exact True.intro
 | @cons p q ps qs h t ih =>
  obtain ⟨h1,h2⟩:=h
  by_cases e:p.1=k
  ·have e':q.1=k:=h1.symm.trans e
   have b:valueAt (q::qs) k=some q.2:=by simp [valueAt,fc,e']
   rw [ja e,b];exact h2
  ·have e':¬q.1=k:=fun z=>e (h1.trans z)
   have b:valueAt (q::qs) k=valueAt qs k:=by simp [valueAt,fc,e']
   rw [jb e,b];exact ih
theorem KV.any {kvs:List (κ×V)} {vs:List (κ×Value)} (r:KV kvs vs) (k:κ):(kvs.any fun kv=>decide (kv.1=k))=vs.any fun kv=>decide (kv.1=k):=by
 unfold KV at r
 induction r with
 | nil=>rfl
 | cons h t ih=>rw [eP,eP,ih,h.1]
theorem KV.yp {kvs:List (κ×V)} {vs:List (κ×Value)} (r:KV kvs vs) (k:κ) {y:V} {u:Value} (ry:RelV y u) :
  KV (kvs.map fun kv=>if kv.1=k then (kv.1,y) else kv) (vs.map fun kv=>if kv.1=k then (kv.1,u) else kv):=by
 unfold KV at r ⊢
 induction r with
 | nil=>exact .nil
 | @cons p q ps qs h t ih =>
  rw [bf,bf]
  refine .cons ?_ ih
  obtain ⟨h1,h2⟩:=h
  by_cases e:p.1=k
  ·rw [if_pos e,if_pos (h1.symm.trans e)];exact ⟨h1,ry⟩
  ·rw [if_neg e,if_neg (fun z=>e (h1.trans z))];exact ⟨h1,h2⟩
theorem KV.put {kvs:List (κ×V)} {vs:List (κ×Value)} (r:KV kvs vs) (k:κ) {y:V} {u:Value} (ry:RelV y u):KV (putK kvs k y) (stored vs k u):=by
 unfold putK stored
 rw [r.any k]
 by_cases e:(vs.any fun kv=>decide (kv.1=k))=true
 ·rw [if_pos e,if_pos e];exact r.yp k ry
 ·rw [if_neg e,if_neg e];exact Paired.snoc r ⟨rfl,ry⟩
theorem KV.length {kvs:List (κ×V)} {vs:List (κ×Value)} (r:KV kvs vs):kvs.length=vs.length:=Paired.length r
end
theorem om {P:Program} {w:World} {k:Key} {u:Value} (r:RelV (kV k) u):(e_ P w).is k u=true:=by
 cases k with
 | inl i=>obtain ⟨t,e⟩:=(show ∃t,u=Value.int i t from r);subst e;exact mq P w i t
 | inr x=>obtain ⟨t,e⟩:=(show ∃t,u=Value.str x t from r);subst e;exact mn P w x t
theorem lu {P:Program} {w:World}:∀{ks:List Key} {us:List Value},Vals (ks.map kV) us→ItemsAre (e_ P w) ks us
 | [],_,r=>by rw [fT] at r;cases r;exact .nil
 | k::ks,_,r=>by
  rw [bf] at r
  cases r with
  | cons h t=>exact .cons (om h) (lu t)
abbrev KT (H:Hp):List (List Key×V)→List (List Key×Addr×Value)→Prop:=Paired fun p q=>p.1=q.1∧H q.2.1=some (.tup (p.1.map kV))∧RelV p.2 q.2.2
theorem KT.val {H:Hp} {kvs:List (List Key×V)} {xs:List (List Key×Addr×Value)} (r:KT H kvs xs) (k:List Key):mM (nP kvs k) ((atKey xs k).map (·.2)):=by
 induction r with
 | nil=>exact True.intro
 | @cons p q ps qs h t ih =>
  obtain ⟨h1,_,h2⟩:=h
  by_cases e:p.1=k
  ·have e':q.1=k:=h1.symm.trans e
   have b:atKey (q::qs) k=some q.2:=by simp [atKey,fc,e']
   rw [ja e,b];exact h2
  ·have e':¬q.1=k:=fun z=>e (h1.trans z)
   have b:atKey (q::qs) k=atKey qs k:=by simp [atKey,fc,e']
   rw [jb e,b];exact ih
theorem KT.yp {H:Hp} {kvs:List (List Key×V)} {xs:List (List Key×Addr×Value)} (r:KT H kvs xs) (k:List Key) {y:V} {u:Value} (ry:RelV y u) :
  KT H (kvs.map fun kv=>if kv.1=k then (kv.1,y) else kv) (xs.map (putAt k u)):=by
 induction r with
 | nil=>exact .nil
 | @cons p q ps qs h t ih =>
  rw [bf,bf]
  refine .cons ?_ ih
  obtain ⟨h1,h2,h3⟩:=h
  unfold putAt
  by_cases e:p.1=k
  ·rw [if_pos e,if_pos (h1.symm.trans e)];exact ⟨h1,h2,ry⟩
  ·rw [if_neg e,if_neg (fun z=>e (h1.trans z))];exact ⟨h1,h2,h3⟩
theorem KT.put {H:Hp} {kvs:List (List Key×V)} {xs:List (List Key×Addr×Value)} (r:KT H kvs xs) (k:List Key) {b:Addr} {y:V} {u:Value} (hb:H b=some (.tup (k.map kV))) (ry:RelV y u) :
  KT H (putK kvs k y) (storedH xs k b u):=by
 have e:(kvs.any fun kv=>decide (kv.1=k))=(atKey xs k).isSome:=by
  rw [j_,(r.val k).jy,Option.isSome_map]
 unfold putK storedH
 rw [e]
 by_cases q:(atKey xs k).isSome=true
 ·rw [if_pos q,if_pos q];exact r.yp k ry
 ·rw [if_neg q,if_neg q];exact Paired.snoc r ⟨rfl,hb,ry⟩
theorem KT.keeps {H H':Hp} {kvs:List (List Key×V)} {xs:List (List Key×Addr×Value)} (r:KT H kvs xs) (ht:∀b ys,H b=some (.tup ys)→H' b=some (.tup ys)):KT H' kvs xs :=
 Paired.oM r fun _ _ z=>⟨z.1,ht _ _ z.2.1,z.2.2⟩
section
variable {P:Program} {w:World} {H:Hp} {h:Heap} {a:Addr}
theorem vF {u:HO} (ok:HOk P w H h) (e:Rd H a u):fv P w H h a u:=e.ok ok
theorem oF {kvs:List (Key×V)} (ok:HOk P w H h) (e:Rd H a (.dK kvs)):kvs.length≤sizeLine∧(a==sysModules)=false∧∃vs,KV kvs vs∧h.DictOf (e_ P w) a vs :=
 show fv P w H h a (.dK kvs) from vF ok e
theorem wz {kvs:List (Key×V)} (ok:HOk P w H h) (e:H a=some (.dK kvs)):kvs.length≤sizeLine∧(a==sysModules)=false∧∃vs,KV kvs vs∧h.DictOf (e_ P w) a vs:=oF ok (.inl e)
theorem k_ {ks:List Key} (ok:HOk P w H h) (e:H a=some (.tup (ks.map kV))):(tupleKind (e_ P w)).is h ks a:=by
 obtain ⟨_,its,r,o,h1,h2,n,h3⟩:=(show fv P w H h a (.tup (ks.map kV)) from ok a _ e)
 exact ⟨o,its.toArray,n,h1,h2,h3,by simpa using lu r⟩
theorem oE {kvs:List (List Key×V)} (ok:HOk P w H h) (e:Rd H a (.dT kvs)):kvs.length≤sizeLine∧(a==sysModules)=false ∧
  ∃xs,KT H kvs xs∧h.DictOfH (tupleKind (e_ P w)) a xs:=by
 obtain ⟨z,y,xs,r,o,es,ep,h1,h2,h3,h4,h5⟩:=(show fv P w H h a (.dT kvs) from vF ok e)
 refine ⟨z,y,xs,r,o,es,ep,h1,h2,h3,h4,fun x hx=>?_,h5⟩
 have all:∀{l:List (List Key×V)} {m:List (List Key×Addr×Value)},KT H l m→∀x∈m,(tupleKind (e_ P w)).is h x.1 x.2.1:=by
  intro l m q
  induction q with
  | nil=>intro x hx;exact nomatch hx
  | @cons p q ps qs hq t ih =>
   intro x hx
   rcases bq.mp hx with e | hx
   ·subst e
    exact k_ ok (by rw [←hq.1];exact hq.2.1)
   ·exact ih x hx
 exact all r x hx
theorem zC {kvs:List (List Key×V)} (ok:HOk P w H h) (e:H a=some (.dT kvs)):kvs.length≤sizeLine∧(a==sysModules)=false ∧
  ∃xs,KT H kvs xs∧h.DictOfH (tupleKind (e_ P w)) a xs:=oE ok (.inl e)
end
def jZ (H:Hp) (a:Addr) (y:V) (r:Option V):Prop :=
 (∃kvs k,Rd H a (.dK kvs)∧y=kV k∧r=nP kvs k)∨∃kvs k b,Rd H a (.dT kvs)∧y=.ref b∧H b=some (.tup (k.map kV))∧r=nP kvs k
def vf (H:Hp) (a:Addr) (y v:V) (H':Hp):Prop :=
 (∃kvs k,H a=some (.dK kvs)∧y=kV k∧kvs.length<sizeLine∧H'=upd H a (.dK (putK kvs k v))) ∨
 ∃kvs k b,H a=some (.dT kvs)∧y=.ref b∧H b=some (.tup (k.map kV))∧kvs.length<sizeLine∧H'=upd H a (.dT (putK kvs k v))
theorem jZ.k {H:Hp} {a:Addr} {kvs:List (Key×V)} {k:Key} (e:H a=some (.dK kvs)):jZ H a (kV k) (nP kvs k):=.inl ⟨kvs,k,.inl e,rfl,rfl⟩
theorem vf.k {H:Hp} {a:Addr} {kvs:List (Key×V)} {k:Key} {v:V} (e:H a=some (.dK kvs)) (hl:kvs.length<sizeLine):vf H a (kV k) v (upd H a (.dK (putK kvs k v))):=.inl ⟨kvs,k,e,rfl,hl,rfl⟩
section
variable {X:Cx} {pins:List (Addr×Obj)} {σ:St} {H:Hp} {s:Shared} {a:Addr} {y v:V} {u r:Value} {o:Option V} {A:Around} {E:Value→Shared→Prop}
theorem Inv.big (I:Inv X pins σ H s):sysModules<s.heap.objs.size:=by
 have h:mainGlobals<s.heap.objs.size:=(I.mod.glob.keeps I.bk).lt
 exact Nat.lt_trans (by decide) h
theorem qJ {Q:Value→Shared→Prop} (hu:A.units+1<cLine) (I:Inv X pins σ H s) (g:jZ H a y (some v)) (ry:RelV y u) (h:∀w' s',Inv X pins σ H s'→RelV v w'→Q w' s') :
  wpAny (model X.prog X.w) A (getItem (.ref a) u) Q E s:=by
 rcases g with ⟨kvs,k,e,ey,l⟩ | ⟨kvs,k,b,e,ey,eb,l⟩
 ·subst ey
  obtain ⟨z,hd,vs,rel,dd⟩:=oF I.hok e
  obtain ⟨w',hw,rw'⟩:=mM.some_of (v:=v) (o:=valueAt vs k) (by rw [l];exact rel.val k)
  exact wpAny_getItem_of (om ry) dd.mapOf hw (h w' _ (I.tok _) rw')
 ·subst ey
  cases (show u=Value.ref b from ry)
  obtain ⟨z,hd,xs,rel,dd⟩:=oE I.hok e
  obtain ⟨w',hw,rw'⟩:=mM.some_of (v:=v) (o:=(atKey xs k).map (·.2)) (by rw [l];exact rel.val k)
  obtain ⟨p,hp,hp2⟩:=Option.map_eq_some_iff.mp hw
  refine wpAny_getItem_heap (tupleKind_room_in1 hu) (k_ I.hok eb) dd hp ?_
  rw [hp2]
  exact h w' _ (I.tok _) rw'
theorem uH {Q:Value→Shared→Prop} (hu:A.units+1<cLine) (I:Inv X pins σ H s) (g:jZ H a y o) (ry:RelV y u) (h:∀s',Inv X pins σ H s'→Q (.bool (!o.isSome)) s') :
  wpAny (model X.prog X.w) A (compareOp .NotIn u (.ref a)) Q E s:=by
 rcases g with ⟨kvs,k,e,ey,l⟩ | ⟨kvs,k,b,e,ey,eb,l⟩
 ·subst ey
  obtain ⟨z,hd,vs,rel,dd⟩:=oF I.hok e
  refine wpAny_notIn_of (om ry) hd dd.mapOf ?_
  rw [←(rel.val k).jy,←l]
  exact h _ (I.tok _)
 ·subst ey
  cases (show u=Value.ref b from ry)
  obtain ⟨z,hd,xs,rel,dd⟩:=oE I.hok e
  refine wpAny_notIn_heap (tupleKind_room_in1 hu) (k_ I.hok eb) hd dd ?_
  have q:=(rel.val k).jy
  rw [Option.isSome_map] at q
  rw [←q,←l]
  exact h _ (I.tok _)
theorem mE {h':Heap} {t':Nat} {ob:HO} (I:Inv X pins σ H s) (mu:Mut (H a)) (hs:fU a s.heap h') (he:∃q,h'.get? a=some q) (new:fv X.prog X.w (upd H a ob) h' a ob) :
  Inv X pins σ (upd H a ob) {s with heap:=h',toks:=t'} :=
 I.write (x:=a) (e:=a) mu (.inl rfl) (fun b q hb z=>(hs.2 b hb).trans z) he new
theorem tf {P:Program} {w:World} {H':Hp} {h':Heap} {kvs:List (Key×V)} {vs:List (Key×Value)} (z:kvs.length≤sizeLine) (hd:(a==sysModules)=false) (rel:KV kvs vs) (dd:h'.DictOf (e_ P w) a vs) :
  fv P w H' h' a (.dK kvs):=⟨z,hd,vs,rel,dd⟩
theorem qI {H':Hp} {Q:Unit→Shared→Prop} (hu:A.units+1<cLine) (I:Inv X pins σ H s) (g:vf H a y v H') (ry:RelV y u) (rv:RelV v r) (h:∀s',Inv X pins σ H' s'→Q () s') :
  wpAny (model X.prog X.w) A (setItem (.ref a) u r) Q E s:=by
 rcases g with ⟨kvs,k,e,ey,l,eH⟩ | ⟨kvs,k,b,e,ey,eb,l,eH⟩
 ·subst ey eH
  obtain ⟨z,hd,vs,rel,dd⟩:=wz I.hok e
  have hz:vs.length≤sizeLine:=by rw [←rel.length];exact z
  have hl:(putK kvs k v).length≤sizeLine:=by have:=ir kvs k v;omega
  refine wpAny_setItem_pairs (hsz:=hz) (om ry) dd fun h' dd' hs=>h _ ?_
  have he:∃q,h'.get? a=some q:=let ⟨q,_,_,hq,_⟩:=dd';⟨q,hq⟩
  exact mE I (by rw [e];exact True.intro) hs he (tf hl hd (rel.put k rv) dd')
 ·subst ey eH
  cases (show u=Value.ref b from ry)
  obtain ⟨z,hd,xs,rel,dd⟩:=zC I.hok e
  have hz:xs.length≤sizeLine:=by rw [←Paired.length rel];exact z
  have hl:(putK kvs k v).length≤sizeLine:=by have:=ir kvs k v;omega
  refine wpAny_setItem_heap (hsz:=hz) (tupleKind_room_in1 hu) (k_ I.hok eb) dd fun h' dd' hs=>h _ ?_
  obtain ⟨q,es,ep,hq,h2,h3,h4,_,h5⟩:=dd'
  refine mE I (by rw [e];exact True.intro) hs ⟨q,hq⟩ ⟨hl,hd,_,(rel.put k eb rv).keeps fun c ys ec=>?_,q,es,ep,hq,h2,h3,h4,h5⟩
  rw [bX (ic ec e (fun z=>nomatch z))]
  exact ec
end
section
variable {X:Cx} {pins:List (Addr×Obj)} {σ:St} {H:Hp} {s:Shared} {a:Addr} {kvs:List (Key×V)} {k:Key} {u:Value} {A:Around} {E:Value→Shared→Prop}
end
def Ac (i:Expr):Prop:=∀ov iv,subscripted i false ov iv=operate [ov,iv] (getItem ov iv)
theorem tF {prog:Program} {w:World} {A:Around} {E:Value→Shared→Prop} {s:Shared} {env:Env} {value slice:Expr} {pos:Pos} {T id:String} {Q:Value→Shared→Prop}
  (hl:typeLookup (.type T) "__getitem__"=pure (some (.builtin id))) (hs:Ac slice)
  (h:wpAny (model prog w) A (eval value env) (fun o s₁=>wpAny (model prog w) A (eval slice env) (fun i s₂=>s₂.TypeIs o T∧wpAny (model prog w) A (getItem o i) Q E s₂) E s₁) E s) :
  wpAny (model prog w) A (eval (.Subscript value slice pos) env) Q E s:=by
 refine Subscript_ (wpAny_mono h (fun o s₁ h₁=>wpAny_mono h₁ (fun i s₂ h₂=>?_) fun _ _ x=>x) fun _ _ x=>x)
 obtain ⟨hT,h₂⟩:=h₂
 unfold subscriptTail
 refine wpAny_bind ?_
 rw [getitemInPython_of_ne hT.not_modules]
 refine wpAny_bind (wpAny_specialOf hT hl ?_)
 have fin:wpAny (model prog w) A (subscripted slice false o i) (fun r s₃=>wpAny (model prog w) A (letTemporaryGo value o r >>= fun _=>pure r) Q E s₃) E s₂:=by
  rw [hs o i]
  exact wpAny_operating (wpAny_mono h₂ (fun r s₃ h₃=>wpAny_bind (wpAny_letTemporaryGo (wpAny_pure h₃))) fun _ _ x=>x)
 first
  | exact wpAny_pure (wpAny_bind fin)
  | exact wpAny_bind (wpAny_pure (wpAny_bind fin))
  | exact wpAny_bind fin
theorem mD {X:Cx} {pins:List (Addr×Obj)} {σ:St} {H:Hp} {s:Shared} {a:Addr} {y:V} {o:Option V} (I:Inv X pins σ H s) (g:jZ H a y o):s.TypeIs (.ref a) "dict":=by
 rcases g with ⟨kvs,k,e,_,_⟩ | ⟨kvs,k,b,e,_,_,_⟩
 ·obtain ⟨_,_,vs,_,dd⟩:=oF I.hok e
  exact dd.typeIs
 ·obtain ⟨_,_,xs,_,dd⟩:=oE I.hok e
  exact dd.typeIs
def xv (td ty:TE):TE:=fun σ H Q=>td σ H fun x H1=>ty σ H1 fun y H2=>∃a v,x=.ref a∧jZ H2 a y (some v)∧Q v H2
def tE (ty td:TE):TE:=fun σ H Q=>ty σ H fun y H1=>td σ H1 fun x H2=>∃a o,x=.ref a∧jZ H2 a y o∧Q (.bl (!o.isSome)) H2
def yn (td ty tv:TE):TS:=fun D σ H=>tv σ H fun v H1=>td σ H1 fun x H2=>ty σ H2 fun y H3=>∃a H4,x=.ref a∧vf H3 a y v H4∧D.nx σ H4
section
variable {X:Cx} {o i e value:Expr} {pos pos' tpos:Pos} {td ty tv:TE}
theorem ki (hu:X.A.units+1<cLine) (ho:PE X o td) (hi:PE X i ty) (hs:Ac i):PE X (.Subscript o i pos) (xv td ty):=by
 intro pins s σ H Q I h
 refine tF PySem.F.slot_dict_getitem.lookup hs (thn (ho pins s σ H _ I h) fun u s1 ⟨x,H1,I1,rx,q1⟩=>thn (hi pins s1 σ H1 _ I1 q1) fun iv s2 ⟨y,H2,I2,ry,a,v,ex,g,q2⟩=>?_)
 subst ex
 obtain rfl:u=Value.ref a:=rx
 exact ⟨mD I2 g,qJ hu I2 g ry fun w' s3 I3 rw'=>⟨v,H2,I3,rw',q2⟩⟩
theorem gZ (hu:X.A.units+1<cLine) (hi:PE X i ty) (ho:PE X o td):PC X .NotIn i o (tE ty td):=by
 intro pins s σ H Q I h
 refine thn (hi pins s σ H _ I h) fun iv s1 ⟨y,H1,I1,ry,q1⟩=>thn (ho pins s1 σ H1 _ I1 q1) fun u s2 ⟨x,H2,I2,rx,a,ov,ex,g,q2⟩=>?_
 subst ex
 obtain rfl:u=Value.ref a:=rx
 exact uH hu I2 g ry fun s3 I3=>⟨.bl (!ov.isSome),H2,I3,rfl,q2⟩
theorem pj (hu:X.A.units+1<cLine) (ho:PE X o td) (hi:PE X i ty) (hv:PE X value tv) (hs:swapsWith value (some (.Subscript o i pos')) pos.line X.env=pure false) :
  PS X (.Assign [.Subscript o i pos'] value pos) (yn td ty tv):=by
 intro pins s σ H D I h
 refine wpAny_Assign_Subscript (thn (hv pins s σ H _ I h) fun r s1 ⟨v,H1,I1,rv,q1⟩=>thn (ho pins s1 σ H1 _ I1 q1) fun u s2 ⟨x,H2,I2,rx,q2⟩=>thn (hi pins s2 σ H2 _ I2 q2) fun iv s3 ⟨y,H3,I3,ry,a,H4,ex,g,q3⟩=>?_) hs
 subst ex
 obtain rfl:u=Value.ref a:=rx
 exact qI hu I3 g ry rv fun s4 I4=>⟨σ,H4,I4,q3⟩
end
theorem rW {P:Program} {w:World} {H:Hp} (h:Heap) (hb:sysModules<h.objs.size):fv P w H (h.push {cls:=.type "dict",data:=.dict #[]}) h.objs.size (.dK []) :=
 ⟨dM _,beq_eq_false_iff_ne.mpr (Ne.symm (bj hb)),[],.nil,Heap.DictOf.new h⟩
section
variable {X:Cx} {pos:Pos}
end
def oZ:List (TE×TE)→St→Hp→(List (V×V)→Hp→Prop)→Prop
 | [],_,H,Q=>Q [] H
 | (tk,tv)::r,σ,H,Q=>tk σ H fun x H1=>tv σ H1 fun y H2=>oZ r σ H2 fun ps H3=>Q ((x,y)::ps) H3
abbrev VV:List (V×V)→List (Value×Value)→Prop:=Paired fun p q=>RelV p.1 q.1∧RelV p.2 q.2
def PPs (X:Cx) (pos:Pos) (keys:List (Option Expr)) (values:List Expr) (trs:List (TE×TE)):Prop :=
 ∀(pins:List (Addr×Obj)) (s:Shared) (σ:St) (H:Hp) (Q:List (V×V)→Hp→Prop),Inv X pins σ H s→oZ trs σ H Q →
  wpAny (model X.prog X.w) X.A (evalPairs (pairTrees keys values X.env pos)) (fun vs s'=>∃ps H',Inv X pins σ H' s'∧VV ps vs∧Q ps H') X.xe s
theorem pA {X:Cx} {pos:Pos}:PPs X pos [] [] []:=fun pins s σ H Q I h=>pairTrees_nil_walk ⟨[],H,I,.nil,h⟩
theorem mW {X:Cx} {pos:Pos} {k v:Expr} {ks:List (Option Expr)} {vs:List Expr} {tk tv:TE} {trs:List (TE×TE)} (hk:PE X k tk) (hv:PE X v tv) (hr:PPs X pos ks vs trs) :
  PPs X pos (some k::ks) (v::vs) ((tk,tv)::trs):=fun pins s σ H Q I h =>
 pairTrees_cons_walk (thn (hk pins s σ H _ I h) fun u s1 ⟨x,H1,I1,rx,q1⟩=>thn (hv pins s1 σ H1 _ I1 q1) fun w2 s2 ⟨y,H2,I2,ry,q2⟩ =>
  thn (hr pins s2 σ H2 _ I2 q2) fun ws s3 ⟨ps,H3,I3,rel,q3⟩=>⟨(x,y)::ps,H3,I3,.cons ⟨rx,ry⟩ rel,q3⟩)
def gG (kvs more:List (Key×V)):List (Key×V):=more.foldl (fun acc kv=>putK acc kv.1 kv.2) kvs
theorem KV.merge:∀{more:List (Key×V)} {rs:List (Key×Value)} {kvs:List (Key×V)} {vs:List (Key×Value)},KV more rs→KV kvs vs→KV (gG kvs more) (merged vs rs):=by
 intro more rs kvs vs r
 unfold KV at r
 induction r generalizing kvs vs with
 | nil=>intro q;exact q
 | @cons p q ps qs h t ih =>
  intro r0
  have e:KV (putK kvs p.1 p.2) (stored vs q.1 q.2):=by
   have:=r0.put p.1 h.2
   rw [←h.1];exact this
  exact ih e
theorem iC:∀(more kvs:List (Key×V)),(gG kvs more).length≤kvs.length+more.length
 | [],kvs=>by show kvs.length≤kvs.length+0;omega
 | p::r,kvs=>by
  have h1:=iC r (putK kvs p.1 p.2)
  have h2:=ir kvs p.1 p.2
  show (gG (putK kvs p.1 p.2) r).length≤_
  rw [bB];omega
theorem jY {P:Program} {w:World}:∀{kvs:List (Key×V)} {ws:List (Value×Value)},VV (kvs.map fun kv=>(kV kv.1,kv.2)) ws→∃rs,Carries (e_ P w) ws rs∧KV kvs rs
 | [],_,r=>by rw [fT] at r;cases r;exact ⟨[],True.intro,.nil⟩
 | p::kvs,_,r=>by
  rw [bf] at r
  cases r with
  | @cons a b as bs h t =>
   obtain ⟨rs,c,q⟩:=jY (P:=P) (w:=w) t
   obtain ⟨b1,b2⟩:=b
   exact ⟨(p.1,b2)::rs,⟨om h.1,rfl,c⟩,.cons ⟨rfl,h.2⟩ q⟩
def xu (trs:List (TE×TE)):TE:=fun σ H Q=>∀p,H p=none→oZ trs σ (upd H p (.dK [])) fun ps H2=>H2 p=some (.dK [])∧∃kvs:List (Key×V),ps=kvs.map (fun kv=>(kV kv.1,kv.2))∧kvs.length≤15∧Q (.ref p) (upd H2 p (.dK (gG [] kvs)))
theorem pH {X:Cx} {pos:Pos} {keys:List (Option Expr)} {values:List Expr} {trs:List (TE×TE)} (h:PPs X pos keys values trs) (hall:keys.all (·.isSome)=true) (hl:keys.length=values.length) (h0:keys≠[])
  (h15:keys.length≤15):PE X (.Dict keys values pos) (xu trs):=by
 intro pins s σ H Q I q
 have hn:=I.hok.fresh (aO s.heap.objs.size)
 have I1:=I.laid (a:=s.heap.objs.size) (o:=.dK []) (h':=s.heap.push {cls:=.type "dict",data:=.dict #[]}) (t':=s.toks) (fun _ _ q=>au _ q) (aO _) (rW s.heap I.big)
 refine wpAny_Dict_walk (knd:=e_ X.prog X.w) hall hl h0 h15 (thn (h pins _ σ _ _ I1 (q _ hn)) fun ws s2 ⟨ps,H2,I2,rel,e,kvs,ep,lk,q2⟩=>?_)
 subst ep
 obtain ⟨rs,c,rk⟩:=jY (P:=X.prog) (w:=X.w) rel
 obtain ⟨z,hd,vs0,r0,dd⟩:=wz I2.hok e
 cases r0
 refine ⟨rs,c,dd,fun h' dd' hs=>⟨.ref s.heap.objs.size,_,?_,rfl,q2⟩⟩
 have hz:(gG [] kvs).length≤sizeLine:=by
  have h1:=iC kvs []
  rw [List.length_nil] at h1
  rw [sizeLine_eq];omega
 have he:∃q,h'.get? s.heap.objs.size=some q:=let ⟨q,_,_,hq,_⟩:=dd';⟨q,hq⟩
 exact mE I2 (by rw [e];exact True.intro) hs he (tf hz hd (rk.merge .nil) dd')
structure M1 (X:Cx) (o:Expr) (m:Str) (apos:Pos) (e:Expr) (cpos:Pos):Prop where
 base:attributeBase o m X.env (eval o X.env)=eval o X.env
 few:((backTo cpos (starEach [e] X.env)).all (fun x=>!x.1)&&(backToKw cpos (keywordEach [] X.env)).all (fun x=>x.1.isSome)
  && decide (([e]:List Expr).length+([]:List Keyword).length+(if ([]:List Keyword).isEmpty then 0 else 1)<30))=true
 line:(apos.endLine==cpos.line)=true
 trees:backTo cpos (starEach [e] X.env)=[(false,eval e X.env)]
def IsD (H:Hp) (a:Addr):Prop:=(∃kvs,Rd H a (.dK kvs))∨∃kvs,Rd H a (.dT kvs)
theorem wb {X:Cx} {pins:List (Addr×Obj)} {σ:St} {H:Hp} {s:Shared} {a:Addr} (I:Inv X pins σ H s) (d:IsD H a) :
  s.TypeIs (.ref a) "dict"∧(∀b,Value.ref a=.ref b→∃ob,s.heap.get? b=some ob∧ob.dict=none)∧(a==sysModules)=false:=by
 rcases d with ⟨kvs,e⟩ | ⟨kvs,e⟩
 ·obtain ⟨_,hd,vs,_,dd⟩:=oF I.hok e
  refine ⟨dd.typeIs,fun b q=>?_,hd⟩
  cases q
  obtain ⟨ob,_,_,h1,h2,_⟩:=dd
  exact ⟨ob,h1,h2.2.1⟩
 ·obtain ⟨_,hd,xs,_,dd⟩:=oE I.hok e
  refine ⟨dd.typeIs,fun b q=>?_,hd⟩
  cases q
  obtain ⟨ob,_,_,h1,h2,_⟩:=dd
  exact ⟨ob,h1,h2.2.1⟩
section
variable {X:Cx} {pins:List (Addr×Obj)} {σ:St} {H:Hp} {s:Shared} {a:Addr} {y d:V} {u r:Value} {o:Option V} {A:Around} {E:Value→Shared→Prop}
theorem wA {Q:Value→Shared→Prop} (hu:A.units+1<cLine) (I:Inv X pins σ H s) (g:jZ H a y o) (ry:RelV y u) (h:∀w' s',Inv X pins σ H s'→RelV (o.getD .non) w'→Q w' s') :
  wpAny (model X.prog X.w) A (call (.builtin "dict.get") [.ref a,u]) Q E s:=by
 rcases g with ⟨kvs,k,e,ey,l⟩ | ⟨kvs,k,b,e,ey,eb,l⟩
 ·subst ey
  obtain ⟨z,hd,vs,rel,dd⟩:=oF I.hok e
  refine call_meetsIn PySem.F.slot_dict_get dd.typeIs PySem.F.entry_dict_get (PySem.F.args_dict_get_2 _ _) (meets_dict_get (e_ X.prog X.w) a (om ry) hd) ⟨_,dd.mapOf,h _ _ (I.tok _) ?_⟩
  rw [l]
  exact (rel.val k).getD rfl
 ·subst ey
  cases (show u=Value.ref b from ry)
  obtain ⟨z,hd,xs,rel,dd⟩:=oE I.hok e
  refine call_meetsIn PySem.F.slot_dict_get dd.typeIs PySem.F.entry_dict_get (PySem.F.args_dict_get_2 _ _) (meetsH_dict_get (tupleKind (e_ X.prog X.w)) a b hd) ⟨tupleKind_room_in1 hu,k,xs,k_ I.hok eb,dd,h _ _ (I.tok _) ?_⟩
  rw [l]
  exact (rel.val k).getD rfl
end
def vt (td ty:TE):TE:=fun σ H Q=>td σ H fun x H1=>∃a,x=.ref a∧IsD H1 a∧ty σ H1 fun y H2=>∃o,jZ H2 a y o∧Q (o.getD .non) H2
section
variable {X:Cx} {o e f:Expr} {apos cpos:Pos} {td ty tx:TE}
theorem rA (hu:X.A.units+1<cLine) (ho:PE X o td) (he:PE X e ty) (m:M1 X o "get" apos e cpos):PE X (.Call (.Attribute o "get" apos) [e] [] cpos) (vt td ty):=by
 intro pins s σ H Q I h
 refine wpAny_Call_method m.base m.few m.line PySem.F.plainAttrs_dict PySem.F.slot_dict_get PySem.F.type_dict_get (thn (ho pins s σ H _ I h) fun u s1 ⟨x,H1,I1,rx,a,ex,d,q1⟩=>?_)
 subst ex
 obtain rfl:u=Value.ref a:=rx
 obtain ⟨t1,t2,_⟩:=wb I1 d
 refine ⟨t1,t2,?_⟩
 rw [m.trees]
 refine Calls.callWith_builtin rfl (Calls.evalArgs_plain (Calls.spliced_cons (thn (he pins s1 σ H1 _ I1 q1) fun iv s2 ⟨y,H2,I2,ry,ov,g,q2⟩=>Calls.spliced_nil ?_)))
 exact wA hu I2 g ry fun w' s3 I3 rw'=>⟨_,H2,I3,rw',q2⟩
end
section
variable {X:Cx} {pins:List (Addr×Obj)} {σ:St} {H:Hp} {s:Shared} {a:Addr} {kvs:List (Key×V)} {A:Around} {E:Value→Shared→Prop}
end
section
variable {X:Cx} {pins:List (Addr×Obj)} {σ:St} {H:Hp} {s:Shared} {a:Addr} {y:V} {u:Value} {A:Around} {E:Value→Shared→Prop}
end
end L2
namespace L2
open PySem PySem.Spec PyProof.Rows
section
variable {κ:Type} [DecidableEq κ]
end
end L2
namespace L2
open PySem PySem.Spec PyProof.Rows
section
variable {X:Cx} {pins:List (Addr×Obj)} {σ:St} {H:Hp} {s:Shared} {a:Addr} {kvs:List (Key×V)} {k:Key} {u r:Value} {z:V} {A:Around} {E:Value→Shared→Prop}
end
section
variable {X:Cx} {o e f:Expr} {apos cpos p1 pos1:Pos} {td ty tx:TE}
end
end L2
namespace L2
inductive Cn (es:List (Int×Int)):Int→Int→Prop
 | refl (a:Int):Cn es a a
 | fwd {a:Int} {e:Int×Int}:Cn es a e.1→e∈es→Cn es a e.2
 | bwd {a:Int} {e:Int×Int}:Cn es a e.2→e∈es→Cn es a e.1
theorem Cn.trans {es:List (Int×Int)} {a b c:Int} (h:Cn es a b) (h2:Cn es b c):Cn es a c:=by
 induction h2 with
 | refl=>exact h
 | fwd _ he ih=>exact .fwd ih he
 | bwd _ he ih=>exact .bwd ih he
theorem Cn.tie {es:List (Int×Int)} {e:Int×Int} (h:e∈es):Cn es e.1 e.2:=.fwd (.refl _) h
theorem Cn.eit {es:List (Int×Int)} {e:Int×Int} (h:e∈es):Cn es e.2 e.1:=.bwd (.refl _) h
theorem Cn.symm {es:List (Int×Int)} {a b:Int} (h:Cn es a b):Cn es b a:=by
 induction h with
 | refl=>exact .refl _
 | fwd _ he ih=>exact (Cn.eit he).trans ih
 | bwd _ he ih=>exact (Cn.tie he).trans ih
theorem Cn.map {es es':List (Int×Int)} {g:Int→Int} (hg:∀e∈es,Cn es' (g e.1) (g e.2)) {a b:Int} (h:Cn es a b):Cn es' (g a) (g b):=by
 induction h with
 | refl=>exact .refl _
 | fwd _ he ih=>exact ih.trans (hg _ he)
 | bwd _ he ih=>exact ih.trans (hg _ he).symm
theorem Cn.mono {es es':List (Int×Int)} (hs:∀e∈es,e∈es') {a b:Int} (h:Cn es a b):Cn es' a b:=Cn.map (g:=id) (fun e he=>Cn.tie (hs e he)) h
structure Lab (n:Int) (es:List (Int×Int)) (f:Int→Int):Prop where
 conn:∀p,0≤p→p<n→Cn es p (f p)
 same:∀e∈es,f e.1=f e.2
 low:∀p,0≤p→p<n→0≤f p∧f p≤p
theorem sV {es:List (Int×Int)} {f:Int→Int} (h:∀e∈es,f e.1=f e.2) {a b:Int} (c:Cn es a b):f a=f b:=by
 induction c with
 | refl=>rfl
 | fwd _ he ih=>rw [ih,h _ he]
 | bwd _ he ih=>rw [ih,←h _ he]
theorem Lab.iff {n:Int} {es:List (Int×Int)} {f:Int→Int} (F:Lab n es f) {p q:Int} (p0:0≤p) (p1:p<n) (q0:0≤q) (q1:q<n):f p=f q↔Cn es p q :=
 ⟨fun e=>(F.conn p p0 p1).trans (by rw [e];exact (F.conn q q0 q1).symm),fun c=>sV F.same c⟩
theorem Lab.nil (n:Int):Lab n [] (fun p=>p):=⟨fun p _ _=>.refl p,fun e he=>(nomatch he),fun p h _=>⟨h,fN _⟩⟩
theorem Lab.congr {n:Int} {es:List (Int×Int)} {f g:Int→Int} (F:Lab n es f) (hE:∀e∈es,0≤e.1∧e.1<n∧0≤e.2∧e.2<n) (h:∀p,0≤p→p<n→f p=g p):Lab n es g :=
 ⟨fun p p0 p1=>by rw [←h p p0 p1];exact F.conn p p0 p1,fun e he=>by
  have:=hE e he
  rw [←h _ this.1 this.2.1,←h _ this.2.2.1 this.2.2.2];exact F.same e he,fun p p0 p1=>by rw [←h p p0 p1];exact F.low p p0 p1⟩
def mrg (f:Int→Int) (e:Int×Int) (p:Int):Int:=if f p=max (f e.1) (f e.2) then min (f e.1) (f e.2) else f p
theorem Lab.merge {n:Int} {es:List (Int×Int)} {f:Int→Int} {e:Int×Int} (F:Lab n es f) (b:0≤e.1∧e.1<n∧0≤e.2∧e.2<n):Lab n (es++[e]) (mrg f e):=by
 have l1:=F.low e.1 b.1 b.2.1
 have l2:=F.low e.2 b.2.2.1 b.2.2.2
 have up:∀{x y:Int},Cn es x y→Cn (es++[e]) x y:=fun c=>c.mono fun a ha=>aK _ ha
 have me:e∈es++[e]:=aG _ (ao.mpr rfl)
 have c1:Cn (es++[e]) (f e.1) (f e.2):=(up (F.conn e.1 b.1 b.2.1)).symm.trans ((Cn.tie me).trans (up (F.conn e.2 b.2.2.1 b.2.2.2)))
 refine ⟨fun p p0 p1=>?_,fun a ha=>?_,fun p p0 p1=>?_⟩
 ·have cp:=up (F.conn p p0 p1)
  unfold mrg
  by_cases h:f p=max (f e.1) (f e.2)
  ·rw [if_pos h]
   rw [h] at cp
   by_cases g:f e.1≤f e.2
   ·rw [Int.max_eq_right g] at cp;rw [Int.min_eq_left g];exact cp.trans c1.symm
   ·rw [Int.max_eq_left (by omega)] at cp;rw [Int.min_eq_right (by omega)];exact cp.trans c1
  ·rw [if_neg h];exact cp
 ·rcases aF.mp ha with y | y
  ·unfold mrg;rw [F.same a y]
  ·have ea:a=e:=ao.mp y
   subst ea
   unfold mrg
   have h1:f a.1≤f a.2∨f a.2<f a.1:=by omega
   rcases h1 with g | g
   ·rw [Int.max_eq_right g,Int.min_eq_left g,if_pos rfl];split<;>omega
   ·rw [Int.max_eq_left (by omega),Int.min_eq_right (by omega),if_pos rfl];split<;>omega
 ·have:=F.low p p0 p1
  unfold mrg
  by_cases h:f p=max (f e.1) (f e.2)
  ·rw [if_pos h];omega
  ·rw [if_neg h];exact this
def grp (n:Nat) (f:Int→Int) (r:Int):List Int:=((bF n).filter fun (p:Nat)=>decide (f (p:Int)=r)).map fun (p:Nat)=>(p:Int)
theorem km {n:Nat} {f:Int→Int} {r p:Int}:p∈grp n f r↔0≤p∧p<n∧f p=r:=by
 unfold grp
 rw [b_]
 constructor
 ·rintro ⟨m,hm,rfl⟩
  rw [bJ,cj,decide_eq_true_eq] at hm
  exact ⟨by omega,by omega,hm.2⟩
 ·rintro ⟨h0,h1,h2⟩
  refine ⟨p.toNat,?_,by omega⟩
  rw [bJ,cj,decide_eq_true_eq]
  have e:((p.toNat:Nat):Int)=p:=by omega
  rw [e];exact ⟨by omega,h2⟩
end L2
namespace L2
open PySem
theorem kY {α:Type} [DecidableEq α]:∀{l l':List α},l.Nodup→(∀a∈l,a∈l')→l.length≤l'.length
 | [],_,_,_=>dM _
 | a::l,l',h,s=>by
  rw [dJ] at h
  have ha:=s a aU
  have:=kY (l:=l) (l':=l'.erase a) h.2 fun b hb=>(List.mem_erase_of_ne (fun (z:b=a)=>h.1 (z▸hb))).mpr (s b (aW _ hb))
  rw [List.length_erase_of_mem ha] at this
  have:0<l'.length:=List.length_pos_of_mem ha
  rw [bB];omega
theorem eZ {rs:List Int} {m:Int} (h:rs.Nodup) (b:∀p∈rs,0≤p∧p<m):rs.length≤m.toNat:=by
 have:=kY (l':=(bF m.toNat).map fun (i:Nat)=>(i:Int)) h fun p hp=>by
  have:=b p hp
  exact b_.mpr ⟨p.toNat,cj.mpr (by omega),by omega⟩
 rwa [ae,cu] at this
theorem fI {α:Type} {l:List α} {a:α} (h:l.Nodup) (n:¬a∈l):(l++[a]).Nodup:=by
 rw [List.nodup_append]
 refine ⟨h,by simp,fun x hx y hy e=>?_⟩
 rw [ao.mp hy] at e
 exact n (e▸hx)
def atP (p:Int) (e:Int×Int):Bool:=e.1==p||e.2==p
theorem sZ (p a b:Int):inV (.int p) [.int a,.int b]=atP p (a,b):=by
 have:=gy p [a,b]
 rw [show [V.int a,V.int b]=[a,b].map V.int from rfl,this]
 simp [atP]
theorem g_ {p:Int} {e:Int×Int}:atP p e=true↔e.1=p∨e.2=p:=by
 unfold atP
 rw [Bool.or_eq_true,beq_iff_eq,beq_iff_eq]
def far (e:Int×Int) (p:Int):Int:=if e.1=p then e.2 else e.1
def aX (es:List (Int×Int)) (t:Int):Int×Int:=es.getD t.toNat (0,0)
def sub (es:List (Int×Int)) (ss:List Int):List (Int×Int):=ss.map (aX es)
theorem uE (e:Int×Int) {p:Int} (hp:e.1=p∨e.2=p):e.1=far e p∨e.2=far e p:=by
 unfold far
 by_cases c:e.1=p
 ·rw [if_pos c];exact .inr rfl
 ·rw [if_neg c];exact .inl rfl
inductive Way (es:List (Int×Int)) (ss:List Int) (a:Int):List Int→List Int→Int→Prop
 | nil:Way es ss a [] [] a
 | snoc {ts ps:List Int} {p t:Int}:Way es ss a ts ps p→t∈ss→0≤t→t<(es.length:Int)→((aX es t).1=p∨(aX es t).2=p)→¬far (aX es t) p∈ps++[p]→Way es ss a (ts++[t]) (ps++[p]) (far (aX es t) p)
theorem Way.nd {es:List (Int×Int)} {ss ts ps:List Int} {a p:Int} (h:Way es ss a ts ps p):(ps++[p]).Nodup:=by
 induction h with
 | nil=>simp
 | snoc _ _ _ _ _ hn ih=>exact fI ih hn
theorem Way.len {es:List (Int×Int)} {ss ts ps:List Int} {a p:Int} (h:Way es ss a ts ps p):ts.length=ps.length:=by
 induction h with
 | nil=>rfl
 | snoc _ _ _ _ _ _ ih=>rw [aw,aw,ih];rfl
theorem Way.ends {es:List (Int×Int)} {ss ts ps:List Int} {a p:Int} (h:Way es ss a ts ps p):∀t∈ts,(aX es t).1∈ps++[p]∧(aX es t).2∈ps++[p]:=by
 induction h with
 | nil=>exact fun t ht=>nomatch ht
 | @snoc ts ps p t _ _ _ _ hp _ ih =>
  intro t' ht'
  rcases aF.mp ht' with y | y
  ·exact ⟨aK _ (ih t' y).1,aK _ (ih t' y).2⟩
  ·rw [ao.mp y]
   have mp:p∈(ps++[p])++[far (aX es t) p]:=aK _ (aG _ (ao.mpr rfl))
   have mf:far (aX es t) p∈(ps++[p])++[far (aX es t) p]:=aG _ (ao.mpr rfl)
   by_cases c:(aX es t).1=p
   ·have e2:far (aX es t) p=(aX es t).2:=if_pos c
    rw [c];exact ⟨mp,by rw [←e2];exact mf⟩
   ·have e1:far (aX es t) p=(aX es t).1:=if_neg c
    have e2:(aX es t).2=p:=hp.resolve_left c
    rw [e2];exact ⟨by rw [←e1];exact mf,mp⟩
theorem Way.fresh {es:List (Int×Int)} {ss ts ps:List Int} {a p t:Int} (h:Way es ss a ts ps p) (hp:(aX es t).1=p∨(aX es t).2=p) (hn:¬far (aX es t) p∈ps++[p]):¬t∈ts:=fun ht=>by
 have:=h.ends t ht
 rcases uE (aX es t) hp with y | y
 ·exact hn (y▸this.1)
 ·exact hn (y▸this.2)
theorem Way.tnd {es:List (Int×Int)} {ss ts ps:List Int} {a p:Int} (h:Way es ss a ts ps p):ts.Nodup:=by
 induction h with
 | nil=>simp
 | snoc h _ _ _ hp hn ih=>exact fI ih (h.fresh hp hn)
theorem Way.sub {es:List (Int×Int)} {ss ts ps:List Int} {a p:Int} (h:Way es ss a ts ps p):∀t∈ts,t∈ss∧0≤t∧t<(es.length:Int):=by
 induction h with
 | nil=>exact fun t ht=>nomatch ht
 | snoc _ h1 h2 h3 _ _ ih =>
  intro t' ht'
  rcases aF.mp ht' with y | y
  ·exact ih t' y
  ·rw [ao.mp y];exact ⟨h1,h2,h3⟩
theorem fg (ad:Int→Addr) (k:Int):∀R:List Int,nP (R.map fun r=>((Sum.inl r:Key),V.ref (ad r))) (Sum.inl k)=if k∈R then some (V.ref (ad k)) else none
 | []=>rfl
 | r::R=>by
  rw [bf]
  by_cases e:r=k
  ·subst e
   rw [ja rfl,if_pos aU]
  ·rw [jb (fun z=>e (Sum.inl.inj z)),fg ad k R]
   by_cases h:k∈R
   ·rw [if_pos h,if_pos (aW _ h)]
   ·rw [if_neg h,if_neg (fun z=>(bq.mp z).elim (fun y=>e y.symm) h)]
theorem qM {es:List (Int×Int)} {R:List Int} {a b:Int} (ha:a∈R) (hc:∀e∈es,∀p∈R,(e.1=p∨e.2=p)→far e p∈R) (h:Cn es a b):b∈R:=by
 induction h with
 | refl=>exact ha
 | fwd _ he ih=>have:=hc _ he _ ih (.inl rfl);rwa [show far _ _=_ from if_pos rfl] at this
 | @bwd e _ he ih =>
  have:=hc _ he _ ih (.inr rfl)
  unfold far at this
  by_cases c:e.1=e.2
  ·rw [if_pos c] at this;rw [c];exact this
  ·rwa [if_neg c] at this
end L2
namespace L2
structure Nam (n:Int) (es:List (Int×Int)) (f:Int→Int):Prop where
 conn:∀p,0≤p→p<n→Cn es p (f p)
 same:∀e∈es,f e.1=f e.2
 rng:∀p,0≤p→p<n→0≤f p∧f p<n
theorem Nam.iff {n:Int} {es:List (Int×Int)} {f:Int→Int} (F:Nam n es f) {p q:Int} (p0:0≤p) (p1:p<n) (q0:0≤q) (q1:q<n):f p=f q↔Cn es p q :=
 ⟨fun e=>(F.conn p p0 p1).trans (by rw [e];exact (F.conn q q0 q1).symm),fun c=>sV F.same c⟩
theorem Nam.nil (n:Int):Nam n [] (fun p=>p):=⟨fun p _ _=>.refl p,fun e he=>(nomatch he),fun p h h'=>⟨h,h'⟩⟩
theorem Nam.congr {n:Int} {es:List (Int×Int)} {f g:Int→Int} (F:Nam n es f) (hE:∀e∈es,0≤e.1∧e.1<n∧0≤e.2∧e.2<n) (h:∀p,0≤p→p<n→f p=g p):Nam n es g :=
 ⟨fun p p0 p1=>by rw [←h p p0 p1];exact F.conn p p0 p1,fun e he=>by
  have:=hE e he
  rw [←h _ this.1 this.2.1,←h _ this.2.2.1 this.2.2.2];exact F.same e he,fun p p0 p1=>by rw [←h p p0 p1];exact F.rng p p0 p1⟩
theorem Nam.put {n:Int} {es:List (Int×Int)} {f:Int→Int} {e:Int×Int} (F:Nam n es f) (b:0≤e.1∧e.1<n∧0≤e.2∧e.2<n):Nam n (es++[e]) (fun p=>if f p=f e.2 then f e.1 else f p):=by
 have up:∀{x y:Int},Cn es x y→Cn (es++[e]) x y:=fun c=>c.mono fun a ha=>aK _ ha
 have me:e∈es++[e]:=aG _ (ao.mpr rfl)
 refine ⟨fun p p0 p1=>?_,fun a ha=>?_,fun p p0 p1=>?_⟩
 ·have cp:=up (F.conn p p0 p1)
  by_cases h:f p=f e.2
  ·try dsimp only
   rw [if_pos h]
   rw [h] at cp
   exact cp.trans ((up (F.conn e.2 b.2.2.1 b.2.2.2)).symm.trans ((Cn.eit me).trans (up (F.conn e.1 b.1 b.2.1))))
  ·try dsimp only
   rw [if_neg h];exact cp
 ·rcases aF.mp ha with y | y
  ·try dsimp only
   rw [F.same a y]
  ·have ea:a=e:=ao.mp y
   subst ea
   try dsimp only
   rw [if_pos rfl];split
   ·rfl
   ·rfl
 ·try dsimp only
  split
  ·exact F.rng _ b.1 b.2.1
  ·exact F.rng p p0 p1
theorem Nam.skip {n:Int} {es:List (Int×Int)} {f:Int→Int} {e:Int×Int} (F:Nam n es f) (h:f e.1=f e.2):Nam n (es++[e]) f :=
 ⟨fun p p0 p1=>(F.conn p p0 p1).mono fun a ha=>aK _ ha,fun a ha=>by
  rcases aF.mp ha with y | y
  ·exact F.same a y
  ·rw [ao.mp y];exact h,F.rng⟩
theorem Lab.skip {n:Int} {es:List (Int×Int)} {f:Int→Int} {e:Int×Int} (F:Lab n es f) (h:f e.1=f e.2):Lab n (es++[e]) f :=
 ⟨fun p p0 p1=>(F.conn p p0 p1).mono fun a ha=>aK _ ha,fun a ha=>by
  rcases aF.mp ha with y | y
  ·exact F.same a y
  ·rw [ao.mp y];exact h,F.low⟩
noncomputable def inF (es:List (Int×Int)) (i:Nat):Bool:=@decide (¬Cn (es.take i) (es.getD i (0,0)).1 (es.getD i (0,0)).2) (Classical.propDecidable _)
theorem gQ {es:List (Int×Int)} {i:Nat}:inF es i=true↔¬Cn (es.take i) (es.getD i (0,0)).1 (es.getD i (0,0)).2:=by
 unfold inF;exact @decide_eq_true_iff _ (Classical.propDecidable _)
noncomputable def frN (es:List (Int×Int)) (n:Nat):List Int:=((bF n).filter fun i=>inF es i).map fun (i:Nat)=>(i:Int)
noncomputable def gh (es:List (Int×Int)):List Int:=frN es es.length
theorem jg (es:List (Int×Int)) (n:Nat):frN es (n+1)=frN es n++(if inF es n=true then [(n:Int)] else []):=by
 unfold frN
 rw [List.range_succ,cU,aH]
 by_cases h:inF es n=true
 ·rw [if_pos h,cY h];rfl
 ·rw [if_neg h,cZ h];rfl
theorem ko {es:List (Int×Int)} {n:Nat} {t:Int}:t∈frN es n↔0≤t∧t<n∧inF es t.toNat=true:=by
 unfold frN
 rw [b_]
 constructor
 ·rintro ⟨m,hm,rfl⟩
  rw [bJ,cj] at hm
  exact ⟨by omega,by omega,hm.2⟩
 ·rintro ⟨h0,h1,h2⟩
  exact ⟨t.toNat,bJ.mpr ⟨cj.mpr (by omega),h2⟩,by omega⟩
theorem jB (es:List (Int×Int)) (n:Nat):(frN es n).length≤n:=by
 unfold frN
 rw [ae]
 exact cx (cN _ _) (by rw [cu];exact aO _)
def iQ (n:Nat):List Int:=(bF n).map fun (i:Nat)=>(i:Int)
def oth (n:Nat) (t:Int):List Int:=(iQ n).filter fun z=>decide (z≠t)
theorem gp (n:Nat):(iQ n).length=n:=by unfold iQ;rw [ae,cu]
theorem gI {n i:Nat} (h:i<n):(iQ n)[i]?=some (i:Int):=by unfold iQ;rw [br,List.getElem?_range h];rfl
theorem ni {n:Nat} {t:Int}:t∈iQ n↔0≤t∧t<n:=by
 unfold iQ
 rw [b_]
 constructor
 ·rintro ⟨m,hm,rfl⟩
  rw [cj] at hm
  omega
 ·rintro ⟨h0,h1⟩
  exact ⟨t.toNat,cj.mpr (by omega),by omega⟩
noncomputable def fre (es:List (Int×Int)):List Int:=(iQ es.length).filter fun z=>!((gh es).any (·==z))
end L2
namespace L2
open PySem PySem.Spec PyProof.Rows
theorem Vals.qc:∀{ns:List Int} {us:List Value},Vals (ns.map V.int) us→IntsAre us ns
 | [],_,.nil=>.nil
 | _::_,_,.cons r t=>by obtain ⟨k,rfl⟩:=r;exact .cons _ _ (Vals.qc t)
theorem IntsAre.vals:∀{ns:List Int} {us:List Value},IntsAre us ns→Vals (ns.map V.int) us
 | _,_,.nil=>.nil
 | _,_,.cons _ _ t=>.cons ⟨_,rfl⟩ (IntsAre.vals t)
section
variable {X:Cx} {K:ai}
theorem mH (hK:X.K=K):fR X (.builtin "sorted") (fun xs H Q=>∃(p:Addr) (ns:List Int),xs=[.ref p]∧SqL K H p (ns.map V.int)∧ns.length<64∧∀(l:Addr) (ns':List Int),H l=none→ns'.Perm ns→ns'.Pairwise (·≤·)→Q (.ref l) (upd H l (.lst (ns'.map V.int)))):=by
 subst hK
 intro pins s σ H xs us Q I r h
 obtain ⟨p,ns,rfl,hq,hz,q⟩:=h
 obtain ⟨u,rfl,rx⟩:=vals1 r
 cases rx
 obtain ⟨its,rv,pl,hzz⟩:=I.list hq
 have hlen:=rv.length
 rw [ae] at hlen
 refine sorted_ints pl.isList (Vals.qc rv) (by omega) fun out ns' a1 a2 a3=>?_
 obtain ⟨e,he⟩:=sortedAll_at s.heap its out
 have hl':=a2.length_eq
 exact ⟨.ref _,_,I.laid (t':=s.toks) (fun _ _=>sortedAll_old) (gj _) (show fv X.prog X.w _ (sortedAll s.heap its out) _ (.lst (ns'.map V.int)) from ⟨by rw [ae];exact aM (aE (by omega)),out.toList,e,IntsAre.vals a1,he⟩),rfl,q _ ns' (I.hok.fresh (gj _)) a2 a3⟩
end
theorem jk:∀{a b:List Int},a.Perm b→a.Pairwise (·≤·)→b.Pairwise (·≤·)→a=b:=fun h ha hb=>h.eq_of_pairwise (le:=(·≤·)) (fun _ _ _ _ x y=>Int.le_antisymm x y) ha hb
end L2
namespace L2
open PySem PySem.Spec PyProof.Rows
def lf (ls:List Int) (p:Int):Int:=ls.getD p.toNat 0
theorem nj (n:Nat) (p:Int) (p0:0≤p) (p1:p<n):lf ((bF n).map fun i=>0+((i:Nat):Int)) p=p:=by
 unfold lf
 rw [aa,br,List.getElem?_range (by omega)]
 show 0+((p.toNat:Nat):Int)=p
 omega
theorem sU (ls:List Int) (g:Int→Int) (p:Int) (p0:0≤p) (p1:p<ls.length):lf (ls.map g) p=g (lf ls p):=by
 unfold lf
 rw [aa,br,aa,ak (show p.toNat<ls.length by omega)];rfl
theorem bR {H0 H':Hp} {l:Addr} (s:bx H0 H') (n:H' l=none):H0 l=none:=by
 cases e:H0 l with
 | none=>rfl
 | some o=>have:=s _ _ e;rw [n] at this;cases this
theorem fE {K:ai} {H:Hp} {ys:List V} {es:List (Int×Int)} {t:Int} (hp:Pairs K H ys es) (h0:0≤t) (h1:t<(es.length:Int)):∃r,atI ys t=some (.ref r)∧SqT K H r [.int (aX es t).1,.int (aX es t).2]∧aX es t∈es:=by
 have hi:t.toNat<es.length:=by omega
 obtain ⟨r,e,er,hr,ei,he⟩:=hp.get hi
 have e0:aX es t=e:=by unfold aX;rw [aa,ei];rfl
 rw [e0]
 exact ⟨r,mK h0 er,hr,he⟩
theorem Nam.start (n:Nat) (m:Int) (h:m.toNat=n):Nam m [] (lf ((bF n).map fun i=>0+((i:Nat):Int))):=(Nam.nil m).congr (fun e he=>(nomatch he)) fun p p0 p1=>(nj n p p0 (by omega)).symm
def dT (es:List (Int×Int)):PyData:=.tuple (es.map dP)
theorem ou (es:List (Int×Int)) (n:Nat):(frN es n).Pairwise (·≤·):=by
 unfold frN
 rw [eJ]
 exact (List.Pairwise.filter _ List.pairwise_lt_range).imp fun h=>by omega
end L2
namespace L2
open PySem
def dp (p:Int) (es:List (Int×Int)) (fs:List Int):Nat→Int
 | 0=>0
 | i+1=>dp p es fs i+(if (es.getD i (0,0)).2=p then fs.getD i 0 else 0)-(if (es.getD i (0,0)).1=p then fs.getD i 0 else 0)
theorem qD {es:List (Int×Int)} {fs zs:List Int} {n i:Nat} {e:Int×Int} (hz:zs.length=n) (hi:es[i]?=some e) (b1:0≤e.1) (b2:e.1<(n:Int)) (b3:0≤e.2) (b4:e.2<(n:Int)) (h:∀p:Nat,p<n→zs.getD p 0=dp p es fs i) (p:Nat) (hp:p<n) :
  ((zs.set e.1.toNat (zs.getD e.1.toNat 0-fs.getD i 0)).set e.2.toNat ((zs.set e.1.toNat (zs.getD e.1.toNat 0-fs.getD i 0)).getD e.2.toNat 0+fs.getD i 0)).getD p 0=dp p es fs (i+1):=by
 have hE:es.getD i (0,0)=e:=by rw [aa,hi];rfl
 have h0:=h p hp
 rw [kA (by rw [bN];omega),kA (by omega),kA (by omega)]
 show _=dp p es fs i+_-_
 rw [hE,←h0]
 generalize fs.getD i 0=a
 have t1:e.1.toNat=p↔e.1=(p:Int):=by omega
 have t2:e.2.toNat=p↔e.2=(p:Int):=by omega
 by_cases c2:e.2=(p:Int)
 ·rw [if_pos (t2.mpr c2),if_pos c2,t2.mpr c2]
  by_cases c1:e.1=(p:Int)
  ·rw [if_pos (t1.mpr c1),if_pos c1,t1.mpr c1];omega
  ·rw [if_neg (fun z=>c1 (t1.mp z)),if_neg c1];omega
 ·rw [if_neg (fun z=>c2 (t2.mp z)),if_neg c2]
  by_cases c1:e.1=(p:Int)
  ·rw [if_pos (t1.mpr c1),if_pos c1,t1.mpr c1];omega
  ·rw [if_neg (fun z=>c1 (t1.mp z)),if_neg c1];omega
def ie (ps:List Int) (z:Int):Bool:=ps.any (·==z)
def ac (ps:List Int) (es:List (Int×Int)) (fs:List Int):Nat→Int
 | 0=>0
 | i+1=>ac ps es fs i+(if (ie ps (es.getD i (0,0)).1&&!ie ps (es.getD i (0,0)).2)=true then fs.getD i 0 else 0)-(if (ie ps (es.getD i (0,0)).2&&!ie ps (es.getD i (0,0)).1)=true then fs.getD i 0 else 0)
theorem gH (z:Int) (fs:List Int) (n:Nat):(fs.map (z*·)).getD n 0=z*fs.getD n 0:=by
 rw [aa,br,aa]
 cases fs[n]? with
 | none=>exact (cW z).symm
 | some v=>rfl
theorem jV (p z:Int) (es:List (Int×Int)) (fs:List Int):∀n,dp p es (fs.map (z*·)) n=z*dp p es fs n
 | 0=>(cW z).symm
 | n+1=>by
  show dp p es (fs.map (z*·)) n+_-_=z*(dp p es fs n+_-_)
  rw [jV p z es fs n,gH,Int.mul_sub,fM]
  by_cases c1:(es.getD n (0,0)).2=p<;>by_cases c2:(es.getD n (0,0)).1=p<;>simp only [c1,c2,if_true,if_false,cW]
theorem gR (fs gs:List Int) (h:fs.length=gs.length) (n:Nat):(bQ (·+·) fs gs).getD n 0=fs.getD n 0+gs.getD n 0:=by
 rw [aa,List.getElem?_zipWith,aa,aa]
 by_cases hn:n<fs.length
 ·rw [ak hn,ak (show n<gs.length by omega)];rfl
 ·rw [List.getElem?_eq_none (by omega),List.getElem?_eq_none (show gs.length≤n by omega)];rfl
theorem jF (p:Int) (es:List (Int×Int)) (fs gs:List Int) (h:fs.length=gs.length):∀n,dp p es (bQ (·+·) fs gs) n=dp p es fs n+dp p es gs n
 | 0=>rfl
 | n+1=>by
  show dp p es (bQ (·+·) fs gs) n+_-_=(dp p es fs n+_-_)+(dp p es gs n+_-_)
  rw [jF p es fs gs h n,gR fs gs h]
  by_cases c1:(es.getD n (0,0)).2=p<;>by_cases c2:(es.getD n (0,0)).1=p<;>simp only [c1,c2,if_true,if_false]<;>omega
theorem ka (a z:Int):∀ps:List Int,ps.Nodup→(ps.map fun p=>if z=p then a else 0).sum=if ie ps z=true then a else 0
 | [],_=>rfl
 | p::ps,h=>by
  rw [dJ] at h
  rw [bf,dN,ka a z ps h.2]
  show _=if ((p==z)||ie ps z)=true then a else 0
  by_cases c:z=p
  ·subst c
   have hn:ie ps z=false:=by
    unfold ie
    rw [List.any_eq_false]
    intro y hy e
    rw [beq_iff_eq] at e
    exact h.1 (e▸hy)
   rw [hn,if_pos rfl,beq_self_eq_true];simp
  ·have hb:(p==z)=false:=by rw [beq_eq_false_iff_ne];exact fun e=>c e.symm
   rw [if_neg c,hb,Bool.false_or,ff]
theorem kK (A B C:Int→Int):∀ps:List Int,(ps.map fun p=>A p+B p-C p).sum=(ps.map A).sum+(ps.map B).sum-(ps.map C).sum
 | []=>rfl
 | p::ps=>by
  rw [bf,dN,kK A B C ps,bf,bf,bf,dN,dN,dN];omega
theorem uP (ps:List Int) (hN:ps.Nodup) (es:List (Int×Int)) (fs:List Int):∀n,ac ps es fs n=-(ps.map fun p=>dp p es fs n).sum
 | 0=>by
  have:∀ps:List Int,(ps.map fun _=>(0:Int)).sum=0:=fun ps=>by
   induction ps with
   | nil=>rfl
   | cons p ps ih=>rw [bf,dN,ih];rfl
  show (0:Int)=-(ps.map fun _=>(0:Int)).sum
  rw [this];rfl
 | n+1=>by
  have e:=kK (fun p=>dp p es fs n) (fun p=>if (es.getD n (0,0)).2=p then fs.getD n 0 else 0) (fun p=>if (es.getD n (0,0)).1=p then fs.getD n 0 else 0) ps
  rw [ka _ _ _ hN,ka _ _ _ hN] at e
  show ac ps es fs n+_-_=-(ps.map fun p=>dp p es fs n+(if (es.getD n (0,0)).2=p then fs.getD n 0 else 0)-(if (es.getD n (0,0)).1=p then fs.getD n 0 else 0)).sum
  rw [e,uP ps hN es fs n]
  cases ie ps (es.getD n (0,0)).1<;>cases ie ps (es.getD n (0,0)).2<;>simp<;>omega
theorem kG {ps:List Int} (hN:ps.Nodup) {es:List (Int×Int)} {fs:List Int} {n:Nat} (h:∀p:Int,dp p es fs n=0):ac ps es fs n=0:=by
 rw [uP ps hN es fs n]
 have:∀ps:List Int,(ps.map fun p=>dp p es fs n).sum=0:=fun ps=>by
  induction ps with
  | nil=>rfl
  | cons p ps ih=>rw [bf,dN,ih,h];rfl
 rw [this];rfl
theorem eR (fs:List Int) (i n:Nat) (v:Int) (h:i<fs.length):(fs.set i v).getD n 0=if i=n then v else fs.getD n 0:=by
 rw [aa,List.getElem?_set,aa]
 by_cases c:i=n
 ·rw [if_pos c,if_pos c,if_pos h];rfl
 ·rw [if_neg c,if_neg c]
theorem lB (p:Int) (es:List (Int×Int)) (fs:List Int) (k:Nat) (v:Int) (hk:k<fs.length):∀n,dp p es (fs.set k v) n=dp p es fs n+(if k<n then (if (es.getD k (0,0)).2=p then v-fs.getD k 0 else 0)-(if (es.getD k (0,0)).1=p then v-fs.getD k 0 else 0) else 0)
 | 0=>by show (0:Int)=0+_;rw [if_neg (bM _)];rfl
 | n+1=>by
  show dp p es (fs.set k v) n+_-_=dp p es fs n+_-_+_
  rw [lB p es fs k v hk n,eR fs k n v hk]
  by_cases c:k=n
  ·subst c
   rw [if_neg (cS _),if_pos rfl,if_pos (bY _)]
   by_cases c1:(es.getD k (0,0)).2=p<;>by_cases c2:(es.getD k (0,0)).1=p<;>simp only [c1,c2,if_true,if_false]<;>omega
  ·rw [if_neg c]
   by_cases c3:k<n
   ·rw [if_pos c3,if_pos (show k<n+1 by omega)];omega
   ·rw [if_neg c3,if_neg (show ¬k<n+1 by omega)];omega
theorem jG (p:Int) (es:List (Int×Int)) (k:Nat):∀n,dp p es (az k 0) n=0
 | 0=>rfl
 | n+1=>by
  show dp p es (az k 0) n+_-_=0
  have e:(az k (0:Int)).getD n 0=0:=by
   rw [aa,cq];split<;>rfl
  rw [jG p es k n,e];simp
theorem nu {m:Int}:∀{es:List (Int×Int)},(∀e∈es,0≤e.1∧e.1<m∧0≤e.2∧e.2<m)→∀n,∃f,Lab m (es.take n) f
 | es,hE,0=>⟨_,Lab.nil m⟩
 | es,hE,n+1=>by
  obtain ⟨f,F⟩:=nu hE n
  rw [List.take_add_one]
  cases h:es[n]? with
  | none=>exact ⟨f,by simpa using F⟩
  | some e=>exact ⟨_,F.merge (hE e (aZ h))⟩
theorem eX {ps:List Int} {z:Int}:ie ps z=true↔z∈ps:=by
 unfold ie
 rw [dB]
 constructor
 ·rintro ⟨x,hx,e⟩;rw [←beq_iff_eq.mp e];exact hx
 ·exact fun h=>⟨z,h,beq_iff_eq.mpr rfl⟩
theorem qh (n:Nat) (f:Int→Int) (r:Int):(grp n f r).Nodup:=by
 unfold grp
 rw [cA,eJ]
 exact (List.Pairwise.filter _ List.pairwise_lt_range).imp fun h z=>by omega
theorem qq {m:Int} {es:List (Int×Int)} {fs:List Int} (hE:∀e∈es,0≤e.1∧e.1<m∧0≤e.2∧e.2<m) (hd:∀p:Int,dp p es fs es.length=0) (h0:∀t,t<es.length→¬inF es t=true→fs.getD t 0=0):∀t,t<es.length→fs.getD t 0=0:=by
 have key:∀k t,t<es.length→es.length≤t+k→fs.getD t 0=0:=by
  intro k
  induction k with
  | zero=>intro t ht h;omega
  | succ k ih =>
   intro t ht h
   by_cases hF:inF es t=true
   ·obtain ⟨f,F⟩:=nu hE t
    have hg:es[t]?=some (es.getD t (0,0)):=by rw [aa,ak ht];rfl
    obtain ⟨b1,b2,b3,b4⟩:=hE _ (aZ hg)
    have hne:¬f (es.getD t (0,0)).1=f (es.getD t (0,0)).2:=fun z=>gQ.mp hF ((F.iff b1 b2 b3 b4).mp z)
    have hz:=kG (qh m.toNat f (f (es.getD t (0,0)).1)) hd
    have hmem:∀z:Int,0≤z→z<m→ie (grp m.toNat f (f (es.getD t (0,0)).1)) z=decide (f z=f (es.getD t (0,0)).1):=fun z z0 z1=>by
     rw [cQ,eX,km,decide_eq_true_iff]
     exact ⟨fun h=>h.2.2,fun h=>⟨z0,by omega,h⟩⟩
    have st:∀n,n≤es.length→ac (grp m.toNat f (f (es.getD t (0,0)).1)) es fs n=if t<n then fs.getD t 0 else 0:=by
     intro n
     induction n with
     | zero=>intro _;rw [if_neg (bM _)];rfl
     | succ n ihn =>
      intro hn
      show ac _ es fs n+_-_=_
      rw [ihn (by omega)]
      have hgn:es[n]?=some (es.getD n (0,0)):=by rw [aa,ak (show n<es.length by omega)];rfl
      obtain ⟨d1,d2,d3,d4⟩:=hE _ (aZ hgn)
      rw [hmem _ d1 d2,hmem _ d3 d4]
      by_cases c:n<t
      ·have es1:f (es.getD n (0,0)).1=f (es.getD n (0,0)).2:=F.same _ (List.mem_take_iff_getElem.mpr ⟨n,by omega,by rw [aa,ak (show n<es.length by omega)];rfl⟩)
       rw [es1,if_neg (show ¬t<n by omega),if_neg (show ¬t<n+1 by omega)]
       cases decide (f (es.getD n (0,0)).2=f (es.getD t (0,0)).1)<;>simp
      ·by_cases c2:n=t
       ·subst c2
        rw [decide_eq_true rfl,decide_eq_false (fun z=>hne z.symm),if_neg (cS _),if_pos (bY _)];simp
       ·have hzn:fs.getD n 0=0:=ih n (by omega) (by omega)
        rw [if_pos (show t<n by omega),if_pos (show t<n+1 by omega),hzn];simp
    rw [st es.length (aO _),if_pos ht] at hz
    exact hz
   ·exact h0 t ht hF
 exact fun t ht=>key es.length t ht (by omega)
theorem qr {m:Int} {es:List (Int×Int)} {fs gs:List Int} (hE:∀e∈es,0≤e.1∧e.1<m∧0≤e.2∧e.2<m) (h1:fs.length=es.length) (h2:gs.length=es.length) (hf:∀p:Int,dp p es fs es.length=0) (hg:∀p:Int,dp p es gs es.length=0) (h0:∀t,t<es.length→¬inF es t=true→fs.getD t 0=gs.getD t 0):fs=gs:=by
 have hz:=qq (fs:=bQ (·+·) fs (gs.map ((-1)*·))) hE (fun p=>by rw [jF p es _ _ (by rw [ae];omega),jV,hf p,hg p];rfl) fun t ht hn=>by
  rw [gR _ _ (by rw [ae];omega),gH,h0 t ht hn];omega
 apply eU (by omega)
 intro t ht1 ht2
 have:=hz t (by omega)
 rw [gR _ _ (by rw [ae];omega),gH,aa,ak ht1,aa,ak ht2] at this
 have e:fs[t]+-1*gs[t]=0:=this
 omega
theorem qk (es:List (Int×Int)):∀n,n≤es.length→∀{a b:Int},Cn (es.take n) a b→Cn (sub es (frN es n)) a b
 | 0,_,_,_,h=>h.mono fun e he=>(by simp at he)
 | n+1,hn,a,b,h=>by
  have ih:∀{a b:Int},Cn (es.take n) a b→Cn (sub es (frN es (n+1))) a b:=fun h=>(qk es n (by omega) h).mono fun e he=>by
   rw [jg];unfold sub at *;rw [aH];exact aK _ he
  have hg:es[n]?=some (es.getD n (0,0)):=by rw [aa,ak (show n<es.length by omega)];rfl
  refine Cn.map (g:=id) (fun e he=>?_) h
  rw [List.take_add_one,hg] at he
  rcases aF.mp he with y | y
  ·exact ih (Cn.tie y)
  ·have ee:e=es.getD n (0,0):=by simpa using y
   subst ee
   by_cases c:inF es n=true
   ·refine Cn.tie ?_
    rw [jg,if_pos c]
    unfold sub
    rw [aH]
    exact aG _ (ao.mpr rfl)
   ·exact ih (Classical.byContradiction fun z=>c (gQ.mpr z))
def cur (es:List (Int×Int)) (a:Int) (ts:List Int):Int:=ts.foldl (fun p t=>far (aX es t) p) a
theorem nG (es:List (Int×Int)) (a:Int) (ts:List Int) (t:Int):cur es a (ts++[t])=far (aX es t) (cur es a ts):=by unfold cur;rw [List.foldl_append];rfl
theorem Way.cur {es:List (Int×Int)} {ss ts ps:List Int} {a p:Int} (h:Way es ss a ts ps p):L2.cur es a ts=p:=by
 induction h with
 | nil=>rfl
 | snoc _ _ _ _ _ _ ih=>rw [nG,ih]
theorem Way.step {es:List (Int×Int)} {ss ts ps:List Int} {a p:Int} (h:Way es ss a ts ps p):∀i t,ts[i]?=some t→(aX es t).1=L2.cur es a (ts.take i)∨(aX es t).2=L2.cur es a (ts.take i):=by
 induction h with
 | nil=>intro i t e;simp at e
 | @snoc ts ps p t h _ _ _ hp _ ih =>
  intro i t' e
  by_cases c:i<ts.length
  ·rw [cE c] at e
   rw [List.take_append_of_le_length (by omega)]
   exact ih i t' e
  ·have hi:i=ts.length:=by
    have:=(cD.mp e).1
    rw [aw] at this
    have e1:[t].length=1:=rfl
    omega
   subst hi
   rw [List.getElem?_append_right (aO _),Nat.sub_self] at e
   have et:t=t':=by simpa using e
   rw [List.take_left,h.cur,←et]
   exact hp
end L2
namespace L2
open PySem PySem.Spec PyProof.Rows
section
variable {X:Cx}
end
end L2
namespace L2
open PySem PySem.Spec PyProof.Rows
section
variable {X:Cx}
theorem m_:OpR X (binaryOp .FloorDiv) (rI (fun _ j=>0<j∧j<2^200) fun i j=>.int (i/j)):=opI fun i j _ _ _ _ _ hc q=>by
 have h1:(0:Int)<j:=hc.1
 have h2:j<2^200:=hc.2
 have h3:j.natAbs≠0:=by omega
 have h4:j.natAbs<2^200:=by omega
 exact floordiv_int (by omega) (by rw [Int.fdiv_eq_ediv_of_nonneg i (by omega)];exact q) (.inl (PyProof.noPylong_of_log2 (bp ((Nat.log2_lt h3).mpr h4) (by decide))))
end
theorem uD {es:List (Int×Int)} {k:Nat} (hk:k<es.length):(k:Int)∈fre es↔¬inF es k=true:=by
 unfold fre
 rw [bJ,ni]
 have:(gh es).any (·==(k:Int))=true↔inF es k=true:=by
  rw [show (gh es).any (·==(k:Int))=ie (gh es) (k:Int) from rfl,eX]
  unfold gh
  rw [ko]
  exact ⟨fun h=>h.2.2,fun h=>⟨by omega,by omega,h⟩⟩
 constructor
 ·rintro ⟨_,h⟩ z
  rw [this.mpr z] at h;cases h
 ·intro h
  refine ⟨⟨by omega,by omega⟩,?_⟩
  rw [Bool.eq_false_iff.mpr fun z=>h (this.mp z)];rfl
theorem wg (es:List (Int×Int)):(fre es).Nodup:=by
 unfold fre iQ
 refine List.Nodup.sublist List.filter_sublist ?_
 rw [cA,eJ]
 exact List.pairwise_lt_range.imp fun h z=>by omega
theorem qm (es:List (Int×Int)):(fre es).length≤es.length:=cx (cN _ _) (by rw [gp];exact aO _)
theorem kn {es:List (Int×Int)} {t:Int} (h:t∈fre es):0≤t∧t<(es.length:Int):=ni.mp (bJ.mp h).1
def FW (es:List (Int×Int)) (vs fs:List Int):Prop:=fs.length=es.length∧(∀p:Int,dp p es fs es.length=0)∧∀j,j<(fre es).length→fs.getD ((fre es).getD j 0).toNat 0=vs.getD j 0
theorem qo {es:List (Int×Int)} {t:Nat} (ht:t<es.length) (hn:¬inF es t=true):∃j,j<(fre es).length∧(fre es).getD j 0=(t:Int):=by
 obtain ⟨j,hj,e⟩:=bV.mp ((uD ht).mpr hn)
 exact ⟨j,hj,by rw [aa,ak hj];exact e⟩
theorem FW.uniq {m:Int} {es:List (Int×Int)} {vs fs gs:List Int} (hE:∀e∈es,0≤e.1∧e.1<m∧0≤e.2∧e.2<m) (hf:FW es vs fs) (hg:FW es vs gs):fs=gs:=qr hE hf.1 hg.1 hf.2.1 hg.2.1 fun t ht hn=>by
 obtain ⟨j,hj,e⟩:=qo ht hn
 have h1:=hf.2.2 j hj
 have h2:=hg.2.2 j hj
 rw [e,show ((t:Nat):Int).toNat=t by omega] at h1 h2
 rw [h1,h2]
end L2
namespace L2
theorem iP {α:Type} {P:α→Bool} {t:α}:∀{L:List α},L.Nodup→t∈L→(∀s∈L,P s=true↔s=t)→L.filter P=[t]
 | [],_,h,_=>nomatch h
 | s::L,hn,hm,hp=>by
  rw [dJ] at hn
  by_cases e:s=t
  ·subst e
   rw [cY ((hp s aU).mpr rfl)]
   congr 1
   rw [List.filter_eq_nil_iff]
   intro r hr z
   exact hn.1 ((hp r (aW _ hr)).mp z▸hr)
  ·rw [cZ (fun z=>e ((hp s aU).mp z))]
   exact iP hn.2 ((bq.mp hm).resolve_left fun z=>e z.symm) fun r hr=>hp r (aW _ hr)
theorem max_mem:∀{L:List Int},L≠[]→∃t∈L,∀s∈L,s≤t
 | [],h=>absurd rfl h
 | [a],_=>⟨a,aU,fun s hs=>by rw [ao.mp hs];exact fN _⟩
 | a::b::L,_=>by
  obtain ⟨t,ht,hm⟩:=max_mem (L:=b::L) (by simp)
  by_cases h:a≤t
  ·exact ⟨t,aW _ ht,fun s hs=>by
    rcases bq.mp hs with y | y
    ·rw [y];exact h
    ·exact hm s y⟩
  ·exact ⟨a,aU,fun s hs=>by
    rcases bq.mp hs with y | y
    ·rw [y];exact fN _
    ·have:=hm s y;omega⟩
theorem nI {es:List (Int×Int)} {L:List Int} {a x:Int} {s:Int} (hs:s∈L) (hx:(aX es s).1=x∨(aX es s).2=x) (h:Cn (sub es L) a x):Cn (sub es L) a (aX es s).1:=by
 rcases hx with y | y
 ·rw [y];exact h
 ·exact Cn.bwd (e:=aX es s) (by rw [y];exact h) (b_.mpr ⟨s,hs,rfl⟩)
theorem wB {es:List (Int×Int)} {L:List Int} {a x:Int} {s:Int} (hs:s∈L) (hx:(aX es s).1=x∨(aX es s).2=x) (h:Cn (sub es L) a (aX es s).1):Cn (sub es L) a x:=by
 rcases hx with y | y
 ·rw [←y];exact h
 ·rw [←y];exact Cn.fwd h (b_.mpr ⟨s,hs,rfl⟩)
theorem pT {es:List (Int×Int)}:∀(n:Nat) (L:List Int),L.length≤n→L≠[]→L.Nodup→(∀t∈L,0≤t∧t<(es.length:Int)∧inF es t.toNat=true)→∀w:Int,∃x:Int,x≠w∧∃t∈L,L.filter (fun s=>atP x (aX es s))=[t]
 | 0,L,hn,h0,_,_,_=>absurd (List.length_eq_zero_iff.mp (by omega)) h0
 | n+1,L,hn,h0,hnd,hF,w=>by
  obtain ⟨t,ht,hmax⟩:=max_mem h0
  have hsub:∀s∈L.erase t,s∈L∧s≠t:=fun s hs=>⟨List.mem_of_mem_erase hs,fun z=>by
   rw [z] at hs
   exact (List.Nodup.not_mem_erase hnd) hs⟩
  have hback:∀s∈L,s≠t→s∈L.erase t:=fun s hs z=>(List.mem_erase_of_ne z).mpr hs
  have htF:=hF t ht
  have hnc:¬Cn (sub es (L.erase t)) (aX es t).1 (aX es t).2:=fun z=>gQ.mp htF.2.2 (z.mono fun e he=>by
   obtain ⟨s,hs,rfl⟩:=b_.mp he
   have h1:=hsub s hs
   have h2:=hF s h1.1
   have h3:=hmax s h1.1
   have h4:s.toNat<t.toNat:=by
    have:=h1.2
    omega
   refine List.mem_take_iff_getElem.mpr ⟨s.toNat,by omega,?_⟩
   unfold aX
   rw [aa,ak (show s.toNat<es.length by omega)];rfl)
  have main:∀a b:Int,((aX es t).1=a∧(aX es t).2=b∨(aX es t).1=b∧(aX es t).2=a)→¬Cn (sub es (L.erase t)) a b→¬Cn (sub es (L.erase t)) a w→∃x:Int,x≠w∧∃t∈L,L.filter (fun s=>atP x (aX es s))=[t]:=by
   intro a b hab nab naw
   have hta:(aX es t).1=a∨(aX es t).2=a:=hab.elim (fun h=>.inl h.1) fun h=>.inr h.2
   have htx:∀x,((aX es t).1=x∨(aX es t).2=x)→x=a∨x=b:=fun x hx=>by
    rcases hab with ⟨h1,h2⟩ | ⟨h1,h2⟩<;>rw [h1,h2] at hx<;>rcases hx with y | y
    ·exact .inl y.symm
    ·exact .inr y.symm
    ·exact .inr y.symm
    ·exact .inl y.symm
   let P:Int→Bool:=fun s=>@decide (Cn (sub es (L.erase t)) a (aX es s).1) (Classical.propDecidable _)
   have hP:∀s,P s=true↔Cn (sub es (L.erase t)) a (aX es s).1:=fun s=>@decide_eq_true_iff _ (Classical.propDecidable _)
   by_cases hE:(L.erase t).filter P=[]
   ·refine ⟨a,fun z=>naw (z▸Cn.refl _),t,ht,iP hnd ht fun s hs=>⟨fun z=>?_,fun z=>by rw [z];exact g_.mpr hta⟩⟩
    refine Classical.byContradiction fun y=>?_
    have h1:=hback s hs y
    have h2:=(hP s).mpr (nI h1 (g_.mp z) (Cn.refl _))
    have h3:s∈(L.erase t).filter P:=bJ.mpr ⟨h1,h2⟩
    rw [hE] at h3
    cases h3
   ·have hl:(L.erase t).length<L.length:=by
     rw [List.length_erase_of_mem ht]
     have:=List.length_pos_of_mem ht
     omega
    have hl2:=cN P (L.erase t)
    obtain ⟨x,hxa,s,hs,hfs⟩:=pT n ((L.erase t).filter P) (by omega) hE ((hnd.erase t).filter _) (fun r hr=>hF r (hsub r (bJ.mp hr).1).1) a
    have hs1:=bJ.mp hs
    have hsx:atP x (aX es s)=true:=by
     have:s∈((L.erase t).filter P).filter (fun r=>atP x (aX es r)):=by rw [hfs];exact ao.mpr rfl
     exact (bJ.mp this).2
    have hax:Cn (sub es (L.erase t)) a x:=wB hs1.1 (g_.mp hsx) ((hP s).mp hs1.2)
    refine ⟨x,fun z=>naw (z▸hax),s,(hsub s hs1.1).1,iP hnd (hsub s hs1.1).1 fun r hr=>⟨fun z=>?_,fun z=>by rw [z];exact hsx⟩⟩
    by_cases hrt:r=t
    ·exfalso
     rw [hrt] at z
     rcases htx x (g_.mp z) with y | y
     ·exact hxa y
     ·exact nab (y▸hax)
    ·have h1:=hback r hr hrt
     have h2:r∈((L.erase t).filter P).filter (fun r=>atP x (aX es r)):=bJ.mpr ⟨bJ.mpr ⟨h1,(hP r).mpr (nI h1 (g_.mp z) hax)⟩,z⟩
     rw [hfs] at h2
     exact ao.mp h2
  by_cases h1:Cn (sub es (L.erase t)) (aX es t).1 w
  ·exact main (aX es t).2 (aX es t).1 (.inr ⟨rfl,rfl⟩) (fun z=>hnc z.symm) fun z=>hnc (h1.trans z.symm)
  ·exact main (aX es t).1 (aX es t).2 (.inl ⟨rfl,rfl⟩) hnc h1
end L2
namespace L2
open PySem PySem.Spec PyProof.Rows
theorem ly {α β:Type} (f:α→β):∀(l:List α) (i:Nat),(l.map f).eraseIdx i=(l.eraseIdx i).map f
 | [],_=>rfl
 | _::_,0=>rfl
 | a::l,i+1=>by rw [bf,List.eraseIdx_cons_succ,ly f l i,List.eraseIdx_cons_succ,bf]
section
variable {X:Cx}
def AV:V→List V→Hp→VK→Prop:=fun x vs H Q=>∃(p:Addr) (ns:List Int) (z:Int) (j:Nat),x=.ref p∧vs=[.int z]∧H p=some (.lst (ns.map V.int))∧j<ns.length∧ns.getD j 0=z∧(∀i,i<j→ns.getD i 0≠z)∧Q .non (upd H p (.lst ((ns.eraseIdx j).map V.int)))
def isI (z:Int):Value→Bool
 | .int a _=>a==z
 | _=>false
theorem uo:MtM X "list.remove" AV:=by
 intro pins s σ H x vs v us Q I rx rv h
 obtain ⟨p,ns,z,j,rfl,rfl,hH,hj,hz,hno,q⟩:=h
 cases rx
 obtain ⟨u,rfl,⟨tu,rfl⟩⟩:=rv.one
 obtain ⟨zz,its,n,r,hl,e⟩:=I.sS hH
 have hlen:=r.length
 rw [ae] at hlen
 have key:∀i (hi:i<its.toArray.size),∃t,its.toArray[i]=.int (ns.getD i 0) t:=fun i hi=>r.kr (i:=i) (u:=its.toArray[i]) (Array.getElem?_eq_getElem hi)
 have hsz:its.toArray.size=ns.length:=by rw [aT];omega
 refine call_meets F.slot_list_remove ⟨_,e,rfl⟩ F.entry_list_remove (F.args_list_remove_2 _ _) (PySem.MeetsSeq.list_remove p its.toArray n _ (isI z) (fun y hy=>?_) j (by omega) ?_ (fun i hi hij=>?_) (by rw [hsz];rw [ae] at zz;exact zz)) ⟨e,?_⟩
 ·obtain ⟨i,hi,rfl⟩:=Array.mem_iff_getElem.mp hy
  obtain ⟨t,et⟩:=key i hi
  rw [et]
  exact PySem.MeetsSeq.EqGives.int _ _ _ _
 ·obtain ⟨t,et⟩:=key j (by omega)
  rw [et,hz]
  exact beq_self_eq_true z
 ·obtain ⟨t,et⟩:=key i hi
  rw [et]
  exact beq_eq_false_iff_ne.mpr (hno i hij)
 ·refine ⟨.non,_,I.xg (its':=its.eraseIdx j) hH e (by simp) ?_ ?_,rfl,q⟩
  ·rw [←ly];exact Vals.eraseIdx j r
  ·rw [ae]
   have h1:=List.length_eraseIdx_le (l:=ns) (i:=j)
   rw [ae] at zz
   omega
end
theorem uB (es:List (Int×Int)):(gh es).Nodup:=by
 unfold gh frN
 rw [cA,eJ]
 exact (List.Pairwise.filter _ List.pairwise_lt_range).imp fun h z=>by omega
end L2
namespace L2
open PySem PySem.Spec PyProof.Rows
end L2
namespace L2
open PySem PySem.Spec PyProof.Rows
def en (p:Int) (e:Int×Int):Int:=(if e.1=p then 1 else 0)+(if e.2=p then 1 else 0)
end L2
namespace L2
open PySem PySem.Spec PyProof.Rows
section
variable {X:Cx}
theorem um {i j:Int} (h1:i.natAbs<2^3000) (h2:j.natAbs<2^3000):IntMulOk i j:=by
 have h3:=intBits_le h1
 have h4:=intBits_le h2
 unfold IntMulOk
 intro h
 rw [cK] at h
 have h5:((Builtin.Int.intBits i+Builtin.Int.intBits j:Nat):Int)>bitsLine:=of_decide_eq_true h.2
 have h6:(6000:Int)≤bitsLine:=by decide
 omega
theorem uy:PIp X .Mult (fun x y H Q=>∃i j,x=.int i∧y=.int j∧i.natAbs<2^3000∧j.natAbs<2^3000∧Q (.int (i*j)) H):=by
 intro pins s σ H x y v u Q I r1 r2 h
 obtain ⟨i,j,rfl,rfl,c1,c2,q⟩:=h
 obtain ⟨t,rfl⟩:=r1
 obtain ⟨t',rfl⟩:=r2
 exact imul_int ⟨.int _,H,I.tok _,⟨_,rfl⟩,q⟩ (um c1 c2)
end
def isR (m:Int) (es:List (Int×Int)) (fs:List Int) (k:Int):Bool:=(fs.all fun r=>decide (0≤r)&&decide (r<k))&&decide (∀p:Nat,p<m.toNat→dp p es fs es.length%k=0)
noncomputable def frv (es:List (Int×Int)) (rs:List Int):List Int:=(fre es).map fun t=>rs.getD t.toNat 0
theorem fJ {xs:List Int} {i:Nat} (h:i<xs.length):xs.getD i 0=xs[i]:=by rw [aa,ak h];rfl
theorem jT {m k:Int} {es:List (Int×Int)} {rs:List Int} (h:isR m es rs k=true):∀r∈rs,0≤r∧r<k:=fun r hr=>by
 unfold isR at h
 rw [cK,cJ] at h
 have:=h.1 r hr
 rw [cK,decide_eq_true_iff,decide_eq_true_iff] at this
 exact this
theorem ot {m k:Int} {es:List (Int×Int)} {rs:List Int} (hl:rs.length=es.length) (h:isR m es rs k=true):∀d∈frv es rs,0≤d∧d<k:=fun d hd=>by
 obtain ⟨t,ht,rfl⟩:=b_.mp hd
 obtain ⟨t0,t1⟩:=kn ht
 have hi:t.toNat<rs.length:=by omega
 rw [fJ hi]
 exact jT h _ (cf hi)
theorem qj (es:List (Int×Int)) (rs:List Int):(frv es rs).length=(fre es).length:=ae ..
end L2
namespace L2
open PySem PySem.Spec PyProof.Rows PySem.W Builtin Builtin.ObjectAttr
section
variable {prog:Program} {w:World} {B:Around} {E:Value→Shared→Prop} {K:Frag} {A F f:Addr} {h:Heap} {g:Array GenState} {d:Drawn} {t:Nat} {os:OsState}
end
section
variable {prog:Program} {w:World} {M:Model} {B:Around} {E:Value→Shared→Prop} {env:Env}
variable {nm q:Str} {C N:Addr} {bs bm:List Value} {hdct:Bool} {sn:List Str} {sub:List Value} {ab:Bool} {col:Option Bool} {dd:Option Addr} {k0 k1 k2 k3 k5:Option Value} {newId:String}
end
end L2
namespace L2
open PySem PySem.Spec PyProof.Rows PySem.W Builtin Builtin.ObjectAttr
section
variable {prog:Program} {w:World} {B:Around} {E:Value→Shared→Prop} {K:Frag} {A F f x:Addr} {s:Shared}
end
section
variable {X:Cx} {σ:St} {H:Hp} {s:Shared} {A F f x:Addr}
end
section
variable {X:Cx} {Ex:St→Value→Hp→Prop}
end
section
variable {X:Cx}
end
section
variable {prog:Program} {w:World} {B:Around} {E:Value→Shared→Prop} {K:Frag} {A x:Addr} {s:Shared}
end
section
variable {X:Cx}
end
end L2
namespace L2
open PySem PySem.Spec PyProof.Rows PySem.W
section
variable {X:Cx}
end
end L2
namespace L2
open PySem PySem.Spec PyProof.Rows PySem.W
section
variable {X:Cx}
end
end L2
namespace L2
open PySem
theorem wH {k:Int} {ps:List Int} (hN:ps.Nodup) {es:List (Int×Int)} {fs:List Int} {n:Nat} (h:∀p∈ps,k∣dp p es fs n):k∣ac ps es fs n:=by
 rw [uP ps hN es fs n]
 have:∀ps:List Int,(∀p∈ps,k∣dp p es fs n)→k∣(ps.map fun p=>dp p es fs n).sum:=fun ps=>by
  induction ps with
  | nil=>exact fun _=>⟨0,by rw [cW];rfl⟩
  | cons p ps ih =>
   intro h
   rw [bf,dN]
   exact Int.dvd_add (h p aU) (ih fun q hq=>h q (aW _ hq))
 exact Int.dvd_neg.mpr (this ps h)
theorem qt {m k:Int} {es:List (Int×Int)} {fs:List Int} (hE:∀e∈es,0≤e.1∧e.1<m∧0≤e.2∧e.2<m) (hd:∀p:Int,0≤p→p<m→k∣dp p es fs es.length) (h0:∀t,t<es.length→¬inF es t=true→k∣fs.getD t 0):∀t,t<es.length→k∣fs.getD t 0:=by
 have key:∀n t,t<es.length→es.length≤t+n→k∣fs.getD t 0:=by
  intro n
  induction n with
  | zero=>intro t ht h;omega
  | succ n ih =>
   intro t ht h
   by_cases hF:inF es t=true
   ·obtain ⟨f,F⟩:=nu hE t
    have hg:es[t]?=some (es.getD t (0,0)):=by rw [aa,ak ht];rfl
    obtain ⟨b1,b2,b3,b4⟩:=hE _ (aZ hg)
    have hne:¬f (es.getD t (0,0)).1=f (es.getD t (0,0)).2:=fun z=>gQ.mp hF ((F.iff b1 b2 b3 b4).mp z)
    have hz:=wH (qh m.toNat f (f (es.getD t (0,0)).1)) fun p hp=>by
     obtain ⟨q0,q1,_⟩:=km.mp hp
     exact hd p q0 (by omega)
    have hmem:∀z:Int,0≤z→z<m→ie (grp m.toNat f (f (es.getD t (0,0)).1)) z=decide (f z=f (es.getD t (0,0)).1):=fun z z0 z1=>by
     rw [cQ,eX,km,decide_eq_true_iff]
     exact ⟨fun h=>h.2.2,fun h=>⟨z0,by omega,h⟩⟩
    have st:∀j,j≤es.length→k∣(ac (grp m.toNat f (f (es.getD t (0,0)).1)) es fs j-if t<j then fs.getD t 0 else 0):=by
     intro j
     induction j with
     | zero=>intro _;rw [if_neg (bM _)];exact ⟨0,by rw [cW];rfl⟩
     | succ j ihj =>
      intro hj
      have ih1:=ihj (by omega)
      show k∣(ac _ es fs j+_-_-_)
      have hgn:es[j]?=some (es.getD j (0,0)):=by rw [aa,ak (show j<es.length by omega)];rfl
      obtain ⟨d1,d2,d3,d4⟩:=hE _ (aZ hgn)
      rw [hmem _ d1 d2,hmem _ d3 d4]
      by_cases c:j<t
      ·have es1:f (es.getD j (0,0)).1=f (es.getD j (0,0)).2:=F.same _ (List.mem_take_iff_getElem.mpr ⟨j,by omega,by rw [aa,ak (show j<es.length by omega)];rfl⟩)
       rw [es1,if_neg (show ¬t<j+1 by omega)]
       rw [if_neg (show ¬t<j by omega)] at ih1
       cases decide (f (es.getD j (0,0)).2=f (es.getD t (0,0)).1)<;>simpa using ih1
      ·by_cases c2:j=t
       ·subst c2
        rw [decide_eq_true rfl,decide_eq_false (fun z=>hne z.symm),if_pos (bY _)]
        rw [if_neg (cS _)] at ih1
        have e:∀A B:Int,A+(if (true&&!false)=true then B else 0)-(if (false&&!true)=true then B else 0)-B=A-0:=fun A B=>by simp
        rw [e];exact ih1
       ·obtain ⟨u,hu⟩:k∣fs.getD j 0:=ih j (by omega) (by omega)
        rw [if_pos (show t<j+1 by omega)]
        rw [if_pos (show t<j by omega)] at ih1
        obtain ⟨v,hv⟩:=ih1
        have e:∀(x y:Bool) (A B C:Int),A+(if (x&&!y)=true then C else 0)-(if (y&&!x)=true then C else 0)-B=(A-B)+C*((if x=true then 1 else 0)-(if y=true then 1 else 0)):=fun x y A B C=>by
         cases x<;>cases y<;>simp<;>omega
        rw [hu,e,hv,Int.mul_assoc,←fM]
        exact ⟨_,rfl⟩
    have:=st es.length (aO _)
    rw [if_pos ht] at this
    obtain ⟨v,hv⟩:=this
    obtain ⟨u,hu⟩:=hz
    exact ⟨u-v,by rw [Int.mul_sub];omega⟩
   ·exact h0 t ht hF
 exact fun t ht=>key es.length t ht (by omega)
theorem pU {m k:Int} {es:List (Int×Int)} {rs fs:List Int} (hE:∀e∈es,0≤e.1∧e.1<m∧0≤e.2∧e.2<m) (hl:rs.length=es.length) (hR:isR m es rs k=true) (h:FW es (frv es rs) fs):fs.map (·%k)=rs:=by
 have hb:=jT hR
 have hmod:∀p:Nat,p<m.toNat→dp p es rs es.length%k=0:=by
  unfold isR at hR
  rw [cK,decide_eq_true_iff] at hR
  exact hR.2
 have hfl:fs.length=(rs.map (-1*·)).length:=by rw [ae,h.1,hl]
 have g:∀t,(bQ (·+·) fs (rs.map (-1*·))).getD t 0=fs.getD t 0-rs.getD t 0:=fun t=>by
  rw [gR _ _ hfl,gH];omega
 have key:=qt (k:=k) (fs:=bQ (·+·) fs (rs.map (-1*·))) hE (fun p p0 p1=>by
  rw [jF p es _ _ hfl,h.2.1 p,jV]
  have:=hmod p.toNat (by omega)
  rw [Int.toNat_of_nonneg p0] at this
  obtain ⟨u,hu⟩:=Int.dvd_of_emod_eq_zero this
  exact ⟨-u,by rw [Int.mul_neg];omega⟩) (fun t ht hn=>by
  obtain ⟨j,hj,ej⟩:=qo ht hn
  have e1:=h.2.2 j hj
  rw [ej,bz] at e1
  have e2:(frv es rs).getD j 0=rs.getD t 0:=by
   rw [fJ (by rw [qj];exact hj)]
   unfold frv
   rw [List.getElem_map,←fJ hj,ej,bz]
  rw [g t,e1,e2]
  exact ⟨0,by omega⟩)
 refine eU (by rw [ae,h.1,hl]) fun t h1 h2=>?_
 rw [List.getElem_map]
 have ht:t<es.length:=by omega
 obtain ⟨u,hu⟩:=key t ht
 rw [g t,fJ (by rw [h.1];exact ht),fJ h2] at hu
 obtain ⟨b0,b1⟩:=hb rs[t] (cf h2)
 have e:fs[t]'(by rw [h.1];exact ht)=rs[t]+k*u:=by omega
 rw [e,Int.add_mul_emod_self_left,Int.emod_eq_of_lt b0 b1]
end L2
namespace L2
open PySem PySem.Spec PyProof.Rows
abbrev iJ (h:Heap) (T:Addr) (a b c:Value):Prop:=h.get? T=some {cls:=.type "tuple",data:=.seq #[a,b,c]}
structure ZA3 (z TO i1 i2 i3:Addr) (f1 f2 f3:List Addr):Prop where
 m1:i1∈f1
 m2:i2∈f2
 m3:i3∈f3
 z1:z∉f1
 z2:z∉f2
 z3:z∉f3
 o1:TO∉f1
 o2:TO∉f2
 o3:TO∉f3
 x12:i1∉f2
 x13:i1∉f3
 x21:i2∉f1
 x23:i2∉f3
 x31:i3∉f1
 x32:i3∉f2
 oz:TO≠z
section
variable {prog:Program} {w:World} {A:Around} {E:Value→Shared→Prop} {s:Shared} {z TI TO i1 i2 i3:Addr} {f1 f2 f3:List Addr} {n1 n2 n3 i:Nat} {P1 P2 P3:Nat→Value→Prop} {S1 S2 S3:Nat→Heap→Prop} {a b c:Value}
theorem nO {Q:Value→Shared→Prop} (D1:Draws prog w A i1 f1 n1 P1 S1) (D2:Draws prog w A i2 f2 n2 P2 S2) (D3:Draws prog w A i3 f3 n3 P3 S3) (Z:ZA3 z TO i1 i2 i3 f1 f2 f3) (hz:IsZip s.heap z TI TO .none) (hTI:iJ s.heap TI (.ref i1) (.ref i2) (.ref i3)) (hTO:iJ s.heap TO a b c) (h1:S1 i s.heap) (h2:S2 i s.heap) (h3:S3 i s.heap) (l1:i<n1) (l2:i<n2) (l3:i<n3)
  (hQ:∀x y u h' tk,P1 i x→P2 i y→P3 i u→IsZip h' z TI TO (rawInt s.heap.objs.size)→iJ h' TO x y u→S1 (i+1) h'→S2 (i+1) h'→S3 (i+1) h'→iJ h' s.heap.objs.size x y u →
   (∀c o,c≠z→c≠TO→c≠i1→c≠i2→c≠i3→s.heap.get? c=some o→h'.get? c=some o)→Q (.ref s.heap.objs.size) {s with heap:=h',toks:=tk}) :
  wpAny (model prog w) A (Builtin.«zip.__next__» ⟨[.ref z],[]⟩) (fun fin s'=>∃v,fin=.done (.ret v)∧Q v s') E s:=by
 obtain ⟨hp,g,d,tk₀,os⟩:=s
 have Oz:=Z.oz
 have kz:=bC (Obj.mapFields fun v=>v.setIfInBounds 0 Value.ellipsis) hz rfl
 unfold Builtin.«zip.__next__»
 wp_walk using AutoSeq1.wpAny_loadPart' hz,AutoSeq1.wpAny_loadPart' hTI,wpAny_onRaise,D1.item i _ _ _ l1
 ·exact D1.frame _ _ _ h1 fun c hc o e=>aA _ (nin Z.z1 hc).symm e
 intro x h₂ t₂ px s₁ b₂
 have q2:∀c o,c≠z→c≠i1→hp.get? c=some o→h₂.get? c=some o:=fun c o cz c1 e=>b₂.extBut _ _ c1 (aA _ cz.symm e)
 have ez:=b₂.extBut _ _ (nin Z.z1 Z.m1).symm kz
 have TO2:iJ h₂ TO a b c:=q2 _ _ Z.oz (nin Z.o1 Z.m1).symm hTO
 have kO:=bC (Obj.mapSeq fun v=>v.setIfInBounds 0 x) TO2 rfl
 wp_walk using AutoSeq1.wpAny_loadPart' TO2,wpAny_onRaise,D2.item i _ _ _ l2
 ·exact D2.frame _ _ _ h2 fun c hc o e=>aA _ (nin Z.o2 hc).symm (q2 _ _ (nin Z.z2 hc) (nin Z.x12 hc) e)
 intro y h₄ t₄ py s₂ b₄
 have q4:∀c o,c≠TO→c≠i2→h₂.get? c=some o→h₄.get? c=some o:=fun c o co c2 e=>b₄.extBut _ _ c2 (aA _ co.symm e)
 have ez4:=q4 _ _ Z.oz.symm (nin Z.z2 Z.m2).symm ez
 have TO4:iJ h₄ TO x b c:=b₄.extBut _ _ (nin Z.o2 Z.m2).symm kO
 have kP:=bC (Obj.mapSeq fun v=>v.setIfInBounds 1 y) TO4 rfl
 wp_walk using AutoSeq1.wpAny_loadPart' TO4,wpAny_onRaise,D3.item i _ _ _ l3
 ·exact D3.frame _ _ _ h3 fun c hc o e=>aA _ (nin Z.o3 hc).symm (q4 _ _ (nin Z.o3 hc) (nin Z.x23 hc) (q2 _ _ (nin Z.z3 hc) (nin Z.x13 hc) e))
 intro u h₆ t₆ pu s₃ b₆
 have q6:∀c o,c≠TO→c≠i3→h₄.get? c=some o→h₆.get? c=some o:=fun c o co c3 e=>b₆.extBut _ _ c3 (aA _ co.symm e)
 have ez6:IsZip h₆ z TI TO .ellipsis:=q6 _ _ Z.oz.symm (nin Z.z3 Z.m3).symm ez4
 have TO6:iJ h₆ TO x y c:=b₆.extBut _ _ (nin Z.o3 Z.m3).symm kP
 have n6:h₆.objs.size=hp.objs.size:=by rw [b₆.1,cI,b₄.1,cI,b₂.1,cI]
 have kR:=bC (Obj.mapSeq fun v=>v.setIfInBounds 2 u) TO6 rfl
 wp_walk using AutoSeq1.wpAny_loadPart' TO6,AutoSeq1.wpAny_loadPart' kR
 have n7:(h₆.update TO (Obj.mapSeq fun v=>v.setIfInBounds 2 u)).objs.size=hp.objs.size:=cI .. |>.trans n6
 have zl:z<hp.objs.size:=aR hz
 refine ⟨_,rfl,?_⟩
 rw [n7]
 have on:∀{c o} (f k:Obj→Obj),c≠z→((h₆.update TO (Obj.mapSeq fun v=>v.setIfInBounds 2 u)).push {cls:=.type "tuple",data:=.seq #[x,y,u]}).get? c=some o →
   ((((h₆.update TO (Obj.mapSeq fun v=>v.setIfInBounds 2 u)).push {cls:=.type "tuple",data:=.seq #[x,y,u]}).update z f).update z k).get? c=some o:=fun f k q e=>aA _ q.symm (aA _ q.symm e)
 have up:∀{c o} (f k:Obj→Obj),c≠z→c≠TO→h₆.get? c=some o→((((h₆.update TO (Obj.mapSeq fun v=>v.setIfInBounds 2 u)).push {cls:=.type "tuple",data:=.seq #[x,y,u]}).update z f).update z k).get? c=some o :=
  fun f k q q' e=>on f k q (au _ (aA _ q'.symm e))
 refine hQ x y u _ t₆ px py pu ?_ ?_ ?_ ?_ ?_ ?_ ?_
 ·exact bC _ (bC _ (au _ (aA _ Z.oz ez6)) rfl) rfl
 ·exact on _ _ Z.oz (au _ kR)
 ·exact D1.frame _ _ _ s₁ fun c hc o e=>up _ _ (nin Z.z1 hc) (nin Z.o1 hc) (q6 _ _ (nin Z.o1 hc) (nin Z.x31 hc) (q4 _ _ (nin Z.o1 hc) (nin Z.x21 hc) e))
 ·exact D2.frame _ _ _ s₂ fun c hc o e=>up _ _ (nin Z.z2 hc) (nin Z.o2 hc) (q6 _ _ (nin Z.o2 hc) (nin Z.x32 hc) e)
 ·exact D3.frame _ _ _ s₃ fun c hc o e=>up _ _ (nin Z.z3 hc) (nin Z.o3 hc) e
 ·exact on _ _ (eL zl) (dD n7.symm rfl)
 ·exact fun c o c1 c2 c3 c4 c5 e=>up _ _ c1 c2 (q6 _ _ c2 c5 (q4 _ _ c2 c4 (q2 _ _ c1 c3 e)))
theorem oQ {Q:Fin→Shared→Prop} (D1:Draws prog w A i1 f1 n1 P1 S1) (m1:i1∈f1) (z1:z∉f1) (hz:IsZip s.heap z TI TO .none) (hTI:iJ s.heap TI (.ref i1) (.ref i2) (.ref i3)) (h1:S1 n1 s.heap)
  (hE:∀h' tk e,(∀c o,c≠z→c≠i1→s.heap.get? c=some o→h'.get? c=some o)→(∃o,h'.get? e=some o∧o.cls=.type "StopIteration")→E (.ref e) {s with heap:=h',toks:=tk}) :
  wpAny (model prog w) A (Builtin.«zip.__next__» ⟨[.ref z],[]⟩) Q E s:=by
 obtain ⟨hp,g,d,tk₀,os⟩:=s
 have kz:=bC (Obj.mapFields fun v=>v.setIfInBounds 0 Value.ellipsis) hz rfl
 have first:S1 n1 (hp.update z (Obj.mapFields fun v=>v.setIfInBounds 0 Value.ellipsis)):=D1.frame _ _ _ h1 fun c hc o e=>aA _ (nin z1 hc).symm e
 unfold Builtin.«zip.__next__»
 wp_walk using AutoSeq1.wpAny_loadPart' hz,AutoSeq1.wpAny_loadPart' hTI,wpAny_onRaise,D1.done _ _ _ first
 rintro h₂ e b₂ ⟨o,ho,hc⟩
 have ez:h₂.get? z=_:=b₂ _ _ (nin z1 m1).symm kz
 have ne:e≠z:=fun q=>by rw [q,ez] at ho;cases ho;exact absurd (Value.type.inj hc) (by decide)
 wp_walk using wpAny_updatePart' ez
 exact hE _ _ _ (fun c o c1 c2 q=>aA _ c1.symm (b₂ _ _ c2 (aA _ c1.symm q))) ⟨o,aA _ ne.symm ho,hc⟩
end
end L2
namespace L2
open PySem PySem.Spec PyProof.Rows
abbrev z3I (h:Heap) (l:Addr):Heap:=h.push {cls:=.type "list_iterator",data:=.fields #[.ref l,.int 0 0]}
abbrev z3L (h:Heap) (l1 l2 l3:Addr):Heap:=z3I (z3I (z3I h l1) l2) l3
abbrev z3T (h:Heap) (l1 l2 l3:Addr):Heap:=(z3L h l1 l2 l3).push {cls:=.type "tuple",data:=.seq #[.ref h.objs.size,.ref (z3I h l1).objs.size,.ref (z3I (z3I h l1) l2).objs.size]}
abbrev z3O (h:Heap) (l1 l2 l3:Addr):Heap:=(z3T h l1 l2 l3).push {cls:=.type "tuple",data:=.seq #[.none,.none,.none]}
abbrev z3Z (h:Heap) (l1 l2 l3:Addr):Heap:=(z3O h l1 l2 l3).push {cls:=.type "zip",data:=.fields #[.none,.bool false,.bool false,.ref (z3L h l1 l2 l3).objs.size,.ref (z3T h l1 l2 l3).objs.size]}
theorem nX (l1 l2 l3:Addr) (xs ys zs:Array Value):Meets (Builtin.«zip.__new__» ⟨[.type "zip",.ref l1,.ref l2,.ref l3],[]⟩) (fun _ R s=>SSq false s.heap l1 xs∧SSq false s.heap l2 ys∧SSq false s.heap l3 zs∧R (.ok (.ret (.ref (z3O s.heap l1 l2 l3).objs.size))) {s with heap:=z3Z s.heap l1 l2 l3}) :=
 .of_wp fun prog w A R s h=>by
  obtain ⟨hp,g,d,tk,os⟩:=s;obtain ⟨hl1,hl2,hl3,h⟩:=h;have hsub:=sub_zip
  have A1:(Shared.heap ⟨hp,g,d,tk,os⟩).IsList l1 xs:=hl1
  have A2:(Shared.heap ⟨z3I hp l1,g,d,tk,os⟩).IsList l2 ys:=SSq.keep (b:=false) hl2 fun o e=>au _ e
  have A3:(Shared.heap ⟨z3I (z3I hp l1) l2,g,d,tk,os⟩).IsList l3 zs:=SSq.keep (b:=false) hl3 fun o e=>au _ (au _ e)
  wp_walk using wpAny_pyIter_list A1,wpAny_pyIter_list A2,wpAny_pyIter_list A3
  exact ⟨_,rfl,h⟩
theorem lR (a b c:Value):checkTypeCall "zip" ⟨[a,b,c],[]⟩=pure ():=by kernel_rfl
theorem nV (a b c:Value):checkBuiltinCall "zip.__new__" ⟨[.type "zip",a,b,c],[]⟩=pure ():=by kernel_rfl
theorem uz (o a b c:Value):argsOk "object.__init__" ⟨[o,a,b,c],[]⟩:=by unfold argsOk;kernel_rfl
section
variable {prog:Program} {w:World} {A:Around} {E:Value→Shared→Prop} {s:Shared}
theorem qO {l1 l2 l3:Addr} {xs ys zs:Array Value} {Q:Value→Shared→Prop} (hl1:SSq false s.heap l1 xs) (hl2:SSq false s.heap l2 ys) (hl3:SSq false s.heap l3 zs)
  (h:∀n h',n=s.heap.objs.size→IsZip h' (n+5) (n+3) (n+4) .none→iJ h' (n+3) (.ref n) (.ref (n+1)) (.ref (n+2))→iJ h' (n+4) .none .none .none→SIt false h' n l1 0→SIt false h' (n+1) l2 0→SIt false h' (n+2) l3 0→(∀c o,s.heap.get? c=some o→h'.get? c=some o)→Q (.ref (n+5)) {s with heap:=h'}) :
  wpAny (model prog w) A (call (.type "zip") [.ref l1,.ref l2,.ref l3]) Q E s:=by
 refine callType_new F.called_zip (by decide) (lR _ _ _) (nV _ _ _) (fun obj=>uz obj _ _ _) F.entry_zip_new (nX l1 l2 l3 xs ys zs) ⟨hl1,hl2,hl3,?_⟩
 have sz:∀(h:Heap) (o:Obj) (n:Nat),h.objs.size=n→(h.push o).objs.size=n+1:=fun h o n e=>by rw [cG,e]
 have old:∀{h:Heap} {o u:Obj} {a:Addr},h.get? a=some u→(h.push o).get? a=some u:=fun e=>au _ e
 obtain ⟨n,hn⟩:∃n,n=s.heap.objs.size:=⟨_,rfl⟩
 have z1:=sz s.heap {cls:=.type "list_iterator",data:=.fields #[.ref l1,.int 0 0]} n hn.symm
 have z2:=sz _ {cls:=.type "list_iterator",data:=.fields #[.ref l2,.int 0 0]} _ z1
 have z3:=sz _ {cls:=.type "list_iterator",data:=.fields #[.ref l3,.int 0 0]} _ z2
 have z4:=sz (z3L s.heap l1 l2 l3) {cls:=.type "tuple",data:=.seq #[.ref s.heap.objs.size,.ref (z3I s.heap l1).objs.size,.ref (z3I (z3I s.heap l1) l2).objs.size]} _ z3
 have z5:=sz (z3T s.heap l1 l2 l3) {cls:=.type "tuple",data:=.seq #[.none,.none,.none]} _ z4
 have k1:(z3I s.heap l1).get? n=some {cls:=.type "list_iterator",data:=.fields #[.ref l1,.int 0 0]}:=dD hn rfl
 have k2:(z3I (z3I s.heap l1) l2).get? (n+1)=some {cls:=.type "list_iterator",data:=.fields #[.ref l2,.int 0 0]}:=dD z1.symm rfl
 have k3:(z3L s.heap l1 l2 l3).get? (n+2)=some {cls:=.type "list_iterator",data:=.fields #[.ref l3,.int 0 0]}:=dD z2.symm rfl
 have k4:iJ (z3T s.heap l1 l2 l3) (n+3) (.ref n) (.ref (n+1)) (.ref (n+2)):=(dD z3.symm rfl).trans (by rw [←hn,z1,z2])
 have k5:iJ (z3O s.heap l1 l2 l3) (n+4) .none .none .none:=dD z4.symm rfl
 have k6:IsZip (z3Z s.heap l1 l2 l3) (n+5) (n+3) (n+4) .none:=(dD z5.symm rfl).trans (by rw [z3,z4])
 show _∧_
 rw [z5]
 exact ⟨⟨_,k6,rfl⟩,h n _ hn k6 (old (old k4)) (old k5) ⟨_,old (old (old (old (old k1)))),rfl,rfl⟩ ⟨_,old (old (old (old k2))),rfl,rfl⟩ ⟨_,old (old (old k3)),rfl,rfl⟩ fun c o x=>old (old (old (old (old (old x)))))⟩
end
def Ad (K:ai) (a1 a2 a3:Addr) (xs ys zs:List V):It :=
 ⟨fun i H=>SqL K H a1 xs∧SqL K H a2 ys∧SqL K H a3 zs∧i<xs.length,fun i H x H'=>∃p,x=.ref p∧H p=none∧H'=upd H p (.tup [xs.getD i .non,ys.getD i .non,zs.getD i .non]),fun i H=>SqL K H a1 xs∧SqL K H a2 ys∧SqL K H a3 zs∧i=xs.length⟩
theorem oV {P:Program} {w:World} {K:ai} {elts:List Expr} {kx} {pos:Pos} (a1 a2 a3 n:Addr) (xs ys zs:List V) (hy:ys.length=xs.length) (hz:zs.length=xs.length) :
  Turn P w K (.Tuple elts kx pos) (Ad K a1 a2 a3 xs ys zs) [n+5,n+3,n+4,n,n+1,n+2] (n+5) (fun i h=>IsZip h (n+5) (n+3) (n+4) .none∧iJ h (n+3) (.ref n) (.ref (n+1)) (.ref (n+2))∧(∃a b c,iJ h (n+4) a b c)∧SIt false h n a1 i∧SIt false h (n+1) a2 i∧SIt false h (n+2) a3 i) where
 mem:=by simp
 obj:=fun i h st b hb=>by
  obtain ⟨k1,k2,⟨a,b',c',k3⟩,k4,k5,k6⟩:=st
  simp only [bq,dA,or_false] at hb
  rcases hb with rfl | rfl | rfl | rfl | rfl | rfl
  ·exact ⟨_,k1,fun v z=>by cases z⟩
  ·exact ⟨_,k2,fun v z=>by cases z⟩
  ·exact ⟨_,k3,fun v z=>by cases z⟩
  ·exact k4.obj
  ·exact k5.obj
  ·exact k6.obj
 keep:=fun i h h' st k=>by
  obtain ⟨k1,k2,⟨a,b',c',k3⟩,k4,k5,k6⟩:=st
  exact ⟨k _ (by simp) _ k1,k _ (by simp) _ k2,⟨a,b',c',k _ (by simp) _ k3⟩,k4.keep fun o e=>k _ (by simp) o e,k5.keep fun o e=>k _ (by simp) o e,k6.keep fun o e=>k _ (by simp) o e⟩
 item:=by
  intro X hP hw hK hc i pins s σ H E I hf st hg
  subst hP hw hK
  obtain ⟨k1,k2,⟨a,b',c',k3⟩,k4,k5,k6⟩:=st
  obtain ⟨q1,q2,q3,hx⟩:=hg
  obtain ⟨its1,r1,p1,w1⟩:=I.src (b:=false) q1
  obtain ⟨its2,r2,p2,w2⟩:=I.src (b:=false) q2
  obtain ⟨its3,r3,p3,w3⟩:=I.src (b:=false) q3
  have fz:=hf (n+5) (by simp);have fo:=hf (n+4) (by simp);have f1:=hf n (by simp);have f2:=hf (n+1) (by simp);have f3:=hf (n+2) (by simp)
  have hT:s.TypeIs (.ref (n+5)) "zip":=⟨_,k1,rfl⟩
  have D1:=fu (prog:=X.prog) (w:=X.w) (A:=X.A.in1) (I.ok.hd hc) false n a1 (I.fV (b:=false) q1 f1) its1.toArray
  have D2:=fu (prog:=X.prog) (w:=X.w) (A:=X.A.in1) (I.ok.hd hc) false (n+1) a2 (I.fV (b:=false) q2 f2) its2.toArray
  have D3:=fu (prog:=X.prog) (w:=X.w) (A:=X.A.in1) (I.ok.hd hc) false (n+2) a3 (I.fV (b:=false) q3 f3) its3.toArray
  have g:∀{d b:Addr} {us:List V},SqL X.K H d us→lO X pins H b→b≠d:=fun q f=>(I.fV (b:=false) q f).symm
  have Z:ZA3 (n+5) (n+4) n (n+1) (n+2) [n,a1] [n+1,a2] [n+2,a3]:=⟨by simp,by simp,by simp,by simp [g q1 fz],by simp [g q2 fz],by simp [g q3 fz],by simp [g q1 fo],by simp [g q2 fo],by simp [g q3 fo],by simp [g q2 f1],by simp [g q3 f1],by simp [g q1 f2],by simp [g q3 f2],by simp [g q1 f3],by simp [g q2 f3],by simp⟩
  have len1:=r1.length;have len2:=r2.length;have len3:=r3.length
  unfold pyNext
  refine wpAny_bind (wpAny_attempt (wpAny_callSpecial?_slot (name:=Str.ofString "__next__") hT F.slot_zip_next (wpAny_call_entry F.slot_zip_next hT F.entry_zip_next
   (nO D1 D2 D3 Z k1 k2 k3 ⟨k4,p1⟩ ⟨k5,p2⟩ ⟨k6,p3⟩ (by simp;omega) (by simp;omega) (by simp;omega) fun x y u h' tk px py pu hz' hTO' s1 s2 s3 hT' hk=>wpAny_pure ?_) (F.args_zip_next_1 _))))
  have r:Vals [xs.getD i .non,ys.getD i .non,zs.getD i .non] [x,y,u]:=.cons (h_ r1 px) (.cons (h_ r2 py) (.cons (h_ r3 pu) .nil))
  have I1:Inv X pins σ (upd H s.heap.objs.size (.tup [xs.getD i .non,ys.getD i .non,zs.getD i .non])) {s with heap:=h',toks:=tk} :=
   I.iL (t':=tk) hf (fun c o hc e=>hk c o (fun q=>hc (by simp [q])) (fun q=>hc (by simp [q])) (fun q=>hc (by simp [q])) (fun q=>hc (by simp [q])) (fun q=>hc (by simp [q])) e) r (by show 3≤sizeLine;decide) ⟨_,hT',rfl,_,rfl⟩
  have nH:H s.heap.objs.size=none:=I.hok.fresh (aO _)
  have fresh:∀b∈[n+5,n+3,n+4,n,n+1,n+2],(upd H s.heap.objs.size (.tup [xs.getD i .non,ys.getD i .non,zs.getD i .non])) b=none:=fun b hb=>by
   rw [bX ?_]
   ·exact (hf b hb).1
   ·have hl:=aR k1
    simp only [bq,dA,or_false] at hb
    have le:∀j,j≤5→n+j≠s.heap.objs.size:=fun j hj=>bj (Nat.lt_of_le_of_lt (Nat.add_le_add_left hj n) hl)
    rcases hb with rfl | rfl | rfl | rfl | rfl | rfl<;>first | exact le 5 (by decide) | exact le 3 (by decide) | exact le 4 (by decide) | exact le 0 (by decide) | exact le 1 (by decide) | exact le 2 (by decide)
  obtain ⟨f0,f1',f2',f3',f4',f5'⟩:=fz
  refine ⟨_,rfl,wpAny_letOwnedTupleGo_zip hz' fun h2' hz2 sb=>⟨.ref s.heap.objs.size,_,I1.turned (t':=tk) (fun b o hb e=>(sb.2 b hb).trans e) (fresh (n+5) (by simp)) f1' f3' f4' f5',rfl,⟨_,rfl,nH,rfl⟩,⟨hz2,?_,⟨x,y,u,?_⟩,?_,?_,?_⟩,fresh⟩⟩
  ·exact (sb.2 (n+3) (by simp)).trans (hk _ _ (by simp) (by simp) (by simp) (by simp) (by simp) k2)
  ·exact (sb.2 (n+4) (by simp)).trans hTO'
  ·exact s1.1.keep fun o e=>(sb.2 n (by simp)).trans e
  ·exact s2.1.keep fun o e=>(sb.2 (n+1) (by simp)).trans e
  ·exact s3.1.keep fun o e=>(sb.2 (n+2) (by simp)).trans e
 done:=by
  intro X hP hw hK hc i pins s σ H E I hf st hg
  subst hP hw hK
  obtain ⟨k1,k2,⟨a,b',c',k3⟩,k4,k5,k6⟩:=st
  obtain ⟨q1,q2,q3,rfl⟩:=hg
  obtain ⟨its1,r1,p1,w1⟩:=I.src (b:=false) q1
  have fz:=hf (n+5) (by simp);have f1:=hf n (by simp)
  have hT:s.TypeIs (.ref (n+5)) "zip":=⟨_,k1,rfl⟩
  have D1:=fu (prog:=X.prog) (w:=X.w) (A:=X.A.in1) (I.ok.hd hc) false n a1 (I.fV (b:=false) q1 f1) its1.toArray
  have len1:its1.toArray.size=xs.length:=by simp [r1.length]
  rw [len1] at D1
  unfold pyNext
  refine wpAny_bind (wpAny_attempt (wpAny_callSpecial?_slot (name:=Str.ofString "__next__") hT F.slot_zip_next (wpAny_call_entry F.slot_zip_next hT F.entry_zip_next
   (oQ D1 (by simp) (by simp [(I.fV (b:=false) q1 fz).symm]) k1 k2 ⟨k4,p1⟩ fun h' tk e hk he=>?_) (F.args_zip_next_1 _))))
  obtain ⟨o,ho,hcl⟩:=he
  refine wpAny_bind (wpAny_isInstance (T:="StopIteration") (b:=true) ⟨o,ho,hcl⟩ isSubtype_stop ?_)
  exact wpAny_pure ⟨rfl,I.jj (t':=tk) hf fun c o hc e=>hk c o (fun q=>hc (by simp [q])) (fun q=>hc (by simp [q])) e⟩
 self:=fun A i s Q E st h=>wpAny_pyIter_zip st.1 h
theorem rN {K:ai} {a1 a2 a3:Addr} {xs ys zs:List V}:ItP (Ad K a1 a2 a3 xs ys zs) xs.length (fun i=>[xs.getD i .non,ys.getD i .non,zs.getD i .non]) (fun H=>SqL K H a1 xs∧SqL K H a2 ys∧SqL K H a3 zs) where
 go:=fun i H c hi=>⟨c.1,c.2.1,c.2.2,hi⟩
 yld:=fun i H x H' c hi y=>y
 stop:=fun H c=>⟨c.1,c.2.1,c.2.2,rfl⟩
def zt (K:ai) (ta:TA):TI:=fun σ H R=>ta σ H fun vs H1=>∃(a1 a2 a3:Addr) (xs ys zs:List V),vs=[.ref a1,.ref a2,.ref a3]∧SqL K H1 a1 xs∧SqL K H1 a2 ys∧SqL K H1 a3 zs∧ys.length=xs.length∧zs.length=xs.length ∧
 ∀J C,ItP J xs.length (fun i=>[xs.getD i .non,ys.getD i .non,zs.getD i .non]) C→(∀H2,SqL K H2 a1 xs→SqL K H2 a2 ys→SqL K H2 a3 zs→C H2)→R J H1
theorem vals3 {x y z:V} {us:List Value} (h:Vals [x,y,z] us):∃u v t,us=[u,v,t]∧RelV x u∧RelV y v∧RelV z t:=by
 obtain _ | ⟨a,h⟩:=h
 obtain _ | ⟨b,h⟩:=h
 obtain _ | ⟨c,h⟩:=h
 cases h
 exact ⟨_,_,_,rfl,a,b,c⟩
section
variable {X:Cx} {K:ai} {elts:List Expr} {kx:Nat} {tpos:Pos}
theorem tZ {a b d:Expr} {ta:TA} {p pos:Pos} (hK:X.K=K) (hg:Gl X "zip") (hm:X.mg "zip"=none) (ha:PA X [a,b,d] ta) (hs:starEach [a,b,d] X.env=[(false,eval a X.env),(false,eval b X.env),(false,eval d X.env)]:=by rfl) (hs2:starEach [b,d] X.env=[(false,eval b X.env),(false,eval d X.env)]:=by rfl) :
  PI X (.Tuple elts kx tpos) (.Call (.Name "zip" p) [a,b,d] [] pos) (zt K ta):=by
 subst hK
 intro pins s σ H R I h
 refine Call_ (gw I hg hm boot_zip (bE (thn (ha pos pins s σ H _ I h) fun us s1 ⟨vs,H1,I1,r1,q1⟩=>?_) (by rw [hs,hs2]) (by rw [hs2];rfl)))
 obtain ⟨a1,a2,a3,xs,ys,zs,e,q1,q2,q3,hy,hz,q⟩:=q1
 subst e
 obtain ⟨u,v,t,rfl,rx,ry,rz⟩:=vals3 r1
 cases rx;cases ry;cases rz
 obtain ⟨its1,rv1,p1,_⟩:=I1.src (b:=false) q1
 obtain ⟨its2,rv2,p2,_⟩:=I1.src (b:=false) q2
 obtain ⟨its3,rv3,p3,_⟩:=I1.src (b:=false) q3
 refine qO p1 p2 p3 fun n h' hn k1 k2 k3 k4 k5 k6 hk=>wpAny_pyIter_zip k1 ?_
 have I2:Inv X pins σ H1 {s1 with heap:=h'}:=I1.kept (t':=s1.toks) hk
 refine ⟨_,[n+5,n+3,n+4,n,n+1,n+2],_,_,H1,rfl,I2,oV a1 a2 a3 n xs ys zs hy hz,⟨k1,k2,⟨_,_,_,k3⟩,k4,k5,k6⟩,fun b hb=>?_,q _ _ rN fun H2 g1 g2 g3=>⟨g1,g2,g3⟩⟩
 have:s1.heap.objs.size≤b:=by
  rw [←hn]
  simp only [bq,dA,or_false] at hb
  rcases hb with rfl | rfl | rfl | rfl | rfl | rfl<;>first | exact Nat.le_add_right _ _ | exact aO _
 exact I1.u_ this (I1.hok.fresh this)
end
end L2
namespace L2
open PySem
def stE (es:List (Int×Int)) (s:Int×Int):Int:=if s.2=1 then (aX es s.1).2 else (aX es s.1).1
def stB (es:List (Int×Int)) (s:Int×Int):Int:=if s.2=1 then (aX es s.1).1 else (aX es s.1).2
def StV (es:List (Int×Int)) (s:Int×Int):Prop:=0≤s.1∧s.1<(es.length:Int)∧(s.2=1∨s.2=-1)
def rmN (as lo hi:List Int):List (Int×Int):=(bF as.length).map fun i=>(hi.getD i 0-as.getD i 0,as.getD i 0-lo.getD i 0)
def rmA (rm:List (Int×Int)) (s:Int×Int):Int:=if s.2=1 then (rm.getD s.1.toNat (0,0)).1 else (rm.getD s.1.toNat (0,0)).2
theorem iM (as lo hi:List Int):(rmN as lo hi).length=as.length:=by unfold rmN;rw [ae,cu]
theorem kM {as lo hi:List Int} {i:Nat} (h:i<as.length):(rmN as lo hi).getD i (0,0)=(hi.getD i 0-as.getD i 0,as.getD i 0-lo.getD i 0):=by
 unfold rmN
 rw [aa,br,List.getElem?_range h];rfl
def stN (es rm:List (Int×Int)) (p:Int):Nat→List (Int×Int)
 | 0=>[]
 | i+1=>(stN es rm p i++if (es.getD i (0,0)).1=p∧0<(rm.getD i (0,0)).1 then [((i:Int),(1:Int))] else [])++if (es.getD i (0,0)).2=p∧0<(rm.getD i (0,0)).2 then [((i:Int),(-1:Int))] else []
theorem pP {es rm:List (Int×Int)} {p:Int} {s:Int×Int}:∀{n:Nat},n≤es.length→s∈stN es rm p n→StV es s∧stB es s=p∧0<rmA rm s
 | 0,_,h=>nomatch h
 | n+1,hn,h=>by
  rcases aF.mp h with h | h
  ·rcases aF.mp h with h | h
   ·exact pP (by omega) h
   ·split at h
    ·rename_i c
     rw [ao.mp h]
     exact ⟨⟨by show 0≤(n:Int);omega,by show (n:Int)<_;omega,.inl rfl⟩,c.1,c.2⟩
    ·cases h
  ·split at h
   ·rename_i c
    rw [ao.mp h]
    exact ⟨⟨by show 0≤(n:Int);omega,by show (n:Int)<_;omega,.inr rfl⟩,c.1,c.2⟩
   ·cases h
theorem lT {es rm:List (Int×Int)} {p:Int} {i:Nat}:∀{n:Nat},i<n→((es.getD i (0,0)).1=p→0<(rm.getD i (0,0)).1→((i:Int),(1:Int))∈stN es rm p n)∧((es.getD i (0,0)).2=p→0<(rm.getD i (0,0)).2→((i:Int),(-1:Int))∈stN es rm p n)
 | 0,h=>absurd h (bM _)
 | n+1,h=>by
  by_cases c:i<n
  ·obtain ⟨h1,h2⟩:=lT (es:=es) (rm:=rm) (p:=p) c
   exact ⟨fun a b=>aK _ (aK _ (h1 a b)),fun a b=>aK _ (aK _ (h2 a b))⟩
  ·obtain rfl:i=n:=by omega
   refine ⟨fun a b=>aK _ (aG _ ?_),fun a b=>aG _ ?_⟩
   ·rw [if_pos ⟨a,b⟩];exact ao.mpr rfl
   ·rw [if_pos ⟨a,b⟩];exact ao.mpr rfl
def tG (es:List (Int×Int)) (p:Int) (S:List Int×(Int→List (Int×Int))) (s:Int×Int):List Int×(Int→List (Int×Int)) :=
 if stE es s∈S.1 then S else (S.1++[stE es s],fun z=>if z=stE es s then S.2 p++[s] else S.2 z)
def yo (es rm:List (Int×Int)) (S:List Int×(Int→List (Int×Int))) (k:Nat):List Int×(Int→List (Int×Int)):=(stN es rm (S.1.getD k 0) es.length).foldl (tG es (S.1.getD k 0)) S
def uZ (es rm:List (Int×Int)):Nat→List Int×(Int→List (Int×Int))→Nat→List Int×(Int→List (Int×Int))
 | 0,S,_=>S
 | n+1,S,k=>if k<S.1.length then uZ es rm n (yo es rm S k) (k+1) else S
def wwr (es rm:List (Int×Int)) (a:Int) (m:Nat):List Int×(Int→List (Int×Int)):=uZ es rm m ([a],fun _=>[]) 0
theorem rp {es rm:List (Int×Int)} {S:List Int×(Int→List (Int×Int))} {k:Nat} (h:¬k<S.1.length):∀n,uZ es rm n S k=S
 | 0=>rfl
 | n+1=>if_neg h
inductive jM (es rm:List (Int×Int)) (a:Int):List (Int×Int)→List Int→Int→Prop
 | nil:jM es rm a [] [] a
 | snoc {ss:List (Int×Int)} {ps:List Int} {p:Int} {s:Int×Int}:jM es rm a ss ps p→StV es s→stB es s=p→0<rmA rm s→¬stE es s∈ps++[p]→jM es rm a (ss++[s]) (ps++[p]) (stE es s)
section
variable {es rm:List (Int×Int)} {a p:Int} {ss:List (Int×Int)} {ps:List Int}
theorem jM.nd (h:jM es rm a ss ps p):(ps++[p]).Nodup:=by
 induction h with
 | nil=>simp
 | snoc _ _ _ _ hn ih=>exact fI ih hn
theorem jM.len (h:jM es rm a ss ps p):ss.length=ps.length:=by
 induction h with
 | nil=>rfl
 | snoc _ _ _ _ _ ih=>rw [aw,aw,ih];rfl
theorem jM.first (h:jM es rm a ss ps p):a∈ps++[p]:=by
 induction h with
 | nil=>exact ao.mpr rfl
 | snoc _ _ _ _ _ ih=>exact aK _ ih
theorem jM.step (h:jM es rm a ss ps p):∀s∈ss,StV es s∧0<rmA rm s∧stE es s≠a∧stE es s∈ps++[p]∧stB es s∈ps++[p]:=by
 induction h with
 | nil=>exact fun s hs=>nomatch hs
 | @snoc ss ps p s h hv hb hr hn ih =>
  intro t ht
  rcases aF.mp ht with y | y
  ·obtain ⟨h1,h2,h3,h4,h5⟩:=ih t y
   exact ⟨h1,h2,h3,aK _ h4,aK _ h5⟩
  ·rw [ao.mp y]
   exact ⟨hv,hr,fun e=>hn (e▸h.first),aG _ (ao.mpr rfl),by rw [hb];exact aK _ (aG _ (ao.mpr rfl))⟩
theorem tH {s t:Int×Int} (e:s.1=t.1):stE es s=stE es t∨stE es s=stB es t:=by
 unfold stE stB
 rw [e]
 by_cases c1:s.2=1<;>by_cases c2:t.2=1<;>simp [c1,c2]
theorem jM.tnd (h:jM es rm a ss ps p):(ss.map (·.1)).Nodup:=by
 induction h with
 | nil=>simp
 | @snoc ss ps p s h hv hb hr hn ih =>
  rw [aH]
  refine fI ih fun ht=>?_
  obtain ⟨t,h1,h2⟩:=b_.mp ht
  obtain ⟨_,_,_,q1,q2⟩:=h.step t h1
  rcases tH (es:=es) (show s.1=t.1 from h2.symm) with e | e
  ·exact hn (e▸q1)
  ·exact hn (e▸q2)
end
def psh (as:List Int) (ss:List (Int×Int)) (z:Int):List Int:=ss.foldl (fun as s=>as.set s.1.toNat (as.getD s.1.toNat 0+s.2*z)) as
theorem hV (as:List Int) (ss:List (Int×Int)) (s:Int×Int) (z:Int):psh as (ss++[s]) z=(psh as ss z).set s.1.toNat ((psh as ss z).getD s.1.toNat 0+s.2*z):=by unfold psh;rw [List.foldl_append];rfl
theorem ik (as:List Int) (z:Int) (ss:List (Int×Int)):(psh as ss z).length=as.length:=by
 induction ss generalizing as with
 | nil=>rfl
 | cons s ss ih=>exact (ih _).trans (bN ..)
theorem nF {es:List (Int×Int)} {as:List Int} {s:Int×Int} {z:Int} (hl:as.length=es.length) (hv:StV es s) (p:Int):dp p es (as.set s.1.toNat (as.getD s.1.toNat 0+s.2*z)) es.length=dp p es as es.length+(if stE es s=p then z else 0)-(if stB es s=p then z else 0):=by
 obtain ⟨h0,h1,h2⟩:=hv
 rw [lB p es as _ _ (by omega),if_pos (by omega)]
 unfold stE stB aX
 have e:as.getD s.1.toNat 0+s.2*z-as.getD s.1.toNat 0=s.2*z:=by omega
 rw [e]
 rcases h2 with c | c
 ·rw [c,if_pos rfl,if_pos rfl,dW];omega
 ·rw [c,if_neg (show ¬(-1:Int)=1 by decide),if_neg (show ¬(-1:Int)=1 by decide),fL,dW]
  split<;>split<;>omega
theorem jM.dp {es rm:List (Int×Int)} {a q:Int} {ss:List (Int×Int)} {ps:List Int} (h:jM es rm a ss ps q) {as:List Int} {z:Int} (hl:as.length=es.length) (p:Int):dp p es (psh as ss z) es.length=L2.dp p es as es.length+(if q=p then z else 0)-(if a=p then z else 0):=by
 induction h with
 | nil=>show L2.dp p es as _=_;omega
 | @snoc ss ps q s h hv hb hr hn ih =>
  rw [hV,nF ((ik ..).trans hl) hv p,ih,hb];omega
theorem jM.ring {es rm:List (Int×Int)} {ss:List (Int×Int)} {ps:List Int} {s:Int×Int} (h:jM es rm (stE es s) ss ps (stB es s)) (hv:StV es s) {as:List Int} {z:Int} (hl:as.length=es.length) (p:Int):L2.dp p es (psh as (ss++[s]) z) es.length=L2.dp p es as es.length:=by
 rw [hV,nF ((ik ..).trans hl) hv p,h.dp hl p];omega
theorem jl {z:Int} {t:Nat} {ss:List (Int×Int)}:∀{as:List Int},(∀s∈ss,s.1.toNat≠t)→(psh as ss z).getD t 0=as.getD t 0:=by
 induction ss with
 | nil=>intro as _;rfl
 | cons s ss ih =>
  intro as h
  have e:=ih (as:=as.set s.1.toNat (as.getD s.1.toNat 0+s.2*z)) fun u hu=>h u (aW _ hu)
  refine Eq.trans e ?_
  rw [aa,dw (h s aU),aa]
theorem sI {es:List (Int×Int)} {z:Int} {s:Int×Int} {ss:List (Int×Int)}:∀{as:List Int},as.length=es.length→(∀u∈ss,StV es u)→(ss.map (·.1)).Nodup→s∈ss→(psh as ss z).getD s.1.toNat 0=as.getD s.1.toNat 0+s.2*z:=by
 induction ss with
 | nil=>intro as _ _ _ h;cases h
 | cons u ss ih =>
  intro as hl hv hn hs
  rw [bf,dJ] at hn
  have hu:=hv u aU
  have hl2:(as.set u.1.toNat (as.getD u.1.toNat 0+u.2*z)).length=es.length:=(bN ..).trans hl
  rcases bq.mp hs with y | y
  ·subst y
   have e:=jl (z:=z) (t:=s.1.toNat) (ss:=ss) (as:=as.set s.1.toNat (as.getD s.1.toNat 0+s.2*z)) fun v hv' e=>by
    have:=hv v (aW _ hv')
    have e':v.1=s.1:=by have:=this.1;have:=hu.1;omega
    exact hn.1 (e'▸b_.mpr ⟨v,hv',rfl⟩)
   refine Eq.trans e ?_
   rw [eR _ _ _ _ (by have:=hu.1;have:=hu.2.1;omega),if_pos rfl]
  ·have e:=ih hl2 (fun v h=>hv v (aW _ h)) hn.2 y
   refine Eq.trans e ?_
   have hne:u.1.toNat≠s.1.toNat:=fun e=>by
    have e':s.1=u.1:=by have:=(hv s (aW _ y)).1;have:=hu.1;omega
    exact hn.1 (e'▸b_.mpr ⟨s,y,rfl⟩)
   rw [aa,dw hne,aa]
def nE (a l h:Int):Int:=if a<l then l-a else if a>h then h-a else 0
def d_ (as lo hi:List Int) (i:Nat):Int:=nE (as.getD i 0) (lo.getD i 0) (hi.getD i 0)
theorem qB {a l h:Int} (e:nE a l h=0):l≤a∧a≤h:=by
 unfold nE at e
 split at e
 ·omega
 ·split at e<;>omega
def gk (i:Nat) (d:Int):Int×Int:=((i:Int),if d>0 then 1 else -1)
theorem sq {es:List (Int×Int)} {i:Nat} (h:i<es.length) (d:Int):StV es (gk i d):=by
 refine ⟨by show 0≤(i:Int);omega,by show (i:Int)<_;omega,?_⟩
 show (if d>0 then (1:Int) else -1)=1∨(if d>0 then (1:Int) else -1)=-1
 split
 ·exact .inl rfl
 ·exact .inr rfl
theorem qC {a l h d z:Int} (hlh:l≤h) (e:nE a l h=d) (hd:d≠0) (z0:0<z) (z1:z≤(if d<0 then -d else d)):(nE (a+(if d>0 then 1 else -1)*z) l h).natAbs<d.natAbs:=by
 unfold nE at e
 by_cases c:a<l
 ·rw [if_pos c] at e
  rw [if_neg (show ¬d<0 by omega)] at z1
  rw [if_pos (show d>0 by omega),dW]
  unfold nE
  split
  ·omega
  ·split<;>omega
 ·rw [if_neg c] at e
  by_cases c2:a>h
  ·rw [if_pos c2] at e
   rw [if_pos (show d<0 by omega)] at z1
   rw [if_neg (show ¬d>0 by omega),fL,dW]
   unfold nE
   split
   ·omega
   ·split<;>omega
  ·rw [if_neg c2] at e;exact absurd e.symm hd
structure BtI (es:List (Int×Int)) (lo hi:List Int) (i:Nat) (as:List Int):Prop where
 len:as.length=es.length
 qu:∀p:Int,dp p es as es.length=0
 past:∀t,t<i→lo.getD t 0≤as.getD t 0∧as.getD t 0≤hi.getD t 0
theorem sm {rm:List (Int×Int)} {d z:Int} {ss:List (Int×Int)} (hd:d≠0) (hr:∀s∈ss,0<rmA rm s) (h:z∈(if d<0 then -d else d)::ss.map (rmA rm)):0<z:=by
 rcases bq.mp h with y | y
 ·rw [y];split<;>omega
 ·obtain ⟨s,h1,h2⟩:=b_.mp y
  rw [←h2];exact hr s h1
theorem oR {es:List (Int×Int)} {as lo hi:List Int} {i:Nat} {ss:List (Int×Int)} {ps:List Int} {q:Int} (hi':i<es.length) (hl:as.length=es.length) (hd:d_ as lo hi i≠0) (hlh:lo.getD i 0≤hi.getD i 0)
  (h:jM es (rmN as lo hi) (stE es (gk i (d_ as lo hi i))) ss ps q):∀s∈ss,s.1≠(i:Int):=fun s hs e=>by
 obtain ⟨hv,hr,hne,_⟩:=h.step s hs
 unfold rmA at hr
 rw [e,bz,kM (by omega)] at hr
 unfold d_ nE at hd hne
 unfold stE gk at hne
 rw [e] at hne
 rcases hv.2.2 with c | c
 ·rw [c,if_pos rfl] at hne
  rw [c,if_pos rfl] at hr
  split at hd
  ·rename_i c1
   rw [if_pos c1] at hne
   rw [if_pos (show lo.getD i 0-as.getD i 0>0 by omega)] at hne
   exact hne (by simp)
  ·split at hd
   ·dsimp only at hr;omega
   ·exact hd rfl
 ·rw [c,if_neg (by decide)] at hne hr
  split at hd
  ·dsimp only at hr;omega
  ·split at hd
   ·rename_i c1 c2
    rw [if_neg c1,if_pos c2] at hne
    rw [if_neg (show ¬hi.getD i 0-as.getD i 0>0 by omega)] at hne
    exact hne (by simp)
   ·exact hd rfl
theorem BtI.next {es:List (Int×Int)} {lo hi as:List Int} {i:Nat} {z:Int} {ss:List (Int×Int)} {ps:List Int} (I:BtI es lo hi i as) (hi':i<es.length) (hlh:∀t,t<es.length→lo.getD t 0≤hi.getD t 0) (hd:d_ as lo hi i≠0)
  (h:jM es (rmN as lo hi) (stE es (gk i (d_ as lo hi i))) ss ps (stB es (gk i (d_ as lo hi i)))) (hz:z∈(if d_ as lo hi i<0 then -d_ as lo hi i else d_ as lo hi i)::ss.map (rmA (rmN as lo hi))) (hm:∀y∈(if d_ as lo hi i<0 then -d_ as lo hi i else d_ as lo hi i)::ss.map (rmA (rmN as lo hi)),z≤y) :
  BtI es lo hi i (psh as (ss++[gk i (d_ as lo hi i)]) z)∧(d_ (psh as (ss++[gk i (d_ as lo hi i)]) z) lo hi i).natAbs<(d_ as lo hi i).natAbs:=by
 have z0:0<z:=sm hd (fun s hs=>(h.step s hs).2.1) hz
 have hv:=sq hi' (d_ as lo hi i)
 have hno:=oR hi' I.len hd (hlh i hi') h
 have hvs:∀u∈ss,StV es u:=fun u hu=>(h.step u hu).1
 have ei:(psh as ss z).getD i 0=as.getD i 0:=jl fun s hs e=>hno s hs (by have:=(hvs s hs).1;omega)
 have gi:(psh as (ss++[gk i (d_ as lo hi i)]) z).getD i 0=as.getD i 0+(if d_ as lo hi i>0 then 1 else -1)*z:=by
  rw [hV]
  show ((psh as ss z).set ((i:Int)).toNat _).getD i 0=_
  rw [bz,eR _ _ _ _ (by rw [ik,I.len];exact hi'),if_pos rfl]
  show (psh as ss z).getD ((i:Int)).toNat 0+_=_
  rw [bz,ei];rfl
 refine ⟨⟨(ik ..).trans I.len,fun p=>(h.ring hv I.len p).trans (I.qu p),fun t ht=>?_⟩,?_⟩
 ·have gt:(psh as (ss++[gk i (d_ as lo hi i)]) z).getD t 0=(psh as ss z).getD t 0:=by
   rw [hV]
   show ((psh as ss z).set ((i:Int)).toNat _).getD t 0=_
   rw [bz,eR _ _ _ _ (by rw [ik,I.len];exact hi'),if_neg (by omega)]
  rw [gt]
  obtain ⟨b1,b2⟩:=I.past t ht
  by_cases hs:∃s∈ss,s.1.toNat=t
  ·obtain ⟨s,hs,es'⟩:=hs
   have e:=sI (z:=z) I.len hvs h.tnd hs
   rw [es'] at e
   rw [e]
   have hr:=hm (rmA (rmN as lo hi) s) (aW _ (b_.mpr ⟨s,hs,rfl⟩))
   unfold rmA at hr
   rw [es',kM (by rw [I.len];omega)] at hr
   rcases (hvs s hs).2.2 with c | c
   ·rw [c,if_pos rfl] at hr
    rw [c,dW]
    have hr':z≤hi.getD t 0-as.getD t 0:=hr
    omega
   ·rw [c,if_neg (by decide)] at hr
    rw [c,fL,dW]
    have hr':z≤as.getD t 0-lo.getD t 0:=hr
    omega
  ·rw [jl fun s h1 h2=>hs ⟨s,h1,h2⟩]
   exact ⟨b1,b2⟩
 ·show (nE ((psh as (ss++[gk i (d_ as lo hi i)]) z).getD i 0) (lo.getD i 0) (hi.getD i 0)).natAbs<_
  rw [gi]
  exact qC (hlh i hi') rfl hd z0 (hm _ aU)
theorem BtI.sml {es:List (Int×Int)} {lo hi as:List Int} {i:Nat} {z B:Int} {ss:List (Int×Int)} {ps:List Int} (I:BtI es lo hi i as) (hi':i<es.length) (hlh:∀t,t<es.length→lo.getD t 0≤hi.getD t 0) (hd:d_ as lo hi i≠0)
  (h:jM es (rmN as lo hi) (stE es (gk i (d_ as lo hi i))) ss ps (stB es (gk i (d_ as lo hi i)))) (hz:z∈(if d_ as lo hi i<0 then -d_ as lo hi i else d_ as lo hi i)::ss.map (rmA (rmN as lo hi))) (hm:∀y∈(if d_ as lo hi i<0 then -d_ as lo hi i else d_ as lo hi i)::ss.map (rmA (rmN as lo hi)),z≤y)
  (hB:∀t,t<es.length→-B≤lo.getD t 0∧hi.getD t 0≤B) (hs:∀t,t<es.length→-B≤as.getD t 0∧as.getD t 0≤B) :
  z.natAbs≤(2*B).toNat∧∀t,t<es.length→-B≤(psh as (ss++[gk i (d_ as lo hi i)]) z).getD t 0∧(psh as (ss++[gk i (d_ as lo hi i)]) z).getD t 0≤B:=by
 have z0:0<z:=sm hd (fun s hs=>(h.step s hs).2.1) hz
 have hno:=oR hi' I.len hd (hlh i hi') h
 have hvs:∀u∈ss,StV es u:=fun u hu=>(h.step u hu).1
 have zd:=hm _ aU
 have hbi:=hB i hi'
 have hsi:=hs i hi'
 have hli:=hlh i hi'
 have dd:(as.getD i 0<lo.getD i 0∧d_ as lo hi i=lo.getD i 0-as.getD i 0)∨(hi.getD i 0<as.getD i 0∧d_ as lo hi i=hi.getD i 0-as.getD i 0):=by
  unfold d_ nE at hd ⊢
  split
  ·exact .inl ⟨by assumption,rfl⟩
  ·rename_i c1
   rw [if_neg c1] at hd
   split
   ·exact .inr ⟨by assumption,rfl⟩
   ·rename_i c2;rw [if_neg c2] at hd;exact absurd rfl hd
 have ei:(psh as ss z).getD i 0=as.getD i 0:=jl fun s hs e=>hno s hs (by have:=(hvs s hs).1;omega)
 refine ⟨?_,fun t ht=>?_⟩
 ·rcases dd with ⟨c,e⟩ | ⟨c,e⟩<;>rw [e] at zd<;>split at zd<;>omega
 rw [hV]
 show -B≤((psh as ss z).set ((i:Int)).toNat _).getD t 0∧((psh as ss z).set ((i:Int)).toNat _).getD t 0≤B
 rw [bz,eR _ _ _ _ (by rw [ik,I.len];exact hi')]
 by_cases c:i=t
 ·subst c
  rw [if_pos rfl]
  show -B≤(psh as ss z).getD ((i:Int)).toNat 0+(if d_ as lo hi i>0 then 1 else -1)*z∧(psh as ss z).getD ((i:Int)).toNat 0+(if d_ as lo hi i>0 then 1 else -1)*z≤B
  rw [bz,ei]
  rcases dd with ⟨c,e⟩ | ⟨c,e⟩
  ·rw [e,if_neg (by omega)] at zd
   rw [e,if_pos (by omega),dW];omega
  ·rw [e,if_pos (by omega)] at zd
   rw [e,if_neg (by omega),fL,dW];omega
 ·rw [if_neg c]
  have hbt:=hB t ht
  have hst:=hs t ht
  by_cases hs:∃s∈ss,s.1.toNat=t
  ·obtain ⟨s,hs,es'⟩:=hs
   have e:=sI (z:=z) I.len hvs h.tnd hs
   rw [es'] at e
   rw [e]
   have hr:=hm (rmA (rmN as lo hi) s) (aW _ (b_.mpr ⟨s,hs,rfl⟩))
   unfold rmA at hr
   rw [es',kM (by rw [I.len];omega)] at hr
   rcases (hvs s hs).2.2 with c | c
   ·rw [c,if_pos rfl] at hr
    rw [c,dW]
    have hr':z≤hi.getD t 0-as.getD t 0:=hr
    omega
   ·rw [c,if_neg (by decide)] at hr
    rw [c,fL,dW]
    have hr':z≤as.getD t 0-lo.getD t 0:=hr
    omega
  ·rw [jl fun s h1 h2=>hs ⟨s,h1,h2⟩]
   exact hst
def rst (m:Nat) (R:List Int):List Int:=((bF m).map fun (j:Nat)=>(j:Int)).filter fun p=>!decide (p∈R)
theorem ur {m:Nat} {R:List Int} {p:Int}:p∈rst m R↔0≤p∧p<m∧¬p∈R:=by
 unfold rst
 rw [bJ,b_]
 constructor
 ·rintro ⟨⟨j,hj,rfl⟩,h⟩
  rw [cj] at hj
  exact ⟨by omega,by omega,by simpa using h⟩
 ·rintro ⟨h0,h1,h2⟩
  exact ⟨⟨p.toNat,cj.mpr (by omega),by omega⟩,by simpa using h2⟩
theorem mT (m:Nat) (R:List Int):rst (m+1) R=rst m R++if (m:Int)∈R then [] else [(m:Int)]:=by
 unfold rst
 rw [List.range_succ,aH,cU]
 congr 1
 by_cases c:(m:Int)∈R
 ·rw [if_pos c]
  exact cZ (by simpa using c)
 ·rw [if_neg c]
  exact cY (by simpa using c)
theorem pf (m:Nat) (R:List Int):(rst m R).length≤m:=by
 unfold rst
 exact cx (cN _ _) (by rw [ae,cu];exact aO _)
theorem vE (m:Nat) (R:List Int):(rst m R).Pairwise (·<·):=by
 unfold rst
 refine List.Pairwise.filter _ ?_
 rw [eJ]
 exact List.pairwise_lt_range.imp fun h=>by omega
theorem sy (m:Nat) (R:List Int):(rst m R).Nodup:=by
 rw [cA]
 exact (vE m R).imp fun h e=>by omega
def shS (ps:List Int) (es:List (Int×Int)) (lo hi:List Int):Nat→Int
 | 0=>0
 | i+1=>shS ps es lo hi i+(if (ie ps (es.getD i (0,0)).1&&!ie ps (es.getD i (0,0)).2)=true then lo.getD i 0 else 0)-(if (ie ps (es.getD i (0,0)).2&&!ie ps (es.getD i (0,0)).1)=true then hi.getD i 0 else 0)
theorem sr {ps:List Int} {es:List (Int×Int)} {lo hi fs:List Int} {k:Int} (h:∀t,t<es.length→k*lo.getD t 0≤fs.getD t 0∧fs.getD t 0≤k*hi.getD t 0):∀n,n≤es.length→k*shS ps es lo hi n≤ac ps es fs n
 | 0,_=>by show k*0≤0;omega
 | n+1,hn=>by
  have ih:=sr (ps:=ps) h n (by omega)
  obtain ⟨h1,h2⟩:=h n (by omega)
  show k*(shS ps es lo hi n+_-_)≤ac ps es fs n+_-_
  rw [Int.mul_sub,fM]
  cases ie ps (es.getD n (0,0)).1<;>cases ie ps (es.getD n (0,0)).2<;>simp only [eh,dO,fj,ek,dm,cX,du,dg,if_true,if_false,reduceIte,cW]<;>omega
theorem rB {ps:List Int} {es:List (Int×Int)} {lo hi fs:List Int} {k:Int} (k0:0<k) (hN:ps.Nodup) (hf:∀p:Int,dp p es fs es.length=0) (h:∀t,t<es.length→k*lo.getD t 0≤fs.getD t 0∧fs.getD t 0≤k*hi.getD t 0):¬0<shS ps es lo hi es.length:=fun c=>by
 have e:=sr (ps:=ps) h es.length (aO _)
 rw [kG hN hf] at e
 have:=Int.mul_pos k0 c
 omega
theorem tK {es:List (Int×Int)} {m:Nat} {lo hi as:List Int} {i:Nat} {R:List Int} (hE:∀e∈es,0≤e.1∧e.1<(m:Int)∧0≤e.2∧e.2<(m:Int)) (I:BtI es lo hi i as) (hi':i<es.length) (hd:d_ as lo hi i≠0)
  (h0:stE es (gk i (d_ as lo hi i))∈R) (h1:¬stB es (gk i (d_ as lo hi i))∈R) (hc:∀p∈R,∀s∈stN es (rmN as lo hi) p es.length,stE es s∈R):0<shS (rst m R) es lo hi es.length:=by
 have hmem:∀z:Int,0≤z→z<m→ie (rst m R) z=!decide (z∈R):=fun z z0 z1=>by
  rw [cQ,eX,ur]
  simp only [Bool.not_eq_true',decide_eq_false_iff_not]
  exact ⟨fun h=>h.2.2,fun h=>⟨z0,z1,h⟩⟩
 have key:∀n,n≤es.length→(if i<n then 1 else 0)≤shS (rst m R) es lo hi n-ac (rst m R) es as n:=by
  intro n
  induction n with
  | zero=>intro _;rw [if_neg (bM _)];exact fN 0
  | succ n ih =>
   intro hn
   have ih:=ih (by omega)
   have hg:es[n]?=some (es.getD n (0,0)):=by rw [aa,ak (show n<es.length by omega)];rfl
   obtain ⟨d1,d2,d3,d4⟩:=hE _ (aZ hg)
   have r1:=lT (es:=es) (rm:=rmN as lo hi) (p:=(es.getD n (0,0)).1) (show n<es.length by omega)
   have r2:=lT (es:=es) (rm:=rmN as lo hi) (p:=(es.getD n (0,0)).2) (show n<es.length by omega)
   rw [kM (by rw [I.len];omega)] at r1 r2
   have f1:(es.getD n (0,0)).1∈R→¬(es.getD n (0,0)).2∈R→hi.getD n 0≤as.getD n 0:=fun a b=>Classical.byContradiction fun c=>b (by
    have:=hc _ a _ (r1.1 rfl (by show 0<hi.getD n 0-as.getD n 0;omega))
    exact this)
   have f2:(es.getD n (0,0)).2∈R→¬(es.getD n (0,0)).1∈R→as.getD n 0≤lo.getD n 0:=fun a b=>Classical.byContradiction fun c=>b (by
    have:=hc _ a _ (r2.2 rfl (by show 0<as.getD n 0-lo.getD n 0;omega))
    exact this)
   show _≤(shS (rst m R) es lo hi n+_-_)-(ac (rst m R) es as n+_-_)
   rw [hmem _ d1 d2,hmem _ d3 d4]
   by_cases c:i=n
   ·subst c
    rw [if_pos (bY _)]
    rw [if_neg (cS _)] at ih
    unfold stE aX at h0
    unfold stB aX at h1
    unfold d_ nE at hd h0 h1
    have ei:(gk i (if as.getD i 0<lo.getD i 0 then lo.getD i 0-as.getD i 0 else if as.getD i 0>hi.getD i 0 then hi.getD i 0-as.getD i 0 else 0)).1.toNat=i:=bz i
    rw [ei] at h0 h1
    split at hd
    ·rename_i c1
     have e2:(gk i (lo.getD i 0-as.getD i 0)).2=1:=if_pos (by omega)
     rw [if_pos c1,e2,if_pos rfl] at h0 h1
     rw [decide_eq_true h0,decide_eq_false h1]
     simp only [eh,dO,fj,ek,dm,cX,du,dg,if_true,if_false,reduceIte,cW];omega
    ·rename_i c1
     split at hd
     ·rename_i c2
      have e2:(gk i (hi.getD i 0-as.getD i 0)).2=-1:=if_neg (by omega)
      rw [if_neg c1,if_pos c2,e2,if_neg (show ¬(-1:Int)=1 by decide)] at h0 h1
      rw [decide_eq_true h0,decide_eq_false h1]
      simp only [eh,dO,fj,ek,dm,cX,du,dg,if_true,if_false,reduceIte,cW];omega
     ·exact absurd rfl hd
   ·have e:(if i<n+1 then (1:Int) else 0)=if i<n then 1 else 0:=by
     by_cases c2:i<n
     ·rw [if_pos c2,if_pos (by omega)]
     ·rw [if_neg c2,if_neg (by omega)]
    rw [e]
    by_cases a1:(es.getD n (0,0)).1∈R<;>by_cases a2:(es.getD n (0,0)).2∈R
    ·rw [decide_eq_true a1,decide_eq_true a2];simp only [eh,dO,fj,ek,dm,cX,du,dg,if_true,if_false,reduceIte,cW];omega
    ·rw [decide_eq_true a1,decide_eq_false a2];have:=f1 a1 a2;simp only [eh,dO,fj,ek,dm,cX,du,dg,if_true,if_false,reduceIte,cW];omega
    ·rw [decide_eq_false a1,decide_eq_true a2];have:=f2 a2 a1;simp only [eh,dO,fj,ek,dm,cX,du,dg,if_true,if_false,reduceIte,cW];omega
    ·rw [decide_eq_false a1,decide_eq_false a2];simp only [eh,dO,fj,ek,dm,cX,du,dg,if_true,if_false,reduceIte,cW];omega
 have:=key es.length (aO _)
 rw [if_pos hi',kG (sy m R) I.qu] at this
 omega
inductive WhR (es:List (Int×Int)) (lo hi:List Int) (m i:Nat):List Int→Bool×List Int→Prop
 | done {as:List Int}:d_ as lo hi i=0→WhR es lo hi m i as (true,as)
 | tL {as:List Int}:d_ as lo hi i≠0→¬stB es (gk i (d_ as lo hi i))∈(wwr es (rmN as lo hi) (stE es (gk i (d_ as lo hi i))) m).1→WhR es lo hi m i as (false,rst m (wwr es (rmN as lo hi) (stE es (gk i (d_ as lo hi i))) m).1)
 | next {as ws:List Int} {z:Int} {ss:List (Int×Int)} {r:Bool×List Int}:d_ as lo hi i≠0→stB es (gk i (d_ as lo hi i))∈(wwr es (rmN as lo hi) (stE es (gk i (d_ as lo hi i))) m).1 →
   ss=(wwr es (rmN as lo hi) (stE es (gk i (d_ as lo hi i))) m).2 (stB es (gk i (d_ as lo hi i)))→z∈(if d_ as lo hi i<0 then -d_ as lo hi i else d_ as lo hi i)::ss.map (rmA (rmN as lo hi))→(∀y∈(if d_ as lo hi i<0 then -d_ as lo hi i else d_ as lo hi i)::ss.map (rmA (rmN as lo hi)),z≤y) →
   ws=psh as (ss++[gk i (d_ as lo hi i)]) z→WhR es lo hi m i ws r→WhR es lo hi m i as r
theorem WhR.det {es:List (Int×Int)} {lo hi:List Int} {m i:Nat} {as:List Int} {r r':Bool×List Int} (h:WhR es lo hi m i as r) (h':WhR es lo hi m i as r'):r=r':=by
 induction h with
 | done e =>
  cases h' with
  | done _=>rfl
  | tL d _=>exact absurd e d
  | next d _ _ _ _ _ _=>exact absurd e d
 | tL d n =>
  cases h' with
  | done e=>exact absurd e d
  | tL _ _=>rfl
  | next _ q _ _ _ _ _=>exact absurd q n
 | next d q es' hz hm ew _ ih =>
  cases h' with
  | done e=>exact absurd e d
  | tL _ n=>exact absurd q n
  | next _ _ es2 hz2 hm2 ew2 h2 =>
   subst es';subst es2
   have e:=Int.le_antisymm (hm _ hz2) (hm2 _ hz)
   subst e
   subst ew;subst ew2
   exact ih h2
inductive BtR (es:List (Int×Int)) (lo hi:List Int) (m:Nat):Nat→Bool×List Int→Prop
 | nil:BtR es lo hi m 0 (true,az es.length 0)
 | next {i:Nat} {as:List Int} {r:Bool×List Int}:BtR es lo hi m i (true,as)→WhR es lo hi m i as r→BtR es lo hi m (i+1) r
 | stop {i:Nat} {x:List Int}:BtR es lo hi m i (false,x)→BtR es lo hi m (i+1) (false,x)
theorem BtR.det {es:List (Int×Int)} {lo hi:List Int} {m n:Nat} {r r':Bool×List Int} (h:BtR es lo hi m n r) (h':BtR es lo hi m n r'):r=r':=by
 induction h generalizing r' with
 | nil=>cases h';rfl
 | next _ hw ih =>
  cases h' with
  | next h2 hw2 =>
   have e:=ih h2
   injection e with _ e
   subst e
   exact hw.det hw2
  | stop h2 =>
   have e:=ih h2
   injection e with e _
   cases e
 | stop _ ih =>
  cases h' with
  | next h2 _ =>
   have e:=ih h2
   injection e with e _
   cases e
  | stop h2=>exact ih h2
theorem BtR.tL {es:List (Int×Int)} {lo hi:List Int} {m i n:Nat} {x:List Int} (h:BtR es lo hi m i (false,x)) (hn:i≤n):BtR es lo hi m n (false,x):=by
  induction n with
  | zero => obtain rfl : i = 0 := by omega
            exact h
  | succ n ih =>
    by_cases c:i=n+1
    · exact c▸h
    · exact .stop (ih (by omega))
end L2
namespace L2
open PySem
def tS (fs:List Int):Nat→Nat→Int
 | _,0=>0
 | t,k+1=>((fs.getD t 0).natAbs:Int)+tS fs (t+1) k
theorem oY (fs:List Int):∀k t,tS fs t (k+1)=tS fs t k+((fs.getD (t+k) 0).natAbs:Int)
 | 0,t=>by show _+0=0+_;rw [Nat.add_zero];omega
 | k+1,t=>by
  show ((fs.getD t 0).natAbs:Int)+tS fs (t+1) (k+1)=(((fs.getD t 0).natAbs:Int)+tS fs (t+1) k)+_
  rw [oY fs k (t+1),show t+1+k=t+(k+1) by omega];omega
theorem vn {m:Int} {es:List (Int×Int)} {fs:List Int} (hE:∀e∈es,0≤e.1∧e.1<m∧0≤e.2∧e.2<m) (hd:∀p:Int,dp p es fs es.length=0) {t k:Nat} (ht:t+1+k=es.length) (hF:inF es t=true):((fs.getD t 0).natAbs:Int)≤tS fs (t+1) k:=by
 obtain ⟨f,F⟩:=nu hE t
 have gE:∀j,j<es.length→es[j]?=some (es.getD j (0,0)):=fun j hj=>by rw [aa,ak hj];rfl
 obtain ⟨b1,b2,b3,b4⟩:=hE _ (aZ (gE t (by omega)))
 have hne:¬f (es.getD t (0,0)).1=f (es.getD t (0,0)).2:=fun z=>gQ.mp hF ((F.iff b1 b2 b3 b4).mp z)
 have hz:=kG (qh m.toNat f (f (es.getD t (0,0)).1)) hd
 have hmem:∀z:Int,0≤z→z<m→ie (grp m.toNat f (f (es.getD t (0,0)).1)) z=decide (f z=f (es.getD t (0,0)).1):=fun z z0 z1=>by
  rw [cQ,eX,km,decide_eq_true_iff]
  exact ⟨fun h=>h.2.2,fun h=>⟨z0,by omega,h⟩⟩
 have bef:∀n,n≤t→ac (grp m.toNat f (f (es.getD t (0,0)).1)) es fs n=0:=by
  intro n
  induction n with
  | zero=>intro _;rfl
  | succ n ih =>
   intro hn
   show ac _ es fs n+_-_=_
   obtain ⟨d1,d2,d3,d4⟩:=hE _ (aZ (gE n (by omega)))
   have es1:f (es.getD n (0,0)).1=f (es.getD n (0,0)).2:=F.same _ (List.mem_take_iff_getElem.mpr ⟨n,by omega,by rw [aa,ak (show n<es.length by omega)];rfl⟩)
   rw [ih (by omega),hmem _ d1 d2,hmem _ d3 d4,es1]
   cases decide (f (es.getD n (0,0)).2=f (es.getD t (0,0)).1)<;>simp
 have aft:∀j,j≤k→fs.getD t 0-tS fs (t+1) j≤ac (grp m.toNat f (f (es.getD t (0,0)).1)) es fs (t+1+j)∧ac (grp m.toNat f (f (es.getD t (0,0)).1)) es fs (t+1+j)≤fs.getD t 0+tS fs (t+1) j:=by
  intro j
  induction j with
  | zero =>
   intro _
   have e:ac (grp m.toNat f (f (es.getD t (0,0)).1)) es fs (t+1)=fs.getD t 0:=by
    show ac _ es fs t+_-_=_
    rw [bef t (aO _),hmem _ b1 b2,hmem _ b3 b4,decide_eq_true rfl,decide_eq_false (fun z=>hne z.symm)]
    simp only [dO,eh,ek,dm,dg,if_true,if_false,reduceIte]
    omega
   rw [Nat.add_zero,e]
   show _-0≤_∧_≤_+0
   omega
  | succ j ih =>
   intro hj
   obtain ⟨i1,i2⟩:=ih (by omega)
   rw [oY]
   have e0:∀G:List Int,ac G es fs (t+1+(j+1))=ac G es fs (t+1+j)+(if (ie G (es.getD (t+1+j) (0,0)).1&&!ie G (es.getD (t+1+j) (0,0)).2)=true then fs.getD (t+1+j) 0 else 0)-(if (ie G (es.getD (t+1+j) (0,0)).2&&!ie G (es.getD (t+1+j) (0,0)).1)=true then fs.getD (t+1+j) 0 else 0):=fun _=>rfl
   rw [e0]
   have hb:-((fs.getD (t+1+j) 0).natAbs:Int)≤fs.getD (t+1+j) 0∧fs.getD (t+1+j) 0≤((fs.getD (t+1+j) 0).natAbs:Int):=by omega
   generalize ie (grp m.toNat f (f (es.getD t (0,0)).1)) (es.getD (t+1+j) (0,0)).1=x
   generalize ie (grp m.toNat f (f (es.getD t (0,0)).1)) (es.getD (t+1+j) (0,0)).2=y
   cases x<;>cases y<;>simp only [dO,eh,ek,dm,du,cX,dg,if_true,if_false,reduceIte]<;>omega
 have:=aft k (aO _)
 rw [ht,hz] at this
 omega
theorem mP {m B:Int} {es:List (Int×Int)} {fs:List Int} (hE:∀e∈es,0≤e.1∧e.1<m∧0≤e.2∧e.2<m) (hd:∀p:Int,dp p es fs es.length=0) (hB:0≤B) (h0:∀t,t<es.length→¬inF es t=true→((fs.getD t 0).natAbs:Int)≤B):∀k t,t+k=es.length→tS fs t k≤2^k*B-B
 | 0,t,_=>by show 0≤1*B-B;omega
 | k+1,t,ht=>by
  have ih:=mP hE hd hB h0 k (t+1) (by omega)
  show ((fs.getD t 0).natAbs:Int)+tS fs (t+1) k≤2^(k+1)*B-B
  rw [Int.pow_succ,Int.mul_comm (2^k) 2,Int.mul_assoc]
  have hp:B≤2^k*B:=by
   have h1:(1:Int)≤2^k:=Int.pow_pos (by decide)
   have:=Int.mul_le_mul_of_nonneg_right h1 hB
   omega
  generalize (2:Int)^k*B=X at ih hp
  by_cases hF:inF es t=true
  ·have:=vn hE hd (t:=t) (k:=k) (by omega) hF
   omega
  ·have:=h0 t (by omega) hF
   omega
theorem sj (fs:List Int):∀k t j,t≤j→j<t+k→((fs.getD j 0).natAbs:Int)≤tS fs t k
 | 0,t,j,h1,h2=>by omega
 | k+1,t,j,h1,h2=>by
  have hn:∀k t,0≤tS fs t k:=fun k=>by
   induction k with
   | zero=>intro t;exact fN 0
   | succ k ih=>intro t;show 0≤_+tS fs (t+1) k;have:=ih (t+1);omega
  show _≤((fs.getD t 0).natAbs:Int)+tS fs (t+1) k
  by_cases c:t=j
  ·subst c;have:=hn k (t+1);omega
  ·have:=sj fs k (t+1) j (by omega) (by omega);omega
theorem oA {m B:Int} {es:List (Int×Int)} {fs:List Int} (hE:∀e∈es,0≤e.1∧e.1<m∧0≤e.2∧e.2<m) (hd:∀p:Int,dp p es fs es.length=0) (hB:0≤B) (hz:es.length≤40) (h0:∀t,t<es.length→¬inF es t=true→((fs.getD t 0).natAbs:Int)≤B):∀t,t<es.length→((fs.getD t 0).natAbs:Int)≤2^40*B:=fun t ht=>by
 have h1:=sj fs es.length 0 t (dM _) (by omega)
 have h2:=mP hE hd hB h0 es.length 0 (Nat.zero_add _)
 have h3:(2:Int)^es.length≤2^40:=by exact_mod_cast Nat.pow_le_pow_right (n:=2) (by decide) hz
 have h4:=Int.mul_le_mul_of_nonneg_right h3 hB
 omega
def lwK (fs:List Int) (k:Int):List Int:=fs.map (·/k)
def hgK (fs:List Int) (k:Int):List Int:=fs.map fun a=>-(-a/k)
def rdK (fs as:List Int) (k:Int):List Int:=bQ (·+·) fs (as.map (-k*·))
theorem pQ {fs:List Int} {k:Int} {t:Nat} (h:t<fs.length):(lwK fs k).getD t 0=fs.getD t 0/k:=by
 unfold lwK;rw [aa,br,aa,ak h];rfl
theorem qf {fs:List Int} {k:Int} {t:Nat} (h:t<fs.length):(hgK fs k).getD t 0=-(-fs.getD t 0/k):=by
 unfold hgK;rw [aa,br,aa,ak h];rfl
theorem zr {a k:Int} (hk:0<k):k*(a/k)≤a∧a<k*(a/k)+k:=by
 have h1:=bU a (show k≠0 by omega)
 have h2:=bD a hk
 have h3:=Int.mul_ediv_add_emod a k
 omega
theorem vV {fs:List Int} {k:Int} (hk:0<k) {t:Nat} (h:t<fs.length):(lwK fs k).getD t 0≤(hgK fs k).getD t 0∧k*(lwK fs k).getD t 0≤fs.getD t 0∧fs.getD t 0≤k*(hgK fs k).getD t 0:=by
 rw [pQ h,qf h]
 obtain ⟨h1,h2⟩:=zr (a:=fs.getD t 0) hk
 obtain ⟨h3,h4⟩:=zr (a:=-fs.getD t 0) hk
 have e:k*-(-fs.getD t 0/k)=-(k*(-fs.getD t 0/k)):=Int.mul_neg ..
 refine ⟨?_,h1,by omega⟩
 refine Int.le_of_mul_le_mul_left (a:=k) ?_ hk
 omega
theorem rG {fs:List Int} {k B:Int} (hk:1<k) (hB:0≤B) {t:Nat} (h:t<fs.length) (hb:((fs.getD t 0).natAbs:Int)≤B):-B≤(lwK fs k).getD t 0∧(hgK fs k).getD t 0≤B:=by
 rw [pQ h,qf h]
 have div_lo:∀a:Int,-B≤a→-B≤a/k:=fun a ha=>by
  rw [Int.le_ediv_iff_mul_le (by omega)]
  have:=Int.mul_le_mul_of_nonneg_left (show (1:Int)≤k by omega) hB
  rw [fL]
  omega
 have h1:=div_lo (fs.getD t 0) (by omega)
 have h2:=div_lo (-fs.getD t 0) (by omega)
 exact ⟨h1,by omega⟩
structure RdF (es:List (Int×Int)) (rs:List Int) (k:Int) (gs:List Int):Prop where
 len:gs.length=es.length
 qu:∀p:Int,dp p es gs es.length=0
 zero:∀t,t<es.length→rs.getD t 0=0→gs.getD t 0=0
 pos:∀t,t<es.length→rs.getD t 0≠0→gs.getD t 0=rs.getD t 0∨gs.getD t 0=rs.getD t 0-k
theorem vG {es:List (Int×Int)} {fs as:List Int} {k:Int} (hk:0<k) (hf:fs.length=es.length) (hl:as.length=es.length) (df:∀p:Int,dp p es fs es.length=0) (da:∀p:Int,dp p es as es.length=0) (h:∀t,t<es.length→(lwK fs k).getD t 0≤as.getD t 0∧as.getD t 0≤(hgK fs k).getD t 0):RdF es (fs.map (·%k)) k (rdK fs as k):=by
 have hlm:fs.length=(as.map (-k*·)).length:=by rw [ae,hf,hl]
 have at_:∀t,(rdK fs as k).getD t 0=fs.getD t 0-k*as.getD t 0:=fun t=>by
  unfold rdK
  rw [gR _ _ hlm,gH,fL];omega
 have rAt:∀t,t<es.length→(fs.map (·%k)).getD t 0=fs.getD t 0%k:=fun t ht=>by
  rw [aa,br,aa,ak (show t<fs.length by omega)];rfl
 have two:∀t,t<es.length→(fs.getD t 0%k=0→as.getD t 0=fs.getD t 0/k)∧(as.getD t 0=fs.getD t 0/k∨as.getD t 0=fs.getD t 0/k+1):=fun t ht=>by
  obtain ⟨b1,b2⟩:=h t ht
  rw [pQ (by omega)] at b1
  rw [qf (by omega)] at b2
  have e:=Int.mul_ediv_add_emod (fs.getD t 0) k
  have r0:=bU (fs.getD t 0) (show k≠0 by omega)
  have r1:=bD (fs.getD t 0) hk
  have e2:=zr (a:=-fs.getD t 0) hk
  generalize fs.getD t 0/k=Q at *
  generalize fs.getD t 0%k=R at *
  generalize hG:-fs.getD t 0/k=G at *
  have g0:R=0→-G≤Q:=fun hR=>by
   have:k*-Q≤k*G+(k-1):=by rw [Int.mul_neg];omega
   have h1:k*(-Q-G)<k:=by rw [Int.mul_sub];omega
   have h2:-Q-G<1:=Int.lt_of_mul_lt_mul_left (a:=k) (by rw [Int.mul_one];exact h1) (by omega)
   have h3:k*(Q+G)≤0:=by rw [fM];omega
   have h4:k*(-(Q+G))<k*1:=by rw [Int.mul_neg,Int.mul_one,fM];omega
   have h5:=Int.lt_of_mul_lt_mul_left h4 (by omega)
   omega
  have g1:-G≤Q+1:=by
   have h4:k*(-(Q+G))<k*2:=by rw [Int.mul_neg,fM];omega
   have h5:=Int.lt_of_mul_lt_mul_left h4 (by omega)
   omega
  exact ⟨fun hR=>by have:=g0 hR;omega,by omega⟩
 refine ⟨?_,fun p=>?_,fun t ht hz=>?_,fun t ht hz=>?_⟩
 ·unfold rdK;rw [dU,←hlm,eM];exact hf
 ·unfold rdK;rw [jF p es _ _ hlm,jV,df,da,cW];rfl
 ·rw [rAt t ht] at hz
  rw [at_,(two t ht).1 hz]
  have:=Int.mul_ediv_add_emod (fs.getD t 0) k
  omega
 ·rw [rAt t ht] at hz ⊢
  rw [at_]
  have e:=Int.mul_ediv_add_emod (fs.getD t 0) k
  rcases (two t ht).2 with z | z
  ·rw [z];exact .inl (by omega)
  ·rw [z,fM,Int.mul_one];exact .inr (by omega)
def RdR (m:Int) (es:List (Int×Int)) (fs:List Int) (k:Int) (gs:List Int):Prop:=∃as,BtR es (lwK fs k) (hgK fs k) m.toNat es.length (true,as)∧gs=rdK fs as k
theorem RdR.det {m k:Int} {es:List (Int×Int)} {fs gs gs':List Int} (h:RdR m es fs k gs) (h':RdR m es fs k gs'):gs=gs':=by
 obtain ⟨as,h1,rfl⟩:=h
 obtain ⟨as',h2,rfl⟩:=h'
 have e:=h1.det h2
 injection e with _ e
 rw [e]
theorem FW.bound {m B:Int} {es:List (Int×Int)} {vs fs:List Int} (hE:∀e∈es,0≤e.1∧e.1<m∧0≤e.2∧e.2<m) (h:FW es vs fs) (hl:vs.length=(fre es).length) (hB:0≤B) (hz:es.length≤40) (hv:∀v∈vs,(v.natAbs:Int)≤B):∀t,t<es.length→((fs.getD t 0).natAbs:Int)≤2^40*B :=
 oA hE h.2.1 hB hz fun t ht hn=>by
  obtain ⟨j,hj,e⟩:=qo ht hn
  have e1:=h.2.2 j hj
  rw [e,bz] at e1
  rw [e1,fJ (by omega)]
  exact hv _ (cf _)
def LtR (m:Int) (es:List (Int×Int)) (rs:List Int) (k:Int) (gs:List Int):Prop:=∃fs,FW es (frv es rs) fs∧RdR m es fs k gs
theorem LtR.det {m k:Int} {es:List (Int×Int)} {rs gs gs':List Int} (hE:∀e∈es,0≤e.1∧e.1<m∧0≤e.2∧e.2<m) (h:LtR m es rs k gs) (h':LtR m es rs k gs'):gs=gs':=by
 obtain ⟨fs,h1,h2⟩:=h
 obtain ⟨fs',h1',h2'⟩:=h'
 have e:=h1.uniq hE h1'
 subst e
 exact h2.det h2'
end L2
namespace L2
open PySem PySem.Spec PyProof.Rows
section
variable {X:Cx}
def AY:V→List V→Hp→VK→Prop:=fun x vs H Q=>∃(l:Addr) (xs:List V) (i:Int) (y:V),x=.ref l∧vs=[.int i,y]∧H l=some (.lst xs)∧0≤i∧i≤xs.length∧xs.length<1000∧Q .non (upd H l (.lst (xs.take i.toNat++y::xs.drop i.toNat)))
theorem oS {xs:List V} {us:List Value} (r:Vals xs us):∀j,Vals (xs.take j) (us.take j):=by
 induction r with
 | nil=>intro j;rw [List.take_nil,List.take_nil];exact .nil
 | cons h t ih =>
  intro j
  cases j with
  | zero=>exact .nil
  | succ j=>exact .cons h (ih j)
theorem oU {xs:List V} {us:List Value} (r:Vals xs us):∀j,Vals (xs.drop j) (us.drop j):=by
 induction r with
 | nil=>intro j;rw [List.drop_nil,List.drop_nil];exact .nil
 | cons h t ih =>
  intro j
  cases j with
  | zero=>exact .cons h t
  | succ j=>exact ih j
theorem ml:MtM X "list.insert" AY:=by
 intro pins s σ H x vs v us Q I rx rv h
 obtain ⟨l,xs,i,y,rfl,rfl,hH,i0,i1,hz,q⟩:=h
 cases rx
 obtain ⟨u,u',rfl,⟨t,rfl⟩,ry⟩:=vals2 rv
 obtain ⟨z,its,n,r,hl,e⟩:=I.sS hH
 have hlen:=r.length
 have big:(1000:Nat)≤sizeLine:=by decide
 have fit:¬(!Builtin.List.listFitsIndex i)=true:=by
  have:Builtin.List.listFitsIndex i=true:=by unfold Builtin.List.listFitsIndex;simp;omega
  rw [this];decide
 refine call_meets F.slot_list_insert ⟨_,e,rfl⟩ F.entry_list_insert (F.args_list_insert_3 _ _ _) (AutoSeq1.list_insert_list_int_val_1 l its.toArray n i t u' fit (by rw [aT];omega)) ⟨e,?_⟩
 refine ⟨.non,_,I.xg (its':=its.take i.toNat++u'::its.drop i.toNat) hH e ?_ ((oS r i.toNat).append (.cons ry (oU r i.toNat))) ?_,rfl,q⟩
 ·dsimp only
  rw [if_neg (by omega),aT,Nat.min_eq_left (by omega)]
  apply Array.ext'
  simp
  exact bh (by rw [cm];exact aO _)
 ·rw [aw,bB,aD,cm]
  omega
end
end L2
namespace L2
open PySem PySem.Spec PyProof.Rows
theorem args_min3 (a b c:Value):argsOk "min" ⟨[a,b,c],[]⟩:=by unfold argsOk;kernel_rfl
section
variable {prog:Program} {w:World} {A:Around} {E:Value→Shared→Prop} {s:Shared}
theorem min_three {a b c:Int} {t u v:Tok} {Q:Value→Shared→Prop} (hh:A.handled=none)
  (h:∀tt h' tk,(∀c o,s.heap.get? c=some o→h'.get? c=some o)→Q (.int (if c<(if b<a then b else a) then c else if b<a then b else a) tt) {s with heap:=h',toks:=tk}) :
  wpAny (model prog w) A (call (.builtin "min") [.int a t,.int b u,.int c v]) Q E s:=by
 obtain ⟨hp,gs,dn,tk,os⟩:=s
 have seq:(hp.push {cls:=.type "tuple",data:=.seq #[.int a t,.int b u,.int c v]}).IsTuple hp.objs.size (intItems #[(a,t),(b,u),(c,v)]):=⟨_,aY _ rfl,rfl,0,by simp [intItems]⟩
 have n1:(hp.push {cls:=.type "tuple",data:=.seq #[.int a t,.int b u,.int c v]}).objs.size=hp.objs.size+1:=cG ..
 have n2:((hp.push {cls:=.type "tuple",data:=.seq #[.int a t,.int b u,.int c v]}).push {cls:=.type "tuple_iterator",data:=.fields #[.ref hp.objs.size,.int 0 0]}).objs.size=hp.objs.size+2:=by rw [cG,n1]
 refine call_function_tree F.kind_min F.plain_min F.entry_min (args_min3 _ _ _) ?_
 wp_walk using wpAny_pyIter_tuple seq
 constructor
 ·exact plainId_quiet F.plain_min_loop _
 have W:=Walks.tuple (prog:=prog) (w:=w) (A:=A.in1) hh (hp.objs.size+1) hp.objs.size (bj (bY _)) (intItems #[(a,t),(b,u),(c,v)])
 show codeAny _ _ (.builtin "min.loop" ⟨[.ref (hp.push {cls:=.type "tuple",data:=.seq #[.int a t,.int b u,.int c v]}).objs.size,.none,.ref ((hp.push {cls:=.type "tuple",data:=.seq #[.int a t,.int b u,.int c v]}).push {cls:=.type "tuple_iterator",data:=.fields #[.ref hp.objs.size,.int 0 0]}).objs.size],[]⟩) _ _
 have it:=aY (hp.push {cls:=.type "tuple",data:=.seq #[.int a t,.int b u,.int c v]}) (o:={cls:=.type "tuple_iterator",data:=.fields #[.ref hp.objs.size,.int 0 0]}) rfl
 have best:=aY ((hp.push {cls:=.type "tuple",data:=.seq #[.int a t,.int b u,.int c v]}).push {cls:=.type "tuple_iterator",data:=.fields #[.ref hp.objs.size,.int 0 0]}) (o:={cls:=.type "list",data:=.seq #[]}) rfl
 rw [n1] at it
 rw [n2] at best
 rw [n1,n2]
 refine codeAny_min_loop_first W _ (CmpOf.ints_lt (numAt #[(a,t),(b,u),(c,v)]) fun _ _=>intItems_at) (hp.objs.size+2) (by simp) (by simp [intItems]) ⟨⟨_,au _ it,rfl,rfl⟩,(seq.push _).push _⟩ best fun x h' tk' px kept=>?_
 obtain ⟨tt,rfl⟩:=intItems_at px
 have val:numAt #[(a,t),(b,u),(c,v)] (argBest (fun i j=>decide (numAt #[(a,t),(b,u),(c,v)] i<numAt #[(a,t),(b,u),(c,v)] j)) ((intItems #[(a,t),(b,u),(c,v)]).size-1))=if c<(if b<a then b else a) then c else if b<a then b else a:=by
  rw [show (intItems #[(a,t),(b,u),(c,v)]).size-1=2 by simp [intItems]]
  by_cases q1:b<a
  ·by_cases q2:c<b<;>simp [argBest,numAt,q1,q2]
  ·by_cases q2:c<a<;>simp [argBest,numAt,q1,q2]
 rw [val]
 exact h tt h' tk' fun b o q=>kept b o (fun m=>bj (Nat.lt_succ_of_lt (aR q)) (ao.mp m)) (bj (Nat.lt_succ_of_lt (Nat.lt_succ_of_lt (aR q)))) (au _ (au _ (au _ q)))
end
section
variable {X:Cx}
theorem qP (hc:X.calm=true):fR X (.builtin "min") (fun xs H Q=>∃i j k,xs=[.int i,.int j,.int k]∧Q (.int (if k<(if j<i then j else i) then k else if j<i then j else i)) H):=by
 intro pins s σ H xs us Q I r h
 obtain ⟨i,j,k,rfl,q⟩:=h
 cases r with
 | cons h1 r =>
 obtain ⟨t,rfl⟩:=h1
 obtain ⟨u,u',rfl,⟨t',rfl⟩,⟨t'',rfl⟩⟩:=vals2 r
 exact min_three (I.ok.hd hc) fun tt h' tk kp=>⟨.int _,H,I.kept kp,⟨tt,rfl⟩,q⟩
end
end L2
namespace L2
open PySem
def mkS (n:Nat) (ss:List Int):List Int:=(bF n).map fun (i:Nat)=>if (i:Int)∈ss then 1 else 0
theorem fA (n:Nat) (ss:List Int):(mkS n ss).length=n:=by unfold mkS;rw [ae,cu]
theorem pO {n i:Nat} {ss:List Int} (h:i<n):(mkS n ss)[i]?=some (if (i:Int)∈ss then 1 else 0):=by
 unfold mkS;rw [br,List.getElem?_range h];rfl
theorem jt {n i:Nat} {ss:List Int} (h:i<n):(mkS n ss).getD i 0=if (i:Int)∈ss then 1 else 0:=by
 rw [aa,pO h];rfl
theorem uq {n:Nat} {ss:List Int}:∀r∈mkS n ss,0≤r∧r<2:=fun r hr=>by
 obtain ⟨i,_,rfl⟩:=b_.mp hr
 split<;>decide
structure fB (n:Nat) (ss:List Int):Prop where
 rng:∀t∈ss,0≤t∧t<(n:Int)
 up:ss.Pairwise (·<·)
theorem fB.nd {n:Nat} {ss:List Int} (h:fB n ss):ss.Nodup:=by
 rw [cA]
 exact h.up.imp fun h e=>by omega
theorem fB.len {n:Nat} {ss:List Int} (h:fB n ss):ss.length≤n:=by
 have:=eZ (m:=(n:Int)) h.nd h.rng
 omega
theorem tw:∀{ss:List Int},(∀i,i+1<ss.length→ss.getD i 0<ss.getD (i+1) 0)→ss.Pairwise (·<·)
 | [],_=>.nil
 | [_],_=>List.pairwise_singleton ..
 | a::b::l,h=>by
  have ih:=tw (ss:=b::l) fun i hi=>h (i+1) (Nat.succ_lt_succ hi)
  refine List.Pairwise.cons (fun z hz=>?_) ih
  have h0:a<b:=h 0 (by simp)
  rcases bq.mp hz with y | y
  ·rw [y];exact h0
  ·have:=(List.pairwise_cons.mp ih).1 z y;omega
theorem kI {ss:List Int} (h:ss.Pairwise (·<·)) {i:Nat} (hi:i+1<ss.length):ss.getD i 0<ss.getD (i+1) 0:=by
 rw [fJ (by omega),fJ hi]
 exact List.pairwise_iff_getElem.mp h i (i+1) (by omega) hi (by omega)
theorem ux {m k:Int} {es:List (Int×Int)} {fs:List Int}:isR m es fs k=true↔(∀r∈fs,0≤r∧r<k)∧∀p:Nat,p<m.toNat→dp p es fs es.length%k=0:=by
 unfold isR
 rw [cK,decide_eq_true_iff,cJ]
 exact ⟨fun h=>⟨fun r hr=>by simpa using h.1 r hr,h.2⟩,fun h=>⟨fun r hr=>by simpa using h.1 r hr,h.2⟩⟩
def EvS (es:List (Int×Int)) (ss:List Int):Prop:=∀p:Int,2∣dp p es (mkS es.length ss) es.length
theorem EvS.nil (es:List (Int×Int)):EvS es []:=fun p=>by
 have e:mkS es.length []=az es.length 0:=by
  refine eU (by rw [fA,bg]) fun i h1 h2=>?_
  rw [List.getElem_replicate,←fJ h1,jt (by rw [fA] at h1;exact h1),if_neg (fun z=>nomatch z)]
 rw [e,jG]
 exact ⟨0,rfl⟩
theorem xk {a:List Int} (h:a.Pairwise (·≤·)) (n:a.Nodup):a.Pairwise (·<·):=by
 rw [cA] at n
 exact (h.and n).imp fun h=>by omega
end L2
namespace L2
open PySem PySem.Spec PyProof.Rows
section
variable {prog:Program} {w:World} {A:Around} {E:Value→Shared→Prop} {s:Shared}
theorem rh {l sl q:Addr} {xs ys:Array Value} {n n':Nat} {ta tb:Tok} {a b:Nat} {Q:Unit→Shared→Prop} (hl:s.heap.get? l=some (PySem.W.listOf xs n)) (hq:s.heap.get? q=some (PySem.W.listOf ys n')) (hlq:l≠q) (hs:s.heap.IsSliceOf sl (.int a ta) (.int b tb) .none) (hab:a≤b) (hb:b≤xs.size) (hz:xs.size+ys.size≤1000)
  (k:Q () {s with heap:=s.heap.update l (Obj.mapSeq fun zs=>zs.extract 0 a++ys++zs.extract b zs.size)}):wpAny (model prog w) A (setItem (.ref l) (.ref sl) (.ref q)) Q E s:=by
 have isl:s.heap.IsList l xs:=PySem.IsL.isList (n:=n) hl
 obtain ⟨so,hso,hsc,hsd⟩:=hs
 have tys:s.TypeIs (.ref sl) "slice":=⟨so,hso,hsc⟩
 have hparts:∀{Q':Value×Value×Value→Shared→Prop},Q' (rawPart (some (a:Int)),rawPart (some (b:Int)),rawPart none) s→wpAny (model prog w) A.in1 (Builtin.List.listSliceParts (.ref sl)) Q' E s:=fun {Q'} h=>by
  rw [listSliceParts_eq]
  refine wpAny_bind (wpAny_field hso hsd (x:=.none) rfl ?_)
  refine wpAny_bind (wpAny_listPart (k:=none) .none ?_)
  rw [if_neg (by decide)]
  refine wpAny_bind (wpAny_field hso hsd (x:=.int a ta) rfl ?_)
  refine wpAny_bind (wpAny_listPart (k:=some (a:Int)) (.int ..) ?_)
  refine wpAny_bind (wpAny_field hso hsd (x:=.int b tb) rfl ?_)
  exact wpAny_bind (wpAny_listPart (k:=some (b:Int)) (.int ..) (wpAny_pure h))
 have body:wpAny (model prog w) A.in1 (Builtin.«list.__setitem__» ⟨[.ref l,.ref sl,.ref q],[]⟩) (fun fin s'=>∃v,fin=.done (.ret v)∧Q () s') E s:=by
  unfold Builtin.«list.__setitem__» Builtin.List.listSubscript?
  wp_walk using wpAny_specialOf tys slice_no_index,wpAny_typeOf tys,hparts
  have same:Builtin.List.listSameRef (.ref l) (.ref q)=false:=by
   unfold Builtin.List.listSameRef
   simp [hlq]
  have bnd:=iT (some (a:Int)) (some (b:Int)) xs.size
  have ba:HT.sIx xs.size 0 (some (a:Int))=a:=by
   show (if (a:Int)<0 then ((a:Int)+(xs.size:Int)).toNat else min (a:Int).toNat xs.size)=a
   rw [if_neg (by omega),bz];omega
  have bb:HT.sIx xs.size xs.size (some (b:Int))=b:=by
   show (if (b:Int)<0 then ((b:Int)+(xs.size:Int)).toNat else min (b:Int).toNat xs.size)=b
   rw [if_neg (by omega),bz];omega
  rw [ba,bb] at bnd
  have tyq:s.TypeIs (.ref q) "list":=⟨_,hq,rfl⟩
  rw [same,if_neg (by decide)]
  unfold Builtin.List.listAllItems
  refine wpAny_bind (wpAny_bind (wpAny_typeOf tyq ?_))
  rw [if_pos (by decide)]
  have eS:sliceBounds (some (a:Int)) (some (b:Int)) none xs.size=((a:Int),(b:Int),1):=Prod.ext bnd.1 (Prod.ext bnd.2.1 bnd.2.2)
  have short:Builtin.List.listTooLong (xs.size+ys.size)=false:=by
   unfold Builtin.List.listTooLong
   rw [sizeLine_eq]
   exact decide_eq_false (by omega)
  refine listItems_at hq rfl (wpAny_bind (listItems_at hl rfl (wpAny_bind (wpAny_of_eq (sliceIndices_raw _ _ none _ (by simp)) ?_))))
  rw [eS]
  dsimp only
  rw [if_pos (by decide)]
  refine wpAny_bind (wpAny_rule ?_)
  rw [short,if_neg (by decide),show (max (a:Int) (b:Int)).toNat=b by omega,bz]
  refine wpAny_bind (listUpdate_at hl rfl (wpAny_bind (wpAny_letGo (wpAny_pure ⟨.none,rfl,k⟩))) (by rw [sizeLine_eq];omega) ?_)
  rw [sizeLine_eq]
  simp only [Array.size_append,Array.size_extract]
  omega
 unfold setItem
 refine wpAny_holding (wpAny_bind (wpAny_sequenceKey isl.typeIs (by decide) (wpAny_bind (wpAny_callSpecial?_slot (name:=Str.ofString "__setitem__") isl.typeIs slot_list_setitem (wpAny_mono (wpAny_call_entry slot_list_setitem isl.typeIs entry_list_setitem body (args_list_setitem _ _ _)) (fun v s' h=>wpAny_pure h) fun _ _ z=>z)))))
end
def AS:V→Option Int→Option Int→V→Hp→(Hp→Prop)→Prop:=fun o l u v H Q=>∃(p q:Addr) (xs ys:List V) (a b:Nat),o=.ref p∧l=some (a:Int)∧u=some (b:Int)∧v=.ref q∧p≠q∧H p=some (.lst xs)∧H q=some (.lst ys)∧a≤b∧b≤xs.length∧xs.length+ys.length≤1000∧Q (upd H p (.lst (xs.take a++ys++xs.drop b)))
def Bo (to:TE) (tl th:TO):TG:=fun v σ H Q=>to σ H fun o H1=>tl σ H1 fun l H2=>th σ H2 fun u H3=>AS o l u v H3 fun H4=>Q σ H4
theorem nZ (its us:List Value) (n a b:Nat):∃n',Obj.mapSeq (fun zs=>zs.extract 0 a++us.toArray++zs.extract b zs.size) {cls:=.type "list",data:=.seq its.toArray n}={cls:=.type "list",data:=.seq (its.take a++us++its.drop b).toArray n'}:=by
 have e:its.toArray.extract 0 a++us.toArray++its.toArray.extract b its.toArray.size=(its.take a++us++its.drop b).toArray:=by
  apply Array.ext'
  simp
  exact bh (by rw [cm];exact aO _)
 exact ⟨if (its.take a++us++its.drop b).toArray.size==its.toArray.size then n else n+1,by rw [←e];rfl⟩
section
variable {X:Cx} {pos p2:Pos} {o:Expr} {lo hi:Option Expr} {to:TE} {tl th:TO}
theorem vJ (ho:PE X o to) (hl:PO X lo tl) (hu:PO X hi th)
  (ha:∀v,assign (.Subscript o (.Slice lo hi none p2) pos) X.env v=(do
   let ov ←holding [v] (eval o X.env)
   let iv ←holding [v,ov] (eval (.Slice lo hi none p2) X.env)
   standAt pos
   holding [v,ov,iv] (setItem ov iv v)
   release [iv,v,ov] []):=by intro _;rfl):PG X (.Subscript o (.Slice lo hi none p2) pos) (Bo to tl th):=by
 intro pins s σ H v u Q I r h
 rw [ha]
 refine wpAny_bind (wpAny_holding (thn (ho pins s σ H _ I h) fun ov s1 ⟨x,H1,I1,r1,q1⟩=>?_))
 refine wpAny_bind (wpAny_holding (wpAny_Slice (thn (hl pins s1 σ H1 _ I1 q1) fun vl s2 ⟨l,H2,I2,pl,q2⟩=>thn (hu pins s2 σ H2 _ I2 q2) fun vu s3 ⟨u',H3,I3,pu,q3⟩=>?_)))
 rw [evalPart_none]
 refine wpAny_pure (wpAny_bind (wpAny_standAt (wpAny_bind (wpAny_holding ?_))))
 have I4:Inv X pins σ H3 {s3 with heap:=s3.heap.push {cls:=.type "slice",data:=.fields #[vl,vu,.none]}}:=I3.kept (t':=s3.toks) fun b ob q=>au _ q
 obtain ⟨p,q,xs,ys,a,b,rfl,rfl,rfl,rfl,hpq,hp,hq,hab,hb,hz,k⟩:=q3
 cases r1;cases r
 obtain ⟨_,ta⟩:=pl
 obtain ⟨_,tb⟩:=pu
 obtain ⟨its,n,rv,hp',_⟩:=I4.lst hp
 obtain ⟨jts,n',rw',hq',_⟩:=I4.lst hq
 have l1:=rv.length
 have l2:=rw'.length
 obtain ⟨n2,hm⟩:=nZ its jts n a b
 refine rh hp' hq' hpq (Heap.IsSliceOf.new ..) hab (by rw [aT];omega) (by rw [aT,aT];omega) (wpAny_release ⟨σ,_,I4.sQ (ys:=xs.take a++ys++xs.drop b) hp hp' hm (((rv.take a).append rw').append (rv.drop b)) ?_ _,k⟩)
 rw [aw,aw,aD,cm]
 exact aM (aE (by omega))
end
end L2
namespace L2
open PySem
def LlS (H:Hp):List V→List (List Int)→Prop:=Paired fun v ns=>∃r,v=.ref r∧H r=some (.lst (ns.map V.int))
theorem LlS.same {H H':Hp} (S:bx H H') {xs:List V} {ls:List (List Int)} (h:LlS H xs ls):LlS H' xs ls:=Paired.oM h fun _ _ ⟨r,e,q⟩=>⟨r,e,S _ _ q⟩
theorem LlS.len {H:Hp} {xs:List V} {ls:List (List Int)} (h:LlS H xs ls):xs.length=ls.length:=Paired.length h
theorem LlS.at:∀{H:Hp} {xs:List V} {ls:List (List Int)} {i:Nat},LlS H xs ls→i<xs.length→∃r ns,xs.getD i .non=.ref r∧H r=some (.lst (ns.map V.int))∧ls[i]?=some ns
 | _,_,_,i,.nil,h=>absurd h (bM _)
 | _,_,_,0,.cons ⟨r,e,q⟩ _,_=>⟨r,_,e,q,rfl⟩
 | _,_,_,i+1,.cons _ t,h=>LlS.at (i:=i) t (Nat.lt_of_succ_lt_succ h)
theorem LlS.append:∀{H:Hp} {xs ys:List V} {ls ms:List (List Int)},LlS H xs ls→LlS H ys ms→LlS H (xs++ys) (ls++ms)
 | _,_,_,_,_,.nil,h=>h
 | _,_,_,_,_,.cons a t,h=>.cons a (LlS.append t h)
theorem gdl {l:List (List Int)} {g:List Int} {j:Nat} (h:j<l.length):(l++[g]).getD j []=l.getD j []:=by
 rw [aa,aa,cE h]
theorem gdr {l:List (List Int)} {g:List Int}:(l++[g]).getD l.length []=g:=by
 rw [aa,List.getElem?_append_right (aO _),Nat.sub_self];rfl
def lay (n:Nat) (fss:List (List Int)):Nat→List Int
 | 0=>az n 0
 | k+1=>bQ (·+·) (lay n fss k) ((fss.getD k []).map ((2^k:Int)*·))
theorem mx {n:Nat} {fss:List (List Int)}:∀{k:Nat},(∀j,j<k→(fss.getD j []).length=n)→(lay n fss k).length=n
 | 0,_=>bg ..
 | k+1,h=>by
  show (bQ _ _ _).length=n
  rw [dU,ae,mx fun j hj=>h j (by omega),h k (by omega)]
  exact eM _
theorem my {n:Nat} {fss:List (List Int)} {gs:List Int}:∀{k:Nat},k≤fss.length→lay n (fss++[gs]) k=lay n fss k
 | 0,_=>rfl
 | k+1,h=>by
  show bQ _ _ _=bQ _ _ _
  rw [my (by omega),gdl (by omega)]
theorem rJ {n:Nat} {fss:List (List Int)} {gs:List Int}:lay n (fss++[gs]) (fss.length+1)=bQ (·+·) (lay n fss fss.length) (gs.map ((2^fss.length:Int)*·)):=by
 show bQ _ _ _=_
 rw [my (aO _),gdr]
theorem pY {n t:Nat} {fss:List (List Int)} {k:Nat} (h:∀j,j<k+1→(fss.getD j []).length=n) (ht:t<n):(lay n fss (k+1)).getD t 0=(lay n fss k).getD t 0+2^k*(fss.getD k []).getD t 0:=by
 have h1:=mx (n:=n) (fss:=fss) (k:=k) fun j hj=>h j (by omega)
 have h2:=h k (by omega)
 show (bQ _ _ _).getD t 0=_
 rw [aa,List.getElem?_zipWith,br,ak (h1.symm▸ht),ak (h2.symm▸ht),fJ (h1.symm▸ht),fJ (h2.symm▸ht)]
 rfl
structure iH (m:Int) (es:List (Int×Int)) (sets fss:List (List Int)) (k:Nat):Prop where
 rd:∀j,j<k→RdF es (mkS es.length (sets.getD j [])) 2 (fss.getD j [])
 lt:∀j,j<k→LtR m es (mkS es.length (sets.getD j [])) 2 (fss.getD j [])
theorem iH.vW {m:Int} {es:List (Int×Int)} {sets fss:List (List Int)} {k:Nat} (L:iH m es sets fss k):∀j,j<k→(fss.getD j []).length=es.length:=fun j hj=>(L.rd j hj).len
theorem iH.pre {m:Int} {es:List (Int×Int)} {sets fss:List (List Int)} {k:Nat} (L:iH m es sets fss (k+1)):iH m es sets fss k:=⟨fun j hj=>L.rd j (by omega),fun j hj=>L.lt j (by omega)⟩
theorem iH.len {m:Int} {es:List (Int×Int)} {sets fss:List (List Int)} {k:Nat} (L:iH m es sets fss k):(lay es.length fss k).length=es.length:=mx L.vW
theorem iH.snoc {m:Int} {es:List (Int×Int)} {sets fss:List (List Int)} {ss gs:List Int} (L:iH m es sets fss fss.length) (hs:sets[fss.length]?=some ss) (R:RdF es (mkS es.length ss) 2 gs) (D:LtR m es (mkS es.length ss) 2 gs):iH m es sets (fss++[gs]) (fss.length+1):=by
 have e1:sets.getD fss.length []=ss:=by rw [aa,hs];rfl
 have e2:(fss++[gs]).getD fss.length []=gs:=gdr
 constructor<;>intro j hj<;>(by_cases c:j=fss.length)
 ·rw [c,e1,e2];exact R
 ·rw [gdl (by omega)];exact L.rd j (by omega)
 ·rw [c,e1,e2];exact D
 ·rw [gdl (by omega)];exact L.lt j (by omega)
theorem iH.det {m:Int} {es:List (Int×Int)} {sets fss gss:List (List Int)} (hE:∀e∈es,0≤e.1∧e.1<m∧0≤e.2∧e.2<m):∀{k:Nat},iH m es sets fss k→iH m es sets gss k→lay es.length fss k=lay es.length gss k
 | 0,_,_=>rfl
 | k+1,L,M=>by
  show bQ _ _ _=bQ _ _ _
  rw [iH.det hE L.pre M.pre,LtR.det hE (L.lt k (by omega)) (M.lt k (by omega))]
theorem iH.qu {m:Int} {es:List (Int×Int)} {sets fss:List (List Int)}:∀{k:Nat},iH m es sets fss k→∀p:Int,dp p es (lay es.length fss k) es.length=0
 | 0,_,p=>jG ..
 | k+1,L,p=>by
  show dp p es (bQ _ _ _) _=0
  rw [jF p es _ _ (by rw [L.pre.len,ae,L.vW k (by omega)]),jV,L.pre.qu p,(L.rd k (by omega)).qu p]
  simp
theorem iH.one {m:Int} {es:List (Int×Int)} {sets fss:List (List Int)} {k j t:Nat} (L:iH m es sets fss k) (hj:j<k) (ht:t<es.length):((t:Int)∈sets.getD j []→(fss.getD j []).getD t 0=1∨(fss.getD j []).getD t 0=-1)∧(¬(t:Int)∈sets.getD j []→(fss.getD j []).getD t 0=0):=by
 have hm:=jt (ss:=sets.getD j []) ht
 constructor<;>intro c
 ·rw [if_pos c] at hm
  rcases (L.rd j hj).pos t ht (by rw [hm];decide) with z | z
  ·rw [hm] at z;exact .inl z
  ·rw [hm] at z;exact .inr z
 ·rw [if_neg c] at hm
  exact (L.rd j hj).zero t ht hm
theorem mX (k:Nat):(0:Int)<2^k:=Int.pow_pos (by decide)
theorem iH.bound {m:Int} {es:List (Int×Int)} {sets fss:List (List Int)} {t:Nat} (ht:t<es.length):∀{k:Nat},iH m es sets fss k→-(2^k:Int)<(lay es.length fss k).getD t 0∧(lay es.length fss k).getD t 0<2^k
 | 0,_=>by
  have:(lay es.length fss 0).getD t 0=0:=by
   show (az es.length (0:Int)).getD t 0=0
   rw [fJ (by rw [bg];exact ht),List.getElem_replicate]
  rw [this];decide
 | k+1,L=>by
  have ih:=iH.bound ht L.pre
  have hp:=mX k
  have h2:(2:Int)^(k+1)=2^k*2:=Int.pow_succ ..
  rw [pY L.vW ht,h2]
  by_cases c:(t:Int)∈sets.getD k []
  ·rcases (L.one (bY k) ht).1 c with z | z<;>rw [z]<;>omega
  ·rw [(L.one (bY k) ht).2 c];omega
theorem iH.nz {m:Int} {es:List (Int×Int)} {sets fss:List (List Int)} {t:Nat} (ht:t<es.length):∀{k:Nat},iH m es sets fss k→∀{j:Nat},j<k→(t:Int)∈sets.getD j []→(lay es.length fss k).getD t 0≠0
 | k+1,L,j,hj,hm=>by
  have ib:=L.pre.bound ht
  have hp:=mX k
  rw [pY L.vW ht]
  by_cases c:(t:Int)∈sets.getD k []
  ·rcases (L.one (bY k) ht).1 c with z | z<;>rw [z]<;>omega
  ·rw [(L.one (bY k) ht).2 c,cW,Int.add_zero]
   by_cases y:j=k
   ·rw [y] at hm;exact absurd hm c
   ·exact iH.nz ht L.pre (by omega) hm
def Due (m:Int) (es:List (Int×Int)) (sets:List (List Int)):Prop:=(∀ss∈sets,fB es.length ss∧isR m es (mkS es.length ss) 2=true)∧∀t:Nat,t<es.length→∃ss∈sets,(t:Int)∈ss
end L2
namespace Pk
open PySem L2 PyProof.Rows
def top (i:Nat):Stmt:=PySem.Challenge.pw_busyweb_k39_layers.main.body.getD i (.Pass ⟨0,0,0,0⟩)
abbrev sN:Stmt:=inClass (top 16) 0
abbrev sTi:Stmt:=top 17
abbrev sMe:Stmt:=top 18
abbrev sAm:Stmt:=top 20
abbrev sGs:Stmt:=top 21
abbrev sAd:Stmt:=top 22
abbrev sTm:Stmt:=top 23
abbrev sCb:Stmt:=top 25
abbrev sRl:Stmt:=top 26
abbrev sSf:Stmt:=top 27
abbrev sSe:Stmt:=top 28
abbrev sWw:Stmt:=top 29
abbrev sRa:Stmt:=top 30
abbrev sPu:Stmt:=top 31
abbrev sCd:Stmt:=top 32
abbrev sBt:Stmt:=top 33
abbrev sFr:Stmt:=top 35
abbrev sFt:Stmt:=top 36
abbrev sFe:Stmt:=top 37
abbrev sFw:Stmt:=top 38
abbrev sWb:Stmt:=top 39
abbrev sRg:Stmt:=top 40
abbrev sRo:Stmt:=top 41
abbrev sCr:Stmt:=top 43
abbrev sRs:Stmt:=top 44
abbrev sIr:Stmt:=top 45
abbrev sFz:Stmt:=top 46
abbrev sRd:Stmt:=top 48
abbrev sLt:Stmt:=top 49
abbrev sCk:Stmt:=top 51
abbrev sMr:Stmt:=top 52
abbrev sEv:Stmt:=top 53
abbrev sEf:Stmt:=top 54
abbrev sAh:Stmt:=top 56
abbrev sLy:Stmt:=top 57
abbrev sC:Stmt:=top 59
abbrev sH:Stmt:=top 60
abbrev sX:Stmt:=top 61
abbrev sE:Stmt:=top 62
abbrev sD:Stmt:=top 63
abbrev sFo:Stmt:=top 64
abbrev sLg:Stmt:=top 65
abbrev sLm:Stmt:=top 66
abbrev sCh:Stmt:=top 67
abbrev sCm:Stmt:=top 68
abbrev tP:Stmt:=top 69
abbrev sBs:Stmt:=top 70
abbrev sEa:Stmt:=top 71
abbrev sSx:Stmt:=top 72
abbrev sDu:Stmt:=top 73
abbrev sRf:Stmt:=top 74
abbrev sR:Stmt:=top 75
abbrev sL:Stmt:=top 76
structure Cs where
 FlowError:Addr
 BadWeb:Addr
 TooMany:Addr
 BadPlace:Addr
 BadTie:Addr
 BadFlow:Addr
 BadRest:Addr
 NoFlow:Addr
 BadSet:Addr
 BadPaper:Addr
 BadText:Addr
 BadDeed:Addr
 Web:Addr
structure wL (K:ai) (c:Cs) (A:Addr):Prop where
 ex:vd K A
 ks:∃b1 b2 b3 b4 b5 b6 b7 b8 b9 b10 b11:Bool,bu K (.ref A) (.ref c.BadWeb)=some b1∧bu K (.ref A) (.ref c.TooMany)=some b2∧bu K (.ref A) (.ref c.BadPlace)=some b3∧bu K (.ref A) (.ref c.BadTie)=some b4 ∧
  bu K (.ref A) (.ref c.BadFlow)=some b5∧bu K (.ref A) (.ref c.BadRest)=some b6∧bu K (.ref A) (.ref c.NoFlow)=some b7∧bu K (.ref A) (.ref c.BadSet)=some b8 ∧
  bu K (.ref A) (.ref c.BadPaper)=some b9∧bu K (.ref A) (.ref c.BadText)=some b10∧bu K (.ref A) (.ref c.BadDeed)=some b11 ∧
  ([V.bl b1,.bl b2,.bl b3,.bl b4,.bl b5,.bl b6,.bl b7,.bl b8,.bl b9,.bl b10,.bl b11].countP fun z=>eqV z (.bl true))=1
 fe:bu K (.ref A) (.ref c.FlowError)=some true
 ve:bu K (.ref A) (.type "ValueError")=some true
structure Txt (K:ai) (mg:Str→Option Value) (c:Cs):Prop where
 ValueError:mg "ValueError"=none
 abs:mg "abs"=none
 all:mg "all"=none
 any:mg "any"=none
 bool:mg "bool"=none
 enumerate:mg "enumerate"=none
 int:mg "int"=none
 isinstance:mg "isinstance"=none
 len:mg "len"=none
 list:mg "list"=none
 max:mg "max"=none
 min:mg "min"=none
 range:mg "range"=none
 reversed:mg "reversed"=none
 sorted:mg "sorted"=none
 sum:mg "sum"=none
 tuple:mg "tuple"=none
 zip:mg "zip"=none
 mFlowError:mg "FlowError"=some (.ref c.FlowError)
 mBadWeb:mg "BadWeb"=some (.ref c.BadWeb)
 mTooMany:mg "TooMany"=some (.ref c.TooMany)
 mBadPlace:mg "BadPlace"=some (.ref c.BadPlace)
 mBadTie:mg "BadTie"=some (.ref c.BadTie)
 mBadFlow:mg "BadFlow"=some (.ref c.BadFlow)
 mBadRest:mg "BadRest"=some (.ref c.BadRest)
 mNoFlow:mg "NoFlow"=some (.ref c.NoFlow)
 mBadSet:mg "BadSet"=some (.ref c.BadSet)
 mBadPaper:mg "BadPaper"=some (.ref c.BadPaper)
 mBadText:mg "BadText"=some (.ref c.BadText)
 mBadDeed:mg "BadDeed"=some (.ref c.BadDeed)
 mWeb:mg "Web"=some (.ref c.Web)
 web:wI K c.Web
 most_places:∃t,mg "MOST_PLACES"=some (.int 20 t)
 most_ties:∃t,mg "MOST_TIES"=some (.int 40 t)
 xFlowError:jJ K c.FlowError
 xBadTie:jJ K c.BadTie
 xBadFlow:jJ K c.BadFlow
 xBadRest:jJ K c.BadRest
 xBadSet:jJ K c.BadSet
 rBadSet:dE K c.BadSet (.ref c.FlowError)=some true
 alBadSet:wL K c c.BadSet
def rg (K:ai):Sp:=fun vs H Q _=>∃(a:Addr) (ns:List Int),vs=[.ref a]∧SqL K H a (ns.map V.int)∧ns.length≤63∧∀H',Q (.bl true) H'
section
variable {P:Program} {w:World} {K:ai} {mg:Str→Option Value} {base:Heap} {c:Cs}
theorem scN:bS ["self","many","ties","start","end"] ["self","many","ties"] (aB sN):=⟨rfl,rfl,rfl,by decide +kernel,rfl,by decide +kernel,by decide +kernel⟩
theorem yt (m:Int) (t:Addr):jL "ties" (.ref t) (jL "many" (.int m) [])=wFs m t:=rfl
theorem Bd {f:Addr} {fd:FuncData} (F:Fun K "__init__" "Web.__init__" sN f fd) (T:Txt K mg c):fm P w K mg base CX0 1 f fd ["self","many","ties"] (mR K c.Web):=by
 refine F.ok scN (fun vs H Q E h=>?_) (fun cdv A outer s H vs Q E hr h=>?_)
 ·obtain ⟨x,dx,p,m,xs,es,rfl,_⟩:=h
  rfl
 ·obtain ⟨x,dx,p,m,xs,es,rfl,hx,hS,hp,m1,m2,hz,hE,k⟩:=h
  have hlen:=hp.len
  refine ⟨_,ax (dZ (PW.pt (jN (bL iB (pv 1) (aN) (cw _)) (jN (bL iO (pv 1) (fw (v:=.int 20) (by rfl) T.most_places.choose_spec ⟨_,rfl⟩) (cw _)) (iV (bL iO (a_ (gc (K:=K) rfl) (by rfl) T.len aS (ah (pv 2) ay)) (fw (v:=.int 40) (by rfl) T.most_ties.choose_spec ⟨_,rfl⟩) (cw _))))))
    (aQ (je)) (cL))
   (ax (fk PassesOwn.never rfl (f_ (K:=K) rfl (pv 2)) (jo (K:=K) (n:=2) rfl rfl (dh (bG (i:=3) scN.nd rfl (Or.inl rfl)) (dh (bG (i:=4) scN.nd rfl (Or.inl rfl)) (fW))) rfl)
    (aQ (dZ (ig (PW.pt (iW (ke pJ iB (aN) (pv 3) (pv 1)) (gW (ke pJ iB (aN) (pv 4) (pv 1))))))
    (aQ (je)) (cL))))
   (ax (sJ (pv 0) (pv 1) rfl)
   (aQ (sJ (pv 0) (fq (wC (K:=K) rfl) (by rfl) T.tuple PyProof.Rows.boot_tuple (ah (fG (N':=["start","end"]) (nl:=2) (js:=[]) rfl (.of (osc:=aB sN) (N:=["self","many","ties","start","end"]) (by decide +kernel) rfl rfl) (f_ (K:=K) rfl (pv 2))
    (fun _ _ _ _=>kU (K:=K) (i:=0) (j:=1) rfl rfl (show (["start","end"]:List Str).Nodup by decide +kernel) rfl rfl rfl rfl) (fun _ _ _ _=>dG)
    (fun _ _ _ _=>iz (ah (pv 0) (ah (pv 1) ay)))) ay)) rfl)))),?_⟩
  refine ⟨_,rfl,_,_,rfl,rfl,_,rfl,?_⟩
  rw [decide_eq_false (by lia)]
  refine gb ⟨_,rfl,_,_,rfl,rfl,_,rfl,?_⟩
  rw [decide_eq_false (by lia)]
  refine gb ⟨_,rfl,p,xs,rfl,hS,_,_,rfl,rfl,_,rfl,?_⟩
  rw [decide_eq_false (by lia)]
  refine gb ⟨_,rfl,p,xs,rfl,hS,fun J C O hC=>fF O (fun i σ H2=>H2=H∧∃v3 v4,σ=[some (.ref x),some (.int m),some (.ref p),v3,v4]) ⟨rfl,_,_,rfl⟩ (fun i σ H2 _ h=>by rw [h.1];exact hC _ (bx.refl _)) ?_ ?_⟩
  ·rintro i σ H2 hi ⟨rfl,v3,v4,rfl⟩
   obtain ⟨r,e,er,hr2,_,he⟩:=hp.at hi
   obtain ⟨b1,b2,b3,b4⟩:=hE e he
   dsimp only
   rw [er]
   refine ⟨r,_,rfl,hr2,rfl,_,_,rfl,_,_,rfl,rfl,?_⟩
   refine ⟨_,rfl,_,_,rfl,rfl,_,rfl,?_⟩
   rw [decide_eq_true b1]
   refine ft ⟨_,rfl,_,_,rfl,rfl,_,rfl,?_⟩
   rw [decide_eq_true b2]
   refine ft ⟨_,rfl,_,_,rfl,rfl,_,rfl,?_⟩
   rw [decide_eq_true b3]
   refine ft ⟨_,rfl,_,_,rfl,rfl,_,rfl,?_⟩
   rw [decide_eq_true b4]
   exact gb ⟨rfl,_,_,rfl⟩
  ·rintro σ H2 ⟨rfl,v3,v4,rfl⟩
   refine ⟨_,rfl,_,rfl,x,c.Web,dx,_,rfl,hx,T.web.cl,T.web.nM,(by show 0<1000;decide),?_⟩
   have sx:eY x H2 (upd H2 x (.ins c.Web dx (jL "many" (.int m) []))):=dF
   have hS':=hS.imp (fun y=>sx.Ax hx y) (fun y=>sx.tupI hx y)
   have hp':=hp.vC sx hx
   have hx':(upd H2 x (.ins c.Web dx (jL "many" (.int m) []))) x=some (.ins c.Web dx (jL "many" (.int m) [])):=av
   generalize upd H2 x (.ins c.Web dx (jL "many" (.int m) []))=H3 at sx hS' hp' hx'
   refine ⟨_,rfl,p,xs,rfl,hS',fun J C O hC=>fD O (fun i ys H4=>bx H3 H4∧Pairs K H4 ys (es.take i)) (aM (aE (by lia))) ⟨bx.refl _,.nil⟩ ?_ ?_ ?_⟩
   ·rintro i ys H4 hi ⟨s4,h4⟩
    have:=h4.len
    rw [aD] at this
    exact ⟨hC _ s4,by lia⟩
   ·rintro i ys H4 hi ⟨s4,h4⟩
    obtain ⟨r,e,er,hr2,he,_⟩:=(hp'.same s4).at hi
    have hl4:=h4.len
    rw [aD] at hl4
    try dsimp only
    rw [er]
    refine ⟨r,_,rfl,hr2,rfl,_,_,rfl,_,_,rfl,rfl,iK rfl rfl,ft ?_⟩
    refine ⟨_,rfl,_,rfl,(by show 2≤sizeLine;decide),fun t ht=>⟨aE (by lia),_,by lia,rfl,hi,s4.next ht,?_⟩⟩
    rw [take_snoc he]
    exact (h4.same (bx.new ht)).snoc (SqT.of av)
   ·rintro ys H4 ⟨s4,h4⟩ l hl
    rw [show es.take xs.length=es from bh (by lia)] at h4
    refine ⟨l,ys,rfl,.inl ⟨SqL.of av,fun t ht=>?_⟩⟩
    have s5:bx H3 (upd (upd H4 l (.lst ys)) t (.tup ys)):=(s4.next hl).next ht
    refine ⟨_,rfl,x,c.Web,dx,_,rfl,s5 _ _ hx',T.web.cl,T.web.nT,(by show 1<1000;decide),?_⟩
    rw [yt]
    have hxt:t≠x:=(bw (((s4.next hl)) _ _ hx') ht).symm
    refine k _ t ys ((sx.trans (.of s5)).trans dF) av (by rw [bX hxt];exact av) ?_
    exact Pairs.vC dF (s5 _ _ hx') ((h4.same (bx.new hl)).same (bx.new ht))
def xF (K:ai) (C cT:Addr):Sp:=fun vs H Q E=>∃(x:Addr) (p m:Int) (es:List (Int×Int)),vs=[.ref x,.int p]∧fb K C H x m es∧(0≤p→p<(es.length:Int)→Q .non H)∧(¬(0≤p∧p<(es.length:Int))→E (.ref cT) none H)
theorem Az:bS ["web","tie"] ["web","tie"] (aB sTi):=⟨rfl,rfl,rfl,by decide +kernel,rfl,by decide +kernel,by decide +kernel⟩
theorem yy {f:Addr} {fd:FuncData} (F:Fun K "check_tie" "check_tie" sTi f fd) (T:Txt K mg c):fm P w K mg base (CXE P w) 1 f fd ["web","tie"] (xF K c.Web c.BadTie):=by
 refine F.okE Az (fun vs H Q E h=>?_) (fun cdv A outer s H vs Q E hr h=>?_)
 ·obtain ⟨x,p,m,es,rfl,_⟩:=h
  rfl
 ·obtain ⟨x,p,m,es,rfl,hw,k1,k2⟩:=h
  refine ⟨_,aQ (dZ (ig (ke pJ iB (aN) (pv 1) (a_ (gc (K:=K) rfl) (by rfl) T.len aS (ah (gF (K:=K) rfl T.web (pv 0)) ay))))
    (aQ (fP rfl rfl (by rfl) T.mBadTie T.xBadTie (ah gS ay))) (cL)),?_⟩
  refine ⟨_,rfl,_,_,rfl,rfl,_,rfl,fX (fun c1=>?_) (fun c1=>?_)⟩
  ·refine ⟨_,rfl,x,m,es,rfl,hw,fun t ys ht hp=>⟨t,ys,rfl,.inr (SqT.of ht),_,_,rfl,rfl,_,rfl,?_⟩⟩
   have hl:=hp.len
   by_cases c2:p<(ys.length:Int)
   ·rw [decide_eq_true c2]
    exact gb (k1 (of_decide_eq_true c1) (by lia))
   ·rw [decide_eq_false c2]
    exact ft ⟨(by show 1≤sizeLine;decide),k2 fun z=>c2 (by lia)⟩
  ·exact ⟨_,rfl,ft ⟨(by show 1≤sizeLine;decide),k2 fun z=>c1 (decide_eq_true z.1)⟩⟩
def xR (K:ai):Sp:=fun vs H Q _=>∃(l:Addr) (a b:Int) (ls:List Int),vs=[.ref l,.int a,.int b]∧SqL K H l (ls.map V.int)∧ls.length≤900∧0≤a∧a<ls.length∧0≤b∧b<ls.length ∧
 ∀l2 H',H l2=none→bx H H'→H' l2=some (.lst ((ls.map fun x=>if x=max (lf ls a) (lf ls b) then min (lf ls a) (lf ls b) else x).map V.int))→Q (.ref l2) H'
theorem Bl (i j:Int):(if j<i then j else i)=min i j:=by split<;>lia
theorem imax (i j:Int):(if j>i then j else i)=max i j:=by split<;>lia
theorem yk:bS ["labels","one","two","low","high"] ["labels","one","two"] (aB sMe):=⟨rfl,rfl,rfl,by decide +kernel,rfl,by decide +kernel,by decide +kernel⟩
theorem yL {f:Addr} {fd:FuncData} (F:Fun K "merged" "merged" sMe f fd) (T:Txt K mg c):fm P w K mg base CX0 1 f fd ["labels","one","two"] (xR K):=by
 refine F.ok yk (fun vs H Q E h=>?_) (fun cdv A outer s H vs Q E hr h=>?_)
 ·obtain ⟨l,a,b,ls,rfl,_⟩:=h
  rfl
 ·obtain ⟨l,a,b,ls,rfl,hl,hz,a0,a1,b0,b1,k⟩:=h
  refine ⟨_,ax (bA (i:=3) yk.nd rfl (Or.inr rfl) (a_ (qQ rfl) (by rfl) T.min PyProof.Rows.boot_min (ah (cn (ixL (K:=K) rfl) (pv 0) (pv 1) (fun _ _=>rfl)) (ah (cn (ixL (K:=K) rfl) (pv 0) (pv 2) (fun _ _=>rfl)) ay))))
   (ax (bA (i:=4) yk.nd rfl (Or.inr rfl) (a_ (qR rfl) (by rfl) T.max PyProof.Rows.boot_max (ah (cn (ixL (K:=K) rfl) (pv 0) (pv 1) (fun _ _=>rfl)) (ah (cn (ixL (K:=K) rfl) (pv 0) (pv 2) (fun _ _=>rfl)) ay))))
   (aQ (cC (fG (N':=["label","low","high"]) (nl:=1) (js:=[3,4]) rfl (.of (osc:=aB sMe) (N:=["labels","one","two","low","high"]) (by decide +kernel) rfl rfl) (f_ (K:=K) rfl (pv 0))
    (fun _ _ _ _=>bG (i:=0) (show (["label","low","high"]:List Str).Nodup by decide +kernel) rfl (Or.inl rfl)) (fun _ _ _ _=>dG)
    (fun _ _ _ _=>gq (bL gm (pv 0) (pv 2) (cw _)) (pv 1) (pv 0)))))),?_⟩
  refine ⟨_,rfl,_,rfl,l,_,_,_,rfl,rfl,hl,dY a0 a1,_,rfl,_,rfl,l,_,_,_,rfl,rfl,hl,dY b0 b1,_,_,rfl,?_⟩
  refine ⟨_,rfl,_,rfl,l,_,_,_,rfl,rfl,hl,dY a0 a1,_,rfl,_,rfl,l,_,_,_,rfl,rfl,hl,dY b0 b1,_,_,rfl,?_⟩
  have hf:∀x:Int,(if x=max (lf ls a) (lf ls b) then min (lf ls a) (lf ls b) else x)=(if x=(if ls.getD b.toNat 0>ls.getD a.toNat 0 then ls.getD b.toNat 0 else ls.getD a.toNat 0) then (if ls.getD b.toNat 0<ls.getD a.toNat 0 then ls.getD b.toNat 0 else ls.getD a.toNat 0) else x):=fun x=>by
   rw [Bl,imax];rfl
  refine ⟨_,rfl,l,_,rfl,.inl hl,fun J C O hC=>fD O (fun i ys H2=>H2=H∧ys=((ls.map fun x=>if x=max (lf ls a) (lf ls b) then min (lf ls a) (lf ls b) else x).take i).map V.int) (by rw [ae];exact aM (aE (by lia))) ⟨rfl,rfl⟩ ?_ ?_ ?_⟩
  ·rintro i ys H2 hi ⟨rfl,rfl⟩
   exact ⟨hC _ (bx.refl _),by rw [ae,aD];lia⟩
  ·rintro i ys H hi ⟨rfl,rfl⟩
   obtain ⟨v,ev,gv⟩:=getD_map_int hi
   rw [ae] at hi
   dsimp only
   rw [ev]
   have fin:∀u,u=(if v=max (lf ls a) (lf ls b) then min (lf ls a) (lf ls b) else v)→((ls.map fun x=>if x=max (lf ls a) (lf ls b) then min (lf ls a) (lf ls b) else x).take i).map V.int++[V.int u]=((ls.map fun x=>if x=max (lf ls a) (lf ls b) then min (lf ls a) (lf ls b) else x).take (i+1)).map V.int:=fun u e=>by
    have hv:(ls.map fun x=>if x=max (lf ls a) (lf ls b) then min (lf ls a) (lf ls b) else x)[i]?=some u:=by rw [br,gv,e];rfl
    rw [take_snoc hv,aH];rfl
   have hl2:(((ls.map fun x=>if x=max (lf ls a) (lf ls b) then min (lf ls a) (lf ls b) else x).take i).map V.int).length<sizeLine:=aE (by rw [ae,aD];lia)
   refine ⟨dQ rfl,ft ?_⟩
   refine ⟨_,rfl,_,rfl,rfl,_,rfl,fX (fun c1=>?_) (fun c1=>?_)⟩
   ·refine ⟨_,rfl,hl2,_,by rw [ae];lia,rfl,by rw [ae];lia,rfl,fin _ ?_⟩
    have c1':=of_decide_eq_true c1
    injection c1' with c1'
    rw [hf,if_pos c1']
   ·refine ⟨_,rfl,hl2,_,by rw [ae];lia,rfl,by rw [ae];lia,rfl,fin _ ?_⟩
    rw [hf,if_neg (fun z=>c1 (decide_eq_true (by rw [z])))]
  ·rintro ys H ⟨rfl,rfl⟩ l2 nl
   rw [ae,bh (by rw [ae];lia)]
   exact k l2 _ nl (bx.new nl) av
def wY (K:ai) (C cF:Addr):Sp:=fun vs H Q E=>∃(x f:Addr) (m:Int) (es:List (Int×Int)) (xs:List V),vs=[.ref x,.ref f]∧fb K C H x m es∧(SqL K H f xs∨SqT K H f xs)∧(xs.length=es.length→Q .non H)∧(xs.length≠es.length→E (.ref cF) none H)
theorem AN:bS ["web","flow"] ["web","flow"] (aB sAm):=⟨rfl,rfl,rfl,by decide +kernel,rfl,by decide +kernel,by decide +kernel⟩
theorem zm {f:Addr} {fd:FuncData} (F:Fun K "check_amounts" "check_amounts" sAm f fd) (T:Txt K mg c):fm P w K mg base (CXE P w) 1 f fd ["web","flow"] (wY K c.Web c.BadFlow):=by
 refine F.okE AN (fun vs H Q E h=>?_) (fun cdv A outer s H vs Q E hr h=>?_)
 ·obtain ⟨x,f,m,es,xs,rfl,_⟩:=h
  rfl
 ·obtain ⟨x,f,m,es,xs,rfl,hw,hS,k1,k2⟩:=h
  refine ⟨_,aQ (dZ (bL l_ (a_ (gc (K:=K) rfl) (by rfl) T.len aS (ah (pv 1) ay)) (a_ (gc (K:=K) rfl) (by rfl) T.len aS (ah (gF (K:=K) rfl T.web (pv 0)) ay)) (cw _))
    (aQ (fP rfl rfl (by rfl) T.mBadFlow T.xBadFlow (ah gS ay))) (cL)),?_⟩
  refine ⟨_,rfl,f,xs,rfl,hS,_,rfl,x,m,es,rfl,hw,fun t ys ht hp=>⟨t,ys,rfl,.inr (SqT.of ht),rfl,_,rfl,?_⟩⟩
  have hl:=hp.len
  by_cases e:xs.length=es.length
  ·rw [decide_eq_true (show V.int (xs.length:Int)=V.int (ys.length:Int) by rw [hl,e])]
   exact gb (k1 e)
  ·rw [decide_eq_false (show ¬V.int (xs.length:Int)=V.int (ys.length:Int) by rw [hl];intro z;injection z with z;lia)]
   exact ft ⟨(by show 1≤sizeLine;decide),k2 e⟩
theorem q_ {H:Hp} {q l:Addr} {o:HO} (h:upd H q o l=none):H l=none:=by
 by_cases e:l=q
 ·subst e;rw [av] at h;cases h
 ·rwa [bX e] at h
def xV (K:ai) (C:Addr):Sp:=fun vs H Q _=>∃(x f:Addr) (b:Bool) (m:Int) (es:List (Int×Int)) (fs:List Int),vs=[.ref x,.ref f]∧fb K C H x m es∧SqB b K H f (fs.map V.int)∧fs.length=es.length∧1≤m∧m≤20∧es.length≤40∧cV es m ∧
 ∀(l:Addr) (H':Hp) (zs:List Int),H' l=some (.lst (zs.map V.int))→zs.length=m.toNat→(∀p:Nat,p<m.toNat→zs.getD p 0=dp p es fs es.length)→bx H H'→Q (.ref l) H'
theorem xb:bS ["web","flow","told","ends","amount"] ["web","flow"] (aB sGs):=⟨rfl,rfl,rfl,by decide +kernel,rfl,by decide +kernel,by decide +kernel⟩
theorem yR {f:Addr} {fd:FuncData} (F:Fun K "gains" "gains" sGs f fd) (T:Txt K mg c):fm P w K mg base CX0 1 f fd ["web","flow"] (xV K c.Web):=by
 refine F.ok xb (fun vs H Q E h=>?_) (fun cdv A outer s H vs Q E hr h=>?_)
 ·obtain ⟨x,f,b,m,es,fs,rfl,_⟩:=h
  rfl
 ·obtain ⟨x,f,b,m,es,fs,rfl,hw,hf,hlen,m1,m2,hz,hE,k⟩:=h
  refine ⟨_,ax (bA (i:=2) xb.nd rfl (Or.inl rfl) (bK iA (de (ah (aN) ay)) (uh (K:=K) rfl T.web (pv 0))))
   (ax (fk PassesOwn.never rfl (kS (K:=K) rfl rfl T.zip (ah (gF (K:=K) rfl T.web (pv 0)) (ah (pv 1) ay))) (jo (K:=K) (n:=2) rfl rfl (dh (bG (i:=3) xb.nd rfl (Or.inl rfl)) (dh (bG (i:=4) xb.nd rfl (Or.inl rfl)) (fW))) rfl)
    (ax (lY (pv 2) (cn (ixT (K:=K) rfl) (pv 3) (aN) (fun _ _=>rfl)) (ku (K:=K) rfl) (pv 4) we set_list)
   (aQ (lY (pv 2) (cn (ixT (K:=K) rfl) (pv 3) (aN) (fun _ _=>rfl)) (ku (K:=K) rfl) (pv 4) nB set_list))))
   (aQ (cC (pv 2)))),?_⟩
  refine ⟨(by show 1≤sizeLine;decide),fun q hq=>?_⟩
  refine ⟨_,rfl,x,m,es,rfl,hw.same (bx.new hq),q,m,_,rfl,rfl,av,by lia,by lia,aM (aE (by show 1*m.toNat≤1000;lia)),fun l hl=>?_⟩
  rw [fZ]
  have hlH:H l=none:=q_ hl
  have s1:bx H (upd (upd H q (.lst [.int 0])) l (.lst ((az m.toNat 0).map V.int))):=(bx.new hq).next hl
  have e1:(upd (upd H q (.lst [.int 0])) l (.lst ((az m.toNat 0).map V.int))) l=some (.lst ((az m.toNat 0).map V.int)):=av
  generalize upd (upd H q (.lst [.int 0])) l (.lst ((az m.toNat 0).map V.int))=H1 at s1 e1
  refine ⟨_,rfl,x,m,es,rfl,hw.same s1,fun t ys ht hp=>⟨_,rfl,true,b,t,f,ys,fs.map V.int,rfl,SqT.of ht,hf.same s1,fun J C O hC=>?_⟩⟩
  have hpl:=hp.len
  have sXH:∀{H2:Hp},eY l H1 H2→bx H H2:=fun sX b o e=>sX b o (bw e hlH) (s1 b o e)
  have hn:min ys.length (fs.map V.int).length=es.length:=by rw [ae,hlen,hpl];exact eM _
  refine jC O (fun i σ H2=>∃zs v3 v4,σ=[some (.ref x),some (.ref f),some (.ref l),v3,v4]∧H2 l=some (.lst (zs.map V.int))∧zs.length=m.toNat∧(∀p:Nat,p<m.toNat→zs.getD p 0=dp p es fs i)∧eY l H1 H2) ⟨az m.toNat 0,none,none,rfl,e1,bg ..,fun p hp=>?_,.of (bx.refl _)⟩ ?_ ?_ ?_
  ·rw [aa,cq,if_pos hp];rfl
  ·rintro i σ H2 _ ⟨zs,v3,v4,rfl,e2,hzl,hd,sX⟩
   exact hC H2 (eY.tup sX e1 (SqT.of ht)) (hf.same (sXH sX))
  ·rintro i σ H2 p hi ⟨zs,v3,v4,rfl,e2,hzl,hd,sX⟩ hp2
   rw [hn] at hi
   obtain ⟨r,e,er,hr2,ei,he⟩:=hp.at (i:=i) (by lia)
   obtain ⟨b1,b2,b3,b4⟩:=hE e he
   dsimp only
   rw [er,getD_ints (by lia)]
   refine ⟨p,_,rfl,SqT.of av,rfl,_,_,rfl,_,_,rfl,rfl,?_⟩
   have s3:bx H2 (upd H2 p (.tup [.ref r,.int (fs.getD i 0)])):=bx.new hp2
   have e3:=s3 _ _ e2
   have r3:SqT K (upd H2 p (.tup [.ref r,.int (fs.getD i 0)])) r [.int e.1,.int e.2]:=s3.tup (eY.tup sX e1 hr2)
   generalize upd H2 p (.tup [.ref r,.int (fs.getD i 0)])=H3 at s3 e3 r3
   refine ⟨_,rfl,_,rfl,r,_,0,_,rfl,rfl,r3,rfl,l,_,e.1,_,rfl,rfl,b1,SqL.of e3,ky (by lia),_,rfl,_,_,rfl,rfl,l,_,e.1,_,rfl,rfl,e3,gP b1 (by rw [ae];lia),?_⟩
   rw [fO]
   have x4:eY l H3 (upd H3 l (.lst ((zs.set e.1.toNat (zs.getD e.1.toNat 0-fs.getD i 0)).map V.int))):=dF
   have e4:(upd H3 l (.lst ((zs.set e.1.toNat (zs.getD e.1.toNat 0-fs.getD i 0)).map V.int))) l=some (.lst ((zs.set e.1.toNat (zs.getD e.1.toNat 0-fs.getD i 0)).map V.int)):=av
   have r4:=eY.tup x4 e3 r3
   generalize upd H3 l (.lst ((zs.set e.1.toNat (zs.getD e.1.toNat 0-fs.getD i 0)).map V.int))=H4 at x4 e4 r4
   refine ⟨_,rfl,_,rfl,r,_,1,_,rfl,rfl,r4,rfl,l,_,e.2,_,rfl,rfl,b3,SqL.of e4,ky (by rw [bN];lia),_,rfl,_,_,rfl,rfl,l,_,e.2,_,rfl,rfl,e4,gP b3 (by rw [ae,bN];lia),?_⟩
   rw [fO]
   exact ⟨_,_,_,rfl,av,by rw [bN,bN];exact hzl,fun p hp=>qD hzl ei b1 (by lia) b3 (by lia) hd p hp,((sX.trans (.of s3)).trans x4).trans dF⟩
  ·rintro σ H2 ⟨zs,v3,v4,rfl,e2,hzl,hd,sX⟩
   rw [hn] at hd
   exact ⟨_,rfl,k l H2 zs e2 hzl hd (sXH sX)⟩
def vz (K:ai) (cF:Addr):Sp:=fun vs H Q E=>∃(p q:Addr) (b1 b2:Bool) (ns ms:List Int),vs=[.ref p,.ref q]∧SqB b1 K H p (ns.map V.int)∧SqB b2 K H q (ms.map V.int)∧ns.length≤900∧(ns.length≠ms.length→E (.ref cF) none H) ∧
 (ns.length=ms.length→∀l H',H l=none→bx H H'→H' l=some (.lst ((bQ (·+·) ns ms).map V.int))→Q (.ref l) H')
theorem AO:bS ["one","two"] ["one","two"] (aB sAd):=⟨rfl,rfl,rfl,by decide +kernel,rfl,by decide +kernel,by decide +kernel⟩
theorem zp {f:Addr} {fd:FuncData} (F:Fun K "added" "added" sAd f fd) (T:Txt K mg c):fm P w K mg base (CXE P w) 1 f fd ["one","two"] (vz K c.BadFlow):=by
 refine F.okE AO (fun vs H Q E h=>?_) (fun cdv A outer s H vs Q E hr h=>?_)
 ·obtain ⟨p,q,b1,b2,ns,ms,rfl,_⟩:=h
  rfl
 ·obtain ⟨p,q,b1,b2,ns,ms,rfl,hp,hq,hz,k1,k2⟩:=h
  refine ⟨_,ax (dZ (bL l_ (a_ (gc (K:=K) rfl) (by rfl) T.len aS (ah (pv 0) ay)) (a_ (gc (K:=K) rfl) (by rfl) T.len aS (ah (pv 1) ay)) (cw _))
    (aQ (fP rfl rfl (by rfl) T.mBadFlow T.xBadFlow (ah gS ay))) (cL))
   (aQ (cC (fG (N':=["first","second"]) (nl:=2) (js:=[]) rfl (.of (osc:=aB sAd) (N:=["one","two"]) (by decide +kernel) rfl rfl) (kS (K:=K) rfl rfl T.zip (ah (pv 0) (ah (pv 1) ay)))
    (fun _ _ _ _=>kU (K:=K) (i:=0) (j:=1) rfl rfl (show (["first","second"]:List Str).Nodup by decide +kernel) rfl rfl rfl rfl) (fun _ _ _ _=>dG)
    (fun _ _ _ _=>bK eW (pv 0) (pv 1))))),?_⟩
  refine ⟨_,rfl,p,_,rfl,hp.or,_,rfl,q,_,rfl,hq.or,rfl,_,rfl,?_⟩
  by_cases e:ns.length=ms.length
  ·rw [decide_eq_true (show V.int ((ns.map V.int).length:Int)=V.int ((ms.map V.int).length:Int) by rw [ae,ae,e])]
   refine gb ?_
   have hn:min (ns.map V.int).length (ms.map V.int).length=ns.length:=by rw [ae,ae,←e];exact eM _
   have hzl:(bQ (·+·) ns ms).length=ns.length:=by rw [dU,←e];exact eM _
   refine ⟨_,rfl,_,rfl,b1,b2,p,q,_,_,rfl,hp,hq,fun J C O hC=>nk O (fun i ys H2=>bx H H2∧ys=((bQ (·+·) ns ms).take i).map V.int) (by rw [hn];exact aM (aE (by lia))) ⟨bx.refl _,rfl⟩ ?_ ?_ ?_⟩
   ·rintro i ys H2 hi ⟨s2,rfl⟩
    exact ⟨hC _ (hp.same s2) (hq.same s2),by rw [ae,aD];lia⟩
   ·rintro i ys H2 r hi ⟨s2,rfl⟩ nr
    rw [hn] at hi
    have hv:(bQ (·+·) ns ms)[i]?=some (ns.getD i 0+ms.getD i 0):=by
     rw [List.getElem?_zipWith,aa,aa,ak hi,ak (show i<ms.length by lia)];rfl
    dsimp only
    rw [getD_ints hi,getD_ints (show i<ms.length by lia)]
    refine ⟨r,_,rfl,SqT.of av,rfl,_,_,rfl,_,_,rfl,rfl,iK rfl rfl,ft ?_⟩
    refine ⟨_,rfl,_,rfl,_,_,rfl,rfl,aE (by rw [ae,aD];lia),_,by rw [hn];lia,rfl,by rw [hn];lia,s2.next nr,?_⟩
    rw [take_snoc hv,aH];rfl
   ·rintro ys H2 ⟨s2,rfl⟩ l nl
    rw [hn,bh (by lia)]
    exact k2 e l _ (by
     cases e':H l with
     | none=>rfl
     | some o=>have:=s2 _ _ e';rw [nl] at this;cases this) (s2.next nl) av
  ·rw [decide_eq_false (show ¬V.int ((ns.map V.int).length:Int)=V.int ((ms.map V.int).length:Int) by rw [ae,ae];intro z;injection z with z;lia)]
   exact ft ⟨(by show 1≤sizeLine;decide),k1 e⟩
def vy (K:ai):Sp:=fun vs H Q _=>∃(p:Addr) (b:Bool) (z:Int) (ns:List Int),vs=[.int z,.ref p]∧SqB b K H p (ns.map V.int)∧ns.length≤900∧z.natAbs<2^200∧(∀v∈ns,v.natAbs<2^200) ∧
 ∀l H',H l=none→bx H H'→H' l=some (.lst ((ns.map (z*·)).map V.int))→Q (.ref l) H'
theorem Ay:bS ["number","flow"] ["number","flow"] (aB sTm):=⟨rfl,rfl,rfl,by decide +kernel,rfl,by decide +kernel,by decide +kernel⟩
theorem yx {f:Addr} {fd:FuncData} (F:Fun K "times" "times" sTm f fd) (T:Txt K mg c):fm P w K mg base CX0 1 f fd ["number","flow"] (vy K):=by
 refine F.ok Ay (fun vs H Q E h=>?_) (fun cdv A outer s H vs Q E hr h=>?_)
 ·obtain ⟨p,b,z,ns,rfl,_⟩:=h
  rfl
 ·obtain ⟨p,b,z,ns,rfl,hp,hz,hzb,hnb,k⟩:=h
  refine ⟨_,aQ (cC (fG (N':=["amount","number"]) (nl:=1) (js:=[0]) rfl (.of (osc:=aB sTm) (N:=["number","flow"]) (by decide +kernel) rfl rfl) (f_ (K:=K) rfl (pv 1))
    (fun _ _ _ _=>bG (i:=0) (show (["amount","number"]:List Str).Nodup by decide +kernel) rfl (Or.inl rfl)) (fun _ _ _ _=>dG)
    (fun _ _ _ _=>bK iq (pv 1) (pv 0)))),?_⟩
  refine ⟨_,rfl,p,_,rfl,hp.or,fun J C O hC=>fD O (fun i ys H2=>H2=H∧ys=((ns.map (z*·)).take i).map V.int) (by rw [ae];exact aM (aE (by lia))) ⟨rfl,rfl⟩ ?_ ?_ ?_⟩
  ·rintro i ys H2 hi ⟨rfl,rfl⟩
   exact ⟨hC _ (bx.refl _),by rw [ae,aD];lia⟩
  ·rintro i ys H hi ⟨rfl,rfl⟩
   obtain ⟨v,ev,gv⟩:=getD_map_int hi
   rw [ae] at hi
   have hv:(ns.map (z*·))[i]?=some (z*v):=by rw [br,gv];rfl
   dsimp only
   rw [ev]
   refine ⟨dQ rfl,ft ?_⟩
   refine ⟨_,rfl,_,rfl,_,_,rfl,rfl,⟨hzb,hnb v (aZ gv)⟩,aE (by rw [ae,aD];lia),_,by rw [ae];lia,rfl,by rw [ae];lia,rfl,?_⟩
   rw [take_snoc hv,aH];rfl
  ·rintro ys H ⟨rfl,rfl⟩ l nl
   rw [ae,bh (by rw [ae];lia)]
   exact k l _ nl (bx.new nl) av
def yf (K:ai) (c:Cs):Sp:=fun vs H Q _=>∃(x p q:Addr) (m:Int) (es:List (Int×Int)) (ls hs:List Int),vs=[.ref x,.ref p,.ref q]∧fb K c.Web H x m es∧SqL K H p (ls.map V.int)∧SqL K H q (hs.map V.int)∧ls.length=es.length∧hs.length=es.length∧es.length≤900∧(∀i,i<es.length→ls.getD i 0≤hs.getD i 0)∧∀H',bx H H'→Q .non H'
theorem AM:bS ["web","lows","highs"] ["web","lows","highs"] (aB sCb):=⟨rfl,rfl,rfl,by decide +kernel,rfl,by decide +kernel,by decide +kernel⟩
theorem oP:∀ls hs:List Int,(∀i,i<ls.length→ls.getD i 0≤hs.getD i 0)→(bQ (fun a b=>V.bl (decide (a>b))) ls hs).all oN=true∧(bQ (fun a b=>V.bl (decide (a>b))) ls hs).any tv=false
 | [],_,_=>⟨rfl,rfl⟩
 | _::_,[],_=>⟨rfl,rfl⟩
 | a::l,b::m,h=>by
  obtain ⟨h1,h2⟩:=oP l m fun i hi=>h (i+1) (Nat.succ_lt_succ hi)
  have h0:a≤b:=h 0 (Nat.succ_pos _)
  rw [List.zipWith_cons_cons,c_,eP,h1,h2,decide_eq_false (show ¬a>b by lia)]
  exact ⟨rfl,rfl⟩
theorem zi {f:Addr} {fd:FuncData} (F:Fun K "check_bounds" "check_bounds" sCb f fd) (T:Txt K mg c) (D_Am:gT P w K mg base 1 "check_amounts" ["web","flow"] (wY K c.Web c.BadFlow)):fm P w K mg base CX0 2 f fd ["web","lows","highs"] (yf K c):=by
 refine F.ok AM (fun vs H Q E h=>?_) (fun cdv A outer s H vs Q E hr h=>?_)
 ·obtain ⟨x,p,q,m,es,ls,hs,rfl,_⟩:=h
  rfl
 ·obtain ⟨x,p,q,m,es,ls,hs,rfl,hw,hp,hq,e1,e2,hz,hlh,kk⟩:=h
  refine ⟨_,ax (dk (bP D_Am.calm hr (ah (pv 0) (ah (pv 1) ay))))
   (ax (dk (bP D_Am.calm hr (ah (pv 0) (ah (pv 2) ay))))
   (aQ (dZ (gX (a_ (wD (K:=K) rfl rfl) (by rfl) T.any PyProof.Rows.boot_any (ah (fG (N':=["low","high"]) (nl:=2) (js:=[]) rfl (.of (osc:=aB sCb) (N:=["web","lows","highs"]) (by decide +kernel) rfl rfl) (kS (K:=K) rfl rfl T.zip (ah (pv 1) (ah (pv 2) ay)))
    (fun _ _ _ _=>kU (K:=K) (i:=0) (j:=1) rfl rfl (show (["low","high"]:List Str).Nodup by decide +kernel) rfl rfl rfl rfl) (fun _ _ _ _=>dG)
    (fun _ _ _ _=>gz iO (pv 0) (pv 1) (cw _))) ay)))
    (aQ (je)) (cL)))),?_⟩
  refine ⟨_,rfl,_,rfl,x,p,m,es,_,rfl,hw,.inl hp,fun _=>?_,fun z=>absurd (by rw [ae];exact e1) z⟩
  refine ⟨_,rfl,_,rfl,x,q,m,es,_,rfl,hw,.inl hq,fun _=>?_,fun z=>absurd (by rw [ae];exact e2) z⟩
  have hn:min (ls.map V.int).length (hs.map V.int).length=ls.length:=by rw [ae,ae,e2,←e1];exact eM _
  have hzl:(bQ (fun a b=>V.bl (decide (a>b))) ls hs).length=ls.length:=by rw [dU,e2,←e1];exact eM _
  refine ⟨_,rfl,_,rfl,false,false,p,q,_,_,rfl,hp,hq,fun J C O hC=>nk O (fun i ys H2=>bx H H2∧ys=(bQ (fun a b=>V.bl (decide (a>b))) ls hs).take i) (by rw [hn];exact aM (aE (by lia))) ⟨bx.refl _,rfl⟩ ?_ ?_ ?_⟩
  ·rintro i ys H2 hi ⟨s2,rfl⟩
   exact ⟨hC _ (s2.seq hp) (s2.seq hq),by rw [aD];lia⟩
  ·rintro i ys H2 r hi ⟨s2,rfl⟩ nr
   rw [hn] at hi
   have hv:(bQ (fun a b=>V.bl (decide (a>b))) ls hs)[i]?=some (V.bl (decide (ls.getD i 0>hs.getD i 0))):=by
    rw [List.getElem?_zipWith,aa,aa,ak hi,ak (show i<hs.length by lia)];rfl
   dsimp only
   rw [getD_ints hi,getD_ints (show i<hs.length by lia)]
   refine ⟨r,_,rfl,SqT.of av,rfl,_,_,rfl,_,_,rfl,rfl,iK rfl rfl,ft ?_⟩
   refine ⟨_,rfl,_,rfl,_,_,rfl,rfl,aE (by rw [aD];lia),_,by rw [hn];lia,rfl,by rw [hn];lia,s2.next nr,?_⟩
   rw [take_snoc hv]
  ·rintro ys H2 ⟨s2,rfl⟩ l nl
   rw [hn,bh (by lia)]
   obtain ⟨z1,z2⟩:=oP ls hs fun i hi=>hlh i (by lia)
   refine ⟨l,_,rfl,.inl (SqL.of av),z1,_,rfl,?_⟩
   rw [z2]
   exact gb (kk _ (s2.next nl))
def xK (K:ai):Sp:=fun vs H Q _=>∃(a p q:Addr) (as lo hi:List Int),vs=[.ref a,.ref p,.ref q]∧SqL K H a (as.map V.int)∧SqL K H p (lo.map V.int)∧SqL K H q (hi.map V.int)∧lo.length=as.length∧hi.length=as.length∧as.length≤900 ∧
 ∀l xs H',H l=none→bx H H'→H' l=some (.lst xs)→Pairs K H' xs (rmN as lo hi)→Q (.ref l) H'
theorem AB:bS ["amounts","lows","highs"] ["amounts","lows","highs"] (aB sRl):=⟨rfl,rfl,rfl,by decide +kernel,rfl,by decide +kernel,by decide +kernel⟩
theorem yE {f:Addr} {fd:FuncData} (F:Fun K "rooms_left" "rooms_left" sRl f fd) (T:Txt K mg c):fm P w K mg base CX0 1 f fd ["amounts","lows","highs"] (xK K):=by
 refine F.ok AB (fun vs H Q E h=>?_) (fun cdv A outer s H vs Q E hr h=>?_)
 ·obtain ⟨a,p,q,as,lo,hi,rfl,_⟩:=h
  rfl
 ·obtain ⟨a,p,q,as,lo,hi,rfl,ha,hp,hq,h1,h2,hz,k⟩:=h
  refine ⟨_,aQ (cC (fG (N':=["amount","low","high"]) (nl:=3) (js:=[]) rfl (.of (osc:=aB sRl) (N:=["amounts","lows","highs"]) (by decide +kernel) rfl rfl) (tZ (K:=K) rfl rfl T.zip (ah (pv 0) (ah (pv 1) (ah (pv 2) ay))))
    (fun _ _ _ _=>jo (K:=K) (n:=3) rfl rfl (dh (bG (i:=0) (show (["amount","low","high"]:List Str).Nodup by decide +kernel) rfl (Or.inl rfl) (Or.inr rfl)) (dh (bG (i:=1) (show (["amount","low","high"]:List Str).Nodup by decide +kernel) rfl (Or.inl rfl) (Or.inr rfl)) (dh (bG (i:=2) (show (["amount","low","high"]:List Str).Nodup by decide +kernel) rfl (Or.inl rfl) (Or.inr rfl)) (fW)))) rfl) (fun _ _ _ _=>dG)
    (fun _ _ _ _=>iz (ah (bK gr (pv 2) (pv 0)) (ah (bK gr (pv 0) (pv 1)) ay))))),?_⟩
  have hn:(as.map V.int).length=as.length:=ae ..
  refine ⟨_,rfl,_,rfl,_,rfl,a,p,q,_,_,_,rfl,ha,hp,hq,by rw [ae,ae,h1],by rw [ae,ae,h2],fun J C O hC=>nk O (fun i ys H2=>bx H H2∧Pairs K H2 ys ((rmN as lo hi).take i)) (by rw [hn];exact aM (aE (by lia))) ⟨bx.refl _,.nil⟩ ?_ ?_ ?_⟩
  ·rintro i ys H2 hi' ⟨s2,hp2⟩
   exact ⟨hC _ (s2.seq ha) (s2.seq hp) (s2.seq hq),by rw [hp2.len,aD];lia⟩
  ·rintro i ys H2 r hi' ⟨s2,hp2⟩ nr
   rw [hn] at hi'
   have hyl:=hp2.len
   rw [aD,iM] at hyl
   dsimp only
   rw [getD_ints hi',getD_ints (show i<lo.length by lia),getD_ints (show i<hi.length by lia)]
   have s3:=bx.new (o:=.tup [.int (as.getD i 0),.int (lo.getD i 0),.int (hi.getD i 0)]) nr
   refine ⟨r,_,rfl,SqT.of av,rfl,_,_,rfl,_,_,rfl,_,_,rfl,rfl,?_⟩
   generalize upd H2 r (.tup [.int (as.getD i 0),.int (lo.getD i 0),.int (hi.getD i 0)])=H3 at s3
   refine ⟨(iK rfl rfl).trans (dQ rfl),ft ⟨_,rfl,_,rfl,_,_,rfl,rfl,_,rfl,_,rfl,_,_,rfl,rfl,(by show 2≤sizeLine;decide),fun t nt=>?_⟩⟩
   have s4:=bx.new (o:=.tup [.int (hi.getD i 0-as.getD i 0),.int (as.getD i 0-lo.getD i 0)]) nt
   refine ⟨aE (by lia),_,by rw [hn];lia,rfl,by rw [hn];lia,(s2.trans s3).trans s4,?_⟩
   have hv:(rmN as lo hi)[i]?=some (hi.getD i 0-as.getD i 0,as.getD i 0-lo.getD i 0):=by
    have:=kM (lo:=lo) (hi:=hi) hi'
    rw [aa,ak (by rw [iM];exact hi')] at this
    rw [ak (by rw [iM];exact hi')]
    exact congrArg some this
   rw [take_snoc hv]
   exact ((hp2.same s3).same s4).snoc (e:=(hi.getD i 0-as.getD i 0,as.getD i 0-lo.getD i 0)) (SqT.of av)
  ·rintro ys H2 ⟨s2,hp2⟩ l nl
   rw [hn,bh (by rw [iM];lia)] at hp2
   exact k l ys _ (bR s2 nl) (s2.next nl) av (hp2.same (bx.new nl))
def xH (K:ai) (c:Cs):Sp:=fun vs H Q _=>∃(x a:Addr) (m p:Int) (es rm:List (Int×Int)) (xs:List V),vs=[.ref x,.ref a,.int p]∧fb K c.Web H x m es∧SqL K H a xs∧Pairs K H xs rm∧rm.length=es.length∧es.length≤40 ∧
 ∀l zs H',H l=none→bx H H'→H' l=some (.lst zs)→Pairs K H' zs (stN es rm p es.length)→Q (.ref l) H'
theorem wZ:bS ["web","rooms","place","steps","tie","ends"] ["web","rooms","place"] (aB sSf):=⟨rfl,rfl,rfl,by decide +kernel,rfl,by decide +kernel,by decide +kernel⟩
theorem pb (es rm:List (Int×Int)) (p:Int):∀n,(stN es rm p n).length≤2*n
 | 0=>aO _
 | n+1=>by
  have:=pb es rm p n
  show ((stN es rm p n++_)++_).length≤_
  rw [aw,aw]
  split<;>split<;>simp only [bB,List.length_nil]<;>lia
theorem yA {f:Addr} {fd:FuncData} (F:Fun K "steps_from" "steps_from" sSf f fd) (T:Txt K mg c):fm P w K mg base CX0 1 f fd ["web","rooms","place"] (xH K c):=by
 refine F.ok wZ (fun vs H Q E h=>?_) (fun cdv A outer s H vs Q E hr h=>?_)
 ·obtain ⟨x,a,m,p,es,rm,xs,rfl,_⟩:=h
  rfl
 ·obtain ⟨x,a,m,p,es,rm,xs,rfl,hw,ha,hx,hrl,hz,k⟩:=h
  refine ⟨_,ax (bA (i:=3) wZ.nd rfl (Or.inl rfl) (de ay))
   (ax (fk PassesOwn.never rfl (lZ (K:=K) rfl rfl T.enumerate (ah (gF (K:=K) rfl T.web (pv 0)) ay)) (jo (K:=K) (n:=2) rfl rfl (dh (bG (i:=4) wZ.nd rfl (Or.inl rfl)) (dh (bG (i:=5) wZ.nd rfl (Or.inl rfl)) (fW))) rfl)
    (ax (dq (dZ (PW.pt (iW (bL gm (cn (ixT (K:=K) rfl) (pv 5) (aN) (fun _ _=>rfl)) (pv 2) (cw _)) (gW (bL iO (cn (ixT (K:=K) rfl) (cn (ixL (K:=K) rfl) (pv 1) (pv 4) (fun _ _=>rfl)) (aN) (fun _ _=>rfl)) (aN) (cw _)))))
    (aQ (dk (gC PySem.F.plainAttrs_list PySem.F.slot_list_append PySem.F.type_list_append eI (pv 3) (ah (iz (ah (pv 4) (ah (aN) ay))) ay)))) (cL)))
   (aQ (dq (dZ (PW.pt (iW (bL gm (cn (ixT (K:=K) rfl) (pv 5) (aN) (fun _ _=>rfl)) (pv 2) (cw _)) (gW (bL iO (cn (ixT (K:=K) rfl) (cn (ixL (K:=K) rfl) (pv 1) (pv 4) (fun _ _=>rfl)) (aN) (fun _ _=>rfl)) (aN) (cw _)))))
    (aQ (dk (gC PySem.F.plainAttrs_list PySem.F.slot_list_append PySem.F.type_list_append eI (pv 3) (ah (iz (ah (pv 4) (ah (kW iR (aN)) ay))) ay)))) (cL))))))
   (aQ (cC (pv 3)))),?_⟩
  refine ⟨by decide,fun l nl=>?_⟩
  have s1:=bx.new (o:=.lst []) nl
  have e1:(upd H l (.lst [])) l=some (.lst []):=av
  generalize upd H l (.lst [])=H1 at s1 e1
  refine ⟨_,rfl,x,m,es,rfl,hw.same s1,fun t ys ht hp=>⟨true,t,ys,rfl,SqT.of ht,fun J C O hC=>?_⟩⟩
  have hpl:=hp.len
  have ntl:t≠l:=ic ht e1 (by intro z;cases z)
  refine jC O (fun i σ H2=>∃(zs:List V) (v4 v5:Option V),σ=[some (.ref x),some (.ref a),some (.int p),some (.ref l),v4,v5]∧bx H H2∧eY l H1 H2∧H2 l=some (.lst zs)∧Pairs K H2 zs (stN es rm p i)) ⟨[],none,none,rfl,s1,fun _ _ _ z=>z,e1,.nil⟩ (fun i σ H2 _ h=>?_) ?_ ?_
  ·obtain ⟨zs,v4,v5,_,_,sx,_⟩:=h
   exact hC _ (SqT.of (sx _ _ ntl ht))
  ·rintro i σ H2 q hi ⟨zs,v4,v5,rfl,s2,sx2,l2,p2⟩ hq
   obtain ⟨r,e,er,hr2,ei,he⟩:=hp.at hi
   have hr1:SqT K H2 r [.int e.1,.int e.2]:=sx2.tup e1 hr2
   have hE1:es.getD i (0,0)=e:=by rw [aa,ei];rfl
   obtain ⟨g,ag,hg,_⟩:=fE hx (show (0:Int)≤(i:Int) by lia) (by lia)
   have hg1:aX rm (i:Int)=rm.getD i (0,0):=rfl
   rw [hg1] at hg
   have hsl:=pb es rm p i
   dsimp only
   rw [er]
   have s3:=bx.new (o:=.tup [.int (i:Nat),.ref r]) hq
   have t3:(upd H2 q (.tup [.int (i:Nat),.ref r])) q=some (.tup [.int (i:Nat),.ref r]):=av
   refine ⟨q,_,rfl,SqT.of t3,rfl,_,_,rfl,_,_,rfl,rfl,?_⟩
   have l3:=s3 _ _ l2
   have p3:=p2.same s3
   have r3:=s3.tup hr1
   have s03:=s2.trans s3
   have x3:eY l H1 (upd H2 q (.tup [.int (i:Nat),.ref r])):=fun b o hb z=>s3 _ _ (sx2 b o hb z)
   generalize upd H2 q (.tup [.int (i:Nat),.ref r])=H3 at s3 l3 p3 r3 s03 x3
   clear t3 s3 p2 l2 hr1 s2 sx2
   have add:∀{H4:Hp} {zs:List V} {ss:List (Int×Int)} {nt:Addr} {v:Int},bx H H4→eY l H1 H4→H4 l=some (.lst zs)→Pairs K H4 zs ss→H4 nt=none→(upd H4 nt (.tup [.int (i:Nat),.int v])) l=some (.lst zs)∧bx H (upd (upd H4 nt (.tup [.int (i:Nat),.int v])) l (.lst (zs++[.ref nt])))∧eY l H1 (upd (upd H4 nt (.tup [.int (i:Nat),.int v])) l (.lst (zs++[.ref nt])))∧Pairs K (upd (upd H4 nt (.tup [.int (i:Nat),.int v])) l (.lst (zs++[.ref nt]))) (zs++[.ref nt]) (ss++[((i:Int),v)]):=fun {H4 zs ss nt v} sH sX e4 p4 n4=>by
    have s5:=bx.new (o:=.tup [.int (i:Nat),.int v]) n4
    have l5:=s5 _ _ e4
    refine ⟨l5,(sH.trans s5).upd nl,fun b o hb z=>by rw [bX hb];exact s5 _ _ (sX b o hb z),?_⟩
    have p5:=(p4.same s5).snoc (e:=((i:Int),v)) (r:=nt) (SqT.of av)
    exact p5.lU dF l5
   refine ⟨fun σ' H'=>∃zs:List V,σ'=[some (.ref x),some (.ref a),some (.int p),some (.ref l),some (.int (i:Nat)),some (.ref r)]∧bx H H'∧eY l H1 H'∧H' l=some (.lst zs)∧SqT K H' r [.int e.1,.int e.2]∧Pairs K H' zs (stN es rm p i++if (es.getD i (0,0)).1=p∧0<(rm.getD i (0,0)).1 then [((i:Int),(1:Int))] else []),?_,?_⟩
   ·refine ⟨_,rfl,r,_,0,_,rfl,rfl,r3,rfl,_,rfl,rfl,_,rfl,fX (fun c1=>?_) (fun c1=>?_)⟩
    ·have c1':=of_decide_eq_true c1
     injection c1' with c1'
     refine ⟨_,rfl,_,rfl,a,_,_,_,rfl,rfl,s03.seq ha,ag,g,_,0,_,rfl,rfl,s03.tup hg,rfl,_,_,rfl,rfl,_,rfl,fX (fun c2=>?_) (fun c2=>?_)⟩
     ·rw [if_pos ⟨by rw [hE1];exact c1',of_decide_eq_true c2⟩]
      refine ⟨_,rfl,.inl ⟨rfl,_,SqL.of l3⟩,_,rfl,(by show 2≤sizeLine;decide),fun nt hnt=>?_⟩
      obtain ⟨a1,a2,a3,a4⟩:=add (v:=1) s03 x3 l3 p3 hnt
      refine ⟨l,_,_,rfl,rfl,a1,aE (by rw [p3.len];lia),_,rfl,a2,a3,av,?_,a4⟩
      exact (a3.tup e1 hr2)
     ·rw [if_neg (fun z=>c2 (decide_eq_true z.2)),bT]
      exact ⟨zs,rfl,s03,x3,l3,r3,p3⟩
    ·rw [if_neg (fun z=>c1 (decide_eq_true (by rw [←hE1,z.1]))),bT]
     exact gb ⟨zs,rfl,s03,x3,l3,r3,p3⟩
   rintro σ' H4 ⟨zs,rfl,s04,x4,l4,r4,p4⟩
   clear l3 p3 r3 s03 x3
   have hsl2:zs.length<800:=by
    rw [p4.len,aw]
    split<;>simp only [bB,List.length_nil]<;>lia
   refine ⟨fun σ' H'=>∃zs:List V,σ'=[some (.ref x),some (.ref a),some (.int p),some (.ref l),some (.int (i:Nat)),some (.ref r)]∧bx H H'∧eY l H1 H'∧H' l=some (.lst zs)∧Pairs K H' zs (stN es rm p (i+1)),?_,?_⟩
   ·show _
    have fold:stN es rm p (i+1)=(stN es rm p i++if (es.getD i (0,0)).1=p∧0<(rm.getD i (0,0)).1 then [((i:Int),(1:Int))] else [])++if (es.getD i (0,0)).2=p∧0<(rm.getD i (0,0)).2 then [((i:Int),(-1:Int))] else []:=rfl
    rw [fold]
    refine ⟨_,rfl,r,_,1,_,rfl,rfl,r4,rfl,_,rfl,rfl,_,rfl,fX (fun c1=>?_) (fun c1=>?_)⟩
    ·have c1':=of_decide_eq_true c1
     injection c1' with c1'
     refine ⟨_,rfl,_,rfl,a,_,_,_,rfl,rfl,s04.seq ha,ag,g,_,1,_,rfl,rfl,s04.tup hg,rfl,_,_,rfl,rfl,_,rfl,fX (fun c2=>?_) (fun c2=>?_)⟩
     ·rw [if_pos (show (es.getD i (0,0)).2=p∧0<(rm.getD i (0,0)).2 from ⟨by rw [hE1];exact c1',of_decide_eq_true c2⟩)]
      refine ⟨_,rfl,.inl ⟨rfl,_,SqL.of l4⟩,_,rfl,_,rfl,(by show 2≤sizeLine;decide),fun nt hnt=>?_⟩
      obtain ⟨a1,a2,a3,a4⟩:=add (v:=-1) s04 x4 l4 p4 hnt
      exact ⟨l,_,_,rfl,rfl,a1,aE (by lia),_,rfl,a2,a3,av,a4⟩
     ·rw [if_neg (show ¬((es.getD i (0,0)).2=p∧0<(rm.getD i (0,0)).2) from fun z=>c2 (decide_eq_true z.2)),bT]
      exact ⟨zs,rfl,s04,x4,l4,p4⟩
    ·rw [if_neg (show ¬((es.getD i (0,0)).2=p∧0<(rm.getD i (0,0)).2) from fun z=>c1 (decide_eq_true (by rw [←hE1,z.1]))),bT]
     exact gb ⟨zs,rfl,s04,x4,l4,p4⟩
   ·rintro σ' H' ⟨zs,rfl,h'⟩
    exact ⟨zs,_,_,rfl,h'⟩
  ·rintro σ H2 ⟨zs,v4,v5,rfl,s2,sx2,l2,p2⟩
   rw [hpl] at p2
   exact ⟨_,rfl,k l zs H2 nl s2 l2 p2⟩
def wM (K:ai) (c:Cs):Sp:=fun vs H Q _=>∃(x r:Addr) (m:Int) (es:List (Int×Int)) (s:Int×Int),vs=[.ref x,.ref r]∧fb K c.Web H x m es∧SqT K H r [.int s.1,.int s.2]∧StV es s∧Q (.int (stE es s)) H
theorem zM:bS ["web","step","ends"] ["web","step"] (aB sSe):=⟨rfl,rfl,rfl,by decide +kernel,rfl,by decide +kernel,by decide +kernel⟩
theorem yB {f:Addr} {fd:FuncData} (F:Fun K "step_end" "step_end" sSe f fd) (T:Txt K mg c):fm P w K mg base CX0 1 f fd ["web","step"] (wM K c):=by
 refine F.ok zM (fun vs H Q E h=>?_) (fun cdv A outer s H vs Q E hr h=>?_)
 ·obtain ⟨x,r,m,es,s,rfl,_⟩:=h
  rfl
 ·obtain ⟨x,r,m,es,s,rfl,hw,hr2,hv,k⟩:=h
  refine ⟨_,ax (bA (i:=2) zM.nd rfl (Or.inl rfl) (cn (ixT (K:=K) rfl) (gF (K:=K) rfl T.web (pv 0)) (cn (ixT (K:=K) rfl) (pv 1) (aN) (fun _ _=>rfl)) (fun _ _=>rfl)))
   (aQ (cC (gq (bL gm (cn (ixT (K:=K) rfl) (pv 1) (aN) (fun _ _=>rfl)) (aN) (cw _)) (cn (ixT (K:=K) rfl) (pv 2) (aN) (fun _ _=>rfl)) (cn (ixT (K:=K) rfl) (pv 2) (aN) (fun _ _=>rfl))))),?_⟩
  refine ⟨_,rfl,x,m,es,rfl,hw,fun tt ys ht hp=>?_⟩
  obtain ⟨r1,ar,hr1,_⟩:=fE hp hv.1 hv.2.1
  unfold stE at k
  refine ⟨_,rfl,r,_,0,_,rfl,rfl,hr2,rfl,tt,ys,s.1,.ref r1,rfl,rfl,SqT.of ht,ar,?_⟩
  refine ⟨_,rfl,r,_,1,_,rfl,rfl,hr2,rfl,rfl,_,rfl,fX (fun c1=>?_) (fun c1=>?_)⟩
  ·have c1':=of_decide_eq_true c1
   injection c1' with c1'
   rw [if_pos c1'] at k
   exact ⟨_,rfl,r1,_,1,_,rfl,rfl,hr1,rfl,k⟩
  ·rw [if_neg (fun z=>c1 (decide_eq_true (by rw [z])))] at k
   exact ⟨_,rfl,r1,_,0,_,rfl,rfl,hr1,rfl,k⟩
structure WwI (K:ai) (H:Hp) (m:Int) (es rm:List (Int×Int)) (a:Int) (d r:Addr) (H2:Hp) (rs:List Int) (ad:Int→Addr) (wy:Int→List (Int×Int)) (pl:Int→List Int):Prop where
 same:bx H H2
 dd:H2 d=some (.dK (rs.map fun p=>((Sum.inl p:Key),V.ref (ad p))))
 rr:H2 r=some (.lst (rs.map V.int))
 nd:rs.Nodup
 rng:∀p∈rs,0≤p∧p<m
 a0:a∈rs
 cell:∀p∈rs,H (ad p)=none∧ad p≠r∧∃xs,H2 (ad p)=some (.lst xs)∧Pairs K H2 xs (wy p)
 way:∀p∈rs,jM es rm a (wy p) (pl p) p∧∀q∈pl p,q∈rs
structure WwD (K:ai) (m:Int) (es rm:List (Int×Int)) (a:Int) (d:Addr) (H2:Hp) (rs:List Int) (wy:Int→List (Int×Int)):Prop where
 dd:∃ad:Int→Addr,H2 d=some (.dK (rs.map fun p=>((Sum.inl p:Key),V.ref (ad p))))∧∀p∈rs,∃xs,H2 (ad p)=some (.lst xs)∧Pairs K H2 xs (wy p)
 nd:rs.Nodup
 rng:∀p∈rs,0≤p∧p<m
 a0:a∈rs
 way:∀p∈rs,∃pl,jM es rm a (wy p) pl p
 clo:∀p∈rs,∀s∈stN es rm p es.length,stE es s∈rs
theorem pI {K:ai} {H H':Hp} {d:Addr} {kvs:List (Key×V)} {xs:List V} {es:List (Int×Int)} (S:eY d H H') (hd:H d=some (.dK kvs)) (h:Pairs K H xs es):Pairs K H' xs es:=Paired.oM h fun _ _ ⟨r,e,q⟩=>⟨r,e,by
 rcases q with (q | ⟨o,q⟩) | q
 ·exact .inl (.inl (S _ _ (ic q hd (by intro z;cases z)) q))
 ·exact .inl (.inr ⟨o,S _ _ (ic q hd (by intro z;cases z)) q⟩)
 ·exact .inr q⟩
def xD (K:ai) (c:Cs):Sp:=fun vs H Q _=>∃(x q:Addr) (a m:Int) (es rm:List (Int×Int)) (us:List V),vs=[.ref x,.ref q,.int a]∧fb K c.Web H x m es∧SqL K H q us∧Pairs K H us rm∧rm.length=es.length∧es.length≤40∧0≤a∧a<m∧m≤20∧cV es m ∧
 ∀d rs wy H',bx H H'→WwD K m es rm a d H' rs wy→rs=(wwr es rm a m.toNat).1→wy=(wwr es rm a m.toNat).2→Q (.ref d) H'
theorem su:bS ["web","rooms","start","ways","reached","at","place","step","other"] ["web","rooms","start"] (aB sWw):=⟨rfl,rfl,rfl,by decide +kernel,rfl,by decide +kernel,by decide +kernel⟩
theorem vx {es:List (Int×Int)} {m:Int} (hE:cV es m) {s:Int×Int} (hv:StV es s):0≤stE es s∧stE es s<m:=by
 have hte:aX es s.1∈es:=by
  unfold aX
  rw [aa,ak (show s.1.toNat<es.length by have:=hv.1;have:=hv.2.1;lia)];exact cf _
 have hb:=hE _ hte
 unfold stE;split
 ·exact ⟨hb.2.2.1,hb.2.2.2⟩
 ·exact ⟨hb.1,hb.2.1⟩
theorem yv {f:Addr} {fd:FuncData} (F:Fun K "ways_with_room" "ways_with_room" sWw f fd) (T:Txt K mg c) (D_Sf:Def P w K mg base 1 "steps_from" ["web","rooms","place"] (xH K c)) (D_Se:Def P w K mg base 1 "step_end" ["web","step"] (wM K c)):fm P w K mg base CX0 2 f fd ["web","rooms","start"] (xD K c):=by
 refine F.ok su (fun vs H Q E h=>?_) (fun cdv A outer s H vs Q E hr h=>?_)
 ·obtain ⟨x,q,a,m,es,rm,us,rfl,_⟩:=h
  rfl
 ·obtain ⟨x,q,a,m,es,rm,us,rfl,hw,hq,hu,hrm,hz,a0,a1,m2,hE,k⟩:=h
  refine ⟨_,ax (bA (i:=3) su.nd rfl (Or.inl rfl) (pH (mW (pv 2) (de ay) (pA)) rfl rfl (by simp) (by decide)))
   (ax (bA (i:=4) su.nd rfl (Or.inl rfl) (de (ah (pv 2) ay)))
   (ax (bA (i:=5) su.nd rfl (Or.inl rfl) (aN))
   (ax (jd PassesOwn.never (bL iB (pv 5) (a_ (gc (K:=K) rfl) (by rfl) T.len aS (ah (pv 4) ay)) (cw _))
    (ax (bA (i:=6) su.nd rfl (Or.inl rfl) (cn (ixL (K:=K) rfl) (pv 4) (pv 5) (fun _ _=>rfl)))
   (ax (fk PassesOwn.never rfl (iy (K:=K) rfl (bP D_Sf hr (ah (pv 0) (ah (pv 1) (ah (pv 6) ay))))) (bG (i:=7) su.nd rfl (Or.inl rfl))
    (ax (bA (i:=8) su.nd rfl (Or.inl rfl) (bP D_Se hr (ah (pv 0) (ah (pv 7) ay))))
   (aQ (dq (dZ (kN (gZ (i_ hr) (pv 8) (pv 3)))
    (ax (pj (i_ hr) (pv 3) (pv 8) (bK gd (ki (i_ hr) (pv 3) (pv 6) (fun _ _=>rfl)) (de (ah (pv 7) ay))) rfl)
   (aQ (dk (gC PySem.F.plainAttrs_list PySem.F.slot_list_append PySem.F.type_list_append eI (pv 4) (ah (pv 8) ay))))) (cL))))))
   (aQ (pw (i:=5) su.nd rfl (Or.inl rfl) (aN) nB)))))
   (aQ (cC (pv 3)))))),?_⟩
  intro d nd
  have s1:bx H (upd H d (.dK [])):=bx.new nd
  have d1:(upd H d (.dK [])) d=some (.dK []):=av
  generalize upd H d (.dK [])=H1 at s1 d1
  refine ⟨_,rfl,by decide,fun l0 nl0=>?_⟩
  have s2:=s1.next (o:=.lst []) nl0
  have d2:=bx.new (o:=.lst []) nl0 _ _ d1
  have e2:(upd H1 l0 (.lst [])) l0=some (.lst []):=av
  have l0H:H l0=none:=bR s1 nl0
  generalize upd H1 l0 (.lst [])=H2 at s2 d2 e2
  refine ⟨d2,[(Sum.inl a,.ref l0)],rfl,(by show 1≤15;decide),?_⟩
  have d3:(upd H2 d (.dK (gG [] [((Sum.inl a:Key),V.ref l0)]))) d=some (.dK ([a].map fun p=>((Sum.inl p:Key),V.ref l0))):=av
  have s3:bx H (upd H2 d (.dK (gG [] [((Sum.inl a:Key),V.ref l0)]))):=s2.upd nd
  have e3:(upd H2 d (.dK (gG [] [((Sum.inl a:Key),V.ref l0)]))) l0=some (.lst []):=by rw [bX (bw d1 nl0).symm];exact e2
  generalize upd H2 d (.dK (gG [] [((Sum.inl a:Key),V.ref l0)]))=H3 at d3 s3 e3
  refine ⟨_,rfl,(by show 1≤sizeLine;decide),fun r nr=>?_⟩
  have s4:=s3.next (o:=.lst [V.int a]) nr
  have d4:=bx.new (o:=.lst [V.int a]) nr _ _ d3
  have e4:=bx.new (o:=.lst [V.int a]) nr _ _ e3
  have r4:(upd H3 r (.lst [V.int a])) r=some (.lst ([a].map V.int)):=av
  have rH:H r=none:=bR s3 nr
  have lr:l0≠r:=bw e3 nr
  generalize upd H3 r (.lst [V.int a])=H4 at s4 d4 e4 r4
  clear s3 d3 e3 s2 d2 e2 nl0 s1 d1 nr
  have drn:d≠r:=ic d4 r4 (by intro z;cases z)
  refine ⟨fun n σ H2=>∃(rs:List Int) (st:Nat) (ad:Int→Addr) (wy:Int→List (Int×Int)) (pl:Int→List Int) (v7 v8 v9:Option V),n=m.toNat-st∧σ=[some (.ref x),some (.ref q),some (.int a),some (.ref d),some (.ref r),some (.int st),v7,v8,v9]∧WwI K H m es rm a d r H2 rs ad wy pl∧st≤rs.length ∧
   (∀j,j<st→∀s∈stN es rm (rs.getD j 0) es.length,stE es s∈rs)∧uZ es rm (m.toNat-st) (rs,wy) st=uZ es rm m.toNat ([a],fun _=>[]) 0,⟨m.toNat-0,[a],0,fun _=>l0,fun _=>[],fun _=>[],none,none,none,rfl,rfl,?_,dM _,(fun j hj=>absurd hj (bM _)),rfl⟩,?_⟩
  ·refine ⟨s4,d4,r4,by simp,fun p hp=>?_,ao.mpr rfl,fun p hp=>⟨l0H,lr,[],e4,.nil⟩,fun p hp=>?_⟩
   ·rw [ao.mp hp];exact ⟨a0,a1⟩
   ·rw [ao.mp hp];exact ⟨.nil,fun q hq=>nomatch hq⟩
  rintro n σ H5 ⟨rs,st,ad,wy,pl,v7,v8,v9,rfl,rfl,I,hst,clo,hrun⟩
  have hrl:=eZ I.nd I.rng
  have hlm:(rs.map V.int).length=rs.length:=ae ..
  refine ⟨_,rfl,_,rfl,r,_,rfl,.inl (SqL.of I.rr),_,_,rfl,rfl,_,rfl,?_⟩
  by_cases hlt:st<rs.length
  ·rw [decide_eq_true (show (st:Int)<((rs.map V.int).length:Int) by lia)]
   refine ft ⟨_,fun σ' H' h=>h,?_⟩
   have hpm:rs.getD st 0∈rs:=by rw [aa,ak hlt];exact cf hlt
   have hat:atI (rs.map V.int) (st:Int)=some (.int (rs.getD st 0)):=dY (ns:=rs) (k:=(st:Int)) (by lia) (by lia)
   refine ⟨_,rfl,_,rfl,r,_,_,_,rfl,rfl,SqL.of I.rr,hat,?_⟩
   obtain ⟨p,ep⟩:∃p,p=rs.getD st 0:=⟨_,rfl⟩
   rw [←ep] at hpm
   refine ⟨_,rfl,_,rfl,_,rfl,x,q,m,_,es,rm,us,rfl,hw.same I.same,I.same.seq hq,hu.same I.same,hrm,hz,fun l zs H7 nl sN eN pN=>?_⟩
   rw [←ep] at pN
   obtain ⟨wy0,ewy⟩:∃wy0,wy0=wy:=⟨_,rfl⟩
   have I7:WwI K H m es rm a d r H7 rs ad wy0 pl:=by
    rw [ewy]
    refine ⟨I.same.trans sN,sN _ _ I.dd,sN _ _ I.rr,I.nd,I.rng,I.a0,fun p hp=>?_,I.way⟩
    obtain ⟨c1,c2,xs,c3,c4⟩:=I.cell p hp
    exact ⟨c1,c2,xs,sN _ _ c3,c4.same sN⟩
   have nlr:l≠r:=(bw I.rr nl).symm
   have nld:l≠d:=(bw I.dd nl).symm
   have nlH:H l=none:=bR I.same nl
   have hzl:=pN.len
   refine ⟨false,l,_,rfl,SqL.of eN,fun J C O hC=>fF O (fun i σ H8=>∃(rs':List Int) (ad:Int→Addr) (wy:Int→List (Int×Int)) (pl:Int→List Int) (v8 v9:Option V),σ=[some (.ref x),some (.ref q),some (.int a),some (.ref d),some (.ref r),some (.int st),some (.int (rs.getD st 0)),v8,v9]∧WwI K H m es rm a d r H8 rs' ad wy pl∧(∃more,rs'=rs++more) ∧
    H8 l=some (.lst zs)∧Pairs K H8 zs (stN es rm p es.length)∧(∀s∈(stN es rm p es.length).take i,stE es s∈rs')∧(rs',wy)=((stN es rm p es.length).take i).foldl (tG es p) (rs,wy0)) ⟨rs,ad,wy0,pl,_,_,rfl,I7,⟨[],(bT _).symm⟩,eN,pN,(fun s hs=>(by simp at hs)),rfl⟩ (fun i σ H8 _ h=>?_) ?_ ?_⟩
   ·obtain ⟨rs',ad,wy,pl,v8,v9,_,_,_,l8,_,_⟩:=h
    exact hC _ (SqL.of l8)
   ·rintro i σ H8 hi ⟨rs',ad,wy,pl,v8,v9,rfl,I8,⟨more,em⟩,l8,p8,hdone,hfold⟩
    obtain ⟨g,v,ev,hg,gv,hvm⟩:=p8.at hi
    obtain ⟨hv,hvb,hvr⟩:=pP (aO _) hvm
    have hp8:p∈rs':=by rw [em];exact aK _ hpm
    have hor:=vx hE hv
    try dsimp only
    rw [ev]
    refine ⟨_,rfl,_,rfl,x,g,m,es,v,rfl,hw.same I8.same,hg,hv,?_⟩
    obtain ⟨o,eo⟩:∃o,o=stE es v:=⟨_,rfl⟩
    refine ⟨fun σ' H'=>∃(rs':List Int) (ad:Int→Addr) (wy:Int→List (Int×Int)) (pl:Int→List Int),σ'=[some (.ref x),some (.ref q),some (.int a),some (.ref d),some (.ref r),some (.int st),some (.int (rs.getD st 0)),some (.ref g),some (.int (stE es v))]∧WwI K H m es rm a d r H' rs' ad wy pl∧(∃more,rs'=rs++more) ∧
     H' l=some (.lst zs)∧Pairs K H' zs (stN es rm p es.length)∧(∀s∈(stN es rm p es.length).take (i+1),stE es s∈rs')∧(rs',wy)=((stN es rm p es.length).take (i+1)).foldl (tG es p) (rs,wy0),?_,?_⟩
    ·refine ⟨_,rfl,_,rfl,d,_,rfl,jZ.k (k:=Sum.inl (stE es v)) I8.dd,_,rfl,?_⟩
     rw [fg,←eo]
     rw [←eo] at hor
     by_cases ho:o∈rs'
     ·rw [if_pos ho]
      refine gb ⟨rs',ad,wy,pl,rfl,I8,⟨more,em⟩,l8,p8,fun t ht=>?_,?_⟩
      ·rw [take_snoc gv] at ht
       rcases aF.mp ht with y | y
       ·exact hdone t y
       ·rw [ao.mp y,←eo];exact ho
      ·rw [take_snoc gv,List.foldl_append,←hfold]
       show _=tG es p (rs',wy) v
       unfold tG
       rw [←eo,if_pos ho]
     ·rw [if_neg ho]
      refine ft ?_
      obtain ⟨n1,nr1,xs1,c1,c1p⟩:=I8.cell p hp8
      obtain ⟨wp,wq⟩:=I8.way p hp8
      have hwl:(wy p).length≤20:=by
       rw [wp.len]
       have:=eZ (m:=m) wp.nd fun z hz=>by
        rcases aF.mp hz with y | y
        ·exact I8.rng z (wq z y)
        ·rw [ao.mp y];exact I8.rng p hp8
       rw [aw] at this
       lia
      have hrl8:=eZ I8.nd I8.rng
      have hx1:=c1p.len
      refine ⟨_,rfl,_,rfl,d,.ref (ad p),rfl,?_,_,rfl,(by show 1≤sizeLine;decide),fun q1 nq1=>?_⟩
      ·have:=jZ.k (k:=Sum.inl p) I8.dd
       rw [fg,if_pos hp8,ep] at this
       rw [ep]
       exact this
      have s9:=bx.new (o:=.lst [V.ref g]) nq1
      have e9:(upd H8 q1 (.lst [V.ref g])) q1=some (.lst [V.ref g]):=av
      generalize upd H8 q1 (.lst [V.ref g])=H9 at s9 e9
      refine ⟨ad p,q1,_,_,rfl,rfl,s9 _ _ c1,e9,aM (aE (by show xs1.length+1≤1000;lia)),fun q2 nq2=>?_⟩
      have s10:=s9.next (o:=.lst (xs1++[V.ref g])) nq2
      have e10:(upd H9 q2 (.lst (xs1++[V.ref g]))) q2=some (.lst (xs1++[V.ref g])):=av
      generalize upd H9 q2 (.lst (xs1++[V.ref g]))=H10 at s10 e10
      have q2H8:H8 q2=none:=bR s9 nq2
      have d10:=s10 _ _ I8.dd
      have r10:=s10 _ _ I8.rr
      have w10:Pairs K H10 (xs1++[V.ref g]) (wy p++[v]):=(c1p.same s10).snoc (s10.tup hg)
      have pk:putK (rs'.map fun p=>((Sum.inl p:Key),V.ref (ad p))) (Sum.inl o) (V.ref q2)=(rs'++[o]).map fun z=>((Sum.inl z:Key),V.ref (if z=o then q2 else ad z)):=by
       rw [mV _ (by rw [fg,if_neg ho]),aH]
       congr 1
       ·refine List.map_congr_left fun z hz=>?_
        rw [if_neg (show ¬z=o from fun y=>ho (y▸hz))]
       ·rw [bf,fT,if_pos rfl]
      refine ⟨_,rfl,_,rfl,d,_,rfl,vf.k (k:=Sum.inl o) d10 (aE (by rw [ae];lia)),?_⟩
      rw [pk]
      have x11:eY d H10 (upd H10 d (.dK ((rs'++[o]).map fun z=>((Sum.inl z:Key),V.ref (if z=o then q2 else ad z))))):=dF
      have d11:(upd H10 d (.dK ((rs'++[o]).map fun z=>((Sum.inl z:Key),V.ref (if z=o then q2 else ad z))))) d=some (.dK ((rs'++[o]).map fun z=>((Sum.inl z:Key),V.ref (if z=o then q2 else ad z)))):=av
      have s11:bx H (upd H10 d (.dK ((rs'++[o]).map fun z=>((Sum.inl z:Key),V.ref (if z=o then q2 else ad z))))):=(I8.same.trans s10).upd nd
      generalize upd H10 d (.dK ((rs'++[o]).map fun z=>((Sum.inl z:Key),V.ref (if z=o then q2 else ad z))))=H11 at x11 d11 s11
      have r11:=x11 _ _ drn.symm r10
      refine ⟨_,rfl,.inl ⟨rfl,_,SqL.of r11⟩,_,rfl,r,_,_,rfl,rfl,r11,aE (by rw [ae];lia),?_⟩
      have x12:eY r H11 (upd H11 r (.lst (rs'.map V.int++[V.int o]))):=dF
      have r12:(upd H11 r (.lst (rs'.map V.int++[V.int o]))) r=some (.lst ((rs'++[o]).map V.int)):=by rw [aH];exact av
      have s12:bx H (upd H11 r (.lst (rs'.map V.int++[V.int o]))):=s11.upd rH
      generalize upd H11 r (.lst (rs'.map V.int++[V.int o]))=H12 at x12 r12 s12
      have q2r:q2≠r:=(bw I8.rr q2H8).symm
      have q2d:q2≠d:=(bw I8.dd q2H8).symm
      have lq:∀z∈rs',ad z≠d:=fun z hz=>let ⟨_,_,_,c,_⟩:=I8.cell z hz;ic c I8.dd (by intro y;cases y)
      have pt:∀{xs:List V} {ss:List (Int×Int)},Pairs K H10 xs ss→Pairs K H12 xs ss:=fun h=>(pI x11 d10 h).lU x12 r11
      refine ⟨rs'++[o],fun z=>if z=o then q2 else ad z,fun z=>if z=o then wy p++[v] else wy z,fun z=>if z=o then pl p++[p] else pl z,by rw [eo];rfl,⟨s12,x12 _ _ drn d11,r12,fI I8.nd ho,fun z hz=>?_,aK _ I8.a0,fun z hz=>?_,fun z hz=>?_⟩,⟨more++[o],by rw [em,eK]⟩,x12 _ _ nlr (x11 _ _ nld (s10 _ _ l8)),pt (p8.same s10),fun t ht=>?_,?_⟩
      ·rcases aF.mp hz with y | y
       ·exact I8.rng z y
       ·rw [ao.mp y];exact hor
      ·try dsimp only
       rcases aF.mp hz with y | y
       ·have hne:¬z=o:=fun w=>ho (w▸y)
        obtain ⟨n2,nr2,xs2,c2,c2p⟩:=I8.cell z y
        rw [if_neg hne,if_neg hne]
        exact ⟨n2,nr2,xs2,x12 _ _ nr2 (x11 _ _ (lq z y) (s10 _ _ c2)),pt (c2p.same s10)⟩
       ·rw [if_pos (ao.mp y),if_pos (ao.mp y)]
        exact ⟨bR I8.same q2H8,q2r,_,x12 _ _ q2r (x11 _ _ q2d e10),pt w10⟩
      ·try dsimp only
       rcases aF.mp hz with y | y
       ·have hne:¬z=o:=fun w=>ho (w▸y)
        rw [if_neg hne,if_neg hne]
        exact ⟨(I8.way z y).1,fun w hw=>aK _ ((I8.way z y).2 w hw)⟩
       ·have hzo:=ao.mp y
        rw [if_pos hzo,if_pos hzo,hzo,eo]
        refine ⟨.snoc wp hv hvb hvr fun w=>?_,fun w hw=>?_⟩
        ·rw [←eo] at w
         rcases aF.mp w with y | y
         ·exact ho (wq _ y)
         ·exact ho (ao.mp y▸hp8)
        ·rcases aF.mp hw with y | y
         ·exact aK _ (wq _ y)
         ·rw [ao.mp y];exact aK _ hp8
      ·rw [take_snoc gv] at ht
       rcases aF.mp ht with y | y
       ·exact aK _ (hdone t y)
       ·rw [ao.mp y,←eo];exact aG _ (ao.mpr rfl)
      ·rw [take_snoc gv,List.foldl_append,←hfold]
       show _=tG es p (rs',wy) v
       unfold tG
       rw [←eo,if_neg ho]
    ·rintro σ' H' ⟨rs',ad,wy,pl,rfl,I',ext,l',p',hdone',hfold'⟩
     exact ⟨rs',ad,wy,pl,_,_,rfl,I',ext,l',p',hdone',hfold'⟩
   ·rintro σ H8 ⟨rs',ad,wy,pl,v8,v9,rfl,I8,⟨more,em⟩,l8,p8,hdone,hfold⟩
    rw [hzl,bZ] at hdone hfold
    have hrl8:=eZ I8.nd I8.rng
    refine ⟨_,rfl,_,_,rfl,rfl,m.toNat-(st+1),by lia,rs',st+1,ad,wy,pl,_,_,_,rfl,rfl,I8,by rw [em,aw];lia,fun j hj s hs=>?_,?_⟩
    rotate_left
    ·rw [hfold,ewy,←hrun,show m.toNat-st=(m.toNat-(st+1))+1 by lia]
     show _=if st<rs.length then uZ es rm (m.toNat-(st+1)) (yo es rm (rs,_) st) (st+1) else _
     rw [if_pos hlt]
     unfold yo
     rw [ep]
    by_cases hjs:j<st
    ·have ej:rs'.getD j 0=rs.getD j 0:=by rw [em,aa,cE (by lia),aa]
     rw [ej] at hs
     rw [em]
     exact aK _ (clo j hjs s hs)
    ·have hje:j=st:=by lia
     have ej:rs'.getD j 0=p:=by rw [hje,ep,em,aa,cE hlt,aa]
     rw [ej] at hs
     exact hdone s hs
  ·rw [decide_eq_false (show ¬(st:Int)<((rs.map V.int).length:Int) by lia)]
   refine gb ?_
   have erun:(rs,wy)=wwr es rm a m.toNat:=by
    unfold wwr
    rw [←hrun,rp hlt]
   refine ⟨_,rfl,k d rs wy H5 I.same ⟨⟨ad,I.dd,fun p hp=>(I.cell p hp).2.2⟩,I.nd,I.rng,I.a0,fun p hp=>⟨_,(I.way p hp).1⟩,fun p hp s hs=>?_⟩ (by rw [←erun]) (by rw [←erun])⟩
   obtain ⟨j,hj,rfl⟩:=bV.mp hp
   have ej:rs.getD j 0=rs[j]:=by rw [aa,ak hj];rfl
   exact clo j (by lia) s (by rw [ej];exact hs)
def xP (K:ai):Sp:=fun vs H Q _=>∃(a p:Addr) (xs ys:List V) (rm ss:List (Int×Int)),vs=[.ref a,.ref p]∧SqL K H a xs∧Pairs K H xs rm∧SqL K H p ys∧Pairs K H ys ss∧ss.length≤900∧(∀s∈ss,0≤s.1∧s.1<(rm.length:Int)) ∧
 ∀l H',H l=none→bx H H'→H' l=some (.lst ((ss.map (rmA rm)).map V.int))→Q (.ref l) H'
theorem AD:bS ["rooms","steps"] ["rooms","steps"] (aB sRa):=⟨rfl,rfl,rfl,by decide +kernel,rfl,by decide +kernel,by decide +kernel⟩
theorem yI {f:Addr} {fd:FuncData} (F:Fun K "room_along" "room_along" sRa f fd) (T:Txt K mg c):fm P w K mg base CX0 1 f fd ["rooms","steps"] (xP K):=by
 refine F.ok AD (fun vs H Q E h=>?_) (fun cdv A outer s H vs Q E hr h=>?_)
 ·obtain ⟨a,p,xs,ys,rm,ss,rfl,_⟩:=h
  rfl
 ·obtain ⟨a,p,xs,ys,rm,ss,rfl,ha,hx,hp,hy,hz,hs,k⟩:=h
  refine ⟨_,aQ (cC (fG (N':=["tie","sense","rooms"]) (nl:=2) (js:=[0]) rfl (.of (osc:=aB sRa) (N:=["rooms","steps"]) (by decide +kernel) rfl rfl) (f_ (K:=K) rfl (pv 1))
    (fun _ _ _ _=>kU (K:=K) (i:=0) (j:=1) rfl rfl (show (["tie","sense","rooms"]:List Str).Nodup by decide +kernel) rfl rfl rfl rfl) (fun _ _ _ _=>dG)
    (fun _ _ _ _=>gq (bL gm (pv 1) (aN) (cw _)) (cn (ixT (K:=K) rfl) (cn (ixL (K:=K) rfl) (pv 2) (pv 0) (fun _ _=>rfl)) (aN) (fun _ _=>rfl)) (cn (ixT (K:=K) rfl) (cn (ixL (K:=K) rfl) (pv 2) (pv 0) (fun _ _=>rfl)) (aN) (fun _ _=>rfl))))),?_⟩
  have hyl:=hy.len
  refine ⟨_,rfl,p,_,rfl,.inl hp,fun J C O hC=>fD O (fun i ws H2=>H2=H∧ws=((ss.map (rmA rm)).take i).map V.int) (aM (aE (by lia))) ⟨rfl,rfl⟩ ?_ ?_ ?_⟩
  ·rintro i ws H2 hi ⟨rfl,rfl⟩
   exact ⟨hC _ (bx.refl _),by rw [ae,aD];lia⟩
  ·rintro i ws H2 hi ⟨rfl,rfl⟩
   obtain ⟨r,e,er,hr2,ei,he⟩:=hy.at hi
   obtain ⟨b1,b2⟩:=hs e he
   obtain ⟨r1,ar,hr1,_⟩:=fE hx b1 b2
   have hv:(ss.map (rmA rm))[i]?=some (rmA rm e):=by rw [br,ei];rfl
   have hl2:(((ss.map (rmA rm)).take i).map V.int).length<sizeLine:=aE (by rw [ae,aD];lia)
   try dsimp only
   rw [er]
   refine ⟨r,_,rfl,hr2,rfl,_,_,rfl,_,_,rfl,rfl,iK rfl rfl,ft ?_⟩
   refine ⟨_,rfl,rfl,_,rfl,fX (fun c1=>?_) (fun c1=>?_)⟩
   ·have c1':=of_decide_eq_true c1
    injection c1' with c1'
    have ev:rmA rm e=(aX rm e.1).1:=if_pos c1'
    refine ⟨_,rfl,_,rfl,a,_,_,_,rfl,rfl,ha,ar,r1,_,0,_,rfl,rfl,hr1,rfl,hl2,_,by lia,rfl,by lia,rfl,?_⟩
    rw [take_snoc hv,aH,ev];rfl
   ·have ev:rmA rm e=(aX rm e.1).2:=if_neg (fun z=>c1 (decide_eq_true (by rw [z])))
    refine ⟨_,rfl,_,rfl,a,_,_,_,rfl,rfl,ha,ar,r1,_,1,_,rfl,rfl,hr1,rfl,hl2,_,by lia,rfl,by lia,rfl,?_⟩
    rw [take_snoc hv,aH,ev];rfl
  ·rintro ws H2 ⟨rfl,rfl⟩ l nl
   rw [bh (by rw [ae];lia)]
   exact k l _ nl (bx.new nl) av
def xQ (K:ai):Sp:=fun vs H Q _=>∃(a p:Addr) (ys:List V) (as:List Int) (ss:List (Int×Int)) (z:Int),vs=[.ref a,.ref p,.int z]∧SqL K H a (as.map V.int)∧SqL K H p ys∧Pairs K H ys ss∧as.length≤900∧(∀s∈ss,0≤s.1∧s.1<(as.length:Int)∧(s.2=1∨s.2=-1))∧z.natAbs<2^200 ∧
 ∀l H',H l=none→bx H H'→H' l=some (.lst ((psh as ss z).map V.int))→Q (.ref l) H'
theorem xa:bS ["amounts","steps","size","told","tie","sense"] ["amounts","steps","size"] (aB sPu):=⟨rfl,rfl,rfl,by decide +kernel,rfl,by decide +kernel,by decide +kernel⟩
theorem yJ {f:Addr} {fd:FuncData} (F:Fun K "pushed" "pushed" sPu f fd) (T:Txt K mg c):fm P w K mg base CX0 1 f fd ["amounts","steps","size"] (xQ K):=by
 refine F.ok xa (fun vs H Q E h=>?_) (fun cdv A outer s H vs Q E hr h=>?_)
 ·obtain ⟨a,p,ys,as,ss,z,rfl,_⟩:=h
  rfl
 ·obtain ⟨a,p,ys,as,ss,z,rfl,ha,hp,hy,hz,hs,hzb,k⟩:=h
  refine ⟨_,ax (bA (i:=3) xa.nd rfl (Or.inl rfl) (fq (lJ (K:=K) rfl) (by rfl) T.list cH (ah (pv 0) ay)))
   (ax (fk PassesOwn.never rfl (iy (K:=K) rfl (pv 1)) (jo (K:=K) (n:=2) rfl rfl (dh (bG (i:=4) xa.nd rfl (Or.inl rfl)) (dh (bG (i:=5) xa.nd rfl (Or.inl rfl)) (fW))) rfl)
    (aQ (lY (pv 3) (pv 4) (ku (K:=K) rfl) (bK iq (pv 5) (pv 2)) nB set_list)))
   (aQ (cC (pv 3)))),?_⟩
  refine ⟨_,rfl,a,_,rfl,.inl ha,fun l nl=>?_⟩
  have s1:=bx.new (o:=.lst (as.map V.int)) nl
  have e1:(upd H l (.lst (as.map V.int))) l=some (.lst (as.map V.int)):=av
  generalize upd H l (.lst (as.map V.int))=H1 at s1 e1
  have hyl:=hy.len
  refine ⟨_,rfl,false,p,_,rfl,s1.seq hp,fun J C O hC=>fF O (fun i σ H2=>∃(v4 v5:Option V),σ=[some (.ref a),some (.ref p),some (.int z),some (.ref l),v4,v5]∧bx H H2∧H2 l=some (.lst ((psh as (ss.take i) z).map V.int))) ⟨none,none,rfl,s1,e1⟩ (fun i σ H2 _ h=>?_) ?_ ?_⟩
  ·obtain ⟨v4,v5,_,s2,_⟩:=h
   exact hC _ (s2.seq hp)
  ·rintro i σ H2 hi ⟨v4,v5,rfl,s2,e2⟩
   obtain ⟨r,e,er,hr2,ei,he⟩:=hy.at hi
   obtain ⟨b1,b2,b3⟩:=hs e he
   have hpl:=ik as z (ss.take i)
   try dsimp only
   rw [er]
   have hb:e.2.natAbs<2^200:=by rcases b3 with b | b<;>rw [b]<;>decide
   refine ⟨r,_,rfl,s2.tup hr2,rfl,_,_,rfl,_,_,rfl,rfl,?_⟩
   refine ⟨_,rfl,_,rfl,l,_,e.1,_,rfl,rfl,b1,SqL.of e2,ky (by lia),_,rfl,_,rfl,_,_,rfl,rfl,⟨hb,hzb⟩,_,_,rfl,rfl,l,_,e.1,_,rfl,rfl,e2,gP b1 (by rw [ae];lia),?_⟩
   rw [fO]
   refine ⟨_,_,rfl,s2.upd nl,?_⟩
   rw [take_snoc ei,hV]
   exact av
  ·rintro σ H2 ⟨v4,v5,rfl,s2,e2⟩
   rw [hyl,bZ] at e2
   exact ⟨_,rfl,k l H2 nl s2 e2⟩
def ye (K:ai):Sp:=fun vs H Q _=>∃(a l h:Int),vs=[.int a,.int l,.int h]∧Q (.int (nE a l h)) H
theorem AL:bS ["amount","low","high"] ["amount","low","high"] (aB sCd):=⟨rfl,rfl,rfl,by decide +kernel,rfl,by decide +kernel,by decide +kernel⟩
theorem zh {f:Addr} {fd:FuncData} (F:Fun K "change_due" "change_due" sCd f fd) (T:Txt K mg c):fm P w K mg base CX0 1 f fd ["amount","low","high"] (ye K):=by
 refine F.ok AL (fun vs H Q E h=>?_) (fun cdv A outer s H vs Q E hr h=>?_)
 ·obtain ⟨a,l,h,rfl,_⟩:=h
  rfl
 ·obtain ⟨a,l,h,rfl,k⟩:=h
  refine ⟨_,ax (dZ (bL iB (pv 0) (pv 1) (cw _))
    (aQ (cC (bK gr (pv 1) (pv 0)))) (cL))
   (ax (dZ (bL iO (pv 0) (pv 2) (cw _))
    (aQ (cC (bK gr (pv 2) (pv 0)))) (cL))
   (aQ (cC (aN)))),?_⟩
  unfold nE at k
  refine ⟨_,rfl,_,rfl,_,_,rfl,rfl,_,rfl,fX (fun c1=>?_) (fun c1=>?_)⟩
  ·rw [if_pos (of_decide_eq_true c1)] at k
   exact ⟨_,rfl,_,rfl,_,_,rfl,rfl,k⟩
  ·rw [if_neg (fun z=>c1 (decide_eq_true z))] at k
   refine ⟨_,rfl,_,rfl,_,_,rfl,rfl,_,rfl,fX (fun c2=>?_) (fun c2=>?_)⟩
   ·rw [if_pos (of_decide_eq_true c2)] at k
    exact ⟨_,rfl,_,rfl,_,_,rfl,rfl,k⟩
   ·rw [if_neg (fun z=>c2 (decide_eq_true z))] at k
    exact k
structure BtF (es:List (Int×Int)) (lo hi as:List Int):Prop where
 len:as.length=es.length
 qu:∀p:Int,dp p es as es.length=0
 ins:∀t,t<es.length→lo.getD t 0≤as.getD t 0∧as.getD t 0≤hi.getD t 0
def yg (K:ai) (c:Cs):Sp:=fun vs H Q _=>∃(x p q:Addr) (m:Int) (es:List (Int×Int)) (lo hi:List Int),vs=[.ref x,.ref p,.ref q]∧fb K c.Web H x m es∧SqL K H p (lo.map V.int)∧SqL K H q (hi.map V.int)∧lo.length=es.length∧hi.length=es.length∧es.length≤40∧1≤m∧m≤20∧cV es m∧(∀i,i<es.length→lo.getD i 0≤hi.getD i 0)∧(∀i,i<es.length→-2^150≤lo.getD i 0∧hi.getD i 0≤2^150) ∧
 (∀t l as H',H l=none→bx H H'→H' t=some (.tup [.str "flow",.ref l])→H' l=some (.lst (as.map V.int))→BtF es lo hi as→BtR es lo hi m.toNat es.length (true,as)→Q (.ref t) H') ∧
 (∀t l ps R H',H l=none→bx H H'→H' t=some (.tup [.str "shut",.ref l])→H' l=some (.lst (ps.map V.int))→ps=rst m.toNat R→0<shS ps es lo hi es.length→BtR es lo hi m.toNat es.length (false,ps)→Q (.ref t) H')
theorem oK:bS ["web","lows","highs","amounts","tie","ends","due","step","goal","rooms","ways","size"] ["web","lows","highs"] (aB sBt):=⟨rfl,rfl,rfl,by decide +kernel,rfl,by decide +kernel,by decide +kernel⟩
theorem zj {f:Addr} {fd:FuncData} (F:Fun K "between" "between" sBt f fd) (T:Txt K mg c) (D_Cb:Def P w K mg base 2 "check_bounds" ["web","lows","highs"] (yf K c)) (D_Rl:Def P w K mg base 1 "rooms_left" ["amounts","lows","highs"] (xK K)) (D_Se:Def P w K mg base 1 "step_end" ["web","step"] (wM K c)) (D_Ww:Def P w K mg base 2 "ways_with_room" ["web","rooms","start"] (xD K c)) (D_Ra:Def P w K mg base 1 "room_along" ["rooms","steps"] (xP K)) (D_Pu:Def P w K mg base 1 "pushed" ["amounts","steps","size"] (xQ K)) (D_Cd:Def P w K mg base 1 "change_due" ["amount","low","high"] (ye K)):fm P w K mg base CX0 3 f fd ["web","lows","highs"] (yg K c):=by
 refine F.ok oK (fun vs H Q E h=>?_) (fun cdv A outer s H vs Q E hr h=>?_)
 ·obtain ⟨x,p,q,m,es,lo,hi,rfl,_⟩:=h
  rfl
 ·obtain ⟨x,p,q,m,es,lo,hi,rfl,hw,hp,hq,hll,hhl,hz,m1,m2,hE,hlh,hB,k1,k2⟩:=h
  refine ⟨_,ax (dk (bP D_Cb hr (ah (pv 0) (ah (pv 1) (ah (pv 2) ay)))))
   (ax (bA (i:=3) oK.nd rfl (Or.inl rfl) (bK iA (de (ah (aN) ay)) (a_ (gc (K:=K) rfl) (by rfl) T.len aS (ah (gF (K:=K) rfl T.web (pv 0)) ay))))
   (ax (fk PassesOwn.never rfl (lZ (K:=K) rfl rfl T.enumerate (ah (gF (K:=K) rfl T.web (pv 0)) ay)) (jo (K:=K) (n:=2) rfl rfl (dh (bG (i:=4) oK.nd rfl (Or.inl rfl)) (dh (bG (i:=5) oK.nd rfl (Or.inl rfl)) (fW))) rfl)
    (ax (bA (i:=6) oK.nd rfl (Or.inl rfl) (bP D_Cd hr (ah (cn (ixL (K:=K) rfl) (pv 3) (pv 4) (fun _ _=>rfl)) (ah (cn (ixL (K:=K) rfl) (pv 1) (pv 4) (fun _ _=>rfl)) (ah (cn (ixL (K:=K) rfl) (pv 2) (pv 4) (fun _ _=>rfl)) ay)))))
   (aQ (jd PassesOwn.never (bL l_ (pv 6) (aN) (cw _))
    (ax (dq (bA (i:=7) oK.nd rfl (Or.inl rfl) (iz (ah (pv 4) (ah (gq (bL iO (pv 6) (aN) (cw _)) (aN) (kW iR (aN))) ay)))))
   (ax (dq (bA (i:=8) oK.nd rfl (Or.inl rfl) (gq (bL iO (pv 6) (aN) (cw _)) (cn (ixT (K:=K) rfl) (pv 5) (aN) (fun _ _=>rfl)) (cn (ixT (K:=K) rfl) (pv 5) (aN) (fun _ _=>rfl)))))
   (ax (bA (i:=9) oK.nd rfl (Or.inl rfl) (bP D_Rl hr (ah (pv 3) (ah (pv 1) (ah (pv 2) ay)))))
   (ax (bA (i:=10) oK.nd rfl (Or.inr rfl) (bP D_Ww hr (ah (pv 0) (ah (pv 9) (ah (bP D_Se hr (ah (pv 0) (ah (pv 7) ay))) ay)))))
   (ax (dZ (kN (gZ (i_ hr) (pv 8) (pv 10)))
    (aQ (cC (iz (ah (gS) (ah (fG (N':=["place","ways"]) (nl:=1) (js:=[10]) rfl (.of (osc:=aB sBt) (N:=["web","lows","highs","amounts","tie","ends","due","step","goal","rooms","ways","size"]) (by decide +kernel) rfl rfl) (ef rfl T.range (ah (uh (K:=K) rfl T.web (pv 0)) ay))
    (fun _ _ _ _=>bG (i:=0) (show (["place","ways"]:List Str).Nodup by decide +kernel) rfl (Or.inl rfl)) (fun _ _ _ _=>gY (kN (gZ (i_ hr) (pv 0) (pv 1))))
    (fun _ _ _ _=>pv 0)) ay))))) (cL))
   (ax (bA (i:=11) oK.nd rfl (Or.inl rfl) (a_ (Bp (K:=K) rfl rfl) (by rfl) T.min PyProof.Rows.boot_min (ah (bK gd (de (ah (a_ ji (by rfl) T.abs PyProof.Rows.boot_abs (ah (pv 6) ay)) ay)) (bP D_Ra hr (ah (pv 9) (ah (ki (i_ hr) (pv 10) (pv 8) (fun _ _=>rfl)) ay)))) ay)))
   (ax (bA (i:=3) oK.nd rfl (Or.inl rfl) (bP D_Pu hr (ah (pv 3) (ah (bK gd (ki (i_ hr) (pv 10) (pv 8) (fun _ _=>rfl)) (de (ah (pv 7) ay))) (ah (pv 11) ay)))))
   (aQ (bA (i:=6) oK.nd rfl (Or.inl rfl) (bP D_Cd hr (ah (cn (ixL (K:=K) rfl) (pv 3) (pv 4) (fun _ _=>rfl)) (ah (cn (ixL (K:=K) rfl) (pv 1) (pv 4) (fun _ _=>rfl)) (ah (cn (ixL (K:=K) rfl) (pv 2) (pv 4) (fun _ _=>rfl)) ay)))))))))))))))))
   (aQ (cC (iz (ah (gS) (ah (pv 3) ay))))))),?_⟩
  refine ⟨_,rfl,_,rfl,_,rfl,x,p,q,m,es,lo,hi,rfl,hw,hp,hq,hll,hhl,by lia,hlh,fun H0 s0=>?_⟩
  refine ⟨(by show 1≤sizeLine;decide),fun l1 nl1=>?_⟩
  have s1:=s0.next (o:=.lst [V.int 0]) nl1
  have e1:(upd H0 l1 (.lst [V.int 0])) l1=some (.lst [V.int 0]):=av
  generalize upd H0 l1 (.lst [V.int 0])=H1 at s1 e1
  refine ⟨_,rfl,x,m,es,rfl,hw.same s1,fun tt0 ys0 ht0 hp0=>⟨tt0,ys0,rfl,.inr (SqT.of ht0),l1,(ys0.length:Int),_,rfl,rfl,e1,by lia,?_,?_,fun al nal=>?_⟩⟩
  ·have:=hp0.len;lia
  ·have:=hp0.len;exact aM (aE (by show 1*(ys0.length:Int).toNat≤1000;lia))
  have hpl0:=hp0.len
  rw [fZ,show ((ys0.length:Int)).toNat=es.length from hpl0]
  have s2:=s1.next (o:=.lst ((az es.length (0:Int)).map V.int)) nal
  have e2:(upd H1 al (.lst ((az es.length (0:Int)).map V.int))) al=some (.lst ((az es.length (0:Int)).map V.int)):=av
  have nalH:H al=none:=bR s1 nal
  generalize upd H1 al (.lst ((az es.length (0:Int)).map V.int))=H2 at s2 e2
  clear hp0 ht0 hpl0 e1
  have rep0:∀k:Nat,(az es.length (0:Int)).getD k 0=0:=fun k=>by
   rw [aa,cq];split<;>rfl
  refine ⟨_,rfl,x,m,es,rfl,hw.same s2,fun t ys ht hpt=>⟨true,t,ys,rfl,SqT.of ht,fun J C O hC=>?_⟩⟩
  have hpl:=hpt.len
  refine jC O (fun i σ H3=>∃(al:Addr) (as:List Int) (v4 v5 v6 v7 v8 v9 v10 v11:Option V),σ=[some (.ref x),some (.ref p),some (.ref q),some (.ref al),v4,v5,v6,v7,v8,v9,v10,v11]∧bx H H3∧bx H2 H3∧H al=none∧H3 al=some (.lst (as.map V.int))∧BtI es lo hi i as∧(∀t,t<es.length→-2^150≤as.getD t 0∧as.getD t 0≤2^150)∧BtR es lo hi m.toNat i (true,as)) ⟨al,_,none,none,none,none,none,none,none,none,rfl,s2,bx.refl _,nalH,e2,⟨bg ..,fun p=>jG ..,fun t ht=>absurd ht (bM _)⟩,fun t ht=>by rw [rep0];decide,.nil⟩ (fun i σ H3 _ h=>?_) ?_ ?_
  ·obtain ⟨al,as,v4,v5,v6,v7,v8,v9,v10,v11,_,_,s3,_⟩:=h
   exact hC _ (SqT.of (s3 _ _ ht))
  ·rintro i σ H3 pq hi' ⟨al,as,v4,v5,v6,v7,v8,v9,v10,v11,rfl,s03,s23,nal,e3,I,hS,hBt⟩ hpq
   obtain ⟨r,e,er,hr2,ei,he⟩:=hpt.at hi'
   have hE1:es.getD i (0,0)=e:=by rw [aa,ei];rfl
   have hi2:i<es.length:=by lia
   dsimp only
   rw [er]
   have s4:=bx.new (o:=.tup [.int (i:Nat),.ref r]) hpq
   have t4:(upd H3 pq (.tup [.int (i:Nat),.ref r])) pq=some (.tup [.int (i:Nat),.ref r]):=av
   refine ⟨pq,_,rfl,SqT.of t4,rfl,_,_,rfl,_,_,rfl,rfl,?_⟩
   have s04:=s03.trans s4
   have s24:=s23.trans s4
   have e4:=s4 _ _ e3
   have r4:=s24.tup hr2
   generalize upd H3 pq (.tup [.int (i:Nat),.ref r])=H4 at s4 s04 s24 e4 r4
   clear t4 s4 e3 s23 s03
   have atL:∀{xs:List Int},xs.length=es.length→atI (xs.map V.int) (i:Int)=some (.int (xs.getD i 0)):=fun {xs} hx=>by
    have:=dY (ns:=xs) (k:=(i:Int)) (by lia) (by lia)
    rwa [bz] at this
   refine ⟨_,rfl,_,rfl,al,_,_,_,rfl,rfl,SqL.of e4,atL I.len,_,rfl,_,rfl,p,_,_,_,rfl,rfl,s04.seq hp,atL hll,_,rfl,_,rfl,q,_,_,_,rfl,rfl,s04.seq hq,atL hhl,_,_,_,rfl,?_⟩
   refine ⟨fun n σ H5=>∃(al:Addr) (as':List Int) (v7 v8 v9 v10 v11:Option V),n=(d_ as' lo hi i).natAbs∧σ=[some (.ref x),some (.ref p),some (.ref q),some (.ref al),some (.int (i:Nat)),some (.ref r),some (.int (d_ as' lo hi i)),v7,v8,v9,v10,v11]∧bx H H5∧bx H2 H5∧H al=none∧H5 al=some (.lst (as'.map V.int))∧BtI es lo hi i as'∧(∀t,t<es.length→-2^150≤as'.getD t 0∧as'.getD t 0≤2^150)∧∀r,WhR es lo hi m.toNat i as' r→WhR es lo hi m.toNat i as r,⟨_,al,as,_,_,_,_,_,rfl,rfl,s04,s24,nal,e4,I,hS,fun _ z=>z⟩,?_⟩
   clear e4 r4
   rintro n σ H5 ⟨al,as',v7,v8,v9,v10,v11,rfl,rfl,s05,s25,nal,e5,I,hS,hW⟩
   refine ⟨_,rfl,rfl,_,rfl,?_⟩
   by_cases hd:d_ as' lo hi i=0
   ·rw [decide_eq_true (show V.int (d_ as' lo hi i)=V.int 0 by rw [hd])]
    refine gb ?_
    refine ⟨al,as',_,_,_,_,_,_,_,_,rfl,s05,s25,nal,e5,⟨I.len,I.qu,fun t ht=>?_⟩,hS,.next hBt (hW _ (.done hd))⟩
    by_cases c:t=i
    ·rw [c];exact qB hd
    ·exact I.past t (by lia)
   rw [decide_eq_false (show ¬V.int (d_ as' lo hi i)=V.int 0 by intro z;injection z with z;exact hd z)]
   refine ft ⟨_,fun σ' H' h=>h,?_⟩
   have hr5:=s25.tup hr2
   have hbe:=hE e he
   obtain ⟨d,ed⟩:∃d,d=d_ as' lo hi i:=⟨_,rfl⟩
   have hsv:=sq hi2 d
   have hsE:stE es (gk i d)=if d>0 then e.2 else e.1:=by
    unfold stE gk aX
    rw [bz,hE1]
    by_cases c:d>0
    ·rw [if_pos c,if_pos rfl,if_pos c]
    ·rw [if_neg c,if_neg (show ¬(-1:Int)=1 by decide),if_neg c]
   have hsB:stB es (gk i d)=if d>0 then e.1 else e.2:=by
    unfold stB gk aX
    rw [bz,hE1]
    by_cases c:d>0
    ·rw [if_pos c,if_pos rfl,if_pos c]
    ·rw [if_neg c,if_neg (show ¬(-1:Int)=1 by decide),if_neg c]
   rw [←ed]
   refine ⟨fun σ' H'=>∃sa:Addr,σ'=[some (.ref x),some (.ref p),some (.ref q),some (.ref al),some (.int (i:Nat)),some (.ref r),some (.int d),some (.ref sa),v8,v9,v10,v11]∧bx H5 H'∧SqT K H' sa [.int (gk i d).1,.int (gk i d).2],?_,?_⟩
   ·have fin:∀v:Int,v=(gk i d).2→∀sa:Addr,H5 sa=none→∃sa':Addr,[some (V.ref x),some (.ref p),some (.ref q),some (.ref al),some (.int (i:Nat)),some (.ref r),some (.int d),some (.ref sa),v8,v9,v10,v11]=[some (.ref x),some (.ref p),some (.ref q),some (.ref al),some (.int (i:Nat)),some (.ref r),some (.int d),some (.ref sa'),v8,v9,v10,v11]∧bx H5 (upd H5 sa (.tup [.int (i:Nat),.int v]))∧SqT K (upd H5 sa (.tup [.int (i:Nat),.int v])) sa' [.int (gk i d).1,.int (gk i d).2]:=fun v hv sa nsa=>⟨sa,rfl,bx.new nsa,by rw [←hv];exact SqT.of av⟩
    refine ⟨_,rfl,_,rfl,_,_,rfl,rfl,_,rfl,fX (fun c1=>?_) (fun c1=>?_)⟩
    ·exact ⟨(by show 2≤sizeLine;decide),fun sa nsa=>fin 1 (if_pos (of_decide_eq_true c1)).symm sa nsa⟩
    ·exact ⟨_,rfl,(by show 2≤sizeLine;decide),fun sa nsa=>fin (-1) (if_neg (fun z=>c1 (decide_eq_true z))).symm sa nsa⟩
   rintro σ' H6 ⟨sa,rfl,s6,hsa⟩
   refine ⟨fun σ' H'=>H'=H6∧σ'=[some (.ref x),some (.ref p),some (.ref q),some (.ref al),some (.int (i:Nat)),some (.ref r),some (.int d),some (.ref sa),some (.int (stB es (gk i d))),v9,v10,v11],?_,?_⟩
   ·have r6:=s6.tup hr5
    rw [hsB]
    refine ⟨_,rfl,_,_,rfl,rfl,_,rfl,fX (fun c1=>?_) (fun c1=>?_)⟩
    ·rw [if_pos (of_decide_eq_true c1)]
     exact ⟨_,rfl,r,_,0,_,rfl,rfl,r6,rfl,rfl,rfl⟩
    ·rw [if_neg (fun z=>c1 (decide_eq_true z))]
     exact ⟨_,rfl,r,_,1,_,rfl,rfl,r6,rfl,rfl,rfl⟩
   rintro σ' H' ⟨rfl,rfl⟩
   have s06:=s05.trans s6
   have e6:=s6 _ _ e5
   refine ⟨_,rfl,_,rfl,_,rfl,al,p,q,as',lo,hi,rfl,SqL.of e6,s06.seq hp,s06.seq hq,hll.trans I.len.symm,hhl.trans I.len.symm,by rw [I.len];lia,fun ra rx H7 nra s7 e7 p7=>?_⟩
   have s07:=s06.trans s7
   have hrg:0≤stE es (gk i d)∧stE es (gk i d)<m:=by
    rw [hsE];split
    ·exact ⟨hbe.2.2.1,hbe.2.2.2⟩
    ·exact ⟨hbe.1,hbe.2.1⟩
   refine ⟨_,rfl,_,rfl,_,rfl,_,rfl,x,sa,m,es,gk i d,rfl,hw.same s07,s7.tup hsa,hsv,x,ra,_,m,es,_,rx,rfl,hw.same s07,SqL.of e7,p7,by rw [iM,I.len],hz,hrg.1,hrg.2,m2,hE,fun da rs wy H8 s8 W hrs hwy=>?_⟩
   obtain ⟨⟨ad,wd,wc⟩,wnd,wrng,wa0,wway,wclo⟩:=W
   have s68:=s7.trans s8
   have s08:=s07.trans s8
   have s28:=(s25.trans s6).trans s68
   subst ed
   refine ⟨_,rfl,_,rfl,da,_,rfl,jZ.k (k:=Sum.inl (stB es (gk i (d_ as' lo hi i)))) wd,_,rfl,?_⟩
   rw [fg]
   by_cases hg:stB es (gk i (d_ as' lo hi i))∈rs
   ·rw [if_pos hg]
    refine gb ?_
    obtain ⟨gx,c1,c1p⟩:=wc _ hg
    obtain ⟨pl,way⟩:=wway _ hg
    obtain ⟨g,eg⟩:∃g,g=stB es (gk i (d_ as' lo hi i)):=⟨_,rfl⟩
    rw [←eg] at hg c1 c1p way ⊢
    have hwst:∀s∈wy g,StV es s:=fun s hs=>(way.step s hs).1
    have hwl:(wy g).length≤40:=by
     have:=eZ (rs:=(wy g).map (·.1)) (m:=(es.length:Int)) way.tnd fun z hz=>by
      obtain ⟨s,h1,h2⟩:=b_.mp hz
      rw [←h2];exact ⟨(hwst s h1).1,(hwst s h1).2.1⟩
     rw [ae] at this
     lia
    have hgl:=c1p.len
    have dget:∀{H':Hp},bx H8 H'→jZ H' da (.int g) (some (.ref (ad g))):=fun S=>by
     have:=jZ.k (k:=Sum.inl g) (S _ _ wd)
     rw [fg,if_pos hg] at this
     exact this
    refine ⟨_,rfl,_,rfl,(by show 1≤sizeLine;decide),fun q1 nq1=>?_⟩
    have s9:=bx.new (o:=.lst [V.int (if d_ as' lo hi i<0 then -d_ as' lo hi i else d_ as' lo hi i)]) nq1
    have e9:(upd H8 q1 (.lst [V.int (if d_ as' lo hi i<0 then -d_ as' lo hi i else d_ as' lo hi i)])) q1=some (.lst [V.int (if d_ as' lo hi i<0 then -d_ as' lo hi i else d_ as' lo hi i)]):=av
    generalize upd H8 q1 (.lst [V.int (if d_ as' lo hi i<0 then -d_ as' lo hi i else d_ as' lo hi i)])=H9 at s9 e9
    refine ⟨_,rfl,_,rfl,_,rfl,da,_,rfl,dget s9,ra,ad g,rx,gx,_,wy g,rfl,SqL.of ((s8.trans s9) _ _ e7),(p7.same (s8.trans s9)),SqL.of (s9 _ _ c1),c1p.same s9,by lia,fun s hs=>⟨(hwst s hs).1,by rw [iM,I.len];exact (hwst s hs).2.1⟩,fun l9 H10 nl9 s10 e10=>?_⟩
    refine ⟨q1,l9,_,_,rfl,rfl,s10 _ _ e9,e10,aM (aE (by show 1+(((wy g).map (rmA (rmN as' lo hi))).map V.int).length≤1000;rw [ae,ae];lia)),fun q2 nq2=>?_⟩
    have s11:=bx.new (o:=.lst ([V.int (if d_ as' lo hi i<0 then -d_ as' lo hi i else d_ as' lo hi i)]++((wy g).map (rmA (rmN as' lo hi))).map V.int)) nq2
    refine ⟨q2,(if d_ as' lo hi i<0 then -d_ as' lo hi i else d_ as' lo hi i)::(wy g).map (rmA (rmN as' lo hi)),rfl,.inl (SqL.of av),Nat.succ_pos _,fun z hz hm=>?_⟩
    have s8b:=(s9.trans s10).trans s11
    generalize upd H10 q2 (.lst ([V.int (if d_ as' lo hi i<0 then -d_ as' lo hi i else d_ as' lo hi i)]++((wy g).map (rmA (rmN as' lo hi))).map V.int))=H11 at s11 s8b
    clear s11 s10 s9 e9 e10
    refine ⟨_,rfl,_,rfl,_,rfl,da,_,rfl,dget s8b,_,rfl,(by show 1≤sizeLine;decide),fun q3 nq3=>?_⟩
    have s12:=bx.new (o:=.lst [V.ref sa]) nq3
    have e12:(upd H11 q3 (.lst [V.ref sa])) q3=some (.lst [V.ref sa]):=av
    generalize upd H11 q3 (.lst [V.ref sa])=H12 at s12 e12
    have s8c:=s8b.trans s12
    refine ⟨ad g,q3,_,_,rfl,rfl,s8c _ _ c1,e12,aM (aE (by show gx.length+1≤1000;lia)),fun q4 nq4=>?_⟩
    have s13:=s8c.next (o:=.lst (gx++[V.ref sa])) nq4
    have e13:(upd H12 q4 (.lst (gx++[V.ref sa]))) q4=some (.lst (gx++[V.ref sa])):=av
    generalize upd H12 q4 (.lst (gx++[V.ref sa]))=H13 at s13 e13
    have p13:Pairs K H13 (gx++[V.ref sa]) (wy g++[gk i (d_ as' lo hi i)]):=(c1p.same s13).snoc (((s7.trans s8).trans s13).tup hsa)
    have s0d:=s08.trans s13
    rw [eg] at way hz hm
    obtain ⟨I',dlt⟩:=I.next hi2 hlh hd way hz hm
    obtain ⟨zb,hS'⟩:=I.sml hi2 hlh hd way hz hm hB hS
    rw [←eg] at I' dlt hS' hz hm
    have zb':z.natAbs<2^200:=Nat.lt_of_le_of_lt zb (by decide)
    refine ⟨_,rfl,al,q4,_,as',wy g++[gk i (d_ as' lo hi i)],z,rfl,SqL.of ((s68.trans s13) _ _ e6),SqL.of e13,p13,by rw [I.len];lia,fun s hs=>?_,zb',fun a2 H14 na2 s14 e14=>?_⟩
    ·rcases aF.mp hs with y | y
     ·rw [I.len];exact hwst s y
     ·rw [ao.mp y,I.len];exact hsv
    have s0e:=s0d.trans s14
    refine ⟨_,rfl,_,rfl,a2,_,_,_,rfl,rfl,SqL.of e14,atL I'.len,_,rfl,_,rfl,p,_,_,_,rfl,rfl,s0e.seq hp,atL hll,_,rfl,_,rfl,q,_,_,_,rfl,rfl,s0e.seq hq,atL hhl,_,_,_,rfl,?_⟩
    refine ⟨_,dlt,a2,_,_,_,_,_,_,rfl,rfl,s0e,(s28.trans s13).trans s14,bR s0d na2,e14,I',hS',fun r hr=>hW r (.next hd ?_ ?_ hz hm rfl hr)⟩
    ·rw [←hrs,←eg];exact hg
    ·rw [←hwy,←eg]
   ·rw [if_neg hg]
    refine ft ?_
    refine ⟨_,rfl,x,m,es,rfl,hw.same s08,m,rfl,by lia,by lia,fD dv (fun j ys H'=>H'=H8∧ys=(rst j rs).map V.int) (aM (aE (by lia))) ⟨rfl,rfl⟩ ?_ ?_ ?_⟩
    ·rintro j ys H' hj ⟨rfl,rfl⟩
     exact ⟨trivial,by rw [ae];exact pf ..⟩
    ·rintro j ys H' hj ⟨rfl,rfl⟩
     have hj':j<m.toNat:=hj
     have hrl:=pf j rs
     have ej:(0+(j:Nat):Int)=(j:Int):=by lia
     refine ⟨dQ rfl,?_⟩
     try dsimp only
     rw [ej]
     refine ⟨_,rfl,_,rfl,da,_,rfl,jZ.k (k:=Sum.inl (j:Int)) wd,_,rfl,?_⟩
     rw [fg]
     by_cases c:(j:Int)∈rs
     ·rw [if_pos c]
      refine gb ⟨_,by lia,rfl,by lia,rfl,?_⟩
      rw [mT,if_pos c,bT]
     ·rw [if_neg c]
      refine ft ⟨_,rfl,aE (by rw [ae];lia),_,by lia,rfl,by lia,rfl,?_⟩
      rw [mT,if_neg c,aH];rfl
    ·rintro ys H' ⟨rfl,rfl⟩ lp nlp
     have s9:=s08.next (o:=.lst ((rst m.toNat rs).map V.int)) nlp
     have e9:(upd H' lp (.lst ((rst m.toNat rs).map V.int))) lp=some (.lst ((rst m.toNat rs).map V.int)):=av
     generalize upd H' lp (.lst ((rst m.toNat rs).map V.int))=H9 at s9 e9
     refine ⟨(by show 2≤sizeLine;decide),fun tu ntu=>?_⟩
     refine k2 tu lp _ rs _ (bR s08 nlp) (s9.next ntu) av (bx.new ntu _ _ e9) rfl ?_ ?_
     ·exact tK (m:=m.toNat) (fun e he=>by obtain ⟨b1,b2,b3,b4⟩:=hE e he;exact ⟨b1,by lia,b3,by lia⟩) I hi2 hd wa0 hg wclo
     ·have:=hW _ (.tL hd (by rw [←hrs];exact hg))
      rw [←hrs] at this
      exact (BtR.next hBt this).tL (by lia)
  ·rintro σ H3 ⟨al,as,v4,v5,v6,v7,v8,v9,v10,v11,rfl,s03,s23,nal,e3,I,hS,hBt⟩
   rw [hpl] at I hBt
   refine ⟨_,rfl,(by show 2≤sizeLine;decide),fun tu ntu=>?_⟩
   exact k1 tu al as _ nal (s03.next ntu) av (bx.new ntu _ _ e3) ⟨I.len,I.qu,I.past⟩ hBt
def wV (K:ai) (c:Cs):Sp:=fun vs H Q _=>∃(x:Addr) (t p m:Int) (es:List (Int×Int)),vs=[.ref x,.int t,.int p]∧fb K c.Web H x m es∧0≤t∧t<(es.length:Int)∧Q (.int (far (aX es t) p)) H
theorem zQ:bS ["web","tie","place","ends"] ["web","tie","place"] (aB sFe):=⟨rfl,rfl,rfl,by decide +kernel,rfl,by decide +kernel,by decide +kernel⟩
theorem yX {f:Addr} {fd:FuncData} (F:Fun K "far_end" "far_end" sFe f fd) (T:Txt K mg c):fm P w K mg base CX0 1 f fd ["web","tie","place"] (wV K c):=by
 refine F.ok zQ (fun vs H Q E h=>?_) (fun cdv A outer s H vs Q E hr h=>?_)
 ·obtain ⟨x,t,p,m,es,rfl,_⟩:=h
  rfl
 ·obtain ⟨x,t,p,m,es,rfl,hw,t0,t1,k⟩:=h
  refine ⟨_,ax (bA (i:=3) zQ.nd rfl (Or.inl rfl) (cn (ixT (K:=K) rfl) (gF (K:=K) rfl T.web (pv 0)) (pv 1) (fun _ _=>rfl)))
   (aQ (cC (gq (bL gm (cn (ixT (K:=K) rfl) (pv 3) (aN) (fun _ _=>rfl)) (pv 2) (cw _)) (cn (ixT (K:=K) rfl) (pv 3) (aN) (fun _ _=>rfl)) (cn (ixT (K:=K) rfl) (pv 3) (aN) (fun _ _=>rfl))))),?_⟩
  refine ⟨_,rfl,x,m,es,rfl,hw,fun tt ys ht hp=>?_⟩
  obtain ⟨r,ar,hr2,_⟩:=fE hp t0 t1
  unfold far at k
  refine ⟨_,rfl,tt,ys,t,.ref r,rfl,rfl,SqT.of ht,ar,?_⟩
  refine ⟨_,rfl,r,_,0,_,rfl,rfl,hr2,rfl,_,rfl,rfl,_,rfl,fX (fun c1=>?_) (fun c1=>?_)⟩
  ·have c1':=of_decide_eq_true c1
   injection c1' with c1'
   rw [if_pos c1'] at k
   exact ⟨_,rfl,r,_,1,_,rfl,rfl,hr2,rfl,k⟩
  ·rw [if_neg (fun z=>c1 (decide_eq_true (by rw [z])))] at k
   exact ⟨_,rfl,r,_,0,_,rfl,rfl,hr2,rfl,k⟩
structure FwI (H:Hp) (m:Int) (es:List (Int×Int)) (ss:List Int) (a:Int) (d r:Addr) (H2:Hp) (rs:List Int) (ad:Int→Addr) (wy pl:Int→List Int):Prop where
 same:bx H H2
 dd:H2 d=some (.dK (rs.map fun p=>((Sum.inl p:Key),V.ref (ad p))))
 rr:H2 r=some (.lst (rs.map V.int))
 nd:rs.Nodup
 rng:∀p∈rs,0≤p∧p<m
 a0:a∈rs
 cell:∀p∈rs,H (ad p)=none∧ad p≠r∧H2 (ad p)=some (.lst ((wy p).map V.int))
 way:∀p∈rs,Way es ss a (wy p) (pl p) p∧∀q∈pl p,q∈rs
def xX (K:ai) (c:Cs):Sp:=fun vs H Q _=>∃(x q:Addr) (a b m:Int) (es:List (Int×Int)) (ss:List Int),vs=[.ref x,.ref q,.int a,.int b]∧fb K c.Web H x m es∧SqL K H q (ss.map V.int)∧(∀t∈ss,0≤t∧t<(es.length:Int))∧ss.length≤900∧0≤a∧a<m∧m≤20∧cV es m ∧
 (¬Cn (sub es ss) a b→∀H',bx H H'→Q .non H')∧(∀l ts ps H',bx H H'→H l=none→H' l=some (.lst (ts.map V.int))→Way es ss a ts ps b→Q (.ref l) H')
theorem sv:bS ["web","some","start","goal","ways","reached","step","place","tie","other"] ["web","some","start","goal"] (aB sFw):=⟨rfl,rfl,rfl,by decide +kernel,rfl,by decide +kernel,by decide +kernel⟩
theorem yT {f:Addr} {fd:FuncData} (F:Fun K "find_way" "find_way" sFw f fd) (T:Txt K mg c) (D_Fe:Def P w K mg base 1 "far_end" ["web","tie","place"] (wV K c)):fm P w K mg base CX0 2 f fd ["web","some","start","goal"] (xX K c):=by
 refine F.ok sv (fun vs H Q E h=>?_) (fun cdv A outer s H vs Q E hr h=>?_)
 ·obtain ⟨x,q,a,b,m,es,ss,rfl,_⟩:=h
  rfl
 ·obtain ⟨x,q,a,b,m,es,ss,rfl,hw,hq,hss,hsl,a0,a1,m2,hE,k1,k2⟩:=h
  refine ⟨_,ax (bA (i:=4) sv.nd rfl (Or.inl rfl) (pH (mW (pv 2) (de ay) (pA)) rfl rfl (by simp) (by decide)))
   (ax (bA (i:=5) sv.nd rfl (Or.inl rfl) (de (ah (pv 2) ay)))
   (ax (bA (i:=6) sv.nd rfl (Or.inl rfl) (aN))
   (ax (jd PassesOwn.never (PW.pt (iW (kN (gZ (i_ hr) (pv 3) (pv 4))) (gW (bL iB (pv 6) (a_ (gc (K:=K) rfl) (by rfl) T.len aS (ah (pv 5) ay)) (cw _)))))
    (ax (bA (i:=7) sv.nd rfl (Or.inr rfl) (cn (ixL (K:=K) rfl) (pv 5) (pv 6) (fun _ _=>rfl)))
   (ax (fk PassesOwn.never rfl (iy (K:=K) rfl (fG (N':=["one","web","place"]) (nl:=1) (js:=[0,7]) rfl (.of (osc:=aB sFw) (N:=["web","some","start","goal","ways","reached","step","place","tie","other"]) (by decide +kernel) rfl rfl) (f_ (K:=K) rfl (pv 1))
    (fun _ _ _ _=>bG (i:=0) (show (["one","web","place"]:List Str).Nodup by decide +kernel) rfl (Or.inl rfl)) (fun _ _ _ _=>gY (bL (uj (K:=K) rfl) (pv 2) (cn (ixT (K:=K) rfl) (gF (K:=K) rfl T.web (pv 1)) (pv 0) (fun _ _=>rfl)) (by with_unfolding_all rfl)))
    (fun _ _ _ _=>pv 0))) (bG (i:=8) sv.nd rfl (Or.inl rfl))
    (ax (bA (i:=9) sv.nd rfl (Or.inl rfl) (bP D_Fe hr (ah (pv 0) (ah (pv 8) (ah (pv 7) ay)))))
   (aQ (dq (dZ (kN (gZ (i_ hr) (pv 9) (pv 4)))
    (ax (pj (i_ hr) (pv 4) (pv 9) (bK gd (ki (i_ hr) (pv 4) (pv 7) (fun _ _=>rfl)) (de (ah (pv 8) ay))) rfl)
   (aQ (dk (gC PySem.F.plainAttrs_list PySem.F.slot_list_append PySem.F.type_list_append eI (pv 5) (ah (pv 9) ay))))) (cL))))))
   (aQ (pw (i:=6) sv.nd rfl (Or.inl rfl) (aN) nB)))))
   (aQ (cC (rA (i_ hr) (pv 4) (pv 3) ⟨rfl,rfl,rfl,rfl⟩)))))),?_⟩
  intro d nd
  have s1:bx H (upd H d (.dK [])):=bx.new nd
  have d1:(upd H d (.dK [])) d=some (.dK []):=av
  generalize upd H d (.dK [])=H1 at s1 d1
  refine ⟨_,rfl,by decide,fun l0 nl0=>?_⟩
  have s2:=s1.next (o:=.lst []) nl0
  have d2:=bx.new (o:=.lst []) nl0 _ _ d1
  have e2:(upd H1 l0 (.lst [])) l0=some (.lst []):=av
  have l0H:H l0=none:=bR s1 nl0
  generalize upd H1 l0 (.lst [])=H2 at s2 d2 e2
  refine ⟨d2,[(Sum.inl a,.ref l0)],rfl,(by show 1≤15;decide),?_⟩
  have d3:(upd H2 d (.dK (gG [] [((Sum.inl a:Key),V.ref l0)]))) d=some (.dK ([a].map fun p=>((Sum.inl p:Key),V.ref l0))):=av
  have s3:bx H (upd H2 d (.dK (gG [] [((Sum.inl a:Key),V.ref l0)]))):=s2.upd nd
  have e3:(upd H2 d (.dK (gG [] [((Sum.inl a:Key),V.ref l0)]))) l0=some (.lst []):=by rw [bX (bw d1 nl0).symm];exact e2
  generalize upd H2 d (.dK (gG [] [((Sum.inl a:Key),V.ref l0)]))=H3 at d3 s3 e3
  refine ⟨_,rfl,(by show 1≤sizeLine;decide),fun r nr=>?_⟩
  have s4:=s3.next (o:=.lst [V.int a]) nr
  have d4:=bx.new (o:=.lst [V.int a]) nr _ _ d3
  have e4:=bx.new (o:=.lst [V.int a]) nr _ _ e3
  have r4:(upd H3 r (.lst [V.int a])) r=some (.lst ([a].map V.int)):=av
  have rH:H r=none:=bR s3 nr
  have lr:l0≠r:=bw e3 nr
  generalize upd H3 r (.lst [V.int a])=H4 at s4 d4 e4 r4
  clear s3 d3 e3 s2 d2 e2 nl0 s1 d1 nr
  have drn:d≠r:=ic d4 r4 (by intro z;cases z)
  refine ⟨fun n σ H2=>∃(rs:List Int) (st:Nat) (ad:Int→Addr) (wy pl:Int→List Int) (v7 v8 v9:Option V),n=m.toNat-st∧σ=[some (.ref x),some (.ref q),some (.int a),some (.int b),some (.ref d),some (.ref r),some (.int st),v7,v8,v9]∧FwI H m es ss a d r H2 rs ad wy pl∧st≤rs.length ∧
   (∀j,j<st→∀t∈ss,((aX es t).1=rs.getD j 0∨(aX es t).2=rs.getD j 0)→far (aX es t) (rs.getD j 0)∈rs),⟨m.toNat-0,[a],0,fun _=>l0,fun _=>[],fun _=>[],none,none,none,rfl,rfl,?_,dM _,fun j hj=>absurd hj (bM _)⟩,?_⟩
  ·refine ⟨s4,d4,r4,by simp,fun p hp=>?_,ao.mpr rfl,fun p hp=>⟨l0H,lr,e4⟩,fun p hp=>?_⟩
   ·rw [ao.mp hp];exact ⟨a0,a1⟩
   ·rw [ao.mp hp];exact ⟨.nil,fun q hq=>nomatch hq⟩
  rintro n σ H5 ⟨rs,st,ad,wy,pl,v7,v8,v9,rfl,rfl,I,hst,clo⟩
  have hrl:=eZ I.nd I.rng
  refine ⟨_,rfl,_,rfl,d,_,rfl,jZ.k (k:=Sum.inl b) I.dd,_,rfl,?_⟩
  rw [fg]
  by_cases hb:b∈rs
  ·rw [if_pos hb]
   refine gb (gb ?_)
   obtain ⟨n1,_,c1⟩:=I.cell b hb
   refine ⟨_,rfl,d,rfl,.inl ⟨_,.inl I.dd⟩,_,rfl,_,jZ.k (k:=Sum.inl b) I.dd,?_⟩
   rw [fg,if_pos hb]
   exact k2 (ad b) (wy b) (pl b) H5 I.same n1 c1 (I.way b hb).1
  ·rw [if_neg hb]
   refine ft ⟨_,rfl,_,rfl,r,_,rfl,.inl (SqL.of I.rr),_,_,rfl,rfl,_,rfl,?_⟩
   have hlm:(rs.map V.int).length=rs.length:=ae ..
   by_cases hlt:st<rs.length
   ·rw [decide_eq_true (show (st:Int)<((rs.map V.int).length:Int) by lia)]
    refine ft ⟨_,fun σ' H' h=>h,?_⟩
    have hpm:rs.getD st 0∈rs:=by rw [aa,ak hlt];exact cf hlt
    have hat:atI (rs.map V.int) (st:Int)=some (.int (rs.getD st 0)):=dY (ns:=rs) (k:=(st:Int)) (by lia) (by lia)
    refine ⟨_,rfl,_,rfl,r,_,_,_,rfl,rfl,SqL.of I.rr,hat,?_⟩
    obtain ⟨p,ep⟩:∃p,p=rs.getD st 0:=⟨_,rfl⟩
    rw [←ep] at hpm
    have hw5:=hw.same I.same
    refine ⟨_,rfl,q,_,rfl,.inl (I.same.seq hq),fun J C O hC=>fD O (fun i ys H6=>H6=H5∧ys=((ss.take i).filter fun t=>atP (rs.getD st 0) (aX es t)).map V.int) (by rw [ae];exact aM (aE (by lia))) ⟨rfl,rfl⟩ ?_ ?_ ?_⟩
    ·rintro i ys H6 hi ⟨rfl,rfl⟩
     refine ⟨hC _ (bx.refl _),?_⟩
     rw [ae]
     exact cx (cN _ _) (by rw [aD];lia)
    ·rintro i ys H6 hi ⟨rfl,rfl⟩
     obtain ⟨v,ev,gv⟩:=getD_map_int hi
     rw [ae] at hi
     have hv:=hss v (aZ gv)
     have hyl:(((ss.take i).filter fun t=>atP (rs.getD st 0) (aX es t)).map V.int).length<sizeLine:=aE (by
      rw [ae]
      have:=cN (fun t=>atP (rs.getD st 0) (aX es t)) (ss.take i)
      rw [aD] at this;lia)
     try dsimp only
     rw [ev]
     refine ⟨dQ rfl,_,rfl,_,rfl,x,m,es,rfl,hw5,fun tt ys ht hp=>?_⟩
     obtain ⟨r2,ar,hr2,_⟩:=fE hp hv.1 hv.2
     refine ⟨_,rfl,tt,ys,v,.ref r2,rfl,rfl,SqT.of ht,ar,r2,_,rfl,.inr hr2,rfl,rfl,_,rfl,?_⟩
     rw [if_neg aV,show inV (V.int (rs.getD st 0)) [V.int (aX es v).1,V.int (aX es v).2]=atP (rs.getD st 0) (aX es v) from sZ ..]
     refine fX (fun c1=>?_) (fun c1=>?_)
     ·refine ⟨_,rfl,hyl,_,by rw [ae];lia,rfl,by rw [ae];lia,rfl,?_⟩
      rw [take_snoc gv,cU,aH,cY (p:=fun t=>atP (rs.getD st 0) (aX es t)) c1];rfl
     ·refine ⟨_,by rw [ae];lia,rfl,by rw [ae];lia,rfl,?_⟩
      rw [take_snoc gv,cU,aH,cZ (p:=fun t=>atP (rs.getD st 0) (aX es t)) c1];exact (bT _).symm
    ·rintro ys H6 ⟨rfl,rfl⟩ l nl
     rw [ae,bZ,←ep]
     have sN:=bx.new (o:=.lst ((ss.filter fun t=>atP p (aX es t)).map V.int)) nl
     have eN:(upd H6 l (.lst ((ss.filter fun t=>atP p (aX es t)).map V.int))) l=some (.lst ((ss.filter fun t=>atP p (aX es t)).map V.int)):=av
     generalize upd H6 l (.lst ((ss.filter fun t=>atP p (aX es t)).map V.int))=H7 at sN eN
     have I7:FwI H m es ss a d r H7 rs ad wy pl:=⟨I.same.trans sN,sN _ _ I.dd,sN _ _ I.rr,I.nd,I.rng,I.a0,fun p hp=>⟨(I.cell p hp).1,(I.cell p hp).2.1,sN _ _ (I.cell p hp).2.2⟩,I.way⟩
     have nlr:l≠r:=(bw I.rr nl).symm
     have nld:l≠d:=(bw I.dd nl).symm
     have nlH:H l=none:=bR I.same nl
     refine ⟨false,l,_,rfl,SqL.of eN,fun J C O hC=>fF O (fun i σ H8=>∃(rs':List Int) (ad:Int→Addr) (wy pl:Int→List Int) (v8 v9:Option V),σ=[some (.ref x),some (.ref q),some (.int a),some (.int b),some (.ref d),some (.ref r),some (.int st),some (.int p),v8,v9]∧FwI H m es ss a d r H8 rs' ad wy pl∧(∃more,rs'=rs++more) ∧
      H8 l=some (.lst ((ss.filter fun t=>atP p (aX es t)).map V.int))∧∀t∈(ss.filter fun t=>atP p (aX es t)).take i,far (aX es t) p∈rs') ⟨rs,ad,wy,pl,_,_,rfl,I7,⟨[],(bT _).symm⟩,eN,fun t ht=>(by simp at ht)⟩ (fun i σ H8 _ h=>?_) ?_ ?_⟩
     ·obtain ⟨rs',ad,wy,pl,v8,v9,_,_,_,l8,_⟩:=h
      exact hC _ (SqL.of l8)
     ·rintro i σ H8 hi ⟨rs',ad,wy,pl,v8,v9,rfl,I8,⟨more,em⟩,l8,hdone⟩
      obtain ⟨v,ev,gv⟩:=getD_map_int hi
      have hvF:=bJ.mp (aZ gv)
      have hv:=hss v hvF.1
      have hva:=g_.mp hvF.2
      have hp8:p∈rs':=by rw [em];exact aK _ hpm
      have hw8:=hw.same I8.same
      obtain ⟨_,_,_,hte⟩:∃dx t xs,aX es v∈es:=⟨0,0,0,by
       unfold aX
       rw [aa,ak (show v.toNat<es.length by lia)];exact cf _⟩
      have hb4:=hE _ hte
      have hor:0≤far (aX es v) p∧far (aX es v) p<m:=by
       unfold far;split
       ·exact ⟨hb4.2.2.1,hb4.2.2.2⟩
       ·exact ⟨hb4.1,hb4.2.1⟩
      try dsimp only
      rw [ev]
      refine ⟨_,rfl,_,rfl,_,rfl,x,v,p,m,es,rfl,hw8,hv.1,hv.2,?_⟩
      obtain ⟨o,eo⟩:∃o,o=far (aX es v) p:=⟨_,rfl⟩
      refine ⟨fun σ' H'=>∃(rs':List Int) (ad:Int→Addr) (wy pl:Int→List Int),σ'=[some (.ref x),some (.ref q),some (.int a),some (.int b),some (.ref d),some (.ref r),some (.int st),some (.int p),some (.int v),some (.int (far (aX es v) p))]∧FwI H m es ss a d r H' rs' ad wy pl∧(∃more,rs'=rs++more) ∧
       H' l=some (.lst ((ss.filter fun t=>atP p (aX es t)).map V.int))∧∀t∈(ss.filter fun t=>atP p (aX es t)).take (i+1),far (aX es t) p∈rs',?_,?_⟩
      ·refine ⟨_,rfl,_,rfl,d,_,rfl,jZ.k (k:=Sum.inl (far (aX es v) p)) I8.dd,_,rfl,?_⟩
       rw [fg,←eo]
       rw [←eo] at hor
       by_cases ho:o∈rs'
       ·rw [if_pos ho]
        refine gb ⟨rs',ad,wy,pl,rfl,I8,⟨more,em⟩,l8,fun t ht=>?_⟩
        rw [take_snoc gv] at ht
        rcases aF.mp ht with y | y
        ·exact hdone t y
        ·rw [ao.mp y,←eo];exact ho
       ·rw [if_neg ho]
        refine ft ?_
        obtain ⟨n1,nr1,c1⟩:=I8.cell p hp8
        obtain ⟨wp,wq⟩:=I8.way p hp8
        have hwl:(wy p).length≤20:=by
         rw [wp.len]
         have:=eZ (m:=m) wp.nd fun z hz=>by
          rcases aF.mp hz with y | y
          ·exact I8.rng z (wq z y)
          ·rw [ao.mp y];exact I8.rng p hp8
         rw [aw] at this
         lia
        have hrl8:=eZ I8.nd I8.rng
        refine ⟨_,rfl,_,rfl,d,.ref (ad p),rfl,?_,_,rfl,(by show 1≤sizeLine;decide),fun q1 nq1=>?_⟩
        ·have:=jZ.k (k:=Sum.inl p) I8.dd
         rw [fg,if_pos hp8] at this
         exact this
        have s9:=bx.new (o:=.lst [V.int v]) nq1
        have e9:(upd H8 q1 (.lst [V.int v])) q1=some (.lst [V.int v]):=av
        generalize upd H8 q1 (.lst [V.int v])=H9 at s9 e9
        refine ⟨ad p,q1,_,_,rfl,rfl,s9 _ _ c1,e9,aM (aE (by rw [ae];show (wy p).length+1≤1000;lia)),fun q2 nq2=>?_⟩
        rw [show (wy p).map V.int++[V.int v]=(wy p++[v]).map V.int by rw [aH];rfl]
        have s10:=s9.next (o:=.lst ((wy p++[v]).map V.int)) nq2
        have e10:(upd H9 q2 (.lst ((wy p++[v]).map V.int))) q2=some (.lst ((wy p++[v]).map V.int)):=av
        generalize upd H9 q2 (.lst ((wy p++[v]).map V.int))=H10 at s10 e10
        have q2H8:H8 q2=none:=bR s9 nq2
        have d10:=s10 _ _ I8.dd
        have r10:=s10 _ _ I8.rr
        have pk:putK (rs'.map fun p=>((Sum.inl p:Key),V.ref (ad p))) (Sum.inl o) (V.ref q2)=(rs'++[o]).map fun z=>((Sum.inl z:Key),V.ref (if z=o then q2 else ad z)):=by
         rw [mV _ (by rw [fg,if_neg ho]),aH]
         congr 1
         ·refine List.map_congr_left fun z hz=>?_
          rw [if_neg (show ¬z=o from fun y=>ho (y▸hz))]
         ·rw [bf,fT,if_pos rfl]
        refine ⟨_,rfl,_,rfl,d,_,rfl,vf.k (k:=Sum.inl o) d10 (aE (by rw [ae];lia)),?_⟩
        rw [pk]
        have r11:(upd H10 d (.dK ((rs'++[o]).map fun z=>((Sum.inl z:Key),V.ref (if z=o then q2 else ad z))))) r=some (.lst (rs'.map V.int)):=by rw [bX drn.symm];exact r10
        refine ⟨_,rfl,.inl ⟨rfl,_,SqL.of r11⟩,_,rfl,r,_,_,rfl,rfl,r11,aE (by rw [ae];lia),?_⟩
        have q2r:q2≠r:=(bw I8.rr q2H8).symm
        have q2d:q2≠d:=(bw I8.dd q2H8).symm
        have lq:∀z∈rs',ad z≠d:=fun z hz=>ic (I8.cell z hz).2.2 I8.dd (by intro y;cases y)
        refine ⟨rs'++[o],fun z=>if z=o then q2 else ad z,fun z=>if z=o then wy p++[v] else wy z,fun z=>if z=o then pl p++[p] else pl z,rfl,⟨((I8.same.trans s10).upd nd).upd rH,?_,?_,fI I8.nd ho,fun z hz=>?_,aK _ I8.a0,fun z hz=>?_,fun z hz=>?_⟩,⟨more++[o],by rw [em,eK]⟩,?_,fun t ht=>?_⟩
        ·rw [bX drn];exact av
        ·rw [show (rs'++[o]).map V.int=rs'.map V.int++[V.int o] by rw [aH];rfl];exact av
        ·rcases aF.mp hz with y | y
         ·exact I8.rng z y
         ·rw [ao.mp y];exact hor
        ·try dsimp only
         rcases aF.mp hz with y | y
         ·have hne:¬z=o:=fun w=>ho (w▸y)
          obtain ⟨n2,nr2,c2⟩:=I8.cell z y
          rw [if_neg hne,if_neg hne]
          exact ⟨n2,nr2,by rw [bX nr2,bX (lq z y)];exact s10 _ _ c2⟩
         ·rw [if_pos (ao.mp y),if_pos (ao.mp y)]
          exact ⟨bR I8.same q2H8,q2r,by rw [bX q2r,bX q2d];exact e10⟩
        ·try dsimp only
         rcases aF.mp hz with y | y
         ·have hne:¬z=o:=fun w=>ho (w▸y)
          rw [if_neg hne,if_neg hne]
          exact ⟨(I8.way z y).1,fun w hw=>aK _ ((I8.way z y).2 w hw)⟩
         ·have hzo:=ao.mp y
          rw [if_pos hzo,if_pos hzo,hzo,eo]
          refine ⟨.snoc wp hvF.1 hv.1 hv.2 hva fun w=>?_,fun w hw=>?_⟩
          ·rw [←eo] at w
           rcases aF.mp w with y | y
           ·exact ho (wq _ y)
           ·exact ho (ao.mp y▸hp8)
          ·rcases aF.mp hw with y | y
           ·exact aK _ (wq _ y)
           ·rw [ao.mp y];exact aK _ hp8
        ·rw [bX nlr,bX nld];exact s10 _ _ l8
        ·rw [take_snoc gv] at ht
         rcases aF.mp ht with y | y
         ·exact aK _ (hdone t y)
         ·rw [ao.mp y,←eo];exact aG _ (ao.mpr rfl)
      ·rintro σ' H' ⟨rs',ad,wy,pl,rfl,I',ext,l',hdone'⟩
       exact ⟨rs',ad,wy,pl,_,_,rfl,I',ext,l',hdone'⟩
     ·rintro σ H8 ⟨rs',ad,wy,pl,v8,v9,rfl,I8,⟨more,em⟩,l8,hdone⟩
      rw [ae,bZ] at hdone
      have hrl8:=eZ I8.nd I8.rng
      refine ⟨_,rfl,_,_,rfl,rfl,m.toNat-(st+1),by lia,rs',st+1,ad,wy,pl,_,_,_,rfl,rfl,I8,by rw [em,aw];lia,fun j hj t ht hta=>?_⟩
      by_cases hjs:j<st
      ·have ej:rs'.getD j 0=rs.getD j 0:=by rw [em,aa,cE (by lia),aa]
       rw [ej] at hta ⊢
       rw [em]
       exact aK _ (clo j hjs t ht hta)
      ·have hje:j=st:=by lia
       have ej:rs'.getD j 0=p:=by rw [hje,ep,em,aa,cE hlt,aa]
       rw [ej] at hta ⊢
       exact hdone t (bJ.mpr ⟨ht,g_.mpr hta⟩)
   ·rw [decide_eq_false (show ¬(st:Int)<((rs.map V.int).length:Int) by lia)]
    refine gb ?_
    refine ⟨_,rfl,d,rfl,.inl ⟨_,.inl I.dd⟩,_,rfl,_,jZ.k (k:=Sum.inl b) I.dd,?_⟩
    rw [fg,if_neg hb]
    refine k1 (fun h=>hb (qM I.a0 (fun e he p hp hep=>?_) h)) H5 I.same
    obtain ⟨t,ht,rfl⟩:=b_.mp he
    obtain ⟨j,hj,rfl⟩:=bV.mp hp
    have ej:rs.getD j 0=rs[j]:=by rw [aa,ak hj];rfl
    have:=clo j (by lia) t ht (by rw [ej];exact hep)
    rwa [ej] at this
def wU (K:ai) (c:Cs):Sp:=fun vs H Q _=>∃(x:Addr) (m:Int) (es:List (Int×Int)),vs=[.ref x]∧fb K c.Web H x m es∧1≤m∧m≤20∧es.length≤40∧cV es m∧∀l H',H l=none→bx H H'→H' l=some (.lst ((gh es).map V.int))→Q (.ref l) H'
theorem uX:bS ["web","labels","taken","tie","ends"] ["web"] (aB sFr):=⟨rfl,rfl,rfl,by decide +kernel,rfl,by decide +kernel,by decide +kernel⟩
theorem yV {f:Addr} {fd:FuncData} (F:Fun K "forest" "forest" sFr f fd) (T:Txt K mg c) (D_Me:Def P w K mg base 1 "merged" ["labels","one","two"] (xR K)):fm P w K mg base CX0 2 f fd ["web"] (wU K c):=by
 refine F.ok uX (fun vs H Q E h=>?_) (fun cdv A outer s H vs Q E hr h=>?_)
 ·obtain ⟨x,m,es,rfl,_⟩:=h
  rfl
 ·obtain ⟨x,m,es,rfl,hw,m1,m2,hz,hE,k⟩:=h
  refine ⟨_,ax (bA (i:=1) uX.nd rfl (Or.inl rfl) (gN rfl rfl T.list rfl T.range (ah (uh (K:=K) rfl T.web (pv 0)) ay)))
   (ax (bA (i:=2) uX.nd rfl (Or.inl rfl) (de ay))
   (ax (fk PassesOwn.never rfl (lZ (K:=K) rfl rfl T.enumerate (ah (gF (K:=K) rfl T.web (pv 0)) ay)) (jo (K:=K) (n:=2) rfl rfl (dh (bG (i:=3) uX.nd rfl (Or.inl rfl)) (dh (bG (i:=4) uX.nd rfl (Or.inl rfl)) (fW))) rfl)
    (aQ (dq (dZ (bL l_ (cn (ixL (K:=K) rfl) (pv 1) (cn (ixT (K:=K) rfl) (pv 4) (aN) (fun _ _=>rfl)) (fun _ _=>rfl)) (cn (ixL (K:=K) rfl) (pv 1) (cn (ixT (K:=K) rfl) (pv 4) (aN) (fun _ _=>rfl)) (fun _ _=>rfl)) (cw _))
    (ax (dk (gC PySem.F.plainAttrs_list PySem.F.slot_list_append PySem.F.type_list_append eI (pv 2) (ah (pv 3) ay)))
   (aQ (bA (i:=1) uX.nd rfl (Or.inl rfl) (bP D_Me hr (ah (pv 1) (ah (cn (ixT (K:=K) rfl) (pv 4) (aN) (fun _ _=>rfl)) (ah (cn (ixT (K:=K) rfl) (pv 4) (aN) (fun _ _=>rfl)) ay))))))) (cL)))))
   (aQ (cC (pv 2))))),?_⟩
  refine ⟨_,rfl,x,m,es,rfl,hw,m,rfl,by lia,by lia,fun l0 nl0=>?_⟩
  have s0:bx H (upd H l0 (.lst (((bF m.toNat).map fun i=>0+((i:Nat):Int)).map V.int))):=bx.new nl0
  have e0:(upd H l0 (.lst (((bF m.toNat).map fun i=>0+((i:Nat):Int)).map V.int))) l0=some (.lst (((bF m.toNat).map fun i=>0+((i:Nat):Int)).map V.int)):=av
  generalize upd H l0 (.lst (((bF m.toNat).map fun i=>0+((i:Nat):Int)).map V.int))=H0 at s0 e0
  refine ⟨by decide,fun tk ntk=>?_⟩
  have s1:=s0.next (o:=.lst []) ntk
  have e1:=bx.new (o:=.lst []) ntk _ _ e0
  have k1:(upd H0 tk (.lst [])) tk=some (.lst []):=av
  have tkH:H tk=none:=bR s0 ntk
  generalize upd H0 tk (.lst [])=H1 at s1 e1 k1
  have nlt:l0≠tk:=bw e0 ntk
  refine ⟨_,rfl,x,m,es,rfl,hw.same s1,fun t ys ht hp=>⟨true,t,ys,rfl,SqT.of ht,fun J C O hC=>?_⟩⟩
  have hpl:=hp.len
  have ntt:t≠tk:=ic ht k1 (by intro z;cases z)
  refine jC O (fun i σ H2=>∃(lb:Addr) (ls:List Int) (v3 v4:Option V),σ=[some (.ref x),some (.ref lb),some (.ref tk),v3,v4]∧bx H H2∧eY tk H1 H2∧lb≠tk∧H2 lb=some (.lst (ls.map V.int))∧H2 tk=some (.lst ((frN es i).map V.int))∧ls.length=m.toNat∧Lab m (es.take i) (lf ls)) ⟨l0,_,none,none,rfl,s1,fun _ _ _ z=>z,nlt,e1,k1,by rw [ae,cu],(Lab.nil m).congr (fun e he=>(nomatch he)) fun p p0 p1=>(nj m.toNat p p0 (by lia)).symm⟩ (fun i σ H2 _ h=>?_) ?_ ?_
  ·obtain ⟨lb,ls,v3,v4,_,_,sx,_⟩:=h
   exact hC _ (SqT.of (sx _ _ ntt ht))
  ·rintro i σ H2 p hi ⟨lb,ls,v3,v4,rfl,s2,sx2,hlt,hl2,ht2,hll,hL⟩ hp2
   obtain ⟨r,e,er,hr2,ei,he⟩:=hp.at hi
   obtain ⟨b1,b2,b3,b4⟩:=hE e he
   have hr1:SqT K H2 r [.int e.1,.int e.2]:=by
    exact sx2.tup k1 hr2
   have hE1:es.getD i (0,0)=e:=by rw [aa,ei];rfl
   have hfl:=jB es i
   dsimp only
   rw [er]
   have s3:=bx.new (o:=.tup [.int (i:Nat),.ref r]) hp2
   have t3:(upd H2 p (.tup [.int (i:Nat),.ref r])) p=some (.tup [.int (i:Nat),.ref r]):=av
   refine ⟨p,_,rfl,SqT.of t3,rfl,_,_,rfl,_,_,rfl,rfl,?_⟩
   generalize upd H2 p (.tup [.int (i:Nat),.ref r])=H3 at s3 t3
   have hl3:=s3 _ _ hl2
   have ht3:=s3 _ _ ht2
   have hr3:=s3.tup hr1
   have a1:atI (ls.map V.int) e.1=some (.int (lf ls e.1)):=dY (ns:=ls) b1 (by lia)
   have a2:atI (ls.map V.int) e.2=some (.int (lf ls e.2)):=dY (ns:=ls) b3 (by lia)
   refine ⟨fun σ' H'=>∃(lb:Addr) (ls:List Int),σ'=[some (.ref x),some (.ref lb),some (.ref tk),some (.int (i:Nat)),some (.ref r)]∧bx H H'∧eY tk H1 H'∧lb≠tk∧H' lb=some (.lst (ls.map V.int))∧H' tk=some (.lst ((frN es (i+1)).map V.int))∧ls.length=m.toNat∧Lab m (es.take (i+1)) (lf ls),?_,?_⟩
   ·refine ⟨_,rfl,_,rfl,r,_,0,_,rfl,rfl,hr3,rfl,lb,_,_,_,rfl,rfl,SqL.of hl3,a1,_,rfl,_,rfl,r,_,1,_,rfl,rfl,hr3,rfl,lb,_,_,_,rfl,rfl,SqL.of hl3,a2,rfl,_,rfl,?_⟩
    have hiff:=(hL.iff b1 b2 b3 b4)
    rw [take_snoc ei,jg]
    by_cases c1:lf ls e.1=lf ls e.2
    ·rw [decide_eq_true (show V.int (lf ls e.1)=V.int (lf ls e.2) by rw [c1])]
     have hn:¬inF es i=true:=fun z=>(gQ.mp z) (by rw [hE1];exact hiff.mp c1)
     rw [if_neg hn,bT]
     exact gb ⟨lb,ls,rfl,s2.trans s3,fun b o hb z=>s3 _ _ (sx2 b o hb z),hlt,hl3,ht3,hll,hL.skip c1⟩
    ·rw [decide_eq_false (show ¬V.int (lf ls e.1)=V.int (lf ls e.2) by intro z;injection z with z;exact c1 z)]
     have hn:inF es i=true:=gQ.mpr (by rw [hE1];exact fun z=>c1 (hiff.mpr z))
     rw [if_pos hn]
     refine ft ⟨_,rfl,.inl ⟨rfl,_,SqL.of ht3⟩,_,rfl,tk,_,_,rfl,rfl,ht3,aE (by rw [ae];lia),?_⟩
     have x4:eY tk H3 (upd H3 tk (.lst ((frN es i).map V.int++[V.int (i:Int)]))):=dF
     have t4:(upd H3 tk (.lst ((frN es i).map V.int++[V.int (i:Int)]))) tk=some (.lst ((frN es i++[(i:Int)]).map V.int)):=by rw [aH];exact av
     have s4:bx H (upd H3 tk (.lst ((frN es i).map V.int++[V.int (i:Int)]))):=(s2.trans s3).upd tkH
     generalize upd H3 tk (.lst ((frN es i).map V.int++[V.int (i:Int)]))=H4 at x4 t4 s4
     have hl4:=x4 _ _ hlt hl3
     have hr4:SqT K H4 r [.int e.1,.int e.2]:=x4.tup ht3 hr3
     refine ⟨_,rfl,_,rfl,r,_,0,_,rfl,rfl,hr4,rfl,_,rfl,r,_,1,_,rfl,rfl,hr4,rfl,lb,e.1,e.2,ls,rfl,SqL.of hl4,by lia,b1,by lia,b3,by lia,fun l5 H5 nl5 s5 e5=>?_⟩
     refine ⟨l5,_,rfl,s4.trans s5,fun b o hb z=>s5 _ _ (x4 _ _ hb (s3 _ _ (sx2 b o hb z))),(bw t4 nl5).symm,e5,s5 _ _ t4,by rw [ae];exact hll,?_⟩
     refine (hL.merge ⟨b1,b2,b3,b4⟩).congr (fun a ha=>?_) fun p p0 p1=>(sU ls (fun x=>if x=max (lf ls e.1) (lf ls e.2) then min (lf ls e.1) (lf ls e.2) else x) p p0 (by lia)).symm
     rcases aF.mp ha with y | y
     ·exact hE a (List.mem_of_mem_take y)
     ·rw [ao.mp y];exact ⟨b1,b2,b3,b4⟩
   ·rintro σ' H' ⟨lb,ls,rfl,h'⟩
    exact ⟨lb,ls,_,_,rfl,h'⟩
  ·rintro σ H2 ⟨lb,ls,v3,v4,rfl,s2,sx2,hlt,hl2,ht2,hll,hL⟩
   rw [hpl] at ht2
   exact ⟨_,rfl,k tk H2 tkH s2 ht2⟩
def wR (K:ai) (c:Cs):Sp:=fun vs H Q _=>∃(x:Addr) (m:Int) (es:List (Int×Int)),vs=[.ref x]∧fb K c.Web H x m es∧1≤m∧m≤20∧es.length≤40∧cV es m∧∀l H',H l=none→bx H H'→H' l=some (.lst ((fre es).map V.int))→Q (.ref l) H'
theorem zP:bS ["web","taken"] ["web"] (aB sFt):=⟨rfl,rfl,rfl,by decide +kernel,rfl,by decide +kernel,by decide +kernel⟩
theorem qp (g:Int→Bool) (n i:Nat):(((iQ n).take i).filter g).length≤i:=cx (cN _ _) (by rw [aD];lia)
theorem yU {f:Addr} {fd:FuncData} (F:Fun K "free_ties" "free_ties" sFt f fd) (T:Txt K mg c) (D_Fr:Def P w K mg base 2 "forest" ["web"] (wU K c)):fm P w K mg base CX0 3 f fd ["web"] (wR K c):=by
 refine F.ok zP (fun vs H Q E h=>?_) (fun cdv A outer s H vs Q E hr h=>?_)
 ·obtain ⟨x,m,es,rfl,_⟩:=h
  rfl
 ·obtain ⟨x,m,es,rfl,hw,m1,m2,hz,hE,k⟩:=h
  refine ⟨_,ax (bA (i:=1) zP.nd rfl (Or.inr rfl) (bP D_Fr hr (ah (pv 0) ay)))
   (aQ (cC (fG (N':=["tie","taken"]) (nl:=1) (js:=[1]) rfl (.of (osc:=aB sFt) (N:=["web","taken"]) (by decide +kernel) rfl rfl) (ef rfl T.range (ah (a_ (gc (K:=K) rfl) (by rfl) T.len aS (ah (gF (K:=K) rfl T.web (pv 0)) ay)) ay))
    (fun _ _ _ _=>bG (i:=0) (show (["tie","taken"]:List Str).Nodup by decide +kernel) rfl (Or.inl rfl)) (fun _ _ _ _=>gY (bL (ma (K:=K) rfl) (pv 0) (pv 1) (by with_unfolding_all rfl)))
    (fun _ _ _ _=>pv 0)))),?_⟩
  refine ⟨_,rfl,x,m,es,rfl,hw,m1,m2,hz,hE,fun tk H1 ntk s1 e1=>?_⟩
  refine ⟨_,rfl,x,m,es,rfl,hw.same s1,fun t ys ht hp=>⟨t,ys,rfl,.inr (SqT.of ht),(ys.length:Int),rfl,by lia,?_,?_⟩⟩
  ·have:=hp.len;lia
  have hpl:=hp.len
  rw [show ((ys.length:Int)).toNat=es.length from hpl]
  refine fD dv (fun i zs H2=>H2=H1∧zs=(((iQ es.length).take i).filter fun z=>!((gh es).any (·==z))).map V.int) (aM (aE (by lia))) ⟨rfl,rfl⟩ ?_ ?_ ?_
  ·rintro i zs H2 hi ⟨rfl,rfl⟩
   exact ⟨trivial,by rw [ae];exact qp _ _ _⟩
  ·rintro i zs H2 hi ⟨rfl,rfl⟩
   have hg:=gI hi
   have hl2:=qp (fun z=>!((gh es).any (·==z))) es.length i
   try dsimp only
   refine ⟨dQ rfl,_,rfl,_,rfl,tk,_,rfl,.inl (SqL.of e1),rfl,fQ _,_,rfl,?_⟩
   rw [if_pos rfl,gy,ff]
   refine fX (fun c1=>?_) (fun c1=>?_)
   ·refine ⟨_,rfl,aE (by rw [ae];lia),_,by lia,rfl,by lia,rfl,?_⟩
    rw [take_snoc hg,cU,aH,cY (p:=fun z=>!((gh es).any (·==z))) c1];rfl
   ·refine ⟨_,by lia,rfl,by lia,rfl,?_⟩
    rw [take_snoc hg,cU,aH,cZ (p:=fun z=>!((gh es).any (·==z))) c1];exact (bT _).symm
  ·rintro zs H2 ⟨rfl,rfl⟩ l nl
   rw [bh (by rw [gp];exact aO _)]
   exact k l _ (bR s1 nl) (s1.next nl) av
def xE (K:ai) (c:Cs):Sp:=fun vs H Q _=>∃(x q:Addr) (t m:Int) (es:List (Int×Int)) (ss:List Int),vs=[.ref x,.int t,.ref q]∧fb K c.Web H x m es∧0≤t∧t<(es.length:Int)∧SqL K H q (ss.map V.int)∧(∀t∈ss,0≤t∧t<(es.length:Int))∧ss.length≤900∧m≤20∧cV es m ∧
 (¬Cn (sub es ss) (aX es t).2 (aX es t).1→∀H',bx H H'→Q .non H')∧(∀l ts ps H',bx H H'→H l=none→H' l=some (.lst (ts.map V.int))→Way es ss (aX es t).2 ts ps (aX es t).1→Q (.ref l) H')
theorem zL:bS ["web","tie","some","ends"] ["web","tie","some"] (aB sWb):=⟨rfl,rfl,rfl,by decide +kernel,rfl,by decide +kernel,by decide +kernel⟩
theorem yw {f:Addr} {fd:FuncData} (F:Fun K "way_back" "way_back" sWb f fd) (T:Txt K mg c) (D_Fw:Def P w K mg base 2 "find_way" ["web","some","start","goal"] (xX K c)):fm P w K mg base CX0 3 f fd ["web","tie","some"] (xE K c):=by
 refine F.ok zL (fun vs H Q E h=>?_) (fun cdv A outer s H vs Q E hr h=>?_)
 ·obtain ⟨x,q,t,m,es,ss,rfl,_⟩:=h
  rfl
 ·obtain ⟨x,q,t,m,es,ss,rfl,hw,t0,t1,hq,hss,hsl,m2,hE,k1,k2⟩:=h
  refine ⟨_,ax (bA (i:=3) zL.nd rfl (Or.inl rfl) (cn (ixT (K:=K) rfl) (gF (K:=K) rfl T.web (pv 0)) (pv 1) (fun _ _=>rfl)))
   (aQ (cC (bP D_Fw hr (ah (pv 0) (ah (pv 2) (ah (cn (ixT (K:=K) rfl) (pv 3) (aN) (fun _ _=>rfl)) (ah (cn (ixT (K:=K) rfl) (pv 3) (aN) (fun _ _=>rfl)) ay))))))),?_⟩
  refine ⟨_,rfl,x,m,es,rfl,hw,fun tt ys ht hp=>?_⟩
  obtain ⟨r,ar,hr2,hm⟩:=fE hp t0 t1
  obtain ⟨b1,b2,b3,b4⟩:=hE _ hm
  refine ⟨_,rfl,tt,ys,t,.ref r,rfl,rfl,SqT.of ht,ar,?_⟩
  exact ⟨_,rfl,_,rfl,_,rfl,r,_,1,_,rfl,rfl,hr2,rfl,_,rfl,r,_,0,_,rfl,rfl,hr2,rfl,x,q,_,_,m,es,ss,rfl,hw,hq,hss,hsl,b3,b4,m2,hE,k1,k2⟩
def uQ (es:List (Int×Int)) (t:Int) (ts fs:List Int):Prop:=fs.length=es.length∧(∀k:Nat,k<es.length→(fs.getD k 0=1∨fs.getD k 0=-1∨fs.getD k 0=0)∧(fs.getD k 0≠0↔(k:Int)=t∨(k:Int)∈ts))∧fs.getD t.toNat 0=1∧∀p:Int,dp p es fs es.length=0
def xM (K:ai) (c:Cs):Sp:=fun vs H Q _=>∃(x q:Addr) (t m:Int) (es:List (Int×Int)) (ss ts ps:List Int),vs=[.ref x,.int t,.ref q]∧fb K c.Web H x m es∧es.length≤40∧0≤t∧t<(es.length:Int)∧SqL K H q (ts.map V.int)∧Way es ss (aX es t).2 ts ps (aX es t).1∧¬t∈ss ∧
 ∀l fs H',H l=none→bx H H'→H' l=some (.lst (fs.map V.int))→uQ es t ts fs→Q (.ref l) H'
theorem vA:bS ["web","tie","back","told","place","one"] ["web","tie","back"] (aB sRg):=⟨rfl,rfl,rfl,by decide +kernel,rfl,by decide +kernel,by decide +kernel⟩
theorem yF {f:Addr} {fd:FuncData} (F:Fun K "ring_flow" "ring_flow" sRg f fd) (T:Txt K mg c) (D_Fe:Def P w K mg base 1 "far_end" ["web","tie","place"] (wV K c)):fm P w K mg base CX0 2 f fd ["web","tie","back"] (xM K c):=by
 refine F.ok vA (fun vs H Q E h=>?_) (fun cdv A outer s H vs Q E hr h=>?_)
 ·obtain ⟨x,q,t,m,es,ss,ts,ps,rfl,_⟩:=h
  rfl
 ·obtain ⟨x,q,t,m,es,ss,ts,ps,rfl,hw,hz,t0,t1,hq,hway,htn,k⟩:=h
  refine ⟨_,ax (bA (i:=3) vA.nd rfl (Or.inl rfl) (bK iA (de (ah (aN) ay)) (a_ (gc (K:=K) rfl) (by rfl) T.len aS (ah (gF (K:=K) rfl T.web (pv 0)) ay))))
   (ax (ij (aN) (jS (pv 3) (pv 1) set_list))
   (ax (bA (i:=4) vA.nd rfl (Or.inl rfl) (cn (ixT (K:=K) rfl) (cn (ixT (K:=K) rfl) (gF (K:=K) rfl T.web (pv 0)) (pv 1) (fun _ _=>rfl)) (aN) (fun _ _=>rfl)))
   (ax (fk PassesOwn.never rfl (iy (K:=K) rfl (pv 2)) (bG (i:=5) vA.nd rfl (Or.inl rfl))
    (ax (ij (gq (bL gm (cn (ixT (K:=K) rfl) (cn (ixT (K:=K) rfl) (gF (K:=K) rfl T.web (pv 0)) (pv 5) (fun _ _=>rfl)) (aN) (fun _ _=>rfl)) (pv 4) (cw _)) (aN) (kW iR (aN))) (jS (pv 3) (pv 5) set_list))
   (aQ (bA (i:=4) vA.nd rfl (Or.inl rfl) (bP D_Fe hr (ah (pv 0) (ah (pv 5) (ah (pv 4) ay))))))))
   (aQ (cC (pv 3)))))),?_⟩
  refine ⟨(by show 1≤sizeLine;decide),fun l1 nl1=>?_⟩
  have s1:bx H (upd H l1 (.lst [V.int 0])):=bx.new nl1
  have e1:(upd H l1 (.lst [V.int 0])) l1=some (.lst [V.int 0]):=av
  generalize upd H l1 (.lst [V.int 0])=H1 at s1 e1
  refine ⟨_,rfl,x,m,es,rfl,hw.same s1,fun tt ys ht hp=>⟨tt,ys,rfl,.inr (SqT.of ht),l1,(ys.length:Int),_,rfl,rfl,e1,by lia,?_,?_,fun l nl=>?_⟩⟩
  ·have:=hp.len;lia
  ·have:=hp.len;exact aM (aE (by show 1*(ys.length:Int).toNat≤1000;lia))
  have hpl:=hp.len
  rw [fZ,show ((ys.length:Int)).toNat=es.length from hpl]
  have s2:=s1.next (o:=.lst ((az es.length (0:Int)).map V.int)) nl
  have e2:(upd H1 l (.lst ((az es.length (0:Int)).map V.int))) l=some (.lst ((az es.length (0:Int)).map V.int)):=av
  have nlH:H l=none:=bR s1 nl
  generalize upd H1 l (.lst ((az es.length (0:Int)).map V.int))=H2 at s2 e2
  have hln:((az es.length (0:Int)).map V.int).length=es.length:=by rw [ae,bg]
  refine ⟨_,rfl,_,rfl,l,_,t,_,rfl,rfl,e2,gP t0 (by rw [hln];exact t1),?_⟩
  rw [fO]
  have s3:bx H (upd H2 l (.lst (((az es.length (0:Int)).set t.toNat 1).map V.int))):=s2.upd nlH
  have e3:(upd H2 l (.lst (((az es.length (0:Int)).set t.toNat 1).map V.int))) l=some (.lst (((az es.length (0:Int)).set t.toNat 1).map V.int)):=av
  generalize upd H2 l (.lst (((az es.length (0:Int)).set t.toNat 1).map V.int))=H3 at s3 e3
  refine ⟨_,rfl,x,m,es,rfl,hw.same s3,fun tt3 ys3 ht3 hp3=>?_⟩
  obtain ⟨r,ar,hr2,_⟩:=fE hp3 t0 t1
  refine ⟨_,rfl,tt3,ys3,t,.ref r,rfl,rfl,SqT.of ht3,ar,r,_,1,_,rfl,rfl,hr2,rfl,?_⟩
  have rep0:∀k:Nat,(az es.length (0:Int)).getD k 0=0:=fun k=>by
   rw [aa,cq];split<;>rfl
  have hrl:(az es.length (0:Int)).length=es.length:=bg ..
  refine ⟨_,rfl,false,q,_,rfl,s3.seq hq,fun J C O hC=>fF O (fun i σ H4=>∃(fs:List Int) (v5:Option V),σ=[some (.ref x),some (.int t),some (.ref q),some (.ref l),some (.int (cur es (aX es t).2 (ts.take i))),v5]∧bx H H4∧H4 l=some (.lst (fs.map V.int))∧fs.length=es.length ∧
   (∀k:Nat,k<es.length→(fs.getD k 0=1∨fs.getD k 0=-1∨fs.getD k 0=0)∧(fs.getD k 0≠0↔(k:Int)=t∨(k:Int)∈ts.take i))∧fs.getD t.toNat 0=1 ∧
   ∀p:Int,dp p es fs es.length=(if cur es (aX es t).2 (ts.take i)=p then 1 else 0)-(if (aX es t).1=p then 1 else 0)) ⟨_,none,rfl,s3,e3,by rw [bN];exact hrl,fun k hk=>?_,by rw [eR _ _ _ _ (by lia),if_pos rfl],fun p=>?_⟩ (fun i σ H4 _ h=>?_) ?_ ?_⟩
  ·rw [eR _ _ _ _ (by lia),rep0]
   by_cases c1:t.toNat=k
   ·rw [if_pos c1];exact ⟨.inl rfl,fun _=>.inl (by lia),fun _=>(by decide)⟩
   ·rw [if_neg c1];exact ⟨.inr (.inr rfl),fun z=>absurd rfl z,fun z=>by rcases z with z | z;exact absurd (show t.toNat=k by lia) c1;simp at z⟩
  ·rw [lB p es _ _ _ (by lia),jG,rep0,if_pos (show t.toNat<es.length by lia)]
   show 0+((if (aX es t).2=p then (1:Int)-0 else 0)-(if (aX es t).1=p then (1:Int)-0 else 0))=(if (aX es t).2=p then 1 else 0)-(if (aX es t).1=p then 1 else 0)
   lia
  ·obtain ⟨fs,v5,_,s4,_⟩:=h
   exact hC _ (s4.seq hq)
  ·rintro i σ H4 hi ⟨fs,v5,rfl,s4,e4,hfl,hval,ht1,hd⟩
   obtain ⟨v,ev,gv⟩:=getD_map_int hi
   rw [ae] at hi
   have hv:=hway.sub v (aZ gv)
   have hst:=hway.step i v gv
   have hnd:=hway.tnd
   have hvt:¬v=t:=fun z=>htn (z▸hv.1)
   have hvi:¬v∈ts.take i:=fun z=>by
    rw [cA] at hnd
    obtain ⟨j,hj,ej⟩:=List.mem_take_iff_getElem.mp z
    have h1:=(List.pairwise_iff_getElem.mp hnd) j i (by lia) hi (by lia)
    have h2:ts[i]=v:=by rw [ak hi] at gv;exact Option.some.inj gv
    exact h1 (ej.trans h2.symm)
   have hvn:fs.getD v.toNat 0=0:=by
    have:=(hval v.toNat (by lia)).2
    rw [show ((v.toNat:Nat):Int)=v by lia] at this
    exact Classical.byContradiction fun z=>(this.mp z).elim hvt hvi
   try dsimp only
   rw [ev]
   obtain ⟨u,eu⟩:∃u,u=cur es (aX es t).2 (ts.take i):=⟨_,rfl⟩
   rw [←eu] at hst hd ⊢
   have fin:∀(w:Int) (H5:Hp),w=(if (aX es v).1=u then 1 else -1)→bx H H5→H5 l=some (.lst ((fs.set v.toNat w).map V.int))→∃(fs:List Int) (v5:Option V),[some (V.ref x),some (.int t),some (.ref q),some (.ref l),some (.int (far (aX es v) u)),some (.int v)]=[some (.ref x),some (.int t),some (.ref q),some (.ref l),some (.int (cur es (aX es t).2 (ts.take (i+1)))),v5]∧bx H H5∧H5 l=some (.lst (fs.map V.int))∧fs.length=es.length ∧
     (∀k:Nat,k<es.length→(fs.getD k 0=1∨fs.getD k 0=-1∨fs.getD k 0=0)∧(fs.getD k 0≠0↔(k:Int)=t∨(k:Int)∈ts.take (i+1)))∧fs.getD t.toNat 0=1 ∧
     ∀p:Int,dp p es fs es.length=(if cur es (aX es t).2 (ts.take (i+1))=p then 1 else 0)-(if (aX es t).1=p then 1 else 0):=fun w H5 ew s5 e5=>by
    have ec:cur es (aX es t).2 (ts.take (i+1))=far (aX es v) u:=by rw [take_snoc gv,nG,←eu]
    rw [ec]
    refine ⟨fs.set v.toNat w,some (.int v),rfl,s5,e5,by rw [bN];exact hfl,fun k hk=>?_,?_,fun p=>?_⟩
    ·rw [eR _ _ _ _ (by lia),take_snoc gv]
     by_cases c1:v.toNat=k
     ·rw [if_pos c1]
      refine ⟨by rw [ew];split<;>simp,fun _=>.inr (aG _ (ao.mpr (by lia))),fun _=>?_⟩
      rw [ew];split<;>decide
     ·rw [if_neg c1]
      refine ⟨(hval k hk).1,fun z=>((hval k hk).2.mp z).imp_right (aK _),fun z=>(hval k hk).2.mpr (z.imp_right fun y=>?_)⟩
      rcases aF.mp y with y | y
      ·exact y
      ·exact absurd (show v.toNat=k by have:=ao.mp y;lia) c1
    ·rw [eR _ _ _ _ (by lia),if_neg (fun z=>hvt (by lia))];exact ht1
    ·rw [lB p es _ _ _ (by lia),hvn,if_pos (show v.toNat<es.length by lia),hd p]
     show _+((if (aX es v).2=p then w-0 else 0)-(if (aX es v).1=p then w-0 else 0))=_
     unfold far
     rw [ew]
     by_cases c1:(aX es v).1=u
     ·rw [if_pos c1,if_pos c1,c1]
      by_cases c2:u=p<;>by_cases c3:(aX es v).2=p<;>simp only [c2,c3,if_true,if_false]<;>lia
     ·have c0:=hst.resolve_left c1
      rw [if_neg c1,if_neg c1,c0]
      by_cases c2:u=p<;>by_cases c3:(aX es v).1=p<;>simp only [c2,c3,if_true,if_false]<;>lia
   have hw4:=hw.same s4
   have hix:ixN (fs.map V.int).length v=some v.toNat:=gP hv.2.1 (by rw [ae];lia)
   refine ⟨_,rfl,x,m,es,rfl,hw4,fun tt5 ys5 ht5 hp5=>?_⟩
   obtain ⟨r5,ar5,hr5,_⟩:=fE hp5 hv.2.1 hv.2.2
   refine ⟨_,rfl,tt5,ys5,v,.ref r5,rfl,rfl,SqT.of ht5,ar5,r5,_,0,_,rfl,rfl,hr5,rfl,_,rfl,rfl,_,rfl,fX (fun c1=>?_) (fun c1=>?_)⟩
   ·have c1':=of_decide_eq_true c1
    injection c1' with c1'
    refine ⟨_,rfl,_,rfl,l,_,v,_,rfl,rfl,e4,hix,?_⟩
    rw [fO]
    have s5:bx H (upd H4 l (.lst ((fs.set v.toNat 1).map V.int))):=s4.upd nlH
    refine ⟨_,rfl,_,rfl,_,rfl,x,v,u,m,es,rfl,hw.same s5,hv.2.1,hv.2.2,?_⟩
    exact fin 1 _ (by rw [if_pos c1']) s5 av
   ·refine ⟨_,rfl,_,rfl,_,rfl,l,_,v,_,rfl,rfl,e4,hix,?_⟩
    rw [fO]
    have s5:bx H (upd H4 l (.lst ((fs.set v.toNat (-1)).map V.int))):=s4.upd nlH
    refine ⟨_,rfl,_,rfl,_,rfl,x,v,u,m,es,rfl,hw.same s5,hv.2.1,hv.2.2,?_⟩
    exact fin (-1) _ (by rw [if_neg (fun z=>c1 (decide_eq_true (by rw [z])))]) s5 av
  ·rintro σ H4 ⟨fs,v5,rfl,s4,e4,hfl,hval,ht1,hd⟩
   rw [ae,bZ] at hval hd
   rw [hway.cur] at hd
   exact ⟨_,rfl,k l fs H4 nlH s4 e4 ⟨hfl,hval,ht1,fun p=>by rw [hd p,Int.sub_self]⟩⟩
def xJ (K:ai) (c:Cs):Sp:=fun vs H Q E=>∃(x:Addr) (t m:Int) (es:List (Int×Int)),vs=[.ref x,.int t]∧fb K c.Web H x m es∧1≤m∧m≤20∧es.length≤40∧cV es m∧(¬(0≤t∧t<(es.length:Int))∨t∈gh es→∀H',bx H H'→E (.ref c.BadTie) none H') ∧
 (0≤t→t<(es.length:Int)→¬t∈gh es→∀l ts ps fs H',H l=none→bx H H'→H' l=some (.lst (fs.map V.int))→Way es (gh es) (aX es t).2 ts ps (aX es t).1→uQ es t ts fs→Q (.ref l) H')
theorem zN:bS ["web","tie","taken"] ["web","tie"] (aB sRo):=⟨rfl,rfl,rfl,by decide +kernel,rfl,by decide +kernel,by decide +kernel⟩
theorem uC {es:List (Int×Int)}:∀t∈gh es,0≤t∧t<(es.length:Int):=fun t ht=>⟨(ko.mp ht).1,(ko.mp ht).2.1⟩
theorem yD {f:Addr} {fd:FuncData} (F:Fun K "ring_of" "ring_of" sRo f fd) (T:Txt K mg c) (D_Ti:gT P w K mg base 1 "check_tie" ["web","tie"] (xF K c.Web c.BadTie)) (D_Fr:Def P w K mg base 2 "forest" ["web"] (wU K c)) (D_Wb:Def P w K mg base 3 "way_back" ["web","tie","some"] (xE K c)) (D_Rg:Def P w K mg base 2 "ring_flow" ["web","tie","back"] (xM K c)):fm P w K mg base (CXE P w) 4 f fd ["web","tie"] (xJ K c):=by
 refine F.okE zN (fun vs H Q E h=>?_) (fun cdv A outer s H vs Q E hr h=>?_)
 ·obtain ⟨x,t,m,es,rfl,_⟩:=h
  rfl
 ·obtain ⟨x,t,m,es,rfl,hw,m1,m2,hz,hE,k1,k2⟩:=h
  refine ⟨_,ax (dk (fH D_Ti hr rfl rfl (ah (pv 0) (ah (pv 1) ay))))
   (ax (bA (i:=2) zN.nd rfl (Or.inl rfl) (bP D_Fr hr (ah (pv 0) ay)))
   (ax (dZ (bL (uj (K:=K) rfl) (pv 1) (pv 2) (by with_unfolding_all rfl))
    (aQ (fP rfl rfl (by rfl) T.mBadTie T.xBadTie (ah gS ay))) (cL))
   (aQ (cC (bP D_Rg hr (ah (pv 0) (ah (pv 1) (ah (bP D_Wb hr (ah (pv 0) (ah (pv 1) (ah (pv 2) ay)))) ay)))))))),?_⟩
  refine ⟨_,rfl,_,rfl,x,t,m,es,rfl,hw,fun h0 h1=>?_,fun z=>k1 (.inl z) H (bx.refl _)⟩
  refine ⟨_,rfl,x,m,es,rfl,hw,m1,m2,hz,hE,fun tk H1 ntk s1 e1=>?_⟩
  have hfl:(gh es).length≤es.length:=jB es es.length
  refine ⟨_,rfl,_,rfl,tk,_,rfl,.inl (SqL.of e1),rfl,fQ _,_,rfl,?_⟩
  rw [if_neg aV,gy,show ((gh es).any (·==t))=ie (gh es) t from rfl]
  by_cases hm:t∈gh es
  ·rw [eX.mpr hm]
   exact ft ⟨(by show 1≤sizeLine;decide),k1 (.inr hm) H1 s1⟩
  ·rw [show ie (gh es) t=false from Bool.eq_false_iff.mpr fun z=>hm (eX.mp z)]
   refine gb ?_
   refine ⟨_,rfl,_,rfl,_,rfl,_,rfl,_,rfl,x,tk,t,m,es,gh es,rfl,hw.same s1,h0,h1,SqL.of e1,uC,by lia,m2,hE,fun hn=>?_,fun l2 ts ps H2 s2 nl2 e2 hway=>?_⟩
   ·exfalso
    apply hn
    have:=qk es es.length (aO _) (a:=(aX es t).2) (b:=(aX es t).1) (by
     rw [bZ]
     refine Cn.eit ?_
     unfold aX
     rw [aa,ak (show t.toNat<es.length by lia)];exact cf _)
    exact this
   ·exact ⟨x,l2,t,m,es,gh es,ts,ps,rfl,hw.same (s1.trans s2),hz,h0,h1,SqL.of e2,hway,hm,fun l fs H3 nl s3 e3 hR=>k2 h0 h1 hm l ts ps fs H3 (bR (s1.trans s2) nl) ((s1.trans s2).trans s3) e3 hway hR⟩
def wX (K:ai) (cR:Addr):Sp:=fun vs H Q E=>∃k:Int,vs=[.int k]∧(2≤k→k≤10^20→Q .non H)∧(¬(2≤k∧k≤10^20)→E (.ref cR) none H)
theorem AJ:bS ["k"] ["k"] (aB sCr):=⟨rfl,rfl,rfl,by decide +kernel,rfl,by decide +kernel,by decide +kernel⟩
theorem zc {f:Addr} {fd:FuncData} (F:Fun K "check_rest" "check_rest" sCr f fd) (T:Txt K mg c):fm P w K mg base (CXE P w) 1 f fd ["k"] (wX K c.BadRest):=by
 refine F.okE AJ (fun vs H Q E h=>?_) (fun cdv A outer s H vs Q E hr h=>?_)
 ·obtain ⟨k,rfl,_⟩:=h
  rfl
 ·obtain ⟨k,rfl,k1,k2⟩:=h
  refine ⟨_,aQ (dZ (PW.pt (jN (bL iB (pv 0) (aN) (cw _)) (iV (bL iO (pv 0) (bK sP (aN) (aN)) (cw _)))))
    (aQ (fP rfl rfl (by rfl) T.mBadRest T.xBadRest (ah gS ay))) (cL)),?_⟩
  refine ⟨_,rfl,_,_,rfl,rfl,_,rfl,?_⟩
  by_cases c1:k<2
  ·rw [decide_eq_true c1]
   exact ft (ft ⟨(by show 1≤sizeLine;decide),k2 (by lia)⟩)
  ·rw [decide_eq_false c1]
   refine gb ⟨_,rfl,_,_,rfl,rfl,⟨by decide,by decide,by decide⟩,_,_,rfl,rfl,_,rfl,?_⟩
   have e:(10:Int)^(20:Int).toNat=10^20:=rfl
   by_cases c2:k>(10:Int)^(20:Int).toNat
   ·rw [decide_eq_true c2]
    rw [e] at c2
    exact ft ⟨(by show 1≤sizeLine;decide),k2 (by lia)⟩
   ·rw [decide_eq_false c2]
    rw [e] at c2
    exact gb (k1 (by lia) (by lia))
def xI (K:ai) (cR:Addr):Sp:=fun vs H Q E=>∃(f:Addr) (b:Bool) (k:Int) (fs:List Int),vs=[.ref f,.int k]∧SqB b K H f (fs.map V.int)∧fs.length≤900∧(¬(2≤k∧k≤10^20)→E (.ref cR) none H) ∧
 (2≤k→k≤10^20→∀l H',H l=none→bx H H'→H' l=some (.lst ((fs.map (·%k)).map V.int))→Q (.ref l) H')
theorem AA:bS ["amounts","k"] ["amounts","k"] (aB sRs):=⟨rfl,rfl,rfl,by decide +kernel,rfl,by decide +kernel,by decide +kernel⟩
theorem yC {f:Addr} {fd:FuncData} (F:Fun K "rests_of" "rests_of" sRs f fd) (T:Txt K mg c) (D_Cr:gT P w K mg base 1 "check_rest" ["k"] (wX K c.BadRest)):fm P w K mg base (CXE P w) 2 f fd ["amounts","k"] (xI K c.BadRest):=by
 refine F.okE AA (fun vs H Q E h=>?_) (fun cdv A outer s H vs Q E hr h=>?_)
 ·obtain ⟨f,b,k,fs,rfl,_⟩:=h
  rfl
 ·obtain ⟨f,b,k,fs,rfl,hf,hz,k1,k2⟩:=h
  refine ⟨_,ax (dk (fH D_Cr hr rfl rfl (ah (pv 1) ay)))
   (aQ (cC (fG (N':=["amount","k"]) (nl:=1) (js:=[1]) rfl (.of (osc:=aB sRs) (N:=["amounts","k"]) (by decide +kernel) rfl rfl) (f_ (K:=K) rfl (pv 0))
    (fun _ _ _ _=>bG (i:=0) (show (["amount","k"]:List Str).Nodup by decide +kernel) rfl (Or.inl rfl)) (fun _ _ _ _=>dG)
    (fun _ _ _ _=>bK dX (pv 0) (pv 1))))),?_⟩
  refine ⟨_,rfl,k,rfl,fun h0 h1=>?_,fun z=>k1 z⟩
  refine ⟨_,rfl,f,_,rfl,hf.or,fun J C O hC=>fD O (fun i ys H2=>H2=H∧ys=((fs.map (·%k)).take i).map V.int) (by rw [ae];exact aM (aE (by lia))) ⟨rfl,rfl⟩ ?_ ?_ ?_⟩
  ·rintro i ys H2 hi ⟨rfl,rfl⟩
   exact ⟨hC _ (bx.refl _),by rw [ae,aD];lia⟩
  ·rintro i ys H hi ⟨rfl,rfl⟩
   obtain ⟨v,ev,gv⟩:=getD_map_int hi
   rw [ae] at hi
   have hv:(fs.map (·%k))[i]?=some (v%k):=by rw [br,gv];rfl
   try dsimp only
   rw [ev]
   refine ⟨dQ rfl,ft ⟨_,rfl,_,rfl,_,_,rfl,rfl,(by show 0<k;lia),aE (by rw [ae,aD];lia),_,by rw [ae];lia,rfl,by rw [ae];lia,rfl,?_⟩⟩
   rw [take_snoc hv,aH];rfl
  ·rintro ys H ⟨rfl,rfl⟩ l nl
   rw [ae,bh (by rw [ae];lia)]
   exact k2 h0 h1 l _ nl (bx.new nl) av
theorem uN {m k:Int} {es:List (Int×Int)} {fs zs:List Int} (hz:zs.length=m.toNat) (hd:∀p:Nat,p<m.toNat→zs.getD p 0=dp p es fs es.length) (ha:(fs.all fun r=>decide (0≤r)&&decide (r<k))=true):(!((zs.map (·%k)).map V.int).any tv)=isR m es fs k:=by
 unfold isR
 rw [ha,du,cQ,decide_eq_true_iff,Bool.not_eq_true',List.any_eq_false]
 constructor
 ·intro h p hp
  rw [←hd p hp,fJ (by lia)]
  have:=h (.int (zs[p]%k)) (List.mem_map_of_mem (List.mem_map_of_mem (f:=(·%k)) (cf (by lia))))
  simpa [tv] using this
 ·intro h x hx
  obtain ⟨z,hzz,rfl⟩:=b_.mp hx
  obtain ⟨y,hy,rfl⟩:=b_.mp hzz
  obtain ⟨i,hi,rfl⟩:=bV.mp hy
  have e:=hd i (by lia)
  rw [fJ hi] at e
  have e':zs[i]%k=0:=by rw [e];exact h i (by lia)
  simp [tv,e']
def wQ (K:ai) (c:Cs):Sp:=fun vs H Q E=>∃(x f:Addr) (b:Bool) (m k:Int) (es:List (Int×Int)) (fs:List Int),vs=[.ref x,.ref f,.int k]∧fb K c.Web H x m es∧SqB b K H f (fs.map V.int)∧fs.length≤900∧1≤m∧m≤20∧es.length≤40∧cV es m ∧
 (¬(2≤k∧k≤10^20)→E (.ref c.BadRest) none H)∧(2≤k→k≤10^20→fs.length≠es.length→E (.ref c.BadFlow) none H)∧(2≤k→k≤10^20→fs.length=es.length→∀H',bx H H'→Q (.bl (isR m es fs k)) H')
theorem AG:bS ["web","rests","k"] ["web","rests","k"] (aB sIr):=⟨rfl,rfl,rfl,by decide +kernel,rfl,by decide +kernel,by decide +kernel⟩
theorem kF {α:Type} (g:α→Bool):∀l:List α,(l.map fun a=>V.bl (g a)).all oN=true∧(l.map fun a=>V.bl (g a)).all tv=l.all g
 | []=>⟨rfl,rfl⟩
 | a::l=>by
  rw [bf,c_,c_,c_,(kF g l).1,(kF g l).2]
  exact ⟨rfl,rfl⟩
theorem yQ {f:Addr} {fd:FuncData} (F:Fun K "is_rest_flow" "is_rest_flow" sIr f fd) (T:Txt K mg c) (D_Cr:gT P w K mg base 1 "check_rest" ["k"] (wX K c.BadRest)) (D_Am:gT P w K mg base 1 "check_amounts" ["web","flow"] (wY K c.Web c.BadFlow)) (D_Rs:gT P w K mg base 2 "rests_of" ["amounts","k"] (xI K c.BadRest)) (D_Gs:Def P w K mg base 1 "gains" ["web","flow"] (xV K c.Web)):fm P w K mg base (CXE P w) 3 f fd ["web","rests","k"] (wQ K c):=by
 refine F.okE AG (fun vs H Q E h=>?_) (fun cdv A outer s H vs Q E hr h=>?_)
 ·obtain ⟨x,f,b,m,k,es,fs,rfl,_⟩:=h
  rfl
 ·obtain ⟨x,f,b,m,k,es,fs,rfl,hw,hf,hfz,m1,m2,hz,hE,k1,k2,k3⟩:=h
  refine ⟨_,ax (dk (fH D_Cr hr rfl rfl (ah (pv 2) ay)))
   (ax (dk (fH D_Am hr rfl rfl (ah (pv 0) (ah (pv 1) ay))))
   (ax (dZ (ig (gX (a_ (va (K:=K) rfl rfl) (by rfl) T.all dH (ah (fG (N':=["rest","k"]) (nl:=1) (js:=[2]) rfl (.of (osc:=aB sIr) (N:=["web","rests","k"]) (by decide +kernel) rfl rfl) (f_ (K:=K) rfl (pv 1))
    (fun _ _ _ _=>bG (i:=0) (show (["rest","k"]:List Str).Nodup by decide +kernel) rfl (Or.inl rfl)) (fun _ _ _ _=>dG)
    (fun _ _ _ _=>mY pJ iB (aN) (pv 0) (pv 1))) ay))))
    (aQ (cC (jO))) (cL))
   (aQ (cC (pD (a_ (wD (K:=K) rfl rfl) (by rfl) T.any PyProof.Rows.boot_any (ah (fH D_Rs hr rfl rfl (ah (bP D_Gs hr (ah (pv 0) (ah (pv 1) ay))) (ah (pv 2) ay))) ay))))))),?_⟩
  refine ⟨_,rfl,k,rfl,fun h0 h1=>?_,fun z=>k1 z⟩
  refine ⟨_,rfl,_,rfl,x,f,m,es,_,rfl,hw,hf.or,fun e=>?_,fun z=>k2 h0 h1 (by rwa [ae] at z)⟩
  rw [ae] at e
  refine ⟨_,rfl,f,_,rfl,hf.or,fun J C O hC=>fD O (fun i ys H2=>H2=H∧ys=(fs.take i).map fun r=>V.bl (decide (0≤r)&&decide (r<k))) (by rw [ae];exact aM (aE (by lia))) ⟨rfl,rfl⟩ ?_ ?_ ?_⟩
  ·rintro i ys H2 hi ⟨rfl,rfl⟩
   exact ⟨hC _ (bx.refl _),by rw [ae,aD];lia⟩
  ·rintro i ys H hi ⟨rfl,rfl⟩
   obtain ⟨v,ev,gv⟩:=getD_map_int hi
   rw [ae] at hi
   try dsimp only
   rw [ev]
   have hl2:((fs.take i).map fun r=>V.bl (decide (0≤r)&&decide (r<k))).length<sizeLine:=aE (by rw [ae,aD];lia)
   have fin:∀b,b=(decide (0≤v)&&decide (v<k))→((fs.take i).map fun r=>V.bl (decide (0≤r)&&decide (r<k)))++[V.bl b]=(fs.take (i+1)).map fun r=>V.bl (decide (0≤r)&&decide (r<k)):=fun b e=>by
    rw [take_snoc gv,aH,e];rfl
   refine ⟨dQ rfl,ft ?_⟩
   refine ⟨_,rfl,_,_,rfl,rfl,_,rfl,fX (fun c=>?_) (fun c=>?_)⟩
   ·refine ⟨_,rfl,_,_,rfl,rfl,hl2,_,by rw [ae];lia,rfl,by rw [ae];lia,rfl,fin _ ?_⟩
    rw [c,du]
   ·refine ⟨hl2,_,by rw [ae];lia,rfl,by rw [ae];lia,rfl,fin _ ?_⟩
    rw [Bool.eq_false_iff.mpr c,cX]
  ·rintro ys H ⟨rfl,rfl⟩ l nl
   rw [ae,bZ]
   refine ⟨l,_,rfl,.inl (SqL.of av),(kF _ _).1,_,rfl,?_⟩
   rw [(kF _ _).2]
   have s1:=bx.new (o:=.lst (fs.map fun r=>V.bl (decide (0≤r)&&decide (r<k)))) nl
   generalize upd H l (.lst (fs.map fun r=>V.bl (decide (0≤r)&&decide (r<k))))=H1 at s1
   cases ha:fs.all fun r=>decide (0≤r)&&decide (r<k) with
   | false =>
    have e0:isR m es fs k=false:=by unfold isR;rw [ha,cX]
    have:=k3 h0 h1 e H1 s1
    rw [e0] at this
    exact ft this
   | true =>
    refine gb ?_
    refine ⟨_,rfl,_,rfl,x,f,b,m,es,fs,rfl,hw.same s1,hf.same s1,e,m1,m2,hz,hE,fun lg H2 zs e2 hzl hd s2=>?_⟩
    refine ⟨_,rfl,lg,false,k,zs,rfl,SqL.of e2,by lia,fun z=>absurd ⟨h0,h1⟩ z,fun _ _ l3 H3 nl3 s3 e3=>⟨l3,_,rfl,.inl (SqL.of e3),?_,_,rfl,?_⟩⟩
    ·rw [cJ]
     intro y hy
     obtain ⟨z,_,rfl⟩:=b_.mp hy
     rfl
    ·rw [uN hzl hd ha]
     exact k3 h0 h1 e H3 ((s1.trans s2).trans s3)
def xW (K:ai) (c:Cs):Sp:=fun vs H Q E=>∃(x q:Addr) (m:Int) (es:List (Int×Int)) (ws:List Int),vs=[.ref x,.ref q]∧fb K c.Web H x m es∧SqL K H q (ws.map V.int)∧1≤m∧m≤20∧es.length≤40∧cV es m∧(∀v∈ws,v.natAbs<2^200) ∧
 (ws.length≠(fre es).length→∀H',bx H H'→E (.ref c.BadFlow) none H')∧(ws.length=(fre es).length→∀l fs H',H l=none→bx H H'→H' l=some (.lst (fs.map V.int))→FW es ws fs→Q (.ref l) H')
theorem uW:bS ["web","values","free","told","tie","value"] ["web","values"] (aB sFz):=⟨rfl,rfl,rfl,by decide +kernel,rfl,by decide +kernel,by decide +kernel⟩
theorem ph {es:List (Int×Int)} {t:Int} {ts ps fs:List Int} {a b:Int} (hw:Way es (gh es) a ts ps b) (hR:uQ es t ts fs):∀k:Nat,k<es.length→¬(k:Int)∈gh es→fs.getD k 0=if (k:Int)=t then 1 else 0:=fun k hk hn=>by
 by_cases c1:(k:Int)=t
 ·rw [if_pos c1]
  have:=hR.2.2.1
  rwa [show t.toNat=k by lia] at this
 ·rw [if_neg c1]
  refine Classical.byContradiction fun z=>?_
  rcases (hR.2.1 k hk).2.mp z with y | y
  ·exact c1 y
  ·exact hn (hw.sub _ y).1
theorem ql {es:List (Int×Int)} {t:Int} (h:t∈fre es):¬t∈gh es:=fun z=>by
 have h1:=(bJ.mp h).2
 rw [show (gh es).any (·==t)=ie (gh es) t from rfl,eX.mpr z] at h1
 cases h1
theorem yS {f:Addr} {fd:FuncData} (F:Fun K "filled_whole" "filled_whole" sFz f fd) (T:Txt K mg c) (D_Ft:Def P w K mg base 3 "free_ties" ["web"] (wR K c)) (D_Ad:gT P w K mg base 1 "added" ["one","two"] (vz K c.BadFlow)) (D_Tm:Def P w K mg base 1 "times" ["number","flow"] (vy K)) (D_Ro:gT P w K mg base 4 "ring_of" ["web","tie"] (xJ K c)):fm P w K mg base (CXE P w) 5 f fd ["web","values"] (xW K c):=by
 refine F.okE uW (fun vs H Q E h=>?_) (fun cdv A outer s H vs Q E hr h=>?_)
 ·obtain ⟨x,q,m,es,ws,rfl,_⟩:=h
  rfl
 ·obtain ⟨x,q,m,es,ws,rfl,hw,hq,m1,m2,hz,hE,hb,k1,k2⟩:=h
  refine ⟨_,ax (bA (i:=2) uW.nd rfl (Or.inl rfl) (bP D_Ft hr (ah (pv 0) ay)))
   (ax (dZ (bL l_ (a_ (gc (K:=K) rfl) (by rfl) T.len aS (ah (pv 1) ay)) (a_ (gc (K:=K) rfl) (by rfl) T.len aS (ah (pv 2) ay)) (cw _))
    (aQ (fP rfl rfl (by rfl) T.mBadFlow T.xBadFlow (ah gS ay))) (cL))
   (ax (bA (i:=3) uW.nd rfl (Or.inl rfl) (bK iA (de (ah (aN) ay)) (a_ (gc (K:=K) rfl) (by rfl) T.len aS (ah (gF (K:=K) rfl T.web (pv 0)) ay))))
   (ax (lV uK rfl (kS (K:=K) rfl rfl T.zip (ah (pv 2) (ah (pv 1) ay))) (jo (K:=K) (n:=2) rfl rfl (dh (bG (i:=4) uW.nd rfl (Or.inl rfl)) (dh (bG (i:=5) uW.nd rfl (Or.inl rfl)) (fW))) rfl)
    (aQ (bA (i:=3) uW.nd rfl (Or.inl rfl) (fH D_Ad hr rfl rfl (ah (pv 3) (ah (bP D_Tm hr (ah (pv 5) (ah (fH D_Ro hr rfl rfl (ah (pv 0) (ah (pv 4) ay))) ay))) ay))))))
   (aQ (cC (pv 3)))))),?_⟩
  refine ⟨_,rfl,x,m,es,rfl,hw,m1,m2,hz,hE,fun lf H1 nlf s1 e1=>?_⟩
  have hfl:=qm es
  refine ⟨_,rfl,q,_,rfl,.inl (s1.seq hq),_,rfl,lf,_,rfl,.inl (SqL.of e1),rfl,_,rfl,?_⟩
  by_cases el:ws.length=(fre es).length
  ·rw [decide_eq_true (show V.int ((ws.map V.int).length:Int)=V.int (((fre es).map V.int).length:Int) by rw [ae,ae,el])]
   refine gb ?_
   refine ⟨(by show 1≤sizeLine;decide),fun l1 nl1=>?_⟩
   have s2:=s1.next (o:=.lst [V.int 0]) nl1
   have e2:(upd H1 l1 (.lst [V.int 0])) l1=some (.lst [V.int 0]):=av
   have f2:=bx.new (o:=.lst [V.int 0]) nl1 _ _ e1
   generalize upd H1 l1 (.lst [V.int 0])=H2 at s2 e2 f2
   refine ⟨_,rfl,x,m,es,rfl,hw.same s2,fun tt ys ht hp=>⟨tt,ys,rfl,.inr (SqT.of ht),l1,(ys.length:Int),_,rfl,rfl,e2,by lia,?_,?_,fun l nl=>?_⟩⟩
   ·have:=hp.len;lia
   ·have:=hp.len;exact aM (aE (by show 1*(ys.length:Int).toNat≤1000;lia))
   have hpl:=hp.len
   rw [fZ,show ((ys.length:Int)).toNat=es.length from hpl]
   have s3:=s2.next (o:=.lst ((az es.length (0:Int)).map V.int)) nl
   have e3:(upd H2 l (.lst ((az es.length (0:Int)).map V.int))) l=some (.lst ((az es.length (0:Int)).map V.int)):=av
   have f3:=bx.new (o:=.lst ((az es.length (0:Int)).map V.int)) nl _ _ f2
   have nlH:H l=none:=bR s2 nl
   generalize upd H2 l (.lst ((az es.length (0:Int)).map V.int))=H3 at s3 e3 f3
   have rep0:∀k:Nat,(az es.length (0:Int)).getD k 0=0:=fun k=>by
    rw [aa,cq];split<;>rfl
   have hn:min ((fre es).map V.int).length (ws.map V.int).length=(fre es).length:=by rw [ae,ae,el];exact eM _
   refine ⟨_,rfl,_,rfl,false,false,lf,q,_,_,rfl,SqL.of f3,s3.seq hq,fun J C O hC=>?_⟩
   refine jC O (fun i σ H4=>∃(lt:Addr) (fs:List Int) (v4 v5:Option V),σ=[some (.ref x),some (.ref q),some (.ref lf),some (.ref lt),v4,v5]∧bx H3 H4∧H lt=none∧H4 lt=some (.lst (fs.map V.int))∧fs.length=es.length∧(∀p:Int,dp p es fs es.length=0)∧∀j,j<(fre es).length→fs.getD ((fre es).getD j 0).toNat 0=if j<i then ws.getD j 0 else 0) ⟨l,_,none,none,rfl,bx.refl _,nlH,e3,bg ..,fun p=>jG p es es.length es.length,fun j hj=>by rw [rep0,if_neg (bM _)]⟩ (fun i σ H4 _ h=>?_) ?_ ?_
   ·obtain ⟨lt,fs,v4,v5,_,s4,_⟩:=h
    exact hC _ (SqL.of (s4 _ _ f3)) ((s3.trans s4).seq hq)
   ·rintro i σ H4 p hi ⟨lt,fs,v4,v5,rfl,s4,nlt,e4,hfl4,hd4,hv4⟩ hp4
    rw [hn] at hi
    have hmem:(fre es).getD i 0∈fre es:=by rw [aa,ak hi];exact cf hi
    have hwm:ws.getD i 0∈ws:=by rw [aa,ak (show i<ws.length by lia)];exact cf _
    have hti:=kn hmem
    have hnf:=ql hmem
    try dsimp only
    rw [getD_ints hi,getD_ints (show i<ws.length by lia)]
    obtain ⟨t,et⟩:∃t,t=(fre es).getD i 0:=⟨_,rfl⟩
    obtain ⟨v,ev⟩:∃v,v=ws.getD i 0:=⟨_,rfl⟩
    rw [←et] at hmem hti hnf ⊢
    rw [←ev] at hwm ⊢
    have s5:=bx.new (o:=.tup [.int t,.int v]) hp4
    have t5:(upd H4 p (.tup [.int t,.int v])) p=some (.tup [.int t,.int v]):=av
    refine ⟨p,_,rfl,SqT.of t5,rfl,_,_,rfl,_,_,rfl,rfl,?_⟩
    generalize upd H4 p (.tup [.int t,.int v])=H5 at s5 t5
    have e5:=s5 _ _ e4
    have s35:=(s3.trans s4).trans s5
    refine ⟨_,rfl,_,rfl,_,rfl,_,rfl,x,t,m,es,rfl,hw.same s35,m1,m2,hz,hE,fun z=>?_,fun _ _ _ lr ts ps rs H6 nlr s6 r6 hway hR=>?_⟩
    ·rcases z with z | z
     ·exact absurd ⟨hti.1,hti.2⟩ z
     ·exact absurd z hnf
    have hrl:=hR.1
    refine ⟨lr,false,v,rs,rfl,SqL.of r6,by lia,hb v hwm,fun y hy=>?_,fun lm H7 nlm s7 e7=>?_⟩
    ·obtain ⟨j,hj,rfl⟩:=bV.mp hy
     have:=(hR.2.1 j (by lia)).1
     rw [aa,ak hj] at this
     have h3:rs[j]=1∨rs[j]=-1∨rs[j]=0:=this
     rcases h3 with z | z | z<;>rw [z]<;>decide
    have s57:=s6.trans s7
    have hml:(rs.map (v*·)).length=rs.length:=ae ..
    refine ⟨lt,lm,false,false,fs,rs.map (v*·),rfl,SqL.of (s57 _ _ e5),SqL.of e7,by lia,fun z=>absurd (by lia) z,fun _ la H8 nla s8 e8=>?_⟩
    have hzl:fs.length=(rs.map (v*·)).length:=by lia
    refine ⟨la,_,_,_,rfl,((s4.trans s5).trans s57).trans s8,bR (s35.trans s57) nla,e8,by rw [dU];lia,fun p=>by rw [jF p es _ _ hzl,jV,hd4 p,hR.2.2.2 p,cW];rfl,fun j hj=>?_⟩
    have hmj:(fre es).getD j 0∈fre es:=by rw [aa,ak hj];exact cf hj
    have htj:=kn hmj
    have hrj:=ph hway hR ((fre es).getD j 0).toNat (by lia) (by rw [show ((((fre es).getD j 0).toNat:Nat):Int)=(fre es).getD j 0 by lia];exact ql hmj)
    rw [show ((((fre es).getD j 0).toNat:Nat):Int)=(fre es).getD j 0 by lia] at hrj
    rw [gR _ _ hzl,gH,hv4 j hj,hrj]
    by_cases c1:j=i
    ·subst c1
     rw [if_neg (cS _),if_pos (bY _),if_pos et.symm,←ev];lia
    ·have hne:¬(fre es).getD j 0=t:=fun z=>by
      rw [et,aa,ak hj,aa,ak hi] at z
      have hnd:=wg es
      rw [cA] at hnd
      have hp:=List.pairwise_iff_getElem.mp hnd
      have z':(fre es)[j]=(fre es)[i]:=z
      by_cases c2:j<i
      ·exact hp j i hj hi c2 z'
      ·exact hp i j hi hj (by lia) z'.symm
     rw [if_neg hne,cW,Int.add_zero]
     by_cases c2:j<i
     ·rw [if_pos c2,if_pos (by lia)]
     ·rw [if_neg c2,if_neg (by lia)]
   ·rintro σ H4 ⟨lt,fs,v4,v5,rfl,s4,nlt,e4,hfl4,hd4,hv4⟩
    rw [hn] at hv4
    exact ⟨_,rfl,k2 el lt fs H4 nlt (s3.trans s4) e4 ⟨hfl4,hd4,fun j hj=>by rw [hv4 j hj,if_pos hj]⟩⟩
  ·rw [decide_eq_false (show ¬V.int ((ws.map V.int).length:Int)=V.int (((fre es).map V.int).length:Int) by rw [ae,ae];intro z;injection z with z;lia)]
   exact ft ⟨(by show 1≤sizeLine;decide),k1 el H1 s1⟩
def xO (K:ai) (c:Cs):Sp:=fun vs H Q _=>∃(x f:Addr) (b:Bool) (m k:Int) (es:List (Int×Int)) (fs:List Int),vs=[.ref x,.ref f,.int k]∧fb K c.Web H x m es∧SqB b K H f (fs.map V.int)∧fs.length=es.length∧es.length≤40∧1≤m∧m≤20∧cV es m∧2≤k∧k≤10^20∧(∀p:Int,dp p es fs es.length=0)∧(∀t,t<es.length→((fs.getD t 0).natAbs:Int)≤2^140) ∧
 ∀l gs H',H l=none→bx H H'→H' l=some (.lst (gs.map V.int))→RdF es (fs.map (·%k)) k gs→RdR m es fs k gs→Q (.ref l) H'
theorem yj:bS ["web","flow","k","lows","highs"] ["web","flow","k"] (aB sRd):=⟨rfl,rfl,rfl,by decide +kernel,rfl,by decide +kernel,by decide +kernel⟩
theorem yH {f:Addr} {fd:FuncData} (F:Fun K "reduced" "reduced" sRd f fd) (T:Txt K mg c) (D_Ad:gT P w K mg base 1 "added" ["one","two"] (vz K c.BadFlow)) (D_Tm:Def P w K mg base 1 "times" ["number","flow"] (vy K)) (D_Bt:Def P w K mg base 3 "between" ["web","lows","highs"] (yg K c)):fm P w K mg base CX0 4 f fd ["web","flow","k"] (xO K c):=by
 refine F.ok yj (fun vs H Q E h=>?_) (fun cdv A outer s H vs Q E hr h=>?_)
 ·obtain ⟨x,f,b,m,k,es,fs,rfl,_⟩:=h
  rfl
 ·obtain ⟨x,f,b,m,k,es,fs,rfl,hw,hf,hl,hz,m1,m2,hE,h0,h1,hd,hB,kk⟩:=h
  refine ⟨_,ax (hX (i:=3) (N':=["amount","k"]) (nl:=1) (js:=[2]) rfl (.of (osc:=aB sRd) (N:=["web","flow","k","lows","highs"]) (by decide +kernel) rfl rfl) (f_ (K:=K) rfl (pv 1))
    (fun _ _ _ _=>bG (i:=0) (show (["amount","k"]:List Str).Nodup by decide +kernel) rfl (Or.inl rfl)) (fun _ _ _ _=>dG)
    (fun _ _ _ _=>bK m_ (pv 0) (pv 1)) yj.nd rfl rfl)
   (ax (hX (i:=4) (N':=["amount","k"]) (nl:=1) (js:=[2]) rfl (.of (osc:=aB sRd) (N:=["web","flow","k","lows","highs"]) (by decide +kernel) rfl rfl) (f_ (K:=K) rfl (pv 1))
    (fun _ _ _ _=>bG (i:=0) (show (["amount","k"]:List Str).Nodup by decide +kernel) rfl (Or.inl rfl)) (fun _ _ _ _=>dG)
    (fun _ _ _ _=>kW iR (bK m_ (kW iR (pv 0)) (pv 1))) yj.nd rfl rfl)
   (aQ (cC (bP D_Ad.calm hr (ah (pv 1) (ah (bP D_Tm hr (ah (kW iR (pv 2)) (ah (cn (ixT (K:=K) rfl) (bP D_Bt hr (ah (pv 0) (ah (pv 3) (ah (pv 4) ay)))) (aN) (fun _ _=>rfl)) ay))) ay)))))),?_⟩
  have hfm:(fs.map V.int).length=fs.length:=ae ..
  refine ⟨_,rfl,f,_,rfl,hf.or,fun J C O hC=>fD O (fun i ys H2=>H2=H∧ys=((lwK fs k).take i).map V.int) (by rw [hfm];exact aM (aE (by lia))) ⟨rfl,rfl⟩ ?_ ?_ ?_⟩
  ·rintro i ys H2 hi ⟨rfl,rfl⟩
   exact ⟨hC _ (bx.refl _),by rw [ae,aD];lia⟩
  ·rintro i ys H2 hi ⟨rfl,rfl⟩
   obtain ⟨v,ev,gv⟩:=getD_map_int hi
   rw [hfm] at hi
   have hv:(lwK fs k)[i]?=some (v/k):=by unfold lwK;rw [br,gv];rfl
   try dsimp only
   rw [ev]
   refine ⟨dQ rfl,ft ⟨_,rfl,_,rfl,_,_,rfl,rfl,⟨by lia,by lia⟩,aE (by rw [ae,aD];lia),_,by lia,rfl,by lia,rfl,?_⟩⟩
   rw [take_snoc hv,aH];rfl
  rintro ys H2 ⟨rfl,rfl⟩ lp nlp
  rw [hfm,bh (by unfold lwK;rw [ae];lia)]
  have s1:=bx.new (o:=.lst ((lwK fs k).map V.int)) nlp
  have e1:(upd H2 lp (.lst ((lwK fs k).map V.int))) lp=some (.lst ((lwK fs k).map V.int)):=av
  generalize upd H2 lp (.lst ((lwK fs k).map V.int))=H1 at s1 e1
  refine ⟨_,rfl,f,_,rfl,(hf.same s1).or,fun J C O hC=>fD O (fun i ys H3=>H3=H1∧ys=((hgK fs k).take i).map V.int) (by rw [hfm];exact aM (aE (by lia))) ⟨rfl,rfl⟩ ?_ ?_ ?_⟩
  ·rintro i ys H3 hi ⟨rfl,rfl⟩
   exact ⟨hC _ (bx.refl _),by rw [ae,aD];lia⟩
  ·rintro i ys H3 hi ⟨rfl,rfl⟩
   obtain ⟨v,ev,gv⟩:=getD_map_int hi
   rw [hfm] at hi
   have hv:(hgK fs k)[i]?=some (-(-v/k)):=by unfold hgK;rw [br,gv];rfl
   try dsimp only
   rw [ev]
   refine ⟨dQ rfl,ft ⟨_,rfl,_,rfl,_,rfl,_,_,rfl,rfl,⟨by lia,by lia⟩,_,rfl,aE (by rw [ae,aD];lia),_,by lia,rfl,by lia,rfl,?_⟩⟩
   rw [take_snoc hv,aH];rfl
  rintro ys H3 ⟨rfl,rfl⟩ hp nhp
  rw [hfm,bh (by unfold hgK;rw [ae];lia)]
  have s2:=s1.next (o:=.lst ((hgK fs k).map V.int)) nhp
  have e2:(upd H3 hp (.lst ((hgK fs k).map V.int))) hp=some (.lst ((hgK fs k).map V.int)):=av
  have e2l:=bx.new (o:=.lst ((hgK fs k).map V.int)) nhp _ _ e1
  generalize upd H3 hp (.lst ((hgK fs k).map V.int))=H4 at s2 e2 e2l
  have hk0:0<k:=by lia
  have bnd:∀i,i<es.length→-2^150≤(lwK fs k).getD i 0∧(hgK fs k).getD i 0≤2^150:=fun i hi=>by
   have:=rG (k:=k) (B:=2^140) (by lia) (by decide) (show i<fs.length by lia) (hB i hi)
   exact ⟨Int.le_trans (by decide) this.1,Int.le_trans this.2 (by decide)⟩
  refine ⟨_,rfl,_,rfl,_,rfl,_,rfl,_,rfl,_,rfl,x,lp,hp,m,es,lwK fs k,hgK fs k,rfl,hw.same s2,SqL.of e2l,SqL.of e2,by unfold lwK;rw [ae];exact hl,by unfold hgK;rw [ae];exact hl,hz,m1,m2,hE,fun i hi=>(vV hk0 (show i<fs.length by lia)).1,bnd,fun t l as H5 nl s5 t5 l5 BF BR=>?_,fun t l ps R H5 nl s5 t5 l5 eps hs BR=>?_⟩
  ·have hal:=BF.len
   have has:∀v∈as,v.natAbs<2^200:=fun v hv=>by
    obtain ⟨i,hi,rfl⟩:=bV.mp hv
    have b1:=BF.ins i (by lia)
    have b2:=bnd i (by lia)
    rw [fJ hi] at b1
    have b3:-2^150≤as[i]:=Int.le_trans b2.1 b1.1
    have b4:as[i]≤2^150:=Int.le_trans b1.2 b2.2
    lia
   refine ⟨t,_,1,_,rfl,rfl,SqT.of t5,rfl,l,false,-k,as,rfl,SqL.of l5,by lia,by lia,has,fun lt H6 nlt s6 e6=>?_⟩
   have s46:=s2.trans (s5.trans s6)
   refine ⟨f,lt,b,false,fs,as.map (-k*·),rfl,hf.same s46,SqL.of e6,by lia,fun z=>absurd (by rw [ae];lia) z,fun _ l7 H7 nl7 s7 e7=>?_⟩
   exact kk l7 _ H7 (bR s46 nl7) (s46.trans s7) e7 (vG hk0 hl hal hd BF.qu BF.ins) ⟨as,BR,rfl⟩
  ·refine absurd hs (rB hk0 (eps▸sy ..) hd fun t ht=>(vV hk0 (show t<fs.length by lia)).2)
def xS (K:ai) (c:Cs):Sp:=fun vs H Q _=>∃(x q:Addr) (m k:Int) (es:List (Int×Int)) (rs:List Int),vs=[.ref x,.ref q,.int k]∧fb K c.Web H x m es∧SqL K H q (rs.map V.int)∧rs.length=es.length∧1≤m∧m≤20∧es.length≤40∧cV es m∧2≤k∧k≤10^20∧isR m es rs k=true ∧
 ∀l gs H',H l=none→bx H H'→H' l=some (.lst (gs.map V.int))→RdF es rs k gs→LtR m es rs k gs→Q (.ref l) H'
theorem zO:bS ["web","rests","k","whole"] ["web","rests","k"] (aB sLt):=⟨rfl,rfl,rfl,by decide +kernel,rfl,by decide +kernel,by decide +kernel⟩
theorem yN {f:Addr} {fd:FuncData} (F:Fun K "lifted" "lifted" sLt f fd) (T:Txt K mg c) (D_Ir:gT P w K mg base 3 "is_rest_flow" ["web","rests","k"] (wQ K c)) (D_Ft:Def P w K mg base 3 "free_ties" ["web"] (wR K c)) (D_Fz:gT P w K mg base 5 "filled_whole" ["web","values"] (xW K c)) (D_Rd:Def P w K mg base 4 "reduced" ["web","flow","k"] (xO K c)):fm P w K mg base CX0 6 f fd ["web","rests","k"] (xS K c):=by
 refine F.ok zO (fun vs H Q E h=>?_) (fun cdv A outer s H vs Q E hr h=>?_)
 ·obtain ⟨x,q,m,k,es,rs,rfl,_⟩:=h
  rfl
 ·obtain ⟨x,q,m,k,es,rs,rfl,hw,hq,hl,m1,m2,hz,hE,h0,h1,hR,kk⟩:=h
  refine ⟨_,ax (dZ (ig (gX (bP D_Ir.calm hr (ah (pv 0) (ah (pv 1) (ah (pv 2) ay))))))
    (aQ (je)) (cL))
   (ax (bA (i:=3) zO.nd rfl (Or.inl rfl) (bP D_Fz.calm hr (ah (pv 0) (ah (fG (N':=["tie","rests"]) (nl:=1) (js:=[1]) rfl (.of (osc:=aB sLt) (N:=["web","rests","k","whole"]) (by decide +kernel) rfl rfl) (f_ (K:=K) rfl (bP D_Ft hr (ah (pv 0) ay)))
    (fun _ _ _ _=>bG (i:=0) (show (["tie","rests"]:List Str).Nodup by decide +kernel) rfl (Or.inl rfl)) (fun _ _ _ _=>dG)
    (fun _ _ _ _=>cn (ixL (K:=K) rfl) (pv 1) (pv 0) (fun _ _=>rfl))) ay))))
   (aQ (cC (bP D_Rd hr (ah (pv 0) (ah (pv 3) (ah (pv 2) ay))))))),?_⟩
  refine ⟨_,rfl,_,rfl,_,rfl,x,q,false,m,k,es,rs,rfl,hw,hq,by lia,m1,m2,hz,hE,fun z=>absurd ⟨h0,h1⟩ z,fun _ _ z=>absurd hl z,fun _ _ _ H1 s1=>⟨_,rfl,?_⟩⟩
  rw [hR]
  refine gb ?_
  have hfl:=qm es
  have hfm:((fre es).map V.int).length=(fre es).length:=ae ..
  refine ⟨_,rfl,_,rfl,x,m,es,rfl,hw.same s1,m1,m2,hz,hE,fun lf H2 nlf s2 e2=>?_⟩
  have s02:=s1.trans s2
  refine ⟨lf,_,rfl,.inl (SqL.of e2),fun J C O hC=>fD O (fun i ys H3=>H3=H2∧ys=((frv es rs).take i).map V.int) (by rw [hfm];exact aM (aE (by lia))) ⟨rfl,rfl⟩ ?_ ?_ ?_⟩
  ·rintro i ys H3 hi ⟨rfl,rfl⟩
   exact ⟨hC _ (bx.refl _),by rw [ae,aD];lia⟩
  ·rintro i ys H3 hi ⟨rfl,rfl⟩
   obtain ⟨v,ev,gv⟩:=getD_map_int hi
   rw [hfm] at hi
   obtain ⟨t0,t1⟩:=kn (aZ gv)
   have hv:(frv es rs)[i]?=some (rs.getD v.toNat 0):=by unfold frv;rw [br,gv];rfl
   try dsimp only
   rw [ev]
   refine ⟨dQ rfl,ft ⟨_,rfl,_,rfl,q,_,_,_,rfl,rfl,s02.seq hq,dY (ns:=rs) t0 (by lia),aE (by rw [ae,aD];lia),_,by lia,rfl,by lia,rfl,?_⟩⟩
   rw [take_snoc hv,aH];rfl
  rintro ys H3 ⟨rfl,rfl⟩ lv nlv
  have hvl:=qj es rs
  rw [hfm,bh (by lia)]
  have s3:=s02.next (o:=.lst ((frv es rs).map V.int)) nlv
  have e3:(upd H3 lv (.lst ((frv es rs).map V.int))) lv=some (.lst ((frv es rs).map V.int)):=av
  generalize upd H3 lv (.lst ((frv es rs).map V.int))=H4 at s3 e3
  have hvb:=ot hl hR
  refine ⟨x,lv,m,es,frv es rs,rfl,hw.same s3,SqL.of e3,m1,m2,hz,hE,fun v hv=>by have:=hvb v hv;lia,fun z=>absurd hvl z,fun _ lw fs H5 nlw s5 e5 hF=>?_⟩
  have s05:=s3.trans s5
  have hb:=hF.bound (B:=10^20) hE hvl (by decide) hz fun v hv=>by have:=hvb v hv;lia
  refine ⟨_,rfl,_,rfl,_,rfl,x,lw,false,m,k,es,fs,rfl,hw.same s05,SqL.of e5,hF.1,hz,m1,m2,hE,h0,h1,hF.2.1,fun t ht=>Int.le_trans (hb t ht) (by decide),fun l gs H6 nl s6 e6 RF RR=>?_⟩
  rw [pU hE hl hR hF] at RF
  exact kk l gs H6 (bR s05 nl) (s05.trans s6) e6 RF ⟨fs,hF,RR⟩
def yc (K:ai) (c:Cs):Sp:=fun vs H Q E=>∃(x q:Addr) (m:Int) (es:List (Int×Int)) (ss:List Int),vs=[.ref x,.ref q]∧fb K c.Web H x m es∧SqL K H q (ss.map V.int)∧ss.length≤900∧es.length≤40 ∧
 (¬fB es.length ss→∀H',bx H H'→E (.ref c.BadSet) none H')∧(fB es.length ss→∀H',bx H H'→Q .non H')
theorem AK:bS ["web","some"] ["web","some"] (aB sCk):=⟨rfl,rfl,rfl,by decide +kernel,rfl,by decide +kernel,by decide +kernel⟩
theorem anyB {α:Type} (g:α→Bool):∀l:List α,(l.map fun a=>V.bl (g a)).all oN=true∧(l.map fun a=>V.bl (g a)).any tv=l.any g
 | []=>⟨rfl,rfl⟩
 | a::l=>by
  rw [bf,c_,eP,eP,(anyB g l).1,(anyB g l).2]
  exact ⟨rfl,rfl⟩
theorem zf {f:Addr} {fd:FuncData} (F:Fun K "check_set" "check_set" sCk f fd) (T:Txt K mg c):fm P w K mg base (CXE P w) 1 f fd ["web","some"] (yc K c):=by
 refine F.okE AK (fun vs H Q E h=>?_) (fun cdv A outer s H vs Q E hr h=>?_)
 ·obtain ⟨x,q,m,es,ss,rfl,_⟩:=h
  rfl
 ·obtain ⟨x,q,m,es,ss,rfl,hw,hq,hz,he,k1,k2⟩:=h
  refine ⟨_,ax (dZ (gX (a_ (wD (K:=K) rfl rfl) (by rfl) T.any PyProof.Rows.boot_any (ah (fG (N':=["tie","web"]) (nl:=1) (js:=[0]) rfl (.of (osc:=aB sCk) (N:=["web","some"]) (by decide +kernel) rfl rfl) (f_ (K:=K) rfl (pv 1))
    (fun _ _ _ _=>bG (i:=0) (show (["tie","web"]:List Str).Nodup by decide +kernel) rfl (Or.inl rfl)) (fun _ _ _ _=>dG)
    (fun _ _ _ _=>pD (mY pJ iB (aN) (pv 0) (a_ (gc (K:=K) rfl) (by rfl) T.len aS (ah (gF (K:=K) rfl T.web (pv 1)) ay))))) ay)))
    (aQ (fP rfl rfl (by rfl) T.mBadSet T.xBadSet (ah gS ay))) (cL))
   (aQ (dZ (gX (a_ (wD (K:=K) rfl rfl) (by rfl) T.any PyProof.Rows.boot_any (ah (fG (N':=["one","two"]) (nl:=2) (js:=[]) rfl (.of (osc:=aB sCk) (N:=["web","some"]) (by decide +kernel) rfl rfl) (kS (K:=K) rfl rfl T.zip (ah (pv 1) (ah (gM (slL (K:=K) rfl) (pv 1) (gL (aN)) (ip)) ay)))
    (fun _ _ _ _=>kU (K:=K) (i:=0) (j:=1) rfl rfl (show (["one","two"]:List Str).Nodup by decide +kernel) rfl rfl rfl rfl) (fun _ _ _ _=>dG)
    (fun _ _ _ _=>gz ui (pv 0) (pv 1) (cw _))) ay)))
    (aQ (fP rfl rfl (by rfl) T.mBadSet T.xBadSet (ah gS ay))) (cL))),?_⟩
  have hsm:(ss.map V.int).length=ss.length:=ae ..
  refine ⟨_,rfl,q,_,rfl,.inl hq,fun J C O hC=>fD O (fun i ys H2=>H2=H∧ys=(ss.take i).map fun t=>V.bl (!(decide (0≤t)&&decide (t<(es.length:Int))))) (by rw [hsm];exact aM (aE (by lia))) ⟨rfl,rfl⟩ ?_ ?_ ?_⟩
  ·rintro i ys H2 hi ⟨rfl,rfl⟩
   exact ⟨hC _ (bx.refl _),by rw [ae,aD];lia⟩
  ·rintro i ys H2 hi ⟨rfl,rfl⟩
   obtain ⟨v,ev,gv⟩:=getD_map_int hi
   rw [hsm] at hi
   try dsimp only
   rw [ev]
   have hl2:((ss.take i).map fun t=>V.bl (!(decide (0≤t)&&decide (t<(es.length:Int))))).length<sizeLine:=aE (by rw [ae,aD];lia)
   have fin:∀b,b=(!(decide (0≤v)&&decide (v<(es.length:Int))))→((ss.take i).map fun t=>V.bl (!(decide (0≤t)&&decide (t<(es.length:Int)))))++[V.bl b]=(ss.take (i+1)).map fun t=>V.bl (!(decide (0≤t)&&decide (t<(es.length:Int)))):=fun b e=>by
    rw [take_snoc gv,aH,e];rfl
   refine ⟨dQ rfl,ft ?_⟩
   refine ⟨_,rfl,_,_,rfl,rfl,_,rfl,fX (fun c=>?_) (fun c=>?_)⟩
   ·refine ⟨_,rfl,x,m,es,rfl,hw,fun tt zs ht hp=>?_⟩
    refine ⟨tt,zs,rfl,.inr (SqT.of ht),_,_,rfl,rfl,_,rfl,hl2,_,by lia,rfl,by lia,rfl,fin _ ?_⟩
    rw [c,du,hp.len]
   ·refine ⟨_,rfl,hl2,_,by lia,rfl,by lia,rfl,fin _ ?_⟩
    rw [Bool.eq_false_iff.mpr c,cX]
  rintro ys H2 ⟨rfl,rfl⟩ l1 n1
  rw [hsm,bZ]
  refine ⟨l1,_,rfl,.inl (SqL.of av),(anyB _ _).1,_,rfl,?_⟩
  rw [(anyB _ _).2]
  have s1:=bx.new (o:=.lst (ss.map fun t=>V.bl (!(decide (0≤t)&&decide (t<(es.length:Int)))))) n1
  generalize upd H2 l1 (.lst (ss.map fun t=>V.bl (!(decide (0≤t)&&decide (t<(es.length:Int))))))=H1 at s1
  refine fX (fun c1=>?_) (fun c1=>?_)
  ·refine ⟨(by show 1≤sizeLine;decide),k1 (fun z=>?_) _ s1⟩
   obtain ⟨t,ht,hb⟩:=dB.mp c1
   have:=z.rng t ht
   rw [decide_eq_true this.1,decide_eq_true this.2] at hb
   cases hb
  have hrng:∀t∈ss,0≤t∧t<(es.length:Int):=fun t ht=>Classical.byContradiction fun z=>c1 (dB.mpr ⟨t,ht,by
   by_cases y:0≤t
   ·rw [decide_eq_false (show ¬t<(es.length:Int) from fun w=>z ⟨y,w⟩),dm];rfl
   ·rw [decide_eq_false y,cX];rfl⟩)
  refine ⟨_,rfl,_,rfl,1,rfl,q,_,rfl,s1.seq hq,fun pc npc=>?_⟩
  have ecut:rX (ss.map V.int) (some 1) none=(ss.drop 1).map V.int:=by
   cases ss with
   | nil=>rfl
   | cons a l=>rw [show (1:Int)=0+1 from rfl,iF (by decide) (by rw [ae,bB];lia),←List.map_drop];rfl
  rw [ecut]
  have s2:=s1.next (o:=.lst ((ss.drop 1).map V.int)) npc
  have e2:(upd H1 pc (.lst ((ss.drop 1).map V.int))) pc=some (.lst ((ss.drop 1).map V.int)):=av
  generalize upd H1 pc (.lst ((ss.drop 1).map V.int))=H3 at s2 e2
  have hn:min (ss.map V.int).length ((ss.drop 1).map V.int).length=ss.length-1:=by rw [hsm,ae,cm];lia
  have hdr:∀i,(ss.drop 1).getD i 0=ss.getD (i+1) 0:=fun i=>by rw [aa,List.getElem?_drop,aa,Nat.add_comm]
  refine ⟨false,false,q,pc,_,_,rfl,s2.seq hq,SqL.of e2,fun J C O hC=>nk O (fun i ys H4=>bx H3 H4∧ys=(bF i).map fun j=>V.bl (decide (ss.getD (j+1) 0≤ss.getD j 0))) (by rw [hn];exact aM (aE (by lia))) ⟨bx.refl _,rfl⟩ ?_ ?_ ?_⟩
  ·rintro i ys H4 hi ⟨s4,rfl⟩
   exact ⟨hC _ ((s2.trans s4).seq hq) (SqL.of (s4 _ _ e2)),by rw [ae,cu];exact aO _⟩
  ·rintro i ys H4 r hi ⟨s4,rfl⟩ nr
   rw [hn] at hi
   dsimp only
   rw [getD_ints (show i<ss.length by lia),getD_ints (show i<(ss.drop 1).length by rw [cm];lia),hdr]
   refine ⟨r,_,rfl,SqT.of av,rfl,_,_,rfl,_,_,rfl,rfl,iK rfl rfl,ft ?_⟩
   refine ⟨_,rfl,_,rfl,_,_,rfl,rfl,aE (by rw [ae,cu];lia),_,by rw [hn];lia,rfl,by rw [hn];lia,s4.next nr,?_⟩
   rw [List.range_succ,aH];rfl
  ·rintro ys H4 ⟨s4,rfl⟩ l2 n2
   rw [hn]
   refine ⟨l2,_,rfl,.inl (SqL.of av),(anyB _ _).1,_,rfl,?_⟩
   rw [(anyB _ _).2]
   have s5:=(s2.trans s4).next (o:=.lst ((bF (ss.length-1)).map fun j=>V.bl (decide (ss.getD (j+1) 0≤ss.getD j 0)))) n2
   generalize upd H4 l2 (.lst ((bF (ss.length-1)).map fun j=>V.bl (decide (ss.getD (j+1) 0≤ss.getD j 0))))=H5 at s5
   refine fX (fun c2=>?_) (fun c2=>?_)
   ·refine ⟨(by show 1≤sizeLine;decide),k1 (fun z=>?_) _ s5⟩
    obtain ⟨j,hj,hb⟩:=dB.mp c2
    have h1:=of_decide_eq_true hb
    have h2:=kI z.up (i:=j) (by have:=cj.mp hj;lia)
    lia
   ·refine k2 ⟨hrng,tw fun i hi=>Classical.byContradiction fun z=>c2 (dB.mpr ⟨i,cj.mpr (by lia),decide_eq_true (by lia)⟩)⟩ _ s5
def wN (K:ai) (c:Cs):Sp:=fun vs H Q _=>∃(x q:Addr) (m:Int) (es:List (Int×Int)) (ss:List Int),vs=[.ref x,.ref q]∧fb K c.Web H x m es∧SqL K H q (ss.map V.int)∧es.length≤40 ∧
 ∀l H',H l=none→bx H H'→H' l=some (.lst ((mkS es.length ss).map V.int))→Q (.ref l) H'
theorem AE:bS ["web","some"] ["web","some"] (aB sMr):=⟨rfl,rfl,rfl,by decide +kernel,rfl,by decide +kernel,by decide +kernel⟩
theorem yK {f:Addr} {fd:FuncData} (F:Fun K "marks" "marks" sMr f fd) (T:Txt K mg c):fm P w K mg base CX0 1 f fd ["web","some"] (wN K c):=by
 refine F.ok AE (fun vs H Q E h=>?_) (fun cdv A outer s H vs Q E hr h=>?_)
 ·obtain ⟨x,q,m,es,ss,rfl,_⟩:=h
  rfl
 ·obtain ⟨x,q,m,es,ss,rfl,hw,hq,he,k⟩:=h
  refine ⟨_,aQ (cC (fG (N':=["tie","some"]) (nl:=1) (js:=[1]) rfl (.of (osc:=aB sMr) (N:=["web","some"]) (by decide +kernel) rfl rfl) (ef rfl T.range (ah (a_ (gc (K:=K) rfl) (by rfl) T.len aS (ah (gF (K:=K) rfl T.web (pv 0)) ay)) ay))
    (fun _ _ _ _=>bG (i:=0) (show (["tie","some"]:List Str).Nodup by decide +kernel) rfl (Or.inl rfl)) (fun _ _ _ _=>dG)
    (fun _ _ _ _=>gq (bL (uj (K:=K) rfl) (pv 0) (pv 1) (by with_unfolding_all rfl)) (aN) (aN)))),?_⟩
  refine ⟨_,rfl,x,m,es,rfl,hw,fun tt zs ht hp=>?_⟩
  have hzl:=hp.len
  have eun:((zs.length:Int)).toNat=es.length:=hzl
  refine ⟨tt,zs,rfl,.inr (SqT.of ht),(zs.length:Int),rfl,by lia,by lia,?_⟩
  rw [eun]
  refine fD dv (fun i ys H2=>H2=H∧ys=((mkS es.length ss).take i).map V.int) (aM (aE (by lia))) ⟨rfl,rfl⟩ ?_ ?_ ?_
  ·rintro i ys H2 hi ⟨rfl,rfl⟩
   exact ⟨trivial,by rw [ae,aD];lia⟩
  ·rintro i ys H2 hi ⟨rfl,rfl⟩
   have hl2:(((mkS es.length ss).take i).map V.int).length<sizeLine:=aE (by rw [ae,aD];lia)
   have hg:=pO (ss:=ss) (show i<es.length from hi)
   try dsimp only
   rw [ff]
   refine ⟨dQ rfl,ft ⟨_,rfl,_,rfl,q,_,rfl,.inl hq,rfl,fQ _,_,rfl,?_⟩⟩
   rw [if_neg aV,gy]
   have hm:(ss.any (·==(i:Int)))=decide ((i:Int)∈ss):=by
    rw [cQ,decide_eq_true_iff,dB]
    exact ⟨fun ⟨y,h1,h2⟩=>by rw [←beq_iff_eq.mp h2];exact h1,fun h=>⟨_,h,beq_self_eq_true _⟩⟩
   rw [hm]
   by_cases c1:(i:Int)∈ss
   ·rw [decide_eq_true c1]
    refine ft ⟨hl2,_,by lia,rfl,by lia,rfl,?_⟩
    rw [take_snoc hg,aH,if_pos c1];rfl
   ·rw [decide_eq_false c1]
    refine gb ⟨hl2,_,by lia,rfl,by lia,rfl,?_⟩
    rw [take_snoc hg,aH,if_neg c1];rfl
  ·rintro ys H2 ⟨rfl,rfl⟩ l nl
   rw [bh (by rw [fA];exact aO _)]
   exact k l _ nl (bx.new nl) av
def xZ (K:ai) (c:Cs):Sp:=fun vs H Q E=>∃(x q:Addr) (m:Int) (es:List (Int×Int)) (ss:List Int),vs=[.ref x,.ref q]∧fb K c.Web H x m es∧SqL K H q (ss.map V.int)∧ss.length≤900∧1≤m∧m≤20∧es.length≤40∧cV es m ∧
 (¬fB es.length ss→∀H',bx H H'→E (.ref c.BadSet) none H')∧(fB es.length ss→∀H',bx H H'→Q (.bl (isR m es (mkS es.length ss) 2)) H')
theorem AH:bS ["web","some"] ["web","some"] (aB sEv):=⟨rfl,rfl,rfl,by decide +kernel,rfl,by decide +kernel,by decide +kernel⟩
theorem yY {f:Addr} {fd:FuncData} (F:Fun K "is_even" "is_even" sEv f fd) (T:Txt K mg c) (D_Ck:gT P w K mg base 1 "check_set" ["web","some"] (yc K c)) (D_Mr:Def P w K mg base 1 "marks" ["web","some"] (wN K c)) (D_Ir:gT P w K mg base 3 "is_rest_flow" ["web","rests","k"] (wQ K c)):fm P w K mg base (CXE P w) 4 f fd ["web","some"] (xZ K c):=by
 refine F.okE AH (fun vs H Q E h=>?_) (fun cdv A outer s H vs Q E hr h=>?_)
 ·obtain ⟨x,q,m,es,ss,rfl,_⟩:=h
  rfl
 ·obtain ⟨x,q,m,es,ss,rfl,hw,hq,hz,m1,m2,he,hE,k1,k2⟩:=h
  refine ⟨_,ax (dk (fH D_Ck hr rfl rfl (ah (pv 0) (ah (pv 1) ay))))
   (aQ (cC (fH D_Ir hr rfl rfl (ah (pv 0) (ah (bP D_Mr hr (ah (pv 0) (ah (pv 1) ay))) (ah (aN) ay)))))),?_⟩
  refine ⟨_,rfl,_,rfl,x,q,m,es,ss,rfl,hw,hq,hz,he,fun z H1 s1=>k1 z H1 s1,fun ok H1 s1=>?_⟩
  refine ⟨_,rfl,_,rfl,_,rfl,x,q,m,es,ss,rfl,hw.same s1,s1.seq hq,he,fun l H2 nl s2 e2=>?_⟩
  have s02:=s1.trans s2
  exact ⟨x,l,false,m,2,es,mkS es.length ss,rfl,hw.same s02,SqL.of e2,by rw [fA];lia,m1,m2,he,hE,fun z=>absurd ⟨by decide,by decide⟩ z,fun _ _ z=>absurd (fA ..) z,fun _ _ _ H3 s3=>k2 ok H3 (s02.trans s3)⟩
def wW (K:ai) (c:Cs):Sp:=fun vs H Q E=>∃(x q:Addr) (m:Int) (es:List (Int×Int)) (ss:List Int),vs=[.ref x,.ref q]∧fb K c.Web H x m es∧SqL K H q (ss.map V.int)∧ss.length≤900∧1≤m∧m≤20∧es.length≤40∧cV es m ∧
 (¬(fB es.length ss∧isR m es (mkS es.length ss) 2=true)→∀H',bx H H'→E (.ref c.BadSet) none H')∧(fB es.length ss→isR m es (mkS es.length ss) 2=true→∀l gs H',H l=none→bx H H'→H' l=some (.lst (gs.map V.int))→RdF es (mkS es.length ss) 2 gs→LtR m es (mkS es.length ss) 2 gs→Q (.ref l) H')
theorem AI:bS ["web","some"] ["web","some"] (aB sEf):=⟨rfl,rfl,rfl,by decide +kernel,rfl,by decide +kernel,by decide +kernel⟩
theorem yZ {f:Addr} {fd:FuncData} (F:Fun K "even_flow" "even_flow" sEf f fd) (T:Txt K mg c) (D_Ev:gT P w K mg base 4 "is_even" ["web","some"] (xZ K c)) (D_Mr:Def P w K mg base 1 "marks" ["web","some"] (wN K c)) (D_Lt:Def P w K mg base 6 "lifted" ["web","rests","k"] (xS K c)):fm P w K mg base (CXE P w) 7 f fd ["web","some"] (wW K c):=by
 refine F.okE AI (fun vs H Q E h=>?_) (fun cdv A outer s H vs Q E hr h=>?_)
 ·obtain ⟨x,q,m,es,ss,rfl,_⟩:=h
  rfl
 ·obtain ⟨x,q,m,es,ss,rfl,hw,hq,hz,m1,m2,he,hE,k1,k2⟩:=h
  refine ⟨_,ax (dZ (ig (gX (fH D_Ev hr rfl rfl (ah (pv 0) (ah (pv 1) ay)))))
    (aQ (fP rfl rfl (by rfl) T.mBadSet T.xBadSet (ah gS ay))) (cL))
   (aQ (cC (bP D_Lt hr (ah (pv 0) (ah (bP D_Mr hr (ah (pv 0) (ah (pv 1) ay))) (ah (aN) ay)))))),?_⟩
  refine ⟨_,rfl,_,rfl,x,q,m,es,ss,rfl,hw,hq,hz,m1,m2,he,hE,fun z H1 s1=>k1 (fun y=>z y.1) H1 s1,fun ok H1 s1=>⟨_,rfl,?_⟩⟩
  cases hR:isR m es (mkS es.length ss) 2 with
  | false=>exact ft ⟨(by show 1≤sizeLine;decide),k1 (fun y=>by rw [hR] at y;cases y.2) H1 s1⟩
  | true =>
   refine gb ?_
   refine ⟨_,rfl,_,rfl,_,rfl,x,q,m,es,ss,rfl,hw.same s1,s1.seq hq,he,fun l H2 nl s2 e2=>?_⟩
   have s02:=s1.trans s2
   exact ⟨x,l,m,2,es,mkS es.length ss,rfl,hw.same s02,SqL.of e2,fA ..,m1,m2,he,hE,by decide,by decide,hR,fun l3 gs H3 nl3 s3 e3 RF LR=>k2 ok hR l3 gs H3 (bR s02 nl3) (s02.trans s3) e3 RF LR⟩
def yi (K:ai) (c:Cs):Sp:=fun vs H Q E=>∃(x q:Addr) (m:Int) (es:List (Int×Int)) (xs:List V) (sets:List (List Int)),vs=[.ref x,.ref q]∧fb K c.Web H x m es∧SqL K H q xs∧LlS H xs sets∧sets.length≤20∧es.length≤40 ∧
 (¬(∀t:Nat,t<es.length→∃ss∈sets,(t:Int)∈ss)→∀H',bx H H'→E (.ref c.BadSet) none H')∧((∀t:Nat,t<es.length→∃ss∈sets,(t:Int)∈ss)→∀H',bx H H'→Q .non H')
theorem zR:bS ["web","sets","tie"] ["web","sets"] (aB sAh):=⟨rfl,rfl,rfl,by decide +kernel,rfl,by decide +kernel,by decide +kernel⟩
theorem zo {f:Addr} {fd:FuncData} (F:Fun K "check_all_held" "check_all_held" sAh f fd) (T:Txt K mg c):fm P w K mg base (CXE P w) 1 f fd ["web","sets"] (yi K c):=by
 refine F.okE zR (fun vs H Q E h=>?_) (fun cdv A outer s H vs Q E hr h=>?_)
 ·obtain ⟨x,q,m,es,xs,sets,rfl,_⟩:=h
  rfl
 ·obtain ⟨x,q,m,es,xs,sets,rfl,hw,hq,hs,hz,he,k1,k2⟩:=h
  refine ⟨_,aQ (lV uK rfl (ef rfl T.range (ah (a_ (gc (K:=K) rfl) (by rfl) T.len aS (ah (gF (K:=K) rfl T.web (pv 0)) ay)) ay)) (bG (i:=2) zR.nd rfl (Or.inr rfl))
    (aQ (dZ (ig (gX (a_ (wD (K:=K) rfl rfl) (by rfl) T.any PyProof.Rows.boot_any (ah (fG (N':=["some","tie"]) (nl:=1) (js:=[2]) rfl (.of (osc:=aB sAh) (N:=["web","sets","tie"]) (by decide +kernel) rfl rfl) (f_ (K:=K) rfl (pv 1))
    (fun _ _ _ _=>bG (i:=0) (show (["some","tie"]:List Str).Nodup by decide +kernel) rfl (Or.inl rfl)) (fun _ _ _ _=>dG)
    (fun _ _ _ _=>gz (uj (K:=K) rfl) (pv 1) (pv 0) (by with_unfolding_all rfl))) ay))))
    (aQ (fP rfl rfl (by rfl) T.mBadSet T.xBadSet (ah gS ay))) (cL)))),?_⟩
  have hxl:=hs.len
  refine ⟨_,rfl,x,m,es,rfl,hw,fun tt zs ht hp=>?_⟩
  have hzl:=hp.len
  refine ⟨tt,zs,rfl,.inr (SqT.of ht),(zs.length:Int),rfl,by lia,by lia,fF dv (fun i σ H2=>∃v2:Option V,σ=[some (.ref x),some (.ref q),v2]∧bx H H2∧∀t:Nat,t<i→∃ss∈sets,(t:Int)∈ss) ⟨none,rfl,bx.refl _,fun t ht=>absurd ht (bM _)⟩ (fun _ _ _ _ _=>trivial) ?_ ?_⟩
  ·rintro i σ H2 hi ⟨v2,rfl,s2,hc⟩
   have hi':i<es.length:=by have:i<zs.length:=hi;lia
   obtain ⟨p,ep⟩:∃p:Int,p=0+(i:Nat):=⟨_,rfl⟩
   rw [←ep]
   rw [ff] at ep
   have q2:=s2.seq hq
   have a2:=hs.same s2
   refine ⟨_,rfl,q,xs,rfl,.inl q2,fun J C O hC=>fD O (fun j ys H3=>H3=H2∧ys=(sets.take j).map fun ss=>V.bl (ss.any (·==p))) (aM (aE (by lia))) ⟨rfl,rfl⟩ ?_ ?_ ?_⟩
   ·rintro j ys H3 hj ⟨rfl,rfl⟩
    exact ⟨hC _ (bx.refl _),by rw [ae,aD];lia⟩
   ·rintro j ys H3 hj ⟨rfl,rfl⟩
    obtain ⟨r,ns,er,hr2,gn⟩:=a2.at hj
    try dsimp only
    rw [er]
    refine ⟨dQ rfl,ft ⟨_,rfl,_,rfl,r,_,rfl,.inl (SqL.of hr2),rfl,fQ _,aE (by rw [ae,aD];lia),_,by lia,rfl,by lia,rfl,?_⟩⟩
    rw [take_snoc gn,aH,gy];rfl
   rintro ys H3 ⟨rfl,rfl⟩ l1 n1
   rw [hxl,bZ]
   have s3:=s2.next (o:=.lst (sets.map fun ss=>V.bl (ss.any (·==p)))) n1
   refine ⟨l1,_,rfl,.inl (SqL.of av),(anyB _ _).1,_,rfl,?_⟩
   rw [(anyB _ _).2]
   generalize upd H3 l1 (.lst (sets.map fun ss=>V.bl (ss.any (·==p))))=H4 at s3
   have hiff:(sets.any fun ss=>ss.any (·==p))=true↔∃ss∈sets,(i:Int)∈ss:=by
    rw [dB]
    constructor
    ·rintro ⟨ss,h1,h2⟩
     exact ⟨ss,h1,by rw [←ep];exact eX.mp h2⟩
    ·rintro ⟨ss,h1,h2⟩
     exact ⟨ss,h1,eX.mpr (by rw [ep];exact h2)⟩
   refine fX (fun c1=>?_) (fun c1=>?_)
   ·refine ⟨(by show 1≤sizeLine;decide),k1 (fun z=>?_) _ s3⟩
    rw [hiff.mpr (z i hi')] at c1
    cases c1
   ·refine ⟨_,rfl,s3,fun t ht=>?_⟩
    by_cases y:t=i
    ·rw [y]
     refine hiff.mp ?_
     cases e:(sets.any fun ss=>ss.any (·==p)) with
     | true=>rfl
     | false=>rw [e] at c1;exact absurd rfl c1
    ·exact hc t (by lia)
  ·rintro σ H2 ⟨v2,rfl,s2,hc⟩
   exact k2 (fun t ht=>hc t (by show t<zs.length;lia)) H2 s2
def wO (K:ai) (c:Cs):Sp:=fun vs H Q E=>∃(x q:Addr) (m:Int) (es:List (Int×Int)) (xs:List V) (sets:List (List Int)),vs=[.ref x,.ref q]∧fb K c.Web H x m es∧SqL K H q xs∧LlS H xs sets∧sets.length≤20∧(∀ss∈sets,ss.length≤900)∧1≤m∧m≤20∧es.length≤40∧cV es m ∧
 (¬Due m es sets→∀H',bx H H'→E (.ref c.BadSet) none H')∧(Due m es sets→∀l fss H',H l=none→bx H H'→H' l=some (.lst ((lay es.length fss sets.length).map V.int))→iH m es sets fss sets.length→Q (.ref l) H')
theorem uV:bS ["web","sets","told","weight","some"] ["web","sets"] (aB sLy):=⟨rfl,rfl,rfl,by decide +kernel,rfl,by decide +kernel,by decide +kernel⟩
theorem zW {i:Nat} (h:i≤20):((2:Int)^i).natAbs<2^200:=by
 rw [Int.natAbs_pow]
 exact Nat.pow_lt_pow_right (by decide) (by lia)
theorem yM {f:Addr} {fd:FuncData} (F:Fun K "layered" "layered" sLy f fd) (T:Txt K mg c) (D_Ef:gT P w K mg base 7 "even_flow" ["web","some"] (wW K c)) (D_Ad:gT P w K mg base 1 "added" ["one","two"] (vz K c.BadFlow)) (D_Tm:Def P w K mg base 1 "times" ["number","flow"] (vy K)) (D_Ah:gT P w K mg base 1 "check_all_held" ["web","sets"] (yi K c)):fm P w K mg base (CXE P w) 8 f fd ["web","sets"] (wO K c):=by
 refine F.okE uV (fun vs H Q E h=>?_) (fun cdv A outer s H vs Q E hr h=>?_)
 ·obtain ⟨x,q,m,es,xs,sets,rfl,_⟩:=h
  rfl
 ·obtain ⟨x,q,m,es,xs,sets,rfl,hw,hq,hs,hz,hsl,m1,m2,he,hE,k1,k2⟩:=h
  refine ⟨_,ax (bA (i:=2) uV.nd rfl (Or.inl rfl) (bK iA (de (ah (aN) ay)) (a_ (gc (K:=K) rfl) (by rfl) T.len aS (ah (gF (K:=K) rfl T.web (pv 0)) ay))))
   (ax (bA (i:=3) uV.nd rfl (Or.inl rfl) (aN))
   (ax (lV uK rfl (f_ (K:=K) rfl (pv 1)) (bG (i:=4) uV.nd rfl (Or.inl rfl))
    (ax (bA (i:=2) uV.nd rfl (Or.inl rfl) (bP D_Ad.calm hr (ah (pv 2) (ah (bP D_Tm hr (ah (pv 3) (ah (fH D_Ef hr rfl rfl (ah (pv 0) (ah (pv 4) ay))) ay))) ay))))
   (aQ (pw (i:=3) uV.nd rfl (Or.inl rfl) (aN) uy))))
   (ax (dk (fH D_Ah hr rfl rfl (ah (pv 0) (ah (pv 1) ay))))
   (aQ (cC (pv 2)))))),?_⟩
  have hxl:=hs.len
  refine ⟨(by show 1≤sizeLine;decide),fun q1 nq1=>?_⟩
  have s1:=bx.new (o:=.lst [V.int 0]) nq1
  have e1:(upd H q1 (.lst [V.int 0])) q1=some (.lst [V.int 0]):=av
  generalize upd H q1 (.lst [V.int 0])=H1 at s1 e1
  refine ⟨_,rfl,x,m,es,rfl,hw.same s1,fun tt zs ht hp=>?_⟩
  have hzl:=hp.len
  refine ⟨tt,zs,rfl,.inr (SqT.of ht),q1,(zs.length:Int),_,rfl,rfl,e1,by lia,by lia,aM (aE (by show 1*((zs.length:Int)).toNat≤1000;lia)),fun q2 nq2=>?_⟩
  rw [fZ,show ((zs.length:Int)).toNat=es.length by lia]
  have s2:=s1.next (o:=.lst ((az es.length (0:Int)).map V.int)) nq2
  have e2:(upd H1 q2 (.lst ((az es.length (0:Int)).map V.int))) q2=some (.lst ((az es.length (0:Int)).map V.int)):=av
  have n2:H q2=none:=bR s1 nq2
  generalize upd H1 q2 (.lst ((az es.length (0:Int)).map V.int))=H2 at s2 e2
  refine ⟨_,rfl,?_⟩
  refine ⟨q,xs,rfl,.inl (s2.seq hq),fun J C O hC=>fF O (fun i σ H3=>∃(l:Addr) (fss:List (List Int)) (v4:Option V),σ=[some (.ref x),some (.ref q),some (.ref l),some (.int (2^i)),v4]∧bx H2 H3∧H l=none∧H3 l=some (.lst ((lay es.length fss i).map V.int))∧fss.length=i∧iH m es sets fss i∧∀ss∈sets.take i,fB es.length ss∧isR m es (mkS es.length ss) 2=true) ⟨q2,[],none,rfl,bx.refl _,n2,e2,rfl,⟨fun j hj=>absurd hj (bM _),fun j hj=>absurd hj (bM _)⟩,fun ss h=>(nomatch h)⟩ (fun i σ H3 _ h=>?_) ?_ ?_⟩
  ·obtain ⟨_,_,_,_,s3,_⟩:=h
   exact hC _ s3
  ·rintro i σ H3 hi ⟨l,fss,v4,rfl,s3',nl,e3,hfl,LF,hok⟩
   have s3:=s2.trans s3'
   obtain ⟨r,ss,er,hr2,gs⟩:=(hs.same s3).at hi
   have hll:=LF.len
   have hsm:=aZ gs
   try dsimp only
   rw [er]
   refine ⟨_,rfl,_,rfl,_,rfl,_,rfl,x,r,m,es,ss,rfl,hw.same s3,SqL.of hr2,hsl ss hsm,m1,m2,he,hE,fun z H4 s4=>k1 (fun y=>z (y.1 ss hsm)) H4 (s3.trans s4),fun ok hR lg gg H4 nlg s4 e4 RF LR=>?_⟩
   have hgl:=RF.len
   refine ⟨lg,false,_,gg,rfl,SqL.of e4,by lia,zW (by lia),fun v hv=>?_,fun lt H5 nlt s5 e5=>?_⟩
   ·obtain ⟨t,ht,rfl⟩:=bV.mp hv
    rw [←fJ ht]
    have hm:=jt (ss:=ss) (show t<es.length by lia)
    by_cases c:(t:Int)∈ss
    ·rw [if_pos c] at hm
     rcases RF.pos t (by lia) (by rw [hm];decide) with z | z<;>rw [z,hm]<;>decide +kernel
    ·rw [if_neg c] at hm
     rw [RF.zero t (by lia) hm];decide +kernel
   refine ⟨l,lt,false,false,_,_,rfl,SqL.of (s5 _ _ (s4 _ _ e3)),SqL.of e5,by lia,fun z=>z (by rw [hll,ae,hgl]),fun _ ln H6 nln s6 e6=>?_⟩
   have s36:=(s4.trans s5).trans s6
   refine ⟨_,rfl,_,_,rfl,rfl,Nat.lt_trans (zW (by lia)) (by decide +kernel),by decide +kernel,?_⟩
   subst hfl
   refine ⟨ln,fss++[gg],some (.ref r),by rw [Int.pow_succ];rfl,s3'.trans s36,bR s3 (bR (s4.trans s5) nln),?_,?_,LF.snoc gs RF LR,?_⟩
   ·rw [rJ];exact e6
   ·rw [aw];rfl
   ·intro s' h'
    rw [take_snoc gs] at h'
    rcases aF.mp h' with y | y
    ·exact hok s' y
    ·rw [ao.mp y];exact ⟨ok,hR⟩
  ·rintro σ H3 ⟨l,fss,v4,rfl,s3',nl,e3,hfl,LF,hok⟩
   have s3:=s2.trans s3'
   rw [hxl] at e3 LF hok
   rw [bZ] at hok
   refine ⟨_,rfl,_,rfl,x,q,m,es,xs,sets,rfl,hw.same s3,s3.seq hq,hs.same s3,hz,he,fun z H4 s4=>k1 (fun y=>z y.2) H4 (s3.trans s4),fun cv H4 s4=>?_⟩
   exact ⟨_,rfl,k2 ⟨hok,cv⟩ l fss H4 nl (s3.trans s4) (s4 _ _ e3) LF⟩
def spC (K:ai):Sp:=fun vs H Q _=>∃(a:Addr) (ns:List Int) (k:Int),vs=[.ref a,.int k]∧SqL K H a (ns.map V.int)∧0≤k∧Q (.int (ns.getD k.toNat 0)) H
theorem scC:bS ["script","k"] ["script","k"] (aB sC):=⟨rfl,rfl,rfl,by decide +kernel,rfl,by decide +kernel,by decide +kernel⟩
theorem Bi {f:Addr} {fd:FuncData} (F:Fun K "_law_cell" "_law_cell" sC f fd) (T:Txt K mg c):fm P w K mg base CX0 1 f fd ["script","k"] (spC K):=by
 refine F.ok scC (fun vs H Q E h=>?_) (fun cdv A outer s H vs Q E hr h=>?_)
 ·obtain ⟨a,ns,k,rfl,_⟩:=h
  rfl
 ·obtain ⟨a,ns,k,rfl,hS,h0,q⟩:=h
  refine ⟨_,ax (dZ (bL iB (pv 1) (a_ (gc (K:=K) rfl) (by rfl) T.len aS (ah (pv 0) ay)) (cw _))
    (aQ (cC (cn (ixL (K:=K) rfl) (pv 0) (pv 1) (fun _ _=>rfl)))) (cL))
   (aQ (cC (aN))),?_⟩
  refine ⟨_,rfl,_,rfl,a,_,rfl,.inl hS,_,_,rfl,rfl,_,rfl,?_⟩
  refine fX (fun c=>?_) (fun c=>?_)
  ·have c':=of_decide_eq_true c
   rw [ae] at c'
   exact ⟨_,rfl,_,rfl,a,_,k,_,rfl,rfl,hS,dY h0 c',q⟩
  ·have c':¬k<((ns.map V.int).length:Int):=fun z=>c (decide_eq_true z)
   rw [ae] at c'
   have e:ns.getD k.toNat 0=0:=by rw [aa,List.getElem?_eq_none (by lia)];rfl
   rw [e] at q
   exact q
def spH (_:ai):Sp:=fun vs H Q _=>∃i,vs=[.int i]∧Q (.bl true) H
theorem scH:bS ["found"] ["found"] (aB sH):=⟨rfl,rfl,rfl,by decide +kernel,rfl,by decide +kernel,by decide +kernel⟩
theorem Bf {f:Addr} {fd:FuncData} (F:Fun K "_law_whole" "_law_whole" sH f fd) (T:Txt K mg c):fm P w K mg base CX0 1 f fd ["found"] (spH K):=by
 refine F.ok scH (fun vs H Q E h=>?_) (fun cdv A outer s H vs Q E hr h=>?_)
 ·obtain ⟨i,rfl,_⟩:=h
  rfl
 ·obtain ⟨i,rfl,k⟩:=h
  refine ⟨_,aQ (cC (mZ (a_ (cIs (K:=K) rfl) (by rfl) T.isinstance bc (ah (pv 0) (ah (kj (v:=.ty "int") (by rfl) T.int PyProof.Rows.boot_int rfl) ay))) (pC (pD (a_ (cIs (K:=K) rfl) (by rfl) T.isinstance bc (ah (pv 0) (ah (kj (v:=.ty "bool") (by rfl) T.bool PyProof.Rows.boot_bool rfl) ay))))))),?_⟩
  refine ⟨_,rfl,_,_,_,_,true,rfl,rfl,fun _ z=>z,.of (.int i),kq _ _,true,rfl,ft ?_⟩
  exact ⟨_,rfl,_,_,_,_,false,rfl,rfl,fun _ z=>z,.of (.int i),rM,false,rfl,k⟩
def spX (K:ai) (c:Cs):Sp:=fun vs H Q _=>∃(a A:Addr),vs=[.ref a]∧H a=some (.ext (si a (.ref A)))∧wL K c A∧∀H',bx H H'→Q (.bl true) H'
theorem scX:bS ["e","kinds"] ["e"] (aB sX):=⟨rfl,rfl,rfl,by decide +kernel,rfl,by decide +kernel,by decide +kernel⟩
theorem Bb {f:Addr} {fd:FuncData} (F:Fun K "_law_alone" "_law_alone" sX f fd) (T:Txt K mg c):sh P w K mg base 1 f fd ["e"] (spX K c):=by
 refine F.okC scX (fun vs H Q E h=>?_) (fun cdv A outer s H vs Q E hr h=>?_)
 ·obtain ⟨a,A,rfl,_⟩:=h
  rfl
 ·obtain ⟨a,B,rfl,ha,al,k⟩:=h
  obtain ⟨b1,b2,b3,b4,b5,b6,b7,b8,b9,b10,b11,h1,h2,h3,h4,h5,h6,h7,h8,h9,h10,h11,cnt⟩:=al.ks
  refine ⟨_,ax (bA (i:=1) scX.nd rfl (Or.inl rfl) (de (ah (a_ (nK (K:=K) rfl) (by rfl) T.isinstance bc (ah (pv 0) (ah (fw (v:=.ref c.BadWeb) (by rfl) T.mBadWeb rfl) ay))) (ah (a_ (nK (K:=K) rfl) (by rfl) T.isinstance bc (ah (pv 0) (ah (fw (v:=.ref c.TooMany) (by rfl) T.mTooMany rfl) ay))) (ah (a_ (nK (K:=K) rfl) (by rfl) T.isinstance bc (ah (pv 0) (ah (fw (v:=.ref c.BadPlace) (by rfl) T.mBadPlace rfl) ay))) (ah (a_ (nK (K:=K) rfl) (by rfl) T.isinstance bc (ah (pv 0) (ah (fw (v:=.ref c.BadTie) (by rfl) T.mBadTie rfl) ay))) ay))))))
   (ax (bA (i:=1) scX.nd rfl (Or.inl rfl) (bK gd (pv 1) (de (ah (a_ (nK (K:=K) rfl) (by rfl) T.isinstance bc (ah (pv 0) (ah (fw (v:=.ref c.BadFlow) (by rfl) T.mBadFlow rfl) ay))) (ah (a_ (nK (K:=K) rfl) (by rfl) T.isinstance bc (ah (pv 0) (ah (fw (v:=.ref c.BadRest) (by rfl) T.mBadRest rfl) ay))) (ah (a_ (nK (K:=K) rfl) (by rfl) T.isinstance bc (ah (pv 0) (ah (fw (v:=.ref c.NoFlow) (by rfl) T.mNoFlow rfl) ay))) (ah (a_ (nK (K:=K) rfl) (by rfl) T.isinstance bc (ah (pv 0) (ah (fw (v:=.ref c.BadSet) (by rfl) T.mBadSet rfl) ay))) ay)))))))
   (ax (bA (i:=1) scX.nd rfl (Or.inl rfl) (bK gd (pv 1) (de (ah (a_ (nK (K:=K) rfl) (by rfl) T.isinstance bc (ah (pv 0) (ah (fw (v:=.ref c.BadPaper) (by rfl) T.mBadPaper rfl) ay))) (ah (a_ (nK (K:=K) rfl) (by rfl) T.isinstance bc (ah (pv 0) (ah (fw (v:=.ref c.BadText) (by rfl) T.mBadText rfl) ay))) (ah (a_ (nK (K:=K) rfl) (by rfl) T.isinstance bc (ah (pv 0) (ah (fw (v:=.ref c.BadDeed) (by rfl) T.mBadDeed rfl) ay))) ay))))))
   (aQ (cC (mZ (gz gm (gC PySem.F.plainAttrs_list PySem.F.slot_list_count PySem.F.type_list_count (vU (K:=K) rfl) (pv 1) (ah (jO) ay)) (aN) (cw _)) (mZ (a_ (nK (K:=K) rfl) (by rfl) T.isinstance bc (ah (pv 0) (ah (fw (v:=.ref c.FlowError) (by rfl) T.mFlowError rfl) ay))) (pC (a_ (nK (K:=K) rfl) (by rfl) T.isinstance bc (ah (pv 0) (ah (kj (v:=.ty "ValueError") (by rfl) T.ValueError (show bootBuiltins "ValueError"=some (.type "ValueError") by decide +kernel) rfl) ay)))))))))),?_⟩
  refine ⟨_,rfl,a,B,_,_,b1,rfl,rfl,fun _ z=>z,ha,al.ex,h1,_,rfl,a,B,_,_,b2,rfl,rfl,fun _ z=>z,ha,al.ex,h2,_,rfl,a,B,_,_,b3,rfl,rfl,fun _ z=>z,ha,al.ex,h3,
   _,rfl,a,B,_,_,b4,rfl,rfl,fun _ z=>z,ha,al.ex,h4,(by show 4≤sizeLine;decide),fun l1 n1=>?_⟩
  have s1:bx H (upd H l1 (.lst [.bl b1,.bl b2,.bl b3,.bl b4])):=bx.new n1
  have e1:(upd H l1 (.lst [.bl b1,.bl b2,.bl b3,.bl b4])) l1=some (.lst [.bl b1,.bl b2,.bl b3,.bl b4]):=av
  generalize upd H l1 (.lst [.bl b1,.bl b2,.bl b3,.bl b4])=H1 at s1 e1
  have ha1:=s1 _ _ ha
  refine ⟨_,rfl,_,rfl,a,B,_,_,b5,rfl,rfl,fun _ z=>z,ha1,al.ex,h5,_,rfl,a,B,_,_,b6,rfl,rfl,fun _ z=>z,ha1,al.ex,h6,_,rfl,a,B,_,_,b7,rfl,rfl,fun _ z=>z,ha1,al.ex,h7,
   _,rfl,a,B,_,_,b8,rfl,rfl,fun _ z=>z,ha1,al.ex,h8,(by show 4≤sizeLine;decide),fun l2 n2=>?_⟩
  have s2:bx H1 (upd H1 l2 (.lst [.bl b5,.bl b6,.bl b7,.bl b8])):=bx.new n2
  refine ⟨l1,l2,_,_,rfl,rfl,s2 _ _ e1,av,(by show 8≤sizeLine;decide),fun l3 n3=>?_⟩
  have s3:bx H (upd (upd H1 l2 (.lst [.bl b5,.bl b6,.bl b7,.bl b8])) l3 (.lst ([.bl b1,.bl b2,.bl b3,.bl b4]++[.bl b5,.bl b6,.bl b7,.bl b8]))):=(s1.trans s2).next n3
  have e3:(upd (upd H1 l2 (.lst [.bl b5,.bl b6,.bl b7,.bl b8])) l3 (.lst ([.bl b1,.bl b2,.bl b3,.bl b4]++[.bl b5,.bl b6,.bl b7,.bl b8]))) l3=some (.lst ([.bl b1,.bl b2,.bl b3,.bl b4]++[.bl b5,.bl b6,.bl b7,.bl b8])):=av
  generalize upd (upd H1 l2 (.lst [.bl b5,.bl b6,.bl b7,.bl b8])) l3 (.lst ([.bl b1,.bl b2,.bl b3,.bl b4]++[.bl b5,.bl b6,.bl b7,.bl b8]))=H3 at s3 e3
  have ha3:=s3 _ _ ha
  refine ⟨_,rfl,_,rfl,a,B,_,_,b9,rfl,rfl,fun _ z=>z,ha3,al.ex,h9,_,rfl,a,B,_,_,b10,rfl,rfl,fun _ z=>z,ha3,al.ex,h10,_,rfl,a,B,_,_,b11,rfl,rfl,fun _ z=>z,ha3,al.ex,h11,
   (by show 3≤sizeLine;decide),fun l4 n4=>?_⟩
  have s4:bx H3 (upd H3 l4 (.lst [.bl b9,.bl b10,.bl b11])):=bx.new n4
  refine ⟨l3,l4,_,_,rfl,rfl,s4 _ _ e3,av,(by show 11≤sizeLine;decide),fun l5 n5=>?_⟩
  have s5:=(s3.trans s4).next (o:=.lst (([.bl b1,.bl b2,.bl b3,.bl b4]++[.bl b5,.bl b6,.bl b7,.bl b8])++[.bl b9,.bl b10,.bl b11])) n5
  have ha5:=s5 _ _ ha
  refine ⟨_,rfl,.inl ⟨rfl,_,SqL.of av⟩,l5,_,_,rfl,rfl,SqL.of av,rfl,rfl,rfl,_,rfl,?_⟩
  rw [show (([V.bl b1,V.bl b2,V.bl b3,V.bl b4]++[V.bl b5,V.bl b6,V.bl b7,V.bl b8])++[V.bl b9,V.bl b10,V.bl b11]).countP (fun z=>eqV z (V.bl true))=1 from cnt]
  refine ft ⟨_,rfl,a,B,_,_,true,rfl,rfl,fun _ z=>z,ha5,al.ex,al.fe,_,rfl,ft ⟨_,rfl,a,B,_,_,true,rfl,rfl,fun _ z=>z,ha5,al.ex,al.ve,k _ s5⟩⟩
def spE (K:ai):Sp:=fun vs H Q _=>∃(a:Addr) (ns:List Int) (m c y:Int),vs=[.ref a,.int m,.int c,.int y]∧SqL K H a (ns.map V.int)∧1≤m∧m≤1000∧0≤c∧c≤1000 ∧
 ∀(l:Addr) (xs:List V) (es:List (Int×Int)) (H':Hp),H l=none→bx H H'→H' l=some (.lst xs)→Pairs K H' xs es→es.length=c.toNat→cV es m→(∀v∈xs,jP H' v)→Q (.ref l) H'
theorem scE:bS ["script","many","count","way","rest","found","k","cell","mixed"] ["script","many","count","way"] (aB sE):=⟨rfl,rfl,rfl,by decide +kernel,rfl,by decide +kernel,by decide +kernel⟩
theorem gK {H:Hp} {l:Addr} {zs:List V} {o:HO} {v:V} (h:jP H v) (hl:H l=some (.lst zs)):jP (upd H l o) v:=by
 obtain ⟨r,ob,xs,e,h1,h2⟩:=h
 exact ⟨r,ob,xs,e,by rw [bX (ic h1 hl (by intro z;cases z))];exact h1,h2⟩
theorem Bg {f:Addr} {fd:FuncData} (F:Fun K "_law_ends" "_law_ends" sE f fd) (T:Txt K mg c) (D_C:Def P w K mg base 1 "_law_cell" ["script","k"] (spC K)):fm P w K mg base CX0 2 f fd ["script","many","count","way"] (spE K):=by
 refine F.ok scE (fun vs H Q E h=>?_) (fun cdv A outer s H vs Q E hr h=>?_)
 ·obtain ⟨a,ns,m,c,y,rfl,_⟩:=h
  rfl
 ·obtain ⟨a,ns,m,c,y,rfl,hS,m1,m2,c1,c2,k⟩:=h
  refine ⟨_,ax (dq (bA (i:=4) scE.nd rfl (Or.inl rfl) (a_ ji (by rfl) T.abs PyProof.Rows.boot_abs (ah (bP D_C hr (ah (pv 0) (ah (aN) ay))) ay))))
   (ax (bA (i:=5) scE.nd rfl (Or.inl rfl) (de ay))
   (ax (fk PassesOwn.never rfl (ef rfl T.range (ah (pv 2) ay)) (bG (i:=6) scE.nd rfl (Or.inl rfl))
    (ax (bA (i:=7) scE.nd rfl (Or.inl rfl) (bP D_C hr (ah (pv 0) (ah (bK eW (aN) (pv 6)) ay))))
   (ax (dq (dZ (bL gm (pv 3) (aN) (cw _))
    (ax (bA (i:=7) scE.nd rfl (Or.inl rfl) (pv 4))
   (aQ (bA (i:=4) scE.nd rfl (Or.inl rfl) (bK eV (pv 4) (bK jq (pv 1) (pv 1)))))) (cL)))
   (ax (dq (dZ (bL gm (pv 3) (aN) (cw _))
    (ax (dq (bA (i:=8) scE.nd rfl (Or.inl rfl) (bK dX (bK jq (bK eW (bK eW (bK dX (bP D_C hr (ah (pv 0) (ah (aN) ay))) (aN)) (bK jq (aN) (pv 6))) (aN)) (aN)) (aN))))
   (ax (dq (bA (i:=8) scE.nd rfl (Or.inl rfl) (bK dX (bK jq (pv 8) (pv 8)) (aN))))
   (aQ (bA (i:=7) scE.nd rfl (Or.inl rfl) (bK eV (bK dX (bK jq (pv 8) (aN)) (aN)) (aN)))))) (cL)))
   (aQ (dk (gC PySem.F.plainAttrs_list PySem.F.slot_list_append PySem.F.type_list_append eI (pv 5) (ah (kg (ah (bK dX (pv 7) (pv 1)) (ah (bK dX (bK eV (pv 7) (pv 1)) (pv 1)) ay))) ay))))))))
   (aQ (cC (pv 5))))),?_⟩
  refine ⟨fun σ' H'=>H'=H∧∃r,σ'=[some (.ref a),some (.int m),some (.int c),some (.int y),some (.int r),none,none,none,none],?_,?_⟩
  ·exact ⟨_,rfl,a,ns,1,rfl,hS,by decide,_,rfl,rfl,_,rfl⟩
  rintro σ' H ⟨rfl,r0,rfl⟩
  refine ⟨by decide,fun l hl=>?_⟩
  have s0:bx H (upd H l (.lst [])):=bx.new hl
  refine ⟨_,rfl,c,rfl,by lia,by lia,fF dv (fun i σ H2=>∃(r:Int) (xs:List V) (es:List (Int×Int)) (v6 v7 v8:Option V),σ=[some (.ref a),some (.int m),some (.int c),some (.int y),some (.int r),some (.ref l),v6,v7,v8] ∧
    bx H H2∧H2 l=some (.lst xs)∧Pairs K H2 xs es∧es.length=i∧cV es m∧∀v∈xs,jP H2 v) ⟨r0,[],[],none,none,none,rfl,s0,av,.nil,rfl,cV.nil,fun v hv=>(nomatch hv)⟩ (fun _ _ _ _ _=>trivial) ?_ ?_⟩
  ·rintro i σ H2 hi ⟨r,xs,es,v6,v7,v8,rfl,sH,hl2,hp,he,hE,hth⟩
   refine ⟨_,rfl,_,rfl,_,_,rfl,rfl,a,ns,_,rfl,sH.seq hS,by lia,?_⟩
   generalize ns.getD ((2:Int)+(0+(i:Nat))).toNat 0=c0
   refine ⟨fun σ' H'=>H'=H2∧∃r' c',σ'=[some (.ref a),some (.int m),some (.int c),some (.int y),some (.int r'),some (.ref l),some (.int (0+(i:Nat))),some (.int c'),v8],?_,?_⟩
   ·refine ⟨_,rfl,rfl,_,rfl,fX (fun c1=>?_) (fun c1=>?_)⟩
    ·have hmm:0<m*m:=Int.mul_pos (by lia) (by lia)
     have hmm2:m*m<1073741824:=by
      have:m*m≤1000*1000:=Int.mul_le_mul m2 m2 (by lia) (by decide)
      lia
     refine ⟨_,rfl,_,rfl,_,rfl,_,rfl,_,_,rfl,rfl,.inl ⟨by lia,by lia⟩,_,_,rfl,rfl,⟨hmm,hmm2⟩,?_⟩
     exact ⟨rfl,_,_,rfl⟩
    ·exact ⟨rfl,_,_,rfl⟩
   ·rintro σ' H2 ⟨rfl,r',c',rfl⟩
    refine ⟨fun σ' H'=>H'=H2∧∃c' v8,σ'=[some (.ref a),some (.int m),some (.int c),some (.int y),some (.int r'),some (.ref l),some (.int (0+(i:Nat))),some (.int c'),v8],?_,?_⟩
    ·refine ⟨_,rfl,rfl,_,rfl,fX (fun c1=>?_) (fun c1=>?_)⟩
     ·refine ⟨fun σ' H'=>H'=H2∧∃q:Int,0≤q∧q<2147483647∧σ'=[some (.ref a),some (.int m),some (.int c),some (.int y),some (.int r'),some (.ref l),some (.int (0+(i:Nat))),some (.int c'),some (.int q)],?_,?_⟩
      ·refine ⟨_,rfl,a,ns,1,rfl,sH.seq hS,by decide,_,_,rfl,rfl,(by show (0:Int)<1000000007;decide),_,rfl,_,_,rfl,rfl,.inl ⟨by decide,by decide⟩,_,_,rfl,rfl,_,_,rfl,rfl,_,_,rfl,rfl,.inr ⟨by decide,by decide⟩,_,_,rfl,rfl,(by show (0:Int)<2147483647;decide),rfl,_,bU _ (by decide),bD _ (by decide),rfl⟩
      rintro σ' H2 ⟨rfl,q,q0,q1,rfl⟩
      refine ⟨fun σ' H'=>H'=H2∧∃q:Int,0≤q∧q<2147483647∧σ'=[some (.ref a),some (.int m),some (.int c),some (.int y),some (.int r'),some (.ref l),some (.int (0+(i:Nat))),some (.int c'),some (.int q)],?_,?_⟩
      ·refine ⟨_,rfl,_,rfl,_,_,rfl,rfl,.inl ⟨by lia,by lia⟩,_,_,rfl,rfl,(by show (0:Int)<2147483647;decide),rfl,_,bU _ (by decide),bD _ (by decide),rfl⟩
      rintro σ' H2 ⟨rfl,q,q0,q1,rfl⟩
      exact ⟨_,rfl,_,_,rfl,rfl,.inl ⟨by lia,by lia⟩,_,_,rfl,rfl,(by show (0:Int)<2147483647;decide),_,_,rfl,rfl,⟨by decide,by decide⟩,rfl,_,_,rfl⟩
     ·exact ⟨rfl,_,_,rfl⟩
    ·rintro σ' H2 ⟨rfl,c2,v8,rfl⟩
     refine ⟨_,rfl,.inl ⟨rfl,_,SqL.of hl2⟩,_,rfl,_,rfl,_,_,rfl,rfl,(by show 0<m;lia),_,rfl,_,rfl,_,_,rfl,rfl,⟨by lia,by lia⟩,_,rfl,_,_,rfl,rfl,(by show 0<m;lia),(by show 2≤sizeLine;decide),fun t ob ht hob=>?_⟩
     have s2:bx H2 (upd H2 t (.frz ob (.tup [.int (c2%m),.int (c2/m%m)]))):=bx.new ht
     have hlt:l≠t:=bw hl2 ht
     have hl3:(upd H2 t (.frz ob (.tup [.int (c2%m),.int (c2/m%m)]))) l=some (.lst xs):=s2 _ _ hl2
     have hlen:=hp.len
     refine ⟨l,_,_,rfl,rfl,hl3,aE (by lia),?_⟩
     refine ⟨r',xs++[.ref t],es++[(c2%m,c2/m%m)],_,_,_,rfl,(sH.trans s2).upd hl,av,?_,by rw [aw,he];rfl,hE.snoc ⟨bU _ (by lia),bD _ (by lia),bU _ (by lia),bD _ (by lia)⟩,fun v hv=>?_⟩
     rotate_left
     ·rcases aF.mp hv with y | y
      ·exact gK ((hth v y).same s2) hl3
      ·rw [ao.mp y];exact ⟨t,ob,_,rfl,by rw [bX hlt.symm];exact av,hob⟩
     refine (Pairs.lU dF hl3 (hp.same s2)).snoc (e:=(c2%m,c2/m%m)) ?_
     exact .inl (.inr ⟨ob,by rw [bX hlt.symm];exact av⟩)
  ·rintro σ H2 ⟨r,xs,es,v6,v7,v8,rfl,sH,hl2,hp,he,hE,hth⟩
   exact ⟨_,rfl,k l xs es H2 hl sH hl2 hp he hE hth⟩
def spD (K:ai):Sp:=fun vs H Q _=>∃(a:Addr) (ns:List Int) (mo bo:Int),vs=[.ref a,.int mo,.int bo]∧SqL K H a (ns.map V.int)∧1≤mo∧mo≤20∧0≤bo∧bo≤40 ∧
 ∀(t l:Addr) (m:Int) (xs:List V) (es:List (Int×Int)) (H':Hp),H l=none→bx H H'→H' t=some (.tup [.int m,.ref l])→H' l=some (.lst xs)→Pairs K H' xs es→1≤m→m≤mo→(es.length:Int)≤bo→cV es m→(∀v∈xs,jP H' v)→Q (.ref t) H'
theorem scD:bS ["script","most","bound","lead","many","count"] ["script","most","bound"] (aB sD):=⟨rfl,rfl,rfl,by decide +kernel,rfl,by decide +kernel,by decide +kernel⟩
theorem Bh {f:Addr} {fd:FuncData} (F:Fun K "_law_drawn" "_law_drawn" sD f fd) (T:Txt K mg c) (D_C:Def P w K mg base 1 "_law_cell" ["script","k"] (spC K)) (D_E:Def P w K mg base 2 "_law_ends" ["script","many","count","way"] (spE K)):fm P w K mg base CX0 3 f fd ["script","most","bound"] (spD K):=by
 refine F.ok scD (fun vs H Q E h=>?_) (fun cdv A outer s H vs Q E hr h=>?_)
 ·obtain ⟨a,ns,mo,bo,rfl,_⟩:=h
  rfl
 ·obtain ⟨a,ns,mo,bo,rfl,hS,o1,o2,o3,o4,k⟩:=h
  refine ⟨_,ax (bA (i:=3) scD.nd rfl (Or.inl rfl) (bP D_C hr (ah (pv 0) (ah (aN) ay))))
   (ax (dq (bA (i:=4) scD.nd rfl (Or.inl rfl) (bK eW (aN) (bK dX (pv 3) (pv 1)))))
   (ax (dq (bA (i:=5) scD.nd rfl (Or.inl rfl) (bK dX (bK eW (a_ (gc (K:=K) rfl) (by rfl) T.len aS (ah (pv 0) ay)) (bK eV (pv 3) (bK jq (aN) (pv 1)))) (bK eW (pv 2) (aN)))))
   (aQ (cC (iz (ah (pv 4) (ah (bP D_E hr (ah (pv 0) (ah (pv 4) (ah (pv 5) (ah (bK dX (bK eV (pv 3) (pv 1)) (aN)) ay))))) ay))))))),?_⟩
  refine ⟨_,rfl,a,ns,0,rfl,hS,by decide,?_⟩
  generalize ns.getD (0:Int).toNat 0=f1
  refine ⟨fun σ' H'=>H'=H∧∃m:Int,1≤m∧m≤mo∧σ'=[some (.ref a),some (.int mo),some (.int bo),some (.int f1),some (.int m),none],?_,?_⟩
  ·have b1:=bU f1 (show mo≠0 by lia)
   have b2:=bD f1 (show (0:Int)<mo by lia)
   exact ⟨_,rfl,_,rfl,_,_,rfl,rfl,(by show 0<mo;lia),_,_,rfl,rfl,rfl,_,by lia,by lia,rfl⟩
  rintro σ' H ⟨rfl,m,m1,m2,rfl⟩
  refine ⟨fun σ' H'=>H'=H∧∃ct:Int,0≤ct∧ct≤bo∧σ'=[some (.ref a),some (.int mo),some (.int bo),some (.int f1),some (.int m),some (.int ct)],?_,?_⟩
  ·have b1:=fun z:Int=>bU z (show bo+1≠0 by lia)
   have b2:=fun z:Int=>bD z (show (0:Int)<bo+1 by lia)
   refine ⟨_,rfl,a,_,rfl,.inl hS,_,rfl,_,rfl,_,_,rfl,rfl,.inl ⟨by decide,by decide⟩,_,_,rfl,rfl,⟨by lia,by lia⟩,_,_,rfl,rfl,_,rfl,_,_,rfl,rfl,_,_,rfl,rfl,(by show 0<bo+1;lia),rfl,_,b1 _,?_,rfl⟩
   have:=b2 (((ns.map V.int).length:Int)+f1/(3*mo))
   lia
  rintro σ' H ⟨rfl,ct,ct0,ct1,rfl⟩
  refine ⟨_,rfl,_,rfl,_,rfl,_,rfl,_,rfl,_,rfl,_,_,rfl,rfl,⟨by lia,by lia⟩,_,_,rfl,rfl,(by show (0:Int)<3;decide),a,ns,m,ct,_,rfl,hS,m1,by lia,ct0,by lia,fun l xs es H1 hl sH hl1 hp he hE hth=>?_⟩
  refine ⟨(by show 2≤sizeLine;decide),fun t ht=>?_⟩
  have s2:bx H1 (upd H1 t (.tup [.int m,.ref l])):=bx.new ht
  exact k t l _ xs es _ hl (sH.trans s2) av (s2 _ _ hl1) (hp.same s2) m1 m2 (by lia) hE fun v hv=>(hth v hv).same s2
def xY (K:ai):Sp:=fun vs H Q _=>∃(l q:Addr) (m:Int) (xs:List V) (es:List (Int×Int)),vs=[.int m,.ref l,.ref q]∧SqL K H l xs∧Pairs K H xs es∧SqL K H q ((iQ es.length).map V.int)∧1≤m∧m≤20∧es.length≤40∧cV es m ∧
 ∀l2 H',H l2=none→bx H H'→H' l2=some (.lst ((gh es).map V.int))→Q (.ref l2) H'
theorem tO:bS ["many","ends","order","found","names","number","one","two"] ["many","ends","order"] (aB sFo):=⟨rfl,rfl,rfl,by decide +kernel,rfl,by decide +kernel,by decide +kernel⟩
theorem yW {f:Addr} {fd:FuncData} (F:Fun K "_law_forest" "_law_forest" sFo f fd) (T:Txt K mg c):fm P w K mg base CX0 1 f fd ["many","ends","order"] (xY K):=by
 refine F.ok tO (fun vs H Q E h=>?_) (fun cdv A outer s H vs Q E hr h=>?_)
 ·obtain ⟨l,q,m,xs,es,rfl,_⟩:=h
  rfl
 ·obtain ⟨l,q,m,xs,es,rfl,hl,hp,hq,m1,m2,hz,hE,k⟩:=h
  refine ⟨_,ax (bA (i:=3) tO.nd rfl (Or.inl rfl) (de ay))
   (ax (bA (i:=4) tO.nd rfl (Or.inl rfl) (gN rfl rfl T.list rfl T.range (ah (pv 0) ay)))
   (ax (fk PassesOwn.never rfl (iy (K:=K) rfl (pv 2)) (bG (i:=5) tO.nd rfl (Or.inl rfl))
    (ax (bA (i:=6) tO.nd rfl (Or.inr rfl) (cn (ixL (K:=K) rfl) (pv 4) (cn (ixT (K:=K) rfl) (cn (ixL (K:=K) rfl) (pv 1) (pv 5) (fun _ _=>rfl)) (aN) (fun _ _=>rfl)) (fun _ _=>rfl)))
   (ax (bA (i:=7) tO.nd rfl (Or.inr rfl) (cn (ixL (K:=K) rfl) (pv 4) (cn (ixT (K:=K) rfl) (cn (ixL (K:=K) rfl) (pv 1) (pv 5) (fun _ _=>rfl)) (aN) (fun _ _=>rfl)) (fun _ _=>rfl)))
   (aQ (dq (dZ (bL l_ (pv 6) (pv 7) (cw _))
    (ax (dk (gC PySem.F.plainAttrs_list PySem.F.slot_list_append PySem.F.type_list_append eI (pv 3) (ah (pv 5) ay)))
   (aQ (hX (i:=4) (N':=["name","one","two"]) (nl:=1) (js:=[6,7]) rfl (.of (osc:=aB sFo) (N:=["many","ends","order","found","names","number","one","two"]) (by decide +kernel) rfl rfl) (f_ (K:=K) rfl (pv 4))
    (fun _ _ _ _=>bG (i:=0) (show (["name","one","two"]:List Str).Nodup by decide +kernel) rfl (Or.inl rfl)) (fun _ _ _ _=>dG)
    (fun _ _ _ _=>cn (ixL (K:=K) rfl) (de (ah (pv 0) (ah (pv 1) ay))) (fq qS (by rfl) T.int PyProof.Rows.boot_int (ah (gz gm (pv 0) (pv 2) (cw _)) ay)) (fun _ _=>rfl)) tO.nd rfl rfl))) (cL)))))))
   (aQ (cC (a_ (mH (K:=K) rfl) (by rfl) T.sorted PyProof.Rows.boot_sorted (ah (pv 3) ay)))))),?_⟩
  refine ⟨by decide,fun fl nfl=>?_⟩
  have s1:bx H (upd H fl (.lst [])):=bx.new nfl
  have f1:(upd H fl (.lst [])) fl=some (.lst []):=av
  generalize upd H fl (.lst [])=H1 at s1 f1
  refine ⟨_,rfl,m,rfl,by lia,by lia,fun l0 nl0=>?_⟩
  have s0:=s1.next (o:=.lst (((bF m.toNat).map fun i=>0+((i:Nat):Int)).map V.int)) nl0
  have f0:=bx.new (o:=.lst (((bF m.toNat).map fun i=>0+((i:Nat):Int)).map V.int)) nl0 _ _ f1
  have e0:(upd H1 l0 (.lst (((bF m.toNat).map fun i=>0+((i:Nat):Int)).map V.int))) l0=some (.lst (((bF m.toNat).map fun i=>0+((i:Nat):Int)).map V.int)):=av
  have nlf:l0≠fl:=(bw f1 nl0).symm
  generalize upd H1 l0 (.lst (((bF m.toNat).map fun i=>0+((i:Nat):Int)).map V.int))=H0 at s0 e0 f0
  refine ⟨_,rfl,false,q,_,rfl,s0.seq hq,fun J C O hC=>?_⟩
  refine fF O (fun i σ H2=>∃(lb:Addr) (ls:List Int) (v5 v6 v7:Option V),σ=[some (.int m),some (.ref l),some (.ref q),some (.ref fl),some (.ref lb),v5,v6,v7]∧bx H H2∧lb≠fl∧H2 fl=some (.lst ((frN es i).map V.int))∧H2 lb=some (.lst (ls.map V.int))∧ls.length=m.toNat∧Nam m (es.take i) (lf ls)) ⟨l0,_,none,none,none,rfl,s0,nlf,f0,e0,by rw [ae,cu],Nam.start _ _ rfl⟩ (fun i σ H2 _ h=>?_) ?_ ?_
  ·obtain ⟨lb,ls,v5,v6,v7,_,s2,_⟩:=h
   exact hC _ (s2.seq hq)
  ·rintro i σ H2 hi ⟨lb,ls,v5,v6,v7,rfl,s2,nlb,hf2,hl2,hll,hL⟩
   rw [ae,gp] at hi
   have ev:((iQ es.length).map V.int).getD i .non=.int (i:Int):=by rw [aa,br,gI hi];rfl
   have hfl:=jB es i
   obtain ⟨r,ar,hr2,hm⟩:=fE (hp.same s2) (show (0:Int)≤(i:Int) by lia) (show (i:Int)<(es.length:Int) by lia)
   have eT:aX es (i:Int)=es.getD i (0,0):=rfl
   have ei:es[i]?=some (aX es (i:Int)):=by rw [eT,aa,ak hi];rfl
   obtain ⟨b1,b2,b3,b4⟩:=hE _ hm
   have a1:atI (ls.map V.int) (aX es (i:Int)).1=some (.int (lf ls (aX es (i:Int)).1)):=dY (ns:=ls) b1 (by lia)
   have a2:atI (ls.map V.int) (aX es (i:Int)).2=some (.int (lf ls (aX es (i:Int)).2)):=dY (ns:=ls) b3 (by lia)
   try dsimp only
   rw [ev]
   refine ⟨_,rfl,_,rfl,_,rfl,l,xs,_,.ref r,rfl,rfl,s2.seq hl,ar,r,_,0,_,rfl,rfl,hr2,rfl,lb,_,_,_,rfl,rfl,SqL.of hl2,a1,?_⟩
   refine ⟨_,rfl,_,rfl,_,rfl,l,xs,_,.ref r,rfl,rfl,s2.seq hl,ar,r,_,1,_,rfl,rfl,hr2,rfl,lb,_,_,_,rfl,rfl,SqL.of hl2,a2,?_⟩
   have hiff:=hL.iff b1 b2 b3 b4
   have hES:∀a∈es.take i++[aX es (i:Int)],0≤a.1∧a.1<m∧0≤a.2∧a.2<m:=fun a ha=>by
    rcases aF.mp ha with y | y
    ·exact hE a (List.mem_of_mem_take y)
    ·rw [ao.mp y];exact ⟨b1,b2,b3,b4⟩
   refine ⟨fun σ' H'=>∃(lb:Addr) (ls:List Int) (v6 v7:Option V),σ'=[some (.int m),some (.ref l),some (.ref q),some (.ref fl),some (.ref lb),some (.int (i:Int)),v6,v7]∧bx H H'∧lb≠fl∧H' fl=some (.lst ((frN es (i+1)).map V.int))∧H' lb=some (.lst (ls.map V.int))∧ls.length=m.toNat∧Nam m (es.take (i+1)) (lf ls),?_,?_⟩
   ·refine ⟨_,rfl,_,rfl,rfl,_,rfl,?_⟩
    rw [take_snoc ei,jg]
    by_cases c1:lf ls (aX es (i:Int)).1=lf ls (aX es (i:Int)).2
    ·rw [decide_eq_true (show V.int (lf ls (aX es (i:Int)).1)=V.int (lf ls (aX es (i:Int)).2) by rw [c1])]
     have hn:¬inF es i=true:=fun z=>(gQ.mp z) (by rw [←eT];exact hiff.mp c1)
     rw [if_neg hn,bT]
     exact gb ⟨lb,ls,_,_,rfl,s2,nlb,hf2,hl2,hll,hL.skip c1⟩
    ·rw [decide_eq_false (show ¬V.int (lf ls (aX es (i:Int)).1)=V.int (lf ls (aX es (i:Int)).2) by intro z;injection z with z;exact c1 z)]
     have hn:inF es i=true:=gQ.mpr (by rw [←eT];exact fun z=>c1 (hiff.mpr z))
     rw [if_pos hn]
     refine ft ⟨_,rfl,.inl ⟨rfl,_,SqL.of hf2⟩,_,rfl,fl,_,_,rfl,rfl,hf2,aE (by rw [ae];lia),?_⟩
     have x4:eY fl H2 (upd H2 fl (.lst ((frN es i).map V.int++[V.int (i:Int)]))):=dF
     have t4:(upd H2 fl (.lst ((frN es i).map V.int++[V.int (i:Int)]))) fl=some (.lst ((frN es i++[(i:Int)]).map V.int)):=by rw [aH];exact av
     have s4:bx H (upd H2 fl (.lst ((frN es i).map V.int++[V.int (i:Int)]))):=s2.upd nfl
     generalize upd H2 fl (.lst ((frN es i).map V.int++[V.int (i:Int)]))=H4 at x4 t4 s4
     have hl4:=x4 _ _ nlb hl2
     refine ⟨_,rfl,lb,_,rfl,.inl (SqL.of hl4),fun J C O hC=>fD O (fun j ys H5=>bx H4 H5∧ys=((ls.map fun n=>if n=lf ls (aX es (i:Int)).2 then lf ls (aX es (i:Int)).1 else n).take j).map V.int) (by rw [ae];exact aM (aE (by lia))) ⟨bx.refl _,rfl⟩ ?_ ?_ ?_⟩
     ·rintro j ys H5 hj ⟨s5,rfl⟩
      exact ⟨hC _ s5,by rw [ae,aD];lia⟩
     ·rintro j ys H5 hj ⟨s5,rfl⟩
      obtain ⟨n,en,gn⟩:=getD_map_int hj
      rw [ae] at hj
      have fin:∀u,u=(if n=lf ls (aX es (i:Int)).2 then lf ls (aX es (i:Int)).1 else n)→((ls.map fun n=>if n=lf ls (aX es (i:Int)).2 then lf ls (aX es (i:Int)).1 else n).take j).map V.int++[V.int u]=((ls.map fun n=>if n=lf ls (aX es (i:Int)).2 then lf ls (aX es (i:Int)).1 else n).take (j+1)).map V.int:=fun u e=>by
       have hv2:(ls.map fun n=>if n=lf ls (aX es (i:Int)).2 then lf ls (aX es (i:Int)).1 else n)[j]?=some u:=by rw [br,gn,e];rfl
       rw [take_snoc hv2,aH];rfl
      try dsimp only
      rw [en]
      refine ⟨dQ rfl,ft ⟨_,rfl,_,rfl,(by show 2≤sizeLine;decide),fun q1 nq1=>?_⟩⟩
      have s6:=s5.next (o:=.lst [V.int n,V.int (lf ls (aX es (i:Int)).1)]) nq1
      have e6:(upd H5 q1 (.lst [V.int n,V.int (lf ls (aX es (i:Int)).1)])) q1=some (.lst [V.int n,V.int (lf ls (aX es (i:Int)).1)]):=av
      generalize upd H5 q1 (.lst [V.int n,V.int (lf ls (aX es (i:Int)).1)])=H6 at s6 e6
      have hyl:(((ls.map fun n=>if n=lf ls (aX es (i:Int)).2 then lf ls (aX es (i:Int)).1 else n).take j).map V.int).length<sizeLine:=aE (by rw [ae,aD];lia)
      by_cases c2:n=lf ls (aX es (i:Int)).2
      ·refine ⟨_,rfl,_,rfl,rfl,.inr ⟨true,by rw [decide_eq_true (by rw [c2])],?_⟩⟩
       exact ⟨q1,_,1,_,rfl,rfl,SqL.of e6,rfl,hyl,_,by rw [ae];lia,rfl,by rw [ae];lia,s6,fin _ (by rw [if_pos c2])⟩
      ·refine ⟨_,rfl,_,rfl,rfl,.inr ⟨false,by rw [decide_eq_false (by intro z;injection z with z;exact c2 z)],?_⟩⟩
       exact ⟨q1,_,0,_,rfl,rfl,SqL.of e6,rfl,hyl,_,by rw [ae];lia,rfl,by rw [ae];lia,s6,fin _ (by rw [if_neg c2])⟩
     ·rintro ys H5 ⟨s5,rfl⟩ l3 nl3
      rw [ae,bh (by rw [ae];lia)]
      have sN:=s5.next (o:=.lst ((ls.map fun n=>if n=lf ls (aX es (i:Int)).2 then lf ls (aX es (i:Int)).1 else n).map V.int)) nl3
      refine ⟨l3,_,_,_,rfl,s4.trans sN,(bw (s5 _ _ t4) nl3).symm,sN _ _ t4,av,by rw [ae];exact hll,?_⟩
      exact (hL.put ⟨b1,b2,b3,b4⟩).congr hES fun p p0 p1=>(sU ls (fun n=>if n=lf ls (aX es (i:Int)).2 then lf ls (aX es (i:Int)).1 else n) p p0 (by lia)).symm
   ·rintro σ' H' ⟨lb,ls,v6,v7,rfl,h'⟩
    exact ⟨lb,ls,_,_,_,rfl,h'⟩
  ·rintro σ H2 ⟨lb,ls,v5,v6,v7,rfl,s2,nlb,hf2,hl2,hll,hL⟩
   rw [ae,gp] at hf2
   have hfl:=jB es es.length
   refine ⟨_,rfl,fl,_,rfl,SqL.of hf2,by lia,fun l2 ns' nl2 hperm hsrt=>?_⟩
   rw [jk hperm hsrt (ou es es.length)]
   exact k l2 _ (bR s2 nl2) (s2.next nl2) av
def xU (K:ai):Sp:=fun vs H Q _=>∃(l f:Addr) (m:Int) (xs:List V) (es:List (Int×Int)) (fs:List Int),vs=[.int m,.ref l,.ref f]∧SqL K H l xs∧Pairs K H xs es∧SqL K H f (fs.map V.int)∧fs.length=es.length∧1≤m∧m≤20∧es.length≤40∧cV es m ∧
 ∀(l2:Addr) (zs:List Int) (H':Hp),H l2=none→bx H H'→H' l2=some (.lst (zs.map V.int))→zs.length=m.toNat→(∀p:Nat,p<m.toNat→zs.getD p 0=dp p es fs es.length)→Q (.ref l2) H'
theorem yl:bS ["many","ends","amounts","found","k"] ["many","ends","amounts"] (aB sLg):=⟨rfl,rfl,rfl,by decide +kernel,rfl,by decide +kernel,by decide +kernel⟩
theorem yP {f:Addr} {fd:FuncData} (F:Fun K "_law_gains" "_law_gains" sLg f fd) (T:Txt K mg c):fm P w K mg base CX0 1 f fd ["many","ends","amounts"] (xU K):=by
 refine F.ok yl (fun vs H Q E h=>?_) (fun cdv A outer s H vs Q E hr h=>?_)
 ·obtain ⟨l,f,m,xs,es,fs,rfl,_⟩:=h
  rfl
 ·obtain ⟨l,f,m,xs,es,fs,rfl,hl,hp,hf,hfl,m1,m2,hz,hE,k⟩:=h
  have hxl:=hp.len
  refine ⟨_,ax (bA (i:=3) yl.nd rfl (Or.inl rfl) (bK iA (de (ah (aN) ay)) (pv 0)))
   (ax (fk PassesOwn.never rfl (ef rfl T.range (ah (a_ (gc (K:=K) rfl) (by rfl) T.len aS (ah (pv 1) ay)) ay)) (bG (i:=4) yl.nd rfl (Or.inl rfl))
    (ax (ij (bK gr (cn (ixL (K:=K) rfl) (pv 3) (cn (ixT (K:=K) rfl) (cn (ixL (K:=K) rfl) (pv 1) (pv 4) (fun _ _=>rfl)) (aN) (fun _ _=>rfl)) (fun _ _=>rfl)) (cn (ixL (K:=K) rfl) (pv 2) (pv 4) (fun _ _=>rfl))) (jS (pv 3) (cn (ixT (K:=K) rfl) (cn (ixL (K:=K) rfl) (pv 1) (pv 4) (fun _ _=>rfl)) (aN) (fun _ _=>rfl)) set_list))
   (aQ (ij (bK eW (cn (ixL (K:=K) rfl) (pv 3) (cn (ixT (K:=K) rfl) (cn (ixL (K:=K) rfl) (pv 1) (pv 4) (fun _ _=>rfl)) (aN) (fun _ _=>rfl)) (fun _ _=>rfl)) (cn (ixL (K:=K) rfl) (pv 2) (pv 4) (fun _ _=>rfl))) (jS (pv 3) (cn (ixT (K:=K) rfl) (cn (ixL (K:=K) rfl) (pv 1) (pv 4) (fun _ _=>rfl)) (aN) (fun _ _=>rfl)) set_list)))))
   (aQ (cC (pv 3)))),?_⟩
  refine ⟨(by show 1≤sizeLine;decide),fun l1 nl1=>?_⟩
  have s1:bx H (upd H l1 (.lst [V.int 0])):=bx.new nl1
  have e1:(upd H l1 (.lst [V.int 0])) l1=some (.lst [V.int 0]):=av
  generalize upd H l1 (.lst [V.int 0])=H1 at s1 e1
  refine ⟨_,rfl,l1,m,_,rfl,rfl,e1,by lia,by lia,aM (aE (by show 1*m.toNat≤1000;lia)),fun g ng=>?_⟩
  rw [fZ]
  have s2:=s1.next (o:=.lst ((az m.toNat (0:Int)).map V.int)) ng
  have e2:(upd H1 g (.lst ((az m.toNat (0:Int)).map V.int))) g=some (.lst ((az m.toNat (0:Int)).map V.int)):=av
  have ngH:H g=none:=bR s1 ng
  generalize upd H1 g (.lst ((az m.toNat (0:Int)).map V.int))=H2 at s2 e2
  refine ⟨_,rfl,l,xs,rfl,.inl (s2.seq hl),(xs.length:Int),rfl,by lia,by lia,fF dv (fun i σ H3=>∃(zs:List Int) (v4:Option V),σ=[some (.int m),some (.ref l),some (.ref f),some (.ref g),v4]∧bx H H3∧H3 g=some (.lst (zs.map V.int))∧zs.length=m.toNat∧∀p:Nat,p<m.toNat→zs.getD p 0=dp p es fs i) ⟨_,none,rfl,s2,e2,bg ..,fun p hp=>?_⟩ (fun _ _ _ _ _=>trivial) ?_ ?_⟩
  ·rw [aa,cq,if_pos hp];rfl
  ·rintro i σ H3 hi ⟨zs,v4,rfl,s3,e3,hzl,hd⟩
   have hi':i<es.length:=by have:i<xs.length:=hi;lia
   obtain ⟨r,ar,hr2,hm⟩:=fE (hp.same s3) (show (0:Int)≤0+(i:Nat) by lia) (show (0+(i:Nat):Int)<(es.length:Int) by lia)
   have eT:aX es (0+(i:Nat):Int)=es.getD i (0,0):=by unfold aX;rw [show (0+(i:Nat):Int).toNat=i by lia]
   rw [eT] at hr2 hm
   have hg:es[i]?=some (es.getD i (0,0)):=by rw [aa,ak hi'];rfl
   obtain ⟨b1,b2,b3,b4⟩:=hE _ hm
   have af:atI (fs.map V.int) (0+(i:Nat):Int)=some (.int (fs.getD i 0)):=by
    have:=dY (ns:=fs) (k:=(0+(i:Nat):Int)) (by lia) (by lia)
    rwa [show (0+(i:Nat):Int).toNat=i by lia] at this
   have step:=qD (n:=m.toNat) hzl hg b1 (by lia) b3 (by lia) hd
   generalize es.getD i (0,0)=e at *
   have a1:atI (zs.map V.int) e.1=some (.int (zs.getD e.1.toNat 0)):=dY (ns:=zs) b1 (by lia)
   refine ⟨_,rfl,_,rfl,_,rfl,l,xs,_,.ref r,rfl,rfl,s3.seq hl,ar,r,_,0,_,rfl,rfl,hr2,rfl,g,_,_,_,rfl,rfl,SqL.of e3,a1,_,rfl,_,rfl,f,_,_,_,rfl,rfl,s3.seq hf,af,_,_,rfl,rfl,?_⟩
   refine ⟨_,rfl,_,rfl,_,rfl,l,xs,_,.ref r,rfl,rfl,s3.seq hl,ar,r,_,0,_,rfl,rfl,hr2,rfl,g,_,e.1,_,rfl,rfl,e3,gP b1 (by rw [ae];lia),?_⟩
   rw [fO]
   have s4:bx H (upd H3 g (.lst ((zs.set e.1.toNat (zs.getD e.1.toNat 0-fs.getD i 0)).map V.int))):=s3.upd ngH
   have e4:(upd H3 g (.lst ((zs.set e.1.toNat (zs.getD e.1.toNat 0-fs.getD i 0)).map V.int))) g=some (.lst ((zs.set e.1.toNat (zs.getD e.1.toNat 0-fs.getD i 0)).map V.int)):=av
   have hr4:SqT K (upd H3 g (.lst ((zs.set e.1.toNat (zs.getD e.1.toNat 0-fs.getD i 0)).map V.int))) r [.int e.1,.int e.2]:=(dF (a:=g)).tup e3 hr2
   generalize upd H3 g (.lst ((zs.set e.1.toNat (zs.getD e.1.toNat 0-fs.getD i 0)).map V.int))=H4 at s4 e4 hr4
   have a2:atI ((zs.set e.1.toNat (zs.getD e.1.toNat 0-fs.getD i 0)).map V.int) e.2=some (.int ((zs.set e.1.toNat (zs.getD e.1.toNat 0-fs.getD i 0)).getD e.2.toNat 0)):=dY (ns:=zs.set e.1.toNat (zs.getD e.1.toNat 0-fs.getD i 0)) b3 (by rw [bN];lia)
   refine ⟨_,rfl,_,rfl,_,rfl,l,xs,_,.ref r,rfl,rfl,s4.seq hl,ar,r,_,1,_,rfl,rfl,hr4,rfl,g,_,_,_,rfl,rfl,SqL.of e4,a2,_,rfl,_,rfl,f,_,_,_,rfl,rfl,s4.seq hf,af,_,_,rfl,rfl,?_⟩
   refine ⟨_,rfl,_,rfl,_,rfl,l,xs,_,.ref r,rfl,rfl,s4.seq hl,ar,r,_,1,_,rfl,rfl,hr4,rfl,g,_,e.2,_,rfl,rfl,e4,gP b3 (by rw [ae,bN];lia),?_⟩
   rw [fO]
   exact ⟨_,_,rfl,s4.upd ngH,av,by rw [bN,bN];exact hzl,step⟩
  ·rintro σ H3 ⟨zs,v4,rfl,s3,e3,hzl,hd⟩
   rw [show ((xs.length:Int)).toNat=es.length from hxl] at hd
   exact ⟨_,rfl,k g zs H3 ngH s3 e3 hzl hd⟩
def xT (K:ai):Sp:=fun vs H Q _=>∃(p:Addr) (ns:List Int) (n:Int),vs=[.ref p,.int n]∧H p=some (.lst (ns.map V.int))∧n=(ns.length:Int)∧ns.length≤900∧∀H',bx H H'→Q (.bl true) H'
theorem AF:bS ["found","many"] ["found","many"] (aB sLm):=⟨rfl,rfl,rfl,by decide +kernel,rfl,by decide +kernel,by decide +kernel⟩
theorem jR:∀n:Nat,(az n (V.bl true)).all tv=true∧(az n (V.bl true)).all oN=true
 | 0=>⟨rfl,rfl⟩
 | n+1=>by rw [di,c_,c_,(jR n).1,(jR n).2];exact ⟨rfl,rfl⟩
theorem yO {f:Addr} {fd:FuncData} (F:Fun K "_law_amounts" "_law_amounts" sLm f fd) (T:Txt K mg c) (D_H:Def P w K mg base 1 "_law_whole" ["found"] (spH K)):fm P w K mg base CX0 2 f fd ["found","many"] (xT K):=by
 refine F.ok AF (fun vs H Q E h=>?_) (fun cdv A outer s H vs Q E hr h=>?_)
 ·obtain ⟨p,ns,n,rfl,_⟩:=h
  rfl
 ·obtain ⟨p,ns,n,rfl,hp,hn,hz,k⟩:=h
  refine ⟨_,ax (dZ (PW.pt (jN (ig (gX (a_ (cIs (K:=K) rfl) (by rfl) T.isinstance bc (ah (pv 0) (ah (kj (v:=.ty "list") (by rfl) T.list cH rfl) ay))))) (iV (bL l_ (a_ (gc (K:=K) rfl) (by rfl) T.len aS (ah (pv 0) ay)) (pv 1) (cw _)))))
    (aQ (cC (jO))) (cL))
   (aQ (cC (a_ (va (K:=K) rfl rfl) (by rfl) T.all dH (ah (fG (N':=["amount"]) (nl:=1) (js:=[]) rfl (.of (osc:=aB sLm) (N:=["found","many"]) (by decide +kernel) rfl rfl) (f_ (K:=K) rfl (pv 0))
    (fun _ _ _ _=>bG (i:=0) (show (["amount"]:List Str).Nodup by decide +kernel) rfl (Or.inl rfl)) (fun _ _ _ _=>dG)
    (fun _ _ _ _=>bP D_H hr (ah (pv 0) ay))) ay)))),?_⟩
  refine ⟨_,rfl,_,_,_,_,true,rfl,rfl,fun _ z=>z,.of (.lst hp),kq _ _,_,rfl,gb ?_⟩
  refine ⟨_,rfl,p,_,rfl,.inl (SqL.of hp),_,rfl,rfl,_,rfl,?_⟩
  rw [decide_eq_true (show V.int ((ns.map V.int).length:Int)=V.int n by rw [ae,hn])]
  refine gb ?_
  refine ⟨_,rfl,p,_,rfl,.inl (SqL.of hp),fun J C O hC=>fD O (fun i ys H2=>H2=H∧ys=az i (V.bl true)) (by rw [ae];exact aM (aE (by lia))) ⟨rfl,rfl⟩ ?_ ?_ ?_⟩
  ·rintro i ys H2 hi ⟨rfl,rfl⟩
   exact ⟨hC _ (bx.refl _),by rw [bg];exact aO _⟩
  ·rintro i ys H hi ⟨rfl,rfl⟩
   obtain ⟨v,ev,gv⟩:=getD_map_int hi
   rw [ae] at hi
   try dsimp only
   rw [ev]
   refine ⟨dQ rfl,ft ⟨_,rfl,_,rfl,aE (by rw [bg];lia),_,by rw [ae];lia,rfl,by rw [ae];lia,rfl,?_⟩⟩
   rw [List.replicate_succ']
  ·rintro ys H ⟨rfl,rfl⟩ l nl
   refine ⟨l,_,rfl,.inl (SqL.of av),(jR _).2,?_⟩
   rw [(jR _).1]
   exact k _ (bx.new nl)
def yd (K:ai):Sp:=fun vs H Q _=>∃(ce:Int) (n:Nat),vs=[.int ce,.int n]∧n≤40∧∀(l:Addr) (ss:List Int) (H':Hp),H l=none→bx H H'→H' l=some (.lst (ss.map V.int))→fB n ss→Q (.ref l) H'
theorem vB:bS ["cell","many","rest","found","k"] ["cell","many"] (aB sCh):=⟨rfl,rfl,rfl,by decide +kernel,rfl,by decide +kernel,by decide +kernel⟩
theorem zg {f:Addr} {fd:FuncData} (F:Fun K "_law_chosen" "_law_chosen" sCh f fd) (T:Txt K mg c):fm P w K mg base CX0 1 f fd ["cell","many"] (yd K):=by
 refine F.ok vB (fun vs H Q E h=>?_) (fun cdv A outer s H vs Q E hr h=>?_)
 ·obtain ⟨ce,n,rfl,_⟩:=h
  rfl
 ·obtain ⟨ce,n,rfl,hn,k⟩:=h
  refine ⟨_,ax (bA (i:=2) vB.nd rfl (Or.inl rfl) (a_ ji (by rfl) T.abs PyProof.Rows.boot_abs (ah (pv 0) ay)))
   (ax (bA (i:=3) vB.nd rfl (Or.inl rfl) (de ay))
   (ax (fk PassesOwn.never rfl (ef rfl T.range (ah (pv 1) ay)) (bG (i:=4) vB.nd rfl (Or.inl rfl))
    (ax (dq (dZ (bL gm (bK dX (pv 2) (aN)) (aN) (cw _))
    (aQ (dk (gC PySem.F.plainAttrs_list PySem.F.slot_list_append PySem.F.type_list_append eI (pv 3) (ah (pv 4) ay)))) (cL)))
   (aQ (bA (i:=2) vB.nd rfl (Or.inl rfl) (bK eV (pv 2) (aN))))))
   (aQ (cC (pv 3))))),?_⟩
  refine ⟨_,rfl,_,rfl,by decide,fun l nl=>?_⟩
  generalize (if ce<0 then -ce else ce)=r0
  have s1:=bx.new (o:=.lst []) nl
  have e1:(upd H l (.lst [])) l=some (.lst []):=av
  generalize upd H l (.lst [])=H1 at s1 e1
  refine ⟨_,rfl,(n:Int),rfl,by lia,by lia,?_⟩
  rw [bz]
  refine fF dv (fun i σ H2=>∃(r:Int) (ss:List Int) (v4:Option V),σ=[some (.int ce),some (.int n),some (.int r),some (.ref l),v4]∧bx H H2∧H2 l=some (.lst (ss.map V.int))∧fB i ss) ⟨r0,[],none,rfl,s1,e1,⟨fun t ht=>(nomatch ht),.nil⟩⟩ (fun _ _ _ _ _=>trivial) ?_ ?_
  ·rintro i σ H2 hi ⟨r,ss,v4,rfl,s2,e2,ok⟩
   have hi':i<n:=hi
   have hsl:=ok.len
   refine ⟨fun σ' H'=>∃ss:List Int,σ'=[some (.int ce),some (.int n),some (.int r),some (.ref l),some (.int (0+(i:Nat)))]∧bx H H'∧H' l=some (.lst (ss.map V.int))∧fB (i+1) ss,?_,?_⟩
   ·refine ⟨_,rfl,_,_,rfl,rfl,(by show (0:Int)<2;decide),rfl,_,rfl,fX (fun _=>?_) (fun _=>?_)⟩
    ·refine ⟨_,rfl,.inl ⟨rfl,_,SqL.of e2⟩,_,rfl,l,_,_,rfl,rfl,e2,aE (by rw [ae];lia),?_⟩
     refine ⟨ss++[0+((i:Nat):Int)],rfl,s2.upd nl,by rw [aH];exact av,⟨fun t ht=>?_,?_⟩⟩
     ·rcases aF.mp ht with y | y
      ·have:=ok.rng t y;lia
      ·rw [ao.mp y];lia
     ·rw [List.pairwise_append]
      refine ⟨ok.up,List.pairwise_singleton ..,fun x hx y hy=>?_⟩
      rw [ao.mp hy]
      have:=ok.rng x hx
      lia
    ·exact ⟨ss,rfl,s2,e2,⟨fun t ht=>by have:=ok.rng t ht;lia,ok.up⟩⟩
   rintro σ' H3 ⟨ss',rfl,s3,e3,ok3⟩
   exact ⟨_,rfl,_,_,rfl,rfl,⟨by decide,by decide⟩,_,ss',_,rfl,s3,e3,ok3⟩
  ·rintro σ H2 ⟨r,ss,v4,rfl,s2,e2,ok⟩
   exact ⟨_,rfl,k l ss H2 nl s2 e2 ok⟩
theorem jD {t:Int}:∀(L:List Int) (j:Nat),j<L.length→L.getD j 0=t→(∀i,i<j→L.getD i 0≠t)→L.eraseIdx j=L.erase t
 | [],_,h,_,_=>absurd h (bM _)
 | a::L,0,_,h,_=>by
  have e:a=t:=h
  subst e
  rw [List.erase_cons_head];rfl
 | a::L,j+1,hj,h,hn=>by
  have e:a≠t:=hn 0 (Nat.succ_pos _)
  rw [List.eraseIdx_cons_succ,List.erase_cons_tail (by simpa using e),jD L j (by simpa using hj) h fun i hi=>hn (i+1) (by lia)]
theorem rV {t:Int} {L:List Int} (h:t∈L):∃j,j<L.length∧L.getD j 0=t∧∀i,i<j→L.getD i 0≠t:=by
 induction L with
 | nil=>cases h
 | cons a L ih =>
  by_cases e:a=t
  ·exact ⟨0,Nat.succ_pos _,e,fun i hi=>absurd hi (bM _)⟩
  ·obtain ⟨j,h1,h2,h3⟩:=ih ((bq.mp h).resolve_left fun z=>e z.symm)
   exact ⟨j+1,by rw [bB];lia,h2,fun i hi=>by
    cases i with
    | zero=>exact e
    | succ i=>exact h3 i (by lia)⟩
def yb (K:ai):Sp:=fun vs H Q _=>∃(l h a:Addr) (m:Int) (xs:List V) (es:List (Int×Int)) (ss:List Int),vs=[.int m,.ref l,.ref h,.ref a]∧SqL K H l xs∧Pairs K H xs es∧(∀v∈xs,jP H v)∧SqL K H h ((gh es).map V.int)∧SqL K H a (ss.map V.int)∧fB es.length ss∧(∀t∈ss,¬t∈gh es)∧1≤m∧m≤20∧es.length≤40∧cV es m ∧
 ∀(l2:Addr) (cs:List Int) (H':Hp),H l2=none→bx H H'→H' l2=some (.lst (cs.map V.int))→fB es.length cs→Q (.ref l2) H'
theorem rj:bS ["many","ends","held","some","found","left","leaf","place","near","number"] ["many","ends","held","some"] (aB sCm):=⟨rfl,rfl,rfl,by decide +kernel,rfl,by decide +kernel,by decide +kernel⟩
theorem rS {es:List (Int×Int)} {t:Int} (h:t∈gh es):0≤t∧t<(es.length:Int)∧inF es t.toNat=true:=ko.mp h
theorem ze {f:Addr} {fd:FuncData} (F:Fun K "_law_completed" "_law_completed" sCm f fd) (T:Txt K mg c):fm P w K mg base CX0 1 f fd ["many","ends","held","some"] (yb K):=by
 refine F.ok rj (fun vs H Q E h=>?_) (fun cdv A outer s H vs Q E hr h=>?_)
 ·obtain ⟨l,h,a,m,xs,es,ss,rfl,_⟩:=h
  rfl
 ·obtain ⟨l,h,a,m,xs,es,ss,rfl,hl,hp,hth,hh,ha,hok,hdis,m1,m2,hz,hE,k⟩:=h
  have hu:A.units+3+64<cLine:=hr.units
  have hxl:=hp.len
  refine ⟨_,ax (bA (i:=4) rj.nd rfl (Or.inl rfl) (fq (lJ (K:=K) rfl) (by rfl) T.list cH (ah (pv 3) ay)))
   (ax (bA (i:=5) rj.nd rfl (Or.inl rfl) (fq (lJ (K:=K) rfl) (by rfl) T.list cH (ah (pv 2) ay)))
   (ax (jd PassesOwn.never (bL (md (K:=K) rfl hu) (pv 5) (de ay) (cw _))
    (ax (bA (i:=6) rj.nd rfl (Or.inl rfl) (pE))
   (ax (fk PassesOwn.never rfl (ef rfl T.range (ah (pv 0) ay)) (bG (i:=7) rj.nd rfl (Or.inr rfl))
    (ax (hX (i:=8) (N':=["number","ends","place"]) (nl:=1) (js:=[1,7]) rfl (.of (osc:=aB sCm) (N:=["many","ends","held","some","found","left","leaf","place","near","number"]) (by decide +kernel) rfl rfl) (f_ (K:=K) rfl (pv 5))
    (fun _ _ _ _=>bG (i:=0) (show (["number","ends","place"]:List Str).Nodup by decide +kernel) rfl (Or.inl rfl)) (fun _ _ _ _=>gY (bL (uj (K:=K) rfl) (pv 2) (cn (ixL (K:=K) rfl) (pv 1) (pv 0) (fun _ _=>rfl)) (by with_unfolding_all rfl)))
    (fun _ _ _ _=>pv 0) rj.nd rfl rfl)
   (aQ (dq (dZ (PW.pt (iW (bL gm (a_ (gc (K:=K) rfl) (by rfl) T.len aS (ah (pv 8) ay)) (aN) (cw _)) (gW (bL vP (pv 6) (pE) (cw _)))))
    (aQ (bA (i:=6) rj.nd rfl (Or.inl rfl) (iz (ah (pv 7) (ah (cn (ixL (K:=K) rfl) (pv 8) (aN) (fun _ _=>rfl)) ay))))) (cL))))))
   (ax (ij (pv 6) (jo (K:=K) (n:=2) rfl rfl (dh (bG (i:=7) rj.nd rfl (Or.inr rfl)) (dh (bG (i:=9) rj.nd rfl (Or.inl rfl)) (fW))) rfl))
   (ax (dq (dZ (bL gm (bK dX (a_ (Aa (K:=K) rfl rfl) (by rfl) T.sum PyProof.Rows.boot_sum (ah (fG (N':=["other","ends","place"]) (nl:=1) (js:=[1,7]) rfl (.of (osc:=aB sCm) (N:=["many","ends","held","some","found","left","leaf","place","near","number"]) (by decide +kernel) rfl rfl) (f_ (K:=K) rfl (pv 4))
    (fun _ _ _ _=>bG (i:=0) (show (["other","ends","place"]:List Str).Nodup by decide +kernel) rfl (Or.inl rfl)) (fun _ _ _ _=>dG)
    (fun _ _ _ _=>uf (K:=K) rfl (cn (ixL (K:=K) rfl) (pv 1) (pv 0) (fun _ _=>rfl)) (ah (pv 2) ay))) ay)) (aN)) (aN) (cw _))
    (aQ (dk (gC PySem.F.plainAttrs_list PySem.F.slot_list_append PySem.F.type_list_append eI (pv 4) (ah (pv 9) ay)))) (cL)))
   (aQ (dk (gC PySem.F.plainAttrs_list PySem.F.slot_list_remove PySem.F.type_list_remove uo (pv 5) (ah (pv 9) ay)))))))))
   (aQ (cC (a_ (mH (K:=K) rfl) (by rfl) T.sorted PyProof.Rows.boot_sorted (ah (pv 4) ay)))))),?_⟩
  clear hu
  refine ⟨_,rfl,a,_,rfl,.inl ha,fun fo nfo=>?_⟩
  have s1:=bx.new (o:=.lst (ss.map V.int)) nfo
  have f1:(upd H fo (.lst (ss.map V.int))) fo=some (.lst (ss.map V.int)):=av
  generalize upd H fo (.lst (ss.map V.int))=H1 at s1 f1
  refine ⟨_,rfl,h,_,rfl,.inl (s1.seq hh),fun le nle=>?_⟩
  have s2:=s1.next (o:=.lst ((gh es).map V.int)) nle
  have f2:=bx.new (o:=.lst ((gh es).map V.int)) nle _ _ f1
  have e2:(upd H1 le (.lst ((gh es).map V.int))) le=some (.lst ((gh es).map V.int)):=av
  have nfl:fo≠le:=bw f1 nle
  have leH:H le=none:=bR s1 nle
  generalize upd H1 le (.lst ((gh es).map V.int))=H2 at s2 f2 e2
  have hfl:=jB es es.length
  refine ⟨fun n σ H3=>∃(L fs:List Int) (v6 v7 v8 v9:Option V),n=L.length∧σ=[some (.int m),some (.ref l),some (.ref h),some (.ref a),some (.ref fo),some (.ref le),v6,v7,v8,v9]∧bx H H3∧H3 fo=some (.lst (fs.map V.int))∧H3 le=some (.lst (L.map V.int))∧L.length≤40∧L.Nodup∧(∀t∈L,0≤t∧t<(es.length:Int)∧inF es t.toNat=true)∧fs.Nodup∧(∀t∈fs,0≤t∧t<(es.length:Int))∧∀t∈fs,¬t∈L,⟨_,gh es,ss,none,none,none,none,rfl,rfl,s2,f2,e2,cx hfl hz,uB es,fun t ht=>rS ht,hok.nd,hok.rng,hdis⟩,?_⟩
  rintro n σ H3 ⟨L,fs,v6,v7,v8,v9,rfl,rfl,s3,f3,e3,hLl,hLn,hLf,hFn,hFr,hFd⟩
  have hfsl:=eZ hFn hFr
  refine ⟨_,rfl,by decide,fun q nq=>?_⟩
  have s4:=bx.new (o:=.lst []) nq
  have q4:(upd H3 q (.lst [])) q=some (.lst ((([]:List Int)).map V.int)):=av
  generalize upd H3 q (.lst [])=H4 at s4 q4
  have s34:=s3.trans s4
  have f4:=s4 _ _ f3
  have e4:=s4 _ _ e3
  refine ⟨dI L,dI [],fh (SqL.of e4),fh (SqL.of q4),eQ _,eQ _,_,rfl,?_⟩
  rw [jE]
  by_cases hL0:L=[]
  ·rw [decide_eq_true hL0]
   refine gb ⟨_,rfl,fo,_,rfl,SqL.of f4,by lia,fun l2 cs nl2 hpm hps=>?_⟩
   exact k l2 cs _ (bR s34 nl2) (s34.next nl2) av ⟨fun t ht=>hFr t (hpm.mem_iff.mp ht),xk hps (hpm.nodup_iff.mpr hFn)⟩
  ·rw [decide_eq_false hL0]
   refine ft ⟨_,fun σ' H' h=>h,?_⟩
   have hcond:∀s∈L,0≤s∧s<(es.length:Int):=fun s hs=>⟨(hLf s hs).1,(hLf s hs).2.1⟩
   refine ⟨_,rfl,m,rfl,by lia,by lia,fF dv (fun i σ H5=>∃(v6 v7 v8:Option V),σ=[some (.int m),some (.ref l),some (.ref h),some (.ref a),some (.ref fo),some (.ref le),v6,v7,v8,v9]∧bx H4 H5∧((v6=some .non∧∀p:Nat,p<i→(L.filter fun s=>atP (p:Int) (aX es s)).length≠1)∨∃(r:Addr) (u t:Int),v6=some (.ref r)∧H5 r=some (.tup [.int u,.int t])∧0≤u∧u<m∧(L.filter fun s=>atP u (aX es s))=[t])) ⟨some .non,_,_,rfl,bx.refl _,.inl ⟨rfl,fun p hp=>absurd hp (bM _)⟩⟩ (fun _ _ _ _ _=>trivial) ?_ ?_⟩
   ·rintro i σ H5 hi ⟨v6,v7,v8,rfl,s5,hlf⟩
    have hi':i<m.toNat:=hi
    have s35:=s34.trans s5
    have e5:=s5 _ _ e4
    have hlm:(L.map V.int).length=L.length:=ae ..
    obtain ⟨p,ep⟩:∃p:Int,p=0+(i:Nat):=⟨_,rfl⟩
    rw [←ep]
    have fl:∀j,((L.take j).filter fun s=>atP p (aX es s)).length≤j:=fun j=>cx (cN _ _) (by rw [aD];lia)
    refine ⟨_,rfl,le,_,rfl,.inl (SqL.of e5),fun J C O hC=>fD O (fun j ys H6=>H6=H5∧ys=((L.take j).filter fun s=>atP p (aX es s)).map V.int) (by rw [hlm];exact aM (aE (by lia))) ⟨rfl,rfl⟩ ?_ ?_ ?_⟩
    ·rintro j ys H6 hj ⟨rfl,rfl⟩
     exact ⟨hC _ (bx.refl _),by rw [ae];exact fl j⟩
    ·rintro j ys H6 hj ⟨rfl,rfl⟩
     obtain ⟨v,ev,gv⟩:=getD_map_int hj
     rw [hlm] at hj
     have hv:=hcond v (aZ gv)
     have hl2:=fl j
     obtain ⟨r,ar,hr2,_⟩:=fE (hp.same s35) hv.1 hv.2
     try dsimp only
     rw [ev]
     refine ⟨dQ rfl,_,rfl,_,rfl,_,rfl,l,xs,v,.ref r,rfl,rfl,s35.seq hl,ar,r,_,rfl,.inr hr2,rfl,rfl,_,rfl,?_⟩
     rw [if_neg aV,show inV (V.int p) [V.int (aX es v).1,V.int (aX es v).2]=atP p (aX es v) from sZ ..]
     refine fX (fun c1=>?_) (fun c1=>?_)
     ·refine ⟨_,rfl,aE (by rw [ae];lia),_,by lia,rfl,by lia,rfl,?_⟩
      rw [take_snoc gv,cU,aH,cY (p:=fun s=>atP p (aX es s)) c1];rfl
     ·refine ⟨_,by lia,rfl,by lia,rfl,?_⟩
      rw [take_snoc gv,cU,aH,cZ (p:=fun s=>atP p (aX es s)) c1];exact (bT _).symm
    ·rintro ys H6 ⟨rfl,rfl⟩ ls nls
     rw [hlm,bZ]
     have s6:=bx.new (o:=.lst ((L.filter fun s=>atP p (aX es s)).map V.int)) nls
     have e6:(upd H6 ls (.lst ((L.filter fun s=>atP p (aX es s)).map V.int))) ls=some (.lst ((L.filter fun s=>atP p (aX es s)).map V.int)):=av
     generalize upd H6 ls (.lst ((L.filter fun s=>atP p (aX es s)).map V.int))=H7 at s6 e6
     have s57:=s5.trans s6
     have up:∀{H8:Hp},bx H7 H8→((v6=some .non∧∀p:Nat,p<i→(L.filter fun s=>atP (p:Int) (aX es s)).length≠1)∨∃(r:Addr) (u t:Int),v6=some (.ref r)∧H8 r=some (.tup [.int u,.int t])∧0≤u∧u<m∧(L.filter fun s=>atP u (aX es s))=[t]):=fun {H8} s8=>hlf.imp_right fun ⟨r,u,t,h1,h2,h3⟩=>⟨r,u,t,h1,s8 _ _ (s6 _ _ h2),h3⟩
     refine ⟨fun σ' H'=>∃(v6 v7 v8:Option V),σ'=[some (.int m),some (.ref l),some (.ref h),some (.ref a),some (.ref fo),some (.ref le),v6,v7,v8,v9]∧bx H4 H'∧((v6=some .non∧∀p:Nat,p<i+1→(L.filter fun s=>atP (p:Int) (aX es s)).length≠1)∨∃(r:Addr) (u t:Int),v6=some (.ref r)∧H' r=some (.tup [.int u,.int t])∧0≤u∧u<m∧(L.filter fun s=>atP u (aX es s))=[t]),?_,fun _ _ z=>z⟩
     refine ⟨_,rfl,ls,_,rfl,.inl (SqL.of e6),rfl,_,rfl,?_⟩
     have hlen:((L.filter fun s=>atP p (aX es s)).map V.int).length=(L.filter fun s=>atP p (aX es s)).length:=ae ..
     by_cases c1:(L.filter fun s=>atP p (aX es s)).length=1
     ·rw [decide_eq_true (show V.int (((L.filter fun s=>atP p (aX es s)).map V.int).length:Int)=V.int 1 by rw [hlen,c1];rfl)]
      rcases hlf with ⟨h1,h2⟩ | ⟨r,u,t,h1,h2,h3⟩
      ·subst h1
       refine ft ⟨_,rfl,rfl,_,rfl,?_⟩
       rw [decide_eq_true rfl]
       obtain ⟨t,et⟩:∃t,(L.filter fun s=>atP p (aX es s))=[t]:=List.length_eq_one_iff.mp c1
       refine ft ⟨_,rfl,_,rfl,ls,_,0,.int t,rfl,rfl,SqL.of e6,by rw [et];rfl,(by show 2≤sizeLine;decide),fun r nr=>?_⟩
       exact ⟨some (.ref r),_,_,rfl,s57.next nr,.inr ⟨r,p,t,rfl,av,by lia,by lia,et⟩⟩
      ·subst h1
       refine ft ⟨_,rfl,rfl,_,rfl,?_⟩
       rw [decide_eq_false (by intro z;cases z)]
       exact gb ⟨_,_,_,rfl,s57,.inr ⟨r,u,t,rfl,s6 _ _ h2,h3⟩⟩
     ·rw [decide_eq_false (show ¬V.int (((L.filter fun s=>atP p (aX es s)).map V.int).length:Int)=V.int 1 by rw [hlen];intro z;injection z with z;lia)]
      refine gb (gb ?_)
      refine ⟨_,_,_,rfl,s57,(up (bx.refl _)).imp_left fun ⟨h1,h2⟩=>⟨h1,fun q hq=>?_⟩⟩
      by_cases c2:q<i
      ·exact h2 q c2
      ·rw [show ((q:Nat):Int)=p by lia];exact c1
   ·rintro σ H5 ⟨v6,v7,v8,rfl,s5,hlf⟩
    obtain ⟨r,u,t,rfl,hr5,u0,u1,hft⟩:∃(r:Addr) (u t:Int),v6=some (.ref r)∧H5 r=some (.tup [.int u,.int t])∧0≤u∧u<m∧(L.filter fun s=>atP u (aX es s))=[t]:=by
     rcases hlf with ⟨_,h2⟩ | h2
     ·exfalso
      obtain ⟨x,_,t,ht,hx⟩:=pT L.length L (aO _) hL0 hLn hLf (-1)
      have hxt:atP x (aX es t)=true:=by
       have:t∈L.filter fun s=>atP x (aX es s):=by rw [hx];exact ao.mpr rfl
       exact (bJ.mp this).2
      have htc:=hcond t ht
      have hmt:aX es t∈es:=by unfold aX;rw [aa,ak (show t.toNat<es.length by lia)];exact cf _
      obtain ⟨b1,b2,b3,b4⟩:=hE _ hmt
      have hxr:0≤x∧x<m:=by
       rcases g_.mp hxt with y | y
       ·rw [←y];exact ⟨b1,b2⟩
       ·rw [←y];exact ⟨b3,b4⟩
      have:=h2 x.toNat (by lia)
      rw [show ((x.toNat:Nat):Int)=x by lia,hx] at this
      exact this rfl
     ·exact h2
    have htL:t∈L:=by
     have:t∈L.filter fun s=>atP u (aX es s):=by rw [hft];exact ao.mpr rfl
     exact (bJ.mp this).1
    have htc:=hcond t htL
    refine ⟨_,rfl,r,_,rfl,SqT.of hr5,rfl,_,_,rfl,_,_,rfl,rfl,?_⟩
    have s35:=s34.trans s5
    have f5:=s5 _ _ f4
    have e5:=s5 _ _ e4
    obtain ⟨j,hj1,hj2,hj3⟩:=rV htL
    have hfm:(fs.map V.int).length=fs.length:=ae ..
    refine ⟨fun σ' H'=>∃(fs':List Int) (v8:Option V),σ'=[some (.int m),some (.ref l),some (.ref h),some (.ref a),some (.ref fo),some (.ref le),some (.ref r),some (.int u),v8,some (.int t)]∧bx H H'∧H' fo=some (.lst (fs'.map V.int))∧H' le=some (.lst (L.map V.int))∧fs'.Nodup∧(∀t∈fs',0≤t∧t<(es.length:Int))∧∀z∈fs',z=t∨¬z∈L,?_,?_⟩
    ·refine ⟨_,rfl,fo,_,rfl,.inl (SqL.of f5),fun J C O hC=>fD O (fun i ys H6=>H6=H5∧∃zs:List Int,ys=zs.map V.int∧zs.length=i) (by rw [hfm];exact aM (aE (by lia))) ⟨rfl,[],rfl,rfl⟩ ?_ ?_ ?_⟩
     ·rintro i ys H6 hi ⟨rfl,zs,rfl,hzl⟩
      exact ⟨hC _ (bx.refl _),by rw [ae];lia⟩
     ·rintro i ys H6 hi ⟨rfl,zs,rfl,hzl⟩
      obtain ⟨v,ev,gv⟩:=getD_map_int hi
      rw [hfm] at hi
      have hv:=hFr v (aZ gv)
      obtain ⟨g,ag,hg2,_⟩:=fE (hp.same s35) hv.1 hv.2
      have hT:jP H6 (.ref g):=by
       have hgm:V.ref g∈xs:=by
        unfold atI at ag
        obtain ⟨q,_,hq⟩:=Option.bind_eq_some_iff.mp ag
        exact aZ hq
       exact (hth _ hgm).same s35
      try dsimp only
      rw [ev]
      refine ⟨dQ rfl,ft ⟨_,rfl,_,rfl,l,xs,v,.ref g,rfl,rfl,s35.seq hl,ag,hT,_,rfl,g,_,_,rfl,rfl,hg2,rfl,rfl,aE (by rw [ae];lia),_,by lia,rfl,by lia,rfl,?_⟩⟩
      exact ⟨zs++[_],by rw [aH];rfl,by rw [aw,hzl];rfl⟩
     rintro ys H6 ⟨rfl,zs,rfl,hzl⟩ lz nlz
     refine ⟨lz,_,rfl,.inl (SqL.of av),?_⟩
     have s6:=s35.next (o:=.lst (zs.map V.int)) nlz
     have f6:=bx.new (o:=.lst (zs.map V.int)) nlz _ _ f5
     have e6:=bx.new (o:=.lst (zs.map V.int)) nlz _ _ e5
     generalize upd H6 lz (.lst (zs.map V.int))=H7 at s6 f6 e6
     refine ⟨_,_,rfl,rfl,(by show (0:Int)<2;decide),rfl,_,rfl,fX (fun _=>?_) (fun _=>?_)⟩
     ·refine ⟨_,rfl,.inl ⟨rfl,_,SqL.of f6⟩,_,rfl,fo,_,_,rfl,rfl,f6,aE (by lia),?_⟩
      refine ⟨fs++[t],_,rfl,s6.upd nfo,by rw [aH];exact av,by rw [bX nfl.symm];exact e6,fI hFn fun z=>hFd t z htL,fun z hz=>?_,fun z hz=>?_⟩
      ·rcases aF.mp hz with y | y
       ·exact hFr z y
       ·rw [ao.mp y];exact htc
      ·rcases aF.mp hz with y | y
       ·exact .inr (hFd z y)
       ·exact .inl (ao.mp y)
     ·exact ⟨fs,_,rfl,s6,f6,e6,hFn,hFr,fun z hz=>.inr (hFd z hz)⟩
    rintro σ' H6 ⟨fs',v8',rfl,s6,f6,e6,hn',hr',hd'⟩
    refine ⟨_,rfl,.inl ⟨rfl,_,SqL.of e6⟩,_,rfl,le,L,t,j,rfl,rfl,e6,hj1,hj2,hj3,?_⟩
    have hel:(L.eraseIdx j).length<L.length:=by rw [List.length_eraseIdx,if_pos hj1];lia
    have hee:=jD L j hj1 hj2 hj3
    refine ⟨_,hel,L.eraseIdx j,fs',_,_,_,_,rfl,rfl,s6.upd leH,by rw [bX nfl];exact f6,av,by lia,?_,fun z hz=>?_,hn',hr',fun z hz hzL=>?_⟩
    ·rw [hee];exact hLn.erase t
    ·rw [hee] at hz;exact hLf z (List.mem_of_mem_erase hz)
    ·rw [hee] at hzL
     rcases hd' z hz with y | y
     ·subst y
      exact (hLn.mem_erase_iff.mp hzL).1 rfl
     ·exact y (List.mem_of_mem_erase hzL)
def cnE (p:Int) (es:List (Int×Int)) (ss:List Int):Int:=(ss.map fun t=>(if (aX es t).1=p then 1 else 0)+(if (aX es t).2=p then (1:Int) else 0)).sum
theorem rY (p:Int) (es:List (Int×Int)) (ss:List Int) (t:Int):cnE p es (ss++[t])=cnE p es ss+((if (aX es t).1=p then 1 else 0)+(if (aX es t).2=p then (1:Int) else 0)):=by
 unfold cnE
 rw [aH,List.sum_append]
 simp only [bf,fT,dN,List.sum_nil]
 lia
theorem wu (p:Int) (es:List (Int×Int)) (t:Nat):∀n,t<n→dp p es (mkS n [(t:Int)]) n=(if (es.getD t (0,0)).2=p then 1 else 0)-(if (es.getD t (0,0)).1=p then 1 else 0):=fun n hn=>by
 have e:mkS n [(t:Int)]=(az n (0:Int)).set t 1:=by
  refine eU (by rw [fA,bN,bg]) fun i h1 h2=>?_
  rw [fA] at h1
  rw [←fJ (by rw [fA];exact h1),jt h1,List.getElem_set,List.getElem_replicate]
  by_cases c:t=i
  ·rw [if_pos c,if_pos (ao.mpr (by lia))]
  ·rw [if_neg c,if_neg (fun z=>c (by have:=ao.mp z;lia))]
 rw [e,lB p es _ _ _ (by rw [bg];exact hn),jG,if_pos hn]
 have z:(az n (0:Int)).getD t 0=0:=by rw [aa,cq];split<;>rfl
 rw [z,Int.sub_zero];lia
theorem wx {es:List (Int×Int)} (p:Int):∀{ss:List Int},ss.Nodup→(∀t∈ss,0≤t∧t<(es.length:Int))→(2:Int)∣dp p es (mkS es.length ss) es.length-cnE p es ss:=by
 intro ss
 induction ss with
 | nil =>
  intro _ _
  obtain ⟨u,hu⟩:=EvS.nil es p
  exact ⟨u,by rw [hu];show 2*u-0=_;lia⟩
 | cons t ss ih =>
  intro hn hr
  rw [dJ] at hn
  obtain ⟨u,hu⟩:=ih hn.2 fun z hz=>hr z (aW _ hz)
  have ht:=hr t aU
  have h1:=wu p es t.toNat es.length (by lia)
  rw [show ((t.toNat:Nat):Int)=t by lia] at h1
  have hl:(mkS es.length ss).length=(mkS es.length [t]).length:=by rw [fA,fA]
  have e:mkS es.length (t::ss)=bQ (·+·) (mkS es.length ss) (mkS es.length [t]):=by
   refine eU (by rw [fA,dU,←hl,fA,eM]) fun i h2 h3=>?_
   rw [fA] at h2
   rw [←fJ (by rw [fA];exact h2),←fJ h3,gR _ _ hl,jt h2,jt h2,jt h2]
   by_cases c:(i:Int)=t
   ·rw [if_pos (bq.mpr (.inl c)),if_neg (show ¬(i:Int)∈ss from fun z=>hn.1 (c▸z)),if_pos (ao.mpr c)];rfl
   ·rw [if_neg (show ¬(i:Int)∈[t] from fun z=>c (ao.mp z))]
    by_cases c2:(i:Int)∈ss
    ·rw [if_pos (aW _ c2),if_pos c2];rfl
    ·rw [if_neg (fun z=>(bq.mp z).elim c c2),if_neg c2];rfl
  have ec:cnE p es (t::ss)=((if (aX es t).1=p then 1 else 0)+(if (aX es t).2=p then (1:Int) else 0))+cnE p es ss:=by
   unfold cnE;rw [bf,dN]
  rw [e,jF p es _ _ hl,h1,ec]
  unfold aX
  by_cases c1:(es.getD t.toNat (0,0)).1=p
  ·rw [if_pos c1]
   exact ⟨u-1,by lia⟩
  ·rw [if_neg c1]
   exact ⟨u,by lia⟩
def tI (K:ai):Sp:=fun vs H Q _=>∃(l q:Addr) (m:Int) (xs:List V) (es:List (Int×Int)) (ss:List Int),vs=[.int m,.ref l,.ref q]∧SqL K H l xs∧Pairs K H xs es∧SqL K H q (ss.map V.int)∧fB es.length ss∧1≤m∧m≤20∧es.length≤40∧cV es m∧∀H',bx H H'→Q (.bl (isR m es (mkS es.length ss) 2)) H'
theorem tN:bS ["many","ends","some","counts","number"] ["many","ends","some"] (aB tP):=⟨rfl,rfl,rfl,by decide +kernel,rfl,by decide +kernel,by decide +kernel⟩
theorem wo {m:Int} {es:List (Int×Int)} {ss zs:List Int} (ok:fB es.length ss) (hz:zs.length=m.toNat) (hd:∀p:Nat,p<m.toNat→zs.getD p 0=cnE p es ss):(zs.map fun z=>V.bl (decide (V.int (z%2)=V.int 0))).all tv=isR m es (mkS es.length ss) 2:=by
 rw [cQ,ux,cJ]
 have two:∀p:Nat,p<m.toNat→(zs.getD p 0%2=0↔dp p es (mkS es.length ss) es.length%2=0):=fun p hp=>by
  obtain ⟨u,hu⟩:=wx (es:=es) p ok.nd ok.rng
  rw [hd p hp]
  lia
 constructor
 ·intro h
  refine ⟨uq,fun p hp=>(two p hp).mp ?_⟩
  have:=h (V.bl (decide (V.int (zs.getD p 0%2)=V.int 0))) (b_.mpr ⟨_,by rw [fJ (by lia)];exact cf _,rfl⟩)
  have e:=of_decide_eq_true (show decide (V.int (zs.getD p 0%2)=V.int 0)=true from this)
  injection e
 ·intro h v hv
  obtain ⟨z,hz',rfl⟩:=b_.mp hv
  obtain ⟨i,hi,rfl⟩:=bV.mp hz'
  have:=(two i (by lia)).mpr (h.2 i (by lia))
  rw [fJ hi] at this
  show decide (V.int (zs[i]%2)=V.int 0)=true
  rw [this];rfl
theorem allB {α:Type} (g:α→Bool):∀l:List α,(l.map fun a=>V.bl (g a)).all oN=true
 | []=>rfl
 | a::l=>by rw [bf,c_,allB g l];rfl
theorem vS {f:Addr} {fd:FuncData} (F:Fun K "_law_even" "_law_even" tP f fd) (T:Txt K mg c):fm P w K mg base CX0 1 f fd ["many","ends","some"] (tI K):=by
 refine F.ok tN (fun vs H Q E h=>?_) (fun cdv A outer s H vs Q E hr h=>?_)
 ·obtain ⟨l,q,m,xs,es,ss,rfl,_⟩:=h
  rfl
 ·obtain ⟨l,q,m,xs,es,ss,rfl,hl,hp,hq,ok,m1,m2,hz,hE,k⟩:=h
  have hsl:=ok.len
  refine ⟨_,ax (bA (i:=3) tN.nd rfl (Or.inl rfl) (bK iA (de (ah (aN) ay)) (pv 0)))
   (ax (fk PassesOwn.never rfl (iy (K:=K) rfl (pv 2)) (bG (i:=4) tN.nd rfl (Or.inl rfl))
    (ax (ij (bK eW (cn (ixL (K:=K) rfl) (pv 3) (cn (ixT (K:=K) rfl) (cn (ixL (K:=K) rfl) (pv 1) (pv 4) (fun _ _=>rfl)) (aN) (fun _ _=>rfl)) (fun _ _=>rfl)) (aN)) (jS (pv 3) (cn (ixT (K:=K) rfl) (cn (ixL (K:=K) rfl) (pv 1) (pv 4) (fun _ _=>rfl)) (aN) (fun _ _=>rfl)) set_list))
   (aQ (ij (bK eW (cn (ixL (K:=K) rfl) (pv 3) (cn (ixT (K:=K) rfl) (cn (ixL (K:=K) rfl) (pv 1) (pv 4) (fun _ _=>rfl)) (aN) (fun _ _=>rfl)) (fun _ _=>rfl)) (aN)) (jS (pv 3) (cn (ixT (K:=K) rfl) (cn (ixL (K:=K) rfl) (pv 1) (pv 4) (fun _ _=>rfl)) (aN) (fun _ _=>rfl)) set_list)))))
   (aQ (cC (a_ (va (K:=K) rfl rfl) (by rfl) T.all dH (ah (fG (N':=["count"]) (nl:=1) (js:=[]) rfl (.of (osc:=aB tP) (N:=["many","ends","some","counts","number"]) (by decide +kernel) rfl rfl) (f_ (K:=K) rfl (pv 3))
    (fun _ _ _ _=>bG (i:=0) (show (["count"]:List Str).Nodup by decide +kernel) rfl (Or.inl rfl)) (fun _ _ _ _=>dG)
    (fun _ _ _ _=>gz gm (bK dX (pv 0) (aN)) (aN) (cw _))) ay))))),?_⟩
  refine ⟨(by show 1≤sizeLine;decide),fun l1 nl1=>?_⟩
  have s1:bx H (upd H l1 (.lst [V.int 0])):=bx.new nl1
  have e1:(upd H l1 (.lst [V.int 0])) l1=some (.lst [V.int 0]):=av
  generalize upd H l1 (.lst [V.int 0])=H1 at s1 e1
  refine ⟨_,rfl,l1,m,_,rfl,rfl,e1,by lia,by lia,aM (aE (by show 1*m.toNat≤1000;lia)),fun g ng=>?_⟩
  rw [fZ]
  have s2:=s1.next (o:=.lst ((az m.toNat (0:Int)).map V.int)) ng
  have e2:(upd H1 g (.lst ((az m.toNat (0:Int)).map V.int))) g=some (.lst ((az m.toNat (0:Int)).map V.int)):=av
  have ngH:H g=none:=bR s1 ng
  generalize upd H1 g (.lst ((az m.toNat (0:Int)).map V.int))=H2 at s2 e2
  have hsm:(ss.map V.int).length=ss.length:=ae ..
  refine ⟨_,rfl,false,q,_,rfl,s2.seq hq,fun J C O hC=>fF O (fun i σ H3=>∃(zs:List Int) (v4:Option V),σ=[some (.int m),some (.ref l),some (.ref q),some (.ref g),v4]∧bx H H3∧H3 g=some (.lst (zs.map V.int))∧zs.length=m.toNat∧∀p:Nat,p<m.toNat→zs.getD p 0=cnE p es (ss.take i)) ⟨_,none,rfl,s2,e2,bg ..,fun p hp=>?_⟩ (fun i σ H3 _ h=>?_) ?_ ?_⟩
  ·rw [aa,cq,if_pos hp];rfl
  ·obtain ⟨zs,v4,_,s3,_⟩:=h
   exact hC _ (s3.seq hq)
  ·rintro i σ H3 hi ⟨zs,v4,rfl,s3,e3,hzl,hd⟩
   obtain ⟨v,ev,gv⟩:=getD_map_int hi
   rw [hsm] at hi
   have hv:=ok.rng v (aZ gv)
   obtain ⟨r,ar,hr2,hm⟩:=fE (hp.same s3) hv.1 hv.2
   obtain ⟨b1,b2,b3,b4⟩:=hE _ hm
   try dsimp only
   rw [ev]
   have a1:atI (zs.map V.int) (aX es v).1=some (.int (zs.getD (aX es v).1.toNat 0)):=dY (ns:=zs) b1 (by lia)
   refine ⟨_,rfl,_,rfl,_,rfl,l,xs,_,.ref r,rfl,rfl,s3.seq hl,ar,r,_,0,_,rfl,rfl,hr2,rfl,g,_,_,_,rfl,rfl,SqL.of e3,a1,_,_,rfl,rfl,?_⟩
   refine ⟨_,rfl,_,rfl,_,rfl,l,xs,_,.ref r,rfl,rfl,s3.seq hl,ar,r,_,0,_,rfl,rfl,hr2,rfl,g,_,(aX es v).1,_,rfl,rfl,e3,gP b1 (by rw [ae];lia),?_⟩
   rw [fO]
   have s4:bx H (upd H3 g (.lst ((zs.set (aX es v).1.toNat (zs.getD (aX es v).1.toNat 0+1)).map V.int))):=s3.upd ngH
   have e4:(upd H3 g (.lst ((zs.set (aX es v).1.toNat (zs.getD (aX es v).1.toNat 0+1)).map V.int))) g=some (.lst ((zs.set (aX es v).1.toNat (zs.getD (aX es v).1.toNat 0+1)).map V.int)):=av
   have hr4:SqT K (upd H3 g (.lst ((zs.set (aX es v).1.toNat (zs.getD (aX es v).1.toNat 0+1)).map V.int))) r [.int (aX es v).1,.int (aX es v).2]:=(dF (a:=g)).tup e3 hr2
   generalize upd H3 g (.lst ((zs.set (aX es v).1.toNat (zs.getD (aX es v).1.toNat 0+1)).map V.int))=H4 at s4 e4 hr4
   have hset:∀p:Nat,p<m.toNat→((zs.set (aX es v).1.toNat (zs.getD (aX es v).1.toNat 0+1)).set (aX es v).2.toNat ((zs.set (aX es v).1.toNat (zs.getD (aX es v).1.toNat 0+1)).getD (aX es v).2.toNat 0+1)).getD p 0=cnE p es (ss.take (i+1)):=fun p hp'=>by
    rw [take_snoc gv,rY,←hd p hp',eR _ _ _ _ (by rw [bN];lia),eR _ _ _ _ (by lia),eR _ _ _ _ (by lia)]
    have t1:(aX es v).1.toNat=p↔(aX es v).1=(p:Int):=by lia
    have t2:(aX es v).2.toNat=p↔(aX es v).2=(p:Int):=by lia
    by_cases c2:(aX es v).2=(p:Int)
    ·rw [if_pos (t2.mpr c2),if_pos c2,t2.mpr c2]
     by_cases c1:(aX es v).1=(p:Int)
     ·rw [if_pos (t1.mpr c1),if_pos c1,t1.mpr c1];lia
     ·rw [if_neg (fun z=>c1 (t1.mp z)),if_neg c1];lia
    ·rw [if_neg (fun z=>c2 (t2.mp z)),if_neg c2]
     by_cases c1:(aX es v).1=(p:Int)
     ·rw [if_pos (t1.mpr c1),if_pos c1,t1.mpr c1];lia
     ·rw [if_neg (fun z=>c1 (t1.mp z)),if_neg c1];lia
   have a2:atI ((zs.set (aX es v).1.toNat (zs.getD (aX es v).1.toNat 0+1)).map V.int) (aX es v).2=some (.int ((zs.set (aX es v).1.toNat (zs.getD (aX es v).1.toNat 0+1)).getD (aX es v).2.toNat 0)):=dY (ns:=zs.set (aX es v).1.toNat (zs.getD (aX es v).1.toNat 0+1)) b3 (by rw [bN];lia)
   refine ⟨_,rfl,_,rfl,_,rfl,l,xs,_,.ref r,rfl,rfl,s4.seq hl,ar,r,_,1,_,rfl,rfl,hr4,rfl,g,_,_,_,rfl,rfl,SqL.of e4,a2,_,_,rfl,rfl,?_⟩
   refine ⟨_,rfl,_,rfl,_,rfl,l,xs,_,.ref r,rfl,rfl,s4.seq hl,ar,r,_,1,_,rfl,rfl,hr4,rfl,g,_,(aX es v).2,_,rfl,rfl,e4,gP b3 (by rw [ae,bN];lia),?_⟩
   rw [fO]
   exact ⟨_,_,rfl,s4.upd ngH,av,by rw [bN,bN];exact hzl,hset⟩
  ·rintro σ H3 ⟨zs,v4,rfl,s3,e3,hzl,hd⟩
   rw [hsm,bZ] at hd
   have hzm:(zs.map V.int).length=zs.length:=ae ..
   refine ⟨_,rfl,g,_,rfl,.inl (SqL.of e3),fun J C O hC=>fD O (fun j ys H4=>H4=H3∧ys=(zs.take j).map fun z=>V.bl (decide (V.int (z%2)=V.int 0))) (by rw [hzm];exact aM (aE (by lia))) ⟨rfl,rfl⟩ ?_ ?_ ?_⟩
   ·rintro j ys H4 hj ⟨rfl,rfl⟩
    exact ⟨hC _ (bx.refl _),by rw [ae,aD];lia⟩
   ·rintro j ys H4 hj ⟨rfl,rfl⟩
    obtain ⟨v,ev,gv⟩:=getD_map_int hj
    rw [hzm] at hj
    try dsimp only
    rw [ev]
    refine ⟨dQ rfl,ft ⟨_,rfl,_,_,rfl,rfl,(by show (0:Int)<2;decide),rfl,aE (by rw [ae,aD];lia),_,by lia,rfl,by lia,rfl,?_⟩⟩
    rw [take_snoc gv,aH];rfl
   ·rintro ys H4 ⟨rfl,rfl⟩ lb nlb
    rw [hzm,bZ]
    refine ⟨lb,_,rfl,.inl (SqL.of av),allB _ _,?_⟩
    rw [wo ok hzl hd]
    exact k _ (s3.next nlb)
def yh (K:ai):Sp:=fun vs H Q _=>∃(q:Addr) (ss:List Int) (n:Nat) (ce:Int),vs=[.ref q,.int n,.int ce]∧SqL K H q (ss.map V.int)∧fB n ss∧n≤40 ∧
 ∀(l:Addr) (bs:List Int) (H':Hp),H l=none→bx H H'→H' l=some (.lst (bs.map V.int))→¬fB n bs→bs.length≤60→Q (.ref l) H'
theorem uY:bS ["some","count","cell","bad","far","way","at"] ["some","count","cell"] (aB sBs):=⟨rfl,rfl,rfl,by decide +kernel,rfl,by decide +kernel,by decide +kernel⟩
theorem fY {n:Nat} {bs:List Int} {t:Int} (hm:t∈bs) (h:t<0∨(n:Int)≤t):¬fB n bs:=fun z=>by have:=z.rng t hm;lia
theorem qU {n:Nat} {bs:List Int} {i:Nat} (hi:i+1<bs.length) (h:bs.getD (i+1) 0≤bs.getD i 0):¬fB n bs:=fun z=>by have:=kI z.up hi;lia
theorem jX {xs ys:List Int} {i:Nat} (h:xs.length=i) (j:Nat):(xs++ys).getD (i+j) 0=ys.getD j 0:=by
 rw [aa,List.getElem?_append_right (by lia),show i+j-xs.length=j by lia,aa]
theorem zk {f:Addr} {fd:FuncData} (F:Fun K "_law_bad_set" "_law_bad_set" sBs f fd) (T:Txt K mg c):fm P w K mg base CX0 1 f fd ["some","count","cell"] (yh K):=by
 refine F.ok uY (fun vs H Q E h=>?_) (fun cdv A outer s H vs Q E hr h=>?_)
 ·obtain ⟨q,ss,n,ce,rfl,_⟩:=h
  rfl
 ·obtain ⟨q,ss,n,ce,rfl,hq,ok,hn,k⟩:=h
  have hu:A.units+3+64<cLine:=hr.units
  refine ⟨_,ax (bA (i:=3) uY.nd rfl (Or.inl rfl) (fq (lJ (K:=K) rfl) (by rfl) T.list cH (ah (pv 0) ay)))
   (ax (dq (bA (i:=4) uY.nd rfl (Or.inl rfl) (bK dX (bK eV (pv 2) (aN)) (bK sP (aN) (aN)))))
   (ax (dq (bA (i:=5) uY.nd rfl (Or.inl rfl) (bK dX (pv 2) (aN))))
   (ax (dq (dZ (PW.pt (iW (bL gm (pv 5) (aN) (cw _)) (gW (bL (md (K:=K) rfl hu) (pv 3) (de ay) (cw _)))))
    (aQ (dk (gC PySem.F.plainAttrs_list PySem.F.slot_list_insert PySem.F.type_list_insert ml (pv 3) (ah (bK dX (bK eV (pv 2) (aN)) (a_ (gc (K:=K) rfl) (by rfl) T.len aS (ah (pv 3) ay))) (ah (cn (ixL (K:=K) rfl) (pv 3) (bK dX (bK eV (pv 2) (aN)) (a_ (gc (K:=K) rfl) (by rfl) T.len aS (ah (pv 3) ay))) (fun _ _=>rfl)) ay))))) (aQ (dq (dZ (PW.pt (iW (bL gm (pv 5) (aN) (cw _)) (gW (bL iO (a_ (gc (K:=K) rfl) (by rfl) T.len aS (ah (pv 3) ay)) (aN) (cw _)))))
    (ax (bA (i:=6) uY.nd rfl (Or.inl rfl) (bK eW (aN) (bK dX (bK eV (pv 2) (aN)) (bK gr (a_ (gc (K:=K) rfl) (by rfl) T.len aS (ah (pv 3) ay)) (aN)))))
   (aQ (ij (de (ah (cn (ixL (K:=K) rfl) (pv 3) (pv 6) (fun _ _=>rfl)) (ah (cn (ixL (K:=K) rfl) (pv 3) (bK gr (pv 6) (aN)) (fun _ _=>rfl)) ay))) (vJ (pv 3) (gL (bK gr (pv 6) (aN))) (gL (bK eW (pv 6) (aN))))))) (aQ (dq (dZ (bL gm (pv 5) (aN) (cw _))
    (aQ (dk (gC PySem.F.plainAttrs_list PySem.F.slot_list_insert PySem.F.type_list_insert ml (pv 3) (ah (aN) (ah (bK gr (kW iR (aN)) (bK iq (pv 4) (bK dX (bK eV (pv 2) (aN)) (aN)))) ay))))) (aQ (dq (dZ (bL gm (pv 5) (aN) (cw _))
    (aQ (dk (gC PySem.F.plainAttrs_list PySem.F.slot_list_append PySem.F.type_list_append eI (pv 3) (ah (bK eW (pv 1) (bK iq (pv 4) (bK dX (bK eV (pv 2) (aN)) (aN)))) ay)))) (aQ (bA (i:=3) uY.nd rfl (Or.inl rfl) (bK gd (de (ah (kW iR (aN)) ay)) (pv 3)))))))))))))))
   (aQ (cC (pv 3)))))),?_⟩
  clear hu
  have hsl:=ok.len
  have hsm:(ss.map V.int).length=ss.length:=ae ..
  refine ⟨_,rfl,q,_,rfl,.inl hq,fun lb nlb=>?_⟩
  have s1:=bx.new (o:=.lst (ss.map V.int)) nlb
  have e1:(upd H lb (.lst (ss.map V.int))) lb=some (.lst (ss.map V.int)):=av
  generalize upd H lb (.lst (ss.map V.int))=H1 at s1 e1
  refine ⟨fun σ' H'=>H'=H1∧∃fa:Int,0≤fa∧fa<10^40∧σ'=[some (.ref q),some (.int n),some (.int ce),some (.ref lb),some (.int fa),none,none],?_,?_⟩
  ·refine ⟨_,rfl,_,_,rfl,rfl,⟨by decide,by decide⟩,_,_,rfl,rfl,⟨by decide,by decide,by decide⟩,_,_,rfl,rfl,(by show (0:Int)<(10:Int)^(40:Int).toNat;decide),rfl,_,bU _ (by decide),bD _ (by decide),rfl⟩
  rintro σ' H' ⟨rfl,fa,fa0,fa1,rfl⟩
  refine ⟨fun σ' H1=>H1=H'∧∃wy:Int,σ'=[some (.ref q),some (.int n),some (.int ce),some (.ref lb),some (.int fa),some (.int wy),none],?_,?_⟩
  ·exact ⟨_,rfl,_,_,rfl,rfl,(by show (0:Int)<5;decide),rfl,_,rfl⟩
  rintro σ' H1 ⟨rfl,wy,rfl⟩
  obtain ⟨Post,hP⟩:∃Post:L2.St→Hp→Prop,Post=fun σ' H'=>∃(lb:Addr) (bs:List Int) (v6:Option V),σ'=[some (.ref q),some (.int n),some (.int ce),some (.ref lb),some (.int fa),some (.int wy),v6]∧H lb=none∧bx H H'∧H' lb=some (.lst (bs.map V.int))∧¬fB n bs∧bs.length≤60:=⟨_,rfl⟩
  have fd2:=fun z:Int=>bU z (show (2:Int)≠0 by decide)
  have fd3:=fun z:Int=>bD z (show (0:Int)<2 by decide)
  refine ⟨Post,?_,?_⟩
  ·refine ⟨_,rfl,rfl,_,rfl,?_⟩
   refine fX (fun c1=>?_) (fun c1=>?_)
   ·refine ⟨_,rfl,by decide,fun l0 n0=>?_⟩
    have s2:=s1.next (o:=.lst []) n0
    have e2:=bx.new (o:=.lst []) n0 _ _ e1
    have e0:(upd H1 l0 (.lst [])) l0=some (.lst (([]:List Int).map V.int)):=av
    generalize upd H1 l0 (.lst [])=H2 at s2 e2 e0
    refine ⟨dI ss,dI [],fh (SqL.of e2),fh (SqL.of e0),eQ _,eQ _,_,rfl,?_⟩
    rw [jE]
    by_cases hs0:ss=[]
    ·rw [decide_eq_true hs0]
     refine gb ?_
     refine ⟨Post,?_,fun _ _ h=>h⟩
     refine ⟨_,rfl,rfl,_,rfl,fX (fun _=>?_) (fun _=>?_)⟩
     ·refine ⟨_,rfl,lb,_,rfl,.inl (SqL.of e2),_,_,rfl,rfl,_,rfl,fX (fun c2=>?_) (fun c2=>?_)⟩
      ·have c2':((ss.map V.int).length:Int)>1:=of_decide_eq_true c2
       have g0:=bU (ce/5) (show ((ss.map V.int).length:Int)-1≠0 by lia)
       have g1:=bD (ce/5) (show (0:Int)<((ss.map V.int).length:Int)-1 by lia)
       refine ⟨_,rfl,_,_,rfl,rfl,⟨by decide,by decide⟩,_,rfl,lb,_,rfl,.inl (SqL.of e2),_,_,rfl,rfl,_,_,rfl,rfl,(by show (0:Int)<((ss.map V.int).length:Int)-1;lia),_,_,rfl,rfl,?_⟩
       obtain ⟨g,hg⟩:∃g:Nat,(g:Int)=ce/5%(((ss.map V.int).length:Int)-1):=⟨(ce/5%(((ss.map V.int).length:Int)-1)).toNat,by lia⟩
       rw [←hg] at g1 ⊢
       have a1:atI (ss.map V.int) (1+(g:Int))=some (.int (ss.getD (g+1) 0)):=by
        have:=dY (ns:=ss) (k:=(1+(g:Int))) (by lia) (by lia)
        rwa [show (1+(g:Int)).toNat=g+1 by lia] at this
       have a0:atI (ss.map V.int) (1+(g:Int)-1)=some (.int (ss.getD g 0)):=by
        have:=dY (ns:=ss) (k:=(1+(g:Int)-1)) (by lia) (by lia)
        rwa [show (1+(g:Int)-1).toNat=g by lia] at this
       refine ⟨_,rfl,_,rfl,lb,_,_,_,rfl,rfl,SqL.of e2,a1,_,rfl,_,rfl,_,_,rfl,rfl,lb,_,_,_,rfl,rfl,SqL.of e2,a0,(by show 2≤sizeLine;decide),fun l1 n1=>?_⟩
       have sN:=s2.next (o:=.lst [V.int (ss.getD (g+1) 0),V.int (ss.getD g 0)]) n1
       have eN:=bx.new (o:=.lst [V.int (ss.getD (g+1) 0),V.int (ss.getD g 0)]) n1 _ _ e2
       have nN:lb≠l1:=bw e2 n1
       refine ⟨_,rfl,_,rfl,_,_,rfl,rfl,_,rfl,_,rfl,_,_,rfl,rfl,_,rfl,lb,l1,_,_,g,g+2,rfl,by congr 1;lia,by congr 1;lia,rfl,nN,eN,av,by lia,by lia,by show (ss.map V.int).length+2≤1000;lia,?_⟩
       rw [hP]
       have hgl:g+1<ss.length:=by lia
       refine ⟨lb,ss.take g++[ss.getD (g+1) 0,ss.getD g 0]++ss.drop (g+2),_,rfl,nlb,sN.upd nlb,by rw [av,aH,aH,List.map_take,List.map_drop];rfl,?_,by rw [aw,aw,aD,cm];show min g ss.length+2+(ss.length-(g+2))≤60;lia⟩
       have hlt:=kI ok.up hgl
       have htl:(ss.take g).length=g:=by rw [aD];lia
       refine qU (i:=g) (by rw [aw,aw,htl];show g+1<g+2+_;lia) ?_
       rw [eK,jX htl 1]
       have z0:(ss.take g++([ss.getD (g+1) 0,ss.getD g 0]++ss.drop (g+2))).getD g 0=ss.getD (g+1) 0:=jX (ys:=[ss.getD (g+1) 0,ss.getD g 0]++ss.drop (g+2)) htl 0
       rw [z0]
       show ss.getD g 0≤ss.getD (g+1) 0
       lia
      ·refine ⟨Post,?_,fun _ _ h=>h⟩
       refine ⟨_,rfl,rfl,_,rfl,fX (fun _=>?_) (fun _=>?_)⟩
       ·refine ⟨_,rfl,.inl ⟨rfl,_,SqL.of e2⟩,_,rfl,_,rfl,_,rfl,_,_,rfl,rfl,⟨by decide,by decide⟩,_,_,rfl,rfl,(by show (0:Int)<2;decide),_,_,rfl,rfl,⟨by lia,by have:=fd2 (ce/5);have:=fd3 (ce/5);lia⟩,_,_,rfl,rfl,lb,_,_,_,rfl,rfl,e2,by decide,by lia,by lia,?_⟩
        rw [hP]
        refine ⟨lb,(-1-fa*(ce/5%2))::ss,_,rfl,nlb,s2.upd nlb,by rw [av];rfl,fY aU (.inl ?_),by rw [bB];lia⟩
        have:=eA fa0 (fd2 (ce/5))
        lia
       ·refine ⟨Post,?_,fun _ _ h=>h⟩
        refine ⟨_,rfl,rfl,_,rfl,fX (fun _=>?_) (fun _=>?_)⟩
        ·refine ⟨_,rfl,.inl ⟨rfl,_,SqL.of e2⟩,_,rfl,_,rfl,_,rfl,_,_,rfl,rfl,⟨by decide,by decide⟩,_,_,rfl,rfl,(by show (0:Int)<2;decide),_,_,rfl,rfl,⟨by lia,by have:=fd2 (ce/5);have:=fd3 (ce/5);lia⟩,_,_,rfl,rfl,lb,_,_,rfl,rfl,e2,aE (by lia),?_⟩
         rw [hP]
         refine ⟨lb,ss++[(n:Int)+fa*(ce/5%2)],_,rfl,nlb,s2.upd nlb,by rw [aH];exact av,fY (aG _ (ao.mpr rfl)) (.inr ?_),by rw [aw];show ss.length+1≤60;lia⟩
         have:=eA fa0 (fd2 (ce/5))
         lia
        ·refine ⟨_,rfl,(by show 1≤sizeLine;decide),fun l1 n1=>?_⟩
         have sN:=s2.next (o:=.lst [V.int (-1)]) n1
         have eN:=bx.new (o:=.lst [V.int (-1)]) n1 _ _ e2
         refine ⟨_,rfl,l1,lb,_,_,rfl,rfl,av,eN,aM (aE (by show 1+(ss.map V.int).length≤1000;lia)),fun l2 n2=>?_⟩
         rw [hP]
         exact ⟨l2,(-1)::ss,_,rfl,bR sN n2,sN.next n2,av,fY aU (.inl (by decide)),by rw [bB];lia⟩
     ·refine gb ?_
      refine ⟨Post,?_,fun _ _ h=>h⟩
      refine ⟨_,rfl,rfl,_,rfl,fX (fun _=>?_) (fun _=>?_)⟩
      ·refine ⟨_,rfl,.inl ⟨rfl,_,SqL.of e2⟩,_,rfl,_,rfl,_,rfl,_,_,rfl,rfl,⟨by decide,by decide⟩,_,_,rfl,rfl,(by show (0:Int)<2;decide),_,_,rfl,rfl,⟨by lia,by have:=fd2 (ce/5);have:=fd3 (ce/5);lia⟩,_,_,rfl,rfl,lb,_,_,_,rfl,rfl,e2,by decide,by lia,by lia,?_⟩
       rw [hP]
       refine ⟨lb,(-1-fa*(ce/5%2))::ss,_,rfl,nlb,s2.upd nlb,by rw [av];rfl,fY aU (.inl ?_),by rw [bB];lia⟩
       have:=eA fa0 (fd2 (ce/5))
       lia
      ·refine ⟨Post,?_,fun _ _ h=>h⟩
       refine ⟨_,rfl,rfl,_,rfl,fX (fun _=>?_) (fun _=>?_)⟩
       ·refine ⟨_,rfl,.inl ⟨rfl,_,SqL.of e2⟩,_,rfl,_,rfl,_,rfl,_,_,rfl,rfl,⟨by decide,by decide⟩,_,_,rfl,rfl,(by show (0:Int)<2;decide),_,_,rfl,rfl,⟨by lia,by have:=fd2 (ce/5);have:=fd3 (ce/5);lia⟩,_,_,rfl,rfl,lb,_,_,rfl,rfl,e2,aE (by lia),?_⟩
        rw [hP]
        refine ⟨lb,ss++[(n:Int)+fa*(ce/5%2)],_,rfl,nlb,s2.upd nlb,by rw [aH];exact av,fY (aG _ (ao.mpr rfl)) (.inr ?_),by rw [aw];show ss.length+1≤60;lia⟩
        have:=eA fa0 (fd2 (ce/5))
        lia
       ·refine ⟨_,rfl,(by show 1≤sizeLine;decide),fun l1 n1=>?_⟩
        have sN:=s2.next (o:=.lst [V.int (-1)]) n1
        have eN:=bx.new (o:=.lst [V.int (-1)]) n1 _ _ e2
        refine ⟨_,rfl,l1,lb,_,_,rfl,rfl,av,eN,aM (aE (by show 1+(ss.map V.int).length≤1000;lia)),fun l2 n2=>?_⟩
        rw [hP]
        exact ⟨l2,(-1)::ss,_,rfl,bR sN n2,sN.next n2,av,fY aU (.inl (by decide)),by rw [bB];lia⟩
    ·rw [decide_eq_false hs0]
     refine ft ?_
     have hp:0<ss.length:=List.length_pos_iff.mpr hs0
     have g0:=bU (ce/5) (show ((ss.map V.int).length:Int)≠0 by lia)
     have g1:=bD (ce/5) (show (0:Int)<((ss.map V.int).length:Int) by lia)
     obtain ⟨g,hg⟩:∃g:Nat,(g:Int)=ce/5%((ss.map V.int).length:Int):=⟨(ce/5%((ss.map V.int).length:Int)).toNat,by lia⟩
     have a1:atI (ss.map V.int) (ce/5%((ss.map V.int).length:Int))=some (.int (ss.getD g 0)):=by
      rw [←hg]
      have:=dY (ns:=ss) (k:=(g:Int)) (by lia) (by lia)
      rwa [bz] at this
     refine ⟨_,rfl,.inl ⟨rfl,_,SqL.of e2⟩,_,rfl,_,_,rfl,rfl,⟨by decide,by decide⟩,_,rfl,lb,_,rfl,.inl (SqL.of e2),_,_,rfl,rfl,(by show (0:Int)<((ss.map V.int).length:Int);lia),_,rfl,_,rfl,_,_,rfl,rfl,⟨by decide,by decide⟩,_,rfl,lb,_,rfl,.inl (SqL.of e2),_,_,rfl,rfl,(by show (0:Int)<((ss.map V.int).length:Int);lia),lb,_,_,_,rfl,rfl,SqL.of e2,a1,?_⟩
     refine ⟨lb,_,_,_,rfl,rfl,e2,g0,by lia,by lia,?_⟩
     rw [hP,←hg,bz]
     have hgl:g<ss.length:=by lia
     have htl:(ss.take g).length=g:=by rw [aD];lia
     refine ⟨lb,ss.take g++ss.getD g 0::ss.drop g,_,rfl,nlb,s2.upd nlb,by rw [av,aH,bf,List.map_take,List.map_drop],?_,by rw [aw,bB,aD,cm];lia⟩
     refine qU (i:=g) (by rw [aw,htl,bB,cm];lia) ?_
     have z0:=jX (ys:=ss.getD g 0::ss.drop g) htl 0
     rw [Nat.add_zero] at z0
     rw [jX htl 1,z0]
     show (ss.drop g).getD 0 0≤ss.getD g 0
     rw [aa,List.getElem?_drop,Nat.add_zero,aa]
     exact fN _
   ·refine gb ?_
    refine ⟨Post,?_,fun _ _ h=>h⟩
    refine ⟨_,rfl,rfl,_,rfl,fX (fun _=>?_) (fun _=>?_)⟩
    ·refine ⟨_,rfl,lb,_,rfl,.inl (SqL.of e1),_,_,rfl,rfl,_,rfl,fX (fun c2=>?_) (fun c2=>?_)⟩
     ·have c2':((ss.map V.int).length:Int)>1:=of_decide_eq_true c2
      have g0:=bU (ce/5) (show ((ss.map V.int).length:Int)-1≠0 by lia)
      have g1:=bD (ce/5) (show (0:Int)<((ss.map V.int).length:Int)-1 by lia)
      refine ⟨_,rfl,_,_,rfl,rfl,⟨by decide,by decide⟩,_,rfl,lb,_,rfl,.inl (SqL.of e1),_,_,rfl,rfl,_,_,rfl,rfl,(by show (0:Int)<((ss.map V.int).length:Int)-1;lia),_,_,rfl,rfl,?_⟩
      obtain ⟨g,hg⟩:∃g:Nat,(g:Int)=ce/5%(((ss.map V.int).length:Int)-1):=⟨(ce/5%(((ss.map V.int).length:Int)-1)).toNat,by lia⟩
      rw [←hg] at g1 ⊢
      have a1:atI (ss.map V.int) (1+(g:Int))=some (.int (ss.getD (g+1) 0)):=by
       have:=dY (ns:=ss) (k:=(1+(g:Int))) (by lia) (by lia)
       rwa [show (1+(g:Int)).toNat=g+1 by lia] at this
      have a0:atI (ss.map V.int) (1+(g:Int)-1)=some (.int (ss.getD g 0)):=by
       have:=dY (ns:=ss) (k:=(1+(g:Int)-1)) (by lia) (by lia)
       rwa [show (1+(g:Int)-1).toNat=g by lia] at this
      refine ⟨_,rfl,_,rfl,lb,_,_,_,rfl,rfl,SqL.of e1,a1,_,rfl,_,rfl,_,_,rfl,rfl,lb,_,_,_,rfl,rfl,SqL.of e1,a0,(by show 2≤sizeLine;decide),fun l1 n1=>?_⟩
      have sN:=s1.next (o:=.lst [V.int (ss.getD (g+1) 0),V.int (ss.getD g 0)]) n1
      have eN:=bx.new (o:=.lst [V.int (ss.getD (g+1) 0),V.int (ss.getD g 0)]) n1 _ _ e1
      have nN:lb≠l1:=bw e1 n1
      refine ⟨_,rfl,_,rfl,_,_,rfl,rfl,_,rfl,_,rfl,_,_,rfl,rfl,_,rfl,lb,l1,_,_,g,g+2,rfl,by congr 1;lia,by congr 1;lia,rfl,nN,eN,av,by lia,by lia,by show (ss.map V.int).length+2≤1000;lia,?_⟩
      rw [hP]
      have hgl:g+1<ss.length:=by lia
      refine ⟨lb,ss.take g++[ss.getD (g+1) 0,ss.getD g 0]++ss.drop (g+2),_,rfl,nlb,sN.upd nlb,by rw [av,aH,aH,List.map_take,List.map_drop];rfl,?_,by rw [aw,aw,aD,cm];show min g ss.length+2+(ss.length-(g+2))≤60;lia⟩
      have hlt:=kI ok.up hgl
      have htl:(ss.take g).length=g:=by rw [aD];lia
      refine qU (i:=g) (by rw [aw,aw,htl];show g+1<g+2+_;lia) ?_
      rw [eK,jX htl 1]
      have z0:(ss.take g++([ss.getD (g+1) 0,ss.getD g 0]++ss.drop (g+2))).getD g 0=ss.getD (g+1) 0:=jX (ys:=[ss.getD (g+1) 0,ss.getD g 0]++ss.drop (g+2)) htl 0
      rw [z0]
      show ss.getD g 0≤ss.getD (g+1) 0
      lia
     ·refine ⟨Post,?_,fun _ _ h=>h⟩
      refine ⟨_,rfl,rfl,_,rfl,fX (fun _=>?_) (fun _=>?_)⟩
      ·refine ⟨_,rfl,.inl ⟨rfl,_,SqL.of e1⟩,_,rfl,_,rfl,_,rfl,_,_,rfl,rfl,⟨by decide,by decide⟩,_,_,rfl,rfl,(by show (0:Int)<2;decide),_,_,rfl,rfl,⟨by lia,by have:=fd2 (ce/5);have:=fd3 (ce/5);lia⟩,_,_,rfl,rfl,lb,_,_,_,rfl,rfl,e1,by decide,by lia,by lia,?_⟩
       rw [hP]
       refine ⟨lb,(-1-fa*(ce/5%2))::ss,_,rfl,nlb,s1.upd nlb,by rw [av];rfl,fY aU (.inl ?_),by rw [bB];lia⟩
       have:=eA fa0 (fd2 (ce/5))
       lia
      ·refine ⟨Post,?_,fun _ _ h=>h⟩
       refine ⟨_,rfl,rfl,_,rfl,fX (fun _=>?_) (fun _=>?_)⟩
       ·refine ⟨_,rfl,.inl ⟨rfl,_,SqL.of e1⟩,_,rfl,_,rfl,_,rfl,_,_,rfl,rfl,⟨by decide,by decide⟩,_,_,rfl,rfl,(by show (0:Int)<2;decide),_,_,rfl,rfl,⟨by lia,by have:=fd2 (ce/5);have:=fd3 (ce/5);lia⟩,_,_,rfl,rfl,lb,_,_,rfl,rfl,e1,aE (by lia),?_⟩
        rw [hP]
        refine ⟨lb,ss++[(n:Int)+fa*(ce/5%2)],_,rfl,nlb,s1.upd nlb,by rw [aH];exact av,fY (aG _ (ao.mpr rfl)) (.inr ?_),by rw [aw];show ss.length+1≤60;lia⟩
        have:=eA fa0 (fd2 (ce/5))
        lia
       ·refine ⟨_,rfl,(by show 1≤sizeLine;decide),fun l1 n1=>?_⟩
        have sN:=s1.next (o:=.lst [V.int (-1)]) n1
        have eN:=bx.new (o:=.lst [V.int (-1)]) n1 _ _ e1
        refine ⟨_,rfl,l1,lb,_,_,rfl,rfl,av,eN,aM (aE (by show 1+(ss.map V.int).length≤1000;lia)),fun l2 n2=>?_⟩
        rw [hP]
        exact ⟨l2,(-1)::ss,_,rfl,bR sN n2,sN.next n2,av,fY aU (.inl (by decide)),by rw [bB];lia⟩
    ·refine gb ?_
     refine ⟨Post,?_,fun _ _ h=>h⟩
     refine ⟨_,rfl,rfl,_,rfl,fX (fun _=>?_) (fun _=>?_)⟩
     ·refine ⟨_,rfl,.inl ⟨rfl,_,SqL.of e1⟩,_,rfl,_,rfl,_,rfl,_,_,rfl,rfl,⟨by decide,by decide⟩,_,_,rfl,rfl,(by show (0:Int)<2;decide),_,_,rfl,rfl,⟨by lia,by have:=fd2 (ce/5);have:=fd3 (ce/5);lia⟩,_,_,rfl,rfl,lb,_,_,_,rfl,rfl,e1,by decide,by lia,by lia,?_⟩
      rw [hP]
      refine ⟨lb,(-1-fa*(ce/5%2))::ss,_,rfl,nlb,s1.upd nlb,by rw [av];rfl,fY aU (.inl ?_),by rw [bB];lia⟩
      have:=eA fa0 (fd2 (ce/5))
      lia
     ·refine ⟨Post,?_,fun _ _ h=>h⟩
      refine ⟨_,rfl,rfl,_,rfl,fX (fun _=>?_) (fun _=>?_)⟩
      ·refine ⟨_,rfl,.inl ⟨rfl,_,SqL.of e1⟩,_,rfl,_,rfl,_,rfl,_,_,rfl,rfl,⟨by decide,by decide⟩,_,_,rfl,rfl,(by show (0:Int)<2;decide),_,_,rfl,rfl,⟨by lia,by have:=fd2 (ce/5);have:=fd3 (ce/5);lia⟩,_,_,rfl,rfl,lb,_,_,rfl,rfl,e1,aE (by lia),?_⟩
       rw [hP]
       refine ⟨lb,ss++[(n:Int)+fa*(ce/5%2)],_,rfl,nlb,s1.upd nlb,by rw [aH];exact av,fY (aG _ (ao.mpr rfl)) (.inr ?_),by rw [aw];show ss.length+1≤60;lia⟩
       have:=eA fa0 (fd2 (ce/5))
       lia
      ·refine ⟨_,rfl,(by show 1≤sizeLine;decide),fun l1 n1=>?_⟩
       have sN:=s1.next (o:=.lst [V.int (-1)]) n1
       have eN:=bx.new (o:=.lst [V.int (-1)]) n1 _ _ e1
       refine ⟨_,rfl,l1,lb,_,_,rfl,rfl,av,eN,aM (aE (by show 1+(ss.map V.int).length≤1000;lia)),fun l2 n2=>?_⟩
       rw [hP]
       exact ⟨l2,(-1)::ss,_,rfl,bR sN n2,sN.next n2,av,fY aU (.inl (by decide)),by rw [bB];lia⟩
  ·rw [hP]
   rintro σ' H' ⟨lb,bs,v6,rfl,nl,s',e',hb,hl⟩
   exact ⟨_,rfl,k lb bs H' nl s' e' hb hl⟩
structure TlE (K:ai) (H:Hp) (l:Addr) (xs:List V) (es:List (Int×Int)) (H2:Hp):Prop where
 s:bx H H2
 l:H2 l=some (.lst xs)
 p:Pairs K H2 xs es
 th:∀v∈xs,jP H2 v
theorem TlE.same {K:ai} {H H2 H3:Hp} {l:Addr} {xs:List V} {es:List (Int×Int)} (t:TlE K H l xs es H2) (S:bx H2 H3):TlE K H l xs es H3:=⟨t.s.trans S,S _ _ t.l,t.p.same S,fun v hv=>(t.th v hv).same S⟩
theorem uG {es:List (Int×Int)} {m n:Int} (h:cV es m) (hm:m≤n):cV es n:=fun e he=>by have:=h e he;lia
theorem sY {P:Int→Prop} {ws:List Int} (h:∀v∈ws,P v) {i:Nat} (hi:i<ws.length):P (ws.getD i 0):=by rw [fJ hi];exact h _ (cf hi)
def x_ (K:ai):Sp:=fun vs H Q _=>∃(a:Addr) (ns:List Int) (at_ mo bo:Int),vs=[.ref a,.int at_,.int mo,.int bo]∧SqL K H a (ns.map V.int)∧ns.length≤63∧0≤at_∧at_≤1000∧1≤mo∧mo≤20∧1≤bo∧bo≤40 ∧
 ∀(t l:Addr) (m:Int) (xs:List V) (es:List (Int×Int)) (H':Hp),H l=none→bx H H'→SqT K H' t [.int m,.ref l]→H' l=some (.lst xs)→Pairs K H' xs es→1≤m→m≤mo→(es.length:Int)≤bo→cV es m→(∀v∈xs,jP H' v)→Q (.ref t) H'
theorem kd:bS ["script","at","most","bound","ends","places","k","cell","one","two","fresh","row","order","mixed","found","pair"] ["script","at","most","bound"] (aB sEa):=⟨rfl,rfl,rfl,by decide +kernel,rfl,by decide +kernel,by decide +kernel⟩
theorem y_ {f:Addr} {fd:FuncData} (F:Fun K "_law_ears" "_law_ears" sEa f fd) (T:Txt K mg c) (D_C:Def P w K mg base 1 "_law_cell" ["script","k"] (spC K)):fm P w K mg base CX0 2 f fd ["script","at","most","bound"] (x_ K):=by
 refine F.ok kd (fun vs H Q E h=>?_) (fun cdv A outer s H vs Q E hr h=>?_)
 ·obtain ⟨a,ns,at_,mo,bo,rfl,_⟩:=h
  rfl
 ·obtain ⟨a,ns,at_,mo,bo,rfl,hS,hlen,t0,t1,o1,o2,b1,b2,k⟩:=h
  refine ⟨_,ax (bA (i:=4) kd.nd rfl (Or.inl rfl) (de ay))
   (ax (bA (i:=5) kd.nd rfl (Or.inl rfl) (aN))
   (ax (fk PassesOwn.never rfl (kT rfl T.range (ah (pv 1) (ah (a_ (gc (K:=K) rfl) (by rfl) T.len aS (ah (pv 0) ay)) ay))) (bG (i:=6) kd.nd rfl (Or.inl rfl))
    (ax (bA (i:=7) kd.nd rfl (Or.inl rfl) (cn (ixL (K:=K) rfl) (pv 0) (pv 6) (fun _ _=>rfl)))
   (ax (dq (bA (i:=8) kd.nd rfl (Or.inl rfl) (bK dX (pv 7) (pv 5))))
   (ax (dq (bA (i:=9) kd.nd rfl (Or.inl rfl) (bK dX (bK eV (pv 7) (aN)) (pv 5))))
   (ax (dq (bA (i:=10) kd.nd rfl (Or.inl rfl) (a_ (qP rfl) (by rfl) T.min PyProof.Rows.boot_min (ah (bK dX (bK eV (pv 7) (aN)) (aN)) (ah (bK gr (pv 2) (pv 5)) (ah (bK gr (bK gr (pv 3) (aN)) (a_ (gc (K:=K) rfl) (by rfl) T.len aS (ah (pv 4) ay))) ay))))))
   (aQ (dq (dZ (bL ui (pv 10) (aN) (cw _))
    (ax (bA (i:=11) kd.nd rfl (Or.inr rfl) (bK gd (bK gd (de (ah (pv 8) ay)) (kh rfl rfl T.list rfl T.range (ah (pv 5) (ah (bK eW (pv 5) (pv 10)) ay)))) (de (ah (pv 9) ay))))
   (ax (dk (gC PySem.F.plainAttrs_list PySem.F.slot_list_extend PySem.F.type_list_extend jr (pv 4) (ah (fG (N':=["j","row"]) (nl:=1) (js:=[11]) rfl (.of (osc:=aB sEa) (N:=["script","at","most","bound","ends","places","k","cell","one","two","fresh","row","order","mixed","found","pair"]) (by decide +kernel) rfl rfl) (ef rfl T.range (ah (bK gr (a_ (gc (K:=K) rfl) (by rfl) T.len aS (ah (pv 11) ay)) (aN)) ay))
    (fun _ _ _ _=>bG (i:=0) (show (["j","row"]:List Str).Nodup by decide +kernel) rfl (Or.inl rfl)) (fun _ _ _ _=>dG)
    (fun _ _ _ _=>kg (ah (cn (ixL (K:=K) rfl) (pv 1) (pv 0) (fun _ _=>rfl)) (ah (cn (ixL (K:=K) rfl) (pv 1) (bK eW (pv 0) (aN)) (fun _ _=>rfl)) ay)))) ay)))
   (aQ (bA (i:=5) kd.nd rfl (Or.inl rfl) (bK eW (pv 5) (pv 10)))))) (cL)))))))))
   (ax (bA (i:=12) kd.nd rfl (Or.inl rfl) (de ay))
   (ax (dq (bA (i:=13) kd.nd rfl (Or.inl rfl) (bK eW (aN) (bK dX (bP D_C hr (ah (pv 0) (ah (aN) ay))) (aN)))))
   (ax (fk PassesOwn.never rfl (ef rfl T.range (ah (a_ (gc (K:=K) rfl) (by rfl) T.len aS (ah (pv 4) ay)) ay)) (bG (i:=6) kd.nd rfl (Or.inl rfl))
    (ax (dq (bA (i:=13) kd.nd rfl (Or.inl rfl) (bK dX (bK iq (pv 13) (aN)) (aN))))
   (ax (dq (bA (i:=13) kd.nd rfl (Or.inl rfl) (bK dX (bK eW (bK iq (pv 13) (pv 13)) (bK iq (aN) (pv 6))) (aN))))
   (aQ (dk (gC PySem.F.plainAttrs_list PySem.F.slot_list_insert PySem.F.type_list_insert ml (pv 12) (ah (bK dX (bK eV (pv 13) (aN)) (bK eW (pv 6) (aN))) (ah (pv 6) ay))))))))
   (ax (bA (i:=14) kd.nd rfl (Or.inl rfl) (de ay))
   (ax (fk PassesOwn.never rfl (iy (K:=K) rfl (pv 12)) (bG (i:=6) kd.nd rfl (Or.inl rfl))
    (ax (bA (i:=15) kd.nd rfl (Or.inl rfl) (cn (ixL (K:=K) rfl) (pv 4) (pv 6) (fun _ _=>rfl)))
   (ax (dq (dZ (bL gm (bK dX (bK eV (pv 13) (bK eW (pv 6) (aN))) (aN)) (aN) (cw _))
    (aQ (bA (i:=15) kd.nd rfl (Or.inl rfl) (kg (ah (cn (ixT (K:=K) rfl) (pv 15) (aN) (fun _ _=>rfl)) (ah (cn (ixT (K:=K) rfl) (pv 15) (aN) (fun _ _=>rfl)) ay))))) (cL)))
   (aQ (dk (gC PySem.F.plainAttrs_list PySem.F.slot_list_append PySem.F.type_list_append eI (pv 14) (ah (pv 15) ay)))))))
   (aQ (cC (kg (ah (pv 5) (ah (pv 14) ay)))))))))))),?_⟩
  have hsm:(ns.map V.int).length=ns.length:=ae ..
  refine ⟨by decide,fun le nle=>?_⟩
  have T0:TlE K H le [] [] (upd H le (.lst [])):=⟨bx.new nle,av,.nil,fun v hv=>(nomatch hv)⟩
  generalize upd H le (.lst [])=H1 at T0
  refine ⟨_,rfl,_,rfl,a,_,rfl,.inl (T0.s.seq hS),at_,((ns.map V.int).length:Int),rfl,⟨by lia,by lia,by lia,by lia⟩,?_⟩
  refine fF dv (fun i σ H2=>∃(pl:Int) (xs:List V) (es:List (Int×Int)) (v6 v7 v8 v9 v10 v11:Option V),σ=[some (.ref a),some (.int at_),some (.int mo),some (.int bo),some (.ref le),some (.int pl),v6,v7,v8,v9,v10,v11,none,none,none,none]∧TlE K H le xs es H2∧1≤pl∧pl≤mo∧(es.length:Int)≤bo∧cV es pl) ⟨1,[],[],none,none,none,none,none,none,rfl,T0,fN _,o1,(by show (0:Int)≤bo;lia),cV.nil⟩ (fun _ _ _ _ _=>trivial) ?_ ?_
  ·rintro i σ H2 hi ⟨pl,xs,es,v6,v7,v8,v9,v10,v11,rfl,t,p1,p2,hz,hE⟩
   have hxl:=t.p.len
   have hi':i<(((ns.map V.int).length:Int)-at_).toNat:=hi
   have hat:atI (ns.map V.int) (at_+(i:Nat))=some (.int (ns.getD (at_+(i:Nat)).toNat 0)):=dY (ns:=ns) (by lia) (by lia)
   refine ⟨_,rfl,_,rfl,a,_,_,_,rfl,rfl,t.s.seq hS,hat,?_⟩
   generalize ns.getD (at_+(i:Nat)).toNat 0=v
   clear hat hi' hi hlen t0 t1 hsm
   refine ⟨fun σ' H'=>H'=H2∧∃o:Int,0≤o∧o<pl∧σ'=[some (.ref a),some (.int at_),some (.int mo),some (.int bo),some (.ref le),some (.int pl),some (.int (at_+(i:Nat))),some (.int v),some (.int o),v9,v10,v11,none,none,none,none],?_,?_⟩
   ·exact ⟨_,rfl,_,rfl,_,_,rfl,rfl,(by show 0<pl;lia),rfl,_,bU _ (by lia),bD _ (by lia),rfl⟩
   rintro σ' H' ⟨rfl,o,oa,ob,rfl⟩
   refine ⟨fun σ' H2=>H2=H'∧∃u:Int,0≤u∧u<pl∧σ'=[some (.ref a),some (.int at_),some (.int mo),some (.int bo),some (.ref le),some (.int pl),some (.int (at_+(i:Nat))),some (.int v),some (.int o),some (.int u),v10,v11,none,none,none,none],?_,?_⟩
   ·exact ⟨_,rfl,_,_,rfl,rfl,⟨by decide,by decide⟩,_,rfl,_,_,rfl,rfl,(by show 0<pl;lia),rfl,_,bU _ (by lia),bD _ (by lia),rfl⟩
   rintro σ' H2 ⟨rfl,u,ua,ub,rfl⟩
   refine ⟨fun σ' H3=>H3=H2∧∃fr:Int,fr≤3∧fr≤mo-pl∧fr≤bo-1-xs.length∧σ'=[some (.ref a),some (.int at_),some (.int mo),some (.int bo),some (.ref le),some (.int pl),some (.int (at_+(i:Nat))),some (.int v),some (.int o),some (.int u),some (.int fr),v11,none,none,none,none],?_,?_⟩
   ·have r1:=bD (v/400) (show (0:Int)<4 by decide)
    refine ⟨_,rfl,_,_,rfl,rfl,⟨by decide,by decide⟩,_,_,rfl,rfl,(by show (0:Int)<4;decide),_,rfl,_,rfl,_,_,rfl,rfl,_,rfl,_,_,rfl,rfl,_,rfl,le,xs,rfl,.inl (SqL.of t.l),_,_,rfl,rfl,_,_,_,rfl,rfl,(if bo-1-xs.length<(if mo-pl<v/400%4 then mo-pl else v/400%4) then bo-1-xs.length else if mo-pl<v/400%4 then mo-pl else v/400%4),?_,?_,?_,rfl⟩
    ·split<;>(try split)<;>lia
    ·split<;>(try split)<;>lia
    ·split<;>(try split)<;>lia
   rintro σ' H3 ⟨rfl,fr,f1,f2,f3,rfl⟩
   refine ⟨fun σ' H4=>∃(pl:Int) (xs:List V) (es:List (Int×Int)) (v11:Option V),σ'=[some (.ref a),some (.int at_),some (.int mo),some (.int bo),some (.ref le),some (.int pl),some (.int (at_+(i:Nat))),some (.int v),some (.int o),some (.int u),some (.int fr),v11,none,none,none,none]∧TlE K H le xs es H4∧1≤pl∧pl≤mo∧(es.length:Int)≤bo∧cV es pl,?_,?_⟩
   ·refine ⟨_,rfl,_,_,rfl,rfl,_,rfl,fX (fun c1=>?_) (fun c1=>?_)⟩
    ·have c1':fr≥0:=of_decide_eq_true c1
     refine ⟨_,rfl,(by show 1≤sizeLine;decide),fun w1 n1=>?_⟩
     have s1:bx H3 (upd H3 w1 (.lst [.int o])):=bx.new n1
     have e1:(upd H3 w1 (.lst [.int o])) w1=some (.lst [.int o]):=av
     generalize upd H3 w1 (.lst [.int o])=G1 at s1 e1
     refine ⟨_,rfl,_,rfl,_,rfl,_,_,rfl,rfl,_,_,rfl,by lia,by lia,by lia,by lia,fun w2 n2=>?_⟩
     have s2:=bx.new (o:=.lst (((bF (pl+fr-pl).toNat).map fun k=>pl+((k:Nat):Int)).map V.int)) n2
     have e2:(upd G1 w2 (.lst (((bF (pl+fr-pl).toNat).map fun k=>pl+((k:Nat):Int)).map V.int))) w2=some (.lst (((bF (pl+fr-pl).toNat).map fun k=>pl+((k:Nat):Int)).map V.int)):=av
     generalize upd G1 w2 (.lst (((bF (pl+fr-pl).toNat).map fun k=>pl+((k:Nat):Int)).map V.int))=G2 at s2 e2
     refine ⟨w1,w2,_,_,rfl,rfl,s2 _ _ e1,e2,aM (aE (by rw [ae,ae,cu];show 1+_≤1000;lia)),fun w3 n3=>?_⟩
     have s3:=bx.new (o:=.lst ([V.int o]++((bF (pl+fr-pl).toNat).map fun k=>pl+((k:Nat):Int)).map V.int)) n3
     have e3:(upd G2 w3 (.lst ([V.int o]++((bF (pl+fr-pl).toNat).map fun k=>pl+((k:Nat):Int)).map V.int))) w3=some (.lst ([V.int o]++((bF (pl+fr-pl).toNat).map fun k=>pl+((k:Nat):Int)).map V.int)):=av
     generalize upd G2 w3 (.lst ([V.int o]++((bF (pl+fr-pl).toNat).map fun k=>pl+((k:Nat):Int)).map V.int))=G3 at s3 e3
     refine ⟨_,rfl,(by show 1≤sizeLine;decide),fun w4 n4=>?_⟩
     have s4:bx G3 (upd G3 w4 (.lst [.int u])):=bx.new n4
     have e4:(upd G3 w4 (.lst [.int u])) w4=some (.lst [.int u]):=av
     generalize upd G3 w4 (.lst [.int u])=G4 at s4 e4
     refine ⟨w3,w4,_,_,rfl,rfl,s4 _ _ e3,e4,aM (aE (by rw [aw,ae,ae,cu];show 1+_+1≤1000;lia)),fun w5 n5=>?_⟩
     have s04:=((s1.trans s2).trans s3).trans s4
     obtain ⟨ws,ews⟩:∃ws,ws=o::(((bF (pl+fr-pl).toNat).map fun k=>pl+((k:Nat):Int))++[u]):=⟨_,rfl⟩
     have ewm:([V.int o]++((bF (pl+fr-pl).toNat).map fun k=>pl+((k:Nat):Int)).map V.int)++[V.int u]=ws.map V.int:=by
      rw [ews,bf,aH];rfl
     have hwl:ws.length=fr.toNat+2:=by
      rw [ews,bB,aw,ae,cu];show _+1+1=_;lia
     have hwb:∀x∈ws,0≤x∧x<pl+fr:=by
      rw [ews]
      intro x hx
      rcases bq.mp hx with rfl | hx
      ·lia
      ·rcases aF.mp hx with hx | hx
       ·obtain ⟨j,hj,rfl⟩:=b_.mp hx
        have:=cj.mp hj
        lia
       ·rw [ao.mp hx];lia
     clear ews
     rw [ewm]
     have t5:=t.same (s04.trans (bx.new (o:=.lst (ws.map V.int)) n5))
     have e5:(upd G4 w5 (.lst (ws.map V.int))) w5=some (.lst (ws.map V.int)):=av
     have w5l:w5≠le:=(bw (s04 _ _ t.l) n5).symm
     generalize upd G4 w5 (.lst (ws.map V.int))=G5 at t5 e5
     clear s04 s4 s3 s2 s1 e1 e2 e3 e4
     have hwm:(ws.map V.int).length=ws.length:=ae ..
     refine ⟨_,rfl,.inl ⟨rfl,_,SqL.of t5.l⟩,_,rfl,w5,_,rfl,.inl (SqL.of e5),_,_,rfl,rfl,((ws.map V.int).length:Int)-1,rfl,by lia,by lia,fD dv (fun j ys G=>bx G5 G∧∃es2,Pairs K G ys es2∧es2.length=j∧cV es2 (pl+fr)∧∀v∈ys,jP G v) (aM (aE (by lia))) ⟨bx.refl _,[],.nil,rfl,cV.nil,fun v hv=>(nomatch hv)⟩ ?_ ?_ ?_⟩
     ·rintro j ys G hj ⟨sG,es2,pG,hl2,_⟩
      exact ⟨trivial,by rw [pG.len];lia⟩
     ·rintro j ys G hj ⟨sG,es2,pG,hl2,hE2,hth⟩
      have hj':j<(((ws.map V.int).length:Int)-1).toNat:=hj
      have hyl:=pG.len
      have aj:atI (ws.map V.int) ((0:Int)+(j:Nat))=some (.int (ws.getD j 0)):=by
       have:=dY (ns:=ws) (k:=(0+(j:Nat):Int)) (by lia) (by lia)
       rwa [show ((0:Int)+(j:Nat)).toNat=j by lia] at this
      have aj1:atI (ws.map V.int) ((0:Int)+(j:Nat)+1)=some (.int (ws.getD (j+1) 0)):=by
       have:=dY (ns:=ws) (k:=(0+(j:Nat)+1:Int)) (by lia) (by lia)
       rwa [show ((0:Int)+(j:Nat)+1).toNat=j+1 by lia] at this
      have q1:=sY hwb (i:=j) (by lia)
      have q2:=sY hwb (i:=j+1) (by lia)
      have eG:=sG _ _ e5
      refine ⟨dQ rfl,ft ⟨_,rfl,_,rfl,w5,_,_,_,rfl,rfl,SqL.of eG,aj,_,rfl,_,rfl,_,_,rfl,rfl,w5,_,_,_,rfl,rfl,SqL.of eG,aj1,(by show 2≤sizeLine;decide),fun z ob nz hob=>?_⟩⟩
      have sz:=bx.new (o:=.frz ob (.tup [.int (ws.getD j 0),.int (ws.getD (j+1) 0)])) nz
      refine ⟨aE (by lia),_,by lia,rfl,by lia,sG.trans sz,es2++[(ws.getD j 0,ws.getD (j+1) 0)],(pG.same sz).snoc (e:=(ws.getD j 0,ws.getD (j+1) 0)) (.inl (.inr ⟨ob,av⟩)),by rw [aw,hl2];rfl,hE2.snoc ⟨q1.1,q1.2,q2.1,q2.2⟩,fun v hv=>?_⟩
      rcases aF.mp hv with y | y
      ·exact (hth v y).same sz
      ·rw [ao.mp y];exact ⟨z,ob,_,rfl,av,hob⟩
     rintro ys G ⟨sG,es2,pG,hl2,hE2,hth⟩ lz nlz
     have sz:=bx.new (o:=.lst ys) nlz
     have ez:(upd G lz (.lst ys)) lz=some (.lst ys):=av
     have t6:=(t5.same sG).same sz
     have pz:=pG.same sz
     have thz:∀v∈ys,jP (upd G lz (.lst ys)) v:=fun v hv=>(hth v hv).same sz
     generalize upd G lz (.lst ys)=G6 at sz ez t6 pz thz
     have hyl:=pz.len
     have hl2':es2.length=fr.toNat+1:=by lia
     refine ⟨le,lz,xs,ys,rfl,rfl,t6.l,ez,aM (aE (by lia)),?_⟩
     refine ⟨_,rfl,_,rfl,_,_,rfl,rfl,pl+fr,xs++ys,es++es2,_,rfl,⟨t6.s.upd nle,av,(t6.p.append pz).lU dF t6.l,fun v hv=>(aF.mp hv).elim (fun y=>gK (t6.th v y) t6.l) fun y=>gK (thz v y) t6.l⟩,by lia,by lia,by rw [aw];lia,?_⟩
     intro e he
     rcases aF.mp he with y | y
     ·exact uG hE (by lia) e y
     ·exact hE2 e y
    ·exact ⟨pl,xs,es,_,rfl,t,p1,p2,hz,hE⟩
   ·rintro σ' H4 ⟨pl,xs,es,v11,rfl,h'⟩
    exact ⟨pl,xs,es,_,_,_,_,_,_,rfl,h'⟩
  rintro σ H2 ⟨pl,xs,es,v6,v7,v8,v9,v10,v11,rfl,t,p1,p2,hz,hE⟩
  have hxl:=t.p.len
  clear hlen t0 t1 o1 o2 b1 hsm
  refine ⟨by decide,fun lo nlo=>?_⟩
  have t3:=t.same (bx.new (o:=.lst []) nlo)
  have o3:(upd H2 lo (.lst [])) lo=some (.lst []):=av
  have nloH:H lo=none:=bR t.s nlo
  have loe:lo≠le:=(bw t.l nlo).symm
  generalize upd H2 lo (.lst [])=H3 at t3 o3
  refine ⟨fun σ' H'=>H'=H3∧∃mi:Int,0≤mi∧mi<2^40∧σ'=[some (.ref a),some (.int at_),some (.int mo),some (.int bo),some (.ref le),some (.int pl),v6,v7,v8,v9,v10,v11,some (.ref lo),some (.int mi),none,none],?_,?_⟩
  ·refine ⟨_,rfl,a,ns,1,rfl,t3.s.seq hS,by decide,_,_,rfl,rfl,(by show (0:Int)<1000000007;decide),_,_,rfl,rfl,rfl,_,?_,?_,rfl⟩
   ·have:=bU (ns.getD (1:Int).toNat 0) (show (1000000007:Int)≠0 by decide);lia
   ·have:=bD (ns.getD (1:Int).toNat 0) (show (0:Int)<1000000007 by decide);lia
  rintro σ' H' ⟨rfl,mi,mi0,mi1,rfl⟩
  refine ⟨_,rfl,le,xs,rfl,.inl (SqL.of t3.l),(xs.length:Int),rfl,by lia,by lia,?_⟩
  refine fF dv (fun i σ H4=>∃(os:List Int) (mi:Int) (v6:Option V),σ=[some (.ref a),some (.int at_),some (.int mo),some (.int bo),some (.ref le),some (.int pl),v6,v7,v8,v9,v10,v11,some (.ref lo),some (.int mi),none,none]∧TlE K H le xs es H4∧H4 lo=some (.lst (os.map V.int))∧os.length=i∧(∀o∈os,0≤o∧o<(i:Int))∧0≤mi∧mi<2^40) ⟨[],mi,_,rfl,t3,o3,rfl,fun o ho=>(nomatch ho),mi0,mi1⟩ (fun _ _ _ _ _=>trivial) ?_ ?_
  ·clear t3 o3 mi0 mi1 p1 p2
   rintro i σ H4 hi ⟨os,mi,v6,rfl,t4,o4,hol,hob,mi0,mi1⟩
   have hi':i<xs.length:=hi
   refine ⟨fun σ' H'=>H'=H4∧∃mi:Int,0≤mi∧mi<2^40∧σ'=[some (.ref a),some (.int at_),some (.int mo),some (.int bo),some (.ref le),some (.int pl),some (.int (0+(i:Nat))),v7,v8,v9,v10,v11,some (.ref lo),some (.int mi),none,none],?_,?_⟩
   ·refine ⟨_,rfl,_,_,rfl,rfl,⟨by lia,by decide⟩,_,_,rfl,rfl,(by show (0:Int)<2147483647;decide),rfl,_,bU _ (by decide),?_,rfl⟩
    have:=bD (mi*48271) (show (0:Int)<2147483647 by decide);lia
   rintro σ' H' ⟨rfl,mj,mj0,mj1,rfl⟩
   refine ⟨fun σ' H4=>H4=H'∧∃mi:Int,0≤mi∧mi<2^40∧σ'=[some (.ref a),some (.int at_),some (.int mo),some (.int bo),some (.ref le),some (.int pl),some (.int (0+(i:Nat))),v7,v8,v9,v10,v11,some (.ref lo),some (.int mi),none,none],?_,?_⟩
   ·refine ⟨_,rfl,_,rfl,_,_,rfl,rfl,⟨by lia,by lia⟩,_,rfl,_,_,rfl,rfl,⟨by decide,by lia⟩,_,_,rfl,rfl,_,_,rfl,rfl,(by show (0:Int)<2147483629;decide),rfl,_,bU _ (by decide),?_,rfl⟩
    have:=bD (mj*mj+11*(0+(i:Nat))) (show (0:Int)<2147483629 by decide);lia
   rintro σ' H4 ⟨rfl,mk,mk0,mk1,rfl⟩
   clear mj0 mj1
   have hom:(os.map V.int).length=os.length:=ae ..
   have d0:=bU (mk/8) (show (0+(i:Nat)+1:Int)≠0 by lia)
   have d1:=bD (mk/8) (show (0:Int)<0+(i:Nat)+1 by lia)
   refine ⟨_,rfl,.inl ⟨rfl,_,SqL.of o4⟩,_,rfl,_,_,rfl,rfl,⟨by decide,by decide⟩,_,rfl,_,_,rfl,rfl,_,_,rfl,rfl,(by show (0:Int)<0+(i:Nat)+1;lia),_,rfl,?_⟩
   refine ⟨lo,_,_,_,rfl,rfl,o4,d0,by lia,by lia,?_⟩
   refine ⟨os.take (mk/8%(0+(i:Nat)+1)).toNat++(0+((i:Nat):Int))::os.drop (mk/8%(0+(i:Nat)+1)).toNat,mk,_,rfl,⟨t4.s.upd nloH,by rw [bX loe.symm];exact t4.l,t4.p.lU dF o4,fun v hv=>gK (t4.th v hv) o4⟩,?_,?_,fun o ho=>?_,mk0,mk1⟩
   ·rw [av,aH,bf,List.map_take,List.map_drop]
   ·rw [aw,bB,aD,cm];lia
   ·rcases aF.mp ho with y | y
    ·have:=hob o (List.mem_of_mem_take y);lia
    ·rcases bq.mp y with y | y
     ·lia
     ·have:=hob o (List.mem_of_mem_drop y);lia
  clear t3 o3 mi0 mi1
  rintro σ H4 ⟨os,mi,v6,rfl,t4,o4,hol,hob,mi0,mi1⟩
  have exl:((xs.length:Int)).toNat=xs.length:=bz _
  rw [exl] at hol hob
  refine ⟨by decide,fun lf nlf=>?_⟩
  have t5:=t4.same (bx.new (o:=.lst []) nlf)
  have o5:=bx.new (o:=.lst []) nlf _ _ o4
  have f5:(upd H4 lf (.lst [])) lf=some (.lst []):=av
  have nlfH:H lf=none:=bR t4.s nlf
  have lfe:lf≠le:=(bw t4.l nlf).symm
  have lfo:lf≠lo:=(bw o4 nlf).symm
  generalize upd H4 lf (.lst [])=H5 at t5 o5 f5
  have hom:(os.map V.int).length=os.length:=ae ..
  refine ⟨_,rfl,false,lo,_,rfl,SqL.of o5,fun J C O hC=>fF O (fun i σ H6=>∃(ys:List V) (es2:List (Int×Int)) (v6 v15:Option V),σ=[some (.ref a),some (.int at_),some (.int mo),some (.int bo),some (.ref le),some (.int pl),v6,v7,v8,v9,v10,v11,some (.ref lo),some (.int mi),some (.ref lf),v15]∧TlE K H le xs es H6∧H6 lo=some (.lst (os.map V.int))∧H6 lf=some (.lst ys)∧Pairs K H6 ys es2∧es2.length=i∧cV es2 pl∧∀v∈ys,jP H6 v) ⟨[],[],_,none,rfl,t5,o5,f5,.nil,rfl,cV.nil,fun v hv=>(nomatch hv)⟩ (fun i σ H6 _ h=>?_) ?_ ?_⟩
  ·obtain ⟨ys,es2,v6,v15,_,_,o6,_⟩:=h
   exact hC _ (SqL.of o6)
  ·rintro i σ H6 hi ⟨ys,es2,v6',v15,rfl,t6,o6,f6,p6,hl6,hE6,th6⟩
   obtain ⟨v,ev,gv⟩:=getD_map_int hi
   rw [hom] at hi
   have hv:=hob v (aZ gv)
   obtain ⟨r,ar,hr2,hm⟩:=fE t6.p hv.1 (by lia)
   have hb:=hE _ hm
   obtain ⟨r',_,er',_,_,_⟩:=t6.p.get (show v.toNat<es.length by lia)
   have rr:r'=r:=by
    have:=ar
    rw [mK hv.1 er'] at this
    cases this;rfl
   have thr:jP H6 (.ref r):=rr▸t6.th _ (aZ er')
   try dsimp only
   rw [ev]
   refine ⟨_,rfl,_,rfl,le,_,_,_,rfl,rfl,SqL.of t6.l,ar,?_⟩
   refine ⟨fun σ' H7=>∃(tt:Addr) (e:Int×Int),(0≤e.1∧e.1<pl∧0≤e.2∧e.2<pl)∧σ'=[some (.ref a),some (.int at_),some (.int mo),some (.int bo),some (.ref le),some (.int pl),some (.int v),v7,v8,v9,v10,v11,some (.ref lo),some (.int mi),some (.ref lf),some (.ref tt)]∧bx H6 H7∧SqT K H7 tt [.int e.1,.int e.2]∧jP H7 (.ref tt),?_,?_⟩
   ·refine ⟨_,rfl,_,rfl,_,_,rfl,rfl,_,_,rfl,rfl,⟨by lia,by lia⟩,_,_,rfl,rfl,(by show (0:Int)<2;decide),rfl,_,rfl,fX (fun _=>?_) (fun _=>?_)⟩
    ·refine ⟨_,rfl,r,_,1,_,rfl,rfl,hr2,rfl,_,rfl,r,_,0,_,rfl,rfl,hr2,rfl,(by show 2≤sizeLine;decide),fun z ob nz hob=>?_⟩
     exact ⟨z,((aX es v).2,(aX es v).1),⟨hb.2.2.1,hb.2.2.2,hb.1,hb.2.1⟩,rfl,bx.new nz,.inl (.inr ⟨ob,av⟩),⟨z,ob,_,rfl,av,hob⟩⟩
    ·exact ⟨r,aX es v,hb,rfl,bx.refl _,hr2,thr⟩
   rintro σ' H7 ⟨tt,e,he,rfl,s7,ht,htt⟩
   have f7:=s7 _ _ f6
   have t7:=t6.same s7
   have o7:=s7 _ _ o6
   have p7:=(p6.same s7).snoc ht
   have hyl:=p6.len
   refine ⟨_,rfl,.inl ⟨rfl,_,SqL.of f7⟩,_,rfl,lf,_,_,rfl,rfl,f7,aE (by lia),?_⟩
   exact ⟨_,_,_,_,rfl,⟨t7.s.upd nlfH,by rw [bX lfe.symm];exact t7.l,t7.p.lU dF f7,fun v hv=>gK (t7.th v hv) f7⟩,by rw [bX lfo.symm];exact o7,av,p7.lU dF f7,by rw [aw,hl6];rfl,hE6.snoc he,fun v hv=>(aF.mp hv).elim (fun y=>gK ((th6 v y).same s7) f7) fun y=>by rw [ao.mp y];exact gK htt f7⟩
  ·rintro σ H6 ⟨ys,es2,v6',v15,rfl,t6,o6,f6,p6,hl6,hE6,th6⟩
   rw [hom] at hl6
   refine ⟨_,rfl,_,rfl,(by show 2≤sizeLine;decide),fun tu ob ntu hob=>?_⟩
   exact k tu lf pl ys es2 _ nlfH (t6.s.next ntu) (.inl (.inr ⟨ob,av⟩)) (bx.new ntu _ _ f6) (p6.same (bx.new ntu)) p1 p2 (by lia) hE6 fun v hv=>(th6 v hv).same (bx.new ntu)
def LlY (a b:Addr) (H:Hp):List V→List (List Int)→Prop:=Paired fun v ns=>∃r,v=.ref r∧r≠a∧r≠b∧H r=some (.lst (ns.map V.int))
theorem LlY.same {a b:Addr} {H H':Hp} (S:bx H H') {xs:List V} {ls:List (List Int)} (h:LlY a b H xs ls):LlY a b H' xs ls:=Paired.oM h fun _ _ ⟨r,e,n1,n2,q⟩=>⟨r,e,n1,n2,S _ _ q⟩
theorem LlY.Ag {a b:Addr} {H:Hp} {o:HO} {xs:List V} {ls:List (List Int)} (h:LlY a b H xs ls):LlY a b (upd H a o) xs ls:=Paired.oM h fun _ _ ⟨r,e,n1,n2,q⟩=>⟨r,e,n1,n2,by rw [bX n1];exact q⟩
theorem LlY.Af {a b:Addr} {H:Hp} {o:HO} {xs:List V} {ls:List (List Int)} (h:LlY a b H xs ls):LlY a b (upd H b o) xs ls:=Paired.oM h fun _ _ ⟨r,e,n1,n2,q⟩=>⟨r,e,n1,n2,by rw [bX n2];exact q⟩
theorem LlY.all {a b:Addr} {H:Hp} {xs:List V} {ls:List (List Int)} (h:LlY a b H xs ls):LlS H xs ls:=Paired.oM h fun _ _ ⟨r,e,_,_,q⟩=>⟨r,e,q⟩
theorem LlY.len {a b:Addr} {H:Hp} {xs:List V} {ls:List (List Int)} (h:LlY a b H xs ls):xs.length=ls.length:=Paired.length h
theorem LlY.snoc:∀{a b:Addr} {H:Hp} {xs:List V} {ls:List (List Int)} {r:Addr} {ns:List Int},LlY a b H xs ls→r≠a→r≠b→H r=some (.lst (ns.map V.int))→LlY a b H (xs++[.ref r]) (ls++[ns])
 | _,_,_,_,_,r,_,.nil,h1,h2,h3=>.cons ⟨r,rfl,h1,h2,h3⟩ .nil
 | _,_,_,_,_,_,_,.cons c t,h1,h2,h3=>.cons c (LlY.snoc t h1 h2 h3)
def xG (K:ai):Sp:=fun vs H Q _=>∃(l h:Addr) (m:Int) (xs:List V) (es:List (Int×Int)),vs=[.int m,.ref l,.ref h]∧SqL K H l xs∧Pairs K H xs es∧(∀v∈xs,jP H v)∧SqL K H h ((gh es).map V.int)∧1≤m∧m≤20∧es.length≤40∧cV es m ∧
 ∀q ys sets H',H q=none→bx H H'→H' q=some (.lst ys)→LlS H' ys sets→1≤sets.length→sets.length≤10→(∀ss∈sets,fB es.length ss)→Q (.ref q) H'
theorem uU:bS ["many","ends","held","free","sets","inside","tie","some"] ["many","ends","held"] (aB sSx):=⟨rfl,rfl,rfl,by decide +kernel,rfl,by decide +kernel,by decide +kernel⟩
theorem yz {f:Addr} {fd:FuncData} (F:Fun K "_law_sets" "_law_sets" sSx f fd) (T:Txt K mg c) (D_Cm:Def P w K mg base 1 "_law_completed" ["many","ends","held","some"] (yb K)):fm P w K mg base CX0 2 f fd ["many","ends","held"] (xG K):=by
 refine F.ok uU (fun vs H Q E h=>?_) (fun cdv A outer s H vs Q E hr h=>?_)
 ·obtain ⟨l,h,m,xs,es,rfl,_⟩:=h
  rfl
 ·obtain ⟨l,h,m,xs,es,rfl,hl,hp,hth,hh,m1,m2,he,hE,k⟩:=h
  have hu:A.units+3+64<cLine:=hr.units
  refine ⟨_,ax (hX (i:=3) (N':=["tie","held"]) (nl:=1) (js:=[2]) rfl (.of (osc:=aB sSx) (N:=["many","ends","held","free","sets","inside","tie","some"]) (by decide +kernel) rfl rfl) (ef rfl T.range (ah (a_ (gc (K:=K) rfl) (by rfl) T.len aS (ah (pv 1) ay)) ay))
    (fun _ _ _ _=>bG (i:=0) (show (["tie","held"]:List Str).Nodup by decide +kernel) rfl (Or.inl rfl)) (fun _ _ _ _=>gY (bL (ma (K:=K) rfl) (pv 0) (pv 1) (by with_unfolding_all rfl)))
    (fun _ _ _ _=>pv 0) uU.nd rfl rfl)
   (ax (bA (i:=4) uU.nd rfl (Or.inl rfl) (de (ah (bP D_Cm hr (ah (pv 0) (ah (pv 1) (ah (pv 2) (ah (pv 3) ay))))) ay)))
   (ax (bA (i:=5) uU.nd rfl (Or.inr rfl) (fq (lJ (K:=K) rfl) (by rfl) T.list cH (ah (cn (ixL (K:=K) rfl) (pv 4) (aN) (fun _ _=>rfl)) ay)))
   (ax (fk PassesOwn.never rfl (iy (K:=K) rfl (pv 3)) (bG (i:=6) uU.nd rfl (Or.inl rfl))
    (ax (bA (i:=7) uU.nd rfl (Or.inl rfl) (bP D_Cm hr (ah (pv 0) (ah (pv 1) (ah (pv 2) (ah (de (ah (pv 6) ay)) ay))))))
   (aQ (dq (dZ (PW.pt (iW (bL iB (a_ (gc (K:=K) rfl) (by rfl) T.len aS (ah (pv 4) ay)) (aN) (cw _)) (gW (bL iO (a_ (gc (K:=K) rfl) (by rfl) T.len aS (ah (fG (N':=["other","inside"]) (nl:=1) (js:=[5]) rfl (.of (osc:=aB sSx) (N:=["many","ends","held","free","sets","inside","tie","some"]) (by decide +kernel) rfl rfl) (f_ (K:=K) rfl (pv 7))
    (fun _ _ _ _=>bG (i:=0) (show (["other","inside"]:List Str).Nodup by decide +kernel) rfl (Or.inl rfl)) (fun _ _ _ _=>gY (bL (ma (K:=K) rfl) (pv 0) (pv 1) (by with_unfolding_all rfl)))
    (fun _ _ _ _=>pv 0)) ay)) (aN) (cw _)))))
    (ax (dk (gC PySem.F.plainAttrs_list PySem.F.slot_list_append PySem.F.type_list_append eI (pv 4) (ah (pv 7) ay)))
   (aQ (dk (gC PySem.F.plainAttrs_list PySem.F.slot_list_extend PySem.F.type_list_extend jr (pv 5) (ah (pv 7) ay))))) (cL))))))
   (aQ (cC (pv 4)))))),?_⟩
  clear hu
  have hxl:=hp.len
  refine ⟨_,rfl,l,xs,rfl,.inl hl,(xs.length:Int),rfl,by lia,by lia,?_⟩
  rw [show ((xs.length:Int)).toNat=es.length from hxl]
  have flen:∀j,(((iQ es.length).take j).filter fun t=>!(gh es).any (·==t)).length≤j:=fun j=>cx (cN _ _) (by rw [aD];lia)
  refine fD dv (fun j zs H3=>H3=H∧zs=(((iQ es.length).take j).filter fun t=>!(gh es).any (·==t)).map V.int) (aM (aE (by lia))) ⟨rfl,rfl⟩ ?_ ?_ ?_
  ·rintro j zs H3 hj ⟨rfl,rfl⟩
   exact ⟨trivial,by rw [ae];exact flen j⟩
  ·rintro j zs H3 hj ⟨rfl,rfl⟩
   have hj':j<es.length:=hj
   have fl:=flen j
   try dsimp only
   rw [ff]
   refine ⟨dQ rfl,_,rfl,_,rfl,h,_,rfl,.inl hh,rfl,fQ _,_,rfl,?_⟩
   rw [if_pos rfl,gy]
   refine fX (fun c1=>?_) (fun c1=>?_)
   ·refine ⟨_,rfl,aE (by rw [ae];lia),_,by lia,rfl,by lia,rfl,?_⟩
    rw [take_snoc (gI hj'),cU,aH,cY (p:=fun t=>!(gh es).any (·==t)) c1];rfl
   ·refine ⟨_,by lia,rfl,by lia,rfl,?_⟩
    rw [take_snoc (gI hj'),cU,aH,cZ (p:=fun t=>!(gh es).any (·==t)) c1];exact (bT _).symm
  rintro zs H3 ⟨rfl,rfl⟩ lf nlf
  rw [bh (by rw [gp];exact aO _)]
  obtain ⟨fr,efr⟩:∃fr,fr=(iQ es.length).filter fun t=>!(gh es).any (·==t):=⟨_,rfl⟩
  rw [←efr]
  have uok:fB es.length (iQ es.length):=by
   constructor
   ·intro t ht
    obtain ⟨j,hj,rfl⟩:=b_.mp ht
    have:=cj.mp hj
    lia
   ·unfold iQ
    rw [eJ]
    exact List.pairwise_lt_range.imp fun h=>by lia
  have fok:fB es.length fr:=by
   rw [efr]
   exact ⟨fun t ht=>uok.rng t (bJ.mp ht).1,uok.up.filter _⟩
  have fdis:∀t∈fr,¬t∈gh es:=fun t ht z=>by
   rw [efr] at ht
   have:=(bJ.mp ht).2
   rw [show (gh es).any (·==t)=ie (gh es) t from rfl,eX.mpr z] at this
   cases this
  clear efr
  have s1:=bx.new (o:=.lst (fr.map V.int)) nlf
  have f1:(upd H3 lf (.lst (fr.map V.int))) lf=some (.lst (fr.map V.int)):=av
  generalize upd H3 lf (.lst (fr.map V.int))=H1 at s1 f1
  refine ⟨_,rfl,_,rfl,_,rfl,_,rfl,l,h,lf,m,xs,es,fr,rfl,s1.seq hl,hp.same s1,fun v hv=>(hth v hv).same s1,s1.seq hh,SqL.of f1,fok,fdis,m1,m2,he,hE,fun lp ps H2 nlp s2 p2 pok=>⟨(by show 1≤sizeLine;decide),fun q nq=>?_⟩⟩
  have s3:=(s1.trans s2).next (o:=.lst [V.ref lp]) nq
  have q3:(upd H2 q (.lst [V.ref lp])) q=some (.lst [V.ref lp]):=av
  have p3:=bx.new (o:=.lst [V.ref lp]) nq _ _ p2
  have f3:=(s2.next (o:=.lst [V.ref lp]) nq) _ _ f1
  have nqH:H3 q=none:=bR (s1.trans s2) nq
  have npq:lp≠q:=bw p2 nq
  generalize upd H2 q (.lst [V.ref lp])=H4 at s3 q3 p3 f3
  refine ⟨_,rfl,q,_,_,_,rfl,rfl,SqL.of q3,rfl,lp,_,rfl,.inl (SqL.of p3),fun g ng=>?_⟩
  have s5:=s3.next (o:=.lst (ps.map V.int)) ng
  have t5:=bx.new (o:=.lst (ps.map V.int)) ng
  have g5:(upd H4 g (.lst (ps.map V.int))) g=some (.lst (ps.map V.int)):=av
  have ngH:H3 g=none:=bR s3 ng
  have npg:lp≠g:=bw p3 ng
  have nqg:q≠g:=bw q3 ng
  have nfg:lf≠g:=bw f3 ng
  have nfq:lf≠q:=bw ((s2 _ _ f1)) nq
  have f5:=t5 _ _ f3
  have q5:=t5 _ _ q3
  have p5:=t5 _ _ p3
  generalize upd H4 g (.lst (ps.map V.int))=H5 at s5 g5 f5 q5 p5
  clear t5 ng q3 p3 f3 s3 nq s2 p2 nlp s1 f1 nlf
  have hpl:=pok.len
  have hfl:=fok.len
  have hfm:(fr.map V.int).length=fr.length:=ae ..
  refine ⟨_,rfl,false,lf,_,rfl,SqL.of f5,fun J C O hC=>fF O (fun i σ H6=>∃(ys:List V) (sets:List (List Int)) (ins:List Int) (v6 v7:Option V),σ=[some (.int m),some (.ref l),some (.ref h),some (.ref lf),some (.ref q),some (.ref g),v6,v7]∧bx H3 H6∧H6 lf=some (.lst (fr.map V.int))∧H6 q=some (.lst ys)∧H6 g=some (.lst (ins.map V.int))∧LlY q g H6 ys sets∧1≤sets.length∧sets.length≤10∧ins.length≤40*sets.length∧∀ss∈sets,fB es.length ss) ⟨[.ref lp],[ps],ps,none,none,rfl,s5,f5,q5,g5,.cons ⟨lp,rfl,npq,npg,p5⟩ .nil,aO 1,(by show 1≤10;decide),by show ps.length≤40*1;lia,fun ss h=>by rw [ao.mp h];exact pok⟩ (fun i σ H6 _ h=>?_) ?_ ?_⟩
  ·obtain ⟨_,_,_,_,_,_,_,f6,_⟩:=h
   exact hC _ (SqL.of f6)
  ·rintro i σ H6 hi ⟨ys,sets,ins,v6,v7,rfl,s6,f6,q6,g6,L6,b1,b2,hil,hok⟩
   obtain ⟨v,ev,gv⟩:=getD_map_int hi
   have hvm:=aZ gv
   have hyl:=L6.len
   try dsimp only
   rw [ev]
   refine ⟨_,rfl,_,rfl,_,rfl,_,rfl,(by show 1≤sizeLine;decide),fun lt nlt=>?_⟩
   have s7:=s6.next (o:=.lst [V.int v]) nlt
   have t7:=bx.new (o:=.lst [V.int v]) nlt
   have v7e:(upd H6 lt (.lst [V.int v])) lt=some (.lst (([v]:List Int).map V.int)):=av
   generalize upd H6 lt (.lst [V.int v])=H7 at s7 t7 v7e
   refine ⟨l,h,lt,m,xs,es,[v],rfl,s7.seq hl,hp.same s7,fun v hv=>(hth v hv).same s7,s7.seq hh,SqL.of v7e,⟨fun t ht=>by rw [ao.mp ht];exact fok.rng v hvm,List.pairwise_singleton ..⟩,fun t ht=>by rw [ao.mp ht];exact fdis v hvm,m1,m2,he,hE,fun lp2 cs H8 nlp2 s8 c8 cok=>?_⟩
   have t8:=t7.trans s8
   have s38:=s7.trans s8
   have q8:=t8 _ _ q6
   have g8:=t8 _ _ g6
   have f8:=t8 _ _ f6
   have L8:=L6.same t8
   have hcl:=cok.len
   have hcm:(cs.map V.int).length=cs.length:=ae ..
   have nlq:lp2≠q:=fun z=>by rw [z,t7 _ _ q6] at nlp2;cases nlp2
   have nlg:lp2≠g:=fun z=>by rw [z,t7 _ _ g6] at nlp2;cases nlp2
   refine ⟨_,?_,fun σ' H' h=>h⟩
   refine ⟨_,rfl,q,_,rfl,.inl (SqL.of q8),_,_,rfl,rfl,_,rfl,fX (fun c1=>?_) (fun c1=>?_)⟩
   ·have c1':(ys.length:Int)<10:=of_decide_eq_true c1
    refine ⟨_,rfl,lp2,_,rfl,.inl (SqL.of c8),fun J C O hC=>fD O (fun j zs H9=>H9=H8∧zs.length≤j) (by rw [hcm];exact aM (aE (by lia))) ⟨rfl,aO _⟩ ?_ ?_ ?_⟩
    ·rintro j zs H9 hj ⟨rfl,hzl⟩
     exact ⟨hC _ (bx.refl _),by lia⟩
    ·rintro j zs H9 hj ⟨rfl,hzl⟩
     obtain ⟨u,eu,gu⟩:=getD_map_int hj
     rw [hcm] at hj
     try dsimp only
     rw [eu]
     refine ⟨dQ rfl,_,rfl,_,rfl,g,_,rfl,.inl (SqL.of g8),rfl,fQ _,_,rfl,?_⟩
     refine fX (fun c1=>?_) (fun c1=>?_)
     ·exact ⟨_,rfl,aE (by lia),_,by lia,rfl,by lia,rfl,by rw [aw,bI];lia⟩
     ·exact ⟨_,by lia,rfl,by lia,rfl,by lia⟩
    rintro zs H9 ⟨rfl,hzl⟩ l9 n9
    have s9:=s38.next (o:=.lst zs) n9
    have t9:=bx.new (o:=.lst zs) n9
    have e9:(upd H9 l9 (.lst zs)) l9=some (.lst zs):=av
    generalize upd H9 l9 (.lst zs)=HA at s9 t9 e9
    refine ⟨l9,_,rfl,.inl (SqL.of e9),_,_,rfl,rfl,_,rfl,?_⟩
    refine fX (fun c2=>?_) (fun c2=>?_)
    ·have qA:=t9 _ _ q8
     refine ⟨_,rfl,.inl ⟨rfl,_,SqL.of qA⟩,_,rfl,q,_,_,rfl,rfl,qA,aE (by lia),?_⟩
     have gB:(upd HA q (.lst (ys++[V.ref lp2]))) g=some (.lst (ins.map V.int)):=by rw [bX (Ne.symm nqg)];exact t9 _ _ g8
     have cB:(upd HA q (.lst (ys++[V.ref lp2]))) lp2=some (.lst (cs.map V.int)):=by rw [bX nlq];exact t9 _ _ c8
     refine ⟨_,rfl,.inl ⟨rfl,_,SqL.of gB⟩,_,rfl,g,lp2,_,_,rfl,rfl,gB,cB,aM (aE (by rw [ae,ae];lia)),?_⟩
     refine ⟨ys++[.ref lp2],sets++[cs],ins++cs,some (.int v),some (.ref lp2),rfl,(s9.upd nqH).upd ngH,?_,?_,?_,?_,?_,?_,?_,?_⟩
     ·rw [bX nfg,bX nfq];exact t9 _ _ f8
     ·rw [bX nqg];exact av
     ·rw [aH];exact av
     ·exact ((((L8.same t9).Ag).snoc nlq nlg cB).Af)
     ·rw [aw];lia
     ·rw [aw,bI];lia
     ·rw [aw,aw,bI];lia
     ·intro ss hm
      rcases aF.mp hm with y | y
      ·exact hok ss y
      ·rw [ao.mp y];exact cok
    ·exact ⟨ys,sets,ins,some (.int v),some (.ref lp2),rfl,s9,t9 _ _ f8,t9 _ _ q8,t9 _ _ g8,L8.same t9,b1,b2,hil,hok⟩
   ·exact ⟨ys,sets,ins,some (.int v),some (.ref lp2),rfl,s38,f8,q8,g8,L8,b1,b2,hil,hok⟩
  ·rintro σ H6 ⟨ys,sets,ins,v6,v7,rfl,s6,f6,q6,g6,L6,b1,b2,hil,hok⟩
   exact ⟨_,rfl,k q ys sets H6 nqH s6 q6 L6.all b1 b2 hok⟩
def ya (K:ai):Sp:=fun vs H Q _=>∃(l q:Addr) (m:Int) (xs:List V) (es:List (Int×Int)) (ys:List V) (sets:List (List Int)),vs=[.int m,.ref l,.ref q]∧SqL K H l xs∧Pairs K H xs es∧SqL K H q ys∧LlS H ys sets∧sets.length≤12∧(∀ss∈sets,ss.length<64)∧1≤m∧m≤20∧es.length≤40∧cV es m∧∀b H',bx H H'→(b=true↔Due m es sets)→Q (.bl b) H'
theorem nL {α:Type} (g:α→Bool):∀l:List α,(l.map fun a=>V.bl (g a)).all oN=true∧(l.map fun a=>V.bl (g a)).all tv=l.all g
 | []=>⟨rfl,rfl⟩
 | a::l=>by
  rw [bf,c_,c_,c_,(nL g l).1,(nL g l).2]
  exact ⟨rfl,rfl⟩
theorem ym:bS ["many","ends","sets","inside","some"] ["many","ends","sets"] (aB sDu):=⟨rfl,rfl,rfl,by decide +kernel,rfl,by decide +kernel,by decide +kernel⟩
theorem za {f:Addr} {fd:FuncData} (F:Fun K "_law_due" "_law_due" sDu f fd) (T:Txt K mg c) (D_Le2:Def P w K mg base 1 "_law_even" ["many","ends","some"] (tI K)):fm P w K mg base CX0 2 f fd ["many","ends","sets"] (ya K):=by
 refine F.ok ym (fun vs H Q E h=>?_) (fun cdv A outer s H vs Q E hr h=>?_)
 ·obtain ⟨l,q,m,xs,es,ys,sets,rfl,_⟩:=h
  rfl
 ·obtain ⟨l,q,m,xs,es,ys,sets,rfl,hl,hp,hq,hs,hz,hsl,m1,m2,he,hE,k⟩:=h
  have hu:A.units+3+64<cLine:=hr.units
  refine ⟨_,ax (bA (i:=3) ym.nd rfl (Or.inr rfl) (de ay))
   (ax (fk PassesOwn.never rfl (iy (K:=K) rfl (pv 2)) (bG (i:=4) ym.nd rfl (Or.inr rfl))
    (ax (dZ (PW.pt (jN (bL (md (K:=K) rfl hu) (pv 4) (a_ (mH (K:=K) rfl) (by rfl) T.sorted PyProof.Rows.boot_sorted (ah (pv 4) ay)) (cw _)) (iV (bL iO (a_ (gc (K:=K) rfl) (by rfl) T.len aS (ah (fG (N':=["tie","ends"]) (nl:=1) (js:=[1]) rfl (.of (osc:=aB sDu) (N:=["many","ends","sets","inside","some"]) (by decide +kernel) rfl rfl) (f_ (K:=K) rfl (pv 4))
    (fun _ _ _ _=>bG (i:=0) (show (["tie","ends"]:List Str).Nodup by decide +kernel) rfl (Or.inl rfl)) (fun _ _ _ _=>gY (PW.pt (jN (bL iB (pv 0) (aN) (cw _)) (iV (bL ui (pv 0) (a_ (gc (K:=K) rfl) (by rfl) T.len aS (ah (pv 1) ay)) (cw _))))))
    (fun _ _ _ _=>pv 0)) ay)) (aN) (cw _)))))
    (aQ (cC (jO))) (cL))
   (ax (dZ (PW.pt (jN (bL iO (a_ (gc (K:=K) rfl) (by rfl) T.len aS (ah (fG (N':=["k","some"]) (nl:=1) (js:=[4]) rfl (.of (osc:=aB sDu) (N:=["many","ends","sets","inside","some"]) (by decide +kernel) rfl rfl) (kT rfl T.range (ah (aN) (ah (a_ (gc (K:=K) rfl) (by rfl) T.len aS (ah (pv 4) ay)) ay)))
    (fun _ _ _ _=>bG (i:=0) (show (["k","some"]:List Str).Nodup by decide +kernel) rfl (Or.inl rfl)) (fun _ _ _ _=>gY (bL gm (cn (ixL (K:=K) rfl) (pv 1) (bK gr (pv 0) (aN)) (fun _ _=>rfl)) (cn (ixL (K:=K) rfl) (pv 1) (pv 0) (fun _ _=>rfl)) (cw _)))
    (fun _ _ _ _=>pv 0)) ay)) (aN) (cw _)) (iV (ig (gX (bP D_Le2 hr (ah (pv 0) (ah (pv 1) (ah (pv 4) ay)))))))))
    (aQ (cC (jO))) (cL))
   (aQ (dk (gC PySem.F.plainAttrs_list PySem.F.slot_list_extend PySem.F.type_list_extend jr (pv 3) (ah (pv 4) ay)))))))
   (aQ (cC (a_ (va (K:=K) rfl rfl) (by rfl) T.all dH (ah (fG (N':=["tie","inside"]) (nl:=1) (js:=[3]) rfl (.of (osc:=aB sDu) (N:=["many","ends","sets","inside","some"]) (by decide +kernel) rfl rfl) (ef rfl T.range (ah (a_ (gc (K:=K) rfl) (by rfl) T.len aS (ah (pv 1) ay)) ay))
    (fun _ _ _ _=>bG (i:=0) (show (["tie","inside"]:List Str).Nodup by decide +kernel) rfl (Or.inl rfl)) (fun _ _ _ _=>dG)
    (fun _ _ _ _=>gz (uj (K:=K) rfl) (pv 0) (pv 1) (by with_unfolding_all rfl))) ay))))),?_⟩
  clear hu
  have hxl:=hp.len
  have hyl:=hs.len
  refine ⟨by decide,fun g ng=>?_⟩
  have s1:=bx.new (o:=.lst []) ng
  have e1:(upd H g (.lst [])) g=some (.lst (([]:List Int).map V.int)):=av
  generalize upd H g (.lst [])=H1 at s1 e1
  refine ⟨_,rfl,false,q,ys,rfl,s1.seq hq,fun J C O hC=>fF O (fun i σ H2=>∃(ins:List Int) (v4:Option V),σ=[some (.int m),some (.ref l),some (.ref q),some (.ref g),v4]∧bx H H2∧H2 g=some (.lst (ins.map V.int))∧ins.length≤40*i∧(∀t,t∈ins↔∃ss∈sets.take i,t∈ss)∧∀ss∈sets.take i,fB es.length ss∧isR m es (mkS es.length ss) 2=true) ⟨[],none,rfl,s1,e1,aO _,fun t=>⟨fun h=>(nomatch h),fun ⟨_,h,_⟩=>(nomatch h)⟩,fun ss h=>(nomatch h)⟩ (fun i σ H2 _ h=>?_) ?_ ?_⟩
  ·obtain ⟨_,_,_,s2,_⟩:=h
   exact hC _ (s2.seq hq)
  ·rintro i σ H2 hi ⟨ins,v4,rfl,s2,e2,hil,hin,hok⟩
   have hi':i<ys.length:=hi
   obtain ⟨r,ss,er,hr2,gs⟩:=(hs.same s2).at hi
   have hsm:=aZ gs
   have hs64:=hsl ss hsm
   have hmp:(ss.map V.int).length=ss.length:=ae ..
   have no:¬(fB es.length ss∧isR m es (mkS es.length ss) 2=true)→∀H',bx H H'→Q (.bl false) H':=fun z H' s'=>k false H' s' ⟨fun y=>(nomatch y),fun y=>absurd (y.1 ss hsm) z⟩
   try dsimp only
   rw [er]
   refine ⟨_,rfl,_,rfl,r,ss,rfl,SqL.of hr2,hs64,fun l5 ns' n5 hperm hsort=>?_⟩
   have s5:=s2.next (o:=.lst (ns'.map V.int)) n5
   have t5:=bx.new (o:=.lst (ns'.map V.int)) n5
   have e5:(upd H2 l5 (.lst (ns'.map V.int))) l5=some (.lst (ns'.map V.int)):=av
   generalize upd H2 l5 (.lst (ns'.map V.int))=H5 at s5 t5 e5
   refine ⟨dI ss,dI ns',fh (SqL.of (t5 _ _ hr2)),fh (SqL.of e5),eQ _,eQ _,_,rfl,?_⟩
   rw [jE]
   by_cases c1:ss=ns'
   ·rw [decide_eq_true c1]
    refine gb ?_
    have hup:ss.Pairwise (·≤·):=by rw [c1];exact hsort
    have r5:=t5 _ _ hr2
    refine ⟨_,rfl,r,_,rfl,.inl (SqL.of r5),fun J C O hC=>fD O (fun j zs H6=>H6=H5∧zs.length≤j∧(zs.length=0↔∀t∈ss.take j,0≤t∧t<(es.length:Int))) (by rw [hmp];exact aM (aE (by lia))) ⟨rfl,aO _,⟨fun _ t ht=>(nomatch ht),fun _=>rfl⟩⟩ ?_ ?_ ?_⟩
    ·rintro j zs H6 hj ⟨rfl,hzl,hz⟩
     exact ⟨hC _ (bx.refl _),by lia⟩
    ·rintro j zs H6 hj ⟨rfl,hzl,hz⟩
     obtain ⟨v,ev,gv⟩:=getD_map_int hj
     rw [hmp] at hj
     try dsimp only
     rw [ev]
     have bad:∀x:V,¬(0≤v∧v<(es.length:Int))→(zs++[x]).length≤j+1∧((zs++[x]).length=0↔∀t∈ss.take (j+1),0≤t∧t<(es.length:Int)):=fun x z=>⟨by rw [aw,bI];lia,fun y=>by rw [aw,bI] at y;lia,fun y=>absurd (y v (by rw [take_snoc gv];exact aG _ (ao.mpr rfl))) z⟩
     have good:(0≤v∧v<(es.length:Int))→zs.length≤j+1∧(zs.length=0↔∀t∈ss.take (j+1),0≤t∧t<(es.length:Int)):=fun z=>⟨by lia,by
      rw [hz,take_snoc gv]
      exact ⟨fun y t ht=>(aF.mp ht).elim (y t) fun w=>ao.mp w▸z,fun y t ht=>y t (aK _ ht)⟩⟩
     refine ⟨dQ rfl,_,rfl,_,_,rfl,rfl,_,rfl,fX (fun c2=>?_) (fun c2=>?_)⟩
     ·have c2':=of_decide_eq_true c2
      exact ft ⟨_,rfl,aE (by lia),_,by lia,rfl,by lia,rfl,bad _ (by lia)⟩
     ·have c2':¬v<0:=fun y=>c2 (decide_eq_true y)
      refine ⟨_,rfl,_,rfl,l,xs,rfl,.inl (s5.seq hl),_,_,rfl,rfl,_,rfl,?_⟩
      refine fX (fun c3=>?_) (fun c3=>?_)
      ·have c3':(xs.length:Int)≤v:=of_decide_eq_true c3
       exact ⟨_,rfl,aE (by lia),_,by lia,rfl,by lia,rfl,bad _ (by lia)⟩
      ·have c3':¬(xs.length:Int)≤v:=fun y=>c3 (decide_eq_true y)
       exact ⟨_,by lia,rfl,by lia,rfl,good (by lia)⟩
    rintro zs H6 ⟨rfl,hzl,hz⟩ l7 n7
    rw [hmp,bZ] at hz
    have s7:=s5.next (o:=.lst zs) n7
    have t7:=t5.next (o:=.lst zs) n7
    have e7:(upd H6 l7 (.lst zs)) l7=some (.lst zs):=av
    generalize upd H6 l7 (.lst zs)=H7 at s7 t7 e7
    refine ⟨l7,_,rfl,.inl (SqL.of e7),_,_,rfl,rfl,_,rfl,?_⟩
    refine fX (fun c2=>?_) (fun c2=>?_)
    ·have c2':(0:Int)<(zs.length:Int):=of_decide_eq_true c2
     exact no (fun z=>by have:=hz.mpr z.1.rng;lia) _ s7
    have hrng:=hz.mp (by
     have:¬(0:Int)<(zs.length:Int):=fun y=>c2 (decide_eq_true y)
     lia)
    have r7:=t7 _ _ hr2
    refine ⟨_,rfl,r,_,rfl,.inl (SqL.of r7),1,((ss.map V.int).length:Int),rfl,⟨by decide,by decide,by lia,by lia⟩,?_⟩
    rw [show (((ss.map V.int).length:Int)-1).toNat=ss.length-1 by lia]
    refine fD dv (fun j zs H8=>H8=H7∧zs.length≤j∧(zs.length=0↔∀i,i<j→ss.getD i 0≠ss.getD (i+1) 0)) (aM (aE (by lia))) ⟨rfl,aO _,⟨fun _ i hi=>absurd hi (bM _),fun _=>rfl⟩⟩ ?_ ?_ ?_
    ·rintro j zs H8 hj ⟨rfl,hzl,hz⟩
     exact ⟨trivial,by lia⟩
    ·rintro j zs H8 hj ⟨rfl,hzl,hz⟩
     have hj':j<ss.length-1:=hj
     have a1:atI (ss.map V.int) (1+(j:Int)-1)=some (.int (ss.getD j 0)):=by
      have:=dY (ns:=ss) (k:=(1+(j:Int)-1)) (by lia) (by lia)
      rwa [show (1+(j:Int)-1).toNat=j by lia] at this
     have a2:atI (ss.map V.int) (1+(j:Int))=some (.int (ss.getD (j+1) 0)):=by
      have:=dY (ns:=ss) (k:=(1+(j:Int))) (by lia) (by lia)
      rwa [show (1+(j:Int)).toNat=j+1 by lia] at this
     try dsimp only
     refine ⟨dQ rfl,_,rfl,_,rfl,_,_,rfl,rfl,r,_,_,_,rfl,rfl,SqL.of r7,a1,_,rfl,_,rfl,r,_,_,_,rfl,rfl,SqL.of r7,a2,rfl,_,rfl,?_⟩
     by_cases y:ss.getD j 0=ss.getD (j+1) 0
     ·rw [decide_eq_true (show V.int (ss.getD j 0)=V.int (ss.getD (j+1) 0) by rw [y])]
      exact ft ⟨_,rfl,aE (by lia),_,by lia,rfl,by lia,rfl,by rw [aw,bI];lia,fun w=>by rw [aw,bI] at w;lia,fun w=>absurd y (w j (bY _))⟩
     ·rw [decide_eq_false (show ¬V.int (ss.getD j 0)=V.int (ss.getD (j+1) 0) by intro w;injection w with w;exact y w)]
      refine gb ⟨_,by lia,rfl,by lia,rfl,by lia,?_⟩
      rw [hz]
      exact ⟨fun w i hi=>by
       by_cases c:i=j
       ·rw [c];exact y
       ·exact w i (by lia),fun w i hi=>w i (by lia)⟩
    rintro zs H8 ⟨rfl,hzl,hz⟩ l9 n9
    have s9:=s7.next (o:=.lst zs) n9
    have t9:=t7.next (o:=.lst zs) n9
    have e9:(upd H8 l9 (.lst zs)) l9=some (.lst zs):=av
    generalize upd H8 l9 (.lst zs)=H9 at s9 t9 e9
    refine ⟨l9,_,rfl,.inl (SqL.of e9),_,_,rfl,rfl,_,rfl,?_⟩
    refine fX (fun c3=>?_) (fun c3=>?_)
    ·have c3':(0:Int)<(zs.length:Int):=of_decide_eq_true c3
     refine no (fun z=>?_) _ s9
     have:=hz.mpr fun i hi=>by
      have:=kI z.1.up (i:=i) (by lia)
      lia
     lia
    have hne:=hz.mp (by
     have:¬(0:Int)<(zs.length:Int):=fun y=>c3 (decide_eq_true y)
     lia)
    have ok:fB es.length ss:=⟨hrng,tw fun i hi=>by
     have h1:=hne i (by lia)
     have h2:ss.getD i 0≤ss.getD (i+1) 0:=by
      rw [fJ (by lia),fJ hi]
      exact List.pairwise_iff_getElem.mp hup i (i+1) (by lia) hi (by lia)
     lia⟩
    refine ⟨_,rfl,_,rfl,_,rfl,l,r,m,xs,es,ss,rfl,s9.seq hl,hp.same s9,SqL.of (t9 _ _ hr2),ok,m1,m2,he,hE,fun HA sA=>?_⟩
    have s2A:=t9.trans sA
    have sHA:=s9.trans sA
    have hss:=ok.len
    cases hR:isR m es (mkS es.length ss) 2 with
    | false=>exact ⟨_,rfl,ft (no (fun z=>by rw [hR] at z;cases z.2) _ sHA)⟩
    | true =>
     refine ⟨_,rfl,gb ?_⟩
     have gA:=s2A _ _ e2
     refine ⟨_,rfl,.inl ⟨rfl,_,SqL.of gA⟩,_,rfl,g,r,_,_,rfl,rfl,gA,s2A _ _ hr2,aM (aE (by rw [ae,ae];lia)),?_⟩
     refine ⟨ins++ss,some (.ref r),rfl,sHA.upd ng,by rw [aH];exact av,by rw [aw];lia,fun t=>?_,fun s' h'=>?_⟩
     ·rw [aF,hin,take_snoc gs]
      constructor
      ·rintro (⟨s',h1,h2⟩ | h)
       ·exact ⟨s',aK _ h1,h2⟩
       ·exact ⟨ss,aG _ (ao.mpr rfl),h⟩
      ·rintro ⟨s',h1,h2⟩
       rcases aF.mp h1 with y | y
       ·exact .inl ⟨s',y,h2⟩
       ·rw [ao.mp y] at h2;exact .inr h2
     ·rw [take_snoc gs] at h'
      rcases aF.mp h' with y | y
      ·exact hok s' y
      ·rw [ao.mp y];exact ⟨ok,hR⟩
   ·rw [decide_eq_false c1]
    exact ft (no (fun z=>c1 (jk hperm hsort (z.1.up.imp fun h=>Int.le_of_lt h)).symm) _ s5)
  ·rintro σ H2 ⟨ins,v4,rfl,s2,e2,hil,hin,hok⟩
   rw [hyl,bZ] at hok
   rw [hyl] at hil
   simp only [hyl,bZ] at hin
   refine ⟨_,rfl,l,xs,rfl,.inl (s2.seq hl),(xs.length:Int),rfl,by lia,by lia,?_⟩
   rw [show ((xs.length:Int)).toNat=es.length from hxl]
   refine fD dv (fun j zs H3=>H3=H2∧zs=((iQ es.length).take j).map fun t=>V.bl (ins.any (·==t))) (aM (aE (by lia))) ⟨rfl,rfl⟩ ?_ ?_ ?_
   ·rintro j zs H3 hj ⟨rfl,rfl⟩
    exact ⟨trivial,by rw [ae,aD];lia⟩
   ·rintro j zs H3 hj ⟨rfl,rfl⟩
    have hj':j<es.length:=hj
    try dsimp only
    rw [ff]
    refine ⟨dQ rfl,ft ⟨_,rfl,_,rfl,g,_,rfl,.inl (SqL.of e2),rfl,fQ _,aE (by rw [ae,aD];lia),_,by lia,rfl,by lia,rfl,?_⟩⟩
    rw [take_snoc (gI hj'),aH,gy];rfl
   rintro zs H3 ⟨rfl,rfl⟩ l4 n4
   rw [bh (by rw [gp];exact aO _)]
   refine ⟨l4,_,rfl,.inl (SqL.of av),(nL _ _).1,?_⟩
   rw [(nL _ _).2]
   refine k _ _ (s2.next n4) ?_
   rw [cJ]
   constructor
   ·intro h
    refine ⟨hok,fun t ht=>?_⟩
    have:=h (t:Int) (aZ (gI ht))
    exact (hin _).mp (eX.mp this)
   ·rintro ⟨_,h⟩ t ht
    obtain ⟨j,hj,rfl⟩:=bV.mp ht
    rw [gp] at hj
    have ej:(iQ es.length)[j]=(j:Int):=by
     have:=gI hj
     rw [ak (by rw [gp];exact hj)] at this
     injection this
    rw [ej]
    exact eX.mpr ((hin _).mpr (h j hj))
def xN (K:ai) (c:Cs):Sp:=fun vs H Q _=>∃(x q:Addr) (m:Int) (es:List (Int×Int)) (xs:List V) (sets:List (List Int)),vs=[.ref x,.ref q]∧fb K c.Web H x m es∧SqL K H q xs∧LlS H xs sets∧sets.length≤20∧(∀ss∈sets,ss.length≤900)∧1≤m∧m≤20∧es.length≤40∧cV es m∧¬Due m es sets∧∀H',bx H H'→Q (.bl true) H'
theorem w_:bS ["web","sets","found","e"] ["web","sets"] (aB sRf):=⟨rfl,rfl,rfl,by decide +kernel,rfl,by decide +kernel,by decide +kernel⟩
theorem yG {f:Addr} {fd:FuncData} (F:Fun K "_law_refused" "_law_refused" sRf f fd) (T:Txt K mg c) (D_Ly:gT P w K mg base 8 "layered" ["web","sets"] (wO K c)) (D_X:wK P w K mg base 1 "_law_alone" ["e"] (spX K c)):fm P w K mg base CX0 9 f fd ["web","sets"] (xN K c):=by
 refine F.ok w_ (fun vs H Q E h=>?_) (fun cdv A outer s H vs Q E hr h=>?_)
 ·obtain ⟨x,q,m,es,xs,sets,rfl,_⟩:=h
  rfl
 ·obtain ⟨x,q,m,es,xs,sets,rfl,hw,hq,hs,hz,hsl,m1,m2,he,hE,hd,k⟩:=h
  have hu:A.units+3+64<cLine:=hr.units
  refine ⟨_,ax (bA (i:=2) w_.nd rfl (Or.inl rfl) (pE))
   (ax (dq (tY (i:=3) ⟨rfl,rfl,rfl⟩ w_.nd rfl rfl (by rfl) T.mFlowError T.xFlowError (fun pn Ex=>aQ (dk (fH D_Ly hr rfl rfl (ah (pv 0) (ah (pv 1) ay))))) (fun x=>aQ (bA (i:=2) w_.nd rfl (Or.inl rfl) (de (ah (a_ (nK (K:=K) rfl) (by rfl) T.isinstance bc (ah (pv 3) (ah (fw (v:=.ref c.BadSet) (by rfl) T.mBadSet rfl) ay))) (ah (ue D_X hr.held (ah (pv 3) ay)) ay)))))))
   (aQ (cC (gz (vR (K:=K) rfl hu) (pv 2) (de (ah (jO) (ah (jO) ay))) (cw _))))),?_⟩
  clear hu
  refine ⟨fun σ' H'=>∃l,σ'=[some (.ref x),some (.ref q),some (.ref l),none]∧bx H H'∧H' l=some (.lst [V.bl true,V.bl true]),?_,?_⟩
  ·refine ⟨fun σ' C H'=>σ'=[some (.ref x),some (.ref q),some .non,none]∧bx H H'∧C=.ref c.BadSet,?_,?_⟩
   ·exact ⟨_,rfl,_,rfl,x,q,m,es,xs,sets,rfl,hw,hq,hs,hz,hsl,m1,m2,he,hE,fun _ H' s'=>⟨rfl,s',rfl⟩,fun z=>absurd z hd⟩
   ·rintro σ' C H' ⟨rfl,s1,rfl⟩
    refine ⟨_,rfl,T.xBadSet,T.rBadSet,fun y ny=>?_⟩
    have s2:=s1.next (o:=.ext (si y (.ref c.BadSet))) ny
    have y2:(upd H' y (.ext (si y (.ref c.BadSet)))) y=some (.ext (si y (.ref c.BadSet))):=av
    generalize upd H' y (.ext (si y (.ref c.BadSet)))=H2 at s2 y2
    exact ⟨_,rfl,y,_,_,_,true,rfl,rfl,fun _ z=>z,y2,T.alBadSet.ex,kq _ _,_,rfl,y,_,rfl,y2,T.alBadSet,fun H3 s3=>⟨(by show 2≤sizeLine;decide),fun l nl=>⟨l,rfl,(s2.trans s3).next nl,av⟩⟩⟩
  ·rintro σ' H2 ⟨l,rfl,s2,e2⟩
   refine ⟨_,rfl,(by show 2≤sizeLine;decide),fun l2 nl2=>?_⟩
   exact ⟨.list [.bool true,.bool true],.list [.bool true,.bool true],.lst (SqL.of (bx.new nl2 _ _ e2)) (.cons (.bl _) (.cons (.bl _) .nil)),.lst (SqL.of av) (.cons (.bl _) (.cons (.bl _) .nil)),rfl,rfl,k _ (s2.next nl2)⟩
theorem jv {K:ai} {H:Hp}:∀{xs:List V} {ls:List (List Int)},LlS H xs ls→gU K H xs (ls.map dI)
 | _,_,.nil=>.nil
 | _,_,.cons ⟨_,e,q⟩ t=>by subst e;exact .cons (fh (SqL.of q)) (jv t)
def dLs (lss:List (List Int)):PyData:=.list (lss.map dI)
theorem qK:∀es:List (List Int),PyData.canLayAll0 (es.map dI)=true∧PyData.depthAll (es.map dI)≤1
 | []=>⟨rfl,dM _⟩
 | n::r=>by
  obtain ⟨h1,h2⟩:=qK r
  obtain ⟨h3,h4⟩:=qL n
  simp only [bf,dI,PyData.canLayAll0,PyData.canLay0,PyData.depthAll,PyData.depth,h1,h3,h4]
  exact ⟨rfl,Nat.max_le.mpr ⟨by simp,h2⟩⟩
theorem hU (es:List (List Int)):SeqAt.shaped (dLs es)=true:=by
 obtain ⟨h1,h2⟩:=qK es
 unfold SeqAt.shaped dLs
 simp only [PyData.canLay0,PyData.depth,h1,du]
 exact decide_eq_true (by lia)
theorem jU:∀ns:List (List Int),PyData.eqvAll (ns.map dI) (ns.map dI)=true
 | []=>rfl
 | a::r=>by
  have e:PyData.eqv (dI a) (dI a)=true:=by rw [jE];exact decide_eq_true rfl
  simp only [bf,PyData.eqvAll]
  rw [e,jU r];rfl
theorem qy (ns:List (List Int)):PyData.eqv (dLs ns) (dLs ns)=true:=jU ns
def spR (K:ai) (c:Cs):Sp:=fun vs H Q _=>∃(l x q:Addr) (m:Int) (xs:List V) (es:List (Int×Int)) (ys:List V) (sets:List (List Int)),vs=[.int m,.ref l,.ref x,.ref q]∧SqL K H l xs∧Pairs K H xs es∧fb K c.Web H x m es∧SqL K H q ys∧LlS H ys sets∧sets.length≤12∧(∀ss∈sets,ss.length<64)∧1≤m∧m≤20∧es.length≤40∧cV es m∧∀H',bx H H'→Q (.bl true) H'
theorem scR:bS ["many","ends","web","sets","handed","total","k","flow","found"] ["many","ends","web","sets"] (aB sR):=⟨rfl,rfl,rfl,by decide +kernel,rfl,by decide +kernel,by decide +kernel⟩
theorem Bc {f:Addr} {fd:FuncData} (F:Fun K "_law_right" "_law_right" sR f fd) (T:Txt K mg c) (D_Du:Def P w K mg base 2 "_law_due" ["many","ends","sets"] (ya K)) (D_Rf:Def P w K mg base 9 "_law_refused" ["web","sets"] (xN K c)) (D_Ef:gT P w K mg base 7 "even_flow" ["web","some"] (wW K c)) (D_Ly:gT P w K mg base 8 "layered" ["web","sets"] (wO K c)) (D_Lm:Def P w K mg base 2 "_law_amounts" ["found","many"] (xT K)) (D_Lg:Def P w K mg base 1 "_law_gains" ["many","ends","amounts"] (xU K)):fm P w K mg base CX0 10 f fd ["many","ends","web","sets"] (spR K c):=by
 refine F.ok scR (fun vs H Q E h=>?_) (fun cdv A outer s H vs Q E hr h=>?_)
 ·obtain ⟨l,x,q,m,xs,es,ys,sets,rfl,_⟩:=h
  rfl
 ·obtain ⟨l,x,q,m,xs,es,ys,sets,rfl,hl,hp,hw,hq,hs,hz,hsl,m1,m2,he,hE,k⟩:=h
  have hu:A.units+3+64<cLine:=hr.units
  refine ⟨_,ax (hX (i:=4) (N':=["some"]) (nl:=1) (js:=[]) rfl (.of (osc:=aB sR) (N:=["many","ends","web","sets","handed","total","k","flow","found"]) (by decide +kernel) rfl rfl) (f_ (K:=K) rfl (pv 3))
    (fun _ _ _ _=>bG (i:=0) (show (["some"]:List Str).Nodup by decide +kernel) rfl (Or.inl rfl)) (fun _ _ _ _=>dG)
    (fun _ _ _ _=>fq (lJ (K:=K) rfl) (by rfl) T.list cH (ah (pv 0) ay)) scR.nd rfl rfl)
   (ax (dZ (ig (gX (bP D_Du hr (ah (pv 0) (ah (pv 1) (ah (pv 3) ay))))))
    (aQ (cC (mZ (bP D_Rf hr (ah (pv 2) (ah (pv 4) ay))) (pC (gz (vR (K:=K) rfl hu) (pv 4) (pv 3) (cw _)))))) (cL))
   (ax (bA (i:=5) scR.nd rfl (Or.inr rfl) (bK iA (de (ah (aN) ay)) (a_ (gc (K:=K) rfl) (by rfl) T.len aS (ah (pv 1) ay))))
   (ax (fk PassesOwn.never rfl (ef rfl T.range (ah (a_ (gc (K:=K) rfl) (by rfl) T.len aS (ah (pv 3) ay)) ay)) (bG (i:=6) scR.nd rfl (Or.inr rfl))
    (ax (bA (i:=7) scR.nd rfl (Or.inr rfl) (bP D_Ef.calm hr (ah (pv 2) (ah (fq (lJ (K:=K) rfl) (by rfl) T.list cH (ah (cn (ixL (K:=K) rfl) (pv 3) (pv 6) (fun _ _=>rfl)) ay)) ay))))
   (aQ (bA (i:=5) scR.nd rfl (Or.inr rfl) (fG (N':=["tie","total","k","flow"]) (nl:=1) (js:=[5,6,7]) rfl (.of (osc:=aB sR) (N:=["many","ends","web","sets","handed","total","k","flow","found"]) (by decide +kernel) rfl rfl) (ef rfl T.range (ah (a_ (gc (K:=K) rfl) (by rfl) T.len aS (ah (pv 1) ay)) ay))
    (fun _ _ _ _=>bG (i:=0) (show (["tie","total","k","flow"]:List Str).Nodup by decide +kernel) rfl (Or.inl rfl)) (fun _ _ _ _=>dG)
    (fun _ _ _ _=>bK eW (cn (ixL (K:=K) rfl) (pv 1) (pv 0) (fun _ _=>rfl)) (bK jq (bK sO (aN) (pv 2)) (cn (ixL (K:=K) rfl) (pv 3) (pv 0) (fun _ _=>rfl)))))))))
   (ax (bA (i:=8) scR.nd rfl (Or.inl rfl) (bP D_Ly.calm hr (ah (pv 2) (ah (pv 4) ay))))
   (ax (dZ (PW.pt (jN (ig (gX (bP D_Lm hr (ah (pv 8) (ah (a_ (gc (K:=K) rfl) (by rfl) T.len aS (ah (pv 1) ay)) ay))))) (jN (bL (md (K:=K) rfl hu) (pv 8) (pv 5) (cw _)) (iV (bL (md (K:=K) rfl hu) (pv 4) (pv 3) (cw _))))))
    (aQ (cC (jO))) (cL))
   (ax (dk (gC PySem.F.plainAttrs_list PySem.F.slot_list_append PySem.F.type_list_append eI (pv 8) (ah (aN) ay)))
   (ax (bA (i:=8) scR.nd rfl (Or.inl rfl) (bP D_Ly.calm hr (ah (pv 2) (ah (pv 4) ay))))
   (ax (dZ (bL (md (K:=K) rfl hu) (pv 8) (pv 5) (cw _))
    (aQ (cC (jO))) (cL))
   (ax (dZ (PW.pt (jN (bL (md (K:=K) rfl hu) (bP D_Lg hr (ah (pv 0) (ah (pv 1) (ah (pv 8) ay)))) (bK iA (de (ah (aN) ay)) (pv 0)) (cw _)) (iV (bL (uj (K:=K) rfl) (aN) (pv 8) (by with_unfolding_all rfl)))))
    (aQ (cC (jO))) (cL))
   (aQ (cC (a_ (va (K:=K) rfl rfl) (by rfl) T.all dH (ah (fG (N':=["much","sets"]) (nl:=1) (js:=[3]) rfl (.of (osc:=aB sR) (N:=["many","ends","web","sets","handed","total","k","flow","found"]) (by decide +kernel) rfl rfl) (f_ (K:=K) rfl (pv 8))
    (fun _ _ _ _=>bG (i:=0) (show (["much","sets"]:List Str).Nodup by decide +kernel) rfl (Or.inl rfl)) (fun _ _ _ _=>dG)
    (fun _ _ _ _=>gz iB (a_ ji (by rfl) T.abs PyProof.Rows.boot_abs (ah (pv 0) ay)) (bK sO (aN) (a_ (gc (K:=K) rfl) (by rfl) T.len aS (ah (pv 1) ay))) (cw _))) ay))))))))))))),?_⟩
  clear hu
  have hxl:=hp.len
  have hyl:=hs.len
  have hsl9:∀ss∈sets,ss.length≤900:=fun ss h=>by have:=hsl ss h;lia
  refine ⟨_,rfl,q,_,rfl,.inl hq,fun J C O hC=>fD O (fun j zs H2=>bx H H2∧LlS H2 zs (sets.take j)) (aM (aE (by lia))) ⟨bx.refl _,.nil⟩ ?_ ?_ ?_⟩
  ·rintro j zs H2 hj ⟨s2,L2⟩
   exact ⟨hC _ s2,by rw [L2.len,aD];lia⟩
  ·rintro j zs H2 hj ⟨s2,L2⟩
   obtain ⟨r,ss,er,hr2,gs⟩:=(hs.same s2).at hj
   have hzl:=L2.len
   rw [aD] at hzl
   try dsimp only
   rw [er]
   refine ⟨dQ rfl,ft ⟨_,rfl,r,_,rfl,.inl (SqL.of hr2),fun ln nln=>⟨aE (by lia),_,by lia,rfl,by lia,s2.next nln,?_⟩⟩⟩
   rw [take_snoc gs]
   exact (L2.same (bx.new nln)).append (.cons ⟨ln,rfl,av⟩ .nil)
  rintro zs H2 ⟨s2,L2⟩ lh nlh
  rw [hyl,bZ] at L2
  have s3:=s2.next (o:=.lst zs) nlh
  have e3:(upd H2 lh (.lst zs)) lh=some (.lst zs):=av
  have L3:=L2.same (bx.new (o:=.lst zs) nlh)
  generalize upd H2 lh (.lst zs)=H3 at s3 e3 L3
  clear s2 L2 nlh
  refine ⟨_,rfl,_,rfl,_,rfl,l,q,m,xs,es,ys,sets,rfl,s3.seq hl,hp.same s3,s3.seq hq,hs.same s3,hz,hsl,m1,m2,he,hE,fun b H4 s4 hb=>⟨_,rfl,?_⟩⟩
  have s04:=s3.trans s4
  have e4:=s4 _ _ e3
  have L4:=L3.same s4
  clear s3 e3 L3 s4
  cases b with
  | false =>
   refine ft ⟨_,rfl,_,rfl,x,lh,m,es,zs,sets,rfl,hw.same s04,SqL.of e4,L4,by lia,hsl9,m1,m2,he,hE,(fun z=>by have:=hb.mpr z;cases this),fun H5 s5=>?_⟩
   have s05:=s04.trans s5
   refine ⟨_,rfl,ft ⟨_,rfl,_,rfl,dLs sets,dLs sets,.lst (SqL.of (s5 _ _ e4)) (jv (L4.same s5)),.lst (s05.seq hq) (jv (hs.same s05)),hU _,hU _,?_⟩⟩
   rw [qy]
   exact k _ s05
  | true =>
   have due:=hb.mp rfl
   refine gb ?_
   refine ⟨(by show 1≤sizeLine;decide),fun q1 nq1=>?_⟩
   have s5:=bx.new (o:=.lst [V.int 0]) nq1
   have e5:(upd H4 q1 (.lst [V.int 0])) q1=some (.lst [V.int 0]):=av
   generalize upd H4 q1 (.lst [V.int 0])=H5 at s5 e5
   refine ⟨_,rfl,l,xs,rfl,.inl ((s04.trans s5).seq hl),q1,(xs.length:Int),_,rfl,rfl,e5,by lia,by lia,aM (aE (by show 1*((xs.length:Int)).toNat≤1000;lia)),fun tl nt=>?_⟩
   rw [fZ,show ((xs.length:Int)).toNat=es.length by lia]
   have s6:=s5.next (o:=.lst ((az es.length (0:Int)).map V.int)) nt
   have e6:(upd H5 tl (.lst ((az es.length (0:Int)).map V.int))) tl=some (.lst ((az es.length (0:Int)).map V.int)):=av
   generalize upd H5 tl (.lst ((az es.length (0:Int)).map V.int))=H6 at s6 e6
   clear s5 e5 nq1 nt
   refine ⟨_,rfl,q,ys,rfl,.inl ((s04.trans s6).seq hq),(ys.length:Int),rfl,by lia,by lia,?_⟩
   rw [show ((ys.length:Int)).toNat=sets.length by lia]
   refine fF dv (fun i σ H7=>∃(tl:Addr) (fss:List (List Int)) (v6 v7:Option V),σ=[some (.int m),some (.ref l),some (.ref x),some (.ref q),some (.ref lh),some (.ref tl),v6,v7,none]∧bx H4 H7∧H7 tl=some (.lst ((lay es.length fss i).map V.int))∧fss.length=i∧iH m es sets fss i) ⟨tl,[],none,none,rfl,s6,e6,rfl,⟨fun j hj=>absurd hj (bM _),fun j hj=>absurd hj (bM _)⟩⟩ (fun _ _ _ _ _=>trivial) ?_ ?_
   ·rintro i σ H7 hi ⟨tl,fss,v6,v7,rfl,s7,e7,hfl,LF⟩
    have hi':i<sets.length:=hi
    have s07:=s04.trans s7
    obtain ⟨r,ss,er,hr2,gs⟩:=(hs.same s07).at (show i<ys.length by lia)
    have hsm:=aZ gs
    have aq:atI ys (i:Int)=some (.ref r):=mJ (by
     rw [ak (show i<ys.length by lia)]
     rw [aa,ak (show i<ys.length by lia)] at er
     exact congrArg some er)
    try dsimp only
    rw [ff]
    refine ⟨_,rfl,_,rfl,_,rfl,q,_,_,_,rfl,rfl,s07.seq hq,aq,r,_,rfl,.inl (SqL.of hr2),fun ln nln=>?_⟩
    have s8:=s7.next (o:=.lst (ss.map V.int)) nln
    have t8:=bx.new (o:=.lst (ss.map V.int)) nln
    have n8:(upd H7 ln (.lst (ss.map V.int))) ln=some (.lst (ss.map V.int)):=av
    generalize upd H7 ln (.lst (ss.map V.int))=H8 at s8 t8 n8
    refine ⟨x,ln,m,es,ss,rfl,hw.same (s04.trans s8),SqL.of n8,hsl9 ss hsm,m1,m2,he,hE,fun z=>absurd (due.1 ss hsm) z,fun _ _ lg gg H9 nlg s9 e9 RF LR=>?_⟩
    have s9':=s8.trans s9
    subst hfl
    have LS:=LF.snoc gs RF LR
    have hll:=LS.len
    have hl0:=LF.len
    have hgl:=RF.len
    have t9:=(t8.trans s9) _ _ e7
    have hlm:∀j,(((lay es.length (fss++[gg]) (fss.length+1)).take j).map V.int).length≤j:=fun j=>by rw [ae,aD];lia
    refine ⟨_,rfl,l,xs,rfl,.inl ((s04.trans s9').seq hl),(xs.length:Int),rfl,by lia,by lia,?_⟩
    rw [show ((xs.length:Int)).toNat=es.length from hxl]
    refine fD dv (fun j zs HA=>HA=H9∧zs=((lay es.length (fss++[gg]) (fss.length+1)).take j).map V.int) (aM (aE (by lia))) ⟨rfl,rfl⟩ ?_ ?_ ?_
    ·rintro j zs HA hj ⟨rfl,rfl⟩
     exact ⟨trivial,hlm j⟩
    ·rintro j zs HA hj ⟨rfl,rfl⟩
     have hj':j<es.length:=hj
     have a1:atI ((lay es.length fss fss.length).map V.int) (0+(j:Nat):Int)=some (.int ((lay es.length fss fss.length).getD j 0)):=by
      have:=dY (ns:=lay es.length fss fss.length) (k:=(0+(j:Nat):Int)) (by lia) (by lia)
      rwa [show (0+(j:Nat):Int).toNat=j by lia] at this
     have a2:atI (gg.map V.int) (0+(j:Nat):Int)=some (.int (gg.getD j 0)):=by
      have:=dY (ns:=gg) (k:=(0+(j:Nat):Int)) (by lia) (by lia)
      rwa [show (0+(j:Nat):Int).toNat=j by lia] at this
     have hv:(lay es.length (fss++[gg]) (fss.length+1))[j]?=some ((lay es.length fss fss.length).getD j 0+1*2^((fss.length:Int)).toNat*gg.getD j 0):=by
      have h1:=pY LS.vW hj'
      rw [my (aO _),gdr,fJ (by rw [hll];exact hj')] at h1
      rw [ak (by rw [hll];exact hj'),h1,dW,bz]
     have hgj:-(2^64)<gg.getD j 0∧gg.getD j 0<2^64:=by
      have h1:=LS.one (j:=fss.length) (bY _) hj'
      rw [gdr] at h1
      by_cases c:(j:Int)∈sets.getD fss.length []
      ·rcases h1.1 c with z | z<;>rw [z]<;>decide
      ·rw [h1.2 c];decide
     try dsimp only
     refine ⟨dQ rfl,ft ⟨_,rfl,_,rfl,tl,_,_,_,rfl,rfl,SqL.of t9,a1,_,rfl,_,_,rfl,rfl,⟨by lia,by lia,by decide⟩,_,rfl,_,rfl,lg,_,_,_,rfl,rfl,SqL.of e9,a2,_,_,rfl,rfl,.inr hgj,_,_,rfl,rfl,aE (cx (hlm j) (by lia)),_,by lia,rfl,by lia,rfl,?_⟩⟩
     rw [take_snoc hv,aH];rfl
    ·rintro zs HA ⟨rfl,rfl⟩ lz nlz
     rw [bh (by rw [hll];exact aO _)]
     exact ⟨lz,fss++[gg],some (.int (fss.length:Int)),some (.ref lg),rfl,s9'.next nlz,av,by rw [aw];rfl,LS⟩
   ·rintro σ H7 ⟨tl,fss,v6,v7,rfl,s7,e7,hfl,LF⟩
    have s07:=s04.trans s7
    have hll:=LF.len
    have hlm:((lay es.length fss sets.length).map V.int).length=es.length:=by rw [ae];exact hll
    refine ⟨_,rfl,_,rfl,x,lh,m,es,zs,sets,rfl,hw.same s07,SqL.of (s7 _ _ e4),L4.same s7,by lia,hsl9,m1,m2,he,hE,fun z=>absurd due z,fun _ lg fs2 H8 nlg s8 e8 LF2=>?_⟩
    rw [iH.det hE LF2 LF] at e8
    have s08:=s07.trans s8
    refine ⟨_,rfl,_,rfl,l,xs,rfl,.inl (s08.seq hl),lg,_,_,rfl,e8,by lia,by lia,fun H9 s9=>⟨_,rfl,gb ?_⟩⟩
    have s09:=s08.trans s9
    have e9:=s9 _ _ e8
    have d9:=(s8.trans s9) _ _ e7
    refine ⟨_,rfl,_,rfl,dI _,dI _,fh (SqL.of e9),fh (SqL.of d9),eQ _,eQ _,_,rfl,?_⟩
    rw [jE,decide_eq_true rfl]
    refine gb ?_
    have s49:=(s7.trans s8).trans s9
    refine ⟨_,rfl,_,rfl,dLs sets,dLs sets,.lst (SqL.of (s49 _ _ e4)) (jv (L4.same s49)),.lst (s09.seq hq) (jv (hs.same s09)),hU _,hU _,_,rfl,?_⟩
    rw [qy]
    refine gb ?_
    refine ⟨_,rfl,.inl ⟨rfl,_,SqL.of e9⟩,lg,_,_,rfl,rfl,e9,aE (by lia),?_⟩
    have sA:bx H7 (upd H9 lg (.lst ((lay es.length fss sets.length).map V.int++[V.int 1]))):=(s8.trans s9).upd nlg
    generalize upd H9 lg (.lst ((lay es.length fss sets.length).map V.int++[V.int 1]))=HA at sA
    have s0A:=s07.trans sA
    have s4A:=s7.trans sA
    clear s49 d9 e9 s09 s9 s08 e8 s8 nlg
    refine ⟨_,rfl,_,rfl,x,lh,m,es,zs,sets,rfl,hw.same s0A,SqL.of (s4A _ _ e4),L4.same s4A,by lia,hsl9,m1,m2,he,hE,fun z=>absurd due z,fun _ lg fs3 HB nlg sB eB LF3=>?_⟩
    rw [iH.det hE LF3 LF] at eB
    have s0B:=s0A.trans sB
    refine ⟨_,rfl,_,rfl,dI _,dI _,fh (SqL.of eB),fh (SqL.of ((sA.trans sB) _ _ e7)),eQ _,eQ _,_,rfl,?_⟩
    rw [jE,decide_eq_true rfl]
    refine gb ?_
    refine ⟨_,rfl,_,rfl,_,rfl,l,lg,m,xs,es,_,rfl,s0B.seq hl,hp.same s0B,SqL.of eB,hll,m1,m2,he,hE,fun lz us HC nlz sC eC hul hd=>?_⟩
    have eus:us=az m.toNat 0:=by
     refine eU (by rw [bg];exact hul) fun i h1 h2=>?_
     rw [List.getElem_replicate,←fJ h1,hd i (by lia),LF.qu]
    refine ⟨(by show 1≤sizeLine;decide),fun q1 nq1=>?_⟩
    have sD:=bx.new (o:=.lst [V.int 0]) nq1
    have eD:(upd HC q1 (.lst [V.int 0])) q1=some (.lst [V.int 0]):=av
    generalize upd HC q1 (.lst [V.int 0])=HD at sD eD
    refine ⟨_,rfl,q1,m,_,rfl,rfl,eD,by lia,by lia,aM (aE (by show 1*m.toNat≤1000;lia)),fun q2 nq2=>?_⟩
    rw [fZ]
    have sE:=sD.next (o:=.lst ((az m.toNat (0:Int)).map V.int)) nq2
    have eE:(upd HD q2 (.lst ((az m.toNat (0:Int)).map V.int))) q2=some (.lst ((az m.toNat (0:Int)).map V.int)):=av
    generalize upd HD q2 (.lst ((az m.toNat (0:Int)).map V.int))=HE at sE eE
    refine ⟨dI us,dI (az m.toNat 0),fh (SqL.of (sE _ _ eC)),fh (SqL.of eE),eQ _,eQ _,_,rfl,?_⟩
    rw [jE,decide_eq_true eus]
    refine gb ?_
    have s0E:=(s0B.trans sC).trans sE
    have eF:=(sC.trans sE) _ _ eB
    have hnz:((lay es.length fss sets.length).any (·==0))=false:=by
     cases hA:(lay es.length fss sets.length).any (·==0) with
     | false=>rfl
     | true =>
      obtain ⟨t,ht,ez⟩:=bV.mp (eX.mp hA)
      have ht':t<es.length:=by lia
      obtain ⟨ss,hm,hin⟩:=due.2 t ht'
      obtain ⟨j,hj,ej⟩:=bV.mp hm
      refine absurd ?_ (LF.nz ht' hj (by rw [aa,ak hj,ej];exact hin))
      rw [fJ ht];exact ez
    refine ⟨_,rfl,lg,_,rfl,.inl (SqL.of eF),rfl,fQ _,_,rfl,?_⟩
    rw [gy,hnz]
    refine gb ?_
    refine ⟨_,rfl,lg,_,rfl,.inl (SqL.of eF),fun J C O hC=>fD O (fun i us HF=>HF=HE∧us=az i (V.bl true)) (by rw [hlm];exact aM (aE (by lia))) ⟨rfl,rfl⟩ ?_ ?_ ?_⟩
    ·rintro i us HF hi ⟨rfl,rfl⟩
     exact ⟨hC _ (bx.refl _),by rw [bg];exact aO _⟩
    ·rintro i us HF hi ⟨rfl,rfl⟩
     obtain ⟨v,ev,gv⟩:=getD_map_int hi
     rw [hlm] at hi
     have hv:=LF.bound (t:=i) hi
     rw [aa,gv] at hv
     have hv':-(2^sets.length:Int)<v∧v<2^sets.length:=hv
     try dsimp only
     rw [ev]
     refine ⟨dQ rfl,ft ⟨_,rfl,_,rfl,_,rfl,q,_,rfl,.inl (s0E.seq hq),_,_,rfl,rfl,⟨by lia,by lia,by decide⟩,_,_,rfl,rfl,?_⟩⟩
     show _∧_
     refine ⟨aE (by rw [bg];lia),_,by lia,rfl,by lia,rfl,?_⟩
     rw [List.replicate_succ']
     show _++[V.bl (decide ((if v<0 then -v else v)<1*2^((ys.length:Int)).toNat))]=_
     rw [bz,hyl,dW,decide_eq_true (by split<;>lia)]
    rintro us HF ⟨rfl,rfl⟩ la nla
    refine ⟨la,_,rfl,.inl (SqL.of av),(jR _).2,?_⟩
    rw [(jR _).1]
    exact k _ (s0E.next nla)
theorem LlS.take:∀{H:Hp} {xs:List V} {ls:List (List Int)} (i:Nat),LlS H xs ls→LlS H (xs.take i) (ls.take i)
 | _,_,_,0,_=>.nil
 | _,_,_,_+1,.nil=>.nil
 | _,_,_,i+1,.cons a t=>.cons a (LlS.take i t)
theorem LlS.drop:∀{H:Hp} {xs:List V} {ls:List (List Int)} (i:Nat),LlS H xs ls→LlS H (xs.drop i) (ls.drop i)
 | _,_,_,0,h=>h
 | _,_,_,_+1,.nil=>.nil
 | _,_,_,i+1,.cons _ t=>LlS.drop i t
theorem LlS.rev:∀{H:Hp} {xs:List V} {ls:List (List Int)},LlS H xs ls→LlS H xs.reverse ls.reverse
 | _,_,_,.nil=>.nil
 | _,_,_,.cons a t=>by rw [List.reverse_cons,List.reverse_cons];exact LlS.append (LlS.rev t) (.cons a .nil)
structure Sts (H:Hp) (r:Addr):Prop where
 mk' ::
 ex:∃(ys:List V) (ls:List (List Int)),H r=some (.lst ys)∧LlS H ys ls∧ls.length≤12∧∀ss∈ls,ss.length<64
theorem Sts.same {H H':Hp} {r:Addr} (S:bx H H') (h:Sts H r):Sts H' r:=by
 obtain ⟨ys,ls,h1,h2,h3⟩:=h.ex
 exact ⟨ys,ls,S _ _ h1,h2.same S,h3⟩
theorem xj (n:Nat):((bF n).map fun i=>0+((i:Nat):Int))=iQ n:=by
 unfold iQ
 exact List.map_congr_left fun i _=>ff _
theorem scL:bS ["script","many","ends","web","held","sets","cell","at","other","bad","less_one"] ["script"] (aB sL):=⟨rfl,rfl,rfl,by decide +kernel,rfl,by decide +kernel,by decide +kernel⟩
theorem Be {f:Addr} {fd:FuncData} (F:Fun K "law" "law" sL f fd) (T:Txt K mg c) (D_C:Def P w K mg base 1 "_law_cell" ["script","k"] (spC K)) (D_D:Def P w K mg base 3 "_law_drawn" ["script","most","bound"] (spD K)) (D_Ea:Def P w K mg base 2 "_law_ears" ["script","at","most","bound"] (x_ K)) (D_Fo:Def P w K mg base 1 "_law_forest" ["many","ends","order"] (xY K)) (D_Sx:Def P w K mg base 2 "_law_sets" ["many","ends","held"] (xG K)) (D_Ch:Def P w K mg base 1 "_law_chosen" ["cell","many"] (yd K)) (D_Bs:Def P w K mg base 1 "_law_bad_set" ["some","count","cell"] (yh K)) (D_R:Def P w K mg base 10 "_law_right" ["many","ends","web","sets"] (spR K c)) (D_N:sg P w K mg base 1 "Web" c.Web ["self","many","ties"] (mR K c.Web)):fm P w K mg base CX0 11 f fd ["script"] (rg K):=by
 refine F.ok scL (fun vs H Q E h=>?_) (fun cdv A outer s H vs Q E hr h=>?_)
 ·obtain ⟨a,ns,rfl,_⟩:=h
  rfl
 ·obtain ⟨a,ns,rfl,hS,hlen,k⟩:=h
  have hu:A.units+3+64<cLine:=hr.units
  refine ⟨_,ax (ij (bP D_D hr (ah (pv 0) (ah (aN) (ah (aN) ay)))) (jo (K:=K) (n:=2) rfl rfl (dh (bG (i:=1) scL.nd rfl (Or.inr rfl)) (dh (bG (i:=2) scL.nd rfl (Or.inr rfl)) (fW))) rfl))
   (ax (dq (dZ (bL gm (bK dX (bP D_C hr (ah (pv 0) (ah (aN) ay))) (aN)) (aN) (cw _))
    (aQ (ij (bP D_Ea hr (ah (pv 0) (ah (aN) (ah (aN) (ah (aN) ay))))) (jo (K:=K) (n:=2) rfl rfl (dh (bG (i:=1) scL.nd rfl (Or.inr rfl)) (dh (bG (i:=2) scL.nd rfl (Or.inr rfl)) (fW))) rfl))) (cL)))
   (ax (bA (i:=3) scL.nd rfl (Or.inr rfl) (vK D_N hr (ah (pv 1) (ah (fq (lJ (K:=K) rfl) (by rfl) T.list cH (ah (pv 2) ay)) ay))))
   (ax (bA (i:=4) scL.nd rfl (Or.inl rfl) (bP D_Fo hr (ah (pv 1) (ah (pv 2) (ah (gN rfl rfl T.list rfl T.range (ah (a_ (gc (K:=K) rfl) (by rfl) T.len aS (ah (pv 2) ay)) ay)) ay)))))
   (ax (bA (i:=5) scL.nd rfl (Or.inl rfl) (bP D_Sx hr (ah (pv 1) (ah (pv 2) (ah (pv 4) ay)))))
   (ax (bA (i:=6) scL.nd rfl (Or.inl rfl) (a_ (Aa (K:=K) rfl rfl) (by rfl) T.sum PyProof.Rows.boot_sum (ah (pv 0) ay)))
   (ax (dq (bA (i:=7) scL.nd rfl (Or.inl rfl) (bK dX (pv 6) (a_ (gc (K:=K) rfl) (by rfl) T.len aS (ah (pv 5) ay)))))
   (ax (dq (bA (i:=8) scL.nd rfl (Or.inl rfl) (bK gd (bK gd (gM (slL (K:=K) rfl) (pv 5) (ip) (gL (pv 7))) (de (ah (bP D_Ch hr (ah (bK eV (pv 6) (aN)) (ah (a_ (gc (K:=K) rfl) (by rfl) T.len aS (ah (pv 2) ay)) ay))) ay))) (gM (slL (K:=K) rfl) (pv 5) (gL (bK eW (pv 7) (aN))) (ip)))))
   (ax (dq (bA (i:=9) scL.nd rfl (Or.inl rfl) (bK gd (bK gd (gM (slL (K:=K) rfl) (pv 5) (ip) (gL (pv 7))) (de (ah (bP D_Bs hr (ah (cn (ixL (K:=K) rfl) (pv 5) (pv 7) (fun _ _=>rfl)) (ah (a_ (gc (K:=K) rfl) (by rfl) T.len aS (ah (pv 2) ay)) (ah (bK eV (pv 6) (aN)) ay)))) ay))) (gM (slL (K:=K) rfl) (pv 5) (gL (bK eW (pv 7) (aN))) (ip)))))
   (ax (dq (bA (i:=10) scL.nd rfl (Or.inl rfl) (bK gd (bK gd (gM (slL (K:=K) rfl) (pv 5) (ip) (gL (pv 7))) (gM (slL (K:=K) rfl) (pv 5) (gL (bK eW (pv 7) (aN))) (ip))) (de (ah (de ay) ay)))))
   (aQ (cC (a_ (va (K:=K) rfl rfl) (by rfl) T.all dH (ah (fG (N':=["some","many","ends","web"]) (nl:=1) (js:=[1,2,3]) rfl (.of (osc:=aB sL) (N:=["script","many","ends","web","held","sets","cell","at","other","bad","less_one"]) (by decide +kernel) rfl rfl) (f_ (K:=K) rfl (de (ah (pv 5) (ah (nS (K:=K) rfl rfl rfl T.list rfl T.reversed (ah (pv 5) ay)) (ah (pv 8) (ah (pv 9) (ah (pv 10) ay)))))))
    (fun _ _ _ _=>bG (i:=0) (show (["some","many","ends","web"]:List Str).Nodup by decide +kernel) rfl (Or.inl rfl)) (fun _ _ _ _=>dG)
    (fun _ _ _ _=>bP D_R hr (ah (pv 1) (ah (pv 2) (ah (pv 3) (ah (pv 0) ay)))))) ay))))))))))))),?_⟩
  clear hu
  refine ⟨_,rfl,a,ns,20,40,rfl,hS,by decide,by decide,by decide,by decide,fun t l m xs es H1 hl sH ht hl1 hp m1 m20 hz hE hth=>?_⟩
  refine ⟨t,_,rfl,SqT.of ht,rfl,_,_,rfl,_,_,rfl,rfl,?_⟩
  refine ⟨fun σ' H'=>∃(l:Addr) (m:Int) (xs:List V) (es:List (Int×Int)),σ'=[some (.ref a),some (.int m),some (.ref l),none,none,none,none,none,none,none,none]∧bx H H'∧H' l=some (.lst xs)∧Pairs K H' xs es∧1≤m∧m≤20∧(es.length:Int)≤40∧cV es m∧∀v∈xs,jP H' v,?_,?_⟩
  ·refine ⟨_,rfl,a,ns,0,rfl,sH.seq hS,by decide,_,_,rfl,rfl,(by show (0:Int)<2;decide),rfl,_,rfl,fX (fun _=>?_) (fun _=>?_)⟩
   ·refine ⟨_,rfl,a,ns,2,20,40,rfl,sH.seq hS,hlen,by decide,by decide,by decide,by decide,by decide,by decide,fun t' l' m' xs' es' H2 hl' s2 ht' hl2 hp' m1' m2' hz' hE' hth'=>?_⟩
    exact ⟨t',_,rfl,ht',rfl,_,_,rfl,_,_,rfl,rfl,l',m',xs',es',rfl,sH.trans s2,hl2,hp',m1',m2',hz',hE',hth'⟩
   ·exact ⟨l,m,xs,es,rfl,sH,hl1,hp,m1,m20,hz,hE,hth⟩
  clear hth hE hz m20 m1 hp hl1 ht sH hl
  rintro σ' HX ⟨l,m,xs,es,rfl,sX,lX,pX,m1,m20,hz,hE,tX⟩
  have hxl:=pX.len
  have hz':es.length≤40:=by lia
  have SX:=sX.seq hS
  refine ⟨_,rfl,_,rfl,l,_,rfl,.inl (SqL.of lX),fun l3 n3=>?_⟩
  have s3:=bx.new (o:=.lst xs) n3
  have e3:(upd HX l3 (.lst xs)) l3=some (.lst xs):=av
  have p3:=pX.same s3
  generalize upd HX l3 (.lst xs)=H3 at s3 e3 p3
  refine ⟨l3,m,xs,es,rfl,.inl (SqL.of e3),p3,m1,m20,hz',hE,fun x HW nx sW hw=>?_⟩
  have s1W:=s3.trans sW
  have lW:=s1W _ _ lX
  have pW:=pX.same s1W
  have tW:∀v∈xs,jP HW v:=fun v hv=>(tX v hv).same s1W
  have SW:=s1W.seq SX
  clear s3 e3 p3 sW s1W lX pX tX SX sX hS
  refine ⟨_,rfl,_,rfl,_,rfl,l,xs,rfl,.inl (SqL.of lW),(xs.length:Int),rfl,by lia,by lia,fun lo nlo=>?_⟩
  rw [show ((xs.length:Int)).toNat=es.length from hxl,xj]
  have s4:=bx.new (o:=.lst ((iQ es.length).map V.int)) nlo
  have o4:(upd HW lo (.lst ((iQ es.length).map V.int))) lo=some (.lst ((iQ es.length).map V.int)):=av
  generalize upd HW lo (.lst ((iQ es.length).map V.int))=H4 at s4 o4
  refine ⟨l,lo,m,xs,es,rfl,SqL.of (s4 _ _ lW),pW.same s4,SqL.of o4,m1,m20,hz',hE,fun lh H5 nlh s5 h5=>?_⟩
  have sW5:=s4.trans s5
  refine ⟨_,rfl,_,rfl,_,rfl,l,lh,m,xs,es,rfl,SqL.of (sW5 _ _ lW),pW.same sW5,fun v hv=>(tW v hv).same sW5,SqL.of h5,m1,m20,hz',hE,fun q ys sets H6 nq s6 q6 L6 b1 b2 ok=>?_⟩
  have sW6:=sW5.trans s6
  have hyl:=L6.len
  have l6:=sW6 _ _ lW
  have S6:Sts H6 q:=⟨ys,sets,q6,L6,by lia,fun ss hs=>by have:=(ok ss hs).len;lia⟩
  refine ⟨_,rfl,a,ns,rfl,.inl (sW6.seq SW),?_⟩
  generalize ns.sum=ce
  refine ⟨fun σ' H'=>H'=H6∧∃p:Int,0≤p∧p<(sets.length:Int)∧σ'=[some (.ref a),some (.int m),some (.ref l),some (.ref x),some (.ref lh),some (.ref q),some (.int ce),some (.int p),none,none,none],?_,?_⟩
  ·have hlt:=bD ce (show (0:Int)<(ys.length:Int) by lia)
   exact ⟨_,rfl,_,rfl,q,ys,rfl,.inl (SqL.of q6),_,_,rfl,rfl,(by show (0:Int)<(ys.length:Int);lia),rfl,_,bU _ (by lia),by lia,rfl⟩
  rintro σ' H7 ⟨rfl,p,p0,p1,rfl⟩
  have put:∀{H':Hp} {r:Addr} {cs:List Int},bx H7 H'→H' r=some (.lst (cs.map V.int))→cs.length<64→∀{r5:Addr},H' r5=some (.lst (ys.take p.toNat++[V.ref r]++ys.drop (p.toNat+1)))→Sts H' r5:=fun {H' r cs} S hr hc {r5} h5=>by
   refine ⟨_,_,h5,((LlS.take p.toNat L6).same S |>.append (.cons ⟨r,rfl,hr⟩ .nil)).append ((LlS.drop (p.toNat+1) L6).same S),?_,fun ss hs=>?_⟩
   ·rw [aw,aw,aD,cm,bI];lia
   ·rcases aF.mp hs with y | y
    ·rcases aF.mp y with y | y
     ·have:=(ok ss (List.mem_of_mem_take y)).len;lia
     ·rw [ao.mp y];exact hc
    ·have:=(ok ss (List.mem_of_mem_drop y)).len;lia
  have zl:(ys.take p.toNat).length≤20∧(ys.drop (p.toNat+1)).length≤20:=by
   rw [aD,cm];lia
  refine ⟨fun σ' H'=>bx H7 H'∧∃r,σ'=[some (.ref a),some (.int m),some (.ref l),some (.ref x),some (.ref lh),some (.ref q),some (.int ce),some (.int p),some (.ref r),none,none]∧Sts H' r,?_,?_⟩
  ·refine ⟨_,rfl,_,rfl,p,rfl,q,ys,rfl,SqL.of q6,fun r1 n1=>?_⟩
   rw [mF p0 (by lia)]
   have s1:=bx.new (o:=.lst (ys.take p.toNat)) n1
   have e1:(upd H7 r1 (.lst (ys.take p.toNat))) r1=some (.lst (ys.take p.toNat)):=av
   generalize upd H7 r1 (.lst (ys.take p.toNat))=G1 at s1 e1
   refine ⟨_,rfl,_,_,rfl,rfl,⟨by decide,by decide⟩,_,rfl,l,xs,rfl,.inl (SqL.of (s1 _ _ l6)),_,es.length,by rw [hxl],hz',fun lc cs G2 nlc s2 c2 cok=>?_⟩
   have hcl:=cok.len
   refine ⟨(by show 1≤sizeLine;decide),fun r2 n2=>?_⟩
   have s3:=bx.new (o:=.lst [V.ref lc]) n2
   have e3:(upd G2 r2 (.lst [V.ref lc])) r2=some (.lst [V.ref lc]):=av
   generalize upd G2 r2 (.lst [V.ref lc])=G3 at s3 e3
   refine ⟨r1,r2,_,_,rfl,rfl,(s2.trans s3) _ _ e1,e3,aM (aE (by rw [bI];lia)),fun r3 n3=>?_⟩
   have s4:=bx.new (o:=.lst (ys.take p.toNat++[V.ref lc])) n3
   have e4:(upd G3 r3 (.lst (ys.take p.toNat++[V.ref lc]))) r3=some (.lst (ys.take p.toNat++[V.ref lc])):=av
   generalize upd G3 r3 (.lst (ys.take p.toNat++[V.ref lc]))=G4 at s4 e4
   have s04:=((s1.trans s2).trans s3).trans s4
   refine ⟨_,rfl,_,rfl,_,_,rfl,rfl,p+1,rfl,q,ys,rfl,SqL.of (s04 _ _ q6),fun r4 n4=>?_⟩
   rw [iF p0 (by lia)]
   have s5:=bx.new (o:=.lst (ys.drop (p.toNat+1))) n4
   have e5:(upd G4 r4 (.lst (ys.drop (p.toNat+1)))) r4=some (.lst (ys.drop (p.toNat+1))):=av
   generalize upd G4 r4 (.lst (ys.drop (p.toNat+1)))=G5 at s5 e5
   refine ⟨r3,r4,_,_,rfl,rfl,s5 _ _ e4,e5,aM (aE (by rw [aw,bI];lia)),fun r5 n5=>?_⟩
   have s05:=(s04.trans s5).next (o:=.lst (ys.take p.toNat++[V.ref lc]++ys.drop (p.toNat+1))) n5
   exact ⟨s05,r5,rfl,put s05 ((((s3.trans s4).trans s5).next n5) _ _ c2) (by lia) av⟩
  rintro σ' H8 ⟨s8,ro,rfl,So⟩
  have q8:=s8 _ _ q6
  refine ⟨fun σ' H'=>bx H8 H'∧∃r,σ'=[some (.ref a),some (.int m),some (.ref l),some (.ref x),some (.ref lh),some (.ref q),some (.int ce),some (.int p),some (.ref ro),some (.ref r),none]∧Sts H' r,?_,?_⟩
  ·refine ⟨_,rfl,_,rfl,p,rfl,q,ys,rfl,SqL.of q8,fun r1 n1=>?_⟩
   rw [mF p0 (by lia)]
   have s1:=bx.new (o:=.lst (ys.take p.toNat)) n1
   have e1:(upd H8 r1 (.lst (ys.take p.toNat))) r1=some (.lst (ys.take p.toNat)):=av
   generalize upd H8 r1 (.lst (ys.take p.toNat))=G1 at s1 e1
   obtain ⟨r,ss,er,hr2,gs⟩:=L6.at (show p.toNat<ys.length by lia)
   have ar:atI ys p=some (.ref r):=mK p0 (by
    rw [aa,ak (show p.toNat<ys.length by lia)] at er
    rw [ak (show p.toNat<ys.length by lia)]
    exact congrArg some er)
   refine ⟨_,rfl,_,rfl,q,ys,p,.ref r,rfl,rfl,SqL.of (s1 _ _ q8),ar,_,rfl,l,xs,rfl,.inl (SqL.of ((s8.trans s1) _ _ l6)),_,rfl,_,_,rfl,rfl,⟨by decide,by decide⟩,r,ss,es.length,_,by rw [hxl],SqL.of ((s8.trans s1) _ _ hr2),ok ss (aZ gs),hz',fun lc cs G2 nlc s2 c2 _ hcl=>?_⟩
   refine ⟨(by show 1≤sizeLine;decide),fun r2 n2=>?_⟩
   have s3:=bx.new (o:=.lst [V.ref lc]) n2
   have e3:(upd G2 r2 (.lst [V.ref lc])) r2=some (.lst [V.ref lc]):=av
   generalize upd G2 r2 (.lst [V.ref lc])=G3 at s3 e3
   refine ⟨r1,r2,_,_,rfl,rfl,(s2.trans s3) _ _ e1,e3,aM (aE (by rw [bI];lia)),fun r3 n3=>?_⟩
   have s4:=bx.new (o:=.lst (ys.take p.toNat++[V.ref lc])) n3
   have e4:(upd G3 r3 (.lst (ys.take p.toNat++[V.ref lc]))) r3=some (.lst (ys.take p.toNat++[V.ref lc])):=av
   generalize upd G3 r3 (.lst (ys.take p.toNat++[V.ref lc]))=G4 at s4 e4
   have s04:=((s1.trans s2).trans s3).trans s4
   refine ⟨_,rfl,_,rfl,_,_,rfl,rfl,p+1,rfl,q,ys,rfl,SqL.of (s04 _ _ q8),fun r4 n4=>?_⟩
   rw [iF p0 (by lia)]
   have s5:=bx.new (o:=.lst (ys.drop (p.toNat+1))) n4
   have e5:(upd G4 r4 (.lst (ys.drop (p.toNat+1)))) r4=some (.lst (ys.drop (p.toNat+1))):=av
   generalize upd G4 r4 (.lst (ys.drop (p.toNat+1)))=G5 at s5 e5
   refine ⟨r3,r4,_,_,rfl,rfl,s5 _ _ e4,e5,aM (aE (by rw [aw,bI];lia)),fun r5 n5=>?_⟩
   have s05:=(s04.trans s5).next (o:=.lst (ys.take p.toNat++[V.ref lc]++ys.drop (p.toNat+1))) n5
   exact ⟨s05,r5,rfl,put (s8.trans s05) ((((s3.trans s4).trans s5).next n5) _ _ c2) (by lia) av⟩
  rintro σ' H9 ⟨s9,rb,rfl,Sb⟩
  have q9:=s9 _ _ q8
  refine ⟨fun σ' H'=>bx H9 H'∧∃r,σ'=[some (.ref a),some (.int m),some (.ref l),some (.ref x),some (.ref lh),some (.ref q),some (.int ce),some (.int p),some (.ref ro),some (.ref rb),some (.ref r)]∧Sts H' r,?_,?_⟩
  ·refine ⟨_,rfl,_,rfl,p,rfl,q,ys,rfl,SqL.of q9,fun r1 n1=>?_⟩
   rw [mF p0 (by lia)]
   have s1:=bx.new (o:=.lst (ys.take p.toNat)) n1
   have e1:(upd H9 r1 (.lst (ys.take p.toNat))) r1=some (.lst (ys.take p.toNat)):=av
   generalize upd H9 r1 (.lst (ys.take p.toNat))=G1 at s1 e1
   refine ⟨_,rfl,_,rfl,_,_,rfl,rfl,p+1,rfl,q,ys,rfl,SqL.of (s1 _ _ q9),fun r4 n4=>?_⟩
   rw [iF p0 (by lia)]
   have s5:=bx.new (o:=.lst (ys.drop (p.toNat+1))) n4
   have e5:(upd G1 r4 (.lst (ys.drop (p.toNat+1)))) r4=some (.lst (ys.drop (p.toNat+1))):=av
   generalize upd G1 r4 (.lst (ys.drop (p.toNat+1)))=G5 at s5 e5
   refine ⟨r1,r4,_,_,rfl,rfl,s5 _ _ e1,e5,aM (aE (by lia)),fun r3 n3=>?_⟩
   have s6:=bx.new (o:=.lst (ys.take p.toNat++ys.drop (p.toNat+1))) n3
   have e6:(upd G5 r3 (.lst (ys.take p.toNat++ys.drop (p.toNat+1)))) r3=some (.lst (ys.take p.toNat++ys.drop (p.toNat+1))):=av
   generalize upd G5 r3 (.lst (ys.take p.toNat++ys.drop (p.toNat+1)))=G6 at s6 e6
   refine ⟨by decide,fun z0 n0=>?_⟩
   have s7:=bx.new (o:=.lst []) n0
   have e7:(upd G6 z0 (.lst [])) z0=some (.lst (([]:List Int).map V.int)):=av
   generalize upd G6 z0 (.lst [])=G7 at s7 e7
   refine ⟨(by show 1≤sizeLine;decide),fun r2 n2=>?_⟩
   have s8':=bx.new (o:=.lst [V.ref z0]) n2
   have e8:(upd G7 r2 (.lst [V.ref z0])) r2=some (.lst [V.ref z0]):=av
   generalize upd G7 r2 (.lst [V.ref z0])=G8 at s8' e8
   refine ⟨r3,r2,_,_,rfl,rfl,(s7.trans s8') _ _ e6,e8,aM (aE (by rw [aw,bI];lia)),fun r5 n5=>?_⟩
   have s05:=((((s1.trans s5).trans s6).trans s7).trans s8').next (o:=.lst (ys.take p.toNat++ys.drop (p.toNat+1)++[V.ref z0])) n5
   have s79:=(s8.trans s9).trans s05
   refine ⟨s05,r5,rfl,⟨_,_,av,(((LlS.take p.toNat L6).same s79).append ((LlS.drop (p.toNat+1) L6).same s79)).append (.cons ⟨z0,rfl,(s8'.next n5) _ _ e7⟩ .nil),?_,fun ss hs=>?_⟩⟩
   ·rw [aw,aw,aD,cm,bI];lia
   ·rcases aF.mp hs with y | y
    ·rcases aF.mp y with y | y
     ·have:=(ok ss (List.mem_of_mem_take y)).len;lia
     ·have:=(ok ss (List.mem_of_mem_drop y)).len;lia
    ·rw [ao.mp y];decide
  rintro σ' HA ⟨sA,rl,rfl,Sl⟩
  have s7A:=(s8.trans s9).trans sA
  refine ⟨_,rfl,_,rfl,q,ys,rfl,SqL.of (s7A _ _ q6),fun lr nlr=>?_⟩
  have sB:=bx.new (o:=.lst ys.reverse) nlr
  have eB:(upd HA lr (.lst ys.reverse)) lr=some (.lst ys.reverse):=av
  have s7B:=s7A.next (o:=.lst ys.reverse) nlr
  generalize upd HA lr (.lst ys.reverse)=HB at sB eB s7B
  have Sr:Sts HB lr:=⟨_,_,eB,LlS.rev (L6.same s7B),by rw [List.length_reverse];lia,fun ss hs=>by have:=(ok ss (List.mem_reverse.mp hs)).len;lia⟩
  refine ⟨_,rfl,_,rfl,_,rfl,(by show 5≤sizeLine;decide),fun ll nll=>?_⟩
  have sC:=bx.new (o:=.lst [V.ref q,V.ref lr,V.ref ro,V.ref rb,V.ref rl]) nll
  have eC:(upd HB ll (.lst [V.ref q,V.ref lr,V.ref ro,V.ref rb,V.ref rl])) ll=some (.lst [V.ref q,V.ref lr,V.ref ro,V.ref rb,V.ref rl]):=av
  generalize upd HB ll (.lst [V.ref q,V.ref lr,V.ref ro,V.ref rb,V.ref rl])=HC at sC eC
  have sBC:=sB.trans sC
  have s7C:=s7B.trans sC
  have each:∀i,i<5→∃r:Addr,([V.ref q,V.ref lr,V.ref ro,V.ref rb,V.ref rl]:List V).getD i .non=.ref r∧Sts HC r:=fun i hi=>by
   match i,hi with
   | 0,_=>exact ⟨q,rfl,S6.same s7C⟩
   | 1,_=>exact ⟨lr,rfl,Sr.same sC⟩
   | 2,_=>exact ⟨ro,rfl,So.same ((s9.trans sA).trans sBC)⟩
   | 3,_=>exact ⟨rb,rfl,Sb.same (sA.trans sBC)⟩
   | 4,_=>exact ⟨rl,rfl,Sl.same sBC⟩
  have sWC:=sW6.trans s7C
  refine ⟨ll,_,rfl,.inl (SqL.of eC),fun J C O hC=>fD O (fun i zs H'=>bx HC H'∧zs=az i (V.bl true)) (by show 5≤sizeLine;decide) ⟨bx.refl _,rfl⟩ ?_ ?_ ?_⟩
  ·rintro i zs HD hi ⟨sD,rfl⟩
   exact ⟨hC _ sD,by rw [bg];exact aO _⟩
  ·rintro i zs HD hi ⟨sD,rfl⟩
   have hi':i<5:=hi
   obtain ⟨r,er,Sr2⟩:=each i hi
   obtain ⟨zs,ls,h1,h2,h3,h4⟩:=(Sr2.same sD).ex
   have sWD:=sWC.trans sD
   try dsimp only
   rw [er]
   refine ⟨dQ rfl,ft ⟨_,rfl,_,rfl,_,rfl,_,rfl,l,x,r,m,xs,es,zs,ls,rfl,SqL.of (sWD _ _ lW),pW.same sWD,hw.same sWD,SqL.of h1,h2,h3,h4,m1,m20,hz',hE,fun HE sE=>?_⟩⟩
   refine ⟨aE (by rw [bg];lia),_,(by show 5-(i+1)<5-i;lia),rfl,hi',sD.trans sE,?_⟩
   rw [List.replicate_succ']
  rintro zs HD ⟨sD,rfl⟩ lz nlz
  exact ⟨lz,_,rfl,.inl (SqL.of av),rfl,k _⟩
end
theorem oi {us:List Value} (h:us.length=1):∃a,us=[a]:=List.length_eq_one_iff.mp h
theorem uu {us:List Value} {n:Nat} (h:us.length=n+1):∃a r,us=a::r∧r.length=n:=by
 cases us with
 | nil=>cases h
 | cons a r=>exact ⟨a,r,rfl,Nat.succ.inj h⟩
theorem gD {us:List Value} (h:us.length=2):∃a b,us=[a,b]:=by
 obtain ⟨a,r,rfl,h1⟩:=uu h
 obtain ⟨b,rfl⟩:=oi h1
 exact ⟨a,b,rfl⟩
theorem gf {us:List Value} (h:us.length=3):∃a b c,us=[a,b,c]:=by
 obtain ⟨a,r,rfl,h1⟩:=uu h
 obtain ⟨b,c,rfl⟩:=gD h1
 exact ⟨a,b,c,rfl⟩
theorem pS {us:List Value} (h:us.length=4):∃a b c d,us=[a,b,c,d]:=by
 obtain ⟨a,r,rfl,h1⟩:=uu h
 obtain ⟨b,c,d,rfl⟩:=gf h1
 exact ⟨a,b,c,d,rfl⟩
theorem all_mk {l:PySem.W.OpenLaw} {w:World} {K:ai} {h:Heap} {mg:Str→Option Value} {fa f1 f2 f3 f4 f5 f6 f7 f8 f9 f10 f11 f12 f13 f14 f15 f16 f17 f18 f19 f20 f21 f22 f23 f24 f25 f26 f27 f28 f29 f30 f31 f32 f33 f34 f35 f36 f37 f38 f39 f40 f41 f42 f43 f44 f45 f46 f47 f48 f49 f50 f51 f52 f53 qFlowError qBadWeb qTooMany qBadPlace qBadTie qBadFlow qBadRest qNoFlow qBadSet qBadPaper qBadText qBadDeed qWeb:Addr} (X:K.In h) (G:h.Ns mainGlobals mg) (hfa:mg "law"=some (.ref fa))
  {tk1 tk2:Tok} {od1 an1 od2 an2 od3 an3 od4 an4 od5 an5 od6 an6 od7 an7 od8 an8 od9 an9 od10 an10 od11 an11 od12 an12 od13 an13 od14 an14 od15 an15 od16 an16 od17 an17 od18 an18 od19 an19 od20 an20 od21 an21 od22 an22 od23 an23 od24 an24 od25 an25 od26 an26 od27 an27 od28 an28 od29 an29 od30 an30 od31 an31 od32 an32 od33 an33 od34 an34 od35 an35 od36 an36 od37 an37 od38 an38 od39 an39 od40 an40 od41 an41 od42 an42 od43 an43 od44 an44 od45 an45 od46 an46 od47 an47 od48 an48 od49 an49 od50 an50 od51 an51 od52 an52 od53 an53:Option Addr} {sl1 sl2 sl3 sl4 sl5 sl6 sl7 sl8 sl9 sl10 sl11 sl12 sl13 sl14 sl15 sl16 sl17 sl18 sl19 sl20 sl21 sl22 sl23 sl24 sl25 sl26 sl27 sl28 sl29 sl30 sl31 sl32 sl33 sl34 sl35 sl36 sl37 sl38 sl39 sl40 sl41 sl42 sl43 sl44 sl45 sl46 sl47 sl48 sl49 sl50 sl51 sl52 sl53:Array (Option Value)} {oc1 kV1 dc1 pm1 cd1 ct1 oc2 kV2 dc2 pm2 cd2 ct2 oc3 kV3 dc3 pm3 cd3 ct3 oc4 kV4 dc4 pm4 cd4 ct4 oc5 kV5 dc5 pm5 cd5 ct5 oc6 kV6 dc6 pm6 cd6 ct6 oc7 kV7 dc7 pm7 cd7 ct7 oc8 kV8 dc8 pm8 cd8 ct8 oc9 kV9 dc9 pm9 cd9 ct9 oc10 kV10 dc10 pm10 cd10 ct10 oc11 kV11 dc11 pm11 cd11 ct11 oc12 kV12 dc12 pm12 cd12 ct12 oc13 kV13 dc13 pm13 cd13 ct13 oc14 kV14 dc14 pm14 cd14 ct14 oc15 kV15 dc15 pm15 cd15 ct15 oc16 kV16 dc16 pm16 cd16 ct16 oc17 kV17 dc17 pm17 cd17 ct17 oc18 kV18 dc18 pm18 cd18 ct18 oc19 kV19 dc19 pm19 cd19 ct19 oc20 kV20 dc20 pm20 cd20 ct20 oc21 kV21 dc21 pm21 cd21 ct21 oc22 kV22 dc22 pm22 cd22 ct22 oc23 kV23 dc23 pm23 cd23 ct23 oc24 kV24 dc24 pm24 cd24 ct24 oc25 kV25 dc25 pm25 cd25 ct25 oc26 kV26 dc26 pm26 cd26 ct26 oc27 kV27 dc27 pm27 cd27 ct27 oc28 kV28 dc28 pm28 cd28 ct28 oc29 kV29 dc29 pm29 cd29 ct29 oc30 kV30 dc30 pm30 cd30 ct30 oc31 kV31 dc31 pm31 cd31 ct31 oc32 kV32 dc32 pm32 cd32 ct32 oc33 kV33 dc33 pm33 cd33 ct33 oc34 kV34 dc34 pm34 cd34 ct34 oc35 kV35 dc35 pm35 cd35 ct35 oc36 kV36 dc36 pm36 cd36 ct36 oc37 kV37 dc37 pm37 cd37 ct37 oc38 kV38 dc38 pm38 cd38 ct38 oc39 kV39 dc39 pm39 cd39 ct39 oc40 kV40 dc40 pm40 cd40 ct40 oc41 kV41 dc41 pm41 cd41 ct41 oc42 kV42 dc42 pm42 cd42 ct42 oc43 kV43 dc43 pm43 cd43 ct43 oc44 kV44 dc44 pm44 cd44 ct44 oc45 kV45 dc45 pm45 cd45 ct45 oc46 kV46 dc46 pm46 cd46 ct46 oc47 kV47 dc47 pm47 cd47 ct47 oc48 kV48 dc48 pm48 cd48 ct48 oc49 kV49 dc49 pm49 cd49 ct49 oc50 kV50 dc50 pm50 cd50 ct50 oc51 kV51 dc51 pm51 cd51 ct51 oc52 kV52 dc52 pm52 cd52 ct52 oc53 kV53 dc53 pm53 cd53 ct53:Value}
  (aCFlowError:aC K mainGlobals "FlowError"=some (some (.ref qFlowError)))
  (aCBadWeb:aC K mainGlobals "BadWeb"=some (some (.ref qBadWeb)))
  (aCTooMany:aC K mainGlobals "TooMany"=some (some (.ref qTooMany)))
  (aCBadPlace:aC K mainGlobals "BadPlace"=some (some (.ref qBadPlace)))
  (aCBadTie:aC K mainGlobals "BadTie"=some (some (.ref qBadTie)))
  (aCBadFlow:aC K mainGlobals "BadFlow"=some (some (.ref qBadFlow)))
  (aCBadRest:aC K mainGlobals "BadRest"=some (some (.ref qBadRest)))
  (aCNoFlow:aC K mainGlobals "NoFlow"=some (some (.ref qNoFlow)))
  (aCBadSet:aC K mainGlobals "BadSet"=some (some (.ref qBadSet)))
  (aCBadPaper:aC K mainGlobals "BadPaper"=some (some (.ref qBadPaper)))
  (aCBadText:aC K mainGlobals "BadText"=some (some (.ref qBadText)))
  (aCBadDeed:aC K mainGlobals "BadDeed"=some (some (.ref qBadDeed)))
  (aCWeb:aC K mainGlobals "Web"=some (some (.ref qWeb)))
  (a1:cy K (.ref qWeb) "__init__"=some (some (.ref f1)))
  (i1:PySem.W.isFn K (.ref f1)=true)
  (l1:K.lookup f1=some ⟨oc1,od1,.func (aP "__init__" "Web.__init__" (bW sN) (bO sN) (aB sN) .none kV1 dc1 pm1 an1 cd1 ct1),sl1⟩)
  (c1:aL K cd1 "Web.__init__"=true)
  (k1:aJ K (.ref f1)=true)
  (a2:aC K mainGlobals "check_tie"=some (some (.ref f2)))
  (l2:K.lookup f2=some ⟨oc2,od2,.func (aP "check_tie" "check_tie" (bW sTi) (bO sTi) (aB sTi) .none kV2 dc2 pm2 an2 cd2 ct2),sl2⟩)
  (c2:aL K cd2 "check_tie"=true)
  (k2:aJ K (.ref f2)=true)
  (a3:aC K mainGlobals "merged"=some (some (.ref f3)))
  (l3:K.lookup f3=some ⟨oc3,od3,.func (aP "merged" "merged" (bW sMe) (bO sMe) (aB sMe) .none kV3 dc3 pm3 an3 cd3 ct3),sl3⟩)
  (c3:aL K cd3 "merged"=true)
  (k3:aJ K (.ref f3)=true)
  (a4:aC K mainGlobals "check_amounts"=some (some (.ref f4)))
  (l4:K.lookup f4=some ⟨oc4,od4,.func (aP "check_amounts" "check_amounts" (bW sAm) (bO sAm) (aB sAm) .none kV4 dc4 pm4 an4 cd4 ct4),sl4⟩)
  (c4:aL K cd4 "check_amounts"=true)
  (k4:aJ K (.ref f4)=true)
  (a5:aC K mainGlobals "gains"=some (some (.ref f5)))
  (l5:K.lookup f5=some ⟨oc5,od5,.func (aP "gains" "gains" (bW sGs) (bO sGs) (aB sGs) .none kV5 dc5 pm5 an5 cd5 ct5),sl5⟩)
  (c5:aL K cd5 "gains"=true)
  (k5:aJ K (.ref f5)=true)
  (a6:aC K mainGlobals "added"=some (some (.ref f6)))
  (l6:K.lookup f6=some ⟨oc6,od6,.func (aP "added" "added" (bW sAd) (bO sAd) (aB sAd) .none kV6 dc6 pm6 an6 cd6 ct6),sl6⟩)
  (c6:aL K cd6 "added"=true)
  (k6:aJ K (.ref f6)=true)
  (a7:aC K mainGlobals "times"=some (some (.ref f7)))
  (l7:K.lookup f7=some ⟨oc7,od7,.func (aP "times" "times" (bW sTm) (bO sTm) (aB sTm) .none kV7 dc7 pm7 an7 cd7 ct7),sl7⟩)
  (c7:aL K cd7 "times"=true)
  (k7:aJ K (.ref f7)=true)
  (a8:aC K mainGlobals "check_bounds"=some (some (.ref f8)))
  (l8:K.lookup f8=some ⟨oc8,od8,.func (aP "check_bounds" "check_bounds" (bW sCb) (bO sCb) (aB sCb) .none kV8 dc8 pm8 an8 cd8 ct8),sl8⟩)
  (c8:aL K cd8 "check_bounds"=true)
  (k8:aJ K (.ref f8)=true)
  (a9:aC K mainGlobals "rooms_left"=some (some (.ref f9)))
  (l9:K.lookup f9=some ⟨oc9,od9,.func (aP "rooms_left" "rooms_left" (bW sRl) (bO sRl) (aB sRl) .none kV9 dc9 pm9 an9 cd9 ct9),sl9⟩)
  (c9:aL K cd9 "rooms_left"=true)
  (k9:aJ K (.ref f9)=true)
  (a10:aC K mainGlobals "steps_from"=some (some (.ref f10)))
  (l10:K.lookup f10=some ⟨oc10,od10,.func (aP "steps_from" "steps_from" (bW sSf) (bO sSf) (aB sSf) .none kV10 dc10 pm10 an10 cd10 ct10),sl10⟩)
  (c10:aL K cd10 "steps_from"=true)
  (k10:aJ K (.ref f10)=true)
  (a11:aC K mainGlobals "step_end"=some (some (.ref f11)))
  (l11:K.lookup f11=some ⟨oc11,od11,.func (aP "step_end" "step_end" (bW sSe) (bO sSe) (aB sSe) .none kV11 dc11 pm11 an11 cd11 ct11),sl11⟩)
  (c11:aL K cd11 "step_end"=true)
  (k11:aJ K (.ref f11)=true)
  (a12:aC K mainGlobals "ways_with_room"=some (some (.ref f12)))
  (l12:K.lookup f12=some ⟨oc12,od12,.func (aP "ways_with_room" "ways_with_room" (bW sWw) (bO sWw) (aB sWw) .none kV12 dc12 pm12 an12 cd12 ct12),sl12⟩)
  (c12:aL K cd12 "ways_with_room"=true)
  (k12:aJ K (.ref f12)=true)
  (a13:aC K mainGlobals "room_along"=some (some (.ref f13)))
  (l13:K.lookup f13=some ⟨oc13,od13,.func (aP "room_along" "room_along" (bW sRa) (bO sRa) (aB sRa) .none kV13 dc13 pm13 an13 cd13 ct13),sl13⟩)
  (c13:aL K cd13 "room_along"=true)
  (k13:aJ K (.ref f13)=true)
  (a14:aC K mainGlobals "pushed"=some (some (.ref f14)))
  (l14:K.lookup f14=some ⟨oc14,od14,.func (aP "pushed" "pushed" (bW sPu) (bO sPu) (aB sPu) .none kV14 dc14 pm14 an14 cd14 ct14),sl14⟩)
  (c14:aL K cd14 "pushed"=true)
  (k14:aJ K (.ref f14)=true)
  (a15:aC K mainGlobals "change_due"=some (some (.ref f15)))
  (l15:K.lookup f15=some ⟨oc15,od15,.func (aP "change_due" "change_due" (bW sCd) (bO sCd) (aB sCd) .none kV15 dc15 pm15 an15 cd15 ct15),sl15⟩)
  (c15:aL K cd15 "change_due"=true)
  (k15:aJ K (.ref f15)=true)
  (a16:aC K mainGlobals "between"=some (some (.ref f16)))
  (l16:K.lookup f16=some ⟨oc16,od16,.func (aP "between" "between" (bW sBt) (bO sBt) (aB sBt) .none kV16 dc16 pm16 an16 cd16 ct16),sl16⟩)
  (c16:aL K cd16 "between"=true)
  (k16:aJ K (.ref f16)=true)
  (a17:aC K mainGlobals "forest"=some (some (.ref f17)))
  (l17:K.lookup f17=some ⟨oc17,od17,.func (aP "forest" "forest" (bW sFr) (bO sFr) (aB sFr) .none kV17 dc17 pm17 an17 cd17 ct17),sl17⟩)
  (c17:aL K cd17 "forest"=true)
  (k17:aJ K (.ref f17)=true)
  (a18:aC K mainGlobals "free_ties"=some (some (.ref f18)))
  (l18:K.lookup f18=some ⟨oc18,od18,.func (aP "free_ties" "free_ties" (bW sFt) (bO sFt) (aB sFt) .none kV18 dc18 pm18 an18 cd18 ct18),sl18⟩)
  (c18:aL K cd18 "free_ties"=true)
  (k18:aJ K (.ref f18)=true)
  (a19:aC K mainGlobals "far_end"=some (some (.ref f19)))
  (l19:K.lookup f19=some ⟨oc19,od19,.func (aP "far_end" "far_end" (bW sFe) (bO sFe) (aB sFe) .none kV19 dc19 pm19 an19 cd19 ct19),sl19⟩)
  (c19:aL K cd19 "far_end"=true)
  (k19:aJ K (.ref f19)=true)
  (a20:aC K mainGlobals "find_way"=some (some (.ref f20)))
  (l20:K.lookup f20=some ⟨oc20,od20,.func (aP "find_way" "find_way" (bW sFw) (bO sFw) (aB sFw) .none kV20 dc20 pm20 an20 cd20 ct20),sl20⟩)
  (c20:aL K cd20 "find_way"=true)
  (k20:aJ K (.ref f20)=true)
  (a21:aC K mainGlobals "way_back"=some (some (.ref f21)))
  (l21:K.lookup f21=some ⟨oc21,od21,.func (aP "way_back" "way_back" (bW sWb) (bO sWb) (aB sWb) .none kV21 dc21 pm21 an21 cd21 ct21),sl21⟩)
  (c21:aL K cd21 "way_back"=true)
  (k21:aJ K (.ref f21)=true)
  (a22:aC K mainGlobals "ring_flow"=some (some (.ref f22)))
  (l22:K.lookup f22=some ⟨oc22,od22,.func (aP "ring_flow" "ring_flow" (bW sRg) (bO sRg) (aB sRg) .none kV22 dc22 pm22 an22 cd22 ct22),sl22⟩)
  (c22:aL K cd22 "ring_flow"=true)
  (k22:aJ K (.ref f22)=true)
  (a23:aC K mainGlobals "ring_of"=some (some (.ref f23)))
  (l23:K.lookup f23=some ⟨oc23,od23,.func (aP "ring_of" "ring_of" (bW sRo) (bO sRo) (aB sRo) .none kV23 dc23 pm23 an23 cd23 ct23),sl23⟩)
  (c23:aL K cd23 "ring_of"=true)
  (k23:aJ K (.ref f23)=true)
  (a24:aC K mainGlobals "check_rest"=some (some (.ref f24)))
  (l24:K.lookup f24=some ⟨oc24,od24,.func (aP "check_rest" "check_rest" (bW sCr) (bO sCr) (aB sCr) .none kV24 dc24 pm24 an24 cd24 ct24),sl24⟩)
  (c24:aL K cd24 "check_rest"=true)
  (k24:aJ K (.ref f24)=true)
  (a25:aC K mainGlobals "rests_of"=some (some (.ref f25)))
  (l25:K.lookup f25=some ⟨oc25,od25,.func (aP "rests_of" "rests_of" (bW sRs) (bO sRs) (aB sRs) .none kV25 dc25 pm25 an25 cd25 ct25),sl25⟩)
  (c25:aL K cd25 "rests_of"=true)
  (k25:aJ K (.ref f25)=true)
  (a26:aC K mainGlobals "is_rest_flow"=some (some (.ref f26)))
  (l26:K.lookup f26=some ⟨oc26,od26,.func (aP "is_rest_flow" "is_rest_flow" (bW sIr) (bO sIr) (aB sIr) .none kV26 dc26 pm26 an26 cd26 ct26),sl26⟩)
  (c26:aL K cd26 "is_rest_flow"=true)
  (k26:aJ K (.ref f26)=true)
  (a27:aC K mainGlobals "filled_whole"=some (some (.ref f27)))
  (l27:K.lookup f27=some ⟨oc27,od27,.func (aP "filled_whole" "filled_whole" (bW sFz) (bO sFz) (aB sFz) .none kV27 dc27 pm27 an27 cd27 ct27),sl27⟩)
  (c27:aL K cd27 "filled_whole"=true)
  (k27:aJ K (.ref f27)=true)
  (a28:aC K mainGlobals "reduced"=some (some (.ref f28)))
  (l28:K.lookup f28=some ⟨oc28,od28,.func (aP "reduced" "reduced" (bW sRd) (bO sRd) (aB sRd) .none kV28 dc28 pm28 an28 cd28 ct28),sl28⟩)
  (c28:aL K cd28 "reduced"=true)
  (k28:aJ K (.ref f28)=true)
  (a29:aC K mainGlobals "lifted"=some (some (.ref f29)))
  (l29:K.lookup f29=some ⟨oc29,od29,.func (aP "lifted" "lifted" (bW sLt) (bO sLt) (aB sLt) .none kV29 dc29 pm29 an29 cd29 ct29),sl29⟩)
  (c29:aL K cd29 "lifted"=true)
  (k29:aJ K (.ref f29)=true)
  (a30:aC K mainGlobals "check_set"=some (some (.ref f30)))
  (l30:K.lookup f30=some ⟨oc30,od30,.func (aP "check_set" "check_set" (bW sCk) (bO sCk) (aB sCk) .none kV30 dc30 pm30 an30 cd30 ct30),sl30⟩)
  (c30:aL K cd30 "check_set"=true)
  (k30:aJ K (.ref f30)=true)
  (a31:aC K mainGlobals "marks"=some (some (.ref f31)))
  (l31:K.lookup f31=some ⟨oc31,od31,.func (aP "marks" "marks" (bW sMr) (bO sMr) (aB sMr) .none kV31 dc31 pm31 an31 cd31 ct31),sl31⟩)
  (c31:aL K cd31 "marks"=true)
  (k31:aJ K (.ref f31)=true)
  (a32:aC K mainGlobals "is_even"=some (some (.ref f32)))
  (l32:K.lookup f32=some ⟨oc32,od32,.func (aP "is_even" "is_even" (bW sEv) (bO sEv) (aB sEv) .none kV32 dc32 pm32 an32 cd32 ct32),sl32⟩)
  (c32:aL K cd32 "is_even"=true)
  (k32:aJ K (.ref f32)=true)
  (a33:aC K mainGlobals "even_flow"=some (some (.ref f33)))
  (l33:K.lookup f33=some ⟨oc33,od33,.func (aP "even_flow" "even_flow" (bW sEf) (bO sEf) (aB sEf) .none kV33 dc33 pm33 an33 cd33 ct33),sl33⟩)
  (c33:aL K cd33 "even_flow"=true)
  (k33:aJ K (.ref f33)=true)
  (a34:aC K mainGlobals "check_all_held"=some (some (.ref f34)))
  (l34:K.lookup f34=some ⟨oc34,od34,.func (aP "check_all_held" "check_all_held" (bW sAh) (bO sAh) (aB sAh) .none kV34 dc34 pm34 an34 cd34 ct34),sl34⟩)
  (c34:aL K cd34 "check_all_held"=true)
  (k34:aJ K (.ref f34)=true)
  (a35:aC K mainGlobals "layered"=some (some (.ref f35)))
  (l35:K.lookup f35=some ⟨oc35,od35,.func (aP "layered" "layered" (bW sLy) (bO sLy) (aB sLy) .none kV35 dc35 pm35 an35 cd35 ct35),sl35⟩)
  (c35:aL K cd35 "layered"=true)
  (k35:aJ K (.ref f35)=true)
  (a36:aC K mainGlobals "_law_cell"=some (some (.ref f36)))
  (l36:K.lookup f36=some ⟨oc36,od36,.func (aP "_law_cell" "_law_cell" (bW sC) (bO sC) (aB sC) .none kV36 dc36 pm36 an36 cd36 ct36),sl36⟩)
  (c36:aL K cd36 "_law_cell"=true)
  (k36:aJ K (.ref f36)=true)
  (a37:aC K mainGlobals "_law_whole"=some (some (.ref f37)))
  (l37:K.lookup f37=some ⟨oc37,od37,.func (aP "_law_whole" "_law_whole" (bW sH) (bO sH) (aB sH) .none kV37 dc37 pm37 an37 cd37 ct37),sl37⟩)
  (c37:aL K cd37 "_law_whole"=true)
  (k37:aJ K (.ref f37)=true)
  (a38:aC K mainGlobals "_law_alone"=some (some (.ref f38)))
  (l38:K.lookup f38=some ⟨oc38,od38,.func (aP "_law_alone" "_law_alone" (bW sX) (bO sX) (aB sX) .none kV38 dc38 pm38 an38 cd38 ct38),sl38⟩)
  (c38:aL K cd38 "_law_alone"=true)
  (k38:aJ K (.ref f38)=true)
  (a39:aC K mainGlobals "_law_ends"=some (some (.ref f39)))
  (l39:K.lookup f39=some ⟨oc39,od39,.func (aP "_law_ends" "_law_ends" (bW sE) (bO sE) (aB sE) .none kV39 dc39 pm39 an39 cd39 ct39),sl39⟩)
  (c39:aL K cd39 "_law_ends"=true)
  (k39:aJ K (.ref f39)=true)
  (a40:aC K mainGlobals "_law_drawn"=some (some (.ref f40)))
  (l40:K.lookup f40=some ⟨oc40,od40,.func (aP "_law_drawn" "_law_drawn" (bW sD) (bO sD) (aB sD) .none kV40 dc40 pm40 an40 cd40 ct40),sl40⟩)
  (c40:aL K cd40 "_law_drawn"=true)
  (k40:aJ K (.ref f40)=true)
  (a41:aC K mainGlobals "_law_forest"=some (some (.ref f41)))
  (l41:K.lookup f41=some ⟨oc41,od41,.func (aP "_law_forest" "_law_forest" (bW sFo) (bO sFo) (aB sFo) .none kV41 dc41 pm41 an41 cd41 ct41),sl41⟩)
  (c41:aL K cd41 "_law_forest"=true)
  (k41:aJ K (.ref f41)=true)
  (a42:aC K mainGlobals "_law_gains"=some (some (.ref f42)))
  (l42:K.lookup f42=some ⟨oc42,od42,.func (aP "_law_gains" "_law_gains" (bW sLg) (bO sLg) (aB sLg) .none kV42 dc42 pm42 an42 cd42 ct42),sl42⟩)
  (c42:aL K cd42 "_law_gains"=true)
  (k42:aJ K (.ref f42)=true)
  (a43:aC K mainGlobals "_law_amounts"=some (some (.ref f43)))
  (l43:K.lookup f43=some ⟨oc43,od43,.func (aP "_law_amounts" "_law_amounts" (bW sLm) (bO sLm) (aB sLm) .none kV43 dc43 pm43 an43 cd43 ct43),sl43⟩)
  (c43:aL K cd43 "_law_amounts"=true)
  (k43:aJ K (.ref f43)=true)
  (a44:aC K mainGlobals "_law_chosen"=some (some (.ref f44)))
  (l44:K.lookup f44=some ⟨oc44,od44,.func (aP "_law_chosen" "_law_chosen" (bW sCh) (bO sCh) (aB sCh) .none kV44 dc44 pm44 an44 cd44 ct44),sl44⟩)
  (c44:aL K cd44 "_law_chosen"=true)
  (k44:aJ K (.ref f44)=true)
  (a45:aC K mainGlobals "_law_completed"=some (some (.ref f45)))
  (l45:K.lookup f45=some ⟨oc45,od45,.func (aP "_law_completed" "_law_completed" (bW sCm) (bO sCm) (aB sCm) .none kV45 dc45 pm45 an45 cd45 ct45),sl45⟩)
  (c45:aL K cd45 "_law_completed"=true)
  (k45:aJ K (.ref f45)=true)
  (a46:aC K mainGlobals "_law_even"=some (some (.ref f46)))
  (l46:K.lookup f46=some ⟨oc46,od46,.func (aP "_law_even" "_law_even" (bW tP) (bO tP) (aB tP) .none kV46 dc46 pm46 an46 cd46 ct46),sl46⟩)
  (c46:aL K cd46 "_law_even"=true)
  (k46:aJ K (.ref f46)=true)
  (a47:aC K mainGlobals "_law_bad_set"=some (some (.ref f47)))
  (l47:K.lookup f47=some ⟨oc47,od47,.func (aP "_law_bad_set" "_law_bad_set" (bW sBs) (bO sBs) (aB sBs) .none kV47 dc47 pm47 an47 cd47 ct47),sl47⟩)
  (c47:aL K cd47 "_law_bad_set"=true)
  (k47:aJ K (.ref f47)=true)
  (a48:aC K mainGlobals "_law_ears"=some (some (.ref f48)))
  (l48:K.lookup f48=some ⟨oc48,od48,.func (aP "_law_ears" "_law_ears" (bW sEa) (bO sEa) (aB sEa) .none kV48 dc48 pm48 an48 cd48 ct48),sl48⟩)
  (c48:aL K cd48 "_law_ears"=true)
  (k48:aJ K (.ref f48)=true)
  (a49:aC K mainGlobals "_law_sets"=some (some (.ref f49)))
  (l49:K.lookup f49=some ⟨oc49,od49,.func (aP "_law_sets" "_law_sets" (bW sSx) (bO sSx) (aB sSx) .none kV49 dc49 pm49 an49 cd49 ct49),sl49⟩)
  (c49:aL K cd49 "_law_sets"=true)
  (k49:aJ K (.ref f49)=true)
  (a50:aC K mainGlobals "_law_due"=some (some (.ref f50)))
  (l50:K.lookup f50=some ⟨oc50,od50,.func (aP "_law_due" "_law_due" (bW sDu) (bO sDu) (aB sDu) .none kV50 dc50 pm50 an50 cd50 ct50),sl50⟩)
  (c50:aL K cd50 "_law_due"=true)
  (k50:aJ K (.ref f50)=true)
  (a51:aC K mainGlobals "_law_refused"=some (some (.ref f51)))
  (l51:K.lookup f51=some ⟨oc51,od51,.func (aP "_law_refused" "_law_refused" (bW sRf) (bO sRf) (aB sRf) .none kV51 dc51 pm51 an51 cd51 ct51),sl51⟩)
  (c51:aL K cd51 "_law_refused"=true)
  (k51:aJ K (.ref f51)=true)
  (a52:aC K mainGlobals "_law_right"=some (some (.ref f52)))
  (l52:K.lookup f52=some ⟨oc52,od52,.func (aP "_law_right" "_law_right" (bW sR) (bO sR) (aB sR) .none kV52 dc52 pm52 an52 cd52 ct52),sl52⟩)
  (c52:aL K cd52 "_law_right"=true)
  (k52:aJ K (.ref f52)=true)
  (a53:aC K mainGlobals "law"=some (some (.ref f53)))
  (l53:K.lookup f53=some ⟨oc53,od53,.func (aP "law" "law" (bW sL) (bO sL) (aB sL) .none kV53 dc53 pm53 an53 cd53 ct53),sl53⟩)
  (c53:aL K cd53 "law"=true)
  (k53:aJ K (.ref f53)=true)
  (pg:PySem.W.plainGet K qWeb Str.empty=true)
  (hd:PySem.W.hasDictIn K qWeb=true)
  (po:PySem.W.plainOver K qWeb=true)
  (sa:cy K (.ref qWeb) "__setattr__"=some (some (.builtin "object.__setattr__")))
  (nM:cy K (.ref qWeb) "many"=some none)
  (nT:cy K (.ref qWeb) "ties"=some none)
  (ca:cy K (.ref qWeb) "__class__"=some (some (.builtin "object.__class__")))
  (cg:PySem.W.specialIn K (.builtin "object.__class__") "__get__"=some (some (.builtin "getset_descriptor.__get__")))
  (ck:PySem.W.takesIn K (.builtin "object.__class__")=some true)
  (co:dE K qWeb (.type "object")=some true)
  (mk:PySem.W.makesIn K qWeb=true)
  (kc:aJ K (.ref qWeb)=true)
  (mp:aC K mainGlobals "MOST_PLACES"=some (some (.int 20 tk1)))
  (mt:aC K mainGlobals "MOST_TIES"=some (some (.int 40 tk2)))
  (x_ie_FlowError:fi K qFlowError tq "ValueError.__new__"=true)
  (x_ie_BadTie:fi K qBadTie tq "ValueError.__new__"=true)
  (x_ie_BadFlow:fi K qBadFlow tq "ValueError.__new__"=true)
  (x_ie_BadRest:fi K qBadRest tq "ValueError.__new__"=true)
  (x_ie_BadSet:fi K qBadSet tq "ValueError.__new__"=true)
  (x_mr_BadSet:dE K qBadSet (.ref qFlowError)=some true)
  (x_ga_BadSet:cy K (.ref qBadSet) "__getattribute__"=some (some (.builtin "BaseException.__getattribute__")))
  (x_gn_BadSet:cy K (.ref qBadSet) "__getattr__"=some none)
  (x_cl_BadSet:cy K (.ref qBadSet) "__class__"=some (some (.builtin "object.__class__")))
  (x_co_BadSet:dE K qBadSet (.type "object")=some true)
  (x_cb_BadSet:dE K qBadSet (.type "BaseException")=some true)
  (x_is_BadSet:PySem.W.isClsIn K qBadSet=true)
  (x_k_BadSet_BadWeb:bu K (.ref qBadSet) (.ref qBadWeb)=some false)
  (x_k_BadSet_TooMany:bu K (.ref qBadSet) (.ref qTooMany)=some false)
  (x_k_BadSet_BadPlace:bu K (.ref qBadSet) (.ref qBadPlace)=some false)
  (x_k_BadSet_BadTie:bu K (.ref qBadSet) (.ref qBadTie)=some false)
  (x_k_BadSet_BadFlow:bu K (.ref qBadSet) (.ref qBadFlow)=some false)
  (x_k_BadSet_BadRest:bu K (.ref qBadSet) (.ref qBadRest)=some false)
  (x_k_BadSet_NoFlow:bu K (.ref qBadSet) (.ref qNoFlow)=some false)
  (x_k_BadSet_BadSet:bu K (.ref qBadSet) (.ref qBadSet)=some true)
  (x_k_BadSet_BadPaper:bu K (.ref qBadSet) (.ref qBadPaper)=some false)
  (x_k_BadSet_BadText:bu K (.ref qBadSet) (.ref qBadText)=some false)
  (x_k_BadSet_BadDeed:bu K (.ref qBadSet) (.ref qBadDeed)=some false)
  (x_kf_BadSet:bu K (.ref qBadSet) (.ref qFlowError)=some true)
  (x_kv_BadSet:bu K (.ref qBadSet) (.type "ValueError")=some true)
  (z0:aC K mainGlobals "ValueError"=some none)
  (z1:aC K mainGlobals "abs"=some none)
  (z2:aC K mainGlobals "all"=some none)
  (z3:aC K mainGlobals "any"=some none)
  (z4:aC K mainGlobals "bool"=some none)
  (z5:aC K mainGlobals "enumerate"=some none)
  (z6:aC K mainGlobals "int"=some none)
  (z7:aC K mainGlobals "isinstance"=some none)
  (z8:aC K mainGlobals "len"=some none)
  (z9:aC K mainGlobals "list"=some none)
  (z10:aC K mainGlobals "max"=some none)
  (z11:aC K mainGlobals "min"=some none)
  (z12:aC K mainGlobals "range"=some none)
  (z13:aC K mainGlobals "reversed"=some none)
  (z14:aC K mainGlobals "sorted"=some none)
  (z15:aC K mainGlobals "sum"=some none)
  (z16:aC K mainGlobals "tuple"=some none)
  (z17:aC K mainGlobals "zip"=some none) :
  ∃fd:FuncData,(∀(s:Shared) (v:Value),BindsTo s fd ⟨[v],[]⟩ [("script",v)])∧∀base:Heap,K.In base→base.Ns mainGlobals mg→fm l.prog w K mg base CX0 11 fa fd ["script"] (rg K):=by
 have e:=hfa.symm.trans (aI X G a53)
 cases e
 have T:Txt K mg (⟨qFlowError,qBadWeb,qTooMany,qBadPlace,qBadTie,qBadFlow,qBadRest,qNoFlow,qBadSet,qBadPaper,qBadText,qBadDeed,qWeb⟩:Cs):=⟨bH X G z0,bH X G z1,bH X G z2,bH X G z3,bH X G z4,bH X G z5,bH X G z6,bH X G z7,bH X G z8,bH X G z9,bH X G z10,bH X G z11,bH X G z12,bH X G z13,bH X G z14,bH X G z15,bH X G z16,bH X G z17,aI X G aCFlowError,aI X G aCBadWeb,aI X G aCTooMany,aI X G aCBadPlace,aI X G aCBadTie,aI X G aCBadFlow,aI X G aCBadRest,aI X G aCNoFlow,aI X G aCBadSet,aI X G aCBadPaper,aI X G aCBadText,aI X G aCBadDeed,aI X G aCWeb,⟨⟨pg,hd,po,sa⟩,nM,nT,ca,cg,ck,co⟩,⟨_,aI X G mp⟩,⟨_,aI X G mt⟩,x_ie_FlowError,x_ie_BadTie,x_ie_BadFlow,x_ie_BadRest,x_ie_BadSet,x_mr_BadSet,⟨⟨x_ga_BadSet,x_gn_BadSet,x_cl_BadSet,cg,ck,x_co_BadSet,x_cb_BadSet,x_is_BadSet⟩,⟨_,_,_,_,_,_,_,_,_,_,_,x_k_BadSet_BadWeb,x_k_BadSet_TooMany,x_k_BadSet_BadPlace,x_k_BadSet_BadTie,x_k_BadSet_BadFlow,x_k_BadSet_BadRest,x_k_BadSet_NoFlow,x_k_BadSet_BadSet,x_k_BadSet_BadPaper,x_k_BadSet_BadText,x_k_BadSet_BadDeed,rfl⟩,x_kf_BadSet,x_kv_BadSet⟩⟩
 have F1:=cM (st:=sN) l1 c1 k1
 have F2:=cM (st:=sTi) l2 c2 k2
 have F3:=cM (st:=sMe) l3 c3 k3
 have F4:=cM (st:=sAm) l4 c4 k4
 have F5:=cM (st:=sGs) l5 c5 k5
 have F6:=cM (st:=sAd) l6 c6 k6
 have F7:=cM (st:=sTm) l7 c7 k7
 have F8:=cM (st:=sCb) l8 c8 k8
 have F9:=cM (st:=sRl) l9 c9 k9
 have F10:=cM (st:=sSf) l10 c10 k10
 have F11:=cM (st:=sSe) l11 c11 k11
 have F12:=cM (st:=sWw) l12 c12 k12
 have F13:=cM (st:=sRa) l13 c13 k13
 have F14:=cM (st:=sPu) l14 c14 k14
 have F15:=cM (st:=sCd) l15 c15 k15
 have F16:=cM (st:=sBt) l16 c16 k16
 have F17:=cM (st:=sFr) l17 c17 k17
 have F18:=cM (st:=sFt) l18 c18 k18
 have F19:=cM (st:=sFe) l19 c19 k19
 have F20:=cM (st:=sFw) l20 c20 k20
 have F21:=cM (st:=sWb) l21 c21 k21
 have F22:=cM (st:=sRg) l22 c22 k22
 have F23:=cM (st:=sRo) l23 c23 k23
 have F24:=cM (st:=sCr) l24 c24 k24
 have F25:=cM (st:=sRs) l25 c25 k25
 have F26:=cM (st:=sIr) l26 c26 k26
 have F27:=cM (st:=sFz) l27 c27 k27
 have F28:=cM (st:=sRd) l28 c28 k28
 have F29:=cM (st:=sLt) l29 c29 k29
 have F30:=cM (st:=sCk) l30 c30 k30
 have F31:=cM (st:=sMr) l31 c31 k31
 have F32:=cM (st:=sEv) l32 c32 k32
 have F33:=cM (st:=sEf) l33 c33 k33
 have F34:=cM (st:=sAh) l34 c34 k34
 have F35:=cM (st:=sLy) l35 c35 k35
 have F36:=cM (st:=sC) l36 c36 k36
 have F37:=cM (st:=sH) l37 c37 k37
 have F38:=cM (st:=sX) l38 c38 k38
 have F39:=cM (st:=sE) l39 c39 k39
 have F40:=cM (st:=sD) l40 c40 k40
 have F41:=cM (st:=sFo) l41 c41 k41
 have F42:=cM (st:=sLg) l42 c42 k42
 have F43:=cM (st:=sLm) l43 c43 k43
 have F44:=cM (st:=sCh) l44 c44 k44
 have F45:=cM (st:=sCm) l45 c45 k45
 have F46:=cM (st:=tP) l46 c46 k46
 have F47:=cM (st:=sBs) l47 c47 k47
 have F48:=cM (st:=sEa) l48 c48 k48
 have F49:=cM (st:=sSx) l49 c49 k49
 have F50:=cM (st:=sDu) l50 c50 k50
 have F51:=cM (st:=sRf) l51 c51 k51
 have F52:=cM (st:=sR) l52 c52 k52
 have F53:=cM (st:=sL) l53 c53 k53
 have b1:=F1.binds (ps:=["self","many","ties"]) fun _ _ _ _ _ _ us hl=>by obtain ⟨_,_,_,rfl⟩:=gf hl;rfl
 have b2:=F2.binds (ps:=["web","tie"]) fun _ _ _ _ _ _ us hl=>by obtain ⟨_,_,rfl⟩:=gD hl;rfl
 have b3:=F3.binds (ps:=["labels","one","two"]) fun _ _ _ _ _ _ us hl=>by obtain ⟨_,_,_,rfl⟩:=gf hl;rfl
 have b4:=F4.binds (ps:=["web","flow"]) fun _ _ _ _ _ _ us hl=>by obtain ⟨_,_,rfl⟩:=gD hl;rfl
 have b5:=F5.binds (ps:=["web","flow"]) fun _ _ _ _ _ _ us hl=>by obtain ⟨_,_,rfl⟩:=gD hl;rfl
 have b6:=F6.binds (ps:=["one","two"]) fun _ _ _ _ _ _ us hl=>by obtain ⟨_,_,rfl⟩:=gD hl;rfl
 have b7:=F7.binds (ps:=["number","flow"]) fun _ _ _ _ _ _ us hl=>by obtain ⟨_,_,rfl⟩:=gD hl;rfl
 have b8:=F8.binds (ps:=["web","lows","highs"]) fun _ _ _ _ _ _ us hl=>by obtain ⟨_,_,_,rfl⟩:=gf hl;rfl
 have b9:=F9.binds (ps:=["amounts","lows","highs"]) fun _ _ _ _ _ _ us hl=>by obtain ⟨_,_,_,rfl⟩:=gf hl;rfl
 have b10:=F10.binds (ps:=["web","rooms","place"]) fun _ _ _ _ _ _ us hl=>by obtain ⟨_,_,_,rfl⟩:=gf hl;rfl
 have b11:=F11.binds (ps:=["web","step"]) fun _ _ _ _ _ _ us hl=>by obtain ⟨_,_,rfl⟩:=gD hl;rfl
 have b12:=F12.binds (ps:=["web","rooms","start"]) fun _ _ _ _ _ _ us hl=>by obtain ⟨_,_,_,rfl⟩:=gf hl;rfl
 have b13:=F13.binds (ps:=["rooms","steps"]) fun _ _ _ _ _ _ us hl=>by obtain ⟨_,_,rfl⟩:=gD hl;rfl
 have b14:=F14.binds (ps:=["amounts","steps","size"]) fun _ _ _ _ _ _ us hl=>by obtain ⟨_,_,_,rfl⟩:=gf hl;rfl
 have b15:=F15.binds (ps:=["amount","low","high"]) fun _ _ _ _ _ _ us hl=>by obtain ⟨_,_,_,rfl⟩:=gf hl;rfl
 have b16:=F16.binds (ps:=["web","lows","highs"]) fun _ _ _ _ _ _ us hl=>by obtain ⟨_,_,_,rfl⟩:=gf hl;rfl
 have b17:=F17.binds (ps:=["web"]) fun _ _ _ _ _ _ us hl=>by obtain ⟨_,rfl⟩:=oi hl;rfl
 have b18:=F18.binds (ps:=["web"]) fun _ _ _ _ _ _ us hl=>by obtain ⟨_,rfl⟩:=oi hl;rfl
 have b19:=F19.binds (ps:=["web","tie","place"]) fun _ _ _ _ _ _ us hl=>by obtain ⟨_,_,_,rfl⟩:=gf hl;rfl
 have b20:=F20.binds (ps:=["web","some","start","goal"]) fun _ _ _ _ _ _ us hl=>by obtain ⟨_,_,_,_,rfl⟩:=pS hl;rfl
 have b21:=F21.binds (ps:=["web","tie","some"]) fun _ _ _ _ _ _ us hl=>by obtain ⟨_,_,_,rfl⟩:=gf hl;rfl
 have b22:=F22.binds (ps:=["web","tie","back"]) fun _ _ _ _ _ _ us hl=>by obtain ⟨_,_,_,rfl⟩:=gf hl;rfl
 have b23:=F23.binds (ps:=["web","tie"]) fun _ _ _ _ _ _ us hl=>by obtain ⟨_,_,rfl⟩:=gD hl;rfl
 have b24:=F24.binds (ps:=["k"]) fun _ _ _ _ _ _ us hl=>by obtain ⟨_,rfl⟩:=oi hl;rfl
 have b25:=F25.binds (ps:=["amounts","k"]) fun _ _ _ _ _ _ us hl=>by obtain ⟨_,_,rfl⟩:=gD hl;rfl
 have b26:=F26.binds (ps:=["web","rests","k"]) fun _ _ _ _ _ _ us hl=>by obtain ⟨_,_,_,rfl⟩:=gf hl;rfl
 have b27:=F27.binds (ps:=["web","values"]) fun _ _ _ _ _ _ us hl=>by obtain ⟨_,_,rfl⟩:=gD hl;rfl
 have b28:=F28.binds (ps:=["web","flow","k"]) fun _ _ _ _ _ _ us hl=>by obtain ⟨_,_,_,rfl⟩:=gf hl;rfl
 have b29:=F29.binds (ps:=["web","rests","k"]) fun _ _ _ _ _ _ us hl=>by obtain ⟨_,_,_,rfl⟩:=gf hl;rfl
 have b30:=F30.binds (ps:=["web","some"]) fun _ _ _ _ _ _ us hl=>by obtain ⟨_,_,rfl⟩:=gD hl;rfl
 have b31:=F31.binds (ps:=["web","some"]) fun _ _ _ _ _ _ us hl=>by obtain ⟨_,_,rfl⟩:=gD hl;rfl
 have b32:=F32.binds (ps:=["web","some"]) fun _ _ _ _ _ _ us hl=>by obtain ⟨_,_,rfl⟩:=gD hl;rfl
 have b33:=F33.binds (ps:=["web","some"]) fun _ _ _ _ _ _ us hl=>by obtain ⟨_,_,rfl⟩:=gD hl;rfl
 have b34:=F34.binds (ps:=["web","sets"]) fun _ _ _ _ _ _ us hl=>by obtain ⟨_,_,rfl⟩:=gD hl;rfl
 have b35:=F35.binds (ps:=["web","sets"]) fun _ _ _ _ _ _ us hl=>by obtain ⟨_,_,rfl⟩:=gD hl;rfl
 have b36:=F36.binds (ps:=["script","k"]) fun _ _ _ _ _ _ us hl=>by obtain ⟨_,_,rfl⟩:=gD hl;rfl
 have b37:=F37.binds (ps:=["found"]) fun _ _ _ _ _ _ us hl=>by obtain ⟨_,rfl⟩:=oi hl;rfl
 have b38:=F38.binds (ps:=["e"]) fun _ _ _ _ _ _ us hl=>by obtain ⟨_,rfl⟩:=oi hl;rfl
 have b39:=F39.binds (ps:=["script","many","count","way"]) fun _ _ _ _ _ _ us hl=>by obtain ⟨_,_,_,_,rfl⟩:=pS hl;rfl
 have b40:=F40.binds (ps:=["script","most","bound"]) fun _ _ _ _ _ _ us hl=>by obtain ⟨_,_,_,rfl⟩:=gf hl;rfl
 have b41:=F41.binds (ps:=["many","ends","order"]) fun _ _ _ _ _ _ us hl=>by obtain ⟨_,_,_,rfl⟩:=gf hl;rfl
 have b42:=F42.binds (ps:=["many","ends","amounts"]) fun _ _ _ _ _ _ us hl=>by obtain ⟨_,_,_,rfl⟩:=gf hl;rfl
 have b43:=F43.binds (ps:=["found","many"]) fun _ _ _ _ _ _ us hl=>by obtain ⟨_,_,rfl⟩:=gD hl;rfl
 have b44:=F44.binds (ps:=["cell","many"]) fun _ _ _ _ _ _ us hl=>by obtain ⟨_,_,rfl⟩:=gD hl;rfl
 have b45:=F45.binds (ps:=["many","ends","held","some"]) fun _ _ _ _ _ _ us hl=>by obtain ⟨_,_,_,_,rfl⟩:=pS hl;rfl
 have b46:=F46.binds (ps:=["many","ends","some"]) fun _ _ _ _ _ _ us hl=>by obtain ⟨_,_,_,rfl⟩:=gf hl;rfl
 have b47:=F47.binds (ps:=["some","count","cell"]) fun _ _ _ _ _ _ us hl=>by obtain ⟨_,_,_,rfl⟩:=gf hl;rfl
 have b48:=F48.binds (ps:=["script","at","most","bound"]) fun _ _ _ _ _ _ us hl=>by obtain ⟨_,_,_,_,rfl⟩:=pS hl;rfl
 have b49:=F49.binds (ps:=["many","ends","held"]) fun _ _ _ _ _ _ us hl=>by obtain ⟨_,_,_,rfl⟩:=gf hl;rfl
 have b50:=F50.binds (ps:=["many","ends","sets"]) fun _ _ _ _ _ _ us hl=>by obtain ⟨_,_,_,rfl⟩:=gf hl;rfl
 have b51:=F51.binds (ps:=["web","sets"]) fun _ _ _ _ _ _ us hl=>by obtain ⟨_,_,rfl⟩:=gD hl;rfl
 have b52:=F52.binds (ps:=["many","ends","web","sets"]) fun _ _ _ _ _ _ us hl=>by obtain ⟨_,_,_,_,rfl⟩:=pS hl;rfl
 refine ⟨aP "law" "law" (bW sL) (bO sL) (aB sL) .none kV53 dc53 pm53 an53 cd53 ct53,fun s v=>.of_eq rfl,fun base _ _=>?_⟩
 have D_N:sg l.prog w K mg base 1 "Web" qWeb ["self","many","ties"] (mR K qWeb):=⟨f1,_,⟨mk,a1,i1,kc⟩,Bd F1 T,b1,aI X G aCWeb⟩
 have D_Ti:gT l.prog w K mg base 1 "check_tie" ["web","tie"] (xF K qWeb qBadTie):=.of F2 (aI X G a2) b2 (yy F2 T )
 have D_Me:Def l.prog w K mg base 1 "merged" ["labels","one","two"] (xR K):=.of F3 (aI X G a3) b3 (yL F3 T )
 have D_Am:gT l.prog w K mg base 1 "check_amounts" ["web","flow"] (wY K qWeb qBadFlow):=.of F4 (aI X G a4) b4 (zm F4 T )
 have D_Gs:Def l.prog w K mg base 1 "gains" ["web","flow"] (xV K qWeb):=.of F5 (aI X G a5) b5 (yR F5 T )
 have D_Ad:gT l.prog w K mg base 1 "added" ["one","two"] (vz K qBadFlow):=.of F6 (aI X G a6) b6 (zp F6 T )
 have D_Tm:Def l.prog w K mg base 1 "times" ["number","flow"] (vy K):=.of F7 (aI X G a7) b7 (yx F7 T )
 have D_Cb:Def l.prog w K mg base 2 "check_bounds" ["web","lows","highs"] (yf K (⟨qFlowError,qBadWeb,qTooMany,qBadPlace,qBadTie,qBadFlow,qBadRest,qNoFlow,qBadSet,qBadPaper,qBadText,qBadDeed,qWeb⟩:Cs)):=.of F8 (aI X G a8) b8 (zi F8 T D_Am)
 have D_Rl:Def l.prog w K mg base 1 "rooms_left" ["amounts","lows","highs"] (xK K):=.of F9 (aI X G a9) b9 (yE F9 T )
 have D_Sf:Def l.prog w K mg base 1 "steps_from" ["web","rooms","place"] (xH K (⟨qFlowError,qBadWeb,qTooMany,qBadPlace,qBadTie,qBadFlow,qBadRest,qNoFlow,qBadSet,qBadPaper,qBadText,qBadDeed,qWeb⟩:Cs)):=.of F10 (aI X G a10) b10 (yA F10 T )
 have D_Se:Def l.prog w K mg base 1 "step_end" ["web","step"] (wM K (⟨qFlowError,qBadWeb,qTooMany,qBadPlace,qBadTie,qBadFlow,qBadRest,qNoFlow,qBadSet,qBadPaper,qBadText,qBadDeed,qWeb⟩:Cs)):=.of F11 (aI X G a11) b11 (yB F11 T )
 have D_Ww:Def l.prog w K mg base 2 "ways_with_room" ["web","rooms","start"] (xD K (⟨qFlowError,qBadWeb,qTooMany,qBadPlace,qBadTie,qBadFlow,qBadRest,qNoFlow,qBadSet,qBadPaper,qBadText,qBadDeed,qWeb⟩:Cs)):=.of F12 (aI X G a12) b12 (yv F12 T D_Sf D_Se)
 have D_Ra:Def l.prog w K mg base 1 "room_along" ["rooms","steps"] (xP K):=.of F13 (aI X G a13) b13 (yI F13 T )
 have D_Pu:Def l.prog w K mg base 1 "pushed" ["amounts","steps","size"] (xQ K):=.of F14 (aI X G a14) b14 (yJ F14 T )
 have D_Cd:Def l.prog w K mg base 1 "change_due" ["amount","low","high"] (ye K):=.of F15 (aI X G a15) b15 (zh F15 T )
 have D_Bt:Def l.prog w K mg base 3 "between" ["web","lows","highs"] (yg K (⟨qFlowError,qBadWeb,qTooMany,qBadPlace,qBadTie,qBadFlow,qBadRest,qNoFlow,qBadSet,qBadPaper,qBadText,qBadDeed,qWeb⟩:Cs)):=.of F16 (aI X G a16) b16 (zj F16 T D_Cb D_Rl D_Se D_Ww D_Ra D_Pu D_Cd)
 have D_Fe:Def l.prog w K mg base 1 "far_end" ["web","tie","place"] (wV K (⟨qFlowError,qBadWeb,qTooMany,qBadPlace,qBadTie,qBadFlow,qBadRest,qNoFlow,qBadSet,qBadPaper,qBadText,qBadDeed,qWeb⟩:Cs)):=.of F19 (aI X G a19) b19 (yX F19 T )
 have D_Fw:Def l.prog w K mg base 2 "find_way" ["web","some","start","goal"] (xX K (⟨qFlowError,qBadWeb,qTooMany,qBadPlace,qBadTie,qBadFlow,qBadRest,qNoFlow,qBadSet,qBadPaper,qBadText,qBadDeed,qWeb⟩:Cs)):=.of F20 (aI X G a20) b20 (yT F20 T D_Fe)
 have D_Fr:Def l.prog w K mg base 2 "forest" ["web"] (wU K (⟨qFlowError,qBadWeb,qTooMany,qBadPlace,qBadTie,qBadFlow,qBadRest,qNoFlow,qBadSet,qBadPaper,qBadText,qBadDeed,qWeb⟩:Cs)):=.of F17 (aI X G a17) b17 (yV F17 T D_Me)
 have D_Ft:Def l.prog w K mg base 3 "free_ties" ["web"] (wR K (⟨qFlowError,qBadWeb,qTooMany,qBadPlace,qBadTie,qBadFlow,qBadRest,qNoFlow,qBadSet,qBadPaper,qBadText,qBadDeed,qWeb⟩:Cs)):=.of F18 (aI X G a18) b18 (yU F18 T D_Fr)
 have D_Wb:Def l.prog w K mg base 3 "way_back" ["web","tie","some"] (xE K (⟨qFlowError,qBadWeb,qTooMany,qBadPlace,qBadTie,qBadFlow,qBadRest,qNoFlow,qBadSet,qBadPaper,qBadText,qBadDeed,qWeb⟩:Cs)):=.of F21 (aI X G a21) b21 (yw F21 T D_Fw)
 have D_Rg:Def l.prog w K mg base 2 "ring_flow" ["web","tie","back"] (xM K (⟨qFlowError,qBadWeb,qTooMany,qBadPlace,qBadTie,qBadFlow,qBadRest,qNoFlow,qBadSet,qBadPaper,qBadText,qBadDeed,qWeb⟩:Cs)):=.of F22 (aI X G a22) b22 (yF F22 T D_Fe)
 have D_Ro:gT l.prog w K mg base 4 "ring_of" ["web","tie"] (xJ K (⟨qFlowError,qBadWeb,qTooMany,qBadPlace,qBadTie,qBadFlow,qBadRest,qNoFlow,qBadSet,qBadPaper,qBadText,qBadDeed,qWeb⟩:Cs)):=.of F23 (aI X G a23) b23 (yD F23 T D_Ti D_Fr D_Wb D_Rg)
 have D_Cr:gT l.prog w K mg base 1 "check_rest" ["k"] (wX K qBadRest):=.of F24 (aI X G a24) b24 (zc F24 T )
 have D_Rs:gT l.prog w K mg base 2 "rests_of" ["amounts","k"] (xI K qBadRest):=.of F25 (aI X G a25) b25 (yC F25 T D_Cr)
 have D_Ir:gT l.prog w K mg base 3 "is_rest_flow" ["web","rests","k"] (wQ K (⟨qFlowError,qBadWeb,qTooMany,qBadPlace,qBadTie,qBadFlow,qBadRest,qNoFlow,qBadSet,qBadPaper,qBadText,qBadDeed,qWeb⟩:Cs)):=.of F26 (aI X G a26) b26 (yQ F26 T D_Cr D_Am D_Rs D_Gs)
 have D_Fz:gT l.prog w K mg base 5 "filled_whole" ["web","values"] (xW K (⟨qFlowError,qBadWeb,qTooMany,qBadPlace,qBadTie,qBadFlow,qBadRest,qNoFlow,qBadSet,qBadPaper,qBadText,qBadDeed,qWeb⟩:Cs)):=.of F27 (aI X G a27) b27 (yS F27 T D_Ft D_Ad D_Tm D_Ro)
 have D_Rd:Def l.prog w K mg base 4 "reduced" ["web","flow","k"] (xO K (⟨qFlowError,qBadWeb,qTooMany,qBadPlace,qBadTie,qBadFlow,qBadRest,qNoFlow,qBadSet,qBadPaper,qBadText,qBadDeed,qWeb⟩:Cs)):=.of F28 (aI X G a28) b28 (yH F28 T D_Ad D_Tm D_Bt)
 have D_Lt:Def l.prog w K mg base 6 "lifted" ["web","rests","k"] (xS K (⟨qFlowError,qBadWeb,qTooMany,qBadPlace,qBadTie,qBadFlow,qBadRest,qNoFlow,qBadSet,qBadPaper,qBadText,qBadDeed,qWeb⟩:Cs)):=.of F29 (aI X G a29) b29 (yN F29 T D_Ir D_Ft D_Fz D_Rd)
 have D_Ck:gT l.prog w K mg base 1 "check_set" ["web","some"] (yc K (⟨qFlowError,qBadWeb,qTooMany,qBadPlace,qBadTie,qBadFlow,qBadRest,qNoFlow,qBadSet,qBadPaper,qBadText,qBadDeed,qWeb⟩:Cs)):=.of F30 (aI X G a30) b30 (zf F30 T )
 have D_Mr:Def l.prog w K mg base 1 "marks" ["web","some"] (wN K (⟨qFlowError,qBadWeb,qTooMany,qBadPlace,qBadTie,qBadFlow,qBadRest,qNoFlow,qBadSet,qBadPaper,qBadText,qBadDeed,qWeb⟩:Cs)):=.of F31 (aI X G a31) b31 (yK F31 T )
 have D_Ev:gT l.prog w K mg base 4 "is_even" ["web","some"] (xZ K (⟨qFlowError,qBadWeb,qTooMany,qBadPlace,qBadTie,qBadFlow,qBadRest,qNoFlow,qBadSet,qBadPaper,qBadText,qBadDeed,qWeb⟩:Cs)):=.of F32 (aI X G a32) b32 (yY F32 T D_Ck D_Mr D_Ir)
 have D_Ef:gT l.prog w K mg base 7 "even_flow" ["web","some"] (wW K (⟨qFlowError,qBadWeb,qTooMany,qBadPlace,qBadTie,qBadFlow,qBadRest,qNoFlow,qBadSet,qBadPaper,qBadText,qBadDeed,qWeb⟩:Cs)):=.of F33 (aI X G a33) b33 (yZ F33 T D_Ev D_Mr D_Lt)
 have D_Ah:gT l.prog w K mg base 1 "check_all_held" ["web","sets"] (yi K (⟨qFlowError,qBadWeb,qTooMany,qBadPlace,qBadTie,qBadFlow,qBadRest,qNoFlow,qBadSet,qBadPaper,qBadText,qBadDeed,qWeb⟩:Cs)):=.of F34 (aI X G a34) b34 (zo F34 T )
 have D_Ly:gT l.prog w K mg base 8 "layered" ["web","sets"] (wO K (⟨qFlowError,qBadWeb,qTooMany,qBadPlace,qBadTie,qBadFlow,qBadRest,qNoFlow,qBadSet,qBadPaper,qBadText,qBadDeed,qWeb⟩:Cs)):=.of F35 (aI X G a35) b35 (yM F35 T D_Ef D_Ad D_Tm D_Ah)
 have D_C:Def l.prog w K mg base 1 "_law_cell" ["script","k"] (spC K):=.of F36 (aI X G a36) b36 (Bi F36 T )
 have D_H:Def l.prog w K mg base 1 "_law_whole" ["found"] (spH K):=.of F37 (aI X G a37) b37 (Bf F37 T )
 have D_X:wK l.prog w K mg base 1 "_law_alone" ["e"] (spX K (⟨qFlowError,qBadWeb,qTooMany,qBadPlace,qBadTie,qBadFlow,qBadRest,qNoFlow,qBadSet,qBadPaper,qBadText,qBadDeed,qWeb⟩:Cs)):=.of F38 (aI X G a38) b38 (Bb F38 T )
 have D_E:Def l.prog w K mg base 2 "_law_ends" ["script","many","count","way"] (spE K):=.of F39 (aI X G a39) b39 (Bg F39 T D_C)
 have D_D:Def l.prog w K mg base 3 "_law_drawn" ["script","most","bound"] (spD K):=.of F40 (aI X G a40) b40 (Bh F40 T D_C D_E)
 have D_Fo:Def l.prog w K mg base 1 "_law_forest" ["many","ends","order"] (xY K):=.of F41 (aI X G a41) b41 (yW F41 T )
 have D_Lg:Def l.prog w K mg base 1 "_law_gains" ["many","ends","amounts"] (xU K):=.of F42 (aI X G a42) b42 (yP F42 T )
 have D_Lm:Def l.prog w K mg base 2 "_law_amounts" ["found","many"] (xT K):=.of F43 (aI X G a43) b43 (yO F43 T D_H)
 have D_Ch:Def l.prog w K mg base 1 "_law_chosen" ["cell","many"] (yd K):=.of F44 (aI X G a44) b44 (zg F44 T )
 have D_Cm:Def l.prog w K mg base 1 "_law_completed" ["many","ends","held","some"] (yb K):=.of F45 (aI X G a45) b45 (ze F45 T )
 have D_Le2:Def l.prog w K mg base 1 "_law_even" ["many","ends","some"] (tI K):=.of F46 (aI X G a46) b46 (vS F46 T )
 have D_Bs:Def l.prog w K mg base 1 "_law_bad_set" ["some","count","cell"] (yh K):=.of F47 (aI X G a47) b47 (zk F47 T )
 have D_Ea:Def l.prog w K mg base 2 "_law_ears" ["script","at","most","bound"] (x_ K):=.of F48 (aI X G a48) b48 (y_ F48 T D_C)
 have D_Sx:Def l.prog w K mg base 2 "_law_sets" ["many","ends","held"] (xG K):=.of F49 (aI X G a49) b49 (yz F49 T D_Cm)
 have D_Du:Def l.prog w K mg base 2 "_law_due" ["many","ends","sets"] (ya K):=.of F50 (aI X G a50) b50 (za F50 T D_Le2)
 have D_Rf:Def l.prog w K mg base 9 "_law_refused" ["web","sets"] (xN K (⟨qFlowError,qBadWeb,qTooMany,qBadPlace,qBadTie,qBadFlow,qBadRest,qNoFlow,qBadSet,qBadPaper,qBadText,qBadDeed,qWeb⟩:Cs)):=.of F51 (aI X G a51) b51 (yG F51 T D_Ly D_X)
 have D_R:Def l.prog w K mg base 10 "_law_right" ["many","ends","web","sets"] (spR K (⟨qFlowError,qBadWeb,qTooMany,qBadPlace,qBadTie,qBadFlow,qBadRest,qNoFlow,qBadSet,qBadPaper,qBadText,qBadDeed,qWeb⟩:Cs)):=.of F52 (aI X G a52) b52 (Bc F52 T D_Du D_Rf D_Ef D_Ly D_Lm D_Lg)
 exact Be F53 T D_C D_D D_Ea D_Fo D_Sx D_Ch D_Bs D_R D_N
theorem walk {l:PySem.W.OpenLaw} {q:Program} {loose:List Str} {XP:(Str→Option Value)→Heap→Prop} {YP:World→Heap→Prop} {d:DefRec} {K:Params→ai} (hn:l.most=some 63) (hdf:d.params.defaults=[])
  (hY:∀(w:World) (h:Heap),YP w h→(K w.params).In h)
  (F:∀(w:World) (mg:Str→Option Value) (fa:Addr) (h:Heap),(K w.params).In h→h.Ns mainGlobals mg→mg d.name=some (.ref fa) →
   ∃fd:FuncData,(∀(s:Shared) (u:Value),BindsTo s fd ⟨[u],[]⟩ [("script",u)])∧∀base:Heap,(K w.params).In base→base.Ns mainGlobals mg→fm l.prog w (K w.params) mg base CX0 11 fa fd ["script"] (rg (K w.params))) :
  PySem.W.WalkO q loose XP YP l.row.toRowW d [] (fun f vs=>PySem.call f vs) :=
 L2.tm (n:=63) (k:=11) (x:="script") (CX:=fun _=>CX0) (sp:=fun w=>rg (K w.params)) hn (by decide) hdf ⟨rfl,by decide,by decide⟩ hY F (fun _ _ a ns hl _ hS=>⟨a,ns,rfl,hS,hl,fun _=>rfl⟩) fun _ _ _ _ _ z=>z
end Pk
namespace PySem.W.Fast
theorem tw3611892205112157902:True:=⟨⟩
theorem tw9872267403387808629:True:=⟨⟩
theorem tw12991942662751091337:True:=⟨⟩
theorem tw10428807115491205866:True:=⟨⟩
theorem tw1374546621572890092:True:=⟨⟩
theorem tw12244507583546530419:True:=⟨⟩
theorem tw13716336654346394339:True:=⟨⟩
theorem tw3106804792351074159:True:=⟨⟩
theorem tw5041102586909916004:True:=⟨⟩
theorem tw15391246684979340243:True:=⟨⟩
theorem tw14270289889690500658:True:=⟨⟩
theorem tw2126911936668594423:True:=⟨⟩
theorem tw14304342737490749916:True:=⟨⟩
theorem tw11199280209466006603:True:=⟨⟩
theorem tw10608676616728949147:True:=⟨⟩
theorem tw1309402918986182409:True:=⟨⟩
theorem tw18393528589962460623:True:=⟨⟩
theorem tw16496509904596828474:True:=⟨⟩
theorem tw4385847644902718356:True:=⟨⟩
theorem tw8088215283092573679:True:=⟨⟩
theorem tw10288107462439119604:True:=⟨⟩
theorem tw18158116305211373489:True:=⟨⟩
theorem tw5050389036235396375:True:=⟨⟩
theorem tw4091177586333488545:True:=⟨⟩
theorem tw4874402461248464802:True:=⟨⟩
theorem tw2135567908392538478:True:=⟨⟩
theorem tw16173620946597002937:True:=⟨⟩
theorem tw15970697701864139153:True:=⟨⟩
theorem tw9269546873837289444:True:=⟨⟩
theorem tw824952820697152744:True:=⟨⟩
theorem tw3509170694383566631:True:=⟨⟩
theorem tw3126273934745249397:True:=⟨⟩
theorem tw5125442122924272019:True:=⟨⟩
theorem tw4386729362743040522:True:=⟨⟩
theorem tw2607456695786101958:True:=⟨⟩
theorem tw14229189307875730530:True:=⟨⟩
theorem tw14672407388386386331:True:=⟨⟩
theorem tw13816604803340927131:True:=⟨⟩
theorem tw11848929492363160441:True:=⟨⟩
theorem tw12448546799137637077:True:=⟨⟩
theorem tw8007393043799030463:True:=⟨⟩
theorem tw5131007759147168759:True:=⟨⟩
theorem tw3338423750235160515:True:=⟨⟩
theorem tw16571344384921253426:True:=⟨⟩
theorem tw4070147586962037851:True:=⟨⟩
theorem tw9955623659938497200:True:=⟨⟩
theorem tw12779060723757898740:True:=⟨⟩
theorem tw17043258249781347707:True:=⟨⟩
theorem tw12627358412782638066:True:=⟨⟩
theorem tw3046256319001659138:True:=⟨⟩
theorem tw9293479248888938612:True:=⟨⟩
theorem tw10631390334445983259:True:=⟨⟩
theorem tw15785833084296865655:True:=⟨⟩
theorem tw15966148292922663556:True:=⟨⟩
theorem tw10565925674443160610:True:=⟨⟩
theorem tw15960314546660944528:True:=⟨⟩
theorem tw13967679090545711818:True:=⟨⟩
theorem tw6511043458154740206:True:=⟨⟩
theorem tw14158298811152398347:True:=⟨⟩
theorem tw1502422736394017746:True:=⟨⟩
theorem tw12999618398452148634:True:=⟨⟩
theorem tw13582729707371036109:True:=⟨⟩
theorem tw10983724582860196710:True:=⟨⟩
theorem tw14172616754144481983:True:=⟨⟩
theorem tw9794336394472393562:True:=⟨⟩
theorem tw5815623812402733885:True:=⟨⟩
theorem tw12143855970663801613:True:=⟨⟩
theorem tw9503988635967108679:True:=⟨⟩
theorem tw2698911838446210347:True:=⟨⟩
theorem tw13851354327904438321:True:=⟨⟩
theorem tw12164803376096072557:True:=⟨⟩
theorem tw15497814116361225012:True:=⟨⟩
theorem tw15646906214995843370:True:=⟨⟩
theorem tw17077883107518568333:True:=⟨⟩
theorem tw8031680196326943103:True:=⟨⟩
theorem tw11923733479036701487:True:=⟨⟩
theorem tw5566331952318442659:True:=⟨⟩
theorem tw6969212808698533826:True:=⟨⟩
theorem tw8173764225845150926:True:=⟨⟩
theorem tw10367574352768896990:True:=⟨⟩
theorem tw751021425140271086:True:=⟨⟩
theorem tw9738511643277733538:True:=⟨⟩
theorem tw2521422727795063874:True:=⟨⟩
theorem tw10050535096492934612:True:=⟨⟩
theorem tw8276723799448665146:True:=⟨⟩
theorem tw11203364376365245422:True:=⟨⟩
theorem tw15426207222960107256:True:=⟨⟩
theorem tw14284238562907410930:True:=⟨⟩
theorem tw10270265967810100555:True:=⟨⟩
theorem tw14571925793237355444:True:=⟨⟩
theorem tw11689882198596199423:True:=⟨⟩
theorem tw14025687487047643708:True:=⟨⟩
theorem tw10313379731930194158:True:=⟨⟩
theorem tw5241597576392751474:True:=⟨⟩
theorem tw7421933020694635140:True:=⟨⟩
theorem tw5164431087903673301:True:=⟨⟩
theorem tw8868211939999911035:True:=⟨⟩
theorem tw2952989325186315749:True:=⟨⟩
theorem tw1023451199390962945:True:=⟨⟩
theorem tw9148311011817464462:True:=⟨⟩
theorem tw772745920953003787:True:=⟨⟩
theorem tw8067424305656283120:True:=⟨⟩
theorem tw10638706810593831072:True:=⟨⟩
theorem tw3471513894297211658:True:=⟨⟩
theorem tw14734434182745350118:True:=⟨⟩
theorem tw12079543137048320160:True:=⟨⟩
theorem tw15070637170802053704:True:=⟨⟩
theorem tw8826432525989727917:True:=⟨⟩
theorem tw5321675862418788840:True:=⟨⟩
theorem tw8909535548069508356:True:=⟨⟩
theorem tw2237403165280945763:True:=⟨⟩
theorem tw2326162907282684057:True:=⟨⟩
theorem tw11367297597183469850:True:=⟨⟩
theorem tw15664946169747721891:True:=⟨⟩
theorem tw14359644714854455199:True:=⟨⟩
theorem tw14118286943820788219:True:=⟨⟩
theorem tw11548316722525949265:True:=⟨⟩
theorem tw11208285778698605171:True:=⟨⟩
theorem tw11834250918961797413:True:=⟨⟩
theorem tw14034509915447128515:True:=⟨⟩
theorem tw12146061034728613001:True:=⟨⟩
theorem tw10464273278617818169:True:=⟨⟩
theorem tw703854965818023163:True:=⟨⟩
theorem tw8097066209141012898:True:=⟨⟩
theorem tw10274858703076915970:True:=⟨⟩
theorem tw7225484986217709800:True:=⟨⟩
theorem tw507916625407462749:True:=⟨⟩
theorem tw8297181192577597087:True:=⟨⟩
theorem tw4700545828283425185:True:=⟨⟩
theorem tw494832862564719700:True:=⟨⟩
theorem tw5885508530472570297:True:=⟨⟩
theorem tw6293506098147428861:True:=⟨⟩
theorem tw18170699069458470856:True:=⟨⟩
theorem tw7783592649728939066:True:=⟨⟩
theorem tw5256067373040484066:True:=⟨⟩
theorem tw17164608262687919087:True:=⟨⟩
theorem tw7382913693338413895:True:=⟨⟩
theorem tw16916780195865087921:True:=⟨⟩
theorem tw8563347444334860032:True:=⟨⟩
theorem tw15558829319516269593:True:=⟨⟩
theorem tw13261134022702430802:True:=⟨⟩
theorem tw7247073935783450940:True:=⟨⟩
theorem tw17333909157862849335:True:=⟨⟩
theorem tw16709479804917159905:True:=⟨⟩
theorem tw16599982180763180794:True:=⟨⟩
theorem tw14640892852891254392:True:=⟨⟩
theorem tw4463121119404995722:True:=⟨⟩
theorem tw14381379304051595863:True:=⟨⟩
theorem tw14242664946028644545:True:=⟨⟩
theorem tw12804997006696250590:True:=⟨⟩
theorem tw11778997060246866772:True:=⟨⟩
theorem tw18185376580146380020:True:=⟨⟩
theorem tw7875160050278935949:True:=⟨⟩
theorem tw13904213980751746015:True:=⟨⟩
theorem tw16843190890120387561:True:=⟨⟩
theorem tw6203898236072293966:True:=⟨⟩
theorem tw3374102332051573573:True:=⟨⟩
theorem tw2641531251083643344:True:=⟨⟩
theorem tw9508875309539076336:True:=⟨⟩
theorem tw12126829592193960952:True:=⟨⟩
theorem tw7988753748844252830:True:=⟨⟩
theorem tw12265442353747195787:True:=⟨⟩
theorem tw8443489061280761067:True:=⟨⟩
theorem tw12367560299525584860:True:=⟨⟩
theorem tw1618456884760481186:True:=⟨⟩
theorem tw6717658402595186837:True:=⟨⟩
theorem tw6244334332613960492:True:=⟨⟩
theorem tw4076797151235213034:True:=⟨⟩
theorem tw17389378533000890917:True:=⟨⟩
theorem tw9796137412097160650:True:=⟨⟩
theorem tw3268340677968897490:True:=⟨⟩
theorem tw11157250056144872015:True:=⟨⟩
theorem tw11946982351152945706:True:=⟨⟩
theorem tw2845091344041172044:True:=⟨⟩
theorem tw16974495775935930468:True:=⟨⟩
theorem tw1081763705727342903:True:=⟨⟩
theorem tw5390291087750965192:True:=⟨⟩
theorem tw10625474512828151954:True:=⟨⟩
theorem tw4363949260646553384:True:=⟨⟩
theorem tw6524076454760723103:True:=⟨⟩
theorem tw2011240345964947642:True:=⟨⟩
theorem tw4177310984412120051:True:=⟨⟩
theorem tw5041622648542239207:True:=⟨⟩
theorem tw3249668489590922557:True:=⟨⟩
theorem tw3185040987397216216:True:=⟨⟩
theorem tw15389531346174928834:True:=⟨⟩
theorem tw14276112402577025607:True:=⟨⟩
theorem tw6850571149902409496:True:=⟨⟩
theorem tw13114146458104995762:True:=⟨⟩
theorem tw2267429451972002512:True:=⟨⟩
theorem tw4761254681530566717:True:=⟨⟩
theorem tw14455048211542864648:True:=⟨⟩
theorem tw2213251073589336066:True:=⟨⟩
theorem tw17282127711412453722:True:=⟨⟩
theorem tw10851588842207243371:True:=⟨⟩
theorem tw13845169356054923406:True:=⟨⟩
theorem tw9089852969783035189:True:=⟨⟩
theorem tw2091208206993061065:True:=⟨⟩
theorem tw1431920653476625:True:=⟨⟩
theorem tw1007604167482464025:True:=⟨⟩
theorem tw15035124190468367330:True:=⟨⟩
theorem tw6115386261804037124:True:=⟨⟩
theorem tw12241791436017016924:True:=⟨⟩
theorem tw14020040289886508027:True:=⟨⟩
theorem tw10788001354766064143:True:=⟨⟩
theorem tw7016572624546843023:True:=⟨⟩
theorem tw8103294438557982554:True:=⟨⟩
theorem tw13705575597717034789:True:=⟨⟩
theorem tw4093323957421000875:True:=⟨⟩
theorem tw5875776052163291065:True:=⟨⟩
theorem tw2098457006783336325:True:=⟨⟩
theorem tw15637609945771818667:True:=⟨⟩
theorem tw12453963338183006942:True:=⟨⟩
theorem tw15099411427409022808:True:=⟨⟩
theorem tw18323320339322428595:True:=⟨⟩
theorem tw16892080093193713508:True:=⟨⟩
theorem tw9533839962781390619:True:=⟨⟩
theorem tw1974537747900744969:True:=⟨⟩
theorem tw9771792579873011875:True:=⟨⟩
theorem tw10890448758482055235:True:=⟨⟩
theorem tw179531641593952201:True:=⟨⟩
theorem tw11165836053248565562:True:=⟨⟩
theorem tw13747287181933017485:True:=⟨⟩
theorem tw7445372546872187755:True:=⟨⟩
theorem tw13489443105712517874:True:=⟨⟩
theorem tw15016421316768049683:True:=⟨⟩
theorem tw1157558660186714544:True:=⟨⟩
theorem tw6338125445126623540:True:=⟨⟩
theorem tw7821581445860527101:True:=⟨⟩
theorem tw13209139751955333465:True:=⟨⟩
theorem tw12726580789749841399:True:=⟨⟩
theorem tw18003502307853983348:True:=⟨⟩
theorem tw4604841089424547793:True:=⟨⟩
theorem tw16744837330116908677:True:=⟨⟩
theorem tw17433375606546750426:True:=⟨⟩
theorem tw6323569996198385377:True:=⟨⟩
theorem tw11530902151708250921:True:=⟨⟩
theorem tw16379206158625211386:True:=⟨⟩
theorem tw17445921329757121630:True:=⟨⟩
theorem tw6214121415903010823:True:=⟨⟩
theorem tw1416393539281571989:True:=⟨⟩
theorem tw17905452312429339244:True:=⟨⟩
theorem tw16678882078212031366:True:=⟨⟩
theorem tw15273415939558440885:True:=⟨⟩
theorem tw16618459315619228285:True:=⟨⟩
theorem tw8889600961160422192:True:=⟨⟩
theorem tw14783163719310159052:True:=⟨⟩
theorem tw17193675953988916469:True:=⟨⟩
theorem tw16260662090260829403:True:=⟨⟩
theorem tw15065417018512875271:True:=⟨⟩
theorem tw7174333994054416882:True:=⟨⟩
theorem tw15099723742431481468:True:=⟨⟩
theorem tw18194587996722321074:True:=⟨⟩
theorem tw1083236316386334062:True:=⟨⟩
theorem tw17198333644815229300:True:=⟨⟩
theorem tw5737765103339784003:True:=⟨⟩
theorem tw2560914324121053788:True:=⟨⟩
theorem tw11810120252729755930:True:=⟨⟩
theorem tw12293157978876997969:True:=⟨⟩
theorem tw15585072691132755037:True:=⟨⟩
theorem tw1962773165964392379:True:=⟨⟩
theorem tw18068083972942871944:True:=⟨⟩
theorem tw6495859719275839559:True:=⟨⟩
theorem tw9684512135866606065:True:=⟨⟩
theorem tw1528634434722116388:True:=⟨⟩
theorem tw11323825765421355389:True:=⟨⟩
theorem tw17514244220078000522:True:=⟨⟩
theorem tw7546730454452876358:True:=⟨⟩
theorem tw3910072616038215796:True:=⟨⟩
theorem tw2635921224945112812:True:=⟨⟩
theorem tw8746637128995840579:True:=⟨⟩
theorem tw6051041221447861796:True:=⟨⟩
theorem tw9413504488035646112:True:=⟨⟩
theorem tw15952863157185331008:True:=⟨⟩
theorem tw13542103255310715947:True:=⟨⟩
theorem tw2195821073024260495:True:=⟨⟩
theorem tw14602404384898296070:True:=⟨⟩
theorem tw18177642365157039490:True:=⟨⟩
theorem tw15143769958769924150:True:=⟨⟩
theorem tw17631159115202784406:True:=⟨⟩
theorem tw9027330551579452394:True:=⟨⟩
theorem tw7130708310195397999:True:=⟨⟩
theorem tw6161063014329593171:True:=⟨⟩
theorem tw808814928133530535:True:=⟨⟩
theorem tw10920847977475166604:True:=⟨⟩
theorem tw12924649265296487689:True:=⟨⟩
theorem tw2684049673525815466:True:=⟨⟩
theorem tw9419519389701805967:True:=⟨⟩
theorem tw3650344093477132652:True:=⟨⟩
theorem tw11545731144552318792:True:=⟨⟩
theorem tw4995747737475834211:True:=⟨⟩
theorem tw12637495938179635880:True:=⟨⟩
theorem tw6702689363017599843:True:=⟨⟩
theorem tw8767998848477192489:True:=⟨⟩
theorem tw7889705588852677102:True:=⟨⟩
theorem tw10020180617191753201:True:=⟨⟩
theorem tw14131224172304654367:True:=⟨⟩
theorem tw2186048134909368527:True:=⟨⟩
theorem tw7316629031777161971:True:=⟨⟩
theorem tw3241577780234146063:True:=⟨⟩
theorem tw16646357947322255679:True:=⟨⟩
theorem tw8250108696638383117:True:=⟨⟩
theorem tw1161608611400929358:True:=⟨⟩
theorem tw5005759555081573148:True:=⟨⟩
theorem tw14316994070893700403:True:=⟨⟩
theorem tw2771076875838250505:True:=⟨⟩
theorem tw7418042515169209134:True:=⟨⟩
theorem tw3260905322611789811:True:=⟨⟩
theorem tw5005824960115773009:True:=⟨⟩
theorem tw10052101474076130610:True:=⟨⟩
theorem tw9324008366696502230:True:=⟨⟩
theorem tw1943631176167352238:True:=⟨⟩
theorem tw7388421972653858294:True:=⟨⟩
theorem tw16865649570295807821:True:=⟨⟩
theorem tw12269515580647726680:True:=⟨⟩
theorem tw4587010527592939150:True:=⟨⟩
theorem tw13966482350016769544:True:=⟨⟩
theorem tw4476470745595149450:True:=⟨⟩
theorem tw16079879002312022010:True:=⟨⟩
theorem tw8067031982870667862:True:=⟨⟩
theorem tw2443673967581673760:True:=⟨⟩
theorem tw17475738919926849966:True:=⟨⟩
theorem tw16806929309508686063:True:=⟨⟩
theorem tw11930864483141326710:True:=⟨⟩
theorem tw3899786973966166194:True:=⟨⟩
theorem tw12865450191981566704:True:=⟨⟩
theorem tw5182828356883801321:True:=⟨⟩
theorem tw3127236748263066458:True:=⟨⟩
theorem tw9527048487560967044:True:=⟨⟩
theorem tw17898497361156208276:True:=⟨⟩
theorem tw14419277606020270765:True:=⟨⟩
theorem tw1086193190985258049:True:=⟨⟩
theorem tw4731192465550947109:True:=⟨⟩
theorem tw8236676045340730585:True:=⟨⟩
theorem tw13099644747661738744:True:=⟨⟩
theorem tw1373726370191188804:True:=⟨⟩
theorem tw16104130534491395962:True:=⟨⟩
theorem tw16196289398969681781:True:=⟨⟩
theorem tw12300857811071390013:True:=⟨⟩
theorem tw17321709498987226877:True:=⟨⟩
theorem tw2981933896723909971:True:=⟨⟩
theorem tw469639589037890395:True:=⟨⟩
theorem tw7230438787249388084:True:=⟨⟩
theorem tw8647863629735983499:True:=⟨⟩
theorem tw17995377086462928230:True:=⟨⟩
theorem tw1548074808055215289:True:=⟨⟩
theorem tw6239074349773088263:True:=⟨⟩
theorem tw6398470559735222249:True:=⟨⟩
theorem tw2754206614153570996:True:=⟨⟩
theorem tw14489408449137834892:True:=⟨⟩
theorem tw1698029431401707979:True:=⟨⟩
theorem tw13064836811827324291:True:=⟨⟩
theorem tw5072227957507611836:True:=⟨⟩
theorem tw9477852490804688668:True:=⟨⟩
theorem tw15146924194556656922:True:=⟨⟩
theorem tw13497283167088730926:True:=⟨⟩
theorem tw7524758389702476983:True:=⟨⟩
theorem tw13632377492651963370:True:=⟨⟩
theorem tw8183126988341985453:True:=⟨⟩
theorem tw4945820967440191084:True:=⟨⟩
theorem tw7440952249748429247:True:=⟨⟩
theorem tw8158421868213315818:True:=⟨⟩
theorem tw3373859530541410351:True:=⟨⟩
theorem tw11703538963067282106:True:=⟨⟩
theorem tw17764236871574817849:True:=⟨⟩
theorem tw14558948004025691218:True:=⟨⟩
theorem tw7765472596822564114:True:=⟨⟩
theorem tw9076411917423264495:True:=⟨⟩
theorem tw11508058449630926679:True:=⟨⟩
theorem tw10095942588544111834:True:=⟨⟩
theorem tw3937249758254018354:True:=⟨⟩
theorem tw13528849692156439353:True:=⟨⟩
theorem tw17041264953331998388:True:=⟨⟩
theorem tw15603468511090668928:True:=⟨⟩
theorem tw2397493316933421236:True:=⟨⟩
theorem tw14829880522758669409:True:=⟨⟩
theorem tw200204397982816104:True:=⟨⟩
theorem tw15089735460804718468:True:=⟨⟩
theorem tw4828393595947345732:True:=⟨⟩
theorem tw6517275880315812207:True:=⟨⟩
theorem tw17230699249496212659:True:=⟨⟩
theorem tw12069664568456287052:True:=⟨⟩
theorem tw5908934300780679759:True:=⟨⟩
theorem tw7376842009800872892:True:=⟨⟩
theorem tw6567269371799850918:True:=⟨⟩
theorem tw11320440885575659539:True:=⟨⟩
theorem tw15347734950107607770:True:=⟨⟩
theorem tw6046958371620802136:True:=⟨⟩
theorem tw12034137319778008681:True:=⟨⟩
theorem tw13802034472037447295:True:=⟨⟩
theorem tw15081607414088622317:True:=⟨⟩
theorem tw10358721111941987706:True:=⟨⟩
theorem tw15305008315372418656:True:=⟨⟩
theorem tw4379128901410573605:True:=⟨⟩
theorem tw6294419929818136570:True:=⟨⟩
theorem tw7702005539676181270:True:=⟨⟩
theorem tw4577244992436867501:True:=⟨⟩
theorem tw13118714068261586749:True:=⟨⟩
theorem tw5623617224632949710:True:=⟨⟩
theorem tw12489500045337559873:True:=⟨⟩
theorem tw745714844564307408:True:=⟨⟩
theorem tw15099104188008883403:True:=⟨⟩
theorem tw10229156542337135092:True:=⟨⟩
theorem tw15502448740755570760:True:=⟨⟩
theorem tw5347300504052910001:True:=⟨⟩
theorem tw4139783579291908924:True:=⟨⟩
theorem tw14719278121657304863:True:=⟨⟩
theorem tw13346707759153062084:True:=⟨⟩
theorem tw109002139587371806:True:=⟨⟩
theorem tw13805734787854400942:True:=⟨⟩
theorem tw11328276896144763899:True:=⟨⟩
theorem tw9114613704118888717:True:=⟨⟩
theorem tw2835741825882206933:True:=⟨⟩
theorem tw7430605453043573924:True:=⟨⟩
theorem tw12914290983029322968:True:=⟨⟩
theorem tw3390349211108850670:True:=⟨⟩
theorem tw5019709990512590212:True:=⟨⟩
theorem tw18084532062330824959:True:=⟨⟩
theorem tw7507137667565634844:True:=⟨⟩
theorem tw2141724658612163555:True:=⟨⟩
theorem tw15200433084929568321:True:=⟨⟩
theorem tw1551216512808457906:True:=⟨⟩
theorem tw1082785783400542967:True:=⟨⟩
theorem tw12818053669490780039:True:=⟨⟩
theorem tw15742274508809045204:True:=⟨⟩
theorem tw14975411622418178345:True:=⟨⟩
theorem tw9462828419795670271:True:=⟨⟩
theorem tw2877384746409073480:True:=⟨⟩
theorem tw13460123642771958873:True:=⟨⟩
theorem tw6626151921956356829:True:=⟨⟩
theorem tw2451766018163711404:True:=⟨⟩
theorem tw11826174830624307093:True:=⟨⟩
theorem tw3267853458724282026:True:=⟨⟩
theorem tw11319193391859546361:True:=⟨⟩
theorem tw5272337666942392239:True:=⟨⟩
theorem tw17283740264886592978:True:=⟨⟩
theorem tw14192336111147779759:True:=⟨⟩
theorem tw7966929870031128097:True:=⟨⟩
theorem tw13357671894469051649:True:=⟨⟩
theorem tw1841887141008993123:True:=⟨⟩
theorem tw8464630879057841019:True:=⟨⟩
theorem tw18123545535645362003:True:=⟨⟩
theorem tw17284598099275348459:True:=⟨⟩
theorem tw17678183025975403389:True:=⟨⟩
theorem tw18135704928317235810:True:=⟨⟩
theorem tw3788168010085842516:True:=⟨⟩
theorem tw16136996931814024558:True:=⟨⟩
theorem tw4111566159293615516:True:=⟨⟩
theorem tw12375447307642985517:True:=⟨⟩
theorem tw7590323701137331898:True:=⟨⟩
theorem tw17107391237212420451:True:=⟨⟩
theorem tw15704018616271329713:True:=⟨⟩
theorem tw6778566547284685250:True:=⟨⟩
theorem tw13674219670958950133:True:=⟨⟩
theorem tw12007496852630632445:True:=⟨⟩
theorem tw9809812270305490531:True:=⟨⟩
theorem tw9888363481517882179:True:=⟨⟩
theorem tw5589574193068694049:True:=⟨⟩
theorem tw17305867350660528515:True:=⟨⟩
theorem tw4241539914624968338:True:=⟨⟩
theorem tw10465498583781373640:True:=⟨⟩
theorem tw4434354109942859190:True:=⟨⟩
theorem tw1624951650287151704:True:=⟨⟩
theorem tw288012468397197602:True:=⟨⟩
theorem tw6250076516889431725:True:=⟨⟩
theorem tw8456930664370997111:True:=⟨⟩
theorem tw13623047252964108234:True:=⟨⟩
theorem tw7454956478023562292:True:=⟨⟩
theorem tw905379856939644529:True:=⟨⟩
theorem tw3120700467738686999:True:=⟨⟩
theorem tw13873632732293645853:True:=⟨⟩
theorem tw6608665761919378522:True:=⟨⟩
theorem tw769094466036967931:True:=⟨⟩
theorem tw6650683813239554719:True:=⟨⟩
theorem tw12658414545963049059:True:=⟨⟩
theorem tw13001573514798089768:True:=⟨⟩
theorem tw18200543900481365214:True:=⟨⟩
theorem tw4236604427814259126:True:=⟨⟩
theorem tw11097565099142555358:True:=⟨⟩
theorem tw6491960146465323251:True:=⟨⟩
theorem tw15745426451395062029:True:=⟨⟩
theorem tw7403074223433687408:True:=⟨⟩
theorem tw8999280679335252917:True:=⟨⟩
theorem tw17469705878341592319:True:=⟨⟩
theorem tw8779820458345330399:True:=⟨⟩
theorem tw4154723934701619055:True:=⟨⟩
theorem tw8213831089183691590:True:=⟨⟩
theorem tw5053177364899830073:True:=⟨⟩
theorem tw10033906988576949174:True:=⟨⟩
theorem tw11612795684176109196:True:=⟨⟩
theorem tw1318421166680147981:True:=⟨⟩
theorem tw2456870080113111952:True:=⟨⟩
theorem tw9945863923611800815:True:=⟨⟩
theorem tw7162671726760634548:True:=⟨⟩
theorem tw1671381100143522703:True:=⟨⟩
theorem tw15782272421047465107:True:=⟨⟩
theorem tw10214982884332904693:True:=⟨⟩
theorem tw2784055131485127511:True:=⟨⟩
theorem tw9969532336237483048:True:=⟨⟩
theorem tw706116866938601431:True:=⟨⟩
theorem tw14487226938486342361:True:=⟨⟩
theorem tw15598647550688832641:True:=⟨⟩
theorem tw6579658385735890252:True:=⟨⟩
end PySem.W.Fast
open PySem PySem.W PyProof.Rows
set_option maxRecDepth 100000 in
set_option maxHeartbeats 0 in
theorem PySem.Challenge.cw_busyweb_k39_layers_holds : PySem.Challenge.rw_busyweb_k39_layers.Holds := by
  w_on;o_law;k_head;(case hw=>w_witness2)
  k_fill
  refine Pk.walk (l:=PySem.Challenge.rw_busyweb_k39_layers) rfl rfl (fun w h Y=>PySem.W.kIn_of Y) ?F
  case F =>
    intro w mg fa h KX G hmg
    refine' Pk.all_mk KX G hmg ?aCFlowError ?aCBadWeb ?aCTooMany ?aCBadPlace ?aCBadTie ?aCBadFlow ?aCBadRest ?aCNoFlow ?aCBadSet ?aCBadPaper ?aCBadText ?aCBadDeed ?aCWeb ?a1 ?i1 ?l1 ?c1 ?k1 ?a2 ?l2 ?c2 ?k2 ?a3 ?l3 ?c3 ?k3 ?a4 ?l4 ?c4 ?k4 ?a5 ?l5 ?c5 ?k5 ?a6 ?l6 ?c6 ?k6 ?a7 ?l7 ?c7 ?k7 ?a8 ?l8 ?c8 ?k8 ?a9 ?l9 ?c9 ?k9 ?a10 ?l10 ?c10 ?k10 ?a11 ?l11 ?c11 ?k11 ?a12 ?l12 ?c12 ?k12 ?a13 ?l13 ?c13 ?k13 ?a14 ?l14 ?c14 ?k14 ?a15 ?l15 ?c15 ?k15 ?a16 ?l16 ?c16 ?k16 ?a17 ?l17 ?c17 ?k17 ?a18 ?l18 ?c18 ?k18 ?a19 ?l19 ?c19 ?k19 ?a20 ?l20 ?c20 ?k20 ?a21 ?l21 ?c21 ?k21 ?a22 ?l22 ?c22 ?k22 ?a23 ?l23 ?c23 ?k23 ?a24 ?l24 ?c24 ?k24 ?a25 ?l25 ?c25 ?k25 ?a26 ?l26 ?c26 ?k26 ?a27 ?l27 ?c27 ?k27 ?a28 ?l28 ?c28 ?k28 ?a29 ?l29 ?c29 ?k29 ?a30 ?l30 ?c30 ?k30 ?a31 ?l31 ?c31 ?k31 ?a32 ?l32 ?c32 ?k32 ?a33 ?l33 ?c33 ?k33 ?a34 ?l34 ?c34 ?k34 ?a35 ?l35 ?c35 ?k35 ?a36 ?l36 ?c36 ?k36 ?a37 ?l37 ?c37 ?k37 ?a38 ?l38 ?c38 ?k38 ?a39 ?l39 ?c39 ?k39 ?a40 ?l40 ?c40 ?k40 ?a41 ?l41 ?c41 ?k41 ?a42 ?l42 ?c42 ?k42 ?a43 ?l43 ?c43 ?k43 ?a44 ?l44 ?c44 ?k44 ?a45 ?l45 ?c45 ?k45 ?a46 ?l46 ?c46 ?k46 ?a47 ?l47 ?c47 ?k47 ?a48 ?l48 ?c48 ?k48 ?a49 ?l49 ?c49 ?k49 ?a50 ?l50 ?c50 ?k50 ?a51 ?l51 ?c51 ?k51 ?a52 ?l52 ?c52 ?k52 ?a53 ?l53 ?c53 ?k53 ?pg ?hd ?po ?sa ?nM ?nT ?ca ?cg ?ck ?co ?mk ?kc ?mp ?mt ?x_ie_FlowError ?x_ie_BadTie ?x_ie_BadFlow ?x_ie_BadRest ?x_ie_BadSet ?x_mr_BadSet ?x_ga_BadSet ?x_gn_BadSet ?x_cl_BadSet ?x_co_BadSet ?x_cb_BadSet ?x_is_BadSet ?x_k_BadSet_BadWeb ?x_k_BadSet_TooMany ?x_k_BadSet_BadPlace ?x_k_BadSet_BadTie ?x_k_BadSet_BadFlow ?x_k_BadSet_BadRest ?x_k_BadSet_NoFlow ?x_k_BadSet_BadSet ?x_k_BadSet_BadPaper ?x_k_BadSet_BadText ?x_k_BadSet_BadDeed ?x_kf_BadSet ?x_kv_BadSet ?z0 ?z1 ?z2 ?z3 ?z4 ?z5 ?z6 ?z7 ?z8 ?z9 ?z10 ?z11 ?z12 ?z13 ?z14 ?z15 ?z16 ?z17
    (case aCFlowError=>k_is)
    (case aCBadWeb=>k_is)
    (case aCTooMany=>k_is)
    (case aCBadPlace=>k_is)
    (case aCBadTie=>k_is)
    (case aCBadFlow=>k_is)
    (case aCBadRest=>k_is)
    (case aCNoFlow=>k_is)
    (case aCBadSet=>k_is)
    (case aCBadPaper=>k_is)
    (case aCBadText=>k_is)
    (case aCBadDeed=>k_is)
    (case aCWeb=>k_is)
    (case a1=>k_is)
    (case i1=>k_is)
    (case l1=>k_is)
    (case c1=>k_is)
    (case k1=>k_is)
    (case a2=>k_is)
    (case l2=>k_is)
    (case c2=>k_is)
    (case k2=>k_is)
    (case a3=>k_is)
    (case l3=>k_is)
    (case c3=>k_is)
    (case k3=>k_is)
    (case a4=>k_is)
    (case l4=>k_is)
    (case c4=>k_is)
    (case k4=>k_is)
    (case a5=>k_is)
    (case l5=>k_is)
    (case c5=>k_is)
    (case k5=>k_is)
    (case a6=>k_is)
    (case l6=>k_is)
    (case c6=>k_is)
    (case k6=>k_is)
    (case a7=>k_is)
    (case l7=>k_is)
    (case c7=>k_is)
    (case k7=>k_is)
    (case a8=>k_is)
    (case l8=>k_is)
    (case c8=>k_is)
    (case k8=>k_is)
    (case a9=>k_is)
    (case l9=>k_is)
    (case c9=>k_is)
    (case k9=>k_is)
    (case a10=>k_is)
    (case l10=>k_is)
    (case c10=>k_is)
    (case k10=>k_is)
    (case a11=>k_is)
    (case l11=>k_is)
    (case c11=>k_is)
    (case k11=>k_is)
    (case a12=>k_is)
    (case l12=>k_is)
    (case c12=>k_is)
    (case k12=>k_is)
    (case a13=>k_is)
    (case l13=>k_is)
    (case c13=>k_is)
    (case k13=>k_is)
    (case a14=>k_is)
    (case l14=>k_is)
    (case c14=>k_is)
    (case k14=>k_is)
    (case a15=>k_is)
    (case l15=>k_is)
    (case c15=>k_is)
    (case k15=>k_is)
    (case a16=>k_is)
    (case l16=>k_is)
    (case c16=>k_is)
    (case k16=>k_is)
    (case a17=>k_is)
    (case l17=>k_is)
    (case c17=>k_is)
    (case k17=>k_is)
    (case a18=>k_is)
    (case l18=>k_is)
    (case c18=>k_is)
    (case k18=>k_is)
    (case a19=>k_is)
    (case l19=>k_is)
    (case c19=>k_is)
    (case k19=>k_is)
    (case a20=>k_is)
    (case l20=>k_is)
    (case c20=>k_is)
    (case k20=>k_is)
    (case a21=>k_is)
    (case l21=>k_is)
    (case c21=>k_is)
    (case k21=>k_is)
    (case a22=>k_is)
    (case l22=>k_is)
    (case c22=>k_is)
    (case k22=>k_is)
    (case a23=>k_is)
    (case l23=>k_is)
    (case c23=>k_is)
    (case k23=>k_is)
    (case a24=>k_is)
    (case l24=>k_is)
    (case c24=>k_is)
    (case k24=>k_is)
    (case a25=>k_is)
    (case l25=>k_is)
    (case c25=>k_is)
    (case k25=>k_is)
    (case a26=>k_is)
    (case l26=>k_is)
    (case c26=>k_is)
    (case k26=>k_is)
    (case a27=>k_is)
    (case l27=>k_is)
    (case c27=>k_is)
    (case k27=>k_is)
    (case a28=>k_is)
    (case l28=>k_is)
    (case c28=>k_is)
    (case k28=>k_is)
    (case a29=>k_is)
    (case l29=>k_is)
    (case c29=>k_is)
    (case k29=>k_is)
    (case a30=>k_is)
    (case l30=>k_is)
    (case c30=>k_is)
    (case k30=>k_is)
    (case a31=>k_is)
    (case l31=>k_is)
    (case c31=>k_is)
    (case k31=>k_is)
    (case a32=>k_is)
    (case l32=>k_is)
    (case c32=>k_is)
    (case k32=>k_is)
    (case a33=>k_is)
    (case l33=>k_is)
    (case c33=>k_is)
    (case k33=>k_is)
    (case a34=>k_is)
    (case l34=>k_is)
    (case c34=>k_is)
    (case k34=>k_is)
    (case a35=>k_is)
    (case l35=>k_is)
    (case c35=>k_is)
    (case k35=>k_is)
    (case a36=>k_is)
    (case l36=>k_is)
    (case c36=>k_is)
    (case k36=>k_is)
    (case a37=>k_is)
    (case l37=>k_is)
    (case c37=>k_is)
    (case k37=>k_is)
    (case a38=>k_is)
    (case l38=>k_is)
    (case c38=>k_is)
    (case k38=>k_is)
    (case a39=>k_is)
    (case l39=>k_is)
    (case c39=>k_is)
    (case k39=>k_is)
    (case a40=>k_is)
    (case l40=>k_is)
    (case c40=>k_is)
    (case k40=>k_is)
    (case a41=>k_is)
    (case l41=>k_is)
    (case c41=>k_is)
    (case k41=>k_is)
    (case a42=>k_is)
    (case l42=>k_is)
    (case c42=>k_is)
    (case k42=>k_is)
    (case a43=>k_is)
    (case l43=>k_is)
    (case c43=>k_is)
    (case k43=>k_is)
    (case a44=>k_is)
    (case l44=>k_is)
    (case c44=>k_is)
    (case k44=>k_is)
    (case a45=>k_is)
    (case l45=>k_is)
    (case c45=>k_is)
    (case k45=>k_is)
    (case a46=>k_is)
    (case l46=>k_is)
    (case c46=>k_is)
    (case k46=>k_is)
    (case a47=>k_is)
    (case l47=>k_is)
    (case c47=>k_is)
    (case k47=>k_is)
    (case a48=>k_is)
    (case l48=>k_is)
    (case c48=>k_is)
    (case k48=>k_is)
    (case a49=>k_is)
    (case l49=>k_is)
    (case c49=>k_is)
    (case k49=>k_is)
    (case a50=>k_is)
    (case l50=>k_is)
    (case c50=>k_is)
    (case k50=>k_is)
    (case a51=>k_is)
    (case l51=>k_is)
    (case c51=>k_is)
    (case k51=>k_is)
    (case a52=>k_is)
    (case l52=>k_is)
    (case c52=>k_is)
    (case k52=>k_is)
    (case a53=>k_is)
    (case l53=>k_is)
    (case c53=>k_is)
    (case k53=>k_is)
    (case pg=>k_is)
    (case hd=>k_is)
    (case po=>k_is)
    (case sa=>k_is)
    (case nM=>k_is)
    (case nT=>k_is)
    (case ca=>k_is)
    (case cg=>k_is)
    (case ck=>k_is)
    (case co=>k_is)
    (case mk=>k_is)
    (case kc=>k_is)
    (case mp=>k_is)
    (case mt=>k_is)
    (case x_ie_FlowError=>k_exc)
    (case x_ie_BadTie=>k_exc)
    (case x_ie_BadFlow=>k_exc)
    (case x_ie_BadRest=>k_exc)
    (case x_ie_BadSet=>k_exc)
    (case x_mr_BadSet=>k_is)
    (case x_ga_BadSet=>k_is)
    (case x_gn_BadSet=>k_is)
    (case x_cl_BadSet=>k_is)
    (case x_co_BadSet=>k_is)
    (case x_cb_BadSet=>k_is)
    (case x_is_BadSet=>k_is)
    (case x_k_BadSet_BadWeb=>kit_is)
    (case x_k_BadSet_TooMany=>kit_is)
    (case x_k_BadSet_BadPlace=>kit_is)
    (case x_k_BadSet_BadTie=>kit_is)
    (case x_k_BadSet_BadFlow=>kit_is)
    (case x_k_BadSet_BadRest=>kit_is)
    (case x_k_BadSet_NoFlow=>kit_is)
    (case x_k_BadSet_BadSet=>kit_is)
    (case x_k_BadSet_BadPaper=>kit_is)
    (case x_k_BadSet_BadText=>kit_is)
    (case x_k_BadSet_BadDeed=>kit_is)
    (case x_kf_BadSet=>kit_is)
    (case x_kv_BadSet=>kit_is)
    (case z0=>k_is)
    (case z1=>k_is)
    (case z2=>k_is)
    (case z3=>k_is)
    (case z4=>k_is)
    (case z5=>k_is)
    (case z6=>k_is)
    (case z7=>k_is)
    (case z8=>k_is)
    (case z9=>k_is)
    (case z10=>k_is)
    (case z11=>k_is)
    (case z12=>k_is)
    (case z13=>k_is)
    (case z14=>k_is)
    (case z15=>k_is)
    (case z16=>k_is)
    (case z17=>k_is)
