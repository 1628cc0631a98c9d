import PyProof.Rows.All
import Wide.All
import OpenK.AllK
import Wide.FinOn
import Lean
import PyProof.EqAt
import PyProof.EqKinds
import PyProof.TupleCall
import KE.KRevIter
import KE.KDictList
import KE.KDictLaws
import PyProof.MinMaxWalk
import PyProof.WalkInts
import PySem.Challenge.RW_busyweb_k40_whole_within_four
set_option Elab.async false
set_option linter.all false
set_option maxRecDepth 100000
set_option maxHeartbeats 16000000
open Bool renaming false_ne_true → aV, and_eq_true → cC, eq_iff_iff → cS, false_and → cZ, false_eq_true → dg, eq_false_iff → du, true_and → dw, and_false → dJ, not_false → dQ, not_true → ek, and_true → eC, not_eq_true' → eU, and_self → fE
open Int renaming toNat_natCast → aY, emod_lt_of_pos → br, emod_nonneg → bH, mul_zero → cV, mul_nonneg → eG, one_mul → ff, mul_add → fT, zero_add → fX, neg_mul → gf, le_refl → gS
open List renaming length_map → aa, getD_eq_getElem?_getD → ae, getElem?_eq_getElem → aj, mem_singleton → ak, replicate → au, map_append → aw, length_append → ay, length_take → aC, mem_append_right → aG, mem_append_left → aI, mem_append → aM, mem_cons_of_mem → aO, mem_cons_self → aP, size_toArray → aT, mem_cons → aU, getElem?_map → a_, map_cons → bf, length_replicate → bh, mem_of_getElem? → bj, take_of_length_le → bq, length_cons → bA, append_nil → bB, take_length → bD, mem_map → bE, mem_filter → bG, range → bI, mem_range → bM, zipWith → bO, length_filter_le → bP, filter_cons_of_pos → bT, filter_cons_of_neg → bU, filter_append → bV, length_range → bW, nodup_iff_pairwise_ne → b_, mem_iff_getElem → cf, getElem_mem → cj, length_set → cx, getElem?_replicate → cy, getElem?_eq_some_iff → cE, getElem?_append_left → cG, length_drop → cM, any_eq_true → cN, lookup_cons → cQ, sum_cons → cW, all_eq_true → cY, mem_take_iff_getElem → di, replicate_succ → dj, pairwise_map → dq, nodup_cons → dv, getElem?_set_ne → dB, not_mem_nil → dC, all_cons → dN, map_congr_left → dW, length_zipWith → dX, ext_getElem → ef, append_assoc → eR, map_take → fb, any_cons → fc, range_succ → fu, map_nil → fw, find?_cons → fC, map_drop → fZ, lookup → gd
open Nat renaming le_of_lt → aL, le_refl → aN, lt_of_lt_of_le → bp, ne_of_lt → bz, le_trans → cu, not_lt_zero → cw, lt_succ_self → cA, lt_irrefl → cL, zero_le → dU, min_self → eY, succ_pos → fW, ne_of_gt → gq, le_of_eq → gr, le_succ → gR
open PyProof.Rows renaming boot_isinstance → aZ, callWith_type1 → cq, boot_list → cJ, boot_sorted → dm, boot_any → dM
open PySem renaming boot_len → aX, mem_of_lookup → dF
open PySem.Heap renaming get?_push_of_some → ao, get?_update_of_ne → aA, lt_size → aW, get?_push_size → bo, get?_update_self → bC, size_after_update → cK, size_push → cU, get?_push_at → dG, SameBut → gw
open PySem.W renaming Frag → ai, nsIn → aD, mg_of → aF, keepIn → aH, codeIn → aK, fnOf → aQ, kitOne → bu, mg_none_of → bL, findIn → cB, kia_one → cP, emptyDict → dk, mroIn → dH, instObj → dS, excIn → fD
namespace L2
open PySem PySem.Spec PyProof.Rows
abbrev Key:=Sum Int Str
def pb:Key→Value→Bool
 | .inl k,v=>Value.isInt k v
 | .inr x,v=>Value.isStrOf x v
def CO (w:World):Key→Int
 | .inl k=>hashInt k
 | .inr x=>hashStr w x
theorem e_:∀{k:Key} {v:Value},pb k v=true→(∃i t,k=Sum.inl i∧v=Value.int i t)∨(∃x t,k=Sum.inr x∧v=Value.str x t)
 | .inl i,v,h=>by
  obtain ⟨t,e⟩:=Value.isInt_shape (k:=i) (v:=v) h
  exact .inl ⟨i,t,rfl,e⟩
 | .inr x,v,h=>by
  obtain ⟨t,e⟩:=Value.isStrOf_shape (x:=x) (v:=v) h
  exact .inr ⟨x,t,rfl,e⟩
theorem qO (i:Int) (t:Tok):pb (.inl i) (.int i t)=true:=by simp [pb,Value.isInt]
theorem qN (x:Str) (t:Tok):pb (.inr x) (.str x t)=true:=by simp [pb,Value.isStrOf]
theorem xM (a b:Int):decide ((Sum.inl a:Key)=Sum.inl b)=(a==b):=by
 by_cases e:a=b
 ·subst e;simp
 ·have h:¬(Sum.inl a:Key)=Sum.inl b:=fun q=>e (Sum.inl.inj q)
  rw [decide_eq_false h]
  exact (beq_eq_false_iff_ne.mpr e).symm
theorem xI (a b:Str):decide ((Sum.inr a:Key)=Sum.inr b)=decide (a=b):=by
 by_cases e:a=b
 ·subst e;simp
 ·have h:¬(Sum.inr a:Key)=Sum.inr b:=fun q=>e (Sum.inr.inj q)
  rw [decide_eq_false h,decide_eq_false e]
theorem xK (a:Int) (b:Str):decide ((Sum.inl a:Key)=Sum.inr b)=false:=decide_eq_false (fun q=>nomatch q)
theorem xJ (a:Str) (b:Int):decide ((Sum.inr a:Key)=Sum.inl b)=false:=decide_eq_false (fun q=>nomatch q)
def dZ (prog:Program) (w:World):PySem.KeyKind prog w Key where
 is:=pb
 hash:=CO w
 inj:=fun v a b ha hb=>by
  rcases e_ ha with ⟨i,t,rfl,rfl⟩ | ⟨x,t,rfl,rfl⟩
  ·rcases e_ hb with ⟨j,u,rfl,e⟩ | ⟨y,u,rfl,e⟩
   ·injection e with e1 _;rw [e1]
   ·exact nomatch e
  ·rcases e_ hb with ⟨j,u,rfl,e⟩ | ⟨y,u,rfl,e⟩
   ·exact nomatch e
   ·injection e with e1 _;rw [e1]
 byValue:=fun k v h=>by
  rcases e_ h with ⟨i,t,rfl,rfl⟩ | ⟨x,t,rfl,rfl⟩<;>rfl
 pyHash:=fun hv h=>by
  rcases e_ hv with ⟨i,t,rfl,rfl⟩ | ⟨x,t,rfl,rfl⟩
  ·exact wpAny_pyHash_int h
  ·exact wpAny_pyHash_str h
 eqBool:=fun hu hv h=>by
  rcases e_ hu with ⟨i,t,rfl,rfl⟩ | ⟨x,t,rfl,rfl⟩
  ·rcases e_ hv with ⟨j,u,rfl,rfl⟩ | ⟨y,u,rfl,rfl⟩
   ·rw [xM] at h;exact wpAny_eqBool_int h
   ·rw [xK] at h;exact SeqAt.EqAt.int_str i t y u _ _ _ _ h
  ·rcases e_ hv with ⟨j,u,rfl,rfl⟩ | ⟨y,u,rfl,rfl⟩
   ·rw [xJ] at h;exact SeqAt.EqAt.str_int x t j u _ _ _ _ h
   ·rw [xI] at h;exact wpAny_eqBool_str h
 «strs»:=fun k x t v h=>by
  rcases e_ h with ⟨i,u,rfl,e⟩ | ⟨y,u,rfl,e⟩
  ·exact nomatch e
  ·injection e with e1 _
   subst e1
   cases v<;>rfl
theorem nj (prog:Program) (w:World) (i:Int) (t:Tok):(dZ prog w).is (.inl i) (.int i t)=true:=qO i t
theorem ni (prog:Program) (w:World) (x:Str) (t:Tok):(dZ prog w).is (.inr x) (.str x t)=true:=qN x t
end L2
namespace L2
open PySem PySem.Spec PyProof.Rows
inductive V where
 | non | bl (b:Bool) | int (i:Int) | str (x:Str) | byt (b:Array UInt8) | flt (b:UInt64) | ref (a:Addr) | ty (n:String)
 deriving DecidableEq
def RelV:V→Value→Prop
 | .non,u=>u=Value.none
 | .bl b,u=>u=Value.bool b
 | .int i,u=>∃t,u=Value.int i t
 | .str x,u=>∃t,u=Value.str x t
 | .byt b,u=>∃t,u=Value.bytes b t
 | .flt b,u=>∃t,u=Value.float b t
 | .ref a,u=>u=Value.ref a
 | .ty n,u=>u=Value.type n
abbrev Vals:List V→List Value→Prop:=Paired RelV
theorem Vals.length {xs:List V} {us:List Value} (r:Vals xs us):xs.length=us.length:=Paired.length r
theorem Vals.get:∀{xs:List V} {us:List Value} {i:Nat} {x:V},Vals xs us→xs[i]?=some x→∃u,us[i]?=some u∧RelV x u
 | _,_,_,_,.nil,e=>by simp at e
 | _,_,0,_,.cons r _,e=>by simp at e;subst e;exact ⟨_,rfl,r⟩
 | _,_,i+1,x,.cons _ t,e=>by
  obtain ⟨u,h1,h2⟩:=Vals.get (i:=i) (x:=x) t (by simpa using e)
  exact ⟨u,by simpa using h1,h2⟩
theorem Vals.set {x:V} {u:Value} (r:RelV x u):∀{xs:List V} {us:List Value} (i:Nat),Vals xs us→Vals (xs.set i x) (us.set i u)
 | _,_,_,.nil=>.nil
 | _,_,0,.cons _ t=>.cons r t
 | _,_,i+1,.cons q t=>.cons q (Vals.set r i t)
theorem Vals.append:∀{xs ys:List V} {us ws:List Value},Vals xs us→Vals ys ws→Vals (xs++ys) (us++ws)
 | _,_,_,_,.nil,s=>s
 | _,_,_,_,.cons r t,s=>.cons r (Vals.append t s)
theorem Vals.take:∀{xs:List V} {us:List Value} (n:Nat),Vals xs us→Vals (xs.take n) (us.take n)
 | _,_,0,_=>.nil
 | _,_,_+1,.nil=>.nil
 | _,_,n+1,.cons r t=>.cons r (Vals.take n t)
theorem Vals.drop:∀{xs:List V} {us:List Value} (n:Nat),Vals xs us→Vals (xs.drop n) (us.drop n)
 | _,_,0,r=>r
 | _,_,_+1,.nil=>.nil
 | _,_,n+1,.cons _ t=>Vals.drop n t
def nR:Option V→Option Value→Prop
 | some v,some u=>RelV v u
 | none,none=>True
 | _,_=>False
def KV {κ:Type}:List (κ×V)→List (κ×Value)→Prop:=Paired fun (p:κ×V) (q:κ×Value)=>p.1=q.1∧RelV p.2 q.2
def kV:Key→V
 | .inl i=>.int i
 | .inr x=>.str x
inductive HO where
 | lst (xs:List V)
 | tup (xs:List V)
 | dK (kvs:List (Key×V)) | dT (kvs:List (List Key×V))
 | set (S:Int→Bool) (n:Nat)
 | ins (C dx:Addr) (fs:List (Str×V))
 | own (x:Addr)
 | xd (fs:List (Str×V))
 | met (f x:Addr)
 | rng (lo hi:Int)
 | frz (o:Obj) (u:HO)
 | tbl (ps:Array Value)
 | ext (φ:Heap→Prop)
abbrev Hp:=Addr→Option HO
def upd (H:Hp) (a:Addr) (o:HO):Hp:=fun b=>if b=a then some o else H b
theorem aq {H:Hp} {a:Addr} {o:HO}:upd H a o a=some o:=by unfold upd;rw [if_pos rfl]
theorem bS {H:Hp} {a b:Addr} {o:HO} (h:b≠a):upd H a o b=H b:=by unfold upd;rw [if_neg h]
theorem iK {H:Hp} {a b:Addr} {o u:HO} (h:H a=some o) (h':H b=some u) (d:o≠u):a≠b:=by
 intro e;subst e;rw [h] at h';exact d (Option.some.inj h')
theorem bw {H:Hp} {a b:Addr} {o:HO} (h:H a=some o) (h':H b=none):a≠b:=by
 intro e;subst e;rw [h] at h';cases h'
section
variable (P:Program) (w:World)
def fN (H:Hp) (h:Heap) (a:Addr):HO→Prop
 | .lst xs=>xs.length≤sizeLine∧∃(its:List Value) (n:Nat),Vals xs its∧h.get? a=some {cls:=.type "list",data:=.seq its.toArray n}
 | .tup xs=>xs.length≤sizeLine∧∃its:List Value,Vals xs its∧IsTup h a its.toArray
 | .dK kvs=>kvs.length≤sizeLine∧(a==sysModules)=false∧∃vs,KV kvs vs∧h.DictOf (dZ P w) a vs
 | .dT kvs=>kvs.length≤sizeLine∧(a==sysModules)=false∧∃xs:List (List Key×Addr×Value),
   Paired (fun (p:List Key×V) (q:List Key×Addr×Value)=>p.1=q.1∧H q.2.1=some (.tup (p.1.map kV))∧RelV p.2 q.2.2) kvs xs ∧
   ∃o es ep,h.get? a=some o∧o.ExactDict∧o.data=.dict es ep∧es.toList=xs.map (entryOfKey (tupleKind (dZ P w)))∧(xs.map (·.1)).Nodup
 | .set S n=>h.SetOf (intKind P w) a S n
 | .ins C dx fs=>H dx=some (.own a)∧fs.length≤1000∧dx≠a∧h.get? a=some (dS C dx) ∧
   ∃mA,h.Ns1 dx mA∧(∀f,nR (fs.lookup f) (mA f))∧PySem.Within mA (fs.map (·.1))
 | .own _=>∃o,h.get? a=some o
 | .xd fs=>∃mA,h.Ns1 a mA∧∀f,nR (fs.lookup f) (mA f)
 | .rng lo hi=>∃t u v,h.get? a=some {cls:=.type "range",data:=.fields #[.int lo t,.int hi u,.int 1 v]}
 | .frz o u=>h.get? a=some o∧fN H h a u
 | .tbl ps=>h.get? a=some {cls:=.none,data:=.fields ps}
 | .met f x=>h.get? a=some (PySem.W.methodObj (.ref f) (.ref x))
 | .ext φ=>φ h∧(∃o,h.get? a=some o)∧∀h1 h2:Heap,φ h1→(∀o,h1.get? a=some o→h2.get? a=some o)→φ h2
def HOk (H:Hp) (h:Heap):Prop:=∀a o,H a=some o→fN P w H h a o
end
section
variable {P:Program} {w:World} {H H':Hp} {h h':Heap} {a:Addr} {o:HO}
theorem fN.lt (x:fN P w H h a o):a<h.objs.size:=by
 cases o with
 | lst xs=>obtain ⟨_,_,_,_,e⟩:=x;exact aW e
 | tup xs=>obtain ⟨_,_,_,p⟩:=x;exact p.lt
 | dK kvs=>obtain ⟨_,_,_,_,o,_,_,e,_⟩:=x;exact aW e
 | dT kvs=>obtain ⟨_,_,_,_,o,_,_,e,_⟩:=x;exact aW e
 | set S n=>obtain ⟨o,_,_,_,e,_⟩:=x;exact aW e
 | ins C dx fs=>obtain ⟨_,_,_,e,_⟩:=x;exact aW e
 | own y=>obtain ⟨_,e⟩:=x;exact aW e
 | xd fs=>obtain ⟨_,⟨_,_,_,e,_⟩,_⟩:=x;exact aW e
 | rng lo hi=>obtain ⟨_,_,_,e⟩:=x;exact aW e
 | frz ob u=>obtain ⟨e,_⟩:=x;exact aW e
 | tbl ps=>exact aW (show h.get? a=some _ from x)
 | met f y=>exact aW (show h.get? a=some _ from x)
 | ext φ=>obtain ⟨_,⟨_,e⟩,_⟩:=x;exact aW e
theorem Paired.uL {α β:Type} {F G:α→β→Prop}:∀{l₁:List α} {l₂:List β},Paired F l₁ l₂→(∀a b,F a b→G a b)→Paired G l₁ l₂
 | _,_,.nil,_=>.nil
 | _,_,.cons r t,f=>.cons (f _ _ r) (Paired.uL t f)
theorem fN.p_ (x:fN P w H h a o) (k:∀b u,(b=a∨H b=some (.own a))→h.get? b=some u→h'.get? b=some u)
  (ho:∀b,H b=some (.own a)→H' b=some (.own a)) (ht:∀b xs,H b=some (.tup xs)→H' b=some (.tup xs)):fN P w H' h' a o:=by
 induction o with
 | lst xs=>obtain ⟨z,its,n,r,e⟩:=x;exact ⟨z,its,n,r,k _ _ (.inl rfl) e⟩
 | tup xs=>obtain ⟨z,its,r,ob,e,c⟩:=x;exact ⟨z,its,r,ob,k _ _ (.inl rfl) e,c⟩
 | dK kvs=>obtain ⟨z,y,vs,r,ob,es,ep,e,c⟩:=x;exact ⟨z,y,vs,r,ob,es,ep,k _ _ (.inl rfl) e,c⟩
 | dT kvs =>
  obtain ⟨z,y,xs,r,ob,es,ep,e,c⟩:=x
  exact ⟨z,y,xs,Paired.uL r fun p q z=>⟨z.1,ht _ _ z.2.1,z.2.2⟩,ob,es,ep,k _ _ (.inl rfl) e,c⟩
 | set S n=>obtain ⟨ob,es,ep,t,e,c⟩:=x;exact ⟨ob,es,ep,t,k _ _ (.inl rfl) e,c⟩
 | ins C dx fs =>
  obtain ⟨d,z,ne,e,mA,⟨od,es,ep,e2,c⟩,r⟩:=x
  exact ⟨ho _ d,z,ne,k _ _ (.inl rfl) e,mA,⟨od,es,ep,k _ _ (.inr d) e2,c⟩,r⟩
 | own y=>obtain ⟨ob,e⟩:=x;exact ⟨ob,k _ _ (.inl rfl) e⟩
 | xd fs=>obtain ⟨mA,⟨od,es,ep,e,c⟩,r⟩:=x;exact ⟨mA,⟨od,es,ep,k _ _ (.inl rfl) e,c⟩,r⟩
 | rng lo hi=>obtain ⟨t,u,v,e⟩:=x;exact ⟨t,u,v,k _ _ (.inl rfl) e⟩
 | frz ob u ih=>obtain ⟨e,q⟩:=x;exact ⟨k _ _ (.inl rfl) e,ih q⟩
 | tbl ps =>
  have e:h.get? a=some {cls:=.none,data:=.fields ps}:=x
  show h'.get? a=some {cls:=.none,data:=.fields ps}
  exact k a _ (.inl rfl) e
 | met f y =>
  have e:h.get? a=some (PySem.W.methodObj (.ref f) (.ref y)):=x
  show h'.get? a=some (PySem.W.methodObj (.ref f) (.ref y))
  exact k a _ (.inl rfl) e
 | ext φ=>obtain ⟨p,⟨o,e⟩,st⟩:=x;exact ⟨st _ _ p fun o q=>k _ _ (.inl rfl) q,⟨o,k _ _ (.inl rfl) e⟩,st⟩
theorem HOk.lt (x:HOk P w H h) (e:H a=some o):a<h.objs.size:=(x a o e).lt
theorem HOk.fresh (x:HOk P w H h) (e:h.objs.size≤a):H a=none:=by
 cases q:H a with
 | none=>rfl
 | some u=>exact absurd (bp (x.lt q) e) (cL _)
theorem HOk.kept (x:HOk P w H h) (k:∀b u,h.get? b=some u→h'.get? b=some u):HOk P w H h':=fun a o e =>
 (x a o e).p_ (fun b u _ q=>k b u q) (fun _ q=>q) fun _ _ q=>q
theorem HOk.laid (x:HOk P w H h) (k:∀b u,h.get? b=some u→h'.get? b=some u) (hp:h.objs.size≤a) (new:fN P w (upd H a o) h' a o):HOk P w (upd H a o) h':=fun b u e=>by
 have hn:=x.fresh hp
 by_cases hb:b=a
 ·subst hb;rw [aq] at e;cases e;exact new
 ·rw [bS hb] at e
  exact (x b u e).p_ (fun c v _ q=>k c v q) (fun c q=>by rw [bS (bw q hn)];exact q) fun c xs q=>by rw [bS (bw q hn)];exact q
end
def Rd (H:Hp) (a:Addr) (u:HO):Prop:=H a=some u∨∃o,H a=some (.frz o u)
theorem Rd.ok {P:Program} {w:World} {H:Hp} {h:Heap} {a:Addr} {u:HO} (r:Rd H a u) (x:HOk P w H h):fN P w H h a u:=by
 rcases r with r | ⟨o,r⟩
 ·exact x a u r
 ·obtain ⟨_,q⟩:=x a _ r
  exact q
def Mut:Option HO→Prop
 | some (.lst _)=>True
 | some (.dK _)=>True
 | some (.dT _)=>True
 | some (.set _ _)=>True
 | some (.ins _ _ _)=>True
 | some (.ext _)=>True
 | _=>False
section
variable {P:Program} {w:World} {H:Hp} {h h':Heap} {x e:Addr} {o':HO}
theorem HOk.write (ok:HOk P w H h) (mu:Mut (H x)) (he:e=x∨H e=some (.own x)) (k:∀b u,b≠e→h.get? b=some u→h'.get? b=some u) (heo:∃u,h'.get? e=some u)
  (new:fN P w (upd H x o') h' x o'):HOk P w (upd H x o') h':=fun b u q=>by
 have nown:∀c y,H c=some (.own y)→c≠x:=fun c y r z=>by subst z;rw [r] at mu;exact mu
 have ntup:∀c xs,H c=some (.tup xs)→c≠x:=fun c xs r z=>by subst z;rw [r] at mu;exact mu
 by_cases hb:b=x
 ·subst hb;rw [aq] at q;cases q;exact new
 ·rw [bS hb] at q
  by_cases hbe:b=e
  ·have q':H b=some (.own x):=by
    rcases he with z | z
    ·exact absurd (hbe.trans z) hb
    ·rw [hbe];exact z
   rw [q] at q';cases q'
   obtain ⟨v,hv⟩:=heo
   exact ⟨v,by rw [hbe];exact hv⟩
  ·refine (ok b u q).p_ (fun c v hc r=>k c v ?_ r) (fun c r=>by rw [bS (nown c b r)];exact r) fun c xs r=>by rw [bS (ntup c xs r)];exact r
   rcases hc with rfl | hc
   ·exact hbe
   ·rintro rfl
    rcases he with z | z
    ·exact nown c b hc z
    ·rw [hc] at z;cases z;exact hb rfl
end
structure Un (fs ex:List Addr) (H H':Hp) (h h':Heap):Prop where
 keep:∀b o,h.get? b=some o→H b=none→b∉fs→b∉ex→h'.get? b=some o
 slot:∀b o,h.get? b=some o→H b=none→b∈fs→b∉ex→∃sl,h'.get? b=some {o with slots:=sl}
 free:∀b o,h.get? b=some o→H b=none→b∉ex→H' b=none
 there:∀b o,h.get? b=some o→b∉ex→∃o',h'.get? b=some o'
 tups:∀b xs,H b=some (.tup xs)→H' b=some (.tup xs)
 frzs:∀b o u,H b=some (.frz o u)→H' b=some (.frz o u)
 tbls:∀b ps,H b=some (.tbl ps)→∃more,H' b=some (.tbl (ps++more))
section
variable {fs fs' ex ex':List Addr} {H H1 H2:Hp} {h h1 h2 h':Heap} {a x e:Addr} {o:HO}
theorem Un.any (u:Un fs ex H H1 h h1) {b:Addr} {ob:Obj} (q:h.get? b=some ob) (n:H b=none) (hx:b∉ex):∃sl,h1.get? b=some {ob with slots:=sl}:=by
 by_cases hb:b∈fs
 ·exact u.slot b ob q n hb hx
 ·exact ⟨ob.slots,u.keep b ob q n hb hx⟩
theorem Un.kept (k:∀b u,h.get? b=some u→h'.get? b=some u):Un fs ex H H h h' :=
 ⟨fun b ob q _ _ _=>k b ob q,fun b ob q _ _ _=>⟨ob.slots,k b ob q⟩,fun _ _ _ n _=>n,fun b ob q _=>⟨ob,k b ob q⟩,fun _ _ q=>q,fun _ _ _ q=>q,fun _ ps q=>⟨#[],by rw [q];simp⟩⟩
theorem Un.refl:Un fs ex H H h h:=Un.kept fun _ _ q=>q
theorem Un.laid (k:∀b u,h.get? b=some u→h'.get? b=some u) (hp:h.objs.size≤a) (hn:H a=none):Un fs ex H (upd H a o) h h' where
 keep:=fun b u q _ _ _=>k b u q
 slot:=fun b u q _ _ _=>⟨u.slots,k b u q⟩
 free:=fun b u q n _=>by rw [bS (bz (bp (aW q) hp))];exact n
 there:=fun b u q _=>⟨u,k b u q⟩
 tups:=fun b xs q=>by rw [bS (bw q hn)];exact q
 frzs:=fun b u xs q=>by rw [bS (bw q hn)];exact q
 tbls:=fun b ps q=>⟨#[],by rw [bS (bw q hn),q];simp⟩
theorem Un.write (mu:Mut (H x)) (he:e=x∨H e=some (.own x)) (k:∀b u,b≠e→h.get? b=some u→h'.get? b=some u) (heo:∃u,h'.get? e=some u):Un fs ex H (upd H x o) h h':=by
 have hx:∀b,H b=none→b≠x:=fun b n z=>by subst z;rw [n] at mu;exact mu
 have hb:∀b,H b=none→b≠e:=fun b n z=>by
  subst z
  rcases he with r | r
  ·exact hx b n r
  ·rw [n] at r;cases r
 have hm:∀b u,H b=some u→¬Mut (some u)→b≠x:=fun b u q nm z=>by subst z;rw [q] at mu;exact nm mu
 refine ⟨fun b u q n _ _=>k b u (hb b n) q,fun b u q n _ _=>⟨u.slots,k b u (hb b n) q⟩,fun b u q n _=>by rw [bS (hx b n)];exact n,fun b u q _=>?_,
  fun b xs q=>by rw [bS (hm b _ q fun z=>z)];exact q,fun b u xs q=>by rw [bS (hm b _ q fun z=>z)];exact q,fun b ps q=>⟨#[],by rw [bS (hm b _ q fun z=>z),q];simp⟩⟩
 by_cases hbe:b=e
 ·subst hbe;exact heo
 ·exact ⟨u,k b u hbe q⟩
end
def trk (h:Heap) (H:Hp):List Addr:=(bI h.objs.size).filter fun a=>(H a).isSome
def qU (h:Heap) (H:Hp):Heap:=PySem.W.hideAll h (trk h H)
theorem qT (h:Heap) (H:Hp):(qU h H).objs.size=h.objs.size:=PySem.W.hideAll_size _ _
theorem t_ {h:Heap} {H:Hp} {b:Addr} {o:Obj} (e:h.get? b=some o) (n:H b=none):(qU h H).get? b=some o :=
 PySem.W.hideAll_get _ e fun hm=>by
  have q:(H b).isSome=true:=(bG.mp hm).2
  rw [n] at q;simp at q
theorem vw {h:Heap} {H:Hp} {b:Addr} {o:Obj} (e:(qU h H).get? b=some o):h.get? b=some o∧H b=none:=by
 have e':h.get? b=some o:=PySem.W.of_hideAll (trk h H) e
 refine ⟨e',?_⟩
 cases q:H b with
 | none=>rfl
 | some x =>
  have hm:b∈trk h H:=bG.mpr ⟨bM.mpr (aW e'),by simp [q]⟩
  have z:(qU h H).get? b=none:=PySem.W.hideAll_none (trk h H) hm
  rw [z] at e;cases e
def vW (g h:Heap) (L:Addr):List (Addr×Obj):=(bI h.objs.size).filterMap fun a=>if a=L∨(g.get? a).isSome=true then none else (h.get? a).map fun o=>(a,o)
def rest (g h:Heap) (L d:Addr):List (Addr×Obj):=(vW g h L).filter fun p=>decide (p.1≠d)
end L2
namespace L2
open PySem PySem.Spec PyProof.Rows
structure Mod (K:ai) (mg:Str→Option Value) (base:Heap):Prop where
 kin:K.In base
 glob:base.Ns mainGlobals mg
 blt:∃mb,base.Ns builtinsNs mb∧∀x:Str,x≠"__name__"→mb x=bootBuiltins x
 nolimit:base.NoLimit
structure Cx where
 prog:Program
 w:World
 K:ai
 mg:Str→Option Value
 base:Heap
 A:Around
 N:List Str
 s₀:Shared
 H₀:Hp
 env:Env
 outer:List Env
 stack:List Env
 ex:List Addr
 fn:Str→Bool
 calm:Bool
 pn:List (Addr×Obj)
 xe:Value→Shared→Prop
def frs (l:List Env):List Addr:=l.filterMap (·.frame)
abbrev Cx.fs (X:Cx):List Addr:=frs X.outer
def Vis (sc:Scope) (x:Str):Prop:=sc.names.lookup x=some .local∨sc.names.lookup x=some .cell∨sc.names.lookup x=some .free
def Loc (sc:Scope) (x:Str):Prop:=sc.names.lookup x=some .local∨sc.names.lookup x=some .cell
def Look (env:Env) (h:Heap) (m:Str→Option Value) (x:Str) (u:Value):Prop :=
 (env.kindOf x=some .local∧m x=some u)∨((env.kindOf x=some .cell∨env.kindOf x=some .free)∧∃c,env.cells.lookup x=some c∧h.IsCell c (some u))
structure Cx.Ok (X:Cx):Prop where
 mod:Mod X.K X.mg X.base
 kind:X.env.scope.kind=.function
 glob:X.env.globals=mainGlobals
 blt:X.env.builtins=builtinsNs
 above:X.s₀.heap.objs.size≤X.env.locals
 inj:∀x y c,X.env.cells.lookup x=some c→X.env.cells.lookup y=some c→x=y
 has:∀x,(X.env.kindOf x=some .cell∨X.env.kindOf x=some .free)→∃c,X.env.cells.lookup x=some c
 cab:∀x c,X.fn x=true→X.env.cells.lookup x=some c→X.s₀.heap.objs.size≤c
 hd:X.calm=true→X.A.handled=none
 frames:X.A.frames=some X.stack
 stk:X.stack=X.outer∨(X.stack=X.env::X.outer∧X.env.frame=some X.env.locals)
 exf:∀b∈X.ex,b≠X.env.locals∧∀x c,X.env.cells.lookup x=some c→c≠b
 bs:∀b o,X.base.get? b=some o→X.s₀.heap.get? b=some o∧X.H₀ b=none
 bsz:X.base.objs.size≤X.s₀.heap.objs.size
 noex:∀b o,X.base.get? b=some o→b∉X.ex
 exfs:∀b∈X.ex,b∉X.fs
 lJ:X.s₀.heap.FunFrames X.base X.outer
 frf:∀b∈X.fs,X.H₀ b=none
structure Inv (X:Cx) (pins:List (Addr×Obj)) (σ:List (Option V)) (H:Hp) (s:Shared):Prop where
 ok:X.Ok
 os:s.os=X.s₀.os
 bare:AllBare s.gens
 base:Un X.fs X.ex X.H₀ H X.s₀.heap s.heap
 loc:∃m,s.heap.Ns X.env.locals m∧∀(i:Nat) (x:Str) (v:V),X.N[i]?=some x→σ[i]?=some (some v)→Vis X.env.scope x→∃u,RelV v u∧Look X.env s.heap m x u
 cell:∀x c,X.env.cells.lookup x=some c→∃v,s.heap.IsCell c v
 free:H X.env.locals=none
 freeC:∀x c,X.env.cells.lookup x=some c→H c=none
 pin:∀p∈X.pn++pins,s.heap.get? p.1=some p.2∧H p.1=none∧p.1≠X.env.locals∧p.1∉X.fs∧∀v,p.2.data≠.cell v
 hok:HOk X.prog X.w H s.heap
 len:σ.length=X.N.length
section
variable {X:Cx} {pins:List (Addr×Obj)} {σ:List (Option V)} {H H':Hp} {s:Shared} {h':Heap}
theorem Cx.Ok.CN (ok:X.Ok) {b:Addr} {o:Obj} (e:X.base.get? b=some o):b∉X.fs:=fun hb=>by
 have:=(ok.lJ.mem hb).1
 rw [e] at this;cases this
theorem Inv.bs (I:Inv X pins σ H s):∀b o,X.base.get? b=some o→s.heap.get? b=some o∧H b=none:=fun b o e =>
 ⟨I.base.keep b o (I.ok.bs b o e).1 (I.ok.bs b o e).2 (I.ok.CN e) (I.ok.noex b o e),I.base.free b o (I.ok.bs b o e).1 (I.ok.bs b o e).2 (I.ok.noex b o e)⟩
theorem Inv.bk (I:Inv X pins σ H s):∀b o,X.base.get? b=some o→s.heap.get? b=some o:=fun b o e=>(I.bs b o e).1
theorem Inv.mod (I:Inv X pins σ H s):Mod X.K X.mg X.base:=I.ok.mod
theorem Inv.kIn (I:Inv X pins σ H s):X.K.In s.heap:=I.ok.mod.kin.keeps I.bk
theorem Inv.lt (I:Inv X pins σ H s):X.env.locals<s.heap.objs.size:=let ⟨_,hn,_⟩:=I.loc;hn.lt
theorem Inv.sz (I:Inv X pins σ H s):X.s₀.heap.objs.size≤s.heap.objs.size:=cu I.ok.above (aL I.lt)
theorem Inv.AQ (I:Inv X pins σ H s) {a:Addr} (h:s.heap.objs.size≤a):a∉X.fs:=fun hb=>by
 obtain ⟨_,o,ho,_⟩:=I.ok.lJ.mem hb
 exact absurd (bp (aW ho) (cu I.sz h)) (cL _)
theorem Inv.cne (I:Inv X pins σ H s):∀x c,X.env.cells.lookup x=some c→c≠X.env.locals:=fun x c e z=>by
 obtain ⟨v,o,ho,hd⟩:=I.cell x c e
 obtain ⟨m,⟨o',es,ep,ho',hd',_⟩,_⟩:=I.loc
 rw [z,ho'] at ho;cases ho;rw [hd'] at hd;cases hd
theorem Inv.lJ (I:Inv X pins σ H s):s.heap.FunFrames X.base X.outer:=by
 have all:∀(l:List Env),(∀b∈frs l,b∈X.fs)→X.s₀.heap.FunFrames X.base l→s.heap.FunFrames X.base l:=by
  intro l
  induction l with
  | nil=>intro _ _;trivial
  | cons env r ih =>
   intro hs hl
   obtain ⟨hk,⟨L,o,hf,hn,ho,hd⟩,hr⟩:=hl
   have hL:L∈X.fs:=hs L (by unfold frs;rw [List.filterMap_cons,hf];exact aP)
   obtain ⟨sl,e⟩:=I.base.slot L o ho (I.ok.frf L hL) hL fun z=>I.ok.exfs L z hL
   exact ⟨hk,⟨L,_,hf,hn,e,hd⟩,ih (fun b hb=>hs b (by unfold frs;rw [List.filterMap_cons,hf];exact aO _ hb)) hr⟩
 exact all X.outer (fun _ hb=>hb) I.ok.lJ
theorem Inv.stack (I:Inv X pins σ H s):s.heap.FunFrames X.base X.stack:=by
 rcases I.ok.stk with e | ⟨e,hf⟩
 ·rw [e];exact I.lJ
 ·rw [e]
  obtain ⟨m,hn,_⟩:=I.loc
  refine .cons (by rw [I.ok.kind];decide) hf hn ?_ I.lJ
  exact Heap.get?_none_of_le (cu I.ok.bsz I.ok.above)
theorem Inv.jn (I:Inv X pins σ H s):∀b∈frs X.stack,b∈X.env.locals::X.fs:=fun b hb=>by
 rcases I.ok.stk with e | ⟨e,hf⟩
 ·rw [e] at hb;exact aO _ hb
 ·rw [e] at hb
  unfold frs at hb
  rw [List.filterMap_cons,hf] at hb
  exact hb
theorem Inv.mX (I:Inv X pins σ H s):∀b∈frs X.stack,H b=none:=fun b hb=>by
 rcases aU.mp (I.jn b hb) with e | hb
 ·rw [e];exact I.free
 ·obtain ⟨_,o,ho,_⟩:=I.ok.lJ.mem hb
  exact I.base.free b o ho (I.ok.frf b hb) fun z=>I.ok.exfs b z hb
theorem Inv.step {g':Array GenState} {t':Nat} {d':Drawn} {ch:List Addr} (I:Inv X pins σ H s)
  (hch:∀b∈ch,(b∈X.ex∨X.s₀.heap.objs.size≤b)∧b≠X.env.locals∧(∀x c,X.env.cells.lookup x=some c→c≠b)∧∀p∈X.pn++pins,p.1≠b)
  (keep:∀b o,b≠X.env.locals→b∉X.fs→b∉ch→s.heap.get? b=some o→H b=none→h'.get? b=some o)
  (slot:∀b o,b≠X.env.locals→b∈X.fs→b∉ch→s.heap.get? b=some o→H b=none→∃sl,h'.get? b=some {o with slots:=sl}) (free:∀b o,b∉ch→s.heap.get? b=some o→H b=none→H' b=none)
  (there:∀b o,b∉ch→s.heap.get? b=some o→∃o',h'.get? b=some o')
  (tups:∀b xs,H b=some (.tup xs)→H' b=some (.tup xs)) (frzs:∀b o u,H b=some (.frz o u)→H' b=some (.frz o u)) (tbls:∀b ps,H b=some (.tbl ps)→∃more,H' b=some (.tbl (ps++more)))
  (ns:∀m,s.heap.Ns X.env.locals m→h'.Ns X.env.locals m) (hok:HOk X.prog X.w H' h') (hg:AllBare g') :
  Inv X pins σ H' {s with heap:=h',gens:=g',drawn:=d',toks:=t'}:=by
 have neL:∀b o,X.s₀.heap.get? b=some o→b≠X.env.locals:=fun b o e=>bz (bp (aW e) I.ok.above)
 have neC:∀b o,X.s₀.heap.get? b=some o→b∉X.ex→b∉ch:=fun b o e hx hb=>by
  rcases (hch b hb).1 with z | z
  ·exact hx z
  ·exact absurd (bp (aW e) z) (cL _)
 have cellK:∀x c,X.env.cells.lookup x=some c→∀v,s.heap.IsCell c v→h'.IsCell c v:=fun x c e v ⟨o,ho,hd⟩=>by
  have nch:c∉ch:=fun z=>(hch c z).2.2.1 x c e rfl
  by_cases hc:c∈X.fs
  ·obtain ⟨sl,q⟩:=slot c o (I.cne x c e) hc nch ho (I.freeC x c e)
   exact ⟨_,q,hd⟩
  ·exact ⟨o,keep c o (I.cne x c e) hc nch ho (I.freeC x c e),hd⟩
 refine ⟨I.ok,I.os,hg,⟨fun b o e n hb hx=>?_,fun b o e n hb hx=>?_,fun b o e n hx=>?_,fun b o e hx=>?_,fun b xs e=>tups b xs (I.base.tups b xs e),fun b o xs e=>frzs b o xs (I.base.frzs b o xs e),fun b ps e=>?_⟩,?_,fun x c e=>?_,?_,fun x c e=>?_,fun p hp=>?_,hok,I.len⟩
 ·exact keep b o (neL b o e) hb (neC b o e hx) (I.base.keep b o e n hb hx) (I.base.free b o e n hx)
 ·obtain ⟨sl,e1⟩:=I.base.slot b o e n hb hx
  obtain ⟨sl',e2⟩:=slot b _ (neL b o e) hb (neC b o e hx) e1 (I.base.free b o e n hx)
  exact ⟨sl',e2⟩
 ·obtain ⟨o',e1⟩:=I.base.there b o e hx
  exact free b o' (neC b o e hx) e1 (I.base.free b o e n hx)
 ·obtain ⟨o',e1⟩:=I.base.there b o e hx
  exact there b o' (neC b o e hx) e1
 ·obtain ⟨m1,e1⟩:=I.base.tbls b ps e
  obtain ⟨m2,e2⟩:=tbls b _ e1
  exact ⟨m1++m2,by rw [e2,Array.append_assoc]⟩
 ·obtain ⟨m,hn,hl⟩:=I.loc
  refine ⟨m,ns m hn,fun i x v e1 e2 e3=>?_⟩
  obtain ⟨u,r,l⟩:=hl i x v e1 e2 e3
  refine ⟨u,r,?_⟩
  rcases l with l | ⟨k,c,e,z⟩
  ·exact .inl l
  ·exact .inr ⟨k,c,e,cellK x c e _ z⟩
 ·obtain ⟨v,z⟩:=I.cell x c e
  exact ⟨v,cellK x c e v z⟩
 ·obtain ⟨m,⟨o,_,_,ho,_⟩,_⟩:=I.loc
  exact free _ o (fun z=>(hch _ z).2.1 rfl) ho I.free
 ·obtain ⟨v,o,ho,hd⟩:=I.cell x c e
  exact free c o (fun z=>(hch c z).2.2.1 x c e rfl) ho (I.freeC x c e)
 ·obtain ⟨e,n,ne,nf,d⟩:=I.pin p hp
  have nch:p.1∉ch:=fun z=>(hch p.1 z).2.2.2 p hp rfl
  exact ⟨keep p.1 p.2 ne nf nch e n,free p.1 p.2 nch e n,ne,nf,d⟩
theorem Inv.un {t':Nat} (I:Inv X pins σ H s) (u:Un X.fs [] H H' s.heap h') (hok:HOk X.prog X.w H' h'):Inv X pins σ H' {s with heap:=h',toks:=t'}:=by
 obtain ⟨m,⟨o,es,ep,ho,r⟩,_⟩:=id I.loc
 obtain ⟨sl,hL⟩:=u.any ho I.free (by simp)
 exact I.step (g':=s.gens) (d':=s.drawn) (ch:=[]) (fun _ z=>nomatch z) (fun b o _ hb _ e n=>u.keep b o e n hb (by simp)) (fun b o _ hb _ e n=>u.slot b o e n hb (by simp)) (fun b o _ e n=>u.free b o e n (by simp)) (fun b o _ e=>u.there b o e (by simp)) u.tups u.frzs u.tbls (fun m' hm=>by
  obtain ⟨o',es',ep',ho',r'⟩:=hm
  rw [ho] at ho';cases ho'
  exact ⟨_,es',ep',hL,r'⟩) hok I.bare
theorem Inv.call {g':Array GenState} {t':Nat} {d':Drawn} {ch:List Addr} (I:Inv X pins σ H s) (u:Un (frs X.stack) ch H H' s.heap h') (hok:HOk X.prog X.w H' h') (hg:AllBare g')
  (hch:∀b∈ch,(b∈X.ex∨X.s₀.heap.objs.size≤b)∧b≠X.env.locals∧(∀x c,X.env.cells.lookup x=some c→c≠b)∧∀p∈X.pn++pins,p.1≠b) :
  Inv X pins σ H' {s with heap:=h',gens:=g',drawn:=d',toks:=t'}:=by
 obtain ⟨m,⟨o,es,ep,ho,r⟩,_⟩:=id I.loc
 obtain ⟨sl,hL⟩:=u.any ho I.free fun z=>(hch _ z).2.1 rfl
 exact I.step (ch:=ch) hch (fun b o hL hb hc e n=>u.keep b o e n (fun z=>(aU.mp (I.jn b z)).elim hL hb) hc) (fun b o _ _ hc e n=>u.any e n hc) (fun b o hc e n=>u.free b o e n hc) (fun b o hc e=>u.there b o e hc) u.tups u.frzs u.tbls (fun m' hm=>by
  obtain ⟨o',es',ep',ho',r'⟩:=hm
  rw [ho] at ho';cases ho'
  exact ⟨_,es',ep',hL,r'⟩) hok hg
theorem Inv.turned {t':Nat} {it:Addr} (I:Inv X pins σ H s) (k:∀b o,b≠it→s.heap.get? b=some o→h'.get? b=some o) (hn:H it=none) (hL:it≠X.env.locals)
  (h1:it∈X.ex∨X.s₀.heap.objs.size≤it) (h2:∀x c,X.env.cells.lookup x=some c→c≠it) (h3:∀p∈X.pn++pins,p.1≠it):Inv X pins σ H {s with heap:=h',toks:=t'}:=by
 have nit:∀b u,H b=some u→b≠it:=fun b u e z=>by rw [z,hn] at e;cases e
 refine I.step (g':=s.gens) (d':=s.drawn) (ch:=[it]) (fun b hb=>?_) (fun b o _ _ hc e _=>k b o (fun z=>hc (by simp [z])) e) (fun b o _ _ hc e _=>⟨o.slots,k b o (fun z=>hc (by simp [z])) e⟩) (fun _ _ _ _ n=>n)
  (fun b o hc e=>⟨o,k b o (fun z=>hc (by simp [z])) e⟩) (fun _ _ e=>e) (fun _ _ _ e=>e) (fun b ps e=>⟨#[],by rw [e];simp⟩) (fun m hm=>?_) (fun b u e=>?_) I.bare
 ·have e:b=it:=by simpa using hb
  subst e
  exact ⟨h1,hL,h2,h3⟩
 ·obtain ⟨o,es,ep,ho,r⟩:=hm
  exact ⟨o,es,ep,k _ o (Ne.symm hL) ho,r⟩
 ·refine (I.hok b u e).p_ (fun c v hc q=>k c v ?_ q) (fun _ q=>q) fun _ _ q=>q
  rcases hc with z | z
  ·rw [z];exact nit b u e
  ·exact nit c _ z
theorem Inv.tok (I:Inv X pins σ H s) (t:Nat):Inv X pins σ H {s with toks:=t}:=I.un (h':=s.heap) (t':=t) Un.refl I.hok
theorem Inv.kept {t':Nat} (I:Inv X pins σ H s) (k:∀b u,s.heap.get? b=some u→h'.get? b=some u):Inv X pins σ H {s with heap:=h',toks:=t'}:=I.un (Un.kept k) (I.hok.kept k)
theorem Inv.laid {a:Addr} {o:HO} {t':Nat} (I:Inv X pins σ H s) (k:∀b u,s.heap.get? b=some u→h'.get? b=some u) (hp:s.heap.objs.size≤a) (new:fN X.prog X.w (upd H a o) h' a o) :
  Inv X pins σ (upd H a o) {s with heap:=h',toks:=t'}:=I.un (Un.laid k hp (I.hok.fresh hp)) (I.hok.laid k hp new)
theorem Inv.write {x e:Addr} {o:HO} {t':Nat} (I:Inv X pins σ H s) (mu:Mut (H x)) (he:e=x∨H e=some (.own x)) (k:∀b u,b≠e→s.heap.get? b=some u→h'.get? b=some u) (heo:∃u,h'.get? e=some u)
  (new:fN X.prog X.w (upd H x o) h' x o):Inv X pins σ (upd H x o) {s with heap:=h',toks:=t'}:=I.un (Un.write mu he k heo) (I.hok.write mu he k heo new)
theorem Inv.weak {σ':List (Option V)} (I:Inv X pins σ H s) (hl:σ'.length=σ.length) (w:∀(i:Nat) v,σ'[i]?=some (some v)→σ[i]?=some (some v)):Inv X pins σ' H s :=
 ⟨I.ok,I.os,I.bare,I.base,let ⟨m,hn,hl'⟩:=I.loc;⟨m,hn,fun i x v e1 e2 e3=>hl' i x v e1 (w i v e2) e3⟩,I.cell,I.free,I.freeC,I.pin,I.hok,hl.trans I.len⟩
theorem Inv.jQ {pins':List (Addr×Obj)} (I:Inv X pins σ H s) (h:∀p∈pins',s.heap.get? p.1=some p.2∧H p.1=none∧p.1≠X.env.locals∧p.1∉X.fs∧∀v,p.2.data≠.cell v):Inv X pins' σ H s :=
 ⟨I.ok,I.os,I.bare,I.base,I.loc,I.cell,I.free,I.freeC,fun p hp=>(aM.mp hp).elim (fun z=>I.pin p (aI _ z)) (h p),I.hok,I.len⟩
theorem lD {N:List Str} (hN:N.Nodup) {i j:Nat} {x:Str} (a:N[i]?=some x) (b:N[j]?=some x):i=j:=by
 obtain ⟨h1,e1⟩:=cE.mp a
 obtain ⟨h2,e2⟩:=cE.mp b
 exact (List.getElem_inj hN).mp (e1.trans e2.symm)
theorem lT {M:Model} {A:Around} {E:Value→Shared→Prop} {i:Nat} {x:Str} {v:V} {u:Value} {Q:Unit→Shared→Prop} (I:Inv X pins σ H s) (hN:X.N.Nodup) (hi:X.N[i]?=some x) (hx:Loc X.env.scope x) (r:RelV v u)
  (h:∀s',Inv X pins (σ.set i (some v)) H s'→(∃a,gw a s.heap s'.heap∧(a=X.env.locals∨X.env.cells.lookup x=some a))→Q () s') (hf:X.fn x=true∨X.env.scope.names.lookup x=some .local:=by first | exact .inl rfl | exact .inr rfl | assumption):wpAny M A (storeName X.env x u) Q E s:=by
 obtain ⟨m,hn,hl⟩:=id I.loc
 have hcls:(X.env.scope.kind==.class||(X.env.scope.kind==.module&&X.env.locals != X.env.globals))=false:=by rw [I.ok.kind];rfl
 have hiσ:i<σ.length:=by rw [I.len];exact (cE.mp hi).1
 have cne:=I.cne
 have tracked:∀{a:Addr} {h':Heap},(∃o,s.heap.get? a=some o∧H a=none)→gw a s.heap h'→HOk X.prog X.w H h':=fun {a h'} ha hs b ob e=>by
  obtain ⟨_,_,hfree⟩:=ha
  refine (I.hok b ob e).p_ (fun c w' hc q=>(hs.2 c ?_).trans q) (fun _ q=>q) fun _ _ q=>q
  rintro rfl
  rcases hc with rfl | hc
  ·rw [hfree] at e;cases e
  ·rw [hfree] at hc;cases hc
 rcases hx with hk | hk
 ·refine wpAny_storeName_local hk hn (fun h' hn' hs=>?_) hcls
  obtain ⟨oL,_,_,hoL,_⟩:=id hn
  refine h _ ⟨I.ok,I.os,I.bare,⟨fun b o e n hb hx=>?_,fun b o e n hb hx=>?_,I.base.free,fun b o e hx=>?_,I.base.tups,I.base.frzs,I.base.tbls⟩,⟨_,hn',fun j y v' e1 e2 e3=>?_⟩,fun y c e=>?_,I.free,I.freeC,fun p hp=>?_,tracked ⟨oL,hoL,I.free⟩ hs,by simpa using I.len⟩ ⟨_,hs,.inl rfl⟩
  ·exact (hs.2 b (bz (bp (aW e) I.ok.above))).trans (I.base.keep b o e n hb hx)
  ·obtain ⟨sl,e1⟩:=I.base.slot b o e n hb hx
   exact ⟨sl,(hs.2 b (bz (bp (aW e) I.ok.above))).trans e1⟩
  ·obtain ⟨o',e1⟩:=I.base.there b o e hx
   exact ⟨o',(hs.2 b (bz (bp (aW e) I.ok.above))).trans e1⟩
  ·by_cases hj:j=i
   ·subst hj
    rw [hi] at e1;cases e1
    rw [List.getElem?_set_self hiσ] at e2
    cases e2
    exact ⟨u,r,.inl ⟨hk,by simp⟩⟩
   ·rw [dB (Ne.symm hj)] at e2
    obtain ⟨u',r',q⟩:=hl j y v' e1 e2 e3
    refine ⟨u',r',?_⟩
    rcases q with ⟨k,e⟩ | ⟨k,c,e,z⟩
    ·refine .inl ⟨k,?_⟩
     have:y≠x:=fun e=>hj (lD hN e1 (e▸hi))
     simp [this,e]
    ·exact .inr ⟨k,c,e,z.sameBut hs (cne y c e)⟩
  ·obtain ⟨w',z⟩:=I.cell y c e
   exact ⟨w',z.sameBut hs (cne y c e)⟩
  ·obtain ⟨e,n,ne,nf,d⟩:=I.pin p hp
   exact ⟨(hs.2 p.1 ne).trans e,n,ne,nf,d⟩
 ·have hfn:X.fn x=true:=by
   rcases hf with z | z
   ·exact z
   ·rw [z] at hk;cases hk
  obtain ⟨c,hc⟩:=I.ok.has x (.inl hk)
  obtain ⟨w',z⟩:=I.cell x c hc
  refine wpAny_storeName_cell I.ok.kind hk hc z (fun h' hc' hs=>?_)
  obtain ⟨oc,hoc,hocd⟩:=id z
  refine h {s with heap:=h'} ⟨I.ok,I.os,I.bare,⟨fun b o e n hb hx=>?_,fun b o e n hb hx=>?_,I.base.free,fun b o e hx=>?_,I.base.tups,I.base.frzs,I.base.tbls⟩,⟨m,hn.sameBut hs (Ne.symm (cne x c hc)),fun j y v' e1 e2 e3=>?_⟩,fun y c' e=>?_,I.free,I.freeC,fun p hp=>?_,tracked ⟨oc,hoc,I.freeC x c hc⟩ hs,by simpa using I.len⟩ ⟨c,hs,.inr hc⟩
  ·exact (hs.2 b (bz (bp (aW e) (I.ok.cab x c hfn hc)))).trans (I.base.keep b o e n hb hx)
  ·obtain ⟨sl,e1⟩:=I.base.slot b o e n hb hx
   exact ⟨sl,(hs.2 b (bz (bp (aW e) (I.ok.cab x c hfn hc)))).trans e1⟩
  ·obtain ⟨o',e1⟩:=I.base.there b o e hx
   exact ⟨o',(hs.2 b (bz (bp (aW e) (I.ok.cab x c hfn hc)))).trans e1⟩
  ·by_cases hj:j=i
   ·subst hj
    rw [hi] at e1;cases e1
    rw [List.getElem?_set_self hiσ] at e2
    cases e2
    exact ⟨u,r,.inr ⟨.inl hk,c,hc,hc'⟩⟩
   ·rw [dB (Ne.symm hj)] at e2
    obtain ⟨u',r',q⟩:=hl j y v' e1 e2 e3
    refine ⟨u',r',?_⟩
    rcases q with q | ⟨k,c',e,z'⟩
    ·exact .inl q
    ·refine .inr ⟨k,c',e,z'.sameBut hs ?_⟩
     rintro rfl
     exact hj (lD hN e1 (I.ok.inj _ _ _ e hc▸hi))
  ·by_cases hcc:c'=c
   ·subst hcc;exact ⟨_,hc'⟩
   ·obtain ⟨w2,z2⟩:=I.cell y c' e
    exact ⟨w2,z2.sameBut hs hcc⟩
  ·obtain ⟨e,n,ne,nf,d⟩:=I.pin p hp
   refine ⟨(hs.2 p.1 ?_).trans e,n,ne,nf,d⟩
   intro q
   rw [q,hoc] at e
   have q':oc=p.2:=Option.some.inj e
   exact d w' (by rw [←q'];exact hocd)
theorem jD {M:Model} {A:Around} {E:Value→Shared→Prop} {i:Nat} {x:Str} {v:V} {u:Value} {Q:Unit→Shared→Prop} (I:Inv X pins σ H s) (hN:X.N.Nodup) (hi:X.N[i]?=some x) (hx:Loc X.env.scope x) (r:RelV v u)
  (h:∀s',Inv X pins (σ.set i (some v)) H s'→Q () s') (hf:X.fn x=true∨X.env.scope.names.lookup x=some .local:=by first | exact .inl rfl | exact .inr rfl | assumption):wpAny M A (storeName X.env x u) Q E s :=
 lT I hN hi hx r (fun s' I' _=>h s' I') hf
theorem Inv.r_ {s':Shared} {ch:List Addr} (I:Inv X pins σ H s) (ho:s'.os=s.os) (u:Un (frs X.stack) ch H H' s.heap s'.heap) (hok:HOk X.prog X.w H' s'.heap) (hg:AllBare s'.gens)
  (hch:∀b∈ch,(b∈X.ex∨X.s₀.heap.objs.size≤b)∧b≠X.env.locals∧(∀x c,X.env.cells.lookup x=some c→c≠b)∧∀p∈X.pn++pins,p.1≠b):Inv X pins σ H' s':=by
 obtain ⟨h',g',d',t',o'⟩:=s'
 have e:o'=s.os:=ho
 subst e
 exact I.call (g':=g') (t':=t') (d':=d') u hok hg hch
end
abbrev XK:=Value→Option Addr→Hp→Prop
abbrev St:=List (Option V)
abbrev VK:=V→Hp→Prop
abbrev TE:=St→Hp→VK→Prop
abbrev TT:=St→Hp→(Bool→Hp→Prop)→Prop
abbrev TA:=St→Hp→(List V→Hp→Prop)→Prop
structure Ends where
 nx:St→Hp→Prop
 rt:VK
 bk:St→Hp→Prop:=fun _ _=>False
 ct:St→Hp→Prop:=fun _ _=>False
abbrev TS:=Ends→St→Hp→Prop
def EP (X:Cx) (pins:List (Addr×Obj)) (σ:St) (Q:VK) (u:Value) (s':Shared):Prop:=∃v H',Inv X pins σ H' s'∧RelV v u∧Q v H'
def TP (X:Cx) (pins:List (Addr×Obj)) (σ:St) (Q:Bool→Hp→Prop) (b:Bool) (s':Shared):Prop:=∃H',Inv X pins σ H' s'∧Q b H'
def AP (X:Cx) (pins:List (Addr×Obj)) (σ:St) (Q:List V→Hp→Prop) (us:List Value) (s':Shared):Prop:=∃vs H',Inv X pins σ H' s'∧Vals vs us∧Q vs H'
def SP (X:Cx) (pins:List (Addr×Obj)) (D:Ends) (f:Flow) (s':Shared):Prop :=
 match f with
 | .next=>∃σ' H',Inv X pins σ' H' s'∧D.nx σ' H'
 | .brk=>∃σ' H',Inv X pins σ' H' s'∧D.bk σ' H'
 | .cont=>∃σ' H',Inv X pins σ' H' s'∧D.ct σ' H'
 | .ret u=>∃v σ' H',Inv X pins σ' H' s'∧RelV v u∧D.rt v H'
def PE (X:Cx) (e:Expr) (t:TE):Prop :=
 ∀(pins:List (Addr×Obj)) (s:Shared) (σ:St) (H:Hp) (Q:VK),Inv X pins σ H s→t σ H Q→wpAny (model X.prog X.w) X.A (eval e X.env) (EP X pins σ Q) X.xe s
def PT (X:Cx) (e:Expr) (t:TT):Prop :=
 ∀(pins:List (Addr×Obj)) (s:Shared) (σ:St) (H:Hp) (Q:Bool→Hp→Prop),Inv X pins σ H s→t σ H Q→wpAny (model X.prog X.w) X.A (isTrue e X.env (eval e X.env)) (TP X pins σ Q) X.xe s
def PW (X:Cx) (e:Expr) (t:TT):Prop :=
 ∀(whole:Sem Value) (pins:List (Addr×Obj)) (s:Shared) (σ:St) (H:Hp) (Q:Bool→Hp→Prop),Inv X pins σ H s→t σ H Q→wpAny (model X.prog X.w) X.A (isTrue e X.env whole) (TP X pins σ Q) X.xe s
theorem PW.pt {X:Cx} {e:Expr} {t:TT} (h:PW X e t):PT X e t:=h _
def PA (X:Cx) (es:List Expr) (t:TA):Prop :=
 ∀(pos:Pos) (pins:List (Addr×Obj)) (s:Shared) (σ:St) (H:Hp) (Q:List V→Hp→Prop),Inv X pins σ H s→t σ H Q→wpAny (model X.prog X.w) X.A (spliced (backTo pos (starEach es X.env))) (AP X pins σ Q) X.xe s
def PS (X:Cx) (st:Stmt) (t:TS):Prop :=
 ∀(pins:List (Addr×Obj)) (s:Shared) (σ:St) (H:Hp) (D:Ends),Inv X pins σ H s→t D σ H→wpAny (model X.prog X.w) X.A (exec st X.env) (SP X pins D) X.xe s
def PSs (X:Cx) (st:List Stmt) (t:TS):Prop :=
 ∀(pins:List (Addr×Obj)) (s:Shared) (σ:St) (H:Hp) (D:Ends),Inv X pins σ H s→t D σ H→wpAny (model X.prog X.w) X.A (execs st X.env) (SP X pins D) X.xe s
theorem thn {α:Type} {t:Sem α} {Q Q':α→Shared→Prop} {M:Model} {A:Around} {E:Value→Shared→Prop} {s:Shared} (h:wpAny M A t Q E s) (hQ:∀a s,Q a s→Q' a s):wpAny M A t Q' E s:=wpAny_mono h hQ fun _ _ x=>x
end L2
namespace L2
open PySem PySem.Spec PyProof.Rows
section
variable {X:Cx}
def wL (i:Nat):TE:=fun σ H Q=>∃v,σ[i]?=some (some v)∧Q v H
def tC (v:V):TE:=fun _ H Q=>Q v H
theorem xu {i:Nat} {x:Str} {pos:Pos} (hN:X.N[i]?=some x) (hv:Vis X.env.scope x) (hd:(x==("__debug__":Str))=false:=by decide) (hcd:(x==("__classdict__":Str))=false:=by decide):PE X (.Name x pos) (wL i):=by
 intro pins s σ H Q I h
 obtain ⟨v,e,h⟩:=h
 obtain ⟨m,hn,hl⟩:=I.loc
 obtain ⟨u,r,l⟩:=hl i x v hN e hv
 have fin:EP X pins σ Q u s:=⟨v,H,I,r,h⟩
 rcases l with ⟨hk,hm⟩ | ⟨hk,c,hc,hcell⟩
 ·exact wpAny_Name (wpAny_loadName_local I.ok.kind hk hn hm fin) hd
 ·rcases hk with hk | hk
  ·exact wpAny_Name (wpAny_loadName_cell I.ok.kind hk hc hcell fin) hd
  ·exact wpAny_Name (wpAny_loadName_free I.ok.kind hk hc hcell fin hcd) hd
theorem aS {i j pos}:PE X (.Constant (.int i) j pos) (tC (.int i)):=fun _ _ _ H _ I h=>wpAny_Constant_int ⟨.int i,H,I.tok _,⟨_,rfl⟩,h⟩
theorem lC {b j pos}:PE X (.Constant (.bool b) j pos) (tC (.bl b)):=fun _ _ _ H _ I h=>Constant_bool ⟨.bl b,H,I,rfl,h⟩
theorem xv {j pos}:PE X (.Constant .none j pos) (tC .non):=fun _ _ _ H _ I h=>Constant_none ⟨.non,H,I,rfl,h⟩
theorem gZ {x j pos}:PE X (.Constant (.str x) j pos) (tC (.str x)):=fun _ _ _ H _ I h=>Calls.Constant_str ⟨.str x,H,I.tok _,⟨_,rfl⟩,h⟩
def Gl (X:Cx) (x:Str):Prop:=X.env.kindOf x=some .globalImplicit
theorem iS {E:Value→Shared→Prop} {pins:List (Addr×Obj)} {s:Shared} {σ:St} {H:Hp} {x:Str} {u:Value} {pos:Pos} {Q:Value→Shared→Prop} (I:Inv X pins σ H s) (hg:Gl X x) (hm:X.mg x=some u) (h:Q u s)
  (hd:(x==("__debug__":Str))=false:=by decide):wpAny (model X.prog X.w) X.A (eval (.Name x pos) X.env) Q E s :=
 Calls.Name_function_global I.ok.kind hg (Calls.loadGlobal_global (by rw [I.ok.glob];exact I.mod.glob.keeps I.bk) hm h) hd
theorem iA {E:Value→Shared→Prop} {pins:List (Addr×Obj)} {s:Shared} {σ:St} {H:Hp} {x:Str} {u:Value} {pos:Pos} {Q:Value→Shared→Prop} (I:Inv X pins σ H s) (hg:Gl X x) (hm:X.mg x=none) (hv:bootBuiltins x=some u) (h:Q u s)
  (hn:x≠"__name__":=by decide) (hd:(x==("__debug__":Str))=false:=by decide):wpAny (model X.prog X.w) X.A (eval (.Name x pos) X.env) Q E s:=by
 obtain ⟨mb,h1,h2⟩:=I.mod.blt
 exact Calls.Name_function_global I.ok.kind hg (Calls.loadGlobal_builtin (by rw [I.ok.glob];exact I.mod.glob.keeps I.bk) hm (by rw [I.ok.blt];exact h1.keeps I.bk) ((h2 x hn).trans hv) h) hd
theorem fQ {x:Str} {v:V} {u:Value} {pos:Pos} (hg:Gl X x) (hm:X.mg x=some u) (r:RelV v u) (hd:(x==("__debug__":Str))=false:=by decide):PE X (.Name x pos) (tC v) :=
 fun _ _ _ H _ I h=>iS I hg hm ⟨v,H,I,r,h⟩ hd
theorem lB {x:Str} {v:V} {u:Value} {pos:Pos} (hg:Gl X x) (hm:X.mg x=none) (hv:bootBuiltins x=some u) (r:RelV v u) (hn:x≠"__name__":=by decide) (hd:(x==("__debug__":Str))=false:=by decide):PE X (.Name x pos) (tC v) :=
 fun _ _ _ H _ I h=>iA I hg hm hv ⟨v,H,I,r,h⟩ hn hd
variable {a b:Expr} {ta tb:TE} {pos:Pos}
def PC (X:Cx) (op:CmpOp) (a b:Expr) (t:TE):Prop :=
 ∀(pins:List (Addr×Obj)) (s:Shared) (σ:St) (H:Hp) (Q:VK),Inv X pins σ H s→t σ H Q →
  wpAny (model X.prog X.w) X.A (eval a X.env) (fun v s₁=>wpAny (model X.prog X.w) X.A (eval b X.env) (fun u s₂=>wpAny (model X.prog X.w) X.A (compareOp op v u) (EP X pins σ Q) X.xe s₂) X.xe s₁) X.xe s
def tB (t:TE):TT:=fun σ H Q=>t σ H fun x H1=>∃c,x=.bl c∧Q c H1
theorem lZ {op:CmpOp} {t:TE} (h:PC X op a b t) (h1:behindInMarks op b=false:=by first | exact nobehind _ (by decide) (by decide) | rfl):PT X (.Compare a [op] [b] pos) (tB t):=by
 intro pins s σ H Q I hw
 refine wpAny_isTrue_Compare1 (thn (h pins s σ H _ I hw) fun v s1 h1=>thn h1 fun u s2 h2=>thn h2 fun c s3 ⟨x,H1,I1,r1,q1⟩=>?_) h1
 obtain ⟨d,rfl,q⟩:=q1
 cases r1
 exact wpAny_truthy_bool ⟨H1,I1,q⟩
theorem h_ {e:Expr} {t:TE} (h:PE X e t) (he:∀whole,isTrue e X.env whole=(do let v ←whole;standAt e.pos;holding [v] (truthy v)):=by intro _;rfl):PT X e (tB t):=by
 intro pins s σ H Q I hw
 refine isTrue_plain (thn (h pins s σ H _ I hw) fun v s1 ⟨x,H1,I1,r1,q1⟩=>?_) (he _)
 obtain ⟨d,rfl,q⟩:=q1
 cases r1
 exact wpAny_truthy_bool ⟨H1,I1,q⟩
variable {tA tB':TT} {rest:List Expr}
def BY (t u:TT):TT:=fun σ H Q=>t σ H fun c H1=>if c=true then u σ H1 Q else Q false H1
def tOr (t u:TT):TT:=fun σ H Q=>t σ H fun c H1=>if c=true then Q true H1 else u σ H1 Q
def BP (t:TT):TT:=fun σ H Q=>t σ H fun c H1=>Q (!c) H1
theorem ji (ha:PT X a tA):PW X (.BoolOp .And [a] pos) tA:=by
 intro wh pins s σ H Q I h
 refine isTrue_and (thn (ha pins s σ H Q I h) fun c s1 e=>?_)
 cases c with
 | true=>exact isTrue_and_nil e
 | false=>exact e
theorem jt (ha:PT X a tA):PW X (.BoolOp .Or [a] pos) tA:=by
 intro wh pins s σ H Q I h
 refine isTrue_or (thn (ha pins s σ H Q I h) fun c s1 e=>?_)
 cases c with
 | false=>exact isTrue_or_nil e
 | true=>exact e
theorem kr (ha:PT X a tA) (hb:PW X (.BoolOp .And (b::rest) pos) tB'):PW X (.BoolOp .And (a::b::rest) pos) (BY tA tB'):=by
 intro wh pins s σ H Q I h
 refine isTrue_and (thn (ha pins s σ H _ I h) fun c s1 ⟨H1,I1,q1⟩=>?_)
 cases c with
 | true=>exact hb wh pins s1 σ H1 Q I1 q1
 | false=>exact ⟨H1,I1,q1⟩
theorem kn (ha:PT X a tA) (hb:PW X (.BoolOp .Or (b::rest) pos) tB'):PW X (.BoolOp .Or (a::b::rest) pos) (tOr tA tB'):=by
 intro wh pins s σ H Q I h
 refine isTrue_or (thn (ha pins s σ H _ I h) fun c s1 ⟨H1,I1,q1⟩=>?_)
 cases c with
 | true=>exact ⟨H1,I1,q1⟩
 | false=>exact hb wh pins s1 σ H1 Q I1 q1
theorem ip (ha:PT X a tA):PT X (.UnaryOp .Not a pos) (BP tA):=by
 intro pins s σ H Q I h
 exact isTrue_not (ha pins s σ H (fun c H1=>Q (!c) H1) I h)
def yU (ta tb:TE):TE:=fun σ H Q=>ta σ H fun x H1=>∃c,x=.bl c∧if c=true then tb σ H1 Q else Q (.bl false) H1
def BO (ta tb:TE):TE:=fun σ H Q=>ta σ H fun x H1=>∃c,x=.bl c∧if c=true then Q (.bl true) H1 else tb σ H1 Q
def yL (ta:TE):TE:=fun σ H Q=>ta σ H fun x H1=>∃c,x=.bl c∧Q (.bl (!c)) H1
theorem ky {op} {t:TE} (h:PE X a t):PE X (.BoolOp op [a] pos) t:=fun pins s σ H Q I hw=>BoolOp_one (h pins s σ H Q I hw)
theorem kA (ha:PE X a ta) (hb:PE X (.BoolOp .And (b::rest) pos) tb):PE X (.BoolOp .And (a::b::rest) pos) (yU ta tb):=by
 intro pins s σ H Q I h
 refine BoolOp_and (thn (ha pins s σ H _ I h) fun v s1 ⟨x,H1,I1,r1,q1⟩=>?_)
 obtain ⟨c,rfl,q1⟩:=q1
 cases r1
 refine wpAny_truthy_bool ?_
 cases c with
 | true=>exact hb pins s1 σ H1 Q I1 q1
 | false=>exact ⟨.bl false,H1,I1,rfl,q1⟩
theorem zS (ha:PE X a ta) (hb:PE X (.BoolOp .Or (b::rest) pos) tb):PE X (.BoolOp .Or (a::b::rest) pos) (BO ta tb):=by
 intro pins s σ H Q I h
 refine BoolOp_or (thn (ha pins s σ H _ I h) fun v s1 ⟨x,H1,I1,r1,q1⟩=>?_)
 obtain ⟨c,rfl,q1⟩:=q1
 cases r1
 refine wpAny_truthy_bool ?_
 cases c with
 | false=>exact hb pins s1 σ H1 Q I1 q1
 | true=>exact ⟨.bl true,H1,I1,rfl,q1⟩
theorem qm (ha:PE X a ta):PE X (.UnaryOp .Not a pos) (yL ta):=by
 intro pins s σ H Q I h
 refine UnaryOp_ (thn (ha pins s σ H _ I h) fun v s1 ⟨x,H1,I1,r1,q1⟩=>?_)
 obtain ⟨c,rfl,q1⟩:=q1
 cases r1
 exact not_of (wpAny_truthy_bool ⟨.bl (!c),H1,I1,rfl,q1⟩)
def tIf (t:TT) (ta tb:TE):TE:=fun σ H Q=>t σ H fun c H1=>if c=true then ta σ H1 Q else tb σ H1 Q
theorem g_ {c:Expr} (hc:PT X c tA) (ha:PE X a ta) (hb:PE X b tb):PE X (.IfExp c a b pos) (tIf tA ta tb):=by
 intro pins s σ H Q I h
 refine wpAny_IfExp (thn (hc pins s σ H _ I h) fun d s1 ⟨H1,I1,q1⟩=>?_)
 cases d with
 | true=>exact ha pins s1 σ H1 Q I1 q1
 | false=>exact hb pins s1 σ H1 Q I1 q1
end
end L2
namespace L2
open PySem PySem.Spec PyProof.Rows
def SqL (K:ai) (H:Hp) (a:Addr) (xs:List V):Prop :=
 Rd H a (.lst xs) ∨
  ∃(o:Obj) (its:Array Value) (n:Nat),K.lookup a=some o∧o.cls=.type "list"∧o.dict=none∧o.data=.seq its n∧its.size≤sizeLine∧Vals xs its.toList
def SqT (K:ai) (H:Hp) (a:Addr) (xs:List V):Prop :=
 Rd H a (.tup xs) ∨
  ∃(o:Obj) (its:Array Value) (n:Nat),K.lookup a=some o∧o.cls=.type "tuple"∧o.data=.seq its n∧its.size≤sizeLine∧Vals xs its.toList
def CV:Value→Option V
 | .none=>some .non
 | .bool b=>some (.bl b)
 | .int i _=>some (.int i)
 | .str x _=>some (.str x)
 | .bytes b _=>some (.byt b)
 | .float b _=>some (.flt b)
 | .ref a=>some (.ref a)
 | .type n=>some (.ty n)
 | _=>none
theorem RelV.abs {x:V} {u:Value} (r:RelV x u):CV u=some x:=by
 cases x with
 | non=>cases r;rfl
 | bl _=>cases r;rfl
 | int _=>obtain ⟨t,rfl⟩:=r;rfl
 | str _=>obtain ⟨t,rfl⟩:=r;rfl
 | byt _=>obtain ⟨t,rfl⟩:=r;rfl
 | flt _=>obtain ⟨t,rfl⟩:=r;rfl
 | ref _=>cases r;rfl
 | ty _=>cases r;rfl
theorem RelV.inj {x y:V} {u:Value} (r:RelV x u) (q:RelV y u):x=y:=Option.some.inj (r.abs.symm.trans q.abs)
theorem Vals.inj:∀{xs ys:List V} {us:List Value},Vals xs us→Vals ys us→xs=ys
 | _,_,_,.nil,.nil=>rfl
 | _,_,_,.cons r t,.cons r' t'=>by rw [r.inj r',Vals.inj t t']
section
variable {X:Cx} {pins:List (Addr×Obj)} {σ:St} {H:Hp} {s:Shared} {a:Addr} {xs ys:List V}
theorem SqL.of {K:ai} (h:H a=some (.lst xs)):SqL K H a xs:=.inl (.inl h)
theorem SqT.of {K:ai} (h:H a=some (.tup xs)):SqT K H a xs:=.inl (.inl h)
theorem Inv.list (I:Inv X pins σ H s) (h:SqL X.K H a xs):∃its:List Value,Vals xs its∧PlainL s.heap a its.toArray∧xs.length≤sizeLine:=by
 rcases h with h | ⟨o,its,n,hk,hc,hd,hs,hz,r⟩
 ·obtain ⟨z,its,n,r,e⟩:=h.ok I.hok
  exact ⟨its,r,⟨_,n,e,rfl,rfl,rfl⟩,z⟩
 ·refine ⟨its.toList,r,⟨o,n,I.kIn a o hk,hc,hd,by simpa using hs⟩,?_⟩
  have e:=r.length
  simp only [Array.length_toList] at e
  omega
theorem Inv.tuple (I:Inv X pins σ H s) (h:SqT X.K H a xs):∃its:List Value,Vals xs its∧IsTup s.heap a its.toArray∧xs.length≤sizeLine:=by
 rcases h with h | ⟨o,its,n,hk,hc,hs,hz,r⟩
 ·obtain ⟨z,its,r,p⟩:=h.ok I.hok
  exact ⟨its,r,p,z⟩
 ·refine ⟨its.toList,r,⟨o,I.kIn a o hk,hc,n,by simpa using hs⟩,?_⟩
  have e:=r.length
  simp only [Array.length_toList] at e
  omega
theorem Inv.tN (I:Inv X pins σ H s) (h:SqL X.K H a xs) (h':SqL X.K H a ys):xs=ys:=by
 obtain ⟨its,r,⟨o,n,e,_,_,d⟩,_⟩:=I.list h
 obtain ⟨its',r',⟨o',n',e',_,_,d'⟩,_⟩:=I.list h'
 rw [e] at e';cases e'
 rw [d] at d'
 injection d' with d1 _
 have:its=its':=by simpa using congrArg Array.toList d1
 subst this
 exact r.inj r'
theorem Inv.pX (I:Inv X pins σ H s) (h:SqT X.K H a xs) (h':SqT X.K H a ys):xs=ys:=by
 obtain ⟨its,r,⟨o,e,_,n,d⟩,_⟩:=I.tuple h
 obtain ⟨its',r',⟨o',e',_,n',d'⟩,_⟩:=I.tuple h'
 rw [e] at e';cases e'
 rw [d] at d'
 injection d' with d1 _
 have:its=its':=by simpa using congrArg Array.toList d1
 subst this
 exact r.inj r'
end
abbrev Cx.iI (X:Cx) (E:Value→Shared→Prop):Cx:={X with xe:=E}
abbrev Cx.nox (X:Cx):Cx:=X.iI fun _ _=>False
theorem Cx.Ok.iI {X:Cx} (ok:X.Ok) (E:Value→Shared→Prop):(X.iI E).Ok :=
 ⟨ok.mod,ok.kind,ok.glob,ok.blt,ok.above,ok.inj,ok.has,ok.cab,ok.hd,ok.frames,ok.stk,ok.exf,ok.bs,ok.bsz,ok.noex,ok.exfs,ok.lJ,ok.frf⟩
theorem Cx.Ok.fU {X:Cx} {E:Value→Shared→Prop} (ok:(X.iI E).Ok):X.Ok :=
 ⟨ok.mod,ok.kind,ok.glob,ok.blt,ok.above,ok.inj,ok.has,ok.cab,ok.hd,ok.frames,ok.stk,ok.exf,ok.bs,ok.bsz,ok.noex,ok.exfs,ok.lJ,ok.frf⟩
section
variable {X:Cx} {pins:List (Addr×Obj)} {σ:St} {H:Hp} {s:Shared} {E:Value→Shared→Prop}
theorem Inv.iI (I:Inv X pins σ H s) (E:Value→Shared→Prop):Inv (X.iI E) pins σ H s:=⟨I.ok.iI E,I.os,I.bare,I.base,I.loc,I.cell,I.free,I.freeC,I.pin,I.hok,I.len⟩
theorem Inv.fU (I:Inv (X.iI E) pins σ H s):Inv X pins σ H s:=⟨I.ok.fU,I.os,I.bare,I.base,I.loc,I.cell,I.free,I.freeC,I.pin,I.hok,I.len⟩
theorem SP.fU {D:Ends} {f:Flow} {s':Shared} (h:SP (X.iI E) pins D f s'):SP X pins D f s':=by
 cases f with
 | next=>obtain ⟨σ',H',I,q⟩:=h;exact ⟨σ',H',I.fU,q⟩
 | brk=>obtain ⟨σ',H',I,q⟩:=h;exact ⟨σ',H',I.fU,q⟩
 | cont=>obtain ⟨σ',H',I,q⟩:=h;exact ⟨σ',H',I.fU,q⟩
 | ret u=>obtain ⟨v,σ',H',I,r,q⟩:=h;exact ⟨v,σ',H',I.fU,r,q⟩
theorem PSs.nox {st:List Stmt} {t:TS} (h:PSs X.nox st t):PSs X st t:=fun pins s σ H D I hw =>
 wpAny_mono (h pins s σ H D (I.iI _) hw) (fun _ _ q=>q.fU) fun _ _ z=>False.elim z
end
section
variable {X:Cx} {st:Stmt} {rest:List Stmt} {t u:TS} {e:Expr} {te:TE} {pos:Pos}
def yN:TS:=fun D σ H=>D.nx σ H
def BN (t u:TS):TS:=fun D σ H=>t {D with nx:=u D} σ H
theorem cX:PSs X [] yN:=fun _ _ σ H _ I h=>wpAny_execs_nil ⟨σ,H,I,h⟩
theorem aB (h1:PS X st t) (h2:PSs X rest u):PSs X (st::rest) (BN t u):=by
 intro pins s σ H D I h
 refine wpAny_execs_cons (thn (h1 pins s σ H {D with nx:=u D} I h) fun f s1 q=>?_)
 cases f with
 | next =>
  obtain ⟨σ',H',I',q⟩:=q
  exact h2 pins s1 σ' H' D I' q
 | ret v=>exact q
 | brk=>exact q
 | cont=>exact q
theorem aR (h1:PS X st t):PSs X [st] t:=by
 intro pins s σ H D I h
 refine wpAny_execs_cons (thn (h1 pins s σ H D I h) fun f s1 q=>?_)
 cases f with
 | next=>exact wpAny_execs_nil q
 | ret v=>exact q
 | brk=>exact q
 | cont=>exact q
theorem Inv.quiet {pins:List (Addr×Obj)} {σ:St} {H:Hp} {s:Shared} (I:Inv X pins σ H s):interactive X.env=false:=by simp [interactive,I.ok.kind]
def yO (te:TE):TS:=fun D σ H=>te σ H fun _ H1=>D.nx σ H1
theorem dE (he:PE X e te) (hs:swapsWith e none pos.line X.env=pure false:=by rfl):PS X (.Expr e pos) (yO te):=by
 intro pins s σ H D I h
 exact wpAny_Expr_any (thn (he pins s σ H _ I h) fun v s1 ⟨x,H1,I1,r1,q1⟩=>⟨σ,H1,I1,q1⟩) I.quiet hs
def Bj (te:TE):TS:=fun D σ H=>te σ H D.rt
theorem cI (he:PE X e te):PS X (.Return (some e) pos) (Bj te):=by
 intro pins s σ H D I h
 exact wpAny_Return_some (thn (he pins s σ H _ I h) fun v s1 ⟨x,H1,I1,r1,q1⟩=>⟨x,σ,H1,I1,r1,q1⟩)
def BU (c:TT) (t u:TS):TS:=fun D σ H=>c σ H fun b H1=>if b=true then t D σ H1 else u D σ H1
theorem eV {c:Expr} {a b:List Stmt} {tc:TT} (hc:PT X c tc) (ha:PSs X a t) (hb:PSs X b u):PS X (.If c a b pos) (BU tc t u):=by
 intro pins s σ H D I h
 refine wpAny_If (thn (hc pins s σ H _ I h) fun d s1 ⟨H1,I1,q1⟩=>?_)
 cases d with
 | true=>exact ha pins s1 σ H1 D I1 q1
 | false=>exact hb pins s1 σ H1 D I1 q1
def wR:TS:=fun _ _ _=>False
theorem jF:PS X st wR:=fun _ _ _ _ _ _ h=>h.elim
end
abbrev TG:=V→St→Hp→(St→Hp→Prop)→Prop
abbrev TGs:=List V→St→Hp→(St→Hp→Prop)→Prop
def PG (X:Cx) (target:Expr) (t:TG):Prop :=
 ∀(pins:List (Addr×Obj)) (s:Shared) (σ:St) (H:Hp) (v:V) (u:Value) (Q:St→Hp→Prop),Inv X pins σ H s→RelV v u→t v σ H Q →
  wpAny (model X.prog X.w) X.A (assign target X.env u) (fun _ s'=>∃σ' H',Inv X pins σ' H' s'∧Q σ' H') X.xe s
def PGs (X:Cx) (ts:List Expr) (t:TGs):Prop :=
 ∀(pins:List (Addr×Obj)) (s:Shared) (σ:St) (H:Hp) (vs:List V) (us:List Value) (Q:St→Hp→Prop),Inv X pins σ H s→Vals vs us→t vs σ H Q →
  wpAny (model X.prog X.w) X.A (assignInOrder ((assignEach ts X.env).map (·.2)) us) (fun _ s'=>∃σ' H',Inv X pins σ' H' s'∧Q σ' H') X.xe s
abbrev yg:=V→V→V→Hp→(Hp→Prop)→Prop
def Bf (X:Cx) (t:yg):Prop :=
 ∀(pins:List (Addr×Obj)) (s:Shared) (σ:St) (H:Hp) (o i v:V) (ov iv u:Value) (Q:Hp→Prop),Inv X pins σ H s→RelV o ov→RelV i iv→RelV v u→t o i v H Q →
  wpAny (model X.prog X.w) X.A (setItem ov iv u) (fun _ s'=>∃H',Inv X pins σ H' s'∧Q H') X.xe s
abbrev TIp:=V→V→Hp→VK→Prop
def PIp (X:Cx) (op:Operator) (t:TIp):Prop :=
 ∀(pins:List (Addr×Obj)) (s:Shared) (σ:St) (H:Hp) (x y:V) (v u:Value) (Q:VK),Inv X pins σ H s→RelV x v→RelV y u→t x y H Q →
  wpAny (model X.prog X.w) X.A (inplaceOp op v u) (EP X pins σ Q) X.xe s
section
variable {X:Cx} {pos:Pos}
def nE (i:Nat):TG:=fun v σ H Q=>Q (σ.set i (some v)) H
theorem bK {i:Nat} {x:Str} (hN:X.N.Nodup) (hi:X.N[i]?=some x) (hx:Loc X.env.scope x) (hf:X.fn x=true∨X.env.scope.names.lookup x=some .local:=by first | exact .inl rfl | exact .inr rfl | assumption):PG X (.Name x pos) (nE i):=by
 intro pins s σ H v u Q I r h
 exact wpAny_assign_Name (jD I hN hi hx r (fun s' I'=>⟨_,H,I',h⟩) hf)
def Ba:TGs:=fun vs σ H Q=>vs=[]∧Q σ H
def q_ (t:TG) (u:TGs):TGs:=fun vs σ H Q=>∃v r,vs=v::r∧t v σ H fun σ' H'=>u r σ' H' Q
theorem gA:PGs X [] Ba:=by
 intro pins s σ H vs us Q I r h
 obtain ⟨e,h⟩:=h
 subst e
 cases r
 exact assignInOrder_nil ⟨σ,H,I,h⟩
theorem c_ {e:Expr} {es:List Expr} {t:TG} {u:TGs} (h1:PG X e t) (h2:PGs X es u)
  (hs:(assignEach (e::es) X.env).map (·.2)=assign e X.env::(assignEach es X.env).map (·.2):=by rfl):PGs X (e::es) (q_ t u):=by
 intro pins s σ H vs us Q I r h
 obtain ⟨v,vr,e1,h⟩:=h
 subst e1
 cases r with
 | cons r rr =>
  rw [hs]
  refine assignInOrder_cons (thn (h1 pins s σ H _ _ _ I r h) fun _ s1 ⟨σ1,H1,I1,q1⟩=>?_)
  exact h2 pins s1 σ1 H1 _ _ Q I1 rr q1
def yE (K:ai) (n:Nat) (t:TGs):TG:=fun v σ H Q=>∃a xs,v=.ref a∧SqT K H a xs∧xs.length=n∧t xs σ H Q
theorem uH {es:List Expr} {k:Nat} {t:TGs} {n:Nat} (hc:X.calm=true) (h:PGs X es t)
  (hn:(assignEach es X.env).length=n:=by rfl) (hst:(assignEach es X.env).findIdx? (·.1)=none:=by rfl):PG X (.Tuple es k pos) (yE X.K n t):=by
 intro pins s σ H v u Q I r hw
 obtain ⟨a,xs,e1,hq,hl,hw⟩:=hw
 subst e1
 cases r
 obtain ⟨its,rv,ht,hz⟩:=I.tuple hq
 refine assign_Tuple_tuple (I.ok.hd hc) ht (by simp [hn,←hl,rv.length]) hst fun h' hx=>?_
 have I1:Inv X pins σ H {s with heap:=h'}:=I.kept (t':=s.toks) fun b o e=>hx b o (bz (aW e)) e
 exact h pins _ σ H xs _ Q I1 (by simpa using rv) hw
def CS (to ti:TE) (t:yg):TG:=fun v σ H Q=>to σ H fun o H1=>ti σ H1 fun i H2=>t o i v H2 fun H3=>Q σ H3
theorem og {o i:Expr} {to ti:TE} {t:yg} (ho:PE X o to) (hi:PE X i ti) (hs:Bf X t)
  (ha:∀v,assign (.Subscript o i pos) X.env v=(do
   let ov ←holding [v] (eval o X.env)
   let iv ←holding [v,ov] (eval i X.env)
   standAt pos
   holding [v,ov,iv] (setItem ov iv v)
   release [v,ov,iv] []):=by intro _;rfl):PG X (.Subscript o i pos) (CS to ti t):=by
 intro pins s σ H v u Q I r h
 rw [ha]
 refine wpAny_bind (wpAny_holding (thn (ho pins s σ H _ I h) fun ov s1 ⟨x,H1,I1,r1,q1⟩=>?_))
 refine wpAny_bind (wpAny_holding (thn (hi pins s1 σ H1 _ I1 q1) fun iv s2 ⟨y,H2,I2,r2,q2⟩=>?_))
 refine wpAny_bind (wpAny_standAt (wpAny_bind (wpAny_holding (thn (hs pins s2 σ H2 x y v ov iv u _ I2 r1 r2 r q2) fun _ s3 ⟨H3,I3,q3⟩=>?_))))
 exact wpAny_release ⟨σ,H3,I3,q3⟩
def yT (te:TE) (g:TG):TS:=fun D σ H=>te σ H fun x H1=>g x σ H1 D.nx
theorem ku {tg e:Expr} {te:TE} {g:TG} (he:PE X e te) (hg:PG X tg g) (hs:swapsWithSole [tg] e pos.line X.env=pure false:=by rfl) (hw:swappedStores [tg] e X.env=pure none:=by rfl)
  (h1:(assignEach [tg] X.env).map (·.2)=[assign tg X.env]:=by rfl):PS X (.Assign [tg] e pos) (yT te g):=by
 intro pins s σ H D I h
 refine wpAny_Assign_stores (thn (he pins s σ H _ I h) fun v s1 ⟨x,H1,I1,r1,q1⟩=>?_) hs hw
 rw [h1]
 exact thn (hg pins s1 σ H1 x v _ I1 r1 q1) fun _ s2 q=>q
theorem bF {i:Nat} {x:Str} {e:Expr} {te:TE} {pos':Pos} (hN:X.N.Nodup) (hi:X.N[i]?=some x) (hx:Loc X.env.scope x) (he:PE X e te) (hs:swapsWith e (some (.Name x pos')) pos.line X.env=pure false:=by rfl) (hf:X.fn x=true∨X.env.scope.names.lookup x=some .local:=by first | exact .inl rfl | exact .inr rfl | assumption) :
  PS X (.Assign [.Name x pos'] e pos) (yT te (nE i)):=by
 intro pins s σ H D I h
 refine wpAny_Assign_Name (thn (he pins s σ H _ I h) fun v s1 ⟨y,H1,I1,r1,q1⟩=>?_) hs
 exact jD I1 hN hi hx r1 (fun s2 I2=>⟨_,H1,I2,q1⟩) hf
def BX (i:Nat) (te:TE) (ti:TIp):TS:=fun D σ H=>∃x,σ[i]?=some (some x)∧te σ H fun y H1=>ti x y H1 fun z H2=>D.nx (σ.set i (some z)) H2
theorem qi {i:Nat} {x:Str} {e:Expr} {te:TE} {op:Operator} {ti:TIp} {pos':Pos} (hN:X.N.Nodup) (hi:X.N[i]?=some x) (hx:Loc X.env.scope x) (he:PE X e te) (ho:PIp X op ti) (hf:X.fn x=true∨X.env.scope.names.lookup x=some .local:=by first | exact .inl rfl | exact .inr rfl | assumption) :
  PS X (.AugAssign (.Name x pos') op e pos) (BX i te ti):=by
 intro pins s σ H D I h
 obtain ⟨v,e1,h⟩:=h
 obtain ⟨m,hn,hl⟩:=I.loc
 have vis:Vis X.env.scope x:=by rcases hx with k | k;exact .inl k;exact .inr (.inl k)
 obtain ⟨u,r,l⟩:=hl i x v hi e1 vis
 refine wpAny_AugAssign_Name ?_
 have go:wpAny (model X.prog X.w) X.A (eval e X.env) (fun w s₂=>wpAny (model X.prog X.w) X.A (inplaceOp op u w) (fun r s₃=>wpAny (model X.prog X.w) X.A (storeName X.env x r) (fun _=>SP X pins D .next) X.xe s₃) X.xe s₂) X.xe s:=by
  refine thn (he pins s σ H _ I h) fun w s1 ⟨y,H1,I1,r1,q1⟩=>?_
  refine thn (ho pins s1 σ H1 v y u w _ I1 r r1 q1) fun z s2 ⟨zv,H2,I2,r2,q2⟩=>?_
  exact jD I2 hN hi hx r2 (fun s3 I3=>⟨_,H2,I3,q2⟩) hf
 rcases l with ⟨hk,hm⟩ | ⟨hk,c,hc,hcell⟩
 ·exact wpAny_loadName_local I.ok.kind hk hn hm go
 ·rcases hk with hk | hk
  ·exact wpAny_loadName_cell I.ok.kind hk hc hcell go
  ·rcases hx with k | k
   ·have:X.env.scope.names.lookup x=some .free:=hk
    rw [k] at this;cases this
   ·have:X.env.scope.names.lookup x=some .free:=hk
    rw [k] at this;cases this
def yS (to ti te:TE) (tget:V→V→Hp→VK→Prop) (tip:TIp) (tset:yg):TS:=fun D σ H=>to σ H fun o H1=>ti σ H1 fun i H2=>tget o i H2 fun x H3=>te σ H3 fun y H4=>tip x y H4 fun z H5=>tset o i z H5 fun H6=>D.nx σ H6
def BH (X:Cx) (t:V→V→Hp→VK→Prop):Prop :=
 ∀(pins:List (Addr×Obj)) (s:Shared) (σ:St) (H:Hp) (o i:V) (ov iv:Value) (Q:VK),Inv X pins σ H s→RelV o ov→RelV i iv→t o i H Q →
  wpAny (model X.prog X.w) X.A (getItem ov iv) (EP X pins σ Q) X.xe s
theorem lj {o i e:Expr} {to ti te:TE} {tget:V→V→Hp→VK→Prop} {tip:TIp} {tset:yg} {op:Operator} {tpos:Pos} (ho:PE X o to) (hi:PE X i ti) (hg:BH X tget) (he:PE X e te) (hp:PIp X op tip) (hs:Bf X tset)
  (ha:∀ov iv new,augStore i ov iv new=(do holding [new,ov,iv] (setItem ov iv new);release [new,ov,iv] [];pure .next):=by intros;rfl):PS X (.AugAssign (.Subscript o i tpos) op e pos) (yS to ti te tget tip tset):=by
 intro pins s σ H D I h
 refine wpAny_AugAssign_SubscriptAny (thn (ho pins s σ H _ I h) fun ov s1 ⟨x1,H1,I1,r1,q1⟩=>?_) ha
 refine thn (hi pins s1 σ H1 _ I1 q1) fun iv s2 ⟨x2,H2,I2,r2,q2⟩=>?_
 refine thn (hg pins s2 σ H2 x1 x2 ov iv _ I2 r1 r2 q2) fun old s3 ⟨x3,H3,I3,r3,q3⟩=>?_
 refine thn (he pins s3 σ H3 _ I3 q3) fun v s4 ⟨x4,H4,I4,r4,q4⟩=>?_
 refine thn (hp pins s4 σ H4 x3 x4 old v _ I4 r3 r4 q4) fun new s5 ⟨x5,H5,I5,r5,q5⟩=>?_
 exact thn (hs pins s5 σ H5 x1 x2 x5 ov iv new _ I5 r1 r2 r5 q5) fun _ s6 ⟨H6,I6,q6⟩=>⟨σ,H6,I6,q6⟩
def ipI (f:Int→Int→Int):TIp:=fun x y H Q=>∃i j,x=.int i∧y=.int j∧Q (.int (f i j)) H
theorem my:PIp X .Add (ipI fun i j=>i+j):=by
 intro pins s σ H x y v u Q I r1 r2 h
 obtain ⟨i,j,e1,e2,q⟩:=h
 subst e1;subst e2
 obtain ⟨t,rfl⟩:=r1
 obtain ⟨t',rfl⟩:=r2
 exact iadd_int ⟨.int _,H,I.tok _,⟨_,rfl⟩,q⟩
theorem xO:PIp X .Sub (ipI fun i j=>i-j):=by
 intro pins s σ H x y v u Q I r1 r2 h
 obtain ⟨i,j,e1,e2,q⟩:=h
 subst e1;subst e2
 obtain ⟨t,rfl⟩:=r1
 obtain ⟨t',rfl⟩:=r2
 exact isub_int ⟨.int _,H,I.tok _,⟨_,rfl⟩,q⟩
end
section
variable {X:Cx} {pos:Pos}
def wK (c:TT) (tb:TS):TS:=fun D σ H=>∃W:Nat→St→Hp→Prop,(∃m,W m σ H)∧∀m σ H,W m σ H →
 c σ H fun b H1=>if b=true then ∃N:St→Hp→Prop,(∀σ' H',N σ' H'→∃m',m'<m∧W m' σ' H')∧tb {D with nx:=N,ct:=N,bk:=D.nx} σ H1 else D.nx σ H1
theorem k_ {c:Expr} {body:List Stmt} {tc:TT} {tb:TS} (hp:PassesOwn (model X.prog X.w) X.A X.env X.xe) (hc:PT X c tc) (hb:PSs X body tb):PS X (.While c body [] pos) (wK tc tb):=by
 intro pins s σ H D I h
 obtain ⟨W,⟨m0,w0⟩,turn⟩:=h
 refine wpAny_While (codeAny_whileLoop (fun n s'=>∃σ' H',Inv X pins σ' H' s'∧W n σ' H') ?_ m0 ⟨σ,H,I,w0⟩)
 rintro n s1 ⟨σ1,H1,I1,w1⟩
 refine wpAny_passesOwn hp (thn (hc pins s1 σ1 H1 _ I1 (turn n σ1 H1 w1)) fun b s2 ⟨H2,I2,q2⟩=>?_)
 cases b with
 | true =>
  obtain ⟨N,hN,q2⟩:=q2
  rw [if_pos rfl]
  refine wpAny_passesOwn hp (thn (hb pins s2 σ1 H2 _ I2 q2) fun f s3 q3=>?_)
  cases f with
  | next =>
   obtain ⟨σ3,H3,I3,n3⟩:=q3
   obtain ⟨m',hm,w3⟩:=hN σ3 H3 n3
   exact ⟨m',hm,σ3,H3,I3,w3⟩
  | cont =>
   obtain ⟨σ3,H3,I3,n3⟩:=q3
   obtain ⟨m',hm,w3⟩:=hN σ3 H3 n3
   exact ⟨m',hm,σ3,H3,I3,w3⟩
  | brk=>exact q3
  | ret v=>exact q3
 | false =>
  rw [if_neg aV]
  exact wpAny_execs_nil ⟨σ1,H2,I2,q2⟩
end
structure It where
 go:Nat→Hp→Prop
 yld:Nat→Hp→V→Hp→Prop
 stop:Nat→Hp→Prop
def mT (X:Cx) (pins:List (Addr×Obj)) (H:Hp) (b:Addr):Prop :=
 H b=none∧b≠X.env.locals∧b∉X.fs∧(b∈X.ex∨X.s₀.heap.objs.size≤b)∧(∀x c,X.env.cells.lookup x=some c→c≠b)∧∀p∈X.pn++pins,p.1≠b
theorem Inv.wx {X:Cx} {pins:List (Addr×Obj)} {σ:St} {H H':Hp} {s:Shared} {b:Addr} (I:Inv X pins σ H s) (hb:s.heap.objs.size≤b) (hn:H' b=none):mT X pins H' b:=by
 refine ⟨hn,gq (bp I.lt hb),I.AQ hb,.inr (cu I.sz hb),fun x c e z=>?_,fun p hp z=>?_⟩
 ·obtain ⟨v,q⟩:=I.cell x c e
  exact absurd (bp q.lt (by rw [z];exact hb)) (cL _)
 ·exact absurd (bp (aW (I.pin p hp).1) (by rw [z];exact hb)) (cL _)
structure Turn (P:Program) (w:World) (K:ai) (tg:Expr) (J:It) (fp:List Addr) (it:Addr) (tn:Nat→Heap→Prop):Prop where
 mem:it∈fp
 obj:∀i h,tn i h→∀b∈fp,∃o,h.get? b=some o∧∀v,o.data≠.cell v
 keep:∀i h h',tn i h→(∀b∈fp,∀o,h.get? b=some o→h'.get? b=some o)→tn i h'
 item:∀(X:Cx),X.prog=P→X.w=w→X.K=K→X.calm=true→∀(i:Nat) (pins:List (Addr×Obj)) (s:Shared) (σ:St) (H:Hp) (E:Value→Shared→Prop),Inv X pins σ H s→(∀b∈fp,mT X pins H b)→tn i s.heap→J.go i H →
  wpAny (model P w) X.A (pyNext (.ref it)) (fun r s1=>∃u,r=some u ∧
   wpAny (model P w) X.A (letOwnedTupleGo tg (.ref it) u) (fun _ s2=>∃x H',Inv X pins σ H' s2∧RelV x u∧J.yld i H x H'∧tn (i+1) s2.heap∧∀b∈fp,H' b=none) E s1) E s
 done:∀(X:Cx),X.prog=P→X.w=w→X.K=K→X.calm=true→∀(i:Nat) (pins:List (Addr×Obj)) (s:Shared) (σ:St) (H:Hp) (E:Value→Shared→Prop),Inv X pins σ H s→(∀b∈fp,mT X pins H b)→tn i s.heap→J.stop i H →
  wpAny (model P w) X.A (pyNext (.ref it)) (fun r s1=>r=none∧Inv X pins σ H s1) E s
 self:∀(A:Around) (i:Nat) (s:Shared) (Q:Value→Shared→Prop) (E:Value→Shared→Prop),tn i s.heap→Q (.ref it) s→wpAny (model P w) A (pyIter (.ref it)) Q E s
abbrev TI:=St→Hp→(It→Hp→Prop)→Prop
def PIE (X:Cx) (pins:List (Addr×Obj)) (σ:St) (tg:Expr) (R:It→Hp→Prop) (itv:Value) (s2:Shared):Prop :=
 ∃(it:Addr) (fp:List Addr) (tn:Nat→Heap→Prop) (J:It) (H':Hp),itv=.ref it∧Inv X pins σ H' s2∧Turn X.prog X.w X.K tg J fp it tn∧tn 0 s2.heap∧(∀b∈fp,mT X pins H' b)∧R J H'
def PI (X:Cx) (tg iter:Expr) (wi:TI):Prop :=
 ∀(pins:List (Addr×Obj)) (s:Shared) (σ:St) (H:Hp) (R:It→Hp→Prop),Inv X pins σ H s→wi σ H R →
  wpAny (model X.prog X.w) X.A (eval iter X.env) (fun v s1=>wpAny (model X.prog X.w) X.A (pyIter v) (PIE X pins σ tg R) X.xe s1) X.xe s
theorem vI {M:Model} {A:Around} {E:Value→Shared→Prop} {s:Shared} {tg:Expr} {it:Addr} {u:Value} {o:Obj} {n:String} {vs:Array Value} {Q:Unit→Shared→Prop} (ho:s.heap.get? it=some o) (hc:o.cls=.type n) (hd:o.data=.fields vs)
    (hn:["enumerate","zip","dict_itemiterator","dict_reverseitemiterator","odict_iterator","itertools.zip_longest","itertools.pairwise"].contains n=false) (hQ:Q () s):wpAny M A (letOwnedTupleGo tg (.ref it) u) Q E s:=by
  unfold letOwnedTupleGo
  cases tg<;>first
    | exact wpAny_pure hQ
    | (cases u<;>first
        | exact wpAny_pure hQ
        | (refine wpAny_bind (wpAny_load ho ?_)
           rw [hc,hd]
           show wpAny M A (if (["enumerate","zip","dict_itemiterator","dict_reverseitemiterator","odict_iterator","itertools.zip_longest","itertools.pairwise"].contains n&&vs[0]?==some (rawInt _))=true then _ else _) Q E s
           rw [if_neg (by intro h;rw [hn,cZ] at h;cases h)]
           exact wpAny_pure hQ))
def Itl (K:ai) (a:Addr):It :=
 ⟨fun i H=>∃xs x,SqL K H a xs∧xs[i]?=some x,fun i H x H'=>H'=H∧∀xs,SqL K H a xs→xs[i]?=some x,fun i H=>∃xs,SqL K H a xs∧xs.length≤i⟩
def Itt (K:ai) (a:Addr):It :=
 ⟨fun i H=>∃xs x,SqT K H a xs∧xs[i]?=some x,fun i H x H'=>H'=H∧∀xs,SqT K H a xs→xs[i]?=some x,fun i H=>∃xs,SqT K H a xs∧xs.length≤i⟩
def Itr (lo:Int) (n:Nat):It:=⟨fun i _=>i<n,fun i H x H'=>H'=H∧x=.int (lo+i),fun i _=>n≤i⟩
theorem lR {P:Program} {w:World} {K:ai} {tg:Expr} (a it:Addr):Turn P w K tg (Itl K a) [it] it (fun i h=>h.IsListIter it a i) where
 mem:=by simp
 obj:=fun i h st b hb=>by
  have e:b=it:=by simpa using hb
  subst e
  obtain ⟨o,e,c,d⟩:=st
  exact ⟨o,e,fun v z=>by rw [d] at z;cases z⟩
 keep:=fun i h h' st k=>st.at fun o e=>k it (by simp) o e
 item:=by
  intro X hP hw hK hc i pins s σ H E I hf st hg
  subst hP hw hK
  obtain ⟨xs,x,hq,hx⟩:=hg
  obtain ⟨its,rv,p,hz⟩:=I.list hq
  obtain ⟨u,hu,ru⟩:=rv.get hx
  obtain ⟨f0,f1,f2,f3,f4,f5⟩:=hf it (by simp)
  refine wpAny_pyNext_list_item st p.isList (x:=u) (by simpa using hu) fun h' st' sb=>?_
  have I1:Inv X pins σ H {s with heap:=h'}:=I.turned (t':=s.toks) (fun b o hb e=>(sb.2 b hb).trans e) f0 f1 f3 f4 f5
  obtain ⟨o,e,c,d⟩:=id st'
  exact ⟨u,rfl,vI (s:={s with heap:=h'}) e c d (by decide) ⟨x,H,I1,ru,⟨rfl,fun ys hy=>by rw [I.tN hy hq];exact hx⟩,st',fun b hb=>(hf b hb).1⟩⟩
 done:=by
  intro X hP hw hK hc i pins s σ H E I hf st hg
  subst hP hw hK
  obtain ⟨xs,hq,hx⟩:=hg
  obtain ⟨its,rv,p,hz⟩:=I.list hq
  obtain ⟨f0,f1,f2,f3,f4,f5⟩:=hf it (by simp)
  have hl:=rv.length
  exact wpAny_pyNext_list_end (I.ok.hd hc) st p.isList (by simp;omega) fun h' eb=>⟨rfl,I.turned (t':=s.toks) (fun b o hb e=>eb b o hb e) f0 f1 f3 f4 f5⟩
 self:=fun _ _ _ _ _ st h=>wpAny_pyIter_listiter st h
theorem kq {P:Program} {w:World} {K:ai} {tg:Expr} (a it:Addr):Turn P w K tg (Itt K a) [it] it (fun i h=>h.IsTupleIter it a i) where
 mem:=by simp
 obj:=fun i h st b hb=>by
  have e:b=it:=by simpa using hb
  subst e
  obtain ⟨o,e,c,d⟩:=st
  exact ⟨o,e,fun v z=>by rw [d] at z;cases z⟩
 keep:=fun i h h' st k=>st.at fun o e=>k it (by simp) o e
 item:=by
  intro X hP hw hK hc i pins s σ H E I hf st hg
  subst hP hw hK
  obtain ⟨xs,x,hq,hx⟩:=hg
  obtain ⟨its,rv,p,hz⟩:=I.tuple hq
  obtain ⟨u,hu,ru⟩:=rv.get hx
  obtain ⟨f0,f1,f2,f3,f4,f5⟩:=hf it (by simp)
  refine wpAny_pyNext_tuple_item st (show s.heap.IsTuple a its.toArray from p) (x:=u) (by simpa using hu) fun h' st' sb=>?_
  have I1:Inv X pins σ H {s with heap:=h'}:=I.turned (t':=s.toks) (fun b o hb e=>(sb.2 b hb).trans e) f0 f1 f3 f4 f5
  obtain ⟨o,e,c,d⟩:=id st'
  exact ⟨u,rfl,vI (s:={s with heap:=h'}) e c d (by decide) ⟨x,H,I1,ru,⟨rfl,fun ys hy=>by rw [I.pX hy hq];exact hx⟩,st',fun b hb=>(hf b hb).1⟩⟩
 done:=by
  intro X hP hw hK hc i pins s σ H E I hf st hg
  subst hP hw hK
  obtain ⟨xs,hq,hx⟩:=hg
  obtain ⟨its,rv,p,hz⟩:=I.tuple hq
  obtain ⟨f0,f1,f2,f3,f4,f5⟩:=hf it (by simp)
  have hl:=rv.length
  exact wpAny_pyNext_tuple_end (I.ok.hd hc) st (show s.heap.IsTuple a its.toArray from p) (by simp;omega) fun h' eb=>⟨rfl,I.turned (t':=s.toks) (fun b o hb e=>eb b o hb e) f0 f1 f3 f4 f5⟩
 self:=fun _ _ _ _ _ st h=>wpAny_pyIter_tupleiter st h
theorem oO {P:Program} {w:World} {K:ai} {tg:Expr} (it:Addr) (lo:Int) (n:Nat):Turn P w K tg (Itr lo n) [it] it (fun i h=>IsRangeIter h it (lo+(i:Nat)*1) ((n:Int)-(i:Nat)) 1) where
 mem:=by simp
 obj:=fun i h st b hb=>by
  have e:b=it:=by simpa using hb
  subst e
  exact ⟨_,st,fun v z=>by
   have z':Data.fields _=Data.cell v:=z
   cases z'⟩
 keep:=fun i h h' st k=>k it (by simp) _ st
 item:=by
  intro X hP hw hK hc i pins s σ H E I hf st hg
  subst hP hw hK
  obtain ⟨f0,f1,f2,f3,f4,f5⟩:=hf it (by simp)
  have W:=Walks.range (prog:=X.prog) (w:=X.w) (I.ok.hd hc) it lo 1 n
  refine W.item i s _ _ hg st fun v h' tk hv st' kk=>?_
  obtain ⟨t,rfl⟩:=hv
  have I1:Inv X pins σ H {s with heap:=h',toks:=tk}:=I.turned (fun b o hb e=>kk b o (by simpa using hb) e) f0 f1 f3 f4 f5
  refine ⟨_,rfl,vI (s:={s with heap:=h',toks:=tk}) (n:="range_iterator") st' rfl rfl (by decide) ⟨.int (lo+i),H,I1,⟨t,?_⟩,⟨rfl,rfl⟩,st',fun b hb=>(hf b hb).1⟩⟩
  rw [Int.mul_one]
 done:=by
  intro X hP hw hK hc i pins s σ H E I hf st hg
  subst hP hw hK
  obtain ⟨f0,f1,f2,f3,f4,f5⟩:=hf it (by simp)
  exact wpAny_pyNext_range_end (I.ok.hd hc) st (by have:n≤i:=hg;omega) fun h' eb=>⟨rfl,I.turned (t':=s.toks) (fun b o hb e=>eb b o hb e) f0 f1 f3 f4 f5⟩
 self:=fun _ _ _ _ _ st h=>wpAny_pyIter_rangeiter st h
end L2
namespace L2
open PySem PySem.Spec PyProof.Rows
section
variable {X:Cx} {tg:Expr}
theorem nZ {pins:List (Addr×Obj)} {σ:St} {H:Hp} {s:Shared} {R:It→Hp→Prop} {E:Value→Shared→Prop} {lo hi:Int} {t u v:Tok} {tk:Nat} (I:Inv X pins σ H s) (h1:-(2^62)≤lo) (h2:lo<2^62) (h3:-(2^62)≤hi) (h4:hi<2^62)
  (q:R (Itr lo (hi-lo).toNat) H):wpAny (model X.prog X.w) X.A (pyIter (.ref s.heap.objs.size)) (PIE X pins σ tg R) E {s with heap:=s.heap.push {cls:=.type "range",data:=.fields #[.int lo t,.int hi u,.int 1 v]},toks:=tk}:=by
 refine wpAny_pyIter_range (IsRange.new ..) (small_one h1 h2 h3 h4) ?_
 have I1:Inv X pins σ H {s with heap:=s.heap.push {cls:=.type "range",data:=.fields #[.int lo t,.int hi u,.int 1 v]},toks:=tk}:=I.kept fun b o e=>ao _ e
 refine ⟨(s.heap.push {cls:=.type "range",data:=.fields #[.int lo t,.int hi u,.int 1 v]}).objs.size,[(s.heap.push {cls:=.type "range",data:=.fields #[.int lo t,.int hi u,.int 1 v]}).objs.size],_,_,H,rfl,
  I1.kept (t':=tk) fun b o e=>ao _ e,oO _ lo (hi-lo).toNat,?_,fun b hb=>?_,q⟩
 ·have e1:lo+((0:Nat):Int)*1=lo:=by simp
  have e2:(((hi-lo).toNat:Nat):Int)-((0:Nat):Int)=Builtin.Range.rangeSize lo hi 1:=by rw [rangeSize_one];split<;>omega
  show IsRangeIter _ _ (lo+((0:Nat):Int)*1) ((((hi-lo).toNat:Nat):Int)-((0:Nat):Int)) 1
  rw [e1,e2]
  exact bo _ rfl
 ·have e:b=(s.heap.push {cls:=.type "range",data:=.fields #[.int lo t,.int hi u,.int 1 v]}).objs.size:=by simpa using hb
  subst e
  exact I1.wx (aN _) (I1.hok.fresh (aN _))
def AY (ta:TA):TI:=fun σ H R=>ta σ H fun vs H1=>∃j:Int,vs=[.int j]∧-(2^62)≤j∧j<2^62∧R (Itr 0 j.toNat) H1
def AX (ta:TA):TI:=fun σ H R=>ta σ H fun vs H1=>∃i j:Int,vs=[.int i,.int j]∧(-(2^62)≤i∧i<2^62∧-(2^62)≤j∧j<2^62)∧R (Itr i (j-i).toNat) H1
theorem fI {a:Expr} {ta:TA} {p pos:Pos} (hg:Gl X "range") (hm:X.mg "range"=none) (ha:PA X [a] ta) (hs:starEach [a] X.env=[(false,eval a X.env)]:=by rfl):PI X tg (.Call (.Name "range" p) [a] [] pos) (AY ta):=by
 intro pins s σ H R I h
 refine Call_ (iA I hg hm boot_range (cq (thn (ha pos pins s σ H _ I h) fun us s1 ⟨vs,H1,I1,r1,q1⟩=>?_) hs rfl))
 obtain ⟨j,e,q1,q2,q⟩:=q1
 subst e
 cases r1 with
 | cons r rr =>
  cases rr
  obtain ⟨t,rfl⟩:=r
  exact call_range_1 (nZ I1 (by omega) (by omega) q1 q2 (by simpa using q))
theorem ql {a b:Expr} {ta:TA} {p pos:Pos} (hg:Gl X "range") (hm:X.mg "range"=none) (ha:PA X [a,b] ta) (hs:starEach [a,b] X.env=[(false,eval a X.env),(false,eval b X.env)]:=by rfl) (hs2:starEach [b] X.env=[(false,eval b X.env)]:=by rfl) :
  PI X tg (.Call (.Name "range" p) [a,b] [] pos) (AX ta):=by
 intro pins s σ H R I h
 refine Call_ (iA I hg hm boot_range (cq (thn (ha pos pins s σ H _ I h) fun us s1 ⟨vs,H1,I1,r1,q1⟩=>?_) (by rw [hs,hs2]) (by rw [hs2];rfl)))
 obtain ⟨i,j,e,⟨q1,q2,q3,q4⟩,q⟩:=q1
 subst e
 cases r1 with
 | cons r rr =>
  cases rr with
  | cons r' rr =>
   cases rr
   obtain ⟨t,rfl⟩:=r
   obtain ⟨t',rfl⟩:=r'
   exact call_range_2 (nZ I1 q1 q2 q3 q4 q)
def Bl (wi:TI) (g:TG) (tb:TS):TS:=fun D σ H=>wi σ H fun J H1=>∃W:Nat→Nat→St→Hp→Prop,(∃m,W 0 m σ H1)∧∀i m σ H,W i m σ H →
 (J.stop i H∧D.nx σ H)∨(J.go i H∧∃N:St→Hp→Prop,(∀σ' H',N σ' H'→∃m',m'<m∧W (i+1) m' σ' H')∧∀x H',J.yld i H x H'→g x σ H' fun σ2 H2=>tb {D with nx:=N,ct:=N,bk:=D.nx} σ2 H2)
def l_ (fp:List Addr) (h:Heap):List (Addr×Obj):=fp.filterMap fun b=>(h.get? b).map fun o=>(b,o)
theorem iG {fp:List Addr} {h:Heap} {b:Addr} {o:Obj} (hb:b∈fp) (e:h.get? b=some o):(b,o)∈l_ fp h:=List.mem_filterMap.mpr ⟨b,hb,by rw [e];rfl⟩
theorem qz {fp:List Addr} {h:Heap} {p:Addr×Obj} (hp:p∈l_ fp h):p.1∈fp∧h.get? p.1=some p.2:=by
 obtain ⟨b,hb,e⟩:=List.mem_filterMap.mp hp
 cases q:h.get? b with
 | none=>rw [q] at e;cases e
 | some o =>
  rw [q] at e
  have e':(b,o)=p:=Option.some.inj e
  subst e'
  exact ⟨hb,q⟩
theorem Inv.pinned {pins:List (Addr×Obj)} {σ:St} {H:Hp} {s:Shared} {fp:List Addr} (I:Inv X pins σ H s) (hf:∀b∈fp,mT X pins H b) (ho:∀b∈fp,∃o,s.heap.get? b=some o∧∀v,o.data≠.cell v):Inv X (pins++l_ fp s.heap) σ H s :=
 I.jQ fun p hp=>(aM.mp hp).elim (fun z=>I.pin p (aG _ z)) fun z=>by
  obtain ⟨hb,e⟩:=qz z
  obtain ⟨f0,f1,f2,_⟩:=hf p.1 hb
  obtain ⟨o,e',d⟩:=ho p.1 hb
  rw [e] at e';cases e'
  exact ⟨e,f0,f1,f2,d⟩
theorem Inv.ij {pins pl:List (Addr×Obj)} {σ:St} {H:Hp} {s:Shared} (I:Inv X (pins++pl) σ H s):Inv X pins σ H s:=I.jQ fun p hp=>I.pin p (aG _ (aI _ hp))
theorem gh {iter:Expr} {body:List Stmt} {wi:TI} {g:TG} {tb:TS} {pos:Pos} (hp:PassesOwn (model X.prog X.w) X.A X.env X.xe) (hc:X.calm=true) (hi:PI X tg iter wi) (hg:PG X tg g) (hb:PSs X body tb)
  (hs:∀x,foldedSetIterable iter X.env x=pure x:=by intro _;rfl):PS X (.For tg iter body [] pos) (Bl wi g tb):=by
 intro pins s σ H D I h
 refine wpAny_For (thn (hi pins s σ H _ I h) fun v s1 h1=>thn h1 fun itv s2 h2=>?_) hs
 obtain ⟨it,fp,tn,J,H2,e,I2,T,st2,f2,W,⟨m0,w0⟩,turn⟩:=h2
 subst e
 have stat:∀{H':Hp},(∀b∈fp,H' b=none)→∀b∈fp,mT X pins H' b:=fun hn b hb=>⟨hn b hb,(f2 b hb).2⟩
 refine codeAny_forLoop_any (fun n s'=>∃i σ' H',Inv X pins σ' H' s'∧tn i s'.heap∧(∀b∈fp,H' b=none)∧W i n σ' H') ?_ m0 ⟨0,σ,H2,I2,st2,fun b hb=>(f2 b hb).1,w0⟩
 rintro n s3 ⟨i,σ3,H3,I3,st3,fr3,w3⟩
 rcases turn i n σ3 H3 w3 with ⟨stop,qn⟩ | ⟨go,N,hN,step⟩
 ·refine wpAny_passesOwn hp (thn (T.done X rfl rfl rfl hc i pins s3 σ3 H3 X.xe I3 (stat fr3) st3 stop) fun r s4 ⟨hr,I4⟩=>?_)
  subst hr
  exact wpAny_execs_nil ⟨σ3,H3,I4,qn⟩
 ·refine wpAny_passesOwn hp (thn (T.item X rfl rfl rfl hc i pins s3 σ3 H3 X.xe I3 (stat fr3) st3 go) fun r s4 ⟨u,hr,h4⟩=>?_)
  subst hr
  refine wpAny_passesOwn hp (thn h4 fun _ s5 ⟨x,H5,I5,r5,y5,st5,fr5⟩=>?_)
  have I5':=I5.pinned (stat fr5) (T.obj _ _ st5)
  refine wpAny_passesOwn hp (thn (hg _ s5 σ3 H5 x u _ I5' r5 (step x H5 y5)) fun _ s6 ⟨σ6,H6,I6,q6⟩=>?_)
  refine wpAny_passesOwn hp (thn (hb _ s6 σ6 H6 _ I6 q6) fun f s7 q7=>?_)
  have again:∀{σ7:St} {H7:Hp},Inv X (pins++l_ fp s5.heap) σ7 H7 s7→N σ7 H7→∃m,m<n∧∃i σ' H',Inv X pins σ' H' s7∧tn i s7.heap∧(∀b∈fp,H' b=none)∧W i m σ' H':=fun {σ7 H7} I7 n7=>by
   obtain ⟨m',hm,w7⟩:=hN σ7 H7 n7
   refine ⟨m',hm,i+1,σ7,H7,I7.ij,T.keep _ _ _ st5 fun b hb o e=>(I7.pin (b,o) (aG _ (aG _ (iG hb e)))).1,fun b hb=>?_,w7⟩
   obtain ⟨o,e,d⟩:=T.obj _ _ st5 b hb
   exact (I7.pin (b,o) (aG _ (aG _ (iG hb e)))).2.1
  cases f with
  | next=>obtain ⟨σ7,H7,I7,n7⟩:=q7;exact again I7 n7
  | cont=>obtain ⟨σ7,H7,I7,n7⟩:=q7;exact again I7 n7
  | brk=>obtain ⟨σ7,H7,I7,q7⟩:=q7;exact ⟨σ7,H7,I7.ij,q7⟩
  | ret v=>obtain ⟨x7,σ7,H7,I7,r7,q7⟩:=q7;exact ⟨x7,σ7,H7,I7.ij,r7,q7⟩
end
end L2
namespace L2
open PySem PySem.Spec PyProof.Rows
abbrev R2:=V→V→Hp→VK→Prop
def OpR (X:Cx) (f:Value→Value→Sem Value) (r:R2):Prop :=
 ∀(pins:List (Addr×Obj)) (s:Shared) (σ:St) (H:Hp) (x y:V) (v u:Value) (Q:VK),Inv X pins σ H s→RelV x v→RelV y u→r x y H Q →
  wpAny (model X.prog X.w) X.A (f v u) (EP X pins σ Q) X.xe s
def UnR (X:Cx) (f:Value→Sem Value) (r:V→Hp→VK→Prop):Prop :=
 ∀(pins:List (Addr×Obj)) (s:Shared) (σ:St) (H:Hp) (x:V) (v:Value) (Q:VK),Inv X pins σ H s→RelV x v→r x H Q →
  wpAny (model X.prog X.w) X.A (f v) (EP X pins σ Q) X.xe s
def gK (X:Cx) (f:Value) (r:List V→Hp→VK→Prop):Prop :=
 ∀(pins:List (Addr×Obj)) (s:Shared) (σ:St) (H:Hp) (xs:List V) (us:List Value) (Q:VK),Inv X pins σ H s→Vals xs us→r xs H Q →
  wpAny (model X.prog X.w) X.A (call f us) (EP X pins σ Q) X.xe s
def CW (X:Cx) (r:V→Hp→(Bool→Hp→Prop)→Prop):Prop :=
 ∀(pins:List (Addr×Obj)) (s:Shared) (σ:St) (H:Hp) (x:V) (v:Value) (Q:Bool→Hp→Prop),Inv X pins σ H s→RelV x v→r x H Q →
  wpAny (model X.prog X.w) X.A (truthy v) (TP X pins σ Q) X.xe s
def tOp (r:R2) (ta tb:TE):TE:=fun σ H Q=>ta σ H fun x H1=>tb σ H1 fun y H2=>r x y H2 Q
def tUn (r:V→Hp→VK→Prop) (ta:TE):TE:=fun σ H Q=>ta σ H fun x H1=>r x H1 Q
def rI (C:Int→Int→Prop) (g:Int→Int→V):R2:=fun x y H Q=>∃i j,x=.int i∧y=.int j∧C i j∧Q (g i j) H
def rI0 (g:Int→Int→V):R2:=fun x y H Q=>∃i j,x=.int i∧y=.int j∧Q (g i j) H
def rU (g:Int→V):V→Hp→VK→Prop:=fun x H Q=>∃i,x=.int i∧Q (g i) H
section
variable {X:Cx} {a b c:Expr} {ta tb tc:TE} {pos:Pos}
theorem Bd (ha:PE X a ta) (hb:PE X b tb) {pins:List (Addr×Obj)} {s:Shared} {σ:St} {H:Hp} {R:V→V→Hp→Prop} (I:Inv X pins σ H s)
  (h:ta σ H fun x H1=>tb σ H1 fun y H2=>R x y H2) {Q:Value→Shared→Prop} {f:Value→Value→Sem Value}
  (hf:∀v u s2 x y H2,Inv X pins σ H2 s2→RelV x v→RelV y u→R x y H2→wpAny (model X.prog X.w) X.A (f v u) Q X.xe s2) :
  wpAny (model X.prog X.w) X.A (eval a X.env) (fun v s₁=>wpAny (model X.prog X.w) X.A (eval b X.env) (fun u s₂=>wpAny (model X.prog X.w) X.A (f v u) Q X.xe s₂) X.xe s₁) X.xe s:=by
 refine thn (ha pins s σ H _ I h) fun v s1 ⟨x,H1,I1,r1,q1⟩=>?_
 refine thn (hb pins s1 σ H1 _ I1 q1) fun u s2 ⟨y,H2,I2,r2,q2⟩=>?_
 exact hf v u s2 x y H2 I2 r1 r2 q2
theorem bQ {op:Operator} {r:R2} (ho:OpR X (binaryOp op) r) (ha:PE X a ta) (hb:PE X b tb):PE X (.BinOp a op b pos) (tOp r ta tb):=by
 intro pins s σ H Q I h
 exact wpAny_BinOp (Bd ha hb I h fun v u s2 x y H2 I2 rx ry q=>ho pins s2 σ H2 x y v u Q I2 rx ry q)
theorem ko {op:UnaryOp} {r:V→Hp→VK→Prop} (ho:UnR X (unaryOp op) r) (ha:PE X a ta):PE X (.UnaryOp op a pos) (tUn r ta):=by
 intro pins s σ H Q I h
 exact UnaryOp_ (thn (ha pins s σ H _ I h) fun v s1 ⟨x,H1,I1,r1,q1⟩=>ho pins s1 σ H1 x v Q I1 r1 q1)
theorem opI {f:Value→Value→Sem Value} {C:Int→Int→Prop} {g:Int→Int→Int}
  (rule:∀(i j:Int) (t u:Tok) (s:Shared) (Q:Value→Shared→Prop) (E:Value→Shared→Prop),C i j→Q (.int (g i j) s.toks) {s with toks:=s.toks+1}→wpAny (model X.prog X.w) X.A (f (.int i t) (.int j u)) Q E s) :
  OpR X f (rI C fun i j=>.int (g i j)):=by
 intro pins s σ H x y v u Q I rx ry h
 obtain ⟨i,j,rfl,rfl,hc,q⟩:=h
 obtain ⟨t,rfl⟩:=rx
 obtain ⟨t',rfl⟩:=ry
 exact rule i j t t' s _ _ hc ⟨.int (g i j),H,I.tok _,⟨_,rfl⟩,q⟩
theorem BB {f:Value→Value→Sem Value} {g:Int→Int→Int}
  (rule:∀(i j:Int) (t u:Tok) (s:Shared) (Q:Value→Shared→Prop) (E:Value→Shared→Prop),Q (.int (g i j) s.toks) {s with toks:=s.toks+1}→wpAny (model X.prog X.w) X.A (f (.int i t) (.int j u)) Q E s) :
  OpR X f (rI0 fun i j=>.int (g i j)):=by
 intro pins s σ H x y v u Q I rx ry h
 obtain ⟨i,j,rfl,rfl,q⟩:=h
 obtain ⟨t,rfl⟩:=rx
 obtain ⟨t',rfl⟩:=ry
 exact rule i j t t' s _ _ ⟨.int (g i j),H,I.tok _,⟨_,rfl⟩,q⟩
theorem yC {f:Value→Value→Sem Value} {g:Int→Int→Bool}
  (rule:∀(i j:Int) (t u:Tok) (s:Shared) (Q:Value→Shared→Prop) (E:Value→Shared→Prop),Q (.bool (g i j)) s→wpAny (model X.prog X.w) X.A (f (.int i t) (.int j u)) Q E s) :
  OpR X f (rI0 fun i j=>.bl (g i j)):=by
 intro pins s σ H x y v u Q I rx ry h
 obtain ⟨i,j,rfl,rfl,q⟩:=h
 obtain ⟨t,rfl⟩:=rx
 obtain ⟨t',rfl⟩:=ry
 exact rule i j t t' s _ _ ⟨.bl (g i j),H,I,rfl,q⟩
def CZ (i j:Int):Prop:=0<j∧j<1073741824
def CY (i j:Int):Prop:=0≤j∧j≤1000000∧i.natAbs<2^64
def Bi (i j:Int):Prop:=(-(2^64)<i∧i<2^64)∨(-(2^64)<j∧j<2^64)
theorem Bi.ok {i j:Int} (h:Bi i j):IntMulOk i j:=by
 rcases h with ⟨h1,h2⟩ | ⟨h1,h2⟩
 ·exact .of_left (intBits_le_64 h1 h2)
 ·exact .of_right (intBits_le_64 h1 h2)
theorem fG:OpR X (binaryOp .Add) (rI0 fun i j=>.int (i+j)):=BB fun _ _ _ _ _ _ _ q=>add_int q
theorem gj:OpR X (binaryOp .Sub) (rI0 fun i j=>.int (i-j)):=BB fun _ _ _ _ _ _ _ q=>sub_int q
theorem uK:OpR X (binaryOp .Mult) (rI Bi fun i j=>.int (i*j)):=opI fun _ _ _ _ _ _ _ hc q=>mul_int q hc.ok
theorem fR:OpR X (binaryOp .FloorDiv) (rI CZ fun i j=>.int (i/j)):=opI fun i j _ _ _ _ _ hc q=>by
 have h1:(0:Int)<j:=hc.1
 have h2:j<1073741824:=hc.2
 exact floordiv_int (by omega) (by rw [Int.fdiv_eq_ediv_of_nonneg i (by omega)];exact q) (.inl (PyProof.noPylong_small (by omega)))
theorem eX:OpR X (binaryOp .Mod) (rI (fun _ j=>0<j) fun i j=>.int (i%j)):=opI fun i j _ _ _ _ _ hc q=>by
 have h1:(0:Int)<j:=hc
 exact mod_int' (by omega) (by rw [Int.fmod_eq_emod_of_nonneg i (by omega)];exact q)
theorem uJ:OpR X (binaryOp .Pow) (rI CY fun i j=>.int (i^j.toNat)):=opI fun _ _ _ _ _ _ _ hc q=>pow_int_small hc.1 hc.2.1 hc.2.2 q
theorem unI {f:Value→Sem Value} {g:Int→Int}
  (rule:∀(i:Int) (t:Tok) (s:Shared) (Q:Value→Shared→Prop) (E:Value→Shared→Prop),Q (.int (g i) s.toks) {s with toks:=s.toks+1}→wpAny (model X.prog X.w) X.A (f (.int i t)) Q E s) :
  UnR X f (rU fun i=>.int (g i)):=by
 intro pins s σ H x v Q I rx h
 obtain ⟨i,rfl,q⟩:=h
 obtain ⟨t,rfl⟩:=rx
 exact rule i t s _ _ ⟨.int (g i),H,I.tok _,⟨_,rfl⟩,q⟩
theorem iL:UnR X (unaryOp .USub) (rU fun i=>.int (-i)):=unI fun _ _ _ _ _ q=>neg_int q
end
def Bm:V→V→Bool
 | .non,.non=>true | .non,.int _=>true | .int _,.non=>true | .non,.bl _=>true | .bl _,.non=>true | .non,.str _=>true | .str _,.non=>true
 | .int _,.int _=>true | .bl _,.bl _=>true | .str _,.str _=>true | .byt _,.byt _=>true
 | .int _,.str _=>true | .str _,.int _=>true | .bl _,.str _=>true | .str _,.bl _=>true
 | _,_=>false
def rEq:R2:=fun x y H Q=>Bm x y=true∧Q (.bl (decide (x=y))) H
def rNe:R2:=fun x y H Q=>Bm x y=true∧Q (.bl (!decide (x=y))) H
theorem rM {i j:Int}:decide (V.int i=V.int j)=(i==j):=by
 rw [cS]
 simp
theorem uR {i j:Bool}:decide (V.bl i=V.bl j)=(i==j):=by
 rw [cS]
 simp
theorem rK {i j:Str}:decide (V.str i=V.str j)=(i==j):=by
 rw [cS]
 simp
theorem rN {i j:Array UInt8}:decide (V.byt i=V.byt j)=(i.toList==j.toList):=by
 rw [cS]
 cases i
 cases j
 simp
section
variable {X:Cx} {a b c:Expr} {ta tb tc:TE} {pos:Pos}
theorem dY {pins:List (Addr×Obj)} {σ:St} {H:Hp} {s:Shared} {Q:VK} {k k':Bool} (I:Inv X pins σ H s) (q:Q (.bl k) H) (e:k=k'):EP X pins σ Q (.bool k') s:=by
 subst e
 exact ⟨.bl k,H,I,rfl,q⟩
theorem iR:OpR X (compareOp .Eq) rEq:=by
 intro pins s σ H x y v u Q I rx ry h
 obtain ⟨hs,q⟩:=h
 cases x with
 | non =>
  cases rx
  cases y with
  | non=>cases ry;exact PySem.EqNone.eq_none_none (dY I q (by simp))
  | bl j=>cases ry;exact PySem.EqNone.eq_none_bool (dY I q (by simp))
  | int j=>obtain ⟨t',rfl⟩:=ry;exact PySem.EqNone.eq_none_int (dY I q (by simp))
  | str j=>obtain ⟨t',rfl⟩:=ry;exact PySem.EqNone.eq_none_str (dY I q (by simp))
  | _=>exact absurd (show false=true from hs) aV
 | bl i =>
  cases rx
  cases y with
  | non=>cases ry;exact PySem.EqNone.eq_bool_none (dY I q (by simp))
  | bl j=>cases ry;exact eq_bool (dY I q uR)
  | str j=>obtain ⟨t',rfl⟩:=ry;exact PySem.EqMixed.eq_bool_str (dY I q (by simp))
  | _=>exact absurd (show false=true from hs) aV
 | int i =>
  obtain ⟨t,rfl⟩:=rx
  cases y with
  | non=>cases ry;exact PySem.EqNone.eq_int_none (dY I q (by simp))
  | int j=>obtain ⟨t',rfl⟩:=ry;exact eq_int (dY I q rM)
  | str j=>obtain ⟨t',rfl⟩:=ry;exact PySem.EqMixed.eq_int_str (dY I q (by simp))
  | _=>exact absurd (show false=true from hs) aV
 | str i =>
  obtain ⟨t,rfl⟩:=rx
  cases y with
  | non=>cases ry;exact PySem.EqNone.eq_str_none (dY I q (by simp))
  | bl j=>cases ry;exact PySem.EqMixed.eq_str_bool (dY I q (by simp))
  | int j=>obtain ⟨t',rfl⟩:=ry;exact PySem.EqMixed.eq_str_int (dY I q (by simp))
  | str j=>obtain ⟨t',rfl⟩:=ry;exact eq_str (dY I q rK)
  | _=>exact absurd (show false=true from hs) aV
 | byt i =>
  obtain ⟨t,rfl⟩:=rx
  cases y with
  | byt j=>obtain ⟨t',rfl⟩:=ry;exact PySem.W.eq_bytes (dY I q rN)
  | _=>exact absurd (show false=true from hs) aV
 | _=>cases y<;>exact absurd (show false=true from hs) aV
theorem mh:OpR X (compareOp .NotEq) rNe:=by
 intro pins s σ H x y v u Q I rx ry h
 obtain ⟨hs,q⟩:=h
 cases x with
 | non =>
  cases rx
  cases y with
  | non=>cases ry;exact PySem.EqNone.ne_none_none (dY I q (by simp))
  | bl j=>cases ry;exact PySem.EqNone.ne_none_bool (dY I q (by simp))
  | int j=>obtain ⟨t',rfl⟩:=ry;exact PySem.EqNone.ne_none_int (dY I q (by simp))
  | str j=>obtain ⟨t',rfl⟩:=ry;exact PySem.EqNone.ne_none_str (dY I q (by simp))
  | _=>exact absurd (show false=true from hs) aV
 | bl i =>
  cases rx
  cases y with
  | non=>cases ry;exact PySem.EqNone.ne_bool_none (dY I q (by simp))
  | bl j=>cases ry;exact ne_bool (dY I q (congrArg not uR))
  | str j=>obtain ⟨t',rfl⟩:=ry;exact PySem.EqMixed.ne_bool_str (dY I q (by simp))
  | _=>exact absurd (show false=true from hs) aV
 | int i =>
  obtain ⟨t,rfl⟩:=rx
  cases y with
  | non=>cases ry;exact PySem.EqNone.ne_int_none (dY I q (by simp))
  | int j=>obtain ⟨t',rfl⟩:=ry;exact ne_int (dY I q (congrArg not rM))
  | str j=>obtain ⟨t',rfl⟩:=ry;exact PySem.EqMixed.ne_int_str (dY I q (by simp))
  | _=>exact absurd (show false=true from hs) aV
 | str i =>
  obtain ⟨t,rfl⟩:=rx
  cases y with
  | non=>cases ry;exact PySem.EqNone.ne_str_none (dY I q (by simp))
  | bl j=>cases ry;exact PySem.EqMixed.ne_str_bool (dY I q (by simp))
  | int j=>obtain ⟨t',rfl⟩:=ry;exact PySem.EqMixed.ne_str_int (dY I q (by simp))
  | str j=>obtain ⟨t',rfl⟩:=ry;exact ne_str (dY I q (congrArg not rK))
  | _=>exact absurd (show false=true from hs) aV
 | byt i =>
  obtain ⟨t,rfl⟩:=rx
  cases y with
  | byt j=>obtain ⟨t',rfl⟩:=ry;exact PySem.W.ne_bytes (dY I q (congrArg not rN))
  | _=>exact absurd (show false=true from hs) aV
 | _=>cases y<;>exact absurd (show false=true from hs) aV
theorem iP:OpR X (compareOp .Lt) (rI0 fun i j=>.bl (decide (i<j))):=yC fun _ _ _ _ _ _ _ q=>lt_int q
theorem qu:OpR X (compareOp .LtE) (rI0 fun i j=>.bl (decide (i≤j))):=yC fun _ _ _ _ _ _ _ q=>le_int q
theorem iQ:OpR X (compareOp .Gt) (rI0 fun i j=>.bl (decide (j<i))):=yC fun _ _ _ _ _ _ _ q=>gt_int q
theorem xB:OpR X (compareOp .GtE) (rI0 fun i j=>.bl (decide (j≤i))):=yC fun _ _ _ _ _ _ _ q=>ge_int q
theorem cH (b:Expr) {op:CmpOp} (h:op≠.In:=by decide) (h2:op≠.NotIn:=by decide):behindInMarks op b=false:=by
 have e1:(op==CmpOp.In)=false:=by cases op<;>first | rfl | exact absurd rfl h
 have e2:(op==CmpOp.NotIn)=false:=by cases op<;>first | rfl | exact absurd rfl h2
 cases b<;>simp [behindInMarks,e1,e2]
theorem gC {op:CmpOp} {r:R2} (ho:OpR X (compareOp op) r) (ha:PE X a ta) (hb:PE X b tb) (hm:behindInMarks op b=false):PE X (.Compare a [op] [b] pos) (tOp r ta tb):=by
 intro pins s σ H Q I h
 exact wpAny_Compare1 (Bd ha hb I h fun v u s2 x y H2 I2 rx ry q=>ho pins s2 σ H2 x y v u Q I2 rx ry q) hm
def wN (t:TE):TT:=fun σ H Q=>t σ H fun x H'=>∃k,x=.bl k∧Q k H'
theorem cm {op:CmpOp} {r:R2} (ho:OpR X (compareOp op) r) (ha:PE X a ta) (hb:PE X b tb) (hm:behindInMarks op b=false):PT X (.Compare a [op] [b] pos) (wN (tOp r ta tb)):=by
 intro pins s σ H Q I h
 refine wpAny_isTrue_Compare1 (thn (ha pins s σ H _ I h) fun v s1 ⟨x,H1,I1,r1,q1⟩=>thn (hb pins s1 σ H1 _ I1 q1) fun u s2 ⟨y,H2,I2,r2,q2⟩ =>
  thn (ho pins s2 σ H2 x y v u _ I2 r1 r2 q2) fun c s3 ⟨z,H3,I3,r3,k,e,q3⟩=>?_) hm
 subst e
 cases r3
 exact wpAny_truthy_bool ⟨H3,I3,q3⟩
def uq (r r':R2) (ta tb tc:TE):TE:=fun σ H Q=>ta σ H fun x H1=>tb σ H1 fun y H2=>r x y H2 fun z H3=>∃k,z=.bl k ∧
 (if k=true then tc σ H3 fun w' H4=>r' y w' H4 Q else Q (.bl false) H3)
theorem ly {op op':CmpOp} {r r':R2} (ho:OpR X (compareOp op) r) (ho':OpR X (compareOp op') r') (ha:PE X a ta) (hb:PE X b tb) (hc:PE X c tc)
  (hm:lastMarks [op,op'] [b,c]=false:=by with_unfolding_all rfl):PE X (.Compare a [op,op'] [b,c] pos) (uq r r' ta tb tc):=by
 intro pins s σ H Q I h
 refine Compare_chain (thn (ha pins s σ H _ I h) fun v s1 ⟨x,H1,I1,r1,q1⟩=>chain_link (thn (hb pins s1 σ H1 _ I1 q1) fun u s2 ⟨y,H2,I2,r2,q2⟩ =>
  thn (ho pins s2 σ H2 x y v u _ I2 r1 r2 q2) fun d s3 ⟨z,H3,I3,r3,k,e,q3⟩=>?_)) hm
 subst e
 cases r3
 refine wpAny_truthy_bool ?_
 cases k with
 | false=>exact ite_ff ⟨.bl false,H3,I3,rfl,q3⟩
 | true=>exact ite_tt (chain_last (thn (hc pins s3 σ H3 _ I3 q3) fun w' s4 ⟨z',H4,I4,r4,q4⟩=>ho' pins s4 σ H4 y z' u w' Q I4 r2 r4 q4))
theorem kZ {op op':CmpOp} {r r':R2} (ho:OpR X (compareOp op) r) (ho':OpR X (compareOp op') r') (ha:PE X a ta) (hb:PE X b tb) (hc:PE X c tc)
  (hm:lastMarks [op,op'] [b,c]=false:=by with_unfolding_all rfl):PT X (.Compare a [op,op'] [b,c] pos) (wN (uq r r' ta tb tc)):=by
 intro pins s σ H Q I h
 refine isTrue_chain (thn (ha pins s σ H _ I h) fun v s1 ⟨x,H1,I1,r1,q1⟩=>test_link (thn (hb pins s1 σ H1 _ I1 q1) fun u s2 ⟨y,H2,I2,r2,q2⟩ =>
  thn (ho pins s2 σ H2 x y v u _ I2 r1 r2 q2) fun d s3 ⟨z,H3,I3,r3,k,e,q3⟩=>?_)) hm
 subst e
 cases r3
 refine wpAny_truthy_bool ?_
 cases k with
 | false =>
  obtain ⟨k',e',q'⟩:=q3
  cases e'
  exact ite_ff ⟨H3,I3,q'⟩
 | true =>
  refine ite_tt (test_last (thn (hc pins s3 σ H3 _ I3 q3) fun w' s4 ⟨z',H4,I4,r4,q4⟩=>thn (ho' pins s4 σ H4 y z' u w' _ I4 r2 r4 q4) fun d' s5 ⟨z2,H5,I5,r5,k2,e2,q5⟩=>?_))
  subst e2
  cases r5
  exact wpAny_truthy_bool ⟨H5,I5,q5⟩
def Be (K:ai) (x:V) (H:Hp) (k:Bool):Prop :=
 match x with
 | .non=>k=false
 | .bl b=>k=b
 | .int i=>k=(i != 0)
 | .str y=>y.length≤sizeLine∧k=((y.length:Int) != 0)
 | .byt y=>y.size≤sizeLine∧k=((y.size:Int) != 0)
 | .ref p=>(∃xs,SqL K H p xs∧k=!xs.isEmpty)∨(∃xs,SqT K H p xs∧k=!xs.isEmpty)∨∃kvs,H p=some (.dK kvs)∧k=!kvs.isEmpty
 | _=>False
theorem pd {κ:Type} {kvs:List (κ×V)} {vs:List (κ×Value)} (r:KV kvs vs):(!vs.isEmpty)=!kvs.isEmpty:=by
 cases r<;>rfl
theorem kD {xs:List V} {its:List Value} (r:Vals xs its):(!its.toArray.isEmpty)=!xs.isEmpty:=by
 cases r<;>simp
theorem kB:(sizeLine:Nat)<2^63:=by rw [sizeLine_eq];decide
theorem um:CW X (fun x H Q=>∃k,Be X.K x H k∧Q k H):=by
 intro pins s σ H x v Q I rx h
 obtain ⟨k,e,q⟩:=h
 have hl:=kB
 have hs:sizeLine=16777216:=sizeLine_eq
 cases x with
 | non =>
  cases rx
  have e':k=false:=e
  subst e'
  exact truthy_none ⟨H,I,q⟩
 | bl b =>
  cases rx
  have e':k=b:=e
  subst e'
  exact wpAny_truthy_bool ⟨H,I,q⟩
 | int i =>
  obtain ⟨t,rfl⟩:=rx
  have e':k=(i != 0):=e
  subst e'
  exact PySem.P.truthy_int ⟨H,I,q⟩
 | str y =>
  obtain ⟨t,rfl⟩:=rx
  obtain ⟨hy,e'⟩:y.length≤sizeLine∧k=((y.length:Int) != 0):=e
  subst e'
  exact PySem.P.truthy_str (by omega) ⟨H,I.tok _,q⟩
 | byt y =>
  obtain ⟨t,rfl⟩:=rx
  obtain ⟨hy,e'⟩:y.size≤sizeLine∧k=((y.size:Int) != 0):=e
  subst e'
  exact PySem.W.truthy_bytes (by omega) ⟨H,I.tok _,q⟩
 | ref p =>
  cases rx
  have e':(∃xs,SqL X.K H p xs∧k=!xs.isEmpty)∨(∃xs,SqT X.K H p xs∧k=!xs.isEmpty)∨∃kvs,H p=some (.dK kvs)∧k=!kvs.isEmpty:=e
  rcases e' with ⟨xs,hx,e'⟩ | ⟨xs,hx,e'⟩ | ⟨kvs,hx,e'⟩
  ·subst e'
   obtain ⟨its,r,pl,hz⟩:=I.list hx
   have hlen:=r.length
   exact wpAny_truthy_list pl.isList (by simp only [aT];omega) ⟨H,I.tok _,by rw [kD r];exact q⟩
  ·subst e'
   obtain ⟨its,r,pl,hz⟩:=I.tuple hx
   have hlen:=r.length
   exact truthy_tuple pl (by simp only [aT];omega) ⟨H,I.tok _,by rw [kD r];exact q⟩
  ·subst e'
   obtain ⟨hz,hS,vs,r,m⟩:kvs.length≤sizeLine∧(p==sysModules)=false∧∃vs,KV kvs vs∧s.heap.DictOf (dZ X.prog X.w) p vs:=I.hok p _ hx
   have hlen:kvs.length=vs.length:=Paired.length r
   exact wpAny_truthy_dict hS m (by omega) ⟨H,I.tok _,by rw [pd r];exact q⟩
 | _=>exact (show False from e).elim
theorem sZ (ha:PE X a ta) (he:∀whole,isTrue a X.env whole=(do let v ←whole;standAt a.pos;holding [v] (truthy v))) :
  PT X a (fun σ H Q=>ta σ H fun x H'=>∃k,Be X.K x H' k∧Q k H'):=by
 intro pins s σ H Q I h
 exact isTrue_plain (thn (ha pins s σ H _ I h) fun v s1 ⟨x,H1,I1,r1,q1⟩=>um pins s1 σ H1 x v Q I1 r1 q1) (he _)
theorem vals1 {x:V} {us:List Value} (r:Vals [x] us):∃u,us=[u]∧RelV x u:=by
 cases r with
 | cons r1 r2=>cases r2;exact ⟨_,rfl,r1⟩
theorem vals2 {x y:V} {us:List Value} (r:Vals [x,y] us):∃u w',us=[u,w']∧RelV x u∧RelV y w':=by
 cases r with
 | cons r1 r2 =>
  cases r2 with
  | cons r3 r4=>cases r4;exact ⟨_,_,rfl,r1,r3⟩
theorem oK:gK X (.builtin "abs") (fun xs H Q=>∃i,xs=[.int i]∧Q (.int (if i<0 then -i else i)) H):=by
 intro pins s σ H xs us Q I r h
 obtain ⟨i,rfl,q⟩:=h
 obtain ⟨u,rfl,t,rfl⟩:=vals1 r
 exact call_abs_int fun u tk=>⟨.int (if i<0 then -i else i),H,I.tok _,⟨_,rfl⟩,q⟩
theorem rY (hc:X.calm=true):gK X (.builtin "max") (fun xs H Q=>∃i j,xs=[.int i,.int j]∧Q (.int (if j>i then j else i)) H):=by
 intro pins s σ H xs us Q I r h
 obtain ⟨i,j,rfl,q⟩:=h
 obtain ⟨u,w',rfl,⟨t,rfl⟩,⟨t',rfl⟩⟩:=vals2 r
 refine max_two_ints (I.ok.hd hc) fun h' tk k=>⟨_,H,I.kept k,?_,q⟩
 by_cases hj:j>i
 ·rw [if_pos hj,if_pos hj];exact ⟨_,rfl⟩
 ·rw [if_neg hj,if_neg hj];exact ⟨_,rfl⟩
theorem rX (hc:X.calm=true):gK X (.builtin "min") (fun xs H Q=>∃i j,xs=[.int i,.int j]∧Q (.int (if j<i then j else i)) H):=by
 intro pins s σ H xs us Q I r h
 obtain ⟨i,j,rfl,q⟩:=h
 obtain ⟨u,w',rfl,⟨t,rfl⟩,⟨t',rfl⟩⟩:=vals2 r
 refine min_two_ints (I.ok.hd hc) fun h' tk k=>⟨_,H,I.kept k,?_,q⟩
 by_cases hj:j<i
 ·rw [if_pos hj,if_pos hj];exact ⟨_,rfl⟩
 ·rw [if_neg hj,if_neg hj];exact ⟨_,rfl⟩
theorem rZ:gK X (.type "int") (fun xs H Q=>(∃i,xs=[.int i]∧Q (.int i) H)∨∃k,xs=[.bl k]∧Q (.int (if k then 1 else 0)) H):=by
 intro pins s σ H xs us Q I r h
 rcases h with ⟨i,rfl,q⟩ | ⟨k,rfl,q⟩
 ·obtain ⟨u,rfl,t,rfl⟩:=vals1 r
  exact call_int_int ⟨.int i,H,I,⟨_,rfl⟩,q⟩
 ·obtain ⟨u,rfl,r1⟩:=vals1 r
  cases r1
  exact call_int_bool ⟨.int (if k then 1 else 0),H,I.tok _,⟨_,rfl⟩,q⟩
end
end L2
namespace L2
open PySem PySem.Spec PyProof.Rows
structure wA (h:Heap) (x dx C:Addr) (mA:Str→Option Value):Prop where
 obj:h.get? x=some (dS C dx)
 ns:h.Ns1 dx mA
 ne:dx≠x
theorem qG {h:Heap} {dx:Addr} {mA:Str→Option Value} (n:h.Ns1 dx mA):∃od,h.get? dx=some od∧∀name,PySem.W.lookIn name od=some (mA name):=by
 obtain ⟨o,es,ep,ho,hd,hk,_,hm⟩:=n
 refine ⟨o,ho,fun name=>?_⟩
 have e:=hm name
 unfold nsFind findBy at e
 rw [←Array.find?_toList] at e
 unfold PySem.W.lookIn
 rw [hd]
 dsimp only
 split
 ·rename_i y q
  rw [q] at e
  exact congrArg some e
 ·rename_i q
  rw [q] at e
  have a:es.toList.any (·.refKey)=false:=by
   rw [List.any_eq_false]
   intro y hy
   obtain ⟨z,t,hkey⟩:=hk y (Array.mem_toList_iff.mp hy)
   simp [DictEntry.refKey,hkey]
  have a':¬es.toList.any (·.refKey)=true:=by rw [a];exact aV
  rw [if_neg a']
  exact congrArg some e
theorem wA.look {h:Heap} {x dx C:Addr} {mA:Str→Option Value} (I:wA h x dx C mA):∃od,PySem.W.InstAt h x (dS C dx) C (some od)∧∀name,PySem.W.lookIn name od=some (mA name) :=
 let ⟨od,ho,hl⟩:=qG I.ns
 ⟨od,⟨I.obj,rfl,rfl,ho⟩,hl⟩
section
variable {prog:Program} {w:World} {A:Around} {E:Value→Shared→Prop} {s:Shared} {K:ai} {x dx C f:Addr} {mA:Str→Option Value} {name:Str} {v:Value}
theorem get_map {expr:Bool} {Q:Value→Shared→Prop} (X:K.In s.heap) (I:wA s.heap x dx C mA) (hg:PySem.W.plainGet K C name=true) (hh:PySem.W.hasDictIn K C=true)
  (ha:cB K (.ref C) name=some none) (hv:mA name=some v) (hv':PySem.W.handedIn v=true) (h:Q v {s with toks:=s.toks+1}) :
  wpAny (model prog w) A (getAttr (.ref x) name expr) Q E s:=by
 obtain ⟨od,J,hl⟩:=I.look
 exact PySem.W.get_value X J (PySem.W.plainGet_of hg).1 (PySem.W.findObj_own hh ha rfl (by rw [hl,hv])) hv' h
theorem vc {ns:List Str} {Q:Unit→Shared→Prop} (X:K.In s.heap) (I:wA s.heap x dx C mA)
  (hs:cB K (.ref C) "__setattr__"=some (some (.builtin "object.__setattr__"))) (hp:PySem.W.plainOver K C=true) (ht:PySem.W.takerIn K C name=some none) (hh:PySem.W.hasDictIn K C=true)
  (hw:PySem.Within mA ns) (hsz:ns.length≤sizeLine)
  (h:∀h',wA h' x dx C (fun y=>if y=name then some v else mA y)→gw dx s.heap h'→Q () {s with heap:=h',toks:=s.toks+2}) :
  wpAny (model prog w) A (setAttr (.ref x) name v) Q E s:=by
 obtain ⟨od,J,hl⟩:=I.look
 refine PySem.W.set_plain X J hs (PySem.W.osa_open (s:={s with toks:=s.toks+1}) (r:=none) X J hp ht fun b=>?_)
 obtain ⟨cd,hc,hd'⟩:=PySem.W.any_some hh
 have hx:s.heap.get? x=some ⟨.ref C,some dx,.plain,#[]⟩:=I.obj
 refine wpAny_bind (wpAny_pure (wpAny_bind (wpAny_bind (wpAny_loadPart hx (wpAny_bind (PySem.W.Looks.here (s:={s with toks:=s.toks+1}) (PySem.W.looks_clsIn X hc) ?_))))))
 rw [hd']
 refine wpAny_pure (a:=some dx) (wpAny_bind (wpAny_pure (wpAny_bind ?_)))
 refine wpAny_nsSet1 (s:={s with toks:=s.toks+1}) I.ns fun h' hn2 hs2=>?_
 obtain ⟨oD,esD,epD,hoD,hdD,hcD⟩:=hn2.count (PySem.Within.cons name v hw)
 refine wpAny_bind (wpAny_lookBehind hoD (by rw [hdD];exact pastItsLine_dict (cu hcD (by rw [bA];omega))) ?_)
 exact wpAny_pure (h _ ⟨(hs2.2 _ (Ne.symm I.ne)).trans I.obj,hn2,I.ne⟩ hs2)
theorem tM {R:Result→Shared→Prop} {vs:List Value} {kw:List (Str×Value)} (X:K.In s.heap) (hm:PySem.W.makesIn K C=true)
  (hi:cB K (.ref C) "__init__"=some (some (.ref f))) (hf:PySem.W.typeIn K (.ref f)=some (.type "function"))
  (h:codeAny (model prog w) (A.under (.builtin "type.__call__" ⟨.ref C::vs,kw⟩)) (.call (.ref f) ⟨.ref (s.heap.objs.size+1)::vs,kw⟩) (PySem.W.InitBack (s.heap.objs.size+1) R)
   {s with heap:=(s.heap.push dk).push (dS C s.heap.objs.size)}) :
  codeAny (model prog w) A (.call (.ref C) ⟨vs,kw⟩) R s:=by
 obtain ⟨hh,g,d,t,os⟩:=s
 exact PySem.W.make_core (PySem.W.makes_of X hm) (PySem.W.looks_findIn X hi) (fun self=>PySem.W.bind_fn X self hf) (.inl rfl) h
end
def kl (f:Str) (v:V):List (Str×V)→List (Str×V)
 | []=>[(f,v)]
 | (g,x)::r=>if g=f then (g,v)::r else (g,x)::kl f v r
theorem jX (f g:Str) (v:V):∀fs:List (Str×V),(kl f v fs).lookup g=if g=f then some v else fs.lookup g
 | []=>by
  show gd g [(f,v)]=_
  by_cases h:g=f
  ·have hb:(g==f)=true:=beq_iff_eq.mpr h
   simp only [gd,hb,if_pos h]
  ·have hb:(g==f)=false:=beq_eq_false_iff_ne.mpr h
   simp only [gd,hb,if_neg h]
 | (k,x)::r=>by
  have ih:=jX f g v r
  rw [show kl f v ((k,x)::r)=(if k=f then (k,v)::r else (k,x)::kl f v r) from rfl]
  by_cases hk:k=f
  ·rw [if_pos hk]
   by_cases h:g=k
   ·have hb:(g==k)=true:=beq_iff_eq.mpr h
    simp only [gd,hb,if_pos (h.trans hk)]
   ·have hb:(g==k)=false:=beq_eq_false_iff_ne.mpr h
    simp only [gd,hb,if_neg (fun e:g=f=>h (e.trans hk.symm))]
  ·rw [if_neg hk]
   by_cases h:g=k
   ·have hb:(g==k)=true:=beq_iff_eq.mpr h
    simp only [gd,hb,if_neg (fun e:g=f=>hk (h.symm.trans e))]
   ·have hb:(g==k)=false:=beq_eq_false_iff_ne.mpr h
    simp only [gd,hb]
    exact ih
theorem j_ (f:Str) (v:V):∀fs:List (Str×V),f∈(kl f v fs).map (·.1)∧∀g,g∈fs.map (·.1)→g∈(kl f v fs).map (·.1)
 | []=>⟨by simp [kl],fun g h=>by simp at h⟩
 | (k,x)::r=>by
  obtain ⟨i1,i2⟩:=j_ f v r
  rw [show kl f v ((k,x)::r)=(if k=f then (k,v)::r else (k,x)::kl f v r) from rfl]
  by_cases hk:k=f
  ·rw [if_pos hk]
   subst hk
   exact ⟨by simp,fun g h=>by simpa using h⟩
  ·rw [if_neg hk]
   refine ⟨?_,fun g h=>?_⟩
   ·rw [bf]
    exact aO _ i1
   ·rw [bf] at h ⊢
    rcases aU.mp h with e | e
    ·exact aU.mpr (.inl e)
    ·exact aO _ (i2 g e)
theorem jY (f:Str) (v:V):∀fs:List (Str×V),(kl f v fs).length≤fs.length+1
 | []=>by simp [kl]
 | (k,x)::r=>by
  have ih:=jY f v r
  rw [show kl f v ((k,x)::r)=(if k=f then (k,v)::r else (k,x)::kl f v r) from rfl]
  by_cases hk:k=f
  ·rw [if_pos hk,bA,bA];omega
  ·rw [if_neg hk,bA,bA];omega
theorem nR.some_of {v:V} {o:Option Value} (r:nR (some v) o):∃u,o=some u∧RelV v u:=by
 cases o with
 | none=>exact (show False from r).elim
 | some u=>exact ⟨u,rfl,r⟩
theorem qW {v:V} {u:Value} (r:RelV v u):PySem.W.handedIn u=true:=by
 cases v with
 | non=>cases (show u=Value.none from r);rfl
 | bl b=>cases (show u=Value.bool b from r);rfl
 | int i=>obtain ⟨t,e⟩:=(show ∃t,u=Value.int i t from r);cases e;rfl
 | str x=>obtain ⟨t,e⟩:=(show ∃t,u=Value.str x t from r);cases e;rfl
 | byt b=>obtain ⟨t,e⟩:=(show ∃t,u=Value.bytes b t from r);cases e;rfl
 | flt b=>obtain ⟨t,e⟩:=(show ∃t,u=Value.float b t from r);cases e;rfl
 | ref a=>cases (show u=Value.ref a from r);rfl
 | ty n=>cases (show u=Value.type n from r);rfl
section
variable {P:Program} {w:World} {H H':Hp} {h h':Heap} {a C dx:Addr} {fs fs':List (Str×V)}
theorem nC (hok:HOk P w H h) (e:H a=some (.ins C dx fs)):∃mA,wA h a dx C mA∧(∀f,nR (fs.lookup f) (mA f))∧PySem.Within mA (fs.map (·.1))∧fs.length≤1000∧H dx=some (.own a):=by
 obtain ⟨d,z,ne,ob,mA,n,r,q⟩:=(show fN P w H h a (.ins C dx fs) from hok a _ e)
 exact ⟨mA,⟨ob,n,ne⟩,r,q,z,d⟩
end
structure Cls (K:ai) (C:Addr):Prop where
 pg:PySem.W.plainGet K C Str.empty=true
 hd:PySem.W.hasDictIn K C=true
 po:PySem.W.plainOver K C=true
 sa:cB K (.ref C) "__setattr__"=some (some (.builtin "object.__setattr__"))
theorem Cls.get {K:ai} {C:Addr} (c:Cls K C) (f:Str):PySem.W.plainGet K C f=true:=c.pg
def jy (K:ai) (C:Addr) (f:Str):Prop:=cB K (.ref C) f=some none
theorem jy.yJ {K:ai} {C:Addr} {f:Str} (n:jy K C f):PySem.W.takerIn K C f=some none:=by
 unfold PySem.W.takerIn
 rw [show cB K (.ref C) f=some none from n]
 rfl
section
variable {X:Cx} {pins:List (Addr×Obj)} {σ:St} {H:Hp} {s:Shared} {a C dx:Addr} {fs:List (Str×V)} {f:Str} {v:V} {A:Around} {E:Value→Shared→Prop}
theorem pf {b:Bool} {Q:Value→Shared→Prop} (I:Inv X pins σ H s) (e:H a=some (.ins C dx fs)) (c:Cls X.K C) (n:jy X.K C f) (l:fs.lookup f=some v)
  (h:∀u s',Inv X pins σ H s'→RelV v u→Q u s'):wpAny (model X.prog X.w) A (getAttr (.ref a) f b) Q E s:=by
 obtain ⟨mA,O,r,_,_,_⟩:=nC I.hok e
 obtain ⟨u,hu,ru⟩:=nR.some_of (v:=v) (o:=mA f) (by rw [←l];exact r f)
 exact get_map I.kIn O (c.get f) c.hd n hu (qW ru) (h u _ (I.tok _) ru)
theorem oP {y:V} {u:Value} {Q:Unit→Shared→Prop} (I:Inv X pins σ H s) (e:H a=some (.ins C dx fs)) (c:Cls X.K C) (n:jy X.K C f) (hl:fs.length<1000) (ry:RelV y u)
  (h:∀s',Inv X pins σ (upd H a (.ins C dx (kl f y fs))) s'→Q () s'):wpAny (model X.prog X.w) A (setAttr (.ref a) f u) Q E s:=by
 obtain ⟨mA,O,r,wi,_,ho⟩:=nC I.hok e
 have hz:(fs.map (·.1)).length≤sizeLine:=by rw [aa,sizeLine_eq];omega
 refine vc I.kIn O c.sa c.po n.yJ c.hd wi hz fun h' O' sb=>h _ ?_
 have hd:∃o,h'.get? dx=some o:=let ⟨o,_,_,e',_⟩:=O'.ns;⟨o,e'⟩
 refine I.write (x:=a) (e:=dx) (by rw [e];exact True.intro) (.inr ho) (fun b q hb z=>(sb.2 b hb).trans z) hd ?_
 refine ⟨by rw [bS O.ne];exact ho,?_,O.ne,O'.obj,_,O'.ns,fun g=>?_,fun g hg=>?_⟩
 ·have:=jY f y fs;omega
 ·show nR ((kl f y fs).lookup g) (if g=f then some u else mA g)
  rw [jX]
  by_cases q:g=f
  ·rw [if_pos q,if_pos q];exact ry
  ·rw [if_neg q,if_neg q];exact r g
 ·by_cases q:g=f
  ·rw [q];exact (j_ f y fs).1
  ·refine (j_ f y fs).2 g (wi g fun z=>hg ?_)
   show (if g=f then some u else mA g)=none
   rw [if_neg q];exact z
theorem Inv.made (I:Inv X pins σ H s):Inv X pins σ (upd (upd H s.heap.objs.size (.own (s.heap.objs.size+1))) (s.heap.objs.size+1) (.ins C s.heap.objs.size []))
  {s with heap:=(s.heap.push dk).push (dS C s.heap.objs.size)}:=by
 have e1:(s.heap.push dk).get? s.heap.objs.size=some dk:=bo s.heap rfl
 have e2:((s.heap.push dk).push (dS C s.heap.objs.size)).get? (s.heap.objs.size+1)=some (dS C s.heap.objs.size):=by
  have:=bo (s.heap.push dk) (o:=dS C s.heap.objs.size) rfl
  rwa [cU] at this
 have e3:(s.heap.push dk).Ns s.heap.objs.size (fun _=>none):=⟨dk,#[],_,e1,rfl,(fun e he=>absurd he (by simp)),fun _=>rfl⟩
 have I1:=I.laid (a:=s.heap.objs.size) (o:=.own (s.heap.objs.size+1)) (h':=s.heap.push dk) (t':=s.toks) (fun b u q=>ao _ q) (aN _) ⟨_,e1⟩
 refine I1.laid (a:=s.heap.objs.size+1) (o:=.ins C s.heap.objs.size []) (t':=s.toks) (fun b u q=>ao _ q) (gr (cU _ _)) ?_
 have ne:s.heap.objs.size≠s.heap.objs.size+1:=bz (cA _)
 refine ⟨by rw [bS ne,aq],dU _,ne,e2,fun _=>none,(Heap.Ns1.of_empty e3).at fun o q=>ao _ q,fun _=>True.intro,fun y hy=>absurd rfl hy⟩
theorem vT {prog:Program} {w:World} {env:Env} {e:Expr} {f:Str} {pos:Pos} {s:Shared} {Q:Value→Shared→Prop} (hb:attributeBase e f env (eval e env)=eval e env)
  (h:wpAny (model prog w) A (eval e env) (fun o s₁=>wpAny (model prog w) A (getAttr o f true) Q E s₁) E s):wpAny (model prog w) A (eval (.Attribute e f pos) env) Q E s :=
 Attribute_any_ h (by rw [arm_eval_Attribute,hb])
end
def Cu (K:ai) (ta tv:TE) (f:Str):TS:=fun D σ H=>tv σ H fun y H1=>ta σ H1 fun x H2=>∃a C dx fs,x=.ref a∧H2 a=some (.ins C dx fs)∧Cls K C∧jy K C f∧fs.length<1000 ∧
 D.nx σ (upd H2 a (.ins C dx (kl f y fs)))
section
variable {X:Cx} {o e value:Expr} {f:Str} {pos pos' tpos:Pos} {ta tv:TE}
theorem uE (ha:PE X o ta) (hv:PE X value tv) (hs:swapsWith value (some (.Attribute o f pos')) pos.line X.env=pure false):PS X (.Assign [.Attribute o f pos'] value pos) (Cu X.K ta tv f):=by
 intro pins s σ H D I h
 refine plainObj_wpAny_Assign_Attribute (thn (hv pins s σ H _ I h) fun u s1 ⟨y,H1,I1,ry,q⟩=>thn (ha pins s1 σ H1 _ I1 q) fun ov s2 ⟨x,H2,I2,rx,a,C,dx,fs,ex,ea,c,n,l,q2⟩=>?_) hs
 subst ex
 obtain rfl:ov=Value.ref a:=rx
 exact oP I2 ea c n l ry fun s3 I3=>⟨σ,_,I3,q2⟩
end
section
variable {X:Cx} {pins:List (Addr×Obj)} {σ:St} {H:Hp} {s:Shared} {A:Around} {E:Value→Shared→Prop} {Q:Value→Shared→Prop} {c:Value} {b:Bool}
inductive pK (K:ai) (H:Hp):V→Value→Prop where
 | non:pK K H .non (.type "NoneType")
 | bl (x:Bool):pK K H (.bl x) (.type "bool")
 | int (i:Int):pK K H (.int i) (.type "int")
 | str (x:Str):pK K H (.str x) (.type "str")
 | flt (x:UInt64):pK K H (.flt x) (.type "float")
 | lst {a:Addr} {xs:List V} (e:H a=some (.lst xs)):pK K H (.ref a) (.type "list")
 | frz {a:Addr} {o:Obj} {xs:List V} (e:H a=some (.frz o (.lst xs))):pK K H (.ref a) (.type "list")
 | tup {a:Addr} {xs:List V} (e:H a=some (.tup xs)):pK K H (.ref a) (.type "tuple")
 | dK {a:Addr} {kvs:List (Key×V)} (e:H a=some (.dK kvs)):pK K H (.ref a) (.type "dict")
 | dT {a:Addr} {kvs:List (List Key×V)} (e:H a=some (.dT kvs)):pK K H (.ref a) (.type "dict")
 | ins {a C dx:Addr} {fs:List (Str×V)} (e:H a=some (.ins C dx fs)) (cl:Cls K C) (ha:cB K (.ref C) "__class__"=some (some (.builtin "object.__class__")))
   (hn:PySem.W.specialIn K (.builtin "object.__class__") "__get__"=some (some (.builtin "getset_descriptor.__get__"))) (htk:PySem.W.takesIn K (.builtin "object.__class__")=some true)
   (hm:dH K C (.type "object")=some true):pK K H (.ref a) (.ref C)
theorem qQ {x:V} {u t:Value} (I:Inv X pins σ H s) (rx:RelV x u) (ty:pK X.K H x t) (e:bu X.K t c=some b) (h:∀tk,Q (.bool b) {s with toks:=tk}) :
  wpAny (model X.prog X.w) A (call (.builtin "isinstance") [u,c]) Q E s:=by
 cases ty with
 | non=>cases (show u=Value.none from rx);exact cP PySem.W.kitx_none I.kIn True.intro e (fun z=>nomatch z) h
 | bl y=>cases (show u=Value.bool y from rx);exact cP PySem.W.kitx_bool I.kIn True.intro e (fun z=>nomatch z) h
 | int i=>obtain ⟨t,q⟩:=(show ∃t,u=Value.int i t from rx);cases q;exact cP PySem.W.kitx_int I.kIn True.intro e (fun z=>nomatch z) h
 | str y=>obtain ⟨t,q⟩:=(show ∃t,u=Value.str y t from rx);cases q;exact cP PySem.W.kitx_str I.kIn True.intro e (fun z=>nomatch z) h
 | flt y=>obtain ⟨t,q⟩:=(show ∃t,u=Value.float y t from rx);cases q;exact cP PySem.W.kitx_float I.kIn True.intro e (fun z=>nomatch z) h
 | @lst a xs ea =>
  cases (show u=Value.ref a from rx)
  obtain ⟨_,_,n,_,h1⟩:=(show fN X.prog X.w H s.heap a (.lst xs) from I.hok a _ ea)
  exact cP PySem.W.kitx_list I.kIn ⟨_,h1,rfl⟩ e (fun z=>nomatch z) h
 | @frz a ob xs ea =>
  cases (show u=Value.ref a from rx)
  obtain ⟨_,_,_,n,_,h1⟩:=(show fN X.prog X.w H s.heap a (.frz ob (.lst xs)) from I.hok a _ ea)
  exact cP PySem.W.kitx_list I.kIn ⟨_,h1,rfl⟩ e (fun z=>nomatch z) h
 | @tup a xs ea =>
  cases (show u=Value.ref a from rx)
  obtain ⟨_,_,_,p⟩:=(show fN X.prog X.w H s.heap a (.tup xs) from I.hok a _ ea)
  obtain ⟨o,h1,h2,_⟩:=p
  exact cP PySem.W.kitx_tuple I.kIn ⟨o,h1,h2⟩ e (fun z=>nomatch z) h
 | @dK a kvs ea =>
  cases (show u=Value.ref a from rx)
  obtain ⟨_,_,vs,_,p⟩:=(show fN X.prog X.w H s.heap a (.dK kvs) from I.hok a _ ea)
  obtain ⟨o,es,ep,h1,h2,_⟩:=p
  exact cP PySem.W.kitx_dict I.kIn ⟨o,h1,h2.1⟩ e (fun z=>nomatch z) h
 | @dT a kvs ea =>
  cases (show u=Value.ref a from rx)
  obtain ⟨_,_,xs,_,o,es,ep,h1,h2,_⟩:=(show fN X.prog X.w H s.heap a (.dT kvs) from I.hok a _ ea)
  exact cP PySem.W.kitx_dict I.kIn ⟨o,h1,h2.1⟩ e (fun z=>nomatch z) h
 | @ins a C dx fs ea cl ha hn htk hm =>
  cases (show u=Value.ref a from rx)
  obtain ⟨mA,O,_⟩:=nC I.hok ea
  obtain ⟨od,J,_⟩:=O.look
  exact cP (PySem.W.kitx_own (cl.get _) cl.hd ha hn htk hm) I.kIn J e (fun z=>nomatch z) h
end
end L2
namespace L2
open PySem PySem.Spec PyProof.Rows
structure iT (k:Nat) (A:Around):Prop where
 hd:A.handled=none
 dp:A.depth+3*k+5<recursionLimit
 un:A.units+16*k+200<cLine
theorem iT.mono {j k:Nat} {A:Around} (r:iT k A) (h:j≤k):iT j A:=⟨r.hd,by have:=r.dp;omega,by have:=r.un;omega⟩
theorem iT.deeper {k:Nat} {A:Around} (r:iT (k+1) A) (env:Env):iT k (A.deeper env) :=
 ⟨r.hd,by have:=r.dp;show A.depth+1+3*k+5<_;omega,by have:=r.un;show A.units+3+16*k+200<_;omega⟩
theorem o_ {A:Around} {C:Addr} {us:List Value} {kw:List (Str×Value)}:(A.under (.builtin "type.__call__" ⟨.ref C::us,kw⟩)).depth=A.depth+1:=by
 first | rfl | simp [Around.under,Code.weight,Code.isCreation,Code.isGuard,Code.isCaller,Code.frames,Code.isFrame,guardIds]
theorem oZ {A:Around} {C:Addr} {us:List Value} {kw:List (Str×Value)}:(A.under (.builtin "type.__call__" ⟨.ref C::us,kw⟩)).units=A.units+1:=by
 first | rfl | simp [Around.under,Code.cUnits,Code.frames,Code.isFrame]
theorem iT.make {k:Nat} {A:Around} (r:iT (k+1) A) (C:Addr) (us:List Value) (kw:List (Str×Value)):iT k (A.under (.builtin "type.__call__" ⟨.ref C::us,kw⟩)) :=
 ⟨r.hd,by have:=r.dp;rw [o_];omega,by have:=r.un;rw [oZ];omega⟩
theorem iT.depth {k:Nat} {A:Around} (r:iT k A):A.depth<recursionLimit:=by have:=r.dp;omega
theorem iT.units {k:Nat} {A:Around} (r:iT k A):A.units+64<cLine:=by have:=r.un;omega
def Bk:TA:=fun _ H Q=>Q [] H
def sO (ta:TE) (tr:TA):TA:=fun σ H Q=>ta σ H fun x H1=>tr σ H1 fun xs H2=>Q (x::xs) H2
section
variable {X:Cx} {e:Expr} {es:List Expr} {te:TE} {t:TA} {pos:Pos}
theorem ax:PA X [] Bk:=fun _ _ _ _ H Q I h=>Calls.spliced_nil ⟨[],H,I,.nil,h⟩
theorem ah (ha:PE X e te) (hr:PA X es t) (hs:starEach (e::es) X.env=(false,eval e X.env)::starEach es X.env:=by rfl):PA X (e::es) (sO te t):=by
 intro pos pins s σ H Q I h
 rw [hs]
 show wpAny _ _ (spliced ((false,eval e X.env)::backTo pos (starEach es X.env))) _ _ s
 refine Calls.spliced_cons (thn (ha pins s σ H _ I h) fun u s1 ⟨x,H1,I1,r1,q1⟩=>?_)
 exact thn (hr pos pins s1 σ H1 _ I1 q1) fun us s2 ⟨xs,H2,I2,r2,q2⟩=>⟨x::xs,H2,I2,.cons r1 r2,q2⟩
def BL (t:TA):TE:=fun σ H Q=>t σ H fun xs H1=>xs.length≤sizeLine∧∀p,H1 p=none→Q (.ref p) (upd H1 p (.tup xs))
def BQ (t:TA):TE:=fun σ H Q=>t σ H fun xs H1=>xs.length≤sizeLine∧∀p,H1 p=none→Q (.ref p) (upd H1 p (.lst xs))
theorem fF {x1} (h:PA X es t):PE X (.Tuple es x1 pos) (BL t):=by
 intro pins s σ H Q I hq
 refine wpAny_Tuple_spliced (thn (h pos pins s σ H _ I hq) fun us s1 ⟨xs,H1,I1,r,z,q⟩=>⟨by rw [←r.length];exact z,?_⟩)
 have hf:H1 s1.heap.objs.size=none:=I1.hok.fresh (aN _)
 refine ⟨.ref s1.heap.objs.size,upd H1 s1.heap.objs.size (.tup xs),I1.laid (t':=s1.toks) (fun b u e=>ao _ e) (aN _) ?_,rfl,q _ hf⟩
 exact ⟨z,us,r,⟨_,bo _ rfl,rfl,_,rfl⟩⟩
theorem dh (h:PA X es t):PE X (.List es pos) (BQ t):=by
 intro pins s σ H Q I hq
 refine wpAny_List_spliced (thn (h pos pins s σ H _ I hq) fun us s1 ⟨xs,H1,I1,r,z,q⟩=>⟨by rw [←r.length];exact z,?_⟩)
 have hf:H1 s1.heap.objs.size=none:=I1.hok.fresh (aN _)
 refine ⟨.ref s1.heap.objs.size,upd H1 s1.heap.objs.size (.lst xs),I1.laid (t':=s1.toks) (fun b u e=>ao _ e) (aN _) ?_,rfl,q _ hf⟩
 exact ⟨z,us,0,r,bo _ rfl⟩
end
abbrev Sp:=List V→Hp→VK→XK→Prop
abbrev CXT:=List Env→Hp→Shared→XK→Value→Shared→Prop
structure sq (P:Program) (w:World) (K:ai) (mg:Str→Option Value) (base:Heap) (A:Around) (outer:List Env) (s:Shared) (H:Hp):Prop where
 frames:A.frames=some outer
 mod:Mod K mg base
 bs:∀b o,base.get? b=some o→s.heap.get? b=some o∧H b=none
 bsz:base.objs.size≤s.heap.objs.size
 lJ:s.heap.FunFrames base outer
 frf:∀b∈frs outer,H b=none
 hok:HOk P w H s.heap
 bare:AllBare s.gens
def CE (outer:List Env) (P:Program) (w:World) (H:Hp) (s:Shared) (Q:VK) (u:Value) (s':Shared):Prop :=
 ∃v H',s'.os=s.os∧AllBare s'.gens∧Un (frs outer) [] H H' s.heap s'.heap∧HOk P w H' s'.heap∧RelV v u∧Q v H'
def CR (CX:CXT) (outer:List Env) (P:Program) (w:World) (H:Hp) (s:Shared) (Q:VK) (E:XK) (r:Result) (s':Shared):Prop :=
 match r with
 | .ok (.ret u)=>CE outer P w H s Q u s'
 | .ok _=>False
 | .error e=>CX outer H s E e s'
structure fH (P:Program) (w:World) (K:ai) (mg:Str→Option Value) (base:Heap) (CX:CXT) (k:Nat) (f:Addr) (fd:FuncData) (ps:List Str) (sp:Sp):Prop where
 len:∀vs H Q E,sp vs H Q E→vs.length=ps.length
 run:∀(A:Around) (outer:List Env) (s:Shared) (H:Hp) (args:Args) (us:List Value) (vs:List V) (Q:VK) (E:XK),iT k A→sq P w K mg base A outer s H→BindsTo s fd args (ps.zip us)→Vals vs us→sp vs H Q E →
  codeAny (model P w) A (.call (.ref f) args) (CR CX outer P w H s Q E) s
theorem sq.make {P:Program} {w:World} {K:ai} {mg:Str→Option Value} {base:Heap} {A:Around} {outer:List Env} {s:Shared} {H:Hp} (e:sq P w K mg base A outer s H) (C:Addr) (us:List Value) (kw:List (Str×Value)) :
  sq P w K mg base (A.under (.builtin "type.__call__" ⟨.ref C::us,kw⟩)) outer s H:=⟨by first | exact e.frames | (simpa [Around.under,Code.envs,Code.isFrame,pushEnvs] using e.frames),e.mod,e.bs,e.bsz,e.lJ,e.frf,e.hok,e.bare⟩
section
variable {X:Cx} {pins:List (Addr×Obj)} {σ:St} {H:Hp} {s s':Shared}
theorem Inv.yF (I:Inv X pins σ H s):sq X.prog X.w X.K X.mg X.base X.A X.stack s H :=
 ⟨I.ok.frames,I.ok.mod,I.bs,cu I.ok.bsz I.sz,I.stack,I.mX,I.hok,I.bare⟩
theorem Inv.after {Q:VK} {u:Value} (I:Inv X pins σ H s) (h:CE X.stack X.prog X.w H s Q u s'):EP X pins σ Q u s':=by
 obtain ⟨v,H',os,bare,un,hok,r,q⟩:=h
 obtain ⟨hh,g,d,t,os'⟩:=s'
 obtain rfl:os'=s.os:=os
 exact ⟨v,H',I.call (h':=hh) (g':=g) (d':=d) (t':=t) (ch:=[]) un hok bare (fun b z=>absurd z (by simp)),r,q⟩
end
def wZ (sp:Sp) (dvs:List V) (E:XK) (t:TA):TE:=fun σ H Q=>t σ H fun vs H1=>sp (vs++dvs) H1 Q E
def Binds (K:ai) (fd:FuncData) (ps:List Str) (ds:List Value):Prop :=
 ∀(s:Shared) (us:List Value),K.In s.heap→(us++ds).length=ps.length→BindsTo s fd ⟨us,[]⟩ (ps.zip (us++ds))
theorem Binds.all {K:ai} {fd:FuncData} {ps:List Str} (h:∀us:List Value,us.length=ps.length→bindArgs fd ⟨us,[]⟩=pure (ps.zip us)):Binds K fd ps []:=fun s us _ hl=>by
 rw [bB] at hl ⊢
 exact .of_eq (h us hl)
def Passes (CX:CXT) (X:Cx) (E:XK):Prop:=∀(pins:List (Addr×Obj)) (σ:St) (H:Hp) (s:Shared) (e:Value) (s':Shared),Inv X pins σ H s→CX X.stack H s E e s'→X.xe e s'
section
variable {X:Cx} {CX:CXT} {k:Nat} {f C:Addr} {fd:FuncData} {ps:List Str} {sp:Sp} {dvs:List V} {ds:List Value} {E:XK} {x m:Str} {p pos apos:Pos} {e o:Expr} {es:List Expr} {ta:TE} {t:TA}
theorem xj {pins:List (Addr×Obj)} {σ:St} {H:Hp} {s:Shared} {Q:VK} {us:List Value} {vs:List V} (F:fH X.prog X.w X.K X.mg X.base CX k f fd ps sp) (hr:iT k X.A) (hb:Binds X.K fd ps ds) (hd:Vals dvs ds) (hx:Passes CX X E)
  (I:Inv X pins σ H s) (r:Vals vs us) (h:sp (vs++dvs) H Q E):wpAny (model X.prog X.w) X.A (call (.ref f) us) (EP X pins σ Q) X.xe s:=by
 have r2:Vals (vs++dvs) (us++ds):=r.append hd
 have hl:(us++ds).length=ps.length:=by rw [←r2.length];exact F.len _ _ _ _ h
 refine wpAny_call (codeAny_mono (F.run X.A X.stack s H ⟨us,[]⟩ (us++ds) (vs++dvs) Q E hr I.yF (hb s us I.kIn hl) r2 h) fun r s' hq=>?_)
 cases r with
 | error e=>exact hx pins σ H s e s' I hq
 | ok fl =>
  cases fl with
  | ret u=>exact I.after hq
  | next=>exact False.elim hq
  | brk=>exact False.elim hq
  | cont=>exact False.elim hq
theorem vv (F:fH X.prog X.w X.K X.mg X.base CX k f fd ps sp) (hr:iT k X.A) (hg:Gl X x) (hm:X.mg x=some (.ref f)) (hk:aH X.K (.ref f)=true) (hb:Binds X.K fd ps ds) (hd:Vals dvs ds) (hx:Passes CX X E)
  (ha:PA X (e::es) t) (hdb:(x==("__debug__":Str))=false:=by decide) (he:starEach (e::es) X.env=(false,eval e X.env)::starEach es X.env:=by rfl) (hpl:(backTo pos (starEach es X.env)).any (·.1)=false:=by rfl) :
  PE X (.Call (.Name x p) (e::es) [] pos) (wZ sp dvs E t):=by
 intro pins s σ H Q I h
 refine wpAny_Call_Name_kw (iS I hg hm ?_ hdb)
 refine PySem.W.callWith_K (h₀:=X.base) I.ok.mod.kin hk (thn (ha pos pins s σ H _ I h) fun us s1 ⟨vs,H1,I1,r,q⟩=>⟨I1.kIn,?_⟩) he hpl
 exact xj F hr hb hd hx I1 r q
structure Mk (K:ai) (C f:Addr):Prop where
 makes:PySem.W.makesIn K C=true
 init:cB K (.ref C) "__init__"=some (some (.ref f))
 fn:PySem.W.isFn K (.ref f)=true
 kp:aH K (.ref C)=true
theorem sV {pins:List (Addr×Obj)} {σ:St} {H:Hp} {s:Shared} {Q:VK} {us:List Value} {vs:List V} (M:Mk X.K C f) (F:fH X.prog X.w X.K X.mg X.base CX k f fd ps sp) (hr:iT (k+1) X.A) (hb:Binds X.K fd ps ds) (hd:Vals dvs ds)
  (hx:Passes CX X E) (I:Inv X pins σ H s) (r:Vals vs us)
  (h:∀x dx,H x=none→H dx=none→dx≠x→sp (.ref x::(vs++dvs)) (upd (upd H dx (.own x)) x (.ins C dx [])) (fun v H2=>v=.non∧Q (.ref x) H2) E) :
  wpAny (model X.prog X.w) X.A (call (.ref C) us) (EP X pins σ Q) X.xe s:=by
 have hq:=h (s.heap.objs.size+1) s.heap.objs.size (I.hok.fresh (gR _)) (I.hok.fresh (aN _)) (bz (cA _))
 have I2:=Inv.made (C:=C) I
 have r2:Vals (V.ref (s.heap.objs.size+1)::(vs++dvs)) (Value.ref (s.heap.objs.size+1)::(us++ds)):=.cons rfl (r.append hd)
 have hl:(Value.ref (s.heap.objs.size+1)::us++ds).length=ps.length:=by
  have e:=r2.length
  rw [F.len _ _ _ _ hq] at e
  exact e.symm
 refine wpAny_call (tM (f:=f) I.kIn M.makes M.init (beq_iff_eq.mp M.fn) (codeAny_mono (F.run _ X.stack _ _ ⟨Value.ref (s.heap.objs.size+1)::us,[]⟩ (Value.ref (s.heap.objs.size+1)::(us++ds)) _ _ E (hr.make C us [])
  (I2.yF.make C us []) (hb _ (Value.ref (s.heap.objs.size+1)::us) I2.kIn hl) r2 hq) fun r s' hq'=>?_))
 cases r with
 | error e=>exact hx pins σ _ _ e s' I2 hq'
 | ok fl =>
  cases fl with
  | ret u =>
   obtain ⟨v,H',I3,rv,ev,q3⟩:=I2.after hq'
   subst ev
   exact ⟨rv,⟨V.ref (s.heap.objs.size+1),H',I3,rfl,q3⟩⟩
  | next=>exact False.elim hq'
  | brk=>exact False.elim hq'
  | cont=>exact False.elim hq'
end
section
variable {X:Cx} {CX:CXT} {k:Nat} {f C:Addr} {fd:FuncData} {ps ks:List Str} {sp:Sp} {E:XK} {x m:Str} {p pos apos kpos:Pos} {e o:Expr} {es:List Expr} {kws:List Keyword} {te ta:TE} {t tk:TA} {nm:Option Str}
variable {g:List Value→List Value→List Value} {gV:List V→List V→List V}
end
structure bY (N P:List Str) (sc:Scope):Prop where
 kind:sc.kind=.function
 co:sc.isCoroutine=false
 gen:sc.isGenerator=false
 nd:N.Nodup
 pre:N.take P.length=P
 par:∀x∈P,sc.names.lookup x=some .local∨sc.names.lookup x=some .cell
 nofree:∀y∈sc.names,y.2≠.free
theorem mP {kindOf:Str→Option NameKind} {x:Str}:∀{binds:List (Str×Value)} {m:Str→Option Value},(∀v,(x,v)∉binds)→bindL kindOf binds m x=m x
 | [],_,_=>rfl
 | (n,v)::r,m,h=>by
  unfold bindL
  rw [mP fun w hw=>h w (aO _ hw)]
  split
  ·have:x≠n:=by rintro rfl;exact h v aP
   simp [this]
  ·rfl
theorem mR {kindOf:Str→Option NameKind} {x:Str}:∀{binds:List (Str×Value)} {m:Str→Option Value},(∀v,(x,v)∉binds)→bindC kindOf binds m x=m x
 | [],_,_=>rfl
 | (n,v)::r,m,h=>by
  unfold bindC
  rw [mR fun w hw=>h w (aO _ hw)]
  split
  ·rfl
  ·have:x≠n:=by rintro rfl;exact h v aP
   simp [this]
theorem mQ {kindOf:Str→Option NameKind} {x:Str} {v:Value}:∀{P:List Str} {vs:List Value} {i:Nat} {m:Str→Option Value},P.Nodup→P[i]?=some x→vs[i]?=some v→kindOf x=some .local →
  bindL kindOf (P.zip vs) m x=some v
 | [],_,_,_,_,h,_,_=>by simp at h
 | _::_,[],_,_,_,_,h,_=>by simp at h
 | p::P,w::vs,0,m,nd,h1,h2,hk=>by
  simp at h1 h2;subst h1;subst h2
  show bindL kindOf ((p,w)::P.zip vs) m p=_
  unfold bindL
  rw [mP fun v hv=>(dv.mp nd).1 (List.of_mem_zip hv).1,if_pos hk]
  simp
 | p::P,w::vs,i+1,m,nd,h1,h2,hk=>by
  show bindL kindOf ((p,w)::P.zip vs) m x=_
  unfold bindL
  exact mQ (i:=i) (dv.mp nd).2 (by simpa using h1) (by simpa using h2) hk
theorem mS {kindOf:Str→Option NameKind} {x:Str} {v:Value}:∀{P:List Str} {vs:List Value} {i:Nat} {m:Str→Option Value},P.Nodup→P[i]?=some x→vs[i]?=some v→kindOf x≠some .local →
  bindC kindOf (P.zip vs) m x=some v
 | [],_,_,_,_,h,_,_=>by simp at h
 | _::_,[],_,_,_,_,h,_=>by simp at h
 | p::P,w::vs,0,m,nd,h1,h2,hk=>by
  simp at h1 h2;subst h1;subst h2
  show bindC kindOf ((p,w)::P.zip vs) m p=_
  unfold bindC
  rw [mR fun v hv=>(dv.mp nd).1 (List.of_mem_zip hv).1,if_neg hk]
  simp
 | p::P,w::vs,i+1,m,nd,h1,h2,hk=>by
  show bindC kindOf ((p,w)::P.zip vs) m x=_
  unfold bindC
  exact mS (i:=i) (dv.mp nd).2 (by simpa using h1) (by simpa using h2) hk
def start (N:List Str) (vs:List V):St:=vs.map some++au (N.length-vs.length) none
def pH (CX:CXT) (P:Program) (w:World) (K:ai) (mg:Str→Option Value) (base:Heap) (N:List Str) (qual:Str) (scope:Scope) (f:Addr) (cd:Value) (A:Around) (outer:List Env) (s:Shared) (H:Hp) (E:XK):Cx where
 prog:=P
 w:=w
 K:=K
 mg:=mg
 base:=base
 A:=A.deeper (envOfC qual scope s.heap.objs.size f cd)
 N:=N
 s₀:=s
 H₀:=H
 env:=envOfC qual scope s.heap.objs.size f cd
 outer:=outer
 stack:=envOfC qual scope s.heap.objs.size f cd::outer
 ex:=[]
 calm:=true
 fn:=fun _=>true
 pn:=[]
 xe:=fun e s'=>wpAny (model P w) (A.deeper (envOfC qual scope s.heap.objs.size f cd)) (leaving (envOfC qual scope s.heap.objs.size f cd) e) (fun _ s''=>CX outer H s E e s'') (fun e' s''=>CX outer H s E e' s'') s'
theorem oJ {sc:Scope} {n:Nat} {x:Str} (h:sc.names.lookup x=some .cell):∃c,(cellsFrom n sc.names []).lookup x=some c:=by
 have q:=PySem.W.cellsFrom_some sc.names n [] (.inl h)
 exact Option.isSome_iff_exists.mp q
theorem mz {CX:CXT} {P:Program} {w:World} {K:ai} {mg:Str→Option Value} {base:Heap} {N ps:List Str} {qual:Str} {scope:Scope} {f:Addr} {cd:Value} {A:Around} {outer:List Env} {s s1:Shared} {H:Hp} {E:XK} {us:List Value} {vs:List V}
  (S:bY N ps scope) (hd:A.handled=none) (e0:sq P w K mg base A outer s H) (hl:vs.length=ps.length) (r:Vals vs us)
  (x:InCallC s s.heap.objs.size (bindL (envOfC qual scope s.heap.objs.size f cd).kindOf (ps.zip us) fun _=>none) (cellsFrom (s.heap.objs.size+1) scope.names []) (bindC (envOfC qual scope s.heap.objs.size f cd).kindOf (ps.zip us) fun _=>none) s1) :
  Inv (pH CX P w K mg base N qual scope f cd A outer s H E) [] (start N vs) H s1:=by
 have hpl:ps.length≤N.length:=by have:=congrArg List.length S.pre;rw [aC] at this;omega
 obtain ⟨h1,tk,rfl,hk⟩:=x.done
 have noA:∀b:Addr,b∉(pH CX P w K mg base N qual scope f cd A outer s H E).ex:=fun b z=>absurd (show b∈([]:List Addr) from z) (by simp)
 refine ⟨⟨e0.mod,S.kind,rfl,rfl,aN _,fun y z c h1 h2=>?_,fun y hy=>?_,fun y c _ h=>?_,fun _=>hd,Around.frames_deeper e0.frames,.inr ⟨rfl,rfl⟩,fun b z=>absurd z (noA b),e0.bs,e0.bsz,fun b _ _=>noA b,fun b z=>absurd z (noA b),e0.lJ,e0.frf⟩,
  rfl,e0.bare,Un.kept hk,⟨_,x.toInCall.ns,fun i y v h1 h2 h3=>?_⟩,fun y c h=>⟨_,x.cell y c h⟩,e0.hok.fresh (aN _),fun y c h=>?_,fun p hp=>absurd (show p∈([]:List (Addr×Obj)) from hp) (by simp),e0.hok.kept hk,?_⟩
 ·exact name_of_addr x.apart (dF h1) (dF h2)
 ·have hy:scope.names.lookup y=some .cell∨scope.names.lookup y=some .free:=hy
  rcases hy with hy | hy
  ·exact oJ hy
  ·exact absurd rfl (S.nofree _ (dF hy))
 ·exact aL (x.above y c (dF h))
 ·have hi:i<vs.length:=by
   unfold start at h2
   by_cases hi:i<vs.length
   ·exact hi
   ·rw [List.getElem?_append_right (by simpa using hi)] at h2
    rw [cy] at h2
    split at h2<;>cases h2
  have ha:vs[i]?=some v:=by
   unfold start at h2
   rw [cG (by simpa using hi),a_] at h2
   cases e:vs[i]? with
   | none=>rw [e] at h2;cases h2
   | some a=>rw [e] at h2;cases h2;rfl
  obtain ⟨u,hu,rv⟩:=r.get ha
  have hp:ps[i]?=some y:=by
   rw [←S.pre,List.getElem?_take_of_lt (by omega)];exact h1
  have ndP:ps.Nodup:=by rw [←S.pre];exact S.nd.sublist (List.take_sublist _ _)
  refine ⟨u,rv,?_⟩
  rcases S.par y (bj hp) with k | k
  ·exact .inl ⟨k,mQ ndP hp hu k⟩
  ·obtain ⟨c,e⟩:=oJ (n:=s.heap.objs.size+1) k
   refine .inr ⟨.inl k,c,e,?_⟩
   have q:=x.cell y c e
   rw [mS ndP hp hu (by show scope.names.lookup y≠_;rw [k];decide)] at q
   exact q
 ·exact e0.hok.fresh (aL (x.above y c (dF h)))
 ·unfold start
  show _=N.length
  rw [ay,aa,bh]
  omega
theorem xS {CX:CXT} {P:Program} {w:World} {K:ai} {mg:Str→Option Value} {base:Heap} {k:Nat} {f:Addr} {name qual:Str} {params:Arguments} {body:List Stmt} {scope:Scope} {dV kV doc pm cdv ct oc:Value} {an od:Option Addr}
  {osl:Array (Option Value)} {N ps:List Str} {sp:Sp} (lk:K.lookup f=some ⟨oc,od,.func (aQ name qual params body scope dV kV doc pm an cdv ct),osl⟩) (hcd:aK K cdv qual=true) (S:bY N ps scope)
  (len:∀vs H Q E,sp vs H Q E→vs.length=ps.length)
  (hbody:∀(A:Around) (outer:List Env) (s:Shared) (H:Hp) (vs:List V) (Q:VK) (E:XK),iT k (A.deeper (envOfC qual scope s.heap.objs.size f cdv))→sp vs H Q E →
   ∃t,PSs (pH CX P w K mg base N qual scope f cdv A outer s H E) body t∧t {nx:=fun _ H'=>Q .non H',rt:=Q} (start N vs) H) :
  fH P w K mg base CX (k+1) f (aQ name qual params body scope dV kV doc pm an cdv ct) ps sp:=by
 refine ⟨len,fun A outer s H args us vs Q E hr e0 hb r hsp=>?_⟩
 have hl:=len _ _ _ _ hsp
 have KX:K.In s.heap:=e0.mod.kin.keeps fun b o e=>(e0.bs b o e).1
 have lim:s.heap.NoLimit:=e0.mod.nolimit.keeps fun b o e=>(e0.bs b o e).1
 have hkind:∀y∈ps.zip us,scope.names.lookup y.1=some .local∨(scope.names.lookup y.1=some .cell∧((cellsFrom (s.heap.objs.size+1) scope.names []).lookup y.1).isSome=true):=fun ⟨n,v⟩ hy=>by
  rcases S.par n (List.of_mem_zip hy).1 with q | q
  ·exact .inl q
  ·exact .inr ⟨q,PySem.W.cellsFrom_some _ _ _ (.inl q)⟩
 refine codeAny_call_function hr.depth (KX _ _ lk) rfl S.co S.gen rfl (PySem.W.codeRec_of KX hcd) (hb _ _ _ _ ?_)
 refine wpAny_newFunctionEnv_cells S.kind hkind fun env he s1 x=>?_
 subst he
 refine ⟨lim.keeps x.toInCall.keep,codeAny_func ?_⟩
 obtain ⟨t,ht,hq⟩:=hbody A outer s H vs Q E (hr.deeper _) hsp
 have I:Inv (pH CX P w K mg base N qual scope f cdv A outer s H E) [] (start N vs) H s1:=mz S hr.hd e0 hl r x
 refine wpAny_mono (ht [] s1 (start N vs) H _ I hq) (fun fl s' hs=>?_) fun e s' hs=>hs
 have fin:∀{σ':St} {H':Hp} {v:V} {u:Value},Inv (pH CX P w K mg base N qual scope f cdv A outer s H E) [] σ' H' s'→RelV v u→Q v H'→CE outer P w H s Q u s' :=
  fun {σ' H' v u} J rv q=>⟨v,H',J.os,J.bare,J.base,J.hok,rv,q⟩
 cases fl with
 | ret u =>
  obtain ⟨v,σ',H',J,rv,q⟩:=hs
  exact fin J rv q
 | next =>
  obtain ⟨σ',H',J,q⟩:=hs
  exact fin (v:=V.non) (u:=Value.none) J rfl q
 | brk =>
  obtain ⟨_,_,_,q⟩:=hs
  exact False.elim q
 | cont =>
  obtain ⟨_,_,_,q⟩:=hs
  exact False.elim q
end L2
namespace L2
open PySem PySem.Spec PyProof.Rows
section
variable {X:Cx} {x:Str} {p pos:Pos} {e:Expr} {es:List Expr} {t:TA} {id T:String} {r:List V→Hp→VK→Prop}
def tCB (r:List V→Hp→VK→Prop) (t:TA):TE:=fun σ H Q=>t σ H fun vs H1=>r vs H1 Q
theorem bg (hc:gK X (.builtin id) r) (hg:Gl X x) (hm:X.mg x=none) (hv:bootBuiltins x=some (.builtin id)) (ha:PA X (e::es) t) (hn:x≠"__name__":=by decide) (hdb:(x==("__debug__":Str))=false:=by decide)
  (he:starEach (e::es) X.env=(false,eval e X.env)::starEach es X.env:=by rfl) (hpl:(backTo pos (starEach es X.env)).any (·.1)=false:=by rfl):PE X (.Call (.Name x p) (e::es) [] pos) (tCB r t):=by
 intro pins s σ H Q I h
 refine wpAny_Call_Name_kw (iA I hg hm hv ?_ hn hdb)
 exact PyProof.Rows.callWith_builtin1 (thn (ha pos pins s σ H _ I h) fun us s1 ⟨vs,H1,I1,r1,q1⟩=>hc pins s1 σ H1 vs us Q I1 r1 q1) he hpl
theorem fK (hc:gK X (.type T) r) (hg:Gl X x) (hm:X.mg x=none) (hv:bootBuiltins x=some (.type T)) (ha:PA X (e::es) t) (hn:x≠"__name__":=by decide) (hdb:(x==("__debug__":Str))=false:=by decide)
  (he:starEach (e::es) X.env=(false,eval e X.env)::starEach es X.env:=by rfl) (hpl:(backTo pos (starEach es X.env)).any (·.1)=false:=by rfl):PE X (.Call (.Name x p) (e::es) [] pos) (tCB r t):=by
 intro pins s σ H Q I h
 refine wpAny_Call_Name_kw (iA I hg hm hv ?_ hn hdb)
 exact cq (thn (ha pos pins s σ H _ I h) fun us s1 ⟨vs,H1,I1,r1,q1⟩=>hc pins s1 σ H1 vs us Q I1 r1 q1) he hpl
end
end L2
namespace HT
open PySem PyProof.Rows
section
open PySem.SeqAt
open PySem.AutoSeq1 (wpAny_loadPart')
open PySem.MeetsSeq PySem.MeetsSeq2 PySem.MeetsSeq3
end
section
variable {prog:Program} {w:World} {A:Around} {E:Value→Shared→Prop} {s:Shared}
def sIx (n d:Nat):Option Int→Nat
 | none=>d
 | some v=>if v<0 then (v+(n:Int)).toNat else min v.toNat n
theorem sU (n d:Nat):sIx n d none=d:=rfl
end
end HT
namespace L2
open PySem PySem.Spec PyProof.Rows
abbrev TO:=St→Hp→(Option Int→Hp→Prop)→Prop
def PO (X:Cx) (e:Option Expr) (t:TO):Prop :=
 ∀(pins:List (Addr×Obj)) (s:Shared) (σ:St) (H:Hp) (Q:Option Int→Hp→Prop),Inv X pins σ H s→t σ H Q →
  wpAny (model X.prog X.w) X.A (evalPart e X.env) (fun u s'=>∃o H',Inv X pins σ H' s'∧IsPart u o∧Q o H') X.xe s
def uV:TO:=fun _ H Q=>Q none H
def yK (t:TE):TO:=fun σ H Q=>t σ H fun x H1=>∃i,x=.int i∧Q (some i) H1
section
variable {X:Cx} {e:Expr} {te:TE} {lo hi:Option Expr} {tl th:TO} {pos p2:Pos}
theorem jj:PO X none uV:=by
 intro pins s σ H Q I h
 rw [evalPart_none]
 exact wpAny_pure ⟨none,H,I,.none,h⟩
theorem iw (h:PE X e te):PO X (some e) (yK te):=by
 intro pins s σ H Q I hw
 rw [evalPart_some]
 refine thn (h pins s σ H _ I hw) fun u s1 ⟨x,H1,I1,r1,q1⟩=>?_
 obtain ⟨i,rfl,q⟩:=q1
 obtain ⟨t,rfl⟩:=r1
 exact ⟨some i,H1,I1,.int i t,q⟩
def SlR (X:Cx) (r:V→Option Int→Option Int→Hp→VK→Prop):Prop :=
 ∀(pins:List (Addr×Obj)) (s:Shared) (σ:St) (H:Hp) (x:V) (v vl vu:Value) (lo hi:Option Int) (sl:Addr) (Q:VK),Inv X pins σ H s→RelV x v→s.heap.IsSliceOf sl vl vu .none→IsPart vl lo→IsPart vu hi→r x lo hi H Q →
  ∃T id,typeLookup (.type T) "__getitem__"=pure (some (.builtin id))∧s.TypeIs v T∧wpAny (model X.prog X.w) X.A (getItem v (.ref sl)) (EP X pins σ Q) X.xe s
def tSl (r:V→Option Int→Option Int→Hp→VK→Prop) (te:TE) (tl th:TO):TE:=fun σ H Q=>te σ H fun x H1=>tl σ H1 fun l H2=>th σ H2 fun u H3=>r x l u H3 Q
theorem iF {r:V→Option Int→Option Int→Hp→VK→Prop} (hr:SlR X r) (he:PE X e te) (hl:PO X lo tl) (hu:PO X hi th):PE X (.Subscript e (.Slice lo hi none p2) pos) (tSl r te tl th):=by
 intro pins s σ H Q I h
 refine Subscript_ (thn (he pins s σ H _ I h) fun v s1 ⟨x,H1,I1,r1,q1⟩=>?_)
 refine wpAny_Slice (thn (hl pins s1 σ H1 _ I1 q1) fun vl s2 ⟨l,H2,I2,pl,q2⟩=>thn (hu pins s2 σ H2 _ I2 q2) fun vu s3 ⟨u,H3,I3,pu,q3⟩=>?_)
 rw [evalPart_none]
 refine wpAny_pure ?_
 have I4:Inv X pins σ H3 {s3 with heap:=s3.heap.push {cls:=.type "slice",data:=.fields #[vl,vu,.none]}}:=I3.kept (t':=s3.toks) fun b ob q=>ao _ q
 obtain ⟨T,id,hT,ht,hg⟩:=hr pins {s3 with heap:=s3.heap.push {cls:=.type "slice",data:=.fields #[vl,vu,.none]}} σ H3 x v vl vu l u s3.heap.objs.size Q I4 r1 (Heap.IsSliceOf.new ..) pl pu q3
 show wpAny (model X.prog X.w) X.A (subscriptTail e (.Slice lo hi none p2) v (.ref s3.heap.objs.size)) (EP X pins σ Q) X.xe {s3 with heap:=s3.heap.push {cls:=.type "slice",data:=.fields #[vl,vu,.none]}}
 exact tail_any (ops:=[.ref s3.heap.objs.size,v]) ht hT hg (by with_unfolding_all rfl)
def sm (xs:List V) (lo hi:Option Int):List V:=(xs.drop (HT.sIx xs.length 0 lo)).take (HT.sIx xs.length xs.length hi-HT.sIx xs.length 0 lo)
theorem nK (xs:List V) (lo hi:Option Int):(sm xs lo hi).length≤xs.length:=by
 unfold sm
 rw [aC,cM]
 omega
end
end L2
namespace L2
open PySem PySem.Spec PyProof.Rows
def ixN (n:Nat) (i:Int):Option Nat:=if 0≤i then (if i<n then some i.toNat else none) else if -(n:Int)≤i then some (i+n).toNat else none
def atI {α:Type} (xs:List α) (i:Int):Option α:=(ixN xs.length i).bind fun j=>xs[j]?
theorem qP {n:Nat} {i:Int} {j:Nat} (h:ixN n i=some j):seqIndex? i n=some j∧j<n∧-(n:Int)≤i∧i<n:=by
 unfold ixN at h
 by_cases h0:0≤i
 ·rw [if_pos h0] at h
  by_cases h1:i<n
  ·rw [if_pos h1] at h
   have e:i.toNat=j:=Option.some.inj h
   exact ⟨by rw [seqIndex_of h0 h1,e],by omega,by omega,h1⟩
  ·rw [if_neg h1] at h;cases h
 ·rw [if_neg h0] at h
  by_cases h1:-(n:Int)≤i
  ·rw [if_pos h1] at h
   have e:(i+n).toNat=j:=Option.some.inj h
   exact ⟨by rw [seqIndex_neg (by omega) h1,e],by omega,h1,by omega⟩
  ·rw [if_neg h1] at h;cases h
theorem si {α:Type} {xs:List α} {i:Int} {v:α} (h:atI xs i=some v):∃j,seqIndex? i xs.length=some j∧xs[j]?=some v∧j<xs.length∧-(xs.length:Int)≤i∧i<xs.length:=by
 unfold atI at h
 cases e:ixN xs.length i with
 | none=>rw [e] at h;cases h
 | some j =>
  rw [e] at h
  obtain ⟨h1,h2,h3,h4⟩:=qP e
  exact ⟨j,h1,h,h2,h3,h4⟩
theorem sh {α:Type} {xs:List α} {j:Nat} {v:α} (h:xs[j]?=some v):atI xs (j:Int)=some v:=by
 have hj:j<xs.length:=(cE.mp h).1
 have e:ixN xs.length (j:Int)=some j:=by
  unfold ixN
  rw [if_pos (by omega),if_pos (by omega)];simp
 unfold atI;rw [e];exact h
def vZ (b:Expr):Prop:=∀o i,subscripted b false o i=operate [o,i] (getItem o i)
def IxR (X:Cx) (r:R2):Prop :=
 ∀(value slice:Expr) (pins:List (Addr×Obj)) (s:Shared) (σ:St) (H:Hp) (x y:V) (v u:Value) (Q:VK),Inv X pins σ H s→RelV x v→RelV y u→r x y H Q →
  subscripted slice false v u=operate [v,u] (getItem v u)→wpAny (model X.prog X.w) X.A (subscriptTail value slice v u) (EP X pins σ Q) X.xe s
def MtR (X:Cx) (id:String) (r:V→List V→Hp→VK→Prop):Prop :=
 ∀(pins:List (Addr×Obj)) (s:Shared) (σ:St) (H:Hp) (x:V) (xs:List V) (v:Value) (us:List Value) (Q:VK),Inv X pins σ H s→RelV x v→Vals xs us→r x xs H Q →
  wpAny (model X.prog X.w) X.A (call (.builtin id) (v::us)) (EP X pins σ Q) X.xe s
section
variable {X:Cx} {a b:Expr} {ta tb:TE} {pos:Pos}
theorem cD {r:R2} (hr:IxR X r) (ha:PE X a ta) (hb:PE X b tb) (hs:vZ b):PE X (.Subscript a b pos) (tOp r ta tb):=by
 intro pins s σ H Q I h
 exact Subscript_ (Bd ha hb I h fun v u s2 x y H2 I2 rx ry q=>hr a b pins s2 σ H2 x y v u Q I2 rx ry q (hs _ _))
def yA (K:ai):R2:=fun x y H Q=>∃p xs i v,x=.ref p∧y=.int i∧SqL K H p xs∧atI xs i=some v∧Q v H
def Bx (K:ai):R2:=fun x y H Q=>∃p xs i v,x=.ref p∧y=.int i∧SqT K H p xs∧atI xs i=some v∧Q v H
theorem vC:IxR X (yA X.K):=by
 intro value slice pins s σ H x y v u Q I rx ry h hs
 obtain ⟨p,xs,i,z,rfl,rfl,hq,he,q⟩:=h
 cases rx
 obtain ⟨t,rfl⟩:=ry
 obtain ⟨its,r,pl,hz⟩:=I.list hq
 obtain ⟨j,h1,h2,h3,h4,h5⟩:=si he
 obtain ⟨w,ew,rw'⟩:=r.get h2
 have hl:=r.length
 have hn:=kB
 have fin:EP X pins σ Q w s:=⟨z,H,I,rw',q⟩
 by_cases h0:0≤i
 ·have hj:i.toNat=j:=by
   rw [seqIndex_of h0 h5] at h1
   exact Option.some.inj h1
  exact item_listR pl.isList h0 (by omega) (by rw [hj];simpa using ew) fin hs
 ·have hj:(i+(its.toArray.size:Int)).toNat=j:=by
   rw [seqIndex_neg (by omega) h4] at h1
   rw [aT,←hl]
   exact Option.some.inj h1
  exact subscriptTail_builtinR (x:=w) pl.isList.typeIs slot_list_getitem.lookup
   (wpAny_getItem_list_neg (Q:=fun r s'=>r=w∧EP X pins σ Q r s') pl.isList (by omega) (by rw [aT]<;>omega) (by omega) (by rw [hj];simpa using ew) ⟨rfl,fin⟩) hs
theorem xN:IxR X (Bx X.K):=by
 intro value slice pins s σ H x y v u Q I rx ry h hs
 obtain ⟨p,xs,i,z,rfl,rfl,hq,he,q⟩:=h
 cases rx
 obtain ⟨t,rfl⟩:=ry
 obtain ⟨its,r,pl,hz⟩:=I.tuple hq
 obtain ⟨j,h1,h2,h3,h4,h5⟩:=si he
 obtain ⟨w,ew,rw'⟩:=r.get h2
 have hl:=r.length
 have hn:=kB
 have fin:EP X pins σ Q w s:=⟨z,H,I,rw',q⟩
 exact subscriptTail_builtinR (x:=w) pl.typeIs slot_tuple_getitem.lookup
  (getItem_tuple (j:=j) (Q:=fun r s'=>r=w∧EP X pins σ Q r s') pl (by omega) (by omega) (by rw [aT,←hl];exact h1) (by simpa using ew) ⟨rfl,fin⟩) hs
theorem oV (its:List Value) (n j:Nat) (u:Value):Obj.mapSeq (·.setIfInBounds j u) {cls:=.type "list",data:=.seq its.toArray n}={cls:=.type "list",data:=.seq (its.set j u).toArray n}:=by
 simp [Obj.mapSeq]
theorem Inv.lst {pins:List (Addr×Obj)} {σ:St} {H:Hp} {s:Shared} {p:Addr} {xs:List V} (I:Inv X pins σ H s) (h:H p=some (.lst xs)) :
  ∃(its:List Value) (n:Nat),Vals xs its∧s.heap.get? p=some {cls:=.type "list",data:=.seq its.toArray n}∧xs.length≤sizeLine:=by
 obtain ⟨z,its,n,r,e⟩:=I.hok p _ h
 exact ⟨its,n,r,e,z⟩
theorem Inv.uN {pins:List (Addr×Obj)} {σ:St} {H:Hp} {s:Shared} {p:Addr} {xs ys:List V} {its its':List Value} {n n':Nat} {f:Obj→Obj} (I:Inv X pins σ H s) (h:H p=some (.lst xs))
  (ho:s.heap.get? p=some {cls:=.type "list",data:=.seq its.toArray n}) (hf:f {cls:=.type "list",data:=.seq its.toArray n}={cls:=.type "list",data:=.seq its'.toArray n'}) (r:Vals ys its') (hz:ys.length≤sizeLine) (t:Nat) :
  Inv X pins σ (upd H p (.lst ys)) {s with heap:=s.heap.update p f,toks:=t}:=by
 have e:(s.heap.update p f).get? p=some {cls:=.type "list",data:=.seq its'.toArray n'}:=by
  rw [bC f ho (by rw [hf]<;>rfl),hf]
 refine I.write (x:=p) (e:=p) (by rw [h];trivial) (.inl rfl) (fun b u hb q=>(Heap.get?_update_other _ _ (Ne.symm hb)).trans q) ⟨_,e⟩ ?_
 exact ⟨hz,its',n',r,e⟩
def zP:V→V→V→Hp→(Hp→Prop)→Prop:=fun o i v H Q=>∃p xs k j,o=.ref p∧i=.int k∧H p=some (.lst xs)∧ixN xs.length k=some j∧Q (upd H p (.lst (xs.set j v)))
theorem set_list:Bf X zP:=by
 intro pins s σ H o i v ov iv u Q I ro ri rv h
 obtain ⟨p,xs,k,j,rfl,rfl,hp,hj,q⟩:=h
 cases ro
 obtain ⟨t,rfl⟩:=ri
 obtain ⟨its,n,r,ho,hz⟩:=I.lst hp
 obtain ⟨h1,h2,h3,h4⟩:=qP hj
 have hl:=r.length
 have hn:=kB
 have I':Inv X pins σ (upd H p (.lst (xs.set j v))) {s with heap:=s.heap.update p (Obj.mapSeq (·.setIfInBounds j u))} :=
  I.uN hp ho (oV its n j u) (r.set rv j) (by rw [cx];exact hz) s.toks
 by_cases h0:0≤k
 ·have hk:k.toNat=j:=by
   rw [seqIndex_of h0 h4] at h1
   exact Option.some.inj h1
  exact PySem.W.ki_setAt ho h0 (by omega) (by rw [aT,←hl];exact h4) (by rw [hk];exact ⟨_,I',q⟩)
 ·have hk:(k+(its.toArray.size:Int)).toNat=j:=by
   rw [seqIndex_neg (by omega) h3] at h1
   rw [aT,←hl]
   exact Option.some.inj h1
  exact PySem.W.ki_setBack ho (by omega) (by rw [aT,←hl];exact h3) (by omega) (by rw [hk];exact ⟨_,I',q⟩)
theorem jo (lo hi:Option Int) (n:Nat):(sliceBounds lo hi none n).1=((HT.sIx n 0 lo:Nat):Int)∧(sliceBounds lo hi none n).2.1=((HT.sIx n n hi:Nat):Int)∧(sliceBounds lo hi none n).2.2=1:=by
 refine ⟨?_,?_,rfl⟩
 ·cases lo with
  | none=>simp [sliceBounds,HT.sIx]
  | some i =>
   simp only [sliceBounds,HT.sIx,Option.getD_none,show (1:Int)>0 by decide,if_true]
   by_cases h:i<0
   ·simp only [h,if_true]<;>omega
   ·simp only [h,if_false]<;>omega
 ·cases hi with
  | none=>simp [sliceBounds,HT.sIx]
  | some i =>
   simp only [sliceBounds,HT.sIx,Option.getD_none,show (1:Int)>0 by decide,if_true]
   by_cases h:i<0
   ·simp only [h,if_true]<;>omega
   ·simp only [h,if_false]<;>omega
theorem kW (its:List Value) (lo hi:Option Int):slicePick its.toArray lo hi none=((its.drop (HT.sIx its.length 0 lo)).take (HT.sIx its.length its.length hi-HT.sIx its.length 0 lo)).toArray:=by
 obtain ⟨h1,h2,h3⟩:=jo lo hi its.toArray.size
 unfold slicePick
 rw [h1,h2,h3]
 simp only [sliceRange_one,pick_run,aT]<;>rfl
def Bw (K:ai):V→Option Int→Option Int→Hp→VK→Prop:=fun x lo hi H Q=>∃a xs,x=.ref a∧SqL K H a xs∧∀p,H p=none→Q (.ref p) (upd H p (.lst (sm xs lo hi)))
theorem u_:SlR X (Bw X.K):=by
 intro pins s σ H x v vl vu lo hi sl Q I rx hs pl pu h
 obtain ⟨a,xs,rfl,hx,q⟩:=h
 cases rx
 obtain ⟨its,r,ht,hz⟩:=I.list hx
 have hlen:=r.length
 refine ⟨"list",_,slot_list_getitem.lookup,ht.isList.typeIs,?_⟩
 refine wpAny_getItem_list_slice ht.isList hs pl pu .none (by simp) ?_ (by rw [aT]<;>omega)
 rw [kW,←hlen]
 refine ⟨.ref s.heap.objs.size,_,I.laid (t':=s.toks) (o:=.lst (sm xs lo hi)) (fun b ob q=>ao _ q) (aN _) ?_,rfl,q _ (I.hok.fresh (aN _))⟩
 exact ⟨cu (nK xs lo hi) hz,_,0,(r.drop (HT.sIx xs.length 0 lo)).take (HT.sIx xs.length xs.length hi-HT.sIx xs.length 0 lo),bo _ rfl⟩
def jA:V→Bool
 | .non=>true
 | .bl _=>true
 | .int _=>true
 | .str _=>true
 | _=>false
def eqV:V→V→Bool
 | .non,.non=>true
 | .bl a,.bl b=>a==b
 | .bl a,.int b=>(if a then 1 else 0)==b
 | .int a,.bl b=>a==(if b then 1 else 0)
 | .int a,.int b=>a==b
 | .str a,.str b=>a==b
 | _,_=>false
theorem xU {A:Around} {s:Shared} {y x:V} {u v:Value} (ry:RelV y u) (rx:RelV x v) (fy:jA y=true) (fx:jA x=true):SeqAt.EqAt A s u v (eqV y x):=by
 cases y with
 | non =>
  cases ry
  cases x with
  | non=>cases rx;exact SeqAt.EqAt.same _
  | bl b=>cases rx;exact SeqAt.EqAt.none_bool b
  | int b=>obtain ⟨t,rfl⟩:=rx;exact SeqAt.EqAt.none_int b t
  | str b=>obtain ⟨t,rfl⟩:=rx;exact SeqAt.EqAt.none_str b t
  | _=>exact absurd (show false=true from fx) aV
 | bl a =>
  cases ry
  cases x with
  | non=>cases rx;exact SeqAt.EqAt.bool_none a
  | bl b=>cases rx;exact SeqAt.EqAt.bool_bool a b
  | int b=>obtain ⟨t,rfl⟩:=rx;exact SeqAt.EqAt.bool_int a b t
  | str b=>obtain ⟨t,rfl⟩:=rx;exact SeqAt.EqAt.bool_str a b t
  | _=>exact absurd (show false=true from fx) aV
 | int a =>
  obtain ⟨t',rfl⟩:=ry
  cases x with
  | non=>cases rx;exact SeqAt.EqAt.int_none a t'
  | bl b=>cases rx;exact SeqAt.EqAt.int_bool a t' b
  | int b=>obtain ⟨t,rfl⟩:=rx;exact SeqAt.EqAt.int_int a t' b t
  | str b=>obtain ⟨t,rfl⟩:=rx;exact SeqAt.EqAt.int_str a t' b t
  | _=>exact absurd (show false=true from fx) aV
 | str a =>
  obtain ⟨t',rfl⟩:=ry
  cases x with
  | non=>cases rx;exact SeqAt.EqAt.str_none a t'
  | bl b=>cases rx;exact SeqAt.EqAt.str_bool a t' b
  | int b=>obtain ⟨t,rfl⟩:=rx;exact SeqAt.EqAt.str_int a t' b t
  | str b=>obtain ⟨t,rfl⟩:=rx;exact SeqAt.EqAt.str_str a t' b t
  | _=>exact absurd (show false=true from fx) aV
 | _=>exact absurd (show false=true from fy) aV
def eqU (x:V) (u:Value):Bool:=match u with
 | .none=>eqV .non x
 | .bool b=>eqV (.bl b) x
 | .int i _=>eqV (.int i) x
 | .str z _=>eqV (.str z) x
 | _=>false
theorem oy {x y:V} {u:Value} (r:RelV y u) (f:jA y=true):eqU x u=eqV y x:=by
 cases y with
 | non=>cases r;rfl
 | bl b=>cases r;rfl
 | int i=>obtain ⟨t,rfl⟩:=r;rfl
 | str z=>obtain ⟨t,rfl⟩:=r;rfl
 | _=>exact absurd (show false=true from f) aV
theorem kh {x:V}:∀{xs:List V} {us:List Value},Vals xs us→xs.all jA=true→us.any (eqU x)=xs.any fun y=>eqV y x
 | _,_,.nil,_=>rfl
 | y::xs,u::us,.cons r t,f=>by
  rw [dN,cC] at f
  rw [fc,fc,oy r f.1,kh t f.2]
theorem ik {A:Around} {s:Shared} {x:V} {v:Value} (rx:RelV x v) (fx:jA x=true):∀{xs:List V} {us:List Value},Vals xs us→xs.all jA=true→∀u∈us,SeqAt.EqAt A s u v (eqU x u)
 | _,_,.nil,_=>fun u hu=>by cases hu
 | y::xs,u::us,.cons r t,f=>fun u' hu=>by
  rw [dN,cC] at f
  rcases aU.mp hu with rfl | hu
  ·rw [oy r f.1];exact xU r rx f.1 fx
  ·exact ik rx fx t f.2 u' hu
def inV (x:V) (xs:List V):Bool:=xs.any fun y=>eqV y x
def rIn (K:ai) (neg:Bool):R2:=fun x y H Q=>∃p xs,y=.ref p∧(SqL K H p xs∨SqT K H p xs)∧jA x=true∧xs.all jA=true∧Q (.bl (if neg then !inV x xs else inV x xs)) H
theorem qv:OpR X (compareOp .In) (rIn X.K false):=by
 intro pins s σ H x y v u Q I rx ry h
 obtain ⟨p,xs,rfl,hq,fx,fs,q⟩:=h
 cases ry
 rcases hq with hq | hq
 ·obtain ⟨its,r,pl,hz⟩:=I.list hq
  refine SeqAt.in_listAt (eqU x) pl.isList (fun w hw=>ik rx fx r fs w (by simpa using hw)) ⟨.bl _,H,I,rfl,?_⟩
  rw [show its.toArray.any (eqU x)=its.any (eqU x) by simp,kh r fs]
  exact q
 ·obtain ⟨its,r,pl,hz⟩:=I.tuple hq
  refine SeqAt.in_tupleAt (eqU x) pl (fun w hw=>ik rx fx r fs w (by simpa using hw)) ⟨.bl _,H,I,rfl,?_⟩
  rw [show its.toArray.any (eqU x)=its.any (eqU x) by simp,kh r fs]
  exact q
theorem md:OpR X (compareOp .NotIn) (rIn X.K true):=by
 intro pins s σ H x y v u Q I rx ry h
 obtain ⟨p,xs,rfl,hq,fx,fs,q⟩:=h
 cases ry
 rcases hq with hq | hq
 ·obtain ⟨its,r,pl,hz⟩:=I.list hq
  refine SeqAt.notIn_listAt (eqU x) pl.isList (fun w hw=>ik rx fx r fs w (by simpa using hw)) ⟨.bl _,H,I,rfl,?_⟩
  rw [show its.toArray.any (eqU x)=its.any (eqU x) by simp,kh r fs]
  exact q
 ·obtain ⟨its,r,pl,hz⟩:=I.tuple hq
  refine SeqAt.notIn_tupleAt (eqU x) pl (fun w hw=>ik rx fx r fs w (by simpa using hw)) ⟨.bl _,H,I,rfl,?_⟩
  rw [show its.toArray.any (eqU x)=its.any (eqU x) by simp,kh r fs]
  exact q
theorem mJ:gK X (.builtin "len") (fun xs H Q=>∃p ys,xs=[.ref p]∧(SqL X.K H p ys∨SqT X.K H p ys)∧Q (.int ys.length) H):=by
 intro pins s σ H xs us Q I r h
 obtain ⟨p,ys,rfl,hq,q⟩:=h
 obtain ⟨u,rfl,rx⟩:=vals1 r
 cases rx
 have hn:=kB
 rcases hq with hq | hq
 ·obtain ⟨its,r',pl,hz⟩:=I.list hq
  have hlen:=r'.length
  exact Calls.call_len_list pl.isList (by simp only [aT]<;>omega) ⟨.int ys.length,H,I.tok _,⟨s.toks+1,by rw [aT,hlen]⟩,q⟩
 ·obtain ⟨its,r',pl,hz⟩:=I.tuple hq
  have hlen:=r'.length
  exact len_tuple pl (by simp only [aT]<;>omega) ⟨.int ys.length,H,I.tok _,⟨s.toks+1,by rw [aT,hlen]⟩,q⟩
theorem mI:gK X (.type "list") (fun xs H Q=>∃p ys,xs=[.ref p]∧(SqL X.K H p ys∨SqT X.K H p ys)∧∀l,H l=none→Q (.ref l) (upd H l (.lst ys))):=by
 intro pins s σ H xs us Q I r h
 obtain ⟨p,ys,rfl,hq,q⟩:=h
 obtain ⟨u,rfl,rx⟩:=vals1 r
 cases rx
 have fin:∀(its:List Value),Vals ys its→ys.length≤sizeLine→∀(h':Heap) (c':Nat),(∀b o',s.heap.get? b=some o'→h'.get? b=some o') →
   h'.get? s.heap.objs.size=some {cls:=.type "list",dict:=none,data:=.seq its.toArray c',slots:=#[]}→EP X pins σ Q (.ref s.heap.objs.size) {s with heap:=h'}:=fun its r' hz h' c' kp e =>
  ⟨.ref s.heap.objs.size,_,I.laid (t':=s.toks) kp (aN _) (show fN X.prog X.w _ h' _ (.lst ys) from ⟨hz,its,c',r',e⟩),rfl,q _ (I.hok.fresh (aN _))⟩
 rcases hq with hq | hq
 ·obtain ⟨its,r',pl,hz⟩:=I.list hq
  have hlen:=r'.length
  obtain ⟨o,ho,hc,n,hd⟩:=pl.isList
  exact call_list_seq p (.inl rfl) ho hc hd (fun h' c' kp e=>fin its r' hz h' c' kp e) (by simp only [aT]<;>omega)
 ·obtain ⟨its,r',pl,hz⟩:=I.tuple hq
  have hlen:=r'.length
  obtain ⟨o,ho,hc,n,hd⟩:=pl
  exact call_list_seq p (.inr rfl) ho hc hd (fun h' c' kp e=>fin its r' hz h' c' kp e) (by simp only [aT]<;>omega)
theorem lN:gK X (.type "tuple") (fun xs H Q=>∃p ys,xs=[.ref p]∧((SqL X.K H p ys∧∀l,H l=none→Q (.ref l) (upd H l (.tup ys)))∨(SqT X.K H p ys∧Q (.ref p) H))):=by
 intro pins s σ H xs us Q I r h
 obtain ⟨p,ys,rfl,h⟩:=h
 obtain ⟨u,rfl,rx⟩:=vals1 r
 cases rx
 rcases h with ⟨hq,q⟩ | ⟨hq,q⟩
 ·obtain ⟨its,r',pl,hz⟩:=I.list hq
  have hlen:=r'.length
  refine call_tuple_list pl.isList (fun h' kp=>?_) (by simp only [aT]<;>omega)
  have I1:Inv X pins σ H {s with heap:=h'}:=I.kept (t':=s.toks) kp
  have I2:Inv X pins σ (upd H h'.objs.size (.tup ys)) {s with heap:=h'.push {cls:=.type "tuple",data:=.seq its.toArray}} :=
   I1.laid (t':=s.toks) (fun b o e=>ao _ e) (aN _) (show fN X.prog X.w _ _ _ (.tup ys) from ⟨hz,its,r',IsTup.new _ _⟩)
  exact ⟨.ref h'.objs.size,_,I2,rfl,q _ (I1.hok.fresh (aN _))⟩
 ·obtain ⟨its,r',pl,hz⟩:=I.tuple hq
  exact call_tuple_same pl ⟨.ref p,H,I,rfl,q⟩
def tyV (K:ai) (T:String) (x:V) (H:Hp):Prop:=match x with
 | .str _=>T="str"
 | .int _=>T="int"
 | .ref p=>(T="list"∧∃xs,SqL K H p xs)∨(T="tuple"∧∃o,K.lookup p=some o∧o.cls=.type "tuple"∧o.dict=none) ∨
   (T="dict"∧((∃kvs,H p=some (.dK kvs))∨∃kvs,H p=some (.dT kvs)))∨(T="set"∧∃S n,H p=some (.set S n))
 | _=>False
theorem uk {pins:List (Addr×Obj)} {σ:St} {H:Hp} {s:Shared} {T:String} {x:V} {v:Value} (I:Inv X pins σ H s) (r:RelV x v) (ty:tyV X.K T x H) :
  s.TypeIs v T∧∀a,v=.ref a→∃ob,s.heap.get? a=some ob∧ob.dict=none:=by
 cases x with
 | str z =>
  obtain ⟨t,rfl⟩:=r
  cases (show T="str" from ty)
  exact ⟨typeIs_str s z t,fun _ e=>nomatch e⟩
 | int i =>
  obtain ⟨t,rfl⟩:=r
  cases (show T="int" from ty)
  exact ⟨typeIs_int s i t,fun _ e=>nomatch e⟩
 | ref p =>
  cases r
  rcases ty with ⟨rfl,xs,hq⟩ | ⟨rfl,o,hk,hc,hd⟩ | ⟨rfl,hk⟩ | ⟨rfl,S,n,hk⟩
  ·obtain ⟨its,_,pl,_⟩:=I.list hq
   refine ⟨pl.isList.typeIs,fun a e=>?_⟩
   cases e
   obtain ⟨o,n,e,c,hd,_⟩:=pl
   exact ⟨o,e,hd⟩
  ·refine ⟨⟨o,I.kIn p o hk,hc⟩,fun a e=>?_⟩
   cases e
   exact ⟨o,I.kIn _ o hk,hd⟩
  ·have z:∃o,s.heap.get? p=some o∧o.ExactDict:=by
    rcases hk with ⟨kvs,hk⟩ | ⟨kvs,hk⟩
    ·obtain ⟨_,_,_,_,o,_,_,e,ex,_⟩:=I.hok p _ hk
     exact ⟨o,e,ex⟩
    ·obtain ⟨_,_,_,_,o,_,_,e,ex,_⟩:=I.hok p _ hk
     exact ⟨o,e,ex⟩
   obtain ⟨o,e,ex⟩:=z
   refine ⟨⟨o,e,ex.1⟩,fun a e2=>?_⟩
   cases e2
   exact ⟨o,e,ex.2.1⟩
  ·obtain ⟨o,_,_,_,e,ex,_⟩:=I.hok p _ hk
   refine ⟨⟨o,e,ex.1⟩,fun a e2=>?_⟩
   cases e2
   exact ⟨o,e,ex.2.1⟩
 | _=>exact False.elim ty
def BW (K:ai) (T:String) (r:V→List V→Hp→VK→Prop) (to:TE):TE:=fun σ H Q=>to σ H fun x H1=>tyV K T x H1∧r x [] H1 Q
def tBM (K:ai) (T:String) (r:V→List V→Hp→VK→Prop) (to:TE) (t:TA):TE:=fun σ H Q=>to σ H fun x H1=>tyV K T x H1∧t σ H1 fun xs H2=>r x xs H2 Q
variable {o e:Expr} {es:List Expr} {to:TE} {t:TA} {name:Str} {apos cpos:Pos} {T id:String} {r:V→List V→Hp→VK→Prop}
theorem xx (pa:PlainAttrs T) (slot:Slot T name id) (hty:typeOf (.builtin id)=pure (.type "method_descriptor")) (hm:MtR X id r) (ho:PE X o to)
  (hbase:attributeBase o name X.env (eval o X.env)=eval o X.env:=by rfl) (hline:(apos.endLine==cpos.line)=true:=by rfl):PE X (.Call (.Attribute o name apos) [] [] cpos) (BW X.K T r to):=by
 intro pins s σ H Q I h
 refine wpAny_Call_method0_late hbase hline (thn (ho pins s σ H _ I h) fun v s1 ⟨x,H1,I1,r1,ty,q1⟩=>?_)
 obtain ⟨h1,h2⟩:=uk I1 r1 ty
 exact ⟨T,id,pa,slot,hty,h1,h2,Calls.callWith_builtin rfl (PySem.evalArgs_none (hm pins s1 σ H1 x [] v [] Q I1 r1 .nil q1))⟩
theorem iJ (pa:PlainAttrs T) (slot:Slot T name id) (hty:typeOf (.builtin id)=pure (.type "method_descriptor")) (hm:MtR X id r) (ho:PE X o to) (ha:PA X (e::es) t)
  (hbase:attributeBase o name X.env (eval o X.env)=eval o X.env:=by rfl)
  (hfew:((backTo cpos (starEach (e::es) X.env)).all (fun x=>!x.1)&&(backToKw cpos (keywordEach [] X.env)).all (fun x=>x.1.isSome)
   && decide ((e::es).length+([]:List Keyword).length+(if ([]:List Keyword).isEmpty then 0 else 1)<30))=true:=by rfl)
  (hline:(apos.endLine==cpos.line)=true:=by rfl) (hs:starEach (e::es) X.env=(false,eval e X.env)::starEach es X.env:=by rfl) (hplain:(backTo cpos (starEach es X.env)).any (·.1)=false:=by rfl) :
  PE X (.Call (.Attribute o name apos) (e::es) [] cpos) (tBM X.K T r to t):=by
 intro pins s σ H Q I h
 refine wpAny_Call_method_late hbase hfew hline rfl (thn (ho pins s σ H _ I h) fun v s1 ⟨x,H1,I1,r1,ty,q1⟩=>?_)
 obtain ⟨h1,h2⟩:=uk I1 r1 ty
 refine ⟨T,id,pa,slot,hty,h1,h2,?_⟩
 have hA:=ha cpos pins s1 σ H1 _ I1 q1
 rw [hs] at hA ⊢
 refine Calls.callWith_builtin (by show (false||(backTo cpos (starEach es X.env)).any (·.1))=false;rw [hplain]<;>rfl) (Calls.evalArgs_plain ?_)
 exact thn hA fun us s2 ⟨vs,H2,I2,r2,q2⟩=>hm pins s2 σ H2 x vs v us Q I2 r1 r2 q2
end
end L2
namespace L2
open PySem PySem.Spec PyProof.Rows
def MtM (X:Cx) (id:String) (r:V→List V→Hp→VK→Prop):Prop :=
 ∀(pins:List (Addr×Obj)) (s:Shared) (σ:St) (H:Hp) (x:V) (xs:List V) (v:Value) (us:List Value) (Q:VK),Inv X pins σ H s→RelV x v→Vals xs us→r x xs H Q →
  wpAny (model X.prog X.w) X.A (call (.builtin id) (v::us)) (EP X pins σ Q) X.xe s
theorem Vals.one:∀{x:V} {us:List Value},Vals [x] us→∃u,us=[u]∧RelV x u
 | _,_,.cons r .nil=>⟨_,rfl,r⟩
theorem Vals.zero:∀{us:List Value},Vals [] us→us=[]
 | _,.nil=>rfl
theorem Vals.rep {xs:List V} {us:List Value} (h:Vals xs us):∀k:Nat,Vals (au k xs).flatten (au k us).flatten
 | 0=>.nil
 | k+1=>by
  rw [dj,dj,List.flatten_cons,List.flatten_cons]
  exact Vals.append h (Vals.rep h k)
theorem foldl_rep (its:List Value):∀(k:Nat) (acc:List Value),
  List.foldl (fun x1 x2=>x1++x2) acc.toArray (au k its.toArray)=(acc++(au k its).flatten).toArray
 | 0,acc=>by simp
 | k+1,acc=>by
  have e:acc.toArray++its.toArray=(acc++its).toArray:=by simp
  have e2:(acc++its)++(au k its).flatten=acc++(au (k+1) its).flatten:=by
   rw [dj,List.flatten_cons,eR]
  rw [←e2,←foldl_rep its k (acc++its),←e,dj,List.foldl_cons]
section
variable {X:Cx} {pins:List (Addr×Obj)} {σ:St} {H:Hp} {s:Shared} {l b:Addr} {xs ys zs:List V}
theorem Inv.AR {its its':List Value} {n:Nat} {f:Array Value→Array Value} {t':Nat} (I:Inv X pins σ H s) (hH:H l=some (.lst xs))
  (e:s.heap.get? l=some {cls:=.type "list",data:=.seq its.toArray n}) (hf:f its.toArray=its'.toArray) (hv:Vals ys its') (hz:ys.length≤sizeLine) :
  Inv X pins σ (upd H l (.lst ys)) {s with heap:=s.heap.update l (Obj.mapSeq f),toks:=t'}:=by
 have q:=PySem.IsL.update e f
 rw [hf] at q
 refine I.write (x:=l) (e:=l) (by rw [hH];exact trivial) (.inl rfl) (fun b' u hb hu=>(Heap.get?_update_other s.heap (Obj.mapSeq f) (Ne.symm hb)).trans hu) ⟨_,q⟩ ?_
 exact ⟨hz,its',_,hv,q⟩
theorem Inv.BC {its:List Value} {t':Nat} (I:Inv X pins σ H s) (hv:Vals ys its) (hz:ys.length≤sizeLine) :
  Inv X pins σ (upd H s.heap.objs.size (.lst ys)) {s with heap:=s.heap.push {cls:=.type "list",data:=.seq its.toArray},toks:=t'} :=
 I.laid (fun _ _ q=>ao _ q) (aN _) ⟨hz,its,0,hv,bo _ rfl⟩
theorem Inv.fresh (I:Inv X pins σ H s):H s.heap.objs.size=none:=I.hok.fresh (aN _)
theorem Inv.wu (I:Inv X pins σ H s) (hH:H l=some (.lst xs)):xs.length≤sizeLine∧∃(its:List Value) (n:Nat),Vals xs its∧xs.length=its.length∧s.heap.get? l=some {cls:=.type "list",data:=.seq its.toArray n}:=by
 obtain ⟨z,its,n,r,e⟩:=I.hok l _ hH
 exact ⟨z,its,n,r,r.length,e⟩
theorem tI {n:Nat} (h:n≤sizeLine):Builtin.List.listTooLong n=false:=by
 unfold Builtin.List.listTooLong
 exact decide_eq_false (by omega)
end
section
variable {X:Cx}
def vj:V→List V→Hp→VK→Prop:=fun x vs H Q=>∃l xs y,x=.ref l∧vs=[y]∧H l=some (.lst xs)∧xs.length<sizeLine∧Q .non (upd H l (.lst (xs++[y])))
theorem fm:MtM X "list.append" vj:=by
 intro pins s σ H x vs v us Q I rx rv h
 obtain ⟨l,xs,y,rfl,rfl,hH,hz,q⟩:=h
 cases rx
 obtain ⟨u,rfl,ru⟩:=rv.one
 obtain ⟨z,its,n,r,hl,e⟩:=I.wu hH
 refine call_meets F.slot_list_append ⟨_,e,rfl⟩ F.entry_list_append (F.args_list_append_2 _ _) (PySem.list_append l its.toArray n u (by rw [aT];omega)) ⟨e,?_⟩
 refine ⟨.non,_,I.AR (its':=its++[u]) hH e (by simp) (r.append (.cons ru .nil)) ?_,rfl,q⟩
 rw [ay,List.length_singleton]
 omega
def xq:V→List V→Hp→VK→Prop:=fun x vs H Q=>∃l xs,x=.ref l∧vs=[]∧H l=some (.lst xs)∧Q .non (upd H l (.lst []))
theorem tL:MtM X "list.clear" xq:=by
 intro pins s σ H x vs v us Q I rx rv h
 obtain ⟨l,xs,rfl,rfl,hH,q⟩:=h
 cases rx
 have hus:=rv.zero
 subst hus
 obtain ⟨z,its,n,r,hl,e⟩:=I.wu hH
 refine call_meets F.slot_list_clear ⟨_,e,rfl⟩ F.entry_list_clear (F.args_list_clear_1 _) (AutoSeq1.list_clear_list_0 l its.toArray n (by rw [aT];omega)) ⟨e,?_⟩
 exact ⟨.non,_,I.AR (its':=[]) (ys:=[]) hH e rfl .nil (dU _),rfl,q⟩
def CC:R2:=fun x y H Q=>∃l b xs zs,x=.ref l∧y=.ref b∧H l=some (.lst xs)∧H b=some (.lst zs)∧xs.length+zs.length≤sizeLine∧∀p,H p=none→Q (.ref p) (upd H p (.lst (xs++zs)))
theorem gk:OpR X (binaryOp .Add) CC:=by
 intro pins s σ H x y v u Q I rx ry h
 obtain ⟨l,b,xs,zs,rfl,rfl,hH,hB,hz,q⟩:=h
 cases rx
 cases ry
 obtain ⟨z,its,n,r,hl,e⟩:=I.wu hH
 obtain ⟨z2,its2,n2,r2,hl2,e2⟩:=I.wu hB
 refine PySem.P.add_list e e2 ?_ (by rw [aT,aT];omega)
 have ea:its.toArray++its2.toArray=(its++its2).toArray:=by simp
 rw [ea]
 exact ⟨.ref _,_,I.BC (t':=s.toks) (r.append r2) (by rw [ay];omega),rfl,q _ I.fresh⟩
def Cy:R2:=fun x y H Q=>∃l k xs,x=.ref l∧y=.int k∧H l=some (.lst xs)∧-(2^63)≤k∧k<2^63∧xs.length*k.toNat≤sizeLine ∧
 ∀p,H p=none→Q (.ref p) (upd H p (.lst (au k.toNat xs).flatten))
theorem len_rep {α:Type} (xs:List α) (k:Nat):(au k xs).flatten.length=k*xs.length:=by
 induction k with
 | zero=>simp
 | succ k ih=>rw [dj,List.flatten_cons,ay,ih,Nat.succ_mul,Nat.add_comm]
theorem jv:OpR X (binaryOp .Mult) Cy:=by
 intro pins s σ H x y v u Q I rx ry h
 obtain ⟨l,k,xs,rfl,rfl,hH,h1,h2,hz,q⟩:=h
 cases rx
 obtain ⟨t,rfl⟩:=ry
 obtain ⟨z,its,n,r,hl,e⟩:=I.wu hH
 have hlen:its.toArray.size*k.toNat≤sizeLine:=by rw [aT,←hl];exact hz
 have hcap:¬its.toArray.size*k.toNat>(2^63-1)/8:=by
  have:(sizeLine:Nat)≤(2^63-1)/8:=by decide
  omega
 have hfit:¬(!Builtin.List.listFitsIndex k)=true:=by
  rw [fitsIndex_both h1 h2]
  exact aV
 have hlong:¬Builtin.List.listTooLong (its.toArray.size*k.toNat)=true:=by
  rw [tI hlen]
  exact aV
 have hnew:List.foldl (fun x1 x2=>x1++x2) #[] (au (if its.toArray.isEmpty=true then 0 else k.toNat) its.toArray)=(au k.toNat its).flatten.toArray:=by
  have f0:∀m:Nat,List.foldl (fun x1 x2=>x1++x2) #[] (au m its.toArray)=(au m its).flatten.toArray:=fun m=>by
   have:=foldl_rep its m []
   rw [List.nil_append] at this
   exact this
  rw [f0]
  cases its with
  | nil=>simp
  | cons a r'=>rw [if_neg (by simp)]
 refine wpAny_binaryOp_repeat_ref (T:="list") (U:="int") (by decide) ⟨_,e,rfl⟩ (fun s'=>typeIs_int s' k t) noFill_list_mul F.fills_int_mul F.slot_int_rmul repeat_list F.slot_int_index.lookup
  (call_meets F.slot_int_rmul (typeIs_int s k t) F.entry_int_rmul (F.args_int_rmul_2 _ _) (int___rmul___int_list k t l its.toArray n)
   ⟨e,rfl,⟨_,e,rfl⟩,call_meets F.slot_list_mul ⟨_,e,rfl⟩ F.entry_list_mul (F.args_list_mul_2 _ _) (AutoListH.list___mul___list_int_3 l its.toArray n k t hfit hcap hlong) ⟨e,?_⟩⟩)
 rw [hnew]
 exact ⟨.ref _,_,I.BC (t':=s.toks) (r.rep k.toNat) (by rw [len_rep,Nat.mul_comm];exact hz),rfl,q _ I.fresh⟩
end
section
variable {prog:Program} {w:World} {A:Around} {E:Value→Shared→Prop} {s:Shared}
end
section
variable {X:Cx}
end
end L2
namespace Att
open PySem PySem.W PySem.Calls PyProof.Rows
theorem kb {P:Params} {h:Heap}:∀(ns:List Int) (vs:List Value),WellAll P h vs (ns.map WData.int)→IntsAre vs ns:=by
 intro ns
 induction ns with
 | nil =>
  intro vs w
  rw [fw] at w
  cases w
  exact .nil
 | cons n ns ih =>
  intro vs w
  rw [bf] at w
  cases w with
  | cons a b =>
   cases a
   exact .cons _ _ (ih _ b)
theorem qc {l:OpenLaw} {n:Nat} (hn:l.most=some n) {P:Params} {h:Heap} {args:List WData} {vals:List Value}
  (hpre:l.row.toRowW.claim.pre args=true) (hwl:WellAll P h vals args) :
  ∃a vs ns,vals=[Value.ref a]∧args=[WData.list (ns.map WData.int)]∧h.get? a=some {cls:=.type "list",data:=.seq vs.toArray}∧IntsAre vs ns∧ns.length≤n:=by
 have hsh:WShape.hasAll [] args [.list .int]=true:=(pre_splitW hpre).1
 have hc:l.pre.holds [] {args:=args}=true:=(pre_splitW hpre).2
 obtain ⟨d,r,rfl,h1,h2⟩:=hasAllW_cons hsh
 obtain rfl:=hasAllW_nil h2
 obtain ⟨xs,rfl,h3⟩:=hasW_list h1
 obtain ⟨ns,rfl⟩:=items_int h3
 have hlen:ns.length≤n:=by
  unfold OpenLaw.pre at hc
  have h4:(WTm.not (.lt (.lit (.int (n:Int))) (.len (.arg 0)))).holds [] {args:=[.list (ns.map .int)]}=true:=by
   have h4:=(holds_andW hc).1
   rw [hn] at h4
   exact h4
  have h5:=condW_of h4 (w_not (w_lt w_lit (w_len_list (w_arg rfl))))
  rw [aa] at h5
  refine Nat.le_of_not_lt fun q=>?_
  have q':(n:Int)<((ns.length:Nat):Int):=by omega
  first
   | (rw [decide_eq_true q'] at h5;exact absurd h5 (by decide))
   | (simp at h5;omega)
 cases hwl with
 | cons w1 w2 =>
  cases w2
  cases w1 with
  | list ho hall=>exact ⟨_,_,ns,rfl,rfl,ho,kb ns _ hall,hlen⟩
theorem qk (l:OpenLaw) (args:List WData):l.row.toRowW.claim.post args (.bool true) args=true :=
 postW_of (r:=l.row.toRowW) (X:=(true==true))
  (show WShape.has [] (.bool true) .bool=true by first | rfl | decide | simp [WShape.has,WShape.arms,WShape.armsAll])
  (show (WTm.eq .res (.lit (.bool true))).value [] {args:=args,res:=some (.bool true),after:=args}=some (.bool (true==true)) from w_eq_bool (w_res rfl) w_lit) rfl
theorem nO {l:OpenLaw} {n:Nat} {q:Program} {loose:List Str} {XP:(Str→Option Value)→Heap→Prop} {YP:World→Heap→Prop} {d:DefRec}
  (hn:l.most=some n) (hdf:d.params.defaults=[])
  (call:∀(w:World) (s₀ s₁:Shared) (mg mb:Str→Option Value) (fa:Addr) (o:Obj) (pm cd doc:Value) (a:Addr) (vs:List Value) (ns:List Int),
   Ground q loose [] XP w s₀ mg mb s₁.heap→YP w s₁.heap →
   s₁.heap.get? fa=some o→o.data=.func (docDef d.name d.params d.body d.scope pm cd doc)→s₁.heap.CodeRec cd d.name→mg d.name=some (.ref fa) →
   s₁.heap.get? a=some {cls:=.type "list",data:=.seq vs.toArray}→IntsAre vs ns→ns.length≤n→s₁.gens=#[] →
   codeAny (model l.prog w) callerA (.call (.ref fa) ⟨[.ref a],[]⟩) (fun r s'=>r=.ok (.ret (.bool true))∧OldK s₁.heap s'.heap∧s'.os=s₁.os∧AllBare s'.gens) s₁) :
  WalkO q loose XP YP l.row.toRowW d [] (fun f vs=>PySem.call f vs):=by
 intro w s₀ s₁ mg mb G Y fa o pm cd doc dV kV ho hd hcd hD hmg hg args vals as hpre hlay hrd hwl hlo
 obtain rfl:dV=.none:=Dflts.none hD hdf
 obtain rfl:kV=.none:=Dflts.noKw hD
 obtain ⟨a,vs,ns,rfl,rfl,hobj,hints,hlen⟩:=qc hn hpre hwl
 refine enter_call (codeAny_mono (call w s₀ s₁ mg mb fa o pm cd doc a vs ns G Y ho (fd_plain hd) hcd hmg hobj hints hlen hg) fun r s' hq=>?_)
 obtain ⟨rfl,h2,h3,h4⟩:=hq
 exact ⟨.inl ⟨.bool true,.bool true,[],rfl,fun _=>rfl,.bool true,qk l _,fun _=>⟨List.Pairwise.nil,fun _ hm=>(nomatch hm)⟩⟩,h2,h3,h4⟩
section
variable {prog:Program} {w:World} {A:Around} {E:Value→Shared→Prop} {s:Shared} {K:Frag}
end
end Att
namespace L2
open PySem PySem.Spec PyProof.Rows
theorem lQ:∀{vs:List Value} {ns:List Int},IntsAre vs ns→Vals (ns.map V.int) vs
 | _,_,.nil=>.nil
 | _,_,.cons n t h=>.cons ⟨t,rfl⟩ (lQ h)
def Bg (H:Hp):Prop:=∀b,H b=none∨∃o xs,H b=some (.frz o (.lst xs))
theorem tR {P:Program} {w:World} {K:ai} {mg mb:Str→Option Value} {CX:CXT} {k:Nat} {fa a:Addr} {fd:FuncData} {x:Str} {sp:Sp} {s₁:Shared} {vs:List Value} {ns:List Int}
  (KX:K.In s₁.heap) (hns:s₁.heap.Ns mainGlobals mg) (hb:s₁.heap.Ns builtinsNs mb) (hbb:∀x:Str,x≠"__name__"→mb x=bootBuiltins x) (hlim:s₁.heap.NoLimit) (hg:s₁.gens=#[])
  (ha:s₁.heap.get? a=some {cls:=.type "list",data:=.seq vs.toArray}) (hi:IntsAre vs ns) (hl:ns.length≤sizeLine) (hr:iT k callerA)
  (F:∀base:Heap,K.In base→base.Ns mainGlobals mg→fH P w K mg base CX k fa fd [x] sp) (hbind:∀(s:Shared) (u:Value),BindsTo s fd ⟨[u],[]⟩ [(x,u)])
  (hsp:∀H:Hp,Bg H→SqL K H a (ns.map V.int)→sp [.ref a] H (fun v _=>v=.bl true) fun _ _ _=>False)
  (hCX:∀H e s',CX [] H s₁ (fun _ _ _=>False) e s'→False) :
  codeAny (model P w) callerA (.call (.ref fa) ⟨[.ref a],[]⟩) (fun r s'=>r=.ok (.ret (.bool true))∧OldK s₁.heap s'.heap∧s'.os=s₁.os∧AllBare s'.gens) s₁:=by
 have rv:=lQ hi
 have lenV:=hi.length
 have core:∀H:Hp,Bg H→SqL K H a (ns.map V.int)→HOk P w H s₁.heap→(∀b,H b≠none→b=a)→(H a≠none→K.lookup a=none) →
   codeAny (model P w) callerA (.call (.ref fa) ⟨[.ref a],[]⟩) (fun r s'=>r=.ok (.ret (.bool true))∧OldK s₁.heap s'.heap∧s'.os=s₁.os∧AllBare s'.gens) s₁:=by
  intro H hO hS hok hA hK
  have base_of:∀{b:Addr} {o:Obj},s₁.heap.get? b=some o→H b=none→(qU s₁.heap H).get? b=some o:=fun e n=>t_ e n
  have noA:∀{b:Addr} {o:Obj} {es:Array DictEntry} {ep:Nat},s₁.heap.get? b=some o→o.data=.dict es ep→H b=none:=fun {b o es ep} e d=>by
   cases q:H b with
   | none=>rfl
   | some u =>
    have e':b=a:=hA b (by rw [q];simp)
    subst e'
    rw [ha] at e;cases e
    have d':Data.seq vs.toArray _=Data.dict es ep:=d
    cases d'
  have nsK:∀{b:Addr} {m:Str→Option Value},s₁.heap.Ns b m→(qU s₁.heap H).Ns b m:=fun {b m} ⟨o,es,ep,e,d,r⟩=>⟨o,es,ep,base_of e (noA e d),d,r⟩
  have hKb:K.In (qU s₁.heap H):=fun b o e=>base_of (KX b o e) (by
   cases q:H b with
   | none=>rfl
   | some u =>
    have e':b=a:=hA b (by rw [q];simp)
    subst e'
    rw [hK (by rw [q];simp)] at e;cases e)
  have hM:Mod K mg (qU s₁.heap H):=⟨hKb,nsK hns,⟨mb,nsK hb,hbb⟩,let ⟨mc,h1,h2⟩:=hlim;⟨mc,nsK h1,h2⟩⟩
  have e0:sq P w K mg (qU s₁.heap H) callerA [] s₁ H:=⟨rfl,hM,fun b o e=>vw e,gr (qT _ _),trivial,fun b hb=>absurd (show b∈([]:List Addr) from hb) (by simp),hok,.of_eq hg⟩
  refine codeAny_mono ((F _ hKb (nsK hns)).run callerA [] s₁ H ⟨[.ref a],[]⟩ [.ref a] [.ref a] _ _ hr e0 (hbind s₁ (.ref a)) (.cons rfl .nil) (hsp H hO hS)) fun r s' h=>?_
  cases r with
  | error e=>exact (hCX H e s' h).elim
  | ok fl =>
   cases fl with
   | next=>exact False.elim h
   | brk=>exact False.elim h
   | cont=>exact False.elim h
   | ret u =>
    obtain ⟨v,H',os,bare,un,hok',r',q⟩:=h
    have q':v=.bl true:=q
    subst q'
    obtain rfl:u=Value.bool true:=r'
    refine ⟨rfl,OldK.of_keep fun b o e=>?_,os,bare⟩
    cases q:H b with
    | none=>exact un.keep b o e q (by intro z;exact absurd (show b∈([]:List Addr) from z) (by simp)) (by simp)
    | some u =>
     rcases hO b with z | ⟨ob,xs,z⟩
     ·rw [q] at z;cases z
     ·have z2:=un.frzs b ob _ z
      obtain ⟨e1,_⟩:=hok b _ z
      obtain ⟨e2,_⟩:=hok' b _ z2
      rw [e] at e1;cases e1
      exact e2
 cases hk:K.lookup a with
 | some o =>
  have e:=KX a o hk
  rw [ha] at e
  cases e
  refine core (fun _=>none) (fun _=>.inl rfl) (.inr ⟨_,vs.toArray,_,hk,rfl,rfl,rfl,by rw [aT,lenV];exact hl,by simpa using rv⟩) (fun b u z=>by have z':(none:Option HO)=some u:=z;cases z') (fun b z=>absurd rfl z) fun z=>absurd rfl z
 | none =>
  refine core (fun b=>if b=a then some (.frz {cls:=.type "list",data:=.seq vs.toArray} (.lst (ns.map V.int))) else none) (fun b=>?_) (.inl (.inr ⟨{cls:=.type "list",data:=.seq vs.toArray},if_pos rfl⟩)) (fun b u z=>?_) (fun b z=>?_) fun _=>hk
  ·by_cases hb:b=a
   ·exact .inr ⟨_,_,if_pos hb⟩
   ·exact .inl (if_neg hb)
  ·by_cases hb:b=a
   ·have z':=(if_pos hb).symm.trans z
    cases z'
    subst hb
    exact ⟨ha,by rw [aa];exact hl,vs,_,rv,ha⟩
   ·have z':=(if_neg hb).symm.trans z
    cases z'
  ·by_cases hb:b=a
   ·exact hb
   ·exact absurd (if_neg hb) z
end L2
namespace L2
open PySem PySem.Spec PyProof.Rows
theorem uS {l:PySem.W.OpenLaw} {n k:Nat} {q:Program} {loose:List Str} {XP:(Str→Option Value)→Heap→Prop} {YP:World→Heap→Prop} {d:DefRec} {K:Params→ai} {CX:World→CXT} {sp:World→Sp} {x:Str}
  (hn:l.most=some n) (hn2:n≤sizeLine) (hdf:d.params.defaults=[]) (hr:iT k callerA)
  (hY:∀(w:World) (h:Heap),YP w h→(K w.params).In h)
  (F:∀(w:World) (mg:Str→Option Value) (fa:Addr) (h:Heap),(K w.params).In h→h.Ns mainGlobals mg→mg d.name=some (.ref fa) →
   ∃fd:FuncData,(∀(s:Shared) (u:Value),BindsTo s fd ⟨[u],[]⟩ [(x,u)]) ∧
    ∀base:Heap,(K w.params).In base→base.Ns mainGlobals mg→fH l.prog w (K w.params) mg base (CX w) k fa fd [x] (sp w))
  (hsp:∀(w:World) (H:Hp) (a:Addr) (ns:List Int),ns.length≤n→Bg H→SqL (K w.params) H a (ns.map V.int)→sp w [.ref a] H (fun v _=>v=.bl true) fun _ _ _=>False)
  (hCX:∀(w:World) (H:Hp) (s:Shared) (e:Value) (s':Shared),CX w [] H s (fun _ _ _=>False) e s'→False) :
  PySem.W.WalkO q loose XP YP l.row.toRowW d [] (fun f vs=>PySem.call f vs):=by
 refine Att.nO hn hdf fun w s₀ s₁ mg mb fa o pm cd doc a vs ns G Y ho hd hcd hmg hobj hints hlen hg=>?_
 have KX:=hY w _ Y
 obtain ⟨fd,hb,hF⟩:=F w mg fa _ KX G.T.g hmg
 exact tR KX G.T.g G.T.b G.T.builtins G.T.nolimit hg hobj hints (cu hlen hn2) hr hF hb (fun H hO hS=>hsp w H a ns hlen hO hS) fun H e s'=>hCX w H s₁ e s'
end L2
namespace L2
open PySem PySem.Spec PyProof.Rows
def inClass (s:Stmt) (j:Nat):Stmt:=match s with
 | .ClassDef _ _ _ body _ _ _ _ _ _ _=>body.getD j (.Pass ⟨0,0,0,0⟩)
 | _=>.Pass ⟨0,0,0,0⟩
def bZ (s:Stmt):Arguments:=match s with
 | .FunctionDef _ a _ _ _ _ _ _ _ _=>a
 | _=>{posonlyargs:=[],args:=[],vararg:=none,kwonlyargs:=[],kw_defaults:=[],kwarg:=none,defaults:=[]}
def bR (s:Stmt):List Stmt:=match s with
 | .FunctionDef _ _ b _ _ _ _ _ _ _=>b
 | _=>[]
def az (s:Stmt):Scope:=match s with
 | .FunctionDef _ _ _ _ _ _ sc _ _ _=>sc
 | _=>{kind:=.function,names:=[],isGenerator:=false,isCoroutine:=false}
abbrev CX0:CXT:=fun _ _ _ _ _ _=>False
abbrev E0:XK:=fun _ _ _=>False
theorem xy {X:Cx}:Passes CX0 X E0:=fun _ _ _ _ _ _ _ h=>h.elim
structure Fun (K:ai) (x qual:Str) (st:Stmt) (f:Addr) (fd:FuncData):Prop where
 ex:∃(oc:Value) (od:Option Addr) (kV doc pm:Value) (an:Option Addr) (cdv ct:Value) (osl:Array (Option Value)),
  fd=aQ x qual (bZ st) (bR st) (az st) .none kV doc pm an cdv ct∧K.lookup f=some ⟨oc,od,.func fd,osl⟩∧aK K cdv qual=true
 kp:aH K (.ref f)=true
section
variable {P:Program} {w:World} {K:ai} {mg:Str→Option Value} {base:Heap}
theorem Fun.ok {x qual:Str} {st:Stmt} {f:Addr} {fd:FuncData} {N ps:List Str} {k:Nat} {sp:Sp} (F:Fun K x qual st f fd) (S:bY N ps (az st)) (len:∀vs H Q E,sp vs H Q E→vs.length=ps.length)
  (hbody:∀(cdv:Value) (A:Around) (outer:List Env) (s:Shared) (H:Hp) (vs:List V) (Q:VK) (E:XK),iT k (A.deeper (envOfC qual (az st) s.heap.objs.size f cdv))→sp vs H Q E →
   ∃t,PSs (pH CX0 P w K mg base N qual (az st) f cdv A outer s H E).nox (bR st) t∧t {nx:=fun _ H'=>Q .non H',rt:=Q} (start N vs) H):fH P w K mg base CX0 (k+1) f fd ps sp:=by
 obtain ⟨oc,od,kV,doc,pm,an,cdv,ct,osl,rfl,lk,hcd⟩:=F.ex
 refine xS lk hcd S len fun A outer s H vs Q E hr hsp=>?_
 obtain ⟨t,h,q⟩:=hbody cdv A outer s H vs Q E hr hsp
 exact ⟨t,h.nox,q⟩
theorem Fun.binds {x qual:Str} {st:Stmt} {f:Addr} {fd:FuncData} {ps:List Str} (F:Fun K x qual st f fd)
  (h:∀(kV doc pm:Value) (an:Option Addr) (cdv ct:Value) (us:List Value),us.length=ps.length→bindArgs (aQ x qual (bZ st) (bR st) (az st) .none kV doc pm an cdv ct) ⟨us,[]⟩=pure (ps.zip us)):Binds K fd ps []:=by
 obtain ⟨oc,od,kV,doc,pm,an,cdv,ct,osl,rfl,lk,hcd⟩:=F.ex
 exact .all (h kV doc pm an cdv ct)
theorem cO {x qual:Str} {st:Stmt} {f:Addr} {oc:Value} {od an:Option Addr} {osl:Array (Option Value)} {kV doc pm cdv ct:Value} (l:K.lookup f=some ⟨oc,od,.func (aQ x qual (bZ st) (bR st) (az st) .none kV doc pm an cdv ct),osl⟩)
  (c:aK K cdv qual=true) (k:aH K (.ref f)=true):Fun K x qual st f (aQ x qual (bZ st) (bR st) (az st) .none kV doc pm an cdv ct):=⟨⟨oc,od,kV,doc,pm,an,cdv,ct,osl,rfl,l,c⟩,k⟩
end
theorem jz {A:Around} {k:Nat} (hr:iT k A):A.units+1<cLine:=Nat.lt_of_le_of_lt (Nat.add_le_add_left (by decide:1≤64) _) hr.units
theorem aE {n:Nat} (h:n≤1000):n<sizeLine:=Nat.lt_of_le_of_lt h (by decide)
section
variable {X:Cx}
theorem pv (i:Nat) {x:Str} {pos:Pos} (hN:X.N[i]?=some x:=by rfl) (hv:Vis X.env.scope x:=by first | exact Or.inl rfl | exact Or.inr (Or.inl rfl) | exact Or.inr (Or.inr rfl)) (hd:(x==("__debug__":Str))=false:=by decide)
  (hcd:(x==("__classdict__":Str))=false:=by decide):PE X (.Name x pos) (wL i):=xu hN hv hd hcd
end
theorem gc {A B:Prop} (h:B):if false=true then A else B:=by
 rw [if_neg aV]
 exact h
theorem fh {A B:Prop} (h:A):if true=true then A else B:=by
 rw [if_pos rfl]
 exact h
theorem ie {c A B:Prop} [Decidable c] (h1:c→A) (h2:¬c→B):if c then A else B:=by
 by_cases h:c
 ·rw [if_pos h]
  exact h1 h
 ·rw [if_neg h]
  exact h2 h
def bx (H H':Hp):Prop:=∀b o,H b=some o→H' b=some o
theorem bx.refl (H:Hp):bx H H:=fun _ _ h=>h
theorem bx.trans {H H1 H2:Hp} (a:bx H H1) (b:bx H1 H2):bx H H2:=fun c o h=>b c o (a c o h)
theorem bx.seq {K:ai} {H H':Hp} {a:Addr} {xs:List V} (e:bx H H') (h:SqL K H a xs):SqL K H' a xs:=by
 rcases h with (h | ⟨o,h⟩) | h
 ·exact .inl (.inl (e _ _ h))
 ·exact .inl (.inr ⟨o,e _ _ h⟩)
 ·exact .inr h
end L2
namespace L2
open PySem PySem.Spec PyProof.Rows
def mV (en:Env):List (Str×NameKind)→List (Str×Addr)→List (Str×Addr)
 | [],cs=>cs
 | (n,k)::r,cs=>if (k==NameKind.free)=true then mV en r ((n,(en.cells.lookup n).getD 0)::cs) else mV en r cs
theorem uf {en:Env}:∀(ns:List (Str×NameKind)) (cs:List (Str×Addr)),(∀y∈ns,y.2=.free→(en.cells.lookup y.1).isSome=true) →
  (forIn ns cs fun (y:Str×NameKind) (r:List (Str×Addr))=>(if (y.2==NameKind.free)=true then (cellOf en y.1 >>= fun a=>pure (ForInStep.yield ((y.1,a)::r))) else pure (ForInStep.yield r):Sem (ForInStep (List (Str×Addr)))))=pure (mV en ns cs):=by
 intro ns
 induction ns with
 | nil=>intro cs _;rfl
 | cons y r ih =>
  intro cs h
  obtain ⟨n,k⟩:=y
  rw [List.forIn_cons]
  have hr:=fun cs=>ih cs fun y hy=>h y (aO _ hy)
  dsimp only
  by_cases hk:(k==NameKind.free)=true
  ·have hk':k=.free:=by simpa using hk
   obtain ⟨a,ha⟩:=Option.isSome_iff_exists.mp (h (n,k) aP hk')
   have e1:cellOf en n=pure a:=by unfold cellOf;dsimp only at ha;rw [ha]
   have e2:mV en ((n,k)::r) cs=mV en r ((n,a)::cs):=by
    show (if (k==NameKind.free)=true then _ else _)=_
    rw [if_pos hk];dsimp only at ha;rw [ha];rfl
   rw [if_pos hk,e1,e2]
   simp only [pure_bind]
   exact hr _
  ·have e2:mV en ((n,k)::r) cs=mV en r cs:=by
    show (if (k==NameKind.free)=true then _ else _)=_
    rw [if_neg hk]
   rw [if_neg hk,e2]
   simp only [pure_bind]
   exact hr _
theorem jb {en:Env} {sc:Scope} (h:∀y∈sc.names,y.2=.free→(en.cells.lookup y.1).isSome=true):closureFor sc en=pure (mV en sc.names []):=by
 have q:=uf (en:=en) sc.names [] h
 unfold closureFor
 refine Eq.trans ?_ (show (forIn sc.names ([]:List (Str×Addr)) _ >>= pure)=_ by rw [q];rfl)
 rfl
theorem lM {en:Env}:∀(ns:List (Str×NameKind)) (cs:List (Str×Addr)),(∀y∈ns,y.2=.free→(en.cells.lookup y.1).isSome=true)→(∀x c,cs.lookup x=some c→en.cells.lookup x=some c) →
  ∀x c,(mV en ns cs).lookup x=some c→en.cells.lookup x=some c
 | [],cs,_,hc,x,c,e=>hc x c e
 | (n,k)::r,cs,h,hc,x,c,e=>by
  have hr:∀y∈r,y.2=.free→(en.cells.lookup y.1).isSome=true:=fun y hy=>h y (aO _ hy)
  unfold mV at e
  by_cases hk:(k==NameKind.free)=true
  ·rw [if_pos hk] at e
   refine lM r _ hr (fun x' c' e'=>?_) x c e
   rw [cQ] at e'
   cases hx:x'==n with
   | true =>
    rw [hx] at e'
    have hx':x'=n:=by simpa using hx
    obtain ⟨a,ha⟩:=Option.isSome_iff_exists.mp (h (n,k) aP (by simpa using hk))
    dsimp only at ha e'
    rw [ha] at e'
    rw [hx',ha]
    exact e'
   | false=>rw [hx] at e';exact hc x' c' e'
  ·rw [if_neg hk] at e
   exact lM r cs hr hc x c e
theorem jK {en:Env}:∀(ns:List (Str×NameKind)) (cs:List (Str×Addr)) (x:Str),((x,NameKind.free)∈ns∨(cs.lookup x).isSome=true)→((mV en ns cs).lookup x).isSome=true
 | [],cs,x,h=>by
  rcases h with h | h
  ·cases h
  ·exact h
 | (n,k)::r,cs,x,h=>by
  unfold mV
  by_cases hk:(k==NameKind.free)=true
  ·rw [if_pos hk]
   refine jK r _ x ?_
   rcases h with h | h
   ·rcases aU.mp h with e | h
    ·right
     rw [cQ,show (x==n)=true by simpa using congrArg Prod.fst e]
     rfl
    ·exact .inl h
   ·right
    rw [cQ]
    cases hx:x==n with
    | true=>rfl
    | false=>exact h
  ·rw [if_neg hk]
   refine jK r _ x ?_
   rcases h with h | h
   ·rcases aU.mp h with e | h
    ·exfalso
     have e':NameKind.free=k:=congrArg Prod.snd e
     rw [←e'] at hk
     exact hk (by decide)
    ·exact .inl h
   ·exact .inr h
theorem jr {en:Env}:∀{ns:List (Str×NameKind)} {x:Str},ns.lookup x=some .free →
  (ns.map fun (n,k)=>if (k==NameKind.free&&en.scope.kind==.function&&en.kindOf n==some .cell) then (n,NameKind.cell) else (n,k)).lookup x=some .cell ∨
  (ns.map fun (n,k)=>if (k==NameKind.free&&en.scope.kind==.function&&en.kindOf n==some .cell) then (n,NameKind.cell) else (n,k)).lookup x=some .free
 | [],_,h=>by simp at h
 | (n,k)::r,x,h=>by
  have ih:=@jr en r x
  rw [bf]
  cases hx:x==n with
  | true =>
   simp only [cQ,hx] at h
   cases h
   dsimp only
   split
   ·left;simp [cQ,hx]
   ·right;simp [cQ,hx]
  | false =>
   simp only [cQ,hx] at h
   dsimp only
   split
   ·simp only [cQ,hx];exact ih h
   ·simp only [cQ,hx];exact ih h
theorem jh {en:Env}:∀{ns:List (Str×NameKind)} {x:Str} {q:NameKind},(q=.cell∨q=.free) →
  (ns.map fun (n,k)=>if (k==NameKind.free&&en.scope.kind==.function&&en.kindOf n==some .cell) then (n,NameKind.cell) else (n,k)).lookup x=some q→(x,NameKind.free)∈ns∨(x,NameKind.cell)∈ns
 | [],_,_,_,h=>by simp at h
 | (n,k)::r,x,q,hq,h=>by
  have ih:=@jh en r x q hq
  rw [bf] at h
  dsimp only at h
  by_cases hc:(k==NameKind.free&&en.scope.kind==.function&&en.kindOf n==some .cell)=true
  ·rw [if_pos hc] at h
   have hk:k=.free:=by
    simp only [cC] at hc
    simpa using hc.1.1
   cases hx:x==n with
   | true =>
    have hx':x=n:=by simpa using hx
    exact .inl (by rw [hx',hk];exact aP)
   | false =>
    simp only [cQ,hx] at h
    rcases ih h with z | z
    ·exact .inl (aO _ z)
    ·exact .inr (aO _ z)
  ·rw [if_neg hc] at h
   cases hx:x==n with
   | true =>
    have hx':x=n:=by simpa using hx
    simp only [cQ,hx] at h
    cases h
    rcases hq with z | z
    ·exact .inr (by rw [hx',←z];exact aP)
    ·exact .inl (by rw [hx',←z];exact aP)
   | false =>
    simp only [cQ,hx] at h
    rcases ih h with z | z
    ·exact .inl (aO _ z)
    ·exact .inr (aO _ z)
abbrev blk (X:Cx) (N':List Str) (sc:Scope) (C:Addr) (s2:Shared) (H2:Hp) (ex:List Addr):Cx :=
 {X with N:=N',s₀:=s2,H₀:=H2,env:=compEnvC sc (mV X.env sc.names []) C X.env,outer:=X.stack,stack:=X.stack,ex:=ex,fn:=fun _=>false,xe:=fun _ _=>False}
def cst (σ:St) (nl:Nat) (js:List Nat):St:=au nl none++js.map fun j=>(σ[j]?).getD none
structure iC (X:Cx) (sc:Scope) (N':List Str) (nl:Nat) (js:List Nat):Prop where
 kind:sc.kind=.function
 nocell:∀y∈sc.names,y.2≠.cell
 locs:∀y∈sc.names,y.2=.local→sc.names.lookup y.1=some .local
 frees:∀y∈sc.names,y.2=.free→X.env.kindOf y.1=some .cell∨X.env.kindOf y.1=some .free
 cap:∀(i j:Nat),js[i]?=some j→∃x,N'[nl+i]?=some x∧X.N[j]?=some x∧sc.names.lookup x=some .free
 len:N'.length=nl+js.length
def Wk (σ0 σ2:St):Prop:=σ0.length=σ2.length∧∀(i:Nat) v,σ0[i]?=some (some v)→σ2[i]?=some (some v)
def PIf (X:Cx) (ifs:List Expr) (t:TT):Prop :=
 ∀(pins:List (Addr×Obj)) (s:Shared) (σ:St) (H:Hp) (Q:Bool→Hp→Prop),Inv X pins σ H s→t σ H Q →
  wpAny (model X.prog X.w) X.A (forIn ifs true fun c r=>if r=true then do let ok ←isTrue c X.env (eval c X.env);pure (ForInStep.yield ok) else pure (ForInStep.yield r)) (TP X pins σ Q) X.xe s
theorem dD {X:Cx}:PIf X [] (fun _ H Q=>Q true H):=fun _ _ _ H _ I h=>wpAny_tests_nil ⟨H,I,h⟩
theorem ix {X:Cx} {c:Expr} {t:TT} (h:PT X c t):PIf X [c] t:=fun pins s σ H Q I hw=>wpAny_tests_one (h pins s σ H Q I hw)
section
variable {X:Cx} {sc:Scope} {N':List Str} {nl:Nat} {js:List Nat} {pins:List (Addr×Obj)} {σ:St} {H:Hp} {s:Shared}
theorem iC.A_ (S:iC X sc N' nl js) (ok:X.Ok):∀y∈sc.names,y.2=.free→(X.env.cells.lookup y.1).isSome=true:=fun y hy hf=>by
 obtain ⟨c,e⟩:=ok.has y.1 (S.frees y hy hf)
 rw [e];rfl
theorem iC.sub (S:iC X sc N' nl js) (ok:X.Ok) {x:Str} {c:Addr} (e:(mV X.env sc.names []).lookup x=Option.some c):X.env.cells.lookup x=Option.some c :=
 lM sc.names [] (S.A_ ok) (fun _ _ z=>by simp at z) x c e
theorem yb (S:iC X sc N' nl js) (I:Inv X pins σ H s) {fp:List Addr} {C:Addr} (hf:∀b∈fp,mT X pins H b) (hC:s.heap.objs.size≤C) (hfC:∀b∈fp,b≠C):(blk X N' sc C s H fp).Ok where
 mod:=I.ok.mod
 kind:=S.kind
 glob:=I.ok.glob
 blt:=I.ok.blt
 above:=hC
 inj:=fun x y c h1 h2=>I.ok.inj x y c (S.sub I.ok h1) (S.sub I.ok h2)
 has:=fun x hx=>by
  have hm:(x,NameKind.free)∈sc.names∨(x,NameKind.cell)∈sc.names:=by
   rcases hx with z | z
   ·exact jh (.inl rfl) z
   ·exact jh (.inr rfl) z
  rcases hm with z | z
  ·exact Option.isSome_iff_exists.mp (jK sc.names [] x (.inl z))
  ·exact absurd rfl (S.nocell _ z)
 cab:=fun x c h _=>absurd (show false=true from h) aV
 hd:=I.ok.hd
 frames:=I.ok.frames
 stk:=.inl rfl
 exf:=fun b hb=>⟨hfC b hb,fun x c e=>(hf b hb).2.2.2.2.1 x c (S.sub I.ok e)⟩
 bs:=I.bs
 bsz:=cu I.ok.bsz I.sz
 noex:=fun b o e hb=>by
  rcases (hf b hb).2.2.2.1 with z | z
  ·exact I.ok.noex b o e z
  ·exact absurd (bp (aW (I.ok.bs b o e).1) z) (cL _)
 exfs:=fun b hb hs=>by
  rcases aU.mp (I.jn b hs) with z | z
  ·exact (hf b hb).2.1 z
  ·exact (hf b hb).2.2.1 z
 lJ:=I.stack
 frf:=I.mX
theorem vP (hl:N'.length=nl+js.length):(cst σ nl js).length=N'.length:=by
 unfold cst
 rw [ay,bh,aa,hl]
theorem vQ {i:Nat} {v:V} (e:(cst σ nl js)[i]?=some (some v)):∃k j,i=nl+k∧js[k]?=some j∧σ[j]?=some (some v):=by
 unfold cst at e
 by_cases hi:i<nl
 ·rw [cG (by simpa using hi),cy] at e
  rw [if_pos hi] at e
  cases e
 ·rw [List.getElem?_append_right (by simpa using hi),bh,a_] at e
  cases q:js[i-nl]? with
  | none=>rw [q] at e;cases e
  | some j =>
   rw [q] at e
   have e':(σ[j]?).getD none=some v:=by simpa using e
   refine ⟨i-nl,j,by omega,q,?_⟩
   cases z:σ[j]? with
   | none=>rw [z] at e';cases e'
   | some w'=>rw [z] at e';simpa using e'
theorem vS (S:iC X sc N' nl js) (I:Inv X pins σ H s) {fp:List Addr} {C:Addr} {h':Heap} {t':Nat} {m:Str→Option Value} (hf:∀b∈fp,mT X pins H b) (hC:s.heap.objs.size≤C) (hfC:∀b∈fp,b≠C)
  (k:∀b u,s.heap.get? b=some u→h'.get? b=some u) (hn:h'.Ns C m):Inv (blk X N' sc C s H fp) pins (cst σ nl js) H {s with heap:=h',toks:=t'} where
 ok:=yb S I hf hC hfC
 os:=rfl
 bare:=I.bare
 base:=Un.kept k
 loc:=by
  refine ⟨m,hn,fun i x v e1 e2 e3=>?_⟩
  obtain ⟨q,j,rfl,hj,hv⟩:=vQ e2
  obtain ⟨x',n1,n2,n3⟩:=S.cap q j hj
  have ex:x'=x:=by
   have z:N'[nl+q]?=some x:=e1
   rw [n1] at z;exact Option.some.inj z
  subst ex
  obtain ⟨m0,_,hl⟩:=I.loc
  have kf:=S.frees (x',.free) (dF n3) rfl
  obtain ⟨u,r,l⟩:=hl j x' v n2 hv (by
   rcases kf with z | z
   ·exact .inr (.inl z)
   ·exact .inr (.inr z))
  refine ⟨u,r,?_⟩
  rcases l with ⟨z,_⟩ | ⟨_,c,hc,hcell⟩
  ·rcases kf with y | y
   ·rw [z] at y;cases y
   ·rw [z] at y;cases y
  ·obtain ⟨c',hc'⟩:=Option.isSome_iff_exists.mp (jK (en:=X.env) sc.names [] x' (.inl (dF n3)))
   have e:c'=c:=by
    have z:=S.sub I.ok hc'
    rw [hc] at z;exact (Option.some.inj z).symm
   subst e
   obtain ⟨o,ho,hd⟩:=hcell
   exact .inr ⟨jr n3,c',hc',⟨o,k _ _ ho,hd⟩⟩
 cell:=fun x c e=>by
  obtain ⟨v,o,ho,hd⟩:=I.cell x c (S.sub I.ok e)
  exact ⟨v,o,k _ _ ho,hd⟩
 free:=I.hok.fresh hC
 freeC:=fun x c e=>I.freeC x c (S.sub I.ok e)
 pin:=fun p hp=>by
  obtain ⟨e,n,ne,nf,d⟩:=I.pin p hp
  refine ⟨k _ _ e,n,bz (bp (aW e) hC),fun z=>?_,d⟩
  rcases aU.mp (I.jn _ z) with y | y
  ·exact ne y
  ·exact nf y
 hok:=I.hok.kept k
 len:=vP S.len
end
theorem mE {prog:Program} {w:World} {A:Around} {R:Result→Shared→Prop} {s:Shared} {elt tg it':Expr} {ifs:List Expr} {sc:Scope} {pos:Pos} {it acc:Value} {en:Env} (I:Nat→Shared→Prop)
  (turn:∀n s,I n s→wpAny (model prog w) A (pyNext it) (fun r s1=>match r with
   | none=>R (.ok .next) s1
   | some v=>wpAny (model prog w) A (letOwnedTupleGo tg it v) (fun _ s2=>wpAny (model prog w) A (assign tg en v) (fun _ s3 =>
     wpAny (model prog w) A (forIn ifs true fun c r=>if r=true then do let ok ←isTrue c en (eval c en);pure (ForInStep.yield ok) else pure (ForInStep.yield r)) (fun ok s4 =>
      if ok=true then wpAny (model prog w) A (eval elt en) (fun x s5=>wpAny (model prog w) A (call (.builtin "list.append") [acc,x]) (fun _ s6=>∃m,m<n∧I m s6) (fun _ _=>False) s5) (fun _ _=>False) s4
      else ∃m,m<n∧I m s4) (fun _ _=>False) s3) (fun _ _=>False) s2) (fun _ _=>False) s1) (fun _ _=>False) s)
  (n:Nat) (h:I n s):codeAny (model prog w) A (.compLoop (.ListComp elt [⟨tg,it',ifs,0⟩] sc pos) 0 it acc en) R s:=by
 refine codeAny_loop rfl I (fun n s hI=>?_) n h
 show wpAny _ A ((compTurn (.ListComp elt [⟨tg,it',ifs,0⟩] sc pos) 0 it acc en).onRaise (fun x=>do noteFrame x en;theTreesLotGoes x)) _ _ s
 refine wpAny_noted ?_
 rw [compTurn_list]
 refine wpAny_bind (wpAny_standAt (wpAny_bind (wpAny_mono (turn n s hI) (fun r s1 h1=>?_) fun _ _ z=>z.elim)))
 cases r with
 | none=>exact wpAny_pure h1
 | some v =>
  refine wpAny_bind (wpAny_mono h1 (fun _ s2 h2=>?_) fun _ _ z=>z.elim)
  refine wpAny_bind (wpAny_mono h2 (fun _ s3 h3=>?_) fun _ _ z=>z.elim)
  refine wpAny_bind (wpAny_mono h3 (fun ok s4 h4=>?_) fun _ _ z=>z.elim)
  cases ok with
  | false=>exact wpAny_pure ⟨rfl,h4⟩
  | true =>
   refine wpAny_bind (wpAny_bind (wpAny_mono h4 (fun x s5 h5=>?_) fun _ _ z=>z.elim))
   exact wpAny_bind (wpAny_mono h5 (fun _ s6 h6=>wpAny_pure (wpAny_pure ⟨rfl,h6⟩)) fun _ _ z=>z.elim)
def LcW (J:It) (g:TG) (tt:TT) (te:TE) (σ0:St) (Q:VK) (H1:Hp):Prop :=
  ∃W:Nat→Nat→List V→Hp→Prop,(∃m,W 0 m [] H1)∧∀i m ys H,W i m ys H→ys.length≤sizeLine ∧
    ((J.stop i H∧∀p,H p=none→Q (.ref p) (upd H p (.lst ys))) ∨
     (J.go i H∧∀x H',J.yld i H x H'→g x σ0 H' fun σ2 H2=>Wk σ0 σ2∧tt σ2 H2 fun k H3=>if k=true then te σ2 H3 fun v H4=>ys.length<sizeLine∧∃m',m'<m∧W (i+1) m' (ys++[v]) H4 else ∃m',m'<m∧W (i+1) m' ys H3))
def tLc (wi:TI) (g:TG) (tt:TT) (te:TE) (nl:Nat) (js:List Nat):TE:=fun σ H Q=>wi σ H fun J H1=>LcW J g tt te (cst σ nl js) Q H1
section
variable {X:Cx} {sc:Scope} {N':List Str} {nl:Nat} {js:List Nat} {tg iter elt:Expr} {ifs:List Expr} {pos:Pos} {wi:TI} {g:TG} {tt:TT} {te:TE}
theorem qJ {pins:List (Addr×Obj)} {σ:St} {H:Hp} {s:Shared} {E:Value→Shared→Prop} {RR:Value→Addr→Result→Shared→Prop} {it:Addr} {fp:List Addr} {tn:Nat→Heap→Prop} {J:It} {Q:VK} (hc:X.calm=true) (S:iC X sc N' nl js)
  (hg:∀C s2 H2 ex,PG (blk X N' sc C s2 H2 ex) tg g) (ht:∀C s2 H2 ex,PIf (blk X N' sc C s2 H2 ex) ifs tt) (he:∀C s2 H2 ex,PE (blk X N' sc C s2 H2 ex) elt te)
  (I:Inv X pins σ H s) (T:Turn X.prog X.w X.K tg J fp it tn) (st:tn 0 s.heap) (hf:∀b∈fp,mT X pins H b) (h:LcW J g tt te (cst σ nl js) Q H)
  (fin:∀D C H' s' m,Inv X pins σ H' s'→s'.heap.Ns C m→mT X pins H' C→Q (.ref D) H'→RR (.ref D) C (.ok .next) s') :
  wpAny (model X.prog X.w) X.A (newList []) (fun acc s3=>wpAny (model X.prog X.w) X.A (newFunctionEnv sc X.env.globals (mV X.env sc.names []) [] X.env.qual none .none (some X.env)) (fun cenv s4 =>
   codeAny (model X.prog X.w) X.A (.compStart (.ListComp elt [⟨tg,iter,ifs,0⟩] sc pos) 0 (.ref it) acc {cenv with scope:=relabel sc X.env}) (RR acc cenv.locals) s4) E s3) E s:=by
 obtain ⟨W,⟨m0,w0⟩,step⟩:=h
 refine wpAny_newObj_type (wpAny_newFunctionEnv S.nocell (by intro y hy;simp at hy) (fun h1 hns hsb=>?_) S.kind)
 dsimp only at hns hsb ⊢
 generalize hP:s.heap.push {cls:=.type "list",dict:=none,data:=.seq ([]:List Value).toArray}=P1 at hns hsb ⊢
 have hCs:P1.objs.size=s.heap.objs.size+1:=by rw [←hP,cU]
 have hDC:s.heap.objs.size≠P1.objs.size:=by rw [hCs];exact bz (cA _)
 have hCle:s.heap.objs.size≤P1.objs.size:=by rw [hCs];exact gR _
 have ltf:∀b∈fp,b<s.heap.objs.size:=fun b hb=>by
  obtain ⟨o,e,_⟩:=T.obj 0 _ st b hb
  exact aW e
 have hfC:∀b∈fp,b≠P1.objs.size:=fun b hb=>bz (bp (ltf b hb) hCle)
 have old:∀b o,s.heap.get? b=some o→h1.get? b=some o:=fun b o e =>
  hsb.extBut b o (bz (bp (aW e) hCle)) (ao _ (hP▸ao _ e))
 have accD:h1.get? s.heap.objs.size=some {cls:=.type "list",data:=.seq ([]:List Value).toArray 0}:=hsb.extBut _ _ hDC (ao _ (hP▸bo _ rfl))
 generalize hDd:s.heap.objs.size=D at *
 generalize hCd:P1.objs.size=C at *
 have ltp:∀p∈X.pn++pins,p.1<D:=fun p hp=>by rw [←hDd];exact aW (I.pin p hp).1
 have ltc:∀x c,X.env.cells.lookup x=some c→c<D:=fun x c e=>by
  obtain ⟨v,o,ho,_⟩:=I.cell x c e
  rw [←hDd];exact aW ho
 have noD:D∉frs X.stack:=fun z=>by
  rcases aU.mp (I.jn _ z) with y | y
  ·have:=I.lt;rw [←y,hDd] at this;exact cL _ this
  ·exact I.AQ (gr hDd) y
 have fpB:∀{H':Hp} {o:Obj},(∀b∈fp,H' b=none)→∀b∈fp,mT (blk X N' sc C s H fp) (pins++[(D,o)]) H' b:=fun {H' o} hn b hb=>by
  obtain ⟨f0,f1,f2,f3,f4,f5⟩:=hf b hb
  refine ⟨hn b hb,hfC b hb,fun z=>?_,.inl hb,fun x c e=>f4 x c (S.sub I.ok e),fun p hp=>?_⟩
  ·rcases aU.mp (I.jn _ z) with y | y
   ·exact f1 y
   ·exact f2 y
  ·have hp':p∈(X.pn++pins)++[(D,o)]:=by rw [eR];exact hp
   rcases aM.mp hp' with z | z
   ·exact f5 p z
   ·have e:p=(D,o):=by simpa using z
    subst e
    exact gq (ltf b hb)
 have repin:∀{σ':St} {H':Hp} {s':Shared} {its:List Value} {c:Nat},Inv (blk X N' sc C s H fp) pins σ' H' s'→H' D=none→s'.heap.get? D=some {cls:=.type "list",data:=.seq its.toArray c} →
   Inv (blk X N' sc C s H fp) (pins++[(D,{cls:=.type "list",data:=.seq its.toArray c})]) σ' H' s':=fun {σ' H' s' its c} I' hn e =>
  I'.jQ fun p hp=>by
   rcases aM.mp hp with z | z
   ·exact I'.pin p (aG _ z)
   ·have e':p=(D,{cls:=.type "list",data:=.seq its.toArray c}):=by simpa using z
    subst e'
    exact ⟨e,hn,hDC,noD,fun v z=>by cases z⟩
 have loop:∀s4:Shared,s4={s with heap:=h1,toks:=s.toks+([]:List (Str×Value)).length} →
   codeAny (model X.prog X.w) X.A (.compLoop (.ListComp elt [⟨tg,iter,ifs,0⟩] sc pos) 0 (.ref it) (.ref D) (compEnvC sc (mV X.env sc.names []) C X.env)) (RR (.ref D) C) s4:=by
  rintro s4 rfl
  refine mE (fun n s'=>∃(i:Nat) (ys:List V) (H':Hp) (its:List Value) (c:Nat),Inv (blk X N' sc C s H fp) (pins++[(D,{cls:=.type "list",data:=.seq its.toArray c})]) (cst σ nl js) H' s' ∧
   tn i s'.heap∧(∀b∈fp,H' b=none)∧Vals ys its∧W i n ys H') ?_ m0 ⟨0,[],H,[],0,?_,?_,fun b hb=>(hf b hb).1,.nil,w0⟩
  ·rintro n s' ⟨i,ys,H',its,c,I',st',fr',rv,w'⟩
   obtain ⟨hz,alt⟩:=step i n ys H' w'
   rcases alt with ⟨stop,qn⟩ | ⟨go,more⟩
   ·refine wpAny_mono (T.done (blk X N' sc C s H fp) rfl rfl rfl hc i _ s' _ H' (fun _ _=>False) I' (fpB fr') st' stop) (fun r s5 ⟨hr,I5⟩=>?_) fun _ _ z=>z
    subst hr
    obtain ⟨eD,nD,_⟩:=I5.pin (D,_) (aG _ (aG _ aP))
    dsimp only at eD nD
    obtain ⟨mC,hnC,_⟩:=I5.loc
    have hHD:H D=none:=I.hok.fresh (gr hDd)
    have I6:Inv X pins σ (upd H' D (.lst ys)) s5:=by
     refine I.r_ (ch:=fp) I5.os ?_ ?_ I5.bare fun b hb=>?_
     ·have B:Un (frs X.stack) fp H H' s.heap s5.heap:=I5.base
      refine ⟨B.keep,B.slot,fun b o e n hx=>?_,B.there,fun b xs e=>?_,fun b o u e=>?_,fun b ps e=>?_⟩
      ·rw [bS (by rw [←hDd];exact bz (aW e))];exact B.free b o e n hx
      ·rw [bS (bw e hHD)];exact B.tups b xs e
      ·rw [bS (bw e hHD)];exact B.frzs b o u e
      ·rw [bS (bw e hHD)];exact B.tbls b ps e
     ·intro b u e
      by_cases hb:b=D
      ·subst hb
       rw [aq] at e
       cases e
       exact ⟨hz,its,c,rv,eD⟩
      ·rw [bS hb] at e
       exact (I5.hok b u e).p_ (fun _ _ _ q=>q) (fun x q=>by rw [bS (bw q nD)];exact q) fun x xs q=>by rw [bS (bw q nD)];exact q
     ·obtain ⟨f0,f1,f2,f3,f4,f5⟩:=hf b hb
      exact ⟨f3,f1,f4,f5⟩
    refine fin D C _ s5 mC I6 hnC ⟨?_,?_,?_,?_,?_,?_⟩ (qn D nD)
    ·rw [bS (Ne.symm hDC)];exact I5.free
    ·have:=I.lt;rw [hDd] at this;exact gq (bp this hCle)
    ·exact I.AQ (by rw [hDd];exact hCle)
    ·exact .inr (cu I.sz (by rw [hDd];exact hCle))
    ·exact fun x c' e=>bz (bp (ltc x c' e) hCle)
    ·exact fun p hp=>bz (bp (ltp p hp) hCle)
   ·refine wpAny_mono (T.item (blk X N' sc C s H fp) rfl rfl rfl hc i _ s' _ H' (fun _ _=>False) I' (fpB fr') st' go) (fun r s5 ⟨u,hr,h5⟩=>?_) fun _ _ z=>z
    subst hr
    refine wpAny_mono h5 (fun _ s6 ⟨x,H6,I6,r6,y6,st6,fr6⟩=>?_) fun _ _ z=>z
    have I6':=I6.pinned (fpB fr6) (T.obj _ _ st6)
    refine wpAny_mono (hg C s H fp _ s6 _ H6 x u _ I6' r6 (more x H6 y6)) (fun _ s7 ⟨σ7,H7,I7,wk,q7⟩=>?_) fun _ _ z=>z
    refine wpAny_mono (ht C s H fp _ s7 σ7 H7 _ I7 q7) (fun ok s8 ⟨H8,I8,q8⟩=>?_) fun _ _ z=>z
    have again:∀{H9:Hp} {s9:Shared},Inv (blk X N' sc C s H fp) ((pins++[(D,{cls:=.type "list",data:=.seq its.toArray c})])++l_ fp s6.heap) σ7 H9 s9 →
      (∀b∈fp,∀o,s6.heap.get? b=some o→s9.heap.get? b=some o)∧(∀b∈fp,H9 b=none):=fun {H9 s9} I9=>by
     refine ⟨fun b hb o e=>(I9.pin (b,o) (aG _ (aG _ (iG hb e)))).1,fun b hb=>?_⟩
     obtain ⟨o,e,d⟩:=T.obj _ _ st6 b hb
     exact (I9.pin (b,o) (aG _ (aG _ (iG hb e)))).2.1
    cases ok with
    | false =>
     rw [if_neg aV] at q8 ⊢
     obtain ⟨m',hm,w8⟩:=q8
     obtain ⟨k8,fr8⟩:=again I8
     exact ⟨m',hm,i+1,ys,H8,its,c,I8.ij.weak wk.1 wk.2,T.keep _ _ _ st6 k8,fr8,rv,w8⟩
    | true =>
     rw [if_pos rfl] at q8 ⊢
     refine wpAny_mono (he C s H fp _ s8 σ7 H8 _ I8 q8) (fun y s9 ⟨v,H9,I9,r9,hz9,m',hm,w9⟩=>?_) fun _ _ z=>z
     obtain ⟨k9,fr9⟩:=again I9
     have I9':=I9.ij
     obtain ⟨eD,nD,_⟩:=I9'.pin (D,_) (aG _ (aG _ aP))
     dsimp only at eD nD
     have hl:=rv.length
     refine wpAny_list_append_plain ⟨c,eD⟩ (fun h' pl sb=>?_) (by rw [aT];omega)
     have I10:Inv (blk X N' sc C s H fp) pins σ7 H9 {s9 with heap:=h'}:=I9'.ij.turned (it:=D) (t':=s9.toks) (fun b o hb e=>(sb.2 b hb).trans e) nD hDC
      (.inr (gr hDd)) (fun x c' e=>bz (ltc x c' (S.sub I.ok e))) fun p hp=>bz (ltp p hp)
     obtain ⟨c2,e2⟩:=pl
     have ea:its.toArray.push y=(its++[y]).toArray:=by simp
     rw [ea] at e2
     refine ⟨m',hm,i+1,ys++[v],H9,its++[y],c2,(repin I10 nD e2).weak wk.1 wk.2,T.keep _ _ _ st6 fun b hb o e=>?_,fr9,rv.append (.cons r9 .nil),w9⟩
     exact (sb.2 b (bz (ltf b hb))).trans (k9 b hb o e)
  ·exact repin (vS S I hf (by rw [hDd];exact hCle) hfC old hns) (I.hok.fresh (gr hDd)) accD
  ·exact T.keep _ _ _ st fun b _ o e=>old b o e
 exact codeAny_compStart_list (loop _ rfl) (T.self _ 0 _ _ _ (T.keep _ _ _ st fun b _ o e=>old b o e) (loop _ rfl))
theorem fJ (hc:X.calm=true) (S:iC X sc N' nl js) (hi:PI X tg iter wi)
  (hg:∀C s2 H2 ex,PG (blk X N' sc C s2 H2 ex) tg g) (ht:∀C s2 H2 ex,PIf (blk X N' sc C s2 H2 ex) ifs tt) (he:∀C s2 H2 ex,PE (blk X N' sc C s2 H2 ex) elt te)
  (hs:∀x,foldedSetIterable iter X.env x=pure x:=by intro _;rfl):PE X (.ListComp elt [⟨tg,iter,ifs,0⟩] sc pos) (tLc wi g tt te nl js):=by
 intro pins s σ H Q I h
 rw [eval_ListComp]
 refine wpAny_comprehension_free (use:=none) rfl hs (jb (S.A_ I.ok)) S.kind S.locs (thn (hi pins s σ H _ I h) fun v s1 h1=>thn h1 fun itv s2 h2=>?_)
 obtain ⟨it,fp,tn,J,H2,rfl,I2,T,st2,f2,q2⟩:=h2
 refine qJ (RR:=fun acc C=>compPost (model X.prog X.w) X.A X.xe none (EP X pins σ Q) acc C) hc S hg ht he I2 T st2 f2 q2 fun D C H' s' m I' hn ⟨f0,f1,f2,f3,f4,f5⟩ q=>?_
 exact ⟨m,hn,fun h' sb=>⟨.ref D,H',I'.turned (it:=C) (t':=s'.toks) (fun b o hb e=>(sb.2 b hb).trans e) f0 f1 f3 f4 f5,rfl,q⟩⟩
theorem jE {i:Nat} {x:Str} {pos' spos:Pos} (hc:X.calm=true) (S:iC X sc N' nl js) (hi:PI X tg iter wi)
  (hg:∀C s2 H2 ex,PG (blk X N' sc C s2 H2 ex) tg g) (ht:∀C s2 H2 ex,PIf (blk X N' sc C s2 H2 ex) ifs tt) (he:∀C s2 H2 ex,PE (blk X N' sc C s2 H2 ex) elt te)
  (hN:X.N.Nodup) (hx:X.N[i]?=some x) (hloc:X.env.scope.names.lookup x=some .local)
  (hsw:swapsWith (.ListComp elt [⟨tg,iter,ifs,0⟩] sc pos) (some (.Name x pos')) spos.line X.env=pure true:=by rfl) (hs:∀x,foldedSetIterable iter X.env x=pure x:=by intro _;rfl) :
  PS X (.Assign [.Name x pos'] (.ListComp elt [⟨tg,iter,ifs,0⟩] sc pos) spos) (yT (tLc wi g tt te nl js) (nE i)):=by
 intro pins s σ H D0 I h
 rw [exec_Assign_Name_used _ _ _ _ hsw]
 refine wpAny_bind (wpAny_standAt (wpAny_bind ?_))
 show wpAny _ X.A (do let _ ←comprehension (.ListComp elt [⟨tg,iter,ifs,0⟩] sc pos) sc X.env _ (newList []) false (eval iter X.env) (some (assign (.Name x pos') X.env))) _ _ s
 refine wpAny_bind (wpAny_mono (wpAny_comprehension_free (use:=some (assign (.Name x pos') X.env)) (Q:=fun _ s'=>SP X pins D0 .next s') rfl hs (jb (S.A_ I.ok)) S.kind S.locs
  (thn (hi pins s σ H _ I h) fun v s1 h1=>thn h1 fun itv s2 h2=>?_)) (fun _ s' hq=>wpAny_pure (wpAny_pure hq)) fun _ _ e=>e)
 obtain ⟨it,fp,tn,J,H2,rfl,I2,T,st2,f2,q2⟩:=h2
 refine qJ (RR:=fun acc C=>compPost (model X.prog X.w) X.A X.xe (some (assign (.Name x pos') X.env)) (fun _ s'=>SP X pins D0 .next s') acc C) hc S hg ht he I2 T st2 f2 q2 fun D C H' s' m I' hn ⟨f0,f1,f2,f3,f4,f5⟩ q=>?_
 show wpAny _ X.A (assign (.Name x pos') X.env (.ref D)) _ _ s'
 obtain ⟨o,es,ep,ho,hd,r⟩:=hn
 have I2':Inv X (pins++[(C,o)]) σ H' s':=I'.jQ fun p hp=>by
  rcases aM.mp hp with z | z
  ·exact I'.pin p (aG _ z)
  ·have e':p=(C,o):=by simpa using z
   subst e'
   exact ⟨ho,f0,f1,f2,fun v z=>by rw [hd] at z;cases z⟩
 refine wpAny_assign_Name (jD I2' hN hx (.inl hloc) (v:=.ref D) rfl (fun s3 I3=>?_) (.inr hloc))
 obtain ⟨e3,_⟩:=I3.pin (C,o) (aG _ (aG _ aP))
 refine ⟨m,⟨o,es,ep,e3,hd,r⟩,fun h' sb=>⟨_,H',I3.ij.turned (it:=C) (t':=s3.toks) (fun b o hb e=>(sb.2 b hb).trans e) f0 f1 f3 f4 f5,q⟩⟩
end
end L2
namespace L2
open PySem PySem.Spec PyProof.Rows
theorem Vals.tog:∀{xs:List V} {us:List Value} {i:Nat} {u:Value},Vals xs us→us[i]?=some u→∃x,xs[i]?=some x∧RelV x u
 | _,_,_,_,.nil,e=>by simp at e
 | _,_,0,_,.cons r _,e=>by simp at e;subst e;exact ⟨_,rfl,r⟩
 | _,_,i+1,u,.cons _ t,e=>by
  obtain ⟨x,h1,h2⟩:=Vals.tog (i:=i) (u:=u) t (by simpa using e)
  exact ⟨x,by simpa using h1,h2⟩
theorem Vals.lH {ns:List Int} {us:List Value} {i:Nat} {u:Value} (r:Vals (ns.map V.int) us) (e:us.toArray[i]?=some u):∃t,u=.int (ns.getD i 0) t:=by
 obtain ⟨x,h1,h2⟩:=r.tog (i:=i) (u:=u) (by simpa using e)
 rw [a_] at h1
 cases q:ns[i]? with
 | none=>rw [q] at h1;cases h1
 | some z =>
  rw [q] at h1
  have e':V.int z=x:=Option.some.inj h1
  subst e'
  obtain ⟨t,rfl⟩:=h2
  exact ⟨t,by rw [ae,q];rfl⟩
theorem jP (ns:List Int):∀k,preSum (fun i=>ns.getD i 0) k=(ns.take k).sum
 | 0=>by simp [preSum]
 | k+1=>by
  rw [preSum,jP ns k,List.take_add_one,List.sum_append,ae]
  cases ns[k]?<;>simp
section
variable {X:Cx} {pins:List (Addr×Obj)} {σ:St} {H:Hp} {s:Shared}
theorem Inv.moved {o:Obj} {s':Shared} (I:Inv X pins σ H s) (mv:Moved [s.heap.objs.size] (fun a b=>b=a) {s with heap:=s.heap.push o} s'):Inv X pins σ H s':=by
 have k:∀b u,s.heap.get? b=some u→s'.heap.get? b=some u:=fun b u e=>mv.heap b u (fun z=>by
  have z':b=s.heap.objs.size:=by simpa using z
  exact absurd (aW e) (by rw [z'];exact cL _)) (ao _ e)
 exact I.r_ (ch:=[]) mv.os (Un.kept k) (I.hok.kept k) (by rw [mv.gens];exact I.bare) fun b z=>absurd z (by simp)
theorem jG {A:Around} {E:Value→Shared→Prop} {Q:Value→Shared→Prop} {p:Addr} {ys:List V} (hh:A.handled=none) (I:Inv X pins σ H s) (hq:SqL X.K H p ys∨SqT X.K H p ys)
  (h:∀(it:Addr) (its:List Value) (fp:List Addr) (T:Nat→Heap→Prop) (s2:Shared),Vals ys its→Walks X.prog X.w A it fp [it] its.toArray.size (fun i v=>its.toArray[i]?=some v) T→T 0 s2.heap→(∀b∈fp,b<s2.heap.objs.size) →
   (∀s',Moved [it] (fun a b=>b=a) s2 s'→Inv X pins σ H s')→Q (.ref it) s2):wpAny (model X.prog X.w) A (pyIter (.ref p)) Q E s:=by
 rcases hq with hq | hq
 ·obtain ⟨its,r,pl,hz⟩:=I.list hq
  obtain ⟨o,ho,_⟩:=id pl.isList
  have hlt:=aW ho
  refine wpAny_pyIter_list pl.isList (h s.heap.objs.size its [s.heap.objs.size,p] _ _ r (Walks.list hh _ p (bz hlt) its.toArray) ⟨⟨_,bo _ rfl,rfl,rfl⟩,pl.isList.at fun o e=>ao _ e⟩ (fun b hb=>?_) fun s' mv=>I.moved mv)
  dsimp only
  rw [cU]
  rcases aU.mp hb with z | z
  ·rw [z];exact cA _
  ·have z':b=p:=by simpa using z
   rw [z'];exact Nat.lt_succ_of_lt hlt
 ·obtain ⟨its,r,pl,hz⟩:=I.tuple hq
  have pt:s.heap.IsTuple p its.toArray:=pl
  obtain ⟨o,ho,_⟩:=id pt
  have hlt:=aW ho
  refine wpAny_pyIter_tuple pt (h s.heap.objs.size its [s.heap.objs.size,p] _ _ r (Walks.tuple hh _ p (bz hlt) its.toArray) ⟨⟨_,bo _ rfl,rfl,rfl⟩,pt.at fun o e=>ao _ e⟩ (fun b hb=>?_) fun s' mv=>I.moved mv)
  dsimp only
  rw [cU]
  rcases aU.mp hb with z | z
  ·rw [z];exact cA _
  ·have z':b=p:=by simpa using z
   rw [z'];exact Nat.lt_succ_of_lt hlt
end
section
variable {X:Cx}
theorem mG (hc:X.calm=true):gK X (.builtin "sum") (fun xs H Q=>∃(p:Addr) (ns:List Int),xs=[.ref p]∧(SqL X.K H p (ns.map V.int)∨SqT X.K H p (ns.map V.int))∧Q (.int ns.sum) H):=by
 intro pins s σ H xs us Q I r h
 obtain ⟨p,ns,rfl,hq,q⟩:=h
 obtain ⟨u,rfl,rx⟩:=vals1 r
 cases rx
 refine call_sum_walkAnyS (jG (I.ok.hd hc) I hq fun it its fp T s2 rv W st hfp inv=>⟨it,fp,[it],_,_,_,_,fun i=>ns.getD i 0,rfl,W.toS,st,hfp,fun i v e=>rv.lH e,fun s' t' mv=>?_⟩)
 have hl:its.toArray.size=ns.length:=by
  have:=rv.length
  rw [aa] at this
  rw [aT];omega
 refine ⟨.int ns.sum,H,inv s' mv,⟨t',?_⟩,q⟩
 rw [jP,hl,bD]
def tv:V→Bool
 | .bl b=>b
 | .int i=>i != 0
 | _=>false
def sk:V→Bool
 | .bl _=>true
 | .int _=>true
 | _=>false
theorem nU {ys:List V} {its:List Value} {A:Around} (rv:Vals ys its) (hb:ys.all sk=true):TruthOf X.prog X.w A (fun i v=>its.toArray[i]?=some v) (fun i=>tv (ys.getD i .non)):=by
 intro i v s Q E e h
 obtain ⟨x,h1,h2⟩:=rv.tog (i:=i) (u:=v) (by simpa using e)
 have hx:sk x=true:=cY.mp hb x (bj h1)
 dsimp only at h
 rw [ae,h1] at h
 cases x with
 | bl b=>cases h2;exact wpAny_truthy_bool h
 | int i=>obtain ⟨t,rfl⟩:=h2;exact PySem.P.truthy_int h
 | _=>exact absurd (show false=true from hx) aV
theorem range_all {ys:List V} (f:V→Bool):(bI ys.length).all (fun i=>f (ys.getD i .non))=ys.all f:=by
 rw [cS,cY,cY]
 constructor
 ·intro h x hx
  obtain ⟨i,hi,rfl⟩:=cf.mp hx
  have:=h i (bM.mpr hi)
  rwa [ae,aj hi] at this
 ·intro h i hi
  have hi':=bM.mp hi
  rw [ae,aj hi']
  exact h _ (cj hi')
theorem range_any {ys:List V} (f:V→Bool):(bI ys.length).any (fun i=>f (ys.getD i .non))=ys.any f:=by
 rw [cS,cN,cN]
 constructor
 ·rintro ⟨i,hi,h⟩
  have hi':=bM.mp hi
  rw [ae,aj hi'] at h
  exact ⟨_,cj hi',h⟩
 ·rintro ⟨x,hx,h⟩
  obtain ⟨i,hi,rfl⟩:=cf.mp hx
  exact ⟨i,bM.mpr hi,by rw [ae,aj hi];exact h⟩
theorem mM (hc:X.calm=true):gK X (.builtin "all") (fun xs H Q=>∃(p:Addr) (ys:List V),xs=[.ref p]∧(SqL X.K H p ys∨SqT X.K H p ys)∧ys.all sk=true∧Q (.bl (ys.all tv)) H):=by
 intro pins s σ H xs us Q I r h
 obtain ⟨p,ys,rfl,hq,hb,q⟩:=h
 obtain ⟨u,rfl,rx⟩:=vals1 r
 cases rx
 refine call_all_walkS (jG (I.ok.hd hc) I hq fun it its fp T s2 rv W st hfp inv=>⟨it,fp,[it],_,_,_,_,_,rfl,W.toS,st,nU rv hb,fun s' mv=>?_⟩)
 refine ⟨.bl (ys.all tv),H,inv s' mv,?_,q⟩
 show Value.bool _=Value.bool _
 rw [aT,←rv.length,range_all]
theorem mK (hc:X.calm=true):gK X (.builtin "any") (fun xs H Q=>∃(p:Addr) (ys:List V),xs=[.ref p]∧(SqL X.K H p ys∨SqT X.K H p ys)∧ys.all sk=true∧Q (.bl (ys.any tv)) H):=by
 intro pins s σ H xs us Q I r h
 obtain ⟨p,ys,rfl,hq,hb,q⟩:=h
 obtain ⟨u,rfl,rx⟩:=vals1 r
 cases rx
 refine call_any_walkS (jG (I.ok.hd hc) I hq fun it its fp T s2 rv W st hfp inv=>⟨it,fp,[it],_,_,_,_,_,rfl,W.toS,st,nU rv hb,fun s' mv=>?_⟩)
 refine ⟨.bl (ys.any tv),H,inv s' mv,?_,q⟩
 show Value.bool _=Value.bool _
 rw [aT,←rv.length,range_any]
theorem getD_mem' {ns:List Int} {i:Nat} (h:i<ns.length):ns.getD i 0∈ns:=by
 rw [ae,aj h]
 exact cj h
theorem mH (hc:X.calm=true):gK X (.builtin "min") (fun xs H Q=>∃(p:Addr) (ns:List Int),xs=[.ref p]∧(SqL X.K H p (ns.map V.int)∨SqT X.K H p (ns.map V.int))∧0<ns.length∧∀M,M∈ns→(∀a∈ns,M≤a)→Q (.int M) H):=by
 intro pins s σ H xs us Q I r h
 obtain ⟨p,ns,rfl,hq,hn,q⟩:=h
 obtain ⟨u,rfl,rx⟩:=vals1 r
 cases rx
 refine call_min_walkS (jG (I.ok.hd hc) I hq fun it its fp T s2 rv W st hfp inv=>?_)
 have hl:its.toArray.size=ns.length:=by
  have:=rv.length
  rw [aa] at this
  rw [aT];omega
 refine ⟨it,fp,[it],_,_,_,_,_,rfl,W.toS,st,hfp,by omega,CmpOf.ints_lt (fun i=>ns.getD i 0) (fun i v e=>rv.lH e),fun v s' e mv=>?_⟩
 obtain ⟨h1,h2⟩:=argBest_lt (fun i=>ns.getD i 0) (its.toArray.size-1)
 obtain ⟨t,rfl⟩:=rv.lH e
 refine ⟨.int _,H,inv s' mv,⟨t,rfl⟩,q _ (getD_mem' (by omega)) fun a ha=>?_⟩
 obtain ⟨j,hj,rfl⟩:=cf.mp ha
 have:=h2 j (by omega)
 have ej:ns.getD j 0=ns[j]:=by rw [ae,aj hj];rfl
 rw [←ej]
 exact this
end
structure v_ (J:It) (n:Nat) (val:Nat→V) (C:Hp→Prop):Prop where
 go:∀i H,C H→i<n→J.go i H
 yld:∀i H x H',C H→i<n→J.yld i H x H'→H'=H∧x=val i
 stop:∀i H,C H→n≤i→J.stop i H
theorem mw {K:ai} {a:Addr} {xs:List V}:v_ (Itl K a) xs.length (fun i=>xs.getD i .non) (fun H=>SqL K H a xs) where
 go:=fun i H q hi=>⟨xs,xs[i],q,by simp [hi]⟩
 yld:=fun i H x H' q hi ⟨e,y⟩=>⟨e,by rw [ae,y xs q];rfl⟩
 stop:=fun i H q hi=>⟨xs,q,hi⟩
theorem oq {K:ai} {a:Addr} {xs:List V}:v_ (Itt K a) xs.length (fun i=>xs.getD i .non) (fun H=>SqT K H a xs) where
 go:=fun i H q hi=>⟨xs,xs[i],q,by simp [hi]⟩
 yld:=fun i H x H' q hi ⟨e,y⟩=>⟨e,by rw [ae,y xs q];rfl⟩
 stop:=fun i H q hi=>⟨xs,q,hi⟩
theorem eQ {lo:Int} {n:Nat}:v_ (Itr lo n) n (fun i=>.int (lo+(i:Nat))) (fun _=>True) where
 go:=fun i H _ hi=>hi
 yld:=fun i H x H' _ hi ⟨e,y⟩=>⟨e,y⟩
 stop:=fun i H _ hi=>hi
theorem fS {J:It} {n:Nat} {val:Nat→V} {C:Hp→Prop} {g:TG} {tt:TT} {te:TE} {σ0:St} {Q:VK} {H:Hp} (O:v_ J n val C) (Pv:Nat→List V→Hp→Prop) (hn:n≤sizeLine) (h0:Pv 0 [] H) (hl:∀i ys H,i≤n→Pv i ys H→C H∧ys.length≤i)
  (hs:∀i ys H,i<n→Pv i ys H→g (val i) σ0 H fun σ2 H2=>Wk σ0 σ2∧tt σ2 H2 fun k H3=>if k=true then te σ2 H3 fun v H4=>ys.length<sizeLine∧∃m',m'<n-i∧(m'=n-(i+1)∧i+1≤n∧Pv (i+1) (ys++[v]) H4) else ∃m',m'<n-i∧(m'=n-(i+1)∧i+1≤n∧Pv (i+1) ys H3))
  (hd:∀ys H,Pv n ys H→∀p,H p=none→Q (.ref p) (upd H p (.lst ys))):LcW J g tt te σ0 Q H:=by
 refine ⟨fun i m ys H=>m=n-i∧i≤n∧Pv i ys H,⟨n,by simp,dU _,h0⟩,?_⟩
 rintro i m ys H ⟨rfl,hi,p⟩
 obtain ⟨c,hy⟩:=hl i ys H hi p
 refine ⟨by omega,?_⟩
 by_cases hlt:i<n
 ·refine .inr ⟨O.go i H c hlt,fun x H' y=>?_⟩
  obtain ⟨rfl,rfl⟩:=O.yld i H x H' c hlt y
  exact hs i ys _ hlt p
 ·have e:i=n:=by omega
  subst e
  exact .inl ⟨O.stop _ H c (aN _),hd ys H p⟩
theorem gQ {J:It} {n:Nat} {val:Nat→V} {C:Hp→Prop} {g:TG} {tb:TS} {D:Ends} {σ:St} {H:Hp} (O:v_ J n val C) (Pv:Nat→St→Hp→Prop) (h0:Pv 0 σ H) (hl:∀i σ H,i≤n→Pv i σ H→C H)
  (hs:∀i σ H,i<n→Pv i σ H→g (val i) σ H fun σ2 H2=>tb {D with nx:=Pv (i+1),ct:=Pv (i+1),bk:=D.nx} σ2 H2) (hd:∀σ H,Pv n σ H→D.nx σ H) :
  ∃W:Nat→Nat→St→Hp→Prop,(∃m,W 0 m σ H)∧∀i m σ H,W i m σ H →
   (J.stop i H∧D.nx σ H)∨(J.go i H∧∃N:St→Hp→Prop,(∀σ' H',N σ' H'→∃m',m'<m∧W (i+1) m' σ' H')∧∀x H',J.yld i H x H'→g x σ H' fun σ2 H2=>tb {D with nx:=N,ct:=N,bk:=D.nx} σ2 H2):=by
 refine ⟨fun i m σ H=>m=n-i∧i≤n∧Pv i σ H,⟨n,by simp,dU _,h0⟩,?_⟩
 rintro i m σ H ⟨rfl,hi,p⟩
 have c:=hl i σ H hi p
 by_cases hlt:i<n
 ·refine .inr ⟨O.go i H c hlt,Pv (i+1),fun σ' H' p'=>⟨n-(i+1),by omega,rfl,hlt,p'⟩,fun x H' y=>?_⟩
  obtain ⟨rfl,rfl⟩:=O.yld i H x H' c hlt y
  exact hs i σ _ hlt p
 ·have e:i=n:=by omega
  subst e
  exact .inl ⟨O.stop _ H c (aN _),hd σ H p⟩
theorem dR {σ0:St} {i:Nat} {v:Option V} (h:σ0[i]?=some none):Wk σ0 (σ0.set i v):=by
 refine ⟨by rw [cx],fun j w' e=>?_⟩
 by_cases hj:i=j
 ·subst hj;rw [h] at e;cases e
 ·rw [dB hj];exact e
theorem bx.new {H:Hp} {p:Addr} {o:HO} (h:H p=none):bx H (upd H p o):=fun b u e=>by
 rw [bS (bw e h)]
 exact e
theorem bx.tup {K:ai} {H H':Hp} {a:Addr} {xs:List V} (e:bx H H') (h:SqT K H a xs):SqT K H' a xs:=by
 rcases h with (h | ⟨o,h⟩) | h
 ·exact .inl (.inl (e _ _ h))
 ·exact .inl (.inr ⟨o,e _ _ h⟩)
 ·exact .inr h
theorem bx.next {H H1:Hp} {p:Addr} {o:HO} (s:bx H H1) (h:H1 p=none):bx H (upd H1 p o):=s.trans (bx.new h)
end L2
namespace L2
open PySem PySem.Spec PyProof.Rows
def BV (t:TS):TS:=fun D σ H=>∃M:St→Hp→Prop,t {D with nx:=M} σ H∧∀σ' H',M σ' H'→D.nx σ' H'
theorem dO {X:Cx} {st:Stmt} {t:TS} (h:PS X st t):PS X st (BV t):=by
 intro pins s σ H D I hw
 obtain ⟨M,h1,h2⟩:=hw
 refine thn (h pins s σ H {D with nx:=M} I h1) fun f s' q=>?_
 cases f with
 | next=>obtain ⟨σ',H',I',q⟩:=q;exact ⟨σ',H',I',h2 _ _ q⟩
 | brk=>exact q
 | cont=>exact q
 | ret u=>exact q
def Def (P:Program) (w:World) (K:ai) (mg:Str→Option Value) (base:Heap) (k:Nat) (x:Str) (ps:List Str) (sp:Sp):Prop :=
 ∃f fd,fH P w K mg base CX0 k f fd ps sp∧mg x=some (.ref f)∧aH K (.ref f)=true∧Binds K fd ps []
theorem Def.of {P:Program} {w:World} {K:ai} {mg:Str→Option Value} {base:Heap} {k:Nat} {x qual:Str} {ps:List Str} {sp:Sp} {st:Stmt} {f:Addr} {fd:FuncData}
  (F:Fun K x qual st f fd) (m:mg x=some (.ref f)) (b:Binds K fd ps []) (ok:fH P w K mg base CX0 k f fd ps sp):Def P w K mg base k x ps sp:=⟨f,fd,ok,m,F.kp,b⟩
theorem xw {X:Cx} {k:Nat} {x:Str} {ps:List Str} {sp:Sp} {e:Expr} {es:List Expr} {t:TA} {p pos:Pos} (D:Def X.prog X.w X.K X.mg X.base k x ps sp) (hr:iT k X.A) (hg:Gl X x) (ha:PA X (e::es) t)
  (hdb:(x==("__debug__":Str))=false:=by decide) (he:starEach (e::es) X.env=(false,eval e X.env)::starEach es X.env:=by rfl) (hpl:(backTo pos (starEach es X.env)).any (·.1)=false:=by rfl) :
  PE X (.Call (.Name x p) (e::es) [] pos) (wZ sp [] E0 t):=by
 obtain ⟨f,fd,F,m,kp,b⟩:=D
 exact vv F hr hg m kp b .nil xy ha hdb he hpl
def BE (osc:Scope) (N:List Str) (sc:Scope) (N':List Str) (nl:Nat) (js:List Nat):Bool :=
 sc.kind==.function&&sc.names.all (fun y=>y.2 != .cell)&&sc.names.all (fun y=>y.2 != .local||sc.names.lookup y.1==some .local) &&
 sc.names.all (fun y=>y.2 != .free||(osc.names.lookup y.1==some .cell||osc.names.lookup y.1==some .free))&&(N'.length==nl+js.length) &&
 (bI js.length).all (fun i=>match js[i]?,N'[nl+i]? with | some j,some x=>N[j]?==some x&&sc.names.lookup x==some .free | _,_=>false)
theorem iC.of {X:Cx} {osc sc:Scope} {N N':List Str} {nl:Nat} {js:List Nat} (h:BE osc N sc N' nl js=true) (h1:X.env.scope=osc) (h2:X.N=N):iC X sc N' nl js:=by
 unfold BE at h
 simp only [cC] at h
 obtain ⟨⟨⟨⟨⟨a1,a2⟩,a3⟩,a4⟩,a5⟩,a6⟩:=h
 refine ⟨by simpa using a1,fun y hy e=>?_,fun y hy e=>?_,fun y hy e=>?_,fun i j e=>?_,by simpa using a5⟩
 ·have:=cY.mp a2 y hy
  rw [e] at this
  exact absurd this (by decide)
 ·have:=cY.mp a3 y hy
  rw [e] at this
  simpa using this
 ·have:=cY.mp a4 y hy
  rw [e] at this
  have this:(osc.names.lookup y.1==some .cell||osc.names.lookup y.1==some .free)=true:=by simpa using this
  show X.env.scope.names.lookup y.1=_∨X.env.scope.names.lookup y.1=_
  rw [h1]
  simpa using this
 ·have hi:i<js.length:=(cE.mp e).1
  have:=cY.mp a6 i (bM.mpr hi)
  rw [e] at this
  cases q:N'[nl+i]? with
  | none=>rw [q] at this;exact absurd (show false=true from this) aV
  | some x =>
   rw [q] at this
   dsimp only at this
   rw [cC] at this
   exact ⟨x,rfl,by rw [h2];simpa using this.1,by simpa using this.2⟩
theorem ft {ns:List Int} {k:Int} (h0:0≤k) (h:k<(ns.length:Int)):atI (ns.map V.int) k=some (.int (ns.getD k.toNat 0)):=by
 have hk:k.toNat<ns.length:=by omega
 have:=sh (xs:=ns.map V.int) (j:=k.toNat) (v:=.int (ns.getD k.toNat 0)) (by rw [a_,ae,aj hk];rfl)
 rwa [Int.toNat_of_nonneg h0] at this
theorem gm (ns:List Int):(ns.map V.int).all jA=true:=by
 rw [cY]
 intro x hx
 obtain ⟨n,_,rfl⟩:=bE.mp hx
 rfl
theorem hJ (z:Int) (ns:List Int):inV (.int z) (ns.map V.int)=ns.any (·==z):=by
 unfold inV
 rw [List.any_map]
 rfl
theorem getD_map_int {ns:List Int} {i:Nat} (h:i<(ns.map V.int).length):∃z,(ns.map V.int).getD i .non=.int z∧ns[i]?=some z:=by
 rw [aa] at h
 refine ⟨ns[i],?_,aj h⟩
 rw [ae,a_,aj h]
 rfl
theorem take_snoc {α:Type} {l:List α} {i:Nat} {z:α} (h:l[i]?=some z):l.take (i+1)=l.take i++[z]:=by
 rw [List.take_add_one,h]
 rfl
end L2
namespace L2
open PySem
theorem lG (K:ai) (t:Value):bu K t t=some true:=by
 unfold bu
 rw [if_pos (by simp)]
end L2
namespace L2
open PySem PySem.Spec PyProof.Rows
mutual
inductive mU (K:ai) (H:Hp):V→PyData→Prop
 | non:mU K H .non .none
 | bl (b:Bool):mU K H (.bl b) (.bool b)
 | int (i:Int):mU K H (.int i) (.int i)
 | str (x:Str):mU K H (.str x) (.str x)
 | lst {a:Addr} {xs:List V} {ds:List PyData}:SqL K H a xs→iq K H xs ds→mU K H (.ref a) (.list ds)
 | tup {a:Addr} {xs:List V} {ds:List PyData}:SqT K H a xs→iq K H xs ds→mU K H (.ref a) (.tuple ds)
inductive iq (K:ai) (H:Hp):List V→List PyData→Prop
 | nil:iq K H [] []
 | cons {x:V} {d:PyData} {xs:List V} {ds:List PyData}:mU K H x d→iq K H xs ds→iq K H (x::xs) (d::ds)
end
section
variable {X:Cx} {pins:List (Addr×Obj)} {σ:St} {H:Hp} {s:Shared}
mutual
theorem mU.reads (I:Inv X pins σ H s):∀{x:V} {d:PyData} {u:Value},mU X.K H x d→RelV x u→∃as,Reads s.heap u d as
 | _,_,_,.non,r=>by cases r;exact ⟨_,.none⟩
 | _,_,_,.bl b,r=>by cases r;exact ⟨_,.bool b⟩
 | _,_,_,.int i,r=>by obtain ⟨t,rfl⟩:=r;exact ⟨_,.int i t⟩
 | _,_,_,.str x,r=>by obtain ⟨t,rfl⟩:=r;exact ⟨_,.str x t⟩
 | _,_,_,.lst hq h,r=>by
  cases r
  obtain ⟨its,rv,pl,_⟩:=I.list hq
  obtain ⟨o,n,e,c,_,d⟩:=pl
  obtain ⟨as,q⟩:=iq.reads I h rv
  exact ⟨_,.list e c d (by simpa using q)⟩
 | _,_,_,.tup hq h,r=>by
  cases r
  obtain ⟨its,rv,pl,_⟩:=I.tuple hq
  obtain ⟨o,e,c,n,d⟩:=pl
  obtain ⟨as,q⟩:=iq.reads I h rv
  exact ⟨_,.tuple e c d (by simpa using q)⟩
theorem iq.reads (I:Inv X pins σ H s):∀{xs:List V} {ds:List PyData} {us:List Value},iq X.K H xs ds→Vals xs us→∃as,ReadsAll s.heap us ds as
 | _,_,_,.nil,.nil=>⟨_,.nil⟩
 | _,_,_,.cons h t,.cons r rr=>by
  obtain ⟨as,q⟩:=mU.reads I h r
  obtain ⟨bs,q'⟩:=iq.reads I t rr
  exact ⟨_,.cons q q'⟩
end
end
def yB (K:ai) (f:Bool→Bool):R2:=fun x y H Q=>∃d e,mU K H x d∧mU K H y e∧SeqAt.shaped d=true∧SeqAt.shaped e=true∧Q (.bl (f (PyData.eqv d e))) H
section
variable {X:Cx}
theorem xC (hu:X.A.units+64<cLine):OpR X (compareOp .Eq) (yB X.K id):=by
 intro pins s σ H x y v u Q I rx ry h
 obtain ⟨d,e,hd,he,sd,se,q⟩:=h
 obtain ⟨as,r1⟩:=hd.reads I rx
 obtain ⟨bs,r2⟩:=he.reads I ry
 exact eq_dataH r1 r2 sd se hu ⟨.bl _,H,I,rfl,q⟩
theorem xA (hu:X.A.units+64<cLine):OpR X (compareOp .NotEq) (yB X.K not):=by
 intro pins s σ H x y v u Q I rx ry h
 obtain ⟨d,e,hd,he,sd,se,q⟩:=h
 obtain ⟨as,r1⟩:=hd.reads I rx
 obtain ⟨bs,r2⟩:=he.reads I ry
 exact ne_dataH r1 r2 sd se hu ⟨.bl _,H,I,rfl,q⟩
end
mutual
theorem mU.same {K:ai} {H H':Hp} (S:bx H H'):∀{x:V} {d:PyData},mU K H x d→mU K H' x d
 | _,_,.non=>.non
 | _,_,.bl b=>.bl b
 | _,_,.int i=>.int i
 | _,_,.str x=>.str x
 | _,_,.lst hq h=>.lst (S.seq hq) (iq.same S h)
 | _,_,.tup hq h=>.tup (S.tup hq) (iq.same S h)
theorem iq.same {K:ai} {H H':Hp} (S:bx H H'):∀{xs:List V} {ds:List PyData},iq K H xs ds→iq K H' xs ds
 | _,_,.nil=>.nil
 | _,_,.cons h t=>.cons (mU.same S h) (iq.same S t)
end
def dI (ns:List Int):PyData:=.list (ns.map PyData.int)
def dP (e:Int×Int):PyData:=.tuple [.int e.1,.int e.2]
theorem rR:∀ns:List Int,PyData.canLayAll0 (ns.map PyData.int)=true∧PyData.depthAll (ns.map PyData.int)=0
 | []=>⟨rfl,rfl⟩
 | n::r=>by
  obtain ⟨h1,h2⟩:=rR r
  simp only [bf,PyData.canLayAll0,PyData.canLay0,PyData.depthAll,PyData.depth,h1,h2]
  exact ⟨rfl,rfl⟩
theorem fg (ns:List Int):SeqAt.shaped (dI ns)=true:=by
 obtain ⟨h1,h2⟩:=rR ns
 unfold SeqAt.shaped dI
 simp only [PyData.canLay0,PyData.depth,h1,h2]
 rfl
theorem mB:∀ns ms:List Int,PyData.eqvAll (ns.map PyData.int) (ms.map PyData.int)=decide (ns=ms)
 | [],[]=>rfl
 | [],_::_=>rfl
 | _::_,[]=>rfl
 | a::r,b::t=>by
  simp only [bf,PyData.eqvAll,PyData.eqv,mB r t]
  by_cases h:a=b<;>by_cases h':r=t<;>simp [h,h']
theorem kg (ns ms:List Int):PyData.eqv (dI ns) (dI ms)=decide (ns=ms):=mB ns ms
theorem kH {K:ai} {H:Hp}:∀ns:List Int,iq K H (ns.map V.int) (ns.map PyData.int)
 | []=>.nil
 | n::r=>.cons (.int n) (kH r)
theorem eh {K:ai} {H:Hp} {a:Addr} {ns:List Int} (h:SqL K H a (ns.map V.int)):mU K H (.ref a) (dI ns):=.lst h (kH ns)
def Pairs (K:ai) (H:Hp):List V→List (Int×Int)→Prop:=Paired fun v e=>∃r,v=.ref r∧SqT K H r [.int e.1,.int e.2]
theorem Pairs.same {K:ai} {H H':Hp} (S:bx H H') {xs:List V} {es:List (Int×Int)} (h:Pairs K H xs es):Pairs K H' xs es:=Paired.uL h fun _ _ ⟨r,e,q⟩=>⟨r,e,S.tup q⟩
theorem Pairs.len {K:ai} {H:Hp} {xs:List V} {es:List (Int×Int)} (h:Pairs K H xs es):xs.length=es.length:=Paired.length h
theorem Pairs.at {K:ai} {H:Hp}:∀{xs:List V} {es:List (Int×Int)} {i:Nat},Pairs K H xs es→i<xs.length→∃r e,xs.getD i .non=.ref r∧SqT K H r [.int e.1,.int e.2]∧es[i]?=some e∧e∈es
 | _,_,_,.nil,h=>absurd h (cw _)
 | _,_,0,.cons ⟨r,e,q⟩ _,_=>⟨r,_,e,q,rfl,aP⟩
 | _,_,i+1,.cons _ t,h=>by
  obtain ⟨r,e,h1,h2,h3,h4⟩:=Pairs.at (i:=i) t (by simpa using h)
  exact ⟨r,e,by simpa using h1,h2,by simpa using h3,aO _ h4⟩
theorem Pairs.snoc {K:ai} {H:Hp} {xs:List V} {es:List (Int×Int)} {r:Addr} {e:Int×Int} (h:Pairs K H xs es) (q:SqT K H r [.int e.1,.int e.2]):Pairs K H (xs++[.ref r]) (es++[e]):=Paired.snoc h ⟨r,rfl,q⟩
def fj (a:Addr) (H H':Hp):Prop:=∀b o,b≠a→H b=some o→H' b=some o
theorem fj.tup {K:ai} {H H':Hp} {a r:Addr} {xs zs:List V} (S:fj a H H') (ha:H a=some (.lst zs)) (h:SqT K H r xs):SqT K H' r xs:=by
 rcases h with (h | ⟨o,h⟩) | h
 ·exact .inl (.inl (S _ _ (iK h ha (by intro z;cases z)) h))
 ·exact .inl (.inr ⟨o,S _ _ (iK h ha (by intro z;cases z)) h⟩)
 ·exact .inr h
theorem Pairs.sS {K:ai} {H H':Hp} {a:Addr} {zs:List V} (S:fj a H H') (ha:H a=some (.lst zs)) {xs:List V} {es:List (Int×Int)} (h:Pairs K H xs es):Pairs K H' xs es :=
 Paired.uL h fun _ _ ⟨r,e,q⟩=>⟨r,e,S.tup ha q⟩
theorem eP {H:Hp} {a:Addr} {o:HO}:fj a H (upd H a o):=fun b u hb e=>by rw [bS hb];exact e
end L2
namespace L2
open PySem PySem.Spec PyProof.Rows
section
variable {X:Cx} {tg:Expr}
def BD (K:ai) (tl:TE):TI:=fun σ H R=>tl σ H fun x H1=>∃a xs,x=.ref a∧(SqL K H1 a xs∨SqT K H1 a xs)∧∀J C,v_ J xs.length (fun i=>xs.getD i .non) C→(∀H2,bx H1 H2→C H2)→R J H1
theorem xr {l:Expr} {tl:TE} (hl:PE X l tl):PI X tg l (BD X.K tl):=by
 intro pins s σ H R I h
 refine thn (hl pins s σ H _ I h) fun v s1 ⟨x,H1,I1,r1,q1⟩=>?_
 obtain ⟨a,xs,e,hq,q⟩:=q1
 subst e
 cases r1
 have fp:∀b∈[s1.heap.objs.size],mT X pins H1 b:=fun b hb=>by
  have e:b=s1.heap.objs.size:=by simpa using hb
  rw [e];exact I1.wx (aN _) (I1.hok.fresh (aN _))
 rcases hq with hq | hq
 ·obtain ⟨its,rv,p,hz⟩:=I1.list hq
  exact wpAny_pyIter_list p.isList ⟨s1.heap.objs.size,[s1.heap.objs.size],_,_,H1,rfl,I1.kept (t':=s1.toks) fun b o e=>ao _ e,lR a _,⟨_,bo _ rfl,rfl,rfl⟩,fp,
   q _ _ mw fun H2 S=>S.seq hq⟩
 ·obtain ⟨its,rv,p,hz⟩:=I1.tuple hq
  exact wpAny_pyIter_tuple (show s1.heap.IsTuple a its.toArray from p) ⟨s1.heap.objs.size,[s1.heap.objs.size],_,_,H1,rfl,I1.kept (t':=s1.toks) fun b o e=>ao _ e,kq a _,⟨_,bo _ rfl,rfl,rfl⟩,fp,
   q _ _ oq fun H2 S=>S.tup hq⟩
end
inductive TyX (K:ai) (H:Hp):V→Value→Prop
 | of {x:V} {t:Value}:pK K H x t→TyX K H x t
 | tup {a:Addr} {xs:List V}:SqT K H a xs→TyX K H (.ref a) (.type "tuple")
 | lst {a:Addr} {xs:List V}:SqL K H a xs→TyX K H (.ref a) (.type "list")
section
variable {X:Cx}
theorem ug:gK X (.builtin "isinstance") (fun xs H Q=>∃x c t cv b,xs=[x,c]∧RelV c cv∧(∀u,RelV c u→u=cv)∧TyX X.K H x t∧bu X.K t cv=some b∧Q (.bl b) H):=by
 intro pins s σ H xs us Q I r h
 obtain ⟨x,c,t,cv,b,rfl,_,hu,ty,e,q⟩:=h
 obtain ⟨u,u',rfl,rx,rc⟩:=vals2 r
 obtain rfl:=hu u' rc
 have fin:∀tk,EP X pins σ Q (.bool b) {s with toks:=tk}:=fun tk=>⟨.bl b,H,I.tok _,rfl,q⟩
 cases ty with
 | of ty=>exact qQ I rx ty e fin
 | @tup a ys hq =>
  cases (show u=Value.ref a from rx)
  obtain ⟨its,rv,⟨o,h1,h2,_⟩,hz⟩:=I.tuple hq
  exact cP PySem.W.kitx_tuple I.kIn ⟨o,h1,h2⟩ e (fun z=>nomatch z) fin
 | @lst a ys hq =>
  cases (show u=Value.ref a from rx)
  obtain ⟨its,rv,⟨o,n,h1,h2,_⟩,hz⟩:=I.list hq
  exact cP PySem.W.kitx_list I.kIn ⟨o,h1,h2⟩ e (fun z=>nomatch z) fin
end
end L2
namespace L2
open PySem PySem.Spec PyProof.Rows
theorem vn {X:Cx} {i j:Nat} {x y:Str} {p1 p2 pos:Pos} {k:Nat} (hc:X.calm=true) (hN:X.N.Nodup) (hi:X.N[i]?=some x) (hj:X.N[j]?=some y) (hx:X.env.scope.names.lookup x=some .local) (hy:X.env.scope.names.lookup y=some .local) :
  PG X (.Tuple [.Name x p1,.Name y p2] k pos) (yE X.K 2 (q_ (nE i) (q_ (nE j) Ba))):=uH hc (c_ (bK hN hi (.inl hx) (.inr hx)) (c_ (bK hN hj (.inl hy) (.inr hy)) gA))
theorem tV {K:ai}:bu K (.type "int") (.type "bool")=some false:=by with_unfolding_all rfl
theorem Wk.trans {a b d:St} (x:Wk a b) (y:Wk b d):Wk a d:=⟨x.1.trans y.1,fun i v e=>y.2 i v (x.2 i v e)⟩
theorem iu {σ0:St} {i j:Nat} {v u:Option V} (h:σ0[i]?=some none) (h':(σ0.set i v)[j]?=some none):Wk σ0 ((σ0.set i v).set j u):=(dR h).trans (dR h')
section
variable {K:ai} {H H':Hp} {a r C dx:Addr} {xs:List V} {fs:List (Str×V)}
theorem fj.BZ (S:fj a H H') (ha:H a=some (.ins C dx fs)) (h:SqL K H r xs):SqL K H' r xs:=by
 rcases h with (h | ⟨o,h⟩) | h
 ·exact .inl (.inl (S _ _ (iK h ha (by intro z;cases z)) h))
 ·exact .inl (.inr ⟨o,S _ _ (iK h ha (by intro z;cases z)) h⟩)
 ·exact .inr h
theorem fj.tupI (S:fj a H H') (ha:H a=some (.ins C dx fs)) (h:SqT K H r xs):SqT K H' r xs:=by
 rcases h with (h | ⟨o,h⟩) | h
 ·exact .inl (.inl (S _ _ (iK h ha (by intro z;cases z)) h))
 ·exact .inl (.inr ⟨o,S _ _ (iK h ha (by intro z;cases z)) h⟩)
 ·exact .inr h
theorem Pairs.xi (S:fj a H H') (ha:H a=some (.ins C dx fs)) {es:List (Int×Int)} (h:Pairs K H xs es):Pairs K H' xs es:=Paired.uL h fun _ _ ⟨r,e,q⟩=>⟨r,e,S.tupI ha q⟩
end
end L2
namespace L2
open PySem PySem.Spec PyProof.Rows
theorem PE.imp {X:Cx} {e:Expr} {t t':TE} (h:PE X e t) (k:∀σ H Q,t' σ H Q→t σ H Q):PE X e t':=fun pins s σ H Q I hw=>h pins s σ H Q I (k σ H Q hw)
theorem bx.upd {H H':Hp} {l:Addr} {o:HO} (e:bx H H') (h:H l=none):bx H (L2.upd H' l o):=fun b u q=>by rw [bS (bw q h)];exact e _ _ q
theorem bX {X:Cx} {k k':Nat} {x:Str} {ps:List Str} {sp:Sp} {e:Expr} {es:List Expr} {t:TA} {p pos:Pos} (D:Def X.prog X.w X.K X.mg X.base k x ps sp) (hr:iT k' X.A) (ha:PA X (e::es) t) (hk:k≤k':=by decide) (hg:Gl X x:=by rfl)
  (hdb:(x==("__debug__":Str))=false:=by decide) (he:starEach (e::es) X.env=(false,eval e X.env)::starEach es X.env:=by rfl) (hpl:(backTo pos (starEach es X.env)).any (·.1)=false:=by rfl) :
  PE X (.Call (.Name x p) (e::es) [] pos) (fun σ H Q=>t σ H fun vs H1=>sp vs H1 Q E0):=(xw D (hr.mono hk) hg ha hdb he hpl).imp fun σ H Q h=>by
 show t σ H fun vs H1=>sp (vs++[]) H1 Q E0
 simp only [bB]
 exact h
structure yf (K:ai) (C:Addr):Prop where
 cl:Cls K C
 nM:jy K C "many"
 nT:jy K C "ties"
 ca:cB K (.ref C) "__class__"=some (some (.builtin "object.__class__"))
 cg:PySem.W.specialIn K (.builtin "object.__class__") "__get__"=some (some (.builtin "getset_descriptor.__get__"))
 ck:PySem.W.takesIn K (.builtin "object.__class__")=some true
 co:dH K C (.type "object")=some true
abbrev wFs (m:Int) (t:Addr):List (Str×V):=[("many",.int m),("ties",.ref t)]
theorem sv (m:Int) (t:Addr):(wFs m t).lookup ("many":Str)=some (.int m):=rfl
theorem su (m:Int) (t:Addr):(wFs m t).lookup ("ties":Str)=some (.ref t):=rfl
def eW (K:ai) (C:Addr) (H:Hp) (a:Addr) (m:Int) (es:List (Int×Int)):Prop:=∃dx t xs,H a=some (.ins C dx (wFs m t))∧H t=some (.tup xs)∧Pairs K H xs es
theorem eW.same {K:ai} {C:Addr} {H H':Hp} {a:Addr} {m:Int} {es:List (Int×Int)} (h:eW K C H a m es) (S:bx H H'):eW K C H' a m es:=by
 obtain ⟨dx,t,xs,h1,h2,h3⟩:=h
 exact ⟨dx,t,xs,S _ _ h1,S _ _ h2,h3.same S⟩
section
variable {X:Cx} {C:Addr} {e:Expr} {ta:TE} {pos:Pos}
def wU (K:ai) (C:Addr) (ta:TE):TE:=fun σ H Q=>ta σ H fun x H1=>∃a m es,x=.ref a∧eW K C H1 a m es∧Q (.int m) H1
def wM (K:ai) (C:Addr) (ta:TE):TE:=fun σ H Q=>ta σ H fun x H1=>∃a m es,x=.ref a∧eW K C H1 a m es∧∀t xs,H1 t=some (.tup xs)→Pairs K H1 xs es→Q (.ref t) H1
theorem qo {f:Str} {r:V→Hp→VK→Prop} (he:PE X e ta) (hb:attributeBase e f X.env (eval e X.env)=eval e X.env) (k:∀x H Q,r x H Q→∃a C dx fs v,x=.ref a∧H a=some (.ins C dx fs)∧Cls X.K C∧jy X.K C f∧fs.lookup f=some v∧Q v H) :
  PE X (.Attribute e f pos) (fun σ H Q=>ta σ H fun x H1=>r x H1 Q):=by
 intro pins s σ H Q I h
 refine vT hb (thn (he pins s σ H _ I h) fun u s1 ⟨x,H1,I1,rx,q⟩=>?_)
 obtain ⟨a,C',dx,fs,v,ex,ea,c,n,l,q'⟩:=k _ _ _ q
 subst ex
 obtain rfl:u=Value.ref a:=rx
 exact pf I1 ea c n l fun u' s2 I2 ru=>⟨v,H1,I2,ru,q'⟩
theorem vq (W:yf X.K C) (he:PE X e ta) (hb:attributeBase e "many" X.env (eval e X.env)=eval e X.env:=by rfl):PE X (.Attribute e "many" pos) (wU X.K C ta) :=
 qo (r:=fun x H1 Q=>∃a m es,x=.ref a∧eW X.K C H1 a m es∧Q (.int m) H1) he hb fun x H Q ⟨a,m,es,ex,⟨dx,t,xs,h1,_⟩,q⟩=>⟨a,C,dx,_,_,ex,h1,W.cl,W.nM,sv m t,q⟩
theorem vo (W:yf X.K C) (he:PE X e ta) (hb:attributeBase e "ties" X.env (eval e X.env)=eval e X.env:=by rfl):PE X (.Attribute e "ties" pos) (wM X.K C ta) :=
 qo (r:=fun x H1 Q=>∃a m es,x=.ref a∧eW X.K C H1 a m es∧∀t xs,H1 t=some (.tup xs)→Pairs X.K H1 xs es→Q (.ref t) H1) he hb fun x H Q ⟨a,m,es,ex,⟨dx,t,xs,h1,h2,h3⟩,q⟩=>⟨a,C,dx,_,_,ex,h1,W.cl,W.nT,su m t,q t xs h2 h3⟩
end
def de (es:List (Int×Int)) (m:Int):Prop:=∀e∈es,0≤e.1∧e.1<m∧0≤e.2∧e.2<m
theorem de.nil {m:Int}:de [] m:=fun _ h=>nomatch h
theorem de.snoc {es:List (Int×Int)} {m:Int} {e:Int×Int} (h:de es m) (q:0≤e.1∧e.1<m∧0≤e.2∧e.2<m):de (es++[e]) m:=fun x hx=>by
 rcases aM.mp hx with z | z
 ·exact h x z
 ·have e':x=e:=by simpa using z
  rw [e'];exact q
def lU (K:ai) (C:Addr):Sp:=fun vs H Q _=>∃(x dx p:Addr) (m:Int) (xs:List V) (es:List (Int×Int)),vs=[.ref x,.int m,.ref p]∧H x=some (.ins C dx [])∧(SqL K H p xs∨SqT K H p xs)∧Pairs K H xs es ∧
 1≤m∧m≤20∧es.length≤40∧de es m∧∀H' t ys,fj x H H'→H' x=some (.ins C dx (wFs m t))→H' t=some (.tup ys)→Pairs K H' ys es→Q .non H'
def sj (P:Program) (w:World) (K:ai) (mg:Str→Option Value) (base:Heap) (k:Nat) (x:Str) (C:Addr) (ps:List Str) (sp:Sp):Prop :=
 ∃f fd,Mk K C f∧fH P w K mg base CX0 k f fd ps sp∧Binds K fd ps []∧mg x=some (.ref C)
def BK (K:ai) (C:Addr) (t:TA):TE:=fun σ H Q=>t σ H fun vs H1=>∃(p:Addr) (m:Int) (xs:List V) (es:List (Int×Int)),vs=[.int m,.ref p]∧(SqL K H1 p xs∨SqT K H1 p xs)∧Pairs K H1 xs es ∧
 1≤m∧m≤20∧es.length≤40∧de es m∧∀x H',H1 x=none→bx H1 H'→eW K C H' x m es→Q (.ref x) H'
theorem s_ {X:Cx} {k k':Nat} {C:Addr} {x:Str} {ps:List Str} {sp:Sp} {e:Expr} {es:List Expr} {t:TA} {p pos:Pos} {R:List V→Hp→VK→Prop} (D:sj X.prog X.w X.K X.mg X.base k x C ps sp) (hr:iT k' X.A) (ha:PA X (e::es) t)
  (hR:∀vs H1 Q,R vs H1 Q→∀x dx,H1 x=none→H1 dx=none→dx≠x→sp (.ref x::vs) (upd (upd H1 dx (.own x)) x (.ins C dx [])) (fun v H2=>v=.non∧Q (.ref x) H2) E0)
  (hk:k+1≤k':=by decide) (hg:Gl X x:=by rfl)
  (hdb:(x==("__debug__":Str))=false:=by decide) (he:starEach (e::es) X.env=(false,eval e X.env)::starEach es X.env:=by rfl) (hpl:(backTo pos (starEach es X.env)).any (·.1)=false:=by rfl) :
  PE X (.Call (.Name x p) (e::es) [] pos) (fun σ H Q=>t σ H fun vs H1=>R vs H1 Q):=by
 obtain ⟨f,fd,M,F,b,m⟩:=D
 intro pins s σ H Q I h
 refine wpAny_Call_Name_kw (iS I hg m ?_ hdb)
 refine PySem.W.callWith_K (h₀:=X.base) I.ok.mod.kin M.kp (thn (ha pos pins s σ H _ I h) fun us s1 ⟨vs,H1,I1,r,q⟩=>⟨I1.kIn,?_⟩) he hpl
 exact sV (dvs:=[]) (ds:=[]) M F (hr.mono hk) b .nil xy I1 r fun y dy n1 n2 n3=>by
  rw [bB]
  exact hR vs H1 Q q y dy n1 n2 n3
theorem oh {X:Cx} {k k':Nat} {C:Addr} {x:Str} {ps:List Str} {e:Expr} {es:List Expr} {t:TA} {p pos:Pos} (D:sj X.prog X.w X.K X.mg X.base k x C ps (lU X.K C)) (hr:iT k' X.A) (ha:PA X (e::es) t)
  (hk:k+1≤k':=by decide) (hg:Gl X x:=by rfl)
  (hdb:(x==("__debug__":Str))=false:=by decide) (he:starEach (e::es) X.env=(false,eval e X.env)::starEach es X.env:=by rfl) (hpl:(backTo pos (starEach es X.env)).any (·.1)=false:=by rfl) :
  PE X (.Call (.Name x p) (e::es) [] pos) (BK X.K C t):=by
 refine s_ D hr ha (fun vs H1 Q q=>?_) hk hg hdb he hpl
 obtain ⟨p',mm,xs,es',rfl,hq,hp,b1,b2,b3,b4,q⟩:=q
 intro z dz nz ndz ne
 have s1:bx H1 (upd (upd H1 dz (.own z)) z (.ins C dz [])):=(bx.new ndz).trans (bx.new (by rw [bS ne.symm];exact nz))
 refine ⟨z,dz,p',mm,xs,es',rfl,aq,hq.imp (fun y=>s1.seq y) (fun y=>s1.tup y),hp.same s1,b1,b2,b3,b4,fun H' tt ys sx h1 h2 h3=>⟨rfl,?_⟩⟩
 exact q z H' nz (fun bb o eb=>sx _ _ (bw eb nz) (s1 _ _ eb)) ⟨dz,tt,ys,h1,h2,h3⟩
end L2
namespace L2
open PySem PySem.Spec PyProof.Rows
theorem fj.of {H H':Hp} {a:Addr} (S:bx H H'):fj a H H':=fun b o _ e=>S b o e
theorem fj.trans {H H1 H2:Hp} {a:Addr} (S:fj a H H1) (T:fj a H1 H2):fj a H H2:=fun b o n e=>T b o n (S b o n e)
end L2
namespace L2
open PySem PySem.Spec PyProof.Rows
section
variable {X:Cx} {K:ai}
theorem ixL (h:X.K=K):IxR X (yA K):=by subst h;exact vC
theorem ixT (h:X.K=K):IxR X (Bx K):=by subst h;exact xN
theorem slL (h:X.K=K):SlR X (Bw K):=by subst h;exact u_
theorem wt (h:X.K=K):OpR X (compareOp .In) (rIn K false):=by subst h;exact qv
theorem qw (h:X.K=K):OpR X (compareOp .NotIn) (rIn K true):=by subst h;exact md
theorem tq (h:X.K=K) (hu:X.A.units+64<cLine):OpR X (compareOp .Eq) (yB K id):=by subst h;exact xC hu
theorem qy (h:X.K=K) (hu:X.A.units+64<cLine):OpR X (compareOp .NotEq) (yB K not):=by subst h;exact xA hu
def CA (K:ai):List V→Hp→VK→Prop:=fun xs H Q=>∃p ys,xs=[.ref p]∧(SqL K H p ys∨SqT K H p ys)∧Q (.int ys.length) H
theorem ig (h:X.K=K):gK X (.builtin "len") (CA K):=by subst h;exact mJ
def zQ (K:ai):List V→Hp→VK→Prop:=fun xs H Q=>∃p ys,xs=[.ref p]∧(SqL K H p ys∨SqT K H p ys)∧∀l,H l=none→Q (.ref l) (upd H l (.lst ys))
theorem mO (h:X.K=K):gK X (.type "list") (zQ K):=by subst h;exact mI
def xp (K:ai):List V→Hp→VK→Prop:=fun xs H Q=>∃p ys,xs=[.ref p]∧((SqL K H p ys∧∀l,H l=none→Q (.ref l) (upd H l (.tup ys)))∨(SqT K H p ys∧Q (.ref p) H))
theorem x_ (h:X.K=K):gK X (.type "tuple") (xp K):=by subst h;exact lN
def Cv (K:ai):List V→Hp→VK→Prop:=fun xs H Q=>∃(p:Addr) (ns:List Int),xs=[.ref p]∧(SqL K H p (ns.map V.int)∨SqT K H p (ns.map V.int))∧Q (.int ns.sum) H
theorem BG (h:X.K=K) (hc:X.calm=true):gK X (.builtin "sum") (Cv K):=by subst h;exact mG hc
def CG (K:ai):List V→Hp→VK→Prop:=fun xs H Q=>∃(p:Addr) (ys:List V),xs=[.ref p]∧(SqL K H p ys∨SqT K H p ys)∧ys.all sk=true∧Q (.bl (ys.all tv)) H
theorem yG (h:X.K=K) (hc:X.calm=true):gK X (.builtin "all") (CG K):=by subst h;exact mM hc
def CD (K:ai):List V→Hp→VK→Prop:=fun xs H Q=>∃(p:Addr) (ys:List V),xs=[.ref p]∧(SqL K H p ys∨SqT K H p ys)∧ys.all sk=true∧Q (.bl (ys.any tv)) H
theorem wz (h:X.K=K) (hc:X.calm=true):gK X (.builtin "any") (CD K):=by subst h;exact mK hc
def Cz (K:ai):List V→Hp→VK→Prop:=fun xs H Q=>∃(p:Addr) (ns:List Int),xs=[.ref p]∧(SqL K H p (ns.map V.int)∨SqT K H p (ns.map V.int))∧0<ns.length∧∀M,M∈ns→(∀a∈ns,M≤a)→Q (.int M) H
theorem CU (h:X.K=K) (hc:X.calm=true):gK X (.builtin "min") (Cz K):=by subst h;exact mH hc
def rIs (K:ai):List V→Hp→VK→Prop:=fun xs H Q=>∃x c t cv b,xs=[x,c]∧RelV c cv∧(∀u,RelV c u→u=cv)∧TyX K H x t∧bu K t cv=some b∧Q (.bl b) H
theorem cIs (h:X.K=K):gK X (.builtin "isinstance") (rIs K):=by subst h;exact ug
theorem f_ {tg l:Expr} {tl:TE} (h:X.K=K) (hl:PE X l tl):PI X tg l (BD K tl):=by subst h;exact xr hl
theorem jS {es:List Expr} {k:Nat} {t:TGs} {n:Nat} {pos:Pos} (hK:X.K=K) (hc:X.calm=true) (h:PGs X es t) (hn:(assignEach es X.env).length=n) (hst:(assignEach es X.env).findIdx? (·.1)=none:=by rfl):PG X (.Tuple es k pos) (yE K n t):=by
 subst hK;exact uH hc h hn hst
theorem jT {i j:Nat} {x y:Str} {p1 p2 pos:Pos} {k:Nat} (hK:X.K=K) (hc:X.calm=true) (hN:X.N.Nodup) (hi:X.N[i]?=some x) (hj:X.N[j]?=some y) (hx:X.env.scope.names.lookup x=some .local) (hy:X.env.scope.names.lookup y=some .local) :
  PG X (.Tuple [.Name x p1,.Name y p2] k pos) (yE K 2 (q_ (nE i) (q_ (nE j) Ba))):=by subst hK;exact vn hc hN hi hj hx hy
theorem qt {C:Addr} {e:Expr} {ta:TE} {pos:Pos} (h:X.K=K) (W:yf K C) (he:PE X e ta) (hb:attributeBase e "many" X.env (eval e X.env)=eval e X.env:=by rfl):PE X (.Attribute e "many" pos) (wU K C ta):=by subst h;exact vq W he hb
theorem gP {C:Addr} {e:Expr} {ta:TE} {pos:Pos} (h:X.K=K) (W:yf K C) (he:PE X e ta) (hb:attributeBase e "ties" X.env (eval e X.env)=eval e X.env:=by rfl):PE X (.Attribute e "ties" pos) (wM K C ta):=by subst h;exact vo W he hb
end
end L2
namespace L2
open PySem PySem.Spec PyProof.Rows
theorem fN.live {P:Program} {w:World} {H:Hp} {h:Heap} {a:Addr} {o:HO} (x:fN P w H h a o):∃ob,h.get? a=some ob:=by
 cases o with
 | lst xs=>obtain ⟨_,_,_,_,e⟩:=x;exact ⟨_,e⟩
 | tup xs=>obtain ⟨_,_,_,ob,e,_⟩:=x;exact ⟨_,e⟩
 | dK kvs=>obtain ⟨_,_,_,_,ob,_,_,e,_⟩:=x;exact ⟨_,e⟩
 | dT kvs=>obtain ⟨_,_,_,_,ob,_,_,e,_⟩:=x;exact ⟨_,e⟩
 | set S n=>obtain ⟨ob,_,_,_,e,_⟩:=x;exact ⟨_,e⟩
 | ins C dx fs=>obtain ⟨_,_,_,e,_⟩:=x;exact ⟨_,e⟩
 | own y=>exact x
 | xd fs=>obtain ⟨_,⟨_,_,_,e,_⟩,_⟩:=x;exact ⟨_,e⟩
 | rng lo hi=>obtain ⟨_,_,_,e⟩:=x;exact ⟨_,e⟩
 | frz ob u=>obtain ⟨e,_⟩:=x;exact ⟨_,e⟩
 | tbl ps=>exact ⟨_,x⟩
 | met f y=>exact ⟨_,x⟩
 | ext φ=>obtain ⟨_,e,_⟩:=x;exact e
theorem HOk.dead {P:Program} {w:World} {H:Hp} {h:Heap} {a:Addr} (x:HOk P w H h) (e:h.get? a=none):H a=none:=by
 cases q:H a with
 | none=>rfl
 | some o =>
  obtain ⟨ob,z⟩:=(x a o q).live
  rw [e] at z;cases z
def Yg (X:Cx) (H:Hp) (b:Addr):Prop:=X.s₀.heap.get? b=none∧H b=none∧∀p∈X.pn,p.1≠b
section
variable {X:Cx} {pins:List (Addr×Obj)} {σ:St} {H:Hp} {s:Shared}
theorem Inv.young (I:Inv X pins σ H s) (hex:X.ex=[]) {b:Addr} (e:s.heap.get? b=none):Yg X H b:=by
 refine ⟨?_,I.hok.dead e,fun p hp z=>?_⟩
 ·cases q:X.s₀.heap.get? b with
  | none=>rfl
  | some o =>
   obtain ⟨o',z⟩:=I.base.there b o q (by rw [hex];simp)
   rw [e] at z;cases z
 ·have:=(I.pin p (aI _ hp)).1
  rw [z,e] at this;cases this
theorem Inv.yc (I:Inv X pins σ H s):Inv X [] σ H s:=I.jQ fun _ h=>nomatch h
theorem Inv.xE {h':Heap} {ch:List Addr} (I:Inv X [] σ H s) (hch:∀b∈ch,Yg X H b∧∃o vs,s.heap.get? b=some o∧o.data=.fields vs)
  (keep:∀b o,s.heap.get? b=some o→b∉ch→b∉frs X.stack→h'.get? b=some o)
  (slot:∀b o,s.heap.get? b=some o→b∈frs X.stack→∃sl,h'.get? b=some {o with slots:=sl}):Inv X [] σ H {s with heap:=h'}:=by
 have up:∀b o,s.heap.get? b=some o→b∉ch→∃sl,h'.get? b=some {o with slots:=sl}:=fun b o e hb=>by
  by_cases hf:b∈frs X.stack
  ·exact slot b o e hf
  ·exact ⟨o.slots,keep b o e hb hf⟩
 have nchF:∀b o,s.heap.get? b=some o→(∀vs,o.data≠.fields vs)→b∉ch:=fun b o e hd hb=>by
  obtain ⟨_,o',vs,e',d⟩:=hch b hb
  rw [e] at e';cases e'
  exact hd vs d
 have nch0:∀b o,X.s₀.heap.get? b=some o→b∉ch:=fun b o e hb=>by
  have:=(hch b hb).1.1
  rw [e] at this;cases this
 have nst:∀b o,X.s₀.heap.get? b=some o→b∉X.fs→b∉frs X.stack:=fun b o e hb hs=>by
  rcases aU.mp (I.jn b hs) with z | z
  ·exact absurd (bp (aW e) I.ok.above) (by rw [z];exact cL _)
  ·exact hb z
 obtain ⟨m,hn,hl⟩:=id I.loc
 refine ⟨I.ok,I.os,I.bare,⟨fun b o e n hb hx=>?_,fun b o e n hb hx=>?_,I.base.free,fun b o e hx=>?_,I.base.tups,I.base.frzs,I.base.tbls⟩,⟨m,?_,fun i x v e1 e2 e3=>?_⟩,fun x c e=>?_,I.free,I.freeC,fun p hp=>?_,fun b u e=>?_,I.len⟩
 ·exact keep b o (I.base.keep b o e n hb hx) (nch0 b o e) (nst b o e hb)
 ·obtain ⟨sl,e1⟩:=I.base.slot b o e n hb hx
  obtain ⟨sl',e2⟩:=up b _ e1 (nch0 b o e)
  exact ⟨sl',e2⟩
 ·obtain ⟨o',e1⟩:=I.base.there b o e hx
  obtain ⟨sl,e2⟩:=up b o' e1 (nch0 b o e)
  exact ⟨_,e2⟩
 ·obtain ⟨o,es,ep,ho,hd,r⟩:=hn
  obtain ⟨sl,e2⟩:=up _ o ho (nchF _ o ho fun vs z=>by rw [hd] at z;cases z)
  exact ⟨_,es,ep,e2,hd,r⟩
 ·obtain ⟨u,r,l⟩:=hl i x v e1 e2 e3
  refine ⟨u,r,?_⟩
  rcases l with l | ⟨k,c,e,o,ho,hd⟩
  ·exact .inl l
  ·obtain ⟨sl,e2⟩:=up c o ho (nchF c o ho fun vs z=>by rw [hd] at z;cases z)
   exact .inr ⟨k,c,e,_,e2,hd⟩
 ·obtain ⟨v,o,ho,hd⟩:=I.cell x c e
  obtain ⟨sl,e2⟩:=up c o ho (nchF c o ho fun vs z=>by rw [hd] at z;cases z)
  exact ⟨v,_,e2,hd⟩
 ·obtain ⟨e,n,ne,nf,d⟩:=I.pin p hp
  refine ⟨keep p.1 p.2 e (fun hb=>(hch _ hb).1.2.2 p (by simpa using hp) rfl) (fun hs=>?_),n,ne,nf,d⟩
  rcases aU.mp (I.jn _ hs) with z | z
  ·exact ne z
  ·exact nf z
 ·refine (I.hok b u e).p_ (fun c v hc q=>keep c v q (fun hb=>?_) (fun hs=>?_)) (fun _ q=>q) fun _ _ q=>q
  ·have z:=(hch c hb).1.2.1
   rcases hc with hc | hc
   ·rw [hc,e] at z;cases z
   ·rw [hc] at z;cases z
  ·have z:=I.mX c hs
   rcases hc with hc | hc
   ·rw [hc,e] at z;cases z
   ·rw [hc] at z;cases z
end
def IsX (o:Obj):Value→Prop
 | .int d A=>o.cls=.ref A∧o.dict=some d.toNat
 | C=>o.cls=C
def wB (X:Cx) (H:Hp) (h:Heap) (x:Addr) (C:Value) (fl:Option Value):Prop :=
 Yg X H x∧∃oe vs a0,h.get? x=some oe∧IsX oe C∧oe.data=.fields vs∧vs[0]?=some a0 ∧
  match fl with
  | none=>vs[1]?=some .none
  | some v=>∃T oT ts,vs[1]?=some (.ref T)∧T≠x∧Yg X H T∧h.get? T=some oT∧oT.data=.fields ts∧ts[3]?=some v
theorem kd {h base base':Heap}:∀{l:List Env},h.FunFrames base l→(∀b∈frs l,base'.get? b=none)→h.FunFrames base' l
 | [],_,_=>trivial
 | env::r,hl,hb=>by
  obtain ⟨hk,⟨L,o,hf,hn,ho,hd⟩,hr⟩:=hl
  have e:frs (env::r)=L::frs r:=by unfold frs;rw [List.filterMap_cons,hf]
  exact ⟨hk,⟨L,o,hf,hb L (by rw [e];exact aP),ho,hd⟩,kd hr fun b z=>hb b (by rw [e];exact aO _ z)⟩
section
variable {X:Cx} {σ:St} {H:Hp} {s:Shared} {M:Model} {A:Around} {E:Value→Shared→Prop} {x:Addr} {C:Value}
theorem i_ {v:Value} {fr:Option Addr} {Q:Unit→Shared→Prop} (I:Inv X [] σ H s) (F:wB X H s.heap x C (some v))
  (k:∀s',Inv X [] σ H s'→wB X H s'.heap x C (some (fr.elim .none fun f=>rawInt f))→Q () s'):wpAny M A (setFlight (.ref x) fr) Q E s:=by
 obtain ⟨y,oe,vs,a0,e,c,d,v0,T,oT,ts,r1,r2,r3,r4,r5,r6⟩:=F
 have hz:3<ts.size:=(Array.getElem?_eq_some_iff.mp r6).1
 unfold setFlight
 refine wpAny_bind (wpAny_field e d r1 ?_)
 rw [if_pos (show (Value.ref T != Value.none)=true from by simp)]
 have other:∀b,b≠T→∀z:Value,(s.heap.update T (Obj.mapFields (·.setIfInBounds 3 z))).get? b=s.heap.get? b:=fun b hb z=>Heap.get?_update_other _ _ (Ne.symm hb)
 have there:=fun z:Value=>bC (Obj.mapFields (·.setIfInBounds 3 z)) r4 (Obj.isFreed_of_fields (Obj.data_mapFields r5 _))
 refine wpAny_setField r4 r5 hz (k _ (I.xE (ch:=[T]) (fun b hb=>?_) (fun b o eb hb _=>?_) fun b o eb hb=>?_) ?_)
 ·have z:b=T:=by simpa using hb
  rw [z];exact ⟨r3,oT,ts,r4,r5⟩
 ·rw [other b (fun z=>hb (by simp [z]))];exact eb
 ·refine ⟨o.slots,?_⟩
  rw [other b ?_]
  ·exact eb
  ·intro z
   obtain ⟨_,o',eo,hd⟩:=I.stack.mem hb
   rw [z,r4] at eo;cases eo
   exact hd ts r5
 ·refine ⟨y,oe,vs,a0,by rw [other x (Ne.symm r2)];exact e,c,d,v0,T,_,_,r1,r2,r3,there _,Obj.data_mapFields r5 _,?_⟩
  simp [hz]
def ua (s:Shared) (l:List Addr):Heap:=PySem.W.hideAll s.heap l
theorem IsX.eqv {o o':Obj} (hc:o'.cls=o.cls) (hd:o'.dict=o.dict):∀{C:Value},IsX o C→IsX o' C:=fun {C} h=>by
 cases C<;>first
  | exact ⟨hc.trans h.1,hd.trans h.2⟩
  | exact hc.trans h
structure Bh (e:Addr) (oe tb:Obj) (vs:Array Value) (h h':Heap):Prop where
 new:h'.get? h.objs.size=some tb
 rest:∀b o,b≠e→h.get? b=some o→h'.get? b=some o
 at_:∃o',h'.get? e=some o'∧o'.cls=oe.cls∧o'.dict=oe.dict∧o'.data=.fields (vs.setIfInBounds 1 (.ref h.objs.size))
theorem Bh.mk' {e:Addr} {oe tb:Obj} {vs:Array Value} {h:Heap} (he:h.get? e=some oe) (hd:oe.data=.fields vs) (ht:tb.isFreed=false):Bh e oe tb vs h ((h.push tb).update e (Obj.mapFields (·.setIfInBounds 1 (.ref h.objs.size)))):=by
 obtain ⟨c,d,x,sl⟩:=oe
 cases hd
 have ne:=bz (aW he)
 exact ⟨aA _ ne (bo _ ht),fun b o hb q=>aA _ (Ne.symm hb) (ao _ q),_,bC _ (ao _ he) rfl,rfl,rfl,rfl⟩
theorem uQ {base:Heap} {env:Env} {outer:List Env} {L e:Addr} {oe:Obj} {vs:Array Value} {head a0:Value} {hadNext:Bool} {Q:Unit→Shared→Prop} (hfr:A.frames=some (env::outer)) (hl:s.heap.FunFrames base (env::outer)) (hf:env.frame=some L) (he:s.heap.get? e=some oe) (hkb:base.StaysIn s.heap) (hen:base.get? e=none) (hd:oe.data=.fields vs) (hsz:1<vs.size) (h0:vs[0]?=some a0)
  (h:∀h',Heap.NotedW base (env::outer) e oe.cls a0 (rawInt L) s.heap h'→(∃o',h'.get? e=some o'∧o'.dict=oe.dict)→Q () {s with heap:=h'}):wpAny M A (do let a ←frameOf env;let pl ←entryPlaceOf L hadNext;let b ←EntryCells.newEntry head a .none (rawInt L) .none pl;setField (.ref e) 1 b) Q E s:=by
 have plain:∀{b:Addr} {o:Obj},s.heap.get? b=some o→(∀ws,o.data≠.fields ws)→b≠e:=fun q n z=>by cases (z▸q).symm.trans he;exact n vs hd
 have apart:e∉(env::outer).filterMap (·.frame):=fun m=>let ⟨_,_,q,n⟩:=hl.mem m;plain q n rfl
 refine wpAny_bind (wpAny_frameOf_fun hfr hl hf fun hp S=>wpAny_bind (wpAny_entryPlaceOf fun pl place=>wpAny_bind (wpAny_newObj_type ?_ (place.sizeOk5 _ _ _ _ _))))
 have there:=(S.2.1 e apart).trans he
 have low:base.StaysIn hp:=fun b o q=>(S.2.1 b fun m=>nomatch (hl.mem m).1.symm.trans q).trans (hkb b o q)
 refine wpAny_setField (ao _ there) hd hsz ?_
 have U:=Bh.mk' (tb:=⟨.type "traceback",none,.fields ([head,.ref L,.none,rawInt L,.none]++(if pl.isEmpty then au 6 Value.none else pl)).toArray,#[]⟩) there hd rfl
 obtain ⟨o',q1,q2,q3,q4⟩:=U.at_
 have kept:∀b o,s.heap.get? b=some o→(∀ws,o.data≠.fields ws)→∃sl,_:=fun b o q n=>let ⟨sl,z⟩:=S.2.2 b o q;⟨sl,U.rest b _ (plain q n) z⟩
 refine h _ ⟨fun b o q=>U.rest b o (fun z=>nomatch (z▸hen).symm.trans q) (low b o q),hl.of_keeps fun b o q n=>let ⟨_,z⟩:=kept b o q n;⟨_,z,rfl⟩,⟨o',_,hp.objs.size,_,_,q1,⟨q2,?_⟩,q4,?_,low.fresh,(bz (aW there)).symm,U.new,rfl,?_⟩,kept⟩ ⟨o',q1,q3⟩
 ·rw [Array.getElem?_setIfInBounds_ne (by decide),h0]
 ·rw [Array.getElem?_setIfInBounds_self_of_lt hsz]
 ·rw [List.getElem?_toArray];rfl
theorem oj {v:Value} {h':Heap} {l ch:List Addr} {a0:Value} {ox:Obj} (I:Inv X [] σ H s) (hex:X.ex=[]) (y:Yg X H x) (hx:x∈ch) (hl:l=ch++frs X.stack) (iX:IsX ox C)
  (hch:∀b∈ch,Yg X H b∧∃o vs,s.heap.get? b=some o∧o.data=.fields vs) (N:Heap.NotedW (ua s l) X.stack x ox.cls a0 v s.heap h') (hdc:∃o',h'.get? x=some o'∧o'.dict=ox.dict) :
  Inv X [] σ H {s with heap:=h'}∧wB X H h' x C (some v):=by
 obtain ⟨n1,n2,n3,n4⟩:=N
 subst hl
 have frd:∀b o,s.heap.get? b=some o→b∈frs X.stack→∀vs,o.data≠.fields vs:=fun b o e hb=>by
  obtain ⟨_,o',eo,hd⟩:=I.stack.mem hb
  rw [e] at eo;cases eo
  exact hd
 refine ⟨I.xE (ch:=ch) hch (fun b o e hb hs=>n1 b o (PySem.W.hideAll_get _ e fun z=>(aM.mp z).elim hb hs)) (fun b o e hb=>n4 b o e (frd b o e hb)),y,?_⟩
 obtain ⟨oe,vs,T,oT,ts,e,⟨c,v0⟩,d,r1,r2,r3,r4,r5,r6⟩:=n3
 obtain ⟨o',eo',dd⟩:=hdc
 rw [e] at eo';cases eo'
 refine ⟨oe,vs,a0,e,IsX.eqv c dd iX,d,v0,T,oT,ts,r1,r3,?_,r4,r5,r6⟩
 cases q:s.heap.get? T with
 | none=>exact I.young hex q
 | some o =>
  by_cases hT:T∈ch
  ·exact (hch T hT).1
  ·by_cases hf:T∈frs X.stack
   ·exfalso
    obtain ⟨sl,z⟩:=n4 T o q (frd T o q hf)
    rw [r4] at z;cases z
    exact frd T o q hf ts r5
   ·have:=PySem.W.hideAll_get (ch++frs X.stack) q fun z=>(aM.mp z).elim hT hf
    rw [show PySem.W.hideAll s.heap (ch++frs X.stack)=ua s (ch++frs X.stack) from rfl,r2] at this;cases this
theorem nc {fl:Option Value} {L:Addr} {Q:Unit→Shared→Prop} (I:Inv X [] σ H s) (hex:X.ex=[]) (hfr:A.frames=some X.stack) (hst:X.stack=X.env::X.outer) (hL:X.env.frame=some L)
  (F:wB X H s.heap x C fl) (hfl:fl=none∨fl=some .none∨fl=some (rawInt L))
  (k:∀s',Inv X [] σ H s'→wB X H s'.heap x C (some (rawInt L))→Q () s'):wpAny M A (noteFrame (.ref x) X.env) Q E s:=by
 have hidS:∀l,(ua s l).StaysIn s.heap:=fun l b o e=>PySem.W.of_hideAll l e
 have hidN:∀l b,b∈l→(ua s l).get? b=none:=fun l b hb=>PySem.W.hideAll_none l hb
 have hidF:∀ch,s.heap.FunFrames (ua s (ch++frs X.stack)) X.stack:=fun ch=>kd I.stack fun b hb=>hidN _ b (aG _ hb)
 obtain ⟨y,oe,vs,a0,e,c,d,v0,r⟩:=id F
 rcases hfl with rfl | rfl | rfl
 ·have hch:∀b∈[x],Yg X H b∧∃o vs,s.heap.get? b=some o∧o.data=.fields vs:=fun b hb=>by
   have z:b=x:=by simpa using hb
   rw [z];exact ⟨y,oe,vs,e,d⟩
  have r':vs[1]?=some Value.none:=r
  unfold noteFrame
  simp only [hL]
  refine wpAny_bind (wpAny_field e d r' ?_)
  rw [if_neg (by decide)]
  refine uQ (base:=ua s ([x]++frs X.stack)) (outer:=X.outer) (by rw [hfr,hst]) (by rw [←hst];exact hidF [x]) hL e (hidS _) (hidN _ x (by simp)) d (Array.getElem?_eq_some_iff.mp r').1 v0 fun h' N hdc=>?_
  rw [←hst] at N
  obtain ⟨I',F'⟩:=oj I hex y (by simp) rfl c hch N hdc
  exact k _ I' F'
 ·obtain ⟨T,oT,ts,r1,r2,r3,r4,r5,r6⟩:=id r
  have hch:∀b∈[x,T],Yg X H b∧∃o vs,s.heap.get? b=some o∧o.data=.fields vs:=fun b hb=>by
   have z:b=x∨b=T:=by simpa using hb
   rcases z with z | z
   ·rw [z];exact ⟨y,oe,vs,e,d⟩
   ·rw [z];exact ⟨r3,oT,ts,r4,r5⟩
  unfold noteFrame
  simp only [hL]
  refine wpAny_bind (wpAny_field e d r1 ?_)
  rw [if_pos (show (Value.ref T != Value.none)=true from by simp)];refine wpAny_bind (wpAny_field r4 r5 r6 ?_)
  rw [if_neg (show ¬((Value.none==rawInt L)=true) from by simp [rawInt])];refine wpAny_bind (wpAny_setField r4 r5 (Array.getElem?_eq_some_iff.mp r6).1 ?_)
  have oth:∀b,b≠T→(s.heap.update T (Obj.mapFields (·.setIfInBounds 3 Value.none))).get? b=s.heap.get? b:=fun b hb=>Heap.get?_update_other _ _ (Ne.symm hb)
  have nrec:∀b o,s.heap.get? b=some o→(∀vs,o.data≠.fields vs)→b≠T:=fun b o hb hnf q=>by
   rw [q,r4] at hb;cases hb;exact hnf ts r5
  have qU:(ua s ([x,T]++frs X.stack)).get? T=none:=hidN _ T (by simp)
  refine uQ (s:={s with heap:=s.heap.update T (Obj.mapFields (·.setIfInBounds 3 Value.none))}) (base:=ua s ([x,T]++frs X.stack)) (outer:=X.outer) (by rw [hfr,hst]) (by rw [←hst];exact (hidF [x,T]).of_keeps fun b o hb hnf=>⟨o,(oth b (nrec b o hb hnf)).trans hb,rfl⟩) hL ((oth x (Ne.symm r2)).trans e)
   (fun b o hbo=>(oth b fun q=>by rw [q,qU] at hbo;cases hbo).trans (hidS _ b o hbo)) (hidN _ x (by simp)) d (Array.getElem?_eq_some_iff.mp r1).1 v0 fun h' N hdc=>?_
  rw [←hst] at N
  obtain ⟨x1,x2,x3,x4⟩:=N
  obtain ⟨I',F'⟩:=oj I hex y (by simp) rfl c hch ⟨x1,x2,x3,fun b o hb hnf=>x4 b o ((oth b (nrec b o hb hnf)).trans hb) hnf⟩ hdc
  exact k _ I' F'
 ·obtain ⟨T,oT,ts,r1,r2,r3,r4,r5,r6⟩:=id r
  refine wpAny_noteFrame_againW (base:=ua s ([x,T]++frs X.stack)) (cls:=oe.cls) (a0:=a0) hL ?_ (k s I F)
  exact ⟨oe,vs,T,oT,ts,e,⟨rfl,v0⟩,d,r1,hidN _ T (by simp),r2,r4,r5,r6⟩
end
def kj (X:Cx) (Ex:St→Value→Hp→Prop):Value→Shared→Prop:=fun e s' =>
 ∃(x:Addr) (C:Value) (fl:Option Value) (σ:St) (H:Hp),e=.ref x∧Inv X [] σ H s'∧wB X H s'.heap x C fl∧(fl=none∨fl=some .none∨fl=some (rawInt X.env.locals))∧Ex σ C H
def CXE (P:Program) (w:World):CXT:=fun outer H s E e s' =>
 ∃(x:Addr) (C:Value) (H':Hp),e=.ref x∧s'.os=s.os∧AllBare s'.gens∧Un (frs outer) [] H H' s.heap s'.heap∧HOk P w H' s'.heap∧s.heap.get? x=none∧H' x=none ∧
  (∃oe vs a0 T oT ts,s'.heap.get? x=some oe∧IsX oe C∧oe.data=.fields vs∧vs[0]?=some a0∧vs[1]?=some (.ref T)∧T≠x∧s.heap.get? T=none∧H' T=none∧s'.heap.get? T=some oT∧oT.data=.fields ts∧ts[3]?=some .none) ∧
  E C none H'
structure Body (X:Cx):Prop where
 ex:X.ex=[]
 st:X.stack=X.env::X.outer
 fr:X.env.frame=some X.env.locals
section
variable {X:Cx} {Ex:St→Value→Hp→Prop}
theorem pj (B:Body X) {A:Around} (hfr:A.frames=some X.stack):∀e s',kj X Ex e s'→notedBy (model X.prog X.w) A X.env (cameBackBy (model X.prog X.w) A X.env (kj X Ex)) e s':=by
 rintro e s' ⟨x,C,fl,σ,H,rfl,I,F,hfl,q⟩
 refine nc (L:=X.env.locals) I B.ex hfr B.st B.fr F hfl fun s1 I1 F1=>?_
 obtain ⟨y,oe,vs,a0,e1,c,d,v0,T,oT,ts,r1,r2,r3,r4,r5,r6⟩:=id F1
 refine wpAny_bind (wpAny_field e1 d r1 ?_)
 rw [if_neg (by simp)]
 refine i_ I1 F1 fun s2 I2 F2=>⟨x,C,_,σ,H,rfl,I2,F2,.inr (.inr ?_),q⟩
 rw [B.fr];rfl
theorem zT (B:Body X) (ok:X.A.frames=some X.stack):PassesOwn (model (X.iI (kj X Ex)).prog (X.iI (kj X Ex)).w) (X.iI (kj X Ex)).A (X.iI (kj X Ex)).env (X.iI (kj X Ex)).xe:=fun e s' h=>pj B ok e s' h
theorem PSs.more {E1:Value→Shared→Prop} {st:List Stmt} {t:TS} (h:PSs (X.iI E1) st t) (hE:∀e s,E1 e s→X.xe e s):PSs X st t:=fun pins s σ H D I hw =>
 wpAny_mono (h pins s σ H D (I.iI _) hw) (fun _ _ q=>q.fU) fun e s z=>hE e s z
end
theorem pw {P:Program} {w:World} {K:ai} {mg:Str→Option Value} {base:Heap} {N:List Str} {qual:Str} {scope:Scope} {f:Addr} {cd:Value} {A:Around} {outer:List Env} {s:Shared} {H:Hp} {E:XK}
  (B:Body (pH (CXE P w) P w K mg base N qual scope f cd A outer s H E)):∀e s',kj (pH (CXE P w) P w K mg base N qual scope f cd A outer s H E) (fun _ C H'=>E C none H') e s'→(pH (CXE P w) P w K mg base N qual scope f cd A outer s H E).xe e s':=by
 rintro e s' ⟨x,C,fl,σ,H1,rfl,I,F,hfl,q⟩
 show wpAny _ _ (leaving _ _) _ _ s'
 unfold leaving
 refine wpAny_bind (nc I B.ex I.ok.frames B.st B.fr F hfl fun s1 I1 F1=>?_)
 refine i_ I1 F1 fun s2 I2 F2=>?_
 obtain ⟨y,oe,vs,a0,e1,c,d,v0,T,oT,ts,r1,r2,r3,r4,r5,r6⟩:=id F2
 exact ⟨x,C,H1,rfl,I2.os,I2.bare,I2.base,I2.hok,y.1,y.2.1,⟨oe,vs,a0,T,oT,ts,e1,c,d,v0,r1,r2,r3.1,r3.2.1,r4,r5,r6⟩,q⟩
section
variable {P:Program} {w:World} {K:ai} {mg:Str→Option Value} {base:Heap}
abbrev cxE (P:Program) (w:World) (K:ai) (mg:Str→Option Value) (base:Heap) (N:List Str) (qual:Str) (scope:Scope) (f:Addr) (cd:Value) (A:Around) (outer:List Env) (s:Shared) (H:Hp) (E:XK):Cx :=
 (pH (CXE P w) P w K mg base N qual scope f cd A outer s H E).iI (kj (pH (CXE P w) P w K mg base N qual scope f cd A outer s H E) (fun _ C H'=>E C none H'))
theorem Fun.okE {x qual:Str} {st:Stmt} {f:Addr} {fd:FuncData} {N ps:List Str} {k:Nat} {sp:Sp} (F:Fun K x qual st f fd) (S:bY N ps (az st)) (len:∀vs H Q E,sp vs H Q E→vs.length=ps.length)
  (hbody:∀(cdv:Value) (A:Around) (outer:List Env) (s:Shared) (H:Hp) (vs:List V) (Q:VK) (E:XK),iT k (A.deeper (envOfC qual (az st) s.heap.objs.size f cdv))→sp vs H Q E →
   ∃t,PSs (cxE P w K mg base N qual (az st) f cdv A outer s H E) (bR st) t∧t {nx:=fun _ H'=>Q .non H',rt:=Q} (start N vs) H):fH P w K mg base (CXE P w) (k+1) f fd ps sp:=by
 obtain ⟨oc,od,kV,doc,pm,an,cdv,ct,osl,rfl,lk,hcd⟩:=F.ex
 refine xS lk hcd S len fun A outer s H vs Q E hr hsp=>?_
 obtain ⟨t,h,q⟩:=hbody cdv A outer s H vs Q E hr hsp
 exact ⟨t,h.more (pw ⟨rfl,rfl,rfl⟩),q⟩
theorem sf {N:List Str} {qual:Str} {scope:Scope} {f:Addr} {cd:Value} {A:Around} {outer:List Env} {s:Shared} {H:Hp} {E:XK}:Body (pH (CXE P w) P w K mg base N qual scope f cd A outer s H E):=⟨rfl,rfl,rfl⟩
end
section
variable {X:Cx} {Ex:St→Value→Hp→Prop}
theorem jO {tg iter:Expr} {body:List Stmt} {wi:TI} {g:TG} {tb:TS} {pos:Pos} (B:Body X) (hc:X.calm=true) (hi:PI (X.iI (kj X Ex)) tg iter wi) (hg:PG (X.iI (kj X Ex)) tg g) (hb:PSs (X.iI (kj X Ex)) body tb)
  (hs:∀x,foldedSetIterable iter X.env x=pure x:=by intro _;rfl):PS (X.iI (kj X Ex)) (.For tg iter body [] pos) (Bl wi g tb):=fun pins s σ H D I h =>
 gh (X:=X.iI (kj X Ex)) (zT B I.fU.ok.frames) hc hi hg hb hs pins s σ H D I h
def hX (P:Program) (w:World) (K:ai) (mg:Str→Option Value) (base:Heap) (k:Nat) (x:Str) (ps:List Str) (sp:Sp):Prop :=
 ∃f fd,fH P w K mg base (CXE P w) k f fd ps sp∧mg x=some (.ref f)∧aH K (.ref f)=true∧Binds K fd ps []
theorem hX.of {P:Program} {w:World} {K:ai} {mg:Str→Option Value} {base:Heap} {k:Nat} {x qual:Str} {ps:List Str} {sp:Sp} {st:Stmt} {f:Addr} {fd:FuncData}
  (F:Fun K x qual st f fd) (m:mg x=some (.ref f)) (b:Binds K fd ps []) (ok:fH P w K mg base (CXE P w) k f fd ps sp):hX P w K mg base k x ps sp:=⟨f,fd,ok,m,F.kp,b⟩
theorem uc {pins:List (Addr×Obj)} {σ:St} {H:Hp} {s s':Shared} {e:Value} {E:XK} (hex:X.ex=[]) (I:Inv X pins σ H s) (hE:∀C H',E C none H'→Ex σ C H') (h:CXE X.prog X.w X.stack H s E e s'):kj X Ex e s':=by
 obtain ⟨x,C,H',rfl,os,bare,un,hok,nx,hx,⟨oe,vs,a0,T,oT,ts,e1,c,d,v0,v1,nT,sT,hT,eT,dT,t3⟩,q⟩:=h
 have y:=I.young hex nx
 have z:=I.young hex sT
 exact ⟨x,C,some .none,σ,H',rfl,I.yc.r_ (ch:=[]) os un hok bare (fun b hb=>nomatch hb),⟨⟨y.1,hx,y.2.2⟩,oe,vs,a0,e1,c,d,v0,T,oT,ts,v1,nT,⟨z.1,hT,z.2.2⟩,eT,dT,t3⟩,.inr (.inl rfl),hE _ _ q⟩
theorem vf {k:Nat} {f:Addr} {fd:FuncData} {ps:List Str} {sp:Sp} {pins:List (Addr×Obj)} {σ:St} {H:Hp} {s:Shared} {Q:VK} {us:List Value} {vs:List V} (F:fH X.prog X.w X.K X.mg X.base (CXE X.prog X.w) k f fd ps sp) (hr:iT k X.A) (hb:Binds X.K fd ps [])
  (hex:X.ex=[]) (I:Inv X pins σ H s) (r:Vals vs us) (h:sp vs H Q fun C _ H'=>Ex σ C H'):wpAny (model X.prog X.w) X.A (call (.ref f) us) (EP (X.iI (kj X Ex)) pins σ Q) (kj X Ex) s:=by
 have hl:(us++[]).length=ps.length:=by rw [bB,←r.length];exact F.len _ _ _ _ h
 have bt:=hb s us I.kIn hl
 rw [bB] at bt
 refine wpAny_call (codeAny_mono (F.run X.A X.stack s H ⟨us,[]⟩ us vs Q _ hr I.yF bt r h) fun r s' hq=>?_)
 cases r with
 | error e=>exact uc (E:=fun C _ H'=>Ex σ C H') hex I (fun _ _ z=>z) hq
 | ok fl =>
  cases fl with
  | ret u =>
   obtain ⟨v,H',I',rv,q⟩:=I.after hq
   exact ⟨v,H',I'.iI _,rv,q⟩
  | next=>exact False.elim hq
  | brk=>exact False.elim hq
  | cont=>exact False.elim hq
def wY (sp:Sp) (Ex:St→Value→Hp→Prop) (t:TA):TE:=fun σ H Q=>t σ H fun vs H1=>sp vs H1 Q fun C _ H'=>Ex σ C H'
theorem fi {k k':Nat} {x:Str} {ps:List Str} {sp:Sp} {e:Expr} {es:List Expr} {t:TA} {p pos:Pos} (D:hX X.prog X.w X.K X.mg X.base k x ps sp) (hr:iT k' X.A) (hex:X.ex=[]) (hg:Gl X x) (ha:PA (X.iI (kj X Ex)) (e::es) t) (hk:k≤k':=by decide)
  (hdb:(x==("__debug__":Str))=false:=by decide) (he:starEach (e::es) X.env=(false,eval e X.env)::starEach es X.env:=by rfl) (hpl:(backTo pos (starEach es X.env)).any (·.1)=false:=by rfl) :
  PE (X.iI (kj X Ex)) (.Call (.Name x p) (e::es) [] pos) (wY sp Ex t):=by
 obtain ⟨f,fd,F,m,kp,b⟩:=D
 intro pins s σ H Q I h
 refine wpAny_Call_Name_kw (iS I hg m ?_ hdb)
 refine PySem.W.callWith_K (h₀:=X.base) I.ok.mod.kin kp (thn (ha pos pins s σ H _ I h) fun us s1 ⟨vs,H1,I1,r,q⟩=>⟨I1.kIn,?_⟩) he hpl
 exact vf F (hr.mono hk) b hex I1.fU r q
end
end L2
namespace L2
open PySem PySem.Spec PyProof.Rows
abbrev uU:List Value:=[.type "ValueError",.type "Exception",.type "BaseException",.type "object"]
def ki (K:ai) (C:Addr):Prop:=fD K C uU "ValueError.__new__"=true
theorem ki.obj {K:ai} {C:Addr} (q:ki K C) {h:Heap} (X:K.In h):∃bm N nm qn bs hd sn sub ab col dd k0 k1 k2 k3 k5 mN,
  h.get? C=some (excClassObj nm qn C N bs bm hd sn sub ab col dd k0 k1 k2 k3 k5 "ValueError.__new__")∧h.Ns N mN∧mN "__init__"=none∧OwnTail h uU bm∧dH K C=fun b=>some ((Value.ref C::bm).contains b):=by
 unfold ki fD at q
 split at q
 ·next dct cd sl look =>
  split at q
  ·next C' tl s0 s1 s2 s3 nn s5 em es =>
   simp only [cC,beq_iff_eq,eU] at q
   obtain ⟨⟨⟨⟨⟨e1,e2⟩,e3⟩,e4⟩,e5⟩,e6⟩:=q
   subst e1;subst e2
   have hc:PySem.W.clsIn K C'=some cd:=by unfold PySem.W.clsIn;rw [look]
   have hm:dH K C'=fun b=>some ((Value.ref C'::tl).contains b):=by
    funext b
    unfold dH
    rw [hc,Option.bind_some,em]
    rfl
   obtain ⟨z1,z2,z3,z4,z5,z6,z7,z8,z9,z10,z11⟩:=cd
   dsimp only at em e3 e5 e6
   subst em;subst e3
   obtain ⟨ll⟩:=sl
   simp only at es
   subst es
   exact ⟨tl,_,_,_,_,_,_,_,_,_,_,_,_,_,_,_,_,X _ _ look,.of_isNs (PySem.W.isNs_of_in X e5),PySem.W.nsMap_none_of_in X e5 e6,PySem.W.tail_of_in X e4,hm⟩
  ·cases q
 ·cases q
def uj (x:Addr) (C:Value):Heap→Prop:=fun h=>∃o vs,h.get? x=some o∧IsX o C∧o.data=.fields vs
section
variable {X:Cx} {Ex:St→Value→Hp→Prop}
def wQ (C:Addr) (Ex:St→Value→Hp→Prop) (ta:TA):TS:=fun _ σ H=>ta σ H fun vs H1=>vs.length≤sizeLine∧Ex σ (.ref C) H1
theorem fO {x:Str} {C:Addr} {e:Expr} {es:List Expr} {ta:TA} {np cpos pos:Pos} (hc:X.calm=true) (hex:X.ex=[]) (hg:Gl X x) (hm:X.mg x=some (.ref C)) (q:ki X.K C) (ha:PA (X.iI (kj X Ex)) (e::es) ta)
  (hd:(x==("__debug__":Str))=false:=by decide) (he:starEach (e::es) X.env=(false,eval e X.env)::starEach es X.env:=by rfl) (hpl:(backTo cpos (starEach es X.env)).any (·.1)=false:=by rfl) :
  PS (X.iI (kj X Ex)) (.Raise (some (.Call (.Name x np) (e::es) [] cpos)) none pos) (wQ C Ex ta):=by
 intro pins s σ H D I h
 obtain ⟨bm,N,nm,qn,bs,hdd,sn,sub,ab,col,dd,k0,k1,k2,k3,k5,mN,hC,hN,hni,TL,_⟩:=q.obj I.ok.mod.kin
 refine wpAny_Raise_call_subU (C:=C) (nm:=nm) (q:=qn) (N:=N) (bs:=bs) (bm:=bm) (hdct:=hdd) (sn:=sn) (sub:=sub) (ab:=ab) (col:=col) (dd:=dd) (k0:=k0) (k1:=k1) (k2:=k2) (k3:=k3) (k5:=k5)
  PySem.F.excBase_ValueError (by decide +kernel) PySem.F.excBase_ValueError (mN:=mN) (TL.hasType PySem.F.excBase_ValueError.hasBase) (I.ok.hd hc) ?_ hni (iS I hg hm ⟨rfl,?_⟩ hd)
 ·show (backTo cpos (starEach (e::es) X.env)).any (·.1)=false
  rw [he]
  show (false||(backTo cpos (starEach es X.env)).any (·.1))=false
  rw [hpl];rfl
 ·have ha':=ha cpos pins s σ H _ I h
  rw [show (X.iI (kj X Ex)).env=X.env from rfl] at ha' ⊢
  rw [he] at ha' ⊢
  refine Calls.evalArgs_plain (thn ha' fun us s2 ⟨vs,H1,I2,r,z,qx⟩=>⟨rfl,by rw [←r.length];exact z,I2.bk _ _ hC,hN.keeps I2.bk,TL.keeps I2.bk,fun h' x' mk=>?_⟩)
  have I3:=I2.fU.yc
  obtain ⟨t,et,_,_⟩:=mk.there
  exact ⟨x',.ref C,none,σ,H1,rfl,I3.kept (t':=s2.toks) mk.keeps,⟨I3.young hex mk.new,_,_,_,et,rfl,rfl,rfl,rfl⟩,.inl rfl,qx⟩
end
end L2
namespace L2
open PySem PySem.Spec PyProof.Rows
section
variable {X:Cx} {σ:St} {H:Hp} {s:Shared}
theorem Inv.yI {pins:List (Addr×Obj)} {x:Addr} {φ:Heap→Prop} (I:Inv X pins σ H s) (y:Yg X H x) (hp:∀p∈pins,p.1≠x) (ho:∃o vs,s.heap.get? x=some o∧o.data=.fields vs) (p:φ s.heap)
  (st:∀h1 h2:Heap,φ h1→(∀o,h1.get? x=some o→h2.get? x=some o)→φ h2):Inv X pins σ (upd H x (.ext φ)) s:=by
 obtain ⟨o,vs,eo,ed⟩:=ho
 have nH:∀b u,H b=some u→b≠x:=fun b u e z=>by rw [z,y.2.1] at e;cases e
 have n0:∀b u,X.s₀.heap.get? b=some u→b≠x:=fun b u e z=>by rw [z,y.1] at e;cases e
 refine ⟨I.ok,I.os,I.bare,⟨I.base.keep,I.base.slot,fun b u e n hx=>by rw [bS (n0 b u e)];exact I.base.free b u e n hx,I.base.there,fun b xs e=>?_,fun b u xs e=>?_,fun b ps e=>?_⟩,I.loc,I.cell,?_,fun n c e=>?_,fun q hq=>?_,fun b u e=>?_,I.len⟩
 ·have:=I.base.tups b xs e;rw [bS (nH b _ this)];exact this
 ·have:=I.base.frzs b u xs e;rw [bS (nH b _ this)];exact this
 ·obtain ⟨m,this⟩:=I.base.tbls b ps e;exact ⟨m,by rw [bS (nH b _ this)];exact this⟩
 ·obtain ⟨m,⟨ol,_,_,el,dl,_⟩,_⟩:=I.loc
  rw [bS fun z=>by rw [z,eo] at el;cases el;rw [ed] at dl;cases dl];exact I.free
 ·obtain ⟨v,oc,ec,dc⟩:=I.cell n c e
  rw [bS fun z=>by rw [z,eo] at ec;cases ec;rw [ed] at dc;cases dc];exact I.freeC n c e
 ·obtain ⟨q1,q2,q3⟩:=I.pin q hq
  have:q.1≠x:=(aM.mp hq).elim (y.2.2 q) (hp q)
  exact ⟨q1,by rw [bS this];exact q2,q3⟩
 ·by_cases hb:b=x
  ·subst hb
   rw [aq] at e;cases e
   exact ⟨p,⟨o,eo⟩,st⟩
  ·rw [bS hb] at e
   exact (I.hok b u e).p_ (fun _ _ _ q=>q) (fun c q=>by rw [bS (nH c _ q)];exact q) fun c xs q=>by rw [bS (nH c _ q)];exact q
end
section
variable {M:Model} {A:Around} {E:Value→Shared→Prop} {nm q nm' q':Str} {C N C' N':Addr} {bs bm bs' bm':List Value} {hd hd':Bool} {sn sn':List Str} {sub sub':List Value} {ab ab':Bool} {col col':Option Bool} {dd dd':Option Addr}
 {k0 k1 k2 k3 k5 l0 l1 l2 l3 l5:Option Value} {newId newId':String}
theorem nu {h:Heap} {g:Array GenState} {d:Drawn} {t:Nat} {os:OsState} {e:Addr} {oe:Obj} {Q:Bool→Shared→Prop} (hC:h.get? C=some (excClassObj nm q C N bs bm hd sn sub ab col dd k0 k1 k2 k3 k5 newId))
  (hF:h.get? C'=some (excClassObj nm' q' C' N' bs' bm' hd' sn' sub' ab' col' dd' l0 l1 l2 l3 l5 newId')) (he:h.get? e=some oe) (hcls:oe.cls=.ref C) (hb:bm'.contains (.type "BaseException")=true)
  (hs:(Value.ref C::bm).contains (.ref C')=true) (hq:Q true ⟨h,g,d,t,os⟩):wpAny M A (excMatches (.ref e) (.ref C')) Q E ⟨h,g,d,t,os⟩:=by
 have hB:(Value.ref C'::bm').contains (.type "BaseException")=true:=by rw [List.contains_cons,hb,Bool.or_true]
 have f:=tc_notTuple
 unfold excMatches
 repeat (first | (with_reducible refine wpAny_loadPart_at he ?_;rw [hcls]) | with_reducible refine wpAny_loadPart_at hF ?_ | (with_reducible refine wpAny_isSubtype_exc hF ?_;rw [hB]) | (with_reducible refine wpAny_isSubtype_exc hC ?_;rw [hs]) | wp_step)
 exact hq
end
def BM (K:ai) (i:Nat) (CF:Addr) (tb:(St→Value→Hp→Prop)→TS) (ts:TS):TS:=fun D σ H=>∃Ex:St→Value→Hp→Prop,tb Ex D σ H∧∀σ' C H',Ex σ' C H' →
 ∃A,C=.ref A∧ki K A∧dH K A (.ref CF)=some true∧∀x,H' x=none→ts {D with nx:=fun σ2 H2=>D.nx (σ2.set i none) H2,bk:=fun σ2 H2=>D.bk (σ2.set i none) H2,ct:=fun σ2 H2=>D.ct (σ2.set i none) H2} (σ'.set i (some (.ref x))) (upd H' x (.ext (uj x C)))
section
variable {X:Cx}
theorem Inv.pn {pins:List (Addr×Obj)} {σ:St} {H:Hp} {s:Shared} (I:Inv X pins σ H s):Inv {X with pn:=X.pn++pins} [] σ H s :=
 ⟨⟨I.ok.mod,I.ok.kind,I.ok.glob,I.ok.blt,I.ok.above,I.ok.inj,I.ok.has,I.ok.cab,I.ok.hd,I.ok.frames,I.ok.stk,I.ok.exf,I.ok.bs,I.ok.bsz,I.ok.noex,I.ok.exfs,I.ok.lJ,I.ok.frf⟩,I.os,I.bare,I.base,I.loc,I.cell,I.free,I.freeC,fun p hp=>I.pin p (by simpa using hp),I.hok,I.len⟩
theorem Inv.wb {pins:List (Addr×Obj)} {σ:St} {H:Hp} {s:Shared} (I:Inv {X with pn:=X.pn++pins} [] σ H s):Inv X pins σ H s :=
 ⟨⟨I.ok.mod,I.ok.kind,I.ok.glob,I.ok.blt,I.ok.above,I.ok.inj,I.ok.has,I.ok.cab,I.ok.hd,I.ok.frames,I.ok.stk,I.ok.exf,I.ok.bs,I.ok.bsz,I.ok.noex,I.ok.exfs,I.ok.lJ,I.ok.frf⟩,I.os,I.bare,I.base,I.loc,I.cell,I.free,I.freeC,fun p hp=>I.pin p (by simpa using hp),I.hok,I.len⟩
abbrev Cx.held (X:Cx) (x:Addr):Cx:={X with A:=X.A.mark (some (.ref x)),calm:=false}
theorem Inv.held {pins:List (Addr×Obj)} {σ:St} {H:Hp} {s:Shared} (I:Inv X pins σ H s) (x:Addr):Inv (X.held x) pins σ H s :=
 ⟨⟨I.ok.mod,I.ok.kind,I.ok.glob,I.ok.blt,I.ok.above,I.ok.inj,I.ok.has,I.ok.cab,fun z=>(aV z).elim,I.ok.frames,I.ok.stk,I.ok.exf,I.ok.bs,I.ok.bsz,I.ok.noex,I.ok.exfs,I.ok.lJ,I.ok.frf⟩,I.os,I.bare,I.base,I.loc,I.cell,I.free,I.freeC,I.pin,I.hok,I.len⟩
theorem Inv.wJ {pins:List (Addr×Obj)} {σ:St} {H:Hp} {s:Shared} {x:Addr} (hd:X.calm=true→X.A.handled=none) (hf:X.A.frames=some X.stack) (I:Inv (X.held x) pins σ H s):Inv X pins σ H s :=
 ⟨⟨I.ok.mod,I.ok.kind,I.ok.glob,I.ok.blt,I.ok.above,I.ok.inj,I.ok.has,I.ok.cab,hd,hf,I.ok.stk,I.ok.exf,I.ok.bs,I.ok.bsz,I.ok.noex,I.ok.exfs,I.ok.lJ,I.ok.frf⟩,I.os,I.bare,I.base,I.loc,I.cell,I.free,I.freeC,I.pin,I.hok,I.len⟩
theorem iV {M:Model} {A:Around} {E:Value→Shared→Prop} {pins:List (Addr×Obj)} {σ:St} {H:Hp} {s:Shared} {i:Nat} {n:Str} {pos:Pos} {Q:Unit→Shared→Prop} (I:Inv X pins σ H s) (hN:X.N.Nodup) (hi:X.N[i]?=some n) (hl:X.env.scope.names.lookup n=some .local)
  (k:∀s',Inv X pins (σ.set i none) H s'→Q () s'):wpAny M A (do bindName X.env n .none;unbindBehindTheSuite X.env n pos) Q E s:=by
 obtain ⟨m,hn,hlk⟩:=id I.loc
 have hcls:(X.env.scope.kind==.class||(X.env.scope.kind==.module&&X.env.locals != X.env.globals))=false:=by rw [I.ok.kind];rfl
 have hiσ:i<σ.length:=by rw [I.len];exact (cE.mp hi).1
 refine wpAny_nameGoes_keeps hl hn hcls fun h' v hn' sb=>k _ ?_
 have ne0:∀b o,X.s₀.heap.get? b=some o→b≠X.env.locals:=fun b o e=>bz (bp (aW e) I.ok.above)
 refine ⟨I.ok,I.os,I.bare,⟨fun b o e n hb hx=>?_,fun b o e n hb hx=>?_,I.base.free,fun b o e hx=>?_,I.base.tups,I.base.frzs,I.base.tbls⟩,⟨_,hn',fun j y v' e1 e2 e3=>?_⟩,fun y c e=>?_,I.free,I.freeC,fun p hp=>?_,fun b u e=>?_,by simpa using I.len⟩
 ·exact (sb.2 b (ne0 b o e)).trans (I.base.keep b o e n hb hx)
 ·obtain ⟨sl,e1⟩:=I.base.slot b o e n hb hx
  exact ⟨sl,(sb.2 b (ne0 b o e)).trans e1⟩
 ·obtain ⟨o',e1⟩:=I.base.there b o e hx
  exact ⟨o',(sb.2 b (ne0 b o e)).trans e1⟩
 ·by_cases hj:i=j
  ·subst hj
   rw [List.getElem?_set_self hiσ] at e2
   cases e2
  ·rw [dB hj] at e2
   obtain ⟨u',r',q⟩:=hlk j y v' e1 e2 e3
   refine ⟨u',r',?_⟩
   have hne:y≠n:=fun e=>hj (lD hN hi (e▸e1))
   rcases q with ⟨k1,e⟩ | ⟨k1,c,e,z⟩
   ·exact .inl ⟨k1,by simp [hne,e]⟩
   ·exact .inr ⟨k1,c,e,z.sameBut sb (I.cne y c e)⟩
 ·obtain ⟨w',z⟩:=I.cell y c e
  exact ⟨w',z.sameBut sb (I.cne y c e)⟩
 ·obtain ⟨e,n',ne,nf,d⟩:=I.pin p hp
  exact ⟨(sb.2 p.1 ne).trans e,n',ne,nf,d⟩
 ·refine (I.hok b u e).p_ (fun c v' hc q=>(sb.2 c ?_).trans q) (fun _ q=>q) fun _ _ q=>q
  intro z
  have fr:=I.free
  rcases hc with hc | hc
  ·rw [←z,hc,e] at fr;cases fr
  ·rw [←z,hc] at fr;cases fr
theorem vk {body:List Stmt} {xn n:Str} {b₀:Stmt} {suite:List Stmt} {np hpos pos:Pos} {tb:(St→Value→Hp→Prop)→TS} {ts:TS} {i:Nat} {CF:Addr} (B:Body X) (hN:X.N.Nodup) (hi:X.N[i]?=some n) (hl:X.env.scope.names.lookup n=some .local)
  (hg:Gl X xn) (hm:X.mg xn=some (.ref CF)) (qF:ki X.K CF) (hb:∀pn Ex,PSs (({X with pn:=pn}:Cx).iI (kj {X with pn:=pn} Ex)) body (tb Ex))
  (hs:∀x,PSs ((X.held x).nox) (b₀::suite) ts) (hd:(xn==("__debug__":Str))=false:=by decide) :
  PS X (.Try body [.ExceptHandler (some (.Name xn np)) (some n) (b₀::suite) hpos] [] [] pos) (BM X.K i CF tb ts):=by
 intro pins s σ H D I h
 obtain ⟨Ex,h1,h2⟩:=h
 refine wpAny_Try_except (wpAny_mono (hb _ Ex [] s σ H D (I.pn.iI _) h1) (fun f s1 q=>?_) fun e s1 q=>?_)
 ·cases f with
  | next=>obtain ⟨σ',H',J,z⟩:=q;exact wpAny_execs_nil ⟨σ',H',J.fU.wb,z⟩
  | brk=>obtain ⟨σ',H',J,z⟩:=q;exact ⟨σ',H',J.fU.wb,z⟩
  | cont=>obtain ⟨σ',H',J,z⟩:=q;exact ⟨σ',H',J.fU.wb,z⟩
  | ret u=>obtain ⟨v,σ',H',J,r,z⟩:=q;exact ⟨v,σ',H',J.fU.wb,r,z⟩
 ·obtain ⟨x,C,fl,σ',H',rfl,J,F,hfl,q⟩:=q
  obtain ⟨A,rfl,qA,hsub,k⟩:=h2 σ' C H' q
  refine nc (X:={X with pn:=X.pn++pins}) (L:=X.env.locals) J B.ex J.ok.frames B.st B.fr F hfl fun s2 J2 F2=>i_ J2 F2 fun s3 J3 F3=>?_
  obtain ⟨bm,N,nm,qn,bs,hdd,sn,sub,ab,col,dd,k0,k1,k2,k3,k5,mN,hC,hNs,hni,TL,hmro⟩:=qA.obj J3.kIn
  obtain ⟨bm',N',nm',qn',bs',hdd',sn',sub',ab',col',dd',l0,l1,l2,l3,l5,mN',hF,_,_,TF,_⟩:=qF.obj J3.kIn
  obtain ⟨y,oe,vs,a0,e1,c1,_⟩:=id F3
  have cont:(Value.ref A::bm).contains (.ref CF)=true:=by rw [hmro] at hsub;exact Option.some.inj hsub
  refine wpAny_handleBy_cons (codeAny_handlers_test (iS (X:=X.held x) (J3.wb.held x) hg hm ?_ hd)) (by intro z;cases z)
  obtain ⟨hp3,g3,d3,t3,os3⟩:=s3
  refine nu hC hF e1 c1 (TF.hasType PySem.F.excBase_ValueError.hasBase) cont (codeAny_handlers_suite_as ?_)
  refine i_ J3 F3 fun s4 J4 F4=>?_
  obtain ⟨y4,oe4,vs4,a4,e4,c4,d4,_⟩:=id F4
  refine lT (X:=X.held x) (J4.wb.held x) hN hi (.inl hl) (v:=.ref x) rfl (fun s5 J5 hch=>?_) (.inr hl)
  have e5:s5.heap.get? x=some oe4:=by
   obtain ⟨b,sb,hb'⟩:=hch
   refine (sb.2 x ?_).trans e4
   rintro rfl
   rcases hb' with z | z
   ·obtain ⟨m,⟨ol,_,_,el,dl,_⟩,_⟩:=J4.loc
    have el':s4.heap.get? X.env.locals=some ol:=el
    rw [←z,e4] at el';cases el';rw [d4] at dl;cases dl
   ·obtain ⟨v,oc,ec,dc⟩:=J4.cell _ _ z
    rw [e4] at ec;cases ec;rw [d4] at dc;cases dc
  have J6:Inv (X.held x) pins (σ'.set i (some (.ref x))) (upd H' x (.ext (uj x (.ref A)))) s5 :=
   J5.yI ⟨y4.1,y4.2.1,fun p hp=>y4.2.2 p (aI _ hp)⟩ (fun p hp=>y4.2.2 p (aG _ hp)) ⟨oe4,vs4,e5,d4⟩ ⟨oe4,vs4,e5,c4,d4⟩ fun h1 h2 ⟨o,ws,z1,z2,z3⟩ kk=>⟨o,ws,kk _ z1,z2,z3⟩
  have un:∀{σ2 H2 s6},Inv (X.held x) pins σ2 H2 s6→Inv X pins σ2 H2 s6:=fun z=>z.wJ I.ok.hd I.ok.frames
  refine wpAny_mono (hs x pins s5 _ _ _ (J6.iI _) (k x y4.2.1)) (fun f s6 z=>?_) fun _ _ z=>z.elim
  cases f with
  | next=>obtain ⟨σ2,H2,J7,z⟩:=z;exact iV (un J7.fU) hN hi hl fun s7 J8=>⟨_,H2,J8,z⟩
  | brk=>obtain ⟨σ2,H2,J7,z⟩:=z;exact iV (un J7.fU) hN hi hl fun s7 J8=>⟨_,H2,J8,z⟩
  | cont=>obtain ⟨σ2,H2,J7,z⟩:=z;exact iV (un J7.fU) hN hi hl fun s7 J8=>⟨_,H2,J8,z⟩
  | ret u=>obtain ⟨v,σ2,H2,J7,r,z⟩:=z;exact iV (un J7.fU) hN hi hl fun s7 J8=>⟨v,_,H2,J8,r,z⟩
end
end L2
namespace L2
open PySem PySem.Spec PyProof.Rows PySem.W Builtin Builtin.ObjectAttr Builtin.Getset_descriptor
structure wC (K:Frag) (A:Addr):Prop where
 ga:findIn K (.ref A) "__getattribute__"=some (some (.builtin "BaseException.__getattribute__"))
 gn:findIn K (.ref A) "__getattr__"=some none
 cl:findIn K (.ref A) "__class__"=some (some (.builtin "object.__class__"))
 cg:specialIn K (.builtin "object.__class__") "__get__"=some (some (.builtin "getset_descriptor.__get__"))
 ck:takesIn K (.builtin "object.__class__")=some true
 co:mroIn K A (.type "object")=some true
 cb:mroIn K A (.type "BaseException")=some true
 is:(clsIn K A).isSome=true
section
variable {prog:Program} {w:World} {B:Around} {E:Value→Shared→Prop} {K:Frag} {x A:Addr} {o:Obj}
theorem ow {M:Model} {h:Heap} (hx:h.get? x=some o) (hc:o.cls=.ref A):Looks M h (typeOf (.ref x)) (.ref A):=by rw [←hc];exact (Looks.ld hx).andThen .now
theorem pC {M:Model} {h:Heap} (X:K.In h) (q:(clsIn K A).isSome=true):Looks M h (isType (.ref A)) true:=by
 unfold clsIn at q
 split at q
 ·next look =>
  intro A' Q' E' s' k z
  unfold isType loadHead
  exact wpAny_bind (wpAny_loadPart (k _ _ (X _ _ look)) (wpAny_pure z))
 ·cases q
theorem vN {h:Heap} {g d t os} {R:Result→Shared→Prop} {tp:Value} (X:K.In h) (hx:h.get? x=some o) (hc:o.cls=.ref A) (hm:mroIn K A (.type "object")=some true) (z:R (.ok (.ret (.ref A))) ⟨h,g,d,t,os⟩) :
  codeAny (model prog w) B (.call (.builtin "getset_descriptor.__get__") ⟨[.builtin "object.__class__",.ref x,tp],[]⟩) R ⟨h,g,d,t,os⟩:=by
 have e0:=ow (M:=model prog w) hx hc
 have e1:=looks_mroIn (M:=model prog w) X hm
 have a1:=dga_obj (.builtin "object.__class__") tp x
 have a2:=KF.owner_class
 refine codeAny_call_builtin KF.slot_gs.plain KF.entry_gs ?_
 refine KF.slot_gs.check _ _ _ _ _ _ _ _ KF.type_class (KF.args_gs _ _ _) ?_
 have nm:".".intercalate ("object.__class__".cutAt '.').dropLast="object":=congrArg Prod.fst a2
 wp_walk using e0.at
 rw [nm]
 wp_walk using e1.at
 constructor
 ·exact Code.quiet_builtin _ (by decide +kernel)
 ·apply codeAny_builtin KF.entry_class
  wp_walk using e0.at
  exact z
theorem rA {h:Heap} {g d t os} {tk:Tok} {Q:Fin→Shared→Prop} (X:K.In h) (C:wC K A) (hx:h.get? x=some o) (hc:o.cls=.ref A) (z:Q (.done (.ret (.ref A))) ⟨h,g,d,t,os⟩) :
  wpAny (model prog w) B (Builtin.«object.__getattribute__» ⟨[.ref x,.str "__class__" tk],[]⟩) Q E ⟨h,g,d,t,os⟩:=by
 have e0:=ow (M:=model prog w) hx hc
 have e1:=looks_findIn (M:=model prog w) X C.cl
 have e2:=looks_specialIn (M:=model prog w) X C.cg
 have e3:=looks_takesIn (M:=model prog w) X C.ck
 unfold Builtin.«object.__getattribute__»
 repeat lk
 refine wpAny_run (h:=none) (vN X hx hc C.co ?_)
 exact wpAny_pure (wpAny_pure z)
theorem xT {h:Heap} {g d t os} {tk:Tok} {Q:Value→Shared→Prop} (X:K.In h) (C:wC K A) (hx:h.get? x=some o) (hc:o.cls=.ref A) (z:Q (.ref A) ⟨h,g,d,t,os⟩) :
  wpAny (model prog w) B (getAttrBy (.ref x) (.str "__class__" tk) false false) Q E ⟨h,g,d,t,os⟩:=by
 have e0:=ow (M:=model prog w) hx hc
 have e1:=looks_findIn (M:=model prog w) X C.ga
 have e2:=looks_findIn (M:=model prog w) X C.gn
 have e3:=looks_mroIn (M:=model prog w) X C.cb
 have f3:=PySem.F.excAttr_ValueError.ga.bind (.ref x)
 unfold getAttrBy
 refine wpAny_holding (wpAny_bind (e0.at (wpAny_bind (e1.at ?_))))
 show wpAny _ _ (getAttrByItsOwn _ _ _ _ _ _) _ _ _
 unfold getAttrByItsOwn hookBefore
 refine wpAny_bind ?_
 rw [if_pos (show onTheHeap (Value.ref A)=true from rfl)]
 refine e2.at (wpAny_bind (wpAny_attempt (wpAny_holding ?_)))
 unfold callGetattribute boundAndCalled
 rw [if_neg (by decide),f3]
 refine wpAny_bind (wpAny_pure (wpAny_call (codeAny_call_builtin PySem.F.excAttr_ValueError.ga.plain F.entry_bexc_ga ?_)))
 have kk:builtinKind "BaseException.__getattribute__"=some .slot∧splitId "BaseException.__getattribute__"=some ("BaseException","__getattribute__"):=⟨by decide +kernel,by decide +kernel⟩
 have e4:=PySem.F.args_bexc_ga (.ref x) (.str "__class__" tk)
 simp only [checkBuiltinCall,kk.1,kk.2];unfold isInstance
 refine wpAny_bind (wpAny_bind (e0.at (e3.at ?_)))
 rw [if_neg (by decide)]
 refine wpAny_of_eq (show _=pure () from e4) (rA X C hx hc ?_)
 exact wpAny_pure z
theorem rB {s:Shared} {Q:Option Value→Shared→Prop} (X:K.In s.heap) (C:wC K A) (hx:s.heap.get? x=some o) (hc:o.cls=.ref A) (z:Q (some (.ref A)) {s with toks:=s.toks+1}):wpAny (model prog w) B (getAttr? (.ref x) "__class__") Q E s:=by
 obtain ⟨h,g,d,t,os⟩:=s
 unfold getAttr? getAttrBy?
 refine wpAny_bind (wpAny_mkText (wpAny_bind (wpAny_attempt (xT X C hx hc ?_))))
 exact wpAny_pure z
theorem tU (C:wC K A):KitX K (.ref x) (.ref A) (uj x (.ref A)) where
 ty:=fun M h _ ⟨o,vs,hx,hc,_⟩=>ow hx hc
 it:=fun M h X _=>pC X C.is
 ne:=fun h tp dd its n sl X htp=>by
  refine du.mpr fun q=>?_
  have e:A=tp:=Value.ref.inj (beq_iff_eq.mp q)
  subst e
  have q:=C.is
  unfold clsIn at q
  split at q
  ·next look=>have z:=(X _ _ look).symm.trans htp;cases z
  ·cases q
 ca:=fun X ⟨o,vs,hx,hc,_⟩ k=>rB X C hx hc k
end
section
variable {X:Cx}
def By (K:Frag):List V→Hp→VK→Prop:=fun xs H Q=>∃a A c cv b,xs=[.ref a,c]∧RelV c cv∧(∀u,RelV c u→u=cv)∧H a=some (.ext (uj a (.ref A)))∧wC K A∧kitOne K (.ref A) cv=some b∧Q (.bl b) H
theorem uh:gK X (.builtin "isinstance") (By X.K):=by
 intro pins s σ H xs us Q I r h
 obtain ⟨a,A,c,cv,b,rfl,_,hu,ha,C,e,q⟩:=h
 obtain ⟨u,u',rfl,rx,rc⟩:=vals2 r
 obtain rfl:=hu u' rc
 cases (show u=Value.ref a from rx)
 obtain ⟨p,_,_⟩:=I.hok a _ ha
 exact kia_one (tU C) I.kIn p e (fun z=>nomatch z) fun tk=>⟨.bl b,H,I.tok _,rfl,q⟩
theorem oM {K:Frag} (h:X.K=K):gK X (.builtin "isinstance") (By K):=by subst h;exact uh
end
end L2
namespace L2
open PySem PySem.Spec PyProof.Rows
section
variable {X:Cx}
theorem mD {x:V}:∀{xs:List V} {us:List Value},Vals xs us→xs.all jA=true→us.countP (eqU x)=xs.countP fun y=>eqV y x
 | _,_,.nil,_=>rfl
 | y::xs,u::us,.cons r t,h=>by
  rw [dN,cC] at h
  rw [List.countP_cons,List.countP_cons,mD t h.2,oy r h.1]
def uC (K:ai):V→List V→Hp→VK→Prop:=fun x vs H Q=>∃p xs y,x=.ref p∧vs=[y]∧SqL K H p xs∧jA y=true∧xs.all jA=true∧Q (.int (xs.countP fun z=>eqV z y:Nat)) H
theorem tK:MtM X "list.count" (uC X.K):=by
 intro pins s σ H x vs v us Q I rx rv h
 obtain ⟨p,xs,y,rfl,rfl,hq,fy,fs,q⟩:=h
 cases rx
 obtain ⟨u,rfl,ry⟩:=rv.one
 obtain ⟨its,r,⟨ob,n,e,c,dn,d⟩,hz⟩:=I.list hq
 obtain ⟨oc,od,odt,osl⟩:=ob
 dsimp only at c dn d
 subst c dn d
 refine call_meets PySem.F.slot_list_count ⟨_,e,rfl⟩ PySem.F.entry_list_count (PySem.F.args_list_count_2 _ _) (SeqAt.list_countAt p its.toArray n _ _ u (eqU y)) ⟨e,fun w hw=>ik ry fy r fs w (by simpa using hw),?_⟩
 exact ⟨.int _,H,I.tok _,⟨_,rfl⟩,by rw [show its.toArray.toList=its from rfl,mD r fs];exact q⟩
theorem xF {K:ai} (h:X.K=K):MtM X "list.count" (uC K):=by subst h;exact tK
end
def Big (m:Int) (es:List (Int×Int)):Prop:=m<1∨20<m∨40<(es.length:Int)
instance (m:Int) (es:List (Int×Int)):Decidable (Big m es):=by unfold Big;infer_instance
instance (es:List (Int×Int)) (m:Int):Decidable (de es m):=by unfold de;infer_instance
end L2
namespace L2
open PySem PySem.Spec PyProof.Rows
section
variable {K:ai} {H:Hp}
theorem Pairs.get:∀{xs:List V} {es:List (Int×Int)} {i:Nat},Pairs K H xs es→i<es.length→∃r e,xs[i]?=some (.ref r)∧SqT K H r [.int e.1,.int e.2]∧es[i]?=some e∧e∈es
 | _,_,_,.nil,h=>absurd h (cw _)
 | _,_,0,.cons ⟨r,e,q⟩ _,_=>⟨r,_,by rw [e];rfl,q,rfl,aP⟩
 | _,_,i+1,.cons _ t,h=>by
  obtain ⟨r,e,h1,h2,h3,h4⟩:=Pairs.get (i:=i) t (by simpa using h)
  exact ⟨r,e,by simpa using h1,h2,by simpa using h3,aO _ h4⟩
theorem Pairs.append:∀{xs ys:List V} {es fs:List (Int×Int)},Pairs K H xs es→Pairs K H ys fs→Pairs K H (xs++ys) (es++fs)
 | _,_,_,_,.nil,s=>s
 | _,_,_,_,.cons r t,s=>.cons r (Pairs.append t s)
theorem iB {n:Nat} {i:Int} (h0:0≤i) (h:i<(n:Int)):ixN n i=some i.toNat:=by
 unfold ixN;rw [if_pos h0,if_pos h]
theorem vU {α:Type} {xs:List α} {i:Int} {v:α} (h0:0≤i) (h:xs[i.toNat]?=some v):atI xs i=some v:=by
 have:=sh h
 rwa [Int.toNat_of_nonneg h0] at this
theorem at2 {a b:V} {j:Int} (h0:0≤j) (h:j<2):∃v,atI [a,b] j=some v∧(v=a∨v=b):=by
 have:j=0∨j=1:=by omega
 rcases this with rfl | rfl
 ·exact ⟨a,rfl,.inl rfl⟩
 ·exact ⟨b,rfl,.inr rfl⟩
end
end L2
namespace L2
open PySem PySem.Spec PyProof.Rows
section
variable {prog:Program} {w:World} {A:Around} {E:Value→Shared→Prop} {s:Shared}
theorem stepT {it l:Addr} {i:Nat} {items:Array Value} {x:Value} {c d:Option Addr} {sl sl2:Array (Option Value)} {n:Nat} {P:Fin→Shared→Prop} (hit:s.heap.get? it=some {cls:=.type "tuple_iterator",dict:=c,data:=.fields #[.ref l,.int i 0],slots:=sl}) (hl:s.heap.get? l=some {cls:=.type "tuple",dict:=d,data:=.seq items n,slots:=sl2}) (hx:items[i]?=some x)
  (hP:∀h',h'.get? it=some {cls:=.type "tuple_iterator",dict:=c,data:=.fields #[.ref l,.int (i+1:Nat) 0],slots:=sl}→gw it s.heap h'→P (.done (.ret x)) {s with heap:=h'}) :
  wpAny (model prog w) A (Builtin.«tuple_iterator.__next__» ⟨[.ref it],[]⟩) P E s:=by
 obtain ⟨hp,g,dr,tk,os⟩:=s
 unfold Builtin.«tuple_iterator.__next__»
 wp_walk using AutoSeq1.wpAny_loadPart' hit,AutoSeq1.wpAny_loadPart' hl
 rw [aY,hx]
 wp_walk
 have up:=bC (Obj.mapFields fun v=>v.setIfInBounds 1 (rawInt ((i:Int)+1))) hit rfl
 exact hP _ up (Heap.SameBut.update ..)
theorem yV {it l:Addr} {i:Nat} {items:Array Value} {c d:Option Addr} {sl sl2:Array (Option Value)} {n:Nat} {P:Fin→Shared→Prop} (hh:A.handled=none) (hit:s.heap.get? it=some {cls:=.type "tuple_iterator",dict:=c,data:=.fields #[.ref l,.int i 0],slots:=sl}) (hl:s.heap.get? l=some {cls:=.type "tuple",dict:=d,data:=.seq items n,slots:=sl2}) (hx:items[i]?=none)
  (hE:∀h' e,Heap.ExtBut it s.heap h'→(∃o,h'.get? e=some o∧o.cls=.type "StopIteration")→E (.ref e) {s with heap:=h'}) :
  wpAny (model prog w) A (Builtin.«tuple_iterator.__next__» ⟨[.ref it],[]⟩) P E s:=by
 obtain ⟨hp,g,dr,tk,os⟩:=s
 unfold Builtin.«tuple_iterator.__next__»
 wp_walk using AutoSeq1.wpAny_loadPart' hit,AutoSeq1.wpAny_loadPart' hl
 rw [aY,hx]
 wp_walk
 refine wpAny_raiseNew_none hh (hE _ _ ?_ ⟨_,bo _ rfl,rfl⟩)
 have one:=Heap.SameBut.update (h:=hp) (a:=it) (f:=Obj.mapFields fun v=>v.setIfInBounds 0 Value.none)
 exact (one.extBut.push _).push _
theorem oQ {it l:Addr} {i:Nat} {items:Array Value} {x:Value} {Q:Value→Shared→Prop} (hit:s.heap.IsTupleIter it l i) (hl:s.heap.IsTuple l items) (hx:items[i]?=some x) (hQ:∀h',h'.IsTupleIter it l (i+1)→gw it s.heap h'→Q x {s with heap:=h'}):wpAny (model prog w) A (Builtin.SmallTypes.nextOf (.ref it)) Q E s:=by
 have ty:=hit.typeIs
 obtain ⟨⟨_,c,_,sl⟩,ho,rfl,rfl⟩:=hit
 obtain ⟨⟨_,d,_,sl2⟩,hol,rfl,n,rfl⟩:=hl
 have walked:=wpAny_call_entry (prog:=prog) (w:=w) (A:=A) (E:=E) F.slot_tuple_iterator_next ty F.entry_tuple_iterator_next (stepT ho hol hx fun h' e sb=>⟨x,rfl,hQ h' ⟨_,e,rfl,rfl⟩ sb⟩) (F.args_tuple_iterator_next_1 _)
 unfold Builtin.SmallTypes.nextOf
 exact wpAny_bind (wpAny_callSpecial?_slot ty F.slot_tuple_iterator_next (wpAny_mono walked (fun v s' q=>wpAny_pure q) fun _ _ z=>z))
theorem qB {it l:Addr} {i:Nat} {items:Array Value} {Q:Value→Shared→Prop} (hh:A.handled=none) (hit:s.heap.IsTupleIter it l i) (hl:s.heap.IsTuple l items) (hx:items[i]?=none) (hE:∀h' e,Heap.ExtBut it s.heap h'→(∃o,h'.get? e=some o∧o.cls=.type "StopIteration")→E (.ref e) {s with heap:=h'}):wpAny (model prog w) A (Builtin.SmallTypes.nextOf (.ref it)) Q E s:=by
 have ty:=hit.typeIs
 obtain ⟨⟨_,c,_,sl⟩,ho,rfl,rfl⟩:=hit
 obtain ⟨⟨_,d,_,sl2⟩,hol,rfl,n,rfl⟩:=hl
 have walked:=wpAny_call_entry (prog:=prog) (w:=w) (A:=A) (E:=E) (Q:=fun v s'=>Q v s') F.slot_tuple_iterator_next ty F.entry_tuple_iterator_next (yV (show A.in1.handled=none from hh) ho hol hx hE) (F.args_tuple_iterator_next_1 _)
 unfold Builtin.SmallTypes.nextOf
 exact wpAny_bind (wpAny_callSpecial?_slot ty F.slot_tuple_iterator_next (wpAny_mono walked (fun v s' q=>wpAny_pure q) fun _ _ z=>z))
theorem nW {h h':Heap} {it t:Addr} {i:Nat} (x:h.IsTupleIter it t i) (k:∀o,h.get? it=some o→h'.get? it=some o):h'.IsTupleIter it t i:=let ⟨o,ho,r⟩:=x;⟨o,k o ho,r⟩
end
def SIt (b:Bool) (h:Heap) (it l:Addr) (i:Nat):Prop:=match b with | false=>h.IsListIter it l i | true=>h.IsTupleIter it l i
def SSq (b:Bool) (h:Heap) (l:Addr) (xs:Array Value):Prop:=match b with | false=>h.IsList l xs | true=>h.IsTuple l xs
theorem SIt.keep {b:Bool} {h h':Heap} {it l:Addr} {i:Nat} (x:SIt b h it l i) (k:∀o,h.get? it=some o→h'.get? it=some o):SIt b h' it l i:=by
 cases b
 ·exact Heap.IsListIter.at x k
 ·exact nW x k
theorem SSq.keep {b:Bool} {h h':Heap} {l:Addr} {xs:Array Value} (x:SSq b h l xs) (k:∀o,h.get? l=some o→h'.get? l=some o):SSq b h' l xs:=by
 cases b
 ·exact Heap.IsList.at x k
 ·exact Heap.IsTuple.at x k
theorem SIt.obj {b:Bool} {h:Heap} {it l:Addr} {i:Nat} (x:SIt b h it l i):∃o,h.get? it=some o∧∀v,o.data≠.cell v:=by
 cases b
 ·obtain ⟨o,e,_,d⟩:=x;exact ⟨o,e,fun v z=>by rw [d] at z;cases z⟩
 ·obtain ⟨o,e,_,d⟩:=x;exact ⟨o,e,fun v z=>by rw [d] at z;cases z⟩
theorem fL {prog:Program} {w:World} {A:Around} (hh:A.handled=none) (b:Bool) (it l:Addr) (hne:l≠it) (items:Array Value):Draws prog w A it [it,l] items.size (fun i v=>items[i]?=some v) (fun i h=>SIt b h it l i∧SSq b h l items):=by
  cases b
  · exact Draws.list hh it l hne items
  · exact { live := fun _ _ st => let ⟨o, ho, _⟩ := st.1; ⟨o, ho⟩
            frame:=fun _ _ _ st hk=>⟨nW st.1 fun o e=>hk it (by simp) o e,Heap.IsTuple.at st.2 fun o e=>hk l (by simp) o e⟩
            item:=fun i s Q E hi st hQ=>oQ st.1 st.2 (x:=items[i]) (by simp [hi]) fun h' hit' hs'=>hQ _ h' s.toks (by simp [hi]) ⟨hit',Heap.IsTuple.extBut st.2 hs'.extBut hne⟩ hs'
            done:=fun s Q E st hE=>qB hh st.1 st.2 (by simp) hE}
structure ZA (z TO i1 i2:Addr) (f1 f2:List Addr):Prop where
 m1:i1∈f1
 m2:i2∈f2
 z1:z∉f1
 z2:z∉f2
 o1:TO∉f1
 o2:TO∉f2
 x1:i1∉f2
 x2:i2∉f1
 oz:TO≠z
theorem nin {a b:Addr} {l:List Addr} (h:a∉l) (hb:b∈l):b≠a:=fun e=>h (e▸hb)
section
variable {prog:Program} {w:World} {A:Around} {E:Value→Shared→Prop} {s:Shared} {z TI TO i1 i2:Addr} {f1 f2:List Addr} {n1 n2 i:Nat} {P1 P2:Nat→Value→Prop} {S1 S2:Nat→Heap→Prop} {a b:Value}
theorem pM {Q:Value→Shared→Prop} (D1:Draws prog w A i1 f1 n1 P1 S1) (D2:Draws prog w A i2 f2 n2 P2 S2) (Z:ZA z TO i1 i2 f1 f2) (hz:IsZip s.heap z TI TO .none) (hTI:IsPair s.heap TI (.ref i1) (.ref i2)) (hTO:IsPair s.heap TO a b) (h1:S1 i s.heap) (h2:S2 i s.heap) (l1:i<n1) (l2:i<n2)
  (hQ:∀x y h' tk,P1 i x→P2 i y→IsZip h' z TI TO (rawInt s.heap.objs.size)→IsPair h' TO x y→S1 (i+1) h'→S2 (i+1) h'→IsPair h' s.heap.objs.size x y→h'.objs.size=s.heap.objs.size+1 →
   (∀c o,c≠z→c≠TO→c≠i1→c≠i2→s.heap.get? c=some o→h'.get? c=some o)→Q (.ref s.heap.objs.size) {s with heap:=h',toks:=tk}) :
  wpAny (model prog w) A (Builtin.«zip.__next__» ⟨[.ref z],[]⟩) (fun fin s'=>∃v,fin=.done (.ret v)∧Q v s') E s:=by
 obtain ⟨hp,g,d,tk₀,os⟩:=s
 have Oz:=Z.oz
 have z1:=nin Z.z1 Z.m1
 have z2:=nin Z.z2 Z.m2
 have O1:=nin Z.o1 Z.m1
 have O2:=nin Z.o2 Z.m2
 have kz:=bC (Obj.mapFields fun v=>v.setIfInBounds 0 Value.ellipsis) hz rfl
 unfold Builtin.«zip.__next__»
 wp_walk using AutoSeq1.wpAny_loadPart' hz,AutoSeq1.wpAny_loadPart' hTI,wpAny_onRaise,D1.item i _ _ _ l1
 ·exact D1.frame _ _ _ h1 fun c hc o e=>aA _ (nin Z.z1 hc).symm e
 intro x h₂ t₂ px s₁ b₂
 have ez:=b₂.extBut _ _ z1.symm kz
 have TO2:IsPair h₂ TO a b:=b₂.extBut _ _ O1.symm (aA _ Oz.symm hTO)
 have kO:=bC (Obj.mapSeq fun v=>v.setIfInBounds 0 x) TO2 rfl
 wp_walk using AutoSeq1.wpAny_loadPart' TO2,wpAny_onRaise,D2.item i _ _ _ l2
 ·exact D2.frame _ _ _ h2 fun c hc o e=>aA _ (nin Z.o2 hc).symm (b₂.extBut _ _ (nin Z.x1 hc) (aA _ (nin Z.z2 hc).symm e))
 intro y h₄ t₄ py s₂ b₄
 have TO4:IsPair h₄ TO x b:=b₄.extBut _ _ O2.symm kO
 have ez4:IsZip h₄ z TI TO .ellipsis:=b₄.extBut _ _ z2.symm (aA _ Oz ez)
 have n4:h₄.objs.size=hp.objs.size:=by rw [b₄.1,cK,b₂.1,cK]
 have kP:=bC (Obj.mapSeq fun v=>v.setIfInBounds 1 y) TO4 rfl
 wp_walk using AutoSeq1.wpAny_loadPart' TO4,AutoSeq1.wpAny_loadPart' kP
 have n5:(h₄.update TO (Obj.mapSeq fun v=>v.setIfInBounds 1 y)).objs.size=hp.objs.size:=cK .. |>.trans n4
 have zl:z<hp.objs.size:=aW hz
 refine ⟨_,rfl,?_⟩
 rw [n5]
 have on:∀{c o} (f:Obj→Obj) (k:Obj→Obj),c≠z→((h₄.update TO (Obj.mapSeq fun v=>v.setIfInBounds 1 y)).push {cls:=.type "tuple",data:=.seq #[x,y]}).get? c=some o →
   ((((h₄.update TO (Obj.mapSeq fun v=>v.setIfInBounds 1 y)).push {cls:=.type "tuple",data:=.seq #[x,y]}).update z f).update z k).get? c=some o:=fun f k q e=>aA _ q.symm (aA _ q.symm e)
 refine hQ x y _ t₄ px py ?_ ?_ ?_ ?_ ?_ ?_ ?_
 ·exact bC _ (bC _ (ao _ (aA _ Oz ez4)) rfl) rfl
 ·exact on _ _ Oz (ao _ kP)
 ·exact D1.frame _ _ _ s₁ fun c hc o e=>on _ _ (nin Z.z1 hc) (ao _ (aA _ (nin Z.o1 hc).symm (b₄.extBut _ _ (nin Z.x2 hc) (aA _ (nin Z.o1 hc).symm e))))
 ·exact D2.frame _ _ _ s₂ fun c hc o e=>on _ _ (nin Z.z2 hc) (ao _ (aA _ (nin Z.o2 hc).symm e))
 ·exact on _ _ (gq zl) (dG n5.symm rfl)
 ·rw [cK,cK,cU,n5]
 ·exact fun c o c1 c2 c3 c4 e=>on _ _ c1 (ao _ (aA _ c2.symm (b₄.extBut _ _ c4 (aA _ c2.symm (b₂.extBut _ _ c3 (aA _ c1.symm e))))))
theorem sr {Q:Fin→Shared→Prop} (D1:Draws prog w A i1 f1 n1 P1 S1) (D2:Draws prog w A i2 f2 n2 P2 S2) (Z:ZA z TO i1 i2 f1 f2) (hz:IsZip s.heap z TI TO .none) (hTI:IsPair s.heap TI (.ref i1) (.ref i2)) (hTO:IsPair s.heap TO a b) (h1:S1 i s.heap) (h2:S2 i s.heap) (hend:i=n1∨(i<n1∧i=n2))
  (hE:∀h' tk e,(∀c o,c≠z→c≠TO→c≠i1→c≠i2→s.heap.get? c=some o→h'.get? c=some o)→(∃o,h'.get? e=some o∧o.cls=.type "StopIteration")→E (.ref e) {s with heap:=h',toks:=tk}) :
  wpAny (model prog w) A (Builtin.«zip.__next__» ⟨[.ref z],[]⟩) Q E s:=by
 obtain ⟨hp,g,d,tk₀,os⟩:=s
 have Oz:=Z.oz
 have z1:=nin Z.z1 Z.m1
 have z2:=nin Z.z2 Z.m2
 have O1:=nin Z.o1 Z.m1
 have O2:=nin Z.o2 Z.m2
 have kz:=bC (Obj.mapFields fun v=>v.setIfInBounds 0 Value.ellipsis) hz rfl
 have first:S1 i (hp.update z (Obj.mapFields fun v=>v.setIfInBounds 0 Value.ellipsis)):=D1.frame _ _ _ h1 fun c hc o e=>aA _ (nin Z.z1 hc).symm e
 unfold Builtin.«zip.__next__»
 rcases hend with rfl | ⟨l1,rfl⟩
 ·wp_walk using AutoSeq1.wpAny_loadPart' hz,AutoSeq1.wpAny_loadPart' hTI,wpAny_onRaise,D1.done _ _ _ first
  rintro h₂ e b₂ ⟨o,ho,hc⟩
  have ez:h₂.get? z=_:=b₂ _ _ z1.symm kz
  have ne:e≠z:=fun q=>by rw [q,ez] at ho;cases ho;exact absurd (Value.type.inj hc) (by decide)
  wp_walk using wpAny_updatePart' ez
  exact hE _ _ _ (fun c o c1 c2 c3 c4 q=>aA _ c1.symm (b₂ _ _ c3 (aA _ c1.symm q))) ⟨o,aA _ ne.symm ho,hc⟩
 ·wp_walk using AutoSeq1.wpAny_loadPart' hz,AutoSeq1.wpAny_loadPart' hTI,wpAny_onRaise,D1.item i _ _ _ l1 first
  intro x h₂ t₂ px s₁ b₂
  have ez:h₂.get? z=_:=b₂.extBut _ _ z1.symm kz
  have TO2:IsPair h₂ TO a b:=b₂.extBut _ _ O1.symm (aA _ Oz.symm hTO)
  have last:S2 i (h₂.update TO (Obj.mapSeq fun v=>v.setIfInBounds 0 x)):=D2.frame _ _ _ h2 fun c hc o e=>aA _ (nin Z.o2 hc).symm (b₂.extBut _ _ (nin Z.x1 hc) (aA _ (nin Z.z2 hc).symm e))
  wp_walk using AutoSeq1.wpAny_loadPart' TO2,wpAny_onRaise,D2.done _ _ _ last
  rintro h₄ e b₄ ⟨o,ho,hc⟩
  have ez4:h₄.get? z=_:=b₄ _ _ z2.symm (aA _ Oz ez)
  have ne:e≠z:=fun q=>by rw [q,ez4] at ho;cases ho;exact absurd (Value.type.inj hc) (by decide)
  wp_walk using wpAny_updatePart' ez4
  exact hE _ _ _ (fun c o c1 c2 c3 c4 q=>aA _ c1.symm (b₄ _ _ c4 (aA _ c2.symm (b₂.extBut _ _ c3 (aA _ c1.symm q))))) ⟨o,aA _ ne.symm ho,hc⟩
end
end L2
namespace L2
open PySem PySem.Spec PyProof.Rows
def itC (b:Bool):String:=match b with | false=>"list_iterator" | true=>"tuple_iterator"
def SqB (b:Bool) (K:ai) (H:Hp) (a:Addr) (xs:List V):Prop:=match b with | false=>SqL K H a xs | true=>SqT K H a xs
theorem SqB.or {b:Bool} {K:ai} {H:Hp} {a:Addr} {xs:List V} (h:SqB b K H a xs):SqL K H a xs∨SqT K H a xs:=by
 cases b
 ·exact .inl h
 ·exact .inr h
section
variable {X:Cx} {pins:List (Addr×Obj)} {σ:St} {H:Hp} {s:Shared} {b:Bool} {a c:Addr} {xs:List V}
theorem Inv.src (I:Inv X pins σ H s) (h:SqB b X.K H a xs):∃its:List Value,Vals xs its∧SSq b s.heap a its.toArray∧xs.length≤sizeLine:=by
 cases b
 ·obtain ⟨its,r,p,z⟩:=I.list h;exact ⟨its,r,p.isList,z⟩
 ·obtain ⟨its,r,p,z⟩:=I.tuple h;exact ⟨its,r,p,z⟩
theorem Inv.gz (I:Inv X pins σ H s) (h:SqB b X.K H a xs) (f:mT X pins H c):a≠c:=by
 have known:∀o,X.K.lookup a=some o→a≠c:=fun o hk e=>by
  have hb:=I.ok.mod.kin a o hk
  subst e
  rcases f.2.2.2.1 with z | z
  ·exact I.ok.noex a o hb z
  ·exact absurd (bp (aW hb) (cu I.ok.bsz z)) (cL _)
 have free:∀o,H a=some o→a≠c:=fun o e z=>by rw [z,f.1] at e;cases e
 cases b
 ·rcases h with (h | ⟨o,h⟩) | ⟨o,_,_,hk,_⟩
  ·exact free _ h
  ·exact free _ h
  ·exact known o hk
 ·rcases h with (h | ⟨o,h⟩) | ⟨o,_,_,hk,_⟩
  ·exact free _ h
  ·exact free _ h
  ·exact known o hk
theorem Inv.je {h':Heap} {t':Nat} {fp:List Addr} {ys:List V} {us:List Value} (I:Inv X pins σ H s) (hf:∀b∈fp,mT X pins H b) (k:∀c o,c∉fp→s.heap.get? c=some o→h'.get? c=some o) (r:Vals ys us) (hz:ys.length≤sizeLine) (hT:IsTup h' s.heap.objs.size us.toArray) :
  Inv X pins σ (upd H s.heap.objs.size (.tup ys)) {s with heap:=h',toks:=t'}:=by
 have hn:H s.heap.objs.size=none:=I.hok.fresh (aN _)
 refine I.r_ (ch:=fp) rfl ⟨fun b o e n hb hx=>k b o hx e,fun b o e n hb hx=>⟨o.slots,k b o hx e⟩,fun b o e n hx=>?_,fun b o e hx=>⟨o,k b o hx e⟩,fun b zs e=>?_,fun b o u e=>?_,fun b ps e=>⟨#[],?_⟩⟩ (fun b u e=>?_) I.bare fun b hb=>?_
 ·rw [bS (bz (aW e))];exact n
 ·rw [bS (bw e hn)];exact e
 ·rw [bS (bw e hn)];exact e
 ·rw [bS (bw e hn),e];simp
 ·by_cases hb:b=s.heap.objs.size
  ·subst hb;rw [aq] at e;cases e
   exact ⟨hz,us,r,hT⟩
  ·rw [bS hb] at e
   refine (I.hok b u e).p_ (fun c v hc q=>k c v (fun z=>?_) q) (fun c q=>by rw [bS (bw q hn)];exact q) fun c zs q=>by rw [bS (bw q hn)];exact q
   have z':=(hf c z).1
   rcases hc with hc | hc
   ·rw [hc,e] at z';cases z'
   ·rw [hc] at z';cases z'
 ·obtain ⟨f0,f1,f2,f3,f4,f5⟩:=hf b hb
  exact ⟨f3,f1,f4,f5⟩
theorem Inv.jL {h':Heap} {t':Nat} {fp:List Addr} (I:Inv X pins σ H s) (hf:∀b∈fp,mT X pins H b) (k:∀c o,c∉fp→s.heap.get? c=some o→h'.get? c=some o):Inv X pins σ H {s with heap:=h',toks:=t'}:=by
 refine I.r_ (ch:=fp) rfl ⟨fun b o e n hb hx=>k b o hx e,fun b o e n hb hx=>⟨o.slots,k b o hx e⟩,fun b o e n hx=>n,fun b o e hx=>⟨o,k b o hx e⟩,fun b zs e=>e,fun b o u e=>e,fun b ps e=>⟨#[],by rw [e];simp⟩⟩ (fun b u e=>?_) I.bare fun b hb=>?_
 ·refine (I.hok b u e).p_ (fun c v hc q=>k c v (fun z=>?_) q) (fun c q=>q) fun c zs q=>q
  have z':=(hf c z).1
  rcases hc with hc | hc
  ·rw [hc,e] at z';cases z'
  ·rw [hc] at z';cases z'
 ·obtain ⟨f0,f1,f2,f3,f4,f5⟩:=hf b hb
  exact ⟨f3,f1,f4,f5⟩
end
section
variable {prog:Program} {w:World} {A:Around} {E:Value→Shared→Prop} {s:Shared}
theorem ot {b:Bool} {l:Addr} {xs:Array Value} {Q:Value→Shared→Prop} (h:SSq b s.heap l xs) (q:Q (.ref s.heap.objs.size) {s with heap:=s.heap.push {cls:=.type (itC b),data:=.fields #[.ref l,.int 0 0]}}):wpAny (model prog w) A (pyIter (.ref l)) Q E s:=by
 cases b
 ·exact wpAny_pyIter_list h q
 ·exact wpAny_pyIter_tuple h q
theorem qb {b:Bool} {h h':Heap} {l a:Addr} (e:h'.get? a=some {cls:=.type (itC b),data:=.fields #[.ref l,.int 0 0]}):SIt b h' a l 0:=by
 cases b<;>exact ⟨_,e,rfl,rfl⟩
end
abbrev zA1 (b:Bool) (h:Heap) (l:Addr):Heap:=h.push {cls:=.type (itC b),data:=.fields #[.ref l,.int 0 0]}
abbrev zA3 (b1 b2:Bool) (h:Heap) (l1 l2:Addr):Heap:=(zA1 b2 (zA1 b1 h l1) l2).push {cls:=.type "tuple",data:=.seq #[.ref h.objs.size,.ref (zA1 b1 h l1).objs.size]}
abbrev zA4 (b1 b2:Bool) (h:Heap) (l1 l2:Addr):Heap:=(zA3 b1 b2 h l1 l2).push {cls:=.type "tuple",data:=.seq #[.none,.none]}
abbrev zA5 (b1 b2:Bool) (h:Heap) (l1 l2:Addr):Heap:=(zA4 b1 b2 h l1 l2).push {cls:=.type "zip",data:=.fields #[.none,.bool false,.bool false,.ref (zA1 b2 (zA1 b1 h l1) l2).objs.size,.ref (zA3 b1 b2 h l1 l2).objs.size]}
theorem oS (b1 b2:Bool) (l1 l2:Addr) (xs ys:Array Value):Meets (Builtin.«zip.__new__» ⟨[.type "zip",.ref l1,.ref l2],[]⟩) (fun _ R s=>SSq b1 s.heap l1 xs∧SSq b2 s.heap l2 ys∧R (.ok (.ret (.ref (zA4 b1 b2 s.heap l1 l2).objs.size))) {s with heap:=zA5 b1 b2 s.heap l1 l2}) :=
 .of_wp fun prog w A R s h=>by
  obtain ⟨hp,g,d,tk,os⟩:=s;obtain ⟨hl1,hl2,h⟩:=h;have hsub:=sub_zip
  have hL1:SSq b1 (Shared.heap ⟨hp,g,d,tk,os⟩) l1 xs:=hl1
  have hL2:SSq b2 (Shared.heap ⟨hp.push {cls:=.type (itC b1),data:=.fields #[.ref l1,.int 0 0]},g,d,tk,os⟩) l2 ys:=SSq.keep hl2 fun o e=>ao _ e
  wp_walk using ot hL1,ot hL2
  exact ⟨_,rfl,h⟩
section
variable {prog:Program} {w:World} {A:Around} {E:Value→Shared→Prop} {s:Shared}
theorem rV {b1 b2:Bool} {l1 l2:Addr} {xs ys:Array Value} {Q:Value→Shared→Prop} (hl1:SSq b1 s.heap l1 xs) (hl2:SSq b2 s.heap l2 ys)
  (h:∀h',IsZip h' (s.heap.objs.size+4) (s.heap.objs.size+2) (s.heap.objs.size+3) .none→IsPair h' (s.heap.objs.size+2) (.ref s.heap.objs.size) (.ref (s.heap.objs.size+1)) →
   IsPair h' (s.heap.objs.size+3) .none .none→SIt b1 h' s.heap.objs.size l1 0→SIt b2 h' (s.heap.objs.size+1) l2 0→(∀c o,s.heap.get? c=some o→h'.get? c=some o)→Q (.ref (s.heap.objs.size+4)) {s with heap:=h'}) :
  wpAny (model prog w) A (call (.type "zip") [.ref l1,.ref l2]) Q E s:=by
 refine callType_new F.called_zip (by decide) (F.typeCall_zip_2 _ _) (F.newCall_zip_2 _ _) (fun obj=>F.args_object_init_3 obj _ _) F.entry_zip_new (oS b1 b2 l1 l2 xs ys) ⟨hl1,hl2,?_⟩
 have z1:(zA1 b1 s.heap l1).objs.size=s.heap.objs.size+1:=cU ..
 have z2:(zA1 b2 (zA1 b1 s.heap l1) l2).objs.size=s.heap.objs.size+2:=by rw [cU,z1]
 have z3:(zA3 b1 b2 s.heap l1 l2).objs.size=s.heap.objs.size+3:=by rw [cU,z2]
 have z4:(zA4 b1 b2 s.heap l1 l2).objs.size=s.heap.objs.size+4:=by rw [cU,z3]
 have g5:(zA5 b1 b2 s.heap l1 l2).get? (zA4 b1 b2 s.heap l1 l2).objs.size=some _:=bo _ rfl
 have g4:(zA5 b1 b2 s.heap l1 l2).get? (zA3 b1 b2 s.heap l1 l2).objs.size=some _:=ao _ (bo _ rfl)
 have g3:(zA5 b1 b2 s.heap l1 l2).get? (zA1 b2 (zA1 b1 s.heap l1) l2).objs.size=some _:=ao _ (ao _ (bo _ rfl))
 have g2:(zA5 b1 b2 s.heap l1 l2).get? (zA1 b1 s.heap l1).objs.size=some _:=ao _ (ao _ (ao _ (bo _ rfl)))
 have g1:(zA5 b1 b2 s.heap l1 l2).get? s.heap.objs.size=some _:=ao _ (ao _ (ao _ (ao _ (bo _ rfl))))
 show _∧_
 rw [z2,z3,z4] at g5;rw [z1,z2] at g3;rw [z3] at g4;rw [z1] at g2;rw [z4]
 exact ⟨⟨_,g5,rfl⟩,h _ g5 g3 g4 (qb (h:=s.heap) g1) (qb (h:=s.heap) g2) fun c o x=>ao _ (ao _ (ao _ (ao _ (ao _ x))))⟩
end
def Itz (K:ai) (b1 b2:Bool) (a1 a2:Addr) (xs ys:List V):It :=
  ⟨fun i H=>SqB b1 K H a1 xs∧SqB b2 K H a2 ys∧i<xs.length∧i<ys.length,fun i H x H'=>∃p,x=.ref p∧H p=none∧H'=upd H p (.tup [xs.getD i .non,ys.getD i .non]),
   fun i H=>SqB b1 K H a1 xs∧SqB b2 K H a2 ys∧i=min xs.length ys.length⟩
theorem iH {xs:List V} {its:List Value} {i:Nat} {u:Value} (r:Vals xs its) (e:its.toArray[i]?=some u):RelV (xs.getD i .non) u:=by
 obtain ⟨x,h1,h2⟩:=r.tog (i:=i) (u:=u) (by simpa using e)
 rw [ae,h1];exact h2
theorem wH (n:Nat):n+3≠n+4∧n≠n+4∧n+1≠n+4∧n+2≠n+4∧n+2≠n+3∧n+2≠n∧n+2≠n+1∧n+3≠n∧n+3≠n+1∧n≠n+1:=by refine ⟨?_,?_,?_,?_,?_,?_,?_,?_,?_,?_⟩<;>omega
theorem sM {P:Program} {w:World} {K:ai} {elts:List Expr} {kx} {pos:Pos} (b1 b2:Bool) (a1 a2 z TI TO i1 i2:Addr) (xs ys:List V) (ne:TO≠z∧i1≠z∧i2≠z∧TI≠z∧TI≠TO∧TI≠i1∧TI≠i2∧TO≠i1∧TO≠i2∧i1≠i2) :
  Turn P w K (.Tuple elts kx pos) (Itz K b1 b2 a1 a2 xs ys) [z,TI,TO,i1,i2] z (fun i h=>IsZip h z TI TO .none∧IsPair h TI (.ref i1) (.ref i2)∧(∃a b,IsPair h TO a b)∧SIt b1 h i1 a1 i∧SIt b2 h i2 a2 i) where
 mem:=by simp
 obj:=fun i h st b hb=>by
  obtain ⟨hz,hTI,⟨a,b',hTO⟩,h1,h2⟩:=st
  simp only [aU,dC,or_false] at hb
  rcases hb with rfl | rfl | rfl | rfl | rfl
  ·exact ⟨_,hz,fun v z=>by cases z⟩
  ·exact ⟨_,hTI,fun v z=>by cases z⟩
  ·exact ⟨_,hTO,fun v z=>by cases z⟩
  ·exact h1.obj
  ·exact h2.obj
 keep:=fun i h h' st k=>by
  obtain ⟨hz,hTI,⟨a,b',hTO⟩,h1,h2⟩:=st
  exact ⟨k z (by simp) _ hz,k TI (by simp) _ hTI,⟨a,b',k TO (by simp) _ hTO⟩,h1.keep fun o e=>k i1 (by simp) o e,h2.keep fun o e=>k i2 (by simp) o e⟩
 item:=by
  intro X hP hw hK hc i pins s σ H E I hf st hg
  subst hP hw hK
  obtain ⟨hz,hTI,⟨a,b',hTO⟩,h1,h2⟩:=st
  obtain ⟨q1,q2,hx,hy⟩:=hg
  obtain ⟨its1,r1,p1,z1⟩:=I.src q1
  obtain ⟨its2,r2,p2,z2⟩:=I.src q2
  have nz1:=I.gz q1 (hf z (by simp));have nz2:=I.gz q2 (hf z (by simp));have no1:=I.gz q1 (hf TO (by simp));have no2:=I.gz q2 (hf TO (by simp));have n11:=I.gz q1 (hf i1 (by simp));have n12:=I.gz q1 (hf i2 (by simp));have n21:=I.gz q2 (hf i1 (by simp));have n22:=I.gz q2 (hf i2 (by simp))
  obtain ⟨e1,e2,e3,e4,e5,e6,e7,e8,e9,e10⟩:=ne
  have hT:s.TypeIs (.ref z) "zip":=⟨_,hz,rfl⟩
  have D1:=fL (prog:=X.prog) (w:=X.w) (A:=X.A.in1) (I.ok.hd hc) b1 i1 a1 n11 its1.toArray
  have D2:=fL (prog:=X.prog) (w:=X.w) (A:=X.A.in1) (I.ok.hd hc) b2 i2 a2 n22 its2.toArray
  have Z:ZA z TO i1 i2 [i1,a1] [i2,a2]:=⟨by simp,by simp,by simp [e2.symm,nz1.symm],by simp [e3.symm,nz2.symm],by simp [e8,no1.symm],by simp [e9,no2.symm],by simp [e10,n21.symm],by simp [e10.symm,n12.symm],e1⟩
  have len1:=r1.length;have len2:=r2.length
  unfold pyNext
  refine wpAny_bind (wpAny_attempt (wpAny_callSpecial?_slot (name:=Str.ofString "__next__") hT F.slot_zip_next (wpAny_call_entry F.slot_zip_next hT F.entry_zip_next
   (pM D1 D2 Z hz hTI hTO ⟨h1,p1⟩ ⟨h2,p2⟩ (by simp;omega) (by simp;omega) fun x y h' tk px py hz' hTO' s1 s2 hT' hsz hk=>wpAny_pure ?_) (F.args_zip_next_1 _))))
  have r:Vals [xs.getD i .non,ys.getD i .non] [x,y]:=.cons (iH r1 px) (.cons (iH r2 py) .nil)
  have I1:Inv X pins σ (upd H s.heap.objs.size (.tup [xs.getD i .non,ys.getD i .non])) {s with heap:=h',toks:=tk} :=
   I.je (t':=tk) hf (fun c o hc e=>hk c o (fun q=>hc (by simp [q])) (fun q=>hc (by simp [q])) (fun q=>hc (by simp [q])) (fun q=>hc (by simp [q])) e) r (by show 2≤sizeLine;decide) ⟨_,hT',rfl,_,rfl⟩
  have nH:H s.heap.objs.size=none:=I.hok.fresh (aN _)
  have fresh:∀b∈[z,TI,TO,i1,i2],(upd H s.heap.objs.size (.tup [xs.getD i .non,ys.getD i .non])) b=none:=fun b hb=>by
   rw [bS ?_]
   ·exact (hf b hb).1
   ·simp only [aU,dC,or_false] at hb
    rcases hb with rfl | rfl | rfl | rfl | rfl
    ·exact bz (aW hz)
    ·exact bz (aW hTI)
    ·exact bz (aW hTO)
    ·obtain ⟨o,e,_⟩:=h1.obj;exact bz (aW e)
    ·obtain ⟨o,e,_⟩:=h2.obj;exact bz (aW e)
  obtain ⟨f0,f1,f2,f3,f4,f5⟩:=hf z (by simp)
  refine ⟨_,rfl,wpAny_letOwnedTupleGo_zip hz' fun h2' hz2 sb=>⟨.ref s.heap.objs.size,_,I1.turned (t':=tk) (fun b o hb e=>(sb.2 b hb).trans e) (fresh z (by simp)) f1 f3 f4 f5,rfl,⟨_,rfl,nH,rfl⟩,⟨hz2,?_,⟨x,y,?_⟩,?_,?_⟩,fresh⟩⟩
  ·exact (sb.2 TI e4).trans (hk _ _ e4 e5 e6 e7 hTI)
  ·exact (sb.2 TO e1).trans hTO'
  ·exact s1.1.keep fun o e=>(sb.2 i1 e2).trans e
  ·exact s2.1.keep fun o e=>(sb.2 i2 e3).trans e
 done:=by
  intro X hP hw hK hc i pins s σ H E I hf st hg
  subst hP hw hK
  obtain ⟨hz,hTI,⟨a,b',hTO⟩,h1,h2⟩:=st
  obtain ⟨q1,q2,hx⟩:=hg
  obtain ⟨its1,r1,p1,z1⟩:=I.src q1
  obtain ⟨its2,r2,p2,z2⟩:=I.src q2
  have nz1:=I.gz q1 (hf z (by simp));have nz2:=I.gz q2 (hf z (by simp));have no1:=I.gz q1 (hf TO (by simp));have no2:=I.gz q2 (hf TO (by simp));have n11:=I.gz q1 (hf i1 (by simp));have n12:=I.gz q1 (hf i2 (by simp));have n21:=I.gz q2 (hf i1 (by simp));have n22:=I.gz q2 (hf i2 (by simp))
  obtain ⟨e1,e2,e3,e4,e5,e6,e7,e8,e9,e10⟩:=ne
  have hT:s.TypeIs (.ref z) "zip":=⟨_,hz,rfl⟩
  have D1:=fL (prog:=X.prog) (w:=X.w) (A:=X.A.in1) (I.ok.hd hc) b1 i1 a1 n11 its1.toArray
  have D2:=fL (prog:=X.prog) (w:=X.w) (A:=X.A.in1) (I.ok.hd hc) b2 i2 a2 n22 its2.toArray
  have Z:ZA z TO i1 i2 [i1,a1] [i2,a2]:=⟨by simp,by simp,by simp [e2.symm,nz1.symm],by simp [e3.symm,nz2.symm],by simp [e8,no1.symm],by simp [e9,no2.symm],by simp [e10,n21.symm],by simp [e10.symm,n12.symm],e1⟩
  have len1:=r1.length;have len2:=r2.length
  unfold pyNext
  refine wpAny_bind (wpAny_attempt (wpAny_callSpecial?_slot (name:=Str.ofString "__next__") hT F.slot_zip_next (wpAny_call_entry F.slot_zip_next hT F.entry_zip_next
   (sr D1 D2 Z hz hTI hTO ⟨h1,p1⟩ ⟨h2,p2⟩ (by simp;omega) fun h' tk e hk he=>?_) (F.args_zip_next_1 _))))
  obtain ⟨o,ho,hcl⟩:=he
  refine wpAny_bind (wpAny_isInstance (T:="StopIteration") (b:=true) ⟨o,ho,hcl⟩ isSubtype_stop ?_)
  exact wpAny_pure ⟨rfl,I.jL (t':=tk) hf fun c o hc e=>hk c o (fun q=>hc (by simp [q])) (fun q=>hc (by simp [q])) (fun q=>hc (by simp [q])) (fun q=>hc (by simp [q])) e⟩
 self:=fun A i s Q E st h=>wpAny_pyIter_zip st.1 h
structure ItP (J:It) (n:Nat) (val:Nat→List V) (C:Hp→Prop):Prop where
 go:∀i H,C H→i<n→J.go i H
 yld:∀i H x H',C H→i<n→J.yld i H x H'→∃p,x=.ref p∧H p=none∧H'=upd H p (.tup (val i))
 stop:∀H,C H→J.stop n H
theorem vD {K:ai} {b1 b2:Bool} {a1 a2:Addr} {xs ys:List V}:ItP (Itz K b1 b2 a1 a2 xs ys) (min xs.length ys.length) (fun i=>[xs.getD i .non,ys.getD i .non]) (fun H=>SqB b1 K H a1 xs∧SqB b2 K H a2 ys) where
 go:=fun i H c hi=>⟨c.1,c.2,by omega,by omega⟩
 yld:=fun i H x H' c hi y=>y
 stop:=fun H c=>⟨c.1,c.2,rfl⟩
theorem SqB.same {b:Bool} {K:ai} {H H':Hp} {a:Addr} {xs:List V} (h:SqB b K H a xs) (S:bx H H'):SqB b K H' a xs:=by
 cases b
 ·exact S.seq h
 ·exact S.tup h
def CQ (K:ai) (ta:TA):TI:=fun σ H R=>ta σ H fun vs H1=>∃(b1 b2:Bool) (a1 a2:Addr) (xs ys:List V),vs=[.ref a1,.ref a2]∧SqB b1 K H1 a1 xs∧SqB b2 K H1 a2 ys ∧
 ∀J C,ItP J (min xs.length ys.length) (fun i=>[xs.getD i .non,ys.getD i .non]) C→(∀H2,SqB b1 K H2 a1 xs→SqB b2 K H2 a2 ys→C H2)→R J H1
section
variable {X:Cx} {K:ai} {elts:List Expr} {kx:Nat} {tpos:Pos}
theorem ma {a b:Expr} {ta:TA} {p pos:Pos} (hK:X.K=K) (hg:Gl X "zip") (hm:X.mg "zip"=none) (ha:PA X [a,b] ta) (hs:starEach [a,b] X.env=[(false,eval a X.env),(false,eval b X.env)]:=by rfl) (hs2:starEach [b] X.env=[(false,eval b X.env)]:=by rfl) :
  PI X (.Tuple elts kx tpos) (.Call (.Name "zip" p) [a,b] [] pos) (CQ K ta):=by
 subst hK
 intro pins s σ H R I h
 refine Call_ (iA I hg hm boot_zip (cq (thn (ha pos pins s σ H _ I h) fun us s1 ⟨vs,H1,I1,r1,q1⟩=>?_) (by rw [hs,hs2]) (by rw [hs2];rfl)))
 obtain ⟨b1,b2,a1,a2,xs,ys,e,q1,q2,q⟩:=q1
 subst e
 obtain ⟨u,u',rfl,rx,ry⟩:=vals2 r1
 cases rx;cases ry
 obtain ⟨its1,rv1,p1,z1⟩:=I1.src q1
 obtain ⟨its2,rv2,p2,z2⟩:=I1.src q2
 refine rV p1 p2 fun h' hz hTI hTO h1 h2 hk=>wpAny_pyIter_zip hz ?_
 have I2:Inv X pins σ H1 {s1 with heap:=h'}:=I1.kept (t':=s1.toks) hk
 refine ⟨_,[s1.heap.objs.size+4,s1.heap.objs.size+2,s1.heap.objs.size+3,s1.heap.objs.size,s1.heap.objs.size+1],_,_,H1,rfl,I2,sM b1 b2 a1 a2 _ _ _ _ _ xs ys (wH s1.heap.objs.size),⟨hz,hTI,⟨_,_,hTO⟩,h1,h2⟩,fun b hb=>?_,q _ _ vD fun H2 k1 k2=>⟨k1,k2⟩⟩
 have:s1.heap.objs.size≤b:=by
  simp only [aU,dC,or_false] at hb
  rcases hb with rfl | rfl | rfl | rfl | rfl<;>first | exact Nat.le_add_right _ _ | exact aN _
 exact I1.wx this (I1.hok.fresh this)
end
theorem mq {J:It} {n:Nat} {val:Nat→List V} {C:Hp→Prop} {g:TG} {tt:TT} {te:TE} {σ0:St} {Q:VK} {H:Hp} (O:ItP J n val C) (Pv:Nat→List V→Hp→Prop) (hn:n≤sizeLine) (h0:Pv 0 [] H) (hl:∀i ys H,i≤n→Pv i ys H→C H∧ys.length≤i)
  (hs:∀i ys H p,i<n→Pv i ys H→H p=none→g (.ref p) σ0 (upd H p (.tup (val i))) fun σ2 H2=>Wk σ0 σ2∧tt σ2 H2 fun k H3=>if k=true then te σ2 H3 fun v H4=>ys.length<sizeLine∧∃m',m'<n-i∧(m'=n-(i+1)∧i+1≤n∧Pv (i+1) (ys++[v]) H4) else ∃m',m'<n-i∧(m'=n-(i+1)∧i+1≤n∧Pv (i+1) ys H3))
  (hd:∀ys H,Pv n ys H→∀p,H p=none→Q (.ref p) (upd H p (.lst ys))):LcW J g tt te σ0 Q H:=by
 refine ⟨fun i m ys H=>m=n-i∧i≤n∧Pv i ys H,⟨n,by simp,dU _,h0⟩,?_⟩
 rintro i m ys H ⟨rfl,hi,p⟩
 obtain ⟨c,hy⟩:=hl i ys H hi p
 refine ⟨by omega,?_⟩
 by_cases hlt:i<n
 ·refine .inr ⟨O.go i H c hlt,fun x H' y=>?_⟩
  obtain ⟨q,rfl,hq,rfl⟩:=O.yld i H x H' c hlt y
  exact hs i ys _ q hlt p hq
 ·obtain rfl:i=n:=by omega
  exact .inl ⟨O.stop H c,hd ys H p⟩
theorem jk {J:It} {n:Nat} {val:Nat→List V} {C:Hp→Prop} {g:TG} {tb:TS} {D:Ends} {σ:St} {H:Hp} (O:ItP J n val C) (Pv:Nat→St→Hp→Prop) (h0:Pv 0 σ H) (hl:∀i σ H,i≤n→Pv i σ H→C H)
  (hs:∀i σ H p,i<n→Pv i σ H→H p=none→g (.ref p) σ (upd H p (.tup (val i))) fun σ2 H2=>tb {D with nx:=Pv (i+1),ct:=Pv (i+1),bk:=D.nx} σ2 H2) (hd:∀σ H,Pv n σ H→D.nx σ H) :
  ∃W:Nat→Nat→St→Hp→Prop,(∃m,W 0 m σ H)∧∀i m σ H,W i m σ H→(J.stop i H∧D.nx σ H)∨(J.go i H∧∃N:St→Hp→Prop,(∀σ' H',N σ' H'→∃m',m'<m∧W (i+1) m' σ' H')∧∀x H',J.yld i H x H'→g x σ H' fun σ2 H2=>tb {D with nx:=N,ct:=N,bk:=D.nx} σ2 H2):=by
 refine ⟨fun i m σ H=>m=n-i∧i≤n∧Pv i σ H,⟨n,by simp,dU _,h0⟩,?_⟩
 rintro i m σ H ⟨rfl,hi,p⟩
 have c:=hl i σ H hi p
 by_cases hlt:i<n
 ·refine .inr ⟨O.go i H c hlt,Pv (i+1),fun σ' H' p'=>⟨n-(i+1),by omega,rfl,hlt,p'⟩,fun x H' y=>?_⟩
  obtain ⟨q,rfl,hq,rfl⟩:=O.yld i H x H' c hlt y
  exact hs i σ _ q hlt p hq
 ·obtain rfl:i=n:=by omega
  exact .inl ⟨O.stop H c,hd σ H p⟩
end L2
namespace L2
open PySem PySem.Spec PyProof.Rows
section
variable {X:Cx} {K:ai}
theorem jI (hK:X.K=K):BH X (fun o i H Q=>∃p xs k v,o=.ref p∧i=.int k∧0≤k∧SqL K H p xs∧xs[k.toNat]?=some v∧Q v H):=by
 subst hK
 intro pins s σ H o i ov iv Q I ro ri h
 obtain ⟨p,xs,k,v,rfl,rfl,h0,hq,hx,q⟩:=h
 cases ro
 obtain ⟨t,rfl⟩:=ri
 obtain ⟨its,r,pl,hz⟩:=I.list hq
 obtain ⟨u,hu,ru⟩:=r.get hx
 have hl:k.toNat<xs.length:=(cE.mp hx).1
 have hn:=kB
 exact wpAny_getItem_list pl.isList h0 (by omega) (by simpa using hu) ⟨v,H,I,ru,q⟩
end
theorem hX.calm {P:Program} {w:World} {K:ai} {mg:Str→Option Value} {base:Heap} {k:Nat} {x:Str} {ps:List Str} {sp:Sp} (D:hX P w K mg base k x ps sp):Def P w K mg base k x ps (fun vs H Q _=>sp vs H Q fun _ _ _=>False):=by
 obtain ⟨f,fd,F,m,kp,b⟩:=D
 refine ⟨f,fd,⟨fun vs H Q E h=>F.len _ _ _ _ h,fun A outer s H args us vs Q E hr he hb hv hs=>codeAny_mono (F.run A outer s H args us vs Q _ hr he hb hv hs) fun r s' hq=>?_⟩,m,kp,b⟩
 cases r with
 | error e=>obtain ⟨_,_,_,_,_,_,_,_,_,_,_,z⟩:=hq;exact z.elim
 | ok fl=>cases fl<;>exact hq
theorem getD_ints {ns:List Int} {i:Nat} (h:i<ns.length):(ns.map V.int).getD i .non=.int (ns.getD i 0):=by
 rw [ae,a_,ae,aj h];rfl
theorem jJ {ns:List Int} {i:Nat} (h:i<ns.length):(ns.map V.int)[i]?=some (.int (ns.getD i 0)):=by
 rw [a_,ae,aj h];rfl
theorem gN {ns:List Int} {i:Nat} {v:Int}:(ns.map V.int).set i (.int v)=(ns.set i v).map V.int:=by rw [List.map_set]
theorem lI {ns:List Int} {i p:Nat} {v:Int} (h:p<ns.length):(ns.set i v).getD p 0=if i=p then v else ns.getD p 0:=by
 by_cases e:i=p
 ·subst e;rw [if_pos rfl,ae,List.getElem?_set_self h];rfl
 ·rw [if_neg e,ae,dB e,ae]
theorem gY (n:Nat) (v:Int):(au n [V.int v]).flatten=(au n v).map V.int:=by
 induction n with
 | zero=>rfl
 | succ n ih=>rw [dj,List.flatten_cons,ih,dj];rfl
theorem ja (ns:List Int) (lo hi:Option Int):∃ms:List Int,sm (ns.map V.int) lo hi=ms.map V.int∧ms.length≤ns.length:=by
 refine ⟨(ns.drop (HT.sIx (ns.map V.int).length 0 lo)).take (HT.sIx (ns.map V.int).length (ns.map V.int).length hi-HT.sIx (ns.map V.int).length 0 lo),?_,?_⟩
 ·unfold sm;rw [fb,fZ]
 ·rw [aC,cM];omega
end L2
namespace L2
open PySem PySem.Spec PyProof.Rows
structure nQ (k:Nat) (A:Around):Prop where
 dp:A.depth+3*k+5<recursionLimit
 un:A.units+16*k+200<cLine
theorem iT.held {k:Nat} {A:Around} {v:Option Value} (r:iT k A):nQ k (A.mark v):=⟨r.dp,r.un⟩
theorem nQ.mono {j k:Nat} {A:Around} (r:nQ k A) (h:j≤k):nQ j A:=⟨by have:=r.dp;omega,by have:=r.un;omega⟩
abbrev cxC (P:Program) (w:World) (K:ai) (mg:Str→Option Value) (base:Heap) (N:List Str) (qual:Str) (scope:Scope) (f:Addr) (cd:Value) (A:Around) (outer:List Env) (s:Shared) (H:Hp) (E:XK):Cx:={pH CX0 P w K mg base N qual scope f cd A outer s H E with calm:=false}
theorem pe {P:Program} {w:World} {K:ai} {mg:Str→Option Value} {base:Heap} {N ps:List Str} {qual:Str} {scope:Scope} {f:Addr} {cd:Value} {A:Around} {outer:List Env} {s s1:Shared} {H:Hp} {E:XK} {us:List Value} {vs:List V}
  (S:bY N ps scope) (e0:sq P w K mg base A outer s H) (hl:vs.length=ps.length) (r:Vals vs us) (x:InCallC s s.heap.objs.size (bindL (envOfC qual scope s.heap.objs.size f cd).kindOf (ps.zip us) fun _=>none) (cellsFrom (s.heap.objs.size+1) scope.names []) (bindC (envOfC qual scope s.heap.objs.size f cd).kindOf (ps.zip us) fun _=>none) s1) :
  Inv (cxC P w K mg base N qual scope f cd A outer s H E) [] (start N vs) H s1:=by
 have e1:sq P w K mg base {A with handled:=none} outer s H:=⟨e0.frames,e0.mod,e0.bs,e0.bsz,e0.lJ,e0.frf,e0.hok,e0.bare⟩
 have I:=mz (CX:=CX0) (E:=E) (A:={A with handled:=none}) S rfl e1 hl r x
 exact ⟨⟨I.ok.mod,I.ok.kind,I.ok.glob,I.ok.blt,I.ok.above,I.ok.inj,I.ok.has,I.ok.cab,fun z=>(aV z).elim,Around.frames_deeper e0.frames,I.ok.stk,I.ok.exf,I.ok.bs,I.ok.bsz,I.ok.noex,I.ok.exfs,I.ok.lJ,I.ok.frf⟩,I.os,I.bare,I.base,I.loc,I.cell,I.free,I.freeC,I.pin,I.hok,I.len⟩
structure ui (P:Program) (w:World) (K:ai) (mg:Str→Option Value) (base:Heap) (k:Nat) (f:Addr) (fd:FuncData) (ps:List Str) (sp:Sp):Prop where
 len:∀vs H Q E,sp vs H Q E→vs.length=ps.length
 run:∀(A:Around) (outer:List Env) (s:Shared) (H:Hp) (args:Args) (us:List Value) (vs:List V) (Q:VK) (E:XK),nQ k A→sq P w K mg base A outer s H→BindsTo s fd args (ps.zip us)→Vals vs us→sp vs H Q E→codeAny (model P w) A (.call (.ref f) args) (CR CX0 outer P w H s Q E) s
theorem Fun.okC {P:Program} {w:World} {K:ai} {mg:Str→Option Value} {base:Heap} {x qual:Str} {st:Stmt} {f:Addr} {fd:FuncData} {N ps:List Str} {k:Nat} {sp:Sp} (F:Fun K x qual st f fd) (S:bY N ps (az st)) (len:∀vs H Q E,sp vs H Q E→vs.length=ps.length)
  (hbody:∀(cdv:Value) (A:Around) (outer:List Env) (s:Shared) (H:Hp) (vs:List V) (Q:VK) (E:XK),nQ k (A.deeper (envOfC qual (az st) s.heap.objs.size f cdv))→sp vs H Q E →
   ∃t,PSs (cxC P w K mg base N qual (az st) f cdv A outer s H E).nox (bR st) t∧t {nx:=fun _ H'=>Q .non H',rt:=Q} (start N vs) H):ui P w K mg base (k+1) f fd ps sp:=by
 obtain ⟨oc,od,kV,doc,pm,an,cdv,ct,osl,rfl,lk,hcd⟩:=F.ex
 refine ⟨len,fun A outer s H args us vs Q E hr e0 hb r hsp=>?_⟩
 have hl:=len _ _ _ _ hsp
 have KX:K.In s.heap:=e0.mod.kin.keeps fun b o e=>(e0.bs b o e).1
 have lim:s.heap.NoLimit:=e0.mod.nolimit.keeps fun b o e=>(e0.bs b o e).1
 have hkind:∀y∈ps.zip us,(az st).names.lookup y.1=some .local∨((az st).names.lookup y.1=some .cell∧((cellsFrom (s.heap.objs.size+1) (az st).names []).lookup y.1).isSome=true):=fun ⟨n,v⟩ hy=>by
  rcases S.par n (List.of_mem_zip hy).1 with q | q
  ·exact .inl q
  ·exact .inr ⟨q,PySem.W.cellsFrom_some _ _ _ (.inl q)⟩
 refine codeAny_call_function (by have:=hr.dp;omega) (KX _ _ lk) rfl S.co S.gen rfl (PySem.W.codeRec_of KX hcd) (hb _ _ _ _ ?_)
 refine wpAny_newFunctionEnv_cells S.kind hkind fun env he s1 x=>?_
 subst he
 refine ⟨lim.keeps x.toInCall.keep,codeAny_func ?_⟩
 obtain ⟨t,ht',hq⟩:=hbody cdv A outer s H vs Q E ⟨by have:=hr.dp;show A.depth+1+3*k+5<_;omega,by have:=hr.un;show A.units+3+16*k+200<_;omega⟩ hsp
 have ht:=ht'.nox
 have I:Inv (cxC P w K mg base N qual (az st) f cdv A outer s H E) [] (start N vs) H s1:=pe S e0 hl r x
 refine wpAny_mono (ht [] s1 (start N vs) H _ I hq) (fun fl s' hs=>?_) fun e s' hs=>hs
 have fin:∀{σ':St} {H':Hp} {v:V} {u:Value},Inv (cxC P w K mg base N qual (az st) f cdv A outer s H E) [] σ' H' s'→RelV v u→Q v H'→CE outer P w H s Q u s':=fun {σ' H' v u} J rv q=>⟨v,H',J.os,J.bare,J.base,J.hok,rv,q⟩
 cases fl with
 | ret u=>obtain ⟨v,σ',H',J,rv,q⟩:=hs;exact fin J rv q
 | next=>obtain ⟨σ',H',J,q⟩:=hs;exact fin (v:=V.non) (u:=Value.none) J rfl q
 | brk=>obtain ⟨_,_,_,q⟩:=hs;exact False.elim q
 | cont=>obtain ⟨_,_,_,q⟩:=hs;exact False.elim q
def yh (P:Program) (w:World) (K:ai) (mg:Str→Option Value) (base:Heap) (k:Nat) (x:Str) (ps:List Str) (sp:Sp):Prop :=
 ∃f fd,ui P w K mg base k f fd ps sp∧mg x=some (.ref f)∧aH K (.ref f)=true∧Binds K fd ps []
theorem yh.of {P:Program} {w:World} {K:ai} {mg:Str→Option Value} {base:Heap} {k:Nat} {x qual:Str} {ps:List Str} {sp:Sp} {st:Stmt} {f:Addr} {fd:FuncData}
  (F:Fun K x qual st f fd) (m:mg x=some (.ref f)) (b:Binds K fd ps []) (ok:ui P w K mg base k f fd ps sp):yh P w K mg base k x ps sp:=⟨f,fd,ok,m,F.kp,b⟩
theorem vt {X:Cx} {k k':Nat} {x:Str} {ps:List Str} {sp:Sp} {e:Expr} {es:List Expr} {t:TA} {p pos:Pos} (D:yh X.prog X.w X.K X.mg X.base k x ps sp) (hr:nQ k' X.A) (ha:PA X (e::es) t) (hk:k≤k':=by decide) (hg:Gl X x:=by rfl)
  (hdb:(x==("__debug__":Str))=false:=by decide) (he:starEach (e::es) X.env=(false,eval e X.env)::starEach es X.env:=by rfl) (hpl:(backTo pos (starEach es X.env)).any (·.1)=false:=by rfl) :
  PE X (.Call (.Name x p) (e::es) [] pos) (fun σ H Q=>t σ H fun vs H1=>sp vs H1 Q E0):=by
 obtain ⟨f,fd,F,m,kp,b⟩:=D
 intro pins s σ H Q I h
 refine wpAny_Call_Name_kw (iS I hg m ?_ hdb)
 refine PySem.W.callWith_K (h₀:=X.base) I.ok.mod.kin kp (thn (ha pos pins s σ H _ I h) fun us s1 ⟨vs,H1,I1,r,q⟩=>⟨I1.kIn,?_⟩) he hpl
 have hl:(us++[]).length=ps.length:=by rw [bB,←r.length];exact F.len _ _ _ _ q
 have bt:=b s1 us I1.kIn hl
 rw [bB] at bt
 refine wpAny_call (codeAny_mono (F.run X.A X.stack s1 H1 ⟨us,[]⟩ us vs Q E0 (hr.mono hk) I1.yF bt r q) fun r s' hq=>?_)
 cases r with
 | error e=>exact False.elim hq
 | ok fl =>
  cases fl with
  | ret u=>exact I1.after hq
  | next=>exact False.elim hq
  | brk=>exact False.elim hq
  | cont=>exact False.elim hq
def AW (K:ai) (tl:TE):TI:=fun σ H R=>tl σ H fun x H1=>∃b a xs,x=.ref a∧SqB b K H1 a xs∧∀J C,v_ J xs.length (fun i=>xs.getD i .non) C→(∀H2,SqB b K H2 a xs→C H2)→R J H1
theorem ju {X:Cx} {K:ai} {tg l:Expr} {tl:TE} (hK:X.K=K) (hl:PE X l tl):PI X tg l (AW K tl):=by
 subst hK
 intro pins s σ H R I h
 refine thn (hl pins s σ H _ I h) fun v s1 ⟨x,H1,I1,r1,q1⟩=>?_
 obtain ⟨b,a,xs,e,hq,q⟩:=q1
 subst e
 cases r1
 have fp:∀b∈[s1.heap.objs.size],mT X pins H1 b:=fun b hb=>by
  have e:b=s1.heap.objs.size:=by simpa using hb
  rw [e];exact I1.wx (aN _) (I1.hok.fresh (aN _))
 cases b
 ·obtain ⟨its,rv,p,hz⟩:=I1.list hq
  exact wpAny_pyIter_list p.isList ⟨s1.heap.objs.size,[s1.heap.objs.size],_,_,H1,rfl,I1.kept (t':=s1.toks) fun b o e=>ao _ e,lR a _,⟨_,bo _ rfl,rfl,rfl⟩,fp,q _ _ mw fun H2 S=>S⟩
 ·obtain ⟨its,rv,p,hz⟩:=I1.tuple hq
  exact wpAny_pyIter_tuple (show s1.heap.IsTuple a its.toArray from p) ⟨s1.heap.objs.size,[s1.heap.objs.size],_,_,H1,rfl,I1.kept (t':=s1.toks) fun b o e=>ao _ e,kq a _,⟨_,bo _ rfl,rfl,rfl⟩,fp,q _ _ oq fun H2 S=>S⟩
end L2
namespace L2
open PySem PySem.Spec PyProof.Rows
set_option maxRecDepth 100000
section
variable {prog:Program} {w:World} {A:Around} {E:Value→Shared→Prop} {s:Shared}
end
section
variable {prog:Program} {w:World} {A:Around} {E:Value→Shared→Prop} {s:Shared}
end
section
variable {X:Cx} {K:ai}
end
end L2
namespace L2
open PySem PySem.Spec PyProof.Rows
section
variable {X:Cx}
theorem gD:OpR X (binaryOp .Mult) (rI (fun i j=>i.natAbs<2^200∧j.natAbs<2^200) fun i j=>.int (i*j)):=opI fun i j _ _ _ _ _ hc q=>mul_int q (by
 have h1:=intBits_le hc.1
 have h2:=intBits_le hc.2
 unfold IntMulOk
 intro h
 rw [cC] at h
 have h3:((Builtin.Int.intBits i+Builtin.Int.intBits j:Nat):Int)>bitsLine:=of_decide_eq_true h.2
 have h4:(400:Int)≤bitsLine:=by decide
 omega)
end
end L2
namespace L2
open PySem PySem.Spec PyProof.Rows
open AutoSeq1 (wpAny_loadPart')
set_option maxRecDepth 100000
theorem nk (l:Addr) (items:Array Value) (n:Nat) (dct:Option Addr) (sl:Array (Option Value)):Meets (Builtin.«enumerate.__new__» ⟨[.type "enumerate",.ref l],[]⟩) (fun _ R s=>s.heap.get? l=some {cls:=.type "tuple",dict:=dct,data:=.seq items n,slots:=sl} ∧
   R (.ok (.ret (.ref (s.heap.push {cls:=.type "tuple_iterator",data:=.fields #[.ref l,.int 0 0]}).objs.size))) {s with heap:=(s.heap.push {cls:=.type "tuple_iterator",data:=.fields #[.ref l,.int 0 0]}).push {cls:=.type "enumerate",data:=.fields #[.none,.bool false,.ref s.heap.objs.size,rawInt 0,.none,.none]}}) :=
 .of_wp fun prog w A R s h=>by
  obtain ⟨at_,told⟩:=h
  obtain ⟨hp,gs,dn,tk,os⟩:=s
  have self:=sub_enumerate
  have seq:Heap.IsTuple (Shared.heap ⟨hp,gs,dn,tk,os⟩) l items:=⟨_,at_,rfl,n,rfl⟩
  wp_walk using AutoSeq1.wpAny_loadPart' at_
  apply wpAny_stack_any
  intro rows
  apply wpAny_pure
  split
  rename_i cl _ _ _ _ _
  rcases Bool.eq_false_or_eq_true (cl==Value.type "enumerate") with q | q<;>rw [q]
  all_goals wp_walk using AutoSeq1.wpAny_loadPart' at_,wpAny_pyIter_tuple seq
  all_goals exact ⟨_,rfl,told⟩
section
variable {prog:Program} {w:World} {A:Around} {E:Value→Shared→Prop} {s:Shared}
theorem pI {l:Addr} {items:Array Value} {Q:Value→Shared→Prop} (hL:s.heap.IsTuple l items)
  (h:∀h',IsEnum h' (s.heap.objs.size+1) s.heap.objs.size 0 .none→h'.IsTupleIter s.heap.objs.size l 0→(∀b o,s.heap.get? b=some o→h'.get? b=some o)→Q (.ref (s.heap.objs.size+1)) {s with heap:=h'}):wpAny (model prog w) A (call (.type "enumerate") [.ref l]) Q E s:=by
 obtain ⟨⟨cc,dct,dt,sl⟩,hl,hc,n,hd⟩:=hL
 replace hc:cc=.type "tuple":=hc;replace hd:dt=.seq items n:=hd;subst hc hd
 refine callType_new F.called_enumerate (by decide) (F.typeCall_enumerate_1 _) (F.newCall_enumerate_1 _) (fun obj=>F.args_object_init_2 obj _) F.entry_enumerate_new (nk l items n dct sl) ⟨hl,?_⟩
 have hz:(s.heap.push {cls:=.type "tuple_iterator",data:=.fields #[.ref l,.int 0 0]}).objs.size=s.heap.objs.size+1:=cU ..
 show _∧_
 rw [hz]
 have he:IsEnum ((s.heap.push {cls:=.type "tuple_iterator",data:=.fields #[.ref l,.int 0 0]}).push {cls:=.type "enumerate",data:=.fields #[.none,.bool false,.ref s.heap.objs.size,rawInt 0,.none,.none]}) (s.heap.objs.size+1) s.heap.objs.size 0 .none:=by
  have:=bo (s.heap.push {cls:=.type "tuple_iterator",data:=.fields #[.ref l,.int 0 0]}) (o:={cls:=.type "enumerate",data:=.fields #[.none,.bool false,.ref s.heap.objs.size,rawInt 0,.none,.none]}) rfl
  rw [hz] at this;exact this
 exact ⟨⟨_,he,rfl⟩,h _ he ⟨_,ao _ (bo _ rfl),rfl,rfl⟩ fun b o x=>ao _ (ao _ x)⟩
theorem pJ {b:Bool} {l:Addr} {items:Array Value} {Q:Value→Shared→Prop} (hL:SSq b s.heap l items)
  (h:∀h',IsEnum h' (s.heap.objs.size+1) s.heap.objs.size 0 .none→SIt b h' s.heap.objs.size l 0→(∀b o,s.heap.get? b=some o→h'.get? b=some o)→Q (.ref (s.heap.objs.size+1)) {s with heap:=h'}):wpAny (model prog w) A (call (.type "enumerate") [.ref l]) Q E s:=by
 cases b
 ·exact call_enumerate_list hL fun h' h1 h2 _ h3=>h h' h1 h2 h3
 ·exact pI hL fun h' h1 h2 h3=>h h' h1 h2 h3
end
def Ite (K:ai) (b:Bool) (a:Addr) (xs:List V):It :=
 ⟨fun i H=>SqB b K H a xs∧i<xs.length,fun i H x H'=>∃p,x=.ref p∧H p=none∧H'=upd H p (.tup [.int (i:Nat),xs.getD i .non]),fun i H=>SqB b K H a xs∧i=xs.length⟩
theorem pV {P:Program} {w:World} {K:ai} {elts:List Expr} {kx} {pos:Pos} (b:Bool) (a e it:Addr) (xs:List V) (ne:e≠it) :
  Turn P w K (.Tuple elts kx pos) (Ite K b a xs) [e,it] e (fun i h=>(∃old,IsEnum h e it (i:Nat) old)∧SIt b h it a i) where
 mem:=by simp
 obj:=fun i h st c hc=>by
  obtain ⟨⟨old,he⟩,h1⟩:=st
  simp only [aU,dC,or_false] at hc
  rcases hc with rfl | rfl
  ·exact ⟨_,he,fun v z=>by cases z⟩
  ·exact h1.obj
 keep:=fun i h h' st k=>by
  obtain ⟨⟨old,he⟩,h1⟩:=st
  exact ⟨⟨old,k e (by simp) _ he⟩,h1.keep fun o x=>k it (by simp) o x⟩
 item:=by
  intro X hP hw hK hc i pins s σ H E I hf st hg
  subst hP hw hK
  obtain ⟨⟨old,he⟩,h1⟩:=st
  obtain ⟨q1,hx⟩:=hg
  obtain ⟨its,r1,p1,z1⟩:=I.src q1
  have na:=I.gz q1 (hf it (by simp));have nb:=I.gz q1 (hf e (by simp));have len1:=r1.length
  have D:=fL (prog:=X.prog) (w:=X.w) (A:=X.A.in1) (I.ok.hd hc) b it a na its.toArray
  refine wpAny_pyNext_enum_itemD D he ⟨h1,p1⟩ (by simp;omega) ne (by simp [ne,nb.symm]) fun x h' tk hPx ho hs' hT hsz hk=>?_
  have r:Vals [V.int (i:Nat),xs.getD i .non] [Value.int (i:Nat) tk,x]:=.cons ⟨tk,rfl⟩ (.cons (iH r1 hPx) .nil)
  have I1:Inv X pins σ (upd H s.heap.objs.size (.tup [.int (i:Nat),xs.getD i .non])) {s with heap:=h',toks:=tk+1} :=
   I.je (t':=tk+1) hf (fun c o hc e'=>hk c o (fun q=>hc (by simp [q])) (fun q=>hc (by simp [q])) e') r (by show 2≤sizeLine;decide) ⟨_,hT,rfl,_,rfl⟩
  have nH:H s.heap.objs.size=none:=I.hok.fresh (aN _)
  have fresh:∀c∈[e,it],(upd H s.heap.objs.size (.tup [.int (i:Nat),xs.getD i .non])) c=none:=fun c hc=>by
   rw [bS ?_]
   ·exact (hf c hc).1
   ·simp only [aU,dC,or_false] at hc
    rcases hc with rfl | rfl
    ·exact bz (aW he)
    ·obtain ⟨o,e',_⟩:=h1.obj;exact bz (aW e')
  obtain ⟨f0,f1,f2,f3,f4,f5⟩:=hf e (by simp)
  refine ⟨_,rfl,wpAny_letOwnedTupleGo_enum ho fun h2 he2 sb=>⟨.ref s.heap.objs.size,_,I1.turned (t':=tk+1) (fun b o hb e'=>(sb.2 b hb).trans e') (fresh e (by simp)) f1 f3 f4 f5,rfl,⟨_,rfl,nH,rfl⟩,⟨⟨x,by simpa using he2⟩,?_⟩,fresh⟩⟩
  exact hs'.1.keep fun o e'=>(sb.2 it ne.symm).trans e'
 done:=by
  intro X hP hw hK hc i pins s σ H E I hf st hg
  subst hP hw hK
  obtain ⟨⟨old,he⟩,h1⟩:=st
  obtain ⟨q1,hx⟩:=hg
  obtain ⟨its,r1,p1,z1⟩:=I.src q1
  have na:=I.gz q1 (hf it (by simp));have len1:=r1.length
  have D:=fL (prog:=X.prog) (w:=X.w) (A:=X.A.in1) (I.ok.hd hc) b it a na its.toArray
  have hs:SIt b s.heap it a its.toArray.size:=by rw [aT,←len1,←hx];exact h1
  refine wpAny_pyNext_enum_endD D he ⟨hs,p1⟩ fun h' eb=>⟨rfl,I.jL (t':=s.toks) hf fun c o hc e'=>eb c o (fun q=>hc (by simp [q])) e'⟩
 self:=fun A i s Q E st h=>by obtain ⟨⟨old,he⟩,_⟩:=st;exact wpAny_pyIter_enum he h
theorem tZ {K:ai} {b:Bool} {a:Addr} {xs:List V}:ItP (Ite K b a xs) xs.length (fun i=>[.int (i:Nat),xs.getD i .non]) (fun H=>SqB b K H a xs) where
 go:=fun i H c hi=>⟨c,hi⟩
 yld:=fun i H x H' c hi y=>y
 stop:=fun H c=>⟨c,rfl⟩
def AZ (K:ai) (ta:TA):TI:=fun σ H R=>ta σ H fun vs H1=>∃(b:Bool) (a:Addr) (xs:List V),vs=[.ref a]∧SqB b K H1 a xs∧∀J C,ItP J xs.length (fun i=>[.int (i:Nat),xs.getD i .non]) C→(∀H2,SqB b K H2 a xs→C H2)→R J H1
theorem jR {X:Cx} {K:ai} {elts:List Expr} {kx:Nat} {tpos:Pos} {a:Expr} {ta:TA} {p pos:Pos} (hK:X.K=K) (hg:Gl X "enumerate") (hm:X.mg "enumerate"=none) (ha:PA X [a] ta) (hs:starEach [a] X.env=[(false,eval a X.env)]:=by rfl) :
  PI X (.Tuple elts kx tpos) (.Call (.Name "enumerate" p) [a] [] pos) (AZ K ta):=by
 subst hK
 intro pins s σ H R I h
 refine Call_ (iA I hg hm boot_enumerate (cq (thn (ha pos pins s σ H _ I h) fun us s1 ⟨vs,H1,I1,r1,q1⟩=>?_) hs rfl))
 obtain ⟨b,a1,xs,e,q1,q⟩:=q1
 subst e
 obtain ⟨u,rfl,rx⟩:=vals1 r1
 cases rx
 obtain ⟨its,rv1,p1,z1⟩:=I1.src q1
 refine pJ p1 fun h' he h1 hk=>wpAny_pyIter_enum he ?_
 have I2:Inv X pins σ H1 {s1 with heap:=h'}:=I1.kept (t':=s1.toks) hk
 refine ⟨_,[s1.heap.objs.size+1,s1.heap.objs.size],_,_,H1,rfl,I2,pV b a1 _ _ xs (gq (cA _)),⟨⟨_,he⟩,h1⟩,fun c hc=>?_,q _ _ tZ fun H2 k1=>k1⟩
 have:s1.heap.objs.size≤c:=by
  simp only [aU,dC,or_false] at hc
  rcases hc with rfl | rfl<;>first | exact Nat.le_add_right _ _ | exact aN _
 exact I1.wx this (I1.hok.fresh this)
end L2
namespace L2
open PySem PySem.Spec PyProof.Rows
section
variable {X:Cx} {K:ai}
end
end L2
namespace L2
open PySem PySem.Spec PyProof.Rows
section
variable {prog:Program} {w:World} {A:Around} {E:Value→Shared→Prop} {s:Shared}
end
section
variable {X:Cx} {K:ai}
theorem vi {lo:Int} {n:Nat} {acc:Array Value} (h:ItemsOf (fun i v=>∃t,v=.int (lo+i*1) t) acc n):Vals (((bI n).map fun i=>lo+((i:Nat):Int)).map V.int) acc.toList:=by
 obtain ⟨h1,h2⟩:=h
 have key:∀(us:List Value) (k m:Nat),us.length=m→(∀(j:Nat) v,us[j]?=some v→∃t,v=.int (lo+((k+j:Nat):Int)) t)→Vals (((List.range' k m).map fun i=>lo+((i:Nat):Int)).map V.int) us:=by
  intro us
  induction us with
  | nil=>intro k m hm _;cases hm;exact .nil
  | cons u us ih =>
   intro k m hm hv
   cases m with
   | zero=>cases hm
   | succ m =>
    rw [List.range'_succ,bf,bf]
    refine .cons ?_ (ih (k+1) m (by simpa using hm) fun j v e=>?_)
    ·obtain ⟨t,e⟩:=hv 0 u rfl
     exact ⟨t,by rw [e,Nat.add_zero]⟩
    ·obtain ⟨t,e'⟩:=hv (j+1) v (by simpa using e)
     exact ⟨t,by rw [e',show k+(j+1)=k+1+j by omega]⟩
 rw [List.range_eq_range']
 refine key acc.toList 0 n (by simpa using h1) fun j v e=>?_
 obtain ⟨t,e'⟩:=h2 j v (by simpa using e)
 exact ⟨t,by rw [e',Int.mul_one,Nat.zero_add]⟩
theorem ml {pins:List (Addr×Obj)} {σ:St} {H:Hp} {s:Shared} {E:Value→Shared→Prop} {lo hi:Int} {t u v:Tok} {tk:Nat} {Q:VK} (hh:X.A.handled=none) (I:Inv X pins σ H s) (h1:-(2^62)≤lo) (h2:lo<2^62) (h3:-(2^62)≤hi) (h4:hi<2^62) (hn:(hi-lo).toNat≤1000)
  (q:∀l,H l=none→Q (.ref l) (upd H l (.lst (((bI (hi-lo).toNat).map fun i=>lo+((i:Nat):Int)).map V.int)))) :
  wpAny (model X.prog X.w) X.A (call (.type "list") [.ref s.heap.objs.size]) (EP X pins σ Q) E {s with heap:=s.heap.push {cls:=.type "range",data:=.fields #[.int lo t,.int hi u,.int 1 v]},toks:=tk}:=by
 refine call_list_range (n:=(hi-lo).toNat) hh (IsRange.new ..) (small_one h1 h2 h3 h4) (by rw [rangeSize_one];split<;>omega) (cu hn (by decide)) fun h' tk' acc' c' hk hS hacc=>?_
 have fr:s.heap.objs.size≤(s.heap.push {cls:=.type "range",data:=.fields #[.int lo t,.int hi u,.int 1 v]}).objs.size:=by rw [cU];exact gR _
 have ea:acc'=acc'.toList.toArray:=rfl
 refine ⟨.ref _,_,I.laid (t':=tk') (fun b o e=>hk b o (ao _ e)) fr (show fN X.prog X.w _ h' _ (.lst _) from ⟨?_,acc'.toList,c',vi hacc,hS⟩),rfl,q _ (I.hok.fresh fr)⟩
 rw [aa,aa,bW];exact aL (aE hn)
def BS (ta:TA):TE:=fun σ H Q=>ta σ H fun vs H1=>∃j:Int,vs=[.int j]∧-(2^62)≤j∧j≤1000∧∀l,H1 l=none→Q (.ref l) (upd H1 l (.lst (((bI j.toNat).map fun i=>0+((i:Nat):Int)).map V.int)))
theorem gO {e:Expr} {ta:TA} {p1 p2 pos1 pos2:Pos} (hc:X.calm=true) (hg:Gl X "list") (hm:X.mg "list"=none) (hg2:Gl X "range") (hm2:X.mg "range"=none) (ha:PA X [e] ta)
  (hs:starEach [.Call (.Name "range" p2) [e] [] pos2] X.env=[(false,eval (.Call (.Name "range" p2) [e] [] pos2) X.env)]:=by rfl) (hs2:starEach [e] X.env=[(false,eval e X.env)]:=by rfl) :
  PE X (.Call (.Name "list" p1) [.Call (.Name "range" p2) [e] [] pos2] [] pos1) (BS ta):=by
 intro pins s σ H Q I h
 refine Call_ (iA I hg hm boot_list (cq ?_ hs rfl))
 rw [hs]
 refine Calls.spliced_cons ?_
 refine Call_ (iA I hg2 hm2 boot_range (cq (thn (ha pos2 pins s σ H _ I h) fun us s1 ⟨vs,H1,I1,r1,q1⟩=>?_) hs2 rfl))
 obtain ⟨j,rfl,b1,b2,q⟩:=q1
 obtain ⟨u,rfl,t,rfl⟩:=vals1 r1
 refine call_range_1 (Calls.spliced_nil ?_)
 exact ml (I.ok.hd hc) I1 (by decide) (by decide) b1 (by omega) (by omega) fun l nl=>by rw [Int.sub_zero];exact q l nl
end
theorem rS {xs:List V} {p:Int} (h0:0≤p) (h1:p<(xs.length:Int)):sm xs (some (p+1)) none=xs.drop (p.toNat+1):=by
 have e:HT.sIx xs.length 0 (some (p+1))=p.toNat+1:=by
  show (if p+1<0 then (p+1+(xs.length:Int)).toNat else min (p+1).toNat xs.length)=_
  rw [if_neg (by omega)];omega
 unfold sm
 rw [e,HT.sU,bq (by rw [cM];exact aN _)]
end L2
namespace L2
open PySem PySem.Spec PyProof.Rows
section
variable {X:Cx} {tg:Expr}
end
end L2
namespace L2
open PySem PySem.Spec PyProof.Rows
section
variable {κ:Type} [DecidableEq κ]
def kT (kvs:List (κ×V)) (k:κ):Option V:=(kvs.find? fun kv=>decide (kv.1=k)).map (·.2)
def putK (kvs:List (κ×V)) (k:κ) (v:V):List (κ×V) :=
 if (kvs.any fun kv=>decide (kv.1=k))=true then kvs.map (fun kv=>if kv.1=k then (kv.1,v) else kv) else kvs++[(k,v)]
theorem jB {p:κ×V} {r:List (κ×V)} {k:κ} (e:p.1=k):kT (p::r) k=some p.2:=by simp [kT,fC,e]
theorem jC {p:κ×V} {r:List (κ×V)} {k:κ} (e:¬p.1=k):kT (p::r) k=kT r k:=by simp [kT,fC,e]
theorem kS (k:κ):∀kvs:List (κ×V),(kvs.any fun kv=>decide (kv.1=k))=(kT kvs k).isSome
 | []=>rfl
 | p::r=>by
  rw [fc]
  by_cases e:p.1=k
  ·simp only [jB e,decide_eq_true e,Bool.true_or,Option.isSome_some]
  ·rw [jC e,decide_eq_false e,Bool.false_or];exact kS k r
theorem il (kvs:List (κ×V)) (k:κ) (v:V):(putK kvs k v).length≤kvs.length+1:=by
 unfold putK
 split
 ·rw [aa];omega
 ·rw [ay,bA,List.length_nil];omega
theorem kY {kvs:List (κ×V)} {k:κ} (v:V) (h:kT kvs k=none):putK kvs k v=kvs++[(k,v)]:=by
 unfold putK
 rw [kS,h]
 exact if_neg (by decide)
theorem nR.ka {o:Option V} {u:Option Value} (r:nR o u):o.isSome=u.isSome:=by
 cases o with
 | none=>cases u with
  | none=>rfl
  | some _=>exact (show False from r).elim
 | some _=>cases u with
  | none=>exact (show False from r).elim
  | some _=>rfl
theorem nR.getD {o:Option V} {u:Option Value} {d:V} {d':Value} (r:nR o u) (rd:RelV d d'):RelV (o.getD d) (u.getD d'):=by
 cases o with
 | none=>cases u with
  | none=>exact rd
  | some _=>exact (show False from r).elim
 | some _=>cases u with
  | none=>exact (show False from r).elim
  | some _=>exact r
theorem KV.val {kvs:List (κ×V)} {vs:List (κ×Value)} (r:KV kvs vs) (k:κ):nR (kT kvs k) (valueAt vs k):=by
 unfold KV at r
 induction r with
 | nil=>exact True.intro
 | @cons p q ps qs h t ih =>
  obtain ⟨h1,h2⟩:=h
  by_cases e:p.1=k
  ·have e':q.1=k:=h1.symm.trans e
   have b:valueAt (q::qs) k=some q.2:=by simp [valueAt,fC,e']
   rw [jB e,b];exact h2
  ·have e':¬q.1=k:=fun z=>e (h1.trans z)
   have b:valueAt (q::qs) k=valueAt qs k:=by simp [valueAt,fC,e']
   rw [jC e,b];exact ih
theorem KV.any {kvs:List (κ×V)} {vs:List (κ×Value)} (r:KV kvs vs) (k:κ):(kvs.any fun kv=>decide (kv.1=k))=vs.any fun kv=>decide (kv.1=k):=by
 unfold KV at r
 induction r with
 | nil=>rfl
 | cons h t ih=>rw [fc,fc,ih,h.1]
theorem KV.zO {kvs:List (κ×V)} {vs:List (κ×Value)} (r:KV kvs vs) (k:κ) {y:V} {u:Value} (ry:RelV y u) :
  KV (kvs.map fun kv=>if kv.1=k then (kv.1,y) else kv) (vs.map fun kv=>if kv.1=k then (kv.1,u) else kv):=by
 unfold KV at r ⊢
 induction r with
 | nil=>exact .nil
 | @cons p q ps qs h t ih =>
  rw [bf,bf]
  refine .cons ?_ ih
  obtain ⟨h1,h2⟩:=h
  by_cases e:p.1=k
  ·rw [if_pos e,if_pos (h1.symm.trans e)];exact ⟨h1,ry⟩
  ·rw [if_neg e,if_neg (fun z=>e (h1.trans z))];exact ⟨h1,h2⟩
theorem KV.put {kvs:List (κ×V)} {vs:List (κ×Value)} (r:KV kvs vs) (k:κ) {y:V} {u:Value} (ry:RelV y u):KV (putK kvs k y) (stored vs k u):=by
 unfold putK stored
 rw [r.any k]
 by_cases e:(vs.any fun kv=>decide (kv.1=k))=true
 ·rw [if_pos e,if_pos e];exact r.zO k ry
 ·rw [if_neg e,if_neg e];exact Paired.snoc r ⟨rfl,ry⟩
theorem KV.length {kvs:List (κ×V)} {vs:List (κ×Value)} (r:KV kvs vs):kvs.length=vs.length:=Paired.length r
end
theorem nB {P:Program} {w:World} {k:Key} {u:Value} (r:RelV (kV k) u):(dZ P w).is k u=true:=by
 cases k with
 | inl i=>obtain ⟨t,e⟩:=(show ∃t,u=Value.int i t from r);subst e;exact nj P w i t
 | inr x=>obtain ⟨t,e⟩:=(show ∃t,u=Value.str x t from r);subst e;exact ni P w x t
theorem mx {P:Program} {w:World}:∀{ks:List Key} {us:List Value},Vals (ks.map kV) us→ItemsAre (dZ P w) ks us
 | [],_,r=>by rw [fw] at r;cases r;exact .nil
 | k::ks,_,r=>by
  rw [bf] at r
  cases r with
  | cons h t=>exact .cons (nB h) (mx t)
abbrev KT (H:Hp):List (List Key×V)→List (List Key×Addr×Value)→Prop:=Paired fun p q=>p.1=q.1∧H q.2.1=some (.tup (p.1.map kV))∧RelV p.2 q.2.2
theorem KT.val {H:Hp} {kvs:List (List Key×V)} {xs:List (List Key×Addr×Value)} (r:KT H kvs xs) (k:List Key):nR (kT kvs k) ((atKey xs k).map (·.2)):=by
 induction r with
 | nil=>exact True.intro
 | @cons p q ps qs h t ih =>
  obtain ⟨h1,_,h2⟩:=h
  by_cases e:p.1=k
  ·have e':q.1=k:=h1.symm.trans e
   have b:atKey (q::qs) k=some q.2:=by simp [atKey,fC,e']
   rw [jB e,b];exact h2
  ·have e':¬q.1=k:=fun z=>e (h1.trans z)
   have b:atKey (q::qs) k=atKey qs k:=by simp [atKey,fC,e']
   rw [jC e,b];exact ih
theorem KT.zO {H:Hp} {kvs:List (List Key×V)} {xs:List (List Key×Addr×Value)} (r:KT H kvs xs) (k:List Key) {y:V} {u:Value} (ry:RelV y u) :
  KT H (kvs.map fun kv=>if kv.1=k then (kv.1,y) else kv) (xs.map (putAt k u)):=by
 induction r with
 | nil=>exact .nil
 | @cons p q ps qs h t ih =>
  rw [bf,bf]
  refine .cons ?_ ih
  obtain ⟨h1,h2,h3⟩:=h
  unfold putAt
  by_cases e:p.1=k
  ·rw [if_pos e,if_pos (h1.symm.trans e)];exact ⟨h1,h2,ry⟩
  ·rw [if_neg e,if_neg (fun z=>e (h1.trans z))];exact ⟨h1,h2,h3⟩
theorem KT.put {H:Hp} {kvs:List (List Key×V)} {xs:List (List Key×Addr×Value)} (r:KT H kvs xs) (k:List Key) {b:Addr} {y:V} {u:Value} (hb:H b=some (.tup (k.map kV))) (ry:RelV y u) :
  KT H (putK kvs k y) (storedH xs k b u):=by
 have e:(kvs.any fun kv=>decide (kv.1=k))=(atKey xs k).isSome:=by
  rw [kS,(r.val k).ka,Option.isSome_map]
 unfold putK storedH
 rw [e]
 by_cases q:(atKey xs k).isSome=true
 ·rw [if_pos q,if_pos q];exact r.zO k ry
 ·rw [if_neg q,if_neg q];exact Paired.snoc r ⟨rfl,hb,ry⟩
theorem KT.keeps {H H':Hp} {kvs:List (List Key×V)} {xs:List (List Key×Addr×Value)} (r:KT H kvs xs) (ht:∀b ys,H b=some (.tup ys)→H' b=some (.tup ys)):KT H' kvs xs :=
 Paired.uL r fun _ _ z=>⟨z.1,ht _ _ z.2.1,z.2.2⟩
section
variable {P:Program} {w:World} {H:Hp} {h:Heap} {a:Addr}
theorem xm {u:HO} (ok:HOk P w H h) (e:Rd H a u):fN P w H h a u:=e.ok ok
theorem pE {kvs:List (Key×V)} (ok:HOk P w H h) (e:Rd H a (.dK kvs)):kvs.length≤sizeLine∧(a==sysModules)=false∧∃vs,KV kvs vs∧h.DictOf (dZ P w) a vs :=
 show fN P w H h a (.dK kvs) from xm ok e
theorem ud {kvs:List (Key×V)} (ok:HOk P w H h) (e:H a=some (.dK kvs)):kvs.length≤sizeLine∧(a==sysModules)=false∧∃vs,KV kvs vs∧h.DictOf (dZ P w) a vs:=pE ok (.inl e)
theorem mr {ks:List Key} (ok:HOk P w H h) (e:H a=some (.tup (ks.map kV))):(tupleKind (dZ P w)).is h ks a:=by
 obtain ⟨_,its,r,o,h1,h2,n,h3⟩:=(show fN P w H h a (.tup (ks.map kV)) from ok a _ e)
 exact ⟨o,its.toArray,n,h1,h2,h3,by simpa using mx r⟩
theorem pD {kvs:List (List Key×V)} (ok:HOk P w H h) (e:Rd H a (.dT kvs)):kvs.length≤sizeLine∧(a==sysModules)=false ∧
  ∃xs,KT H kvs xs∧h.DictOfH (tupleKind (dZ P w)) a xs:=by
 obtain ⟨z,y,xs,r,o,es,ep,h1,h2,h3,h4,h5⟩:=(show fN P w H h a (.dT kvs) from xm ok e)
 refine ⟨z,y,xs,r,o,es,ep,h1,h2,h3,h4,fun x hx=>?_,h5⟩
 have all:∀{l:List (List Key×V)} {m:List (List Key×Addr×Value)},KT H l m→∀x∈m,(tupleKind (dZ P w)).is h x.1 x.2.1:=by
  intro l m q
  induction q with
  | nil=>intro x hx;exact nomatch hx
  | @cons p q ps qs hq t ih =>
   intro x hx
   rcases aU.mp hx with e | hx
   ·subst e
    exact mr ok (by rw [←hq.1];exact hq.2.1)
   ·exact ih x hx
 exact all r x hx
theorem Bc {kvs:List (List Key×V)} (ok:HOk P w H h) (e:H a=some (.dT kvs)):kvs.length≤sizeLine∧(a==sysModules)=false ∧
  ∃xs,KT H kvs xs∧h.DictOfH (tupleKind (dZ P w)) a xs:=pD ok (.inl e)
end
def kQ (H:Hp) (a:Addr) (y:V) (r:Option V):Prop :=
 (∃kvs k,Rd H a (.dK kvs)∧y=kV k∧r=kT kvs k)∨∃kvs k b,Rd H a (.dT kvs)∧y=.ref b∧H b=some (.tup (k.map kV))∧r=kT kvs k
def wD (H:Hp) (a:Addr) (y v:V) (H':Hp):Prop :=
 (∃kvs k,H a=some (.dK kvs)∧y=kV k∧kvs.length<sizeLine∧H'=upd H a (.dK (putK kvs k v))) ∨
 ∃kvs k b,H a=some (.dT kvs)∧y=.ref b∧H b=some (.tup (k.map kV))∧kvs.length<sizeLine∧H'=upd H a (.dT (putK kvs k v))
theorem kQ.k {H:Hp} {a:Addr} {kvs:List (Key×V)} {k:Key} (e:H a=some (.dK kvs)):kQ H a (kV k) (kT kvs k):=.inl ⟨kvs,k,.inl e,rfl,rfl⟩
theorem wD.k {H:Hp} {a:Addr} {kvs:List (Key×V)} {k:Key} {v:V} (e:H a=some (.dK kvs)) (hl:kvs.length<sizeLine):wD H a (kV k) v (upd H a (.dK (putK kvs k v))):=.inl ⟨kvs,k,e,rfl,hl,rfl⟩
section
variable {X:Cx} {pins:List (Addr×Obj)} {σ:St} {H:Hp} {s:Shared} {a:Addr} {y v:V} {u r:Value} {o:Option V} {A:Around} {E:Value→Shared→Prop}
theorem Inv.big (I:Inv X pins σ H s):sysModules<s.heap.objs.size:=by
 have h:mainGlobals<s.heap.objs.size:=(I.mod.glob.keeps I.bk).lt
 exact Nat.lt_trans (by decide) h
theorem rP {Q:Value→Shared→Prop} (hu:A.units+1<cLine) (I:Inv X pins σ H s) (g:kQ H a y (some v)) (ry:RelV y u) (h:∀w' s',Inv X pins σ H s'→RelV v w'→Q w' s') :
  wpAny (model X.prog X.w) A (getItem (.ref a) u) Q E s:=by
 rcases g with ⟨kvs,k,e,ey,l⟩ | ⟨kvs,k,b,e,ey,eb,l⟩
 ·subst ey
  obtain ⟨z,hd,vs,rel,dd⟩:=pE I.hok e
  obtain ⟨w',hw,rw'⟩:=nR.some_of (v:=v) (o:=valueAt vs k) (by rw [l];exact rel.val k)
  exact wpAny_getItem_of (nB ry) dd.mapOf hw (h w' _ (I.tok _) rw')
 ·subst ey
  cases (show u=Value.ref b from ry)
  obtain ⟨z,hd,xs,rel,dd⟩:=pD I.hok e
  obtain ⟨w',hw,rw'⟩:=nR.some_of (v:=v) (o:=(atKey xs k).map (·.2)) (by rw [l];exact rel.val k)
  obtain ⟨p,hp,hp2⟩:=Option.map_eq_some_iff.mp hw
  refine wpAny_getItem_heap (tupleKind_room_in1 hu) (mr I.hok eb) dd hp ?_
  rw [hp2]
  exact h w' _ (I.tok _) rw'
theorem vO {Q:Value→Shared→Prop} (hu:A.units+1<cLine) (I:Inv X pins σ H s) (g:kQ H a y o) (ry:RelV y u) (h:∀s',Inv X pins σ H s'→Q (.bool (!o.isSome)) s') :
  wpAny (model X.prog X.w) A (compareOp .NotIn u (.ref a)) Q E s:=by
 rcases g with ⟨kvs,k,e,ey,l⟩ | ⟨kvs,k,b,e,ey,eb,l⟩
 ·subst ey
  obtain ⟨z,hd,vs,rel,dd⟩:=pE I.hok e
  refine wpAny_notIn_of (nB ry) hd dd.mapOf ?_
  rw [←(rel.val k).ka,←l]
  exact h _ (I.tok _)
 ·subst ey
  cases (show u=Value.ref b from ry)
  obtain ⟨z,hd,xs,rel,dd⟩:=pD I.hok e
  refine wpAny_notIn_heap (tupleKind_room_in1 hu) (mr I.hok eb) hd dd ?_
  have q:=(rel.val k).ka
  rw [Option.isSome_map] at q
  rw [←q,←l]
  exact h _ (I.tok _)
theorem lL {h':Heap} {t':Nat} {ob:HO} (I:Inv X pins σ H s) (mu:Mut (H a)) (hs:gw a s.heap h') (he:∃q,h'.get? a=some q) (new:fN X.prog X.w (upd H a ob) h' a ob) :
  Inv X pins σ (upd H a ob) {s with heap:=h',toks:=t'} :=
 I.write (x:=a) (e:=a) mu (.inl rfl) (fun b q hb z=>(hs.2 b hb).trans z) he new
theorem rJ {P:Program} {w:World} {H':Hp} {h':Heap} {kvs:List (Key×V)} {vs:List (Key×Value)} (z:kvs.length≤sizeLine) (hd:(a==sysModules)=false) (rel:KV kvs vs) (dd:h'.DictOf (dZ P w) a vs) :
  fN P w H' h' a (.dK kvs):=⟨z,hd,vs,rel,dd⟩
theorem rO {H':Hp} {Q:Unit→Shared→Prop} (hu:A.units+1<cLine) (I:Inv X pins σ H s) (g:wD H a y v H') (ry:RelV y u) (rv:RelV v r) (h:∀s',Inv X pins σ H' s'→Q () s') :
  wpAny (model X.prog X.w) A (setItem (.ref a) u r) Q E s:=by
 rcases g with ⟨kvs,k,e,ey,l,eH⟩ | ⟨kvs,k,b,e,ey,eb,l,eH⟩
 ·subst ey eH
  obtain ⟨z,hd,vs,rel,dd⟩:=ud I.hok e
  have hz:vs.length≤sizeLine:=by rw [←rel.length];exact z
  have hl:(putK kvs k v).length≤sizeLine:=by have:=il kvs k v;omega
  refine wpAny_setItem_pairs (hsz:=hz) (nB ry) dd fun h' dd' hs=>h _ ?_
  have he:∃q,h'.get? a=some q:=let ⟨q,_,_,hq,_⟩:=dd';⟨q,hq⟩
  exact lL I (by rw [e];exact True.intro) hs he (rJ hl hd (rel.put k rv) dd')
 ·subst ey eH
  cases (show u=Value.ref b from ry)
  obtain ⟨z,hd,xs,rel,dd⟩:=Bc I.hok e
  have hz:xs.length≤sizeLine:=by rw [←Paired.length rel];exact z
  have hl:(putK kvs k v).length≤sizeLine:=by have:=il kvs k v;omega
  refine wpAny_setItem_heap (hsz:=hz) (tupleKind_room_in1 hu) (mr I.hok eb) dd fun h' dd' hs=>h _ ?_
  obtain ⟨q,es,ep,hq,h2,h3,h4,_,h5⟩:=dd'
  refine lL I (by rw [e];exact True.intro) hs ⟨q,hq⟩ ⟨hl,hd,_,(rel.put k eb rv).keeps fun c ys ec=>?_,q,es,ep,hq,h2,h3,h4,h5⟩
  rw [bS (iK ec e (fun z=>nomatch z))]
  exact ec
end
section
variable {X:Cx} {pins:List (Addr×Obj)} {σ:St} {H:Hp} {s:Shared} {a:Addr} {kvs:List (Key×V)} {k:Key} {u:Value} {A:Around} {E:Value→Shared→Prop}
end
def BI (i:Expr):Prop:=∀ov iv,subscripted i false ov iv=operate [ov,iv] (getItem ov iv)
theorem uX {prog:Program} {w:World} {A:Around} {E:Value→Shared→Prop} {s:Shared} {env:Env} {value slice:Expr} {pos:Pos} {T id:String} {Q:Value→Shared→Prop}
  (hl:typeLookup (.type T) "__getitem__"=pure (some (.builtin id))) (hs:BI slice)
  (h:wpAny (model prog w) A (eval value env) (fun o s₁=>wpAny (model prog w) A (eval slice env) (fun i s₂=>s₂.TypeIs o T∧wpAny (model prog w) A (getItem o i) Q E s₂) E s₁) E s) :
  wpAny (model prog w) A (eval (.Subscript value slice pos) env) Q E s:=by
 refine Subscript_ (wpAny_mono h (fun o s₁ h₁=>wpAny_mono h₁ (fun i s₂ h₂=>?_) fun _ _ x=>x) fun _ _ x=>x)
 obtain ⟨hT,h₂⟩:=h₂
 unfold subscriptTail
 refine wpAny_bind ?_
 rw [getitemInPython_of_ne hT.not_modules]
 refine wpAny_bind (wpAny_specialOf hT hl ?_)
 have fin:wpAny (model prog w) A (subscripted slice false o i) (fun r s₃=>wpAny (model prog w) A (letTemporaryGo value o r >>= fun _=>pure r) Q E s₃) E s₂:=by
  rw [hs o i]
  exact wpAny_operating (wpAny_mono h₂ (fun r s₃ h₃=>wpAny_bind (wpAny_letTemporaryGo (wpAny_pure h₃))) fun _ _ x=>x)
 first
  | exact wpAny_pure (wpAny_bind fin)
  | exact wpAny_bind (wpAny_pure (wpAny_bind fin))
  | exact wpAny_bind fin
theorem nJ {X:Cx} {pins:List (Addr×Obj)} {σ:St} {H:Hp} {s:Shared} {a:Addr} {y:V} {o:Option V} (I:Inv X pins σ H s) (g:kQ H a y o):s.TypeIs (.ref a) "dict":=by
 rcases g with ⟨kvs,k,e,_,_⟩ | ⟨kvs,k,b,e,_,_,_⟩
 ·obtain ⟨_,_,vs,_,dd⟩:=pE I.hok e
  exact dd.typeIs
 ·obtain ⟨_,_,xs,_,dd⟩:=pD I.hok e
  exact dd.typeIs
def yR (td ty:TE):TE:=fun σ H Q=>td σ H fun x H1=>ty σ H1 fun y H2=>∃a v,x=.ref a∧kQ H2 a y (some v)∧Q v H2
def uW (ty td:TE):TE:=fun σ H Q=>ty σ H fun y H1=>td σ H1 fun x H2=>∃a o,x=.ref a∧kQ H2 a y o∧Q (.bl (!o.isSome)) H2
def zM (td ty tv:TE):TS:=fun D σ H=>tv σ H fun v H1=>td σ H1 fun x H2=>ty σ H2 fun y H3=>∃a H4,x=.ref a∧wD H3 a y v H4∧D.nx σ H4
section
variable {X:Cx} {o i e value:Expr} {pos pos' tpos:Pos} {td ty tv:TE}
theorem lu (hu:X.A.units+1<cLine) (ho:PE X o td) (hi:PE X i ty) (hs:BI i):PE X (.Subscript o i pos) (yR td ty):=by
 intro pins s σ H Q I h
 refine uX PySem.F.slot_dict_getitem.lookup hs (thn (ho pins s σ H _ I h) fun u s1 ⟨x,H1,I1,rx,q1⟩=>thn (hi pins s1 σ H1 _ I1 q1) fun iv s2 ⟨y,H2,I2,ry,a,v,ex,g,q2⟩=>?_)
 subst ex
 obtain rfl:u=Value.ref a:=rx
 exact ⟨nJ I2 g,rP hu I2 g ry fun w' s3 I3 rw'=>⟨v,H2,I3,rw',q2⟩⟩
theorem iy (hu:X.A.units+1<cLine) (hi:PE X i ty) (ho:PE X o td):PC X .NotIn i o (uW ty td):=by
 intro pins s σ H Q I h
 refine thn (hi pins s σ H _ I h) fun iv s1 ⟨y,H1,I1,ry,q1⟩=>thn (ho pins s1 σ H1 _ I1 q1) fun u s2 ⟨x,H2,I2,rx,a,ov,ex,g,q2⟩=>?_
 subst ex
 obtain rfl:u=Value.ref a:=rx
 exact vO hu I2 g ry fun s3 I3=>⟨.bl (!ov.isSome),H2,I3,rfl,q2⟩
theorem qh (hu:X.A.units+1<cLine) (ho:PE X o td) (hi:PE X i ty) (hv:PE X value tv) (hs:swapsWith value (some (.Subscript o i pos')) pos.line X.env=pure false) :
  PS X (.Assign [.Subscript o i pos'] value pos) (zM td ty tv):=by
 intro pins s σ H D I h
 refine wpAny_Assign_Subscript (thn (hv pins s σ H _ I h) fun r s1 ⟨v,H1,I1,rv,q1⟩=>thn (ho pins s1 σ H1 _ I1 q1) fun u s2 ⟨x,H2,I2,rx,q2⟩=>thn (hi pins s2 σ H2 _ I2 q2) fun iv s3 ⟨y,H3,I3,ry,a,H4,ex,g,q3⟩=>?_) hs
 subst ex
 obtain rfl:u=Value.ref a:=rx
 exact rO hu I3 g ry rv fun s4 I4=>⟨σ,H4,I4,q3⟩
end
theorem oG {P:Program} {w:World} {H:Hp} (h:Heap) (hb:sysModules<h.objs.size):fN P w H (h.push {cls:=.type "dict",data:=.dict #[]}) h.objs.size (.dK []) :=
 ⟨dU _,beq_eq_false_iff_ne.mpr (Ne.symm (bz hb)),[],.nil,Heap.DictOf.new h⟩
def wW:TE:=fun _ H Q=>∀p,H p=none→Q (.ref p) (upd H p (.dK []))
section
variable {X:Cx} {pos:Pos}
theorem tj:PE X (.Dict [] [] pos) wW:=fun pins s σ H Q I h =>
 wpAny_Dict_empty ⟨.ref s.heap.objs.size,_,I.laid (a:=s.heap.objs.size) (o:=.dK []) (t':=s.toks) (fun _ _ q=>ao _ q) (aN _) (oG s.heap I.big),rfl,h _ (I.hok.fresh (aN _))⟩
end
def pZ:List (TE×TE)→St→Hp→(List (V×V)→Hp→Prop)→Prop
 | [],_,H,Q=>Q [] H
 | (tk,tv)::r,σ,H,Q=>tk σ H fun x H1=>tv σ H1 fun y H2=>pZ r σ H2 fun ps H3=>Q ((x,y)::ps) H3
abbrev VV:List (V×V)→List (Value×Value)→Prop:=Paired fun p q=>RelV p.1 q.1∧RelV p.2 q.2
def PPs (X:Cx) (pos:Pos) (keys:List (Option Expr)) (values:List Expr) (trs:List (TE×TE)):Prop :=
 ∀(pins:List (Addr×Obj)) (s:Shared) (σ:St) (H:Hp) (Q:List (V×V)→Hp→Prop),Inv X pins σ H s→pZ trs σ H Q →
  wpAny (model X.prog X.w) X.A (evalPairs (pairTrees keys values X.env pos)) (fun vs s'=>∃ps H',Inv X pins σ H' s'∧VV ps vs∧Q ps H') X.xe s
theorem qj {X:Cx} {pos:Pos}:PPs X pos [] [] []:=fun pins s σ H Q I h=>pairTrees_nil_walk ⟨[],H,I,.nil,h⟩
theorem n_ {X:Cx} {pos:Pos} {k v:Expr} {ks:List (Option Expr)} {vs:List Expr} {tk tv:TE} {trs:List (TE×TE)} (hk:PE X k tk) (hv:PE X v tv) (hr:PPs X pos ks vs trs) :
  PPs X pos (some k::ks) (v::vs) ((tk,tv)::trs):=fun pins s σ H Q I h =>
 pairTrees_cons_walk (thn (hk pins s σ H _ I h) fun u s1 ⟨x,H1,I1,rx,q1⟩=>thn (hv pins s1 σ H1 _ I1 q1) fun w2 s2 ⟨y,H2,I2,ry,q2⟩ =>
  thn (hr pins s2 σ H2 _ I2 q2) fun ws s3 ⟨ps,H3,I3,rel,q3⟩=>⟨(x,y)::ps,H3,I3,.cons ⟨rx,ry⟩ rel,q3⟩)
def ia (kvs more:List (Key×V)):List (Key×V):=more.foldl (fun acc kv=>putK acc kv.1 kv.2) kvs
theorem KV.merge:∀{more:List (Key×V)} {rs:List (Key×Value)} {kvs:List (Key×V)} {vs:List (Key×Value)},KV more rs→KV kvs vs→KV (ia kvs more) (merged vs rs):=by
 intro more rs kvs vs r
 unfold KV at r
 induction r generalizing kvs vs with
 | nil=>intro q;exact q
 | @cons p q ps qs h t ih =>
  intro r0
  have e:KV (putK kvs p.1 p.2) (stored vs q.1 q.2):=by
   have:=r0.put p.1 h.2
   rw [←h.1];exact this
  exact ih e
theorem iY:∀(more kvs:List (Key×V)),(ia kvs more).length≤kvs.length+more.length
 | [],kvs=>by show kvs.length≤kvs.length+0;omega
 | p::r,kvs=>by
  have h1:=iY r (putK kvs p.1 p.2)
  have h2:=il kvs p.1 p.2
  show (ia (putK kvs p.1 p.2) r).length≤_
  rw [bA];omega
theorem kM {P:Program} {w:World}:∀{kvs:List (Key×V)} {ws:List (Value×Value)},VV (kvs.map fun kv=>(kV kv.1,kv.2)) ws→∃rs,Carries (dZ P w) ws rs∧KV kvs rs
 | [],_,r=>by rw [fw] at r;cases r;exact ⟨[],True.intro,.nil⟩
 | p::kvs,_,r=>by
  rw [bf] at r
  cases r with
  | @cons a b as bs h t =>
   obtain ⟨rs,c,q⟩:=kM (P:=P) (w:=w) t
   obtain ⟨b1,b2⟩:=b
   exact ⟨(p.1,b2)::rs,⟨nB h.1,rfl,c⟩,.cons ⟨rfl,h.2⟩ q⟩
def yP (trs:List (TE×TE)):TE:=fun σ H Q=>∀p,H p=none→pZ trs σ (upd H p (.dK [])) fun ps H2=>H2 p=some (.dK [])∧∃kvs:List (Key×V),ps=kvs.map (fun kv=>(kV kv.1,kv.2))∧kvs.length≤15∧Q (.ref p) (upd H2 p (.dK (ia [] kvs)))
theorem qp {X:Cx} {pos:Pos} {keys:List (Option Expr)} {values:List Expr} {trs:List (TE×TE)} (h:PPs X pos keys values trs) (hall:keys.all (·.isSome)=true) (hl:keys.length=values.length) (h0:keys≠[])
  (h15:keys.length≤15):PE X (.Dict keys values pos) (yP trs):=by
 intro pins s σ H Q I q
 have hn:=I.hok.fresh (aN s.heap.objs.size)
 have I1:=I.laid (a:=s.heap.objs.size) (o:=.dK []) (h':=s.heap.push {cls:=.type "dict",data:=.dict #[]}) (t':=s.toks) (fun _ _ q=>ao _ q) (aN _) (oG s.heap I.big)
 refine wpAny_Dict_walk (knd:=dZ X.prog X.w) hall hl h0 h15 (thn (h pins _ σ _ _ I1 (q _ hn)) fun ws s2 ⟨ps,H2,I2,rel,e,kvs,ep,lk,q2⟩=>?_)
 subst ep
 obtain ⟨rs,c,rk⟩:=kM (P:=X.prog) (w:=X.w) rel
 obtain ⟨z,hd,vs0,r0,dd⟩:=ud I2.hok e
 cases r0
 refine ⟨rs,c,dd,fun h' dd' hs=>⟨.ref s.heap.objs.size,_,?_,rfl,q2⟩⟩
 have hz:(ia [] kvs).length≤sizeLine:=by
  have h1:=iY kvs []
  rw [List.length_nil] at h1
  rw [sizeLine_eq];omega
 have he:∃q,h'.get? s.heap.objs.size=some q:=let ⟨q,_,_,hq,_⟩:=dd';⟨q,hq⟩
 exact lL I2 (by rw [e];exact True.intro) hs he (rJ hz hd (rk.merge .nil) dd')
structure M1 (X:Cx) (o:Expr) (m:Str) (apos:Pos) (e:Expr) (cpos:Pos):Prop where
 base:attributeBase o m X.env (eval o X.env)=eval o X.env
 few:((backTo cpos (starEach [e] X.env)).all (fun x=>!x.1)&&(backToKw cpos (keywordEach [] X.env)).all (fun x=>x.1.isSome)
  && decide (([e]:List Expr).length+([]:List Keyword).length+(if ([]:List Keyword).isEmpty then 0 else 1)<30))=true
 line:(apos.endLine==cpos.line)=true
 trees:backTo cpos (starEach [e] X.env)=[(false,eval e X.env)]
structure M2 (X:Cx) (o:Expr) (m:Str) (apos:Pos) (e f:Expr) (cpos:Pos):Prop where
 base:attributeBase o m X.env (eval o X.env)=eval o X.env
 few:((backTo cpos (starEach [e,f] X.env)).all (fun x=>!x.1)&&(backToKw cpos (keywordEach [] X.env)).all (fun x=>x.1.isSome)
  && decide (([e,f]:List Expr).length+([]:List Keyword).length+(if ([]:List Keyword).isEmpty then 0 else 1)<30))=true
 line:(apos.endLine==cpos.line)=true
 trees:backTo cpos (starEach [e,f] X.env)=[(false,eval e X.env),(false,eval f X.env)]
def IsD (H:Hp) (a:Addr):Prop:=(∃kvs,Rd H a (.dK kvs))∨∃kvs,Rd H a (.dT kvs)
theorem qR {X:Cx} {pins:List (Addr×Obj)} {σ:St} {H:Hp} {s:Shared} {a:Addr} (I:Inv X pins σ H s) (d:IsD H a) :
  s.TypeIs (.ref a) "dict"∧(∀b,Value.ref a=.ref b→∃ob,s.heap.get? b=some ob∧ob.dict=none)∧(a==sysModules)=false:=by
 rcases d with ⟨kvs,e⟩ | ⟨kvs,e⟩
 ·obtain ⟨_,hd,vs,_,dd⟩:=pE I.hok e
  refine ⟨dd.typeIs,fun b q=>?_,hd⟩
  cases q
  obtain ⟨ob,_,_,h1,h2,_⟩:=dd
  exact ⟨ob,h1,h2.2.1⟩
 ·obtain ⟨_,hd,xs,_,dd⟩:=pD I.hok e
  refine ⟨dd.typeIs,fun b q=>?_,hd⟩
  cases q
  obtain ⟨ob,_,_,h1,h2,_⟩:=dd
  exact ⟨ob,h1,h2.2.1⟩
section
variable {X:Cx} {pins:List (Addr×Obj)} {σ:St} {H:Hp} {s:Shared} {a:Addr} {y d:V} {u r:Value} {o:Option V} {A:Around} {E:Value→Shared→Prop}
theorem xY {Q:Value→Shared→Prop} (hu:A.units+1<cLine) (I:Inv X pins σ H s) (g:kQ H a y o) (ry:RelV y u) (h:∀w' s',Inv X pins σ H s'→RelV (o.getD .non) w'→Q w' s') :
  wpAny (model X.prog X.w) A (call (.builtin "dict.get") [.ref a,u]) Q E s:=by
 rcases g with ⟨kvs,k,e,ey,l⟩ | ⟨kvs,k,b,e,ey,eb,l⟩
 ·subst ey
  obtain ⟨z,hd,vs,rel,dd⟩:=pE I.hok e
  refine call_meetsIn PySem.F.slot_dict_get dd.typeIs PySem.F.entry_dict_get (PySem.F.args_dict_get_2 _ _) (meets_dict_get (dZ X.prog X.w) a (nB ry) hd) ⟨_,dd.mapOf,h _ _ (I.tok _) ?_⟩
  rw [l]
  exact (rel.val k).getD rfl
 ·subst ey
  cases (show u=Value.ref b from ry)
  obtain ⟨z,hd,xs,rel,dd⟩:=pD I.hok e
  refine call_meetsIn PySem.F.slot_dict_get dd.typeIs PySem.F.entry_dict_get (PySem.F.args_dict_get_2 _ _) (meetsH_dict_get (tupleKind (dZ X.prog X.w)) a b hd) ⟨tupleKind_room_in1 hu,k,xs,mr I.hok eb,dd,h _ _ (I.tok _) ?_⟩
  rw [l]
  exact (rel.val k).getD rfl
end
def wX (td ty:TE):TE:=fun σ H Q=>td σ H fun x H1=>∃a,x=.ref a∧IsD H1 a∧ty σ H1 fun y H2=>∃o,kQ H2 a y o∧Q (o.getD .non) H2
section
variable {X:Cx} {o e f:Expr} {apos cpos:Pos} {td ty tx:TE}
theorem tm (hu:X.A.units+1<cLine) (ho:PE X o td) (he:PE X e ty) (m:M1 X o "get" apos e cpos):PE X (.Call (.Attribute o "get" apos) [e] [] cpos) (wX td ty):=by
 intro pins s σ H Q I h
 refine wpAny_Call_method m.base m.few m.line PySem.F.plainAttrs_dict PySem.F.slot_dict_get PySem.F.type_dict_get (thn (ho pins s σ H _ I h) fun u s1 ⟨x,H1,I1,rx,a,ex,d,q1⟩=>?_)
 subst ex
 obtain rfl:u=Value.ref a:=rx
 obtain ⟨t1,t2,_⟩:=qR I1 d
 refine ⟨t1,t2,?_⟩
 rw [m.trees]
 refine Calls.callWith_builtin rfl (Calls.evalArgs_plain (Calls.spliced_cons (thn (he pins s1 σ H1 _ I1 q1) fun iv s2 ⟨y,H2,I2,ry,ov,g,q2⟩=>Calls.spliced_nil ?_)))
 exact xY hu I2 g ry fun w' s3 I3 rw'=>⟨_,H2,I3,rw',q2⟩
end
section
variable {X:Cx} {pins:List (Addr×Obj)} {σ:St} {H:Hp} {s:Shared} {a:Addr} {kvs:List (Key×V)} {A:Around} {E:Value→Shared→Prop}
end
section
variable {X:Cx} {pins:List (Addr×Obj)} {σ:St} {H:Hp} {s:Shared} {a:Addr} {y:V} {u:Value} {A:Around} {E:Value→Shared→Prop}
end
end L2
namespace L2
open PySem PySem.Spec PyProof.Rows
section
variable {κ:Type} [DecidableEq κ]
end
end L2
namespace L2
open PySem PySem.Spec PyProof.Rows
section
variable {X:Cx} {pins:List (Addr×Obj)} {σ:St} {H:Hp} {s:Shared} {a:Addr} {kvs:List (Key×V)} {k:Key} {u r:Value} {z:V} {A:Around} {E:Value→Shared→Prop}
theorem ue {Q:Value→Shared→Prop} (I:Inv X pins σ H s) (e:H a=some (.dK kvs)) (ry:RelV (kV k) u) (rz:RelV z r) (l:kvs.length<sizeLine)
  (h1:∀v,kT kvs k=some v→∀w' s',Inv X pins σ H s'→RelV v w'→Q w' s') (h2:kT kvs k=none→∀s',Inv X pins σ (upd H a (.dK (putK kvs k z))) s'→Q r s') :
  wpAny (model X.prog X.w) A (call (.builtin "dict.setdefault") [.ref a,u,r]) Q E s:=by
 obtain ⟨zz,hd,vs,rel,dd⟩:=ud I.hok e
 have hl:(putK kvs k z).length≤sizeLine:=by have:=il kvs k z;omega
 have rv:=rel.val k
 refine call_meetsIn PySem.F.slot_dict_setdefault dd.typeIs PySem.F.entry_dict_setdefault (PySem.F.args_dict_setdefault_3 _ _ _) (kt_meets_setdefault (dZ X.prog X.w) a (nB ry) hd r) ⟨vs,dd,by rw [←rel.length];exact zz,fun v hv=>?_,fun hn h' dd' hs=>?_⟩
 ·rw [hv] at rv
  cases lv:kT kvs k with
  | some v0=>rw [lv] at rv;exact h1 v0 lv v _ (I.tok _) rv
  | none=>rw [lv] at rv;exact (show False from rv).elim
 ·rw [hn] at rv
  cases lv:kT kvs k with
  | some v0=>rw [lv] at rv;exact (show False from rv).elim
  | none=>exact h2 lv _ (lL I (by rw [e];exact True.intro) hs (let ⟨q,_,_,hq,_⟩:=dd';⟨q,hq⟩) (rJ hl hd (rel.put k rz) dd'))
end
def yQ (td ty tx:TE):TE:=fun σ H Q=>td σ H fun x H1=>∃a,x=.ref a∧IsD H1 a∧ty σ H1 fun y H2=>tx σ H2 fun z H3=>∃kvs k,H3 a=some (.dK kvs)∧y=kV k∧kvs.length<sizeLine ∧
 (∀v,kT kvs k=some v→Q v H3)∧(kT kvs k=none→Q z (upd H3 a (.dK (putK kvs k z))))
def wV (td:TE):TE:=fun σ H Q=>td σ H fun x H1=>∃a kvs,x=.ref a∧H1 a=some (.dK kvs)∧∀l,H1 l=none→Q (.ref l) (upd H1 l (.lst (kvs.map (·.2))))
theorem uT {kvs:List (Key×V)} {vs:List (Key×Value)} (r:KV kvs vs):Vals (kvs.map (·.2)) (vs.map (·.2)):=by
 induction r with
 | nil=>exact .nil
 | cons h t ih=>exact .cons h.2 ih
section
variable {X:Cx} {o e f:Expr} {apos cpos p1 pos1:Pos} {td ty tx:TE}
theorem tf (ho:PE X o td) (he:PE X e ty) (hf:PE X f tx) (m:M2 X o "setdefault" apos e f cpos):PE X (.Call (.Attribute o "setdefault" apos) [e,f] [] cpos) (yQ td ty tx):=by
 intro pins s σ H Q I h
 refine wpAny_Call_method m.base m.few m.line PySem.F.plainAttrs_dict PySem.F.slot_dict_setdefault PySem.F.type_dict_setdefault (thn (ho pins s σ H _ I h) fun u s1 ⟨x,H1,I1,rx,a,ex,d,q1⟩=>?_)
 subst ex
 obtain rfl:u=Value.ref a:=rx
 obtain ⟨t1,t2,_⟩:=qR I1 d
 refine ⟨t1,t2,?_⟩
 rw [m.trees]
 refine Calls.callWith_builtin rfl (Calls.evalArgs_plain (Calls.spliced_cons (thn (he pins s1 σ H1 _ I1 q1) fun iv s2 ⟨y,H2,I2,ry,q2⟩ =>
  Calls.spliced_cons (thn (hf pins s2 σ H2 _ I2 q2) fun fv s3 ⟨z,H3,I3,rz,kvs,k,ea,ey,l,q3,q4⟩=>Calls.spliced_nil ?_))))
 subst ey
 exact ue I3 ea ry rz l (fun v lv w' s4 I4 rw'=>⟨v,H3,I4,rw',q3 v lv⟩) fun lv s4 I4=>⟨z,_,I4,rz,q4 lv⟩
theorem mZ (hc:X.calm=true) (hg:Gl X "list") (hm:X.mg "list"=none) (ho:PE X o td) (hbase:attributeBase o "values" X.env (eval o X.env)=eval o X.env:=by rfl) (hline:(apos.endLine==cpos.line)=true:=by rfl)
  (hs:starEach [.Call (.Attribute o "values" apos) [] [] cpos] X.env=[(false,eval (.Call (.Attribute o "values" apos) [] [] cpos) X.env)]:=by rfl) :
  PE X (.Call (.Name "list" p1) [.Call (.Attribute o "values" apos) [] [] cpos] [] pos1) (wV td):=by
 intro pins s σ H Q I h
 refine Call_ (iA I hg hm boot_list (cq ?_ hs rfl))
 rw [hs]
 refine Calls.spliced_cons ?_
 refine wpAny_Call_method0_late hbase hline (thn (ho pins s σ H _ I h) fun v s1 ⟨x,H1,I1,r1,a,kvs,ex,ea,q⟩=>?_)
 subst ex
 obtain rfl:v=Value.ref a:=r1
 obtain ⟨t1,t2,_⟩:=qR I1 (.inl ⟨kvs,.inl ea⟩)
 obtain ⟨zz,hd,vs,rel,dd⟩:=ud I1.hok ea
 refine ⟨"dict","dict.values",PySem.F.plainAttrs_dict,PySem.F.slot_dict_values,PySem.F.type_dict_values,t1,t2,Calls.callWith_builtin rfl (PySem.evalArgs_none ?_)⟩
 refine call_meetsIn PySem.F.slot_dict_values dd.typeIs PySem.F.entry_dict_values (PySem.F.args_dict_values_1 _) (meets_dict_values (dZ X.prog X.w) a hd) ⟨⟨vs,dd⟩,Calls.spliced_nil ?_⟩
 obtain ⟨ob,es,ep,hq⟩:=id dd
 have dA:(s1.heap.push {cls:=.type "dict_values",data:=.fields #[.ref a]}).DictAt (dZ X.prog X.w) a vs ep:=Heap.DictAt.push ⟨ob,es,hq⟩ _
 refine PySem.W.kdl_call (PySem.W.kdl_values (knd:=dZ X.prog X.w) (kvs:=vs) (ep:=ep) (r:=s1.heap.objs.size) (d:=a)) (I.ok.hd hc) ⟨⟨_,bo _ rfl,rfl,rfl⟩,dA⟩ (by rw [←rel.length];exact zz) fun h' tk acc' c' hk hS hacc=>?_
 have fr:s1.heap.objs.size≤(s1.heap.push {cls:=.type "dict_values",data:=.fields #[.ref a]}).objs.size:=by rw [cU];exact gR _
 have ac:acc'=(vs.map (·.2)).toArray:=by
  obtain ⟨h1,h2⟩:=hacc
  apply Array.ext
  ·rw [h1];simp
  ·intro i hi hi2
   obtain ⟨k,e⟩:=h2 i acc'[i] (Array.getElem?_eq_getElem hi)
   have e3:(vs.map (·.2))[i]?=some acc'[i]:=by rw [a_,e];rfl
   have hi3:i<(vs.map (·.2)).length:=by simpa using hi2
   rw [aj hi3] at e3
   simpa using (Option.some.inj e3).symm
 subst ac
 exact ⟨.ref _,_,I1.laid (t':=tk) (fun b o e=>hk b o (ao _ e)) fr (show fN X.prog X.w _ h' _ (.lst (kvs.map (·.2))) from ⟨by rw [aa];exact zz,vs.map (·.2),c',uT rel,hS⟩),rfl,q _ (I1.hok.fresh fr)⟩
end
end L2
namespace L2
inductive Cn (es:List (Int×Int)):Int→Int→Prop
 | refl (a:Int):Cn es a a
 | fwd {a:Int} {e:Int×Int}:Cn es a e.1→e∈es→Cn es a e.2
 | bwd {a:Int} {e:Int×Int}:Cn es a e.2→e∈es→Cn es a e.1
theorem Cn.trans {es:List (Int×Int)} {a b c:Int} (h:Cn es a b) (h2:Cn es b c):Cn es a c:=by
 induction h2 with
 | refl=>exact h
 | fwd _ he ih=>exact .fwd ih he
 | bwd _ he ih=>exact .bwd ih he
theorem Cn.tie {es:List (Int×Int)} {e:Int×Int} (h:e∈es):Cn es e.1 e.2:=.fwd (.refl _) h
theorem Cn.eit {es:List (Int×Int)} {e:Int×Int} (h:e∈es):Cn es e.2 e.1:=.bwd (.refl _) h
theorem Cn.symm {es:List (Int×Int)} {a b:Int} (h:Cn es a b):Cn es b a:=by
 induction h with
 | refl=>exact .refl _
 | fwd _ he ih=>exact (Cn.eit he).trans ih
 | bwd _ he ih=>exact (Cn.tie he).trans ih
theorem Cn.map {es es':List (Int×Int)} {g:Int→Int} (hg:∀e∈es,Cn es' (g e.1) (g e.2)) {a b:Int} (h:Cn es a b):Cn es' (g a) (g b):=by
 induction h with
 | refl=>exact .refl _
 | fwd _ he ih=>exact ih.trans (hg _ he)
 | bwd _ he ih=>exact ih.trans (hg _ he).symm
theorem Cn.mono {es es':List (Int×Int)} (hs:∀e∈es,e∈es') {a b:Int} (h:Cn es a b):Cn es' a b:=Cn.map (g:=id) (fun e he=>Cn.tie (hs e he)) h
structure Lab (n:Int) (es:List (Int×Int)) (f:Int→Int):Prop where
 conn:∀p,0≤p→p<n→Cn es p (f p)
 same:∀e∈es,f e.1=f e.2
 low:∀p,0≤p→p<n→0≤f p∧f p≤p
theorem jZ {es:List (Int×Int)} {f:Int→Int} (h:∀e∈es,f e.1=f e.2) {a b:Int} (c:Cn es a b):f a=f b:=by
 induction c with
 | refl=>rfl
 | fwd _ he ih=>rw [ih,h _ he]
 | bwd _ he ih=>rw [ih,←h _ he]
theorem Lab.le {n:Int} {es:List (Int×Int)} {f g:Int→Int} (F:Lab n es f) (G:Lab n es g) {p:Int} (p0:0≤p) (p1:p<n):g p≤f p:=by
 have l:=F.low p p0 p1
 have e:=jZ G.same (F.conn p p0 p1)
 have:=G.low (f p) l.1 (by omega)
 omega
theorem Lab.uniq {n:Int} {es:List (Int×Int)} {f g:Int→Int} (F:Lab n es f) (G:Lab n es g) {p:Int} (p0:0≤p) (p1:p<n):f p=g p:=Int.le_antisymm (G.le F p0 p1) (F.le G p0 p1)
theorem Lab.idem {n:Int} {es:List (Int×Int)} {f:Int→Int} (F:Lab n es f) {p:Int} (p0:0≤p) (p1:p<n):f (f p)=f p:=(jZ F.same (F.conn p p0 p1)).symm
theorem Lab.iff {n:Int} {es:List (Int×Int)} {f:Int→Int} (F:Lab n es f) {p q:Int} (p0:0≤p) (p1:p<n) (q0:0≤q) (q1:q<n):f p=f q↔Cn es p q :=
 ⟨fun e=>(F.conn p p0 p1).trans (by rw [e];exact (F.conn q q0 q1).symm),fun c=>jZ F.same c⟩
theorem Lab.nil (n:Int):Lab n [] (fun p=>p):=⟨fun p _ _=>.refl p,fun e he=>(nomatch he),fun p h _=>⟨h,gS _⟩⟩
theorem Lab.congr {n:Int} {es:List (Int×Int)} {f g:Int→Int} (F:Lab n es f) (hE:∀e∈es,0≤e.1∧e.1<n∧0≤e.2∧e.2<n) (h:∀p,0≤p→p<n→f p=g p):Lab n es g :=
 ⟨fun p p0 p1=>by rw [←h p p0 p1];exact F.conn p p0 p1,fun e he=>by
  have:=hE e he
  rw [←h _ this.1 this.2.1,←h _ this.2.2.1 this.2.2.2];exact F.same e he,fun p p0 p1=>by rw [←h p p0 p1];exact F.low p p0 p1⟩
def mrg (f:Int→Int) (e:Int×Int) (p:Int):Int:=if f p=max (f e.1) (f e.2) then min (f e.1) (f e.2) else f p
theorem Lab.merge {n:Int} {es:List (Int×Int)} {f:Int→Int} {e:Int×Int} (F:Lab n es f) (b:0≤e.1∧e.1<n∧0≤e.2∧e.2<n):Lab n (es++[e]) (mrg f e):=by
 have l1:=F.low e.1 b.1 b.2.1
 have l2:=F.low e.2 b.2.2.1 b.2.2.2
 have up:∀{x y:Int},Cn es x y→Cn (es++[e]) x y:=fun c=>c.mono fun a ha=>aI _ ha
 have me:e∈es++[e]:=aG _ (ak.mpr rfl)
 have c1:Cn (es++[e]) (f e.1) (f e.2):=(up (F.conn e.1 b.1 b.2.1)).symm.trans ((Cn.tie me).trans (up (F.conn e.2 b.2.2.1 b.2.2.2)))
 refine ⟨fun p p0 p1=>?_,fun a ha=>?_,fun p p0 p1=>?_⟩
 ·have cp:=up (F.conn p p0 p1)
  unfold mrg
  by_cases h:f p=max (f e.1) (f e.2)
  ·rw [if_pos h]
   rw [h] at cp
   by_cases g:f e.1≤f e.2
   ·rw [Int.max_eq_right g] at cp;rw [Int.min_eq_left g];exact cp.trans c1.symm
   ·rw [Int.max_eq_left (by omega)] at cp;rw [Int.min_eq_right (by omega)];exact cp.trans c1
  ·rw [if_neg h];exact cp
 ·rcases aM.mp ha with y | y
  ·unfold mrg;rw [F.same a y]
  ·have ea:a=e:=ak.mp y
   subst ea
   unfold mrg
   have h1:f a.1≤f a.2∨f a.2<f a.1:=by omega
   rcases h1 with g | g
   ·rw [Int.max_eq_right g,Int.min_eq_left g,if_pos rfl];split<;>omega
   ·rw [Int.max_eq_left (by omega),Int.min_eq_right (by omega),if_pos rfl];split<;>omega
 ·have:=F.low p p0 p1
  unfold mrg
  by_cases h:f p=max (f e.1) (f e.2)
  ·rw [if_pos h];omega
  ·rw [if_neg h];exact this
def rts (n:Nat) (f:Int→Int):List Int:=((bI n).filter fun (m:Nat)=>decide (f (m:Int)=(m:Int))).map fun (m:Nat)=>(m:Int)
def grp (n:Nat) (f:Int→Int) (r:Int):List Int:=((bI n).filter fun (p:Nat)=>decide (f (p:Int)=r)).map fun (p:Nat)=>(p:Int)
def pcs (n:Nat) (f:Int→Int):List (List Int):=(rts n f).map (grp n f)
theorem nX (n:Nat) (f:Int→Int):rts (n+1) f=rts n f++(if f n=n then [(n:Int)] else []):=by
 unfold rts
 rw [fu,bV,aw]
 by_cases h:f n=n
 ·rw [if_pos h,bT (by rw [decide_eq_true h])];rfl
 ·rw [if_neg h,bU (by rw [decide_eq_false h];decide)];rfl
theorem jH (n:Nat) (f:Int→Int) (r:Int):grp (n+1) f r=grp n f r++(if f n=r then [(n:Int)] else []):=by
 unfold grp
 rw [fu,bV,aw]
 by_cases h:f n=r
 ·rw [if_pos h,bT (by rw [decide_eq_true h])];rfl
 ·rw [if_neg h,bU (by rw [decide_eq_false h];decide)];rfl
theorem gb {n:Nat} {f:Int→Int} {r:Int}:r∈rts n f↔0≤r∧r<n∧f r=r:=by
 unfold rts
 rw [bE]
 constructor
 ·rintro ⟨m,hm,rfl⟩
  rw [bG,bM,decide_eq_true_eq] at hm
  exact ⟨by omega,by omega,hm.2⟩
 ·rintro ⟨h0,h1,h2⟩
  refine ⟨r.toNat,?_,by omega⟩
  rw [bG,bM,decide_eq_true_eq]
  have e:((r.toNat:Nat):Int)=r:=by omega
  rw [e];exact ⟨by omega,h2⟩
theorem jV {n:Nat} {f:Int→Int} {r p:Int}:p∈grp n f r↔0≤p∧p<n∧f p=r:=by
 unfold grp
 rw [bE]
 constructor
 ·rintro ⟨m,hm,rfl⟩
  rw [bG,bM,decide_eq_true_eq] at hm
  exact ⟨by omega,by omega,hm.2⟩
 ·rintro ⟨h0,h1,h2⟩
  refine ⟨p.toNat,?_,by omega⟩
  rw [bG,bM,decide_eq_true_eq]
  have e:((p.toNat:Nat):Int)=p:=by omega
  rw [e];exact ⟨by omega,h2⟩
theorem vh (n:Nat) (f:Int→Int):(rts n f).length≤n:=by
 unfold rts
 rw [aa]
 exact cu (bP _ _) (by rw [bW];exact aN _)
theorem vH (n:Nat) (f:Int→Int) (r:Int):(grp n f r).length≤n:=by
 unfold grp
 rw [aa]
 exact cu (bP _ _) (by rw [bW];exact aN _)
theorem lX {n:Nat} {f g:Int→Int} (h:∀p:Int,0≤p→p<n→f p=g p):rts n f=rts n g:=by
 unfold rts
 congr 1
 refine List.filter_congr fun m hm=>?_
 rw [bM] at hm
 rw [h m (by omega) (by omega)]
theorem qY {n:Nat} {f g:Int→Int} (r:Int) (h:∀p:Int,0≤p→p<n→f p=g p):grp n f r=grp n g r:=by
 unfold grp
 congr 1
 refine List.filter_congr fun m hm=>?_
 rw [bM] at hm
 rw [h m (by omega) (by omega)]
theorem qq {n:Nat} {f g:Int→Int} (h:∀p:Int,0≤p→p<n→f p=g p):pcs n f=pcs n g:=by
 unfold pcs
 rw [lX h]
 exact dW fun r _=>qY r h
end L2
namespace L2
open PySem
theorem iW {α:Type} [DecidableEq α]:∀{l l':List α},l.Nodup→(∀a∈l,a∈l')→l.length≤l'.length
 | [],_,_,_=>dU _
 | a::l,l',h,s=>by
  rw [dv] at h
  have ha:=s a aP
  have:=iW (l:=l) (l':=l'.erase a) h.2 fun b hb=>(List.mem_erase_of_ne (fun (z:b=a)=>h.1 (z▸hb))).mpr (s b (aO _ hb))
  rw [List.length_erase_of_mem ha] at this
  have:0<l'.length:=List.length_pos_of_mem ha
  rw [bA];omega
theorem fk {rs:List Int} {m:Int} (h:rs.Nodup) (b:∀p∈rs,0≤p∧p<m):rs.length≤m.toNat:=by
 have:=iW (l':=(bI m.toNat).map fun (i:Nat)=>(i:Int)) h fun p hp=>by
  have:=b p hp
  exact bE.mpr ⟨p.toNat,bM.mpr (by omega),by omega⟩
 rwa [aa,bW] at this
theorem fV {α:Type} {l:List α} {a:α} (h:l.Nodup) (n:¬a∈l):(l++[a]).Nodup:=by
 rw [List.nodup_append]
 refine ⟨h,by simp,fun x hx y hy e=>?_⟩
 rw [ak.mp hy] at e
 exact n (e▸hx)
def atP (p:Int) (e:Int×Int):Bool:=e.1==p||e.2==p
theorem xP (p a b:Int):inV (.int p) [.int a,.int b]=atP p (a,b):=by
 have:=hJ p [a,b]
 rw [show [V.int a,V.int b]=[a,b].map V.int from rfl,this]
 simp [atP]
theorem hZ {p:Int} {e:Int×Int}:atP p e=true↔e.1=p∨e.2=p:=by
 unfold atP
 rw [Bool.or_eq_true,beq_iff_eq,beq_iff_eq]
def far (e:Int×Int) (p:Int):Int:=if e.1=p then e.2 else e.1
def bc (es:List (Int×Int)) (t:Int):Int×Int:=es.getD t.toNat (0,0)
def sub (es:List (Int×Int)) (ss:List Int):List (Int×Int):=ss.map (bc es)
theorem vM (e:Int×Int) {p:Int} (hp:e.1=p∨e.2=p):e.1=far e p∨e.2=far e p:=by
 unfold far
 by_cases c:e.1=p
 ·rw [if_pos c];exact .inr rfl
 ·rw [if_neg c];exact .inl rfl
inductive Way (es:List (Int×Int)) (ss:List Int) (a:Int):List Int→List Int→Int→Prop
 | nil:Way es ss a [] [] a
 | snoc {ts ps:List Int} {p t:Int}:Way es ss a ts ps p→t∈ss→0≤t→t<(es.length:Int)→((bc es t).1=p∨(bc es t).2=p)→¬far (bc es t) p∈ps++[p]→Way es ss a (ts++[t]) (ps++[p]) (far (bc es t) p)
theorem Way.nd {es:List (Int×Int)} {ss ts ps:List Int} {a p:Int} (h:Way es ss a ts ps p):(ps++[p]).Nodup:=by
 induction h with
 | nil=>simp
 | snoc _ _ _ _ _ hn ih=>exact fV ih hn
theorem Way.len {es:List (Int×Int)} {ss ts ps:List Int} {a p:Int} (h:Way es ss a ts ps p):ts.length=ps.length:=by
 induction h with
 | nil=>rfl
 | snoc _ _ _ _ _ _ ih=>rw [ay,ay,ih];rfl
theorem Way.ends {es:List (Int×Int)} {ss ts ps:List Int} {a p:Int} (h:Way es ss a ts ps p):∀t∈ts,(bc es t).1∈ps++[p]∧(bc es t).2∈ps++[p]:=by
 induction h with
 | nil=>exact fun t ht=>nomatch ht
 | @snoc ts ps p t _ _ _ _ hp _ ih =>
  intro t' ht'
  rcases aM.mp ht' with y | y
  ·exact ⟨aI _ (ih t' y).1,aI _ (ih t' y).2⟩
  ·rw [ak.mp y]
   have mp:p∈(ps++[p])++[far (bc es t) p]:=aI _ (aG _ (ak.mpr rfl))
   have mf:far (bc es t) p∈(ps++[p])++[far (bc es t) p]:=aG _ (ak.mpr rfl)
   by_cases c:(bc es t).1=p
   ·have e2:far (bc es t) p=(bc es t).2:=if_pos c
    rw [c];exact ⟨mp,by rw [←e2];exact mf⟩
   ·have e1:far (bc es t) p=(bc es t).1:=if_neg c
    have e2:(bc es t).2=p:=hp.resolve_left c
    rw [e2];exact ⟨by rw [←e1];exact mf,mp⟩
theorem Way.fresh {es:List (Int×Int)} {ss ts ps:List Int} {a p t:Int} (h:Way es ss a ts ps p) (hp:(bc es t).1=p∨(bc es t).2=p) (hn:¬far (bc es t) p∈ps++[p]):¬t∈ts:=fun ht=>by
 have:=h.ends t ht
 rcases vM (bc es t) hp with y | y
 ·exact hn (y▸this.1)
 ·exact hn (y▸this.2)
theorem Way.tnd {es:List (Int×Int)} {ss ts ps:List Int} {a p:Int} (h:Way es ss a ts ps p):ts.Nodup:=by
 induction h with
 | nil=>simp
 | snoc h _ _ _ hp hn ih=>exact fV ih (h.fresh hp hn)
theorem Way.sub {es:List (Int×Int)} {ss ts ps:List Int} {a p:Int} (h:Way es ss a ts ps p):∀t∈ts,t∈ss∧0≤t∧t<(es.length:Int):=by
 induction h with
 | nil=>exact fun t ht=>nomatch ht
 | snoc _ h1 h2 h3 _ _ ih =>
  intro t' ht'
  rcases aM.mp ht' with y | y
  ·exact ih t' y
  ·rw [ak.mp y];exact ⟨h1,h2,h3⟩
theorem eI (ad:Int→Addr) (k:Int):∀R:List Int,kT (R.map fun r=>((Sum.inl r:Key),V.ref (ad r))) (Sum.inl k)=if k∈R then some (V.ref (ad k)) else none
 | []=>rfl
 | r::R=>by
  rw [bf]
  by_cases e:r=k
  ·subst e
   rw [jB rfl,if_pos aP]
  ·rw [jC (fun z=>e (Sum.inl.inj z)),eI ad k R]
   by_cases h:k∈R
   ·rw [if_pos h,if_pos (aO _ h)]
   ·rw [if_neg h,if_neg (fun z=>(aU.mp z).elim (fun y=>e y.symm) h)]
theorem rT {es:List (Int×Int)} {R:List Int} {a b:Int} (ha:a∈R) (hc:∀e∈es,∀p∈R,(e.1=p∨e.2=p)→far e p∈R) (h:Cn es a b):b∈R:=by
 induction h with
 | refl=>exact ha
 | fwd _ he ih=>have:=hc _ he _ ih (.inl rfl);rwa [show far _ _=_ from if_pos rfl] at this
 | @bwd e _ he ih =>
  have:=hc _ he _ ih (.inr rfl)
  unfold far at this
  by_cases c:e.1=e.2
  ·rw [if_pos c] at this;rw [c];exact this
  ·rwa [if_neg c] at this
end L2
namespace L2
structure Nam (n:Int) (es:List (Int×Int)) (f:Int→Int):Prop where
 conn:∀p,0≤p→p<n→Cn es p (f p)
 same:∀e∈es,f e.1=f e.2
 rng:∀p,0≤p→p<n→0≤f p∧f p<n
theorem Nam.iff {n:Int} {es:List (Int×Int)} {f:Int→Int} (F:Nam n es f) {p q:Int} (p0:0≤p) (p1:p<n) (q0:0≤q) (q1:q<n):f p=f q↔Cn es p q :=
 ⟨fun e=>(F.conn p p0 p1).trans (by rw [e];exact (F.conn q q0 q1).symm),fun c=>jZ F.same c⟩
theorem Nam.nil (n:Int):Nam n [] (fun p=>p):=⟨fun p _ _=>.refl p,fun e he=>(nomatch he),fun p h h'=>⟨h,h'⟩⟩
theorem Nam.congr {n:Int} {es:List (Int×Int)} {f g:Int→Int} (F:Nam n es f) (hE:∀e∈es,0≤e.1∧e.1<n∧0≤e.2∧e.2<n) (h:∀p,0≤p→p<n→f p=g p):Nam n es g :=
 ⟨fun p p0 p1=>by rw [←h p p0 p1];exact F.conn p p0 p1,fun e he=>by
  have:=hE e he
  rw [←h _ this.1 this.2.1,←h _ this.2.2.1 this.2.2.2];exact F.same e he,fun p p0 p1=>by rw [←h p p0 p1];exact F.rng p p0 p1⟩
theorem Nam.put {n:Int} {es:List (Int×Int)} {f:Int→Int} {e:Int×Int} (F:Nam n es f) (b:0≤e.1∧e.1<n∧0≤e.2∧e.2<n):Nam n (es++[e]) (fun p=>if f p=f e.2 then f e.1 else f p):=by
 have up:∀{x y:Int},Cn es x y→Cn (es++[e]) x y:=fun c=>c.mono fun a ha=>aI _ ha
 have me:e∈es++[e]:=aG _ (ak.mpr rfl)
 refine ⟨fun p p0 p1=>?_,fun a ha=>?_,fun p p0 p1=>?_⟩
 ·have cp:=up (F.conn p p0 p1)
  by_cases h:f p=f e.2
  ·try dsimp only
   rw [if_pos h]
   rw [h] at cp
   exact cp.trans ((up (F.conn e.2 b.2.2.1 b.2.2.2)).symm.trans ((Cn.eit me).trans (up (F.conn e.1 b.1 b.2.1))))
  ·try dsimp only
   rw [if_neg h];exact cp
 ·rcases aM.mp ha with y | y
  ·try dsimp only
   rw [F.same a y]
  ·have ea:a=e:=ak.mp y
   subst ea
   try dsimp only
   rw [if_pos rfl];split
   ·rfl
   ·rfl
 ·try dsimp only
  split
  ·exact F.rng _ b.1 b.2.1
  ·exact F.rng p p0 p1
theorem Nam.skip {n:Int} {es:List (Int×Int)} {f:Int→Int} {e:Int×Int} (F:Nam n es f) (h:f e.1=f e.2):Nam n (es++[e]) f :=
 ⟨fun p p0 p1=>(F.conn p p0 p1).mono fun a ha=>aI _ ha,fun a ha=>by
  rcases aM.mp ha with y | y
  ·exact F.same a y
  ·rw [ak.mp y];exact h,F.rng⟩
theorem Lab.skip {n:Int} {es:List (Int×Int)} {f:Int→Int} {e:Int×Int} (F:Lab n es f) (h:f e.1=f e.2):Lab n (es++[e]) f :=
 ⟨fun p p0 p1=>(F.conn p p0 p1).mono fun a ha=>aI _ ha,fun a ha=>by
  rcases aM.mp ha with y | y
  ·exact F.same a y
  ·rw [ak.mp y];exact h,F.low⟩
noncomputable def inF (es:List (Int×Int)) (i:Nat):Bool:=@decide (¬Cn (es.take i) (es.getD i (0,0)).1 (es.getD i (0,0)).2) (Classical.propDecidable _)
theorem gG {es:List (Int×Int)} {i:Nat}:inF es i=true↔¬Cn (es.take i) (es.getD i (0,0)).1 (es.getD i (0,0)).2:=by
 unfold inF;exact @decide_eq_true_iff _ (Classical.propDecidable _)
noncomputable def frN (es:List (Int×Int)) (n:Nat):List Int:=((bI n).filter fun i=>inF es i).map fun (i:Nat)=>(i:Int)
noncomputable def gL (es:List (Int×Int)):List Int:=frN es es.length
theorem iZ (es:List (Int×Int)) (n:Nat):frN es (n+1)=frN es n++(if inF es n=true then [(n:Int)] else []):=by
 unfold frN
 rw [fu,bV,aw]
 by_cases h:inF es n=true
 ·rw [if_pos h,bT h];rfl
 ·rw [if_neg h,bU h];rfl
theorem jW {es:List (Int×Int)} {n:Nat} {t:Int}:t∈frN es n↔0≤t∧t<n∧inF es t.toNat=true:=by
 unfold frN
 rw [bE]
 constructor
 ·rintro ⟨m,hm,rfl⟩
  rw [bG,bM] at hm
  exact ⟨by omega,by omega,hm.2⟩
 ·rintro ⟨h0,h1,h2⟩
  exact ⟨t.toNat,bG.mpr ⟨bM.mpr (by omega),h2⟩,by omega⟩
theorem ke (es:List (Int×Int)) (n:Nat):(frN es n).length≤n:=by
 unfold frN
 rw [aa]
 exact cu (bP _ _) (by rw [bW];exact aN _)
def ir (n:Nat):List Int:=(bI n).map fun (i:Nat)=>(i:Int)
def oth (n:Nat) (t:Int):List Int:=(ir n).filter fun z=>decide (z≠t)
theorem pT (n:Nat):ir (n+1)=ir n++[(n:Int)]:=by unfold ir;rw [fu,aw];rfl
theorem gM (n:Nat):(ir n).length=n:=by unfold ir;rw [aa,bW]
theorem iU {n i:Nat} (h:i<n):(ir n)[i]?=some (i:Int):=by unfold ir;rw [a_,List.getElem?_range h];rfl
theorem fP {n:Nat} {t:Int}:t∈ir n↔0≤t∧t<n:=by
 unfold ir
 rw [bE]
 constructor
 ·rintro ⟨m,hm,rfl⟩
  rw [bM] at hm
  omega
 ·rintro ⟨h0,h1⟩
  exact ⟨t.toNat,bM.mpr (by omega),by omega⟩
theorem yH (n:Nat):((bI n).map fun i=>0+((i:Nat):Int))=ir n:=by
 unfold ir
 exact dW fun i _=>fX _
noncomputable def fre (es:List (Int×Int)):List Int:=(ir es.length).filter fun z=>!((gL es).any (·==z))
end L2
namespace L2
open PySem PySem.Spec PyProof.Rows
theorem Vals.qS:∀{ns:List Int} {us:List Value},Vals (ns.map V.int) us→IntsAre us ns
 | [],_,.nil=>.nil
 | _::_,_,.cons r t=>by obtain ⟨k,rfl⟩:=r;exact .cons _ _ (Vals.qS t)
theorem IntsAre.vals:∀{ns:List Int} {us:List Value},IntsAre us ns→Vals (ns.map V.int) us
 | _,_,.nil=>.nil
 | _,_,.cons _ _ t=>.cons ⟨_,rfl⟩ (IntsAre.vals t)
section
variable {X:Cx} {K:ai}
theorem jm (hK:X.K=K):gK X (.builtin "sorted") (fun xs H Q=>∃(p:Addr) (ns:List Int),xs=[.ref p]∧SqL K H p (ns.map V.int)∧ns.length<64∧∀(l:Addr) (ns':List Int),H l=none→ns'.Perm ns→ns'.Pairwise (·≤·)→Q (.ref l) (upd H l (.lst (ns'.map V.int)))):=by
 subst hK
 intro pins s σ H xs us Q I r h
 obtain ⟨p,ns,rfl,hq,hz,q⟩:=h
 obtain ⟨u,rfl,rx⟩:=vals1 r
 cases rx
 obtain ⟨its,rv,pl,hzz⟩:=I.list hq
 have hlen:=rv.length
 rw [aa] at hlen
 refine sorted_ints pl.isList (Vals.qS rv) (by omega) fun out ns' a1 a2 a3=>?_
 obtain ⟨e,he⟩:=sortedAll_at s.heap its out
 have hl':=a2.length_eq
 exact ⟨.ref _,_,I.laid (t':=s.toks) (fun _ _=>sortedAll_old) (gR _) (show fN X.prog X.w _ (sortedAll s.heap its out) _ (.lst (ns'.map V.int)) from ⟨by rw [aa];exact aL (aE (by omega)),out.toList,e,IntsAre.vals a1,he⟩),rfl,q _ ns' (I.hok.fresh (gR _)) a2 a3⟩
end
theorem iN:∀{a b:List Int},a.Perm b→a.Pairwise (·≤·)→b.Pairwise (·≤·)→a=b:=fun h ha hb=>h.eq_of_pairwise (le:=(·≤·)) (fun _ _ _ _ x y=>Int.le_antisymm x y) ha hb
end L2
namespace L2
open PySem PySem.Spec PyProof.Rows
def lf (ls:List Int) (p:Int):Int:=ls.getD p.toNat 0
theorem lF (n:Nat) (p:Int) (p0:0≤p) (p1:p<n):lf ((bI n).map fun i=>0+((i:Nat):Int)) p=p:=by
 unfold lf
 rw [ae,a_,List.getElem?_range (by omega)]
 show 0+((p.toNat:Nat):Int)=p
 omega
theorem qH (ls:List Int) (g:Int→Int) (p:Int) (p0:0≤p) (p1:p<ls.length):lf (ls.map g) p=g (lf ls p):=by
 unfold lf
 rw [ae,a_,ae,aj (show p.toNat<ls.length by omega)];rfl
theorem bN {H0 H':Hp} {l:Addr} (s:bx H0 H') (n:H' l=none):H0 l=none:=by
 cases e:H0 l with
 | none=>rfl
 | some o=>have:=s _ _ e;rw [n] at this;cases this
theorem gy {K:ai} {H:Hp} {ys:List V} {es:List (Int×Int)} {t:Int} (hp:Pairs K H ys es) (h0:0≤t) (h1:t<(es.length:Int)):∃r,atI ys t=some (.ref r)∧SqT K H r [.int (bc es t).1,.int (bc es t).2]∧bc es t∈es:=by
 have hi:t.toNat<es.length:=by omega
 obtain ⟨r,e,er,hr,ei,he⟩:=hp.get hi
 have e0:bc es t=e:=by unfold bc;rw [ae,ei];rfl
 rw [e0]
 exact ⟨r,vU h0 er,hr,he⟩
theorem Nam.start (n:Nat) (m:Int) (h:m.toNat=n):Nam m [] (lf ((bI n).map fun i=>0+((i:Nat):Int))):=(Nam.nil m).congr (fun e he=>(nomatch he)) fun p p0 p1=>(lF n p p0 (by omega)).symm
def dT (es:List (Int×Int)):PyData:=.tuple (es.map dP)
end L2
namespace L2
open PySem
def dp (p:Int) (es:List (Int×Int)) (fs:List Int):Nat→Int
 | 0=>0
 | i+1=>dp p es fs i+(if (es.getD i (0,0)).2=p then fs.getD i 0 else 0)-(if (es.getD i (0,0)).1=p then fs.getD i 0 else 0)
theorem rG {es:List (Int×Int)} {fs zs:List Int} {n i:Nat} {e:Int×Int} (hz:zs.length=n) (hi:es[i]?=some e) (b1:0≤e.1) (b2:e.1<(n:Int)) (b3:0≤e.2) (b4:e.2<(n:Int)) (h:∀p:Nat,p<n→zs.getD p 0=dp p es fs i) (p:Nat) (hp:p<n) :
  ((zs.set e.1.toNat (zs.getD e.1.toNat 0-fs.getD i 0)).set e.2.toNat ((zs.set e.1.toNat (zs.getD e.1.toNat 0-fs.getD i 0)).getD e.2.toNat 0+fs.getD i 0)).getD p 0=dp p es fs (i+1):=by
 have hE:es.getD i (0,0)=e:=by rw [ae,hi];rfl
 have h0:=h p hp
 rw [lI (by rw [cx];omega),lI (by omega),lI (by omega)]
 show _=dp p es fs i+_-_
 rw [hE,←h0]
 generalize fs.getD i 0=a
 have t1:e.1.toNat=p↔e.1=(p:Int):=by omega
 have t2:e.2.toNat=p↔e.2=(p:Int):=by omega
 by_cases c2:e.2=(p:Int)
 ·rw [if_pos (t2.mpr c2),if_pos c2,t2.mpr c2]
  by_cases c1:e.1=(p:Int)
  ·rw [if_pos (t1.mpr c1),if_pos c1,t1.mpr c1];omega
  ·rw [if_neg (fun z=>c1 (t1.mp z)),if_neg c1];omega
 ·rw [if_neg (fun z=>c2 (t2.mp z)),if_neg c2]
  by_cases c1:e.1=(p:Int)
  ·rw [if_pos (t1.mpr c1),if_pos c1,t1.mpr c1];omega
  ·rw [if_neg (fun z=>c1 (t1.mp z)),if_neg c1];omega
def iM (ps:List Int) (z:Int):Bool:=ps.any (·==z)
def ac (ps:List Int) (es:List (Int×Int)) (fs:List Int):Nat→Int
 | 0=>0
 | i+1=>ac ps es fs i+(if (iM ps (es.getD i (0,0)).1&&!iM ps (es.getD i (0,0)).2)=true then fs.getD i 0 else 0)-(if (iM ps (es.getD i (0,0)).2&&!iM ps (es.getD i (0,0)).1)=true then fs.getD i 0 else 0)
theorem ic (z:Int) (fs:List Int) (n:Nat):(fs.map (z*·)).getD n 0=z*fs.getD n 0:=by
 rw [ae,a_,ae]
 cases fs[n]? with
 | none=>exact (cV z).symm
 | some v=>rfl
theorem kG (p z:Int) (es:List (Int×Int)) (fs:List Int):∀n,dp p es (fs.map (z*·)) n=z*dp p es fs n
 | 0=>(cV z).symm
 | n+1=>by
  show dp p es (fs.map (z*·)) n+_-_=z*(dp p es fs n+_-_)
  rw [kG p z es fs n,ic,Int.mul_sub,fT]
  by_cases c1:(es.getD n (0,0)).2=p<;>by_cases c2:(es.getD n (0,0)).1=p<;>simp only [c1,c2,if_true,if_false,cV]
theorem hU (fs gs:List Int) (h:fs.length=gs.length) (n:Nat):(bO (·+·) fs gs).getD n 0=fs.getD n 0+gs.getD n 0:=by
 rw [ae,List.getElem?_zipWith,ae,ae]
 by_cases hn:n<fs.length
 ·rw [aj hn,aj (show n<gs.length by omega)];rfl
 ·rw [List.getElem?_eq_none (by omega),List.getElem?_eq_none (show gs.length≤n by omega)];rfl
theorem jw (p:Int) (es:List (Int×Int)) (fs gs:List Int) (h:fs.length=gs.length):∀n,dp p es (bO (·+·) fs gs) n=dp p es fs n+dp p es gs n
 | 0=>rfl
 | n+1=>by
  show dp p es (bO (·+·) fs gs) n+_-_=(dp p es fs n+_-_)+(dp p es gs n+_-_)
  rw [jw p es fs gs h n,hU fs gs h]
  by_cases c1:(es.getD n (0,0)).2=p<;>by_cases c2:(es.getD n (0,0)).1=p<;>simp only [c1,c2,if_true,if_false]<;>omega
theorem kU (a z:Int):∀ps:List Int,ps.Nodup→(ps.map fun p=>if z=p then a else 0).sum=if iM ps z=true then a else 0
 | [],_=>rfl
 | p::ps,h=>by
  rw [dv] at h
  rw [bf,cW,kU a z ps h.2]
  show _=if ((p==z)||iM ps z)=true then a else 0
  by_cases c:z=p
  ·subst c
   have hn:iM ps z=false:=by
    unfold iM
    rw [List.any_eq_false]
    intro y hy e
    rw [beq_iff_eq] at e
    exact h.1 (e▸hy)
   rw [hn,if_pos rfl,beq_self_eq_true];simp
  ·have hb:(p==z)=false:=by rw [beq_eq_false_iff_ne];exact fun e=>c e.symm
   rw [if_neg c,hb,Bool.false_or,fX]
theorem lS (A B C:Int→Int):∀ps:List Int,(ps.map fun p=>A p+B p-C p).sum=(ps.map A).sum+(ps.map B).sum-(ps.map C).sum
 | []=>rfl
 | p::ps=>by
  rw [bf,cW,lS A B C ps,bf,bf,bf,cW,cW,cW];omega
theorem vX (ps:List Int) (hN:ps.Nodup) (es:List (Int×Int)) (fs:List Int):∀n,ac ps es fs n=-(ps.map fun p=>dp p es fs n).sum
 | 0=>by
  have:∀ps:List Int,(ps.map fun _=>(0:Int)).sum=0:=fun ps=>by
   induction ps with
   | nil=>rfl
   | cons p ps ih=>rw [bf,cW,ih];rfl
  show (0:Int)=-(ps.map fun _=>(0:Int)).sum
  rw [this];rfl
 | n+1=>by
  have e:=lS (fun p=>dp p es fs n) (fun p=>if (es.getD n (0,0)).2=p then fs.getD n 0 else 0) (fun p=>if (es.getD n (0,0)).1=p then fs.getD n 0 else 0) ps
  rw [kU _ _ _ hN,kU _ _ _ hN] at e
  show ac ps es fs n+_-_=-(ps.map fun p=>dp p es fs n+(if (es.getD n (0,0)).2=p then fs.getD n 0 else 0)-(if (es.getD n (0,0)).1=p then fs.getD n 0 else 0)).sum
  rw [e,vX ps hN es fs n]
  cases iM ps (es.getD n (0,0)).1<;>cases iM ps (es.getD n (0,0)).2<;>simp<;>omega
theorem lP {ps:List Int} (hN:ps.Nodup) {es:List (Int×Int)} {fs:List Int} {n:Nat} (h:∀p:Int,dp p es fs n=0):ac ps es fs n=0:=by
 rw [vX ps hN es fs n]
 have:∀ps:List Int,(ps.map fun p=>dp p es fs n).sum=0:=fun ps=>by
  induction ps with
  | nil=>rfl
  | cons p ps ih=>rw [bf,cW,ih,h];rfl
 rw [this];rfl
theorem fY (fs:List Int) (i n:Nat) (v:Int) (h:i<fs.length):(fs.set i v).getD n 0=if i=n then v else fs.getD n 0:=by
 rw [ae,List.getElem?_set,ae]
 by_cases c:i=n
 ·rw [if_pos c,if_pos c,if_pos h];rfl
 ·rw [if_neg c,if_neg c]
theorem kF (p:Int) (es:List (Int×Int)) (fs:List Int) (k:Nat) (v:Int) (hk:k<fs.length):∀n,dp p es (fs.set k v) n=dp p es fs n+(if k<n then (if (es.getD k (0,0)).2=p then v-fs.getD k 0 else 0)-(if (es.getD k (0,0)).1=p then v-fs.getD k 0 else 0) else 0)
 | 0=>by show (0:Int)=0+_;rw [if_neg (cw _)];rfl
 | n+1=>by
  show dp p es (fs.set k v) n+_-_=dp p es fs n+_-_+_
  rw [kF p es fs k v hk n,fY fs k n v hk]
  by_cases c:k=n
  ·subst c
   rw [if_neg (cL _),if_pos rfl,if_pos (cA _)]
   by_cases c1:(es.getD k (0,0)).2=p<;>by_cases c2:(es.getD k (0,0)).1=p<;>simp only [c1,c2,if_true,if_false]<;>omega
  ·rw [if_neg c]
   by_cases c3:k<n
   ·rw [if_pos c3,if_pos (show k<n+1 by omega)];omega
   ·rw [if_neg c3,if_neg (show ¬k<n+1 by omega)];omega
theorem jx (p:Int) (es:List (Int×Int)) (k:Nat):∀n,dp p es (au k 0) n=0
 | 0=>rfl
 | n+1=>by
  show dp p es (au k 0) n+_-_=0
  have e:(au k (0:Int)).getD n 0=0:=by
   rw [ae,cy];split<;>rfl
  rw [jx p es k n,e];simp
theorem oo {m:Int}:∀{es:List (Int×Int)},(∀e∈es,0≤e.1∧e.1<m∧0≤e.2∧e.2<m)→∀n,∃f,Lab m (es.take n) f
 | es,hE,0=>⟨_,Lab.nil m⟩
 | es,hE,n+1=>by
  obtain ⟨f,F⟩:=oo hE n
  rw [List.take_add_one]
  cases h:es[n]? with
  | none=>exact ⟨f,by simpa using F⟩
  | some e=>exact ⟨_,F.merge (hE e (bj h))⟩
theorem eZ {ps:List Int} {z:Int}:iM ps z=true↔z∈ps:=by
 unfold iM
 rw [cN]
 constructor
 ·rintro ⟨x,hx,e⟩;rw [←beq_iff_eq.mp e];exact hx
 ·exact fun h=>⟨z,h,beq_iff_eq.mpr rfl⟩
theorem qX (n:Nat) (f:Int→Int) (r:Int):(grp n f r).Nodup:=by
 unfold grp
 rw [b_,dq]
 exact (List.Pairwise.filter _ List.pairwise_lt_range).imp fun h z=>by omega
theorem rl {m:Int} {es:List (Int×Int)} {fs:List Int} (hE:∀e∈es,0≤e.1∧e.1<m∧0≤e.2∧e.2<m) (hd:∀p:Int,dp p es fs es.length=0) (h0:∀t,t<es.length→¬inF es t=true→fs.getD t 0=0):∀t,t<es.length→fs.getD t 0=0:=by
 have key:∀k t,t<es.length→es.length≤t+k→fs.getD t 0=0:=by
  intro k
  induction k with
  | zero=>intro t ht h;omega
  | succ k ih =>
   intro t ht h
   by_cases hF:inF es t=true
   ·obtain ⟨f,F⟩:=oo hE t
    have hg:es[t]?=some (es.getD t (0,0)):=by rw [ae,aj ht];rfl
    obtain ⟨b1,b2,b3,b4⟩:=hE _ (bj hg)
    have hne:¬f (es.getD t (0,0)).1=f (es.getD t (0,0)).2:=fun z=>gG.mp hF ((F.iff b1 b2 b3 b4).mp z)
    have hz:=lP (qX m.toNat f (f (es.getD t (0,0)).1)) hd
    have hmem:∀z:Int,0≤z→z<m→iM (grp m.toNat f (f (es.getD t (0,0)).1)) z=decide (f z=f (es.getD t (0,0)).1):=fun z z0 z1=>by
     rw [cS,eZ,jV,decide_eq_true_iff]
     exact ⟨fun h=>h.2.2,fun h=>⟨z0,by omega,h⟩⟩
    have st:∀n,n≤es.length→ac (grp m.toNat f (f (es.getD t (0,0)).1)) es fs n=if t<n then fs.getD t 0 else 0:=by
     intro n
     induction n with
     | zero=>intro _;rw [if_neg (cw _)];rfl
     | succ n ihn =>
      intro hn
      show ac _ es fs n+_-_=_
      rw [ihn (by omega)]
      have hgn:es[n]?=some (es.getD n (0,0)):=by rw [ae,aj (show n<es.length by omega)];rfl
      obtain ⟨d1,d2,d3,d4⟩:=hE _ (bj hgn)
      rw [hmem _ d1 d2,hmem _ d3 d4]
      by_cases c:n<t
      ·have es1:f (es.getD n (0,0)).1=f (es.getD n (0,0)).2:=F.same _ (di.mpr ⟨n,by omega,by rw [ae,aj (show n<es.length by omega)];rfl⟩)
       rw [es1,if_neg (show ¬t<n by omega),if_neg (show ¬t<n+1 by omega)]
       cases decide (f (es.getD n (0,0)).2=f (es.getD t (0,0)).1)<;>simp
      ·by_cases c2:n=t
       ·subst c2
        rw [decide_eq_true rfl,decide_eq_false (fun z=>hne z.symm),if_neg (cL _),if_pos (cA _)];simp
       ·have hzn:fs.getD n 0=0:=ih n (by omega) (by omega)
        rw [if_pos (show t<n by omega),if_pos (show t<n+1 by omega),hzn];simp
    rw [st es.length (aN _),if_pos ht] at hz
    exact hz
   ·exact h0 t ht hF
 exact fun t ht=>key es.length t ht (by omega)
theorem rn {m:Int} {es:List (Int×Int)} {fs gs:List Int} (hE:∀e∈es,0≤e.1∧e.1<m∧0≤e.2∧e.2<m) (h1:fs.length=es.length) (h2:gs.length=es.length) (hf:∀p:Int,dp p es fs es.length=0) (hg:∀p:Int,dp p es gs es.length=0) (h0:∀t,t<es.length→¬inF es t=true→fs.getD t 0=gs.getD t 0):fs=gs:=by
 have hz:=rl (fs:=bO (·+·) fs (gs.map ((-1)*·))) hE (fun p=>by rw [jw p es _ _ (by rw [aa];omega),kG,hf p,hg p];rfl) fun t ht hn=>by
  rw [hU _ _ (by rw [aa];omega),ic,h0 t ht hn];omega
 apply ef (by omega)
 intro t ht1 ht2
 have:=hz t (by omega)
 rw [hU _ _ (by rw [aa];omega),ic,ae,aj ht1,ae,aj ht2] at this
 have e:fs[t]+-1*gs[t]=0:=this
 omega
theorem nF (es:List (Int×Int)):∀n,n≤es.length→∀{a b:Int},Cn (es.take n) a b→Cn (sub es (frN es n)) a b
 | 0,_,_,_,h=>h.mono fun e he=>(by simp at he)
 | n+1,hn,a,b,h=>by
  have ih:∀{a b:Int},Cn (es.take n) a b→Cn (sub es (frN es (n+1))) a b:=fun h=>(nF es n (by omega) h).mono fun e he=>by
   rw [iZ];unfold sub at *;rw [aw];exact aI _ he
  have hg:es[n]?=some (es.getD n (0,0)):=by rw [ae,aj (show n<es.length by omega)];rfl
  refine Cn.map (g:=id) (fun e he=>?_) h
  rw [List.take_add_one,hg] at he
  rcases aM.mp he with y | y
  ·exact ih (Cn.tie y)
  ·have ee:e=es.getD n (0,0):=by simpa using y
   subst ee
   by_cases c:inF es n=true
   ·refine Cn.tie ?_
    rw [iZ,if_pos c]
    unfold sub
    rw [aw]
    exact aG _ (ak.mpr rfl)
   ·exact ih (Classical.byContradiction fun z=>c (gG.mpr z))
def cur (es:List (Int×Int)) (a:Int) (ts:List Int):Int:=ts.foldl (fun p t=>far (bc es t) p) a
theorem oH (es:List (Int×Int)) (a:Int) (ts:List Int) (t:Int):cur es a (ts++[t])=far (bc es t) (cur es a ts):=by unfold cur;rw [List.foldl_append];rfl
theorem Way.cur {es:List (Int×Int)} {ss ts ps:List Int} {a p:Int} (h:Way es ss a ts ps p):L2.cur es a ts=p:=by
 induction h with
 | nil=>rfl
 | snoc _ _ _ _ _ _ ih=>rw [oH,ih]
theorem Way.step {es:List (Int×Int)} {ss ts ps:List Int} {a p:Int} (h:Way es ss a ts ps p):∀i t,ts[i]?=some t→(bc es t).1=L2.cur es a (ts.take i)∨(bc es t).2=L2.cur es a (ts.take i):=by
 induction h with
 | nil=>intro i t e;simp at e
 | @snoc ts ps p t h _ _ _ hp _ ih =>
  intro i t' e
  by_cases c:i<ts.length
  ·rw [cG c] at e
   rw [List.take_append_of_le_length (by omega)]
   exact ih i t' e
  ·have hi:i=ts.length:=by
    have:=(cE.mp e).1
    rw [ay] at this
    have e1:[t].length=1:=rfl
    omega
   subst hi
   rw [List.getElem?_append_right (aN _),Nat.sub_self] at e
   have et:t=t':=by simpa using e
   rw [List.take_left,h.cur,←et]
   exact hp
end L2
namespace L2
open PySem PySem.Spec PyProof.Rows
section
variable {X:Cx}
def Bz (K:ai):V→List V→Hp→VK→Prop:=fun x vs H Q=>∃(p:Addr) (ns:List Int) (z:Int) (j:Nat),x=.ref p∧vs=[.int z]∧SqL K H p (ns.map V.int)∧j<ns.length∧ns.length≤1000∧ns.getD j 0=z∧(∀i,i<j→ns.getD i 0≠z)∧Q (.int (j:Nat)) H
theorem tJ:MtM X "list.index" (Bz X.K):=by
 intro pins s σ H x vs v us Q I rx rv h
 obtain ⟨p,ns,z,j,rfl,rfl,hq,hj,hn,hz,hno,q⟩:=h
 cases rx
 obtain ⟨u,rfl,ry⟩:=rv.one
 obtain ⟨its,r,⟨ob,n,e,c,dn,d⟩,_⟩:=I.list hq
 obtain ⟨oc,od,odt,osl⟩:=ob
 dsimp only at c dn d
 subst c dn d
 have hl:=r.length
 rw [aa] at hl
 have key:∀i (hi:i<its.toArray.size),eqU (.int z) its.toArray[i]=(ns.getD i 0==z):=fun i hi=>by
  obtain ⟨t,et⟩:=r.lH (i:=i) (u:=its.toArray[i]) (Array.getElem?_eq_getElem hi)
  rw [et]
  exact oy (y:=V.int (ns.getD i 0)) ⟨t,rfl⟩ rfl
 refine call_meets PySem.F.slot_list_index ⟨_,e,rfl⟩ PySem.F.entry_list_index (PySem.F.args_list_index_2 _ _) (SeqAt.list_indexAt p its.toArray n _ _ u (eqU (.int z)) j (by rw [aT];omega) (by omega) (by rw [key,hz];exact beq_self_eq_true z) fun i hi hij=>by rw [key];exact beq_eq_false_iff_ne.mpr (hno i hij)) ⟨e,fun w hw=>ik ry rfl r (gm ns) w (by simpa using hw),?_⟩
 exact ⟨.int (j:Nat),H,I.tok _,⟨_,rfl⟩,q⟩
theorem uM {K:ai} (h:X.K=K):MtM X "list.index" (Bz K):=by subst h;exact tJ
end
end L2
namespace L2
open PySem PySem.Spec PyProof.Rows
section
variable {X:Cx}
theorem oi:OpR X (binaryOp .FloorDiv) (rI (fun _ j=>0<j∧j<2^200) fun i j=>.int (i/j)):=opI fun i j _ _ _ _ _ hc q=>by
 have h1:(0:Int)<j:=hc.1
 have h2:j<2^200:=hc.2
 have h3:j.natAbs≠0:=by omega
 have h4:j.natAbs<2^200:=by omega
 exact floordiv_int (by omega) (by rw [Int.fdiv_eq_ediv_of_nonneg i (by omega)];exact q) (.inl (PyProof.noPylong_of_log2 (bp ((Nat.log2_lt h3).mpr h4) (by decide))))
end
theorem vL {es:List (Int×Int)} {k:Nat} (hk:k<es.length):(k:Int)∈fre es↔¬inF es k=true:=by
 unfold fre
 rw [bG,fP]
 have:(gL es).any (·==(k:Int))=true↔inF es k=true:=by
  rw [show (gL es).any (·==(k:Int))=iM (gL es) (k:Int) from rfl,eZ]
  unfold gL
  rw [jW]
  exact ⟨fun h=>h.2.2,fun h=>⟨by omega,by omega,h⟩⟩
 constructor
 ·rintro ⟨_,h⟩ z
  rw [this.mpr z] at h;cases h
 ·intro h
  refine ⟨⟨by omega,by omega⟩,?_⟩
  rw [du.mpr fun z=>h (this.mp z)];rfl
theorem xR (es:List (Int×Int)):(fre es).Nodup:=by
 unfold fre ir
 refine List.Nodup.sublist List.filter_sublist ?_
 rw [b_,dq]
 exact List.pairwise_lt_range.imp fun h z=>by omega
theorem rg (es:List (Int×Int)):(fre es).length≤es.length:=cu (bP _ _) (by rw [gM];exact aN _)
theorem lE {es:List (Int×Int)} {t:Int} (h:t∈fre es):0≤t∧t<(es.length:Int):=fP.mp (bG.mp h).1
def FW (es:List (Int×Int)) (vs fs:List Int):Prop:=fs.length=es.length∧(∀p:Int,dp p es fs es.length=0)∧∀j,j<(fre es).length→fs.getD ((fre es).getD j 0).toNat 0=vs.getD j 0
theorem rh {es:List (Int×Int)} {t:Nat} (ht:t<es.length) (hn:¬inF es t=true):∃j,j<(fre es).length∧(fre es).getD j 0=(t:Int):=by
 obtain ⟨j,hj,e⟩:=cf.mp ((vL ht).mpr hn)
 exact ⟨j,hj,by rw [ae,aj hj];exact e⟩
theorem FW.uniq {m:Int} {es:List (Int×Int)} {vs fs gs:List Int} (hE:∀e∈es,0≤e.1∧e.1<m∧0≤e.2∧e.2<m) (hf:FW es vs fs) (hg:FW es vs gs):fs=gs:=rn hE hf.1 hg.1 hf.2.1 hg.2.1 fun t ht hn=>by
 obtain ⟨j,hj,e⟩:=rh ht hn
 have h1:=hf.2.2 j hj
 have h2:=hg.2.2 j hj
 rw [e,show ((t:Nat):Int).toNat=t by omega] at h1 h2
 rw [h1,h2]
end L2
namespace L2
theorem jl {α:Type} {P:α→Bool} {t:α}:∀{L:List α},L.Nodup→t∈L→(∀s∈L,P s=true↔s=t)→L.filter P=[t]
 | [],_,h,_=>nomatch h
 | s::L,hn,hm,hp=>by
  rw [dv] at hn
  by_cases e:s=t
  ·subst e
   rw [bT ((hp s aP).mpr rfl)]
   congr 1
   rw [List.filter_eq_nil_iff]
   intro r hr z
   exact hn.1 ((hp r (aO _ hr)).mp z▸hr)
  ·rw [bU (fun z=>e ((hp s aP).mp z))]
   exact jl hn.2 ((aU.mp hm).resolve_left fun z=>e z.symm) fun r hr=>hp r (aO _ hr)
theorem max_mem:∀{L:List Int},L≠[]→∃t∈L,∀s∈L,s≤t
 | [],h=>absurd rfl h
 | [a],_=>⟨a,aP,fun s hs=>by rw [ak.mp hs];exact gS _⟩
 | a::b::L,_=>by
  obtain ⟨t,ht,hm⟩:=max_mem (L:=b::L) (by simp)
  by_cases h:a≤t
  ·exact ⟨t,aO _ ht,fun s hs=>by
    rcases aU.mp hs with y | y
    ·rw [y];exact h
    ·exact hm s y⟩
  ·exact ⟨a,aP,fun s hs=>by
    rcases aU.mp hs with y | y
    ·rw [y];exact gS _
    ·have:=hm s y;omega⟩
theorem oI {es:List (Int×Int)} {L:List Int} {a x:Int} {s:Int} (hs:s∈L) (hx:(bc es s).1=x∨(bc es s).2=x) (h:Cn (sub es L) a x):Cn (sub es L) a (bc es s).1:=by
 rcases hx with y | y
 ·rw [y];exact h
 ·exact Cn.bwd (e:=bc es s) (by rw [y];exact h) (bE.mpr ⟨s,hs,rfl⟩)
theorem xZ {es:List (Int×Int)} {L:List Int} {a x:Int} {s:Int} (hs:s∈L) (hx:(bc es s).1=x∨(bc es s).2=x) (h:Cn (sub es L) a (bc es s).1):Cn (sub es L) a x:=by
 rcases hx with y | y
 ·rw [←y];exact h
 ·rw [←y];exact Cn.fwd h (bE.mpr ⟨s,hs,rfl⟩)
end L2
namespace L2
open PySem PySem.Spec PyProof.Rows
section
variable {X:Cx}
end
end L2
namespace L2
open PySem PySem.Spec PyProof.Rows
end L2
namespace L2
open PySem PySem.Spec PyProof.Rows
def en (p:Int) (e:Int×Int):Int:=(if e.1=p then 1 else 0)+(if e.2=p then 1 else 0)
end L2
namespace L2
open PySem PySem.Spec PyProof.Rows
section
variable {X:Cx}
theorem vx {i j:Int} (h1:i.natAbs<2^3000) (h2:j.natAbs<2^3000):IntMulOk i j:=by
 have h3:=intBits_le h1
 have h4:=intBits_le h2
 unfold IntMulOk
 intro h
 rw [cC] at h
 have h5:((Builtin.Int.intBits i+Builtin.Int.intBits j:Nat):Int)>bitsLine:=of_decide_eq_true h.2
 have h6:(6000:Int)≤bitsLine:=by decide
 omega
theorem vF:PIp X .Mult (fun x y H Q=>∃i j,x=.int i∧y=.int j∧i.natAbs<2^3000∧j.natAbs<2^3000∧Q (.int (i*j)) H):=by
 intro pins s σ H x y v u Q I r1 r2 h
 obtain ⟨i,j,rfl,rfl,c1,c2,q⟩:=h
 obtain ⟨t,rfl⟩:=r1
 obtain ⟨t',rfl⟩:=r2
 exact imul_int ⟨.int _,H,I.tok _,⟨_,rfl⟩,q⟩ (vx c1 c2)
end
def isR (m:Int) (es:List (Int×Int)) (fs:List Int) (k:Int):Bool:=(fs.all fun r=>decide (0≤r)&&decide (r<k))&&decide (∀p:Nat,p<m.toNat→dp p es fs es.length%k=0)
noncomputable def frv (es:List (Int×Int)) (rs:List Int):List Int:=(fre es).map fun t=>rs.getD t.toNat 0
theorem gX {xs:List Int} {i:Nat} (h:i<xs.length):xs.getD i 0=xs[i]:=by rw [ae,aj h];rfl
theorem kC {m k:Int} {es:List (Int×Int)} {rs:List Int} (h:isR m es rs k=true):∀r∈rs,0≤r∧r<k:=fun r hr=>by
 unfold isR at h
 rw [cC,cY] at h
 have:=h.1 r hr
 rw [cC,decide_eq_true_iff,decide_eq_true_iff] at this
 exact this
theorem ph {m k:Int} {es:List (Int×Int)} {rs:List Int} (hl:rs.length=es.length) (h:isR m es rs k=true):∀d∈frv es rs,0≤d∧d<k:=fun d hd=>by
 obtain ⟨t,ht,rfl⟩:=bE.mp hd
 obtain ⟨t0,t1⟩:=lE ht
 have hi:t.toNat<rs.length:=by omega
 rw [gX hi]
 exact kC h _ (cj hi)
theorem rb (es:List (Int×Int)) (rs:List Int):(frv es rs).length=(fre es).length:=aa ..
end L2
namespace L2
open PySem PySem.Spec PyProof.Rows PySem.W Builtin Builtin.ObjectAttr
section
variable {prog:Program} {w:World} {B:Around} {E:Value→Shared→Prop} {K:Frag} {A F f:Addr} {h:Heap} {g:Array GenState} {d:Drawn} {t:Nat} {os:OsState}
end
section
variable {prog:Program} {w:World} {M:Model} {B:Around} {E:Value→Shared→Prop} {env:Env}
variable {nm q:Str} {C N:Addr} {bs bm:List Value} {hdct:Bool} {sn:List Str} {sub:List Value} {ab:Bool} {col:Option Bool} {dd:Option Addr} {k0 k1 k2 k3 k5:Option Value} {newId:String}
end
end L2
namespace L2
open PySem PySem.Spec PyProof.Rows PySem.W Builtin Builtin.ObjectAttr
section
variable {prog:Program} {w:World} {B:Around} {E:Value→Shared→Prop} {K:Frag} {A F f x:Addr} {s:Shared}
end
section
variable {X:Cx} {σ:St} {H:Hp} {s:Shared} {A F f x:Addr}
end
section
variable {X:Cx} {Ex:St→Value→Hp→Prop}
end
section
variable {X:Cx}
end
section
variable {prog:Program} {w:World} {B:Around} {E:Value→Shared→Prop} {K:Frag} {A x:Addr} {s:Shared}
end
section
variable {X:Cx}
end
end L2
namespace L2
open PySem PySem.Spec PyProof.Rows PySem.W
section
variable {X:Cx}
end
end L2
namespace L2
open PySem PySem.Spec PyProof.Rows PySem.W
section
variable {X:Cx}
end
end L2
namespace L2
open PySem
theorem ye {k:Int} {ps:List Int} (hN:ps.Nodup) {es:List (Int×Int)} {fs:List Int} {n:Nat} (h:∀p∈ps,k∣dp p es fs n):k∣ac ps es fs n:=by
 rw [vX ps hN es fs n]
 have:∀ps:List Int,(∀p∈ps,k∣dp p es fs n)→k∣(ps.map fun p=>dp p es fs n).sum:=fun ps=>by
  induction ps with
  | nil=>exact fun _=>⟨0,by rw [cV];rfl⟩
  | cons p ps ih =>
   intro h
   rw [bf,cW]
   exact Int.dvd_add (h p aP) (ih fun q hq=>h q (aO _ hq))
 exact Int.dvd_neg.mpr (this ps h)
theorem rp {m k:Int} {es:List (Int×Int)} {fs:List Int} (hE:∀e∈es,0≤e.1∧e.1<m∧0≤e.2∧e.2<m) (hd:∀p:Int,0≤p→p<m→k∣dp p es fs es.length) (h0:∀t,t<es.length→¬inF es t=true→k∣fs.getD t 0):∀t,t<es.length→k∣fs.getD t 0:=by
 have key:∀n t,t<es.length→es.length≤t+n→k∣fs.getD t 0:=by
  intro n
  induction n with
  | zero=>intro t ht h;omega
  | succ n ih =>
   intro t ht h
   by_cases hF:inF es t=true
   ·obtain ⟨f,F⟩:=oo hE t
    have hg:es[t]?=some (es.getD t (0,0)):=by rw [ae,aj ht];rfl
    obtain ⟨b1,b2,b3,b4⟩:=hE _ (bj hg)
    have hne:¬f (es.getD t (0,0)).1=f (es.getD t (0,0)).2:=fun z=>gG.mp hF ((F.iff b1 b2 b3 b4).mp z)
    have hz:=ye (qX m.toNat f (f (es.getD t (0,0)).1)) fun p hp=>by
     obtain ⟨q0,q1,_⟩:=jV.mp hp
     exact hd p q0 (by omega)
    have hmem:∀z:Int,0≤z→z<m→iM (grp m.toNat f (f (es.getD t (0,0)).1)) z=decide (f z=f (es.getD t (0,0)).1):=fun z z0 z1=>by
     rw [cS,eZ,jV,decide_eq_true_iff]
     exact ⟨fun h=>h.2.2,fun h=>⟨z0,by omega,h⟩⟩
    have st:∀j,j≤es.length→k∣(ac (grp m.toNat f (f (es.getD t (0,0)).1)) es fs j-if t<j then fs.getD t 0 else 0):=by
     intro j
     induction j with
     | zero=>intro _;rw [if_neg (cw _)];exact ⟨0,by rw [cV];rfl⟩
     | succ j ihj =>
      intro hj
      have ih1:=ihj (by omega)
      show k∣(ac _ es fs j+_-_-_)
      have hgn:es[j]?=some (es.getD j (0,0)):=by rw [ae,aj (show j<es.length by omega)];rfl
      obtain ⟨d1,d2,d3,d4⟩:=hE _ (bj hgn)
      rw [hmem _ d1 d2,hmem _ d3 d4]
      by_cases c:j<t
      ·have es1:f (es.getD j (0,0)).1=f (es.getD j (0,0)).2:=F.same _ (di.mpr ⟨j,by omega,by rw [ae,aj (show j<es.length by omega)];rfl⟩)
       rw [es1,if_neg (show ¬t<j+1 by omega)]
       rw [if_neg (show ¬t<j by omega)] at ih1
       cases decide (f (es.getD j (0,0)).2=f (es.getD t (0,0)).1)<;>simpa using ih1
      ·by_cases c2:j=t
       ·subst c2
        rw [decide_eq_true rfl,decide_eq_false (fun z=>hne z.symm),if_pos (cA _)]
        rw [if_neg (cL _)] at ih1
        have e:∀A B:Int,A+(if (true&&!false)=true then B else 0)-(if (false&&!true)=true then B else 0)-B=A-0:=fun A B=>by simp
        rw [e];exact ih1
       ·obtain ⟨u,hu⟩:k∣fs.getD j 0:=ih j (by omega) (by omega)
        rw [if_pos (show t<j+1 by omega)]
        rw [if_pos (show t<j by omega)] at ih1
        obtain ⟨v,hv⟩:=ih1
        have e:∀(x y:Bool) (A B C:Int),A+(if (x&&!y)=true then C else 0)-(if (y&&!x)=true then C else 0)-B=(A-B)+C*((if x=true then 1 else 0)-(if y=true then 1 else 0)):=fun x y A B C=>by
         cases x<;>cases y<;>simp<;>omega
        rw [hu,e,hv,Int.mul_assoc,←fT]
        exact ⟨_,rfl⟩
    have:=st es.length (aN _)
    rw [if_pos ht] at this
    obtain ⟨v,hv⟩:=this
    obtain ⟨u,hu⟩:=hz
    exact ⟨u-v,by rw [Int.mul_sub];omega⟩
   ·exact h0 t ht hF
 exact fun t ht=>key es.length t ht (by omega)
theorem qI {m k:Int} {es:List (Int×Int)} {rs fs:List Int} (hE:∀e∈es,0≤e.1∧e.1<m∧0≤e.2∧e.2<m) (hl:rs.length=es.length) (hR:isR m es rs k=true) (h:FW es (frv es rs) fs):fs.map (·%k)=rs:=by
 have hb:=kC hR
 have hmod:∀p:Nat,p<m.toNat→dp p es rs es.length%k=0:=by
  unfold isR at hR
  rw [cC,decide_eq_true_iff] at hR
  exact hR.2
 have hfl:fs.length=(rs.map (-1*·)).length:=by rw [aa,h.1,hl]
 have g:∀t,(bO (·+·) fs (rs.map (-1*·))).getD t 0=fs.getD t 0-rs.getD t 0:=fun t=>by
  rw [hU _ _ hfl,ic];omega
 have key:=rp (k:=k) (fs:=bO (·+·) fs (rs.map (-1*·))) hE (fun p p0 p1=>by
  rw [jw p es _ _ hfl,h.2.1 p,kG]
  have:=hmod p.toNat (by omega)
  rw [Int.toNat_of_nonneg p0] at this
  obtain ⟨u,hu⟩:=Int.dvd_of_emod_eq_zero this
  exact ⟨-u,by rw [Int.mul_neg];omega⟩) (fun t ht hn=>by
  obtain ⟨j,hj,ej⟩:=rh ht hn
  have e1:=h.2.2 j hj
  rw [ej,aY] at e1
  have e2:(frv es rs).getD j 0=rs.getD t 0:=by
   rw [gX (by rw [rb];exact hj)]
   unfold frv
   rw [List.getElem_map,←gX hj,ej,aY]
  rw [g t,e1,e2]
  exact ⟨0,by omega⟩)
 refine ef (by rw [aa,h.1,hl]) fun t h1 h2=>?_
 rw [List.getElem_map]
 have ht:t<es.length:=by omega
 obtain ⟨u,hu⟩:=key t ht
 rw [g t,gX (by rw [h.1];exact ht),gX h2] at hu
 obtain ⟨b0,b1⟩:=hb rs[t] (cj h2)
 have e:fs[t]'(by rw [h.1];exact ht)=rs[t]+k*u:=by omega
 rw [e,Int.add_mul_emod_self_left,Int.emod_eq_of_lt b0 b1]
end L2
namespace L2
open PySem PySem.Spec PyProof.Rows
abbrev jc (h:Heap) (T:Addr) (a b c:Value):Prop:=h.get? T=some {cls:=.type "tuple",data:=.seq #[a,b,c]}
structure ZA3 (z TO i1 i2 i3:Addr) (f1 f2 f3:List Addr):Prop where
 m1:i1∈f1
 m2:i2∈f2
 m3:i3∈f3
 z1:z∉f1
 z2:z∉f2
 z3:z∉f3
 o1:TO∉f1
 o2:TO∉f2
 o3:TO∉f3
 x12:i1∉f2
 x13:i1∉f3
 x21:i2∉f1
 x23:i2∉f3
 x31:i3∉f1
 x32:i3∉f2
 oz:TO≠z
section
variable {prog:Program} {w:World} {A:Around} {E:Value→Shared→Prop} {s:Shared} {z TI TO i1 i2 i3:Addr} {f1 f2 f3:List Addr} {n1 n2 n3 i:Nat} {P1 P2 P3:Nat→Value→Prop} {S1 S2 S3:Nat→Heap→Prop} {a b c:Value}
theorem oN {Q:Value→Shared→Prop} (D1:Draws prog w A i1 f1 n1 P1 S1) (D2:Draws prog w A i2 f2 n2 P2 S2) (D3:Draws prog w A i3 f3 n3 P3 S3) (Z:ZA3 z TO i1 i2 i3 f1 f2 f3) (hz:IsZip s.heap z TI TO .none) (hTI:jc s.heap TI (.ref i1) (.ref i2) (.ref i3)) (hTO:jc s.heap TO a b c) (h1:S1 i s.heap) (h2:S2 i s.heap) (h3:S3 i s.heap) (l1:i<n1) (l2:i<n2) (l3:i<n3)
  (hQ:∀x y u h' tk,P1 i x→P2 i y→P3 i u→IsZip h' z TI TO (rawInt s.heap.objs.size)→jc h' TO x y u→S1 (i+1) h'→S2 (i+1) h'→S3 (i+1) h'→jc h' s.heap.objs.size x y u →
   (∀c o,c≠z→c≠TO→c≠i1→c≠i2→c≠i3→s.heap.get? c=some o→h'.get? c=some o)→Q (.ref s.heap.objs.size) {s with heap:=h',toks:=tk}) :
  wpAny (model prog w) A (Builtin.«zip.__next__» ⟨[.ref z],[]⟩) (fun fin s'=>∃v,fin=.done (.ret v)∧Q v s') E s:=by
 obtain ⟨hp,g,d,tk₀,os⟩:=s
 have Oz:=Z.oz
 have kz:=bC (Obj.mapFields fun v=>v.setIfInBounds 0 Value.ellipsis) hz rfl
 unfold Builtin.«zip.__next__»
 wp_walk using AutoSeq1.wpAny_loadPart' hz,AutoSeq1.wpAny_loadPart' hTI,wpAny_onRaise,D1.item i _ _ _ l1
 ·exact D1.frame _ _ _ h1 fun c hc o e=>aA _ (nin Z.z1 hc).symm e
 intro x h₂ t₂ px s₁ b₂
 have q2:∀c o,c≠z→c≠i1→hp.get? c=some o→h₂.get? c=some o:=fun c o cz c1 e=>b₂.extBut _ _ c1 (aA _ cz.symm e)
 have ez:=b₂.extBut _ _ (nin Z.z1 Z.m1).symm kz
 have TO2:jc h₂ TO a b c:=q2 _ _ Z.oz (nin Z.o1 Z.m1).symm hTO
 have kO:=bC (Obj.mapSeq fun v=>v.setIfInBounds 0 x) TO2 rfl
 wp_walk using AutoSeq1.wpAny_loadPart' TO2,wpAny_onRaise,D2.item i _ _ _ l2
 ·exact D2.frame _ _ _ h2 fun c hc o e=>aA _ (nin Z.o2 hc).symm (q2 _ _ (nin Z.z2 hc) (nin Z.x12 hc) e)
 intro y h₄ t₄ py s₂ b₄
 have q4:∀c o,c≠TO→c≠i2→h₂.get? c=some o→h₄.get? c=some o:=fun c o co c2 e=>b₄.extBut _ _ c2 (aA _ co.symm e)
 have ez4:=q4 _ _ Z.oz.symm (nin Z.z2 Z.m2).symm ez
 have TO4:jc h₄ TO x b c:=b₄.extBut _ _ (nin Z.o2 Z.m2).symm kO
 have kP:=bC (Obj.mapSeq fun v=>v.setIfInBounds 1 y) TO4 rfl
 wp_walk using AutoSeq1.wpAny_loadPart' TO4,wpAny_onRaise,D3.item i _ _ _ l3
 ·exact D3.frame _ _ _ h3 fun c hc o e=>aA _ (nin Z.o3 hc).symm (q4 _ _ (nin Z.o3 hc) (nin Z.x23 hc) (q2 _ _ (nin Z.z3 hc) (nin Z.x13 hc) e))
 intro u h₆ t₆ pu s₃ b₆
 have q6:∀c o,c≠TO→c≠i3→h₄.get? c=some o→h₆.get? c=some o:=fun c o co c3 e=>b₆.extBut _ _ c3 (aA _ co.symm e)
 have ez6:IsZip h₆ z TI TO .ellipsis:=q6 _ _ Z.oz.symm (nin Z.z3 Z.m3).symm ez4
 have TO6:jc h₆ TO x y c:=b₆.extBut _ _ (nin Z.o3 Z.m3).symm kP
 have n6:h₆.objs.size=hp.objs.size:=by rw [b₆.1,cK,b₄.1,cK,b₂.1,cK]
 have kR:=bC (Obj.mapSeq fun v=>v.setIfInBounds 2 u) TO6 rfl
 wp_walk using AutoSeq1.wpAny_loadPart' TO6,AutoSeq1.wpAny_loadPart' kR
 have n7:(h₆.update TO (Obj.mapSeq fun v=>v.setIfInBounds 2 u)).objs.size=hp.objs.size:=cK .. |>.trans n6
 have zl:z<hp.objs.size:=aW hz
 refine ⟨_,rfl,?_⟩
 rw [n7]
 have on:∀{c o} (f k:Obj→Obj),c≠z→((h₆.update TO (Obj.mapSeq fun v=>v.setIfInBounds 2 u)).push {cls:=.type "tuple",data:=.seq #[x,y,u]}).get? c=some o →
   ((((h₆.update TO (Obj.mapSeq fun v=>v.setIfInBounds 2 u)).push {cls:=.type "tuple",data:=.seq #[x,y,u]}).update z f).update z k).get? c=some o:=fun f k q e=>aA _ q.symm (aA _ q.symm e)
 have up:∀{c o} (f k:Obj→Obj),c≠z→c≠TO→h₆.get? c=some o→((((h₆.update TO (Obj.mapSeq fun v=>v.setIfInBounds 2 u)).push {cls:=.type "tuple",data:=.seq #[x,y,u]}).update z f).update z k).get? c=some o :=
  fun f k q q' e=>on f k q (ao _ (aA _ q'.symm e))
 refine hQ x y u _ t₆ px py pu ?_ ?_ ?_ ?_ ?_ ?_ ?_
 ·exact bC _ (bC _ (ao _ (aA _ Z.oz ez6)) rfl) rfl
 ·exact on _ _ Z.oz (ao _ kR)
 ·exact D1.frame _ _ _ s₁ fun c hc o e=>up _ _ (nin Z.z1 hc) (nin Z.o1 hc) (q6 _ _ (nin Z.o1 hc) (nin Z.x31 hc) (q4 _ _ (nin Z.o1 hc) (nin Z.x21 hc) e))
 ·exact D2.frame _ _ _ s₂ fun c hc o e=>up _ _ (nin Z.z2 hc) (nin Z.o2 hc) (q6 _ _ (nin Z.o2 hc) (nin Z.x32 hc) e)
 ·exact D3.frame _ _ _ s₃ fun c hc o e=>up _ _ (nin Z.z3 hc) (nin Z.o3 hc) e
 ·exact on _ _ (gq zl) (dG n7.symm rfl)
 ·exact fun c o c1 c2 c3 c4 c5 e=>up _ _ c1 c2 (q6 _ _ c2 c5 (q4 _ _ c2 c4 (q2 _ _ c1 c3 e)))
theorem pP {Q:Fin→Shared→Prop} (D1:Draws prog w A i1 f1 n1 P1 S1) (m1:i1∈f1) (z1:z∉f1) (hz:IsZip s.heap z TI TO .none) (hTI:jc s.heap TI (.ref i1) (.ref i2) (.ref i3)) (h1:S1 n1 s.heap)
  (hE:∀h' tk e,(∀c o,c≠z→c≠i1→s.heap.get? c=some o→h'.get? c=some o)→(∃o,h'.get? e=some o∧o.cls=.type "StopIteration")→E (.ref e) {s with heap:=h',toks:=tk}) :
  wpAny (model prog w) A (Builtin.«zip.__next__» ⟨[.ref z],[]⟩) Q E s:=by
 obtain ⟨hp,g,d,tk₀,os⟩:=s
 have kz:=bC (Obj.mapFields fun v=>v.setIfInBounds 0 Value.ellipsis) hz rfl
 have first:S1 n1 (hp.update z (Obj.mapFields fun v=>v.setIfInBounds 0 Value.ellipsis)):=D1.frame _ _ _ h1 fun c hc o e=>aA _ (nin z1 hc).symm e
 unfold Builtin.«zip.__next__»
 wp_walk using AutoSeq1.wpAny_loadPart' hz,AutoSeq1.wpAny_loadPart' hTI,wpAny_onRaise,D1.done _ _ _ first
 rintro h₂ e b₂ ⟨o,ho,hc⟩
 have ez:h₂.get? z=_:=b₂ _ _ (nin z1 m1).symm kz
 have ne:e≠z:=fun q=>by rw [q,ez] at ho;cases ho;exact absurd (Value.type.inj hc) (by decide)
 wp_walk using wpAny_updatePart' ez
 exact hE _ _ _ (fun c o c1 c2 q=>aA _ c1.symm (b₂ _ _ c2 (aA _ c1.symm q))) ⟨o,aA _ ne.symm ho,hc⟩
end
end L2
namespace L2
open PySem PySem.Spec PyProof.Rows
abbrev z3I (h:Heap) (l:Addr):Heap:=h.push {cls:=.type "list_iterator",data:=.fields #[.ref l,.int 0 0]}
abbrev z3L (h:Heap) (l1 l2 l3:Addr):Heap:=z3I (z3I (z3I h l1) l2) l3
abbrev z3T (h:Heap) (l1 l2 l3:Addr):Heap:=(z3L h l1 l2 l3).push {cls:=.type "tuple",data:=.seq #[.ref h.objs.size,.ref (z3I h l1).objs.size,.ref (z3I (z3I h l1) l2).objs.size]}
abbrev z3O (h:Heap) (l1 l2 l3:Addr):Heap:=(z3T h l1 l2 l3).push {cls:=.type "tuple",data:=.seq #[.none,.none,.none]}
abbrev z3Z (h:Heap) (l1 l2 l3:Addr):Heap:=(z3O h l1 l2 l3).push {cls:=.type "zip",data:=.fields #[.none,.bool false,.bool false,.ref (z3L h l1 l2 l3).objs.size,.ref (z3T h l1 l2 l3).objs.size]}
theorem oU (l1 l2 l3:Addr) (xs ys zs:Array Value):Meets (Builtin.«zip.__new__» ⟨[.type "zip",.ref l1,.ref l2,.ref l3],[]⟩) (fun _ R s=>SSq false s.heap l1 xs∧SSq false s.heap l2 ys∧SSq false s.heap l3 zs∧R (.ok (.ret (.ref (z3O s.heap l1 l2 l3).objs.size))) {s with heap:=z3Z s.heap l1 l2 l3}) :=
 .of_wp fun prog w A R s h=>by
  obtain ⟨hp,g,d,tk,os⟩:=s;obtain ⟨hl1,hl2,hl3,h⟩:=h;have hsub:=sub_zip
  have A1:(Shared.heap ⟨hp,g,d,tk,os⟩).IsList l1 xs:=hl1
  have A2:(Shared.heap ⟨z3I hp l1,g,d,tk,os⟩).IsList l2 ys:=SSq.keep (b:=false) hl2 fun o e=>ao _ e
  have A3:(Shared.heap ⟨z3I (z3I hp l1) l2,g,d,tk,os⟩).IsList l3 zs:=SSq.keep (b:=false) hl3 fun o e=>ao _ (ao _ e)
  wp_walk using wpAny_pyIter_list A1,wpAny_pyIter_list A2,wpAny_pyIter_list A3
  exact ⟨_,rfl,h⟩
theorem mW (a b c:Value):checkTypeCall "zip" ⟨[a,b,c],[]⟩=pure ():=by kernel_rfl
theorem oR (a b c:Value):checkBuiltinCall "zip.__new__" ⟨[.type "zip",a,b,c],[]⟩=pure ():=by kernel_rfl
theorem vG (o a b c:Value):argsOk "object.__init__" ⟨[o,a,b,c],[]⟩:=by unfold argsOk;kernel_rfl
section
variable {prog:Program} {w:World} {A:Around} {E:Value→Shared→Prop} {s:Shared}
theorem rW {l1 l2 l3:Addr} {xs ys zs:Array Value} {Q:Value→Shared→Prop} (hl1:SSq false s.heap l1 xs) (hl2:SSq false s.heap l2 ys) (hl3:SSq false s.heap l3 zs)
  (h:∀n h',n=s.heap.objs.size→IsZip h' (n+5) (n+3) (n+4) .none→jc h' (n+3) (.ref n) (.ref (n+1)) (.ref (n+2))→jc h' (n+4) .none .none .none→SIt false h' n l1 0→SIt false h' (n+1) l2 0→SIt false h' (n+2) l3 0→(∀c o,s.heap.get? c=some o→h'.get? c=some o)→Q (.ref (n+5)) {s with heap:=h'}) :
  wpAny (model prog w) A (call (.type "zip") [.ref l1,.ref l2,.ref l3]) Q E s:=by
 refine callType_new F.called_zip (by decide) (mW _ _ _) (oR _ _ _) (fun obj=>vG obj _ _ _) F.entry_zip_new (oU l1 l2 l3 xs ys zs) ⟨hl1,hl2,hl3,?_⟩
 have sz:∀(h:Heap) (o:Obj) (n:Nat),h.objs.size=n→(h.push o).objs.size=n+1:=fun h o n e=>by rw [cU,e]
 have old:∀{h:Heap} {o u:Obj} {a:Addr},h.get? a=some u→(h.push o).get? a=some u:=fun e=>ao _ e
 obtain ⟨n,hn⟩:∃n,n=s.heap.objs.size:=⟨_,rfl⟩
 have z1:=sz s.heap {cls:=.type "list_iterator",data:=.fields #[.ref l1,.int 0 0]} n hn.symm
 have z2:=sz _ {cls:=.type "list_iterator",data:=.fields #[.ref l2,.int 0 0]} _ z1
 have z3:=sz _ {cls:=.type "list_iterator",data:=.fields #[.ref l3,.int 0 0]} _ z2
 have z4:=sz (z3L s.heap l1 l2 l3) {cls:=.type "tuple",data:=.seq #[.ref s.heap.objs.size,.ref (z3I s.heap l1).objs.size,.ref (z3I (z3I s.heap l1) l2).objs.size]} _ z3
 have z5:=sz (z3T s.heap l1 l2 l3) {cls:=.type "tuple",data:=.seq #[.none,.none,.none]} _ z4
 have k1:(z3I s.heap l1).get? n=some {cls:=.type "list_iterator",data:=.fields #[.ref l1,.int 0 0]}:=dG hn rfl
 have k2:(z3I (z3I s.heap l1) l2).get? (n+1)=some {cls:=.type "list_iterator",data:=.fields #[.ref l2,.int 0 0]}:=dG z1.symm rfl
 have k3:(z3L s.heap l1 l2 l3).get? (n+2)=some {cls:=.type "list_iterator",data:=.fields #[.ref l3,.int 0 0]}:=dG z2.symm rfl
 have k4:jc (z3T s.heap l1 l2 l3) (n+3) (.ref n) (.ref (n+1)) (.ref (n+2)):=(dG z3.symm rfl).trans (by rw [←hn,z1,z2])
 have k5:jc (z3O s.heap l1 l2 l3) (n+4) .none .none .none:=dG z4.symm rfl
 have k6:IsZip (z3Z s.heap l1 l2 l3) (n+5) (n+3) (n+4) .none:=(dG z5.symm rfl).trans (by rw [z3,z4])
 show _∧_
 rw [z5]
 exact ⟨⟨_,k6,rfl⟩,h n _ hn k6 (old (old k4)) (old k5) ⟨_,old (old (old (old (old k1)))),rfl,rfl⟩ ⟨_,old (old (old (old k2))),rfl,rfl⟩ ⟨_,old (old (old k3)),rfl,rfl⟩ fun c o x=>old (old (old (old (old (old x)))))⟩
end
def BJ (K:ai) (a1 a2 a3:Addr) (xs ys zs:List V):It :=
 ⟨fun i H=>SqL K H a1 xs∧SqL K H a2 ys∧SqL K H a3 zs∧i<xs.length,fun i H x H'=>∃p,x=.ref p∧H p=none∧H'=upd H p (.tup [xs.getD i .non,ys.getD i .non,zs.getD i .non]),fun i H=>SqL K H a1 xs∧SqL K H a2 ys∧SqL K H a3 zs∧i=xs.length⟩
theorem pU {P:Program} {w:World} {K:ai} {elts:List Expr} {kx} {pos:Pos} (a1 a2 a3 n:Addr) (xs ys zs:List V) (hy:ys.length=xs.length) (hz:zs.length=xs.length) :
  Turn P w K (.Tuple elts kx pos) (BJ K a1 a2 a3 xs ys zs) [n+5,n+3,n+4,n,n+1,n+2] (n+5) (fun i h=>IsZip h (n+5) (n+3) (n+4) .none∧jc h (n+3) (.ref n) (.ref (n+1)) (.ref (n+2))∧(∃a b c,jc h (n+4) a b c)∧SIt false h n a1 i∧SIt false h (n+1) a2 i∧SIt false h (n+2) a3 i) where
 mem:=by simp
 obj:=fun i h st b hb=>by
  obtain ⟨k1,k2,⟨a,b',c',k3⟩,k4,k5,k6⟩:=st
  simp only [aU,dC,or_false] at hb
  rcases hb with rfl | rfl | rfl | rfl | rfl | rfl
  ·exact ⟨_,k1,fun v z=>by cases z⟩
  ·exact ⟨_,k2,fun v z=>by cases z⟩
  ·exact ⟨_,k3,fun v z=>by cases z⟩
  ·exact k4.obj
  ·exact k5.obj
  ·exact k6.obj
 keep:=fun i h h' st k=>by
  obtain ⟨k1,k2,⟨a,b',c',k3⟩,k4,k5,k6⟩:=st
  exact ⟨k _ (by simp) _ k1,k _ (by simp) _ k2,⟨a,b',c',k _ (by simp) _ k3⟩,k4.keep fun o e=>k _ (by simp) o e,k5.keep fun o e=>k _ (by simp) o e,k6.keep fun o e=>k _ (by simp) o e⟩
 item:=by
  intro X hP hw hK hc i pins s σ H E I hf st hg
  subst hP hw hK
  obtain ⟨k1,k2,⟨a,b',c',k3⟩,k4,k5,k6⟩:=st
  obtain ⟨q1,q2,q3,hx⟩:=hg
  obtain ⟨its1,r1,p1,w1⟩:=I.src (b:=false) q1
  obtain ⟨its2,r2,p2,w2⟩:=I.src (b:=false) q2
  obtain ⟨its3,r3,p3,w3⟩:=I.src (b:=false) q3
  have fz:=hf (n+5) (by simp);have fo:=hf (n+4) (by simp);have f1:=hf n (by simp);have f2:=hf (n+1) (by simp);have f3:=hf (n+2) (by simp)
  have hT:s.TypeIs (.ref (n+5)) "zip":=⟨_,k1,rfl⟩
  have D1:=fL (prog:=X.prog) (w:=X.w) (A:=X.A.in1) (I.ok.hd hc) false n a1 (I.gz (b:=false) q1 f1) its1.toArray
  have D2:=fL (prog:=X.prog) (w:=X.w) (A:=X.A.in1) (I.ok.hd hc) false (n+1) a2 (I.gz (b:=false) q2 f2) its2.toArray
  have D3:=fL (prog:=X.prog) (w:=X.w) (A:=X.A.in1) (I.ok.hd hc) false (n+2) a3 (I.gz (b:=false) q3 f3) its3.toArray
  have g:∀{d b:Addr} {us:List V},SqL X.K H d us→mT X pins H b→b≠d:=fun q f=>(I.gz (b:=false) q f).symm
  have Z:ZA3 (n+5) (n+4) n (n+1) (n+2) [n,a1] [n+1,a2] [n+2,a3]:=⟨by simp,by simp,by simp,by simp [g q1 fz],by simp [g q2 fz],by simp [g q3 fz],by simp [g q1 fo],by simp [g q2 fo],by simp [g q3 fo],by simp [g q2 f1],by simp [g q3 f1],by simp [g q1 f2],by simp [g q3 f2],by simp [g q1 f3],by simp [g q2 f3],by simp⟩
  have len1:=r1.length;have len2:=r2.length;have len3:=r3.length
  unfold pyNext
  refine wpAny_bind (wpAny_attempt (wpAny_callSpecial?_slot (name:=Str.ofString "__next__") hT F.slot_zip_next (wpAny_call_entry F.slot_zip_next hT F.entry_zip_next
   (oN D1 D2 D3 Z k1 k2 k3 ⟨k4,p1⟩ ⟨k5,p2⟩ ⟨k6,p3⟩ (by simp;omega) (by simp;omega) (by simp;omega) fun x y u h' tk px py pu hz' hTO' s1 s2 s3 hT' hk=>wpAny_pure ?_) (F.args_zip_next_1 _))))
  have r:Vals [xs.getD i .non,ys.getD i .non,zs.getD i .non] [x,y,u]:=.cons (iH r1 px) (.cons (iH r2 py) (.cons (iH r3 pu) .nil))
  have I1:Inv X pins σ (upd H s.heap.objs.size (.tup [xs.getD i .non,ys.getD i .non,zs.getD i .non])) {s with heap:=h',toks:=tk} :=
   I.je (t':=tk) hf (fun c o hc e=>hk c o (fun q=>hc (by simp [q])) (fun q=>hc (by simp [q])) (fun q=>hc (by simp [q])) (fun q=>hc (by simp [q])) (fun q=>hc (by simp [q])) e) r (by show 3≤sizeLine;decide) ⟨_,hT',rfl,_,rfl⟩
  have nH:H s.heap.objs.size=none:=I.hok.fresh (aN _)
  have fresh:∀b∈[n+5,n+3,n+4,n,n+1,n+2],(upd H s.heap.objs.size (.tup [xs.getD i .non,ys.getD i .non,zs.getD i .non])) b=none:=fun b hb=>by
   rw [bS ?_]
   ·exact (hf b hb).1
   ·have hl:=aW k1
    simp only [aU,dC,or_false] at hb
    have le:∀j,j≤5→n+j≠s.heap.objs.size:=fun j hj=>bz (Nat.lt_of_le_of_lt (Nat.add_le_add_left hj n) hl)
    rcases hb with rfl | rfl | rfl | rfl | rfl | rfl<;>first | exact le 5 (by decide) | exact le 3 (by decide) | exact le 4 (by decide) | exact le 0 (by decide) | exact le 1 (by decide) | exact le 2 (by decide)
  obtain ⟨f0,f1',f2',f3',f4',f5'⟩:=fz
  refine ⟨_,rfl,wpAny_letOwnedTupleGo_zip hz' fun h2' hz2 sb=>⟨.ref s.heap.objs.size,_,I1.turned (t':=tk) (fun b o hb e=>(sb.2 b hb).trans e) (fresh (n+5) (by simp)) f1' f3' f4' f5',rfl,⟨_,rfl,nH,rfl⟩,⟨hz2,?_,⟨x,y,u,?_⟩,?_,?_,?_⟩,fresh⟩⟩
  ·exact (sb.2 (n+3) (by simp)).trans (hk _ _ (by simp) (by simp) (by simp) (by simp) (by simp) k2)
  ·exact (sb.2 (n+4) (by simp)).trans hTO'
  ·exact s1.1.keep fun o e=>(sb.2 n (by simp)).trans e
  ·exact s2.1.keep fun o e=>(sb.2 (n+1) (by simp)).trans e
  ·exact s3.1.keep fun o e=>(sb.2 (n+2) (by simp)).trans e
 done:=by
  intro X hP hw hK hc i pins s σ H E I hf st hg
  subst hP hw hK
  obtain ⟨k1,k2,⟨a,b',c',k3⟩,k4,k5,k6⟩:=st
  obtain ⟨q1,q2,q3,rfl⟩:=hg
  obtain ⟨its1,r1,p1,w1⟩:=I.src (b:=false) q1
  have fz:=hf (n+5) (by simp);have f1:=hf n (by simp)
  have hT:s.TypeIs (.ref (n+5)) "zip":=⟨_,k1,rfl⟩
  have D1:=fL (prog:=X.prog) (w:=X.w) (A:=X.A.in1) (I.ok.hd hc) false n a1 (I.gz (b:=false) q1 f1) its1.toArray
  have len1:its1.toArray.size=xs.length:=by simp [r1.length]
  rw [len1] at D1
  unfold pyNext
  refine wpAny_bind (wpAny_attempt (wpAny_callSpecial?_slot (name:=Str.ofString "__next__") hT F.slot_zip_next (wpAny_call_entry F.slot_zip_next hT F.entry_zip_next
   (pP D1 (by simp) (by simp [(I.gz (b:=false) q1 fz).symm]) k1 k2 ⟨k4,p1⟩ fun h' tk e hk he=>?_) (F.args_zip_next_1 _))))
  obtain ⟨o,ho,hcl⟩:=he
  refine wpAny_bind (wpAny_isInstance (T:="StopIteration") (b:=true) ⟨o,ho,hcl⟩ isSubtype_stop ?_)
  exact wpAny_pure ⟨rfl,I.jL (t':=tk) hf fun c o hc e=>hk c o (fun q=>hc (by simp [q])) (fun q=>hc (by simp [q])) e⟩
 self:=fun A i s Q E st h=>wpAny_pyIter_zip st.1 h
theorem tY {K:ai} {a1 a2 a3:Addr} {xs ys zs:List V}:ItP (BJ K a1 a2 a3 xs ys zs) xs.length (fun i=>[xs.getD i .non,ys.getD i .non,zs.getD i .non]) (fun H=>SqL K H a1 xs∧SqL K H a2 ys∧SqL K H a3 zs) where
 go:=fun i H c hi=>⟨c.1,c.2.1,c.2.2,hi⟩
 yld:=fun i H x H' c hi y=>y
 stop:=fun H c=>⟨c.1,c.2.1,c.2.2,rfl⟩
def AV (K:ai) (ta:TA):TI:=fun σ H R=>ta σ H fun vs H1=>∃(a1 a2 a3:Addr) (xs ys zs:List V),vs=[.ref a1,.ref a2,.ref a3]∧SqL K H1 a1 xs∧SqL K H1 a2 ys∧SqL K H1 a3 zs∧ys.length=xs.length∧zs.length=xs.length ∧
 ∀J C,ItP J xs.length (fun i=>[xs.getD i .non,ys.getD i .non,zs.getD i .non]) C→(∀H2,SqL K H2 a1 xs→SqL K H2 a2 ys→SqL K H2 a3 zs→C H2)→R J H1
theorem vals3 {x y z:V} {us:List Value} (h:Vals [x,y,z] us):∃u v t,us=[u,v,t]∧RelV x u∧RelV y v∧RelV z t:=by
 obtain _ | ⟨a,h⟩:=h
 obtain _ | ⟨b,h⟩:=h
 obtain _ | ⟨c,h⟩:=h
 cases h
 exact ⟨_,_,_,rfl,a,b,c⟩
section
variable {X:Cx} {K:ai} {elts:List Expr} {kx:Nat} {tpos:Pos}
theorem vm {a b d:Expr} {ta:TA} {p pos:Pos} (hK:X.K=K) (hg:Gl X "zip") (hm:X.mg "zip"=none) (ha:PA X [a,b,d] ta) (hs:starEach [a,b,d] X.env=[(false,eval a X.env),(false,eval b X.env),(false,eval d X.env)]:=by rfl) (hs2:starEach [b,d] X.env=[(false,eval b X.env),(false,eval d X.env)]:=by rfl) :
  PI X (.Tuple elts kx tpos) (.Call (.Name "zip" p) [a,b,d] [] pos) (AV K ta):=by
 subst hK
 intro pins s σ H R I h
 refine Call_ (iA I hg hm boot_zip (cq (thn (ha pos pins s σ H _ I h) fun us s1 ⟨vs,H1,I1,r1,q1⟩=>?_) (by rw [hs,hs2]) (by rw [hs2];rfl)))
 obtain ⟨a1,a2,a3,xs,ys,zs,e,q1,q2,q3,hy,hz,q⟩:=q1
 subst e
 obtain ⟨u,v,t,rfl,rx,ry,rz⟩:=vals3 r1
 cases rx;cases ry;cases rz
 obtain ⟨its1,rv1,p1,_⟩:=I1.src (b:=false) q1
 obtain ⟨its2,rv2,p2,_⟩:=I1.src (b:=false) q2
 obtain ⟨its3,rv3,p3,_⟩:=I1.src (b:=false) q3
 refine rW p1 p2 p3 fun n h' hn k1 k2 k3 k4 k5 k6 hk=>wpAny_pyIter_zip k1 ?_
 have I2:Inv X pins σ H1 {s1 with heap:=h'}:=I1.kept (t':=s1.toks) hk
 refine ⟨_,[n+5,n+3,n+4,n,n+1,n+2],_,_,H1,rfl,I2,pU a1 a2 a3 n xs ys zs hy hz,⟨k1,k2,⟨_,_,_,k3⟩,k4,k5,k6⟩,fun b hb=>?_,q _ _ tY fun H2 g1 g2 g3=>⟨g1,g2,g3⟩⟩
 have:s1.heap.objs.size≤b:=by
  rw [←hn]
  simp only [aU,dC,or_false] at hb
  rcases hb with rfl | rfl | rfl | rfl | rfl | rfl<;>first | exact Nat.le_add_right _ _ | exact aN _
 exact I1.wx this (I1.hok.fresh this)
end
end L2
namespace L2
open PySem
def stE (es:List (Int×Int)) (s:Int×Int):Int:=if s.2=1 then (bc es s.1).2 else (bc es s.1).1
def stB (es:List (Int×Int)) (s:Int×Int):Int:=if s.2=1 then (bc es s.1).1 else (bc es s.1).2
def StV (es:List (Int×Int)) (s:Int×Int):Prop:=0≤s.1∧s.1<(es.length:Int)∧(s.2=1∨s.2=-1)
def rmN (as lo hi:List Int):List (Int×Int):=(bI as.length).map fun i=>(hi.getD i 0-as.getD i 0,as.getD i 0-lo.getD i 0)
def rmA (rm:List (Int×Int)) (s:Int×Int):Int:=if s.2=1 then (rm.getD s.1.toNat (0,0)).1 else (rm.getD s.1.toNat (0,0)).2
theorem jg (as lo hi:List Int):(rmN as lo hi).length=as.length:=by unfold rmN;rw [aa,bW]
theorem lY {as lo hi:List Int} {i:Nat} (h:i<as.length):(rmN as lo hi).getD i (0,0)=(hi.getD i 0-as.getD i 0,as.getD i 0-lo.getD i 0):=by
 unfold rmN
 rw [ae,a_,List.getElem?_range h];rfl
def stN (es rm:List (Int×Int)) (p:Int):Nat→List (Int×Int)
 | 0=>[]
 | i+1=>(stN es rm p i++if (es.getD i (0,0)).1=p∧0<(rm.getD i (0,0)).1 then [((i:Int),(1:Int))] else [])++if (es.getD i (0,0)).2=p∧0<(rm.getD i (0,0)).2 then [((i:Int),(-1:Int))] else []
theorem qD {es rm:List (Int×Int)} {p:Int} {s:Int×Int}:∀{n:Nat},n≤es.length→s∈stN es rm p n→StV es s∧stB es s=p∧0<rmA rm s
 | 0,_,h=>nomatch h
 | n+1,hn,h=>by
  rcases aM.mp h with h | h
  ·rcases aM.mp h with h | h
   ·exact qD (by omega) h
   ·split at h
    ·rename_i c
     rw [ak.mp h]
     exact ⟨⟨by show 0≤(n:Int);omega,by show (n:Int)<_;omega,.inl rfl⟩,c.1,c.2⟩
    ·cases h
  ·split at h
   ·rename_i c
    rw [ak.mp h]
    exact ⟨⟨by show 0≤(n:Int);omega,by show (n:Int)<_;omega,.inr rfl⟩,c.1,c.2⟩
   ·cases h
theorem mY {es rm:List (Int×Int)} {p:Int} {i:Nat}:∀{n:Nat},i<n→((es.getD i (0,0)).1=p→0<(rm.getD i (0,0)).1→((i:Int),(1:Int))∈stN es rm p n)∧((es.getD i (0,0)).2=p→0<(rm.getD i (0,0)).2→((i:Int),(-1:Int))∈stN es rm p n)
 | 0,h=>absurd h (cw _)
 | n+1,h=>by
  by_cases c:i<n
  ·obtain ⟨h1,h2⟩:=mY (es:=es) (rm:=rm) (p:=p) c
   exact ⟨fun a b=>aI _ (aI _ (h1 a b)),fun a b=>aI _ (aI _ (h2 a b))⟩
  ·obtain rfl:i=n:=by omega
   refine ⟨fun a b=>aI _ (aG _ ?_),fun a b=>aG _ ?_⟩
   ·rw [if_pos ⟨a,b⟩];exact ak.mpr rfl
   ·rw [if_pos ⟨a,b⟩];exact ak.mpr rfl
def uY (es:List (Int×Int)) (p:Int) (S:List Int×(Int→List (Int×Int))) (s:Int×Int):List Int×(Int→List (Int×Int)) :=
 if stE es s∈S.1 then S else (S.1++[stE es s],fun z=>if z=stE es s then S.2 p++[s] else S.2 z)
def zN (es rm:List (Int×Int)) (S:List Int×(Int→List (Int×Int))) (k:Nat):List Int×(Int→List (Int×Int)):=(stN es rm (S.1.getD k 0) es.length).foldl (uY es (S.1.getD k 0)) S
def wo (es rm:List (Int×Int)):Nat→List Int×(Int→List (Int×Int))→Nat→List Int×(Int→List (Int×Int))
 | 0,S,_=>S
 | n+1,S,k=>if k<S.1.length then wo es rm n (zN es rm S k) (k+1) else S
def wwr (es rm:List (Int×Int)) (a:Int) (m:Nat):List Int×(Int→List (Int×Int)):=wo es rm m ([a],fun _=>[]) 0
theorem sY {es rm:List (Int×Int)} {S:List Int×(Int→List (Int×Int))} {k:Nat} (h:¬k<S.1.length):∀n,wo es rm n S k=S
 | 0=>rfl
 | n+1=>if_neg h
inductive km (es rm:List (Int×Int)) (a:Int):List (Int×Int)→List Int→Int→Prop
 | nil:km es rm a [] [] a
 | snoc {ss:List (Int×Int)} {ps:List Int} {p:Int} {s:Int×Int}:km es rm a ss ps p→StV es s→stB es s=p→0<rmA rm s→¬stE es s∈ps++[p]→km es rm a (ss++[s]) (ps++[p]) (stE es s)
section
variable {es rm:List (Int×Int)} {a p:Int} {ss:List (Int×Int)} {ps:List Int}
theorem km.nd (h:km es rm a ss ps p):(ps++[p]).Nodup:=by
 induction h with
 | nil=>simp
 | snoc _ _ _ _ hn ih=>exact fV ih hn
theorem km.len (h:km es rm a ss ps p):ss.length=ps.length:=by
 induction h with
 | nil=>rfl
 | snoc _ _ _ _ _ ih=>rw [ay,ay,ih];rfl
theorem km.first (h:km es rm a ss ps p):a∈ps++[p]:=by
 induction h with
 | nil=>exact ak.mpr rfl
 | snoc _ _ _ _ _ ih=>exact aI _ ih
theorem km.step (h:km es rm a ss ps p):∀s∈ss,StV es s∧0<rmA rm s∧stE es s≠a∧stE es s∈ps++[p]∧stB es s∈ps++[p]:=by
 induction h with
 | nil=>exact fun s hs=>nomatch hs
 | @snoc ss ps p s h hv hb hr hn ih =>
  intro t ht
  rcases aM.mp ht with y | y
  ·obtain ⟨h1,h2,h3,h4,h5⟩:=ih t y
   exact ⟨h1,h2,h3,aI _ h4,aI _ h5⟩
  ·rw [ak.mp y]
   exact ⟨hv,hr,fun e=>hn (e▸h.first),aG _ (ak.mpr rfl),by rw [hb];exact aI _ (aG _ (ak.mpr rfl))⟩
theorem uZ {s t:Int×Int} (e:s.1=t.1):stE es s=stE es t∨stE es s=stB es t:=by
 unfold stE stB
 rw [e]
 by_cases c1:s.2=1<;>by_cases c2:t.2=1<;>simp [c1,c2]
theorem km.tnd (h:km es rm a ss ps p):(ss.map (·.1)).Nodup:=by
 induction h with
 | nil=>simp
 | @snoc ss ps p s h hv hb hr hn ih =>
  rw [aw]
  refine fV ih fun ht=>?_
  obtain ⟨t,h1,h2⟩:=bE.mp ht
  obtain ⟨_,_,_,q1,q2⟩:=h.step t h1
  rcases uZ (es:=es) (show s.1=t.1 from h2.symm) with e | e
  ·exact hn (e▸q1)
  ·exact hn (e▸q2)
end
def psh (as:List Int) (ss:List (Int×Int)) (z:Int):List Int:=ss.foldl (fun as s=>as.set s.1.toNat (as.getD s.1.toNat 0+s.2*z)) as
theorem iE (as:List Int) (ss:List (Int×Int)) (s:Int×Int) (z:Int):psh as (ss++[s]) z=(psh as ss z).set s.1.toNat ((psh as ss z).getD s.1.toNat 0+s.2*z):=by unfold psh;rw [List.foldl_append];rfl
theorem iO (as:List Int) (z:Int) (ss:List (Int×Int)):(psh as ss z).length=as.length:=by
 induction ss generalizing as with
 | nil=>rfl
 | cons s ss ih=>exact (ih _).trans (cx ..)
theorem oF {es:List (Int×Int)} {as:List Int} {s:Int×Int} {z:Int} (hl:as.length=es.length) (hv:StV es s) (p:Int):dp p es (as.set s.1.toNat (as.getD s.1.toNat 0+s.2*z)) es.length=dp p es as es.length+(if stE es s=p then z else 0)-(if stB es s=p then z else 0):=by
 obtain ⟨h0,h1,h2⟩:=hv
 rw [kF p es as _ _ (by omega),if_pos (by omega)]
 unfold stE stB bc
 have e:as.getD s.1.toNat 0+s.2*z-as.getD s.1.toNat 0=s.2*z:=by omega
 rw [e]
 rcases h2 with c | c
 ·rw [c,if_pos rfl,if_pos rfl,ff];omega
 ·rw [c,if_neg (show ¬(-1:Int)=1 by decide),if_neg (show ¬(-1:Int)=1 by decide),gf,ff]
  split<;>split<;>omega
theorem km.dp {es rm:List (Int×Int)} {a q:Int} {ss:List (Int×Int)} {ps:List Int} (h:km es rm a ss ps q) {as:List Int} {z:Int} (hl:as.length=es.length) (p:Int):dp p es (psh as ss z) es.length=L2.dp p es as es.length+(if q=p then z else 0)-(if a=p then z else 0):=by
 induction h with
 | nil=>show L2.dp p es as _=_;omega
 | @snoc ss ps q s h hv hb hr hn ih =>
  rw [iE,oF ((iO ..).trans hl) hv p,ih,hb];omega
theorem km.ring {es rm:List (Int×Int)} {ss:List (Int×Int)} {ps:List Int} {s:Int×Int} (h:km es rm (stE es s) ss ps (stB es s)) (hv:StV es s) {as:List Int} {z:Int} (hl:as.length=es.length) (p:Int):L2.dp p es (psh as (ss++[s]) z) es.length=L2.dp p es as es.length:=by
 rw [iE,oF ((iO ..).trans hl) hv p,h.dp hl p];omega
theorem jN {z:Int} {t:Nat} {ss:List (Int×Int)}:∀{as:List Int},(∀s∈ss,s.1.toNat≠t)→(psh as ss z).getD t 0=as.getD t 0:=by
 induction ss with
 | nil=>intro as _;rfl
 | cons s ss ih =>
  intro as h
  have e:=ih (as:=as.set s.1.toNat (as.getD s.1.toNat 0+s.2*z)) fun u hu=>h u (aO _ hu)
  refine Eq.trans e ?_
  rw [ae,dB (h s aP),ae]
theorem uD {es:List (Int×Int)} {z:Int} {s:Int×Int} {ss:List (Int×Int)}:∀{as:List Int},as.length=es.length→(∀u∈ss,StV es u)→(ss.map (·.1)).Nodup→s∈ss→(psh as ss z).getD s.1.toNat 0=as.getD s.1.toNat 0+s.2*z:=by
 induction ss with
 | nil=>intro as _ _ _ h;cases h
 | cons u ss ih =>
  intro as hl hv hn hs
  rw [bf,dv] at hn
  have hu:=hv u aP
  have hl2:(as.set u.1.toNat (as.getD u.1.toNat 0+u.2*z)).length=es.length:=(cx ..).trans hl
  rcases aU.mp hs with y | y
  ·subst y
   have e:=jN (z:=z) (t:=s.1.toNat) (ss:=ss) (as:=as.set s.1.toNat (as.getD s.1.toNat 0+s.2*z)) fun v hv' e=>by
    have:=hv v (aO _ hv')
    have e':v.1=s.1:=by have:=this.1;have:=hu.1;omega
    exact hn.1 (e'▸bE.mpr ⟨v,hv',rfl⟩)
   refine Eq.trans e ?_
   rw [fY _ _ _ _ (by have:=hu.1;have:=hu.2.1;omega),if_pos rfl]
  ·have e:=ih hl2 (fun v h=>hv v (aO _ h)) hn.2 y
   refine Eq.trans e ?_
   have hne:u.1.toNat≠s.1.toNat:=fun e=>by
    have e':s.1=u.1:=by have:=(hv s (aO _ y)).1;have:=hu.1;omega
    exact hn.1 (e'▸bE.mpr ⟨s,y,rfl⟩)
   rw [ae,dB hne,ae]
def oE (a l h:Int):Int:=if a<l then l-a else if a>h then h-a else 0
def d_ (as lo hi:List Int) (i:Nat):Int:=oE (as.getD i 0) (lo.getD i 0) (hi.getD i 0)
theorem rE {a l h:Int} (e:oE a l h=0):l≤a∧a≤h:=by
 unfold oE at e
 split at e
 ·omega
 ·split at e<;>omega
def gT (i:Nat) (d:Int):Int×Int:=((i:Int),if d>0 then 1 else -1)
theorem uu {es:List (Int×Int)} {i:Nat} (h:i<es.length) (d:Int):StV es (gT i d):=by
 refine ⟨by show 0≤(i:Int);omega,by show (i:Int)<_;omega,?_⟩
 show (if d>0 then (1:Int) else -1)=1∨(if d>0 then (1:Int) else -1)=-1
 split
 ·exact .inl rfl
 ·exact .inr rfl
theorem rF {a l h d z:Int} (hlh:l≤h) (e:oE a l h=d) (hd:d≠0) (z0:0<z) (z1:z≤(if d<0 then -d else d)):(oE (a+(if d>0 then 1 else -1)*z) l h).natAbs<d.natAbs:=by
 unfold oE at e
 by_cases c:a<l
 ·rw [if_pos c] at e
  rw [if_neg (show ¬d<0 by omega)] at z1
  rw [if_pos (show d>0 by omega),ff]
  unfold oE
  split
  ·omega
  ·split<;>omega
 ·rw [if_neg c] at e
  by_cases c2:a>h
  ·rw [if_pos c2] at e
   rw [if_pos (show d<0 by omega)] at z1
   rw [if_neg (show ¬d>0 by omega),gf,ff]
   unfold oE
   split
   ·omega
   ·split<;>omega
  ·rw [if_neg c2] at e;exact absurd e.symm hd
structure BtI (es:List (Int×Int)) (lo hi:List Int) (i:Nat) (as:List Int):Prop where
 len:as.length=es.length
 rq:∀p:Int,dp p es as es.length=0
 past:∀t,t<i→lo.getD t 0≤as.getD t 0∧as.getD t 0≤hi.getD t 0
theorem ur {rm:List (Int×Int)} {d z:Int} {ss:List (Int×Int)} (hd:d≠0) (hr:∀s∈ss,0<rmA rm s) (h:z∈(if d<0 then -d else d)::ss.map (rmA rm)):0<z:=by
 rcases aU.mp h with y | y
 ·rw [y];split<;>omega
 ·obtain ⟨s,h1,h2⟩:=bE.mp y
  rw [←h2];exact hr s h1
theorem pQ {es:List (Int×Int)} {as lo hi:List Int} {i:Nat} {ss:List (Int×Int)} {ps:List Int} {q:Int} (hi':i<es.length) (hl:as.length=es.length) (hd:d_ as lo hi i≠0) (hlh:lo.getD i 0≤hi.getD i 0)
  (h:km es (rmN as lo hi) (stE es (gT i (d_ as lo hi i))) ss ps q):∀s∈ss,s.1≠(i:Int):=fun s hs e=>by
 obtain ⟨hv,hr,hne,_⟩:=h.step s hs
 unfold rmA at hr
 rw [e,aY,lY (by omega)] at hr
 unfold d_ oE at hd hne
 unfold stE gT at hne
 rw [e] at hne
 rcases hv.2.2 with c | c
 ·rw [c,if_pos rfl] at hne
  rw [c,if_pos rfl] at hr
  split at hd
  ·rename_i c1
   rw [if_pos c1] at hne
   rw [if_pos (show lo.getD i 0-as.getD i 0>0 by omega)] at hne
   exact hne (by simp)
  ·split at hd
   ·dsimp only at hr;omega
   ·exact hd rfl
 ·rw [c,if_neg (by decide)] at hne hr
  split at hd
  ·dsimp only at hr;omega
  ·split at hd
   ·rename_i c1 c2
    rw [if_neg c1,if_pos c2] at hne
    rw [if_neg (show ¬hi.getD i 0-as.getD i 0>0 by omega)] at hne
    exact hne (by simp)
   ·exact hd rfl
theorem BtI.next {es:List (Int×Int)} {lo hi as:List Int} {i:Nat} {z:Int} {ss:List (Int×Int)} {ps:List Int} (I:BtI es lo hi i as) (hi':i<es.length) (hlh:∀t,t<es.length→lo.getD t 0≤hi.getD t 0) (hd:d_ as lo hi i≠0)
  (h:km es (rmN as lo hi) (stE es (gT i (d_ as lo hi i))) ss ps (stB es (gT i (d_ as lo hi i)))) (hz:z∈(if d_ as lo hi i<0 then -d_ as lo hi i else d_ as lo hi i)::ss.map (rmA (rmN as lo hi))) (hm:∀y∈(if d_ as lo hi i<0 then -d_ as lo hi i else d_ as lo hi i)::ss.map (rmA (rmN as lo hi)),z≤y) :
  BtI es lo hi i (psh as (ss++[gT i (d_ as lo hi i)]) z)∧(d_ (psh as (ss++[gT i (d_ as lo hi i)]) z) lo hi i).natAbs<(d_ as lo hi i).natAbs:=by
 have z0:0<z:=ur hd (fun s hs=>(h.step s hs).2.1) hz
 have hv:=uu hi' (d_ as lo hi i)
 have hno:=pQ hi' I.len hd (hlh i hi') h
 have hvs:∀u∈ss,StV es u:=fun u hu=>(h.step u hu).1
 have ei:(psh as ss z).getD i 0=as.getD i 0:=jN fun s hs e=>hno s hs (by have:=(hvs s hs).1;omega)
 have gi:(psh as (ss++[gT i (d_ as lo hi i)]) z).getD i 0=as.getD i 0+(if d_ as lo hi i>0 then 1 else -1)*z:=by
  rw [iE]
  show ((psh as ss z).set ((i:Int)).toNat _).getD i 0=_
  rw [aY,fY _ _ _ _ (by rw [iO,I.len];exact hi'),if_pos rfl]
  show (psh as ss z).getD ((i:Int)).toNat 0+_=_
  rw [aY,ei];rfl
 refine ⟨⟨(iO ..).trans I.len,fun p=>(h.ring hv I.len p).trans (I.rq p),fun t ht=>?_⟩,?_⟩
 ·have gt:(psh as (ss++[gT i (d_ as lo hi i)]) z).getD t 0=(psh as ss z).getD t 0:=by
   rw [iE]
   show ((psh as ss z).set ((i:Int)).toNat _).getD t 0=_
   rw [aY,fY _ _ _ _ (by rw [iO,I.len];exact hi'),if_neg (by omega)]
  rw [gt]
  obtain ⟨b1,b2⟩:=I.past t ht
  by_cases hs:∃s∈ss,s.1.toNat=t
  ·obtain ⟨s,hs,es'⟩:=hs
   have e:=uD (z:=z) I.len hvs h.tnd hs
   rw [es'] at e
   rw [e]
   have hr:=hm (rmA (rmN as lo hi) s) (aO _ (bE.mpr ⟨s,hs,rfl⟩))
   unfold rmA at hr
   rw [es',lY (by rw [I.len];omega)] at hr
   rcases (hvs s hs).2.2 with c | c
   ·rw [c,if_pos rfl] at hr
    rw [c,ff]
    have hr':z≤hi.getD t 0-as.getD t 0:=hr
    omega
   ·rw [c,if_neg (by decide)] at hr
    rw [c,gf,ff]
    have hr':z≤as.getD t 0-lo.getD t 0:=hr
    omega
  ·rw [jN fun s h1 h2=>hs ⟨s,h1,h2⟩]
   exact ⟨b1,b2⟩
 ·show (oE ((psh as (ss++[gT i (d_ as lo hi i)]) z).getD i 0) (lo.getD i 0) (hi.getD i 0)).natAbs<_
  rw [gi]
  exact rF (hlh i hi') rfl hd z0 (hm _ aP)
theorem BtI.sml {es:List (Int×Int)} {lo hi as:List Int} {i:Nat} {z B:Int} {ss:List (Int×Int)} {ps:List Int} (I:BtI es lo hi i as) (hi':i<es.length) (hlh:∀t,t<es.length→lo.getD t 0≤hi.getD t 0) (hd:d_ as lo hi i≠0)
  (h:km es (rmN as lo hi) (stE es (gT i (d_ as lo hi i))) ss ps (stB es (gT i (d_ as lo hi i)))) (hz:z∈(if d_ as lo hi i<0 then -d_ as lo hi i else d_ as lo hi i)::ss.map (rmA (rmN as lo hi))) (hm:∀y∈(if d_ as lo hi i<0 then -d_ as lo hi i else d_ as lo hi i)::ss.map (rmA (rmN as lo hi)),z≤y)
  (hB:∀t,t<es.length→-B≤lo.getD t 0∧hi.getD t 0≤B) (hs:∀t,t<es.length→-B≤as.getD t 0∧as.getD t 0≤B) :
  z.natAbs≤(2*B).toNat∧∀t,t<es.length→-B≤(psh as (ss++[gT i (d_ as lo hi i)]) z).getD t 0∧(psh as (ss++[gT i (d_ as lo hi i)]) z).getD t 0≤B:=by
 have z0:0<z:=ur hd (fun s hs=>(h.step s hs).2.1) hz
 have hno:=pQ hi' I.len hd (hlh i hi') h
 have hvs:∀u∈ss,StV es u:=fun u hu=>(h.step u hu).1
 have zd:=hm _ aP
 have hbi:=hB i hi'
 have hsi:=hs i hi'
 have hli:=hlh i hi'
 have dd:(as.getD i 0<lo.getD i 0∧d_ as lo hi i=lo.getD i 0-as.getD i 0)∨(hi.getD i 0<as.getD i 0∧d_ as lo hi i=hi.getD i 0-as.getD i 0):=by
  unfold d_ oE at hd ⊢
  split
  ·exact .inl ⟨by assumption,rfl⟩
  ·rename_i c1
   rw [if_neg c1] at hd
   split
   ·exact .inr ⟨by assumption,rfl⟩
   ·rename_i c2;rw [if_neg c2] at hd;exact absurd rfl hd
 have ei:(psh as ss z).getD i 0=as.getD i 0:=jN fun s hs e=>hno s hs (by have:=(hvs s hs).1;omega)
 refine ⟨?_,fun t ht=>?_⟩
 ·rcases dd with ⟨c,e⟩ | ⟨c,e⟩<;>rw [e] at zd<;>split at zd<;>omega
 rw [iE]
 show -B≤((psh as ss z).set ((i:Int)).toNat _).getD t 0∧((psh as ss z).set ((i:Int)).toNat _).getD t 0≤B
 rw [aY,fY _ _ _ _ (by rw [iO,I.len];exact hi')]
 by_cases c:i=t
 ·subst c
  rw [if_pos rfl]
  show -B≤(psh as ss z).getD ((i:Int)).toNat 0+(if d_ as lo hi i>0 then 1 else -1)*z∧(psh as ss z).getD ((i:Int)).toNat 0+(if d_ as lo hi i>0 then 1 else -1)*z≤B
  rw [aY,ei]
  rcases dd with ⟨c,e⟩ | ⟨c,e⟩
  ·rw [e,if_neg (by omega)] at zd
   rw [e,if_pos (by omega),ff];omega
  ·rw [e,if_pos (by omega)] at zd
   rw [e,if_neg (by omega),gf,ff];omega
 ·rw [if_neg c]
  have hbt:=hB t ht
  have hst:=hs t ht
  by_cases hs:∃s∈ss,s.1.toNat=t
  ·obtain ⟨s,hs,es'⟩:=hs
   have e:=uD (z:=z) I.len hvs h.tnd hs
   rw [es'] at e
   rw [e]
   have hr:=hm (rmA (rmN as lo hi) s) (aO _ (bE.mpr ⟨s,hs,rfl⟩))
   unfold rmA at hr
   rw [es',lY (by rw [I.len];omega)] at hr
   rcases (hvs s hs).2.2 with c | c
   ·rw [c,if_pos rfl] at hr
    rw [c,ff]
    have hr':z≤hi.getD t 0-as.getD t 0:=hr
    omega
   ·rw [c,if_neg (by decide)] at hr
    rw [c,gf,ff]
    have hr':z≤as.getD t 0-lo.getD t 0:=hr
    omega
  ·rw [jN fun s h1 h2=>hs ⟨s,h1,h2⟩]
   exact hst
def rst (m:Nat) (R:List Int):List Int:=((bI m).map fun (j:Nat)=>(j:Int)).filter fun p=>!decide (p∈R)
theorem vA {m:Nat} {R:List Int} {p:Int}:p∈rst m R↔0≤p∧p<m∧¬p∈R:=by
 unfold rst
 rw [bG,bE]
 constructor
 ·rintro ⟨⟨j,hj,rfl⟩,h⟩
  rw [bM] at hj
  exact ⟨by omega,by omega,by simpa using h⟩
 ·rintro ⟨h0,h1,h2⟩
  exact ⟨⟨p.toNat,bM.mpr (by omega),by omega⟩,by simpa using h2⟩
theorem nY (m:Nat) (R:List Int):rst (m+1) R=rst m R++if (m:Int)∈R then [] else [(m:Int)]:=by
 unfold rst
 rw [fu,aw,bV]
 congr 1
 by_cases c:(m:Int)∈R
 ·rw [if_pos c]
  exact bU (by simpa using c)
 ·rw [if_neg c]
  exact bT (by simpa using c)
theorem qe (m:Nat) (R:List Int):(rst m R).length≤m:=by
 unfold rst
 exact cu (bP _ _) (by rw [aa,bW];exact aN _)
theorem xl (m:Nat) (R:List Int):(rst m R).Pairwise (·<·):=by
 unfold rst
 refine List.Pairwise.filter _ ?_
 rw [dq]
 exact List.pairwise_lt_range.imp fun h=>by omega
theorem uB (m:Nat) (R:List Int):(rst m R).Nodup:=by
 rw [b_]
 exact (xl m R).imp fun h e=>by omega
def shS (ps:List Int) (es:List (Int×Int)) (lo hi:List Int):Nat→Int
 | 0=>0
 | i+1=>shS ps es lo hi i+(if (iM ps (es.getD i (0,0)).1&&!iM ps (es.getD i (0,0)).2)=true then lo.getD i 0 else 0)-(if (iM ps (es.getD i (0,0)).2&&!iM ps (es.getD i (0,0)).1)=true then hi.getD i 0 else 0)
theorem uv {ps:List Int} {es:List (Int×Int)} {lo hi fs:List Int} {k:Int} (h:∀t,t<es.length→k*lo.getD t 0≤fs.getD t 0∧fs.getD t 0≤k*hi.getD t 0):∀n,n≤es.length→k*shS ps es lo hi n≤ac ps es fs n
 | 0,_=>by show k*0≤0;omega
 | n+1,hn=>by
  have ih:=uv (ps:=ps) h n (by omega)
  obtain ⟨h1,h2⟩:=h n (by omega)
  show k*(shS ps es lo hi n+_-_)≤ac ps es fs n+_-_
  rw [Int.mul_sub,fT]
  cases iM ps (es.getD n (0,0)).1<;>cases iM ps (es.getD n (0,0)).2<;>simp only [ek,dQ,fE,eC,dJ,cZ,dw,dg,if_true,if_false,reduceIte,cV]<;>omega
theorem tH {ps:List Int} {es:List (Int×Int)} {lo hi fs:List Int} {k:Int} (k0:0<k) (hN:ps.Nodup) (hf:∀p:Int,dp p es fs es.length=0) (h:∀t,t<es.length→k*lo.getD t 0≤fs.getD t 0∧fs.getD t 0≤k*hi.getD t 0):¬0<shS ps es lo hi es.length:=fun c=>by
 have e:=uv (ps:=ps) h es.length (aN _)
 rw [lP hN hf] at e
 have:=Int.mul_pos k0 c
 omega
theorem va {es:List (Int×Int)} {m:Nat} {lo hi as:List Int} {i:Nat} {R:List Int} (hE:∀e∈es,0≤e.1∧e.1<(m:Int)∧0≤e.2∧e.2<(m:Int)) (I:BtI es lo hi i as) (hi':i<es.length) (hd:d_ as lo hi i≠0)
  (h0:stE es (gT i (d_ as lo hi i))∈R) (h1:¬stB es (gT i (d_ as lo hi i))∈R) (hc:∀p∈R,∀s∈stN es (rmN as lo hi) p es.length,stE es s∈R):0<shS (rst m R) es lo hi es.length:=by
 have hmem:∀z:Int,0≤z→z<m→iM (rst m R) z=!decide (z∈R):=fun z z0 z1=>by
  rw [cS,eZ,vA]
  simp only [eU,decide_eq_false_iff_not]
  exact ⟨fun h=>h.2.2,fun h=>⟨z0,z1,h⟩⟩
 have key:∀n,n≤es.length→(if i<n then 1 else 0)≤shS (rst m R) es lo hi n-ac (rst m R) es as n:=by
  intro n
  induction n with
  | zero=>intro _;rw [if_neg (cw _)];exact gS 0
  | succ n ih =>
   intro hn
   have ih:=ih (by omega)
   have hg:es[n]?=some (es.getD n (0,0)):=by rw [ae,aj (show n<es.length by omega)];rfl
   obtain ⟨d1,d2,d3,d4⟩:=hE _ (bj hg)
   have r1:=mY (es:=es) (rm:=rmN as lo hi) (p:=(es.getD n (0,0)).1) (show n<es.length by omega)
   have r2:=mY (es:=es) (rm:=rmN as lo hi) (p:=(es.getD n (0,0)).2) (show n<es.length by omega)
   rw [lY (by rw [I.len];omega)] at r1 r2
   have f1:(es.getD n (0,0)).1∈R→¬(es.getD n (0,0)).2∈R→hi.getD n 0≤as.getD n 0:=fun a b=>Classical.byContradiction fun c=>b (by
    have:=hc _ a _ (r1.1 rfl (by show 0<hi.getD n 0-as.getD n 0;omega))
    exact this)
   have f2:(es.getD n (0,0)).2∈R→¬(es.getD n (0,0)).1∈R→as.getD n 0≤lo.getD n 0:=fun a b=>Classical.byContradiction fun c=>b (by
    have:=hc _ a _ (r2.2 rfl (by show 0<as.getD n 0-lo.getD n 0;omega))
    exact this)
   show _≤(shS (rst m R) es lo hi n+_-_)-(ac (rst m R) es as n+_-_)
   rw [hmem _ d1 d2,hmem _ d3 d4]
   by_cases c:i=n
   ·subst c
    rw [if_pos (cA _)]
    rw [if_neg (cL _)] at ih
    unfold stE bc at h0
    unfold stB bc at h1
    unfold d_ oE at hd h0 h1
    have ei:(gT i (if as.getD i 0<lo.getD i 0 then lo.getD i 0-as.getD i 0 else if as.getD i 0>hi.getD i 0 then hi.getD i 0-as.getD i 0 else 0)).1.toNat=i:=aY i
    rw [ei] at h0 h1
    split at hd
    ·rename_i c1
     have e2:(gT i (lo.getD i 0-as.getD i 0)).2=1:=if_pos (by omega)
     rw [if_pos c1,e2,if_pos rfl] at h0 h1
     rw [decide_eq_true h0,decide_eq_false h1]
     simp only [ek,dQ,fE,eC,dJ,cZ,dw,dg,if_true,if_false,reduceIte,cV];omega
    ·rename_i c1
     split at hd
     ·rename_i c2
      have e2:(gT i (hi.getD i 0-as.getD i 0)).2=-1:=if_neg (by omega)
      rw [if_neg c1,if_pos c2,e2,if_neg (show ¬(-1:Int)=1 by decide)] at h0 h1
      rw [decide_eq_true h0,decide_eq_false h1]
      simp only [ek,dQ,fE,eC,dJ,cZ,dw,dg,if_true,if_false,reduceIte,cV];omega
     ·exact absurd rfl hd
   ·have e:(if i<n+1 then (1:Int) else 0)=if i<n then 1 else 0:=by
     by_cases c2:i<n
     ·rw [if_pos c2,if_pos (by omega)]
     ·rw [if_neg c2,if_neg (by omega)]
    rw [e]
    by_cases a1:(es.getD n (0,0)).1∈R<;>by_cases a2:(es.getD n (0,0)).2∈R
    ·rw [decide_eq_true a1,decide_eq_true a2];simp only [ek,dQ,fE,eC,dJ,cZ,dw,dg,if_true,if_false,reduceIte,cV];omega
    ·rw [decide_eq_true a1,decide_eq_false a2];have:=f1 a1 a2;simp only [ek,dQ,fE,eC,dJ,cZ,dw,dg,if_true,if_false,reduceIte,cV];omega
    ·rw [decide_eq_false a1,decide_eq_true a2];have:=f2 a2 a1;simp only [ek,dQ,fE,eC,dJ,cZ,dw,dg,if_true,if_false,reduceIte,cV];omega
    ·rw [decide_eq_false a1,decide_eq_false a2];simp only [ek,dQ,fE,eC,dJ,cZ,dw,dg,if_true,if_false,reduceIte,cV];omega
 have:=key es.length (aN _)
 rw [if_pos hi',lP (uB m R) I.rq] at this
 omega
inductive WhR (es:List (Int×Int)) (lo hi:List Int) (m i:Nat):List Int→Bool×List Int→Prop
 | done {as:List Int}:d_ as lo hi i=0→WhR es lo hi m i as (true,as)
 | vb {as:List Int}:d_ as lo hi i≠0→¬stB es (gT i (d_ as lo hi i))∈(wwr es (rmN as lo hi) (stE es (gT i (d_ as lo hi i))) m).1→WhR es lo hi m i as (false,rst m (wwr es (rmN as lo hi) (stE es (gT i (d_ as lo hi i))) m).1)
 | next {as ws:List Int} {z:Int} {ss:List (Int×Int)} {r:Bool×List Int}:d_ as lo hi i≠0→stB es (gT i (d_ as lo hi i))∈(wwr es (rmN as lo hi) (stE es (gT i (d_ as lo hi i))) m).1 →
   ss=(wwr es (rmN as lo hi) (stE es (gT i (d_ as lo hi i))) m).2 (stB es (gT i (d_ as lo hi i)))→z∈(if d_ as lo hi i<0 then -d_ as lo hi i else d_ as lo hi i)::ss.map (rmA (rmN as lo hi))→(∀y∈(if d_ as lo hi i<0 then -d_ as lo hi i else d_ as lo hi i)::ss.map (rmA (rmN as lo hi)),z≤y) →
   ws=psh as (ss++[gT i (d_ as lo hi i)]) z→WhR es lo hi m i ws r→WhR es lo hi m i as r
theorem WhR.det {es:List (Int×Int)} {lo hi:List Int} {m i:Nat} {as:List Int} {r r':Bool×List Int} (h:WhR es lo hi m i as r) (h':WhR es lo hi m i as r'):r=r':=by
 induction h with
 | done e =>
  cases h' with
  | done _=>rfl
  | vb d _=>exact absurd e d
  | next d _ _ _ _ _ _=>exact absurd e d
 | vb d n =>
  cases h' with
  | done e=>exact absurd e d
  | vb _ _=>rfl
  | next _ q _ _ _ _ _=>exact absurd q n
 | next d q es' hz hm ew _ ih =>
  cases h' with
  | done e=>exact absurd e d
  | vb _ n=>exact absurd q n
  | next _ _ es2 hz2 hm2 ew2 h2 =>
   subst es';subst es2
   have e:=Int.le_antisymm (hm _ hz2) (hm2 _ hz)
   subst e
   subst ew;subst ew2
   exact ih h2
inductive BtR (es:List (Int×Int)) (lo hi:List Int) (m:Nat):Nat→Bool×List Int→Prop
 | nil:BtR es lo hi m 0 (true,au es.length 0)
 | next {i:Nat} {as:List Int} {r:Bool×List Int}:BtR es lo hi m i (true,as)→WhR es lo hi m i as r→BtR es lo hi m (i+1) r
 | stop {i:Nat} {x:List Int}:BtR es lo hi m i (false,x)→BtR es lo hi m (i+1) (false,x)
theorem BtR.det {es:List (Int×Int)} {lo hi:List Int} {m n:Nat} {r r':Bool×List Int} (h:BtR es lo hi m n r) (h':BtR es lo hi m n r'):r=r':=by
 induction h generalizing r' with
 | nil=>cases h';rfl
 | next _ hw ih =>
  cases h' with
  | next h2 hw2 =>
   have e:=ih h2
   injection e with _ e
   subst e
   exact hw.det hw2
  | stop h2 =>
   have e:=ih h2
   injection e with e _
   cases e
 | stop _ ih =>
  cases h' with
  | next h2 _ =>
   have e:=ih h2
   injection e with e _
   cases e
  | stop h2=>exact ih h2
theorem BtR.vb {es:List (Int×Int)} {lo hi:List Int} {m i n:Nat} {x:List Int} (h:BtR es lo hi m i (false,x)) (hn:i≤n):BtR es lo hi m n (false,x):=by
  induction n with
  | zero => obtain rfl : i = 0 := by omega
            exact h
  | succ n ih =>
    by_cases c:i=n+1
    · exact c▸h
    · exact .stop (ih (by omega))
end L2
namespace L2
open PySem
def tS (fs:List Int):Nat→Nat→Int
 | _,0=>0
 | t,k+1=>((fs.getD t 0).natAbs:Int)+tS fs (t+1) k
theorem pY (fs:List Int):∀k t,tS fs t (k+1)=tS fs t k+((fs.getD (t+k) 0).natAbs:Int)
 | 0,t=>by show _+0=0+_;rw [Nat.add_zero];omega
 | k+1,t=>by
  show ((fs.getD t 0).natAbs:Int)+tS fs (t+1) (k+1)=(((fs.getD t 0).natAbs:Int)+tS fs (t+1) k)+_
  rw [pY fs k (t+1),show t+1+k=t+(k+1) by omega];omega
theorem wO {m:Int} {es:List (Int×Int)} {fs:List Int} (hE:∀e∈es,0≤e.1∧e.1<m∧0≤e.2∧e.2<m) (hd:∀p:Int,dp p es fs es.length=0) {t k:Nat} (ht:t+1+k=es.length) (hF:inF es t=true):((fs.getD t 0).natAbs:Int)≤tS fs (t+1) k:=by
 obtain ⟨f,F⟩:=oo hE t
 have gE:∀j,j<es.length→es[j]?=some (es.getD j (0,0)):=fun j hj=>by rw [ae,aj hj];rfl
 obtain ⟨b1,b2,b3,b4⟩:=hE _ (bj (gE t (by omega)))
 have hne:¬f (es.getD t (0,0)).1=f (es.getD t (0,0)).2:=fun z=>gG.mp hF ((F.iff b1 b2 b3 b4).mp z)
 have hz:=lP (qX m.toNat f (f (es.getD t (0,0)).1)) hd
 have hmem:∀z:Int,0≤z→z<m→iM (grp m.toNat f (f (es.getD t (0,0)).1)) z=decide (f z=f (es.getD t (0,0)).1):=fun z z0 z1=>by
  rw [cS,eZ,jV,decide_eq_true_iff]
  exact ⟨fun h=>h.2.2,fun h=>⟨z0,by omega,h⟩⟩
 have bef:∀n,n≤t→ac (grp m.toNat f (f (es.getD t (0,0)).1)) es fs n=0:=by
  intro n
  induction n with
  | zero=>intro _;rfl
  | succ n ih =>
   intro hn
   show ac _ es fs n+_-_=_
   obtain ⟨d1,d2,d3,d4⟩:=hE _ (bj (gE n (by omega)))
   have es1:f (es.getD n (0,0)).1=f (es.getD n (0,0)).2:=F.same _ (di.mpr ⟨n,by omega,by rw [ae,aj (show n<es.length by omega)];rfl⟩)
   rw [ih (by omega),hmem _ d1 d2,hmem _ d3 d4,es1]
   cases decide (f (es.getD n (0,0)).2=f (es.getD t (0,0)).1)<;>simp
 have aft:∀j,j≤k→fs.getD t 0-tS fs (t+1) j≤ac (grp m.toNat f (f (es.getD t (0,0)).1)) es fs (t+1+j)∧ac (grp m.toNat f (f (es.getD t (0,0)).1)) es fs (t+1+j)≤fs.getD t 0+tS fs (t+1) j:=by
  intro j
  induction j with
  | zero =>
   intro _
   have e:ac (grp m.toNat f (f (es.getD t (0,0)).1)) es fs (t+1)=fs.getD t 0:=by
    show ac _ es fs t+_-_=_
    rw [bef t (aN _),hmem _ b1 b2,hmem _ b3 b4,decide_eq_true rfl,decide_eq_false (fun z=>hne z.symm)]
    simp only [dQ,ek,eC,dJ,dg,if_true,if_false,reduceIte]
    omega
   rw [Nat.add_zero,e]
   show _-0≤_∧_≤_+0
   omega
  | succ j ih =>
   intro hj
   obtain ⟨i1,i2⟩:=ih (by omega)
   rw [pY]
   have e0:∀G:List Int,ac G es fs (t+1+(j+1))=ac G es fs (t+1+j)+(if (iM G (es.getD (t+1+j) (0,0)).1&&!iM G (es.getD (t+1+j) (0,0)).2)=true then fs.getD (t+1+j) 0 else 0)-(if (iM G (es.getD (t+1+j) (0,0)).2&&!iM G (es.getD (t+1+j) (0,0)).1)=true then fs.getD (t+1+j) 0 else 0):=fun _=>rfl
   rw [e0]
   have hb:-((fs.getD (t+1+j) 0).natAbs:Int)≤fs.getD (t+1+j) 0∧fs.getD (t+1+j) 0≤((fs.getD (t+1+j) 0).natAbs:Int):=by omega
   generalize iM (grp m.toNat f (f (es.getD t (0,0)).1)) (es.getD (t+1+j) (0,0)).1=x
   generalize iM (grp m.toNat f (f (es.getD t (0,0)).1)) (es.getD (t+1+j) (0,0)).2=y
   cases x<;>cases y<;>simp only [dQ,ek,eC,dJ,dw,cZ,dg,if_true,if_false,reduceIte]<;>omega
 have:=aft k (aN _)
 rw [ht,hz] at this
 omega
theorem nV {m B:Int} {es:List (Int×Int)} {fs:List Int} (hE:∀e∈es,0≤e.1∧e.1<m∧0≤e.2∧e.2<m) (hd:∀p:Int,dp p es fs es.length=0) (hB:0≤B) (h0:∀t,t<es.length→¬inF es t=true→((fs.getD t 0).natAbs:Int)≤B):∀k t,t+k=es.length→tS fs t k≤2^k*B-B
 | 0,t,_=>by show 0≤1*B-B;omega
 | k+1,t,ht=>by
  have ih:=nV hE hd hB h0 k (t+1) (by omega)
  show ((fs.getD t 0).natAbs:Int)+tS fs (t+1) k≤2^(k+1)*B-B
  rw [Int.pow_succ,Int.mul_comm (2^k) 2,Int.mul_assoc]
  have hp:B≤2^k*B:=by
   have h1:(1:Int)≤2^k:=Int.pow_pos (by decide)
   have:=Int.mul_le_mul_of_nonneg_right h1 hB
   omega
  generalize (2:Int)^k*B=X at ih hp
  by_cases hF:inF es t=true
  ·have:=wO hE hd (t:=t) (k:=k) (by omega) hF
   omega
  ·have:=h0 t (by omega) hF
   omega
theorem uo (fs:List Int):∀k t j,t≤j→j<t+k→((fs.getD j 0).natAbs:Int)≤tS fs t k
 | 0,t,j,h1,h2=>by omega
 | k+1,t,j,h1,h2=>by
  have hn:∀k t,0≤tS fs t k:=fun k=>by
   induction k with
   | zero=>intro t;exact gS 0
   | succ k ih=>intro t;show 0≤_+tS fs (t+1) k;have:=ih (t+1);omega
  show _≤((fs.getD t 0).natAbs:Int)+tS fs (t+1) k
  by_cases c:t=j
  ·subst c;have:=hn k (t+1);omega
  ·have:=uo fs k (t+1) j (by omega) (by omega);omega
theorem pz {m B:Int} {es:List (Int×Int)} {fs:List Int} (hE:∀e∈es,0≤e.1∧e.1<m∧0≤e.2∧e.2<m) (hd:∀p:Int,dp p es fs es.length=0) (hB:0≤B) (hz:es.length≤40) (h0:∀t,t<es.length→¬inF es t=true→((fs.getD t 0).natAbs:Int)≤B):∀t,t<es.length→((fs.getD t 0).natAbs:Int)≤2^40*B:=fun t ht=>by
 have h1:=uo fs es.length 0 t (dU _) (by omega)
 have h2:=nV hE hd hB h0 es.length 0 (Nat.zero_add _)
 have h3:(2:Int)^es.length≤2^40:=by exact_mod_cast Nat.pow_le_pow_right (n:=2) (by decide) hz
 have h4:=Int.mul_le_mul_of_nonneg_right h3 hB
 omega
def lwK (fs:List Int) (k:Int):List Int:=fs.map (·/k)
def hgK (fs:List Int) (k:Int):List Int:=fs.map fun a=>-(-a/k)
def rdK (fs as:List Int) (k:Int):List Int:=bO (·+·) fs (as.map (-k*·))
theorem qE {fs:List Int} {k:Int} {t:Nat} (h:t<fs.length):(lwK fs k).getD t 0=fs.getD t 0/k:=by
 unfold lwK;rw [ae,a_,ae,aj h];rfl
theorem qV {fs:List Int} {k:Int} {t:Nat} (h:t<fs.length):(hgK fs k).getD t 0=-(-fs.getD t 0/k):=by
 unfold hgK;rw [ae,a_,ae,aj h];rfl
theorem AU {a k:Int} (hk:0<k):k*(a/k)≤a∧a<k*(a/k)+k:=by
 have h1:=bH a (show k≠0 by omega)
 have h2:=br a hk
 have h3:=Int.mul_ediv_add_emod a k
 omega
theorem xG {fs:List Int} {k:Int} (hk:0<k) {t:Nat} (h:t<fs.length):(lwK fs k).getD t 0≤(hgK fs k).getD t 0∧k*(lwK fs k).getD t 0≤fs.getD t 0∧fs.getD t 0≤k*(hgK fs k).getD t 0:=by
 rw [qE h,qV h]
 obtain ⟨h1,h2⟩:=AU (a:=fs.getD t 0) hk
 obtain ⟨h3,h4⟩:=AU (a:=-fs.getD t 0) hk
 have e:k*-(-fs.getD t 0/k)=-(k*(-fs.getD t 0/k)):=Int.mul_neg ..
 refine ⟨?_,h1,by omega⟩
 refine Int.le_of_mul_le_mul_left (a:=k) ?_ hk
 omega
theorem tO {fs:List Int} {k B:Int} (hk:1<k) (hB:0≤B) {t:Nat} (h:t<fs.length) (hb:((fs.getD t 0).natAbs:Int)≤B):-B≤(lwK fs k).getD t 0∧(hgK fs k).getD t 0≤B:=by
 rw [qE h,qV h]
 have div_lo:∀a:Int,-B≤a→-B≤a/k:=fun a ha=>by
  rw [Int.le_ediv_iff_mul_le (by omega)]
  have:=Int.mul_le_mul_of_nonneg_left (show (1:Int)≤k by omega) hB
  rw [gf]
  omega
 have h1:=div_lo (fs.getD t 0) (by omega)
 have h2:=div_lo (-fs.getD t 0) (by omega)
 exact ⟨h1,by omega⟩
structure RdF (es:List (Int×Int)) (rs:List Int) (k:Int) (gs:List Int):Prop where
 len:gs.length=es.length
 rq:∀p:Int,dp p es gs es.length=0
 zero:∀t,t<es.length→rs.getD t 0=0→gs.getD t 0=0
 pos:∀t,t<es.length→rs.getD t 0≠0→gs.getD t 0=rs.getD t 0∨gs.getD t 0=rs.getD t 0-k
theorem xo {es:List (Int×Int)} {fs as:List Int} {k:Int} (hk:0<k) (hf:fs.length=es.length) (hl:as.length=es.length) (df:∀p:Int,dp p es fs es.length=0) (da:∀p:Int,dp p es as es.length=0) (h:∀t,t<es.length→(lwK fs k).getD t 0≤as.getD t 0∧as.getD t 0≤(hgK fs k).getD t 0):RdF es (fs.map (·%k)) k (rdK fs as k):=by
 have hlm:fs.length=(as.map (-k*·)).length:=by rw [aa,hf,hl]
 have at_:∀t,(rdK fs as k).getD t 0=fs.getD t 0-k*as.getD t 0:=fun t=>by
  unfold rdK
  rw [hU _ _ hlm,ic,gf];omega
 have rAt:∀t,t<es.length→(fs.map (·%k)).getD t 0=fs.getD t 0%k:=fun t ht=>by
  rw [ae,a_,ae,aj (show t<fs.length by omega)];rfl
 have two:∀t,t<es.length→(fs.getD t 0%k=0→as.getD t 0=fs.getD t 0/k)∧(as.getD t 0=fs.getD t 0/k∨as.getD t 0=fs.getD t 0/k+1):=fun t ht=>by
  obtain ⟨b1,b2⟩:=h t ht
  rw [qE (by omega)] at b1
  rw [qV (by omega)] at b2
  have e:=Int.mul_ediv_add_emod (fs.getD t 0) k
  have r0:=bH (fs.getD t 0) (show k≠0 by omega)
  have r1:=br (fs.getD t 0) hk
  have e2:=AU (a:=-fs.getD t 0) hk
  generalize fs.getD t 0/k=Q at *
  generalize fs.getD t 0%k=R at *
  generalize hG:-fs.getD t 0/k=G at *
  have g0:R=0→-G≤Q:=fun hR=>by
   have:k*-Q≤k*G+(k-1):=by rw [Int.mul_neg];omega
   have h1:k*(-Q-G)<k:=by rw [Int.mul_sub];omega
   have h2:-Q-G<1:=Int.lt_of_mul_lt_mul_left (a:=k) (by rw [Int.mul_one];exact h1) (by omega)
   have h3:k*(Q+G)≤0:=by rw [fT];omega
   have h4:k*(-(Q+G))<k*1:=by rw [Int.mul_neg,Int.mul_one,fT];omega
   have h5:=Int.lt_of_mul_lt_mul_left h4 (by omega)
   omega
  have g1:-G≤Q+1:=by
   have h4:k*(-(Q+G))<k*2:=by rw [Int.mul_neg,fT];omega
   have h5:=Int.lt_of_mul_lt_mul_left h4 (by omega)
   omega
  exact ⟨fun hR=>by have:=g0 hR;omega,by omega⟩
 refine ⟨?_,fun p=>?_,fun t ht hz=>?_,fun t ht hz=>?_⟩
 ·unfold rdK;rw [dX,←hlm,eY];exact hf
 ·unfold rdK;rw [jw p es _ _ hlm,kG,df,da,cV];rfl
 ·rw [rAt t ht] at hz
  rw [at_,(two t ht).1 hz]
  have:=Int.mul_ediv_add_emod (fs.getD t 0) k
  omega
 ·rw [rAt t ht] at hz ⊢
  rw [at_]
  have e:=Int.mul_ediv_add_emod (fs.getD t 0) k
  rcases (two t ht).2 with z | z
  ·rw [z];exact .inl (by omega)
  ·rw [z,fT,Int.mul_one];exact .inr (by omega)
def RdR (m:Int) (es:List (Int×Int)) (fs:List Int) (k:Int) (gs:List Int):Prop:=∃as,BtR es (lwK fs k) (hgK fs k) m.toNat es.length (true,as)∧gs=rdK fs as k
theorem RdR.det {m k:Int} {es:List (Int×Int)} {fs gs gs':List Int} (h:RdR m es fs k gs) (h':RdR m es fs k gs'):gs=gs':=by
 obtain ⟨as,h1,rfl⟩:=h
 obtain ⟨as',h2,rfl⟩:=h'
 have e:=h1.det h2
 injection e with _ e
 rw [e]
theorem FW.bound {m B:Int} {es:List (Int×Int)} {vs fs:List Int} (hE:∀e∈es,0≤e.1∧e.1<m∧0≤e.2∧e.2<m) (h:FW es vs fs) (hl:vs.length=(fre es).length) (hB:0≤B) (hz:es.length≤40) (hv:∀v∈vs,(v.natAbs:Int)≤B):∀t,t<es.length→((fs.getD t 0).natAbs:Int)≤2^40*B :=
 pz hE h.2.1 hB hz fun t ht hn=>by
  obtain ⟨j,hj,e⟩:=rh ht hn
  have e1:=h.2.2 j hj
  rw [e,aY] at e1
  rw [e1,gX (by omega)]
  exact hv _ (cj _)
def LtR (m:Int) (es:List (Int×Int)) (rs:List Int) (k:Int) (gs:List Int):Prop:=∃fs,FW es (frv es rs) fs∧RdR m es fs k gs
theorem LtR.det {m k:Int} {es:List (Int×Int)} {rs gs gs':List Int} (hE:∀e∈es,0≤e.1∧e.1<m∧0≤e.2∧e.2<m) (h:LtR m es rs k gs) (h':LtR m es rs k gs'):gs=gs':=by
 obtain ⟨fs,h1,h2⟩:=h
 obtain ⟨fs',h1',h2'⟩:=h'
 have e:=h1.uniq hE h1'
 subst e
 exact h2.det h2'
end L2
namespace L2
open PySem PySem.Spec PyProof.Rows
section
variable {X:Cx}
def CB:V→List V→Hp→VK→Prop:=fun x vs H Q=>∃(l:Addr) (xs:List V) (i:Int) (y:V),x=.ref l∧vs=[.int i,y]∧H l=some (.lst xs)∧0≤i∧i≤xs.length∧xs.length<1000∧Q .non (upd H l (.lst (xs.take i.toNat++y::xs.drop i.toNat)))
theorem pR {xs:List V} {us:List Value} (r:Vals xs us):∀j,Vals (xs.take j) (us.take j):=by
 induction r with
 | nil=>intro j;rw [List.take_nil,List.take_nil];exact .nil
 | cons h t ih =>
  intro j
  cases j with
  | zero=>exact .nil
  | succ j=>exact .cons h (ih j)
theorem pS {xs:List V} {us:List Value} (r:Vals xs us):∀j,Vals (xs.drop j) (us.drop j):=by
 induction r with
 | nil=>intro j;rw [List.drop_nil,List.drop_nil];exact .nil
 | cons h t ih =>
  intro j
  cases j with
  | zero=>exact .cons h t
  | succ j=>exact ih j
theorem nh:MtM X "list.insert" CB:=by
 intro pins s σ H x vs v us Q I rx rv h
 obtain ⟨l,xs,i,y,rfl,rfl,hH,i0,i1,hz,q⟩:=h
 cases rx
 obtain ⟨u,u',rfl,⟨t,rfl⟩,ry⟩:=vals2 rv
 obtain ⟨z,its,n,r,hl,e⟩:=I.wu hH
 have hlen:=r.length
 have big:(1000:Nat)≤sizeLine:=by decide
 have fit:¬(!Builtin.List.listFitsIndex i)=true:=by
  have:Builtin.List.listFitsIndex i=true:=by unfold Builtin.List.listFitsIndex;simp;omega
  rw [this];decide
 refine call_meets F.slot_list_insert ⟨_,e,rfl⟩ F.entry_list_insert (F.args_list_insert_3 _ _ _) (AutoSeq1.list_insert_list_int_val_1 l its.toArray n i t u' fit (by rw [aT];omega)) ⟨e,?_⟩
 refine ⟨.non,_,I.AR (its':=its.take i.toNat++u'::its.drop i.toNat) hH e ?_ ((pR r i.toNat).append (.cons ry (pS r i.toNat))) ?_,rfl,q⟩
 ·dsimp only
  rw [if_neg (by omega),aT,Nat.min_eq_left (by omega)]
  apply Array.ext'
  simp
  exact bq (by rw [cM];exact aN _)
 ·rw [ay,bA,aC,cM]
  omega
end
end L2
namespace L2
open PySem PySem.Spec PyProof.Rows
section
variable {prog:Program} {w:World} {A:Around} {E:Value→Shared→Prop} {s:Shared}
end
section
variable {X:Cx}
end
end L2
namespace L2
open PySem
def mkS (n:Nat) (ss:List Int):List Int:=(bI n).map fun (i:Nat)=>if (i:Int)∈ss then 1 else 0
theorem fq (n:Nat) (ss:List Int):(mkS n ss).length=n:=by unfold mkS;rw [aa,bW]
theorem qC {n i:Nat} {ss:List Int} (h:i<n):(mkS n ss)[i]?=some (if (i:Int)∈ss then 1 else 0):=by
 unfold mkS;rw [a_,List.getElem?_range h];rfl
theorem iz {n i:Nat} {ss:List Int} (h:i<n):(mkS n ss).getD i 0=if (i:Int)∈ss then 1 else 0:=by
 rw [ae,qC h];rfl
theorem vy {n:Nat} {ss:List Int}:∀r∈mkS n ss,0≤r∧r<2:=fun r hr=>by
 obtain ⟨i,_,rfl⟩:=bE.mp hr
 split<;>decide
structure gp (n:Nat) (ss:List Int):Prop where
 rng:∀t∈ss,0≤t∧t<(n:Int)
 up:ss.Pairwise (·<·)
theorem gp.nd {n:Nat} {ss:List Int} (h:gp n ss):ss.Nodup:=by
 rw [b_]
 exact h.up.imp fun h e=>by omega
theorem gp.len {n:Nat} {ss:List Int} (h:gp n ss):ss.length≤n:=by
 have:=fk (m:=(n:Int)) h.nd h.rng
 omega
theorem wI:∀{ss:List Int},(∀i,i+1<ss.length→ss.getD i 0<ss.getD (i+1) 0)→ss.Pairwise (·<·)
 | [],_=>.nil
 | [_],_=>List.pairwise_singleton ..
 | a::b::l,h=>by
  have ih:=wI (ss:=b::l) fun i hi=>h (i+1) (Nat.succ_lt_succ hi)
  refine List.Pairwise.cons (fun z hz=>?_) ih
  have h0:a<b:=h 0 (by simp)
  rcases aU.mp hz with y | y
  ·rw [y];exact h0
  ·have:=(List.pairwise_cons.mp ih).1 z y;omega
theorem nS {ss:List Int} (h:ss.Pairwise (·<·)) {i:Nat} (hi:i+1<ss.length):ss.getD i 0<ss.getD (i+1) 0:=by
 rw [gX (by omega),gX hi]
 exact List.pairwise_iff_getElem.mp h i (i+1) (by omega) hi (by omega)
theorem nI {k p:Int} {es:List (Int×Int)} {fs gs:List Int}:∀n,(∀t,t<n→k∣fs.getD t 0-gs.getD t 0)→k∣dp p es fs n-dp p es gs n
 | 0,_=>⟨0,by rw [cV];rfl⟩
 | n+1,h=>by
  obtain ⟨u,hu⟩:=nI (p:=p) (es:=es) n fun t ht=>h t (by omega)
  obtain ⟨v,hv⟩:=h n (by omega)
  show k∣(dp p es fs n+_-_)-(dp p es gs n+_-_)
  by_cases c1:(es.getD n (0,0)).2=p<;>by_cases c2:(es.getD n (0,0)).1=p
  ·exact ⟨u,by rw [if_pos c1,if_pos c1,if_pos c2,if_pos c2];omega⟩
  ·exact ⟨u+v,by rw [if_pos c1,if_pos c1,if_neg c2,if_neg c2,fT];omega⟩
  ·exact ⟨u-v,by rw [if_neg c1,if_neg c1,if_pos c2,if_pos c2,Int.mul_sub];omega⟩
  ·exact ⟨u,by rw [if_neg c1,if_neg c1,if_neg c2,if_neg c2];omega⟩
theorem vE {m k:Int} {es:List (Int×Int)} {fs:List Int}:isR m es fs k=true↔(∀r∈fs,0≤r∧r<k)∧∀p:Nat,p<m.toNat→dp p es fs es.length%k=0:=by
 unfold isR
 rw [cC,decide_eq_true_iff,cY]
 exact ⟨fun h=>⟨fun r hr=>by simpa using h.1 r hr,h.2⟩,fun h=>⟨fun r hr=>by simpa using h.1 r hr,h.2⟩⟩
def EvS (es:List (Int×Int)) (ss:List Int):Prop:=∀p:Int,2∣dp p es (mkS es.length ss) es.length
theorem EvS.isR {m:Int} {es:List (Int×Int)} {ss:List Int} (h:EvS es ss):isR m es (mkS es.length ss) 2=true:=vE.mpr ⟨vy,fun p _=>by
 obtain ⟨u,hu⟩:=h p
 rw [hu];exact Int.mul_emod_right ..⟩
theorem EvS.parted {es:List (Int×Int)} {a b c:List Int} (ha:EvS es a) (hb:EvS es b) (hc:∀t:Int,t∈c↔(t∈a∧¬t∈b)∨(t∈b∧¬t∈a)):EvS es c:=fun p=>by
 have hl:(mkS es.length a).length=(mkS es.length b).length:=by rw [fq,fq]
 obtain ⟨u,hu⟩:=nI (k:=2) (p:=p) (es:=es) (fs:=mkS es.length c) (gs:=bO (·+·) (mkS es.length a) (mkS es.length b)) es.length fun t ht=>by
  rw [hU _ _ hl,iz ht,iz ht,iz ht]
  by_cases h1:(t:Int)∈a<;>by_cases h2:(t:Int)∈b
  ·rw [if_pos h1,if_pos h2,if_neg (fun z=>((hc _).mp z).elim (fun y=>y.2 h2) fun y=>y.2 h1)];exact ⟨-1,rfl⟩
  ·rw [if_pos h1,if_neg h2,if_pos ((hc _).mpr (.inl ⟨h1,h2⟩))];exact ⟨0,rfl⟩
  ·rw [if_neg h1,if_pos h2,if_pos ((hc _).mpr (.inr ⟨h2,h1⟩))];exact ⟨0,rfl⟩
  ·rw [if_neg h1,if_neg h2,if_neg (fun z=>((hc _).mp z).elim (fun y=>h1 y.1) fun y=>h2 y.1)];exact ⟨0,rfl⟩
 rw [jw p es _ _ hl] at hu
 obtain ⟨v,hv⟩:=ha p
 obtain ⟨w,hw⟩:=hb p
 exact ⟨u+v+w,by omega⟩
theorem EvS.nil (es:List (Int×Int)):EvS es []:=fun p=>by
 have e:mkS es.length []=au es.length 0:=by
  refine ef (by rw [fq,bh]) fun i h1 h2=>?_
  rw [List.getElem_replicate,←gX h1,iz (by rw [fq] at h1;exact h1),if_neg (fun z=>nomatch z)]
 rw [e,jx]
 exact ⟨0,rfl⟩
theorem sJ {a:List Int} (h:a.Pairwise (·≤·)) (n:a.Nodup):a.Pairwise (·<·):=by
 rw [b_] at n
 exact (h.and n).imp fun h=>by omega
end L2
namespace L2
open PySem PySem.Spec PyProof.Rows
section
variable {prog:Program} {w:World} {A:Around} {E:Value→Shared→Prop} {s:Shared}
theorem sQ {l sl q:Addr} {xs ys:Array Value} {n n':Nat} {ta tb:Tok} {a b:Nat} {Q:Unit→Shared→Prop} (hl:s.heap.get? l=some (PySem.W.listOf xs n)) (hq:s.heap.get? q=some (PySem.W.listOf ys n')) (hlq:l≠q) (hs:s.heap.IsSliceOf sl (.int a ta) (.int b tb) .none) (hab:a≤b) (hb:b≤xs.size) (hz:xs.size+ys.size≤1000)
  (k:Q () {s with heap:=s.heap.update l (Obj.mapSeq fun zs=>zs.extract 0 a++ys++zs.extract b zs.size)}):wpAny (model prog w) A (setItem (.ref l) (.ref sl) (.ref q)) Q E s:=by
 have isl:s.heap.IsList l xs:=PySem.IsL.isList (n:=n) hl
 obtain ⟨so,hso,hsc,hsd⟩:=hs
 have tys:s.TypeIs (.ref sl) "slice":=⟨so,hso,hsc⟩
 have hparts:∀{Q':Value×Value×Value→Shared→Prop},Q' (rawPart (some (a:Int)),rawPart (some (b:Int)),rawPart none) s→wpAny (model prog w) A.in1 (Builtin.List.listSliceParts (.ref sl)) Q' E s:=fun {Q'} h=>by
  rw [listSliceParts_eq]
  refine wpAny_bind (wpAny_field hso hsd (x:=.none) rfl ?_)
  refine wpAny_bind (wpAny_listPart (k:=none) .none ?_)
  rw [if_neg (by decide)]
  refine wpAny_bind (wpAny_field hso hsd (x:=.int a ta) rfl ?_)
  refine wpAny_bind (wpAny_listPart (k:=some (a:Int)) (.int ..) ?_)
  refine wpAny_bind (wpAny_field hso hsd (x:=.int b tb) rfl ?_)
  exact wpAny_bind (wpAny_listPart (k:=some (b:Int)) (.int ..) (wpAny_pure h))
 have body:wpAny (model prog w) A.in1 (Builtin.«list.__setitem__» ⟨[.ref l,.ref sl,.ref q],[]⟩) (fun fin s'=>∃v,fin=.done (.ret v)∧Q () s') E s:=by
  unfold Builtin.«list.__setitem__» Builtin.List.listSubscript?
  wp_walk using wpAny_specialOf tys slice_no_index,wpAny_typeOf tys,hparts
  have same:Builtin.List.listSameRef (.ref l) (.ref q)=false:=by
   unfold Builtin.List.listSameRef
   simp [hlq]
  have bnd:=jo (some (a:Int)) (some (b:Int)) xs.size
  have ba:HT.sIx xs.size 0 (some (a:Int))=a:=by
   show (if (a:Int)<0 then ((a:Int)+(xs.size:Int)).toNat else min (a:Int).toNat xs.size)=a
   rw [if_neg (by omega),aY];omega
  have bb:HT.sIx xs.size xs.size (some (b:Int))=b:=by
   show (if (b:Int)<0 then ((b:Int)+(xs.size:Int)).toNat else min (b:Int).toNat xs.size)=b
   rw [if_neg (by omega),aY];omega
  rw [ba,bb] at bnd
  have tyq:s.TypeIs (.ref q) "list":=⟨_,hq,rfl⟩
  rw [same,if_neg (by decide)]
  unfold Builtin.List.listAllItems
  refine wpAny_bind (wpAny_bind (wpAny_typeOf tyq ?_))
  rw [if_pos (by decide)]
  have eS:sliceBounds (some (a:Int)) (some (b:Int)) none xs.size=((a:Int),(b:Int),1):=Prod.ext bnd.1 (Prod.ext bnd.2.1 bnd.2.2)
  have short:Builtin.List.listTooLong (xs.size+ys.size)=false:=by
   unfold Builtin.List.listTooLong
   rw [sizeLine_eq]
   exact decide_eq_false (by omega)
  refine listItems_at hq rfl (wpAny_bind (listItems_at hl rfl (wpAny_bind (wpAny_of_eq (sliceIndices_raw _ _ none _ (by simp)) ?_))))
  rw [eS]
  dsimp only
  rw [if_pos (by decide)]
  refine wpAny_bind (wpAny_rule ?_)
  rw [short,if_neg (by decide),show (max (a:Int) (b:Int)).toNat=b by omega,aY]
  refine wpAny_bind (listUpdate_at hl rfl (wpAny_bind (wpAny_letGo (wpAny_pure ⟨.none,rfl,k⟩))) (by rw [sizeLine_eq];omega) ?_)
  rw [sizeLine_eq]
  simp only [Array.size_append,Array.size_extract]
  omega
 unfold setItem
 refine wpAny_holding (wpAny_bind (wpAny_sequenceKey isl.typeIs (by decide) (wpAny_bind (wpAny_callSpecial?_slot (name:=Str.ofString "__setitem__") isl.typeIs slot_list_setitem (wpAny_mono (wpAny_call_entry slot_list_setitem isl.typeIs entry_list_setitem body (args_list_setitem _ _ _)) (fun v s' h=>wpAny_pure h) fun _ _ z=>z)))))
end
def Cw:V→Option Int→Option Int→V→Hp→(Hp→Prop)→Prop:=fun o l u v H Q=>∃(p q:Addr) (xs ys:List V) (a b:Nat),o=.ref p∧l=some (a:Int)∧u=some (b:Int)∧v=.ref q∧p≠q∧H p=some (.lst xs)∧H q=some (.lst ys)∧a≤b∧b≤xs.length∧xs.length+ys.length≤1000∧Q (upd H p (.lst (xs.take a++ys++xs.drop b)))
def CT (to:TE) (tl th:TO):TG:=fun v σ H Q=>to σ H fun o H1=>tl σ H1 fun l H2=>th σ H2 fun u H3=>Cw o l u v H3 fun H4=>Q σ H4
theorem oY (its us:List Value) (n a b:Nat):∃n',Obj.mapSeq (fun zs=>zs.extract 0 a++us.toArray++zs.extract b zs.size) {cls:=.type "list",data:=.seq its.toArray n}={cls:=.type "list",data:=.seq (its.take a++us++its.drop b).toArray n'}:=by
 have e:its.toArray.extract 0 a++us.toArray++its.toArray.extract b its.toArray.size=(its.take a++us++its.drop b).toArray:=by
  apply Array.ext'
  simp
  exact bq (by rw [cM];exact aN _)
 exact ⟨if (its.take a++us++its.drop b).toArray.size==its.toArray.size then n else n+1,by rw [←e];rfl⟩
section
variable {X:Cx} {pos p2:Pos} {o:Expr} {lo hi:Option Expr} {to:TE} {tl th:TO}
theorem xt (ho:PE X o to) (hl:PO X lo tl) (hu:PO X hi th)
  (ha:∀v,assign (.Subscript o (.Slice lo hi none p2) pos) X.env v=(do
   let ov ←holding [v] (eval o X.env)
   let iv ←holding [v,ov] (eval (.Slice lo hi none p2) X.env)
   standAt pos
   holding [v,ov,iv] (setItem ov iv v)
   release [iv,v,ov] []):=by intro _;rfl):PG X (.Subscript o (.Slice lo hi none p2) pos) (CT to tl th):=by
 intro pins s σ H v u Q I r h
 rw [ha]
 refine wpAny_bind (wpAny_holding (thn (ho pins s σ H _ I h) fun ov s1 ⟨x,H1,I1,r1,q1⟩=>?_))
 refine wpAny_bind (wpAny_holding (wpAny_Slice (thn (hl pins s1 σ H1 _ I1 q1) fun vl s2 ⟨l,H2,I2,pl,q2⟩=>thn (hu pins s2 σ H2 _ I2 q2) fun vu s3 ⟨u',H3,I3,pu,q3⟩=>?_)))
 rw [evalPart_none]
 refine wpAny_pure (wpAny_bind (wpAny_standAt (wpAny_bind (wpAny_holding ?_))))
 have I4:Inv X pins σ H3 {s3 with heap:=s3.heap.push {cls:=.type "slice",data:=.fields #[vl,vu,.none]}}:=I3.kept (t':=s3.toks) fun b ob q=>ao _ q
 obtain ⟨p,q,xs,ys,a,b,rfl,rfl,rfl,rfl,hpq,hp,hq,hab,hb,hz,k⟩:=q3
 cases r1;cases r
 obtain ⟨_,ta⟩:=pl
 obtain ⟨_,tb⟩:=pu
 obtain ⟨its,n,rv,hp',_⟩:=I4.lst hp
 obtain ⟨jts,n',rw',hq',_⟩:=I4.lst hq
 have l1:=rv.length
 have l2:=rw'.length
 obtain ⟨n2,hm⟩:=oY its jts n a b
 refine sQ hp' hq' hpq (Heap.IsSliceOf.new ..) hab (by rw [aT];omega) (by rw [aT,aT];omega) (wpAny_release ⟨σ,_,I4.uN (ys:=xs.take a++ys++xs.drop b) hp hp' hm (((rv.take a).append rw').append (rv.drop b)) ?_ _,k⟩)
 rw [ay,ay,aC,cM]
 exact aL (aE (by omega))
end
end L2
namespace L2
open PySem
def LlS (H:Hp):List V→List (List Int)→Prop:=Paired fun v ns=>∃r,v=.ref r∧H r=some (.lst (ns.map V.int))
theorem LlS.same {H H':Hp} (S:bx H H') {xs:List V} {ls:List (List Int)} (h:LlS H xs ls):LlS H' xs ls:=Paired.uL h fun _ _ ⟨r,e,q⟩=>⟨r,e,S _ _ q⟩
theorem LlS.len {H:Hp} {xs:List V} {ls:List (List Int)} (h:LlS H xs ls):xs.length=ls.length:=Paired.length h
theorem LlS.at:∀{H:Hp} {xs:List V} {ls:List (List Int)} {i:Nat},LlS H xs ls→i<xs.length→∃r ns,xs.getD i .non=.ref r∧H r=some (.lst (ns.map V.int))∧ls[i]?=some ns
 | _,_,_,i,.nil,h=>absurd h (cw _)
 | _,_,_,0,.cons ⟨r,e,q⟩ _,_=>⟨r,_,e,q,rfl⟩
 | _,_,_,i+1,.cons _ t,h=>LlS.at (i:=i) t (Nat.lt_of_succ_lt_succ h)
theorem gdl {l:List (List Int)} {g:List Int} {j:Nat} (h:j<l.length):(l++[g]).getD j []=l.getD j []:=by
 rw [ae,ae,cG h]
theorem gdr {l:List (List Int)} {g:List Int}:(l++[g]).getD l.length []=g:=by
 rw [ae,List.getElem?_append_right (aN _),Nat.sub_self];rfl
def lay (n:Nat) (fss:List (List Int)):Nat→List Int
 | 0=>au n 0
 | k+1=>bO (·+·) (lay n fss k) ((fss.getD k []).map ((2^k:Int)*·))
theorem nv {n:Nat} {fss:List (List Int)}:∀{k:Nat},(∀j,j<k→(fss.getD j []).length=n)→(lay n fss k).length=n
 | 0,_=>bh ..
 | k+1,h=>by
  show (bO _ _ _).length=n
  rw [dX,aa,nv fun j hj=>h j (by omega),h k (by omega)]
  exact eY _
theorem qK {n:Nat} {fss:List (List Int)} {gs:List Int}:∀{k:Nat},k≤fss.length→lay n (fss++[gs]) k=lay n fss k
 | 0,_=>rfl
 | k+1,h=>by
  show bO _ _ _=bO _ _ _
  rw [qK (by omega),gdl (by omega)]
theorem tQ {n:Nat} {fss:List (List Int)} {gs:List Int}:lay n (fss++[gs]) (fss.length+1)=bO (·+·) (lay n fss fss.length) (gs.map ((2^fss.length:Int)*·)):=by
 show bO _ _ _=_
 rw [qK (aN _),gdr]
theorem uO {n t:Nat} {fss:List (List Int)} {k:Nat} (h:∀j,j<k+1→(fss.getD j []).length=n) (ht:t<n):(lay n fss (k+1)).getD t 0=(lay n fss k).getD t 0+2^k*(fss.getD k []).getD t 0:=by
 have h1:=nv (n:=n) (fss:=fss) (k:=k) fun j hj=>h j (by omega)
 have h2:=h k (by omega)
 show (bO _ _ _).getD t 0=_
 rw [ae,List.getElem?_zipWith,a_,aj (h1.symm▸ht),aj (h2.symm▸ht),gX (h1.symm▸ht),gX (h2.symm▸ht)]
 rfl
structure jd (m:Int) (es:List (Int×Int)) (sets fss:List (List Int)) (k:Nat):Prop where
 rd:∀j,j<k→RdF es (mkS es.length (sets.getD j [])) 2 (fss.getD j [])
 lt:∀j,j<k→LtR m es (mkS es.length (sets.getD j [])) 2 (fss.getD j [])
theorem jd.yD {m:Int} {es:List (Int×Int)} {sets fss:List (List Int)} {k:Nat} (L:jd m es sets fss k):∀j,j<k→(fss.getD j []).length=es.length:=fun j hj=>(L.rd j hj).len
theorem jd.pre {m:Int} {es:List (Int×Int)} {sets fss:List (List Int)} {k:Nat} (L:jd m es sets fss (k+1)):jd m es sets fss k:=⟨fun j hj=>L.rd j (by omega),fun j hj=>L.lt j (by omega)⟩
theorem jd.len {m:Int} {es:List (Int×Int)} {sets fss:List (List Int)} {k:Nat} (L:jd m es sets fss k):(lay es.length fss k).length=es.length:=nv L.yD
theorem jd.snoc {m:Int} {es:List (Int×Int)} {sets fss:List (List Int)} {ss gs:List Int} (L:jd m es sets fss fss.length) (hs:sets[fss.length]?=some ss) (R:RdF es (mkS es.length ss) 2 gs) (D:LtR m es (mkS es.length ss) 2 gs):jd m es sets (fss++[gs]) (fss.length+1):=by
 have e1:sets.getD fss.length []=ss:=by rw [ae,hs];rfl
 have e2:(fss++[gs]).getD fss.length []=gs:=gdr
 constructor<;>intro j hj<;>(by_cases c:j=fss.length)
 ·rw [c,e1,e2];exact R
 ·rw [gdl (by omega)];exact L.rd j (by omega)
 ·rw [c,e1,e2];exact D
 ·rw [gdl (by omega)];exact L.lt j (by omega)
theorem jd.det {m:Int} {es:List (Int×Int)} {sets fss gss:List (List Int)} (hE:∀e∈es,0≤e.1∧e.1<m∧0≤e.2∧e.2<m):∀{k:Nat},jd m es sets fss k→jd m es sets gss k→lay es.length fss k=lay es.length gss k
 | 0,_,_=>rfl
 | k+1,L,M=>by
  show bO _ _ _=bO _ _ _
  rw [jd.det hE L.pre M.pre,LtR.det hE (L.lt k (by omega)) (M.lt k (by omega))]
theorem jd.rq {m:Int} {es:List (Int×Int)} {sets fss:List (List Int)}:∀{k:Nat},jd m es sets fss k→∀p:Int,dp p es (lay es.length fss k) es.length=0
 | 0,_,p=>jx ..
 | k+1,L,p=>by
  show dp p es (bO _ _ _) _=0
  rw [jw p es _ _ (by rw [L.pre.len,aa,L.yD k (by omega)]),kG,L.pre.rq p,(L.rd k (by omega)).rq p]
  simp
theorem jd.one {m:Int} {es:List (Int×Int)} {sets fss:List (List Int)} {k j t:Nat} (L:jd m es sets fss k) (hj:j<k) (ht:t<es.length):((t:Int)∈sets.getD j []→(fss.getD j []).getD t 0=1∨(fss.getD j []).getD t 0=-1)∧(¬(t:Int)∈sets.getD j []→(fss.getD j []).getD t 0=0):=by
 have hm:=iz (ss:=sets.getD j []) ht
 constructor<;>intro c
 ·rw [if_pos c] at hm
  rcases (L.rd j hj).pos t ht (by rw [hm];decide) with z | z
  ·rw [hm] at z;exact .inl z
  ·rw [hm] at z;exact .inr z
 ·rw [if_neg c] at hm
  exact (L.rd j hj).zero t ht hm
theorem oa (k:Nat):(0:Int)<2^k:=Int.pow_pos (by decide)
theorem jd.bound {m:Int} {es:List (Int×Int)} {sets fss:List (List Int)} {t:Nat} (ht:t<es.length):∀{k:Nat},jd m es sets fss k→-(2^k:Int)<(lay es.length fss k).getD t 0∧(lay es.length fss k).getD t 0<2^k
 | 0,_=>by
  have:(lay es.length fss 0).getD t 0=0:=by
   show (au es.length (0:Int)).getD t 0=0
   rw [gX (by rw [bh];exact ht),List.getElem_replicate]
  rw [this];decide
 | k+1,L=>by
  have ih:=jd.bound ht L.pre
  have hp:=oa k
  have h2:(2:Int)^(k+1)=2^k*2:=Int.pow_succ ..
  rw [uO L.yD ht,h2]
  by_cases c:(t:Int)∈sets.getD k []
  ·rcases (L.one (cA k) ht).1 c with z | z<;>rw [z]<;>omega
  ·rw [(L.one (cA k) ht).2 c];omega
theorem jd.nz {m:Int} {es:List (Int×Int)} {sets fss:List (List Int)} {t:Nat} (ht:t<es.length):∀{k:Nat},jd m es sets fss k→∀{j:Nat},j<k→(t:Int)∈sets.getD j []→(lay es.length fss k).getD t 0≠0
 | k+1,L,j,hj,hm=>by
  have ib:=L.pre.bound ht
  have hp:=oa k
  rw [uO L.yD ht]
  by_cases c:(t:Int)∈sets.getD k []
  ·rcases (L.one (cA k) ht).1 c with z | z<;>rw [z]<;>omega
  ·rw [(L.one (cA k) ht).2 c,cV,Int.add_zero]
   by_cases y:j=k
   ·rw [y] at hm;exact absurd hm c
   ·exact jd.nz ht L.pre (by omega) hm
def Due (m:Int) (es:List (Int×Int)) (sets:List (List Int)):Prop:=(∀ss∈sets,gp es.length ss∧isR m es (mkS es.length ss) 2=true)∧∀t:Nat,t<es.length→∃ss∈sets,(t:Int)∈ss
end L2
namespace L2
open PySem PySem.Spec PyProof.Rows
section
variable {X:Cx} {K:ai} {a:Expr} {ta:TE} {pos:Pos}
def yM (K:ai) (ta:TE):TE:=fun σ H Q=>ta σ H fun x H1=>∃k,Be K x H1 k∧Q (.bl (!k)) H1
theorem vp (hK:X.K=K) (ha:PE X a ta):PE X (.UnaryOp .Not a pos) (yM K ta):=by
 subst hK
 intro pins s σ H Q I h
 refine UnaryOp_ (thn (ha pins s σ H _ I h) fun v s1 ⟨x,H1,I1,r1,q1⟩=>?_)
 exact not_of (thn (um pins s1 σ H1 x v (fun k H2=>Q (.bl (!k)) H2) I1 r1 q1) fun c s2 ⟨H2,I2,q2⟩=>⟨.bl (!c),H2,I2,rfl,q2⟩)
end
theorem kN {l:List Int} (h:l.Pairwise (·<·)):l.Nodup:=by
 rw [b_]
 exact h.imp fun h e=>by omega
theorem qd (n:Nat) (f:Int→Int):(rts n f).Pairwise (·<·):=by
 unfold rts
 rw [dq]
 exact (List.Pairwise.filter _ List.pairwise_lt_range).imp fun h=>by omega
theorem vg {m:Int} {es:List (Int×Int)} {f:Int→Int} {e:Int×Int} (F:Lab m es f) (b:0≤e.1∧e.1<m∧0≤e.2∧e.2<m) (h:f e.1≠f e.2):(rts m.toNat (mrg f e)).length+1=(rts m.toNat f).length:=by
 have l1:=F.low e.1 b.1 b.2.1
 have l2:=F.low e.2 b.2.2.1 b.2.2.2
 have i1:=F.idem b.1 b.2.1
 have i2:=F.idem b.2.2.1 b.2.2.2
 obtain ⟨M,eM⟩:∃M,M=max (f e.1) (f e.2):=⟨_,rfl⟩
 have fM:f M=M:=by
  rw [eM]
  by_cases g:f e.1≤f e.2
  ·rw [Int.max_eq_right g];exact i2
  ·rw [Int.max_eq_left (by omega)];exact i1
 have hM:M∈rts m.toNat f:=gb.mpr ⟨by omega,by omega,fM⟩
 have e1:rts m.toNat (mrg f e)=(rts m.toNat f).filter (· != M):=by
  unfold rts
  rw [List.filter_map,List.filter_filter]
  congr 1
  refine List.filter_congr fun p hp=>?_
  rw [bM] at hp
  have lp:=F.low p (by omega) (by omega)
  rw [cS]
  simp only [Function.comp,cC,decide_eq_true_eq,bne_iff_ne,ne_eq]
  unfold mrg
  rw [←eM]
  by_cases c:f (p:Int)=M
  ·rw [if_pos c]
   constructor
   ·intro z;omega
   ·rintro ⟨z1,z2⟩
    exact absurd (z2.symm.trans c) z1
  ·rw [if_neg c]
   exact ⟨fun z=>⟨fun y=>c (by rw [y];exact fM),z⟩,fun z=>z.2⟩
 have nd:=kN (qd m.toNat f)
 rw [e1,←nd.erase_eq_filter,List.length_erase_of_mem hM]
 have:=List.length_pos_of_mem hM
 omega
theorem xk (n:Nat):(rts n fun p=>p).length=n:=by
 unfold rts
 rw [List.filter_eq_self.mpr fun a _=>by simp,aa,bW]
theorem kX {m:Int} {es:List (Int×Int)} (hE:∀e∈es,0≤e.1∧e.1<m∧0≤e.2∧e.2<m):∀n,n≤es.length→∃f,Lab m (es.take n) f∧(rts m.toNat f).length+(frN es n).length=m.toNat
 | 0,_=>⟨fun p=>p,by rw [List.take_zero];exact Lab.nil m,by rw [xk];rfl⟩
 | n+1,hn=>by
  obtain ⟨f,F,hf⟩:=kX hE n (by omega)
  have hg:es[n]?=some (es.getD n (0,0)):=by rw [ae,aj (show n<es.length by omega)];rfl
  have b:=hE _ (bj hg)
  rw [List.take_add_one,hg,iZ]
  by_cases c:inF es n=true
  ·have h:=gG.mp c
   have hne:f (es.getD n (0,0)).1≠f (es.getD n (0,0)).2:=fun z=>h ((F.iff b.1 b.2.1 b.2.2.1 b.2.2.2).mp z)
   refine ⟨mrg f (es.getD n (0,0)),F.merge b,?_⟩
   have:=vg F b hne
   rw [if_pos c,ay,List.length_singleton]
   omega
  ·have h:Cn (es.take n) (es.getD n (0,0)).1 (es.getD n (0,0)).2:=Classical.byContradiction fun z=>c (gG.mpr z)
   refine ⟨f,F.skip ((F.iff b.1 b.2.1 b.2.2.1 b.2.2.2).mpr h),?_⟩
   rw [if_neg c,bB]
   exact hf
theorem qM {m:Int} {es:List (Int×Int)} (hE:∀e∈es,0≤e.1∧e.1<m∧0≤e.2∧e.2<m):∃f,Lab m es f:=by
 obtain ⟨f,F,_⟩:=kX hE es.length (aN _)
 rw [bD] at F
 exact ⟨f,F⟩
theorem rank {m:Int} {es:List (Int×Int)} {f:Int→Int} (hE:∀e∈es,0≤e.1∧e.1<m∧0≤e.2∧e.2<m) (F:Lab m es f):(rts m.toNat f).length+(gL es).length=m.toNat:=by
 obtain ⟨g,G,hg⟩:=kX hE es.length (aN _)
 rw [bD] at G
 rw [lX (g:=g) fun p p0 p1=>F.uniq G p0 (by omega)]
 exact hg
theorem tT {m:Int} {es es':List (Int×Int)} {f f':Int→Int} (hs:∀{a b:Int},Cn es' a b→Cn es a b) (F:Lab m es f) (F':Lab m es' f') (h:(rts m.toNat f').length≤(rts m.toNat f).length):∀p:Int,0≤p→p<m→f' p=f p:=by
 have s1:∀r∈rts m.toNat f,r∈rts m.toNat f':=fun r hr=>by
  obtain ⟨r0,r1,r2⟩:=gb.mp hr
  have l':=F'.low r r0 (by omega)
  have e:=jZ F.same (hs (F'.conn r r0 (by omega)))
  have l:=F.low (f' r) l'.1 (by omega)
  exact gb.mpr ⟨r0,r1,by omega⟩
 have s2:∀r∈rts m.toNat f',r∈rts m.toNat f:=fun r hr=>Classical.byContradiction fun hn=>by
  have:=iW (l:=r::rts m.toNat f) (l':=rts m.toNat f') (dv.mpr ⟨hn,kN (qd _ _)⟩) fun a ha=>(aU.mp ha).elim (fun y=>y▸hr) (s1 a)
  rw [bA] at this
  omega
 intro p p0 p1
 have l:=F'.low p p0 p1
 have hr:=s2 (f' p) (gb.mpr ⟨l.1,by omega,F'.idem p0 p1⟩)
 have e:=jZ F.same (hs (F'.conn p p0 p1))
 rw [e,(gb.mp hr).2.2]
theorem jf {es:List (Int×Int)} {ss:List Int} (hr:∀t∈ss,0≤t∧t<(es.length:Int)):∀e∈sub es ss,e∈es:=fun e he=>by
 obtain ⟨t,ht,rfl⟩:=bE.mp he
 have:=hr t ht
 unfold bc
 rw [ae,aj (show t.toNat<es.length by omega)]
 exact cj _
theorem vz {es:List (Int×Int)} {ss:List Int} (h:∀t:Int,0≤t→t<(es.length:Int)→t∈ss):∀e∈es,e∈sub es ss:=fun e he=>by
 obtain ⟨i,hi,rfl⟩:=cf.mp he
 refine bE.mpr ⟨(i:Int),h i (by omega) (by omega),?_⟩
 unfold bc
 rw [aY,ae,aj hi];rfl
theorem sub_len (es:List (Int×Int)) (ss:List Int):(sub es ss).length=ss.length:=aa ..
theorem qg {m:Int} {es es':List (Int×Int)} (hE:∀e∈es,0≤e.1∧e.1<m∧0≤e.2∧e.2<m) (hE':∀e∈es',0≤e.1∧e.1<m∧0≤e.2∧e.2<m) (h1:∀{a b:Int},Cn es' a b→Cn es a b) (h2:∀{a b:Int},Cn es a b→Cn es' a b):(gL es').length=(gL es).length:=by
 obtain ⟨f,F⟩:=qM hE
 have F':Lab m es' f:=⟨fun p p0 p1=>h2 (F.conn p p0 p1),fun e he=>jZ F.same (h1 (Cn.tie he)),F.low⟩
 have r1:=rank hE F
 have r2:=rank hE' F'
 omega
structure Spn (es:List (Int×Int)) (ss:List Int):Prop where
 ok:gp es.length ss
 acy:(gL (sub es ss)).length=ss.length
 all:ss.length=(gL es).length
theorem hV {m:Int} {es:List (Int×Int)} {ss:List Int} (hE:∀e∈es,0≤e.1∧e.1<m∧0≤e.2∧e.2<m) (hr:∀t∈ss,0≤t∧t<(es.length:Int)):∀e∈sub es ss,0≤e.1∧e.1<m∧0≤e.2∧e.2<m:=fun e he=>hE e (jf hr e he)
theorem qL {m:Int} {es:List (Int×Int)} {ss:List Int} {f f':Int→Int} (hE:∀e∈es,0≤e.1∧e.1<m∧0≤e.2∧e.2<m) (hr:∀t∈ss,0≤t∧t<(es.length:Int)) (F:Lab m es f) (F':Lab m (sub es ss) f') (h:(gL (sub es ss)).length=(gL es).length):∀p:Int,0≤p→p<m→f' p=f p:=by
 have r1:=rank hE F
 have r2:=rank (hV hE hr) F'
 exact tT (fun c=>c.mono (jf hr)) F F' (by omega)
theorem Spn.cn {m:Int} {es:List (Int×Int)} {ss:List Int} (S:Spn es ss) (hE:∀e∈es,0≤e.1∧e.1<m∧0≤e.2∧e.2<m) {a b:Int} (h:Cn es a b) (a0:0≤a) (a1:a<m) (b0:0≤b) (b1:b<m):Cn (sub es ss) a b:=by
 obtain ⟨f,F⟩:=qM hE
 obtain ⟨f',F'⟩:=qM (hV hE S.ok.rng)
 have e:=qL hE S.ok.rng F F' (by rw [S.acy,S.all])
 refine (F'.iff a0 a1 b0 b1).mp ?_
 rw [e a a0 a1,e b b0 b1]
 exact (F.iff a0 a1 b0 b1).mpr h
theorem nP {es:List (Int×Int)} (h:(gL es).length=es.length):∀i,i<es.length→inF es i=true:=fun i hi=>by
 unfold gL frN at h
 rw [aa] at h
 have:=List.filter_eq_self.mp (List.Sublist.eq_of_length (List.filter_sublist (l:=bI es.length) (p:=fun i=>inF es i)) (by rw [h,bW]))
 exact this i (bM.mpr hi)
theorem jM:∀{ss:List Int} {i:Nat},ss.Pairwise (·<·)→i<ss.length→∀s∈ss,s<ss.getD i 0→s∈ss.take i
 | [],i,_,h,_,_,_=>absurd h (cw _)
 | a::l,0,hp,_,s,hs,hlt=>by
  have e:(a::l).getD 0 0=a:=rfl
  rw [e] at hlt
  rcases aU.mp hs with y | y
  ·omega
  ·have:=(List.pairwise_cons.mp hp).1 s y;omega
 | a::l,i+1,hp,hi,s,hs,hlt=>by
  rw [List.take_succ_cons]
  rcases aU.mp hs with y | y
  ·exact aU.mpr (.inl y)
  ·exact aO _ (jM (List.pairwise_cons.mp hp).2 (by simpa using hi) s y hlt)
def Acy (es:List (Int×Int)) (L:List Int):Prop:=∀t∈L,∀{M:List Int},(∀s∈M,s∈L∧s<t)→¬Cn (sub es M) (bc es t).1 (bc es t).2
theorem Acy.sub {es:List (Int×Int)} {L L':List Int} (A:Acy es L) (h:∀t∈L',t∈L):Acy es L':=fun t ht _ hM=>A t (h t ht) fun s hs=>⟨h s (hM s hs).1,(hM s hs).2⟩
theorem Spn.free {es:List (Int×Int)} {ss:List Int} (S:Spn es ss):Acy es ss:=fun t ht M hM c=>by
 obtain ⟨i,hi,rfl⟩:=cf.mp ht
 have h:=gG.mp (nP (es:=L2.sub es ss) (by rw [S.acy,sub_len]) i (by rw [sub_len];exact hi))
 have e:(L2.sub es ss).getD i (0,0)=bc es ss[i]:=by
  unfold L2.sub
  rw [ae,a_,aj hi];rfl
 rw [e] at h
 refine h (c.mono fun x hx=>?_)
 obtain ⟨s,hs,rfl⟩:=bE.mp hx
 have h1:=hM s hs
 unfold L2.sub
 rw [←fb]
 exact bE.mpr ⟨s,jM S.ok.up hi s h1.1 (by rw [gX hi];exact h1.2),rfl⟩
theorem Acy.loop {es:List (Int×Int)} {L:List Int} (A:Acy es L) {t:Int} (ht:t∈L):(bc es t).1≠(bc es t).2:=fun z=>A t ht (M:=[]) (fun s hs=>nomatch hs) (by rw [z];exact .refl _)
theorem om {es:List (Int×Int)}:∀(n:Nat) (L:List Int),L.length≤n→L≠[]→L.Nodup→Acy es L→∀w:Int,∃x:Int,x≠w∧∃t∈L,L.filter (fun s=>atP x (bc es s))=[t]
 | 0,L,hn,h0,_,_,_=>absurd (List.length_eq_zero_iff.mp (by omega)) h0
 | n+1,L,hn,h0,hnd,hF,w=>by
  obtain ⟨t,ht,hmax⟩:=max_mem h0
  have hsub:∀s∈L.erase t,s∈L∧s≠t:=fun s hs=>⟨List.mem_of_mem_erase hs,fun z=>by
   rw [z] at hs
   exact (List.Nodup.not_mem_erase hnd) hs⟩
  have hback:∀s∈L,s≠t→s∈L.erase t:=fun s hs z=>(List.mem_erase_of_ne z).mpr hs
  have hnc:¬Cn (sub es (L.erase t)) (bc es t).1 (bc es t).2:=hF t ht fun s hs=>by
   have h1:=hsub s hs
   have h3:=hmax s h1.1
   exact ⟨h1.1,by have:=h1.2;omega⟩
  have main:∀a b:Int,((bc es t).1=a∧(bc es t).2=b∨(bc es t).1=b∧(bc es t).2=a)→¬Cn (sub es (L.erase t)) a b→¬Cn (sub es (L.erase t)) a w→∃x:Int,x≠w∧∃t∈L,L.filter (fun s=>atP x (bc es s))=[t]:=by
   intro a b hab nab naw
   have hta:(bc es t).1=a∨(bc es t).2=a:=hab.elim (fun h=>.inl h.1) fun h=>.inr h.2
   have htx:∀x,((bc es t).1=x∨(bc es t).2=x)→x=a∨x=b:=fun x hx=>by
    rcases hab with ⟨h1,h2⟩ | ⟨h1,h2⟩<;>rw [h1,h2] at hx<;>rcases hx with y | y
    ·exact .inl y.symm
    ·exact .inr y.symm
    ·exact .inr y.symm
    ·exact .inl y.symm
   let P:Int→Bool:=fun s=>@decide (Cn (sub es (L.erase t)) a (bc es s).1) (Classical.propDecidable _)
   have hP:∀s,P s=true↔Cn (sub es (L.erase t)) a (bc es s).1:=fun s=>@decide_eq_true_iff _ (Classical.propDecidable _)
   by_cases hE:(L.erase t).filter P=[]
   ·refine ⟨a,fun z=>naw (z▸Cn.refl _),t,ht,jl hnd ht fun s hs=>⟨fun z=>?_,fun z=>by rw [z];exact hZ.mpr hta⟩⟩
    refine Classical.byContradiction fun y=>?_
    have h1:=hback s hs y
    have h2:=(hP s).mpr (oI h1 (hZ.mp z) (Cn.refl _))
    have h3:s∈(L.erase t).filter P:=bG.mpr ⟨h1,h2⟩
    rw [hE] at h3
    cases h3
   ·have hl:(L.erase t).length<L.length:=by
     rw [List.length_erase_of_mem ht]
     have:=List.length_pos_of_mem ht
     omega
    have hl2:=bP P (L.erase t)
    obtain ⟨x,hxa,s,hs,hfs⟩:=om n ((L.erase t).filter P) (by omega) hE ((hnd.erase t).filter _) (hF.sub fun r hr=>(hsub r (bG.mp hr).1).1) a
    have hs1:=bG.mp hs
    have hsx:atP x (bc es s)=true:=by
     have:s∈((L.erase t).filter P).filter (fun r=>atP x (bc es r)):=by rw [hfs];exact ak.mpr rfl
     exact (bG.mp this).2
    have hax:Cn (sub es (L.erase t)) a x:=xZ hs1.1 (hZ.mp hsx) ((hP s).mp hs1.2)
    refine ⟨x,fun z=>naw (z▸hax),s,(hsub s hs1.1).1,jl hnd (hsub s hs1.1).1 fun r hr=>⟨fun z=>?_,fun z=>by rw [z];exact hsx⟩⟩
    by_cases hrt:r=t
    ·exfalso
     rw [hrt] at z
     rcases htx x (hZ.mp z) with y | y
     ·exact hxa y
     ·exact nab (y▸hax)
    ·have h1:=hback r hr hrt
     have h2:r∈((L.erase t).filter P).filter (fun r=>atP x (bc es r)):=bG.mpr ⟨bG.mpr ⟨h1,(hP r).mpr (oI h1 (hZ.mp z) hax)⟩,z⟩
     rw [hfs] at h2
     exact ak.mp h2
  by_cases h1:Cn (sub es (L.erase t)) (bc es t).1 w
  ·exact main (bc es t).2 (bc es t).1 (.inr ⟨rfl,rfl⟩) (fun z=>hnc z.symm) fun z=>hnc (h1.trans z.symm)
  ·exact main (bc es t).1 (bc es t).2 (.inl ⟨rfl,rfl⟩) hnc h1
theorem vB {es:List (Int×Int)} {L:List Int} (h0:L≠[]) (hn:L.Nodup) (A:Acy es L):∃x:Int,∃t∈L,L.filter (fun s=>atP x (bc es s))=[t]:=by
 obtain ⟨x,_,t,ht,h⟩:=om L.length L (aN _) h0 hn A (-1)
 exact ⟨x,t,ht,h⟩
noncomputable def gF (es:List (Int×Int)) (os:List Int) (n:Nat):List Int:=(frN (sub es os) n).map fun i=>os.getD i.toNat 0
theorem qZ (es:List (Int×Int)) (os:List Int):(gF es os os.length).length=(gL (sub es os)).length:=by
 unfold gF gL;rw [aa,sub_len]
theorem ub (os:List Int):((bI os.length).map fun i=>os.getD i 0)=os:=by
 refine ef (by rw [aa,bW]) fun i h1 h2=>?_
 rw [List.getElem_map,List.getElem_range,gX h2]
theorem uP (es:List (Int×Int)) (os:List Int):(gF es os os.length).Sublist os:=by
 have e:gF es os os.length=((bI os.length).filter fun i=>inF (sub es os) i).map fun i=>os.getD i 0:=by
  unfold gF frN
  rw [List.map_map]
  exact dW fun i _=>rfl
 rw [e]
 have:=(List.filter_sublist (l:=bI os.length) (p:=fun i=>inF (sub es os) i)).map fun i=>os.getD i 0
 rwa [ub] at this
theorem Bb {es:List (Int×Int)} {os:List Int} {a b:Int} (h:Cn (sub es os) a b):Cn (sub es (gF es os os.length)) a b:=by
 have h1:=nF (sub es os) (sub es os).length (aN _) (by rw [bD];exact h)
 rw [sub_len] at h1
 refine h1.mono fun e he=>?_
 obtain ⟨t,ht,rfl⟩:=bE.mp he
 refine bE.mpr ⟨os.getD t.toNat 0,bE.mpr ⟨t,ht,rfl⟩,?_⟩
 have:=jW.mp ht
 unfold sub
 show bc es (os.getD t.toNat 0)=(os.map (bc es)).getD t.toNat (0,0)
 rw [ae,ae,a_,aj (show t.toNat<os.length by omega)];rfl
theorem Spn.xQ {m:Int} {es:List (Int×Int)} {os cs:List Int} (hE:∀e∈es,0≤e.1∧e.1<m∧0≤e.2∧e.2<m) (hn:os.Nodup) (hr:∀t∈os,0≤t∧t<(es.length:Int)) (ha:∀t:Int,0≤t→t<(es.length:Int)→t∈os) (hp:cs.Perm (gF es os os.length)) (hs:cs.Pairwise (·≤·)):Spn es cs:=by
 have hg:=uP es os
 have rc:∀t∈cs,0≤t∧t<(es.length:Int):=fun t ht=>hr t (hg.mem (hp.mem_iff.mp ht))
 have c1:∀{a b:Int},Cn es a b→Cn (sub es os) a b:=fun c=>c.mono (vz ha)
 have r1:(gL (sub es os)).length=(gL es).length:=qg hE (hV hE hr) (fun c=>c.mono (jf hr)) c1
 have hl:cs.length=(gL es).length:=by rw [hp.length_eq,qZ,r1]
 refine ⟨⟨rc,sJ hs (hp.nodup_iff.mpr (hg.nodup hn))⟩,?_,hl⟩
 rw [hl]
 refine qg hE (hV hE rc) (fun c=>c.mono (jf rc)) fun c=>(Bb (c1 c)).mono fun e he=>?_
 obtain ⟨t,ht,rfl⟩:=bE.mp he
 exact bE.mpr ⟨t,hp.mem_iff.mpr ht,rfl⟩
theorem yd {es:List (Int×Int)} {zs:List Int} (h:(gL (sub es zs)).length=zs.length):zs.Nodup:=by
 rw [b_,List.pairwise_iff_getElem]
 intro i j hi hj hij e
 have h1:=gG.mp (nP (es:=sub es zs) (by rw [h,sub_len]) j (by rw [sub_len];exact hj))
 have ej:(sub es zs).getD j (0,0)=bc es zs[i]:=by
  unfold sub
  rw [ae,a_,aj hj,e];rfl
 rw [ej] at h1
 refine h1 (Cn.tie ?_)
 unfold sub
 rw [←fb]
 exact bE.mpr ⟨zs[i],di.mpr ⟨i,by omega,rfl⟩,rfl⟩
theorem Spn.test {es:List (Int×Int)} {zs cs:List Int} {n:Nat} (hn:n=(gL es).length) (hr:∀t∈zs,0≤t∧t<(es.length:Int)) (hs:zs.Pairwise (·≤·)) (hl:zs.length=n) (hp:cs.Perm (gF es zs zs.length)) (hc:cs.Pairwise (·≤·)):cs=zs↔Spn es zs:=by
 constructor
 ·intro z
  rw [z] at hp
  have h1:(gL (sub es zs)).length=zs.length:=by rw [←qZ];exact hp.length_eq.symm
  exact ⟨⟨hr,sJ hs (yd h1)⟩,h1,by omega⟩
 ·intro S
  have h1:gF es zs zs.length=zs:=(uP es zs).eq_of_length (by rw [qZ];exact S.acy)
  rw [h1] at hp
  exact iN hp hc hs
theorem vK {es:List (Int×Int)}:fre es=[]↔(gL es).length=es.length:=by
 have hl:=ke es es.length
 unfold fre
 rw [List.filter_eq_nil_iff]
 constructor
 ·intro h
  have:=iW (l:=ir es.length) (l':=gL es) (kN (by unfold ir;rw [dq];exact List.pairwise_lt_range.imp fun h=>by omega)) fun t ht=>by
   have:=h t ht
   simp only [eU,Bool.not_eq_false,cN,beq_iff_eq] at this
   obtain ⟨x,hx,e⟩:=this
   exact e▸hx
  rw [gM] at this
  unfold gL at *
  omega
 ·intro h t ht
  have h1:=fP.mp ht
  have h2:t∈gL es:=jW.mpr ⟨h1.1,h1.2,nP h t.toNat (by omega)⟩
  simp only [eU,Bool.not_eq_false,cN,beq_iff_eq]
  exact ⟨t,h2,rfl⟩
def bmp (cs:List Int) (t:Int):List Int:=cs.set t.toNat (cs.getD t.toNat 0+1)
def tg (p:Int) (es:List (Int×Int)) (t:Int):Int:=(if (bc es t).2=p then 1 else 0)-(if (bc es t).1=p then 1 else 0)
theorem vR (cs:List Int) (t:Int):(bmp cs t).length=cs.length:=cx ..
theorem ya {cs:List Int} {t:Int} (ht:t.toNat<cs.length) (k:Nat):(bmp cs t).getD k 0=cs.getD k 0+if k=t.toNat then 1 else 0:=by
 unfold bmp
 rw [ae,List.getElem?_set]
 by_cases c:t.toNat=k
 ·rw [if_pos c,if_pos ht,if_pos c.symm,c];rfl
 ·rw [if_neg c,if_neg (fun z=>c z.symm),ae,Int.add_zero]
theorem xX {p:Int} {es:List (Int×Int)} {cs:List Int} {t:Int} (hl:cs.length=es.length) (ht:t.toNat<es.length):dp p es (bmp cs t) es.length=dp p es cs es.length+tg p es t:=by
 unfold bmp tg bc
 rw [kF p es _ _ _ (by omega),if_pos ht]
 have e:cs.getD t.toNat 0+1-cs.getD t.toNat 0=1:=by omega
 rw [e]
theorem Way.two {es:List (Int×Int)} {ss ts ps:List Int} {a b:Int} (p:Int) (W:Way es ss a ts ps b):(2:Int)∣(ts.map (tg p es)).sum+(if a=p then 1 else 0)+(if b=p then 1 else 0):=by
 induction W with
 | nil =>
  by_cases c:a=p
  ·rw [if_pos c];exact ⟨1,rfl⟩
  ·rw [if_neg c];exact ⟨0,rfl⟩
 | @snoc ts ps q t _ _ _ _ hq _ ih =>
  obtain ⟨u,hu⟩:=ih
  rw [aw,List.sum_append]
  simp only [bf,fw,cW,List.sum_nil]
  have key:∃v,tg p es t+(if q=p then 1 else 0)+(if far (bc es t) q=p then (1:Int) else 0)=2*v:=by
   unfold tg far
   by_cases c:(bc es t).1=q
   ·rw [if_pos c,c]
    by_cases c1:q=p
    ·rw [if_pos c1];exact ⟨if (bc es t).2=p then 1 else 0,by omega⟩
    ·rw [if_neg c1];exact ⟨if (bc es t).2=p then 1 else 0,by omega⟩
   ·rw [if_neg c,hq.resolve_left c]
    by_cases c1:q=p
    ·rw [if_pos c1];exact ⟨1,by omega⟩
    ·rw [if_neg c1];exact ⟨0,by omega⟩
  obtain ⟨v,hv⟩:=key
  exact ⟨u+v-(if q=p then 1 else 0),by omega⟩
theorem Way.ring {es:List (Int×Int)} {ss ts ps:List Int} {t:Int} (p:Int) (W:Way es ss (bc es t).2 ts ps (bc es t).1):(2:Int)∣((t::ts).map (tg p es)).sum:=by
 obtain ⟨u,hu⟩:=W.two p
 rw [bf,cW]
 unfold tg at *
 exact ⟨u-(if (bc es t).1=p then 1 else 0),by omega⟩
def odd (cs:List Int):List Int:=(ir cs.length).filter fun t=>decide (cs.getD t.toNat 0%2=1)
theorem jU {cs:List Int} {t:Int}:t∈odd cs↔0≤t∧t<(cs.length:Int)∧cs.getD t.toNat 0%2=1:=by
 unfold odd
 rw [bG,fP,decide_eq_true_eq,and_assoc]
theorem xD (cs:List Int):gp cs.length (odd cs):=by
 refine ⟨fun t ht=>⟨(jU.mp ht).1,(jU.mp ht).2.1⟩,List.Pairwise.filter _ ?_⟩
 unfold ir
 rw [dq]
 exact List.pairwise_lt_range.imp fun h=>by omega
theorem tw {es:List (Int×Int)} {cs:List Int} (hl:cs.length=es.length) (h:∀p:Int,(2:Int)∣dp p es cs es.length):EvS es (odd cs):=fun p=>by
 obtain ⟨u,hu⟩:=nI (k:=2) (p:=p) (es:=es) (fs:=mkS es.length (odd cs)) (gs:=cs) es.length fun t ht=>by
  rw [iz ht]
  by_cases c:(t:Int)∈odd cs
  ·rw [if_pos c]
   have:=(jU.mp c).2.2
   rw [aY] at this
   exact ⟨-(cs.getD t 0/2),by omega⟩
  ·rw [if_neg c]
   have:¬cs.getD t 0%2=1:=fun z=>c (jU.mpr ⟨by omega,by omega,by rw [aY];exact z⟩)
   exact ⟨-(cs.getD t 0/2),by omega⟩
 obtain ⟨v,hv⟩:=h p
 exact ⟨u+v,by omega⟩
def cnE (p:Int) (es:List (Int×Int)) (ss:List Int):Int:=(ss.map fun t=>(if (bc es t).1=p then 1 else 0)+(if (bc es t).2=p then (1:Int) else 0)).sum
theorem xV (p:Int) (es:List (Int×Int)) (t:Nat):∀n,t<n→dp p es (mkS n [(t:Int)]) n=(if (es.getD t (0,0)).2=p then 1 else 0)-(if (es.getD t (0,0)).1=p then 1 else 0):=fun n hn=>by
 have e:mkS n [(t:Int)]=(au n (0:Int)).set t 1:=by
  refine ef (by rw [fq,cx,bh]) fun i h1 h2=>?_
  rw [fq] at h1
  rw [←gX (by rw [fq];exact h1),iz h1,List.getElem_set,List.getElem_replicate]
  by_cases c:t=i
  ·rw [if_pos c,if_pos (ak.mpr (by omega))]
  ·rw [if_neg c,if_neg (fun z=>c (by have:=ak.mp z;omega))]
 rw [e,kF p es _ _ _ (by rw [bh];exact hn),jx,if_pos hn]
 have z:(au n (0:Int)).getD t 0=0:=by rw [ae,cy];split<;>rfl
 rw [z,Int.sub_zero];omega
theorem xW {es:List (Int×Int)} (p:Int):∀{ss:List Int},ss.Nodup→(∀t∈ss,0≤t∧t<(es.length:Int))→(2:Int)∣dp p es (mkS es.length ss) es.length-cnE p es ss:=by
 intro ss
 induction ss with
 | nil =>
  intro _ _
  obtain ⟨u,hu⟩:=EvS.nil es p
  exact ⟨u,by rw [hu];show 2*u-0=_;omega⟩
 | cons t ss ih =>
  intro hn hr
  rw [dv] at hn
  obtain ⟨u,hu⟩:=ih hn.2 fun z hz=>hr z (aO _ hz)
  have ht:=hr t aP
  have h1:=xV p es t.toNat es.length (by omega)
  rw [show ((t.toNat:Nat):Int)=t by omega] at h1
  have hl:(mkS es.length ss).length=(mkS es.length [t]).length:=by rw [fq,fq]
  have e:mkS es.length (t::ss)=bO (·+·) (mkS es.length ss) (mkS es.length [t]):=by
   refine ef (by rw [fq,dX,←hl,fq,eY]) fun i h2 h3=>?_
   rw [fq] at h2
   rw [←gX (by rw [fq];exact h2),←gX h3,hU _ _ hl,iz h2,iz h2,iz h2]
   by_cases c:(i:Int)=t
   ·rw [if_pos (aU.mpr (.inl c)),if_neg (show ¬(i:Int)∈ss from fun z=>hn.1 (c▸z)),if_pos (ak.mpr c)];rfl
   ·rw [if_neg (show ¬(i:Int)∈[t] from fun z=>c (ak.mp z))]
    by_cases c2:(i:Int)∈ss
    ·rw [if_pos (aO _ c2),if_pos c2];rfl
    ·rw [if_neg (fun z=>(aU.mp z).elim c c2),if_neg c2];rfl
  have ec:cnE p es (t::ss)=((if (bc es t).1=p then 1 else 0)+(if (bc es t).2=p then (1:Int) else 0))+cnE p es ss:=by
   unfold cnE;rw [bf,cW]
  rw [e,jw p es _ _ hl,h1,ec]
  unfold bc
  by_cases c1:(es.getD t.toNat (0,0)).1=p
  ·rw [if_pos c1]
   exact ⟨u-1,by omega⟩
  ·rw [if_neg c1]
   exact ⟨u,by omega⟩
end L2
namespace L2
open PySem PySem.Spec PyProof.Rows
theorem uI {X:Cx} {K:ai} {o e:Expr} {es:List Expr} {to:TE} {t:TA} {name:Str} {apos cpos:Pos} {T id:String} {r:V→List V→Hp→VK→Prop} (hK:X.K=K) (pa:PlainAttrs T) (slot:Slot T name id) (hty:typeOf (.builtin id)=pure (.type "method_descriptor")) (hm:MtR X id r) (ho:PE X o to) (ha:PA X (e::es) t) (hbase:attributeBase o name X.env (eval o X.env)=eval o X.env:=by rfl) (hfew:((backTo cpos (starEach (e::es) X.env)).all (fun x=>!x.1)&&(backToKw cpos (keywordEach [] X.env)).all (fun x=>x.1.isSome)&&decide ((e::es).length+([]:List Keyword).length+(if ([]:List Keyword).isEmpty then 0 else 1)<30))=true:=by rfl) (hline:(apos.endLine==cpos.line)=true:=by rfl) (hs:starEach (e::es) X.env=(false,eval e X.env)::starEach es X.env:=by rfl) (hplain:(backTo cpos (starEach es X.env)).any (·.1)=false:=by rfl):PE X (.Call (.Attribute o name apos) (e::es) [] cpos) (tBM K T r to t):=by
 subst hK
 exact iJ pa slot hty hm ho ha hbase hfew hline hs hplain
end L2
namespace Pk
open PySem L2 PyProof.Rows
def top (i:Nat):Stmt:=PySem.Challenge.pw_busyweb_k40_whole_within_four.main.body.getD i (.Pass ⟨0,0,0,0⟩)
abbrev sN:Stmt:=inClass (top 16) 0
abbrev sTi:Stmt:=top 17
abbrev sMe:Stmt:=top 18
abbrev sPc:Stmt:=top 19
abbrev sAm:Stmt:=top 21
abbrev sGs:Stmt:=top 22
abbrev sAd:Stmt:=top 23
abbrev sTm:Stmt:=top 24
abbrev sCb:Stmt:=top 26
abbrev sRl:Stmt:=top 27
abbrev sSf:Stmt:=top 28
abbrev sSe:Stmt:=top 29
abbrev sWw:Stmt:=top 30
abbrev sRa:Stmt:=top 31
abbrev sPu:Stmt:=top 32
abbrev sCd:Stmt:=top 33
abbrev sBt:Stmt:=top 34
abbrev sFr:Stmt:=top 36
abbrev sFt:Stmt:=top 37
abbrev sFe:Stmt:=top 38
abbrev sFw:Stmt:=top 39
abbrev sWb:Stmt:=top 40
abbrev sRg:Stmt:=top 41
abbrev sRo:Stmt:=top 42
abbrev sCr:Stmt:=top 44
abbrev sRs:Stmt:=top 45
abbrev sIr:Stmt:=top 46
abbrev sFz:Stmt:=top 47
abbrev sRd:Stmt:=top 49
abbrev sLt:Stmt:=top 50
abbrev sCk:Stmt:=top 52
abbrev sMr:Stmt:=top 53
abbrev sEv:Stmt:=top 54
abbrev sEf:Stmt:=top 55
abbrev sSg:Stmt:=top 56
abbrev sCg:Stmt:=top 57
abbrev sCo:Stmt:=top 58
abbrev sAh:Stmt:=top 60
abbrev sLy:Stmt:=top 61
abbrev sFf:Stmt:=top 62
abbrev sC:Stmt:=top 64
abbrev sH:Stmt:=top 65
abbrev sX:Stmt:=top 66
abbrev sFo:Stmt:=top 67
abbrev sLg:Stmt:=top 68
abbrev sLm:Stmt:=top 69
abbrev sBs:Stmt:=top 70
abbrev sTt:Stmt:=top 71
abbrev sRf:Stmt:=top 72
abbrev sSn:Stmt:=top 73
abbrev sR:Stmt:=top 74
abbrev sL:Stmt:=top 75
structure Cs where
 FlowError:Addr
 BadWeb:Addr
 TooMany:Addr
 BadPlace:Addr
 BadTie:Addr
 BadFlow:Addr
 BadRest:Addr
 NoFlow:Addr
 BadSet:Addr
 BadPaper:Addr
 BadText:Addr
 BadDeed:Addr
 Web:Addr
structure yi (K:ai) (c:Cs) (A:Addr):Prop where
 ex:wC K A
 ks:∃b1 b2 b3 b4 b5 b6 b7 b8 b9 b10 b11:Bool,bu K (.ref A) (.ref c.BadWeb)=some b1∧bu K (.ref A) (.ref c.TooMany)=some b2∧bu K (.ref A) (.ref c.BadPlace)=some b3∧bu K (.ref A) (.ref c.BadTie)=some b4 ∧
  bu K (.ref A) (.ref c.BadFlow)=some b5∧bu K (.ref A) (.ref c.BadRest)=some b6∧bu K (.ref A) (.ref c.NoFlow)=some b7∧bu K (.ref A) (.ref c.BadSet)=some b8 ∧
  bu K (.ref A) (.ref c.BadPaper)=some b9∧bu K (.ref A) (.ref c.BadText)=some b10∧bu K (.ref A) (.ref c.BadDeed)=some b11 ∧
  ([V.bl b1,.bl b2,.bl b3,.bl b4,.bl b5,.bl b6,.bl b7,.bl b8,.bl b9,.bl b10,.bl b11].countP fun z=>eqV z (.bl true))=1
 fe:bu K (.ref A) (.ref c.FlowError)=some true
 ve:bu K (.ref A) (.type "ValueError")=some true
structure Txt (K:ai) (mg:Str→Option Value) (c:Cs):Prop where
 ValueError:mg "ValueError"=none
 abs:mg "abs"=none
 all:mg "all"=none
 any:mg "any"=none
 bool:mg "bool"=none
 enumerate:mg "enumerate"=none
 int:mg "int"=none
 isinstance:mg "isinstance"=none
 len:mg "len"=none
 list:mg "list"=none
 max:mg "max"=none
 min:mg "min"=none
 range:mg "range"=none
 sorted:mg "sorted"=none
 sum:mg "sum"=none
 tuple:mg "tuple"=none
 zip:mg "zip"=none
 mFlowError:mg "FlowError"=some (.ref c.FlowError)
 mBadWeb:mg "BadWeb"=some (.ref c.BadWeb)
 mTooMany:mg "TooMany"=some (.ref c.TooMany)
 mBadPlace:mg "BadPlace"=some (.ref c.BadPlace)
 mBadTie:mg "BadTie"=some (.ref c.BadTie)
 mBadFlow:mg "BadFlow"=some (.ref c.BadFlow)
 mBadRest:mg "BadRest"=some (.ref c.BadRest)
 mNoFlow:mg "NoFlow"=some (.ref c.NoFlow)
 mBadSet:mg "BadSet"=some (.ref c.BadSet)
 mBadPaper:mg "BadPaper"=some (.ref c.BadPaper)
 mBadText:mg "BadText"=some (.ref c.BadText)
 mBadDeed:mg "BadDeed"=some (.ref c.BadDeed)
 mWeb:mg "Web"=some (.ref c.Web)
 web:yf K c.Web
 most_places:∃t,mg "MOST_PLACES"=some (.int 20 t)
 most_ties:∃t,mg "MOST_TIES"=some (.int 40 t)
 xFlowError:ki K c.FlowError
 xBadTie:ki K c.BadTie
 xBadFlow:ki K c.BadFlow
 xBadRest:ki K c.BadRest
 xBadSet:ki K c.BadSet
 rBadSet:dH K c.BadSet (.ref c.FlowError)=some true
 alBadSet:yi K c c.BadSet
def sP (K:ai):Sp:=fun vs H Q _=>∃(a:Addr) (ns:List Int),vs=[.ref a]∧SqL K H a (ns.map V.int)∧ns.length≤63∧∀H',Q (.bl true) H'
section
variable {P:Program} {w:World} {K:ai} {mg:Str→Option Value} {base:Heap} {c:Cs}
theorem scN:bY ["self","many","ties","start","end"] ["self","many","ties"] (az sN):=⟨rfl,rfl,rfl,by decide +kernel,rfl,by decide +kernel,by decide +kernel⟩
theorem zR (m:Int) (t:Addr):kl "ties" (.ref t) (kl "many" (.int m) [])=wFs m t:=rfl
theorem CJ {f:Addr} {fd:FuncData} (F:Fun K "__init__" "Web.__init__" sN f fd) (T:Txt K mg c):fH P w K mg base CX0 1 f fd ["self","many","ties"] (lU K c.Web):=by
 refine F.ok scN (fun vs H Q E h=>?_) (fun cdv A outer s H vs Q E hr h=>?_)
 ·obtain ⟨x,dx,p,m,xs,es,rfl,_⟩:=h
  rfl
 ·obtain ⟨x,dx,p,m,xs,es,rfl,hx,hS,hp,m1,m2,hz,hE,k⟩:=h
  have hlen:=hp.len
  refine ⟨_,aB (eV (PW.pt (kn (cm iP (pv 1) (aS) (cH _)) (kn (cm iQ (pv 1) (fQ (v:=.int 20) (by rfl) T.most_places.choose_spec ⟨_,rfl⟩) (cH _)) (jt (cm iQ (bg (ig (K:=K) rfl) (by rfl) T.len aX (ah (pv 2) ax)) (fQ (v:=.int 40) (by rfl) T.most_ties.choose_spec ⟨_,rfl⟩) (cH _))))))
    (aR (jF)) (cX))
   (aB (gh PassesOwn.never rfl (f_ (K:=K) rfl (pv 2)) (jS (K:=K) (n:=2) rfl rfl (c_ (bK (i:=3) scN.nd rfl (Or.inl rfl)) (c_ (bK (i:=4) scN.nd rfl (Or.inl rfl)) (gA))) rfl)
    (aR (eV (ip (PW.pt (kr (kZ qu iP (aS) (pv 3) (pv 1)) (ji (kZ qu iP (aS) (pv 4) (pv 1))))))
    (aR (jF)) (cX))))
   (aB (uE (pv 0) (pv 1) rfl)
   (aR (uE (pv 0) (fK (x_ (K:=K) rfl) (by rfl) T.tuple PyProof.Rows.boot_tuple (ah (fJ (N':=["start","end"]) (nl:=2) (js:=[]) rfl (.of (osc:=az sN) (N:=["self","many","ties","start","end"]) (by decide +kernel) rfl rfl) (f_ (K:=K) rfl (pv 2))
    (fun _ _ _ _=>jT (K:=K) (i:=0) (j:=1) rfl rfl (show (["start","end"]:List Str).Nodup by decide +kernel) rfl rfl rfl rfl) (fun _ _ _ _=>dD)
    (fun _ _ _ _=>fF (ah (pv 0) (ah (pv 1) ax)))) ax)) rfl)))),?_⟩
  refine ⟨_,rfl,_,_,rfl,rfl,_,rfl,?_⟩
  rw [decide_eq_false (by lia)]
  refine gc ⟨_,rfl,_,_,rfl,rfl,_,rfl,?_⟩
  rw [decide_eq_false (by lia)]
  refine gc ⟨_,rfl,p,xs,rfl,hS,_,_,rfl,rfl,_,rfl,?_⟩
  rw [decide_eq_false (by lia)]
  refine gc ⟨_,rfl,p,xs,rfl,hS,fun J C O hC=>gQ O (fun i σ H2=>H2=H∧∃v3 v4,σ=[some (.ref x),some (.int m),some (.ref p),v3,v4]) ⟨rfl,_,_,rfl⟩ (fun i σ H2 _ h=>by rw [h.1];exact hC _ (bx.refl _)) ?_ ?_⟩
  ·rintro i σ H2 hi ⟨rfl,v3,v4,rfl⟩
   obtain ⟨r,e,er,hr2,_,he⟩:=hp.at hi
   obtain ⟨b1,b2,b3,b4⟩:=hE e he
   dsimp only
   rw [er]
   refine ⟨r,_,rfl,hr2,rfl,_,_,rfl,_,_,rfl,rfl,?_⟩
   refine ⟨_,rfl,_,_,rfl,rfl,_,rfl,?_⟩
   rw [decide_eq_true b1]
   refine fh ⟨_,rfl,_,_,rfl,rfl,_,rfl,?_⟩
   rw [decide_eq_true b2]
   refine fh ⟨_,rfl,_,_,rfl,rfl,_,rfl,?_⟩
   rw [decide_eq_true b3]
   refine fh ⟨_,rfl,_,_,rfl,rfl,_,rfl,?_⟩
   rw [decide_eq_true b4]
   exact gc ⟨rfl,_,_,rfl⟩
  ·rintro σ H2 ⟨rfl,v3,v4,rfl⟩
   refine ⟨_,rfl,_,rfl,x,c.Web,dx,_,rfl,hx,T.web.cl,T.web.nM,(by show 0<1000;decide),?_⟩
   have sx:fj x H2 (upd H2 x (.ins c.Web dx (kl "many" (.int m) []))):=eP
   have hS':=hS.imp (fun y=>sx.BZ hx y) (fun y=>sx.tupI hx y)
   have hp':=hp.xi sx hx
   have hx':(upd H2 x (.ins c.Web dx (kl "many" (.int m) []))) x=some (.ins c.Web dx (kl "many" (.int m) [])):=aq
   generalize upd H2 x (.ins c.Web dx (kl "many" (.int m) []))=H3 at sx hS' hp' hx'
   refine ⟨_,rfl,p,xs,rfl,hS',fun J C O hC=>fS O (fun i ys H4=>bx H3 H4∧Pairs K H4 ys (es.take i)) (aL (aE (by lia))) ⟨bx.refl _,.nil⟩ ?_ ?_ ?_⟩
   ·rintro i ys H4 hi ⟨s4,h4⟩
    have:=h4.len
    rw [aC] at this
    exact ⟨hC _ s4,by lia⟩
   ·rintro i ys H4 hi ⟨s4,h4⟩
    obtain ⟨r,e,er,hr2,he,_⟩:=(hp'.same s4).at hi
    have hl4:=h4.len
    rw [aC] at hl4
    try dsimp only
    rw [er]
    refine ⟨r,_,rfl,hr2,rfl,_,_,rfl,_,_,rfl,rfl,iu rfl rfl,fh ?_⟩
    refine ⟨_,rfl,_,rfl,(by show 2≤sizeLine;decide),fun t ht=>⟨aE (by lia),_,by lia,rfl,hi,s4.next ht,?_⟩⟩
    rw [take_snoc he]
    exact (h4.same (bx.new ht)).snoc (SqT.of aq)
   ·rintro ys H4 ⟨s4,h4⟩ l hl
    rw [show es.take xs.length=es from bq (by lia)] at h4
    refine ⟨l,ys,rfl,.inl ⟨SqL.of aq,fun t ht=>?_⟩⟩
    have s5:bx H3 (upd (upd H4 l (.lst ys)) t (.tup ys)):=(s4.next hl).next ht
    refine ⟨_,rfl,x,c.Web,dx,_,rfl,s5 _ _ hx',T.web.cl,T.web.nT,(by show 1<1000;decide),?_⟩
    rw [zR]
    have hxt:t≠x:=(bw (((s4.next hl)) _ _ hx') ht).symm
    refine k _ t ys ((sx.trans (.of s5)).trans eP) aq (by rw [bS hxt];exact aq) ?_
    exact Pairs.xi eP (s5 _ _ hx') ((h4.same (bx.new hl)).same (bx.new ht))
def yY (K:ai) (C cT:Addr):Sp:=fun vs H Q E=>∃(x:Addr) (p m:Int) (es:List (Int×Int)),vs=[.ref x,.int p]∧eW K C H x m es∧(0≤p→p<(es.length:Int)→Q .non H)∧(¬(0≤p∧p<(es.length:Int))→E (.ref cT) none H)
theorem Ca:bY ["web","tie"] ["web","tie"] (az sTi):=⟨rfl,rfl,rfl,by decide +kernel,rfl,by decide +kernel,by decide +kernel⟩
theorem zY {f:Addr} {fd:FuncData} (F:Fun K "check_tie" "check_tie" sTi f fd) (T:Txt K mg c):fH P w K mg base (CXE P w) 1 f fd ["web","tie"] (yY K c.Web c.BadTie):=by
 refine F.okE Ca (fun vs H Q E h=>?_) (fun cdv A outer s H vs Q E hr h=>?_)
 ·obtain ⟨x,p,m,es,rfl,_⟩:=h
  rfl
 ·obtain ⟨x,p,m,es,rfl,hw,k1,k2⟩:=h
  refine ⟨_,aR (eV (ip (kZ qu iP (aS) (pv 1) (bg (ig (K:=K) rfl) (by rfl) T.len aX (ah (gP (K:=K) rfl T.web (pv 0)) ax))))
    (aR (fO rfl rfl (by rfl) T.mBadTie T.xBadTie (ah gZ ax))) (cX)),?_⟩
  refine ⟨_,rfl,_,_,rfl,rfl,_,rfl,ie (fun c1=>?_) (fun c1=>?_)⟩
  ·refine ⟨_,rfl,x,m,es,rfl,hw,fun t ys ht hp=>⟨t,ys,rfl,.inr (SqT.of ht),_,_,rfl,rfl,_,rfl,?_⟩⟩
   have hl:=hp.len
   by_cases c2:p<(ys.length:Int)
   ·rw [decide_eq_true c2]
    exact gc (k1 (of_decide_eq_true c1) (by lia))
   ·rw [decide_eq_false c2]
    exact fh ⟨(by show 1≤sizeLine;decide),k2 fun z=>c2 (by lia)⟩
  ·exact ⟨_,rfl,fh ⟨(by show 1≤sizeLine;decide),k2 fun z=>c1 (decide_eq_true z.1)⟩⟩
def yn (K:ai):Sp:=fun vs H Q _=>∃(l:Addr) (a b:Int) (ls:List Int),vs=[.ref l,.int a,.int b]∧SqL K H l (ls.map V.int)∧ls.length≤900∧0≤a∧a<ls.length∧0≤b∧b<ls.length ∧
 ∀l2 H',H l2=none→bx H H'→H' l2=some (.lst ((ls.map fun x=>if x=max (lf ls a) (lf ls b) then min (lf ls a) (lf ls b) else x).map V.int))→Q (.ref l2) H'
theorem CP (i j:Int):(if j<i then j else i)=min i j:=by split<;>lia
theorem imax (i j:Int):(if j>i then j else i)=max i j:=by split<;>lia
theorem zJ:bY ["labels","one","two","low","high"] ["labels","one","two"] (az sMe):=⟨rfl,rfl,rfl,by decide +kernel,rfl,by decide +kernel,by decide +kernel⟩
theorem Am {f:Addr} {fd:FuncData} (F:Fun K "merged" "merged" sMe f fd) (T:Txt K mg c):fH P w K mg base CX0 1 f fd ["labels","one","two"] (yn K):=by
 refine F.ok zJ (fun vs H Q E h=>?_) (fun cdv A outer s H vs Q E hr h=>?_)
 ·obtain ⟨l,a,b,ls,rfl,_⟩:=h
  rfl
 ·obtain ⟨l,a,b,ls,rfl,hl,hz,a0,a1,b0,b1,k⟩:=h
  refine ⟨_,aB (bF (i:=3) zJ.nd rfl (Or.inr rfl) (bg (rX rfl) (by rfl) T.min PyProof.Rows.boot_min (ah (cD (ixL (K:=K) rfl) (pv 0) (pv 1) (fun _ _=>rfl)) (ah (cD (ixL (K:=K) rfl) (pv 0) (pv 2) (fun _ _=>rfl)) ax))))
   (aB (bF (i:=4) zJ.nd rfl (Or.inr rfl) (bg (rY rfl) (by rfl) T.max PyProof.Rows.boot_max (ah (cD (ixL (K:=K) rfl) (pv 0) (pv 1) (fun _ _=>rfl)) (ah (cD (ixL (K:=K) rfl) (pv 0) (pv 2) (fun _ _=>rfl)) ax))))
   (aR (cI (fJ (N':=["label","low","high"]) (nl:=1) (js:=[3,4]) rfl (.of (osc:=az sMe) (N:=["labels","one","two","low","high"]) (by decide +kernel) rfl rfl) (f_ (K:=K) rfl (pv 0))
    (fun _ _ _ _=>bK (i:=0) (show (["label","low","high"]:List Str).Nodup by decide +kernel) rfl (Or.inl rfl)) (fun _ _ _ _=>dD)
    (fun _ _ _ _=>g_ (cm iR (pv 0) (pv 2) (cH _)) (pv 1) (pv 0)))))),?_⟩
  refine ⟨_,rfl,_,rfl,l,_,_,_,rfl,rfl,hl,ft a0 a1,_,rfl,_,rfl,l,_,_,_,rfl,rfl,hl,ft b0 b1,_,_,rfl,?_⟩
  refine ⟨_,rfl,_,rfl,l,_,_,_,rfl,rfl,hl,ft a0 a1,_,rfl,_,rfl,l,_,_,_,rfl,rfl,hl,ft b0 b1,_,_,rfl,?_⟩
  have hf:∀x:Int,(if x=max (lf ls a) (lf ls b) then min (lf ls a) (lf ls b) else x)=(if x=(if ls.getD b.toNat 0>ls.getD a.toNat 0 then ls.getD b.toNat 0 else ls.getD a.toNat 0) then (if ls.getD b.toNat 0<ls.getD a.toNat 0 then ls.getD b.toNat 0 else ls.getD a.toNat 0) else x):=fun x=>by
   rw [CP,imax];rfl
  refine ⟨_,rfl,l,_,rfl,.inl hl,fun J C O hC=>fS O (fun i ys H2=>H2=H∧ys=((ls.map fun x=>if x=max (lf ls a) (lf ls b) then min (lf ls a) (lf ls b) else x).take i).map V.int) (by rw [aa];exact aL (aE (by lia))) ⟨rfl,rfl⟩ ?_ ?_ ?_⟩
  ·rintro i ys H2 hi ⟨rfl,rfl⟩
   exact ⟨hC _ (bx.refl _),by rw [aa,aC];lia⟩
  ·rintro i ys H hi ⟨rfl,rfl⟩
   obtain ⟨v,ev,gv⟩:=getD_map_int hi
   rw [aa] at hi
   dsimp only
   rw [ev]
   have fin:∀u,u=(if v=max (lf ls a) (lf ls b) then min (lf ls a) (lf ls b) else v)→((ls.map fun x=>if x=max (lf ls a) (lf ls b) then min (lf ls a) (lf ls b) else x).take i).map V.int++[V.int u]=((ls.map fun x=>if x=max (lf ls a) (lf ls b) then min (lf ls a) (lf ls b) else x).take (i+1)).map V.int:=fun u e=>by
    have hv:(ls.map fun x=>if x=max (lf ls a) (lf ls b) then min (lf ls a) (lf ls b) else x)[i]?=some u:=by rw [a_,gv,e];rfl
    rw [take_snoc hv,aw];rfl
   have hl2:(((ls.map fun x=>if x=max (lf ls a) (lf ls b) then min (lf ls a) (lf ls b) else x).take i).map V.int).length<sizeLine:=aE (by rw [aa,aC];lia)
   refine ⟨dR rfl,fh ?_⟩
   refine ⟨_,rfl,_,rfl,rfl,_,rfl,ie (fun c1=>?_) (fun c1=>?_)⟩
   ·refine ⟨_,rfl,hl2,_,by rw [aa];lia,rfl,by rw [aa];lia,rfl,fin _ ?_⟩
    have c1':=of_decide_eq_true c1
    injection c1' with c1'
    rw [hf,if_pos c1']
   ·refine ⟨_,rfl,hl2,_,by rw [aa];lia,rfl,by rw [aa];lia,rfl,fin _ ?_⟩
    rw [hf,if_neg (fun z=>c1 (decide_eq_true (by rw [z])))]
  ·rintro ys H ⟨rfl,rfl⟩ l2 nl
   rw [aa,bq (by rw [aa];lia)]
   exact k l2 _ nl (bx.new nl) aq
def PcR (K:ai) (H:Hp) (n:Nat) (f:Int→Int) (l:Addr) (H':Hp):Prop:=bx H H'∧H l=none∧∃ad:Int→Addr,H' l=some (.lst ((rts n f).map fun r=>V.ref (ad r))) ∧
 (∀r∈rts n f,H (ad r)=none∧ad r≠l∧H' (ad r)=some (.lst ((grp n f r).map V.int)))∧∀r∈rts n f,∀r'∈rts n f,ad r=ad r'→r=r'
def zk (K:ai) (c:Cs):Sp:=fun vs H Q _=>∃(x:Addr) (m:Int) (es:List (Int×Int)),vs=[.ref x]∧eW K c.Web H x m es∧1≤m∧m≤20∧es.length≤40∧de es m ∧
 ∀(l:Addr) (f:Int→Int) (H':Hp),Lab m es f→PcR K H m.toNat f l H'→Q (.ref l) H'
theorem ux:bY ["web","labels","start","end","groups","place","label"] ["web"] (az sPc):=⟨rfl,rfl,rfl,by decide +kernel,rfl,by decide +kernel,by decide +kernel⟩
theorem Ak {f:Addr} {fd:FuncData} (F:Fun K "pieces" "pieces" sPc f fd) (T:Txt K mg c) (D_Me:Def P w K mg base 1 "merged" ["labels","one","two"] (yn K)):fH P w K mg base CX0 2 f fd ["web"] (zk K c):=by
 refine F.ok ux (fun vs H Q E h=>?_) (fun cdv A outer s H vs Q E hr h=>?_)
 ·obtain ⟨x,m,es,rfl,_⟩:=h
  rfl
 ·obtain ⟨x,m,es,rfl,hw,m1,m2,hz,hE,k⟩:=h
  refine ⟨_,aB (bF (i:=1) ux.nd rfl (Or.inl rfl) (gO rfl rfl T.list rfl T.range (ah (qt (K:=K) rfl T.web (pv 0)) ax)))
   (aB (gh PassesOwn.never rfl (f_ (K:=K) rfl (gP (K:=K) rfl T.web (pv 0))) (jS (K:=K) (n:=2) rfl rfl (c_ (bK (i:=2) ux.nd rfl (Or.inl rfl)) (c_ (bK (i:=3) ux.nd rfl (Or.inl rfl)) (gA))) rfl)
    (aR (bF (i:=1) ux.nd rfl (Or.inl rfl) (bX D_Me hr (ah (pv 1) (ah (pv 2) (ah (pv 3) ax)))))))
   (aB (bF (i:=4) ux.nd rfl (Or.inl rfl) (tj))
   (aB (gh PassesOwn.never rfl (jR (K:=K) rfl rfl T.enumerate (ah (pv 1) ax)) (jS (K:=K) (n:=2) rfl rfl (c_ (bK (i:=5) ux.nd rfl (Or.inl rfl)) (c_ (bK (i:=6) ux.nd rfl (Or.inl rfl)) (gA))) rfl)
    (aR (dE (iJ PySem.F.plainAttrs_list PySem.F.slot_list_append PySem.F.type_list_append fm (tf (pv 4) (pv 6) (dh ax) ⟨rfl,rfl,rfl,rfl⟩) (ah (pv 5) ax)))))
   (aR (cI (mZ rfl rfl T.list (pv 4))))))),?_⟩
  refine ⟨_,rfl,x,m,es,rfl,hw,m,rfl,by lia,by lia,fun l0 nl0=>?_⟩
  have s0:bx H (upd H l0 (.lst (((bI m.toNat).map fun i=>0+((i:Nat):Int)).map V.int))):=bx.new nl0
  have e0:(upd H l0 (.lst (((bI m.toNat).map fun i=>0+((i:Nat):Int)).map V.int))) l0=some (.lst (((bI m.toNat).map fun i=>0+((i:Nat):Int)).map V.int)):=aq
  generalize upd H l0 (.lst (((bI m.toNat).map fun i=>0+((i:Nat):Int)).map V.int))=H0 at s0 e0
  refine ⟨_,rfl,x,m,es,rfl,hw.same s0,fun t ys ht hp=>⟨t,ys,rfl,.inr (SqT.of ht),fun J C O hC=>?_⟩⟩
  have hpl:=hp.len
  refine gQ O (fun i σ H2=>∃(lb:Addr) (ls:List Int) (v2 v3:Option V),σ=[some (.ref x),some (.ref lb),v2,v3,none,none,none]∧bx H0 H2∧H2 lb=some (.lst (ls.map V.int))∧ls.length=m.toNat∧Lab m (es.take i) (lf ls)) ⟨l0,_,none,none,rfl,bx.refl _,e0,by rw [aa,bW],(Lab.nil m).congr (fun e he=>(nomatch he)) fun p p0 p1=>(lF m.toNat p p0 (by lia)).symm⟩ (fun i σ H2 _ h=>?_) ?_ ?_
  ·obtain ⟨lb,ls,v2,v3,_,s2,_⟩:=h
   exact hC _ s2
  ·rintro i σ H2 hi ⟨lb,ls,v2,v3,rfl,s2,hl2,hll,hL⟩
   obtain ⟨r,e,er,hr2,ei,he⟩:=hp.at hi
   obtain ⟨b1,b2,b3,b4⟩:=hE e he
   dsimp only
   rw [er]
   refine ⟨r,_,rfl,s2.tup hr2,rfl,_,_,rfl,_,_,rfl,rfl,?_⟩
   refine ⟨_,rfl,_,rfl,_,rfl,lb,e.1,e.2,ls,rfl,SqL.of hl2,by lia,b1,by lia,b3,by lia,fun l3 H3 nl3 s3 e3=>?_⟩
   refine ⟨l3,_,_,_,rfl,s2.trans s3,e3,by rw [aa];exact hll,?_⟩
   rw [take_snoc ei]
   refine (hL.merge ⟨b1,b2,b3,b4⟩).congr (fun a ha=>?_) fun p p0 p1=>(qH ls (fun x=>if x=max (lf ls e.1) (lf ls e.2) then min (lf ls e.1) (lf ls e.2) else x) p p0 (by lia)).symm
   rcases aM.mp ha with y | y
   ·exact hE a (List.mem_of_mem_take y)
   ·rw [ak.mp y];exact ⟨b1,b2,b3,b4⟩
  ·rintro σ H2 ⟨lb,ls,v2,v3,rfl,s2,hl2,hll,hL⟩
   rw [hpl,bD] at hL
   have s02:=s0.trans s2
   clear s2 s0 e0 hC O ht hp hpl
   intro d nd
   have sd:bx H (upd H2 d (.dK [])):=s02.next nd
   have hd:(upd H2 d (.dK [])) d=some (.dK []):=aq
   have ld:(upd H2 d (.dK [])) lb=some (.lst (ls.map V.int)):=bx.new nd _ _ hl2
   have ndH:H d=none:=by
    cases e:H d with
    | none=>rfl
    | some o=>have:=s02 _ _ e;rw [nd] at this;cases this
   generalize upd H2 d (.dK [])=H3 at sd hd ld
   have Lf:∀p:Int,0≤p→p<m→0≤lf ls p∧lf ls p≤p:=hL.low
   have Li:∀p:Int,0≤p→p<m→lf ls (lf ls p)=lf ls p:=fun p p0 p1=>hL.idem p0 p1
   have hlm:(ls.map V.int).length=ls.length:=aa ..
   refine ⟨_,rfl,false,lb,_,rfl,SqL.of ld,fun J C O hC=>?_⟩
   refine jk O (fun i σ H4=>∃(ad:Int→Addr) (v5 v6:Option V),σ=[some (.ref x),some (.ref lb),v2,v3,some (.ref d),v5,v6]∧bx H H4∧fj d H3 H4∧H4 d=some (.dK ((rts i (lf ls)).map fun r=>((Sum.inl r:Key),V.ref (ad r)))) ∧
    (∀r∈rts i (lf ls),H3 (ad r)=none∧H4 (ad r)=some (.lst ((grp i (lf ls) r).map V.int)))∧∀r∈rts i (lf ls),∀r'∈rts i (lf ls),ad r=ad r'→r=r') ⟨fun _=>0,none,none,rfl,sd,fun _ _ _ z=>z,hd,(fun r hr=>nomatch hr),(fun r hr=>nomatch hr)⟩ (fun i σ H4 _ h=>?_) ?_ ?_
   ·obtain ⟨ad,v5,v6,_,_,sx,_⟩:=h
    exact hC _ (SqL.of (sx _ _ (iK ld hd (by intro z;cases z)) ld))
   ·rintro i σ H4 p hi ⟨ad,v5,v6,rfl,s4,sx4,d4,g4,inj⟩ hp4
    have hi':i<ls.length:=by lia
    dsimp only
    rw [getD_ints hi']
    have ei:ls.getD i 0=lf ls (i:Int):=rfl
    rw [ei]
    have lo:=Lf i (by lia) (by lia)
    have id1:=Li i (by lia) (by lia)
    have s5:=bx.new (o:=.tup [.int (i:Nat),.int (lf ls (i:Int))]) hp4
    have t5:(upd H4 p (.tup [.int (i:Nat),.int (lf ls (i:Int))])) p=some (.tup [.int (i:Nat),.int (lf ls (i:Int))]):=aq
    refine ⟨p,_,rfl,SqT.of t5,rfl,_,_,rfl,_,_,rfl,rfl,?_⟩
    generalize upd H4 p (.tup [.int (i:Nat),.int (lf ls (i:Int))])=H5 at s5 t5
    have d5:=s5 _ _ d4
    refine ⟨_,rfl,d,rfl,.inl ⟨_,.inl d5⟩,_,rfl,by decide,fun q nq=>?_⟩
    have s6:=bx.new (o:=.lst []) nq
    have q6:(upd H5 q (.lst [])) q=some (.lst []):=aq
    generalize upd H5 q (.lst [])=H6 at s6 q6
    have d6:=s6 _ _ d5
    have s46:=s5.trans s6
    have hzr:=vh i (lf ls)
    refine ⟨_,Sum.inl (lf ls (i:Int)),d6,rfl,aE (by rw [aa];lia),fun v hv=>?_,fun hv=>?_⟩
    ·rw [eI] at hv
     by_cases hm:lf ls (i:Int)∈rts i (lf ls)
     ·rw [if_pos hm] at hv
      cases hv
      obtain ⟨n1,c1⟩:=g4 _ hm
      have c6:=s46 _ _ c1
      have hgl:=vH i (lf ls) (lf ls (i:Int))
      have hne:¬lf ls (i:Int)=(i:Int):=fun z=>by
       have:=(gb.mp hm).2.1
       lia
      have rs:rts (i+1) (lf ls)=rts i (lf ls):=by rw [nX,if_neg hne,bB]
      refine ⟨.inl ⟨rfl,_,SqL.of c6⟩,_,rfl,_,_,_,rfl,rfl,c6,aE (by rw [aa];lia),?_⟩
      rw [show ((grp i (lf ls) (lf ls (i:Int))).map V.int++[V.int (i:Int)])=(grp (i+1) (lf ls) (lf ls (i:Int))).map V.int by rw [jH,if_pos rfl,aw];rfl]
      have nd2:d≠ad (lf ls (i:Int)):=bw hd n1
      refine ⟨ad,_,_,rfl,(s4.trans s46).upd (bN sd n1),?_,?_,?_,?_⟩
      ·intro b o hb e
       rw [bS (fun z=>by rw [z,n1] at e;cases e)]
       exact s46 _ _ (sx4 b o hb e)
      ·rw [bS nd2,rs];exact d6
      ·intro r hr
       rw [rs] at hr
       obtain ⟨n2,c2⟩:=g4 r hr
       refine ⟨n2,?_⟩
       by_cases e:r=lf ls (i:Int)
       ·rw [e];exact aq
       ·rw [bS (fun z=>e (inj _ hr _ hm z)),jH,if_neg (fun z=>e z.symm),bB]
        exact s46 _ _ c2
      ·rw [rs];exact inj
     ·rw [if_neg hm] at hv;cases hv
    ·rw [eI] at hv
     have hm:¬lf ls (i:Int)∈rts i (lf ls):=fun z=>by rw [if_pos z] at hv;cases hv
     have hei:lf ls (i:Int)=(i:Int):=by
      by_cases z:lf ls (i:Int)<(i:Int)
      ·exact absurd (gb.mpr ⟨lo.1,z,id1⟩) hm
      ·lia
     have rs:rts (i+1) (lf ls)=rts i (lf ls)++[(i:Int)]:=by rw [nX,if_pos hei]
     have g0:grp i (lf ls) (i:Int)=[]:=by
      rw [List.eq_nil_iff_forall_not_mem]
      intro p' hp'
      have:=jV.mp hp'
      have:=Lf p' this.1 (by lia)
      lia
     have pk:putK ((rts i (lf ls)).map fun r=>((Sum.inl r:Key),V.ref (ad r))) (Sum.inl (lf ls (i:Int))) (V.ref q)=(rts (i+1) (lf ls)).map fun r=>((Sum.inl r:Key),V.ref (if r=(i:Int) then q else ad r)):=by
      rw [kY _ (by rw [eI,if_neg hm]),rs,aw,hei]
      congr 1
      ·refine dW fun r hr=>?_
       rw [if_neg (show ¬r=(i:Int) from fun z=>by have:=(gb.mp hr).2.1;lia)]
      ·rw [bf,fw,if_pos rfl]
     rw [pk]
     have nqd:q≠d:=(bw d5 nq).symm
     have q7:(upd H6 d (.dK ((rts (i+1) (lf ls)).map fun r=>((Sum.inl r:Key),V.ref (if r=(i:Int) then q else ad r))))) q=some (.lst []):=by rw [bS nqd];exact q6
     have nq3:H3 q=none:=by
      cases e:H3 q with
      | none=>rfl
      | some o=>have:=s5 _ _ (sx4 _ _ nqd e);rw [nq] at this;cases this
     refine ⟨.inl ⟨rfl,_,SqL.of q7⟩,_,rfl,q,_,_,rfl,rfl,q7,aE (by decide),?_⟩
     refine ⟨fun r=>if r=(i:Int) then q else ad r,_,_,rfl,((s4.trans s46).upd ndH).upd (bN sd nq3),?_,?_,?_,?_⟩
     ·intro b o hb e
      rw [bS (fun z=>by rw [z,nq3] at e;cases e),bS hb]
      exact s46 _ _ (sx4 b o hb e)
     ·rw [bS nqd.symm];exact aq
     ·intro r hr
      rw [rs] at hr
      rcases aM.mp hr with y | y
      ·obtain ⟨n2,c2⟩:=g4 r y
       have hne:¬r=(i:Int):=fun z=>by have:=(gb.mp y).2.1;lia
       dsimp only
       rw [if_neg hne]
       refine ⟨n2,?_⟩
       rw [bS (bw (s5 _ _ c2) nq),bS (fun z=>by rw [z,hd] at n2;cases n2),jH,if_neg (by rw [hei];exact fun z=>hne z.symm),bB]
       exact s46 _ _ c2
      ·have e:r=(i:Int):=ak.mp y
       dsimp only
       rw [if_pos e]
       refine ⟨nq3,?_⟩
       rw [e,jH,if_pos hei,g0]
       exact aq
     ·intro r hr r' hr' e
      rw [rs] at hr hr'
      have key:∀r∈rts i (lf ls),ad r≠q:=fun r y z=>by
       have:=s5 _ _ (g4 r y).2
       rw [z,nq] at this;cases this
      dsimp only at e
      rcases aM.mp hr with y | y<;>rcases aM.mp hr' with y' | y'
      ·rw [if_neg (fun z=>by have:=(gb.mp y).2.1;lia),if_neg (fun z=>by have:=(gb.mp y').2.1;lia)] at e
       exact inj r y r' y' e
      ·rw [if_neg (fun z=>by have:=(gb.mp y).2.1;lia),if_pos (ak.mp y')] at e
       exact absurd e (key r y)
      ·rw [if_pos (ak.mp y),if_neg (fun z=>by have:=(gb.mp y').2.1;lia)] at e
       exact absurd e.symm (key r' y')
      ·rw [ak.mp y,ak.mp y']
   ·rintro σ H4 ⟨ad,v5,v6,rfl,s4,sx4,d4,g4,inj⟩
    rw [hlm,hll] at d4 g4 inj
    refine ⟨_,rfl,d,_,rfl,d4,fun l nl=>?_⟩
    rw [List.map_map]
    refine k l (lf ls) _ hL ⟨s4.next nl,bN s4 nl,ad,aq,fun r hr=>?_,inj⟩
    obtain ⟨n2,c2⟩:=g4 r hr
    have hne:ad r≠l:=bw c2 nl
    exact ⟨bN sd n2,hne,by rw [bS hne];exact c2⟩
def yv (K:ai) (C cF:Addr):Sp:=fun vs H Q E=>∃(x f:Addr) (m:Int) (es:List (Int×Int)) (xs:List V),vs=[.ref x,.ref f]∧eW K C H x m es∧(SqL K H f xs∨SqT K H f xs)∧(xs.length=es.length→Q .non H)∧(xs.length≠es.length→E (.ref cF) none H)
theorem Cr:bY ["web","flow"] ["web","flow"] (az sAm):=⟨rfl,rfl,rfl,by decide +kernel,rfl,by decide +kernel,by decide +kernel⟩
theorem AM {f:Addr} {fd:FuncData} (F:Fun K "check_amounts" "check_amounts" sAm f fd) (T:Txt K mg c):fH P w K mg base (CXE P w) 1 f fd ["web","flow"] (yv K c.Web c.BadFlow):=by
 refine F.okE Cr (fun vs H Q E h=>?_) (fun cdv A outer s H vs Q E hr h=>?_)
 ·obtain ⟨x,f,m,es,xs,rfl,_⟩:=h
  rfl
 ·obtain ⟨x,f,m,es,xs,rfl,hw,hS,k1,k2⟩:=h
  refine ⟨_,aR (eV (cm mh (bg (ig (K:=K) rfl) (by rfl) T.len aX (ah (pv 1) ax)) (bg (ig (K:=K) rfl) (by rfl) T.len aX (ah (gP (K:=K) rfl T.web (pv 0)) ax)) (cH _))
    (aR (fO rfl rfl (by rfl) T.mBadFlow T.xBadFlow (ah gZ ax))) (cX)),?_⟩
  refine ⟨_,rfl,f,xs,rfl,hS,_,rfl,x,m,es,rfl,hw,fun t ys ht hp=>⟨t,ys,rfl,.inr (SqT.of ht),rfl,_,rfl,?_⟩⟩
  have hl:=hp.len
  by_cases e:xs.length=es.length
  ·rw [decide_eq_true (show V.int (xs.length:Int)=V.int (ys.length:Int) by rw [hl,e])]
   exact gc (k1 e)
  ·rw [decide_eq_false (show ¬V.int (xs.length:Int)=V.int (ys.length:Int) by rw [hl];intro z;injection z with z;lia)]
   exact fh ⟨(by show 1≤sizeLine;decide),k2 e⟩
theorem sy {H:Hp} {q l:Addr} {o:HO} (h:upd H q o l=none):H l=none:=by
 by_cases e:l=q
 ·subst e;rw [aq] at h;cases h
 ·rwa [bS e] at h
def zr (K:ai) (C:Addr):Sp:=fun vs H Q _=>∃(x f:Addr) (b:Bool) (m:Int) (es:List (Int×Int)) (fs:List Int),vs=[.ref x,.ref f]∧eW K C H x m es∧SqB b K H f (fs.map V.int)∧fs.length=es.length∧1≤m∧m≤20∧es.length≤40∧de es m ∧
 ∀(l:Addr) (H':Hp) (zs:List Int),H' l=some (.lst (zs.map V.int))→zs.length=m.toNat→(∀p:Nat,p<m.toNat→zs.getD p 0=dp p es fs es.length)→bx H H'→Q (.ref l) H'
theorem yz:bY ["web","flow","told","ends","amount"] ["web","flow"] (az sGs):=⟨rfl,rfl,rfl,by decide +kernel,rfl,by decide +kernel,by decide +kernel⟩
theorem As {f:Addr} {fd:FuncData} (F:Fun K "gains" "gains" sGs f fd) (T:Txt K mg c):fH P w K mg base CX0 1 f fd ["web","flow"] (zr K c.Web):=by
 refine F.ok yz (fun vs H Q E h=>?_) (fun cdv A outer s H vs Q E hr h=>?_)
 ·obtain ⟨x,f,b,m,es,fs,rfl,_⟩:=h
  rfl
 ·obtain ⟨x,f,b,m,es,fs,rfl,hw,hf,hlen,m1,m2,hz,hE,k⟩:=h
  refine ⟨_,aB (bF (i:=2) yz.nd rfl (Or.inl rfl) (bQ jv (dh (ah (aS) ax)) (qt (K:=K) rfl T.web (pv 0))))
   (aB (gh PassesOwn.never rfl (ma (K:=K) rfl rfl T.zip (ah (gP (K:=K) rfl T.web (pv 0)) (ah (pv 1) ax))) (jS (K:=K) (n:=2) rfl rfl (c_ (bK (i:=3) yz.nd rfl (Or.inl rfl)) (c_ (bK (i:=4) yz.nd rfl (Or.inl rfl)) (gA))) rfl)
    (aB (lj (pv 2) (cD (ixT (K:=K) rfl) (pv 3) (aS) (fun _ _=>rfl)) (jI (K:=K) rfl) (pv 4) xO set_list)
   (aR (lj (pv 2) (cD (ixT (K:=K) rfl) (pv 3) (aS) (fun _ _=>rfl)) (jI (K:=K) rfl) (pv 4) my set_list))))
   (aR (cI (pv 2)))),?_⟩
  refine ⟨(by show 1≤sizeLine;decide),fun q hq=>?_⟩
  refine ⟨_,rfl,x,m,es,rfl,hw.same (bx.new hq),q,m,_,rfl,rfl,aq,by lia,by lia,aL (aE (by show 1*m.toNat≤1000;lia)),fun l hl=>?_⟩
  rw [gY]
  have hlH:H l=none:=sy hl
  have s1:bx H (upd (upd H q (.lst [.int 0])) l (.lst ((au m.toNat 0).map V.int))):=(bx.new hq).next hl
  have e1:(upd (upd H q (.lst [.int 0])) l (.lst ((au m.toNat 0).map V.int))) l=some (.lst ((au m.toNat 0).map V.int)):=aq
  generalize upd (upd H q (.lst [.int 0])) l (.lst ((au m.toNat 0).map V.int))=H1 at s1 e1
  refine ⟨_,rfl,x,m,es,rfl,hw.same s1,fun t ys ht hp=>⟨_,rfl,true,b,t,f,ys,fs.map V.int,rfl,SqT.of ht,hf.same s1,fun J C O hC=>?_⟩⟩
  have hpl:=hp.len
  have sXH:∀{H2:Hp},fj l H1 H2→bx H H2:=fun sX b o e=>sX b o (bw e hlH) (s1 b o e)
  have hn:min ys.length (fs.map V.int).length=es.length:=by rw [aa,hlen,hpl];exact eY _
  refine jk O (fun i σ H2=>∃zs v3 v4,σ=[some (.ref x),some (.ref f),some (.ref l),v3,v4]∧H2 l=some (.lst (zs.map V.int))∧zs.length=m.toNat∧(∀p:Nat,p<m.toNat→zs.getD p 0=dp p es fs i)∧fj l H1 H2) ⟨au m.toNat 0,none,none,rfl,e1,bh ..,fun p hp=>?_,.of (bx.refl _)⟩ ?_ ?_ ?_
  ·rw [ae,cy,if_pos hp];rfl
  ·rintro i σ H2 _ ⟨zs,v3,v4,rfl,e2,hzl,hd,sX⟩
   exact hC H2 (fj.tup sX e1 (SqT.of ht)) (hf.same (sXH sX))
  ·rintro i σ H2 p hi ⟨zs,v3,v4,rfl,e2,hzl,hd,sX⟩ hp2
   rw [hn] at hi
   obtain ⟨r,e,er,hr2,ei,he⟩:=hp.at (i:=i) (by lia)
   obtain ⟨b1,b2,b3,b4⟩:=hE e he
   dsimp only
   rw [er,getD_ints (by lia)]
   refine ⟨p,_,rfl,SqT.of aq,rfl,_,_,rfl,_,_,rfl,rfl,?_⟩
   have s3:bx H2 (upd H2 p (.tup [.ref r,.int (fs.getD i 0)])):=bx.new hp2
   have e3:=s3 _ _ e2
   have r3:SqT K (upd H2 p (.tup [.ref r,.int (fs.getD i 0)])) r [.int e.1,.int e.2]:=s3.tup (fj.tup sX e1 hr2)
   generalize upd H2 p (.tup [.ref r,.int (fs.getD i 0)])=H3 at s3 e3 r3
   refine ⟨_,rfl,_,rfl,r,_,0,_,rfl,rfl,r3,rfl,l,_,e.1,_,rfl,rfl,b1,SqL.of e3,jJ (by lia),_,rfl,_,_,rfl,rfl,l,_,e.1,_,rfl,rfl,e3,iB b1 (by rw [aa];lia),?_⟩
   rw [gN]
   have x4:fj l H3 (upd H3 l (.lst ((zs.set e.1.toNat (zs.getD e.1.toNat 0-fs.getD i 0)).map V.int))):=eP
   have e4:(upd H3 l (.lst ((zs.set e.1.toNat (zs.getD e.1.toNat 0-fs.getD i 0)).map V.int))) l=some (.lst ((zs.set e.1.toNat (zs.getD e.1.toNat 0-fs.getD i 0)).map V.int)):=aq
   have r4:=fj.tup x4 e3 r3
   generalize upd H3 l (.lst ((zs.set e.1.toNat (zs.getD e.1.toNat 0-fs.getD i 0)).map V.int))=H4 at x4 e4 r4
   refine ⟨_,rfl,_,rfl,r,_,1,_,rfl,rfl,r4,rfl,l,_,e.2,_,rfl,rfl,b3,SqL.of e4,jJ (by rw [cx];lia),_,rfl,_,_,rfl,rfl,l,_,e.2,_,rfl,rfl,e4,iB b3 (by rw [aa,cx];lia),?_⟩
   rw [gN]
   exact ⟨_,_,_,rfl,aq,by rw [cx,cx];exact hzl,fun p hp=>rG hzl ei b1 (by lia) b3 (by lia) hd p hp,((sX.trans (.of s3)).trans x4).trans eP⟩
  ·rintro σ H2 ⟨zs,v3,v4,rfl,e2,hzl,hd,sX⟩
   rw [hn] at hd
   exact ⟨_,rfl,k l H2 zs e2 hzl hd (sXH sX)⟩
def xf (K:ai) (cF:Addr):Sp:=fun vs H Q E=>∃(p q:Addr) (b1 b2:Bool) (ns ms:List Int),vs=[.ref p,.ref q]∧SqB b1 K H p (ns.map V.int)∧SqB b2 K H q (ms.map V.int)∧ns.length≤900∧(ns.length≠ms.length→E (.ref cF) none H) ∧
 (ns.length=ms.length→∀l H',H l=none→bx H H'→H' l=some (.lst ((bO (·+·) ns ms).map V.int))→Q (.ref l) H')
theorem Ct:bY ["one","two"] ["one","two"] (az sAd):=⟨rfl,rfl,rfl,by decide +kernel,rfl,by decide +kernel,by decide +kernel⟩
theorem AO {f:Addr} {fd:FuncData} (F:Fun K "added" "added" sAd f fd) (T:Txt K mg c):fH P w K mg base (CXE P w) 1 f fd ["one","two"] (xf K c.BadFlow):=by
 refine F.okE Ct (fun vs H Q E h=>?_) (fun cdv A outer s H vs Q E hr h=>?_)
 ·obtain ⟨p,q,b1,b2,ns,ms,rfl,_⟩:=h
  rfl
 ·obtain ⟨p,q,b1,b2,ns,ms,rfl,hp,hq,hz,k1,k2⟩:=h
  refine ⟨_,aB (eV (cm mh (bg (ig (K:=K) rfl) (by rfl) T.len aX (ah (pv 0) ax)) (bg (ig (K:=K) rfl) (by rfl) T.len aX (ah (pv 1) ax)) (cH _))
    (aR (fO rfl rfl (by rfl) T.mBadFlow T.xBadFlow (ah gZ ax))) (cX))
   (aR (cI (fJ (N':=["first","second"]) (nl:=2) (js:=[]) rfl (.of (osc:=az sAd) (N:=["one","two"]) (by decide +kernel) rfl rfl) (ma (K:=K) rfl rfl T.zip (ah (pv 0) (ah (pv 1) ax)))
    (fun _ _ _ _=>jT (K:=K) (i:=0) (j:=1) rfl rfl (show (["first","second"]:List Str).Nodup by decide +kernel) rfl rfl rfl rfl) (fun _ _ _ _=>dD)
    (fun _ _ _ _=>bQ fG (pv 0) (pv 1))))),?_⟩
  refine ⟨_,rfl,p,_,rfl,hp.or,_,rfl,q,_,rfl,hq.or,rfl,_,rfl,?_⟩
  by_cases e:ns.length=ms.length
  ·rw [decide_eq_true (show V.int ((ns.map V.int).length:Int)=V.int ((ms.map V.int).length:Int) by rw [aa,aa,e])]
   refine gc ?_
   have hn:min (ns.map V.int).length (ms.map V.int).length=ns.length:=by rw [aa,aa,←e];exact eY _
   have hzl:(bO (·+·) ns ms).length=ns.length:=by rw [dX,←e];exact eY _
   refine ⟨_,rfl,_,rfl,b1,b2,p,q,_,_,rfl,hp,hq,fun J C O hC=>mq O (fun i ys H2=>bx H H2∧ys=((bO (·+·) ns ms).take i).map V.int) (by rw [hn];exact aL (aE (by lia))) ⟨bx.refl _,rfl⟩ ?_ ?_ ?_⟩
   ·rintro i ys H2 hi ⟨s2,rfl⟩
    exact ⟨hC _ (hp.same s2) (hq.same s2),by rw [aa,aC];lia⟩
   ·rintro i ys H2 r hi ⟨s2,rfl⟩ nr
    rw [hn] at hi
    have hv:(bO (·+·) ns ms)[i]?=some (ns.getD i 0+ms.getD i 0):=by
     rw [List.getElem?_zipWith,ae,ae,aj hi,aj (show i<ms.length by lia)];rfl
    dsimp only
    rw [getD_ints hi,getD_ints (show i<ms.length by lia)]
    refine ⟨r,_,rfl,SqT.of aq,rfl,_,_,rfl,_,_,rfl,rfl,iu rfl rfl,fh ?_⟩
    refine ⟨_,rfl,_,rfl,_,_,rfl,rfl,aE (by rw [aa,aC];lia),_,by rw [hn];lia,rfl,by rw [hn];lia,s2.next nr,?_⟩
    rw [take_snoc hv,aw];rfl
   ·rintro ys H2 ⟨s2,rfl⟩ l nl
    rw [hn,bq (by lia)]
    exact k2 e l _ (by
     cases e':H l with
     | none=>rfl
     | some o=>have:=s2 _ _ e';rw [nl] at this;cases this) (s2.next nl) aq
  ·rw [decide_eq_false (show ¬V.int ((ns.map V.int).length:Int)=V.int ((ms.map V.int).length:Int) by rw [aa,aa];intro z;injection z with z;lia)]
   exact fh ⟨(by show 1≤sizeLine;decide),k1 e⟩
def xb (K:ai):Sp:=fun vs H Q _=>∃(p:Addr) (b:Bool) (z:Int) (ns:List Int),vs=[.int z,.ref p]∧SqB b K H p (ns.map V.int)∧ns.length≤900∧z.natAbs<2^200∧(∀v∈ns,v.natAbs<2^200) ∧
 ∀l H',H l=none→bx H H'→H' l=some (.lst ((ns.map (z*·)).map V.int))→Q (.ref l) H'
theorem B_:bY ["number","flow"] ["number","flow"] (az sTm):=⟨rfl,rfl,rfl,by decide +kernel,rfl,by decide +kernel,by decide +kernel⟩
theorem zX {f:Addr} {fd:FuncData} (F:Fun K "times" "times" sTm f fd) (T:Txt K mg c):fH P w K mg base CX0 1 f fd ["number","flow"] (xb K):=by
 refine F.ok B_ (fun vs H Q E h=>?_) (fun cdv A outer s H vs Q E hr h=>?_)
 ·obtain ⟨p,b,z,ns,rfl,_⟩:=h
  rfl
 ·obtain ⟨p,b,z,ns,rfl,hp,hz,hzb,hnb,k⟩:=h
  refine ⟨_,aR (cI (fJ (N':=["amount","number"]) (nl:=1) (js:=[0]) rfl (.of (osc:=az sTm) (N:=["number","flow"]) (by decide +kernel) rfl rfl) (f_ (K:=K) rfl (pv 1))
    (fun _ _ _ _=>bK (i:=0) (show (["amount","number"]:List Str).Nodup by decide +kernel) rfl (Or.inl rfl)) (fun _ _ _ _=>dD)
    (fun _ _ _ _=>bQ gD (pv 1) (pv 0)))),?_⟩
  refine ⟨_,rfl,p,_,rfl,hp.or,fun J C O hC=>fS O (fun i ys H2=>H2=H∧ys=((ns.map (z*·)).take i).map V.int) (by rw [aa];exact aL (aE (by lia))) ⟨rfl,rfl⟩ ?_ ?_ ?_⟩
  ·rintro i ys H2 hi ⟨rfl,rfl⟩
   exact ⟨hC _ (bx.refl _),by rw [aa,aC];lia⟩
  ·rintro i ys H hi ⟨rfl,rfl⟩
   obtain ⟨v,ev,gv⟩:=getD_map_int hi
   rw [aa] at hi
   have hv:(ns.map (z*·))[i]?=some (z*v):=by rw [a_,gv];rfl
   dsimp only
   rw [ev]
   refine ⟨dR rfl,fh ?_⟩
   refine ⟨_,rfl,_,rfl,_,_,rfl,rfl,⟨hzb,hnb v (bj gv)⟩,aE (by rw [aa,aC];lia),_,by rw [aa];lia,rfl,by rw [aa];lia,rfl,?_⟩
   rw [take_snoc hv,aw];rfl
  ·rintro ys H ⟨rfl,rfl⟩ l nl
   rw [aa,bq (by rw [aa];lia)]
   exact k l _ nl (bx.new nl) aq
def zE (K:ai) (c:Cs):Sp:=fun vs H Q _=>∃(x p q:Addr) (m:Int) (es:List (Int×Int)) (ls hs:List Int),vs=[.ref x,.ref p,.ref q]∧eW K c.Web H x m es∧SqL K H p (ls.map V.int)∧SqL K H q (hs.map V.int)∧ls.length=es.length∧hs.length=es.length∧es.length≤900∧(∀i,i<es.length→ls.getD i 0≤hs.getD i 0)∧∀H',bx H H'→Q .non H'
theorem Cq:bY ["web","lows","highs"] ["web","lows","highs"] (az sCb):=⟨rfl,rfl,rfl,by decide +kernel,rfl,by decide +kernel,by decide +kernel⟩
theorem pO:∀ls hs:List Int,(∀i,i<ls.length→ls.getD i 0≤hs.getD i 0)→(bO (fun a b=>V.bl (decide (a>b))) ls hs).all sk=true∧(bO (fun a b=>V.bl (decide (a>b))) ls hs).any tv=false
 | [],_,_=>⟨rfl,rfl⟩
 | _::_,[],_=>⟨rfl,rfl⟩
 | a::l,b::m,h=>by
  obtain ⟨h1,h2⟩:=pO l m fun i hi=>h (i+1) (Nat.succ_lt_succ hi)
  have h0:a≤b:=h 0 (fW _)
  rw [List.zipWith_cons_cons,dN,fc,h1,h2,decide_eq_false (show ¬a>b by lia)]
  exact ⟨rfl,rfl⟩
theorem AJ {f:Addr} {fd:FuncData} (F:Fun K "check_bounds" "check_bounds" sCb f fd) (T:Txt K mg c) (D_Am:hX P w K mg base 1 "check_amounts" ["web","flow"] (yv K c.Web c.BadFlow)):fH P w K mg base CX0 2 f fd ["web","lows","highs"] (zE K c):=by
 refine F.ok Cq (fun vs H Q E h=>?_) (fun cdv A outer s H vs Q E hr h=>?_)
 ·obtain ⟨x,p,q,m,es,ls,hs,rfl,_⟩:=h
  rfl
 ·obtain ⟨x,p,q,m,es,ls,hs,rfl,hw,hp,hq,e1,e2,hz,hlh,kk⟩:=h
  refine ⟨_,aB (dE (bX D_Am.calm hr (ah (pv 0) (ah (pv 1) ax))))
   (aB (dE (bX D_Am.calm hr (ah (pv 0) (ah (pv 2) ax))))
   (aR (eV (h_ (bg (wz (K:=K) rfl rfl) (by rfl) T.any dM (ah (fJ (N':=["low","high"]) (nl:=2) (js:=[]) rfl (.of (osc:=az sCb) (N:=["web","lows","highs"]) (by decide +kernel) rfl rfl) (ma (K:=K) rfl rfl T.zip (ah (pv 1) (ah (pv 2) ax)))
    (fun _ _ _ _=>jT (K:=K) (i:=0) (j:=1) rfl rfl (show (["low","high"]:List Str).Nodup by decide +kernel) rfl rfl rfl rfl) (fun _ _ _ _=>dD)
    (fun _ _ _ _=>gC iQ (pv 0) (pv 1) (cH _))) ax)))
    (aR (jF)) (cX)))),?_⟩
  refine ⟨_,rfl,_,rfl,x,p,m,es,_,rfl,hw,.inl hp,fun _=>?_,fun z=>absurd (by rw [aa];exact e1) z⟩
  refine ⟨_,rfl,_,rfl,x,q,m,es,_,rfl,hw,.inl hq,fun _=>?_,fun z=>absurd (by rw [aa];exact e2) z⟩
  have hn:min (ls.map V.int).length (hs.map V.int).length=ls.length:=by rw [aa,aa,e2,←e1];exact eY _
  have hzl:(bO (fun a b=>V.bl (decide (a>b))) ls hs).length=ls.length:=by rw [dX,e2,←e1];exact eY _
  refine ⟨_,rfl,_,rfl,false,false,p,q,_,_,rfl,hp,hq,fun J C O hC=>mq O (fun i ys H2=>bx H H2∧ys=(bO (fun a b=>V.bl (decide (a>b))) ls hs).take i) (by rw [hn];exact aL (aE (by lia))) ⟨bx.refl _,rfl⟩ ?_ ?_ ?_⟩
  ·rintro i ys H2 hi ⟨s2,rfl⟩
   exact ⟨hC _ (s2.seq hp) (s2.seq hq),by rw [aC];lia⟩
  ·rintro i ys H2 r hi ⟨s2,rfl⟩ nr
   rw [hn] at hi
   have hv:(bO (fun a b=>V.bl (decide (a>b))) ls hs)[i]?=some (V.bl (decide (ls.getD i 0>hs.getD i 0))):=by
    rw [List.getElem?_zipWith,ae,ae,aj hi,aj (show i<hs.length by lia)];rfl
   dsimp only
   rw [getD_ints hi,getD_ints (show i<hs.length by lia)]
   refine ⟨r,_,rfl,SqT.of aq,rfl,_,_,rfl,_,_,rfl,rfl,iu rfl rfl,fh ?_⟩
   refine ⟨_,rfl,_,rfl,_,_,rfl,rfl,aE (by rw [aC];lia),_,by rw [hn];lia,rfl,by rw [hn];lia,s2.next nr,?_⟩
   rw [take_snoc hv]
  ·rintro ys H2 ⟨s2,rfl⟩ l nl
   rw [hn,bq (by lia)]
   obtain ⟨z1,z2⟩:=pO ls hs fun i hi=>hlh i (by lia)
   refine ⟨l,_,rfl,.inl (SqL.of aq),z1,_,rfl,?_⟩
   rw [z2]
   exact gc (kk _ (s2.next nl))
def zf (K:ai):Sp:=fun vs H Q _=>∃(a p q:Addr) (as lo hi:List Int),vs=[.ref a,.ref p,.ref q]∧SqL K H a (as.map V.int)∧SqL K H p (lo.map V.int)∧SqL K H q (hi.map V.int)∧lo.length=as.length∧hi.length=as.length∧as.length≤900 ∧
 ∀l xs H',H l=none→bx H H'→H' l=some (.lst xs)→Pairs K H' xs (rmN as lo hi)→Q (.ref l) H'
theorem Cc:bY ["amounts","lows","highs"] ["amounts","lows","highs"] (az sRl):=⟨rfl,rfl,rfl,by decide +kernel,rfl,by decide +kernel,by decide +kernel⟩
theorem Ae {f:Addr} {fd:FuncData} (F:Fun K "rooms_left" "rooms_left" sRl f fd) (T:Txt K mg c):fH P w K mg base CX0 1 f fd ["amounts","lows","highs"] (zf K):=by
 refine F.ok Cc (fun vs H Q E h=>?_) (fun cdv A outer s H vs Q E hr h=>?_)
 ·obtain ⟨a,p,q,as,lo,hi,rfl,_⟩:=h
  rfl
 ·obtain ⟨a,p,q,as,lo,hi,rfl,ha,hp,hq,h1,h2,hz,k⟩:=h
  refine ⟨_,aR (cI (fJ (N':=["amount","low","high"]) (nl:=3) (js:=[]) rfl (.of (osc:=az sRl) (N:=["amounts","lows","highs"]) (by decide +kernel) rfl rfl) (vm (K:=K) rfl rfl T.zip (ah (pv 0) (ah (pv 1) (ah (pv 2) ax))))
    (fun _ _ _ _=>jS (K:=K) (n:=3) rfl rfl (c_ (bK (i:=0) (show (["amount","low","high"]:List Str).Nodup by decide +kernel) rfl (Or.inl rfl) (Or.inr rfl)) (c_ (bK (i:=1) (show (["amount","low","high"]:List Str).Nodup by decide +kernel) rfl (Or.inl rfl) (Or.inr rfl)) (c_ (bK (i:=2) (show (["amount","low","high"]:List Str).Nodup by decide +kernel) rfl (Or.inl rfl) (Or.inr rfl)) (gA)))) rfl) (fun _ _ _ _=>dD)
    (fun _ _ _ _=>fF (ah (bQ gj (pv 2) (pv 0)) (ah (bQ gj (pv 0) (pv 1)) ax))))),?_⟩
  have hn:(as.map V.int).length=as.length:=aa ..
  refine ⟨_,rfl,_,rfl,_,rfl,a,p,q,_,_,_,rfl,ha,hp,hq,by rw [aa,aa,h1],by rw [aa,aa,h2],fun J C O hC=>mq O (fun i ys H2=>bx H H2∧Pairs K H2 ys ((rmN as lo hi).take i)) (by rw [hn];exact aL (aE (by lia))) ⟨bx.refl _,.nil⟩ ?_ ?_ ?_⟩
  ·rintro i ys H2 hi' ⟨s2,hp2⟩
   exact ⟨hC _ (s2.seq ha) (s2.seq hp) (s2.seq hq),by rw [hp2.len,aC];lia⟩
  ·rintro i ys H2 r hi' ⟨s2,hp2⟩ nr
   rw [hn] at hi'
   have hyl:=hp2.len
   rw [aC,jg] at hyl
   dsimp only
   rw [getD_ints hi',getD_ints (show i<lo.length by lia),getD_ints (show i<hi.length by lia)]
   have s3:=bx.new (o:=.tup [.int (as.getD i 0),.int (lo.getD i 0),.int (hi.getD i 0)]) nr
   refine ⟨r,_,rfl,SqT.of aq,rfl,_,_,rfl,_,_,rfl,_,_,rfl,rfl,?_⟩
   generalize upd H2 r (.tup [.int (as.getD i 0),.int (lo.getD i 0),.int (hi.getD i 0)])=H3 at s3
   refine ⟨(iu rfl rfl).trans (dR rfl),fh ⟨_,rfl,_,rfl,_,_,rfl,rfl,_,rfl,_,rfl,_,_,rfl,rfl,(by show 2≤sizeLine;decide),fun t nt=>?_⟩⟩
   have s4:=bx.new (o:=.tup [.int (hi.getD i 0-as.getD i 0),.int (as.getD i 0-lo.getD i 0)]) nt
   refine ⟨aE (by lia),_,by rw [hn];lia,rfl,by rw [hn];lia,(s2.trans s3).trans s4,?_⟩
   have hv:(rmN as lo hi)[i]?=some (hi.getD i 0-as.getD i 0,as.getD i 0-lo.getD i 0):=by
    have:=lY (lo:=lo) (hi:=hi) hi'
    rw [ae,aj (by rw [jg];exact hi')] at this
    rw [aj (by rw [jg];exact hi')]
    exact congrArg some this
   rw [take_snoc hv]
   exact ((hp2.same s3).same s4).snoc (e:=(hi.getD i 0-as.getD i 0,as.getD i 0-lo.getD i 0)) (SqT.of aq)
  ·rintro ys H2 ⟨s2,hp2⟩ l nl
   rw [hn,bq (by rw [jg];lia)] at hp2
   exact k l ys _ (bN s2 nl) (s2.next nl) aq (hp2.same (bx.new nl))
def za (K:ai) (c:Cs):Sp:=fun vs H Q _=>∃(x a:Addr) (m p:Int) (es rm:List (Int×Int)) (xs:List V),vs=[.ref x,.ref a,.int p]∧eW K c.Web H x m es∧SqL K H a xs∧Pairs K H xs rm∧rm.length=es.length∧es.length≤40 ∧
 ∀l zs H',H l=none→bx H H'→H' l=some (.lst zs)→Pairs K H' zs (stN es rm p es.length)→Q (.ref l) H'
theorem yw:bY ["web","rooms","place","steps","tie","ends"] ["web","rooms","place"] (az sSf):=⟨rfl,rfl,rfl,by decide +kernel,rfl,by decide +kernel,by decide +kernel⟩
theorem qa (es rm:List (Int×Int)) (p:Int):∀n,(stN es rm p n).length≤2*n
 | 0=>aN _
 | n+1=>by
  have:=qa es rm p n
  show ((stN es rm p n++_)++_).length≤_
  rw [ay,ay]
  split<;>split<;>simp only [bA,List.length_nil]<;>lia
theorem Aa {f:Addr} {fd:FuncData} (F:Fun K "steps_from" "steps_from" sSf f fd) (T:Txt K mg c):fH P w K mg base CX0 1 f fd ["web","rooms","place"] (za K c):=by
 refine F.ok yw (fun vs H Q E h=>?_) (fun cdv A outer s H vs Q E hr h=>?_)
 ·obtain ⟨x,a,m,p,es,rm,xs,rfl,_⟩:=h
  rfl
 ·obtain ⟨x,a,m,p,es,rm,xs,rfl,hw,ha,hx,hrl,hz,k⟩:=h
  refine ⟨_,aB (bF (i:=3) yw.nd rfl (Or.inl rfl) (dh ax))
   (aB (gh PassesOwn.never rfl (jR (K:=K) rfl rfl T.enumerate (ah (gP (K:=K) rfl T.web (pv 0)) ax)) (jS (K:=K) (n:=2) rfl rfl (c_ (bK (i:=4) yw.nd rfl (Or.inl rfl)) (c_ (bK (i:=5) yw.nd rfl (Or.inl rfl)) (gA))) rfl)
    (aB (dO (eV (PW.pt (kr (cm iR (cD (ixT (K:=K) rfl) (pv 5) (aS) (fun _ _=>rfl)) (pv 2) (cH _)) (ji (cm iQ (cD (ixT (K:=K) rfl) (cD (ixL (K:=K) rfl) (pv 1) (pv 4) (fun _ _=>rfl)) (aS) (fun _ _=>rfl)) (aS) (cH _)))))
    (aR (dE (iJ PySem.F.plainAttrs_list PySem.F.slot_list_append PySem.F.type_list_append fm (pv 3) (ah (fF (ah (pv 4) (ah (aS) ax))) ax)))) (cX)))
   (aR (dO (eV (PW.pt (kr (cm iR (cD (ixT (K:=K) rfl) (pv 5) (aS) (fun _ _=>rfl)) (pv 2) (cH _)) (ji (cm iQ (cD (ixT (K:=K) rfl) (cD (ixL (K:=K) rfl) (pv 1) (pv 4) (fun _ _=>rfl)) (aS) (fun _ _=>rfl)) (aS) (cH _)))))
    (aR (dE (iJ PySem.F.plainAttrs_list PySem.F.slot_list_append PySem.F.type_list_append fm (pv 3) (ah (fF (ah (pv 4) (ah (ko iL (aS)) ax))) ax)))) (cX))))))
   (aR (cI (pv 3)))),?_⟩
  refine ⟨by decide,fun l nl=>?_⟩
  have s1:=bx.new (o:=.lst []) nl
  have e1:(upd H l (.lst [])) l=some (.lst []):=aq
  generalize upd H l (.lst [])=H1 at s1 e1
  refine ⟨_,rfl,x,m,es,rfl,hw.same s1,fun t ys ht hp=>⟨true,t,ys,rfl,SqT.of ht,fun J C O hC=>?_⟩⟩
  have hpl:=hp.len
  have ntl:t≠l:=iK ht e1 (by intro z;cases z)
  refine jk O (fun i σ H2=>∃(zs:List V) (v4 v5:Option V),σ=[some (.ref x),some (.ref a),some (.int p),some (.ref l),v4,v5]∧bx H H2∧fj l H1 H2∧H2 l=some (.lst zs)∧Pairs K H2 zs (stN es rm p i)) ⟨[],none,none,rfl,s1,fun _ _ _ z=>z,e1,.nil⟩ (fun i σ H2 _ h=>?_) ?_ ?_
  ·obtain ⟨zs,v4,v5,_,_,sx,_⟩:=h
   exact hC _ (SqT.of (sx _ _ ntl ht))
  ·rintro i σ H2 q hi ⟨zs,v4,v5,rfl,s2,sx2,l2,p2⟩ hq
   obtain ⟨r,e,er,hr2,ei,he⟩:=hp.at hi
   have hr1:SqT K H2 r [.int e.1,.int e.2]:=sx2.tup e1 hr2
   have hE1:es.getD i (0,0)=e:=by rw [ae,ei];rfl
   obtain ⟨g,ag,hg,_⟩:=gy hx (show (0:Int)≤(i:Int) by lia) (by lia)
   have hg1:bc rm (i:Int)=rm.getD i (0,0):=rfl
   rw [hg1] at hg
   have hsl:=qa es rm p i
   dsimp only
   rw [er]
   have s3:=bx.new (o:=.tup [.int (i:Nat),.ref r]) hq
   have t3:(upd H2 q (.tup [.int (i:Nat),.ref r])) q=some (.tup [.int (i:Nat),.ref r]):=aq
   refine ⟨q,_,rfl,SqT.of t3,rfl,_,_,rfl,_,_,rfl,rfl,?_⟩
   have l3:=s3 _ _ l2
   have p3:=p2.same s3
   have r3:=s3.tup hr1
   have s03:=s2.trans s3
   have x3:fj l H1 (upd H2 q (.tup [.int (i:Nat),.ref r])):=fun b o hb z=>s3 _ _ (sx2 b o hb z)
   generalize upd H2 q (.tup [.int (i:Nat),.ref r])=H3 at s3 l3 p3 r3 s03 x3
   clear t3 s3 p2 l2 hr1 s2 sx2
   have add:∀{H4:Hp} {zs:List V} {ss:List (Int×Int)} {nt:Addr} {v:Int},bx H H4→fj l H1 H4→H4 l=some (.lst zs)→Pairs K H4 zs ss→H4 nt=none→(upd H4 nt (.tup [.int (i:Nat),.int v])) l=some (.lst zs)∧bx H (upd (upd H4 nt (.tup [.int (i:Nat),.int v])) l (.lst (zs++[.ref nt])))∧fj l H1 (upd (upd H4 nt (.tup [.int (i:Nat),.int v])) l (.lst (zs++[.ref nt])))∧Pairs K (upd (upd H4 nt (.tup [.int (i:Nat),.int v])) l (.lst (zs++[.ref nt]))) (zs++[.ref nt]) (ss++[((i:Int),v)]):=fun {H4 zs ss nt v} sH sX e4 p4 n4=>by
    have s5:=bx.new (o:=.tup [.int (i:Nat),.int v]) n4
    have l5:=s5 _ _ e4
    refine ⟨l5,(sH.trans s5).upd nl,fun b o hb z=>by rw [bS hb];exact s5 _ _ (sX b o hb z),?_⟩
    have p5:=(p4.same s5).snoc (e:=((i:Int),v)) (r:=nt) (SqT.of aq)
    exact p5.sS eP l5
   refine ⟨fun σ' H'=>∃zs:List V,σ'=[some (.ref x),some (.ref a),some (.int p),some (.ref l),some (.int (i:Nat)),some (.ref r)]∧bx H H'∧fj l H1 H'∧H' l=some (.lst zs)∧SqT K H' r [.int e.1,.int e.2]∧Pairs K H' zs (stN es rm p i++if (es.getD i (0,0)).1=p∧0<(rm.getD i (0,0)).1 then [((i:Int),(1:Int))] else []),?_,?_⟩
   ·refine ⟨_,rfl,r,_,0,_,rfl,rfl,r3,rfl,_,rfl,rfl,_,rfl,ie (fun c1=>?_) (fun c1=>?_)⟩
    ·have c1':=of_decide_eq_true c1
     injection c1' with c1'
     refine ⟨_,rfl,_,rfl,a,_,_,_,rfl,rfl,s03.seq ha,ag,g,_,0,_,rfl,rfl,s03.tup hg,rfl,_,_,rfl,rfl,_,rfl,ie (fun c2=>?_) (fun c2=>?_)⟩
     ·rw [if_pos ⟨by rw [hE1];exact c1',of_decide_eq_true c2⟩]
      refine ⟨_,rfl,.inl ⟨rfl,_,SqL.of l3⟩,_,rfl,(by show 2≤sizeLine;decide),fun nt hnt=>?_⟩
      obtain ⟨a1,a2,a3,a4⟩:=add (v:=1) s03 x3 l3 p3 hnt
      refine ⟨l,_,_,rfl,rfl,a1,aE (by rw [p3.len];lia),_,rfl,a2,a3,aq,?_,a4⟩
      exact (a3.tup e1 hr2)
     ·rw [if_neg (fun z=>c2 (decide_eq_true z.2)),bB]
      exact ⟨zs,rfl,s03,x3,l3,r3,p3⟩
    ·rw [if_neg (fun z=>c1 (decide_eq_true (by rw [←hE1,z.1]))),bB]
     exact gc ⟨zs,rfl,s03,x3,l3,r3,p3⟩
   rintro σ' H4 ⟨zs,rfl,s04,x4,l4,r4,p4⟩
   clear l3 p3 r3 s03 x3
   have hsl2:zs.length<800:=by
    rw [p4.len,ay]
    split<;>simp only [bA,List.length_nil]<;>lia
   refine ⟨fun σ' H'=>∃zs:List V,σ'=[some (.ref x),some (.ref a),some (.int p),some (.ref l),some (.int (i:Nat)),some (.ref r)]∧bx H H'∧fj l H1 H'∧H' l=some (.lst zs)∧Pairs K H' zs (stN es rm p (i+1)),?_,?_⟩
   ·show _
    have fold:stN es rm p (i+1)=(stN es rm p i++if (es.getD i (0,0)).1=p∧0<(rm.getD i (0,0)).1 then [((i:Int),(1:Int))] else [])++if (es.getD i (0,0)).2=p∧0<(rm.getD i (0,0)).2 then [((i:Int),(-1:Int))] else []:=rfl
    rw [fold]
    refine ⟨_,rfl,r,_,1,_,rfl,rfl,r4,rfl,_,rfl,rfl,_,rfl,ie (fun c1=>?_) (fun c1=>?_)⟩
    ·have c1':=of_decide_eq_true c1
     injection c1' with c1'
     refine ⟨_,rfl,_,rfl,a,_,_,_,rfl,rfl,s04.seq ha,ag,g,_,1,_,rfl,rfl,s04.tup hg,rfl,_,_,rfl,rfl,_,rfl,ie (fun c2=>?_) (fun c2=>?_)⟩
     ·rw [if_pos (show (es.getD i (0,0)).2=p∧0<(rm.getD i (0,0)).2 from ⟨by rw [hE1];exact c1',of_decide_eq_true c2⟩)]
      refine ⟨_,rfl,.inl ⟨rfl,_,SqL.of l4⟩,_,rfl,_,rfl,(by show 2≤sizeLine;decide),fun nt hnt=>?_⟩
      obtain ⟨a1,a2,a3,a4⟩:=add (v:=-1) s04 x4 l4 p4 hnt
      exact ⟨l,_,_,rfl,rfl,a1,aE (by lia),_,rfl,a2,a3,aq,a4⟩
     ·rw [if_neg (show ¬((es.getD i (0,0)).2=p∧0<(rm.getD i (0,0)).2) from fun z=>c2 (decide_eq_true z.2)),bB]
      exact ⟨zs,rfl,s04,x4,l4,p4⟩
    ·rw [if_neg (show ¬((es.getD i (0,0)).2=p∧0<(rm.getD i (0,0)).2) from fun z=>c1 (decide_eq_true (by rw [←hE1,z.1]))),bB]
     exact gc ⟨zs,rfl,s04,x4,l4,p4⟩
   ·rintro σ' H' ⟨zs,rfl,h'⟩
    exact ⟨zs,_,_,rfl,h'⟩
  ·rintro σ H2 ⟨zs,v4,v5,rfl,s2,sx2,l2,p2⟩
   rw [hpl] at p2
   exact ⟨_,rfl,k l zs H2 nl s2 l2 p2⟩
def yk (K:ai) (c:Cs):Sp:=fun vs H Q _=>∃(x r:Addr) (m:Int) (es:List (Int×Int)) (s:Int×Int),vs=[.ref x,.ref r]∧eW K c.Web H x m es∧SqT K H r [.int s.1,.int s.2]∧StV es s∧Q (.int (stE es s)) H
theorem Bq:bY ["web","step","ends"] ["web","step"] (az sSe):=⟨rfl,rfl,rfl,by decide +kernel,rfl,by decide +kernel,by decide +kernel⟩
theorem Ab {f:Addr} {fd:FuncData} (F:Fun K "step_end" "step_end" sSe f fd) (T:Txt K mg c):fH P w K mg base CX0 1 f fd ["web","step"] (yk K c):=by
 refine F.ok Bq (fun vs H Q E h=>?_) (fun cdv A outer s H vs Q E hr h=>?_)
 ·obtain ⟨x,r,m,es,s,rfl,_⟩:=h
  rfl
 ·obtain ⟨x,r,m,es,s,rfl,hw,hr2,hv,k⟩:=h
  refine ⟨_,aB (bF (i:=2) Bq.nd rfl (Or.inl rfl) (cD (ixT (K:=K) rfl) (gP (K:=K) rfl T.web (pv 0)) (cD (ixT (K:=K) rfl) (pv 1) (aS) (fun _ _=>rfl)) (fun _ _=>rfl)))
   (aR (cI (g_ (cm iR (cD (ixT (K:=K) rfl) (pv 1) (aS) (fun _ _=>rfl)) (aS) (cH _)) (cD (ixT (K:=K) rfl) (pv 2) (aS) (fun _ _=>rfl)) (cD (ixT (K:=K) rfl) (pv 2) (aS) (fun _ _=>rfl))))),?_⟩
  refine ⟨_,rfl,x,m,es,rfl,hw,fun tt ys ht hp=>?_⟩
  obtain ⟨r1,ar,hr1,_⟩:=gy hp hv.1 hv.2.1
  unfold stE at k
  refine ⟨_,rfl,r,_,0,_,rfl,rfl,hr2,rfl,tt,ys,s.1,.ref r1,rfl,rfl,SqT.of ht,ar,?_⟩
  refine ⟨_,rfl,r,_,1,_,rfl,rfl,hr2,rfl,rfl,_,rfl,ie (fun c1=>?_) (fun c1=>?_)⟩
  ·have c1':=of_decide_eq_true c1
   injection c1' with c1'
   rw [if_pos c1'] at k
   exact ⟨_,rfl,r1,_,1,_,rfl,rfl,hr1,rfl,k⟩
  ·rw [if_neg (fun z=>c1 (decide_eq_true (by rw [z])))] at k
   exact ⟨_,rfl,r1,_,0,_,rfl,rfl,hr1,rfl,k⟩
structure WwI (K:ai) (H:Hp) (m:Int) (es rm:List (Int×Int)) (a:Int) (d r:Addr) (H2:Hp) (rs:List Int) (ad:Int→Addr) (wy:Int→List (Int×Int)) (pl:Int→List Int):Prop where
 same:bx H H2
 dd:H2 d=some (.dK (rs.map fun p=>((Sum.inl p:Key),V.ref (ad p))))
 rr:H2 r=some (.lst (rs.map V.int))
 nd:rs.Nodup
 rng:∀p∈rs,0≤p∧p<m
 a0:a∈rs
 cell:∀p∈rs,H (ad p)=none∧ad p≠r∧∃xs,H2 (ad p)=some (.lst xs)∧Pairs K H2 xs (wy p)
 way:∀p∈rs,km es rm a (wy p) (pl p) p∧∀q∈pl p,q∈rs
structure WwD (K:ai) (m:Int) (es rm:List (Int×Int)) (a:Int) (d:Addr) (H2:Hp) (rs:List Int) (wy:Int→List (Int×Int)):Prop where
 dd:∃ad:Int→Addr,H2 d=some (.dK (rs.map fun p=>((Sum.inl p:Key),V.ref (ad p))))∧∀p∈rs,∃xs,H2 (ad p)=some (.lst xs)∧Pairs K H2 xs (wy p)
 nd:rs.Nodup
 rng:∀p∈rs,0≤p∧p<m
 a0:a∈rs
 way:∀p∈rs,∃pl,km es rm a (wy p) pl p
 clo:∀p∈rs,∀s∈stN es rm p es.length,stE es s∈rs
theorem qr {K:ai} {H H':Hp} {d:Addr} {kvs:List (Key×V)} {xs:List V} {es:List (Int×Int)} (S:fj d H H') (hd:H d=some (.dK kvs)) (h:Pairs K H xs es):Pairs K H' xs es:=Paired.uL h fun _ _ ⟨r,e,q⟩=>⟨r,e,by
 rcases q with (q | ⟨o,q⟩) | q
 ·exact .inl (.inl (S _ _ (iK q hd (by intro z;cases z)) q))
 ·exact .inl (.inr ⟨o,S _ _ (iK q hd (by intro z;cases z)) q⟩)
 ·exact .inr q⟩
def yW (K:ai) (c:Cs):Sp:=fun vs H Q _=>∃(x q:Addr) (a m:Int) (es rm:List (Int×Int)) (us:List V),vs=[.ref x,.ref q,.int a]∧eW K c.Web H x m es∧SqL K H q us∧Pairs K H us rm∧rm.length=es.length∧es.length≤40∧0≤a∧a<m∧m≤20∧de es m ∧
 ∀d rs wy H',bx H H'→WwD K m es rm a d H' rs wy→rs=(wwr es rm a m.toNat).1→wy=(wwr es rm a m.toNat).2→Q (.ref d) H'
theorem uw:bY ["web","rooms","start","ways","reached","at","place","step","other"] ["web","rooms","start"] (az sWw):=⟨rfl,rfl,rfl,by decide +kernel,rfl,by decide +kernel,by decide +kernel⟩
theorem w_ {es:List (Int×Int)} {m:Int} (hE:de es m) {s:Int×Int} (hv:StV es s):0≤stE es s∧stE es s<m:=by
 have hte:bc es s.1∈es:=by
  unfold bc
  rw [ae,aj (show s.1.toNat<es.length by have:=hv.1;have:=hv.2.1;lia)];exact cj _
 have hb:=hE _ hte
 unfold stE;split
 ·exact ⟨hb.2.2.1,hb.2.2.2⟩
 ·exact ⟨hb.1,hb.2.1⟩
theorem zU {f:Addr} {fd:FuncData} (F:Fun K "ways_with_room" "ways_with_room" sWw f fd) (T:Txt K mg c) (D_Sf:Def P w K mg base 1 "steps_from" ["web","rooms","place"] (za K c)) (D_Se:Def P w K mg base 1 "step_end" ["web","step"] (yk K c)):fH P w K mg base CX0 2 f fd ["web","rooms","start"] (yW K c):=by
 refine F.ok uw (fun vs H Q E h=>?_) (fun cdv A outer s H vs Q E hr h=>?_)
 ·obtain ⟨x,q,a,m,es,rm,us,rfl,_⟩:=h
  rfl
 ·obtain ⟨x,q,a,m,es,rm,us,rfl,hw,hq,hu,hrm,hz,a0,a1,m2,hE,k⟩:=h
  refine ⟨_,aB (bF (i:=3) uw.nd rfl (Or.inl rfl) (qp (n_ (pv 2) (dh ax) (qj)) rfl rfl (by simp) (by decide)))
   (aB (bF (i:=4) uw.nd rfl (Or.inl rfl) (dh (ah (pv 2) ax)))
   (aB (bF (i:=5) uw.nd rfl (Or.inl rfl) (aS))
   (aB (k_ PassesOwn.never (cm iP (pv 5) (bg (ig (K:=K) rfl) (by rfl) T.len aX (ah (pv 4) ax)) (cH _))
    (aB (bF (i:=6) uw.nd rfl (Or.inl rfl) (cD (ixL (K:=K) rfl) (pv 4) (pv 5) (fun _ _=>rfl)))
   (aB (gh PassesOwn.never rfl (ju (K:=K) rfl (bX D_Sf hr (ah (pv 0) (ah (pv 1) (ah (pv 6) ax))))) (bK (i:=7) uw.nd rfl (Or.inl rfl))
    (aB (bF (i:=8) uw.nd rfl (Or.inl rfl) (bX D_Se hr (ah (pv 0) (ah (pv 7) ax))))
   (aR (dO (eV (lZ (iy (jz hr) (pv 8) (pv 3)))
    (aB (qh (jz hr) (pv 3) (pv 8) (bQ gk (lu (jz hr) (pv 3) (pv 6) (fun _ _=>rfl)) (dh (ah (pv 7) ax))) rfl)
   (aR (dE (iJ PySem.F.plainAttrs_list PySem.F.slot_list_append PySem.F.type_list_append fm (pv 4) (ah (pv 8) ax))))) (cX))))))
   (aR (qi (i:=5) uw.nd rfl (Or.inl rfl) (aS) my)))))
   (aR (cI (pv 3)))))),?_⟩
  intro d nd
  have s1:bx H (upd H d (.dK [])):=bx.new nd
  have d1:(upd H d (.dK [])) d=some (.dK []):=aq
  generalize upd H d (.dK [])=H1 at s1 d1
  refine ⟨_,rfl,by decide,fun l0 nl0=>?_⟩
  have s2:=s1.next (o:=.lst []) nl0
  have d2:=bx.new (o:=.lst []) nl0 _ _ d1
  have e2:(upd H1 l0 (.lst [])) l0=some (.lst []):=aq
  have l0H:H l0=none:=bN s1 nl0
  generalize upd H1 l0 (.lst [])=H2 at s2 d2 e2
  refine ⟨d2,[(Sum.inl a,.ref l0)],rfl,(by show 1≤15;decide),?_⟩
  have d3:(upd H2 d (.dK (ia [] [((Sum.inl a:Key),V.ref l0)]))) d=some (.dK ([a].map fun p=>((Sum.inl p:Key),V.ref l0))):=aq
  have s3:bx H (upd H2 d (.dK (ia [] [((Sum.inl a:Key),V.ref l0)]))):=s2.upd nd
  have e3:(upd H2 d (.dK (ia [] [((Sum.inl a:Key),V.ref l0)]))) l0=some (.lst []):=by rw [bS (bw d1 nl0).symm];exact e2
  generalize upd H2 d (.dK (ia [] [((Sum.inl a:Key),V.ref l0)]))=H3 at d3 s3 e3
  refine ⟨_,rfl,(by show 1≤sizeLine;decide),fun r nr=>?_⟩
  have s4:=s3.next (o:=.lst [V.int a]) nr
  have d4:=bx.new (o:=.lst [V.int a]) nr _ _ d3
  have e4:=bx.new (o:=.lst [V.int a]) nr _ _ e3
  have r4:(upd H3 r (.lst [V.int a])) r=some (.lst ([a].map V.int)):=aq
  have rH:H r=none:=bN s3 nr
  have lr:l0≠r:=bw e3 nr
  generalize upd H3 r (.lst [V.int a])=H4 at s4 d4 e4 r4
  clear s3 d3 e3 s2 d2 e2 nl0 s1 d1 nr
  have drn:d≠r:=iK d4 r4 (by intro z;cases z)
  refine ⟨fun n σ H2=>∃(rs:List Int) (st:Nat) (ad:Int→Addr) (wy:Int→List (Int×Int)) (pl:Int→List Int) (v7 v8 v9:Option V),n=m.toNat-st∧σ=[some (.ref x),some (.ref q),some (.int a),some (.ref d),some (.ref r),some (.int st),v7,v8,v9]∧WwI K H m es rm a d r H2 rs ad wy pl∧st≤rs.length ∧
   (∀j,j<st→∀s∈stN es rm (rs.getD j 0) es.length,stE es s∈rs)∧wo es rm (m.toNat-st) (rs,wy) st=wo es rm m.toNat ([a],fun _=>[]) 0,⟨m.toNat-0,[a],0,fun _=>l0,fun _=>[],fun _=>[],none,none,none,rfl,rfl,?_,dU _,(fun j hj=>absurd hj (cw _)),rfl⟩,?_⟩
  ·refine ⟨s4,d4,r4,by simp,fun p hp=>?_,ak.mpr rfl,fun p hp=>⟨l0H,lr,[],e4,.nil⟩,fun p hp=>?_⟩
   ·rw [ak.mp hp];exact ⟨a0,a1⟩
   ·rw [ak.mp hp];exact ⟨.nil,fun q hq=>nomatch hq⟩
  rintro n σ H5 ⟨rs,st,ad,wy,pl,v7,v8,v9,rfl,rfl,I,hst,clo,hrun⟩
  have hrl:=fk I.nd I.rng
  have hlm:(rs.map V.int).length=rs.length:=aa ..
  refine ⟨_,rfl,_,rfl,r,_,rfl,.inl (SqL.of I.rr),_,_,rfl,rfl,_,rfl,?_⟩
  by_cases hlt:st<rs.length
  ·rw [decide_eq_true (show (st:Int)<((rs.map V.int).length:Int) by lia)]
   refine fh ⟨_,fun σ' H' h=>h,?_⟩
   have hpm:rs.getD st 0∈rs:=by rw [ae,aj hlt];exact cj hlt
   have hat:atI (rs.map V.int) (st:Int)=some (.int (rs.getD st 0)):=ft (ns:=rs) (k:=(st:Int)) (by lia) (by lia)
   refine ⟨_,rfl,_,rfl,r,_,_,_,rfl,rfl,SqL.of I.rr,hat,?_⟩
   obtain ⟨p,ep⟩:∃p,p=rs.getD st 0:=⟨_,rfl⟩
   rw [←ep] at hpm
   refine ⟨_,rfl,_,rfl,_,rfl,x,q,m,_,es,rm,us,rfl,hw.same I.same,I.same.seq hq,hu.same I.same,hrm,hz,fun l zs H7 nl sN eN pN=>?_⟩
   rw [←ep] at pN
   obtain ⟨wy0,ewy⟩:∃wy0,wy0=wy:=⟨_,rfl⟩
   have I7:WwI K H m es rm a d r H7 rs ad wy0 pl:=by
    rw [ewy]
    refine ⟨I.same.trans sN,sN _ _ I.dd,sN _ _ I.rr,I.nd,I.rng,I.a0,fun p hp=>?_,I.way⟩
    obtain ⟨c1,c2,xs,c3,c4⟩:=I.cell p hp
    exact ⟨c1,c2,xs,sN _ _ c3,c4.same sN⟩
   have nlr:l≠r:=(bw I.rr nl).symm
   have nld:l≠d:=(bw I.dd nl).symm
   have nlH:H l=none:=bN I.same nl
   have hzl:=pN.len
   refine ⟨false,l,_,rfl,SqL.of eN,fun J C O hC=>gQ O (fun i σ H8=>∃(rs':List Int) (ad:Int→Addr) (wy:Int→List (Int×Int)) (pl:Int→List Int) (v8 v9:Option V),σ=[some (.ref x),some (.ref q),some (.int a),some (.ref d),some (.ref r),some (.int st),some (.int (rs.getD st 0)),v8,v9]∧WwI K H m es rm a d r H8 rs' ad wy pl∧(∃more,rs'=rs++more) ∧
    H8 l=some (.lst zs)∧Pairs K H8 zs (stN es rm p es.length)∧(∀s∈(stN es rm p es.length).take i,stE es s∈rs')∧(rs',wy)=((stN es rm p es.length).take i).foldl (uY es p) (rs,wy0)) ⟨rs,ad,wy0,pl,_,_,rfl,I7,⟨[],(bB _).symm⟩,eN,pN,(fun s hs=>(by simp at hs)),rfl⟩ (fun i σ H8 _ h=>?_) ?_ ?_⟩
   ·obtain ⟨rs',ad,wy,pl,v8,v9,_,_,_,l8,_,_⟩:=h
    exact hC _ (SqL.of l8)
   ·rintro i σ H8 hi ⟨rs',ad,wy,pl,v8,v9,rfl,I8,⟨more,em⟩,l8,p8,hdone,hfold⟩
    obtain ⟨g,v,ev,hg,gv,hvm⟩:=p8.at hi
    obtain ⟨hv,hvb,hvr⟩:=qD (aN _) hvm
    have hp8:p∈rs':=by rw [em];exact aI _ hpm
    have hor:=w_ hE hv
    try dsimp only
    rw [ev]
    refine ⟨_,rfl,_,rfl,x,g,m,es,v,rfl,hw.same I8.same,hg,hv,?_⟩
    obtain ⟨o,eo⟩:∃o,o=stE es v:=⟨_,rfl⟩
    refine ⟨fun σ' H'=>∃(rs':List Int) (ad:Int→Addr) (wy:Int→List (Int×Int)) (pl:Int→List Int),σ'=[some (.ref x),some (.ref q),some (.int a),some (.ref d),some (.ref r),some (.int st),some (.int (rs.getD st 0)),some (.ref g),some (.int (stE es v))]∧WwI K H m es rm a d r H' rs' ad wy pl∧(∃more,rs'=rs++more) ∧
     H' l=some (.lst zs)∧Pairs K H' zs (stN es rm p es.length)∧(∀s∈(stN es rm p es.length).take (i+1),stE es s∈rs')∧(rs',wy)=((stN es rm p es.length).take (i+1)).foldl (uY es p) (rs,wy0),?_,?_⟩
    ·refine ⟨_,rfl,_,rfl,d,_,rfl,kQ.k (k:=Sum.inl (stE es v)) I8.dd,_,rfl,?_⟩
     rw [eI,←eo]
     rw [←eo] at hor
     by_cases ho:o∈rs'
     ·rw [if_pos ho]
      refine gc ⟨rs',ad,wy,pl,rfl,I8,⟨more,em⟩,l8,p8,fun t ht=>?_,?_⟩
      ·rw [take_snoc gv] at ht
       rcases aM.mp ht with y | y
       ·exact hdone t y
       ·rw [ak.mp y,←eo];exact ho
      ·rw [take_snoc gv,List.foldl_append,←hfold]
       show _=uY es p (rs',wy) v
       unfold uY
       rw [←eo,if_pos ho]
     ·rw [if_neg ho]
      refine fh ?_
      obtain ⟨n1,nr1,xs1,c1,c1p⟩:=I8.cell p hp8
      obtain ⟨wp,wq⟩:=I8.way p hp8
      have hwl:(wy p).length≤20:=by
       rw [wp.len]
       have:=fk (m:=m) wp.nd fun z hz=>by
        rcases aM.mp hz with y | y
        ·exact I8.rng z (wq z y)
        ·rw [ak.mp y];exact I8.rng p hp8
       rw [ay] at this
       lia
      have hrl8:=fk I8.nd I8.rng
      have hx1:=c1p.len
      refine ⟨_,rfl,_,rfl,d,.ref (ad p),rfl,?_,_,rfl,(by show 1≤sizeLine;decide),fun q1 nq1=>?_⟩
      ·have:=kQ.k (k:=Sum.inl p) I8.dd
       rw [eI,if_pos hp8,ep] at this
       rw [ep]
       exact this
      have s9:=bx.new (o:=.lst [V.ref g]) nq1
      have e9:(upd H8 q1 (.lst [V.ref g])) q1=some (.lst [V.ref g]):=aq
      generalize upd H8 q1 (.lst [V.ref g])=H9 at s9 e9
      refine ⟨ad p,q1,_,_,rfl,rfl,s9 _ _ c1,e9,aL (aE (by show xs1.length+1≤1000;lia)),fun q2 nq2=>?_⟩
      have s10:=s9.next (o:=.lst (xs1++[V.ref g])) nq2
      have e10:(upd H9 q2 (.lst (xs1++[V.ref g]))) q2=some (.lst (xs1++[V.ref g])):=aq
      generalize upd H9 q2 (.lst (xs1++[V.ref g]))=H10 at s10 e10
      have q2H8:H8 q2=none:=bN s9 nq2
      have d10:=s10 _ _ I8.dd
      have r10:=s10 _ _ I8.rr
      have w10:Pairs K H10 (xs1++[V.ref g]) (wy p++[v]):=(c1p.same s10).snoc (s10.tup hg)
      have pk:putK (rs'.map fun p=>((Sum.inl p:Key),V.ref (ad p))) (Sum.inl o) (V.ref q2)=(rs'++[o]).map fun z=>((Sum.inl z:Key),V.ref (if z=o then q2 else ad z)):=by
       rw [kY _ (by rw [eI,if_neg ho]),aw]
       congr 1
       ·refine dW fun z hz=>?_
        rw [if_neg (show ¬z=o from fun y=>ho (y▸hz))]
       ·rw [bf,fw,if_pos rfl]
      refine ⟨_,rfl,_,rfl,d,_,rfl,wD.k (k:=Sum.inl o) d10 (aE (by rw [aa];lia)),?_⟩
      rw [pk]
      have x11:fj d H10 (upd H10 d (.dK ((rs'++[o]).map fun z=>((Sum.inl z:Key),V.ref (if z=o then q2 else ad z))))):=eP
      have d11:(upd H10 d (.dK ((rs'++[o]).map fun z=>((Sum.inl z:Key),V.ref (if z=o then q2 else ad z))))) d=some (.dK ((rs'++[o]).map fun z=>((Sum.inl z:Key),V.ref (if z=o then q2 else ad z)))):=aq
      have s11:bx H (upd H10 d (.dK ((rs'++[o]).map fun z=>((Sum.inl z:Key),V.ref (if z=o then q2 else ad z))))):=(I8.same.trans s10).upd nd
      generalize upd H10 d (.dK ((rs'++[o]).map fun z=>((Sum.inl z:Key),V.ref (if z=o then q2 else ad z))))=H11 at x11 d11 s11
      have r11:=x11 _ _ drn.symm r10
      refine ⟨_,rfl,.inl ⟨rfl,_,SqL.of r11⟩,_,rfl,r,_,_,rfl,rfl,r11,aE (by rw [aa];lia),?_⟩
      have x12:fj r H11 (upd H11 r (.lst (rs'.map V.int++[V.int o]))):=eP
      have r12:(upd H11 r (.lst (rs'.map V.int++[V.int o]))) r=some (.lst ((rs'++[o]).map V.int)):=by rw [aw];exact aq
      have s12:bx H (upd H11 r (.lst (rs'.map V.int++[V.int o]))):=s11.upd rH
      generalize upd H11 r (.lst (rs'.map V.int++[V.int o]))=H12 at x12 r12 s12
      have q2r:q2≠r:=(bw I8.rr q2H8).symm
      have q2d:q2≠d:=(bw I8.dd q2H8).symm
      have lq:∀z∈rs',ad z≠d:=fun z hz=>let ⟨_,_,_,c,_⟩:=I8.cell z hz;iK c I8.dd (by intro y;cases y)
      have pt:∀{xs:List V} {ss:List (Int×Int)},Pairs K H10 xs ss→Pairs K H12 xs ss:=fun h=>(qr x11 d10 h).sS x12 r11
      refine ⟨rs'++[o],fun z=>if z=o then q2 else ad z,fun z=>if z=o then wy p++[v] else wy z,fun z=>if z=o then pl p++[p] else pl z,by rw [eo];rfl,⟨s12,x12 _ _ drn d11,r12,fV I8.nd ho,fun z hz=>?_,aI _ I8.a0,fun z hz=>?_,fun z hz=>?_⟩,⟨more++[o],by rw [em,eR]⟩,x12 _ _ nlr (x11 _ _ nld (s10 _ _ l8)),pt (p8.same s10),fun t ht=>?_,?_⟩
      ·rcases aM.mp hz with y | y
       ·exact I8.rng z y
       ·rw [ak.mp y];exact hor
      ·try dsimp only
       rcases aM.mp hz with y | y
       ·have hne:¬z=o:=fun w=>ho (w▸y)
        obtain ⟨n2,nr2,xs2,c2,c2p⟩:=I8.cell z y
        rw [if_neg hne,if_neg hne]
        exact ⟨n2,nr2,xs2,x12 _ _ nr2 (x11 _ _ (lq z y) (s10 _ _ c2)),pt (c2p.same s10)⟩
       ·rw [if_pos (ak.mp y),if_pos (ak.mp y)]
        exact ⟨bN I8.same q2H8,q2r,_,x12 _ _ q2r (x11 _ _ q2d e10),pt w10⟩
      ·try dsimp only
       rcases aM.mp hz with y | y
       ·have hne:¬z=o:=fun w=>ho (w▸y)
        rw [if_neg hne,if_neg hne]
        exact ⟨(I8.way z y).1,fun w hw=>aI _ ((I8.way z y).2 w hw)⟩
       ·have hzo:=ak.mp y
        rw [if_pos hzo,if_pos hzo,hzo,eo]
        refine ⟨.snoc wp hv hvb hvr fun w=>?_,fun w hw=>?_⟩
        ·rw [←eo] at w
         rcases aM.mp w with y | y
         ·exact ho (wq _ y)
         ·exact ho (ak.mp y▸hp8)
        ·rcases aM.mp hw with y | y
         ·exact aI _ (wq _ y)
         ·rw [ak.mp y];exact aI _ hp8
      ·rw [take_snoc gv] at ht
       rcases aM.mp ht with y | y
       ·exact aI _ (hdone t y)
       ·rw [ak.mp y,←eo];exact aG _ (ak.mpr rfl)
      ·rw [take_snoc gv,List.foldl_append,←hfold]
       show _=uY es p (rs',wy) v
       unfold uY
       rw [←eo,if_neg ho]
    ·rintro σ' H' ⟨rs',ad,wy,pl,rfl,I',ext,l',p',hdone',hfold'⟩
     exact ⟨rs',ad,wy,pl,_,_,rfl,I',ext,l',p',hdone',hfold'⟩
   ·rintro σ H8 ⟨rs',ad,wy,pl,v8,v9,rfl,I8,⟨more,em⟩,l8,p8,hdone,hfold⟩
    rw [hzl,bD] at hdone hfold
    have hrl8:=fk I8.nd I8.rng
    refine ⟨_,rfl,_,_,rfl,rfl,m.toNat-(st+1),by lia,rs',st+1,ad,wy,pl,_,_,_,rfl,rfl,I8,by rw [em,ay];lia,fun j hj s hs=>?_,?_⟩
    rotate_left
    ·rw [hfold,ewy,←hrun,show m.toNat-st=(m.toNat-(st+1))+1 by lia]
     show _=if st<rs.length then wo es rm (m.toNat-(st+1)) (zN es rm (rs,_) st) (st+1) else _
     rw [if_pos hlt]
     unfold zN
     rw [ep]
    by_cases hjs:j<st
    ·have ej:rs'.getD j 0=rs.getD j 0:=by rw [em,ae,cG (by lia),ae]
     rw [ej] at hs
     rw [em]
     exact aI _ (clo j hjs s hs)
    ·have hje:j=st:=by lia
     have ej:rs'.getD j 0=p:=by rw [hje,ep,em,ae,cG hlt,ae]
     rw [ej] at hs
     exact hdone s hs
  ·rw [decide_eq_false (show ¬(st:Int)<((rs.map V.int).length:Int) by lia)]
   refine gc ?_
   have erun:(rs,wy)=wwr es rm a m.toNat:=by
    unfold wwr
    rw [←hrun,sY hlt]
   refine ⟨_,rfl,k d rs wy H5 I.same ⟨⟨ad,I.dd,fun p hp=>(I.cell p hp).2.2⟩,I.nd,I.rng,I.a0,fun p hp=>⟨_,(I.way p hp).1⟩,fun p hp s hs=>?_⟩ (by rw [←erun]) (by rw [←erun])⟩
   obtain ⟨j,hj,rfl⟩:=cf.mp hp
   have ej:rs.getD j 0=rs[j]:=by rw [ae,aj hj];rfl
   exact clo j (by lia) s (by rw [ej];exact hs)
def zi (K:ai):Sp:=fun vs H Q _=>∃(a p:Addr) (xs ys:List V) (rm ss:List (Int×Int)),vs=[.ref a,.ref p]∧SqL K H a xs∧Pairs K H xs rm∧SqL K H p ys∧Pairs K H ys ss∧ss.length≤900∧(∀s∈ss,0≤s.1∧s.1<(rm.length:Int)) ∧
 ∀l H',H l=none→bx H H'→H' l=some (.lst ((ss.map (rmA rm)).map V.int))→Q (.ref l) H'
theorem Cd:bY ["rooms","steps"] ["rooms","steps"] (az sRa):=⟨rfl,rfl,rfl,by decide +kernel,rfl,by decide +kernel,by decide +kernel⟩
theorem Ai {f:Addr} {fd:FuncData} (F:Fun K "room_along" "room_along" sRa f fd) (T:Txt K mg c):fH P w K mg base CX0 1 f fd ["rooms","steps"] (zi K):=by
 refine F.ok Cd (fun vs H Q E h=>?_) (fun cdv A outer s H vs Q E hr h=>?_)
 ·obtain ⟨a,p,xs,ys,rm,ss,rfl,_⟩:=h
  rfl
 ·obtain ⟨a,p,xs,ys,rm,ss,rfl,ha,hx,hp,hy,hz,hs,k⟩:=h
  refine ⟨_,aR (cI (fJ (N':=["tie","sense","rooms"]) (nl:=2) (js:=[0]) rfl (.of (osc:=az sRa) (N:=["rooms","steps"]) (by decide +kernel) rfl rfl) (f_ (K:=K) rfl (pv 1))
    (fun _ _ _ _=>jT (K:=K) (i:=0) (j:=1) rfl rfl (show (["tie","sense","rooms"]:List Str).Nodup by decide +kernel) rfl rfl rfl rfl) (fun _ _ _ _=>dD)
    (fun _ _ _ _=>g_ (cm iR (pv 1) (aS) (cH _)) (cD (ixT (K:=K) rfl) (cD (ixL (K:=K) rfl) (pv 2) (pv 0) (fun _ _=>rfl)) (aS) (fun _ _=>rfl)) (cD (ixT (K:=K) rfl) (cD (ixL (K:=K) rfl) (pv 2) (pv 0) (fun _ _=>rfl)) (aS) (fun _ _=>rfl))))),?_⟩
  have hyl:=hy.len
  refine ⟨_,rfl,p,_,rfl,.inl hp,fun J C O hC=>fS O (fun i ws H2=>H2=H∧ws=((ss.map (rmA rm)).take i).map V.int) (aL (aE (by lia))) ⟨rfl,rfl⟩ ?_ ?_ ?_⟩
  ·rintro i ws H2 hi ⟨rfl,rfl⟩
   exact ⟨hC _ (bx.refl _),by rw [aa,aC];lia⟩
  ·rintro i ws H2 hi ⟨rfl,rfl⟩
   obtain ⟨r,e,er,hr2,ei,he⟩:=hy.at hi
   obtain ⟨b1,b2⟩:=hs e he
   obtain ⟨r1,ar,hr1,_⟩:=gy hx b1 b2
   have hv:(ss.map (rmA rm))[i]?=some (rmA rm e):=by rw [a_,ei];rfl
   have hl2:(((ss.map (rmA rm)).take i).map V.int).length<sizeLine:=aE (by rw [aa,aC];lia)
   try dsimp only
   rw [er]
   refine ⟨r,_,rfl,hr2,rfl,_,_,rfl,_,_,rfl,rfl,iu rfl rfl,fh ?_⟩
   refine ⟨_,rfl,rfl,_,rfl,ie (fun c1=>?_) (fun c1=>?_)⟩
   ·have c1':=of_decide_eq_true c1
    injection c1' with c1'
    have ev:rmA rm e=(bc rm e.1).1:=if_pos c1'
    refine ⟨_,rfl,_,rfl,a,_,_,_,rfl,rfl,ha,ar,r1,_,0,_,rfl,rfl,hr1,rfl,hl2,_,by lia,rfl,by lia,rfl,?_⟩
    rw [take_snoc hv,aw,ev];rfl
   ·have ev:rmA rm e=(bc rm e.1).2:=if_neg (fun z=>c1 (decide_eq_true (by rw [z])))
    refine ⟨_,rfl,_,rfl,a,_,_,_,rfl,rfl,ha,ar,r1,_,1,_,rfl,rfl,hr1,rfl,hl2,_,by lia,rfl,by lia,rfl,?_⟩
    rw [take_snoc hv,aw,ev];rfl
  ·rintro ws H2 ⟨rfl,rfl⟩ l nl
   rw [bq (by rw [aa];lia)]
   exact k l _ nl (bx.new nl) aq
def zj (K:ai):Sp:=fun vs H Q _=>∃(a p:Addr) (ys:List V) (as:List Int) (ss:List (Int×Int)) (z:Int),vs=[.ref a,.ref p,.int z]∧SqL K H a (as.map V.int)∧SqL K H p ys∧Pairs K H ys ss∧as.length≤900∧(∀s∈ss,0≤s.1∧s.1<(as.length:Int)∧(s.2=1∨s.2=-1))∧z.natAbs<2^200 ∧
 ∀l H',H l=none→bx H H'→H' l=some (.lst ((psh as ss z).map V.int))→Q (.ref l) H'
theorem yy:bY ["amounts","steps","size","told","tie","sense"] ["amounts","steps","size"] (az sPu):=⟨rfl,rfl,rfl,by decide +kernel,rfl,by decide +kernel,by decide +kernel⟩
theorem Aj {f:Addr} {fd:FuncData} (F:Fun K "pushed" "pushed" sPu f fd) (T:Txt K mg c):fH P w K mg base CX0 1 f fd ["amounts","steps","size"] (zj K):=by
 refine F.ok yy (fun vs H Q E h=>?_) (fun cdv A outer s H vs Q E hr h=>?_)
 ·obtain ⟨a,p,ys,as,ss,z,rfl,_⟩:=h
  rfl
 ·obtain ⟨a,p,ys,as,ss,z,rfl,ha,hp,hy,hz,hs,hzb,k⟩:=h
  refine ⟨_,aB (bF (i:=3) yy.nd rfl (Or.inl rfl) (fK (mO (K:=K) rfl) (by rfl) T.list cJ (ah (pv 0) ax)))
   (aB (gh PassesOwn.never rfl (ju (K:=K) rfl (pv 1)) (jS (K:=K) (n:=2) rfl rfl (c_ (bK (i:=4) yy.nd rfl (Or.inl rfl)) (c_ (bK (i:=5) yy.nd rfl (Or.inl rfl)) (gA))) rfl)
    (aR (lj (pv 3) (pv 4) (jI (K:=K) rfl) (bQ gD (pv 5) (pv 2)) my set_list)))
   (aR (cI (pv 3)))),?_⟩
  refine ⟨_,rfl,a,_,rfl,.inl ha,fun l nl=>?_⟩
  have s1:=bx.new (o:=.lst (as.map V.int)) nl
  have e1:(upd H l (.lst (as.map V.int))) l=some (.lst (as.map V.int)):=aq
  generalize upd H l (.lst (as.map V.int))=H1 at s1 e1
  have hyl:=hy.len
  refine ⟨_,rfl,false,p,_,rfl,s1.seq hp,fun J C O hC=>gQ O (fun i σ H2=>∃(v4 v5:Option V),σ=[some (.ref a),some (.ref p),some (.int z),some (.ref l),v4,v5]∧bx H H2∧H2 l=some (.lst ((psh as (ss.take i) z).map V.int))) ⟨none,none,rfl,s1,e1⟩ (fun i σ H2 _ h=>?_) ?_ ?_⟩
  ·obtain ⟨v4,v5,_,s2,_⟩:=h
   exact hC _ (s2.seq hp)
  ·rintro i σ H2 hi ⟨v4,v5,rfl,s2,e2⟩
   obtain ⟨r,e,er,hr2,ei,he⟩:=hy.at hi
   obtain ⟨b1,b2,b3⟩:=hs e he
   have hpl:=iO as z (ss.take i)
   try dsimp only
   rw [er]
   have hb:e.2.natAbs<2^200:=by rcases b3 with b | b<;>rw [b]<;>decide
   refine ⟨r,_,rfl,s2.tup hr2,rfl,_,_,rfl,_,_,rfl,rfl,?_⟩
   refine ⟨_,rfl,_,rfl,l,_,e.1,_,rfl,rfl,b1,SqL.of e2,jJ (by lia),_,rfl,_,rfl,_,_,rfl,rfl,⟨hb,hzb⟩,_,_,rfl,rfl,l,_,e.1,_,rfl,rfl,e2,iB b1 (by rw [aa];lia),?_⟩
   rw [gN]
   refine ⟨_,_,rfl,s2.upd nl,?_⟩
   rw [take_snoc ei,iE]
   exact aq
  ·rintro σ H2 ⟨v4,v5,rfl,s2,e2⟩
   rw [hyl,bD] at e2
   exact ⟨_,rfl,k l H2 nl s2 e2⟩
def zD (K:ai):Sp:=fun vs H Q _=>∃(a l h:Int),vs=[.int a,.int l,.int h]∧Q (.int (oE a l h)) H
theorem Cp:bY ["amount","low","high"] ["amount","low","high"] (az sCd):=⟨rfl,rfl,rfl,by decide +kernel,rfl,by decide +kernel,by decide +kernel⟩
theorem AI {f:Addr} {fd:FuncData} (F:Fun K "change_due" "change_due" sCd f fd) (T:Txt K mg c):fH P w K mg base CX0 1 f fd ["amount","low","high"] (zD K):=by
 refine F.ok Cp (fun vs H Q E h=>?_) (fun cdv A outer s H vs Q E hr h=>?_)
 ·obtain ⟨a,l,h,rfl,_⟩:=h
  rfl
 ·obtain ⟨a,l,h,rfl,k⟩:=h
  refine ⟨_,aB (eV (cm iP (pv 0) (pv 1) (cH _))
    (aR (cI (bQ gj (pv 1) (pv 0)))) (cX))
   (aB (eV (cm iQ (pv 0) (pv 2) (cH _))
    (aR (cI (bQ gj (pv 2) (pv 0)))) (cX))
   (aR (cI (aS)))),?_⟩
  unfold oE at k
  refine ⟨_,rfl,_,rfl,_,_,rfl,rfl,_,rfl,ie (fun c1=>?_) (fun c1=>?_)⟩
  ·rw [if_pos (of_decide_eq_true c1)] at k
   exact ⟨_,rfl,_,rfl,_,_,rfl,rfl,k⟩
  ·rw [if_neg (fun z=>c1 (decide_eq_true z))] at k
   refine ⟨_,rfl,_,rfl,_,_,rfl,rfl,_,rfl,ie (fun c2=>?_) (fun c2=>?_)⟩
   ·rw [if_pos (of_decide_eq_true c2)] at k
    exact ⟨_,rfl,_,rfl,_,_,rfl,rfl,k⟩
   ·rw [if_neg (fun z=>c2 (decide_eq_true z))] at k
    exact k
structure BtF (es:List (Int×Int)) (lo hi as:List Int):Prop where
 len:as.length=es.length
 rq:∀p:Int,dp p es as es.length=0
 ins:∀t,t<es.length→lo.getD t 0≤as.getD t 0∧as.getD t 0≤hi.getD t 0
def zF (K:ai) (c:Cs):Sp:=fun vs H Q _=>∃(x p q:Addr) (m:Int) (es:List (Int×Int)) (lo hi:List Int),vs=[.ref x,.ref p,.ref q]∧eW K c.Web H x m es∧SqL K H p (lo.map V.int)∧SqL K H q (hi.map V.int)∧lo.length=es.length∧hi.length=es.length∧es.length≤40∧1≤m∧m≤20∧de es m∧(∀i,i<es.length→lo.getD i 0≤hi.getD i 0)∧(∀i,i<es.length→-2^150≤lo.getD i 0∧hi.getD i 0≤2^150) ∧
 (∀t l as H',H l=none→bx H H'→H' t=some (.tup [.str "flow",.ref l])→H' l=some (.lst (as.map V.int))→BtF es lo hi as→BtR es lo hi m.toNat es.length (true,as)→Q (.ref t) H') ∧
 (∀t l ps R H',H l=none→bx H H'→H' t=some (.tup [.str "shut",.ref l])→H' l=some (.lst (ps.map V.int))→ps=rst m.toNat R→0<shS ps es lo hi es.length→BtR es lo hi m.toNat es.length (false,ps)→Q (.ref t) H')
theorem pL:bY ["web","lows","highs","amounts","tie","ends","due","step","goal","rooms","ways","size"] ["web","lows","highs"] (az sBt):=⟨rfl,rfl,rfl,by decide +kernel,rfl,by decide +kernel,by decide +kernel⟩
theorem AK {f:Addr} {fd:FuncData} (F:Fun K "between" "between" sBt f fd) (T:Txt K mg c) (D_Cb:Def P w K mg base 2 "check_bounds" ["web","lows","highs"] (zE K c)) (D_Rl:Def P w K mg base 1 "rooms_left" ["amounts","lows","highs"] (zf K)) (D_Se:Def P w K mg base 1 "step_end" ["web","step"] (yk K c)) (D_Ww:Def P w K mg base 2 "ways_with_room" ["web","rooms","start"] (yW K c)) (D_Ra:Def P w K mg base 1 "room_along" ["rooms","steps"] (zi K)) (D_Pu:Def P w K mg base 1 "pushed" ["amounts","steps","size"] (zj K)) (D_Cd:Def P w K mg base 1 "change_due" ["amount","low","high"] (zD K)):fH P w K mg base CX0 3 f fd ["web","lows","highs"] (zF K c):=by
 refine F.ok pL (fun vs H Q E h=>?_) (fun cdv A outer s H vs Q E hr h=>?_)
 ·obtain ⟨x,p,q,m,es,lo,hi,rfl,_⟩:=h
  rfl
 ·obtain ⟨x,p,q,m,es,lo,hi,rfl,hw,hp,hq,hll,hhl,hz,m1,m2,hE,hlh,hB,k1,k2⟩:=h
  refine ⟨_,aB (dE (bX D_Cb hr (ah (pv 0) (ah (pv 1) (ah (pv 2) ax)))))
   (aB (bF (i:=3) pL.nd rfl (Or.inl rfl) (bQ jv (dh (ah (aS) ax)) (bg (ig (K:=K) rfl) (by rfl) T.len aX (ah (gP (K:=K) rfl T.web (pv 0)) ax))))
   (aB (gh PassesOwn.never rfl (jR (K:=K) rfl rfl T.enumerate (ah (gP (K:=K) rfl T.web (pv 0)) ax)) (jS (K:=K) (n:=2) rfl rfl (c_ (bK (i:=4) pL.nd rfl (Or.inl rfl)) (c_ (bK (i:=5) pL.nd rfl (Or.inl rfl)) (gA))) rfl)
    (aB (bF (i:=6) pL.nd rfl (Or.inl rfl) (bX D_Cd hr (ah (cD (ixL (K:=K) rfl) (pv 3) (pv 4) (fun _ _=>rfl)) (ah (cD (ixL (K:=K) rfl) (pv 1) (pv 4) (fun _ _=>rfl)) (ah (cD (ixL (K:=K) rfl) (pv 2) (pv 4) (fun _ _=>rfl)) ax)))))
   (aR (k_ PassesOwn.never (cm mh (pv 6) (aS) (cH _))
    (aB (dO (bF (i:=7) pL.nd rfl (Or.inl rfl) (fF (ah (pv 4) (ah (g_ (cm iQ (pv 6) (aS) (cH _)) (aS) (ko iL (aS))) ax)))))
   (aB (dO (bF (i:=8) pL.nd rfl (Or.inl rfl) (g_ (cm iQ (pv 6) (aS) (cH _)) (cD (ixT (K:=K) rfl) (pv 5) (aS) (fun _ _=>rfl)) (cD (ixT (K:=K) rfl) (pv 5) (aS) (fun _ _=>rfl)))))
   (aB (bF (i:=9) pL.nd rfl (Or.inl rfl) (bX D_Rl hr (ah (pv 3) (ah (pv 1) (ah (pv 2) ax)))))
   (aB (bF (i:=10) pL.nd rfl (Or.inr rfl) (bX D_Ww hr (ah (pv 0) (ah (pv 9) (ah (bX D_Se hr (ah (pv 0) (ah (pv 7) ax))) ax)))))
   (aB (eV (lZ (iy (jz hr) (pv 8) (pv 10)))
    (aR (cI (fF (ah (gZ) (ah (fJ (N':=["place","ways"]) (nl:=1) (js:=[10]) rfl (.of (osc:=az sBt) (N:=["web","lows","highs","amounts","tie","ends","due","step","goal","rooms","ways","size"]) (by decide +kernel) rfl rfl) (fI rfl T.range (ah (qt (K:=K) rfl T.web (pv 0)) ax))
    (fun _ _ _ _=>bK (i:=0) (show (["place","ways"]:List Str).Nodup by decide +kernel) rfl (Or.inl rfl)) (fun _ _ _ _=>ix (lZ (iy (jz hr) (pv 0) (pv 1))))
    (fun _ _ _ _=>pv 0)) ax))))) (cX))
   (aB (bF (i:=11) pL.nd rfl (Or.inl rfl) (bg (CU (K:=K) rfl rfl) (by rfl) T.min PyProof.Rows.boot_min (ah (bQ gk (dh (ah (bg oK (by rfl) T.abs PyProof.Rows.boot_abs (ah (pv 6) ax)) ax)) (bX D_Ra hr (ah (pv 9) (ah (lu (jz hr) (pv 10) (pv 8) (fun _ _=>rfl)) ax)))) ax)))
   (aB (bF (i:=3) pL.nd rfl (Or.inl rfl) (bX D_Pu hr (ah (pv 3) (ah (bQ gk (lu (jz hr) (pv 10) (pv 8) (fun _ _=>rfl)) (dh (ah (pv 7) ax))) (ah (pv 11) ax)))))
   (aR (bF (i:=6) pL.nd rfl (Or.inl rfl) (bX D_Cd hr (ah (cD (ixL (K:=K) rfl) (pv 3) (pv 4) (fun _ _=>rfl)) (ah (cD (ixL (K:=K) rfl) (pv 1) (pv 4) (fun _ _=>rfl)) (ah (cD (ixL (K:=K) rfl) (pv 2) (pv 4) (fun _ _=>rfl)) ax)))))))))))))))))
   (aR (cI (fF (ah (gZ) (ah (pv 3) ax))))))),?_⟩
  refine ⟨_,rfl,_,rfl,_,rfl,x,p,q,m,es,lo,hi,rfl,hw,hp,hq,hll,hhl,by lia,hlh,fun H0 s0=>?_⟩
  refine ⟨(by show 1≤sizeLine;decide),fun l1 nl1=>?_⟩
  have s1:=s0.next (o:=.lst [V.int 0]) nl1
  have e1:(upd H0 l1 (.lst [V.int 0])) l1=some (.lst [V.int 0]):=aq
  generalize upd H0 l1 (.lst [V.int 0])=H1 at s1 e1
  refine ⟨_,rfl,x,m,es,rfl,hw.same s1,fun tt0 ys0 ht0 hp0=>⟨tt0,ys0,rfl,.inr (SqT.of ht0),l1,(ys0.length:Int),_,rfl,rfl,e1,by lia,?_,?_,fun al nal=>?_⟩⟩
  ·have:=hp0.len;lia
  ·have:=hp0.len;exact aL (aE (by show 1*(ys0.length:Int).toNat≤1000;lia))
  have hpl0:=hp0.len
  rw [gY,show ((ys0.length:Int)).toNat=es.length from hpl0]
  have s2:=s1.next (o:=.lst ((au es.length (0:Int)).map V.int)) nal
  have e2:(upd H1 al (.lst ((au es.length (0:Int)).map V.int))) al=some (.lst ((au es.length (0:Int)).map V.int)):=aq
  have nalH:H al=none:=bN s1 nal
  generalize upd H1 al (.lst ((au es.length (0:Int)).map V.int))=H2 at s2 e2
  clear hp0 ht0 hpl0 e1
  have rep0:∀k:Nat,(au es.length (0:Int)).getD k 0=0:=fun k=>by
   rw [ae,cy];split<;>rfl
  refine ⟨_,rfl,x,m,es,rfl,hw.same s2,fun t ys ht hpt=>⟨true,t,ys,rfl,SqT.of ht,fun J C O hC=>?_⟩⟩
  have hpl:=hpt.len
  refine jk O (fun i σ H3=>∃(al:Addr) (as:List Int) (v4 v5 v6 v7 v8 v9 v10 v11:Option V),σ=[some (.ref x),some (.ref p),some (.ref q),some (.ref al),v4,v5,v6,v7,v8,v9,v10,v11]∧bx H H3∧bx H2 H3∧H al=none∧H3 al=some (.lst (as.map V.int))∧BtI es lo hi i as∧(∀t,t<es.length→-2^150≤as.getD t 0∧as.getD t 0≤2^150)∧BtR es lo hi m.toNat i (true,as)) ⟨al,_,none,none,none,none,none,none,none,none,rfl,s2,bx.refl _,nalH,e2,⟨bh ..,fun p=>jx ..,fun t ht=>absurd ht (cw _)⟩,fun t ht=>by rw [rep0];decide,.nil⟩ (fun i σ H3 _ h=>?_) ?_ ?_
  ·obtain ⟨al,as,v4,v5,v6,v7,v8,v9,v10,v11,_,_,s3,_⟩:=h
   exact hC _ (SqT.of (s3 _ _ ht))
  ·rintro i σ H3 pq hi' ⟨al,as,v4,v5,v6,v7,v8,v9,v10,v11,rfl,s03,s23,nal,e3,I,hS,hBt⟩ hpq
   obtain ⟨r,e,er,hr2,ei,he⟩:=hpt.at hi'
   have hE1:es.getD i (0,0)=e:=by rw [ae,ei];rfl
   have hi2:i<es.length:=by lia
   dsimp only
   rw [er]
   have s4:=bx.new (o:=.tup [.int (i:Nat),.ref r]) hpq
   have t4:(upd H3 pq (.tup [.int (i:Nat),.ref r])) pq=some (.tup [.int (i:Nat),.ref r]):=aq
   refine ⟨pq,_,rfl,SqT.of t4,rfl,_,_,rfl,_,_,rfl,rfl,?_⟩
   have s04:=s03.trans s4
   have s24:=s23.trans s4
   have e4:=s4 _ _ e3
   have r4:=s24.tup hr2
   generalize upd H3 pq (.tup [.int (i:Nat),.ref r])=H4 at s4 s04 s24 e4 r4
   clear t4 s4 e3 s23 s03
   have atL:∀{xs:List Int},xs.length=es.length→atI (xs.map V.int) (i:Int)=some (.int (xs.getD i 0)):=fun {xs} hx=>by
    have:=ft (ns:=xs) (k:=(i:Int)) (by lia) (by lia)
    rwa [aY] at this
   refine ⟨_,rfl,_,rfl,al,_,_,_,rfl,rfl,SqL.of e4,atL I.len,_,rfl,_,rfl,p,_,_,_,rfl,rfl,s04.seq hp,atL hll,_,rfl,_,rfl,q,_,_,_,rfl,rfl,s04.seq hq,atL hhl,_,_,_,rfl,?_⟩
   refine ⟨fun n σ H5=>∃(al:Addr) (as':List Int) (v7 v8 v9 v10 v11:Option V),n=(d_ as' lo hi i).natAbs∧σ=[some (.ref x),some (.ref p),some (.ref q),some (.ref al),some (.int (i:Nat)),some (.ref r),some (.int (d_ as' lo hi i)),v7,v8,v9,v10,v11]∧bx H H5∧bx H2 H5∧H al=none∧H5 al=some (.lst (as'.map V.int))∧BtI es lo hi i as'∧(∀t,t<es.length→-2^150≤as'.getD t 0∧as'.getD t 0≤2^150)∧∀r,WhR es lo hi m.toNat i as' r→WhR es lo hi m.toNat i as r,⟨_,al,as,_,_,_,_,_,rfl,rfl,s04,s24,nal,e4,I,hS,fun _ z=>z⟩,?_⟩
   clear e4 r4
   rintro n σ H5 ⟨al,as',v7,v8,v9,v10,v11,rfl,rfl,s05,s25,nal,e5,I,hS,hW⟩
   refine ⟨_,rfl,rfl,_,rfl,?_⟩
   by_cases hd:d_ as' lo hi i=0
   ·rw [decide_eq_true (show V.int (d_ as' lo hi i)=V.int 0 by rw [hd])]
    refine gc ?_
    refine ⟨al,as',_,_,_,_,_,_,_,_,rfl,s05,s25,nal,e5,⟨I.len,I.rq,fun t ht=>?_⟩,hS,.next hBt (hW _ (.done hd))⟩
    by_cases c:t=i
    ·rw [c];exact rE hd
    ·exact I.past t (by lia)
   rw [decide_eq_false (show ¬V.int (d_ as' lo hi i)=V.int 0 by intro z;injection z with z;exact hd z)]
   refine fh ⟨_,fun σ' H' h=>h,?_⟩
   have hr5:=s25.tup hr2
   have hbe:=hE e he
   obtain ⟨d,ed⟩:∃d,d=d_ as' lo hi i:=⟨_,rfl⟩
   have hsv:=uu hi2 d
   have hsE:stE es (gT i d)=if d>0 then e.2 else e.1:=by
    unfold stE gT bc
    rw [aY,hE1]
    by_cases c:d>0
    ·rw [if_pos c,if_pos rfl,if_pos c]
    ·rw [if_neg c,if_neg (show ¬(-1:Int)=1 by decide),if_neg c]
   have hsB:stB es (gT i d)=if d>0 then e.1 else e.2:=by
    unfold stB gT bc
    rw [aY,hE1]
    by_cases c:d>0
    ·rw [if_pos c,if_pos rfl,if_pos c]
    ·rw [if_neg c,if_neg (show ¬(-1:Int)=1 by decide),if_neg c]
   rw [←ed]
   refine ⟨fun σ' H'=>∃sa:Addr,σ'=[some (.ref x),some (.ref p),some (.ref q),some (.ref al),some (.int (i:Nat)),some (.ref r),some (.int d),some (.ref sa),v8,v9,v10,v11]∧bx H5 H'∧SqT K H' sa [.int (gT i d).1,.int (gT i d).2],?_,?_⟩
   ·have fin:∀v:Int,v=(gT i d).2→∀sa:Addr,H5 sa=none→∃sa':Addr,[some (V.ref x),some (.ref p),some (.ref q),some (.ref al),some (.int (i:Nat)),some (.ref r),some (.int d),some (.ref sa),v8,v9,v10,v11]=[some (.ref x),some (.ref p),some (.ref q),some (.ref al),some (.int (i:Nat)),some (.ref r),some (.int d),some (.ref sa'),v8,v9,v10,v11]∧bx H5 (upd H5 sa (.tup [.int (i:Nat),.int v]))∧SqT K (upd H5 sa (.tup [.int (i:Nat),.int v])) sa' [.int (gT i d).1,.int (gT i d).2]:=fun v hv sa nsa=>⟨sa,rfl,bx.new nsa,by rw [←hv];exact SqT.of aq⟩
    refine ⟨_,rfl,_,rfl,_,_,rfl,rfl,_,rfl,ie (fun c1=>?_) (fun c1=>?_)⟩
    ·exact ⟨(by show 2≤sizeLine;decide),fun sa nsa=>fin 1 (if_pos (of_decide_eq_true c1)).symm sa nsa⟩
    ·exact ⟨_,rfl,(by show 2≤sizeLine;decide),fun sa nsa=>fin (-1) (if_neg (fun z=>c1 (decide_eq_true z))).symm sa nsa⟩
   rintro σ' H6 ⟨sa,rfl,s6,hsa⟩
   refine ⟨fun σ' H'=>H'=H6∧σ'=[some (.ref x),some (.ref p),some (.ref q),some (.ref al),some (.int (i:Nat)),some (.ref r),some (.int d),some (.ref sa),some (.int (stB es (gT i d))),v9,v10,v11],?_,?_⟩
   ·have r6:=s6.tup hr5
    rw [hsB]
    refine ⟨_,rfl,_,_,rfl,rfl,_,rfl,ie (fun c1=>?_) (fun c1=>?_)⟩
    ·rw [if_pos (of_decide_eq_true c1)]
     exact ⟨_,rfl,r,_,0,_,rfl,rfl,r6,rfl,rfl,rfl⟩
    ·rw [if_neg (fun z=>c1 (decide_eq_true z))]
     exact ⟨_,rfl,r,_,1,_,rfl,rfl,r6,rfl,rfl,rfl⟩
   rintro σ' H' ⟨rfl,rfl⟩
   have s06:=s05.trans s6
   have e6:=s6 _ _ e5
   refine ⟨_,rfl,_,rfl,_,rfl,al,p,q,as',lo,hi,rfl,SqL.of e6,s06.seq hp,s06.seq hq,hll.trans I.len.symm,hhl.trans I.len.symm,by rw [I.len];lia,fun ra rx H7 nra s7 e7 p7=>?_⟩
   have s07:=s06.trans s7
   have hrg:0≤stE es (gT i d)∧stE es (gT i d)<m:=by
    rw [hsE];split
    ·exact ⟨hbe.2.2.1,hbe.2.2.2⟩
    ·exact ⟨hbe.1,hbe.2.1⟩
   refine ⟨_,rfl,_,rfl,_,rfl,_,rfl,x,sa,m,es,gT i d,rfl,hw.same s07,s7.tup hsa,hsv,x,ra,_,m,es,_,rx,rfl,hw.same s07,SqL.of e7,p7,by rw [jg,I.len],hz,hrg.1,hrg.2,m2,hE,fun da rs wy H8 s8 W hrs hwy=>?_⟩
   obtain ⟨⟨ad,wd,wc⟩,wnd,wrng,wa0,wway,wclo⟩:=W
   have s68:=s7.trans s8
   have s08:=s07.trans s8
   have s28:=(s25.trans s6).trans s68
   subst ed
   refine ⟨_,rfl,_,rfl,da,_,rfl,kQ.k (k:=Sum.inl (stB es (gT i (d_ as' lo hi i)))) wd,_,rfl,?_⟩
   rw [eI]
   by_cases hg:stB es (gT i (d_ as' lo hi i))∈rs
   ·rw [if_pos hg]
    refine gc ?_
    obtain ⟨gx,c1,c1p⟩:=wc _ hg
    obtain ⟨pl,way⟩:=wway _ hg
    obtain ⟨g,eg⟩:∃g,g=stB es (gT i (d_ as' lo hi i)):=⟨_,rfl⟩
    rw [←eg] at hg c1 c1p way ⊢
    have hwst:∀s∈wy g,StV es s:=fun s hs=>(way.step s hs).1
    have hwl:(wy g).length≤40:=by
     have:=fk (rs:=(wy g).map (·.1)) (m:=(es.length:Int)) way.tnd fun z hz=>by
      obtain ⟨s,h1,h2⟩:=bE.mp hz
      rw [←h2];exact ⟨(hwst s h1).1,(hwst s h1).2.1⟩
     rw [aa] at this
     lia
    have hgl:=c1p.len
    have dget:∀{H':Hp},bx H8 H'→kQ H' da (.int g) (some (.ref (ad g))):=fun S=>by
     have:=kQ.k (k:=Sum.inl g) (S _ _ wd)
     rw [eI,if_pos hg] at this
     exact this
    refine ⟨_,rfl,_,rfl,(by show 1≤sizeLine;decide),fun q1 nq1=>?_⟩
    have s9:=bx.new (o:=.lst [V.int (if d_ as' lo hi i<0 then -d_ as' lo hi i else d_ as' lo hi i)]) nq1
    have e9:(upd H8 q1 (.lst [V.int (if d_ as' lo hi i<0 then -d_ as' lo hi i else d_ as' lo hi i)])) q1=some (.lst [V.int (if d_ as' lo hi i<0 then -d_ as' lo hi i else d_ as' lo hi i)]):=aq
    generalize upd H8 q1 (.lst [V.int (if d_ as' lo hi i<0 then -d_ as' lo hi i else d_ as' lo hi i)])=H9 at s9 e9
    refine ⟨_,rfl,_,rfl,_,rfl,da,_,rfl,dget s9,ra,ad g,rx,gx,_,wy g,rfl,SqL.of ((s8.trans s9) _ _ e7),(p7.same (s8.trans s9)),SqL.of (s9 _ _ c1),c1p.same s9,by lia,fun s hs=>⟨(hwst s hs).1,by rw [jg,I.len];exact (hwst s hs).2.1⟩,fun l9 H10 nl9 s10 e10=>?_⟩
    refine ⟨q1,l9,_,_,rfl,rfl,s10 _ _ e9,e10,aL (aE (by show 1+(((wy g).map (rmA (rmN as' lo hi))).map V.int).length≤1000;rw [aa,aa];lia)),fun q2 nq2=>?_⟩
    have s11:=bx.new (o:=.lst ([V.int (if d_ as' lo hi i<0 then -d_ as' lo hi i else d_ as' lo hi i)]++((wy g).map (rmA (rmN as' lo hi))).map V.int)) nq2
    refine ⟨q2,(if d_ as' lo hi i<0 then -d_ as' lo hi i else d_ as' lo hi i)::(wy g).map (rmA (rmN as' lo hi)),rfl,.inl (SqL.of aq),fW _,fun z hz hm=>?_⟩
    have s8b:=(s9.trans s10).trans s11
    generalize upd H10 q2 (.lst ([V.int (if d_ as' lo hi i<0 then -d_ as' lo hi i else d_ as' lo hi i)]++((wy g).map (rmA (rmN as' lo hi))).map V.int))=H11 at s11 s8b
    clear s11 s10 s9 e9 e10
    refine ⟨_,rfl,_,rfl,_,rfl,da,_,rfl,dget s8b,_,rfl,(by show 1≤sizeLine;decide),fun q3 nq3=>?_⟩
    have s12:=bx.new (o:=.lst [V.ref sa]) nq3
    have e12:(upd H11 q3 (.lst [V.ref sa])) q3=some (.lst [V.ref sa]):=aq
    generalize upd H11 q3 (.lst [V.ref sa])=H12 at s12 e12
    have s8c:=s8b.trans s12
    refine ⟨ad g,q3,_,_,rfl,rfl,s8c _ _ c1,e12,aL (aE (by show gx.length+1≤1000;lia)),fun q4 nq4=>?_⟩
    have s13:=s8c.next (o:=.lst (gx++[V.ref sa])) nq4
    have e13:(upd H12 q4 (.lst (gx++[V.ref sa]))) q4=some (.lst (gx++[V.ref sa])):=aq
    generalize upd H12 q4 (.lst (gx++[V.ref sa]))=H13 at s13 e13
    have p13:Pairs K H13 (gx++[V.ref sa]) (wy g++[gT i (d_ as' lo hi i)]):=(c1p.same s13).snoc (((s7.trans s8).trans s13).tup hsa)
    have s0d:=s08.trans s13
    rw [eg] at way hz hm
    obtain ⟨I',dlt⟩:=I.next hi2 hlh hd way hz hm
    obtain ⟨zb,hS'⟩:=I.sml hi2 hlh hd way hz hm hB hS
    rw [←eg] at I' dlt hS' hz hm
    have zb':z.natAbs<2^200:=Nat.lt_of_le_of_lt zb (by decide)
    refine ⟨_,rfl,al,q4,_,as',wy g++[gT i (d_ as' lo hi i)],z,rfl,SqL.of ((s68.trans s13) _ _ e6),SqL.of e13,p13,by rw [I.len];lia,fun s hs=>?_,zb',fun a2 H14 na2 s14 e14=>?_⟩
    ·rcases aM.mp hs with y | y
     ·rw [I.len];exact hwst s y
     ·rw [ak.mp y,I.len];exact hsv
    have s0e:=s0d.trans s14
    refine ⟨_,rfl,_,rfl,a2,_,_,_,rfl,rfl,SqL.of e14,atL I'.len,_,rfl,_,rfl,p,_,_,_,rfl,rfl,s0e.seq hp,atL hll,_,rfl,_,rfl,q,_,_,_,rfl,rfl,s0e.seq hq,atL hhl,_,_,_,rfl,?_⟩
    refine ⟨_,dlt,a2,_,_,_,_,_,_,rfl,rfl,s0e,(s28.trans s13).trans s14,bN s0d na2,e14,I',hS',fun r hr=>hW r (.next hd ?_ ?_ hz hm rfl hr)⟩
    ·rw [←hrs,←eg];exact hg
    ·rw [←hwy,←eg]
   ·rw [if_neg hg]
    refine fh ?_
    refine ⟨_,rfl,x,m,es,rfl,hw.same s08,m,rfl,by lia,by lia,fS eQ (fun j ys H'=>H'=H8∧ys=(rst j rs).map V.int) (aL (aE (by lia))) ⟨rfl,rfl⟩ ?_ ?_ ?_⟩
    ·rintro j ys H' hj ⟨rfl,rfl⟩
     exact ⟨trivial,by rw [aa];exact qe ..⟩
    ·rintro j ys H' hj ⟨rfl,rfl⟩
     have hj':j<m.toNat:=hj
     have hrl:=qe j rs
     have ej:(0+(j:Nat):Int)=(j:Int):=by lia
     refine ⟨dR rfl,?_⟩
     try dsimp only
     rw [ej]
     refine ⟨_,rfl,_,rfl,da,_,rfl,kQ.k (k:=Sum.inl (j:Int)) wd,_,rfl,?_⟩
     rw [eI]
     by_cases c:(j:Int)∈rs
     ·rw [if_pos c]
      refine gc ⟨_,by lia,rfl,by lia,rfl,?_⟩
      rw [nY,if_pos c,bB]
     ·rw [if_neg c]
      refine fh ⟨_,rfl,aE (by rw [aa];lia),_,by lia,rfl,by lia,rfl,?_⟩
      rw [nY,if_neg c,aw];rfl
    ·rintro ys H' ⟨rfl,rfl⟩ lp nlp
     have s9:=s08.next (o:=.lst ((rst m.toNat rs).map V.int)) nlp
     have e9:(upd H' lp (.lst ((rst m.toNat rs).map V.int))) lp=some (.lst ((rst m.toNat rs).map V.int)):=aq
     generalize upd H' lp (.lst ((rst m.toNat rs).map V.int))=H9 at s9 e9
     refine ⟨(by show 2≤sizeLine;decide),fun tu ntu=>?_⟩
     refine k2 tu lp _ rs _ (bN s08 nlp) (s9.next ntu) aq (bx.new ntu _ _ e9) rfl ?_ ?_
     ·exact va (m:=m.toNat) (fun e he=>by obtain ⟨b1,b2,b3,b4⟩:=hE e he;exact ⟨b1,by lia,b3,by lia⟩) I hi2 hd wa0 hg wclo
     ·have:=hW _ (.vb hd (by rw [←hrs];exact hg))
      rw [←hrs] at this
      exact (BtR.next hBt this).vb (by lia)
  ·rintro σ H3 ⟨al,as,v4,v5,v6,v7,v8,v9,v10,v11,rfl,s03,s23,nal,e3,I,hS,hBt⟩
   rw [hpl] at I hBt
   refine ⟨_,rfl,(by show 2≤sizeLine;decide),fun tu ntu=>?_⟩
   exact k1 tu al as _ nal (s03.next ntu) aq (bx.new ntu _ _ e3) ⟨I.len,I.rq,I.past⟩ hBt
def yr (K:ai) (c:Cs):Sp:=fun vs H Q _=>∃(x:Addr) (t p m:Int) (es:List (Int×Int)),vs=[.ref x,.int t,.int p]∧eW K c.Web H x m es∧0≤t∧t<(es.length:Int)∧Q (.int (far (bc es t) p)) H
theorem Bu:bY ["web","tie","place","ends"] ["web","tie","place"] (az sFe):=⟨rfl,rfl,rfl,by decide +kernel,rfl,by decide +kernel,by decide +kernel⟩
theorem AA {f:Addr} {fd:FuncData} (F:Fun K "far_end" "far_end" sFe f fd) (T:Txt K mg c):fH P w K mg base CX0 1 f fd ["web","tie","place"] (yr K c):=by
 refine F.ok Bu (fun vs H Q E h=>?_) (fun cdv A outer s H vs Q E hr h=>?_)
 ·obtain ⟨x,t,p,m,es,rfl,_⟩:=h
  rfl
 ·obtain ⟨x,t,p,m,es,rfl,hw,t0,t1,k⟩:=h
  refine ⟨_,aB (bF (i:=3) Bu.nd rfl (Or.inl rfl) (cD (ixT (K:=K) rfl) (gP (K:=K) rfl T.web (pv 0)) (pv 1) (fun _ _=>rfl)))
   (aR (cI (g_ (cm iR (cD (ixT (K:=K) rfl) (pv 3) (aS) (fun _ _=>rfl)) (pv 2) (cH _)) (cD (ixT (K:=K) rfl) (pv 3) (aS) (fun _ _=>rfl)) (cD (ixT (K:=K) rfl) (pv 3) (aS) (fun _ _=>rfl))))),?_⟩
  refine ⟨_,rfl,x,m,es,rfl,hw,fun tt ys ht hp=>?_⟩
  obtain ⟨r,ar,hr2,_⟩:=gy hp t0 t1
  unfold far at k
  refine ⟨_,rfl,tt,ys,t,.ref r,rfl,rfl,SqT.of ht,ar,?_⟩
  refine ⟨_,rfl,r,_,0,_,rfl,rfl,hr2,rfl,_,rfl,rfl,_,rfl,ie (fun c1=>?_) (fun c1=>?_)⟩
  ·have c1':=of_decide_eq_true c1
   injection c1' with c1'
   rw [if_pos c1'] at k
   exact ⟨_,rfl,r,_,1,_,rfl,rfl,hr2,rfl,k⟩
  ·rw [if_neg (fun z=>c1 (decide_eq_true (by rw [z])))] at k
   exact ⟨_,rfl,r,_,0,_,rfl,rfl,hr2,rfl,k⟩
structure FwI (H:Hp) (m:Int) (es:List (Int×Int)) (ss:List Int) (a:Int) (d r:Addr) (H2:Hp) (rs:List Int) (ad:Int→Addr) (wy pl:Int→List Int):Prop where
 same:bx H H2
 dd:H2 d=some (.dK (rs.map fun p=>((Sum.inl p:Key),V.ref (ad p))))
 rr:H2 r=some (.lst (rs.map V.int))
 nd:rs.Nodup
 rng:∀p∈rs,0≤p∧p<m
 a0:a∈rs
 cell:∀p∈rs,H (ad p)=none∧ad p≠r∧H2 (ad p)=some (.lst ((wy p).map V.int))
 way:∀p∈rs,Way es ss a (wy p) (pl p) p∧∀q∈pl p,q∈rs
def zu (K:ai) (c:Cs):Sp:=fun vs H Q _=>∃(x q:Addr) (a b m:Int) (es:List (Int×Int)) (ss:List Int),vs=[.ref x,.ref q,.int a,.int b]∧eW K c.Web H x m es∧SqL K H q (ss.map V.int)∧(∀t∈ss,0≤t∧t<(es.length:Int))∧ss.length≤900∧0≤a∧a<m∧m≤20∧de es m ∧
 (¬Cn (sub es ss) a b→∀H',bx H H'→Q .non H')∧(∀l ts ps H',bx H H'→H l=none→H' l=some (.lst (ts.map V.int))→Way es ss a ts ps b→Q (.ref l) H')
theorem uy:bY ["web","some","start","goal","ways","reached","step","place","tie","other"] ["web","some","start","goal"] (az sFw):=⟨rfl,rfl,rfl,by decide +kernel,rfl,by decide +kernel,by decide +kernel⟩
theorem Av {f:Addr} {fd:FuncData} (F:Fun K "find_way" "find_way" sFw f fd) (T:Txt K mg c) (D_Fe:Def P w K mg base 1 "far_end" ["web","tie","place"] (yr K c)):fH P w K mg base CX0 2 f fd ["web","some","start","goal"] (zu K c):=by
 refine F.ok uy (fun vs H Q E h=>?_) (fun cdv A outer s H vs Q E hr h=>?_)
 ·obtain ⟨x,q,a,b,m,es,ss,rfl,_⟩:=h
  rfl
 ·obtain ⟨x,q,a,b,m,es,ss,rfl,hw,hq,hss,hsl,a0,a1,m2,hE,k1,k2⟩:=h
  refine ⟨_,aB (bF (i:=4) uy.nd rfl (Or.inl rfl) (qp (n_ (pv 2) (dh ax) (qj)) rfl rfl (by simp) (by decide)))
   (aB (bF (i:=5) uy.nd rfl (Or.inl rfl) (dh (ah (pv 2) ax)))
   (aB (bF (i:=6) uy.nd rfl (Or.inl rfl) (aS))
   (aB (k_ PassesOwn.never (PW.pt (kr (lZ (iy (jz hr) (pv 3) (pv 4))) (ji (cm iP (pv 6) (bg (ig (K:=K) rfl) (by rfl) T.len aX (ah (pv 5) ax)) (cH _)))))
    (aB (bF (i:=7) uy.nd rfl (Or.inr rfl) (cD (ixL (K:=K) rfl) (pv 5) (pv 6) (fun _ _=>rfl)))
   (aB (gh PassesOwn.never rfl (ju (K:=K) rfl (fJ (N':=["one","web","place"]) (nl:=1) (js:=[0,7]) rfl (.of (osc:=az sFw) (N:=["web","some","start","goal","ways","reached","step","place","tie","other"]) (by decide +kernel) rfl rfl) (f_ (K:=K) rfl (pv 1))
    (fun _ _ _ _=>bK (i:=0) (show (["one","web","place"]:List Str).Nodup by decide +kernel) rfl (Or.inl rfl)) (fun _ _ _ _=>ix (cm (wt (K:=K) rfl) (pv 2) (cD (ixT (K:=K) rfl) (gP (K:=K) rfl T.web (pv 1)) (pv 0) (fun _ _=>rfl)) (by with_unfolding_all rfl)))
    (fun _ _ _ _=>pv 0))) (bK (i:=8) uy.nd rfl (Or.inl rfl))
    (aB (bF (i:=9) uy.nd rfl (Or.inl rfl) (bX D_Fe hr (ah (pv 0) (ah (pv 8) (ah (pv 7) ax)))))
   (aR (dO (eV (lZ (iy (jz hr) (pv 9) (pv 4)))
    (aB (qh (jz hr) (pv 4) (pv 9) (bQ gk (lu (jz hr) (pv 4) (pv 7) (fun _ _=>rfl)) (dh (ah (pv 8) ax))) rfl)
   (aR (dE (iJ PySem.F.plainAttrs_list PySem.F.slot_list_append PySem.F.type_list_append fm (pv 5) (ah (pv 9) ax))))) (cX))))))
   (aR (qi (i:=6) uy.nd rfl (Or.inl rfl) (aS) my)))))
   (aR (cI (tm (jz hr) (pv 4) (pv 3) ⟨rfl,rfl,rfl,rfl⟩)))))),?_⟩
  intro d nd
  have s1:bx H (upd H d (.dK [])):=bx.new nd
  have d1:(upd H d (.dK [])) d=some (.dK []):=aq
  generalize upd H d (.dK [])=H1 at s1 d1
  refine ⟨_,rfl,by decide,fun l0 nl0=>?_⟩
  have s2:=s1.next (o:=.lst []) nl0
  have d2:=bx.new (o:=.lst []) nl0 _ _ d1
  have e2:(upd H1 l0 (.lst [])) l0=some (.lst []):=aq
  have l0H:H l0=none:=bN s1 nl0
  generalize upd H1 l0 (.lst [])=H2 at s2 d2 e2
  refine ⟨d2,[(Sum.inl a,.ref l0)],rfl,(by show 1≤15;decide),?_⟩
  have d3:(upd H2 d (.dK (ia [] [((Sum.inl a:Key),V.ref l0)]))) d=some (.dK ([a].map fun p=>((Sum.inl p:Key),V.ref l0))):=aq
  have s3:bx H (upd H2 d (.dK (ia [] [((Sum.inl a:Key),V.ref l0)]))):=s2.upd nd
  have e3:(upd H2 d (.dK (ia [] [((Sum.inl a:Key),V.ref l0)]))) l0=some (.lst []):=by rw [bS (bw d1 nl0).symm];exact e2
  generalize upd H2 d (.dK (ia [] [((Sum.inl a:Key),V.ref l0)]))=H3 at d3 s3 e3
  refine ⟨_,rfl,(by show 1≤sizeLine;decide),fun r nr=>?_⟩
  have s4:=s3.next (o:=.lst [V.int a]) nr
  have d4:=bx.new (o:=.lst [V.int a]) nr _ _ d3
  have e4:=bx.new (o:=.lst [V.int a]) nr _ _ e3
  have r4:(upd H3 r (.lst [V.int a])) r=some (.lst ([a].map V.int)):=aq
  have rH:H r=none:=bN s3 nr
  have lr:l0≠r:=bw e3 nr
  generalize upd H3 r (.lst [V.int a])=H4 at s4 d4 e4 r4
  clear s3 d3 e3 s2 d2 e2 nl0 s1 d1 nr
  have drn:d≠r:=iK d4 r4 (by intro z;cases z)
  refine ⟨fun n σ H2=>∃(rs:List Int) (st:Nat) (ad:Int→Addr) (wy pl:Int→List Int) (v7 v8 v9:Option V),n=m.toNat-st∧σ=[some (.ref x),some (.ref q),some (.int a),some (.int b),some (.ref d),some (.ref r),some (.int st),v7,v8,v9]∧FwI H m es ss a d r H2 rs ad wy pl∧st≤rs.length ∧
   (∀j,j<st→∀t∈ss,((bc es t).1=rs.getD j 0∨(bc es t).2=rs.getD j 0)→far (bc es t) (rs.getD j 0)∈rs),⟨m.toNat-0,[a],0,fun _=>l0,fun _=>[],fun _=>[],none,none,none,rfl,rfl,?_,dU _,fun j hj=>absurd hj (cw _)⟩,?_⟩
  ·refine ⟨s4,d4,r4,by simp,fun p hp=>?_,ak.mpr rfl,fun p hp=>⟨l0H,lr,e4⟩,fun p hp=>?_⟩
   ·rw [ak.mp hp];exact ⟨a0,a1⟩
   ·rw [ak.mp hp];exact ⟨.nil,fun q hq=>nomatch hq⟩
  rintro n σ H5 ⟨rs,st,ad,wy,pl,v7,v8,v9,rfl,rfl,I,hst,clo⟩
  have hrl:=fk I.nd I.rng
  refine ⟨_,rfl,_,rfl,d,_,rfl,kQ.k (k:=Sum.inl b) I.dd,_,rfl,?_⟩
  rw [eI]
  by_cases hb:b∈rs
  ·rw [if_pos hb]
   refine gc (gc ?_)
   obtain ⟨n1,_,c1⟩:=I.cell b hb
   refine ⟨_,rfl,d,rfl,.inl ⟨_,.inl I.dd⟩,_,rfl,_,kQ.k (k:=Sum.inl b) I.dd,?_⟩
   rw [eI,if_pos hb]
   exact k2 (ad b) (wy b) (pl b) H5 I.same n1 c1 (I.way b hb).1
  ·rw [if_neg hb]
   refine fh ⟨_,rfl,_,rfl,r,_,rfl,.inl (SqL.of I.rr),_,_,rfl,rfl,_,rfl,?_⟩
   have hlm:(rs.map V.int).length=rs.length:=aa ..
   by_cases hlt:st<rs.length
   ·rw [decide_eq_true (show (st:Int)<((rs.map V.int).length:Int) by lia)]
    refine fh ⟨_,fun σ' H' h=>h,?_⟩
    have hpm:rs.getD st 0∈rs:=by rw [ae,aj hlt];exact cj hlt
    have hat:atI (rs.map V.int) (st:Int)=some (.int (rs.getD st 0)):=ft (ns:=rs) (k:=(st:Int)) (by lia) (by lia)
    refine ⟨_,rfl,_,rfl,r,_,_,_,rfl,rfl,SqL.of I.rr,hat,?_⟩
    obtain ⟨p,ep⟩:∃p,p=rs.getD st 0:=⟨_,rfl⟩
    rw [←ep] at hpm
    have hw5:=hw.same I.same
    refine ⟨_,rfl,q,_,rfl,.inl (I.same.seq hq),fun J C O hC=>fS O (fun i ys H6=>H6=H5∧ys=((ss.take i).filter fun t=>atP (rs.getD st 0) (bc es t)).map V.int) (by rw [aa];exact aL (aE (by lia))) ⟨rfl,rfl⟩ ?_ ?_ ?_⟩
    ·rintro i ys H6 hi ⟨rfl,rfl⟩
     refine ⟨hC _ (bx.refl _),?_⟩
     rw [aa]
     exact cu (bP _ _) (by rw [aC];lia)
    ·rintro i ys H6 hi ⟨rfl,rfl⟩
     obtain ⟨v,ev,gv⟩:=getD_map_int hi
     rw [aa] at hi
     have hv:=hss v (bj gv)
     have hyl:(((ss.take i).filter fun t=>atP (rs.getD st 0) (bc es t)).map V.int).length<sizeLine:=aE (by
      rw [aa]
      have:=bP (fun t=>atP (rs.getD st 0) (bc es t)) (ss.take i)
      rw [aC] at this;lia)
     try dsimp only
     rw [ev]
     refine ⟨dR rfl,_,rfl,_,rfl,x,m,es,rfl,hw5,fun tt ys ht hp=>?_⟩
     obtain ⟨r2,ar,hr2,_⟩:=gy hp hv.1 hv.2
     refine ⟨_,rfl,tt,ys,v,.ref r2,rfl,rfl,SqT.of ht,ar,r2,_,rfl,.inr hr2,rfl,rfl,_,rfl,?_⟩
     rw [if_neg aV,show inV (V.int (rs.getD st 0)) [V.int (bc es v).1,V.int (bc es v).2]=atP (rs.getD st 0) (bc es v) from xP ..]
     refine ie (fun c1=>?_) (fun c1=>?_)
     ·refine ⟨_,rfl,hyl,_,by rw [aa];lia,rfl,by rw [aa];lia,rfl,?_⟩
      rw [take_snoc gv,bV,aw,bT (p:=fun t=>atP (rs.getD st 0) (bc es t)) c1];rfl
     ·refine ⟨_,by rw [aa];lia,rfl,by rw [aa];lia,rfl,?_⟩
      rw [take_snoc gv,bV,aw,bU (p:=fun t=>atP (rs.getD st 0) (bc es t)) c1];exact (bB _).symm
    ·rintro ys H6 ⟨rfl,rfl⟩ l nl
     rw [aa,bD,←ep]
     have sN:=bx.new (o:=.lst ((ss.filter fun t=>atP p (bc es t)).map V.int)) nl
     have eN:(upd H6 l (.lst ((ss.filter fun t=>atP p (bc es t)).map V.int))) l=some (.lst ((ss.filter fun t=>atP p (bc es t)).map V.int)):=aq
     generalize upd H6 l (.lst ((ss.filter fun t=>atP p (bc es t)).map V.int))=H7 at sN eN
     have I7:FwI H m es ss a d r H7 rs ad wy pl:=⟨I.same.trans sN,sN _ _ I.dd,sN _ _ I.rr,I.nd,I.rng,I.a0,fun p hp=>⟨(I.cell p hp).1,(I.cell p hp).2.1,sN _ _ (I.cell p hp).2.2⟩,I.way⟩
     have nlr:l≠r:=(bw I.rr nl).symm
     have nld:l≠d:=(bw I.dd nl).symm
     have nlH:H l=none:=bN I.same nl
     refine ⟨false,l,_,rfl,SqL.of eN,fun J C O hC=>gQ O (fun i σ H8=>∃(rs':List Int) (ad:Int→Addr) (wy pl:Int→List Int) (v8 v9:Option V),σ=[some (.ref x),some (.ref q),some (.int a),some (.int b),some (.ref d),some (.ref r),some (.int st),some (.int p),v8,v9]∧FwI H m es ss a d r H8 rs' ad wy pl∧(∃more,rs'=rs++more) ∧
      H8 l=some (.lst ((ss.filter fun t=>atP p (bc es t)).map V.int))∧∀t∈(ss.filter fun t=>atP p (bc es t)).take i,far (bc es t) p∈rs') ⟨rs,ad,wy,pl,_,_,rfl,I7,⟨[],(bB _).symm⟩,eN,fun t ht=>(by simp at ht)⟩ (fun i σ H8 _ h=>?_) ?_ ?_⟩
     ·obtain ⟨rs',ad,wy,pl,v8,v9,_,_,_,l8,_⟩:=h
      exact hC _ (SqL.of l8)
     ·rintro i σ H8 hi ⟨rs',ad,wy,pl,v8,v9,rfl,I8,⟨more,em⟩,l8,hdone⟩
      obtain ⟨v,ev,gv⟩:=getD_map_int hi
      have hvF:=bG.mp (bj gv)
      have hv:=hss v hvF.1
      have hva:=hZ.mp hvF.2
      have hp8:p∈rs':=by rw [em];exact aI _ hpm
      have hw8:=hw.same I8.same
      obtain ⟨_,_,_,hte⟩:∃dx t xs,bc es v∈es:=⟨0,0,0,by
       unfold bc
       rw [ae,aj (show v.toNat<es.length by lia)];exact cj _⟩
      have hb4:=hE _ hte
      have hor:0≤far (bc es v) p∧far (bc es v) p<m:=by
       unfold far;split
       ·exact ⟨hb4.2.2.1,hb4.2.2.2⟩
       ·exact ⟨hb4.1,hb4.2.1⟩
      try dsimp only
      rw [ev]
      refine ⟨_,rfl,_,rfl,_,rfl,x,v,p,m,es,rfl,hw8,hv.1,hv.2,?_⟩
      obtain ⟨o,eo⟩:∃o,o=far (bc es v) p:=⟨_,rfl⟩
      refine ⟨fun σ' H'=>∃(rs':List Int) (ad:Int→Addr) (wy pl:Int→List Int),σ'=[some (.ref x),some (.ref q),some (.int a),some (.int b),some (.ref d),some (.ref r),some (.int st),some (.int p),some (.int v),some (.int (far (bc es v) p))]∧FwI H m es ss a d r H' rs' ad wy pl∧(∃more,rs'=rs++more) ∧
       H' l=some (.lst ((ss.filter fun t=>atP p (bc es t)).map V.int))∧∀t∈(ss.filter fun t=>atP p (bc es t)).take (i+1),far (bc es t) p∈rs',?_,?_⟩
      ·refine ⟨_,rfl,_,rfl,d,_,rfl,kQ.k (k:=Sum.inl (far (bc es v) p)) I8.dd,_,rfl,?_⟩
       rw [eI,←eo]
       rw [←eo] at hor
       by_cases ho:o∈rs'
       ·rw [if_pos ho]
        refine gc ⟨rs',ad,wy,pl,rfl,I8,⟨more,em⟩,l8,fun t ht=>?_⟩
        rw [take_snoc gv] at ht
        rcases aM.mp ht with y | y
        ·exact hdone t y
        ·rw [ak.mp y,←eo];exact ho
       ·rw [if_neg ho]
        refine fh ?_
        obtain ⟨n1,nr1,c1⟩:=I8.cell p hp8
        obtain ⟨wp,wq⟩:=I8.way p hp8
        have hwl:(wy p).length≤20:=by
         rw [wp.len]
         have:=fk (m:=m) wp.nd fun z hz=>by
          rcases aM.mp hz with y | y
          ·exact I8.rng z (wq z y)
          ·rw [ak.mp y];exact I8.rng p hp8
         rw [ay] at this
         lia
        have hrl8:=fk I8.nd I8.rng
        refine ⟨_,rfl,_,rfl,d,.ref (ad p),rfl,?_,_,rfl,(by show 1≤sizeLine;decide),fun q1 nq1=>?_⟩
        ·have:=kQ.k (k:=Sum.inl p) I8.dd
         rw [eI,if_pos hp8] at this
         exact this
        have s9:=bx.new (o:=.lst [V.int v]) nq1
        have e9:(upd H8 q1 (.lst [V.int v])) q1=some (.lst [V.int v]):=aq
        generalize upd H8 q1 (.lst [V.int v])=H9 at s9 e9
        refine ⟨ad p,q1,_,_,rfl,rfl,s9 _ _ c1,e9,aL (aE (by rw [aa];show (wy p).length+1≤1000;lia)),fun q2 nq2=>?_⟩
        rw [show (wy p).map V.int++[V.int v]=(wy p++[v]).map V.int by rw [aw];rfl]
        have s10:=s9.next (o:=.lst ((wy p++[v]).map V.int)) nq2
        have e10:(upd H9 q2 (.lst ((wy p++[v]).map V.int))) q2=some (.lst ((wy p++[v]).map V.int)):=aq
        generalize upd H9 q2 (.lst ((wy p++[v]).map V.int))=H10 at s10 e10
        have q2H8:H8 q2=none:=bN s9 nq2
        have d10:=s10 _ _ I8.dd
        have r10:=s10 _ _ I8.rr
        have pk:putK (rs'.map fun p=>((Sum.inl p:Key),V.ref (ad p))) (Sum.inl o) (V.ref q2)=(rs'++[o]).map fun z=>((Sum.inl z:Key),V.ref (if z=o then q2 else ad z)):=by
         rw [kY _ (by rw [eI,if_neg ho]),aw]
         congr 1
         ·refine dW fun z hz=>?_
          rw [if_neg (show ¬z=o from fun y=>ho (y▸hz))]
         ·rw [bf,fw,if_pos rfl]
        refine ⟨_,rfl,_,rfl,d,_,rfl,wD.k (k:=Sum.inl o) d10 (aE (by rw [aa];lia)),?_⟩
        rw [pk]
        have r11:(upd H10 d (.dK ((rs'++[o]).map fun z=>((Sum.inl z:Key),V.ref (if z=o then q2 else ad z))))) r=some (.lst (rs'.map V.int)):=by rw [bS drn.symm];exact r10
        refine ⟨_,rfl,.inl ⟨rfl,_,SqL.of r11⟩,_,rfl,r,_,_,rfl,rfl,r11,aE (by rw [aa];lia),?_⟩
        have q2r:q2≠r:=(bw I8.rr q2H8).symm
        have q2d:q2≠d:=(bw I8.dd q2H8).symm
        have lq:∀z∈rs',ad z≠d:=fun z hz=>iK (I8.cell z hz).2.2 I8.dd (by intro y;cases y)
        refine ⟨rs'++[o],fun z=>if z=o then q2 else ad z,fun z=>if z=o then wy p++[v] else wy z,fun z=>if z=o then pl p++[p] else pl z,rfl,⟨((I8.same.trans s10).upd nd).upd rH,?_,?_,fV I8.nd ho,fun z hz=>?_,aI _ I8.a0,fun z hz=>?_,fun z hz=>?_⟩,⟨more++[o],by rw [em,eR]⟩,?_,fun t ht=>?_⟩
        ·rw [bS drn];exact aq
        ·rw [show (rs'++[o]).map V.int=rs'.map V.int++[V.int o] by rw [aw];rfl];exact aq
        ·rcases aM.mp hz with y | y
         ·exact I8.rng z y
         ·rw [ak.mp y];exact hor
        ·try dsimp only
         rcases aM.mp hz with y | y
         ·have hne:¬z=o:=fun w=>ho (w▸y)
          obtain ⟨n2,nr2,c2⟩:=I8.cell z y
          rw [if_neg hne,if_neg hne]
          exact ⟨n2,nr2,by rw [bS nr2,bS (lq z y)];exact s10 _ _ c2⟩
         ·rw [if_pos (ak.mp y),if_pos (ak.mp y)]
          exact ⟨bN I8.same q2H8,q2r,by rw [bS q2r,bS q2d];exact e10⟩
        ·try dsimp only
         rcases aM.mp hz with y | y
         ·have hne:¬z=o:=fun w=>ho (w▸y)
          rw [if_neg hne,if_neg hne]
          exact ⟨(I8.way z y).1,fun w hw=>aI _ ((I8.way z y).2 w hw)⟩
         ·have hzo:=ak.mp y
          rw [if_pos hzo,if_pos hzo,hzo,eo]
          refine ⟨.snoc wp hvF.1 hv.1 hv.2 hva fun w=>?_,fun w hw=>?_⟩
          ·rw [←eo] at w
           rcases aM.mp w with y | y
           ·exact ho (wq _ y)
           ·exact ho (ak.mp y▸hp8)
          ·rcases aM.mp hw with y | y
           ·exact aI _ (wq _ y)
           ·rw [ak.mp y];exact aI _ hp8
        ·rw [bS nlr,bS nld];exact s10 _ _ l8
        ·rw [take_snoc gv] at ht
         rcases aM.mp ht with y | y
         ·exact aI _ (hdone t y)
         ·rw [ak.mp y,←eo];exact aG _ (ak.mpr rfl)
      ·rintro σ' H' ⟨rs',ad,wy,pl,rfl,I',ext,l',hdone'⟩
       exact ⟨rs',ad,wy,pl,_,_,rfl,I',ext,l',hdone'⟩
     ·rintro σ H8 ⟨rs',ad,wy,pl,v8,v9,rfl,I8,⟨more,em⟩,l8,hdone⟩
      rw [aa,bD] at hdone
      have hrl8:=fk I8.nd I8.rng
      refine ⟨_,rfl,_,_,rfl,rfl,m.toNat-(st+1),by lia,rs',st+1,ad,wy,pl,_,_,_,rfl,rfl,I8,by rw [em,ay];lia,fun j hj t ht hta=>?_⟩
      by_cases hjs:j<st
      ·have ej:rs'.getD j 0=rs.getD j 0:=by rw [em,ae,cG (by lia),ae]
       rw [ej] at hta ⊢
       rw [em]
       exact aI _ (clo j hjs t ht hta)
      ·have hje:j=st:=by lia
       have ej:rs'.getD j 0=p:=by rw [hje,ep,em,ae,cG hlt,ae]
       rw [ej] at hta ⊢
       exact hdone t (bG.mpr ⟨ht,hZ.mpr hta⟩)
   ·rw [decide_eq_false (show ¬(st:Int)<((rs.map V.int).length:Int) by lia)]
    refine gc ?_
    refine ⟨_,rfl,d,rfl,.inl ⟨_,.inl I.dd⟩,_,rfl,_,kQ.k (k:=Sum.inl b) I.dd,?_⟩
    rw [eI,if_neg hb]
    refine k1 (fun h=>hb (rT I.a0 (fun e he p hp hep=>?_) h)) H5 I.same
    obtain ⟨t,ht,rfl⟩:=bE.mp he
    obtain ⟨j,hj,rfl⟩:=cf.mp hp
    have ej:rs.getD j 0=rs[j]:=by rw [ae,aj hj];rfl
    have:=clo j (by lia) t ht (by rw [ej];exact hep)
    rwa [ej] at this
def yp (K:ai) (c:Cs):Sp:=fun vs H Q _=>∃(x:Addr) (m:Int) (es:List (Int×Int)),vs=[.ref x]∧eW K c.Web H x m es∧1≤m∧m≤20∧es.length≤40∧de es m∧∀l H',H l=none→bx H H'→H' l=some (.lst ((gL es).map V.int))→Q (.ref l) H'
theorem wj:bY ["web","labels","taken","tie","ends"] ["web"] (az sFr):=⟨rfl,rfl,rfl,by decide +kernel,rfl,by decide +kernel,by decide +kernel⟩
theorem Ax {f:Addr} {fd:FuncData} (F:Fun K "forest" "forest" sFr f fd) (T:Txt K mg c) (D_Me:Def P w K mg base 1 "merged" ["labels","one","two"] (yn K)):fH P w K mg base CX0 2 f fd ["web"] (yp K c):=by
 refine F.ok wj (fun vs H Q E h=>?_) (fun cdv A outer s H vs Q E hr h=>?_)
 ·obtain ⟨x,m,es,rfl,_⟩:=h
  rfl
 ·obtain ⟨x,m,es,rfl,hw,m1,m2,hz,hE,k⟩:=h
  refine ⟨_,aB (bF (i:=1) wj.nd rfl (Or.inl rfl) (gO rfl rfl T.list rfl T.range (ah (qt (K:=K) rfl T.web (pv 0)) ax)))
   (aB (bF (i:=2) wj.nd rfl (Or.inl rfl) (dh ax))
   (aB (gh PassesOwn.never rfl (jR (K:=K) rfl rfl T.enumerate (ah (gP (K:=K) rfl T.web (pv 0)) ax)) (jS (K:=K) (n:=2) rfl rfl (c_ (bK (i:=3) wj.nd rfl (Or.inl rfl)) (c_ (bK (i:=4) wj.nd rfl (Or.inl rfl)) (gA))) rfl)
    (aR (dO (eV (cm mh (cD (ixL (K:=K) rfl) (pv 1) (cD (ixT (K:=K) rfl) (pv 4) (aS) (fun _ _=>rfl)) (fun _ _=>rfl)) (cD (ixL (K:=K) rfl) (pv 1) (cD (ixT (K:=K) rfl) (pv 4) (aS) (fun _ _=>rfl)) (fun _ _=>rfl)) (cH _))
    (aB (dE (iJ PySem.F.plainAttrs_list PySem.F.slot_list_append PySem.F.type_list_append fm (pv 2) (ah (pv 3) ax)))
   (aR (bF (i:=1) wj.nd rfl (Or.inl rfl) (bX D_Me hr (ah (pv 1) (ah (cD (ixT (K:=K) rfl) (pv 4) (aS) (fun _ _=>rfl)) (ah (cD (ixT (K:=K) rfl) (pv 4) (aS) (fun _ _=>rfl)) ax))))))) (cX)))))
   (aR (cI (pv 2))))),?_⟩
  refine ⟨_,rfl,x,m,es,rfl,hw,m,rfl,by lia,by lia,fun l0 nl0=>?_⟩
  have s0:bx H (upd H l0 (.lst (((bI m.toNat).map fun i=>0+((i:Nat):Int)).map V.int))):=bx.new nl0
  have e0:(upd H l0 (.lst (((bI m.toNat).map fun i=>0+((i:Nat):Int)).map V.int))) l0=some (.lst (((bI m.toNat).map fun i=>0+((i:Nat):Int)).map V.int)):=aq
  generalize upd H l0 (.lst (((bI m.toNat).map fun i=>0+((i:Nat):Int)).map V.int))=H0 at s0 e0
  refine ⟨by decide,fun tk ntk=>?_⟩
  have s1:=s0.next (o:=.lst []) ntk
  have e1:=bx.new (o:=.lst []) ntk _ _ e0
  have k1:(upd H0 tk (.lst [])) tk=some (.lst []):=aq
  have tkH:H tk=none:=bN s0 ntk
  generalize upd H0 tk (.lst [])=H1 at s1 e1 k1
  have nlt:l0≠tk:=bw e0 ntk
  refine ⟨_,rfl,x,m,es,rfl,hw.same s1,fun t ys ht hp=>⟨true,t,ys,rfl,SqT.of ht,fun J C O hC=>?_⟩⟩
  have hpl:=hp.len
  have ntt:t≠tk:=iK ht k1 (by intro z;cases z)
  refine jk O (fun i σ H2=>∃(lb:Addr) (ls:List Int) (v3 v4:Option V),σ=[some (.ref x),some (.ref lb),some (.ref tk),v3,v4]∧bx H H2∧fj tk H1 H2∧lb≠tk∧H2 lb=some (.lst (ls.map V.int))∧H2 tk=some (.lst ((frN es i).map V.int))∧ls.length=m.toNat∧Lab m (es.take i) (lf ls)) ⟨l0,_,none,none,rfl,s1,fun _ _ _ z=>z,nlt,e1,k1,by rw [aa,bW],(Lab.nil m).congr (fun e he=>(nomatch he)) fun p p0 p1=>(lF m.toNat p p0 (by lia)).symm⟩ (fun i σ H2 _ h=>?_) ?_ ?_
  ·obtain ⟨lb,ls,v3,v4,_,_,sx,_⟩:=h
   exact hC _ (SqT.of (sx _ _ ntt ht))
  ·rintro i σ H2 p hi ⟨lb,ls,v3,v4,rfl,s2,sx2,hlt,hl2,ht2,hll,hL⟩ hp2
   obtain ⟨r,e,er,hr2,ei,he⟩:=hp.at hi
   obtain ⟨b1,b2,b3,b4⟩:=hE e he
   have hr1:SqT K H2 r [.int e.1,.int e.2]:=by
    exact sx2.tup k1 hr2
   have hE1:es.getD i (0,0)=e:=by rw [ae,ei];rfl
   have hfl:=ke es i
   dsimp only
   rw [er]
   have s3:=bx.new (o:=.tup [.int (i:Nat),.ref r]) hp2
   have t3:(upd H2 p (.tup [.int (i:Nat),.ref r])) p=some (.tup [.int (i:Nat),.ref r]):=aq
   refine ⟨p,_,rfl,SqT.of t3,rfl,_,_,rfl,_,_,rfl,rfl,?_⟩
   generalize upd H2 p (.tup [.int (i:Nat),.ref r])=H3 at s3 t3
   have hl3:=s3 _ _ hl2
   have ht3:=s3 _ _ ht2
   have hr3:=s3.tup hr1
   have a1:atI (ls.map V.int) e.1=some (.int (lf ls e.1)):=ft (ns:=ls) b1 (by lia)
   have a2:atI (ls.map V.int) e.2=some (.int (lf ls e.2)):=ft (ns:=ls) b3 (by lia)
   refine ⟨fun σ' H'=>∃(lb:Addr) (ls:List Int),σ'=[some (.ref x),some (.ref lb),some (.ref tk),some (.int (i:Nat)),some (.ref r)]∧bx H H'∧fj tk H1 H'∧lb≠tk∧H' lb=some (.lst (ls.map V.int))∧H' tk=some (.lst ((frN es (i+1)).map V.int))∧ls.length=m.toNat∧Lab m (es.take (i+1)) (lf ls),?_,?_⟩
   ·refine ⟨_,rfl,_,rfl,r,_,0,_,rfl,rfl,hr3,rfl,lb,_,_,_,rfl,rfl,SqL.of hl3,a1,_,rfl,_,rfl,r,_,1,_,rfl,rfl,hr3,rfl,lb,_,_,_,rfl,rfl,SqL.of hl3,a2,rfl,_,rfl,?_⟩
    have hiff:=(hL.iff b1 b2 b3 b4)
    rw [take_snoc ei,iZ]
    by_cases c1:lf ls e.1=lf ls e.2
    ·rw [decide_eq_true (show V.int (lf ls e.1)=V.int (lf ls e.2) by rw [c1])]
     have hn:¬inF es i=true:=fun z=>(gG.mp z) (by rw [hE1];exact hiff.mp c1)
     rw [if_neg hn,bB]
     exact gc ⟨lb,ls,rfl,s2.trans s3,fun b o hb z=>s3 _ _ (sx2 b o hb z),hlt,hl3,ht3,hll,hL.skip c1⟩
    ·rw [decide_eq_false (show ¬V.int (lf ls e.1)=V.int (lf ls e.2) by intro z;injection z with z;exact c1 z)]
     have hn:inF es i=true:=gG.mpr (by rw [hE1];exact fun z=>c1 (hiff.mpr z))
     rw [if_pos hn]
     refine fh ⟨_,rfl,.inl ⟨rfl,_,SqL.of ht3⟩,_,rfl,tk,_,_,rfl,rfl,ht3,aE (by rw [aa];lia),?_⟩
     have x4:fj tk H3 (upd H3 tk (.lst ((frN es i).map V.int++[V.int (i:Int)]))):=eP
     have t4:(upd H3 tk (.lst ((frN es i).map V.int++[V.int (i:Int)]))) tk=some (.lst ((frN es i++[(i:Int)]).map V.int)):=by rw [aw];exact aq
     have s4:bx H (upd H3 tk (.lst ((frN es i).map V.int++[V.int (i:Int)]))):=(s2.trans s3).upd tkH
     generalize upd H3 tk (.lst ((frN es i).map V.int++[V.int (i:Int)]))=H4 at x4 t4 s4
     have hl4:=x4 _ _ hlt hl3
     have hr4:SqT K H4 r [.int e.1,.int e.2]:=x4.tup ht3 hr3
     refine ⟨_,rfl,_,rfl,r,_,0,_,rfl,rfl,hr4,rfl,_,rfl,r,_,1,_,rfl,rfl,hr4,rfl,lb,e.1,e.2,ls,rfl,SqL.of hl4,by lia,b1,by lia,b3,by lia,fun l5 H5 nl5 s5 e5=>?_⟩
     refine ⟨l5,_,rfl,s4.trans s5,fun b o hb z=>s5 _ _ (x4 _ _ hb (s3 _ _ (sx2 b o hb z))),(bw t4 nl5).symm,e5,s5 _ _ t4,by rw [aa];exact hll,?_⟩
     refine (hL.merge ⟨b1,b2,b3,b4⟩).congr (fun a ha=>?_) fun p p0 p1=>(qH ls (fun x=>if x=max (lf ls e.1) (lf ls e.2) then min (lf ls e.1) (lf ls e.2) else x) p p0 (by lia)).symm
     rcases aM.mp ha with y | y
     ·exact hE a (List.mem_of_mem_take y)
     ·rw [ak.mp y];exact ⟨b1,b2,b3,b4⟩
   ·rintro σ' H' ⟨lb,ls,rfl,h'⟩
    exact ⟨lb,ls,_,_,rfl,h'⟩
  ·rintro σ H2 ⟨lb,ls,v3,v4,rfl,s2,sx2,hlt,hl2,ht2,hll,hL⟩
   rw [hpl] at ht2
   exact ⟨_,rfl,k tk H2 tkH s2 ht2⟩
def xc (K:ai) (c:Cs):Sp:=fun vs H Q _=>∃(x:Addr) (m:Int) (es:List (Int×Int)),vs=[.ref x]∧eW K c.Web H x m es∧1≤m∧m≤20∧es.length≤40∧de es m∧∀l H',H l=none→bx H H'→H' l=some (.lst ((fre es).map V.int))→Q (.ref l) H'
theorem Bt:bY ["web","taken"] ["web"] (az sFt):=⟨rfl,rfl,rfl,by decide +kernel,rfl,by decide +kernel,by decide +kernel⟩
theorem rj (g:Int→Bool) (n i:Nat):(((ir n).take i).filter g).length≤i:=cu (bP _ _) (by rw [aC];lia)
theorem Aw {f:Addr} {fd:FuncData} (F:Fun K "free_ties" "free_ties" sFt f fd) (T:Txt K mg c) (D_Fr:Def P w K mg base 2 "forest" ["web"] (yp K c)):fH P w K mg base CX0 3 f fd ["web"] (xc K c):=by
 refine F.ok Bt (fun vs H Q E h=>?_) (fun cdv A outer s H vs Q E hr h=>?_)
 ·obtain ⟨x,m,es,rfl,_⟩:=h
  rfl
 ·obtain ⟨x,m,es,rfl,hw,m1,m2,hz,hE,k⟩:=h
  refine ⟨_,aB (bF (i:=1) Bt.nd rfl (Or.inr rfl) (bX D_Fr hr (ah (pv 0) ax)))
   (aR (cI (fJ (N':=["tie","taken"]) (nl:=1) (js:=[1]) rfl (.of (osc:=az sFt) (N:=["web","taken"]) (by decide +kernel) rfl rfl) (fI rfl T.range (ah (bg (ig (K:=K) rfl) (by rfl) T.len aX (ah (gP (K:=K) rfl T.web (pv 0)) ax)) ax))
    (fun _ _ _ _=>bK (i:=0) (show (["tie","taken"]:List Str).Nodup by decide +kernel) rfl (Or.inl rfl)) (fun _ _ _ _=>ix (cm (qw (K:=K) rfl) (pv 0) (pv 1) (by with_unfolding_all rfl)))
    (fun _ _ _ _=>pv 0)))),?_⟩
  refine ⟨_,rfl,x,m,es,rfl,hw,m1,m2,hz,hE,fun tk H1 ntk s1 e1=>?_⟩
  refine ⟨_,rfl,x,m,es,rfl,hw.same s1,fun t ys ht hp=>⟨t,ys,rfl,.inr (SqT.of ht),(ys.length:Int),rfl,by lia,?_,?_⟩⟩
  ·have:=hp.len;lia
  have hpl:=hp.len
  rw [show ((ys.length:Int)).toNat=es.length from hpl]
  refine fS eQ (fun i zs H2=>H2=H1∧zs=(((ir es.length).take i).filter fun z=>!((gL es).any (·==z))).map V.int) (aL (aE (by lia))) ⟨rfl,rfl⟩ ?_ ?_ ?_
  ·rintro i zs H2 hi ⟨rfl,rfl⟩
   exact ⟨trivial,by rw [aa];exact rj _ _ _⟩
  ·rintro i zs H2 hi ⟨rfl,rfl⟩
   have hg:=iU hi
   have hl2:=rj (fun z=>!((gL es).any (·==z))) es.length i
   try dsimp only
   refine ⟨dR rfl,_,rfl,_,rfl,tk,_,rfl,.inl (SqL.of e1),rfl,gm _,_,rfl,?_⟩
   rw [if_pos rfl,hJ,fX]
   refine ie (fun c1=>?_) (fun c1=>?_)
   ·refine ⟨_,rfl,aE (by rw [aa];lia),_,by lia,rfl,by lia,rfl,?_⟩
    rw [take_snoc hg,bV,aw,bT (p:=fun z=>!((gL es).any (·==z))) c1];rfl
   ·refine ⟨_,by lia,rfl,by lia,rfl,?_⟩
    rw [take_snoc hg,bV,aw,bU (p:=fun z=>!((gL es).any (·==z))) c1];exact (bB _).symm
  ·rintro zs H2 ⟨rfl,rfl⟩ l nl
   rw [bq (by rw [gM];exact aN _)]
   exact k l _ (bN s1 nl) (s1.next nl) aq
def yj (K:ai) (c:Cs):Sp:=fun vs H Q _=>∃(x q:Addr) (t m:Int) (es:List (Int×Int)) (ss:List Int),vs=[.ref x,.int t,.ref q]∧eW K c.Web H x m es∧0≤t∧t<(es.length:Int)∧SqL K H q (ss.map V.int)∧(∀t∈ss,0≤t∧t<(es.length:Int))∧ss.length≤900∧m≤20∧de es m ∧
 (¬Cn (sub es ss) (bc es t).2 (bc es t).1→∀H',bx H H'→Q .non H')∧(∀l ts ps H',bx H H'→H l=none→H' l=some (.lst (ts.map V.int))→Way es ss (bc es t).2 ts ps (bc es t).1→Q (.ref l) H')
theorem Bn:bY ["web","tie","some","ends"] ["web","tie","some"] (az sWb):=⟨rfl,rfl,rfl,by decide +kernel,rfl,by decide +kernel,by decide +kernel⟩
theorem zV {f:Addr} {fd:FuncData} (F:Fun K "way_back" "way_back" sWb f fd) (T:Txt K mg c) (D_Fw:Def P w K mg base 2 "find_way" ["web","some","start","goal"] (zu K c)):fH P w K mg base CX0 3 f fd ["web","tie","some"] (yj K c):=by
 refine F.ok Bn (fun vs H Q E h=>?_) (fun cdv A outer s H vs Q E hr h=>?_)
 ·obtain ⟨x,q,t,m,es,ss,rfl,_⟩:=h
  rfl
 ·obtain ⟨x,q,t,m,es,ss,rfl,hw,t0,t1,hq,hss,hsl,m2,hE,k1,k2⟩:=h
  refine ⟨_,aB (bF (i:=3) Bn.nd rfl (Or.inl rfl) (cD (ixT (K:=K) rfl) (gP (K:=K) rfl T.web (pv 0)) (pv 1) (fun _ _=>rfl)))
   (aR (cI (bX D_Fw hr (ah (pv 0) (ah (pv 2) (ah (cD (ixT (K:=K) rfl) (pv 3) (aS) (fun _ _=>rfl)) (ah (cD (ixT (K:=K) rfl) (pv 3) (aS) (fun _ _=>rfl)) ax))))))),?_⟩
  refine ⟨_,rfl,x,m,es,rfl,hw,fun tt ys ht hp=>?_⟩
  obtain ⟨r,ar,hr2,hm⟩:=gy hp t0 t1
  obtain ⟨b1,b2,b3,b4⟩:=hE _ hm
  refine ⟨_,rfl,tt,ys,t,.ref r,rfl,rfl,SqT.of ht,ar,?_⟩
  exact ⟨_,rfl,_,rfl,_,rfl,r,_,1,_,rfl,rfl,hr2,rfl,_,rfl,r,_,0,_,rfl,rfl,hr2,rfl,x,q,_,_,m,es,ss,rfl,hw,hq,hss,hsl,b3,b4,m2,hE,k1,k2⟩
def vY (es:List (Int×Int)) (t:Int) (ts fs:List Int):Prop:=fs.length=es.length∧(∀k:Nat,k<es.length→(fs.getD k 0=1∨fs.getD k 0=-1∨fs.getD k 0=0)∧(fs.getD k 0≠0↔(k:Int)=t∨(k:Int)∈ts))∧fs.getD t.toNat 0=1∧∀p:Int,dp p es fs es.length=0
def zg (K:ai) (c:Cs):Sp:=fun vs H Q _=>∃(x q:Addr) (t m:Int) (es:List (Int×Int)) (ss ts ps:List Int),vs=[.ref x,.int t,.ref q]∧eW K c.Web H x m es∧es.length≤40∧0≤t∧t<(es.length:Int)∧SqL K H q (ts.map V.int)∧Way es ss (bc es t).2 ts ps (bc es t).1∧¬t∈ss ∧
 ∀l fs H',H l=none→bx H H'→H' l=some (.lst (fs.map V.int))→vY es t ts fs→Q (.ref l) H'
theorem xg:bY ["web","tie","back","told","place","one"] ["web","tie","back"] (az sRg):=⟨rfl,rfl,rfl,by decide +kernel,rfl,by decide +kernel,by decide +kernel⟩
theorem Af {f:Addr} {fd:FuncData} (F:Fun K "ring_flow" "ring_flow" sRg f fd) (T:Txt K mg c) (D_Fe:Def P w K mg base 1 "far_end" ["web","tie","place"] (yr K c)):fH P w K mg base CX0 2 f fd ["web","tie","back"] (zg K c):=by
 refine F.ok xg (fun vs H Q E h=>?_) (fun cdv A outer s H vs Q E hr h=>?_)
 ·obtain ⟨x,q,t,m,es,ss,ts,ps,rfl,_⟩:=h
  rfl
 ·obtain ⟨x,q,t,m,es,ss,ts,ps,rfl,hw,hz,t0,t1,hq,hway,htn,k⟩:=h
  refine ⟨_,aB (bF (i:=3) xg.nd rfl (Or.inl rfl) (bQ jv (dh (ah (aS) ax)) (bg (ig (K:=K) rfl) (by rfl) T.len aX (ah (gP (K:=K) rfl T.web (pv 0)) ax))))
   (aB (ku (aS) (og (pv 3) (pv 1) set_list))
   (aB (bF (i:=4) xg.nd rfl (Or.inl rfl) (cD (ixT (K:=K) rfl) (cD (ixT (K:=K) rfl) (gP (K:=K) rfl T.web (pv 0)) (pv 1) (fun _ _=>rfl)) (aS) (fun _ _=>rfl)))
   (aB (gh PassesOwn.never rfl (ju (K:=K) rfl (pv 2)) (bK (i:=5) xg.nd rfl (Or.inl rfl))
    (aB (ku (g_ (cm iR (cD (ixT (K:=K) rfl) (cD (ixT (K:=K) rfl) (gP (K:=K) rfl T.web (pv 0)) (pv 5) (fun _ _=>rfl)) (aS) (fun _ _=>rfl)) (pv 4) (cH _)) (aS) (ko iL (aS))) (og (pv 3) (pv 5) set_list))
   (aR (bF (i:=4) xg.nd rfl (Or.inl rfl) (bX D_Fe hr (ah (pv 0) (ah (pv 5) (ah (pv 4) ax))))))))
   (aR (cI (pv 3)))))),?_⟩
  refine ⟨(by show 1≤sizeLine;decide),fun l1 nl1=>?_⟩
  have s1:bx H (upd H l1 (.lst [V.int 0])):=bx.new nl1
  have e1:(upd H l1 (.lst [V.int 0])) l1=some (.lst [V.int 0]):=aq
  generalize upd H l1 (.lst [V.int 0])=H1 at s1 e1
  refine ⟨_,rfl,x,m,es,rfl,hw.same s1,fun tt ys ht hp=>⟨tt,ys,rfl,.inr (SqT.of ht),l1,(ys.length:Int),_,rfl,rfl,e1,by lia,?_,?_,fun l nl=>?_⟩⟩
  ·have:=hp.len;lia
  ·have:=hp.len;exact aL (aE (by show 1*(ys.length:Int).toNat≤1000;lia))
  have hpl:=hp.len
  rw [gY,show ((ys.length:Int)).toNat=es.length from hpl]
  have s2:=s1.next (o:=.lst ((au es.length (0:Int)).map V.int)) nl
  have e2:(upd H1 l (.lst ((au es.length (0:Int)).map V.int))) l=some (.lst ((au es.length (0:Int)).map V.int)):=aq
  have nlH:H l=none:=bN s1 nl
  generalize upd H1 l (.lst ((au es.length (0:Int)).map V.int))=H2 at s2 e2
  have hln:((au es.length (0:Int)).map V.int).length=es.length:=by rw [aa,bh]
  refine ⟨_,rfl,_,rfl,l,_,t,_,rfl,rfl,e2,iB t0 (by rw [hln];exact t1),?_⟩
  rw [gN]
  have s3:bx H (upd H2 l (.lst (((au es.length (0:Int)).set t.toNat 1).map V.int))):=s2.upd nlH
  have e3:(upd H2 l (.lst (((au es.length (0:Int)).set t.toNat 1).map V.int))) l=some (.lst (((au es.length (0:Int)).set t.toNat 1).map V.int)):=aq
  generalize upd H2 l (.lst (((au es.length (0:Int)).set t.toNat 1).map V.int))=H3 at s3 e3
  refine ⟨_,rfl,x,m,es,rfl,hw.same s3,fun tt3 ys3 ht3 hp3=>?_⟩
  obtain ⟨r,ar,hr2,_⟩:=gy hp3 t0 t1
  refine ⟨_,rfl,tt3,ys3,t,.ref r,rfl,rfl,SqT.of ht3,ar,r,_,1,_,rfl,rfl,hr2,rfl,?_⟩
  have rep0:∀k:Nat,(au es.length (0:Int)).getD k 0=0:=fun k=>by
   rw [ae,cy];split<;>rfl
  have hrl:(au es.length (0:Int)).length=es.length:=bh ..
  refine ⟨_,rfl,false,q,_,rfl,s3.seq hq,fun J C O hC=>gQ O (fun i σ H4=>∃(fs:List Int) (v5:Option V),σ=[some (.ref x),some (.int t),some (.ref q),some (.ref l),some (.int (cur es (bc es t).2 (ts.take i))),v5]∧bx H H4∧H4 l=some (.lst (fs.map V.int))∧fs.length=es.length ∧
   (∀k:Nat,k<es.length→(fs.getD k 0=1∨fs.getD k 0=-1∨fs.getD k 0=0)∧(fs.getD k 0≠0↔(k:Int)=t∨(k:Int)∈ts.take i))∧fs.getD t.toNat 0=1 ∧
   ∀p:Int,dp p es fs es.length=(if cur es (bc es t).2 (ts.take i)=p then 1 else 0)-(if (bc es t).1=p then 1 else 0)) ⟨_,none,rfl,s3,e3,by rw [cx];exact hrl,fun k hk=>?_,by rw [fY _ _ _ _ (by lia),if_pos rfl],fun p=>?_⟩ (fun i σ H4 _ h=>?_) ?_ ?_⟩
  ·rw [fY _ _ _ _ (by lia),rep0]
   by_cases c1:t.toNat=k
   ·rw [if_pos c1];exact ⟨.inl rfl,fun _=>.inl (by lia),fun _=>(by decide)⟩
   ·rw [if_neg c1];exact ⟨.inr (.inr rfl),fun z=>absurd rfl z,fun z=>by rcases z with z | z;exact absurd (show t.toNat=k by lia) c1;simp at z⟩
  ·rw [kF p es _ _ _ (by lia),jx,rep0,if_pos (show t.toNat<es.length by lia)]
   show 0+((if (bc es t).2=p then (1:Int)-0 else 0)-(if (bc es t).1=p then (1:Int)-0 else 0))=(if (bc es t).2=p then 1 else 0)-(if (bc es t).1=p then 1 else 0)
   lia
  ·obtain ⟨fs,v5,_,s4,_⟩:=h
   exact hC _ (s4.seq hq)
  ·rintro i σ H4 hi ⟨fs,v5,rfl,s4,e4,hfl,hval,ht1,hd⟩
   obtain ⟨v,ev,gv⟩:=getD_map_int hi
   rw [aa] at hi
   have hv:=hway.sub v (bj gv)
   have hst:=hway.step i v gv
   have hnd:=hway.tnd
   have hvt:¬v=t:=fun z=>htn (z▸hv.1)
   have hvi:¬v∈ts.take i:=fun z=>by
    rw [b_] at hnd
    obtain ⟨j,hj,ej⟩:=di.mp z
    have h1:=(List.pairwise_iff_getElem.mp hnd) j i (by lia) hi (by lia)
    have h2:ts[i]=v:=by rw [aj hi] at gv;exact Option.some.inj gv
    exact h1 (ej.trans h2.symm)
   have hvn:fs.getD v.toNat 0=0:=by
    have:=(hval v.toNat (by lia)).2
    rw [show ((v.toNat:Nat):Int)=v by lia] at this
    exact Classical.byContradiction fun z=>(this.mp z).elim hvt hvi
   try dsimp only
   rw [ev]
   obtain ⟨u,eu⟩:∃u,u=cur es (bc es t).2 (ts.take i):=⟨_,rfl⟩
   rw [←eu] at hst hd ⊢
   have fin:∀(w:Int) (H5:Hp),w=(if (bc es v).1=u then 1 else -1)→bx H H5→H5 l=some (.lst ((fs.set v.toNat w).map V.int))→∃(fs:List Int) (v5:Option V),[some (V.ref x),some (.int t),some (.ref q),some (.ref l),some (.int (far (bc es v) u)),some (.int v)]=[some (.ref x),some (.int t),some (.ref q),some (.ref l),some (.int (cur es (bc es t).2 (ts.take (i+1)))),v5]∧bx H H5∧H5 l=some (.lst (fs.map V.int))∧fs.length=es.length ∧
     (∀k:Nat,k<es.length→(fs.getD k 0=1∨fs.getD k 0=-1∨fs.getD k 0=0)∧(fs.getD k 0≠0↔(k:Int)=t∨(k:Int)∈ts.take (i+1)))∧fs.getD t.toNat 0=1 ∧
     ∀p:Int,dp p es fs es.length=(if cur es (bc es t).2 (ts.take (i+1))=p then 1 else 0)-(if (bc es t).1=p then 1 else 0):=fun w H5 ew s5 e5=>by
    have ec:cur es (bc es t).2 (ts.take (i+1))=far (bc es v) u:=by rw [take_snoc gv,oH,←eu]
    rw [ec]
    refine ⟨fs.set v.toNat w,some (.int v),rfl,s5,e5,by rw [cx];exact hfl,fun k hk=>?_,?_,fun p=>?_⟩
    ·rw [fY _ _ _ _ (by lia),take_snoc gv]
     by_cases c1:v.toNat=k
     ·rw [if_pos c1]
      refine ⟨by rw [ew];split<;>simp,fun _=>.inr (aG _ (ak.mpr (by lia))),fun _=>?_⟩
      rw [ew];split<;>decide
     ·rw [if_neg c1]
      refine ⟨(hval k hk).1,fun z=>((hval k hk).2.mp z).imp_right (aI _),fun z=>(hval k hk).2.mpr (z.imp_right fun y=>?_)⟩
      rcases aM.mp y with y | y
      ·exact y
      ·exact absurd (show v.toNat=k by have:=ak.mp y;lia) c1
    ·rw [fY _ _ _ _ (by lia),if_neg (fun z=>hvt (by lia))];exact ht1
    ·rw [kF p es _ _ _ (by lia),hvn,if_pos (show v.toNat<es.length by lia),hd p]
     show _+((if (bc es v).2=p then w-0 else 0)-(if (bc es v).1=p then w-0 else 0))=_
     unfold far
     rw [ew]
     by_cases c1:(bc es v).1=u
     ·rw [if_pos c1,if_pos c1,c1]
      by_cases c2:u=p<;>by_cases c3:(bc es v).2=p<;>simp only [c2,c3,if_true,if_false]<;>lia
     ·have c0:=hst.resolve_left c1
      rw [if_neg c1,if_neg c1,c0]
      by_cases c2:u=p<;>by_cases c3:(bc es v).1=p<;>simp only [c2,c3,if_true,if_false]<;>lia
   have hw4:=hw.same s4
   have hix:ixN (fs.map V.int).length v=some v.toNat:=iB hv.2.1 (by rw [aa];lia)
   refine ⟨_,rfl,x,m,es,rfl,hw4,fun tt5 ys5 ht5 hp5=>?_⟩
   obtain ⟨r5,ar5,hr5,_⟩:=gy hp5 hv.2.1 hv.2.2
   refine ⟨_,rfl,tt5,ys5,v,.ref r5,rfl,rfl,SqT.of ht5,ar5,r5,_,0,_,rfl,rfl,hr5,rfl,_,rfl,rfl,_,rfl,ie (fun c1=>?_) (fun c1=>?_)⟩
   ·have c1':=of_decide_eq_true c1
    injection c1' with c1'
    refine ⟨_,rfl,_,rfl,l,_,v,_,rfl,rfl,e4,hix,?_⟩
    rw [gN]
    have s5:bx H (upd H4 l (.lst ((fs.set v.toNat 1).map V.int))):=s4.upd nlH
    refine ⟨_,rfl,_,rfl,_,rfl,x,v,u,m,es,rfl,hw.same s5,hv.2.1,hv.2.2,?_⟩
    exact fin 1 _ (by rw [if_pos c1']) s5 aq
   ·refine ⟨_,rfl,_,rfl,_,rfl,l,_,v,_,rfl,rfl,e4,hix,?_⟩
    rw [gN]
    have s5:bx H (upd H4 l (.lst ((fs.set v.toNat (-1)).map V.int))):=s4.upd nlH
    refine ⟨_,rfl,_,rfl,_,rfl,x,v,u,m,es,rfl,hw.same s5,hv.2.1,hv.2.2,?_⟩
    exact fin (-1) _ (by rw [if_neg (fun z=>c1 (decide_eq_true (by rw [z])))]) s5 aq
  ·rintro σ H4 ⟨fs,v5,rfl,s4,e4,hfl,hval,ht1,hd⟩
   rw [aa,bD] at hval hd
   rw [hway.cur] at hd
   exact ⟨_,rfl,k l fs H4 nlH s4 e4 ⟨hfl,hval,ht1,fun p=>by rw [hd p,Int.sub_self]⟩⟩
def ze (K:ai) (c:Cs):Sp:=fun vs H Q E=>∃(x:Addr) (t m:Int) (es:List (Int×Int)),vs=[.ref x,.int t]∧eW K c.Web H x m es∧1≤m∧m≤20∧es.length≤40∧de es m∧(¬(0≤t∧t<(es.length:Int))∨t∈gL es→∀H',bx H H'→E (.ref c.BadTie) none H') ∧
 (0≤t→t<(es.length:Int)→¬t∈gL es→∀l ts ps fs H',H l=none→bx H H'→H' l=some (.lst (fs.map V.int))→Way es (gL es) (bc es t).2 ts ps (bc es t).1→vY es t ts fs→Q (.ref l) H')
theorem Br:bY ["web","tie","taken"] ["web","tie"] (az sRo):=⟨rfl,rfl,rfl,by decide +kernel,rfl,by decide +kernel,by decide +kernel⟩
theorem vJ {es:List (Int×Int)}:∀t∈gL es,0≤t∧t<(es.length:Int):=fun t ht=>⟨(jW.mp ht).1,(jW.mp ht).2.1⟩
theorem Ad {f:Addr} {fd:FuncData} (F:Fun K "ring_of" "ring_of" sRo f fd) (T:Txt K mg c) (D_Ti:hX P w K mg base 1 "check_tie" ["web","tie"] (yY K c.Web c.BadTie)) (D_Fr:Def P w K mg base 2 "forest" ["web"] (yp K c)) (D_Wb:Def P w K mg base 3 "way_back" ["web","tie","some"] (yj K c)) (D_Rg:Def P w K mg base 2 "ring_flow" ["web","tie","back"] (zg K c)):fH P w K mg base (CXE P w) 4 f fd ["web","tie"] (ze K c):=by
 refine F.okE Br (fun vs H Q E h=>?_) (fun cdv A outer s H vs Q E hr h=>?_)
 ·obtain ⟨x,t,m,es,rfl,_⟩:=h
  rfl
 ·obtain ⟨x,t,m,es,rfl,hw,m1,m2,hz,hE,k1,k2⟩:=h
  refine ⟨_,aB (dE (fi D_Ti hr rfl rfl (ah (pv 0) (ah (pv 1) ax))))
   (aB (bF (i:=2) Br.nd rfl (Or.inl rfl) (bX D_Fr hr (ah (pv 0) ax)))
   (aB (eV (cm (wt (K:=K) rfl) (pv 1) (pv 2) (by with_unfolding_all rfl))
    (aR (fO rfl rfl (by rfl) T.mBadTie T.xBadTie (ah gZ ax))) (cX))
   (aR (cI (bX D_Rg hr (ah (pv 0) (ah (pv 1) (ah (bX D_Wb hr (ah (pv 0) (ah (pv 1) (ah (pv 2) ax)))) ax)))))))),?_⟩
  refine ⟨_,rfl,_,rfl,x,t,m,es,rfl,hw,fun h0 h1=>?_,fun z=>k1 (.inl z) H (bx.refl _)⟩
  refine ⟨_,rfl,x,m,es,rfl,hw,m1,m2,hz,hE,fun tk H1 ntk s1 e1=>?_⟩
  have hfl:(gL es).length≤es.length:=ke es es.length
  refine ⟨_,rfl,_,rfl,tk,_,rfl,.inl (SqL.of e1),rfl,gm _,_,rfl,?_⟩
  rw [if_neg aV,hJ,show ((gL es).any (·==t))=iM (gL es) t from rfl]
  by_cases hm:t∈gL es
  ·rw [eZ.mpr hm]
   exact fh ⟨(by show 1≤sizeLine;decide),k1 (.inr hm) H1 s1⟩
  ·rw [show iM (gL es) t=false from du.mpr fun z=>hm (eZ.mp z)]
   refine gc ?_
   refine ⟨_,rfl,_,rfl,_,rfl,_,rfl,_,rfl,x,tk,t,m,es,gL es,rfl,hw.same s1,h0,h1,SqL.of e1,vJ,by lia,m2,hE,fun hn=>?_,fun l2 ts ps H2 s2 nl2 e2 hway=>?_⟩
   ·exfalso
    apply hn
    have:=nF es es.length (aN _) (a:=(bc es t).2) (b:=(bc es t).1) (by
     rw [bD]
     refine Cn.eit ?_
     unfold bc
     rw [ae,aj (show t.toNat<es.length by lia)];exact cj _)
    exact this
   ·exact ⟨x,l2,t,m,es,gL es,ts,ps,rfl,hw.same (s1.trans s2),hz,h0,h1,SqL.of e2,hway,hm,fun l fs H3 nl s3 e3 hR=>k2 h0 h1 hm l ts ps fs H3 (bN (s1.trans s2) nl) ((s1.trans s2).trans s3) e3 hway hR⟩
def yt (K:ai) (cR:Addr):Sp:=fun vs H Q E=>∃k:Int,vs=[.int k]∧(2≤k→k≤10^20→Q .non H)∧(¬(2≤k∧k≤10^20)→E (.ref cR) none H)
theorem Ck:bY ["k"] ["k"] (az sCr):=⟨rfl,rfl,rfl,by decide +kernel,rfl,by decide +kernel,by decide +kernel⟩
theorem AE {f:Addr} {fd:FuncData} (F:Fun K "check_rest" "check_rest" sCr f fd) (T:Txt K mg c):fH P w K mg base (CXE P w) 1 f fd ["k"] (yt K c.BadRest):=by
 refine F.okE Ck (fun vs H Q E h=>?_) (fun cdv A outer s H vs Q E hr h=>?_)
 ·obtain ⟨k,rfl,_⟩:=h
  rfl
 ·obtain ⟨k,rfl,k1,k2⟩:=h
  refine ⟨_,aR (eV (PW.pt (kn (cm iP (pv 0) (aS) (cH _)) (jt (cm iQ (pv 0) (bQ uJ (aS) (aS)) (cH _)))))
    (aR (fO rfl rfl (by rfl) T.mBadRest T.xBadRest (ah gZ ax))) (cX)),?_⟩
  refine ⟨_,rfl,_,_,rfl,rfl,_,rfl,?_⟩
  by_cases c1:k<2
  ·rw [decide_eq_true c1]
   exact fh (fh ⟨(by show 1≤sizeLine;decide),k2 (by lia)⟩)
  ·rw [decide_eq_false c1]
   refine gc ⟨_,rfl,_,_,rfl,rfl,⟨by decide,by decide,by decide⟩,_,_,rfl,rfl,_,rfl,?_⟩
   have e:(10:Int)^(20:Int).toNat=10^20:=rfl
   by_cases c2:k>(10:Int)^(20:Int).toNat
   ·rw [decide_eq_true c2]
    rw [e] at c2
    exact fh ⟨(by show 1≤sizeLine;decide),k2 (by lia)⟩
   ·rw [decide_eq_false c2]
    rw [e] at c2
    exact gc (k1 (by lia) (by lia))
def zc (K:ai) (cR:Addr):Sp:=fun vs H Q E=>∃(f:Addr) (b:Bool) (k:Int) (fs:List Int),vs=[.ref f,.int k]∧SqB b K H f (fs.map V.int)∧fs.length≤900∧(¬(2≤k∧k≤10^20)→E (.ref cR) none H) ∧
 (2≤k→k≤10^20→∀l H',H l=none→bx H H'→H' l=some (.lst ((fs.map (·%k)).map V.int))→Q (.ref l) H')
theorem Cb:bY ["amounts","k"] ["amounts","k"] (az sRs):=⟨rfl,rfl,rfl,by decide +kernel,rfl,by decide +kernel,by decide +kernel⟩
theorem Ac {f:Addr} {fd:FuncData} (F:Fun K "rests_of" "rests_of" sRs f fd) (T:Txt K mg c) (D_Cr:hX P w K mg base 1 "check_rest" ["k"] (yt K c.BadRest)):fH P w K mg base (CXE P w) 2 f fd ["amounts","k"] (zc K c.BadRest):=by
 refine F.okE Cb (fun vs H Q E h=>?_) (fun cdv A outer s H vs Q E hr h=>?_)
 ·obtain ⟨f,b,k,fs,rfl,_⟩:=h
  rfl
 ·obtain ⟨f,b,k,fs,rfl,hf,hz,k1,k2⟩:=h
  refine ⟨_,aB (dE (fi D_Cr hr rfl rfl (ah (pv 1) ax)))
   (aR (cI (fJ (N':=["amount","k"]) (nl:=1) (js:=[1]) rfl (.of (osc:=az sRs) (N:=["amounts","k"]) (by decide +kernel) rfl rfl) (f_ (K:=K) rfl (pv 0))
    (fun _ _ _ _=>bK (i:=0) (show (["amount","k"]:List Str).Nodup by decide +kernel) rfl (Or.inl rfl)) (fun _ _ _ _=>dD)
    (fun _ _ _ _=>bQ eX (pv 0) (pv 1))))),?_⟩
  refine ⟨_,rfl,k,rfl,fun h0 h1=>?_,fun z=>k1 z⟩
  refine ⟨_,rfl,f,_,rfl,hf.or,fun J C O hC=>fS O (fun i ys H2=>H2=H∧ys=((fs.map (·%k)).take i).map V.int) (by rw [aa];exact aL (aE (by lia))) ⟨rfl,rfl⟩ ?_ ?_ ?_⟩
  ·rintro i ys H2 hi ⟨rfl,rfl⟩
   exact ⟨hC _ (bx.refl _),by rw [aa,aC];lia⟩
  ·rintro i ys H hi ⟨rfl,rfl⟩
   obtain ⟨v,ev,gv⟩:=getD_map_int hi
   rw [aa] at hi
   have hv:(fs.map (·%k))[i]?=some (v%k):=by rw [a_,gv];rfl
   try dsimp only
   rw [ev]
   refine ⟨dR rfl,fh ⟨_,rfl,_,rfl,_,_,rfl,rfl,(by show 0<k;lia),aE (by rw [aa,aC];lia),_,by rw [aa];lia,rfl,by rw [aa];lia,rfl,?_⟩⟩
   rw [take_snoc hv,aw];rfl
  ·rintro ys H ⟨rfl,rfl⟩ l nl
   rw [aa,bq (by rw [aa];lia)]
   exact k2 h0 h1 l _ nl (bx.new nl) aq
theorem vV {m k:Int} {es:List (Int×Int)} {fs zs:List Int} (hz:zs.length=m.toNat) (hd:∀p:Nat,p<m.toNat→zs.getD p 0=dp p es fs es.length) (ha:(fs.all fun r=>decide (0≤r)&&decide (r<k))=true):(!((zs.map (·%k)).map V.int).any tv)=isR m es fs k:=by
 unfold isR
 rw [ha,dw,cS,decide_eq_true_iff,eU,List.any_eq_false]
 constructor
 ·intro h p hp
  rw [←hd p hp,gX (by lia)]
  have:=h (.int (zs[p]%k)) (List.mem_map_of_mem (List.mem_map_of_mem (f:=(·%k)) (cj (by lia))))
  simpa [tv] using this
 ·intro h x hx
  obtain ⟨z,hzz,rfl⟩:=bE.mp hx
  obtain ⟨y,hy,rfl⟩:=bE.mp hzz
  obtain ⟨i,hi,rfl⟩:=cf.mp hy
  have e:=hd i (by lia)
  rw [gX hi] at e
  have e':zs[i]%k=0:=by rw [e];exact h i (by lia)
  simp [tv,e']
def yo (K:ai) (c:Cs):Sp:=fun vs H Q E=>∃(x f:Addr) (b:Bool) (m k:Int) (es:List (Int×Int)) (fs:List Int),vs=[.ref x,.ref f,.int k]∧eW K c.Web H x m es∧SqB b K H f (fs.map V.int)∧fs.length≤900∧1≤m∧m≤20∧es.length≤40∧de es m ∧
 (¬(2≤k∧k≤10^20)→E (.ref c.BadRest) none H)∧(2≤k→k≤10^20→fs.length≠es.length→E (.ref c.BadFlow) none H)∧(2≤k→k≤10^20→fs.length=es.length→∀H',bx H H'→Q (.bl (isR m es fs k)) H')
theorem Cg:bY ["web","rests","k"] ["web","rests","k"] (az sIr):=⟨rfl,rfl,rfl,by decide +kernel,rfl,by decide +kernel,by decide +kernel⟩
theorem lO {α:Type} (g:α→Bool):∀l:List α,(l.map fun a=>V.bl (g a)).all sk=true∧(l.map fun a=>V.bl (g a)).all tv=l.all g
 | []=>⟨rfl,rfl⟩
 | a::l=>by
  rw [bf,dN,dN,dN,(lO g l).1,(lO g l).2]
  exact ⟨rfl,rfl⟩
theorem Ar {f:Addr} {fd:FuncData} (F:Fun K "is_rest_flow" "is_rest_flow" sIr f fd) (T:Txt K mg c) (D_Cr:hX P w K mg base 1 "check_rest" ["k"] (yt K c.BadRest)) (D_Am:hX P w K mg base 1 "check_amounts" ["web","flow"] (yv K c.Web c.BadFlow)) (D_Rs:hX P w K mg base 2 "rests_of" ["amounts","k"] (zc K c.BadRest)) (D_Gs:Def P w K mg base 1 "gains" ["web","flow"] (zr K c.Web)):fH P w K mg base (CXE P w) 3 f fd ["web","rests","k"] (yo K c):=by
 refine F.okE Cg (fun vs H Q E h=>?_) (fun cdv A outer s H vs Q E hr h=>?_)
 ·obtain ⟨x,f,b,m,k,es,fs,rfl,_⟩:=h
  rfl
 ·obtain ⟨x,f,b,m,k,es,fs,rfl,hw,hf,hfz,m1,m2,hz,hE,k1,k2,k3⟩:=h
  refine ⟨_,aB (dE (fi D_Cr hr rfl rfl (ah (pv 2) ax)))
   (aB (dE (fi D_Am hr rfl rfl (ah (pv 0) (ah (pv 1) ax))))
   (aB (eV (ip (h_ (bg (yG (K:=K) rfl rfl) (by rfl) T.all PyProof.Rows.boot_all (ah (fJ (N':=["rest","k"]) (nl:=1) (js:=[2]) rfl (.of (osc:=az sIr) (N:=["web","rests","k"]) (by decide +kernel) rfl rfl) (f_ (K:=K) rfl (pv 1))
    (fun _ _ _ _=>bK (i:=0) (show (["rest","k"]:List Str).Nodup by decide +kernel) rfl (Or.inl rfl)) (fun _ _ _ _=>dD)
    (fun _ _ _ _=>ly qu iP (aS) (pv 0) (pv 1))) ax))))
    (aR (cI (lC))) (cX))
   (aR (cI (qm (bg (wz (K:=K) rfl rfl) (by rfl) T.any dM (ah (fi D_Rs hr rfl rfl (ah (bX D_Gs hr (ah (pv 0) (ah (pv 1) ax))) (ah (pv 2) ax))) ax))))))),?_⟩
  refine ⟨_,rfl,k,rfl,fun h0 h1=>?_,fun z=>k1 z⟩
  refine ⟨_,rfl,_,rfl,x,f,m,es,_,rfl,hw,hf.or,fun e=>?_,fun z=>k2 h0 h1 (by rwa [aa] at z)⟩
  rw [aa] at e
  refine ⟨_,rfl,f,_,rfl,hf.or,fun J C O hC=>fS O (fun i ys H2=>H2=H∧ys=(fs.take i).map fun r=>V.bl (decide (0≤r)&&decide (r<k))) (by rw [aa];exact aL (aE (by lia))) ⟨rfl,rfl⟩ ?_ ?_ ?_⟩
  ·rintro i ys H2 hi ⟨rfl,rfl⟩
   exact ⟨hC _ (bx.refl _),by rw [aa,aC];lia⟩
  ·rintro i ys H hi ⟨rfl,rfl⟩
   obtain ⟨v,ev,gv⟩:=getD_map_int hi
   rw [aa] at hi
   try dsimp only
   rw [ev]
   have hl2:((fs.take i).map fun r=>V.bl (decide (0≤r)&&decide (r<k))).length<sizeLine:=aE (by rw [aa,aC];lia)
   have fin:∀b,b=(decide (0≤v)&&decide (v<k))→((fs.take i).map fun r=>V.bl (decide (0≤r)&&decide (r<k)))++[V.bl b]=(fs.take (i+1)).map fun r=>V.bl (decide (0≤r)&&decide (r<k)):=fun b e=>by
    rw [take_snoc gv,aw,e];rfl
   refine ⟨dR rfl,fh ?_⟩
   refine ⟨_,rfl,_,_,rfl,rfl,_,rfl,ie (fun c=>?_) (fun c=>?_)⟩
   ·refine ⟨_,rfl,_,_,rfl,rfl,hl2,_,by rw [aa];lia,rfl,by rw [aa];lia,rfl,fin _ ?_⟩
    rw [c,dw]
   ·refine ⟨hl2,_,by rw [aa];lia,rfl,by rw [aa];lia,rfl,fin _ ?_⟩
    rw [du.mpr c,cZ]
  ·rintro ys H ⟨rfl,rfl⟩ l nl
   rw [aa,bD]
   refine ⟨l,_,rfl,.inl (SqL.of aq),(lO _ _).1,_,rfl,?_⟩
   rw [(lO _ _).2]
   have s1:=bx.new (o:=.lst (fs.map fun r=>V.bl (decide (0≤r)&&decide (r<k)))) nl
   generalize upd H l (.lst (fs.map fun r=>V.bl (decide (0≤r)&&decide (r<k))))=H1 at s1
   cases ha:fs.all fun r=>decide (0≤r)&&decide (r<k) with
   | false =>
    have e0:isR m es fs k=false:=by unfold isR;rw [ha,cZ]
    have:=k3 h0 h1 e H1 s1
    rw [e0] at this
    exact fh this
   | true =>
    refine gc ?_
    refine ⟨_,rfl,_,rfl,x,f,b,m,es,fs,rfl,hw.same s1,hf.same s1,e,m1,m2,hz,hE,fun lg H2 zs e2 hzl hd s2=>?_⟩
    refine ⟨_,rfl,lg,false,k,zs,rfl,SqL.of e2,by lia,fun z=>absurd ⟨h0,h1⟩ z,fun _ _ l3 H3 nl3 s3 e3=>⟨l3,_,rfl,.inl (SqL.of e3),?_,_,rfl,?_⟩⟩
    ·rw [cY]
     intro y hy
     obtain ⟨z,_,rfl⟩:=bE.mp hy
     rfl
    ·rw [vV hzl hd ha]
     exact k3 h0 h1 e H3 ((s1.trans s2).trans s3)
def zt (K:ai) (c:Cs):Sp:=fun vs H Q E=>∃(x q:Addr) (m:Int) (es:List (Int×Int)) (ws:List Int),vs=[.ref x,.ref q]∧eW K c.Web H x m es∧SqL K H q (ws.map V.int)∧1≤m∧m≤20∧es.length≤40∧de es m∧(∀v∈ws,v.natAbs<2^200) ∧
 (ws.length≠(fre es).length→∀H',bx H H'→E (.ref c.BadFlow) none H')∧(ws.length=(fre es).length→∀l fs H',H l=none→bx H H'→H' l=some (.lst (fs.map V.int))→FW es ws fs→Q (.ref l) H')
theorem wg:bY ["web","values","free","told","tie","value"] ["web","values"] (az sFz):=⟨rfl,rfl,rfl,by decide +kernel,rfl,by decide +kernel,by decide +kernel⟩
theorem qf {es:List (Int×Int)} {t:Int} {ts ps fs:List Int} {a b:Int} (hw:Way es (gL es) a ts ps b) (hR:vY es t ts fs):∀k:Nat,k<es.length→¬(k:Int)∈gL es→fs.getD k 0=if (k:Int)=t then 1 else 0:=fun k hk hn=>by
 by_cases c1:(k:Int)=t
 ·rw [if_pos c1]
  have:=hR.2.2.1
  rwa [show t.toNat=k by lia] at this
 ·rw [if_neg c1]
  refine Classical.byContradiction fun z=>?_
  rcases (hR.2.1 k hk).2.mp z with y | y
  ·exact c1 y
  ·exact hn (hw.sub _ y).1
theorem rf {es:List (Int×Int)} {t:Int} (h:t∈fre es):¬t∈gL es:=fun z=>by
 have h1:=(bG.mp h).2
 rw [show (gL es).any (·==t)=iM (gL es) t from rfl,eZ.mpr z] at h1
 cases h1
theorem Au {f:Addr} {fd:FuncData} (F:Fun K "filled_whole" "filled_whole" sFz f fd) (T:Txt K mg c) (D_Ft:Def P w K mg base 3 "free_ties" ["web"] (xc K c)) (D_Ad:hX P w K mg base 1 "added" ["one","two"] (xf K c.BadFlow)) (D_Tm:Def P w K mg base 1 "times" ["number","flow"] (xb K)) (D_Ro:hX P w K mg base 4 "ring_of" ["web","tie"] (ze K c)):fH P w K mg base (CXE P w) 5 f fd ["web","values"] (zt K c):=by
 refine F.okE wg (fun vs H Q E h=>?_) (fun cdv A outer s H vs Q E hr h=>?_)
 ·obtain ⟨x,q,m,es,ws,rfl,_⟩:=h
  rfl
 ·obtain ⟨x,q,m,es,ws,rfl,hw,hq,m1,m2,hz,hE,hb,k1,k2⟩:=h
  refine ⟨_,aB (bF (i:=2) wg.nd rfl (Or.inl rfl) (bX D_Ft hr (ah (pv 0) ax)))
   (aB (eV (cm mh (bg (ig (K:=K) rfl) (by rfl) T.len aX (ah (pv 1) ax)) (bg (ig (K:=K) rfl) (by rfl) T.len aX (ah (pv 2) ax)) (cH _))
    (aR (fO rfl rfl (by rfl) T.mBadFlow T.xBadFlow (ah gZ ax))) (cX))
   (aB (bF (i:=3) wg.nd rfl (Or.inl rfl) (bQ jv (dh (ah (aS) ax)) (bg (ig (K:=K) rfl) (by rfl) T.len aX (ah (gP (K:=K) rfl T.web (pv 0)) ax))))
   (aB (jO sf rfl (ma (K:=K) rfl rfl T.zip (ah (pv 2) (ah (pv 1) ax))) (jS (K:=K) (n:=2) rfl rfl (c_ (bK (i:=4) wg.nd rfl (Or.inl rfl)) (c_ (bK (i:=5) wg.nd rfl (Or.inl rfl)) (gA))) rfl)
    (aR (bF (i:=3) wg.nd rfl (Or.inl rfl) (fi D_Ad hr rfl rfl (ah (pv 3) (ah (bX D_Tm hr (ah (pv 5) (ah (fi D_Ro hr rfl rfl (ah (pv 0) (ah (pv 4) ax))) ax))) ax))))))
   (aR (cI (pv 3)))))),?_⟩
  refine ⟨_,rfl,x,m,es,rfl,hw,m1,m2,hz,hE,fun lf H1 nlf s1 e1=>?_⟩
  have hfl:=rg es
  refine ⟨_,rfl,q,_,rfl,.inl (s1.seq hq),_,rfl,lf,_,rfl,.inl (SqL.of e1),rfl,_,rfl,?_⟩
  by_cases el:ws.length=(fre es).length
  ·rw [decide_eq_true (show V.int ((ws.map V.int).length:Int)=V.int (((fre es).map V.int).length:Int) by rw [aa,aa,el])]
   refine gc ?_
   refine ⟨(by show 1≤sizeLine;decide),fun l1 nl1=>?_⟩
   have s2:=s1.next (o:=.lst [V.int 0]) nl1
   have e2:(upd H1 l1 (.lst [V.int 0])) l1=some (.lst [V.int 0]):=aq
   have f2:=bx.new (o:=.lst [V.int 0]) nl1 _ _ e1
   generalize upd H1 l1 (.lst [V.int 0])=H2 at s2 e2 f2
   refine ⟨_,rfl,x,m,es,rfl,hw.same s2,fun tt ys ht hp=>⟨tt,ys,rfl,.inr (SqT.of ht),l1,(ys.length:Int),_,rfl,rfl,e2,by lia,?_,?_,fun l nl=>?_⟩⟩
   ·have:=hp.len;lia
   ·have:=hp.len;exact aL (aE (by show 1*(ys.length:Int).toNat≤1000;lia))
   have hpl:=hp.len
   rw [gY,show ((ys.length:Int)).toNat=es.length from hpl]
   have s3:=s2.next (o:=.lst ((au es.length (0:Int)).map V.int)) nl
   have e3:(upd H2 l (.lst ((au es.length (0:Int)).map V.int))) l=some (.lst ((au es.length (0:Int)).map V.int)):=aq
   have f3:=bx.new (o:=.lst ((au es.length (0:Int)).map V.int)) nl _ _ f2
   have nlH:H l=none:=bN s2 nl
   generalize upd H2 l (.lst ((au es.length (0:Int)).map V.int))=H3 at s3 e3 f3
   have rep0:∀k:Nat,(au es.length (0:Int)).getD k 0=0:=fun k=>by
    rw [ae,cy];split<;>rfl
   have hn:min ((fre es).map V.int).length (ws.map V.int).length=(fre es).length:=by rw [aa,aa,el];exact eY _
   refine ⟨_,rfl,_,rfl,false,false,lf,q,_,_,rfl,SqL.of f3,s3.seq hq,fun J C O hC=>?_⟩
   refine jk O (fun i σ H4=>∃(lt:Addr) (fs:List Int) (v4 v5:Option V),σ=[some (.ref x),some (.ref q),some (.ref lf),some (.ref lt),v4,v5]∧bx H3 H4∧H lt=none∧H4 lt=some (.lst (fs.map V.int))∧fs.length=es.length∧(∀p:Int,dp p es fs es.length=0)∧∀j,j<(fre es).length→fs.getD ((fre es).getD j 0).toNat 0=if j<i then ws.getD j 0 else 0) ⟨l,_,none,none,rfl,bx.refl _,nlH,e3,bh ..,fun p=>jx p es es.length es.length,fun j hj=>by rw [rep0,if_neg (cw _)]⟩ (fun i σ H4 _ h=>?_) ?_ ?_
   ·obtain ⟨lt,fs,v4,v5,_,s4,_⟩:=h
    exact hC _ (SqL.of (s4 _ _ f3)) ((s3.trans s4).seq hq)
   ·rintro i σ H4 p hi ⟨lt,fs,v4,v5,rfl,s4,nlt,e4,hfl4,hd4,hv4⟩ hp4
    rw [hn] at hi
    have hmem:(fre es).getD i 0∈fre es:=by rw [ae,aj hi];exact cj hi
    have hwm:ws.getD i 0∈ws:=by rw [ae,aj (show i<ws.length by lia)];exact cj _
    have hti:=lE hmem
    have hnf:=rf hmem
    try dsimp only
    rw [getD_ints hi,getD_ints (show i<ws.length by lia)]
    obtain ⟨t,et⟩:∃t,t=(fre es).getD i 0:=⟨_,rfl⟩
    obtain ⟨v,ev⟩:∃v,v=ws.getD i 0:=⟨_,rfl⟩
    rw [←et] at hmem hti hnf ⊢
    rw [←ev] at hwm ⊢
    have s5:=bx.new (o:=.tup [.int t,.int v]) hp4
    have t5:(upd H4 p (.tup [.int t,.int v])) p=some (.tup [.int t,.int v]):=aq
    refine ⟨p,_,rfl,SqT.of t5,rfl,_,_,rfl,_,_,rfl,rfl,?_⟩
    generalize upd H4 p (.tup [.int t,.int v])=H5 at s5 t5
    have e5:=s5 _ _ e4
    have s35:=(s3.trans s4).trans s5
    refine ⟨_,rfl,_,rfl,_,rfl,_,rfl,x,t,m,es,rfl,hw.same s35,m1,m2,hz,hE,fun z=>?_,fun _ _ _ lr ts ps rs H6 nlr s6 r6 hway hR=>?_⟩
    ·rcases z with z | z
     ·exact absurd ⟨hti.1,hti.2⟩ z
     ·exact absurd z hnf
    have hrl:=hR.1
    refine ⟨lr,false,v,rs,rfl,SqL.of r6,by lia,hb v hwm,fun y hy=>?_,fun lm H7 nlm s7 e7=>?_⟩
    ·obtain ⟨j,hj,rfl⟩:=cf.mp hy
     have:=(hR.2.1 j (by lia)).1
     rw [ae,aj hj] at this
     have h3:rs[j]=1∨rs[j]=-1∨rs[j]=0:=this
     rcases h3 with z | z | z<;>rw [z]<;>decide
    have s57:=s6.trans s7
    have hml:(rs.map (v*·)).length=rs.length:=aa ..
    refine ⟨lt,lm,false,false,fs,rs.map (v*·),rfl,SqL.of (s57 _ _ e5),SqL.of e7,by lia,fun z=>absurd (by lia) z,fun _ la H8 nla s8 e8=>?_⟩
    have hzl:fs.length=(rs.map (v*·)).length:=by lia
    refine ⟨la,_,_,_,rfl,((s4.trans s5).trans s57).trans s8,bN (s35.trans s57) nla,e8,by rw [dX];lia,fun p=>by rw [jw p es _ _ hzl,kG,hd4 p,hR.2.2.2 p,cV];rfl,fun j hj=>?_⟩
    have hmj:(fre es).getD j 0∈fre es:=by rw [ae,aj hj];exact cj hj
    have htj:=lE hmj
    have hrj:=qf hway hR ((fre es).getD j 0).toNat (by lia) (by rw [show ((((fre es).getD j 0).toNat:Nat):Int)=(fre es).getD j 0 by lia];exact rf hmj)
    rw [show ((((fre es).getD j 0).toNat:Nat):Int)=(fre es).getD j 0 by lia] at hrj
    rw [hU _ _ hzl,ic,hv4 j hj,hrj]
    by_cases c1:j=i
    ·subst c1
     rw [if_neg (cL _),if_pos (cA _),if_pos et.symm,←ev];lia
    ·have hne:¬(fre es).getD j 0=t:=fun z=>by
      rw [et,ae,aj hj,ae,aj hi] at z
      have hnd:=xR es
      rw [b_] at hnd
      have hp:=List.pairwise_iff_getElem.mp hnd
      have z':(fre es)[j]=(fre es)[i]:=z
      by_cases c2:j<i
      ·exact hp j i hj hi c2 z'
      ·exact hp i j hi hj (by lia) z'.symm
     rw [if_neg hne,cV,Int.add_zero]
     by_cases c2:j<i
     ·rw [if_pos c2,if_pos (by lia)]
     ·rw [if_neg c2,if_neg (by lia)]
   ·rintro σ H4 ⟨lt,fs,v4,v5,rfl,s4,nlt,e4,hfl4,hd4,hv4⟩
    rw [hn] at hv4
    exact ⟨_,rfl,k2 el lt fs H4 nlt (s3.trans s4) e4 ⟨hfl4,hd4,fun j hj=>by rw [hv4 j hj,if_pos hj]⟩⟩
  ·rw [decide_eq_false (show ¬V.int ((ws.map V.int).length:Int)=V.int (((fre es).map V.int).length:Int) by rw [aa,aa];intro z;injection z with z;lia)]
   exact fh ⟨(by show 1≤sizeLine;decide),k1 el H1 s1⟩
def zh (K:ai) (c:Cs):Sp:=fun vs H Q _=>∃(x f:Addr) (b:Bool) (m k:Int) (es:List (Int×Int)) (fs:List Int),vs=[.ref x,.ref f,.int k]∧eW K c.Web H x m es∧SqB b K H f (fs.map V.int)∧fs.length=es.length∧es.length≤40∧1≤m∧m≤20∧de es m∧2≤k∧k≤10^20∧(∀p:Int,dp p es fs es.length=0)∧(∀t,t<es.length→((fs.getD t 0).natAbs:Int)≤2^140) ∧
 ∀l gs H',H l=none→bx H H'→H' l=some (.lst (gs.map V.int))→RdF es (fs.map (·%k)) k gs→RdR m es fs k gs→Q (.ref l) H'
theorem zI:bY ["web","flow","k","lows","highs"] ["web","flow","k"] (az sRd):=⟨rfl,rfl,rfl,by decide +kernel,rfl,by decide +kernel,by decide +kernel⟩
theorem Ah {f:Addr} {fd:FuncData} (F:Fun K "reduced" "reduced" sRd f fd) (T:Txt K mg c) (D_Ad:hX P w K mg base 1 "added" ["one","two"] (xf K c.BadFlow)) (D_Tm:Def P w K mg base 1 "times" ["number","flow"] (xb K)) (D_Bt:Def P w K mg base 3 "between" ["web","lows","highs"] (zF K c)):fH P w K mg base CX0 4 f fd ["web","flow","k"] (zh K c):=by
 refine F.ok zI (fun vs H Q E h=>?_) (fun cdv A outer s H vs Q E hr h=>?_)
 ·obtain ⟨x,f,b,m,k,es,fs,rfl,_⟩:=h
  rfl
 ·obtain ⟨x,f,b,m,k,es,fs,rfl,hw,hf,hl,hz,m1,m2,hE,h0,h1,hd,hB,kk⟩:=h
  refine ⟨_,aB (jE (i:=3) (N':=["amount","k"]) (nl:=1) (js:=[2]) rfl (.of (osc:=az sRd) (N:=["web","flow","k","lows","highs"]) (by decide +kernel) rfl rfl) (f_ (K:=K) rfl (pv 1))
    (fun _ _ _ _=>bK (i:=0) (show (["amount","k"]:List Str).Nodup by decide +kernel) rfl (Or.inl rfl)) (fun _ _ _ _=>dD)
    (fun _ _ _ _=>bQ oi (pv 0) (pv 1)) zI.nd rfl rfl)
   (aB (jE (i:=4) (N':=["amount","k"]) (nl:=1) (js:=[2]) rfl (.of (osc:=az sRd) (N:=["web","flow","k","lows","highs"]) (by decide +kernel) rfl rfl) (f_ (K:=K) rfl (pv 1))
    (fun _ _ _ _=>bK (i:=0) (show (["amount","k"]:List Str).Nodup by decide +kernel) rfl (Or.inl rfl)) (fun _ _ _ _=>dD)
    (fun _ _ _ _=>ko iL (bQ oi (ko iL (pv 0)) (pv 1))) zI.nd rfl rfl)
   (aR (cI (bX D_Ad.calm hr (ah (pv 1) (ah (bX D_Tm hr (ah (ko iL (pv 2)) (ah (cD (ixT (K:=K) rfl) (bX D_Bt hr (ah (pv 0) (ah (pv 3) (ah (pv 4) ax)))) (aS) (fun _ _=>rfl)) ax))) ax)))))),?_⟩
  have hfm:(fs.map V.int).length=fs.length:=aa ..
  refine ⟨_,rfl,f,_,rfl,hf.or,fun J C O hC=>fS O (fun i ys H2=>H2=H∧ys=((lwK fs k).take i).map V.int) (by rw [hfm];exact aL (aE (by lia))) ⟨rfl,rfl⟩ ?_ ?_ ?_⟩
  ·rintro i ys H2 hi ⟨rfl,rfl⟩
   exact ⟨hC _ (bx.refl _),by rw [aa,aC];lia⟩
  ·rintro i ys H2 hi ⟨rfl,rfl⟩
   obtain ⟨v,ev,gv⟩:=getD_map_int hi
   rw [hfm] at hi
   have hv:(lwK fs k)[i]?=some (v/k):=by unfold lwK;rw [a_,gv];rfl
   try dsimp only
   rw [ev]
   refine ⟨dR rfl,fh ⟨_,rfl,_,rfl,_,_,rfl,rfl,⟨by lia,by lia⟩,aE (by rw [aa,aC];lia),_,by lia,rfl,by lia,rfl,?_⟩⟩
   rw [take_snoc hv,aw];rfl
  rintro ys H2 ⟨rfl,rfl⟩ lp nlp
  rw [hfm,bq (by unfold lwK;rw [aa];lia)]
  have s1:=bx.new (o:=.lst ((lwK fs k).map V.int)) nlp
  have e1:(upd H2 lp (.lst ((lwK fs k).map V.int))) lp=some (.lst ((lwK fs k).map V.int)):=aq
  generalize upd H2 lp (.lst ((lwK fs k).map V.int))=H1 at s1 e1
  refine ⟨_,rfl,f,_,rfl,(hf.same s1).or,fun J C O hC=>fS O (fun i ys H3=>H3=H1∧ys=((hgK fs k).take i).map V.int) (by rw [hfm];exact aL (aE (by lia))) ⟨rfl,rfl⟩ ?_ ?_ ?_⟩
  ·rintro i ys H3 hi ⟨rfl,rfl⟩
   exact ⟨hC _ (bx.refl _),by rw [aa,aC];lia⟩
  ·rintro i ys H3 hi ⟨rfl,rfl⟩
   obtain ⟨v,ev,gv⟩:=getD_map_int hi
   rw [hfm] at hi
   have hv:(hgK fs k)[i]?=some (-(-v/k)):=by unfold hgK;rw [a_,gv];rfl
   try dsimp only
   rw [ev]
   refine ⟨dR rfl,fh ⟨_,rfl,_,rfl,_,rfl,_,_,rfl,rfl,⟨by lia,by lia⟩,_,rfl,aE (by rw [aa,aC];lia),_,by lia,rfl,by lia,rfl,?_⟩⟩
   rw [take_snoc hv,aw];rfl
  rintro ys H3 ⟨rfl,rfl⟩ hp nhp
  rw [hfm,bq (by unfold hgK;rw [aa];lia)]
  have s2:=s1.next (o:=.lst ((hgK fs k).map V.int)) nhp
  have e2:(upd H3 hp (.lst ((hgK fs k).map V.int))) hp=some (.lst ((hgK fs k).map V.int)):=aq
  have e2l:=bx.new (o:=.lst ((hgK fs k).map V.int)) nhp _ _ e1
  generalize upd H3 hp (.lst ((hgK fs k).map V.int))=H4 at s2 e2 e2l
  have hk0:0<k:=by lia
  have bnd:∀i,i<es.length→-2^150≤(lwK fs k).getD i 0∧(hgK fs k).getD i 0≤2^150:=fun i hi=>by
   have:=tO (k:=k) (B:=2^140) (by lia) (by decide) (show i<fs.length by lia) (hB i hi)
   exact ⟨Int.le_trans (by decide) this.1,Int.le_trans this.2 (by decide)⟩
  refine ⟨_,rfl,_,rfl,_,rfl,_,rfl,_,rfl,_,rfl,x,lp,hp,m,es,lwK fs k,hgK fs k,rfl,hw.same s2,SqL.of e2l,SqL.of e2,by unfold lwK;rw [aa];exact hl,by unfold hgK;rw [aa];exact hl,hz,m1,m2,hE,fun i hi=>(xG hk0 (show i<fs.length by lia)).1,bnd,fun t l as H5 nl s5 t5 l5 BF BR=>?_,fun t l ps R H5 nl s5 t5 l5 eps hs BR=>?_⟩
  ·have hal:=BF.len
   have has:∀v∈as,v.natAbs<2^200:=fun v hv=>by
    obtain ⟨i,hi,rfl⟩:=cf.mp hv
    have b1:=BF.ins i (by lia)
    have b2:=bnd i (by lia)
    rw [gX hi] at b1
    have b3:-2^150≤as[i]:=Int.le_trans b2.1 b1.1
    have b4:as[i]≤2^150:=Int.le_trans b1.2 b2.2
    lia
   refine ⟨t,_,1,_,rfl,rfl,SqT.of t5,rfl,l,false,-k,as,rfl,SqL.of l5,by lia,by lia,has,fun lt H6 nlt s6 e6=>?_⟩
   have s46:=s2.trans (s5.trans s6)
   refine ⟨f,lt,b,false,fs,as.map (-k*·),rfl,hf.same s46,SqL.of e6,by lia,fun z=>absurd (by rw [aa];lia) z,fun _ l7 H7 nl7 s7 e7=>?_⟩
   exact kk l7 _ H7 (bN s46 nl7) (s46.trans s7) e7 (xo hk0 hl hal hd BF.rq BF.ins) ⟨as,BR,rfl⟩
  ·refine absurd hs (tH hk0 (eps▸uB ..) hd fun t ht=>(xG hk0 (show t<fs.length by lia)).2)
def zo (K:ai) (c:Cs):Sp:=fun vs H Q _=>∃(x q:Addr) (m k:Int) (es:List (Int×Int)) (rs:List Int),vs=[.ref x,.ref q,.int k]∧eW K c.Web H x m es∧SqL K H q (rs.map V.int)∧rs.length=es.length∧1≤m∧m≤20∧es.length≤40∧de es m∧2≤k∧k≤10^20∧isR m es rs k=true ∧
 ∀l gs H',H l=none→bx H H'→H' l=some (.lst (gs.map V.int))→RdF es rs k gs→LtR m es rs k gs→Q (.ref l) H'
theorem Bs:bY ["web","rests","k","whole"] ["web","rests","k"] (az sLt):=⟨rfl,rfl,rfl,by decide +kernel,rfl,by decide +kernel,by decide +kernel⟩
theorem Ao {f:Addr} {fd:FuncData} (F:Fun K "lifted" "lifted" sLt f fd) (T:Txt K mg c) (D_Ir:hX P w K mg base 3 "is_rest_flow" ["web","rests","k"] (yo K c)) (D_Ft:Def P w K mg base 3 "free_ties" ["web"] (xc K c)) (D_Fz:hX P w K mg base 5 "filled_whole" ["web","values"] (zt K c)) (D_Rd:Def P w K mg base 4 "reduced" ["web","flow","k"] (zh K c)):fH P w K mg base CX0 6 f fd ["web","rests","k"] (zo K c):=by
 refine F.ok Bs (fun vs H Q E h=>?_) (fun cdv A outer s H vs Q E hr h=>?_)
 ·obtain ⟨x,q,m,k,es,rs,rfl,_⟩:=h
  rfl
 ·obtain ⟨x,q,m,k,es,rs,rfl,hw,hq,hl,m1,m2,hz,hE,h0,h1,hR,kk⟩:=h
  refine ⟨_,aB (eV (ip (h_ (bX D_Ir.calm hr (ah (pv 0) (ah (pv 1) (ah (pv 2) ax))))))
    (aR (jF)) (cX))
   (aB (bF (i:=3) Bs.nd rfl (Or.inl rfl) (bX D_Fz.calm hr (ah (pv 0) (ah (fJ (N':=["tie","rests"]) (nl:=1) (js:=[1]) rfl (.of (osc:=az sLt) (N:=["web","rests","k","whole"]) (by decide +kernel) rfl rfl) (f_ (K:=K) rfl (bX D_Ft hr (ah (pv 0) ax)))
    (fun _ _ _ _=>bK (i:=0) (show (["tie","rests"]:List Str).Nodup by decide +kernel) rfl (Or.inl rfl)) (fun _ _ _ _=>dD)
    (fun _ _ _ _=>cD (ixL (K:=K) rfl) (pv 1) (pv 0) (fun _ _=>rfl))) ax))))
   (aR (cI (bX D_Rd hr (ah (pv 0) (ah (pv 3) (ah (pv 2) ax))))))),?_⟩
  refine ⟨_,rfl,_,rfl,_,rfl,x,q,false,m,k,es,rs,rfl,hw,hq,by lia,m1,m2,hz,hE,fun z=>absurd ⟨h0,h1⟩ z,fun _ _ z=>absurd hl z,fun _ _ _ H1 s1=>⟨_,rfl,?_⟩⟩
  rw [hR]
  refine gc ?_
  have hfl:=rg es
  have hfm:((fre es).map V.int).length=(fre es).length:=aa ..
  refine ⟨_,rfl,_,rfl,x,m,es,rfl,hw.same s1,m1,m2,hz,hE,fun lf H2 nlf s2 e2=>?_⟩
  have s02:=s1.trans s2
  refine ⟨lf,_,rfl,.inl (SqL.of e2),fun J C O hC=>fS O (fun i ys H3=>H3=H2∧ys=((frv es rs).take i).map V.int) (by rw [hfm];exact aL (aE (by lia))) ⟨rfl,rfl⟩ ?_ ?_ ?_⟩
  ·rintro i ys H3 hi ⟨rfl,rfl⟩
   exact ⟨hC _ (bx.refl _),by rw [aa,aC];lia⟩
  ·rintro i ys H3 hi ⟨rfl,rfl⟩
   obtain ⟨v,ev,gv⟩:=getD_map_int hi
   rw [hfm] at hi
   obtain ⟨t0,t1⟩:=lE (bj gv)
   have hv:(frv es rs)[i]?=some (rs.getD v.toNat 0):=by unfold frv;rw [a_,gv];rfl
   try dsimp only
   rw [ev]
   refine ⟨dR rfl,fh ⟨_,rfl,_,rfl,q,_,_,_,rfl,rfl,s02.seq hq,ft (ns:=rs) t0 (by lia),aE (by rw [aa,aC];lia),_,by lia,rfl,by lia,rfl,?_⟩⟩
   rw [take_snoc hv,aw];rfl
  rintro ys H3 ⟨rfl,rfl⟩ lv nlv
  have hvl:=rb es rs
  rw [hfm,bq (by lia)]
  have s3:=s02.next (o:=.lst ((frv es rs).map V.int)) nlv
  have e3:(upd H3 lv (.lst ((frv es rs).map V.int))) lv=some (.lst ((frv es rs).map V.int)):=aq
  generalize upd H3 lv (.lst ((frv es rs).map V.int))=H4 at s3 e3
  have hvb:=ph hl hR
  refine ⟨x,lv,m,es,frv es rs,rfl,hw.same s3,SqL.of e3,m1,m2,hz,hE,fun v hv=>by have:=hvb v hv;lia,fun z=>absurd hvl z,fun _ lw fs H5 nlw s5 e5 hF=>?_⟩
  have s05:=s3.trans s5
  have hb:=hF.bound (B:=10^20) hE hvl (by decide) hz fun v hv=>by have:=hvb v hv;lia
  refine ⟨_,rfl,_,rfl,_,rfl,x,lw,false,m,k,es,fs,rfl,hw.same s05,SqL.of e5,hF.1,hz,m1,m2,hE,h0,h1,hF.2.1,fun t ht=>Int.le_trans (hb t ht) (by decide),fun l gs H6 nl s6 e6 RF RR=>?_⟩
  rw [qI hE hl hR hF] at RF
  exact kk l gs H6 (bN s05 nl) (s05.trans s6) e6 RF ⟨fs,hF,RR⟩
def yu (K:ai) (c:Cs):Sp:=fun vs H Q E=>∃(x q:Addr) (m:Int) (es:List (Int×Int)) (ss:List Int),vs=[.ref x,.ref q]∧eW K c.Web H x m es∧SqL K H q (ss.map V.int)∧ss.length≤900∧es.length≤40 ∧
 (¬gp es.length ss→∀H',bx H H'→E (.ref c.BadSet) none H')∧(gp es.length ss→∀H',bx H H'→Q .non H')
theorem Cm:bY ["web","some"] ["web","some"] (az sCk):=⟨rfl,rfl,rfl,by decide +kernel,rfl,by decide +kernel,by decide +kernel⟩
theorem anyB {α:Type} (g:α→Bool):∀l:List α,(l.map fun a=>V.bl (g a)).all sk=true∧(l.map fun a=>V.bl (g a)).any tv=l.any g
 | []=>⟨rfl,rfl⟩
 | a::l=>by
  rw [bf,dN,fc,fc,(anyB g l).1,(anyB g l).2]
  exact ⟨rfl,rfl⟩
theorem AG {f:Addr} {fd:FuncData} (F:Fun K "check_set" "check_set" sCk f fd) (T:Txt K mg c):fH P w K mg base (CXE P w) 1 f fd ["web","some"] (yu K c):=by
 refine F.okE Cm (fun vs H Q E h=>?_) (fun cdv A outer s H vs Q E hr h=>?_)
 ·obtain ⟨x,q,m,es,ss,rfl,_⟩:=h
  rfl
 ·obtain ⟨x,q,m,es,ss,rfl,hw,hq,hz,he,k1,k2⟩:=h
  refine ⟨_,aB (eV (h_ (bg (wz (K:=K) rfl rfl) (by rfl) T.any dM (ah (fJ (N':=["tie","web"]) (nl:=1) (js:=[0]) rfl (.of (osc:=az sCk) (N:=["web","some"]) (by decide +kernel) rfl rfl) (f_ (K:=K) rfl (pv 1))
    (fun _ _ _ _=>bK (i:=0) (show (["tie","web"]:List Str).Nodup by decide +kernel) rfl (Or.inl rfl)) (fun _ _ _ _=>dD)
    (fun _ _ _ _=>qm (ly qu iP (aS) (pv 0) (bg (ig (K:=K) rfl) (by rfl) T.len aX (ah (gP (K:=K) rfl T.web (pv 1)) ax))))) ax)))
    (aR (fO rfl rfl (by rfl) T.mBadSet T.xBadSet (ah gZ ax))) (cX))
   (aR (eV (h_ (bg (wz (K:=K) rfl rfl) (by rfl) T.any dM (ah (fJ (N':=["one","two"]) (nl:=2) (js:=[]) rfl (.of (osc:=az sCk) (N:=["web","some"]) (by decide +kernel) rfl rfl) (ma (K:=K) rfl rfl T.zip (ah (pv 1) (ah (iF (slL (K:=K) rfl) (pv 1) (iw (aS)) (jj)) ax)))
    (fun _ _ _ _=>jT (K:=K) (i:=0) (j:=1) rfl rfl (show (["one","two"]:List Str).Nodup by decide +kernel) rfl rfl rfl rfl) (fun _ _ _ _=>dD)
    (fun _ _ _ _=>gC xB (pv 0) (pv 1) (cH _))) ax)))
    (aR (fO rfl rfl (by rfl) T.mBadSet T.xBadSet (ah gZ ax))) (cX))),?_⟩
  have hsm:(ss.map V.int).length=ss.length:=aa ..
  refine ⟨_,rfl,q,_,rfl,.inl hq,fun J C O hC=>fS O (fun i ys H2=>H2=H∧ys=(ss.take i).map fun t=>V.bl (!(decide (0≤t)&&decide (t<(es.length:Int))))) (by rw [hsm];exact aL (aE (by lia))) ⟨rfl,rfl⟩ ?_ ?_ ?_⟩
  ·rintro i ys H2 hi ⟨rfl,rfl⟩
   exact ⟨hC _ (bx.refl _),by rw [aa,aC];lia⟩
  ·rintro i ys H2 hi ⟨rfl,rfl⟩
   obtain ⟨v,ev,gv⟩:=getD_map_int hi
   rw [hsm] at hi
   try dsimp only
   rw [ev]
   have hl2:((ss.take i).map fun t=>V.bl (!(decide (0≤t)&&decide (t<(es.length:Int))))).length<sizeLine:=aE (by rw [aa,aC];lia)
   have fin:∀b,b=(!(decide (0≤v)&&decide (v<(es.length:Int))))→((ss.take i).map fun t=>V.bl (!(decide (0≤t)&&decide (t<(es.length:Int)))))++[V.bl b]=(ss.take (i+1)).map fun t=>V.bl (!(decide (0≤t)&&decide (t<(es.length:Int)))):=fun b e=>by
    rw [take_snoc gv,aw,e];rfl
   refine ⟨dR rfl,fh ?_⟩
   refine ⟨_,rfl,_,_,rfl,rfl,_,rfl,ie (fun c=>?_) (fun c=>?_)⟩
   ·refine ⟨_,rfl,x,m,es,rfl,hw,fun tt zs ht hp=>?_⟩
    refine ⟨tt,zs,rfl,.inr (SqT.of ht),_,_,rfl,rfl,_,rfl,hl2,_,by lia,rfl,by lia,rfl,fin _ ?_⟩
    rw [c,dw,hp.len]
   ·refine ⟨_,rfl,hl2,_,by lia,rfl,by lia,rfl,fin _ ?_⟩
    rw [du.mpr c,cZ]
  rintro ys H2 ⟨rfl,rfl⟩ l1 n1
  rw [hsm,bD]
  refine ⟨l1,_,rfl,.inl (SqL.of aq),(anyB _ _).1,_,rfl,?_⟩
  rw [(anyB _ _).2]
  have s1:=bx.new (o:=.lst (ss.map fun t=>V.bl (!(decide (0≤t)&&decide (t<(es.length:Int)))))) n1
  generalize upd H2 l1 (.lst (ss.map fun t=>V.bl (!(decide (0≤t)&&decide (t<(es.length:Int))))))=H1 at s1
  refine ie (fun c1=>?_) (fun c1=>?_)
  ·refine ⟨(by show 1≤sizeLine;decide),k1 (fun z=>?_) _ s1⟩
   obtain ⟨t,ht,hb⟩:=cN.mp c1
   have:=z.rng t ht
   rw [decide_eq_true this.1,decide_eq_true this.2] at hb
   cases hb
  have hrng:∀t∈ss,0≤t∧t<(es.length:Int):=fun t ht=>Classical.byContradiction fun z=>c1 (cN.mpr ⟨t,ht,by
   by_cases y:0≤t
   ·rw [decide_eq_false (show ¬t<(es.length:Int) from fun w=>z ⟨y,w⟩),dJ];rfl
   ·rw [decide_eq_false y,cZ];rfl⟩)
  refine ⟨_,rfl,_,rfl,1,rfl,q,_,rfl,s1.seq hq,fun pc npc=>?_⟩
  have ecut:sm (ss.map V.int) (some 1) none=(ss.drop 1).map V.int:=by
   cases ss with
   | nil=>rfl
   | cons a l=>rw [show (1:Int)=0+1 from rfl,rS (by decide) (by rw [aa,bA];lia),←fZ];rfl
  rw [ecut]
  have s2:=s1.next (o:=.lst ((ss.drop 1).map V.int)) npc
  have e2:(upd H1 pc (.lst ((ss.drop 1).map V.int))) pc=some (.lst ((ss.drop 1).map V.int)):=aq
  generalize upd H1 pc (.lst ((ss.drop 1).map V.int))=H3 at s2 e2
  have hn:min (ss.map V.int).length ((ss.drop 1).map V.int).length=ss.length-1:=by rw [hsm,aa,cM];lia
  have hdr:∀i,(ss.drop 1).getD i 0=ss.getD (i+1) 0:=fun i=>by rw [ae,List.getElem?_drop,ae,Nat.add_comm]
  refine ⟨false,false,q,pc,_,_,rfl,s2.seq hq,SqL.of e2,fun J C O hC=>mq O (fun i ys H4=>bx H3 H4∧ys=(bI i).map fun j=>V.bl (decide (ss.getD (j+1) 0≤ss.getD j 0))) (by rw [hn];exact aL (aE (by lia))) ⟨bx.refl _,rfl⟩ ?_ ?_ ?_⟩
  ·rintro i ys H4 hi ⟨s4,rfl⟩
   exact ⟨hC _ ((s2.trans s4).seq hq) (SqL.of (s4 _ _ e2)),by rw [aa,bW];exact aN _⟩
  ·rintro i ys H4 r hi ⟨s4,rfl⟩ nr
   rw [hn] at hi
   dsimp only
   rw [getD_ints (show i<ss.length by lia),getD_ints (show i<(ss.drop 1).length by rw [cM];lia),hdr]
   refine ⟨r,_,rfl,SqT.of aq,rfl,_,_,rfl,_,_,rfl,rfl,iu rfl rfl,fh ?_⟩
   refine ⟨_,rfl,_,rfl,_,_,rfl,rfl,aE (by rw [aa,bW];lia),_,by rw [hn];lia,rfl,by rw [hn];lia,s4.next nr,?_⟩
   rw [fu,aw];rfl
  ·rintro ys H4 ⟨s4,rfl⟩ l2 n2
   rw [hn]
   refine ⟨l2,_,rfl,.inl (SqL.of aq),(anyB _ _).1,_,rfl,?_⟩
   rw [(anyB _ _).2]
   have s5:=(s2.trans s4).next (o:=.lst ((bI (ss.length-1)).map fun j=>V.bl (decide (ss.getD (j+1) 0≤ss.getD j 0)))) n2
   generalize upd H4 l2 (.lst ((bI (ss.length-1)).map fun j=>V.bl (decide (ss.getD (j+1) 0≤ss.getD j 0))))=H5 at s5
   refine ie (fun c2=>?_) (fun c2=>?_)
   ·refine ⟨(by show 1≤sizeLine;decide),k1 (fun z=>?_) _ s5⟩
    obtain ⟨j,hj,hb⟩:=cN.mp c2
    have h1:=of_decide_eq_true hb
    have h2:=nS z.up (i:=j) (by have:=bM.mp hj;lia)
    lia
   ·refine k2 ⟨hrng,wI fun i hi=>Classical.byContradiction fun z=>c2 (cN.mpr ⟨i,bM.mpr (by lia),decide_eq_true (by lia)⟩)⟩ _ s5
def ym (K:ai) (c:Cs):Sp:=fun vs H Q _=>∃(x q:Addr) (m:Int) (es:List (Int×Int)) (ss:List Int),vs=[.ref x,.ref q]∧eW K c.Web H x m es∧SqL K H q (ss.map V.int)∧es.length≤40 ∧
 ∀l H',H l=none→bx H H'→H' l=some (.lst ((mkS es.length ss).map V.int))→Q (.ref l) H'
theorem Ce:bY ["web","some"] ["web","some"] (az sMr):=⟨rfl,rfl,rfl,by decide +kernel,rfl,by decide +kernel,by decide +kernel⟩
theorem Al {f:Addr} {fd:FuncData} (F:Fun K "marks" "marks" sMr f fd) (T:Txt K mg c):fH P w K mg base CX0 1 f fd ["web","some"] (ym K c):=by
 refine F.ok Ce (fun vs H Q E h=>?_) (fun cdv A outer s H vs Q E hr h=>?_)
 ·obtain ⟨x,q,m,es,ss,rfl,_⟩:=h
  rfl
 ·obtain ⟨x,q,m,es,ss,rfl,hw,hq,he,k⟩:=h
  refine ⟨_,aR (cI (fJ (N':=["tie","some"]) (nl:=1) (js:=[1]) rfl (.of (osc:=az sMr) (N:=["web","some"]) (by decide +kernel) rfl rfl) (fI rfl T.range (ah (bg (ig (K:=K) rfl) (by rfl) T.len aX (ah (gP (K:=K) rfl T.web (pv 0)) ax)) ax))
    (fun _ _ _ _=>bK (i:=0) (show (["tie","some"]:List Str).Nodup by decide +kernel) rfl (Or.inl rfl)) (fun _ _ _ _=>dD)
    (fun _ _ _ _=>g_ (cm (wt (K:=K) rfl) (pv 0) (pv 1) (by with_unfolding_all rfl)) (aS) (aS)))),?_⟩
  refine ⟨_,rfl,x,m,es,rfl,hw,fun tt zs ht hp=>?_⟩
  have hzl:=hp.len
  have eun:((zs.length:Int)).toNat=es.length:=hzl
  refine ⟨tt,zs,rfl,.inr (SqT.of ht),(zs.length:Int),rfl,by lia,by lia,?_⟩
  rw [eun]
  refine fS eQ (fun i ys H2=>H2=H∧ys=((mkS es.length ss).take i).map V.int) (aL (aE (by lia))) ⟨rfl,rfl⟩ ?_ ?_ ?_
  ·rintro i ys H2 hi ⟨rfl,rfl⟩
   exact ⟨trivial,by rw [aa,aC];lia⟩
  ·rintro i ys H2 hi ⟨rfl,rfl⟩
   have hl2:(((mkS es.length ss).take i).map V.int).length<sizeLine:=aE (by rw [aa,aC];lia)
   have hg:=qC (ss:=ss) (show i<es.length from hi)
   try dsimp only
   rw [fX]
   refine ⟨dR rfl,fh ⟨_,rfl,_,rfl,q,_,rfl,.inl hq,rfl,gm _,_,rfl,?_⟩⟩
   rw [if_neg aV,hJ]
   have hm:(ss.any (·==(i:Int)))=decide ((i:Int)∈ss):=by
    rw [cS,decide_eq_true_iff,cN]
    exact ⟨fun ⟨y,h1,h2⟩=>by rw [←beq_iff_eq.mp h2];exact h1,fun h=>⟨_,h,beq_self_eq_true _⟩⟩
   rw [hm]
   by_cases c1:(i:Int)∈ss
   ·rw [decide_eq_true c1]
    refine fh ⟨hl2,_,by lia,rfl,by lia,rfl,?_⟩
    rw [take_snoc hg,aw,if_pos c1];rfl
   ·rw [decide_eq_false c1]
    refine gc ⟨hl2,_,by lia,rfl,by lia,rfl,?_⟩
    rw [take_snoc hg,aw,if_neg c1];rfl
  ·rintro ys H2 ⟨rfl,rfl⟩ l nl
   rw [bq (by rw [fq];exact aN _)]
   exact k l _ nl (bx.new nl) aq
def zx (K:ai) (c:Cs):Sp:=fun vs H Q E=>∃(x q:Addr) (m:Int) (es:List (Int×Int)) (ss:List Int),vs=[.ref x,.ref q]∧eW K c.Web H x m es∧SqL K H q (ss.map V.int)∧ss.length≤900∧1≤m∧m≤20∧es.length≤40∧de es m ∧
 (¬gp es.length ss→∀H',bx H H'→E (.ref c.BadSet) none H')∧(gp es.length ss→∀H',bx H H'→Q (.bl (isR m es (mkS es.length ss) 2)) H')
theorem Ci:bY ["web","some"] ["web","some"] (az sEv):=⟨rfl,rfl,rfl,by decide +kernel,rfl,by decide +kernel,by decide +kernel⟩
theorem AB {f:Addr} {fd:FuncData} (F:Fun K "is_even" "is_even" sEv f fd) (T:Txt K mg c) (D_Ck:hX P w K mg base 1 "check_set" ["web","some"] (yu K c)) (D_Mr:Def P w K mg base 1 "marks" ["web","some"] (ym K c)) (D_Ir:hX P w K mg base 3 "is_rest_flow" ["web","rests","k"] (yo K c)):fH P w K mg base (CXE P w) 4 f fd ["web","some"] (zx K c):=by
 refine F.okE Ci (fun vs H Q E h=>?_) (fun cdv A outer s H vs Q E hr h=>?_)
 ·obtain ⟨x,q,m,es,ss,rfl,_⟩:=h
  rfl
 ·obtain ⟨x,q,m,es,ss,rfl,hw,hq,hz,m1,m2,he,hE,k1,k2⟩:=h
  refine ⟨_,aB (dE (fi D_Ck hr rfl rfl (ah (pv 0) (ah (pv 1) ax))))
   (aR (cI (fi D_Ir hr rfl rfl (ah (pv 0) (ah (bX D_Mr hr (ah (pv 0) (ah (pv 1) ax))) (ah (aS) ax)))))),?_⟩
  refine ⟨_,rfl,_,rfl,x,q,m,es,ss,rfl,hw,hq,hz,he,fun z H1 s1=>k1 z H1 s1,fun ok H1 s1=>?_⟩
  refine ⟨_,rfl,_,rfl,_,rfl,x,q,m,es,ss,rfl,hw.same s1,s1.seq hq,he,fun l H2 nl s2 e2=>?_⟩
  have s02:=s1.trans s2
  exact ⟨x,l,false,m,2,es,mkS es.length ss,rfl,hw.same s02,SqL.of e2,by rw [fq];lia,m1,m2,he,hE,fun z=>absurd ⟨by decide,by decide⟩ z,fun _ _ z=>absurd (fq ..) z,fun _ _ _ H3 s3=>k2 ok H3 (s02.trans s3)⟩
def zy (K:ai) (c:Cs):Sp:=fun vs H Q E=>∃(x q:Addr) (m:Int) (es:List (Int×Int)) (ss:List Int),vs=[.ref x,.ref q]∧eW K c.Web H x m es∧SqL K H q (ss.map V.int)∧ss.length≤900∧1≤m∧m≤20∧es.length≤40∧de es m ∧
 (¬(gp es.length ss∧isR m es (mkS es.length ss) 2=true)→∀H',bx H H'→E (.ref c.BadSet) none H')∧(gp es.length ss→isR m es (mkS es.length ss) 2=true→∀l gs H',H l=none→bx H H'→H' l=some (.lst (gs.map V.int))→RdF es (mkS es.length ss) 2 gs→LtR m es (mkS es.length ss) 2 gs→Q (.ref l) H')
theorem Cj:bY ["web","some"] ["web","some"] (az sEf):=⟨rfl,rfl,rfl,by decide +kernel,rfl,by decide +kernel,by decide +kernel⟩
theorem AD {f:Addr} {fd:FuncData} (F:Fun K "even_flow" "even_flow" sEf f fd) (T:Txt K mg c) (D_Ev:hX P w K mg base 4 "is_even" ["web","some"] (zx K c)) (D_Mr:Def P w K mg base 1 "marks" ["web","some"] (ym K c)) (D_Lt:Def P w K mg base 6 "lifted" ["web","rests","k"] (zo K c)):fH P w K mg base (CXE P w) 7 f fd ["web","some"] (zy K c):=by
 refine F.okE Cj (fun vs H Q E h=>?_) (fun cdv A outer s H vs Q E hr h=>?_)
 ·obtain ⟨x,q,m,es,ss,rfl,_⟩:=h
  rfl
 ·obtain ⟨x,q,m,es,ss,rfl,hw,hq,hz,m1,m2,he,hE,k1,k2⟩:=h
  refine ⟨_,aB (eV (ip (h_ (fi D_Ev hr rfl rfl (ah (pv 0) (ah (pv 1) ax)))))
    (aR (fO rfl rfl (by rfl) T.mBadSet T.xBadSet (ah gZ ax))) (cX))
   (aR (cI (bX D_Lt hr (ah (pv 0) (ah (bX D_Mr hr (ah (pv 0) (ah (pv 1) ax))) (ah (aS) ax)))))),?_⟩
  refine ⟨_,rfl,_,rfl,x,q,m,es,ss,rfl,hw,hq,hz,m1,m2,he,hE,fun z H1 s1=>k1 (fun y=>z y.1) H1 s1,fun ok H1 s1=>⟨_,rfl,?_⟩⟩
  cases hR:isR m es (mkS es.length ss) 2 with
  | false=>exact fh ⟨(by show 1≤sizeLine;decide),k1 (fun y=>by rw [hR] at y;cases y.2) H1 s1⟩
  | true =>
   refine gc ?_
   refine ⟨_,rfl,_,rfl,_,rfl,x,q,m,es,ss,rfl,hw.same s1,s1.seq hq,he,fun l H2 nl s2 e2=>?_⟩
   have s02:=s1.trans s2
   exact ⟨x,l,m,2,es,mkS es.length ss,rfl,hw.same s02,SqL.of e2,fq ..,m1,m2,he,hE,by decide,by decide,hR,fun l3 gs H3 nl3 s3 e3 RF LR=>k2 ok hR l3 gs H3 (bN s02 nl3) (s02.trans s3) e3 RF LR⟩
def y_ (K:ai) (c:Cs):Sp:=fun vs H Q _=>∃(x q:Addr) (m:Int) (es:List (Int×Int)) (ss:List Int),vs=[.ref x,.ref q]∧eW K c.Web H x m es∧SqL K H q (ss.map V.int)∧gp es.length ss∧1≤m∧m≤20∧es.length≤40∧de es m ∧
 ∀b H',bx H H'→(b=true↔Spn es ss)→Q (.bl b) H'
theorem Bp:bY ["web","some","part"] ["web","some"] (az sSg):=⟨rfl,rfl,rfl,by decide +kernel,rfl,by decide +kernel,by decide +kernel⟩
def dLl (lss:List (List Int)):PyData:=.list (lss.map dI)
theorem rQ:∀es:List (List Int),PyData.canLayAll0 (es.map dI)=true∧PyData.depthAll (es.map dI)≤1
 | []=>⟨rfl,dU _⟩
 | n::r=>by
  obtain ⟨h1,h2⟩:=rQ r
  obtain ⟨h3,h4⟩:=rR n
  simp only [bf,dI,PyData.canLayAll0,PyData.canLay0,PyData.depthAll,PyData.depth,h1,h3,h4]
  exact ⟨rfl,Nat.max_le.mpr ⟨by simp,h2⟩⟩
theorem iD (es:List (List Int)):SeqAt.shaped (dLl es)=true:=by
 obtain ⟨h1,h2⟩:=rQ es
 unfold SeqAt.shaped dLl
 simp only [PyData.canLay0,PyData.depth,h1,dw]
 exact decide_eq_true (by lia)
theorem kE:∀ns ms:List (List Int),PyData.eqvAll (ns.map dI) (ms.map dI)=decide (ns=ms)
 | [],[]=>rfl
 | [],_::_=>rfl
 | _::_,[]=>rfl
 | a::r,b::t=>by
  simp only [bf,PyData.eqvAll]
  rw [kg,kE r t]
  simp only [List.cons.injEq,Bool.decide_and]
theorem rC (ns ms:List (List Int)):PyData.eqv (dLl ns) (dLl ms)=decide (ns=ms):=kE ns ms
theorem m_ {K:ai} {H:Hp} {ad:Int→Addr} {g:Int→List Int}:∀{rs:List Int},(∀r∈rs,H (ad r)=some (.lst ((g r).map V.int)))→iq K H (rs.map fun r=>V.ref (ad r)) ((rs.map g).map dI)
 | [],_=>.nil
 | r::rs,h=>.cons (eh (SqL.of (h r aP))) (m_ fun s hs=>h s (aO _ hs))
theorem xa {m:Int} {es:List (Int×Int)} {ss:List Int} {f f':Int→Int} (hE:de es m) (ok:gp es.length ss) (F:Lab m es f) (F':Lab m (sub es ss) f') (ha:(gL (sub es ss)).length=ss.length):pcs m.toNat f'=pcs m.toNat f↔Spn es ss:=by
 have r1:=rank hE F
 have r2:=rank (hV hE ok.rng) F'
 constructor
 ·intro z
  have h:(rts m.toNat f').length=(rts m.toNat f).length:=by
   have:=congrArg List.length z
   unfold pcs at this
   rwa [aa,aa] at this
  exact ⟨ok,ha,by lia⟩
 ·intro S
  exact qq fun p p0 p1=>qL hE ok.rng F F' (by rw [S.acy,S.all]) p p0 (by lia)
theorem z_ {f:Addr} {fd:FuncData} (F:Fun K "is_spanning_forest" "is_spanning_forest" sSg f fd) (T:Txt K mg c) (D_Ft:Def P w K mg base 3 "free_ties" ["web"] (xc K c)) (D_Pc:Def P w K mg base 2 "pieces" ["web"] (zk K c)) (D_N:sj P w K mg base 1 "Web" c.Web ["self","many","ties"] (lU K c.Web)):fH P w K mg base CX0 4 f fd ["web","some"] (y_ K c):=by
 refine F.ok Bp (fun vs H Q E h=>?_) (fun cdv A outer s H vs Q E hr h=>?_)
 ·obtain ⟨x,q,m,es,ss,rfl,_⟩:=h
  rfl
 ·obtain ⟨x,q,m,es,ss,rfl,hw,hq,ok,m1,m2,he,hE,k⟩:=h
  have hu:A.units+3+64<cLine:=hr.units
  refine ⟨_,aB (bF (i:=2) Bp.nd rfl (Or.inl rfl) (oh D_N hr (ah (qt (K:=K) rfl T.web (pv 0)) (ah (fJ (N':=["tie","web"]) (nl:=1) (js:=[0]) rfl (.of (osc:=az sSg) (N:=["web","some","part"]) (by decide +kernel) rfl rfl) (f_ (K:=K) rfl (pv 1))
    (fun _ _ _ _=>bK (i:=0) (show (["tie","web"]:List Str).Nodup by decide +kernel) rfl (Or.inl rfl)) (fun _ _ _ _=>dD)
    (fun _ _ _ _=>cD (ixT (K:=K) rfl) (gP (K:=K) rfl T.web (pv 1)) (pv 0) (fun _ _=>rfl))) ax))))
   (aR (cI (kA (vp (K:=K) rfl (bX D_Ft hr (ah (pv 2) ax))) (ky (gC (tq (K:=K) rfl hu) (bX D_Pc hr (ah (pv 2) ax)) (bX D_Pc hr (ah (pv 0) ax)) (cH _)))))),?_⟩
  clear hu
  have hsl:=ok.len
  have hsm:(ss.map V.int).length=ss.length:=aa ..
  refine ⟨_,rfl,x,m,es,rfl,hw,_,rfl,q,_,rfl,.inl hq,fun J C O hC=>fS O (fun i ys H2=>bx H H2∧Pairs K H2 ys (sub es (ss.take i))) (by rw [hsm];exact aL (aE (by lia))) ⟨bx.refl _,.nil⟩ ?_ ?_ ?_⟩
  ·rintro i ys H2 hi ⟨s2,p2⟩
   exact ⟨hC _ s2,by rw [p2.len,sub_len,aC];lia⟩
  ·rintro i ys H2 hi ⟨s2,p2⟩
   obtain ⟨v,ev,gv⟩:=getD_map_int hi
   rw [hsm] at hi
   have hv:=ok.rng v (bj gv)
   have hpl:=p2.len
   rw [sub_len,aC] at hpl
   try dsimp only
   rw [ev]
   refine ⟨dR rfl,fh ⟨_,rfl,x,m,es,rfl,hw.same s2,fun tt zs ht hp=>?_⟩⟩
   obtain ⟨r,ar,hr2,_⟩:=gy hp hv.1 hv.2
   refine ⟨_,rfl,tt,zs,v,.ref r,rfl,rfl,SqT.of ht,ar,aE (by lia),_,by lia,rfl,by lia,s2,?_⟩
   rw [take_snoc gv]
   unfold sub
   rw [aw]
   exact p2.snoc hr2
  rintro ys H2 ⟨s2,p2⟩ lp nlp
  rw [hsm,bD] at p2
  have s3:=s2.next (o:=.lst ys) nlp
  have e3:(upd H2 lp (.lst ys)) lp=some (.lst ys):=aq
  have p3:=p2.same (bx.new (o:=.lst ys) nlp)
  generalize upd H2 lp (.lst ys)=H3 at s3 e3 p3
  have hE':de (sub es ss) m:=hV hE ok.rng
  have hl':(sub es ss).length≤40:=by rw [sub_len];lia
  refine ⟨lp,m,ys,sub es ss,rfl,.inl (SqL.of e3),p3,m1,m2,hl',hE',fun y HW ny sW hwy=>?_⟩
  have s0W:=s3.trans sW
  refine ⟨_,rfl,y,m,sub es ss,rfl,hwy,m1,m2,hl',hE',fun l5 H5 n5 s5 e5=>?_⟩
  refine ⟨_,.inl ⟨_,SqL.of e5,rfl⟩,?_⟩
  have eb:(!!((fre (sub es ss)).map V.int).isEmpty)=true↔(gL (sub es ss)).length=ss.length:=by
   rw [Bool.not_not,List.isEmpty_iff,List.map_eq_nil_iff,vK,sub_len]
  by_cases ha:(gL (sub es ss)).length=ss.length
  ·refine ⟨_,rfl,?_⟩
   rw [if_pos (eb.mpr ha)]
   have s05:=s0W.trans s5
   refine ⟨_,rfl,y,m,sub es ss,rfl,hwy.same s5,m1,m2,hl',hE',fun l6 f6 H6 L6 P6=>?_⟩
   obtain ⟨s6,n6,ad6,a6,b6,_⟩:=P6
   refine ⟨_,rfl,x,m,es,rfl,hw.same (s05.trans s6),m1,m2,he,hE,fun l7 f7 H7 L7 P7=>?_⟩
   obtain ⟨s7,n7,ad7,a7,b7,_⟩:=P7
   refine ⟨dLl (pcs m.toNat f6),dLl (pcs m.toNat f7),.lst (SqL.of (s7 _ _ a6)) (m_ fun r hr=>s7 _ _ (b6 r hr).2.2),.lst (SqL.of a7) (m_ fun r hr=>(b7 r hr).2.2),iD _,iD _,?_⟩
   rw [rC]
   exact k _ _ ((s05.trans s6).trans s7) (by show decide _=true↔_;rw [decide_eq_true_iff];exact xa hE ok L7 L6 ha)
  ·refine ⟨_,rfl,?_⟩
   rw [if_neg (fun z=>ha (eb.mp z))]
   exact k _ _ (s0W.trans s5) ⟨fun z=>(by cases z),fun z=>absurd z.acy ha⟩
def zC (K:ai) (c:Cs):Sp:=fun vs H Q E=>∃(x q:Addr) (m:Int) (es:List (Int×Int)) (ss:List Int),vs=[.ref x,.ref q]∧eW K c.Web H x m es∧SqL K H q (ss.map V.int)∧ss.length≤900∧1≤m∧m≤20∧es.length≤40∧de es m ∧
 (¬Spn es ss→∀H',bx H H'→E (.ref c.BadSet) none H')∧(Spn es ss→∀H',bx H H'→Q .non H')
theorem Co:bY ["web","some"] ["web","some"] (az sCg):=⟨rfl,rfl,rfl,by decide +kernel,rfl,by decide +kernel,by decide +kernel⟩
theorem AH {f:Addr} {fd:FuncData} (F:Fun K "check_spanning_forest" "check_spanning_forest" sCg f fd) (T:Txt K mg c) (D_Ck:hX P w K mg base 1 "check_set" ["web","some"] (yu K c)) (D_Sg:Def P w K mg base 4 "is_spanning_forest" ["web","some"] (y_ K c)):fH P w K mg base (CXE P w) 5 f fd ["web","some"] (zC K c):=by
 refine F.okE Co (fun vs H Q E h=>?_) (fun cdv A outer s H vs Q E hr h=>?_)
 ·obtain ⟨x,q,m,es,ss,rfl,_⟩:=h
  rfl
 ·obtain ⟨x,q,m,es,ss,rfl,hw,hq,hz,m1,m2,he,hE,k1,k2⟩:=h
  refine ⟨_,aB (dE (fi D_Ck hr rfl rfl (ah (pv 0) (ah (pv 1) ax))))
   (aR (eV (ip (h_ (bX D_Sg hr (ah (pv 0) (ah (pv 1) ax)))))
    (aR (fO rfl rfl (by rfl) T.mBadSet T.xBadSet (ah gZ ax))) (cX))),?_⟩
  refine ⟨_,rfl,_,rfl,x,q,m,es,ss,rfl,hw,hq,hz,he,fun z H1 s1=>k1 (fun y=>z y.ok) H1 s1,fun ok H1 s1=>?_⟩
  refine ⟨_,rfl,_,rfl,x,q,m,es,ss,rfl,hw.same s1,s1.seq hq,ok,m1,m2,he,hE,fun b H2 s2 hb=>?_⟩
  have s02:=s1.trans s2
  cases b with
  | true=>exact ⟨_,rfl,gc (k2 (hb.mp rfl) _ s02)⟩
  | false=>exact ⟨_,rfl,fh ⟨(by show 1≤sizeLine;decide),k1 (fun z=>by cases hb.mpr z) _ s02⟩⟩
def wa (es:List (Int×Int)) (ss cs:List Int):Prop:=gp es.length cs∧EvS es cs∧∀t:Int,0≤t→t<(es.length:Int)→¬t∈ss→t∈cs
def zA (K:ai) (c:Cs):Sp:=fun vs H Q E=>∃(x q:Addr) (m:Int) (es:List (Int×Int)) (ss:List Int),vs=[.ref x,.ref q]∧eW K c.Web H x m es∧SqL K H q (ss.map V.int)∧ss.length≤900∧1≤m∧m≤20∧es.length≤40∧de es m ∧
 (¬Spn es ss→∀H',bx H H'→E (.ref c.BadSet) none H')∧(Spn es ss→∀l cs H',H l=none→bx H H'→H' l=some (.lst (cs.map V.int))→wa es ss cs→Q (.ref l) H')
theorem xh:bY ["web","some","outside","counts","tie","one"] ["web","some"] (az sCo):=⟨rfl,rfl,rfl,by decide +kernel,rfl,by decide +kernel,by decide +kernel⟩
theorem AF {f:Addr} {fd:FuncData} (F:Fun K "completed" "completed" sCo f fd) (T:Txt K mg c) (D_Cg:hX P w K mg base 5 "check_spanning_forest" ["web","some"] (zC K c)) (D_Wb:Def P w K mg base 3 "way_back" ["web","tie","some"] (yj K c)):fH P w K mg base (CXE P w) 6 f fd ["web","some"] (zA K c):=by
 refine F.okE xh (fun vs H Q E h=>?_) (fun cdv A outer s H vs Q E hr h=>?_)
 ·obtain ⟨x,q,m,es,ss,rfl,_⟩:=h
  rfl
 ·obtain ⟨x,q,m,es,ss,rfl,hw,hq,hz,m1,m2,he,hE,k1,k2⟩:=h
  have hu:A.units+3+64<cLine:=hr.units
  refine ⟨_,aB (dE (fi D_Cg hr rfl rfl (ah (pv 0) (ah (pv 1) ax))))
   (aB (jE (i:=2) (N':=["tie","some"]) (nl:=1) (js:=[1]) rfl (.of (osc:=az sCo) (N:=["web","some","outside","counts","tie","one"]) (by decide +kernel) rfl rfl) (fI rfl T.range (ah (bg (ig (K:=K) rfl) (by rfl) T.len aX (ah (gP (K:=K) rfl T.web (pv 0)) ax)) ax))
    (fun _ _ _ _=>bK (i:=0) (show (["tie","some"]:List Str).Nodup by decide +kernel) rfl (Or.inl rfl)) (fun _ _ _ _=>ix (cm (qw (K:=K) rfl) (pv 0) (pv 1) (by with_unfolding_all rfl)))
    (fun _ _ _ _=>pv 0) xh.nd rfl rfl)
   (aB (bF (i:=3) xh.nd rfl (Or.inl rfl) (bQ jv (dh (ah (aS) ax)) (bg (ig (K:=K) rfl) (by rfl) T.len aX (ah (gP (K:=K) rfl T.web (pv 0)) ax))))
   (aB (jO sf rfl (ju (K:=K) rfl (pv 2)) (bK (i:=4) xh.nd rfl (Or.inl rfl))
    (aR (jO sf rfl (ju (K:=K) rfl (bQ gk (dh (ah (pv 4) ax)) (bX D_Wb hr (ah (pv 0) (ah (pv 4) (ah (pv 1) ax)))))) (bK (i:=5) xh.nd rfl (Or.inl rfl))
    (aR (lj (pv 3) (pv 5) (jI (K:=K) rfl) (aS) my set_list)))))
   (aR (cI (fJ (N':=["tie","number"]) (nl:=2) (js:=[]) rfl (.of (osc:=az sCo) (N:=["web","some","outside","counts","tie","one"]) (by decide +kernel) rfl rfl) (jR (K:=K) rfl rfl T.enumerate (ah (pv 3) ax))
    (fun _ _ _ _=>jT (K:=K) (i:=0) (j:=1) rfl rfl (show (["tie","number"]:List Str).Nodup by decide +kernel) rfl rfl rfl rfl) (fun _ _ _ _=>ix (cm iR (bQ eX (pv 1) (aS)) (aS) (cH _)))
    (fun _ _ _ _=>pv 0))))))),?_⟩
  clear hu
  refine ⟨_,rfl,_,rfl,x,q,m,es,ss,rfl,hw,hq,hz,m1,m2,he,hE,k1,fun S H1 s1=>?_⟩
  refine ⟨_,rfl,x,m,es,rfl,hw.same s1,fun t0 ys0 ht0 hp0=>⟨t0,ys0,rfl,.inr (SqT.of ht0),(ys0.length:Int),rfl,?_,?_,?_⟩⟩
  ·have:=hp0.len;lia
  ·have:=hp0.len;lia
  have hyl:=hp0.len
  rw [show ((ys0.length:Int)).toNat=es.length from hyl]
  have flen:∀j,(((ir es.length).take j).filter fun t=>!ss.any (·==t)).length≤j:=fun j=>cu (bP _ _) (by rw [aC];lia)
  refine fS eQ (fun j zs H3=>H3=H1∧zs=(((ir es.length).take j).filter fun t=>!ss.any (·==t)).map V.int) (aL (aE (by lia))) ⟨rfl,rfl⟩ ?_ ?_ ?_
  ·rintro j zs H3 hj ⟨rfl,rfl⟩
   exact ⟨trivial,by rw [aa];exact flen j⟩
  ·rintro j zs H3 hj ⟨rfl,rfl⟩
   have hj':j<es.length:=hj
   have fl:=flen j
   try dsimp only
   rw [fX]
   refine ⟨dR rfl,_,rfl,_,rfl,q,_,rfl,.inl (s1.seq hq),rfl,gm _,_,rfl,?_⟩
   rw [if_pos rfl,hJ]
   refine ie (fun c1=>?_) (fun c1=>?_)
   ·refine ⟨_,rfl,aE (by rw [aa];lia),_,by lia,rfl,by lia,rfl,?_⟩
    rw [take_snoc (iU hj'),bV,aw,bT (p:=fun t=>!ss.any (·==t)) c1];rfl
   ·refine ⟨_,by lia,rfl,by lia,rfl,?_⟩
    rw [take_snoc (iU hj'),bV,aw,bU (p:=fun t=>!ss.any (·==t)) c1];exact (bB _).symm
  rintro zs H3 ⟨rfl,rfl⟩ lo nlo
  rw [bq (by rw [gM];exact aN _)]
  obtain ⟨fr,efr⟩:∃fr,fr=(ir es.length).filter fun t=>!ss.any (·==t):=⟨_,rfl⟩
  have hfr:∀t:Int,t∈fr↔(0≤t∧t<(es.length:Int))∧¬t∈ss:=fun t=>by
   rw [efr,bG,fP]
   simp only [eU,List.any_eq_false,beq_iff_eq]
   exact ⟨fun h=>⟨h.1,fun z=>h.2 t z rfl⟩,fun h=>⟨h.1,fun z hz e=>h.2 (e▸hz)⟩⟩
  have fnd:fr.Nodup:=by
   rw [efr]
   exact kN (List.Pairwise.filter _ (by unfold ir;rw [dq];exact List.pairwise_lt_range.imp fun h=>by lia))
  have hfl:fr.length≤es.length:=by rw [efr];exact cu (bP _ _) (by rw [gM];exact aN _)
  rw [←efr]
  clear efr flen
  have s4:=s1.next (o:=.lst (fr.map V.int)) nlo
  have e4:(upd H3 lo (.lst (fr.map V.int))) lo=some (.lst (fr.map V.int)):=aq
  generalize upd H3 lo (.lst (fr.map V.int))=H4 at s4 e4
  refine ⟨(by show 1≤sizeLine;decide),fun q1 nq1=>?_⟩
  have s5:=s4.next (o:=.lst [V.int 0]) nq1
  have e5:(upd H4 q1 (.lst [V.int 0])) q1=some (.lst [V.int 0]):=aq
  have o5:=bx.new (o:=.lst [V.int 0]) nq1 _ _ e4
  generalize upd H4 q1 (.lst [V.int 0])=H5 at s5 e5 o5
  refine ⟨_,rfl,x,m,es,rfl,hw.same s5,fun t5 ys5 ht5 hp5=>?_⟩
  have hyl5:=hp5.len
  refine ⟨t5,ys5,rfl,.inr (SqT.of ht5),q1,(ys5.length:Int),_,rfl,rfl,e5,by lia,by lia,aL (aE (by show 1*((ys5.length:Int)).toNat≤1000;lia)),fun tl nt=>?_⟩
  rw [gY,show ((ys5.length:Int)).toNat=es.length by lia]
  have s6:=s5.next (o:=.lst ((au es.length (0:Int)).map V.int)) nt
  have e6:(upd H5 tl (.lst ((au es.length (0:Int)).map V.int))) tl=some (.lst ((au es.length (0:Int)).map V.int)):=aq
  have o6:=bx.new (o:=.lst ((au es.length (0:Int)).map V.int)) nt _ _ o5
  have ntl:lo≠tl:=bw o5 nt
  have ntH:H tl=none:=bN s5 nt
  generalize upd H5 tl (.lst ((au es.length (0:Int)).map V.int))=H6 at s6 e6 o6
  have hfm:(fr.map V.int).length=fr.length:=aa ..
  have rep0:∀k:Nat,(au es.length (0:Int)).getD k 0=0:=fun k=>by
   rw [ae,cy];split<;>rfl
  refine ⟨_,rfl,false,lo,_,rfl,SqL.of o6,fun J C O hC=>gQ O (fun i σ H7=>∃(cs:List Int) (v4 v5:Option V),σ=[some (.ref x),some (.ref q),some (.ref lo),some (.ref tl),v4,v5]∧bx H H7∧H7 lo=some (.lst (fr.map V.int))∧H7 tl=some (.lst (cs.map V.int))∧cs.length=es.length∧(∀p:Int,(2:Int)∣dp p es cs es.length)∧∀k:Nat,k<es.length→¬(k:Int)∈ss→cs.getD k 0=if (k:Int)∈fr.take i then 1 else 0) ⟨_,none,none,rfl,s6,o6,e6,bh ..,fun p=>⟨0,by rw [jx];rfl⟩,fun k _ _=>by rw [rep0,List.take_zero,if_neg (fun z=>nomatch z)]⟩ (fun i σ H7 _ h=>?_) ?_ ?_⟩
  ·obtain ⟨_,_,_,_,s7,o7,_⟩:=h
   exact hC _ (SqL.of o7)
  ·rintro i σ H7 hi ⟨cs,v4,v5,rfl,s7,o7,e7,hcl,hcd,hcv⟩
   obtain ⟨v,ev,gv⟩:=getD_map_int hi
   rw [hfm] at hi
   have hv:=(hfr v).mp (bj gv)
   have hfl2:∀t∈fr.take i,t≠v:=fun t ht e=>by
    obtain ⟨j,hj,ej⟩:=di.mp ht
    have h1:fr[i]=v:=by
     rw [aj hi] at gv
     exact Option.some.inj gv
    have h2:fr[j]=fr[i]:=by rw [ej,e,h1]
    exact List.pairwise_iff_getElem.mp (b_.mp fnd) j i (by lia) hi (by lia) h2
   try dsimp only
   rw [ev]
   refine ⟨_,rfl,(by show 1≤sizeLine;decide),fun q2 nq2=>?_⟩
   have s8:=s7.next (o:=.lst [V.int v]) nq2
   have t8:=bx.new (o:=.lst [V.int v]) nq2
   have e8:(upd H7 q2 (.lst [V.int v])) q2=some (.lst [V.int v]):=aq
   generalize upd H7 q2 (.lst [V.int v])=H8 at s8 t8 e8
   have hb:=hE _ (jf (es:=es) (ss:=[v]) (fun t ht=>by rw [ak.mp ht];exact hv.1) _ (ak.mpr rfl))
   refine ⟨_,rfl,_,rfl,_,rfl,x,q,v,m,es,ss,rfl,hw.same s8,hv.1.1,hv.1.2,s8.seq hq,S.ok.rng,hz,m2,hE,fun z=>absurd ?_ z,fun lw ts ps H9 s9 nlw e9 W=>?_⟩
   ·exact S.cn hE (Cn.eit (jf (es:=es) (ss:=[v]) (fun t ht=>by rw [ak.mp ht];exact hv.1) _ (ak.mpr rfl))) hb.2.2.1 hb.2.2.2 hb.1 hb.2.1
   have htl:=W.len
   have htn:=fk W.tnd (fun t ht=>(W.sub t ht).2)
   refine ⟨q2,lw,_,_,rfl,rfl,s9 _ _ e8,e9,aL (aE (by show 1+(ts.map V.int).length≤1000;rw [aa];lia)),fun lz nlz=>?_⟩
   rw [show [V.int v]++ts.map V.int=(v::ts).map V.int from rfl]
   have tA:=(t8.trans s9).next (o:=.lst ((v::ts).map V.int)) nlz
   have sA:=(s8.trans s9).next (o:=.lst ((v::ts).map V.int)) nlz
   have eA:(upd H9 lz (.lst ((v::ts).map V.int))) lz=some (.lst ((v::ts).map V.int)):=aq
   have nzt:lz≠tl:=(bw ((t8.trans s9) _ _ e7) nlz).symm
   generalize upd H9 lz (.lst ((v::ts).map V.int))=HA at tA sA eA
   have hzr:∀t∈v::ts,0≤t∧t<(es.length:Int):=fun t ht=>by
    rcases aU.mp ht with y | y
    ·rw [y];exact hv.1
    ·exact (W.sub t y).2
   have hzm:((v::ts).map V.int).length=(v::ts).length:=aa ..
   refine ⟨false,lz,_,rfl,SqL.of eA,fun J2 C2 O2 hC2=>gQ O2 (fun j σ HB=>∃(ds:List Int) (v5:Option V),σ=[some (.ref x),some (.ref q),some (.ref lo),some (.ref tl),some (.int v),v5]∧bx H HB∧HB lo=some (.lst (fr.map V.int))∧HB lz=some (.lst ((v::ts).map V.int))∧HB tl=some (.lst (ds.map V.int))∧ds.length=es.length∧(∀p:Int,dp p es ds es.length=dp p es cs es.length+(((v::ts).take j).map (tg p es)).sum)∧∀k:Nat,k<es.length→¬(k:Int)∈ss→ds.getD k 0=cs.getD k 0+if (k:Int)=v∧0<j then 1 else 0) ⟨cs,_,rfl,sA,tA _ _ o7,eA,tA _ _ e7,hcl,fun p=>by rw [List.take_zero];show _=_+(0:Int);lia,fun k _ _=>by rw [if_neg (fun z=>absurd z.2 (cL _))];lia⟩ (fun j σ HB _ h=>?_) ?_ ?_⟩
   ·obtain ⟨_,_,_,_,_,zB,_⟩:=h
    exact hC2 _ (SqL.of zB)
   ·rintro j σ HB hj ⟨ds,v5',rfl,sB,oB,zB,eB,hdl,hdd,hdv⟩
    obtain ⟨u,eu,gu⟩:=getD_map_int hj
    rw [hzm] at hj
    have hu2:=hzr u (bj gu)
    try dsimp only
    rw [eu]
    refine ⟨_,rfl,_,rfl,tl,_,u,_,rfl,rfl,hu2.1,SqL.of eB,jJ (by lia),_,_,rfl,rfl,tl,_,u,_,rfl,rfl,eB,iB hu2.1 (by rw [aa];lia),?_⟩
    rw [gN]
    refine ⟨bmp ds u,some (.int u),rfl,sB.upd ntH,by rw [bS ntl];exact oB,by rw [bS nzt];exact zB,aq,by rw [vR];exact hdl,fun p=>?_,fun k hk hks=>?_⟩
    ·rw [xX hdl (by lia),hdd p,take_snoc gu,aw,List.sum_append]
     simp only [bf,fw,cW,List.sum_nil]
     lia
    ·rw [ya (by lia),hdv k hk hks]
     cases j with
     | zero =>
      have e0:v=u:=Option.some.inj gu
      rw [if_neg (fun z=>absurd z.2 (cL _)),←e0]
      by_cases c:(k:Int)=v
      ·rw [if_pos (by lia),if_pos ⟨c,fW _⟩];lia
      ·rw [if_neg (by lia),if_neg (fun z=>c z.1)];lia
     | succ j =>
      have hts:u∈ts:=bj (show ts[j]?=some u from gu)
      have hus:=(W.sub u hts).1
      have:(k:Int)≠u:=fun z=>hks (z▸hus)
      rw [if_neg (show ¬k=u.toNat by lia)]
      by_cases c:(k:Int)=v
      ·rw [if_pos ⟨c,fW _⟩,if_pos ⟨c,fW _⟩];lia
      ·rw [if_neg (fun z=>c z.1),if_neg (fun z=>c z.1)];lia
   ·rintro σ HB ⟨ds,v5',rfl,sB,oB,zB,eB,hdl,hdd,hdv⟩
    rw [hzm] at hdd hdv
    refine ⟨ds,some (.int v),v5',rfl,sB,oB,eB,hdl,fun p=>?_,fun k hk hks=>?_⟩
    ·obtain ⟨a,ha⟩:=hcd p
     obtain ⟨b,hb⟩:=W.ring p
     rw [hdd p,bD]
     exact ⟨a+b,by lia⟩
    ·rw [hdv k hk hks,hcv k hk hks,take_snoc gv]
     by_cases c:(k:Int)=v
     ·rw [if_neg (show ¬(k:Int)∈fr.take i from fun z=>hfl2 _ z c),if_pos (show (k:Int)=v∧0<(v::ts).length from ⟨c,fW _⟩),if_pos (show (k:Int)∈fr.take i++[v] from aG _ (ak.mpr c))];rfl
     ·rw [if_neg (show ¬((k:Int)=v∧0<(v::ts).length) from fun z=>c z.1)]
      by_cases c2:(k:Int)∈fr.take i
      ·rw [if_pos c2,if_pos (show (k:Int)∈fr.take i++[v] from aI _ c2)];rfl
      ·rw [if_neg c2,if_neg (show ¬(k:Int)∈fr.take i++[v] from fun z=>(aM.mp z).elim c2 fun y=>c (ak.mp y))];rfl
  ·rintro σ H7 ⟨cs,v4,v5,rfl,s7,o7,e7,hcl,hcd,hcv⟩
   rw [hfm,bD] at hcv
   have hcm:(cs.map V.int).length=cs.length:=aa ..
   have flen:∀j,(((ir cs.length).take j).filter fun t=>decide (cs.getD t.toNat 0%2=1)).length≤j:=fun j=>cu (bP _ _) (by rw [aC];lia)
   refine ⟨_,rfl,false,tl,_,rfl,SqL.of e7,fun J C O hC=>mq O (fun j zs H8=>bx H7 H8∧zs=(((ir cs.length).take j).filter fun t=>decide (cs.getD t.toNat 0%2=1)).map V.int) (by rw [hcm];exact aL (aE (by lia))) ⟨bx.refl _,rfl⟩ ?_ ?_ ?_⟩
   ·rintro j zs H8 hj ⟨s8,rfl⟩
    exact ⟨hC _ (SqL.of (s8 _ _ e7)),by rw [aa];exact flen j⟩
   ·rintro j zs H8 pt hj ⟨s8,rfl⟩ npt
    obtain ⟨u,eu,gu⟩:=getD_map_int hj
    rw [hcm] at hj
    have fl:=flen j
    have eu2:cs.getD j 0=u:=by rw [ae,gu];rfl
    have s9:=s8.next (o:=.tup [V.int (j:Nat),(cs.map V.int).getD j .non]) npt
    try dsimp only
    rw [eu] at *
    refine ⟨pt,_,rfl,SqT.of aq,rfl,_,_,rfl,_,_,rfl,rfl,iu rfl rfl,?_⟩
    refine ⟨_,rfl,_,_,rfl,rfl,(by show (0:Int)<2;decide),rfl,_,rfl,?_⟩
    by_cases c1:u%2=1
    ·rw [decide_eq_true (show V.int (u%2)=V.int 1 by rw [c1])]
     refine fh ⟨_,rfl,aE (by rw [aa];lia),_,by lia,rfl,by lia,s9,?_⟩
     rw [take_snoc (iU hj),bV,aw,bT (p:=fun t:Int=>decide (cs.getD t.toNat 0%2=1)) (decide_eq_true (by rw [aY,eu2];exact c1))];rfl
    ·rw [decide_eq_false (show ¬V.int (u%2)=V.int 1 by intro z;injection z with z;exact c1 z)]
     refine gc ⟨_,by lia,rfl,by lia,s9,?_⟩
     rw [take_snoc (iU hj),bV,aw,bU (p:=fun t:Int=>decide (cs.getD t.toNat 0%2=1)) (by rw [decide_eq_true_iff,aY,eu2];exact c1)];exact (bB _).symm
   ·rintro zs H8 ⟨s8,rfl⟩ l8 n8
    rw [hcm,bq (by rw [gM];exact aN _)]
    have s08:=s7.trans s8
    refine k2 S l8 (odd cs) _ (bN s08 n8) (s08.next n8) aq ⟨by have:=xD cs;rwa [hcl] at this,tw hcl hcd,fun t h0 h1 hn=>?_⟩
    have:=hcv t.toNat (by lia) (by rw [show ((t.toNat:Nat):Int)=t by lia];exact hn)
    rw [show ((t.toNat:Nat):Int)=t by lia,if_pos ((hfr t).mpr ⟨⟨h0,h1⟩,hn⟩)] at this
    exact jU.mpr ⟨h0,by lia,by rw [this];rfl⟩
def zH (K:ai) (c:Cs):Sp:=fun vs H Q E=>∃(x q:Addr) (m:Int) (es:List (Int×Int)) (xs:List V) (sets:List (List Int)),vs=[.ref x,.ref q]∧eW K c.Web H x m es∧SqL K H q xs∧LlS H xs sets∧sets.length≤20∧es.length≤40 ∧
 (¬(∀t:Nat,t<es.length→∃ss∈sets,(t:Int)∈ss)→∀H',bx H H'→E (.ref c.BadSet) none H')∧((∀t:Nat,t<es.length→∃ss∈sets,(t:Int)∈ss)→∀H',bx H H'→Q .non H')
theorem Bv:bY ["web","sets","tie"] ["web","sets"] (az sAh):=⟨rfl,rfl,rfl,by decide +kernel,rfl,by decide +kernel,by decide +kernel⟩
theorem AN {f:Addr} {fd:FuncData} (F:Fun K "check_all_held" "check_all_held" sAh f fd) (T:Txt K mg c):fH P w K mg base (CXE P w) 1 f fd ["web","sets"] (zH K c):=by
 refine F.okE Bv (fun vs H Q E h=>?_) (fun cdv A outer s H vs Q E hr h=>?_)
 ·obtain ⟨x,q,m,es,xs,sets,rfl,_⟩:=h
  rfl
 ·obtain ⟨x,q,m,es,xs,sets,rfl,hw,hq,hs,hz,he,k1,k2⟩:=h
  refine ⟨_,aR (jO sf rfl (fI rfl T.range (ah (bg (ig (K:=K) rfl) (by rfl) T.len aX (ah (gP (K:=K) rfl T.web (pv 0)) ax)) ax)) (bK (i:=2) Bv.nd rfl (Or.inr rfl))
    (aR (eV (ip (h_ (bg (wz (K:=K) rfl rfl) (by rfl) T.any dM (ah (fJ (N':=["some","tie"]) (nl:=1) (js:=[2]) rfl (.of (osc:=az sAh) (N:=["web","sets","tie"]) (by decide +kernel) rfl rfl) (f_ (K:=K) rfl (pv 1))
    (fun _ _ _ _=>bK (i:=0) (show (["some","tie"]:List Str).Nodup by decide +kernel) rfl (Or.inl rfl)) (fun _ _ _ _=>dD)
    (fun _ _ _ _=>gC (wt (K:=K) rfl) (pv 1) (pv 0) (by with_unfolding_all rfl))) ax))))
    (aR (fO rfl rfl (by rfl) T.mBadSet T.xBadSet (ah gZ ax))) (cX)))),?_⟩
  have hxl:=hs.len
  refine ⟨_,rfl,x,m,es,rfl,hw,fun tt zs ht hp=>?_⟩
  have hzl:=hp.len
  refine ⟨tt,zs,rfl,.inr (SqT.of ht),(zs.length:Int),rfl,by lia,by lia,gQ eQ (fun i σ H2=>∃v2:Option V,σ=[some (.ref x),some (.ref q),v2]∧bx H H2∧∀t:Nat,t<i→∃ss∈sets,(t:Int)∈ss) ⟨none,rfl,bx.refl _,fun t ht=>absurd ht (cw _)⟩ (fun _ _ _ _ _=>trivial) ?_ ?_⟩
  ·rintro i σ H2 hi ⟨v2,rfl,s2,hc⟩
   have hi':i<es.length:=by have:i<zs.length:=hi;lia
   obtain ⟨p,ep⟩:∃p:Int,p=0+(i:Nat):=⟨_,rfl⟩
   rw [←ep]
   rw [fX] at ep
   have q2:=s2.seq hq
   have a2:=hs.same s2
   refine ⟨_,rfl,q,xs,rfl,.inl q2,fun J C O hC=>fS O (fun j ys H3=>H3=H2∧ys=(sets.take j).map fun ss=>V.bl (ss.any (·==p))) (aL (aE (by lia))) ⟨rfl,rfl⟩ ?_ ?_ ?_⟩
   ·rintro j ys H3 hj ⟨rfl,rfl⟩
    exact ⟨hC _ (bx.refl _),by rw [aa,aC];lia⟩
   ·rintro j ys H3 hj ⟨rfl,rfl⟩
    obtain ⟨r,ns,er,hr2,gn⟩:=a2.at hj
    try dsimp only
    rw [er]
    refine ⟨dR rfl,fh ⟨_,rfl,_,rfl,r,_,rfl,.inl (SqL.of hr2),rfl,gm _,aE (by rw [aa,aC];lia),_,by lia,rfl,by lia,rfl,?_⟩⟩
    rw [take_snoc gn,aw,hJ];rfl
   rintro ys H3 ⟨rfl,rfl⟩ l1 n1
   rw [hxl,bD]
   have s3:=s2.next (o:=.lst (sets.map fun ss=>V.bl (ss.any (·==p)))) n1
   refine ⟨l1,_,rfl,.inl (SqL.of aq),(anyB _ _).1,_,rfl,?_⟩
   rw [(anyB _ _).2]
   generalize upd H3 l1 (.lst (sets.map fun ss=>V.bl (ss.any (·==p))))=H4 at s3
   have hiff:(sets.any fun ss=>ss.any (·==p))=true↔∃ss∈sets,(i:Int)∈ss:=by
    rw [cN]
    constructor
    ·rintro ⟨ss,h1,h2⟩
     exact ⟨ss,h1,by rw [←ep];exact eZ.mp h2⟩
    ·rintro ⟨ss,h1,h2⟩
     exact ⟨ss,h1,eZ.mpr (by rw [ep];exact h2)⟩
   refine ie (fun c1=>?_) (fun c1=>?_)
   ·refine ⟨(by show 1≤sizeLine;decide),k1 (fun z=>?_) _ s3⟩
    rw [hiff.mpr (z i hi')] at c1
    cases c1
   ·refine ⟨_,rfl,s3,fun t ht=>?_⟩
    by_cases y:t=i
    ·rw [y]
     refine hiff.mp ?_
     cases e:(sets.any fun ss=>ss.any (·==p)) with
     | true=>rfl
     | false=>rw [e] at c1;exact absurd rfl c1
    ·exact hc t (by lia)
  ·rintro σ H2 ⟨v2,rfl,s2,hc⟩
   exact k2 (fun t ht=>hc t (by show t<zs.length;lia)) H2 s2
def zm (K:ai) (c:Cs):Sp:=fun vs H Q E=>∃(x q:Addr) (m:Int) (es:List (Int×Int)) (xs:List V) (sets:List (List Int)),vs=[.ref x,.ref q]∧eW K c.Web H x m es∧SqL K H q xs∧LlS H xs sets∧sets.length≤20∧(∀ss∈sets,ss.length≤900)∧1≤m∧m≤20∧es.length≤40∧de es m ∧
 (¬Due m es sets→∀H',bx H H'→E (.ref c.BadSet) none H')∧(Due m es sets→∀l fss H',H l=none→bx H H'→H' l=some (.lst ((lay es.length fss sets.length).map V.int))→jd m es sets fss sets.length→Q (.ref l) H')
theorem we:bY ["web","sets","told","weight","some"] ["web","sets"] (az sLy):=⟨rfl,rfl,rfl,by decide +kernel,rfl,by decide +kernel,by decide +kernel⟩
theorem BA {i:Nat} (h:i≤20):((2:Int)^i).natAbs<2^200:=by
 rw [Int.natAbs_pow]
 exact Nat.pow_lt_pow_right (by decide) (by lia)
theorem An {f:Addr} {fd:FuncData} (F:Fun K "layered" "layered" sLy f fd) (T:Txt K mg c) (D_Ef:hX P w K mg base 7 "even_flow" ["web","some"] (zy K c)) (D_Ad:hX P w K mg base 1 "added" ["one","two"] (xf K c.BadFlow)) (D_Tm:Def P w K mg base 1 "times" ["number","flow"] (xb K)) (D_Ah:hX P w K mg base 1 "check_all_held" ["web","sets"] (zH K c)):fH P w K mg base (CXE P w) 8 f fd ["web","sets"] (zm K c):=by
 refine F.okE we (fun vs H Q E h=>?_) (fun cdv A outer s H vs Q E hr h=>?_)
 ·obtain ⟨x,q,m,es,xs,sets,rfl,_⟩:=h
  rfl
 ·obtain ⟨x,q,m,es,xs,sets,rfl,hw,hq,hs,hz,hsl,m1,m2,he,hE,k1,k2⟩:=h
  refine ⟨_,aB (bF (i:=2) we.nd rfl (Or.inl rfl) (bQ jv (dh (ah (aS) ax)) (bg (ig (K:=K) rfl) (by rfl) T.len aX (ah (gP (K:=K) rfl T.web (pv 0)) ax))))
   (aB (bF (i:=3) we.nd rfl (Or.inl rfl) (aS))
   (aB (jO sf rfl (f_ (K:=K) rfl (pv 1)) (bK (i:=4) we.nd rfl (Or.inl rfl))
    (aB (bF (i:=2) we.nd rfl (Or.inl rfl) (bX D_Ad.calm hr (ah (pv 2) (ah (bX D_Tm hr (ah (pv 3) (ah (fi D_Ef hr rfl rfl (ah (pv 0) (ah (pv 4) ax))) ax))) ax))))
   (aR (qi (i:=3) we.nd rfl (Or.inl rfl) (aS) vF))))
   (aB (dE (fi D_Ah hr rfl rfl (ah (pv 0) (ah (pv 1) ax))))
   (aR (cI (pv 2)))))),?_⟩
  have hxl:=hs.len
  refine ⟨(by show 1≤sizeLine;decide),fun q1 nq1=>?_⟩
  have s1:=bx.new (o:=.lst [V.int 0]) nq1
  have e1:(upd H q1 (.lst [V.int 0])) q1=some (.lst [V.int 0]):=aq
  generalize upd H q1 (.lst [V.int 0])=H1 at s1 e1
  refine ⟨_,rfl,x,m,es,rfl,hw.same s1,fun tt zs ht hp=>?_⟩
  have hzl:=hp.len
  refine ⟨tt,zs,rfl,.inr (SqT.of ht),q1,(zs.length:Int),_,rfl,rfl,e1,by lia,by lia,aL (aE (by show 1*((zs.length:Int)).toNat≤1000;lia)),fun q2 nq2=>?_⟩
  rw [gY,show ((zs.length:Int)).toNat=es.length by lia]
  have s2:=s1.next (o:=.lst ((au es.length (0:Int)).map V.int)) nq2
  have e2:(upd H1 q2 (.lst ((au es.length (0:Int)).map V.int))) q2=some (.lst ((au es.length (0:Int)).map V.int)):=aq
  have n2:H q2=none:=bN s1 nq2
  generalize upd H1 q2 (.lst ((au es.length (0:Int)).map V.int))=H2 at s2 e2
  refine ⟨_,rfl,?_⟩
  refine ⟨q,xs,rfl,.inl (s2.seq hq),fun J C O hC=>gQ O (fun i σ H3=>∃(l:Addr) (fss:List (List Int)) (v4:Option V),σ=[some (.ref x),some (.ref q),some (.ref l),some (.int (2^i)),v4]∧bx H2 H3∧H l=none∧H3 l=some (.lst ((lay es.length fss i).map V.int))∧fss.length=i∧jd m es sets fss i∧∀ss∈sets.take i,gp es.length ss∧isR m es (mkS es.length ss) 2=true) ⟨q2,[],none,rfl,bx.refl _,n2,e2,rfl,⟨fun j hj=>absurd hj (cw _),fun j hj=>absurd hj (cw _)⟩,fun ss h=>(nomatch h)⟩ (fun i σ H3 _ h=>?_) ?_ ?_⟩
  ·obtain ⟨_,_,_,_,s3,_⟩:=h
   exact hC _ s3
  ·rintro i σ H3 hi ⟨l,fss,v4,rfl,s3',nl,e3,hfl,LF,hok⟩
   have s3:=s2.trans s3'
   obtain ⟨r,ss,er,hr2,gs⟩:=(hs.same s3).at hi
   have hll:=LF.len
   have hsm:=bj gs
   try dsimp only
   rw [er]
   refine ⟨_,rfl,_,rfl,_,rfl,_,rfl,x,r,m,es,ss,rfl,hw.same s3,SqL.of hr2,hsl ss hsm,m1,m2,he,hE,fun z H4 s4=>k1 (fun y=>z (y.1 ss hsm)) H4 (s3.trans s4),fun ok hR lg gg H4 nlg s4 e4 RF LR=>?_⟩
   have hgl:=RF.len
   refine ⟨lg,false,_,gg,rfl,SqL.of e4,by lia,BA (by lia),fun v hv=>?_,fun lt H5 nlt s5 e5=>?_⟩
   ·obtain ⟨t,ht,rfl⟩:=cf.mp hv
    rw [←gX ht]
    have hm:=iz (ss:=ss) (show t<es.length by lia)
    by_cases c:(t:Int)∈ss
    ·rw [if_pos c] at hm
     rcases RF.pos t (by lia) (by rw [hm];decide) with z | z<;>rw [z,hm]<;>decide +kernel
    ·rw [if_neg c] at hm
     rw [RF.zero t (by lia) hm];decide +kernel
   refine ⟨l,lt,false,false,_,_,rfl,SqL.of (s5 _ _ (s4 _ _ e3)),SqL.of e5,by lia,fun z=>z (by rw [hll,aa,hgl]),fun _ ln H6 nln s6 e6=>?_⟩
   have s36:=(s4.trans s5).trans s6
   refine ⟨_,rfl,_,_,rfl,rfl,Nat.lt_trans (BA (by lia)) (by decide +kernel),by decide +kernel,?_⟩
   subst hfl
   refine ⟨ln,fss++[gg],some (.ref r),by rw [Int.pow_succ];rfl,s3'.trans s36,bN s3 (bN (s4.trans s5) nln),?_,?_,LF.snoc gs RF LR,?_⟩
   ·rw [tQ];exact e6
   ·rw [ay];rfl
   ·intro s' h'
    rw [take_snoc gs] at h'
    rcases aM.mp h' with y | y
    ·exact hok s' y
    ·rw [ak.mp y];exact ⟨ok,hR⟩
  ·rintro σ H3 ⟨l,fss,v4,rfl,s3',nl,e3,hfl,LF,hok⟩
   have s3:=s2.trans s3'
   rw [hxl] at e3 LF hok
   rw [bD] at hok
   refine ⟨_,rfl,_,rfl,x,q,m,es,xs,sets,rfl,hw.same s3,s3.seq hq,hs.same s3,hz,he,fun z H4 s4=>k1 (fun y=>z y.2) H4 (s3.trans s4),fun cv H4 s4=>?_⟩
   exact ⟨_,rfl,k2 ⟨hok,cv⟩ l fss H4 nl (s3.trans s4) (s4 _ _ e3) LF⟩
theorem kK (x:Int) (es:List (Int×Int)):∀L:List Int,cnE x es L=cnE x es (L.filter fun s=>atP x (bc es s))
 | []=>rfl
 | t::L=>by
  have ih:=kK x es L
  by_cases c:atP x (bc es t)=true
  ·rw [bT (p:=fun s=>atP x (bc es s)) c]
   unfold cnE at *
   rw [bf,cW,bf,cW,ih]
  ·rw [bU (p:=fun s=>atP x (bc es s)) c]
   have h1:¬(bc es t).1=x:=fun z=>c (hZ.mpr (.inl z))
   have h2:¬(bc es t).2=x:=fun z=>c (hZ.mpr (.inr z))
   unfold cnE at *
   rw [bf,cW,if_neg h1,if_neg h2,ih]
   lia
theorem mF {es:List (Int×Int)} {ss A B:List Int} (S:Spn es ss) (hA:wa es ss A) (hB:wa es ss B):A=B:=by
 obtain ⟨L,eL⟩:∃L,L=(ir es.length).filter fun t=>A.any (·==t) != B.any (·==t):=⟨_,rfl⟩
 have mA:∀{X:List Int} {t:Int},X.any (·==t)=true↔t∈X:=eZ
 have mL:∀t:Int,t∈L↔(t∈A∧¬t∈B)∨(t∈B∧¬t∈A):=fun t=>by
  rw [eL,bG,fP,bne_iff_ne]
  constructor
  ·rintro ⟨_,h⟩
   by_cases a:t∈A<;>by_cases b:t∈B
   ·rw [mA.mpr a,mA.mpr b] at h;exact absurd rfl h
   ·exact .inl ⟨a,b⟩
   ·exact .inr ⟨b,a⟩
   ·rw [du.mpr (fun z=>a (mA.mp z)),du.mpr (fun z=>b (mA.mp z))] at h;exact absurd rfl h
  ·rintro (⟨a,b⟩ | ⟨b,a⟩)
   ·refine ⟨hA.1.rng t a,?_⟩
    rw [mA.mpr a,du.mpr (fun z=>b (mA.mp z))];decide
   ·refine ⟨hB.1.rng t b,?_⟩
    rw [mA.mpr b,du.mpr (fun z=>a (mA.mp z))];decide
 have nL:L.Nodup:=by rw [eL];exact kN (List.Pairwise.filter _ (by unfold ir;rw [dq];exact List.pairwise_lt_range.imp fun h=>by lia))
 have rL:∀t∈L,0≤t∧t<(es.length:Int):=fun t ht=>((mL t).mp ht).elim (fun h=>hA.1.rng t h.1) fun h=>hB.1.rng t h.1
 have sL:∀t∈L,t∈ss:=fun t ht=>Classical.byContradiction fun hn=>by
  have hr:=rL t ht
  rcases (mL t).mp ht with h | h
  ·exact h.2 (hB.2.2 t hr.1 hr.2 hn)
  ·exact h.2 (hA.2.2 t hr.1 hr.2 hn)
 have hA0:=S.free.sub sL
 by_cases c:L=[]
 ·refine iN ((List.perm_ext_iff_of_nodup hA.1.nd hB.1.nd).mpr fun t=>?_) (hA.1.up.imp fun h=>Int.le_of_lt h) (hB.1.up.imp fun h=>Int.le_of_lt h)
  rw [c] at mL
  by_cases a:t∈A<;>by_cases b:t∈B
  ·exact ⟨fun _=>b,fun _=>a⟩
  ·exact absurd ((mL t).mpr (.inl ⟨a,b⟩)) (fun z=>nomatch z)
  ·exact absurd ((mL t).mpr (.inr ⟨b,a⟩)) (fun z=>nomatch z)
  ·exact ⟨fun z=>absurd z a,fun z=>absurd z b⟩
 ·obtain ⟨x,t,ht,hx⟩:=vB c nL hA0
  obtain ⟨u,hu⟩:=xW (es:=es) x nL rL
  obtain ⟨v,hv⟩:=(hA.2.1.parted hB.2.1 mL) x
  have hl:=hA0.loop ht
  have hxt:atP x (bc es t)=true:=by
   have:t∈L.filter fun s=>atP x (bc es s):=by rw [hx];exact ak.mpr rfl
   exact (bG.mp this).2
  have e1:cnE x es L=1:=by
   rw [kK,hx]
   show (if (bc es t).1=x then 1 else 0)+(if (bc es t).2=x then (1:Int) else 0)+0=1
   rcases hZ.mp hxt with y | y
   ·rw [if_pos y,if_neg (fun z=>hl (y.trans z.symm))];rfl
   ·rw [if_pos y,if_neg (fun z=>hl (z.trans y.symm))];rfl
  lia
def FfG (es:List (Int×Int)) (os ts:List Int):Prop:=Spn es os∧Spn es ts∧∀t∈os,¬t∈ts
def yq (K:ai) (c:Cs):Sp:=fun vs H Q E=>∃(x p q:Addr) (m:Int) (es:List (Int×Int)) (os ts:List Int),vs=[.ref x,.ref p,.ref q]∧eW K c.Web H x m es∧SqL K H p (os.map V.int)∧SqL K H q (ts.map V.int)∧os.length≤900∧ts.length≤900∧1≤m∧m≤20∧es.length≤40∧de es m ∧
 (¬FfG es os ts→∀H',bx H H'→E (.ref c.BadSet) none H')∧(FfG es os ts→∀l c1 c2 fss H',H l=none→bx H H'→H' l=some (.lst ((lay es.length fss 2).map V.int))→wa es os c1→wa es ts c2→jd m es [c1,c2] fss 2→Q (.ref l) H')
theorem zL:bY ["web","one","two","first","second"] ["web","one","two"] (az sFf):=⟨rfl,rfl,rfl,by decide +kernel,rfl,by decide +kernel,by decide +kernel⟩
theorem rD {m:Int} {es:List (Int×Int)} {os ts c1 c2:List Int} (h:∀t∈os,¬t∈ts) (C1:wa es os c1) (C2:wa es ts c2):Due m es [c1,c2]:=by
 refine ⟨fun ss hs=>?_,fun t ht=>?_⟩
 ·rcases aU.mp hs with y | y
  ·rw [y];exact ⟨C1.1,C1.2.1.isR⟩
  ·rw [ak.mp y];exact ⟨C2.1,C2.2.1.isR⟩
 ·by_cases c:(t:Int)∈os
  ·exact ⟨c2,aO _ (ak.mpr rfl),C2.2.2 t (by lia) (by lia) (h _ c)⟩
  ·exact ⟨c1,aP,C1.2.2 t (by lia) (by lia) c⟩
theorem Az {f:Addr} {fd:FuncData} (F:Fun K "from_forests" "from_forests" sFf f fd) (T:Txt K mg c) (D_Co:hX P w K mg base 6 "completed" ["web","some"] (zA K c)) (D_Ly:hX P w K mg base 8 "layered" ["web","sets"] (zm K c)):fH P w K mg base (CXE P w) 9 f fd ["web","one","two"] (yq K c):=by
 refine F.okE zL (fun vs H Q E h=>?_) (fun cdv A outer s H vs Q E hr h=>?_)
 ·obtain ⟨x,p,q,m,es,os,ts,rfl,_⟩:=h
  rfl
 ·obtain ⟨x,p,q,m,es,os,ts,rfl,hw,hp,hq,ho,ht,m1,m2,he,hE,k1,k2⟩:=h
  have hu:A.units+3+64<cLine:=hr.units
  refine ⟨_,aB (bF (i:=3) zL.nd rfl (Or.inl rfl) (fi D_Co hr rfl rfl (ah (pv 0) (ah (pv 1) ax))))
   (aB (bF (i:=4) zL.nd rfl (Or.inl rfl) (fi D_Co hr rfl rfl (ah (pv 0) (ah (pv 2) ax))))
   (aB (eV (h_ (bg (wz (K:=K) rfl rfl) (by rfl) T.any dM (ah (fJ (N':=["tie","two"]) (nl:=1) (js:=[2]) rfl (.of (osc:=az sFf) (N:=["web","one","two","first","second"]) (by decide +kernel) rfl rfl) (f_ (K:=K) rfl (pv 1))
    (fun _ _ _ _=>bK (i:=0) (show (["tie","two"]:List Str).Nodup by decide +kernel) rfl (Or.inl rfl)) (fun _ _ _ _=>dD)
    (fun _ _ _ _=>gC (wt (K:=K) rfl) (pv 0) (pv 1) (by with_unfolding_all rfl))) ax)))
    (aR (fO rfl rfl (by rfl) T.mBadSet T.xBadSet (ah gZ ax))) (cX))
   (aR (cI (fi D_Ly hr rfl rfl (ah (pv 0) (ah (dh (ah (pv 3) (ah (pv 4) ax))) ax))))))),?_⟩
  clear hu
  refine ⟨_,rfl,_,rfl,x,p,m,es,os,rfl,hw,hp,ho,m1,m2,he,hE,fun z H1 s1=>k1 (fun y=>z y.1) H1 s1,fun S1 l1 c1 H1 n1 s1 e1 C1=>?_⟩
  refine ⟨_,rfl,_,rfl,x,q,m,es,ts,rfl,hw.same s1,s1.seq hq,ht,m1,m2,he,hE,fun z H2 s2=>k1 (fun y=>z y.2.1) H2 (s1.trans s2),fun S2 l2 c2 H2 n2 s2 e2 C2=>?_⟩
  have s02:=s1.trans s2
  have hom:(os.map V.int).length=os.length:=aa ..
  refine ⟨_,rfl,p,_,rfl,.inl (s02.seq hp),fun J C O hC=>fS O (fun i ys H3=>H3=H2∧ys=(os.take i).map fun t=>V.bl (ts.any (·==t))) (by rw [hom];exact aL (aE (by lia))) ⟨rfl,rfl⟩ ?_ ?_ ?_⟩
  ·rintro i ys H3 hi ⟨rfl,rfl⟩
   exact ⟨hC _ (bx.refl _),by rw [aa,aC];lia⟩
  ·rintro i ys H3 hi ⟨rfl,rfl⟩
   obtain ⟨v,ev,gv⟩:=getD_map_int hi
   rw [hom] at hi
   try dsimp only
   rw [ev]
   refine ⟨dR rfl,fh ⟨_,rfl,_,rfl,q,_,rfl,.inl (s02.seq hq),rfl,gm _,?_⟩⟩
   rw [hJ]
   refine ⟨aE (by rw [aa,aC];lia),_,by lia,rfl,by lia,rfl,?_⟩
   rw [take_snoc gv,aw];rfl
  rintro ys H3 ⟨rfl,rfl⟩ la nla
  rw [hom,bD]
  refine ⟨la,_,rfl,.inl (SqL.of aq),(anyB _ _).1,_,rfl,?_⟩
  rw [(anyB _ _).2]
  have s4:=bx.new (o:=.lst (os.map fun t=>V.bl (ts.any (·==t)))) nla
  generalize upd H3 la (.lst (os.map fun t=>V.bl (ts.any (·==t))))=H4 at s4
  have s04:=s02.trans s4
  refine ie (fun c3=>?_) (fun c3=>?_)
  ·refine ⟨(by show 1≤sizeLine;decide),k1 (fun z=>?_) _ s04⟩
   obtain ⟨t,hto,htt⟩:=cN.mp c3
   exact z.2.2 t hto (eZ.mp htt)
  ·have dis:∀t∈os,¬t∈ts:=fun t h1 h2=>c3 (cN.mpr ⟨t,h1,eZ.mpr h2⟩)
   refine ⟨_,rfl,_,rfl,_,rfl,(by show 2≤sizeLine;decide),fun ll nll=>?_⟩
   have s5:=bx.new (o:=.lst [V.ref l1,V.ref l2]) nll
   have e5:(upd H4 ll (.lst [V.ref l1,V.ref l2])) ll=some (.lst [V.ref l1,V.ref l2]):=aq
   generalize upd H4 ll (.lst [V.ref l1,V.ref l2])=H5 at s5 e5
   have s45:=s4.trans s5
   have s05:=s02.trans s45
   have h1:=C1.1.len
   have h2:=C2.1.len
   exact ⟨x,ll,m,es,_,[c1,c2],rfl,hw.same s05,SqL.of e5,.cons ⟨l1,rfl,(s2.trans s45) _ _ e1⟩ (.cons ⟨l2,rfl,s45 _ _ e2⟩ .nil),(by show 2≤20;decide),(fun ss hs=>by rcases aU.mp hs with y | y;(rw [y];lia);(rw [ak.mp y];lia)),m1,m2,he,hE,fun z=>absurd (rD dis C1 C2) z,fun _ l fss H6 nl s6 e6 LF=>k2 ⟨S1,S2,dis⟩ l c1 c2 fss H6 (bN s05 nl) (s05.trans s6) e6 C1 C2 LF⟩
def spC (K:ai):Sp:=fun vs H Q _=>∃(a:Addr) (ns:List Int) (k:Int),vs=[.ref a,.int k]∧SqL K H a (ns.map V.int)∧0≤k∧Q (.int (ns.getD k.toNat 0)) H
theorem scC:bY ["script","k"] ["script","k"] (az sC):=⟨rfl,rfl,rfl,by decide +kernel,rfl,by decide +kernel,by decide +kernel⟩
theorem CM {f:Addr} {fd:FuncData} (F:Fun K "_law_cell" "_law_cell" sC f fd) (T:Txt K mg c):fH P w K mg base CX0 1 f fd ["script","k"] (spC K):=by
 refine F.ok scC (fun vs H Q E h=>?_) (fun cdv A outer s H vs Q E hr h=>?_)
 ·obtain ⟨a,ns,k,rfl,_⟩:=h
  rfl
 ·obtain ⟨a,ns,k,rfl,hS,h0,q⟩:=h
  refine ⟨_,aB (eV (cm iP (pv 1) (bg (ig (K:=K) rfl) (by rfl) T.len aX (ah (pv 0) ax)) (cH _))
    (aR (cI (cD (ixL (K:=K) rfl) (pv 0) (pv 1) (fun _ _=>rfl)))) (cX))
   (aR (cI (aS))),?_⟩
  refine ⟨_,rfl,_,rfl,a,_,rfl,.inl hS,_,_,rfl,rfl,_,rfl,?_⟩
  refine ie (fun c=>?_) (fun c=>?_)
  ·have c':=of_decide_eq_true c
   rw [aa] at c'
   exact ⟨_,rfl,_,rfl,a,_,k,_,rfl,rfl,hS,ft h0 c',q⟩
  ·have c':¬k<((ns.map V.int).length:Int):=fun z=>c (decide_eq_true z)
   rw [aa] at c'
   have e:ns.getD k.toNat 0=0:=by rw [ae,List.getElem?_eq_none (by lia)];rfl
   rw [e] at q
   exact q
def spH (_:ai):Sp:=fun vs H Q _=>∃i,vs=[.int i]∧Q (.bl true) H
theorem scH:bY ["found"] ["found"] (az sH):=⟨rfl,rfl,rfl,by decide +kernel,rfl,by decide +kernel,by decide +kernel⟩
theorem CL {f:Addr} {fd:FuncData} (F:Fun K "_law_whole" "_law_whole" sH f fd) (T:Txt K mg c):fH P w K mg base CX0 1 f fd ["found"] (spH K):=by
 refine F.ok scH (fun vs H Q E h=>?_) (fun cdv A outer s H vs Q E hr h=>?_)
 ·obtain ⟨i,rfl,_⟩:=h
  rfl
 ·obtain ⟨i,rfl,k⟩:=h
  refine ⟨_,aR (cI (kA (bg (cIs (K:=K) rfl) (by rfl) T.isinstance aZ (ah (pv 0) (ah (lB (v:=.ty "int") (by rfl) T.int PyProof.Rows.boot_int rfl) ax))) (ky (qm (bg (cIs (K:=K) rfl) (by rfl) T.isinstance aZ (ah (pv 0) (ah (lB (v:=.ty "bool") (by rfl) T.bool PyProof.Rows.boot_bool rfl) ax))))))),?_⟩
  refine ⟨_,rfl,_,_,_,_,true,rfl,rfl,fun _ z=>z,.of (.int i),lG _ _,true,rfl,fh ?_⟩
  exact ⟨_,rfl,_,_,_,_,false,rfl,rfl,fun _ z=>z,.of (.int i),tV,false,rfl,k⟩
def spX (K:ai) (c:Cs):Sp:=fun vs H Q _=>∃(a A:Addr),vs=[.ref a]∧H a=some (.ext (uj a (.ref A)))∧yi K c A∧∀H',bx H H'→Q (.bl true) H'
theorem scX:bY ["e","kinds"] ["e"] (az sX):=⟨rfl,rfl,rfl,by decide +kernel,rfl,by decide +kernel,by decide +kernel⟩
theorem CH {f:Addr} {fd:FuncData} (F:Fun K "_law_alone" "_law_alone" sX f fd) (T:Txt K mg c):ui P w K mg base 1 f fd ["e"] (spX K c):=by
 refine F.okC scX (fun vs H Q E h=>?_) (fun cdv A outer s H vs Q E hr h=>?_)
 ·obtain ⟨a,A,rfl,_⟩:=h
  rfl
 ·obtain ⟨a,B,rfl,ha,al,k⟩:=h
  obtain ⟨b1,b2,b3,b4,b5,b6,b7,b8,b9,b10,b11,h1,h2,h3,h4,h5,h6,h7,h8,h9,h10,h11,cnt⟩:=al.ks
  refine ⟨_,aB (bF (i:=1) scX.nd rfl (Or.inl rfl) (dh (ah (bg (oM (K:=K) rfl) (by rfl) T.isinstance aZ (ah (pv 0) (ah (fQ (v:=.ref c.BadWeb) (by rfl) T.mBadWeb rfl) ax))) (ah (bg (oM (K:=K) rfl) (by rfl) T.isinstance aZ (ah (pv 0) (ah (fQ (v:=.ref c.TooMany) (by rfl) T.mTooMany rfl) ax))) (ah (bg (oM (K:=K) rfl) (by rfl) T.isinstance aZ (ah (pv 0) (ah (fQ (v:=.ref c.BadPlace) (by rfl) T.mBadPlace rfl) ax))) (ah (bg (oM (K:=K) rfl) (by rfl) T.isinstance aZ (ah (pv 0) (ah (fQ (v:=.ref c.BadTie) (by rfl) T.mBadTie rfl) ax))) ax))))))
   (aB (bF (i:=1) scX.nd rfl (Or.inl rfl) (bQ gk (pv 1) (dh (ah (bg (oM (K:=K) rfl) (by rfl) T.isinstance aZ (ah (pv 0) (ah (fQ (v:=.ref c.BadFlow) (by rfl) T.mBadFlow rfl) ax))) (ah (bg (oM (K:=K) rfl) (by rfl) T.isinstance aZ (ah (pv 0) (ah (fQ (v:=.ref c.BadRest) (by rfl) T.mBadRest rfl) ax))) (ah (bg (oM (K:=K) rfl) (by rfl) T.isinstance aZ (ah (pv 0) (ah (fQ (v:=.ref c.NoFlow) (by rfl) T.mNoFlow rfl) ax))) (ah (bg (oM (K:=K) rfl) (by rfl) T.isinstance aZ (ah (pv 0) (ah (fQ (v:=.ref c.BadSet) (by rfl) T.mBadSet rfl) ax))) ax)))))))
   (aB (bF (i:=1) scX.nd rfl (Or.inl rfl) (bQ gk (pv 1) (dh (ah (bg (oM (K:=K) rfl) (by rfl) T.isinstance aZ (ah (pv 0) (ah (fQ (v:=.ref c.BadPaper) (by rfl) T.mBadPaper rfl) ax))) (ah (bg (oM (K:=K) rfl) (by rfl) T.isinstance aZ (ah (pv 0) (ah (fQ (v:=.ref c.BadText) (by rfl) T.mBadText rfl) ax))) (ah (bg (oM (K:=K) rfl) (by rfl) T.isinstance aZ (ah (pv 0) (ah (fQ (v:=.ref c.BadDeed) (by rfl) T.mBadDeed rfl) ax))) ax))))))
   (aR (cI (kA (gC iR (iJ PySem.F.plainAttrs_list PySem.F.slot_list_count PySem.F.type_list_count (xF (K:=K) rfl) (pv 1) (ah (lC) ax)) (aS) (cH _)) (kA (bg (oM (K:=K) rfl) (by rfl) T.isinstance aZ (ah (pv 0) (ah (fQ (v:=.ref c.FlowError) (by rfl) T.mFlowError rfl) ax))) (ky (bg (oM (K:=K) rfl) (by rfl) T.isinstance aZ (ah (pv 0) (ah (lB (v:=.ty "ValueError") (by rfl) T.ValueError (show bootBuiltins "ValueError"=some (.type "ValueError") by decide +kernel) rfl) ax)))))))))),?_⟩
  refine ⟨_,rfl,a,B,_,_,b1,rfl,rfl,fun _ z=>z,ha,al.ex,h1,_,rfl,a,B,_,_,b2,rfl,rfl,fun _ z=>z,ha,al.ex,h2,_,rfl,a,B,_,_,b3,rfl,rfl,fun _ z=>z,ha,al.ex,h3,
   _,rfl,a,B,_,_,b4,rfl,rfl,fun _ z=>z,ha,al.ex,h4,(by show 4≤sizeLine;decide),fun l1 n1=>?_⟩
  have s1:bx H (upd H l1 (.lst [.bl b1,.bl b2,.bl b3,.bl b4])):=bx.new n1
  have e1:(upd H l1 (.lst [.bl b1,.bl b2,.bl b3,.bl b4])) l1=some (.lst [.bl b1,.bl b2,.bl b3,.bl b4]):=aq
  generalize upd H l1 (.lst [.bl b1,.bl b2,.bl b3,.bl b4])=H1 at s1 e1
  have ha1:=s1 _ _ ha
  refine ⟨_,rfl,_,rfl,a,B,_,_,b5,rfl,rfl,fun _ z=>z,ha1,al.ex,h5,_,rfl,a,B,_,_,b6,rfl,rfl,fun _ z=>z,ha1,al.ex,h6,_,rfl,a,B,_,_,b7,rfl,rfl,fun _ z=>z,ha1,al.ex,h7,
   _,rfl,a,B,_,_,b8,rfl,rfl,fun _ z=>z,ha1,al.ex,h8,(by show 4≤sizeLine;decide),fun l2 n2=>?_⟩
  have s2:bx H1 (upd H1 l2 (.lst [.bl b5,.bl b6,.bl b7,.bl b8])):=bx.new n2
  refine ⟨l1,l2,_,_,rfl,rfl,s2 _ _ e1,aq,(by show 8≤sizeLine;decide),fun l3 n3=>?_⟩
  have s3:bx H (upd (upd H1 l2 (.lst [.bl b5,.bl b6,.bl b7,.bl b8])) l3 (.lst ([.bl b1,.bl b2,.bl b3,.bl b4]++[.bl b5,.bl b6,.bl b7,.bl b8]))):=(s1.trans s2).next n3
  have e3:(upd (upd H1 l2 (.lst [.bl b5,.bl b6,.bl b7,.bl b8])) l3 (.lst ([.bl b1,.bl b2,.bl b3,.bl b4]++[.bl b5,.bl b6,.bl b7,.bl b8]))) l3=some (.lst ([.bl b1,.bl b2,.bl b3,.bl b4]++[.bl b5,.bl b6,.bl b7,.bl b8])):=aq
  generalize upd (upd H1 l2 (.lst [.bl b5,.bl b6,.bl b7,.bl b8])) l3 (.lst ([.bl b1,.bl b2,.bl b3,.bl b4]++[.bl b5,.bl b6,.bl b7,.bl b8]))=H3 at s3 e3
  have ha3:=s3 _ _ ha
  refine ⟨_,rfl,_,rfl,a,B,_,_,b9,rfl,rfl,fun _ z=>z,ha3,al.ex,h9,_,rfl,a,B,_,_,b10,rfl,rfl,fun _ z=>z,ha3,al.ex,h10,_,rfl,a,B,_,_,b11,rfl,rfl,fun _ z=>z,ha3,al.ex,h11,
   (by show 3≤sizeLine;decide),fun l4 n4=>?_⟩
  have s4:bx H3 (upd H3 l4 (.lst [.bl b9,.bl b10,.bl b11])):=bx.new n4
  refine ⟨l3,l4,_,_,rfl,rfl,s4 _ _ e3,aq,(by show 11≤sizeLine;decide),fun l5 n5=>?_⟩
  have s5:=(s3.trans s4).next (o:=.lst (([.bl b1,.bl b2,.bl b3,.bl b4]++[.bl b5,.bl b6,.bl b7,.bl b8])++[.bl b9,.bl b10,.bl b11])) n5
  have ha5:=s5 _ _ ha
  refine ⟨_,rfl,.inl ⟨rfl,_,SqL.of aq⟩,l5,_,_,rfl,rfl,SqL.of aq,rfl,rfl,rfl,_,rfl,?_⟩
  rw [show (([V.bl b1,V.bl b2,V.bl b3,V.bl b4]++[V.bl b5,V.bl b6,V.bl b7,V.bl b8])++[V.bl b9,V.bl b10,V.bl b11]).countP (fun z=>eqV z (V.bl true))=1 from cnt]
  refine fh ⟨_,rfl,a,B,_,_,true,rfl,rfl,fun _ z=>z,ha5,al.ex,al.fe,_,rfl,fh ⟨_,rfl,a,B,_,_,true,rfl,rfl,fun _ z=>z,ha5,al.ex,al.ve,k _ s5⟩⟩
def zw (K:ai):Sp:=fun vs H Q _=>∃(l q:Addr) (m:Int) (xs:List V) (es:List (Int×Int)) (os:List Int),vs=[.int m,.ref l,.ref q]∧SqL K H l xs∧Pairs K H xs es∧SqL K H q (os.map V.int)∧os.length<64∧(∀t∈os,0≤t∧t<(es.length:Int))∧1≤m∧m≤20∧es.length≤40∧de es m ∧
 ∀(l2:Addr) (cs:List Int) (H':Hp),H l2=none→bx H H'→H' l2=some (.lst (cs.map V.int))→cs.Perm (gF es os os.length)→cs.Pairwise (·≤·)→Q (.ref l2) H'
theorem vd:bY ["many","ends","order","found","names","number","one","two"] ["many","ends","order"] (az sFo):=⟨rfl,rfl,rfl,by decide +kernel,rfl,by decide +kernel,by decide +kernel⟩
theorem Ay {f:Addr} {fd:FuncData} (F:Fun K "_law_forest" "_law_forest" sFo f fd) (T:Txt K mg c):fH P w K mg base CX0 1 f fd ["many","ends","order"] (zw K):=by
 refine F.ok vd (fun vs H Q E h=>?_) (fun cdv A outer s H vs Q E hr h=>?_)
 ·obtain ⟨l,q,m,xs,es,os,rfl,_⟩:=h
  rfl
 ·obtain ⟨l,q,m,xs,es,os,rfl,hl,hp,hq,hoz,hor,m1,m2,hz,hE,k⟩:=h
  have hom:(os.map V.int).length=os.length:=aa ..
  refine ⟨_,aB (bF (i:=3) vd.nd rfl (Or.inl rfl) (dh ax))
   (aB (bF (i:=4) vd.nd rfl (Or.inl rfl) (gO rfl rfl T.list rfl T.range (ah (pv 0) ax)))
   (aB (gh PassesOwn.never rfl (ju (K:=K) rfl (pv 2)) (bK (i:=5) vd.nd rfl (Or.inl rfl))
    (aB (bF (i:=6) vd.nd rfl (Or.inr rfl) (cD (ixL (K:=K) rfl) (pv 4) (cD (ixT (K:=K) rfl) (cD (ixL (K:=K) rfl) (pv 1) (pv 5) (fun _ _=>rfl)) (aS) (fun _ _=>rfl)) (fun _ _=>rfl)))
   (aB (bF (i:=7) vd.nd rfl (Or.inr rfl) (cD (ixL (K:=K) rfl) (pv 4) (cD (ixT (K:=K) rfl) (cD (ixL (K:=K) rfl) (pv 1) (pv 5) (fun _ _=>rfl)) (aS) (fun _ _=>rfl)) (fun _ _=>rfl)))
   (aR (dO (eV (cm mh (pv 6) (pv 7) (cH _))
    (aB (dE (iJ PySem.F.plainAttrs_list PySem.F.slot_list_append PySem.F.type_list_append fm (pv 3) (ah (pv 5) ax)))
   (aR (jE (i:=4) (N':=["name","one","two"]) (nl:=1) (js:=[6,7]) rfl (.of (osc:=az sFo) (N:=["many","ends","order","found","names","number","one","two"]) (by decide +kernel) rfl rfl) (f_ (K:=K) rfl (pv 4))
    (fun _ _ _ _=>bK (i:=0) (show (["name","one","two"]:List Str).Nodup by decide +kernel) rfl (Or.inl rfl)) (fun _ _ _ _=>dD)
    (fun _ _ _ _=>cD (ixL (K:=K) rfl) (dh (ah (pv 0) (ah (pv 1) ax))) (fK rZ (by rfl) T.int PyProof.Rows.boot_int (ah (gC iR (pv 0) (pv 2) (cH _)) ax)) (fun _ _=>rfl)) vd.nd rfl rfl))) (cX)))))))
   (aR (cI (bg (jm (K:=K) rfl) (by rfl) T.sorted dm (ah (pv 3) ax)))))),?_⟩
  refine ⟨by decide,fun fl nfl=>?_⟩
  have s1:bx H (upd H fl (.lst [])):=bx.new nfl
  have f1:(upd H fl (.lst [])) fl=some (.lst []):=aq
  generalize upd H fl (.lst [])=H1 at s1 f1
  refine ⟨_,rfl,m,rfl,by lia,by lia,fun l0 nl0=>?_⟩
  have s0:=s1.next (o:=.lst (((bI m.toNat).map fun i=>0+((i:Nat):Int)).map V.int)) nl0
  have f0:=bx.new (o:=.lst (((bI m.toNat).map fun i=>0+((i:Nat):Int)).map V.int)) nl0 _ _ f1
  have e0:(upd H1 l0 (.lst (((bI m.toNat).map fun i=>0+((i:Nat):Int)).map V.int))) l0=some (.lst (((bI m.toNat).map fun i=>0+((i:Nat):Int)).map V.int)):=aq
  have nlf:l0≠fl:=(bw f1 nl0).symm
  generalize upd H1 l0 (.lst (((bI m.toNat).map fun i=>0+((i:Nat):Int)).map V.int))=H0 at s0 e0 f0
  refine ⟨_,rfl,false,q,_,rfl,s0.seq hq,fun J C O hC=>?_⟩
  refine gQ O (fun i σ H2=>∃(lb:Addr) (ls:List Int) (v5 v6 v7:Option V),σ=[some (.int m),some (.ref l),some (.ref q),some (.ref fl),some (.ref lb),v5,v6,v7]∧bx H H2∧lb≠fl∧H2 fl=some (.lst ((gF es os i).map V.int))∧H2 lb=some (.lst (ls.map V.int))∧ls.length=m.toNat∧Nam m (sub es (os.take i)) (lf ls)) ⟨l0,_,none,none,none,rfl,s0,nlf,f0,e0,by rw [aa,bW],Nam.start _ _ rfl⟩ (fun i σ H2 _ h=>?_) ?_ ?_
  ·obtain ⟨lb,ls,v5,v6,v7,_,s2,_⟩:=h
   exact hC _ (s2.seq hq)
  ·rintro i σ H2 hi ⟨lb,ls,v5,v6,v7,rfl,s2,nlb,hf2,hl2,hll,hL⟩
   obtain ⟨v,ev,gv⟩:=getD_map_int hi
   rw [hom] at hi
   have hv:=hor v (bj gv)
   have hfl:(gF es os i).length≤i:=by unfold gF;rw [aa];exact ke _ i
   obtain ⟨r,ar,hr2,hm⟩:=gy (hp.same s2) hv.1 hv.2
   have eT:bc es v=(sub es os).getD i (0,0):=by
    unfold sub
    rw [ae,a_,gv];rfl
   have eO:os.getD i 0=v:=by rw [ae,gv];rfl
   have eS:(sub es os).take i=sub es (os.take i):=by unfold sub;rw [fb]
   obtain ⟨b1,b2,b3,b4⟩:=hE _ hm
   have a1:atI (ls.map V.int) (bc es v).1=some (.int (lf ls (bc es v).1)):=ft (ns:=ls) b1 (by lia)
   have a2:atI (ls.map V.int) (bc es v).2=some (.int (lf ls (bc es v).2)):=ft (ns:=ls) b3 (by lia)
   try dsimp only
   rw [ev]
   refine ⟨_,rfl,_,rfl,_,rfl,l,xs,_,.ref r,rfl,rfl,s2.seq hl,ar,r,_,0,_,rfl,rfl,hr2,rfl,lb,_,_,_,rfl,rfl,SqL.of hl2,a1,?_⟩
   refine ⟨_,rfl,_,rfl,_,rfl,l,xs,_,.ref r,rfl,rfl,s2.seq hl,ar,r,_,1,_,rfl,rfl,hr2,rfl,lb,_,_,_,rfl,rfl,SqL.of hl2,a2,?_⟩
   have hiff:=hL.iff b1 b2 b3 b4
   have hES:∀a∈sub es (os.take i)++[bc es v],0≤a.1∧a.1<m∧0≤a.2∧a.2<m:=fun a ha=>by
    rcases aM.mp ha with y | y
    ·exact hV hE (fun t ht=>hor t (List.mem_of_mem_take ht)) a y
    ·rw [ak.mp y];exact ⟨b1,b2,b3,b4⟩
   refine ⟨fun σ' H'=>∃(lb:Addr) (ls:List Int) (v6 v7:Option V),σ'=[some (.int m),some (.ref l),some (.ref q),some (.ref fl),some (.ref lb),some (.int v),v6,v7]∧bx H H'∧lb≠fl∧H' fl=some (.lst ((gF es os (i+1)).map V.int))∧H' lb=some (.lst (ls.map V.int))∧ls.length=m.toNat∧Nam m (sub es (os.take (i+1))) (lf ls),?_,?_⟩
   ·refine ⟨_,rfl,_,rfl,rfl,_,rfl,?_⟩
    have e1:sub es (os.take (i+1))=sub es (os.take i)++[bc es v]:=by
     unfold sub
     rw [take_snoc gv,aw];rfl
    have e2:gF es os (i+1)=gF es os i++(if inF (sub es os) i=true then [v] else []):=by
     unfold gF
     rw [iZ,aw]
     by_cases c:inF (sub es os) i=true
     ·rw [if_pos c,if_pos c]
      show _++[os.getD ((i:Nat):Int).toNat 0]=_
      rw [aY,eO]
     ·rw [if_neg c,if_neg c];rfl
    rw [e1,e2]
    by_cases c1:lf ls (bc es v).1=lf ls (bc es v).2
    ·rw [decide_eq_true (show V.int (lf ls (bc es v).1)=V.int (lf ls (bc es v).2) by rw [c1])]
     have hn:¬inF (sub es os) i=true:=fun z=>(gG.mp z) (by rw [←eT,eS];exact hiff.mp c1)
     rw [if_neg hn,bB]
     exact gc ⟨lb,ls,_,_,rfl,s2,nlb,hf2,hl2,hll,hL.skip c1⟩
    ·rw [decide_eq_false (show ¬V.int (lf ls (bc es v).1)=V.int (lf ls (bc es v).2) by intro z;injection z with z;exact c1 z)]
     have hn:inF (sub es os) i=true:=gG.mpr (by rw [←eT,eS];exact fun z=>c1 (hiff.mpr z))
     rw [if_pos hn]
     refine fh ⟨_,rfl,.inl ⟨rfl,_,SqL.of hf2⟩,_,rfl,fl,_,_,rfl,rfl,hf2,aE (by rw [aa];lia),?_⟩
     have x4:fj fl H2 (upd H2 fl (.lst ((gF es os i).map V.int++[V.int v]))):=eP
     have t4:(upd H2 fl (.lst ((gF es os i).map V.int++[V.int v]))) fl=some (.lst ((gF es os i++[v]).map V.int)):=by rw [aw];exact aq
     have s4:bx H (upd H2 fl (.lst ((gF es os i).map V.int++[V.int v]))):=s2.upd nfl
     generalize upd H2 fl (.lst ((gF es os i).map V.int++[V.int v]))=H4 at x4 t4 s4
     have hl4:=x4 _ _ nlb hl2
     refine ⟨_,rfl,lb,_,rfl,.inl (SqL.of hl4),fun J C O hC=>fS O (fun j ys H5=>bx H4 H5∧ys=((ls.map fun n=>if n=lf ls (bc es v).2 then lf ls (bc es v).1 else n).take j).map V.int) (by rw [aa];exact aL (aE (by lia))) ⟨bx.refl _,rfl⟩ ?_ ?_ ?_⟩
     ·rintro j ys H5 hj ⟨s5,rfl⟩
      exact ⟨hC _ s5,by rw [aa,aC];lia⟩
     ·rintro j ys H5 hj ⟨s5,rfl⟩
      obtain ⟨n,en,gn⟩:=getD_map_int hj
      rw [aa] at hj
      have fin:∀u,u=(if n=lf ls (bc es v).2 then lf ls (bc es v).1 else n)→((ls.map fun n=>if n=lf ls (bc es v).2 then lf ls (bc es v).1 else n).take j).map V.int++[V.int u]=((ls.map fun n=>if n=lf ls (bc es v).2 then lf ls (bc es v).1 else n).take (j+1)).map V.int:=fun u e=>by
       have hv2:(ls.map fun n=>if n=lf ls (bc es v).2 then lf ls (bc es v).1 else n)[j]?=some u:=by rw [a_,gn,e];rfl
       rw [take_snoc hv2,aw];rfl
      try dsimp only
      rw [en]
      refine ⟨dR rfl,fh ⟨_,rfl,_,rfl,(by show 2≤sizeLine;decide),fun q1 nq1=>?_⟩⟩
      have s6:=s5.next (o:=.lst [V.int n,V.int (lf ls (bc es v).1)]) nq1
      have e6:(upd H5 q1 (.lst [V.int n,V.int (lf ls (bc es v).1)])) q1=some (.lst [V.int n,V.int (lf ls (bc es v).1)]):=aq
      generalize upd H5 q1 (.lst [V.int n,V.int (lf ls (bc es v).1)])=H6 at s6 e6
      have hyl:(((ls.map fun n=>if n=lf ls (bc es v).2 then lf ls (bc es v).1 else n).take j).map V.int).length<sizeLine:=aE (by rw [aa,aC];lia)
      by_cases c2:n=lf ls (bc es v).2
      ·refine ⟨_,rfl,_,rfl,rfl,.inr ⟨true,by rw [decide_eq_true (by rw [c2])],?_⟩⟩
       exact ⟨q1,_,1,_,rfl,rfl,SqL.of e6,rfl,hyl,_,by rw [aa];lia,rfl,by rw [aa];lia,s6,fin _ (by rw [if_pos c2])⟩
      ·refine ⟨_,rfl,_,rfl,rfl,.inr ⟨false,by rw [decide_eq_false (by intro z;injection z with z;exact c2 z)],?_⟩⟩
       exact ⟨q1,_,0,_,rfl,rfl,SqL.of e6,rfl,hyl,_,by rw [aa];lia,rfl,by rw [aa];lia,s6,fin _ (by rw [if_neg c2])⟩
     ·rintro ys H5 ⟨s5,rfl⟩ l3 nl3
      rw [aa,bq (by rw [aa];lia)]
      have sN:=s5.next (o:=.lst ((ls.map fun n=>if n=lf ls (bc es v).2 then lf ls (bc es v).1 else n).map V.int)) nl3
      refine ⟨l3,_,_,_,rfl,s4.trans sN,(bw (s5 _ _ t4) nl3).symm,sN _ _ t4,aq,by rw [aa];exact hll,?_⟩
      exact (hL.put ⟨b1,b2,b3,b4⟩).congr hES fun p p0 p1=>(qH ls (fun n=>if n=lf ls (bc es v).2 then lf ls (bc es v).1 else n) p p0 (by lia)).symm
   ·rintro σ' H' ⟨lb,ls,v6,v7,rfl,h'⟩
    exact ⟨lb,ls,_,_,_,rfl,h'⟩
  ·rintro σ H2 ⟨lb,ls,v5,v6,v7,rfl,s2,nlb,hf2,hl2,hll,hL⟩
   rw [hom] at hf2
   have hfl:(gF es os os.length).length≤os.length:=by unfold gF;rw [aa];exact ke _ _
   exact ⟨_,rfl,fl,_,rfl,SqL.of hf2,by lia,fun l2 ns' nl2 hperm hsrt=>k l2 ns' _ (bN s2 nl2) (s2.next nl2) aq hperm hsrt⟩
def zq (K:ai):Sp:=fun vs H Q _=>∃(l f:Addr) (m:Int) (xs:List V) (es:List (Int×Int)) (fs:List Int),vs=[.int m,.ref l,.ref f]∧SqL K H l xs∧Pairs K H xs es∧SqL K H f (fs.map V.int)∧fs.length=es.length∧1≤m∧m≤20∧es.length≤40∧de es m ∧
 ∀(l2:Addr) (zs:List Int) (H':Hp),H l2=none→bx H H'→H' l2=some (.lst (zs.map V.int))→zs.length=m.toNat→(∀p:Nat,p<m.toNat→zs.getD p 0=dp p es fs es.length)→Q (.ref l2) H'
theorem zK:bY ["many","ends","amounts","found","k"] ["many","ends","amounts"] (az sLg):=⟨rfl,rfl,rfl,by decide +kernel,rfl,by decide +kernel,by decide +kernel⟩
theorem Aq {f:Addr} {fd:FuncData} (F:Fun K "_law_gains" "_law_gains" sLg f fd) (T:Txt K mg c):fH P w K mg base CX0 1 f fd ["many","ends","amounts"] (zq K):=by
 refine F.ok zK (fun vs H Q E h=>?_) (fun cdv A outer s H vs Q E hr h=>?_)
 ·obtain ⟨l,f,m,xs,es,fs,rfl,_⟩:=h
  rfl
 ·obtain ⟨l,f,m,xs,es,fs,rfl,hl,hp,hf,hfl,m1,m2,hz,hE,k⟩:=h
  have hxl:=hp.len
  refine ⟨_,aB (bF (i:=3) zK.nd rfl (Or.inl rfl) (bQ jv (dh (ah (aS) ax)) (pv 0)))
   (aB (gh PassesOwn.never rfl (fI rfl T.range (ah (bg (ig (K:=K) rfl) (by rfl) T.len aX (ah (pv 1) ax)) ax)) (bK (i:=4) zK.nd rfl (Or.inl rfl))
    (aB (ku (bQ gj (cD (ixL (K:=K) rfl) (pv 3) (cD (ixT (K:=K) rfl) (cD (ixL (K:=K) rfl) (pv 1) (pv 4) (fun _ _=>rfl)) (aS) (fun _ _=>rfl)) (fun _ _=>rfl)) (cD (ixL (K:=K) rfl) (pv 2) (pv 4) (fun _ _=>rfl))) (og (pv 3) (cD (ixT (K:=K) rfl) (cD (ixL (K:=K) rfl) (pv 1) (pv 4) (fun _ _=>rfl)) (aS) (fun _ _=>rfl)) set_list))
   (aR (ku (bQ fG (cD (ixL (K:=K) rfl) (pv 3) (cD (ixT (K:=K) rfl) (cD (ixL (K:=K) rfl) (pv 1) (pv 4) (fun _ _=>rfl)) (aS) (fun _ _=>rfl)) (fun _ _=>rfl)) (cD (ixL (K:=K) rfl) (pv 2) (pv 4) (fun _ _=>rfl))) (og (pv 3) (cD (ixT (K:=K) rfl) (cD (ixL (K:=K) rfl) (pv 1) (pv 4) (fun _ _=>rfl)) (aS) (fun _ _=>rfl)) set_list)))))
   (aR (cI (pv 3)))),?_⟩
  refine ⟨(by show 1≤sizeLine;decide),fun l1 nl1=>?_⟩
  have s1:bx H (upd H l1 (.lst [V.int 0])):=bx.new nl1
  have e1:(upd H l1 (.lst [V.int 0])) l1=some (.lst [V.int 0]):=aq
  generalize upd H l1 (.lst [V.int 0])=H1 at s1 e1
  refine ⟨_,rfl,l1,m,_,rfl,rfl,e1,by lia,by lia,aL (aE (by show 1*m.toNat≤1000;lia)),fun g ng=>?_⟩
  rw [gY]
  have s2:=s1.next (o:=.lst ((au m.toNat (0:Int)).map V.int)) ng
  have e2:(upd H1 g (.lst ((au m.toNat (0:Int)).map V.int))) g=some (.lst ((au m.toNat (0:Int)).map V.int)):=aq
  have ngH:H g=none:=bN s1 ng
  generalize upd H1 g (.lst ((au m.toNat (0:Int)).map V.int))=H2 at s2 e2
  refine ⟨_,rfl,l,xs,rfl,.inl (s2.seq hl),(xs.length:Int),rfl,by lia,by lia,gQ eQ (fun i σ H3=>∃(zs:List Int) (v4:Option V),σ=[some (.int m),some (.ref l),some (.ref f),some (.ref g),v4]∧bx H H3∧H3 g=some (.lst (zs.map V.int))∧zs.length=m.toNat∧∀p:Nat,p<m.toNat→zs.getD p 0=dp p es fs i) ⟨_,none,rfl,s2,e2,bh ..,fun p hp=>?_⟩ (fun _ _ _ _ _=>trivial) ?_ ?_⟩
  ·rw [ae,cy,if_pos hp];rfl
  ·rintro i σ H3 hi ⟨zs,v4,rfl,s3,e3,hzl,hd⟩
   have hi':i<es.length:=by have:i<xs.length:=hi;lia
   obtain ⟨r,ar,hr2,hm⟩:=gy (hp.same s3) (show (0:Int)≤0+(i:Nat) by lia) (show (0+(i:Nat):Int)<(es.length:Int) by lia)
   have eT:bc es (0+(i:Nat):Int)=es.getD i (0,0):=by unfold bc;rw [show (0+(i:Nat):Int).toNat=i by lia]
   rw [eT] at hr2 hm
   have hg:es[i]?=some (es.getD i (0,0)):=by rw [ae,aj hi'];rfl
   obtain ⟨b1,b2,b3,b4⟩:=hE _ hm
   have af:atI (fs.map V.int) (0+(i:Nat):Int)=some (.int (fs.getD i 0)):=by
    have:=ft (ns:=fs) (k:=(0+(i:Nat):Int)) (by lia) (by lia)
    rwa [show (0+(i:Nat):Int).toNat=i by lia] at this
   have step:=rG (n:=m.toNat) hzl hg b1 (by lia) b3 (by lia) hd
   generalize es.getD i (0,0)=e at *
   have a1:atI (zs.map V.int) e.1=some (.int (zs.getD e.1.toNat 0)):=ft (ns:=zs) b1 (by lia)
   refine ⟨_,rfl,_,rfl,_,rfl,l,xs,_,.ref r,rfl,rfl,s3.seq hl,ar,r,_,0,_,rfl,rfl,hr2,rfl,g,_,_,_,rfl,rfl,SqL.of e3,a1,_,rfl,_,rfl,f,_,_,_,rfl,rfl,s3.seq hf,af,_,_,rfl,rfl,?_⟩
   refine ⟨_,rfl,_,rfl,_,rfl,l,xs,_,.ref r,rfl,rfl,s3.seq hl,ar,r,_,0,_,rfl,rfl,hr2,rfl,g,_,e.1,_,rfl,rfl,e3,iB b1 (by rw [aa];lia),?_⟩
   rw [gN]
   have s4:bx H (upd H3 g (.lst ((zs.set e.1.toNat (zs.getD e.1.toNat 0-fs.getD i 0)).map V.int))):=s3.upd ngH
   have e4:(upd H3 g (.lst ((zs.set e.1.toNat (zs.getD e.1.toNat 0-fs.getD i 0)).map V.int))) g=some (.lst ((zs.set e.1.toNat (zs.getD e.1.toNat 0-fs.getD i 0)).map V.int)):=aq
   have hr4:SqT K (upd H3 g (.lst ((zs.set e.1.toNat (zs.getD e.1.toNat 0-fs.getD i 0)).map V.int))) r [.int e.1,.int e.2]:=(eP (a:=g)).tup e3 hr2
   generalize upd H3 g (.lst ((zs.set e.1.toNat (zs.getD e.1.toNat 0-fs.getD i 0)).map V.int))=H4 at s4 e4 hr4
   have a2:atI ((zs.set e.1.toNat (zs.getD e.1.toNat 0-fs.getD i 0)).map V.int) e.2=some (.int ((zs.set e.1.toNat (zs.getD e.1.toNat 0-fs.getD i 0)).getD e.2.toNat 0)):=ft (ns:=zs.set e.1.toNat (zs.getD e.1.toNat 0-fs.getD i 0)) b3 (by rw [cx];lia)
   refine ⟨_,rfl,_,rfl,_,rfl,l,xs,_,.ref r,rfl,rfl,s4.seq hl,ar,r,_,1,_,rfl,rfl,hr4,rfl,g,_,_,_,rfl,rfl,SqL.of e4,a2,_,rfl,_,rfl,f,_,_,_,rfl,rfl,s4.seq hf,af,_,_,rfl,rfl,?_⟩
   refine ⟨_,rfl,_,rfl,_,rfl,l,xs,_,.ref r,rfl,rfl,s4.seq hl,ar,r,_,1,_,rfl,rfl,hr4,rfl,g,_,e.2,_,rfl,rfl,e4,iB b3 (by rw [aa,cx];lia),?_⟩
   rw [gN]
   exact ⟨_,_,rfl,s4.upd ngH,aq,by rw [cx,cx];exact hzl,step⟩
  ·rintro σ H3 ⟨zs,v4,rfl,s3,e3,hzl,hd⟩
   rw [show ((xs.length:Int)).toNat=es.length from hxl] at hd
   exact ⟨_,rfl,k g zs H3 ngH s3 e3 hzl hd⟩
def zp (K:ai):Sp:=fun vs H Q _=>∃(p:Addr) (ns:List Int) (n:Int),vs=[.ref p,.int n]∧H p=some (.lst (ns.map V.int))∧n=(ns.length:Int)∧ns.length≤900∧∀H',bx H H'→Q (.bl true) H'
theorem Cf:bY ["found","many"] ["found","many"] (az sLm):=⟨rfl,rfl,rfl,by decide +kernel,rfl,by decide +kernel,by decide +kernel⟩
theorem jq:∀n:Nat,(au n (V.bl true)).all tv=true∧(au n (V.bl true)).all sk=true
 | 0=>⟨rfl,rfl⟩
 | n+1=>by rw [dj,dN,dN,(jq n).1,(jq n).2];exact ⟨rfl,rfl⟩
theorem Ap {f:Addr} {fd:FuncData} (F:Fun K "_law_amounts" "_law_amounts" sLm f fd) (T:Txt K mg c) (D_H:Def P w K mg base 1 "_law_whole" ["found"] (spH K)):fH P w K mg base CX0 2 f fd ["found","many"] (zp K):=by
 refine F.ok Cf (fun vs H Q E h=>?_) (fun cdv A outer s H vs Q E hr h=>?_)
 ·obtain ⟨p,ns,n,rfl,_⟩:=h
  rfl
 ·obtain ⟨p,ns,n,rfl,hp,hn,hz,k⟩:=h
  refine ⟨_,aB (eV (PW.pt (kn (ip (h_ (bg (cIs (K:=K) rfl) (by rfl) T.isinstance aZ (ah (pv 0) (ah (lB (v:=.ty "list") (by rfl) T.list cJ rfl) ax))))) (jt (cm mh (bg (ig (K:=K) rfl) (by rfl) T.len aX (ah (pv 0) ax)) (pv 1) (cH _)))))
    (aR (cI (lC))) (cX))
   (aR (cI (bg (yG (K:=K) rfl rfl) (by rfl) T.all PyProof.Rows.boot_all (ah (fJ (N':=["amount"]) (nl:=1) (js:=[]) rfl (.of (osc:=az sLm) (N:=["found","many"]) (by decide +kernel) rfl rfl) (f_ (K:=K) rfl (pv 0))
    (fun _ _ _ _=>bK (i:=0) (show (["amount"]:List Str).Nodup by decide +kernel) rfl (Or.inl rfl)) (fun _ _ _ _=>dD)
    (fun _ _ _ _=>bX D_H hr (ah (pv 0) ax))) ax)))),?_⟩
  refine ⟨_,rfl,_,_,_,_,true,rfl,rfl,fun _ z=>z,.of (.lst hp),lG _ _,_,rfl,gc ?_⟩
  refine ⟨_,rfl,p,_,rfl,.inl (SqL.of hp),_,rfl,rfl,_,rfl,?_⟩
  rw [decide_eq_true (show V.int ((ns.map V.int).length:Int)=V.int n by rw [aa,hn])]
  refine gc ?_
  refine ⟨_,rfl,p,_,rfl,.inl (SqL.of hp),fun J C O hC=>fS O (fun i ys H2=>H2=H∧ys=au i (V.bl true)) (by rw [aa];exact aL (aE (by lia))) ⟨rfl,rfl⟩ ?_ ?_ ?_⟩
  ·rintro i ys H2 hi ⟨rfl,rfl⟩
   exact ⟨hC _ (bx.refl _),by rw [bh];exact aN _⟩
  ·rintro i ys H hi ⟨rfl,rfl⟩
   obtain ⟨v,ev,gv⟩:=getD_map_int hi
   rw [aa] at hi
   try dsimp only
   rw [ev]
   refine ⟨dR rfl,fh ⟨_,rfl,_,rfl,aE (by rw [bh];lia),_,by rw [aa];lia,rfl,by rw [aa];lia,rfl,?_⟩⟩
   rw [List.replicate_succ']
  ·rintro ys H ⟨rfl,rfl⟩ l nl
   refine ⟨l,_,rfl,.inl (SqL.of aq),(jq _).2,?_⟩
   rw [(jq _).1]
   exact k _ (bx.new nl)
def zG (K:ai):Sp:=fun vs H Q _=>∃(q:Addr) (ss:List Int) (n:Nat) (ce:Int),vs=[.ref q,.int n,.int ce]∧SqL K H q (ss.map V.int)∧gp n ss∧n≤40 ∧
 ∀(l:Addr) (bs:List Int) (H':Hp),H l=none→bx H H'→H' l=some (.lst (bs.map V.int))→¬gp n bs→bs.length≤60→Q (.ref l) H'
theorem wm:bY ["some","count","cell","bad","far","way","at"] ["some","count","cell"] (az sBs):=⟨rfl,rfl,rfl,by decide +kernel,rfl,by decide +kernel,by decide +kernel⟩
theorem gJ {n:Nat} {bs:List Int} {t:Int} (hm:t∈bs) (h:t<0∨(n:Int)≤t):¬gp n bs:=fun z=>by have:=z.rng t hm;lia
theorem sg {n:Nat} {bs:List Int} {i:Nat} (hi:i+1<bs.length) (h:bs.getD (i+1) 0≤bs.getD i 0):¬gp n bs:=fun z=>by have:=nS z.up hi;lia
theorem kL {xs ys:List Int} {i:Nat} (h:xs.length=i) (j:Nat):(xs++ys).getD (i+j) 0=ys.getD j 0:=by
 rw [ae,List.getElem?_append_right (by lia),show i+j-xs.length=j by lia,ae]
theorem AL {f:Addr} {fd:FuncData} (F:Fun K "_law_bad_set" "_law_bad_set" sBs f fd) (T:Txt K mg c):fH P w K mg base CX0 1 f fd ["some","count","cell"] (zG K):=by
 refine F.ok wm (fun vs H Q E h=>?_) (fun cdv A outer s H vs Q E hr h=>?_)
 ·obtain ⟨q,ss,n,ce,rfl,_⟩:=h
  rfl
 ·obtain ⟨q,ss,n,ce,rfl,hq,ok,hn,k⟩:=h
  have hu:A.units+3+64<cLine:=hr.units
  refine ⟨_,aB (bF (i:=3) wm.nd rfl (Or.inl rfl) (fK (mO (K:=K) rfl) (by rfl) T.list cJ (ah (pv 0) ax)))
   (aB (dO (bF (i:=4) wm.nd rfl (Or.inl rfl) (bQ eX (bQ fR (pv 2) (aS)) (bQ uJ (aS) (aS)))))
   (aB (dO (bF (i:=5) wm.nd rfl (Or.inl rfl) (bQ eX (pv 2) (aS))))
   (aB (dO (eV (PW.pt (kr (cm iR (pv 5) (aS) (cH _)) (ji (cm (qy (K:=K) rfl hu) (pv 3) (dh ax) (cH _)))))
    (aR (dE (iJ PySem.F.plainAttrs_list PySem.F.slot_list_insert PySem.F.type_list_insert nh (pv 3) (ah (bQ eX (bQ fR (pv 2) (aS)) (bg (ig (K:=K) rfl) (by rfl) T.len aX (ah (pv 3) ax))) (ah (cD (ixL (K:=K) rfl) (pv 3) (bQ eX (bQ fR (pv 2) (aS)) (bg (ig (K:=K) rfl) (by rfl) T.len aX (ah (pv 3) ax))) (fun _ _=>rfl)) ax))))) (aR (dO (eV (PW.pt (kr (cm iR (pv 5) (aS) (cH _)) (ji (cm iQ (bg (ig (K:=K) rfl) (by rfl) T.len aX (ah (pv 3) ax)) (aS) (cH _)))))
    (aB (bF (i:=6) wm.nd rfl (Or.inl rfl) (bQ fG (aS) (bQ eX (bQ fR (pv 2) (aS)) (bQ gj (bg (ig (K:=K) rfl) (by rfl) T.len aX (ah (pv 3) ax)) (aS)))))
   (aR (ku (dh (ah (cD (ixL (K:=K) rfl) (pv 3) (pv 6) (fun _ _=>rfl)) (ah (cD (ixL (K:=K) rfl) (pv 3) (bQ gj (pv 6) (aS)) (fun _ _=>rfl)) ax))) (xt (pv 3) (iw (bQ gj (pv 6) (aS))) (iw (bQ fG (pv 6) (aS))))))) (aR (dO (eV (cm iR (pv 5) (aS) (cH _))
    (aR (dE (iJ PySem.F.plainAttrs_list PySem.F.slot_list_insert PySem.F.type_list_insert nh (pv 3) (ah (aS) (ah (bQ gj (ko iL (aS)) (bQ gD (pv 4) (bQ eX (bQ fR (pv 2) (aS)) (aS)))) ax))))) (aR (dO (eV (cm iR (pv 5) (aS) (cH _))
    (aR (dE (iJ PySem.F.plainAttrs_list PySem.F.slot_list_append PySem.F.type_list_append fm (pv 3) (ah (bQ fG (pv 1) (bQ gD (pv 4) (bQ eX (bQ fR (pv 2) (aS)) (aS)))) ax)))) (aR (bF (i:=3) wm.nd rfl (Or.inl rfl) (bQ gk (dh (ah (ko iL (aS)) ax)) (pv 3)))))))))))))))
   (aR (cI (pv 3)))))),?_⟩
  clear hu
  have hsl:=ok.len
  have hsm:(ss.map V.int).length=ss.length:=aa ..
  refine ⟨_,rfl,q,_,rfl,.inl hq,fun lb nlb=>?_⟩
  have s1:=bx.new (o:=.lst (ss.map V.int)) nlb
  have e1:(upd H lb (.lst (ss.map V.int))) lb=some (.lst (ss.map V.int)):=aq
  generalize upd H lb (.lst (ss.map V.int))=H1 at s1 e1
  refine ⟨fun σ' H'=>H'=H1∧∃fa:Int,0≤fa∧fa<10^40∧σ'=[some (.ref q),some (.int n),some (.int ce),some (.ref lb),some (.int fa),none,none],?_,?_⟩
  ·refine ⟨_,rfl,_,_,rfl,rfl,⟨by decide,by decide⟩,_,_,rfl,rfl,⟨by decide,by decide,by decide⟩,_,_,rfl,rfl,(by show (0:Int)<(10:Int)^(40:Int).toNat;decide),rfl,_,bH _ (by decide),br _ (by decide),rfl⟩
  rintro σ' H' ⟨rfl,fa,fa0,fa1,rfl⟩
  refine ⟨fun σ' H1=>H1=H'∧∃wy:Int,σ'=[some (.ref q),some (.int n),some (.int ce),some (.ref lb),some (.int fa),some (.int wy),none],?_,?_⟩
  ·exact ⟨_,rfl,_,_,rfl,rfl,(by show (0:Int)<5;decide),rfl,_,rfl⟩
  rintro σ' H1 ⟨rfl,wy,rfl⟩
  obtain ⟨Post,hP⟩:∃Post:L2.St→Hp→Prop,Post=fun σ' H'=>∃(lb:Addr) (bs:List Int) (v6:Option V),σ'=[some (.ref q),some (.int n),some (.int ce),some (.ref lb),some (.int fa),some (.int wy),v6]∧H lb=none∧bx H H'∧H' lb=some (.lst (bs.map V.int))∧¬gp n bs∧bs.length≤60:=⟨_,rfl⟩
  have fd2:=fun z:Int=>bH z (show (2:Int)≠0 by decide)
  have fd3:=fun z:Int=>br z (show (0:Int)<2 by decide)
  refine ⟨Post,?_,?_⟩
  ·refine ⟨_,rfl,rfl,_,rfl,?_⟩
   refine ie (fun c1=>?_) (fun c1=>?_)
   ·refine ⟨_,rfl,by decide,fun l0 n0=>?_⟩
    have s2:=s1.next (o:=.lst []) n0
    have e2:=bx.new (o:=.lst []) n0 _ _ e1
    have e0:(upd H1 l0 (.lst [])) l0=some (.lst (([]:List Int).map V.int)):=aq
    generalize upd H1 l0 (.lst [])=H2 at s2 e2 e0
    refine ⟨dI ss,dI [],eh (SqL.of e2),eh (SqL.of e0),fg _,fg _,_,rfl,?_⟩
    rw [kg]
    by_cases hs0:ss=[]
    ·rw [decide_eq_true hs0]
     refine gc ?_
     refine ⟨Post,?_,fun _ _ h=>h⟩
     refine ⟨_,rfl,rfl,_,rfl,ie (fun _=>?_) (fun _=>?_)⟩
     ·refine ⟨_,rfl,lb,_,rfl,.inl (SqL.of e2),_,_,rfl,rfl,_,rfl,ie (fun c2=>?_) (fun c2=>?_)⟩
      ·have c2':((ss.map V.int).length:Int)>1:=of_decide_eq_true c2
       have g0:=bH (ce/5) (show ((ss.map V.int).length:Int)-1≠0 by lia)
       have g1:=br (ce/5) (show (0:Int)<((ss.map V.int).length:Int)-1 by lia)
       refine ⟨_,rfl,_,_,rfl,rfl,⟨by decide,by decide⟩,_,rfl,lb,_,rfl,.inl (SqL.of e2),_,_,rfl,rfl,_,_,rfl,rfl,(by show (0:Int)<((ss.map V.int).length:Int)-1;lia),_,_,rfl,rfl,?_⟩
       obtain ⟨g,hg⟩:∃g:Nat,(g:Int)=ce/5%(((ss.map V.int).length:Int)-1):=⟨(ce/5%(((ss.map V.int).length:Int)-1)).toNat,by lia⟩
       rw [←hg] at g1 ⊢
       have a1:atI (ss.map V.int) (1+(g:Int))=some (.int (ss.getD (g+1) 0)):=by
        have:=ft (ns:=ss) (k:=(1+(g:Int))) (by lia) (by lia)
        rwa [show (1+(g:Int)).toNat=g+1 by lia] at this
       have a0:atI (ss.map V.int) (1+(g:Int)-1)=some (.int (ss.getD g 0)):=by
        have:=ft (ns:=ss) (k:=(1+(g:Int)-1)) (by lia) (by lia)
        rwa [show (1+(g:Int)-1).toNat=g by lia] at this
       refine ⟨_,rfl,_,rfl,lb,_,_,_,rfl,rfl,SqL.of e2,a1,_,rfl,_,rfl,_,_,rfl,rfl,lb,_,_,_,rfl,rfl,SqL.of e2,a0,(by show 2≤sizeLine;decide),fun l1 n1=>?_⟩
       have sN:=s2.next (o:=.lst [V.int (ss.getD (g+1) 0),V.int (ss.getD g 0)]) n1
       have eN:=bx.new (o:=.lst [V.int (ss.getD (g+1) 0),V.int (ss.getD g 0)]) n1 _ _ e2
       have nN:lb≠l1:=bw e2 n1
       refine ⟨_,rfl,_,rfl,_,_,rfl,rfl,_,rfl,_,rfl,_,_,rfl,rfl,_,rfl,lb,l1,_,_,g,g+2,rfl,by congr 1;lia,by congr 1;lia,rfl,nN,eN,aq,by lia,by lia,by show (ss.map V.int).length+2≤1000;lia,?_⟩
       rw [hP]
       have hgl:g+1<ss.length:=by lia
       refine ⟨lb,ss.take g++[ss.getD (g+1) 0,ss.getD g 0]++ss.drop (g+2),_,rfl,nlb,sN.upd nlb,by rw [aq,aw,aw,fb,fZ];rfl,?_,by rw [ay,ay,aC,cM];show min g ss.length+2+(ss.length-(g+2))≤60;lia⟩
       have hlt:=nS ok.up hgl
       have htl:(ss.take g).length=g:=by rw [aC];lia
       refine sg (i:=g) (by rw [ay,ay,htl];show g+1<g+2+_;lia) ?_
       rw [eR,kL htl 1]
       have z0:(ss.take g++([ss.getD (g+1) 0,ss.getD g 0]++ss.drop (g+2))).getD g 0=ss.getD (g+1) 0:=kL (ys:=[ss.getD (g+1) 0,ss.getD g 0]++ss.drop (g+2)) htl 0
       rw [z0]
       show ss.getD g 0≤ss.getD (g+1) 0
       lia
      ·refine ⟨Post,?_,fun _ _ h=>h⟩
       refine ⟨_,rfl,rfl,_,rfl,ie (fun _=>?_) (fun _=>?_)⟩
       ·refine ⟨_,rfl,.inl ⟨rfl,_,SqL.of e2⟩,_,rfl,_,rfl,_,rfl,_,_,rfl,rfl,⟨by decide,by decide⟩,_,_,rfl,rfl,(by show (0:Int)<2;decide),_,_,rfl,rfl,⟨by lia,by have:=fd2 (ce/5);have:=fd3 (ce/5);lia⟩,_,_,rfl,rfl,lb,_,_,_,rfl,rfl,e2,by decide,by lia,by lia,?_⟩
        rw [hP]
        refine ⟨lb,(-1-fa*(ce/5%2))::ss,_,rfl,nlb,s2.upd nlb,by rw [aq];rfl,gJ aP (.inl ?_),by rw [bA];lia⟩
        have:=eG fa0 (fd2 (ce/5))
        lia
       ·refine ⟨Post,?_,fun _ _ h=>h⟩
        refine ⟨_,rfl,rfl,_,rfl,ie (fun _=>?_) (fun _=>?_)⟩
        ·refine ⟨_,rfl,.inl ⟨rfl,_,SqL.of e2⟩,_,rfl,_,rfl,_,rfl,_,_,rfl,rfl,⟨by decide,by decide⟩,_,_,rfl,rfl,(by show (0:Int)<2;decide),_,_,rfl,rfl,⟨by lia,by have:=fd2 (ce/5);have:=fd3 (ce/5);lia⟩,_,_,rfl,rfl,lb,_,_,rfl,rfl,e2,aE (by lia),?_⟩
         rw [hP]
         refine ⟨lb,ss++[(n:Int)+fa*(ce/5%2)],_,rfl,nlb,s2.upd nlb,by rw [aw];exact aq,gJ (aG _ (ak.mpr rfl)) (.inr ?_),by rw [ay];show ss.length+1≤60;lia⟩
         have:=eG fa0 (fd2 (ce/5))
         lia
        ·refine ⟨_,rfl,(by show 1≤sizeLine;decide),fun l1 n1=>?_⟩
         have sN:=s2.next (o:=.lst [V.int (-1)]) n1
         have eN:=bx.new (o:=.lst [V.int (-1)]) n1 _ _ e2
         refine ⟨_,rfl,l1,lb,_,_,rfl,rfl,aq,eN,aL (aE (by show 1+(ss.map V.int).length≤1000;lia)),fun l2 n2=>?_⟩
         rw [hP]
         exact ⟨l2,(-1)::ss,_,rfl,bN sN n2,sN.next n2,aq,gJ aP (.inl (by decide)),by rw [bA];lia⟩
     ·refine gc ?_
      refine ⟨Post,?_,fun _ _ h=>h⟩
      refine ⟨_,rfl,rfl,_,rfl,ie (fun _=>?_) (fun _=>?_)⟩
      ·refine ⟨_,rfl,.inl ⟨rfl,_,SqL.of e2⟩,_,rfl,_,rfl,_,rfl,_,_,rfl,rfl,⟨by decide,by decide⟩,_,_,rfl,rfl,(by show (0:Int)<2;decide),_,_,rfl,rfl,⟨by lia,by have:=fd2 (ce/5);have:=fd3 (ce/5);lia⟩,_,_,rfl,rfl,lb,_,_,_,rfl,rfl,e2,by decide,by lia,by lia,?_⟩
       rw [hP]
       refine ⟨lb,(-1-fa*(ce/5%2))::ss,_,rfl,nlb,s2.upd nlb,by rw [aq];rfl,gJ aP (.inl ?_),by rw [bA];lia⟩
       have:=eG fa0 (fd2 (ce/5))
       lia
      ·refine ⟨Post,?_,fun _ _ h=>h⟩
       refine ⟨_,rfl,rfl,_,rfl,ie (fun _=>?_) (fun _=>?_)⟩
       ·refine ⟨_,rfl,.inl ⟨rfl,_,SqL.of e2⟩,_,rfl,_,rfl,_,rfl,_,_,rfl,rfl,⟨by decide,by decide⟩,_,_,rfl,rfl,(by show (0:Int)<2;decide),_,_,rfl,rfl,⟨by lia,by have:=fd2 (ce/5);have:=fd3 (ce/5);lia⟩,_,_,rfl,rfl,lb,_,_,rfl,rfl,e2,aE (by lia),?_⟩
        rw [hP]
        refine ⟨lb,ss++[(n:Int)+fa*(ce/5%2)],_,rfl,nlb,s2.upd nlb,by rw [aw];exact aq,gJ (aG _ (ak.mpr rfl)) (.inr ?_),by rw [ay];show ss.length+1≤60;lia⟩
        have:=eG fa0 (fd2 (ce/5))
        lia
       ·refine ⟨_,rfl,(by show 1≤sizeLine;decide),fun l1 n1=>?_⟩
        have sN:=s2.next (o:=.lst [V.int (-1)]) n1
        have eN:=bx.new (o:=.lst [V.int (-1)]) n1 _ _ e2
        refine ⟨_,rfl,l1,lb,_,_,rfl,rfl,aq,eN,aL (aE (by show 1+(ss.map V.int).length≤1000;lia)),fun l2 n2=>?_⟩
        rw [hP]
        exact ⟨l2,(-1)::ss,_,rfl,bN sN n2,sN.next n2,aq,gJ aP (.inl (by decide)),by rw [bA];lia⟩
    ·rw [decide_eq_false hs0]
     refine fh ?_
     have hp:0<ss.length:=List.length_pos_iff.mpr hs0
     have g0:=bH (ce/5) (show ((ss.map V.int).length:Int)≠0 by lia)
     have g1:=br (ce/5) (show (0:Int)<((ss.map V.int).length:Int) by lia)
     obtain ⟨g,hg⟩:∃g:Nat,(g:Int)=ce/5%((ss.map V.int).length:Int):=⟨(ce/5%((ss.map V.int).length:Int)).toNat,by lia⟩
     have a1:atI (ss.map V.int) (ce/5%((ss.map V.int).length:Int))=some (.int (ss.getD g 0)):=by
      rw [←hg]
      have:=ft (ns:=ss) (k:=(g:Int)) (by lia) (by lia)
      rwa [aY] at this
     refine ⟨_,rfl,.inl ⟨rfl,_,SqL.of e2⟩,_,rfl,_,_,rfl,rfl,⟨by decide,by decide⟩,_,rfl,lb,_,rfl,.inl (SqL.of e2),_,_,rfl,rfl,(by show (0:Int)<((ss.map V.int).length:Int);lia),_,rfl,_,rfl,_,_,rfl,rfl,⟨by decide,by decide⟩,_,rfl,lb,_,rfl,.inl (SqL.of e2),_,_,rfl,rfl,(by show (0:Int)<((ss.map V.int).length:Int);lia),lb,_,_,_,rfl,rfl,SqL.of e2,a1,?_⟩
     refine ⟨lb,_,_,_,rfl,rfl,e2,g0,by lia,by lia,?_⟩
     rw [hP,←hg,aY]
     have hgl:g<ss.length:=by lia
     have htl:(ss.take g).length=g:=by rw [aC];lia
     refine ⟨lb,ss.take g++ss.getD g 0::ss.drop g,_,rfl,nlb,s2.upd nlb,by rw [aq,aw,bf,fb,fZ],?_,by rw [ay,bA,aC,cM];lia⟩
     refine sg (i:=g) (by rw [ay,htl,bA,cM];lia) ?_
     have z0:=kL (ys:=ss.getD g 0::ss.drop g) htl 0
     rw [Nat.add_zero] at z0
     rw [kL htl 1,z0]
     show (ss.drop g).getD 0 0≤ss.getD g 0
     rw [ae,List.getElem?_drop,Nat.add_zero,ae]
     exact gS _
   ·refine gc ?_
    refine ⟨Post,?_,fun _ _ h=>h⟩
    refine ⟨_,rfl,rfl,_,rfl,ie (fun _=>?_) (fun _=>?_)⟩
    ·refine ⟨_,rfl,lb,_,rfl,.inl (SqL.of e1),_,_,rfl,rfl,_,rfl,ie (fun c2=>?_) (fun c2=>?_)⟩
     ·have c2':((ss.map V.int).length:Int)>1:=of_decide_eq_true c2
      have g0:=bH (ce/5) (show ((ss.map V.int).length:Int)-1≠0 by lia)
      have g1:=br (ce/5) (show (0:Int)<((ss.map V.int).length:Int)-1 by lia)
      refine ⟨_,rfl,_,_,rfl,rfl,⟨by decide,by decide⟩,_,rfl,lb,_,rfl,.inl (SqL.of e1),_,_,rfl,rfl,_,_,rfl,rfl,(by show (0:Int)<((ss.map V.int).length:Int)-1;lia),_,_,rfl,rfl,?_⟩
      obtain ⟨g,hg⟩:∃g:Nat,(g:Int)=ce/5%(((ss.map V.int).length:Int)-1):=⟨(ce/5%(((ss.map V.int).length:Int)-1)).toNat,by lia⟩
      rw [←hg] at g1 ⊢
      have a1:atI (ss.map V.int) (1+(g:Int))=some (.int (ss.getD (g+1) 0)):=by
       have:=ft (ns:=ss) (k:=(1+(g:Int))) (by lia) (by lia)
       rwa [show (1+(g:Int)).toNat=g+1 by lia] at this
      have a0:atI (ss.map V.int) (1+(g:Int)-1)=some (.int (ss.getD g 0)):=by
       have:=ft (ns:=ss) (k:=(1+(g:Int)-1)) (by lia) (by lia)
       rwa [show (1+(g:Int)-1).toNat=g by lia] at this
      refine ⟨_,rfl,_,rfl,lb,_,_,_,rfl,rfl,SqL.of e1,a1,_,rfl,_,rfl,_,_,rfl,rfl,lb,_,_,_,rfl,rfl,SqL.of e1,a0,(by show 2≤sizeLine;decide),fun l1 n1=>?_⟩
      have sN:=s1.next (o:=.lst [V.int (ss.getD (g+1) 0),V.int (ss.getD g 0)]) n1
      have eN:=bx.new (o:=.lst [V.int (ss.getD (g+1) 0),V.int (ss.getD g 0)]) n1 _ _ e1
      have nN:lb≠l1:=bw e1 n1
      refine ⟨_,rfl,_,rfl,_,_,rfl,rfl,_,rfl,_,rfl,_,_,rfl,rfl,_,rfl,lb,l1,_,_,g,g+2,rfl,by congr 1;lia,by congr 1;lia,rfl,nN,eN,aq,by lia,by lia,by show (ss.map V.int).length+2≤1000;lia,?_⟩
      rw [hP]
      have hgl:g+1<ss.length:=by lia
      refine ⟨lb,ss.take g++[ss.getD (g+1) 0,ss.getD g 0]++ss.drop (g+2),_,rfl,nlb,sN.upd nlb,by rw [aq,aw,aw,fb,fZ];rfl,?_,by rw [ay,ay,aC,cM];show min g ss.length+2+(ss.length-(g+2))≤60;lia⟩
      have hlt:=nS ok.up hgl
      have htl:(ss.take g).length=g:=by rw [aC];lia
      refine sg (i:=g) (by rw [ay,ay,htl];show g+1<g+2+_;lia) ?_
      rw [eR,kL htl 1]
      have z0:(ss.take g++([ss.getD (g+1) 0,ss.getD g 0]++ss.drop (g+2))).getD g 0=ss.getD (g+1) 0:=kL (ys:=[ss.getD (g+1) 0,ss.getD g 0]++ss.drop (g+2)) htl 0
      rw [z0]
      show ss.getD g 0≤ss.getD (g+1) 0
      lia
     ·refine ⟨Post,?_,fun _ _ h=>h⟩
      refine ⟨_,rfl,rfl,_,rfl,ie (fun _=>?_) (fun _=>?_)⟩
      ·refine ⟨_,rfl,.inl ⟨rfl,_,SqL.of e1⟩,_,rfl,_,rfl,_,rfl,_,_,rfl,rfl,⟨by decide,by decide⟩,_,_,rfl,rfl,(by show (0:Int)<2;decide),_,_,rfl,rfl,⟨by lia,by have:=fd2 (ce/5);have:=fd3 (ce/5);lia⟩,_,_,rfl,rfl,lb,_,_,_,rfl,rfl,e1,by decide,by lia,by lia,?_⟩
       rw [hP]
       refine ⟨lb,(-1-fa*(ce/5%2))::ss,_,rfl,nlb,s1.upd nlb,by rw [aq];rfl,gJ aP (.inl ?_),by rw [bA];lia⟩
       have:=eG fa0 (fd2 (ce/5))
       lia
      ·refine ⟨Post,?_,fun _ _ h=>h⟩
       refine ⟨_,rfl,rfl,_,rfl,ie (fun _=>?_) (fun _=>?_)⟩
       ·refine ⟨_,rfl,.inl ⟨rfl,_,SqL.of e1⟩,_,rfl,_,rfl,_,rfl,_,_,rfl,rfl,⟨by decide,by decide⟩,_,_,rfl,rfl,(by show (0:Int)<2;decide),_,_,rfl,rfl,⟨by lia,by have:=fd2 (ce/5);have:=fd3 (ce/5);lia⟩,_,_,rfl,rfl,lb,_,_,rfl,rfl,e1,aE (by lia),?_⟩
        rw [hP]
        refine ⟨lb,ss++[(n:Int)+fa*(ce/5%2)],_,rfl,nlb,s1.upd nlb,by rw [aw];exact aq,gJ (aG _ (ak.mpr rfl)) (.inr ?_),by rw [ay];show ss.length+1≤60;lia⟩
        have:=eG fa0 (fd2 (ce/5))
        lia
       ·refine ⟨_,rfl,(by show 1≤sizeLine;decide),fun l1 n1=>?_⟩
        have sN:=s1.next (o:=.lst [V.int (-1)]) n1
        have eN:=bx.new (o:=.lst [V.int (-1)]) n1 _ _ e1
        refine ⟨_,rfl,l1,lb,_,_,rfl,rfl,aq,eN,aL (aE (by show 1+(ss.map V.int).length≤1000;lia)),fun l2 n2=>?_⟩
        rw [hP]
        exact ⟨l2,(-1)::ss,_,rfl,bN sN n2,sN.next n2,aq,gJ aP (.inl (by decide)),by rw [bA];lia⟩
    ·refine gc ?_
     refine ⟨Post,?_,fun _ _ h=>h⟩
     refine ⟨_,rfl,rfl,_,rfl,ie (fun _=>?_) (fun _=>?_)⟩
     ·refine ⟨_,rfl,.inl ⟨rfl,_,SqL.of e1⟩,_,rfl,_,rfl,_,rfl,_,_,rfl,rfl,⟨by decide,by decide⟩,_,_,rfl,rfl,(by show (0:Int)<2;decide),_,_,rfl,rfl,⟨by lia,by have:=fd2 (ce/5);have:=fd3 (ce/5);lia⟩,_,_,rfl,rfl,lb,_,_,_,rfl,rfl,e1,by decide,by lia,by lia,?_⟩
      rw [hP]
      refine ⟨lb,(-1-fa*(ce/5%2))::ss,_,rfl,nlb,s1.upd nlb,by rw [aq];rfl,gJ aP (.inl ?_),by rw [bA];lia⟩
      have:=eG fa0 (fd2 (ce/5))
      lia
     ·refine ⟨Post,?_,fun _ _ h=>h⟩
      refine ⟨_,rfl,rfl,_,rfl,ie (fun _=>?_) (fun _=>?_)⟩
      ·refine ⟨_,rfl,.inl ⟨rfl,_,SqL.of e1⟩,_,rfl,_,rfl,_,rfl,_,_,rfl,rfl,⟨by decide,by decide⟩,_,_,rfl,rfl,(by show (0:Int)<2;decide),_,_,rfl,rfl,⟨by lia,by have:=fd2 (ce/5);have:=fd3 (ce/5);lia⟩,_,_,rfl,rfl,lb,_,_,rfl,rfl,e1,aE (by lia),?_⟩
       rw [hP]
       refine ⟨lb,ss++[(n:Int)+fa*(ce/5%2)],_,rfl,nlb,s1.upd nlb,by rw [aw];exact aq,gJ (aG _ (ak.mpr rfl)) (.inr ?_),by rw [ay];show ss.length+1≤60;lia⟩
       have:=eG fa0 (fd2 (ce/5))
       lia
      ·refine ⟨_,rfl,(by show 1≤sizeLine;decide),fun l1 n1=>?_⟩
       have sN:=s1.next (o:=.lst [V.int (-1)]) n1
       have eN:=bx.new (o:=.lst [V.int (-1)]) n1 _ _ e1
       refine ⟨_,rfl,l1,lb,_,_,rfl,rfl,aq,eN,aL (aE (by show 1+(ss.map V.int).length≤1000;lia)),fun l2 n2=>?_⟩
       rw [hP]
       exact ⟨l2,(-1)::ss,_,rfl,bN sN n2,sN.next n2,aq,gJ aP (.inl (by decide)),by rw [bA];lia⟩
  ·rw [hP]
   rintro σ' H' ⟨lb,bs,v6,rfl,nl,s',e',hb,hl⟩
   exact ⟨_,rfl,k lb bs H' nl s' e' hb hl⟩
structure TlP (K:ai) (H:Hp) (l:Addr) (xs:List V) (es:List (Int×Int)) (H2:Hp):Prop where
 s:bx H H2
 l:H2 l=some (.lst xs)
 p:Pairs K H2 xs es
theorem TlP.same {K:ai} {H H2 H3:Hp} {l:Addr} {xs:List V} {es:List (Int×Int)} (t:TlP K H l xs es H2) (S:bx H2 H3):TlP K H l xs es H3:=⟨t.s.trans S,S _ _ t.l,t.p.same S⟩
theorem TlP.put {K:ai} {H H2:Hp} {l:Addr} {xs:List V} {es:List (Int×Int)} (t:TlP K H l xs es H2) (nl:H l=none) {z:Addr} {e:Int×Int} (nz:H2 z=none):TlP K H l (xs++[.ref z]) (es++[e]) (upd (upd H2 z (.tup [.int e.1,.int e.2])) l (.lst (xs++[.ref z]))):=by
 have sz:=bx.new (o:=.tup [.int e.1,.int e.2]) nz
 have t':=t.same sz
 exact ⟨t'.s.upd nl,aq,(t'.p.snoc (e:=e) (SqT.of aq)).sS eP t'.l⟩
theorem ou {t:Int} {L:List Int} (h:t∈L):∃j,j<L.length∧L.getD j 0=t∧∀i,i<j→L.getD i 0≠t:=by
 induction L with
 | nil=>cases h
 | cons a L ih =>
  by_cases e:a=t
  ·exact ⟨0,fW _,e,fun i hi=>absurd hi (cw _)⟩
  ·obtain ⟨j,h1,h2,h3⟩:=ih ((aU.mp h).resolve_left fun z=>e z.symm)
   exact ⟨j+1,by rw [bA];lia,h2,fun i hi=>by
    cases i with
    | zero=>exact e
    | succ i=>exact h3 i (by lia)⟩
def yX (K:ai):Sp:=fun vs H Q _=>∃(a:Addr) (ns:List Int),vs=[.ref a]∧SqL K H a (ns.map V.int)∧ns.length≤63 ∧
 ∀(t l p q:Addr) (m:Int) (xs:List V) (es:List (Int×Int)) (os ts:List Int) (H':Hp),bx H H'→H' t=some (.tup [.int m,.ref l,.ref p,.ref q])→H' l=some (.lst xs)→Pairs K H' xs es→1≤m→m≤20→es.length≤40→de es m→H' p=some (.lst (os.map V.int))→H' q=some (.lst (ts.map V.int))→(os.length:Int)=m-1→(ts.length:Int)=m-1→gp es.length os→gp es.length ts→Q (.ref t) H'
theorem lV:bY ["script","lead","many","ends","mixed","k","fresh","early","order","one","two"] ["script"] (az sTt):=⟨rfl,rfl,rfl,by decide +kernel,rfl,by decide +kernel,by decide +kernel⟩
theorem zW {f:Addr} {fd:FuncData} (F:Fun K "_law_two_trees" "_law_two_trees" sTt f fd) (T:Txt K mg c) (D_C:Def P w K mg base 1 "_law_cell" ["script","k"] (spC K)):fH P w K mg base CX0 2 f fd ["script"] (yX K):=by
 refine F.ok lV (fun vs H Q E h=>?_) (fun cdv A outer s H vs Q E hr h=>?_)
 ·obtain ⟨a,ns,rfl,_⟩:=h
  rfl
 ·obtain ⟨a,ns,rfl,hS,hlen,k⟩:=h
  refine ⟨_,aB (bF (i:=1) lV.nd rfl (Or.inl rfl) (bX D_C hr (ah (pv 0) (ah (aS) ax))))
   (aB (dO (bF (i:=2) lV.nd rfl (Or.inl rfl) (bQ fG (aS) (bQ eX (bQ fR (pv 1) (aS)) (aS)))))
   (aB (bF (i:=3) lV.nd rfl (Or.inr rfl) (dh ax))
   (aB (dO (bF (i:=4) lV.nd rfl (Or.inl rfl) (bQ fG (aS) (bQ eX (bg (BG (K:=K) rfl rfl) (by rfl) T.sum PyProof.Rows.boot_sum (ah (pv 0) ax)) (aS)))))
   (aB (gh PassesOwn.never rfl (fI rfl T.range (ah (bQ gD (aS) (bQ gj (pv 2) (aS))) ax)) (bK (i:=5) lV.nd rfl (Or.inl rfl))
    (aB (dO (bF (i:=4) lV.nd rfl (Or.inl rfl) (bQ eX (bQ gD (pv 4) (aS)) (aS))))
   (aB (dO (bF (i:=4) lV.nd rfl (Or.inl rfl) (bQ eX (bQ fG (bQ gD (pv 4) (pv 4)) (bQ gD (aS) (pv 5))) (aS))))
   (aB (dO (bF (i:=6) lV.nd rfl (Or.inl rfl) (bQ fG (aS) (bQ eX (pv 5) (bQ gj (pv 2) (aS))))))
   (aB (dO (bF (i:=7) lV.nd rfl (Or.inl rfl) (bQ eX (cD (ixL (K:=K) rfl) (dh (ah (bX D_C hr (ah (pv 0) (ah (bQ fG (aS) (pv 5)) ax))) (ah (bQ fR (pv 4) (aS)) ax))) (bQ eX (pv 1) (aS)) (fun _ _=>rfl)) (pv 6))))
   (aR (dO (eV (cm iP (pv 5) (bQ gj (pv 2) (aS)) (cH _))
    (aR (dE (iJ PySem.F.plainAttrs_list PySem.F.slot_list_append PySem.F.type_list_append fm (pv 3) (ah (fF (ah (pv 7) (ah (pv 6) ax))) ax)))) (aR (dE (iJ PySem.F.plainAttrs_list PySem.F.slot_list_append PySem.F.type_list_append fm (pv 3) (ah (fF (ah (bQ eX (bQ gj (bQ fR (pv 1) (aS)) (pv 6)) (pv 2)) (ah (bQ eX (bQ gj (bQ fR (pv 1) (aS)) (pv 7)) (pv 2)) ax))) ax))))))))))))
   (aB (gh PassesOwn.never rfl (fI rfl T.range (ah (bQ eX (bQ fR (pv 1) (aS)) (aS)) ax)) (bK (i:=5) lV.nd rfl (Or.inl rfl))
    (aR (dE (iJ PySem.F.plainAttrs_list PySem.F.slot_list_append PySem.F.type_list_append fm (pv 3) (ah (fF (ah (bQ eX (bQ fR (pv 4) (bQ fG (aS) (pv 5))) (pv 2)) (ah (bQ eX (bQ fR (pv 4) (bQ fG (aS) (pv 5))) (pv 2)) ax))) ax)))))
   (aB (bF (i:=8) lV.nd rfl (Or.inr rfl) (dh ax))
   (aB (gh PassesOwn.never rfl (fI rfl T.range (ah (bg (ig (K:=K) rfl) (by rfl) T.len aX (ah (pv 3) ax)) ax)) (bK (i:=5) lV.nd rfl (Or.inl rfl))
    (aB (dO (bF (i:=4) lV.nd rfl (Or.inl rfl) (bQ eX (bQ gD (pv 4) (aS)) (aS))))
   (aB (dO (bF (i:=4) lV.nd rfl (Or.inl rfl) (bQ eX (bQ fG (bQ gD (pv 4) (pv 4)) (bQ gD (aS) (pv 5))) (aS))))
   (aR (dE (iJ PySem.F.plainAttrs_list PySem.F.slot_list_insert PySem.F.type_list_insert nh (pv 8) (ah (bQ eX (bQ fR (pv 4) (aS)) (bQ fG (pv 5) (aS))) (ah (pv 5) ax))))))))
   (aB (bF (i:=9) lV.nd rfl (Or.inl rfl) (bg (jm (K:=K) rfl) (by rfl) T.sorted dm (ah (fJ (N':=["k","order"]) (nl:=1) (js:=[8]) rfl (.of (osc:=az sTt) (N:=["script","lead","many","ends","mixed","k","fresh","early","order","one","two"]) (by decide +kernel) rfl rfl) (fI rfl T.range (ah (bQ gj (pv 2) (aS)) ax))
    (fun _ _ _ _=>bK (i:=0) (show (["k","order"]:List Str).Nodup by decide +kernel) rfl (Or.inl rfl)) (fun _ _ _ _=>dD)
    (fun _ _ _ _=>uI (K:=K) rfl PySem.F.plainAttrs_list PySem.F.slot_list_index PySem.F.type_list_index (uM (K:=K) rfl) (pv 1) (ah (pv 0) ax))) ax)))
   (aB (bF (i:=10) lV.nd rfl (Or.inl rfl) (bg (jm (K:=K) rfl) (by rfl) T.sorted dm (ah (fJ (N':=["k","order"]) (nl:=1) (js:=[8]) rfl (.of (osc:=az sTt) (N:=["script","lead","many","ends","mixed","k","fresh","early","order","one","two"]) (by decide +kernel) rfl rfl) (ql rfl T.range (ah (bQ gj (pv 2) (aS)) (ah (bQ gD (aS) (bQ gj (pv 2) (aS))) ax)))
    (fun _ _ _ _=>bK (i:=0) (show (["k","order"]:List Str).Nodup by decide +kernel) rfl (Or.inl rfl)) (fun _ _ _ _=>dD)
    (fun _ _ _ _=>uI (K:=K) rfl PySem.F.plainAttrs_list PySem.F.slot_list_index PySem.F.type_list_index (uM (K:=K) rfl) (pv 1) (ah (pv 0) ax))) ax)))
   (aR (cI (fF (ah (pv 2) (ah (fJ (N':=["k","ends"]) (nl:=1) (js:=[3]) rfl (.of (osc:=az sTt) (N:=["script","lead","many","ends","mixed","k","fresh","early","order","one","two"]) (by decide +kernel) rfl rfl) (ju (K:=K) rfl (pv 8))
    (fun _ _ _ _=>bK (i:=0) (show (["k","ends"]:List Str).Nodup by decide +kernel) rfl (Or.inl rfl)) (fun _ _ _ _=>dD)
    (fun _ _ _ _=>cD (ixL (K:=K) rfl) (pv 1) (pv 0) (fun _ _=>rfl))) (ah (pv 9) (ah (pv 10) ax)))))))))))))))),?_⟩
  refine ⟨_,rfl,a,ns,0,rfl,hS,by decide,?_⟩
  generalize ns.getD (0:Int).toNat 0=le0
  refine ⟨fun σ' H'=>H'=H∧∃m:Int,1≤m∧m≤20∧σ'=[some (.ref a),some (.int le0),some (.int m),none,none,none,none,none,none,none,none],?_,?_⟩
  ·have b1:=bH (le0/2) (show (20:Int)≠0 by decide)
   have b2:=br (le0/2) (show (0:Int)<20 by decide)
   exact ⟨_,rfl,_,_,rfl,rfl,⟨by decide,by decide⟩,_,_,rfl,rfl,(by show (0:Int)<20;decide),_,_,rfl,rfl,rfl,_,by lia,by lia,rfl⟩
  rintro σ' H0 ⟨rfl,m,m1,m2,rfl⟩
  refine ⟨by decide,fun le nle=>?_⟩
  have T0:TlP K H0 le [] [] (upd H0 le (.lst [])):=⟨bx.new nle,aq,.nil⟩
  generalize upd H0 le (.lst [])=H1 at T0
  refine ⟨fun σ' H'=>H'=H1∧∃mi:Int,0≤mi∧mi<2^40∧σ'=[some (.ref a),some (.int le0),some (.int m),some (.ref le),some (.int mi),none,none,none,none,none,none],?_,?_⟩
  ·have b1:=bH ns.sum (show (1000000007:Int)≠0 by decide)
   have b2:=br ns.sum (show (0:Int)<1000000007 by decide)
   exact ⟨_,rfl,a,ns,rfl,.inl (T0.s.seq hS),_,_,rfl,rfl,(by show (0:Int)<1000000007;decide),_,_,rfl,rfl,rfl,_,by lia,by lia,rfl⟩
  rintro σ' H2 ⟨rfl,mi,mi0,mi1,rfl⟩
  refine ⟨_,rfl,_,_,rfl,rfl,_,_,rfl,rfl,⟨by decide,by lia⟩,2*(m-1),rfl,by lia,by lia,?_⟩
  refine gQ eQ (fun i σ H3=>∃(mi:Int) (xs:List V) (es:List (Int×Int)) (v5 v6 v7:Option V),σ=[some (.ref a),some (.int le0),some (.int m),some (.ref le),some (.int mi),v5,v6,v7,none,none,none]∧TlP K H0 le xs es H3∧0≤mi∧mi<2^40∧es.length=i∧de es m) ⟨mi,[],[],none,none,none,rfl,T0,mi0,mi1,rfl,de.nil⟩ (fun _ _ _ _ _=>trivial) ?_ ?_
  ·clear mi0 mi1 T0
   rintro i σ H3 hi ⟨mi,xs,es,v5,v6,v7,rfl,t,mi0,mi1,hel,hE⟩
   have hi':i<(2*(m-1)).toNat:=hi
   have hxl:=t.p.len
   refine ⟨fun σ' H'=>H'=H3∧∃mi:Int,0≤mi∧mi<2^40∧σ'=[some (.ref a),some (.int le0),some (.int m),some (.ref le),some (.int mi),some (.int (0+(i:Nat))),v6,v7,none,none,none],?_,?_⟩
   ·refine ⟨_,rfl,_,_,rfl,rfl,⟨by lia,by decide⟩,_,_,rfl,rfl,(by show (0:Int)<2147483647;decide),rfl,_,bH _ (by decide),?_,rfl⟩
    have:=br (mi*48271) (show (0:Int)<2147483647 by decide);lia
   rintro σ' H4 ⟨rfl,mj,mj0,mj1,rfl⟩
   refine ⟨fun σ' H'=>H'=H4∧∃mi:Int,0≤mi∧mi<2^40∧σ'=[some (.ref a),some (.int le0),some (.int m),some (.ref le),some (.int mi),some (.int (0+(i:Nat))),v6,v7,none,none,none],?_,?_⟩
   ·refine ⟨_,rfl,_,rfl,_,_,rfl,rfl,⟨by lia,by lia⟩,_,rfl,_,_,rfl,rfl,⟨by decide,by lia⟩,_,_,rfl,rfl,_,_,rfl,rfl,(by show (0:Int)<2147483629;decide),rfl,_,bH _ (by decide),?_,rfl⟩
    have:=br (mj*mj+3*(0+(i:Nat))) (show (0:Int)<2147483629 by decide);lia
   rintro σ' H5 ⟨rfl,mk,mk0,mk1,rfl⟩
   refine ⟨fun σ' H'=>H'=H5∧∃fr:Int,1≤fr∧fr<m∧σ'=[some (.ref a),some (.int le0),some (.int m),some (.ref le),some (.int mk),some (.int (0+(i:Nat))),some (.int fr),v7,none,none,none],?_,?_⟩
   ·have b1:=bH (0+(i:Nat):Int) (show m-1≠0 by lia)
    have b2:=br (0+(i:Nat):Int) (show 0<m-1 by lia)
    exact ⟨_,rfl,_,rfl,_,_,rfl,rfl,_,_,rfl,rfl,(by show (0:Int)<m-1;lia),_,_,rfl,rfl,rfl,_,by lia,by lia,rfl⟩
   rintro σ' H6 ⟨rfl,fr,f1,f2,rfl⟩
   refine ⟨fun σ' H'=>bx H6 H'∧∃ea:Int,0≤ea∧ea<fr∧σ'=[some (.ref a),some (.int le0),some (.int m),some (.ref le),some (.int mk),some (.int (0+(i:Nat))),some (.int fr),some (.int ea),none,none,none],?_,?_⟩
   ·have c0:=bH le0 (show (2:Int)≠0 by decide)
    have c1:=br le0 (show (0:Int)<2 by decide)
    refine ⟨_,rfl,_,rfl,_,_,rfl,rfl,a,ns,_,rfl,t.s.seq hS,by lia,?_⟩
    generalize ns.getD ((2:Int)+(0+(i:Nat))).toNat 0=ce
    refine ⟨_,rfl,_,_,rfl,rfl,⟨by decide,by decide⟩,(by show 2≤sizeLine;decide),fun q nq=>?_⟩
    obtain ⟨v,av,hv⟩:=at2 (a:=V.int ce) (b:=V.int (mk/8)) c0 c1
    have hvi:∃u:Int,v=.int u:=hv.elim (fun e=>⟨_,e⟩) fun e=>⟨_,e⟩
    obtain ⟨u,rfl⟩:=hvi
    exact ⟨_,rfl,_,_,rfl,rfl,(by show (0:Int)<2;decide),q,_,_,_,rfl,rfl,SqL.of aq,av,_,rfl,_,_,rfl,rfl,(by show 0<fr;lia),bx.new nq,_,bH _ (by lia),br _ (by lia),rfl⟩
   rintro σ' H7 ⟨s7,ea,ea0,ea1,rfl⟩
   have t7:=t.same s7
   refine ⟨fun σ' H'=>∃(xs:List V) (es:List (Int×Int)),σ'=[some (.ref a),some (.int le0),some (.int m),some (.ref le),some (.int mk),some (.int (0+(i:Nat))),some (.int fr),some (.int ea),none,none,none]∧TlP K H0 le xs es H'∧es.length=i+1∧de es m,?_,?_⟩
   ·refine ⟨_,rfl,_,rfl,_,_,rfl,rfl,_,_,rfl,rfl,_,rfl,ie (fun _=>?_) (fun _=>?_)⟩
    ·refine ⟨_,rfl,.inl ⟨rfl,_,SqL.of t7.l⟩,_,rfl,_,rfl,(by show 2≤sizeLine;decide),fun z nz=>?_⟩
     exact ⟨le,_,_,rfl,rfl,bx.new nz _ _ t7.l,aE (by lia),_,_,rfl,t7.put (e:=(ea,fr)) nle nz,by rw [ay,hel];rfl,hE.snoc ⟨ea0,by lia,by lia,f2⟩⟩
    ·have d1:=bH (le0/40-fr) (show m≠0 by lia)
     have d2:=br (le0/40-fr) (show 0<m by lia)
     have d3:=bH (le0/40-ea) (show m≠0 by lia)
     have d4:=br (le0/40-ea) (show 0<m by lia)
     refine ⟨_,rfl,.inl ⟨rfl,_,SqL.of t7.l⟩,_,rfl,_,_,rfl,rfl,⟨by decide,by decide⟩,_,rfl,_,_,rfl,rfl,_,rfl,_,_,rfl,rfl,(by show 0<m;lia),_,rfl,_,_,rfl,rfl,⟨by decide,by decide⟩,_,rfl,_,_,rfl,rfl,_,rfl,_,_,rfl,rfl,(by show 0<m;lia),(by show 2≤sizeLine;decide),fun z nz=>?_⟩
     exact ⟨le,_,_,rfl,rfl,bx.new nz _ _ t7.l,aE (by lia),_,_,rfl,t7.put (e:=((le0/40-fr)%m,(le0/40-ea)%m)) nle nz,by rw [ay,hel];rfl,hE.snoc ⟨d1,d2,d3,d4⟩⟩
   ·rintro σ' H8 ⟨xs,es,rfl,t8,hel8,hE8⟩
    exact ⟨mk,xs,es,_,_,_,rfl,t8,mk0,mk1,hel8,hE8⟩
  clear T0 mi0 mi1
  rintro σ H3 ⟨mi,xs,es,v5,v6,v7,rfl,t,mi0,mi1,hel,hE⟩
  have h3a:=bH (le0/40) (show (3:Int)≠0 by decide)
  have h3b:=br (le0/40) (show (0:Int)<3 by decide)
  have hel0:es.length=(2*(m-1)).toNat:=hel
  refine ⟨_,rfl,_,_,rfl,rfl,⟨by decide,by decide⟩,_,_,rfl,rfl,(by show (0:Int)<3;decide),le0/40%3,rfl,by lia,by lia,?_⟩
  refine gQ eQ (fun i σ H4=>∃(xs:List V) (es:List (Int×Int)) (v5:Option V),σ=[some (.ref a),some (.int le0),some (.int m),some (.ref le),some (.int mi),v5,v6,v7,none,none,none]∧TlP K H0 le xs es H4∧es.length=(2*(m-1)).toNat+i∧de es m) ⟨xs,es,v5,rfl,t,hel0,hE⟩ (fun _ _ _ _ _=>trivial) ?_ ?_
  ·clear hel hel0 hE t
   rintro i σ H4 hi ⟨xs,es,v5,rfl,t,hel,hE⟩
   have hi':i<(le0/40%3).toNat:=hi
   have hxl:=t.p.len
   have d1:=bH (mi/(3+(0+(i:Nat)))) (show m≠0 by lia)
   have d2:=br (mi/(3+(0+(i:Nat)))) (show 0<m by lia)
   have d3:=bH (mi/(5+(0+(i:Nat)))) (show m≠0 by lia)
   have d4:=br (mi/(5+(0+(i:Nat)))) (show 0<m by lia)
   refine ⟨_,rfl,.inl ⟨rfl,_,SqL.of t.l⟩,_,rfl,_,rfl,_,_,rfl,rfl,_,_,rfl,rfl,⟨by lia,by lia⟩,_,rfl,_,_,rfl,rfl,(by show 0<m;lia),_,rfl,_,rfl,_,_,rfl,rfl,_,_,rfl,rfl,⟨by lia,by lia⟩,_,rfl,_,_,rfl,rfl,(by show 0<m;lia),(by show 2≤sizeLine;decide),fun z nz=>?_⟩
   exact ⟨le,_,_,rfl,rfl,bx.new nz _ _ t.l,aE (by lia),_,_,_,rfl,t.put (e:=(mi/(3+(0+(i:Nat)))%m,mi/(5+(0+(i:Nat)))%m)) nle nz,by rw [ay,hel];rfl,hE.snoc ⟨d1,d2,d3,d4⟩⟩
  clear hel hel0 hE t
  rintro σ H4 ⟨xs,es,v5,rfl,t,hel,hE⟩
  have hel1:es.length≤40∧(2*(m-1)).toNat≤es.length:=by
   have:(le0/40%3).toNat≤2:=by lia
   lia
  clear hel h3a h3b
  have hxl:=t.p.len
  refine ⟨by decide,fun lo nlo=>?_⟩
  have t5:=t.same (bx.new (o:=.lst []) nlo)
  have o5:(upd H4 lo (.lst [])) lo=some (.lst (([]:List Int).map V.int)):=aq
  have nlo0:H0 lo=none:=bN t.s nlo
  have loe:lo≠le:=(bw t.l nlo).symm
  generalize upd H4 lo (.lst [])=H5 at t5 o5
  refine ⟨_,rfl,le,xs,rfl,.inl (SqL.of t5.l),(xs.length:Int),rfl,by lia,by lia,?_⟩
  rw [aY,hxl]
  refine gQ eQ (fun i σ H6=>∃(os:List Int) (mi:Int) (v5:Option V),σ=[some (.ref a),some (.int le0),some (.int m),some (.ref le),some (.int mi),v5,v6,v7,some (.ref lo),none,none]∧TlP K H0 le xs es H6∧H6 lo=some (.lst (os.map V.int))∧os.Perm (ir i)∧0≤mi∧mi<2^40) ⟨[],mi,v5,rfl,t5,o5,.refl _,mi0,mi1⟩ (fun _ _ _ _ _=>trivial) ?_ ?_
  ·clear t5 o5 mi0 mi1 t
   rintro i σ H6 hi ⟨os,mi,v5,rfl,t6,o6,hpm,mi0,mi1⟩
   have hi':i<es.length:=hi
   have hol:os.length=i:=by rw [hpm.length_eq,gM]
   have hom:(os.map V.int).length=os.length:=aa ..
   refine ⟨fun σ' H'=>H'=H6∧∃mi:Int,0≤mi∧mi<2^40∧σ'=[some (.ref a),some (.int le0),some (.int m),some (.ref le),some (.int mi),some (.int (0+(i:Nat))),v6,v7,some (.ref lo),none,none],?_,?_⟩
   ·refine ⟨_,rfl,_,_,rfl,rfl,⟨by lia,by decide⟩,_,_,rfl,rfl,(by show (0:Int)<2147483647;decide),rfl,_,bH _ (by decide),?_,rfl⟩
    have:=br (mi*48271) (show (0:Int)<2147483647 by decide);lia
   rintro σ' H7 ⟨rfl,mj,mj0,mj1,rfl⟩
   refine ⟨fun σ' H'=>H'=H7∧∃mi:Int,0≤mi∧mi<2^40∧σ'=[some (.ref a),some (.int le0),some (.int m),some (.ref le),some (.int mi),some (.int (0+(i:Nat))),v6,v7,some (.ref lo),none,none],?_,?_⟩
   ·refine ⟨_,rfl,_,rfl,_,_,rfl,rfl,⟨by lia,by lia⟩,_,rfl,_,_,rfl,rfl,⟨by decide,by lia⟩,_,_,rfl,rfl,_,_,rfl,rfl,(by show (0:Int)<2147483629;decide),rfl,_,bH _ (by decide),?_,rfl⟩
    have:=br (mj*mj+11*(0+(i:Nat))) (show (0:Int)<2147483629 by decide);lia
   rintro σ' H8 ⟨rfl,mk,mk0,mk1,rfl⟩
   have d0:=bH (mk/8) (show (0+(i:Nat)+1:Int)≠0 by lia)
   have d1:=br (mk/8) (show (0:Int)<0+(i:Nat)+1 by lia)
   refine ⟨_,rfl,.inl ⟨rfl,_,SqL.of o6⟩,_,rfl,_,_,rfl,rfl,⟨by decide,by decide⟩,_,rfl,_,_,rfl,rfl,_,_,rfl,rfl,(by show (0:Int)<0+(i:Nat)+1;lia),_,rfl,?_⟩
   refine ⟨lo,_,_,_,rfl,rfl,o6,d0,by lia,by lia,?_⟩
   refine ⟨os.take (mk/8%(0+(i:Nat)+1)).toNat++(0+((i:Nat):Int))::os.drop (mk/8%(0+(i:Nat)+1)).toNat,mk,_,rfl,⟨t6.s.upd nlo0,by rw [bS loe.symm];exact t6.l,t6.p.sS eP o6⟩,?_,?_,mk0,mk1⟩
   ·rw [aq,aw,bf,fb,fZ]
   ·rw [pT,fX]
    refine List.perm_middle.trans ?_
    rw [List.take_append_drop]
    exact (List.Perm.cons _ hpm).trans (List.perm_append_singleton ..).symm
  clear t5 o5 mi0 mi1 t
  rintro σ H6 ⟨os,mi,v5,rfl,t6,o6,hpm,mi0,mi1⟩
  have hol:os.length=es.length:=by rw [hpm.length_eq,gM]
  have hor:∀t∈os,0≤t∧t<(es.length:Int):=fun t ht=>fP.mp (hpm.mem_iff.mp ht)
  have hom:(os.map V.int).length=os.length:=aa ..
  refine ⟨_,rfl,_,_,rfl,rfl,m-1,rfl,by lia,by lia,fS eQ (fun j ys H7=>H7=H6∧∃zs:List Int,ys=zs.map V.int∧zs.length=j∧zs.Nodup∧∀z∈zs,(0≤z∧z<(es.length:Int))∧os.getD z.toNat 0<0+(j:Nat)) (aL (aE (by lia))) ⟨rfl,[],rfl,rfl,.nil,fun z hz=>(nomatch hz)⟩ ?_ ?_ ?_⟩
  ·rintro j ys H7 hj ⟨rfl,zs,rfl,hzl,hzn,hzr⟩
   exact ⟨trivial,by rw [aa];lia⟩
  ·rintro j ys H7 hj ⟨rfl,zs,rfl,hzl,hzn,hzr⟩
   have hj':j<(m-1).toNat:=hj
   obtain ⟨g,g1,g2,g3⟩:=ou (t:=0+(j:Nat)) (hpm.mem_iff.mpr (fP.mpr ⟨by lia,by lia⟩))
   refine ⟨dR rfl,fh ⟨_,rfl,.inl ⟨rfl,_,SqL.of o6⟩,_,rfl,lo,os,_,g,rfl,rfl,SqL.of o6,g1,by lia,g2,g3,aE (by rw [aa];lia),_,by lia,rfl,by lia,rfl,zs++[(g:Int)],by rw [aw];rfl,by rw [ay,hzl];rfl,fV hzn fun z=>(by have:=(hzr _ z).2;rw [aY,g2] at this;lia),fun z hz=>?_⟩⟩
   rcases aM.mp hz with y | y
   ·have:=hzr z y;exact ⟨this.1,by lia⟩
   ·rw [ak.mp y,aY,g2];exact ⟨⟨by lia,by lia⟩,by lia⟩
  rintro ys H7 ⟨rfl,zs,rfl,hzl,hzn,hzr⟩ l1 nl1
  refine ⟨l1,zs,rfl,SqL.of aq,by lia,fun p os2 np hp1 hs1=>?_⟩
  have hpl:(os2.length:Int)=m-1:=by rw [hp1.length_eq];lia
  have s8:=(bx.new (o:=.lst (zs.map V.int)) nl1).next (o:=.lst (os2.map V.int)) np
  have e8:(upd (upd H7 l1 (.lst (zs.map V.int))) p (.lst (os2.map V.int))) p=some (.lst (os2.map V.int)):=aq
  generalize upd (upd H7 l1 (.lst (zs.map V.int))) p (.lst (os2.map V.int))=H8 at s8 e8
  have t8:=t6.same s8
  have o8:=s8 _ _ o6
  have ok1:gp es.length os2:=⟨fun z hz=>(hzr z (hp1.mem_iff.mp hz)).1,sJ hs1 (hp1.nodup_iff.mpr hzn)⟩
  clear hp1 hs1 hzl hzr hzn
  refine ⟨_,rfl,_,_,rfl,rfl,_,rfl,_,_,rfl,rfl,_,_,rfl,rfl,⟨by decide,by lia⟩,m-1,2*(m-1),rfl,⟨by lia,by lia,by lia,by lia⟩,fS eQ (fun j ys H9=>H9=H8∧∃zs:List Int,ys=zs.map V.int∧zs.length=j∧zs.Nodup∧∀z∈zs,(0≤z∧z<(es.length:Int))∧os.getD z.toNat 0<m-1+(j:Nat)) (aL (aE (by lia))) ⟨rfl,[],rfl,rfl,.nil,fun z hz=>(nomatch hz)⟩ ?_ ?_ ?_⟩
  ·rintro j ys H9 hj ⟨rfl,zs,rfl,hzl,hzn,hzr⟩
   exact ⟨trivial,by rw [aa];lia⟩
  ·rintro j ys H9 hj ⟨rfl,zs,rfl,hzl,hzn,hzr⟩
   have hj':j<(2*(m-1)-(m-1)).toNat:=hj
   obtain ⟨g,g1,g2,g3⟩:=ou (t:=m-1+(j:Nat)) (hpm.mem_iff.mpr (fP.mpr ⟨by lia,by lia⟩))
   refine ⟨dR rfl,fh ⟨_,rfl,.inl ⟨rfl,_,SqL.of o8⟩,_,rfl,lo,os,_,g,rfl,rfl,SqL.of o8,g1,by lia,g2,g3,aE (by rw [aa];lia),_,by lia,rfl,by lia,rfl,zs++[(g:Int)],by rw [aw];rfl,by rw [ay,hzl];rfl,fV hzn fun z=>(by have:=(hzr _ z).2;rw [aY,g2] at this;lia),fun z hz=>?_⟩⟩
   rcases aM.mp hz with y | y
   ·have:=hzr z y;exact ⟨this.1,by lia⟩
   ·rw [ak.mp y,aY,g2];exact ⟨⟨by lia,by lia⟩,by lia⟩
  rintro ys H9 ⟨rfl,zs,rfl,hzl,hzn,hzr⟩ l2 nl2
  refine ⟨l2,zs,rfl,SqL.of aq,by lia,fun q ts2 nq hp2 hs2=>?_⟩
  have hql:(ts2.length:Int)=m-1:=by rw [hp2.length_eq];lia
  have sA:=(bx.new (o:=.lst (zs.map V.int)) nl2).next (o:=.lst (ts2.map V.int)) nq
  have eA:(upd (upd H9 l2 (.lst (zs.map V.int))) q (.lst (ts2.map V.int))) q=some (.lst (ts2.map V.int)):=aq
  generalize upd (upd H9 l2 (.lst (zs.map V.int))) q (.lst (ts2.map V.int))=HA at sA eA
  have tA:=t8.same sA
  have oA:=sA _ _ o8
  have pA:=sA _ _ e8
  have ok2:gp es.length ts2:=⟨fun z hz=>(hzr z (hp2.mem_iff.mp hz)).1,sJ hs2 (hp2.nodup_iff.mpr hzn)⟩
  clear hp2 hs2 hzl hzr hzn
  refine ⟨_,rfl,_,rfl,false,lo,_,rfl,SqL.of oA,fun J C O hC=>fS O (fun j ys HB=>HB=HA∧Pairs K HB ys (sub es (os.take j))) (by rw [hom];exact aL (aE (by lia))) ⟨rfl,.nil⟩ ?_ ?_ ?_⟩
  ·rintro j ys HB hj ⟨rfl,pB⟩
   exact ⟨hC _ (SqL.of oA),by rw [pB.len,sub_len,aC];lia⟩
  ·rintro j ys HB hj ⟨rfl,pB⟩
   obtain ⟨v,ev,gv⟩:=getD_map_int hj
   rw [hom] at hj
   have hv:=hor v (bj gv)
   have hpl2:=pB.len
   rw [sub_len,aC] at hpl2
   obtain ⟨r,ar,hr2,_⟩:=gy tA.p hv.1 hv.2
   try dsimp only
   rw [ev]
   refine ⟨dR rfl,fh ⟨_,rfl,_,rfl,le,xs,v,.ref r,rfl,rfl,SqL.of tA.l,ar,aE (by lia),_,by lia,rfl,by lia,rfl,?_⟩⟩
   rw [take_snoc gv]
   unfold sub
   rw [aw]
   exact pB.snoc hr2
  rintro ys HB ⟨rfl,pB⟩ lx nlx
  rw [hom,bD] at pB
  refine ⟨_,rfl,_,rfl,(by show 4≤sizeLine;decide),fun tu ntu=>?_⟩
  have sC:=(bx.new (o:=.lst ys) nlx).next (o:=.tup [.int m,.ref lx,.ref p,.ref q]) ntu
  exact k tu lx p q m ys (sub es os) os2 ts2 _ (tA.s.trans sC) aq (bx.new ntu _ _ aq) (pB.same sC) m1 m2 (by rw [sub_len];lia) (hV hE hor) (sC _ _ pA) (sC _ _ eA) hpl hql (by rw [sub_len,hol];exact ok1) (by rw [sub_len,hol];exact ok2)
def yl (K:ai) (c:Cs):Sp:=fun vs H Q _=>∃(x p q:Addr) (m:Int) (es:List (Int×Int)) (os ts:List Int),vs=[.ref x,.ref p,.ref q]∧eW K c.Web H x m es∧SqL K H p (os.map V.int)∧SqL K H q (ts.map V.int)∧os.length≤900∧ts.length≤900∧1≤m∧m≤20∧es.length≤40∧de es m∧¬FfG es os ts∧∀H',bx H H'→Q (.bl true) H'
theorem yx:bY ["web","one","two","found","e"] ["web","one","two"] (az sRf):=⟨rfl,rfl,rfl,by decide +kernel,rfl,by decide +kernel,by decide +kernel⟩
theorem Ag {f:Addr} {fd:FuncData} (F:Fun K "_law_refused" "_law_refused" sRf f fd) (T:Txt K mg c) (D_Ff:hX P w K mg base 9 "from_forests" ["web","one","two"] (yq K c)) (D_X:yh P w K mg base 1 "_law_alone" ["e"] (spX K c)):fH P w K mg base CX0 10 f fd ["web","one","two"] (yl K c):=by
 refine F.ok yx (fun vs H Q E h=>?_) (fun cdv A outer s H vs Q E hr h=>?_)
 ·obtain ⟨x,p,q,m,es,os,ts,rfl,_⟩:=h
  rfl
 ·obtain ⟨x,p,q,m,es,os,ts,rfl,hw,hp,hq,hol,htl,m1,m2,hz,hE,h1,k⟩:=h
  have hu:A.units+3+64<cLine:=hr.units
  refine ⟨_,aB (bF (i:=3) yx.nd rfl (Or.inl rfl) (xv))
   (aB (dO (vk (i:=4) ⟨rfl,rfl,rfl⟩ yx.nd rfl rfl (by rfl) T.mFlowError T.xFlowError (fun pn Ex=>aR (dE (fi D_Ff hr rfl rfl (ah (pv 0) (ah (pv 1) (ah (pv 2) ax)))))) (fun x=>aR (bF (i:=3) yx.nd rfl (Or.inl rfl) (dh (ah (bg (oM (K:=K) rfl) (by rfl) T.isinstance aZ (ah (pv 4) (ah (fQ (v:=.ref c.BadSet) (by rfl) T.mBadSet rfl) ax))) (ah (vt D_X hr.held (ah (pv 4) ax)) ax)))))))
   (aR (cI (gC (tq (K:=K) rfl hu) (pv 3) (dh (ah (lC) (ah (lC) ax))) (cH _))))),?_⟩
  clear hu
  refine ⟨fun σ' H'=>∃l,σ'=[some (.ref x),some (.ref p),some (.ref q),some (.ref l),none]∧bx H H'∧H' l=some (.lst [V.bl true,V.bl true]),?_,?_⟩
  ·refine ⟨fun σ' C H'=>σ'=[some (.ref x),some (.ref p),some (.ref q),some .non,none]∧bx H H'∧C=.ref c.BadSet,?_,?_⟩
   ·exact ⟨_,rfl,_,rfl,_,rfl,x,p,q,m,es,os,ts,rfl,hw,hp,hq,hol,htl,m1,m2,hz,hE,fun _ H' s'=>⟨rfl,s',rfl⟩,fun z=>absurd z h1⟩
   ·rintro σ' C H' ⟨rfl,s1,rfl⟩
    refine ⟨_,rfl,T.xBadSet,T.rBadSet,fun y ny=>?_⟩
    have s2:=s1.next (o:=.ext (uj y (.ref c.BadSet))) ny
    have y2:(upd H' y (.ext (uj y (.ref c.BadSet)))) y=some (.ext (uj y (.ref c.BadSet))):=aq
    generalize upd H' y (.ext (uj y (.ref c.BadSet)))=H2 at s2 y2
    exact ⟨_,rfl,y,_,_,_,true,rfl,rfl,fun _ z=>z,y2,T.alBadSet.ex,lG _ _,_,rfl,y,_,rfl,y2,T.alBadSet,fun H3 s3=>⟨(by show 2≤sizeLine;decide),fun l nl=>⟨l,rfl,(s2.trans s3).next nl,aq⟩⟩⟩
  ·rintro σ' H2 ⟨l,rfl,s2,e2⟩
   refine ⟨_,rfl,(by show 2≤sizeLine;decide),fun l2 nl2=>?_⟩
   exact ⟨.list [.bool true,.bool true],.list [.bool true,.bool true],.lst (SqL.of (bx.new nl2 _ _ e2)) (.cons (.bl _) (.cons (.bl _) .nil)),.lst (SqL.of aq) (.cons (.bl _) (.cons (.bl _) .nil)),rfl,rfl,k _ (s2.next nl2)⟩
def yZ (K:ai):Sp:=fun vs H Q _=>∃(l q:Addr) (m:Int) (xs:List V) (es:List (Int×Int)) (zs:List Int),vs=[.int m,.ref l,.ref q]∧SqL K H l xs∧Pairs K H xs es∧SqL K H q (zs.map V.int)∧zs.length<64∧1≤m∧m≤20∧es.length≤40∧de es m ∧
 ∀b H',bx H H'→(b=true↔Spn es zs)→Q (.bl b) H'
theorem Bo:bY ["many","ends","some","full"] ["many","ends","some"] (az sSn):=⟨rfl,rfl,rfl,by decide +kernel,rfl,by decide +kernel,by decide +kernel⟩
theorem zZ {f:Addr} {fd:FuncData} (F:Fun K "_law_spans" "_law_spans" sSn f fd) (T:Txt K mg c) (D_Fo:Def P w K mg base 1 "_law_forest" ["many","ends","order"] (zw K)):fH P w K mg base CX0 2 f fd ["many","ends","some"] (yZ K):=by
 refine F.ok Bo (fun vs H Q E h=>?_) (fun cdv A outer s H vs Q E hr h=>?_)
 ·obtain ⟨l,q,m,xs,es,zs,rfl,_⟩:=h
  rfl
 ·obtain ⟨l,q,m,xs,es,zs,rfl,hl,hp,hq,hzl,m1,m2,he,hE,k⟩:=h
  have hu:A.units+3+64<cLine:=hr.units
  refine ⟨_,aB (eV (PW.pt (kn (cm (qy (K:=K) rfl hu) (pv 2) (bg (jm (K:=K) rfl) (by rfl) T.sorted dm (ah (pv 2) ax)) (cH _)) (jt (cm iQ (bg (ig (K:=K) rfl) (by rfl) T.len aX (ah (fJ (N':=["tie","ends"]) (nl:=1) (js:=[1]) rfl (.of (osc:=az sSn) (N:=["many","ends","some","full"]) (by decide +kernel) rfl rfl) (f_ (K:=K) rfl (pv 2))
    (fun _ _ _ _=>bK (i:=0) (show (["tie","ends"]:List Str).Nodup by decide +kernel) rfl (Or.inl rfl)) (fun _ _ _ _=>ix (PW.pt (kn (cm iP (pv 0) (aS) (cH _)) (jt (cm xB (pv 0) (bg (ig (K:=K) rfl) (by rfl) T.len aX (ah (pv 1) ax)) (cH _))))))
    (fun _ _ _ _=>pv 0)) ax)) (aS) (cH _)))))
    (aR (cI (lC))) (cX))
   (aB (bF (i:=3) Bo.nd rfl (Or.inl rfl) (bX D_Fo hr (ah (pv 0) (ah (pv 1) (ah (gO rfl rfl T.list rfl T.range (ah (bg (ig (K:=K) rfl) (by rfl) T.len aX (ah (pv 1) ax)) ax)) ax)))))
   (aR (cI (kA (gC iR (bg (ig (K:=K) rfl) (by rfl) T.len aX (ah (pv 2) ax)) (bg (ig (K:=K) rfl) (by rfl) T.len aX (ah (pv 3) ax)) (cH _)) (ky (gC (tq (K:=K) rfl hu) (bX D_Fo hr (ah (pv 0) (ah (pv 1) (ah (pv 2) ax)))) (pv 2) (cH _))))))),?_⟩
  clear hu
  have hxl:=hp.len
  have hzm:(zs.map V.int).length=zs.length:=aa ..
  refine ⟨_,rfl,_,rfl,q,zs,rfl,hq,hzl,fun l1 us nl1 hup hus=>?_⟩
  have s1:=bx.new (o:=.lst (us.map V.int)) nl1
  have e1:(upd H l1 (.lst (us.map V.int))) l1=some (.lst (us.map V.int)):=aq
  generalize upd H l1 (.lst (us.map V.int))=H1 at s1 e1
  have e0:zs=us↔zs.Pairwise (·≤·):=⟨fun z=>z▸hus,fun z=>(iN hup hus z).symm⟩
  refine ⟨dI zs,dI us,eh (s1.seq hq),eh (SqL.of e1),fg _,fg _,_,rfl,?_⟩
  rw [kg]
  by_cases c0:zs=us
  ·rw [decide_eq_true c0]
   refine gc ?_
   have flen:∀j,((zs.take j).filter fun t=>decide (t<0)||decide ((es.length:Int)≤t)).length≤j:=fun j=>cu (bP _ _) (by rw [aC];lia)
   refine ⟨_,rfl,q,_,rfl,.inl (s1.seq hq),fun J C O hC=>fS O (fun j ys H3=>H3=H1∧ys=((zs.take j).filter fun t=>decide (t<0)||decide ((es.length:Int)≤t)).map V.int) (by rw [hzm];exact aL (aE (by lia))) ⟨rfl,rfl⟩ ?_ ?_ ?_⟩
   ·rintro j ys H3 hj ⟨rfl,rfl⟩
    exact ⟨hC _ (bx.refl _),by rw [aa];exact flen j⟩
   ·rintro j ys H3 hj ⟨rfl,rfl⟩
    obtain ⟨v,ev,gv⟩:=getD_map_int hj
    rw [hzm] at hj
    have fl:=flen j
    have yes:(decide (v<0)||decide ((es.length:Int)≤v))=true→((zs.take j).filter fun t=>decide (t<0)||decide ((es.length:Int)≤t)).map V.int++[V.int v]=((zs.take (j+1)).filter fun t=>decide (t<0)||decide ((es.length:Int)≤t)).map V.int:=fun z=>by
     rw [take_snoc gv,bV,aw,bT (p:=fun t:Int=>decide (t<0)||decide ((es.length:Int)≤t)) z];rfl
    try dsimp only
    rw [ev]
    refine ⟨dR rfl,_,rfl,_,_,rfl,rfl,_,rfl,?_⟩
    by_cases c1:v<0
    ·rw [decide_eq_true c1]
     refine fh (fh ⟨_,rfl,aE (by rw [aa];lia),_,by lia,rfl,by lia,rfl,yes (by rw [decide_eq_true c1];rfl)⟩)
    ·rw [decide_eq_false c1]
     refine gc ⟨_,rfl,_,rfl,l,xs,rfl,.inl (s1.seq hl),_,_,rfl,rfl,_,rfl,?_⟩
     rw [hxl]
     by_cases c2:(es.length:Int)≤v
     ·rw [decide_eq_true c2]
      exact fh ⟨_,rfl,aE (by rw [aa];lia),_,by lia,rfl,by lia,rfl,yes (by rw [decide_eq_true c2,Bool.or_true])⟩
     ·rw [decide_eq_false c2]
      refine gc ⟨_,by lia,rfl,by lia,rfl,?_⟩
      rw [take_snoc gv,bV,aw,bU (p:=fun t:Int=>decide (t<0)||decide ((es.length:Int)≤t)) (by rw [decide_eq_false c1,decide_eq_false c2];decide)];exact (bB _).symm
   rintro ys H3 ⟨rfl,rfl⟩ lw nlw
   rw [hzm,bD]
   obtain ⟨ws,ews⟩:∃ws,ws=zs.filter fun t=>decide (t<0)||decide ((es.length:Int)≤t):=⟨_,rfl⟩
   have hws:ws=[]↔∀t∈zs,0≤t∧t<(es.length:Int):=by
    rw [ews,List.filter_eq_nil_iff]
    constructor
    ·intro z t ht
     have:=z t ht
     rw [Bool.or_eq_true,decide_eq_true_iff,decide_eq_true_iff] at this
     lia
    ·intro z t ht
     have:=z t ht
     rw [Bool.or_eq_true,decide_eq_true_iff,decide_eq_true_iff]
     lia
   rw [←ews]
   clear ews flen
   have s2:=s1.next (o:=.lst (ws.map V.int)) nlw
   have e2:(upd H3 lw (.lst (ws.map V.int))) lw=some (.lst (ws.map V.int)):=aq
   generalize upd H3 lw (.lst (ws.map V.int))=H2 at s2 e2
   refine ⟨lw,_,rfl,.inl (SqL.of e2),_,_,rfl,rfl,_,rfl,?_⟩
   rw [aa]
   by_cases c1:ws=[]
   ·rw [decide_eq_false (show ¬((0:Int)<(ws.length:Int)) by rw [c1];decide)]
    refine gc ?_
    have hin:=hws.mp c1
    refine ⟨_,rfl,_,rfl,_,rfl,l,xs,rfl,.inl (s2.seq hl),(xs.length:Int),rfl,by lia,by lia,fun lo nlo=>?_⟩
    rw [show ((xs.length:Int)).toNat=es.length from hxl,yH]
    have s3:=s2.next (o:=.lst ((ir es.length).map V.int)) nlo
    have e3:(upd H2 lo (.lst ((ir es.length).map V.int))) lo=some (.lst ((ir es.length).map V.int)):=aq
    generalize upd H2 lo (.lst ((ir es.length).map V.int))=H4 at s3 e3
    have ulen:=gM es.length
    refine ⟨l,lo,m,xs,es,ir es.length,rfl,s3.seq hl,hp.same s3,SqL.of e3,by lia,fun t ht=>fP.mp ht,m1,m2,he,hE,fun lf cs H5 nlf s5 e5 hpm hps=>?_⟩
    have und:(ir es.length).Nodup:=kN (by unfold ir;rw [dq];exact List.pairwise_lt_range.imp fun h=>by lia)
    have Sf:=Spn.xQ hE und (fun t ht=>fP.mp ht) (fun t h0 h1=>fP.mpr ⟨h0,h1⟩) hpm hps
    have s05:=s3.trans s5
    refine ⟨_,rfl,q,_,rfl,.inl (s05.seq hq),_,rfl,lf,_,rfl,.inl (SqL.of e5),rfl,_,rfl,?_⟩
    rw [hzm,aa]
    by_cases c2:zs.length=cs.length
    ·rw [decide_eq_true (show V.int (zs.length:Int)=V.int (cs.length:Int) by rw [c2])]
     refine fh ⟨_,rfl,_,rfl,_,rfl,l,q,m,xs,es,zs,rfl,s05.seq hl,hp.same s05,s05.seq hq,hzl,hin,m1,m2,he,hE,fun l6 cs6 H6 n6 s6 e6 hpm6 hps6=>?_⟩
     have s06:=s05.trans s6
     refine ⟨_,rfl,dI cs6,dI zs,eh (SqL.of e6),eh (s06.seq hq),fg _,fg _,?_⟩
     rw [kg]
     refine k _ _ s06 ?_
     show decide _=true↔_
     rw [decide_eq_true_iff]
     exact Spn.test (n:=cs.length) Sf.all hin (e0.mp c0) c2 hpm6 hps6
    ·rw [decide_eq_false (show ¬V.int (zs.length:Int)=V.int (cs.length:Int) by intro z;injection z with z;lia)]
     exact gc (k _ _ s05 ⟨fun z=>(by cases z),fun z=>absurd (by rw [z.all,Sf.all]) c2⟩)
   ·rw [decide_eq_true (show (0:Int)<(ws.length:Int) by have:=List.length_pos_iff.mpr c1;lia)]
    exact fh (k _ _ s2 ⟨fun z=>(by cases z),fun z=>absurd (hws.mpr z.ok.rng) c1⟩)
  ·rw [decide_eq_false c0]
   exact fh (k _ _ s1 ⟨fun z=>(by cases z),fun z=>absurd (e0.mpr (z.ok.up.imp fun h=>Int.le_of_lt h)) c0⟩)
def spR (K:ai) (c:Cs):Sp:=fun vs H Q _=>∃(l x p q:Addr) (m:Int) (xs:List V) (es:List (Int×Int)) (os ts:List Int),vs=[.int m,.ref l,.ref x,.ref p,.ref q]∧SqL K H l xs∧Pairs K H xs es∧eW K c.Web H x m es∧SqL K H p (os.map V.int)∧SqL K H q (ts.map V.int)∧os.length<64∧ts.length<64∧1≤m∧m≤20∧es.length≤40∧de es m∧∀H',bx H H'→Q (.bl true) H'
theorem scR:bY ["many","ends","web","one","two","handed","good","found","kept"] ["many","ends","web","one","two"] (az sR):=⟨rfl,rfl,rfl,by decide +kernel,rfl,by decide +kernel,by decide +kernel⟩
theorem CI {f:Addr} {fd:FuncData} (F:Fun K "_law_right" "_law_right" sR f fd) (T:Txt K mg c) (D_Sn:Def P w K mg base 2 "_law_spans" ["many","ends","some"] (yZ K)) (D_Rf:Def P w K mg base 10 "_law_refused" ["web","one","two"] (yl K c)) (D_Ff:hX P w K mg base 9 "from_forests" ["web","one","two"] (yq K c)) (D_Lm:Def P w K mg base 2 "_law_amounts" ["found","many"] (zp K)) (D_Lg:Def P w K mg base 1 "_law_gains" ["many","ends","amounts"] (zq K)):fH P w K mg base CX0 11 f fd ["many","ends","web","one","two"] (spR K c):=by
 refine F.ok scR (fun vs H Q E h=>?_) (fun cdv A outer s H vs Q E hr h=>?_)
 ·obtain ⟨l,x,p,q,m,xs,es,os,ts,rfl,_⟩:=h
  rfl
 ·obtain ⟨l,x,p,q,m,xs,es,os,ts,rfl,hl,hp,hw,hpo,hqt,hol,htl,m1,m2,he,hE,k⟩:=h
  have hu:A.units+3+64<cLine:=hr.units
  refine ⟨_,aB (bF (i:=5) scR.nd rfl (Or.inl rfl) (dh (ah (fK (mO (K:=K) rfl) (by rfl) T.list cJ (ah (pv 3) ax)) (ah (fK (mO (K:=K) rfl) (by rfl) T.list cJ (ah (pv 4) ax)) ax))))
   (aB (dO (bF (i:=6) scR.nd rfl (Or.inl rfl) (kA (bX D_Sn hr (ah (pv 0) (ah (pv 1) (ah (pv 3) ax)))) (ky (bX D_Sn hr (ah (pv 0) (ah (pv 1) (ah (pv 4) ax))))))))
   (aB (eV (PW.pt (kn (ip (sZ (pv 6) (by intro _;rfl))) (jt (cm iQ (bg (ig (K:=K) rfl) (by rfl) T.len aX (ah (fJ (N':=["tie","two"]) (nl:=1) (js:=[4]) rfl (.of (osc:=az sR) (N:=["many","ends","web","one","two","handed","good","found","kept"]) (by decide +kernel) rfl rfl) (f_ (K:=K) rfl (pv 3))
    (fun _ _ _ _=>bK (i:=0) (show (["tie","two"]:List Str).Nodup by decide +kernel) rfl (Or.inl rfl)) (fun _ _ _ _=>ix (cm (wt (K:=K) rfl) (pv 0) (pv 1) (by with_unfolding_all rfl)))
    (fun _ _ _ _=>pv 0)) ax)) (aS) (cH _)))))
    (aR (cI (bX D_Rf hr (ah (pv 2) (ah (cD (ixL (K:=K) rfl) (pv 5) (aS) (fun _ _=>rfl)) (ah (cD (ixL (K:=K) rfl) (pv 5) (aS) (fun _ _=>rfl)) ax)))))) (cX))
   (aB (bF (i:=7) scR.nd rfl (Or.inl rfl) (bX D_Ff.calm hr (ah (pv 2) (ah (cD (ixL (K:=K) rfl) (pv 5) (aS) (fun _ _=>rfl)) (ah (cD (ixL (K:=K) rfl) (pv 5) (aS) (fun _ _=>rfl)) ax)))))
   (aB (eV (PW.pt (kn (ip (h_ (bX D_Lm hr (ah (pv 7) (ah (bg (ig (K:=K) rfl) (by rfl) T.len aX (ah (pv 1) ax)) ax))))) (kn (cm (qy (K:=K) rfl hu) (bX D_Lg hr (ah (pv 0) (ah (pv 1) (ah (pv 7) ax)))) (bQ jv (dh (ah (aS) ax)) (pv 0)) (cH _)) (jt (cm (qy (K:=K) rfl hu) (pv 5) (dh (ah (pv 3) (ah (pv 4) ax))) (cH _))))))
    (aR (cI (lC))) (cX))
   (aB (eV (ip (h_ (bg (yG (K:=K) rfl rfl) (by rfl) T.all PyProof.Rows.boot_all (ah (fJ (N':=["much"]) (nl:=1) (js:=[]) rfl (.of (osc:=az sR) (N:=["many","ends","web","one","two","handed","good","found","kept"]) (by decide +kernel) rfl rfl) (f_ (K:=K) rfl (pv 7))
    (fun _ _ _ _=>bK (i:=0) (show (["much"]:List Str).Nodup by decide +kernel) rfl (Or.inl rfl)) (fun _ _ _ _=>dD)
    (fun _ _ _ _=>ly iP iP (aS) (bg oK (by rfl) T.abs PyProof.Rows.boot_abs (ah (pv 0) ax)) (aS))) ax))))
    (aR (cI (lC))) (cX))
   (aB (bF (i:=8) scR.nd rfl (Or.inl rfl) (fK (mO (K:=K) rfl) (by rfl) T.list cJ (ah (pv 7) ax)))
   (aB (dE (xx PySem.F.plainAttrs_list PySem.F.slot_list_clear PySem.F.type_list_clear tL (pv 7)))
   (aR (cI (gC (tq (K:=K) rfl hu) (bX D_Ff.calm hr (ah (pv 2) (ah (cD (ixL (K:=K) rfl) (pv 5) (aS) (fun _ _=>rfl)) (ah (cD (ixL (K:=K) rfl) (pv 5) (aS) (fun _ _=>rfl)) ax)))) (pv 8) (cH _))))))))))),?_⟩
  clear hu
  have hxl:=hp.len
  refine ⟨_,rfl,p,_,rfl,.inl hpo,fun h1 n1=>?_⟩
  have s1:=bx.new (o:=.lst (os.map V.int)) n1
  have e1:(upd H h1 (.lst (os.map V.int))) h1=some (.lst (os.map V.int)):=aq
  generalize upd H h1 (.lst (os.map V.int))=H1 at s1 e1
  refine ⟨_,rfl,q,_,rfl,.inl (s1.seq hqt),fun h2 n2=>?_⟩
  have s2:=bx.new (o:=.lst (ts.map V.int)) n2
  have e2:(upd H1 h2 (.lst (ts.map V.int))) h2=some (.lst (ts.map V.int)):=aq
  generalize upd H1 h2 (.lst (ts.map V.int))=H2 at s2 e2
  refine ⟨(by show 2≤sizeLine;decide),fun lh nlh=>?_⟩
  have s3:=bx.new (o:=.lst [V.ref h1,V.ref h2]) nlh
  have e3:(upd H2 lh (.lst [V.ref h1,V.ref h2])) lh=some (.lst [V.ref h1,V.ref h2]):=aq
  generalize upd H2 lh (.lst [V.ref h1,V.ref h2])=H3 at s3 e3
  have s03:=(s1.trans s2).trans s3
  have a3:=(s2.trans s3) _ _ e1
  have b3:=s3 _ _ e2
  clear s1 s2 s3 e1 e2
  refine ⟨fun σ' H'=>bx H3 H'∧∃b:Bool,σ'=[some (.int m),some (.ref l),some (.ref x),some (.ref p),some (.ref q),some (.ref lh),some (.bl b),none,none]∧(b=true↔Spn es os∧Spn es ts),?_,?_⟩
  ·refine ⟨_,rfl,_,rfl,_,rfl,l,p,m,xs,es,os,rfl,s03.seq hl,hp.same s03,s03.seq hpo,hol,m1,m2,he,hE,fun b4 H4 s4 hb4=>⟨b4,rfl,?_⟩⟩
   have s04:=s03.trans s4
   cases b4 with
   | false=>exact gc ⟨s4,false,rfl,fun z=>(by cases z),fun z=>(by cases hb4.mpr z.1)⟩
   | true=>exact fh ⟨_,rfl,_,rfl,_,rfl,l,q,m,xs,es,ts,rfl,s04.seq hl,hp.same s04,s04.seq hqt,htl,m1,m2,he,hE,fun b5 H5 s5 hb5=>⟨s4.trans s5,b5,rfl,fun z=>⟨hb4.mp rfl,hb5.mp z⟩,fun z=>hb5.mpr z.2⟩⟩
  rintro σ' H4 ⟨s4,b,rfl,hb⟩
  have s04:=s03.trans s4
  have e4:=s4 _ _ e3
  have a4:=s4 _ _ a3
  have b4:=s4 _ _ b3
  clear s4 e3 a3 b3 s03
  have hom:(os.map V.int).length=os.length:=aa ..
  have refd:¬FfG es os ts→∀{H5:Hp},bx H4 H5→Bj (fun σ H Q=>sO (wL 2) (sO (tOp (yA K) (wL 5) (tC (V.int 0))) (sO (tOp (yA K) (wL 5) (tC (V.int 1))) Bk)) σ H fun vs H1=>yl K c vs H1 Q E0) {nx:=fun _ H'=>Q V.non H',rt:=Q} [some (.int m),some (.ref l),some (.ref x),some (.ref p),some (.ref q),some (.ref lh),some (.bl b),none,none] H5:=fun nG {H5} s5=>by
   have s05:=s04.trans s5
   have e5:=s5 _ _ e4
   exact ⟨_,rfl,_,rfl,lh,_,0,.ref h1,rfl,rfl,SqL.of e5,rfl,_,rfl,lh,_,1,.ref h2,rfl,rfl,SqL.of e5,rfl,x,h1,h2,m,es,os,ts,rfl,hw.same s05,SqL.of (s5 _ _ a4),SqL.of (s5 _ _ b4),by lia,by lia,m1,m2,he,hE,nG,fun H6 s6=>k _ (s05.trans s6)⟩
  refine ⟨_,rfl,b,rfl,?_⟩
  cases b with
  | false=>exact fh (fh (refd (fun z=>by cases hb.mpr ⟨z.1,z.2.1⟩) (bx.refl _)))
  | true =>
   have hS:=hb.mp rfl
   refine gc ?_
   have flen:∀j,((os.take j).filter fun t=>ts.any (·==t)).length≤j:=fun j=>cu (bP _ _) (by rw [aC];lia)
   refine ⟨_,rfl,p,_,rfl,.inl (s04.seq hpo),fun J C O hC=>fS O (fun j ys H5=>H5=H4∧ys=((os.take j).filter fun t=>ts.any (·==t)).map V.int) (by rw [hom];exact aL (aE (by lia))) ⟨rfl,rfl⟩ ?_ ?_ ?_⟩
   ·rintro j ys H5 hj ⟨rfl,rfl⟩
    exact ⟨hC _ (bx.refl _),by rw [aa];exact flen j⟩
   ·rintro j ys H5 hj ⟨rfl,rfl⟩
    obtain ⟨v,ev,gv⟩:=getD_map_int hj
    rw [hom] at hj
    have fl:=flen j
    try dsimp only
    rw [ev]
    refine ⟨dR rfl,_,rfl,_,rfl,q,_,rfl,.inl (s04.seq hqt),rfl,gm _,_,rfl,?_⟩
    rw [hJ]
    refine ie (fun c1=>?_) (fun c1=>?_)
    ·refine ⟨_,rfl,aE (by rw [aa];lia),_,by lia,rfl,by lia,rfl,?_⟩
     rw [take_snoc gv,bV,aw,bT (p:=fun t:Int=>ts.any (·==t)) c1];rfl
    ·refine ⟨_,by lia,rfl,by lia,rfl,?_⟩
     rw [take_snoc gv,bV,aw,bU (p:=fun t:Int=>ts.any (·==t)) c1];exact (bB _).symm
   rintro ys H5 ⟨rfl,rfl⟩ lw nlw
   rw [hom,bD]
   obtain ⟨ws,ews⟩:∃ws,ws=os.filter fun t=>ts.any (·==t):=⟨_,rfl⟩
   have hws:ws=[]↔∀t∈os,¬t∈ts:=by
    rw [ews,List.filter_eq_nil_iff]
    exact ⟨fun z t h1 h2=>z t h1 (eZ.mpr h2),fun z t h1 h2=>z t h1 (eZ.mp h2)⟩
   rw [←ews]
   clear ews flen
   have s5:=bx.new (o:=.lst (ws.map V.int)) nlw
   have w5:(upd H5 lw (.lst (ws.map V.int))) lw=some (.lst (ws.map V.int)):=aq
   generalize upd H5 lw (.lst (ws.map V.int))=H6 at s5 w5
   refine ⟨lw,_,rfl,.inl (SqL.of w5),_,_,rfl,rfl,_,rfl,?_⟩
   rw [aa]
   by_cases c1:ws=[]
   ·rw [decide_eq_false (show ¬((0:Int)<(ws.length:Int)) by rw [c1];decide)]
    refine gc ?_
    have G:FfG es os ts:=⟨hS.1,hS.2,hws.mp c1⟩
    have s06:=s04.trans s5
    have e6:=s5 _ _ e4
    have a6:=s5 _ _ a4
    have b6:=s5 _ _ b4
    refine ⟨_,rfl,_,rfl,lh,_,0,.ref h1,rfl,rfl,SqL.of e6,rfl,_,rfl,lh,_,1,.ref h2,rfl,rfl,SqL.of e6,rfl,x,h1,h2,m,es,os,ts,rfl,hw.same s06,SqL.of a6,SqL.of b6,by lia,by lia,m1,m2,he,hE,fun z=>absurd G z,fun _ lg c1 c2 fss H7 nlg s7 e7 C1 C2 LF=>?_⟩
    have s07:=s06.trans s7
    have hll:=LF.len
    obtain ⟨gs,egs⟩:∃gs,gs=lay es.length fss 2:=⟨_,rfl⟩
    rw [←egs] at e7 hll
    refine ⟨_,rfl,_,rfl,l,xs,rfl,.inl (s07.seq hl),lg,gs,_,rfl,e7,by lia,by lia,fun H8 s8=>⟨_,rfl,gc ?_⟩⟩
    have s08:=s07.trans s8
    have e8:=s8 _ _ e7
    refine ⟨_,rfl,_,rfl,_,rfl,l,lg,m,xs,es,gs,rfl,s08.seq hl,hp.same s08,SqL.of e8,hll,m1,m2,he,hE,fun lz us H9 nlz s9 e9 hul hd=>?_⟩
    have eus:us=au m.toNat 0:=by
     refine ef (by rw [bh];exact hul) fun i h1 h2=>?_
     rw [List.getElem_replicate,←gX h1,hd i (by lia),egs,LF.rq]
    refine ⟨(by show 1≤sizeLine;decide),fun q1 nq1=>?_⟩
    have sD:=bx.new (o:=.lst [V.int 0]) nq1
    have eD:(upd H9 q1 (.lst [V.int 0])) q1=some (.lst [V.int 0]):=aq
    generalize upd H9 q1 (.lst [V.int 0])=HD at sD eD
    refine ⟨_,rfl,q1,m,_,rfl,rfl,eD,by lia,by lia,aL (aE (by show 1*m.toNat≤1000;lia)),fun q2 nq2=>?_⟩
    rw [gY]
    have sE:=sD.next (o:=.lst ((au m.toNat (0:Int)).map V.int)) nq2
    have eE:(upd HD q2 (.lst ((au m.toNat (0:Int)).map V.int))) q2=some (.lst ((au m.toNat (0:Int)).map V.int)):=aq
    generalize upd HD q2 (.lst ((au m.toNat (0:Int)).map V.int))=HE at sE eE
    refine ⟨dI us,dI (au m.toNat 0),eh (SqL.of (sE _ _ e9)),eh (SqL.of eE),fg _,fg _,_,rfl,?_⟩
    rw [kg,decide_eq_true eus]
    refine gc ?_
    have s0E:=(s08.trans s9).trans sE
    have gE:=(s9.trans sE) _ _ e8
    have s6E:=((s7.trans s8).trans s9).trans sE
    clear hd hul eus e9 eE eD sD e8 e7
    refine ⟨_,rfl,_,rfl,_,rfl,(by show 2≤sizeLine;decide),fun lq nlq=>?_⟩
    have sF:=bx.new (o:=.lst [V.ref p,V.ref q]) nlq
    have eF:(upd HE lq (.lst [V.ref p,V.ref q])) lq=some (.lst [V.ref p,V.ref q]):=aq
    generalize upd HE lq (.lst [V.ref p,V.ref q])=HF at sF eF
    have s0F:=s0E.trans sF
    have s6F:=s6E.trans sF
    refine ⟨dLl [os,ts],dLl [os,ts],.lst (SqL.of (s6F _ _ e6)) (.cons (eh (SqL.of (s6F _ _ a6))) (.cons (eh (SqL.of (s6F _ _ b6))) .nil)),.lst (SqL.of eF) (.cons (eh (s0F.seq hpo)) (.cons (eh (s0F.seq hqt)) .nil)),iD _,iD _,_,rfl,?_⟩
    rw [rC,decide_eq_true rfl]
    refine gc ?_
    have gF:=sF _ _ gE
    have hgm:(gs.map V.int).length=gs.length:=aa ..
    have due:=rD (m:=m) G.2.2 C1 C2
    refine ⟨_,rfl,lg,_,rfl,.inl (SqL.of gF),fun J C O hC=>fS O (fun i us HG=>HG=HF∧us=au i (V.bl true)) (by rw [hgm];exact aL (aE (by lia))) ⟨rfl,rfl⟩ ?_ ?_ ?_⟩
    ·rintro i us HG hi ⟨rfl,rfl⟩
     exact ⟨hC _ (bx.refl _),by rw [bh];exact aN _⟩
    ·rintro i us HG hi ⟨rfl,rfl⟩
     obtain ⟨v,ev,gv⟩:=getD_map_int hi
     rw [hgm] at hi
     have hi':i<es.length:=by lia
     have hv:=LF.bound (t:=i) hi'
     obtain ⟨ss,hm,hin⟩:=due.2 i hi'
     obtain ⟨j,hj,ej⟩:=cf.mp hm
     have hnz:=LF.nz hi' (j:=j) hj (by rw [ae,aj hj,ej];exact hin)
     have hgv:gs.getD i 0=v:=by rw [ae,gv];rfl
     rw [←egs,hgv] at hv hnz
     try dsimp only
     rw [ev]
     refine ⟨dR rfl,fh ⟨_,rfl,v,rfl,_,_,rfl,rfl,_,rfl,?_⟩⟩
     rw [decide_eq_true (show (0:Int)<(if v<0 then -v else v) by split<;>lia)]
     refine fh ⟨_,_,rfl,rfl,aE (by rw [bh];lia),_,by lia,rfl,by lia,rfl,?_⟩
     rw [List.replicate_succ']
     show _++[V.bl (decide ((if v<0 then -v else v)<4))]=_
     rw [decide_eq_true (show (if v<0 then -v else v)<(4:Int) by split<;>lia)]
    rintro us HG ⟨rfl,rfl⟩ la nla
    rw [hgm]
    refine ⟨la,_,rfl,.inl (SqL.of aq),(jq _).2,?_⟩
    rw [(jq _).1]
    refine ⟨_,rfl,gc ?_⟩
    have sH:=bx.new (o:=.lst (au gs.length (V.bl true))) nla
    generalize upd HG la (.lst (au gs.length (V.bl true)))=HH at sH
    have s0H:=s0F.trans sH
    have s6H:=s6F.trans sH
    have gH:=sH _ _ gF
    refine ⟨_,rfl,lg,_,rfl,.inl (SqL.of gH),fun lk nlk=>?_⟩
    have sI:=bx.new (o:=.lst (gs.map V.int)) nlk
    have kI:(upd HH lk (.lst (gs.map V.int))) lk=some (.lst (gs.map V.int)):=aq
    have gI:=sI _ _ gH
    have nkg:lk≠lg:=(bw gH nlk).symm
    generalize upd HH lk (.lst (gs.map V.int))=HI at sI kI gI
    have nlg0:H lg=none:=bN s06 nlg
    refine ⟨_,rfl,.inl ⟨rfl,_,SqL.of gI⟩,lg,_,rfl,rfl,gI,?_⟩
    have s0J:=(s0H.trans sI).upd (o:=.lst []) nlg0
    have s6I:=s6H.trans sI
    have eJ:(upd HI lg (.lst [])) lh=some (.lst [V.ref h1,V.ref h2]):=by rw [bS (bw e6 nlg)];exact s6I _ _ e6
    have aJ:(upd HI lg (.lst [])) h1=some (.lst (os.map V.int)):=by rw [bS (bw a6 nlg)];exact s6I _ _ a6
    have bJ:(upd HI lg (.lst [])) h2=some (.lst (ts.map V.int)):=by rw [bS (bw b6 nlg)];exact s6I _ _ b6
    have kJ:(upd HI lg (.lst [])) lk=some (.lst (gs.map V.int)):=by rw [bS nkg];exact kI
    generalize upd HI lg (.lst [])=HJ at s0J eJ aJ bJ kJ
    refine ⟨_,rfl,_,rfl,lh,_,0,.ref h1,rfl,rfl,SqL.of eJ,rfl,_,rfl,lh,_,1,.ref h2,rfl,rfl,SqL.of eJ,rfl,x,h1,h2,m,es,os,ts,rfl,hw.same s0J,SqL.of aJ,SqL.of bJ,by lia,by lia,m1,m2,he,hE,fun z=>absurd G z,fun _ lg' d1 d2 fs2 HK nlk' sK eK D1 D2 LF2=>?_⟩
    rw [mF G.1 D1 C1,mF G.2.1 D2 C2] at LF2
    have eg2:lay es.length fs2 2=gs:=by rw [egs];exact jd.det hE LF2 LF
    rw [eg2] at eK
    refine ⟨_,rfl,dI gs,dI gs,eh (SqL.of eK),eh (SqL.of (sK _ _ kJ)),fg _,fg _,?_⟩
    rw [kg,decide_eq_true rfl]
    exact k _ (s0J.trans sK)
   ·rw [decide_eq_true (show (0:Int)<(ws.length:Int) by have:=List.length_pos_iff.mpr c1;lia)]
    exact fh (refd (fun z=>c1 (hws.mpr z.2.2)) s5)
structure Zts (H:Hp) (r:Addr):Prop where
 mk' ::
 ex:∃zs:List Int,H r=some (.lst (zs.map V.int))∧zs.length<64
theorem Zts.same {H H':Hp} {r:Addr} (S:bx H H') (h:Zts H r):Zts H' r:=by
 obtain ⟨zs,h1,h2⟩:=h.ex
 exact ⟨zs,S _ _ h1,h2⟩
def Pr2 (H:Hp) (v:V):Prop:=∃r a b,v=.ref r∧H r=some (.tup [.ref a,.ref b])∧Zts H a∧Zts H b
theorem Pr2.same {H H':Hp} {v:V} (S:bx H H') (h:Pr2 H v):Pr2 H' v:=by
 obtain ⟨r,a,b,e,h1,h2,h3⟩:=h
 exact ⟨r,a,b,e,S _ _ h1,h2.same S,h3.same S⟩
theorem lK {es:List (Int×Int)} {m n:Int} (h:de es m) (hm:m≤n):de es n:=fun e he=>by have:=h e he;lia
theorem scL:bY ["script","many","ends","one","two","web","cell","others","at","tie","first","second","count","twice"] ["script"] (az sL):=⟨rfl,rfl,rfl,by decide +kernel,rfl,by decide +kernel,by decide +kernel⟩
theorem CK {f:Addr} {fd:FuncData} (F:Fun K "law" "law" sL f fd) (T:Txt K mg c) (D_C:Def P w K mg base 1 "_law_cell" ["script","k"] (spC K)) (D_Tt:Def P w K mg base 2 "_law_two_trees" ["script"] (yX K)) (D_Bs:Def P w K mg base 1 "_law_bad_set" ["some","count","cell"] (zG K)) (D_R:Def P w K mg base 11 "_law_right" ["many","ends","web","one","two"] (spR K c)) (D_N:sj P w K mg base 1 "Web" c.Web ["self","many","ties"] (lU K c.Web)):fH P w K mg base CX0 12 f fd ["script"] (sP K):=by
 refine F.ok scL (fun vs H Q E h=>?_) (fun cdv A outer s H vs Q E hr h=>?_)
 ·obtain ⟨a,ns,rfl,_⟩:=h
  rfl
 ·obtain ⟨a,ns,rfl,hS,hlen,k⟩:=h
  have hu:A.units+3+64<cLine:=hr.units
  refine ⟨_,aB (ku (bX D_Tt hr (ah (pv 0) ax)) (jS (K:=K) (n:=4) rfl rfl (c_ (bK (i:=1) scL.nd rfl (Or.inr rfl)) (c_ (bK (i:=2) scL.nd rfl (Or.inr rfl)) (c_ (bK (i:=3) scL.nd rfl (Or.inl rfl)) (c_ (bK (i:=4) scL.nd rfl (Or.inl rfl)) (gA))))) rfl))
   (aB (bF (i:=5) scL.nd rfl (Or.inr rfl) (oh D_N hr (ah (pv 1) (ah (fK (mO (K:=K) rfl) (by rfl) T.list cJ (ah (pv 2) ax)) ax))))
   (aB (bF (i:=6) scL.nd rfl (Or.inl rfl) (bg (BG (K:=K) rfl rfl) (by rfl) T.sum PyProof.Rows.boot_sum (ah (pv 0) ax)))
   (aB (bF (i:=7) scL.nd rfl (Or.inl rfl) (dh (ah (fF (ah (pv 3) (ah (pv 4) ax))) (ah (fF (ah (pv 4) (ah (pv 3) ax))) (ah (fF (ah (pv 3) (ah (bX D_Bs hr (ah (pv 4) (ah (bg (ig (K:=K) rfl) (by rfl) T.len aX (ah (pv 2) ax)) (ah (pv 6) ax)))) ax))) (ah (fF (ah (dh (ah (ko iL (aS)) ax)) (ah (pv 4) ax))) ax))))))
   (aB (dO (eV (cm (qy (K:=K) rfl hu) (pv 3) (dh ax) (cH _))
    (aB (dO (bF (i:=8) scL.nd rfl (Or.inl rfl) (bQ eX (pv 6) (bg (ig (K:=K) rfl) (by rfl) T.len aX (ah (pv 3) ax)))))
   (aB (dO (bF (i:=9) scL.nd rfl (Or.inr rfl) (cD (ixL (K:=K) rfl) (pv 4) (bQ eX (bQ fR (pv 6) (aS)) (bg (ig (K:=K) rfl) (by rfl) T.len aX (ah (pv 4) ax))) (fun _ _=>rfl))))
   (aB (dO (bF (i:=7) scL.nd rfl (Or.inl rfl) (bQ gk (pv 7) (dh (ah (fF (ah (bQ gk (iF (slL (K:=K) rfl) (pv 3) (jj) (iw (pv 8))) (iF (slL (K:=K) rfl) (pv 3) (iw (bQ fG (pv 8) (aS))) (jj))) (ah (pv 4) ax))) (ah (fF (ah (pv 3) (ah (pv 3) ax))) (ah (fF (ah (pv 4) (ah (iF (slL (K:=K) rfl) (pv 3) (jj) (iw (ko iL (aS)))) ax))) ax)))))))
   (aB (dO (bF (i:=10) scL.nd rfl (Or.inl rfl) (bg (jm (K:=K) rfl) (by rfl) T.sorted dm (ah (bQ gk (bQ gk (iF (slL (K:=K) rfl) (pv 3) (jj) (iw (pv 8))) (iF (slL (K:=K) rfl) (pv 3) (iw (bQ fG (pv 8) (aS))) (jj))) (dh (ah (pv 9) ax))) ax))))
   (aB (dO (bF (i:=11) scL.nd rfl (Or.inl rfl) (bQ gk (fJ (N':=["each","tie"]) (nl:=1) (js:=[9]) rfl (.of (osc:=az sL) (N:=["script","many","ends","one","two","web","cell","others","at","tie","first","second","count","twice"]) (by decide +kernel) rfl rfl) (f_ (K:=K) rfl (pv 4))
    (fun _ _ _ _=>bK (i:=0) (show (["each","tie"]:List Str).Nodup by decide +kernel) rfl (Or.inl rfl)) (fun _ _ _ _=>ix (cm mh (pv 0) (pv 1) (cH _)))
    (fun _ _ _ _=>pv 0)) (dh (ah (cD (ixL (K:=K) rfl) (pv 3) (pv 8) (fun _ _=>rfl)) ax)))))
   (aR (dO (bF (i:=7) scL.nd rfl (Or.inl rfl) (bQ gk (pv 7) (dh (ah (fF (ah (pv 10) (ah (pv 11) ax))) (ah (fF (ah (pv 10) (ah (bg (jm (K:=K) rfl) (by rfl) T.sorted dm (ah (pv 11) ax)) ax))) (ah (fF (ah (pv 10) (ah (pv 4) ax))) ax))))))))))))) (cX)))
   (aB (eV (ip (h_ (bg (yG (K:=K) rfl rfl) (by rfl) T.all PyProof.Rows.boot_all (ah (fJ (N':=["some","many","ends","web"]) (nl:=1) (js:=[1,2,5]) rfl (.of (osc:=az sL) (N:=["script","many","ends","one","two","web","cell","others","at","tie","first","second","count","twice"]) (by decide +kernel) rfl rfl) (f_ (K:=K) rfl (pv 7))
    (fun _ _ _ _=>bK (i:=0) (show (["some","many","ends","web"]:List Str).Nodup by decide +kernel) rfl (Or.inl rfl)) (fun _ _ _ _=>dD)
    (fun _ _ _ _=>bX D_R hr (ah (pv 1) (ah (pv 2) (ah (pv 3) (ah (cD (ixT (K:=K) rfl) (pv 0) (aS) (fun _ _=>rfl)) (ah (cD (ixT (K:=K) rfl) (pv 0) (aS) (fun _ _=>rfl)) ax))))))) ax))))
    (aR (cI (lC))) (cX))
   (aB (eV (PW.pt (kn (cm iQ (pv 1) (aS) (cH _)) (jt (cm iQ (bg (ig (K:=K) rfl) (by rfl) T.len aX (ah (pv 2) ax)) (aS) (cH _)))))
    (aR (cI (zS (gC iQ (pv 1) (aS) (cH _)) (ky (bX D_R hr (ah (bQ fG (pv 1) (aS)) (ah (pv 2) (ah (oh D_N hr (ah (bQ fG (pv 1) (aS)) (ah (fK (mO (K:=K) rfl) (by rfl) T.list cJ (ah (pv 2) ax)) ax))) (ah (pv 3) (ah (pv 4) ax)))))))))) (cX))
   (aB (bF (i:=12) scL.nd rfl (Or.inr rfl) (bg (ig (K:=K) rfl) (by rfl) T.len aX (ah (pv 2) ax)))
   (aB (bF (i:=13) scL.nd rfl (Or.inl rfl) (bQ gk (pv 2) (fJ (N':=["low","high","many"]) (nl:=2) (js:=[1]) rfl (.of (osc:=az sL) (N:=["script","many","ends","one","two","web","cell","others","at","tie","first","second","count","twice"]) (by decide +kernel) rfl rfl) (f_ (K:=K) rfl (pv 2))
    (fun _ _ _ _=>jT (K:=K) (i:=0) (j:=1) rfl rfl (show (["low","high","many"]:List Str).Nodup by decide +kernel) rfl rfl rfl rfl) (fun _ _ _ _=>dD)
    (fun _ _ _ _=>fF (ah (bQ fG (pv 0) (pv 2)) (ah (bQ fG (pv 1) (pv 2)) ax))))))
   (aB (bF (i:=10) scL.nd rfl (Or.inl rfl) (bQ gk (pv 3) (fJ (N':=["tie","count"]) (nl:=1) (js:=[12]) rfl (.of (osc:=az sL) (N:=["script","many","ends","one","two","web","cell","others","at","tie","first","second","count","twice"]) (by decide +kernel) rfl rfl) (f_ (K:=K) rfl (pv 4))
    (fun _ _ _ _=>bK (i:=0) (show (["tie","count"]:List Str).Nodup by decide +kernel) rfl (Or.inl rfl)) (fun _ _ _ _=>dD)
    (fun _ _ _ _=>bQ fG (pv 0) (pv 1)))))
   (aB (bF (i:=11) scL.nd rfl (Or.inl rfl) (bQ gk (pv 4) (fJ (N':=["tie","count"]) (nl:=1) (js:=[12]) rfl (.of (osc:=az sL) (N:=["script","many","ends","one","two","web","cell","others","at","tie","first","second","count","twice"]) (by decide +kernel) rfl rfl) (f_ (K:=K) rfl (pv 3))
    (fun _ _ _ _=>bK (i:=0) (show (["tie","count"]:List Str).Nodup by decide +kernel) rfl (Or.inl rfl)) (fun _ _ _ _=>dD)
    (fun _ _ _ _=>bQ fG (pv 0) (pv 1)))))
   (aR (cI (bX D_R hr (ah (bQ uK (aS) (pv 1)) (ah (pv 13) (ah (oh D_N hr (ah (bQ uK (aS) (pv 1)) (ah (fK (mO (K:=K) rfl) (by rfl) T.list cJ (ah (pv 13) ax)) ax))) (ah (pv 10) (ah (pv 11) ax)))))))))))))))))),?_⟩
  clear hu
  refine ⟨_,rfl,a,ns,rfl,hS,hlen,fun t l p q m xs es os ts H1 s1 ht hl1 hp m1 m2 he hE h1p h1q hpl hql okp okq=>?_⟩
  refine ⟨t,_,rfl,SqT.of ht,rfl,_,_,rfl,_,_,rfl,_,_,rfl,_,_,rfl,rfl,?_⟩
  have hxl:=hp.len
  have hS1:=s1.seq hS
  refine ⟨_,rfl,_,rfl,l,_,rfl,.inl (SqL.of hl1),fun l3 n3=>?_⟩
  have s3:=bx.new (o:=.lst xs) n3
  have e3:(upd H1 l3 (.lst xs)) l3=some (.lst xs):=aq
  have p3:=hp.same s3
  generalize upd H1 l3 (.lst xs)=H3 at s3 e3 p3
  refine ⟨l3,m,xs,es,rfl,.inl (SqL.of e3),p3,m1,m2,he,hE,fun x HW nx sW hw=>?_⟩
  have s1W:=s3.trans sW
  have lW:=s1W _ _ hl1
  have pW:=hp.same s1W
  have SW:=s1W.seq hS1
  have oW:=s1W _ _ h1p
  have tW:=s1W _ _ h1q
  clear s3 e3 p3 sW s1W hl1 hp hS1 s1 ht hS h1p h1q
  refine ⟨_,rfl,a,ns,rfl,.inl SW,?_⟩
  generalize ns.sum=ce
  have hosl:os.length<64:=by lia
  have htsl:ts.length<64:=by lia
  have Zo:Zts HW p:=⟨os,oW,hosl⟩
  have Zt:Zts HW q:=⟨ts,tW,htsl⟩
  refine ⟨_,rfl,_,rfl,(by show 2≤sizeLine;decide),fun z1 nz1=>?_⟩
  have t1:=bx.new (o:=.tup [V.ref p,V.ref q]) nz1
  have y1:Pr2 (upd HW z1 (.tup [V.ref p,V.ref q])) (.ref z1):=⟨z1,p,q,rfl,aq,Zo.same t1,Zt.same t1⟩
  generalize upd HW z1 (.tup [V.ref p,V.ref q])=G1 at t1 y1
  refine ⟨_,rfl,_,rfl,(by show 2≤sizeLine;decide),fun z2 nz2=>?_⟩
  have t2:=t1.next (o:=.tup [V.ref q,V.ref p]) nz2
  have u2:=bx.new (o:=.tup [V.ref q,V.ref p]) nz2
  have y2:Pr2 (upd G1 z2 (.tup [V.ref q,V.ref p])) (.ref z2):=⟨z2,q,p,rfl,aq,Zt.same t2,Zo.same t2⟩
  have y1:=y1.same u2
  generalize upd G1 z2 (.tup [V.ref q,V.ref p])=G2 at t2 y2 y1
  clear t1 u2
  refine ⟨_,rfl,_,rfl,_,rfl,l,xs,rfl,.inl (SqL.of (t2 _ _ lW)),_,rfl,q,ts,es.length,_,by rw [hxl],SqL.of (t2 _ _ tW),okq,he,fun lb bs G3 nlb u3 b3 _ hbl=>?_⟩
  have t3:=t2.trans u3
  have y1:=y1.same u3
  have y2:=y2.same u3
  refine ⟨(by show 2≤sizeLine;decide),fun z3 nz3=>?_⟩
  have t4:=t3.next (o:=.tup [V.ref p,V.ref lb]) nz3
  have u4:=bx.new (o:=.tup [V.ref p,V.ref lb]) nz3
  have y3:Pr2 (upd G3 z3 (.tup [V.ref p,V.ref lb])) (.ref z3):=⟨z3,p,lb,rfl,aq,Zo.same t4,⟨bs,u4 _ _ b3,by lia⟩⟩
  have y1:=y1.same u4
  have y2:=y2.same u4
  generalize upd G3 z3 (.tup [V.ref p,V.ref lb])=G4 at t4 y3 y2 y1
  clear t2 t3 u3 u4 b3
  refine ⟨1,rfl,(by show 1≤sizeLine;decide),fun lm nlm=>?_⟩
  have t5:=t4.next (o:=.lst [V.int (-1)]) nlm
  have u5:=bx.new (o:=.lst [V.int (-1)]) nlm
  have m5:(upd G4 lm (.lst [V.int (-1)])) lm=some (.lst (([-1]:List Int).map V.int)):=aq
  have y1:=y1.same u5
  have y2:=y2.same u5
  have y3:=y3.same u5
  generalize upd G4 lm (.lst [V.int (-1)])=G5 at t5 m5 y1 y2 y3
  refine ⟨_,rfl,(by show 2≤sizeLine;decide),fun z4 nz4=>?_⟩
  have t6:=t5.next (o:=.tup [V.ref lm,V.ref q]) nz4
  have u6:=bx.new (o:=.tup [V.ref lm,V.ref q]) nz4
  have y4:Pr2 (upd G5 z4 (.tup [V.ref lm,V.ref q])) (.ref z4):=⟨z4,lm,q,rfl,aq,⟨[-1],u6 _ _ m5,by decide⟩,Zt.same t6⟩
  have y1:=y1.same u6
  have y2:=y2.same u6
  have y3:=y3.same u6
  generalize upd G5 z4 (.tup [V.ref lm,V.ref q])=G6 at t6 y4 y1 y2 y3
  refine ⟨(by show 4≤sizeLine;decide),fun lo nlo=>?_⟩
  have t7:=t6.next (o:=.lst [V.ref z1,V.ref z2,V.ref z3,V.ref z4]) nlo
  have u7:=bx.new (o:=.lst [V.ref z1,V.ref z2,V.ref z3,V.ref z4]) nlo
  have o7:(upd G6 lo (.lst [V.ref z1,V.ref z2,V.ref z3,V.ref z4])) lo=some (.lst [V.ref z1,V.ref z2,V.ref z3,V.ref z4]):=aq
  have all7:∀v∈[V.ref z1,V.ref z2,V.ref z3,V.ref z4],Pr2 (upd G6 lo (.lst [V.ref z1,V.ref z2,V.ref z3,V.ref z4])) v:=fun v hv=>by
   rcases aU.mp hv with y | hv
   ·rw [y];exact y1.same u7
   rcases aU.mp hv with y | hv
   ·rw [y];exact y2.same u7
   rcases aU.mp hv with y | hv
   ·rw [y];exact y3.same u7
   rw [ak.mp hv];exact y4.same u7
  generalize upd G6 lo (.lst [V.ref z1,V.ref z2,V.ref z3,V.ref z4])=G7 at t7 o7 all7
  clear t4 t5 t6 u5 u6 u7 y1 y2 y3 y4 m5
  refine ⟨fun σ' H'=>∃(lo:Addr) (ys:List V) (v8 v9 v10 v11:Option V),σ'=[some (.ref a),some (.int m),some (.ref l),some (.ref p),some (.ref q),some (.ref x),some (.int ce),some (.ref lo),v8,v9,v10,v11,none,none]∧bx HW H'∧H' lo=some (.lst ys)∧ys.length≤10∧∀v∈ys,Pr2 H' v,?_,?_⟩
  ·refine ⟨_,rfl,by decide,fun q0 nq0=>?_⟩
   have s1:=bx.new (o:=.lst []) nq0
   have zz1:(upd G7 q0 (.lst [])) q0=some (.lst (([]:List Int).map V.int)):=aq
   generalize upd G7 q0 (.lst [])=G8 at s1 zz1
   have t8:=t7.trans s1
   refine ⟨dI os,dI [],eh (SqL.of (t8 _ _ oW)),eh (SqL.of zz1),fg _,fg _,_,rfl,?_⟩
   rw [kg]
   by_cases c0:os=[]
   ·rw [decide_eq_true c0]
    exact gc ⟨lo,_,none,none,none,none,rfl,t8,s1 _ _ o7,(by show 4≤10;decide),fun v hv=>(all7 v hv).same s1⟩
   ·rw [decide_eq_false c0]
    have hh0:0<os.length:=List.length_pos_iff.mpr c0
    have hhm:(os.map V.int).length=os.length:=aa ..
    have htm:(ts.map V.int).length=ts.length:=aa ..
    have o8:=s1 _ _ o7
    have all8:∀v∈[V.ref z1,V.ref z2,V.ref z3,V.ref z4],Pr2 G8 v:=fun v hv=>(all7 v hv).same s1
    refine fh ⟨fun σ' H'=>H'=G8∧∃i:Int,0≤i∧i<(os.length:Int)∧σ'=[some (.ref a),some (.int m),some (.ref l),some (.ref p),some (.ref q),some (.ref x),some (.int ce),some (.ref lo),some (.int i),none,none,none,none,none],?_,?_⟩
    ·exact ⟨_,rfl,_,rfl,p,_,rfl,.inl (SqL.of (t8 _ _ oW)),_,_,rfl,rfl,(by show (0:Int)<((os.map V.int).length:Int);lia),rfl,_,bH _ (by lia),by rw [←hhm];exact br _ (by lia),rfl⟩
    rintro σ' G8 ⟨rfl,i,i0,i1,rfl⟩
    refine ⟨fun σ' H'=>H'=G8∧∃ti:Int,σ'=[some (.ref a),some (.int m),some (.ref l),some (.ref p),some (.ref q),some (.ref x),some (.int ce),some (.ref lo),some (.int i),some (.int ti),none,none,none,none],?_,?_⟩
    ·have d0:=bH (ce/20) (show ((ts.map V.int).length:Int)≠0 by lia)
     have d1:=br (ce/20) (show (0:Int)<((ts.map V.int).length:Int) by lia)
     exact ⟨_,rfl,_,rfl,_,_,rfl,rfl,⟨by decide,by decide⟩,_,rfl,q,_,rfl,.inl (SqL.of (t8 _ _ tW)),_,_,rfl,rfl,(by show (0:Int)<((ts.map V.int).length:Int);lia),q,_,_,_,rfl,rfl,SqL.of (t8 _ _ tW),ft d0 (by lia),rfl,_,rfl⟩
    rintro σ' G8 ⟨rfl,ti,rfl⟩
    refine ⟨fun σ' H'=>bx G8 H'∧∃(l9:Addr) (ys:List V),σ'=[some (.ref a),some (.int m),some (.ref l),some (.ref p),some (.ref q),some (.ref x),some (.int ce),some (.ref l9),some (.int i),some (.int ti),none,none,none,none]∧H' l9=some (.lst ys)∧ys.length=7∧∀v∈ys,Pr2 H' v,?_,?_⟩
    ·have oX:=t8 _ _ oW
     refine ⟨_,rfl,_,rfl,_,rfl,i,rfl,p,_,rfl,SqL.of oX,fun r1 n1=>?_⟩
     obtain ⟨a1,ea1,la1⟩:=ja os none (some i)
     rw [ea1]
     have u1:=bx.new (o:=.lst (a1.map V.int)) n1
     have w1:(upd G8 r1 (.lst (a1.map V.int))) r1=some (.lst (a1.map V.int)):=aq
     generalize upd G8 r1 (.lst (a1.map V.int))=J1 at u1 w1
     refine ⟨_,rfl,_,rfl,_,_,rfl,rfl,i+1,rfl,p,_,rfl,SqL.of (u1 _ _ oX),fun r2 n2=>?_⟩
     obtain ⟨a2,ea2,la2⟩:=ja os (some (i+1)) none
     rw [ea2]
     have u2:=bx.new (o:=.lst (a2.map V.int)) n2
     have w2:(upd J1 r2 (.lst (a2.map V.int))) r2=some (.lst (a2.map V.int)):=aq
     generalize upd J1 r2 (.lst (a2.map V.int))=J2 at u2 w2
     refine ⟨r1,r2,_,_,rfl,rfl,u2 _ _ w1,w2,aL (aE (by rw [aa,aa];lia)),fun r3 n3=>?_⟩
     rw [←aw]
     have u3:=bx.new (o:=.lst ((a1++a2).map V.int)) n3
     have w3:(upd J2 r3 (.lst ((a1++a2).map V.int))) r3=some (.lst ((a1++a2).map V.int)):=aq
     generalize upd J2 r3 (.lst ((a1++a2).map V.int))=J3 at u3 w3
     have v3:=(u1.trans u2).trans u3
     have Zr:Zts J3 r3:=⟨a1++a2,w3,by rw [ay];lia⟩
     refine ⟨_,rfl,(by show 2≤sizeLine;decide),fun z5 n5=>?_⟩
     have u5:=bx.new (o:=.tup [V.ref r3,V.ref q]) n5
     have y5:Pr2 (upd J3 z5 (.tup [V.ref r3,V.ref q])) (.ref z5):=⟨z5,r3,q,rfl,aq,Zr.same u5,Zt.same ((t8.trans v3).trans u5)⟩
     generalize upd J3 z5 (.tup [V.ref r3,V.ref q])=J5 at u5 y5
     have v5:=v3.trans u5
     refine ⟨_,rfl,_,rfl,(by show 2≤sizeLine;decide),fun z6 n6=>?_⟩
     have u6:=bx.new (o:=.tup [V.ref p,V.ref p]) n6
     have y6:Pr2 (upd J5 z6 (.tup [V.ref p,V.ref p])) (.ref z6):=⟨z6,p,p,rfl,aq,Zo.same ((t8.trans v5).trans u6),Zo.same ((t8.trans v5).trans u6)⟩
     generalize upd J5 z6 (.tup [V.ref p,V.ref p])=J6 at u6 y6
     have v6:=v5.trans u6
     refine ⟨_,rfl,_,rfl,1,rfl,_,rfl,p,_,rfl,SqL.of (v6 _ _ oX),fun r4 n4=>?_⟩
     obtain ⟨a4,ea4,la4⟩:=ja os none (some (-1))
     rw [show sm (os.map V.int) none (some (-1))=a4.map V.int from ea4]
     have u4:=bx.new (o:=.lst (a4.map V.int)) n4
     have w4:(upd J6 r4 (.lst (a4.map V.int))) r4=some (.lst (a4.map V.int)):=aq
     generalize upd J6 r4 (.lst (a4.map V.int))=J4 at u4 w4
     have v4:=v6.trans u4
     refine ⟨(by show 2≤sizeLine;decide),fun z7 n7=>?_⟩
     have u7:=bx.new (o:=.tup [V.ref q,V.ref r4]) n7
     have y7:Pr2 (upd J4 z7 (.tup [V.ref q,V.ref r4])) (.ref z7):=⟨z7,q,r4,rfl,aq,Zt.same ((t8.trans v4).trans u7),⟨a4,u7 _ _ w4,by lia⟩⟩
     generalize upd J4 z7 (.tup [V.ref q,V.ref r4])=J7 at u7 y7
     have v7:=v4.trans u7
     have y5:=y5.same ((u6.trans u4).trans u7)
     have y6:=y6.same (u4.trans u7)
     refine ⟨(by show 3≤sizeLine;decide),fun l8 n8=>?_⟩
     have u8:=bx.new (o:=.lst [V.ref z5,V.ref z6,V.ref z7]) n8
     have w8:(upd J7 l8 (.lst [V.ref z5,V.ref z6,V.ref z7])) l8=some (.lst [V.ref z5,V.ref z6,V.ref z7]):=aq
     generalize upd J7 l8 (.lst [V.ref z5,V.ref z6,V.ref z7])=J8 at u8 w8
     have v8:=v7.trans u8
     refine ⟨lo,l8,_,_,rfl,rfl,v8 _ _ o8,w8,(by show 4+3≤sizeLine;decide),fun l9 n9=>?_⟩
     have u9:=bx.new (o:=.lst ([V.ref z1,V.ref z2,V.ref z3,V.ref z4]++[V.ref z5,V.ref z6,V.ref z7])) n9
     refine ⟨v8.trans u9,l9,_,rfl,aq,rfl,fun v hv=>?_⟩
     rcases aM.mp hv with y | hv
     ·exact (all8 v y).same (v8.trans u9)
     rcases aU.mp hv with y | hv
     ·rw [y];exact y5.same (u8.trans u9)
     rcases aU.mp hv with y | hv
     ·rw [y];exact y6.same (u8.trans u9)
     rw [ak.mp hv];exact y7.same (u8.trans u9)
    rintro σ' G9 ⟨s9,l9,ys,rfl,o9,hyl,all9⟩
    have t9:=t8.trans s9
    refine ⟨fun σ' H'=>bx G9 H'∧∃(lf:Addr) (fs:List Int),σ'=[some (.ref a),some (.int m),some (.ref l),some (.ref p),some (.ref q),some (.ref x),some (.int ce),some (.ref l9),some (.int i),some (.int ti),some (.ref lf),none,none,none]∧H' lf=some (.lst (fs.map V.int))∧fs.length<64,?_,?_⟩
    ·have oX:=t9 _ _ oW
     refine ⟨_,rfl,_,rfl,i,rfl,p,_,rfl,SqL.of oX,fun r1 n1=>?_⟩
     obtain ⟨a1,ea1,la1⟩:=ja os none (some i)
     rw [ea1]
     have u1:=bx.new (o:=.lst (a1.map V.int)) n1
     have w1:(upd G9 r1 (.lst (a1.map V.int))) r1=some (.lst (a1.map V.int)):=aq
     generalize upd G9 r1 (.lst (a1.map V.int))=J1 at u1 w1
     refine ⟨_,rfl,_,rfl,_,_,rfl,rfl,i+1,rfl,p,_,rfl,SqL.of (u1 _ _ oX),fun r2 n2=>?_⟩
     obtain ⟨a2,ea2,la2⟩:=ja os (some (i+1)) none
     rw [ea2]
     have u2:=bx.new (o:=.lst (a2.map V.int)) n2
     have w2:(upd J1 r2 (.lst (a2.map V.int))) r2=some (.lst (a2.map V.int)):=aq
     generalize upd J1 r2 (.lst (a2.map V.int))=J2 at u2 w2
     refine ⟨r1,r2,_,_,rfl,rfl,u2 _ _ w1,w2,aL (aE (by rw [aa,aa];lia)),fun r3 n3=>?_⟩
     rw [←aw]
     have u3:=bx.new (o:=.lst ((a1++a2).map V.int)) n3
     have w3:(upd J2 r3 (.lst ((a1++a2).map V.int))) r3=some (.lst ((a1++a2).map V.int)):=aq
     generalize upd J2 r3 (.lst ((a1++a2).map V.int))=J3 at u3 w3
     refine ⟨_,rfl,(by show 1≤sizeLine;decide),fun r4 n4=>?_⟩
     have u4:=bx.new (o:=.lst [V.int ti]) n4
     have w4:(upd J3 r4 (.lst [V.int ti])) r4=some (.lst (([ti]:List Int).map V.int)):=aq
     generalize upd J3 r4 (.lst [V.int ti])=J4 at u4 w4
     have hal:(a1++a2).length≤50:=by rw [ay];lia
     refine ⟨r3,r4,_,_,rfl,rfl,u4 _ _ w3,w4,aL (aE (by rw [aa,aa];show _+1≤1000;lia)),fun r5 n5=>?_⟩
     rw [←aw]
     have u5:=bx.new (o:=.lst (((a1++a2)++[ti]).map V.int)) n5
     refine ⟨r5,_,rfl,SqL.of aq,by rw [ay];show _+1<64;lia,fun lf fs nlf hfp hfs=>?_⟩
     exact ⟨((((u1.trans u2).trans u3).trans u4).trans u5).next nlf,lf,fs,rfl,aq,by rw [hfp.length_eq,ay];show _+1<64;lia⟩
    rintro σ' GA ⟨sA,lf,fs,rfl,fA,hfl⟩
    have tA:=t9.trans sA
    refine ⟨fun σ' H'=>bx GA H'∧∃(lg:Addr) (gs:List Int),σ'=[some (.ref a),some (.int m),some (.ref l),some (.ref p),some (.ref q),some (.ref x),some (.int ce),some (.ref l9),some (.int i),some (.int ti),some (.ref lf),some (.ref lg),none,none]∧H' lg=some (.lst (gs.map V.int))∧gs.length<64,?_,?_⟩
    ·have oX:=tA _ _ oW
     have tX:=tA _ _ tW
     refine ⟨_,rfl,q,_,rfl,.inl (SqL.of tX),fun J C O hC=>fS O (fun j ys H'=>H'=GA∧∃zs:List Int,ys=zs.map V.int∧zs.length≤j) (by rw [htm];exact aL (aE (by lia))) ⟨rfl,[],rfl,aN _⟩ ?_ ?_ ?_⟩
     ·rintro j ys H' hj ⟨rfl,zs,rfl,hzl⟩
      exact ⟨hC _ (bx.refl _),by rw [aa];exact hzl⟩
     ·rintro j ys H' hj ⟨rfl,zs,rfl,hzl⟩
      obtain ⟨v,ev,gv⟩:=getD_map_int hj
      rw [htm] at hj
      try dsimp only
      rw [ev]
      refine ⟨dR rfl,_,rfl,_,rfl,rfl,_,rfl,ie (fun _=>?_) (fun _=>?_)⟩
      ·exact ⟨_,rfl,aE (by rw [aa];lia),_,by lia,rfl,by lia,rfl,zs++[v],by rw [aw];rfl,by rw [ay,List.length_singleton];lia⟩
      ·exact ⟨_,by lia,rfl,by lia,rfl,zs,rfl,by lia⟩
     rintro ys H' ⟨rfl,zs,rfl,hzl⟩ r1 n1
     rw [htm] at hzl
     have u1:=bx.new (o:=.lst (zs.map V.int)) n1
     have w1:(upd H' r1 (.lst (zs.map V.int))) r1=some (.lst (zs.map V.int)):=aq
     generalize upd H' r1 (.lst (zs.map V.int))=J1 at u1 w1
     refine ⟨_,rfl,_,rfl,p,_,i,_,rfl,rfl,SqL.of (u1 _ _ oX),ft i0 i1,(by show 1≤sizeLine;decide),fun r2 n2=>?_⟩
     have u2:=bx.new (o:=.lst [V.int (os.getD i.toNat 0)]) n2
     have w2:(upd J1 r2 (.lst [V.int (os.getD i.toNat 0)])) r2=some (.lst (([os.getD i.toNat 0]:List Int).map V.int)):=aq
     generalize upd J1 r2 (.lst [V.int (os.getD i.toNat 0)])=J2 at u2 w2
     refine ⟨r1,r2,_,_,rfl,rfl,u2 _ _ w1,w2,aL (aE (by rw [aa,aa];show _+1≤1000;lia)),fun r3 n3=>?_⟩
     rw [←aw]
     exact ⟨(u1.trans u2).next n3,r3,_,rfl,aq,by rw [ay];show _+1<64;lia⟩
    rintro σ' GB ⟨sB,lg,gs,rfl,gB,hgl⟩
    have tB:=tA.trans sB
    have sAB:=sA.trans sB
    have fB:=sB _ _ fA
    have oB:=sAB _ _ o9
    have Zf:Zts GB lf:=⟨fs,fB,hfl⟩
    have Zg:Zts GB lg:=⟨gs,gB,hgl⟩
    refine ⟨fun σ' H'=>∃(lo:Addr) (ys:List V) (v8 v9 v10 v11:Option V),σ'=[some (.ref a),some (.int m),some (.ref l),some (.ref p),some (.ref q),some (.ref x),some (.int ce),some (.ref lo),v8,v9,v10,v11,none,none]∧bx HW H'∧H' lo=some (.lst ys)∧ys.length≤10∧∀v∈ys,Pr2 H' v,?_,fun _ _ z=>z⟩
    refine ⟨_,rfl,_,rfl,_,rfl,(by show 2≤sizeLine;decide),fun z5 n5=>?_⟩
    have u5:=bx.new (o:=.tup [V.ref lf,V.ref lg]) n5
    have y5:Pr2 (upd GB z5 (.tup [V.ref lf,V.ref lg])) (.ref z5):=⟨z5,lf,lg,rfl,aq,Zf.same u5,Zg.same u5⟩
    generalize upd GB z5 (.tup [V.ref lf,V.ref lg])=J5 at u5 y5
    refine ⟨_,rfl,_,rfl,lg,gs,rfl,SqL.of (u5 _ _ gB),hgl,fun lk ks nlk hkp hks=>?_⟩
    have u6:=bx.new (o:=.lst (ks.map V.int)) nlk
    have w6:(upd J5 lk (.lst (ks.map V.int))) lk=some (.lst (ks.map V.int)):=aq
    generalize upd J5 lk (.lst (ks.map V.int))=J6 at u6 w6
    have v6:=u5.trans u6
    refine ⟨(by show 2≤sizeLine;decide),fun z6 n6=>?_⟩
    have u7:=bx.new (o:=.tup [V.ref lf,V.ref lk]) n6
    have y6:Pr2 (upd J6 z6 (.tup [V.ref lf,V.ref lk])) (.ref z6):=⟨z6,lf,lk,rfl,aq,Zf.same (v6.trans u7),⟨ks,u7 _ _ w6,by rw [hkp.length_eq];exact hgl⟩⟩
    generalize upd J6 z6 (.tup [V.ref lf,V.ref lk])=J7 at u7 y6
    have v7:=v6.trans u7
    refine ⟨_,rfl,_,rfl,(by show 2≤sizeLine;decide),fun z7 n7=>?_⟩
    have u8:=bx.new (o:=.tup [V.ref lf,V.ref q]) n7
    have y7:Pr2 (upd J7 z7 (.tup [V.ref lf,V.ref q])) (.ref z7):=⟨z7,lf,q,rfl,aq,Zf.same (v7.trans u8),Zt.same ((tB.trans v7).trans u8)⟩
    generalize upd J7 z7 (.tup [V.ref lf,V.ref q])=J8 at u8 y7
    have v8':=v7.trans u8
    refine ⟨(by show 3≤sizeLine;decide),fun l8 n8=>?_⟩
    have u9:=bx.new (o:=.lst [V.ref z5,V.ref z6,V.ref z7]) n8
    have w9:(upd J8 l8 (.lst [V.ref z5,V.ref z6,V.ref z7])) l8=some (.lst [V.ref z5,V.ref z6,V.ref z7]):=aq
    generalize upd J8 l8 (.lst [V.ref z5,V.ref z6,V.ref z7])=J9 at u9 w9
    have v9':=v8'.trans u9
    refine ⟨l9,l8,_,_,rfl,rfl,v9' _ _ oB,w9,aL (aE (by show ys.length+3≤1000;lia)),fun lA nA=>?_⟩
    have uA:=bx.new (o:=.lst (ys++[V.ref z5,V.ref z6,V.ref z7])) nA
    refine ⟨lA,_,_,_,_,_,rfl,tB.trans (v9'.trans uA),aq,(by rw [ay];show ys.length+3≤10;lia),fun v hv=>?_⟩
    rcases aM.mp hv with y | hv
    ·exact (all9 v y).same (sAB.trans (v9'.trans uA))
    rcases aU.mp hv with y | hv
    ·rw [y];exact y5.same (((u6.trans u7).trans u8).trans (u9.trans uA))
    rcases aU.mp hv with y | hv
    ·rw [y];exact y6.same (u8.trans (u9.trans uA))
    rw [ak.mp hv];exact y7.same (u9.trans uA)
  rintro σ' GC ⟨lo,ys,v8,v9,v10,v11,rfl,tC,oC,hyl,allC⟩
  refine ⟨_,rfl,lo,_,rfl,.inl (SqL.of oC),fun J C O hC=>fS O (fun i zs H'=>bx GC H'∧zs=au i (V.bl true)) (aL (aE (by lia))) ⟨bx.refl _,rfl⟩ ?_ ?_ ?_⟩
  ·rintro i zs HD hi ⟨sD,rfl⟩
   exact ⟨hC _ sD,by rw [bh];exact aN _⟩
  ·rintro i zs HD hi ⟨sD,rfl⟩
   obtain ⟨r,a',b',er,hr2,Za,Zb⟩:=(allC (ys.getD i .non) (by rw [ae,aj hi];exact cj _)).same sD
   obtain ⟨oz,ho1,ho2⟩:=Za.ex
   obtain ⟨tz,ht1,ht2⟩:=Zb.ex
   have tD:=tC.trans sD
   try dsimp only
   rw [er]
   refine ⟨dR rfl,fh ⟨_,rfl,_,rfl,_,rfl,_,rfl,r,_,0,.ref a',rfl,rfl,SqT.of hr2,rfl,_,rfl,r,_,1,.ref b',rfl,rfl,SqT.of hr2,rfl,l,x,a',b',m,xs,es,oz,tz,rfl,SqL.of (tD _ _ lW),pW.same tD,hw.same tD,SqL.of ho1,SqL.of ht1,ho2,ht2,m1,m2,he,hE,fun HE sE=>?_⟩⟩
   refine ⟨aE (by rw [bh];lia),_,by lia,rfl,by lia,sD.trans sE,?_⟩
   rw [List.replicate_succ']
  rintro zs HD ⟨sD,rfl⟩ lz nlz
  refine ⟨lz,_,rfl,.inl (SqL.of aq),(jq _).2,?_⟩
  rw [(jq _).1]
  refine ⟨_,rfl,gc ?_⟩
  have tE:=(tC.trans sD).next (o:=.lst (au ys.length (V.bl true))) nlz
  generalize upd HD lz (.lst (au ys.length (V.bl true)))=HE at tE
  refine ⟨_,rfl,_,_,rfl,rfl,_,rfl,?_⟩
  by_cases c1:(10:Int)<m
  ·rw [decide_eq_true c1]
   refine fh (fh ?_)
   refine ⟨_,rfl,_,_,rfl,rfl,_,rfl,?_⟩
   by_cases c3:(19:Int)<m
   ·rw [decide_eq_true c3]
    exact fh (k _)
   ·rw [decide_eq_false c3]
    refine gc ⟨_,rfl,_,_,rfl,rfl,_,rfl,_,rfl,_,_,rfl,rfl,_,rfl,l,_,rfl,.inl (SqL.of (tE _ _ lW)),fun l4 n4=>?_⟩
    have u4:=bx.new (o:=.lst xs) n4
    have w4:(upd HE l4 (.lst xs)) l4=some (.lst xs):=aq
    have t4:=tE.trans u4
    generalize upd HE l4 (.lst xs)=HF at u4 w4 t4
    refine ⟨l4,m+1,xs,es,rfl,.inl (SqL.of w4),pW.same t4,by lia,by lia,he,lK hE (by lia),fun x' HG nx' sG hw'=>?_⟩
    have tG:=t4.trans sG
    exact ⟨_,rfl,_,rfl,l,x',p,q,m+1,xs,es,os,ts,rfl,SqL.of (tG _ _ lW),pW.same tG,hw',SqL.of (tG _ _ oW),SqL.of (tG _ _ tW),hosl,htsl,by lia,by lia,he,lK hE (by lia),fun HH sH=>k _⟩
  ·rw [decide_eq_false c1]
   refine gc ⟨_,rfl,l,xs,rfl,.inl (SqL.of (tE _ _ lW)),_,_,rfl,rfl,_,rfl,?_⟩
   rw [hxl]
   by_cases c2:(20:Int)<(es.length:Int)
   ·rw [decide_eq_true c2]
    refine fh ?_
    refine ⟨_,rfl,_,_,rfl,rfl,_,rfl,?_⟩
    by_cases c3:(19:Int)<m
    ·rw [decide_eq_true c3]
     exact fh (k _)
    ·rw [decide_eq_false c3]
     refine gc ⟨_,rfl,_,_,rfl,rfl,_,rfl,_,rfl,_,_,rfl,rfl,_,rfl,l,_,rfl,.inl (SqL.of (tE _ _ lW)),fun l4 n4=>?_⟩
     have u4:=bx.new (o:=.lst xs) n4
     have w4:(upd HE l4 (.lst xs)) l4=some (.lst xs):=aq
     have t4:=tE.trans u4
     generalize upd HE l4 (.lst xs)=HF at u4 w4 t4
     refine ⟨l4,m+1,xs,es,rfl,.inl (SqL.of w4),pW.same t4,by lia,by lia,he,lK hE (by lia),fun x' HG nx' sG hw'=>?_⟩
     have tG:=t4.trans sG
     exact ⟨_,rfl,_,rfl,l,x',p,q,m+1,xs,es,os,ts,rfl,SqL.of (tG _ _ lW),pW.same tG,hw',SqL.of (tG _ _ oW),SqL.of (tG _ _ tW),hosl,htsl,by lia,by lia,he,lK hE (by lia),fun HH sH=>k _⟩
   ·rw [decide_eq_false c2]
    refine gc ?_
    refine ⟨_,rfl,l,xs,rfl,.inl (SqL.of (tE _ _ lW)),?_⟩
    refine ⟨_,rfl,_,rfl,l,xs,rfl,.inl (SqL.of (tE _ _ lW)),fun J C O hC=>fS O (fun j ys H'=>bx HE H'∧Pairs K H' ys ((es.take j).map fun e=>(e.1+m,e.2+m))) (aL (aE (by lia))) ⟨bx.refl _,.nil⟩ ?_ ?_ ?_⟩
    ·rintro j ys' HF hj ⟨sF,pF⟩
     exact ⟨hC _ sF,by rw [pF.len,aa,aC];lia⟩
    ·rintro j ys' HF hj ⟨sF,pF⟩
     obtain ⟨r,e,er,hr2,ei,he2⟩:=(pW.same (tE.trans sF)).at hj
     have hpl2:=pF.len
     rw [aa,aC] at hpl2
     try dsimp only
     rw [er]
     refine ⟨r,_,rfl,hr2,rfl,_,_,rfl,_,_,rfl,rfl,iu rfl rfl,fh ⟨_,rfl,_,rfl,_,_,rfl,rfl,_,rfl,_,rfl,_,_,rfl,rfl,(by show 2≤sizeLine;decide),fun z nz=>?_⟩⟩
     have uz:=bx.new (o:=.tup [.int (e.1+m),.int (e.2+m)]) nz
     refine ⟨aE (by lia),_,by lia,rfl,by lia,sF.trans uz,?_⟩
     rw [take_snoc ei,aw]
     exact (pF.same uz).snoc (e:=(e.1+m,e.2+m)) (SqT.of aq)
    rintro ys2 HF ⟨sF,pF⟩ lz2 nlz2
    rw [hxl,bD] at pF
    have hy2:=pF.len
    rw [aa] at hy2
    have uF:=bx.new (o:=.lst ys2) nlz2
    have wF:(upd HF lz2 (.lst ys2)) lz2=some (.lst ys2):=aq
    have pF:=pF.same uF
    have tF:=(tE.trans sF).trans uF
    generalize upd HF lz2 (.lst ys2)=HF2 at uF wF pF tF
    refine ⟨l,lz2,xs,ys2,rfl,rfl,tF _ _ lW,wF,aL (aE (by lia)),fun l2 n2=>?_⟩
    have uG:=bx.new (o:=.lst (xs++ys2)) n2
    have wG:(upd HF2 l2 (.lst (xs++ys2))) l2=some (.lst (xs++ys2)):=aq
    have tG:=tF.trans uG
    have pG:=(pW.same tG).append (pF.same uG)
    generalize upd HF2 l2 (.lst (xs++ys2))=HG at uG wG tG pG
    obtain ⟨e2,ee2⟩:∃e2,e2=es++es.map fun e=>(e.1+m,e.2+m):=⟨_,rfl⟩
    have he2l:e2.length≤40:=by rw [ee2,ay,aa];lia
    have hE2:de e2 (2*m):=fun e he'=>by
     rw [ee2] at he'
     rcases aM.mp he' with y | y
     ·have:=hE e y;lia
     ·obtain ⟨e0,h0,rfl⟩:=bE.mp y
      have:=hE e0 h0
      show 0≤e0.1+m∧e0.1+m<2*m∧0≤e0.2+m∧e0.2+m<2*m
      lia
    rw [←ee2] at pG
    clear ee2 pF wF uF sF tF
    have hhm:(os.map V.int).length=os.length:=aa ..
    have htm:(ts.map V.int).length=ts.length:=aa ..
    refine ⟨_,rfl,_,rfl,q,_,rfl,.inl (SqL.of (tG _ _ tW)),fun J C O hC=>fS O (fun j ys H'=>H'=HG∧∃zs:List Int,ys=zs.map V.int∧zs.length=j) (by rw [htm];exact aL (aE (by lia))) ⟨rfl,[],rfl,rfl⟩ ?_ ?_ ?_⟩
    ·rintro j ys' H' hj ⟨rfl,zs,rfl,hzl⟩
     exact ⟨hC _ (bx.refl _),by rw [aa];lia⟩
    ·rintro j ys' H' hj ⟨rfl,zs,rfl,hzl⟩
     obtain ⟨v,ev,gv⟩:=getD_map_int hj
     rw [htm] at hj
     try dsimp only
     rw [ev]
     exact ⟨dR rfl,fh ⟨_,rfl,_,rfl,_,_,rfl,rfl,aE (by rw [aa];lia),_,by lia,rfl,by lia,rfl,zs++[_],by rw [aw];rfl,by rw [ay,hzl];rfl⟩⟩
    rintro ys' H' ⟨rfl,zs,rfl,hzl⟩ r1 n1
    rw [htm] at hzl
    have u1:=bx.new (o:=.lst (zs.map V.int)) n1
    have w1:(upd H' r1 (.lst (zs.map V.int))) r1=some (.lst (zs.map V.int)):=aq
    have t1:=tG.trans u1
    generalize upd H' r1 (.lst (zs.map V.int))=J1 at u1 w1 t1
    refine ⟨p,r1,_,_,rfl,rfl,t1 _ _ oW,w1,aL (aE (by rw [aa,aa];lia)),fun lf nlf=>?_⟩
    rw [←aw]
    have u2:=u1.next (o:=.lst ((os++zs).map V.int)) nlf
    have w2:(upd J1 lf (.lst ((os++zs).map V.int))) lf=some (.lst ((os++zs).map V.int)):=aq
    have hfl:(os++zs).length<64:=by rw [ay];lia
    generalize os++zs=fs at u2 w2 hfl
    have t2:=tG.trans u2
    generalize upd J1 lf (.lst (fs.map V.int))=J2 at u2 w2 t2
    clear u1 w1 t1 hzl
    refine ⟨_,rfl,_,rfl,p,_,rfl,.inl (SqL.of (t2 _ _ oW)),fun J C O hC=>fS O (fun j ys H'=>H'=J2∧∃zs:List Int,ys=zs.map V.int∧zs.length=j) (by rw [hhm];exact aL (aE (by lia))) ⟨rfl,[],rfl,rfl⟩ ?_ ?_ ?_⟩
    ·rintro j ys' H' hj ⟨rfl,zs,rfl,hzl⟩
     exact ⟨hC _ (bx.refl _),by rw [aa];lia⟩
    ·rintro j ys' H' hj ⟨rfl,zs,rfl,hzl⟩
     obtain ⟨v,ev,gv⟩:=getD_map_int hj
     rw [hhm] at hj
     try dsimp only
     rw [ev]
     exact ⟨dR rfl,fh ⟨_,rfl,_,rfl,_,_,rfl,rfl,aE (by rw [aa];lia),_,by lia,rfl,by lia,rfl,zs++[_],by rw [aw];rfl,by rw [ay,hzl];rfl⟩⟩
    rintro ys' H' ⟨rfl,zs,rfl,hzl⟩ r1 n1
    rw [hhm] at hzl
    have u3:=bx.new (o:=.lst (zs.map V.int)) n1
    have w3:(upd H' r1 (.lst (zs.map V.int))) r1=some (.lst (zs.map V.int)):=aq
    generalize upd H' r1 (.lst (zs.map V.int))=J3 at u3 w3
    refine ⟨q,r1,_,_,rfl,rfl,(t2.trans u3) _ _ tW,w3,aL (aE (by rw [aa,aa];lia)),fun lg nlg=>?_⟩
    rw [←aw]
    have u4:=u3.next (o:=.lst ((ts++zs).map V.int)) nlg
    have w4:(upd J3 lg (.lst ((ts++zs).map V.int))) lg=some (.lst ((ts++zs).map V.int)):=aq
    have hgl:(ts++zs).length<64:=by rw [ay];lia
    generalize ts++zs=gs at u4 w4 hgl
    generalize upd J3 lg (.lst (gs.map V.int))=J4 at u4 w4
    have u24:=u2.trans u4
    refine ⟨_,rfl,_,_,rfl,rfl,.inl ⟨by decide,by decide⟩,_,rfl,_,rfl,_,_,rfl,rfl,.inl ⟨by decide,by decide⟩,_,rfl,l2,_,rfl,.inl (SqL.of (u24 _ _ wG)),fun l5 n5=>?_⟩
    have u5:=u24.next (o:=.lst (xs++ys2)) n5
    have w5:(upd J4 l5 (.lst (xs++ys2))) l5=some (.lst (xs++ys2)):=aq
    have v5:=u4.next (o:=.lst (xs++ys2)) n5
    have x5:=bx.new (o:=.lst (xs++ys2)) n5
    generalize upd J4 l5 (.lst (xs++ys2))=J5 at u5 w5 v5 x5
    refine ⟨l5,2*m,xs++ys2,e2,rfl,.inl (SqL.of w5),pG.same u5,by lia,by lia,he2l,hE2,fun x' J6 nx' s6 hw'=>?_⟩
    have u6:=u5.trans s6
    exact ⟨_,rfl,_,rfl,l2,x',lf,lg,2*m,xs++ys2,e2,fs,gs,rfl,SqL.of (u6 _ _ wG),pG.same u6,hw',SqL.of ((v5.trans s6) _ _ w2),SqL.of ((x5.trans s6) _ _ w4),hfl,hgl,by lia,by lia,he2l,hE2,fun HH sH=>k _⟩
end
theorem mn {us:List Value} (h:us.length=1):∃a,us=[a]:=List.length_eq_one_iff.mp h
theorem tP {us:List Value} {n:Nat} (h:us.length=n+1):∃a r,us=a::r∧r.length=n:=by
 cases us with
 | nil=>cases h
 | cons a r=>exact ⟨a,r,rfl,Nat.succ.inj h⟩
theorem gW {us:List Value} (h:us.length=2):∃a b,us=[a,b]:=by
 obtain ⟨a,r,rfl,h1⟩:=tP h
 obtain ⟨b,rfl⟩:=mn h1
 exact ⟨a,b,rfl⟩
theorem gU {us:List Value} (h:us.length=3):∃a b c,us=[a,b,c]:=by
 obtain ⟨a,r,rfl,h1⟩:=tP h
 obtain ⟨b,c,rfl⟩:=gW h1
 exact ⟨a,b,c,rfl⟩
theorem xH {us:List Value} (h:us.length=4):∃a b c d,us=[a,b,c,d]:=by
 obtain ⟨a,r,rfl,h1⟩:=tP h
 obtain ⟨b,c,d,rfl⟩:=gU h1
 exact ⟨a,b,c,d,rfl⟩
theorem AS {us:List Value} (h:us.length=5):∃a b c d e,us=[a,b,c,d,e]:=by
 obtain ⟨a,r,rfl,h1⟩:=tP h
 obtain ⟨b,c,d,e,rfl⟩:=xH h1
 exact ⟨a,b,c,d,e,rfl⟩
theorem all_mk {l:PySem.W.OpenLaw} {w:World} {K:ai} {h:Heap} {mg:Str→Option Value} {fa f1 f2 f3 f4 f5 f6 f7 f8 f9 f10 f11 f12 f13 f14 f15 f16 f17 f18 f19 f20 f21 f22 f23 f24 f25 f26 f27 f28 f29 f30 f31 f32 f33 f34 f35 f36 f37 f38 f39 f40 f41 f42 f43 f44 f45 f46 f47 f48 f49 f50 f51 f52 qFlowError qBadWeb qTooMany qBadPlace qBadTie qBadFlow qBadRest qNoFlow qBadSet qBadPaper qBadText qBadDeed qWeb:Addr} (X:K.In h) (G:h.Ns mainGlobals mg) (hfa:mg "law"=some (.ref fa))
  {tk1 tk2:Tok} {od1 an1 od2 an2 od3 an3 od4 an4 od5 an5 od6 an6 od7 an7 od8 an8 od9 an9 od10 an10 od11 an11 od12 an12 od13 an13 od14 an14 od15 an15 od16 an16 od17 an17 od18 an18 od19 an19 od20 an20 od21 an21 od22 an22 od23 an23 od24 an24 od25 an25 od26 an26 od27 an27 od28 an28 od29 an29 od30 an30 od31 an31 od32 an32 od33 an33 od34 an34 od35 an35 od36 an36 od37 an37 od38 an38 od39 an39 od40 an40 od41 an41 od42 an42 od43 an43 od44 an44 od45 an45 od46 an46 od47 an47 od48 an48 od49 an49 od50 an50 od51 an51 od52 an52:Option Addr} {sl1 sl2 sl3 sl4 sl5 sl6 sl7 sl8 sl9 sl10 sl11 sl12 sl13 sl14 sl15 sl16 sl17 sl18 sl19 sl20 sl21 sl22 sl23 sl24 sl25 sl26 sl27 sl28 sl29 sl30 sl31 sl32 sl33 sl34 sl35 sl36 sl37 sl38 sl39 sl40 sl41 sl42 sl43 sl44 sl45 sl46 sl47 sl48 sl49 sl50 sl51 sl52:Array (Option Value)} {oc1 kV1 dc1 pm1 cd1 ct1 oc2 kV2 dc2 pm2 cd2 ct2 oc3 kV3 dc3 pm3 cd3 ct3 oc4 kV4 dc4 pm4 cd4 ct4 oc5 kV5 dc5 pm5 cd5 ct5 oc6 kV6 dc6 pm6 cd6 ct6 oc7 kV7 dc7 pm7 cd7 ct7 oc8 kV8 dc8 pm8 cd8 ct8 oc9 kV9 dc9 pm9 cd9 ct9 oc10 kV10 dc10 pm10 cd10 ct10 oc11 kV11 dc11 pm11 cd11 ct11 oc12 kV12 dc12 pm12 cd12 ct12 oc13 kV13 dc13 pm13 cd13 ct13 oc14 kV14 dc14 pm14 cd14 ct14 oc15 kV15 dc15 pm15 cd15 ct15 oc16 kV16 dc16 pm16 cd16 ct16 oc17 kV17 dc17 pm17 cd17 ct17 oc18 kV18 dc18 pm18 cd18 ct18 oc19 kV19 dc19 pm19 cd19 ct19 oc20 kV20 dc20 pm20 cd20 ct20 oc21 kV21 dc21 pm21 cd21 ct21 oc22 kV22 dc22 pm22 cd22 ct22 oc23 kV23 dc23 pm23 cd23 ct23 oc24 kV24 dc24 pm24 cd24 ct24 oc25 kV25 dc25 pm25 cd25 ct25 oc26 kV26 dc26 pm26 cd26 ct26 oc27 kV27 dc27 pm27 cd27 ct27 oc28 kV28 dc28 pm28 cd28 ct28 oc29 kV29 dc29 pm29 cd29 ct29 oc30 kV30 dc30 pm30 cd30 ct30 oc31 kV31 dc31 pm31 cd31 ct31 oc32 kV32 dc32 pm32 cd32 ct32 oc33 kV33 dc33 pm33 cd33 ct33 oc34 kV34 dc34 pm34 cd34 ct34 oc35 kV35 dc35 pm35 cd35 ct35 oc36 kV36 dc36 pm36 cd36 ct36 oc37 kV37 dc37 pm37 cd37 ct37 oc38 kV38 dc38 pm38 cd38 ct38 oc39 kV39 dc39 pm39 cd39 ct39 oc40 kV40 dc40 pm40 cd40 ct40 oc41 kV41 dc41 pm41 cd41 ct41 oc42 kV42 dc42 pm42 cd42 ct42 oc43 kV43 dc43 pm43 cd43 ct43 oc44 kV44 dc44 pm44 cd44 ct44 oc45 kV45 dc45 pm45 cd45 ct45 oc46 kV46 dc46 pm46 cd46 ct46 oc47 kV47 dc47 pm47 cd47 ct47 oc48 kV48 dc48 pm48 cd48 ct48 oc49 kV49 dc49 pm49 cd49 ct49 oc50 kV50 dc50 pm50 cd50 ct50 oc51 kV51 dc51 pm51 cd51 ct51 oc52 kV52 dc52 pm52 cd52 ct52:Value}
  (aCFlowError:aD K mainGlobals "FlowError"=some (some (.ref qFlowError)))
  (aCBadWeb:aD K mainGlobals "BadWeb"=some (some (.ref qBadWeb)))
  (aCTooMany:aD K mainGlobals "TooMany"=some (some (.ref qTooMany)))
  (aCBadPlace:aD K mainGlobals "BadPlace"=some (some (.ref qBadPlace)))
  (aCBadTie:aD K mainGlobals "BadTie"=some (some (.ref qBadTie)))
  (aCBadFlow:aD K mainGlobals "BadFlow"=some (some (.ref qBadFlow)))
  (aCBadRest:aD K mainGlobals "BadRest"=some (some (.ref qBadRest)))
  (aCNoFlow:aD K mainGlobals "NoFlow"=some (some (.ref qNoFlow)))
  (aCBadSet:aD K mainGlobals "BadSet"=some (some (.ref qBadSet)))
  (aCBadPaper:aD K mainGlobals "BadPaper"=some (some (.ref qBadPaper)))
  (aCBadText:aD K mainGlobals "BadText"=some (some (.ref qBadText)))
  (aCBadDeed:aD K mainGlobals "BadDeed"=some (some (.ref qBadDeed)))
  (aCWeb:aD K mainGlobals "Web"=some (some (.ref qWeb)))
  (a1:cB K (.ref qWeb) "__init__"=some (some (.ref f1)))
  (i1:PySem.W.isFn K (.ref f1)=true)
  (l1:K.lookup f1=some ⟨oc1,od1,.func (aQ "__init__" "Web.__init__" (bZ sN) (bR sN) (az sN) .none kV1 dc1 pm1 an1 cd1 ct1),sl1⟩)
  (c1:aK K cd1 "Web.__init__"=true)
  (k1:aH K (.ref f1)=true)
  (a2:aD K mainGlobals "check_tie"=some (some (.ref f2)))
  (l2:K.lookup f2=some ⟨oc2,od2,.func (aQ "check_tie" "check_tie" (bZ sTi) (bR sTi) (az sTi) .none kV2 dc2 pm2 an2 cd2 ct2),sl2⟩)
  (c2:aK K cd2 "check_tie"=true)
  (k2:aH K (.ref f2)=true)
  (a3:aD K mainGlobals "merged"=some (some (.ref f3)))
  (l3:K.lookup f3=some ⟨oc3,od3,.func (aQ "merged" "merged" (bZ sMe) (bR sMe) (az sMe) .none kV3 dc3 pm3 an3 cd3 ct3),sl3⟩)
  (c3:aK K cd3 "merged"=true)
  (k3:aH K (.ref f3)=true)
  (a4:aD K mainGlobals "pieces"=some (some (.ref f4)))
  (l4:K.lookup f4=some ⟨oc4,od4,.func (aQ "pieces" "pieces" (bZ sPc) (bR sPc) (az sPc) .none kV4 dc4 pm4 an4 cd4 ct4),sl4⟩)
  (c4:aK K cd4 "pieces"=true)
  (k4:aH K (.ref f4)=true)
  (a5:aD K mainGlobals "check_amounts"=some (some (.ref f5)))
  (l5:K.lookup f5=some ⟨oc5,od5,.func (aQ "check_amounts" "check_amounts" (bZ sAm) (bR sAm) (az sAm) .none kV5 dc5 pm5 an5 cd5 ct5),sl5⟩)
  (c5:aK K cd5 "check_amounts"=true)
  (k5:aH K (.ref f5)=true)
  (a6:aD K mainGlobals "gains"=some (some (.ref f6)))
  (l6:K.lookup f6=some ⟨oc6,od6,.func (aQ "gains" "gains" (bZ sGs) (bR sGs) (az sGs) .none kV6 dc6 pm6 an6 cd6 ct6),sl6⟩)
  (c6:aK K cd6 "gains"=true)
  (k6:aH K (.ref f6)=true)
  (a7:aD K mainGlobals "added"=some (some (.ref f7)))
  (l7:K.lookup f7=some ⟨oc7,od7,.func (aQ "added" "added" (bZ sAd) (bR sAd) (az sAd) .none kV7 dc7 pm7 an7 cd7 ct7),sl7⟩)
  (c7:aK K cd7 "added"=true)
  (k7:aH K (.ref f7)=true)
  (a8:aD K mainGlobals "times"=some (some (.ref f8)))
  (l8:K.lookup f8=some ⟨oc8,od8,.func (aQ "times" "times" (bZ sTm) (bR sTm) (az sTm) .none kV8 dc8 pm8 an8 cd8 ct8),sl8⟩)
  (c8:aK K cd8 "times"=true)
  (k8:aH K (.ref f8)=true)
  (a9:aD K mainGlobals "check_bounds"=some (some (.ref f9)))
  (l9:K.lookup f9=some ⟨oc9,od9,.func (aQ "check_bounds" "check_bounds" (bZ sCb) (bR sCb) (az sCb) .none kV9 dc9 pm9 an9 cd9 ct9),sl9⟩)
  (c9:aK K cd9 "check_bounds"=true)
  (k9:aH K (.ref f9)=true)
  (a10:aD K mainGlobals "rooms_left"=some (some (.ref f10)))
  (l10:K.lookup f10=some ⟨oc10,od10,.func (aQ "rooms_left" "rooms_left" (bZ sRl) (bR sRl) (az sRl) .none kV10 dc10 pm10 an10 cd10 ct10),sl10⟩)
  (c10:aK K cd10 "rooms_left"=true)
  (k10:aH K (.ref f10)=true)
  (a11:aD K mainGlobals "steps_from"=some (some (.ref f11)))
  (l11:K.lookup f11=some ⟨oc11,od11,.func (aQ "steps_from" "steps_from" (bZ sSf) (bR sSf) (az sSf) .none kV11 dc11 pm11 an11 cd11 ct11),sl11⟩)
  (c11:aK K cd11 "steps_from"=true)
  (k11:aH K (.ref f11)=true)
  (a12:aD K mainGlobals "step_end"=some (some (.ref f12)))
  (l12:K.lookup f12=some ⟨oc12,od12,.func (aQ "step_end" "step_end" (bZ sSe) (bR sSe) (az sSe) .none kV12 dc12 pm12 an12 cd12 ct12),sl12⟩)
  (c12:aK K cd12 "step_end"=true)
  (k12:aH K (.ref f12)=true)
  (a13:aD K mainGlobals "ways_with_room"=some (some (.ref f13)))
  (l13:K.lookup f13=some ⟨oc13,od13,.func (aQ "ways_with_room" "ways_with_room" (bZ sWw) (bR sWw) (az sWw) .none kV13 dc13 pm13 an13 cd13 ct13),sl13⟩)
  (c13:aK K cd13 "ways_with_room"=true)
  (k13:aH K (.ref f13)=true)
  (a14:aD K mainGlobals "room_along"=some (some (.ref f14)))
  (l14:K.lookup f14=some ⟨oc14,od14,.func (aQ "room_along" "room_along" (bZ sRa) (bR sRa) (az sRa) .none kV14 dc14 pm14 an14 cd14 ct14),sl14⟩)
  (c14:aK K cd14 "room_along"=true)
  (k14:aH K (.ref f14)=true)
  (a15:aD K mainGlobals "pushed"=some (some (.ref f15)))
  (l15:K.lookup f15=some ⟨oc15,od15,.func (aQ "pushed" "pushed" (bZ sPu) (bR sPu) (az sPu) .none kV15 dc15 pm15 an15 cd15 ct15),sl15⟩)
  (c15:aK K cd15 "pushed"=true)
  (k15:aH K (.ref f15)=true)
  (a16:aD K mainGlobals "change_due"=some (some (.ref f16)))
  (l16:K.lookup f16=some ⟨oc16,od16,.func (aQ "change_due" "change_due" (bZ sCd) (bR sCd) (az sCd) .none kV16 dc16 pm16 an16 cd16 ct16),sl16⟩)
  (c16:aK K cd16 "change_due"=true)
  (k16:aH K (.ref f16)=true)
  (a17:aD K mainGlobals "between"=some (some (.ref f17)))
  (l17:K.lookup f17=some ⟨oc17,od17,.func (aQ "between" "between" (bZ sBt) (bR sBt) (az sBt) .none kV17 dc17 pm17 an17 cd17 ct17),sl17⟩)
  (c17:aK K cd17 "between"=true)
  (k17:aH K (.ref f17)=true)
  (a18:aD K mainGlobals "forest"=some (some (.ref f18)))
  (l18:K.lookup f18=some ⟨oc18,od18,.func (aQ "forest" "forest" (bZ sFr) (bR sFr) (az sFr) .none kV18 dc18 pm18 an18 cd18 ct18),sl18⟩)
  (c18:aK K cd18 "forest"=true)
  (k18:aH K (.ref f18)=true)
  (a19:aD K mainGlobals "free_ties"=some (some (.ref f19)))
  (l19:K.lookup f19=some ⟨oc19,od19,.func (aQ "free_ties" "free_ties" (bZ sFt) (bR sFt) (az sFt) .none kV19 dc19 pm19 an19 cd19 ct19),sl19⟩)
  (c19:aK K cd19 "free_ties"=true)
  (k19:aH K (.ref f19)=true)
  (a20:aD K mainGlobals "far_end"=some (some (.ref f20)))
  (l20:K.lookup f20=some ⟨oc20,od20,.func (aQ "far_end" "far_end" (bZ sFe) (bR sFe) (az sFe) .none kV20 dc20 pm20 an20 cd20 ct20),sl20⟩)
  (c20:aK K cd20 "far_end"=true)
  (k20:aH K (.ref f20)=true)
  (a21:aD K mainGlobals "find_way"=some (some (.ref f21)))
  (l21:K.lookup f21=some ⟨oc21,od21,.func (aQ "find_way" "find_way" (bZ sFw) (bR sFw) (az sFw) .none kV21 dc21 pm21 an21 cd21 ct21),sl21⟩)
  (c21:aK K cd21 "find_way"=true)
  (k21:aH K (.ref f21)=true)
  (a22:aD K mainGlobals "way_back"=some (some (.ref f22)))
  (l22:K.lookup f22=some ⟨oc22,od22,.func (aQ "way_back" "way_back" (bZ sWb) (bR sWb) (az sWb) .none kV22 dc22 pm22 an22 cd22 ct22),sl22⟩)
  (c22:aK K cd22 "way_back"=true)
  (k22:aH K (.ref f22)=true)
  (a23:aD K mainGlobals "ring_flow"=some (some (.ref f23)))
  (l23:K.lookup f23=some ⟨oc23,od23,.func (aQ "ring_flow" "ring_flow" (bZ sRg) (bR sRg) (az sRg) .none kV23 dc23 pm23 an23 cd23 ct23),sl23⟩)
  (c23:aK K cd23 "ring_flow"=true)
  (k23:aH K (.ref f23)=true)
  (a24:aD K mainGlobals "ring_of"=some (some (.ref f24)))
  (l24:K.lookup f24=some ⟨oc24,od24,.func (aQ "ring_of" "ring_of" (bZ sRo) (bR sRo) (az sRo) .none kV24 dc24 pm24 an24 cd24 ct24),sl24⟩)
  (c24:aK K cd24 "ring_of"=true)
  (k24:aH K (.ref f24)=true)
  (a25:aD K mainGlobals "check_rest"=some (some (.ref f25)))
  (l25:K.lookup f25=some ⟨oc25,od25,.func (aQ "check_rest" "check_rest" (bZ sCr) (bR sCr) (az sCr) .none kV25 dc25 pm25 an25 cd25 ct25),sl25⟩)
  (c25:aK K cd25 "check_rest"=true)
  (k25:aH K (.ref f25)=true)
  (a26:aD K mainGlobals "rests_of"=some (some (.ref f26)))
  (l26:K.lookup f26=some ⟨oc26,od26,.func (aQ "rests_of" "rests_of" (bZ sRs) (bR sRs) (az sRs) .none kV26 dc26 pm26 an26 cd26 ct26),sl26⟩)
  (c26:aK K cd26 "rests_of"=true)
  (k26:aH K (.ref f26)=true)
  (a27:aD K mainGlobals "is_rest_flow"=some (some (.ref f27)))
  (l27:K.lookup f27=some ⟨oc27,od27,.func (aQ "is_rest_flow" "is_rest_flow" (bZ sIr) (bR sIr) (az sIr) .none kV27 dc27 pm27 an27 cd27 ct27),sl27⟩)
  (c27:aK K cd27 "is_rest_flow"=true)
  (k27:aH K (.ref f27)=true)
  (a28:aD K mainGlobals "filled_whole"=some (some (.ref f28)))
  (l28:K.lookup f28=some ⟨oc28,od28,.func (aQ "filled_whole" "filled_whole" (bZ sFz) (bR sFz) (az sFz) .none kV28 dc28 pm28 an28 cd28 ct28),sl28⟩)
  (c28:aK K cd28 "filled_whole"=true)
  (k28:aH K (.ref f28)=true)
  (a29:aD K mainGlobals "reduced"=some (some (.ref f29)))
  (l29:K.lookup f29=some ⟨oc29,od29,.func (aQ "reduced" "reduced" (bZ sRd) (bR sRd) (az sRd) .none kV29 dc29 pm29 an29 cd29 ct29),sl29⟩)
  (c29:aK K cd29 "reduced"=true)
  (k29:aH K (.ref f29)=true)
  (a30:aD K mainGlobals "lifted"=some (some (.ref f30)))
  (l30:K.lookup f30=some ⟨oc30,od30,.func (aQ "lifted" "lifted" (bZ sLt) (bR sLt) (az sLt) .none kV30 dc30 pm30 an30 cd30 ct30),sl30⟩)
  (c30:aK K cd30 "lifted"=true)
  (k30:aH K (.ref f30)=true)
  (a31:aD K mainGlobals "check_set"=some (some (.ref f31)))
  (l31:K.lookup f31=some ⟨oc31,od31,.func (aQ "check_set" "check_set" (bZ sCk) (bR sCk) (az sCk) .none kV31 dc31 pm31 an31 cd31 ct31),sl31⟩)
  (c31:aK K cd31 "check_set"=true)
  (k31:aH K (.ref f31)=true)
  (a32:aD K mainGlobals "marks"=some (some (.ref f32)))
  (l32:K.lookup f32=some ⟨oc32,od32,.func (aQ "marks" "marks" (bZ sMr) (bR sMr) (az sMr) .none kV32 dc32 pm32 an32 cd32 ct32),sl32⟩)
  (c32:aK K cd32 "marks"=true)
  (k32:aH K (.ref f32)=true)
  (a33:aD K mainGlobals "is_even"=some (some (.ref f33)))
  (l33:K.lookup f33=some ⟨oc33,od33,.func (aQ "is_even" "is_even" (bZ sEv) (bR sEv) (az sEv) .none kV33 dc33 pm33 an33 cd33 ct33),sl33⟩)
  (c33:aK K cd33 "is_even"=true)
  (k33:aH K (.ref f33)=true)
  (a34:aD K mainGlobals "even_flow"=some (some (.ref f34)))
  (l34:K.lookup f34=some ⟨oc34,od34,.func (aQ "even_flow" "even_flow" (bZ sEf) (bR sEf) (az sEf) .none kV34 dc34 pm34 an34 cd34 ct34),sl34⟩)
  (c34:aK K cd34 "even_flow"=true)
  (k34:aH K (.ref f34)=true)
  (a35:aD K mainGlobals "is_spanning_forest"=some (some (.ref f35)))
  (l35:K.lookup f35=some ⟨oc35,od35,.func (aQ "is_spanning_forest" "is_spanning_forest" (bZ sSg) (bR sSg) (az sSg) .none kV35 dc35 pm35 an35 cd35 ct35),sl35⟩)
  (c35:aK K cd35 "is_spanning_forest"=true)
  (k35:aH K (.ref f35)=true)
  (a36:aD K mainGlobals "check_spanning_forest"=some (some (.ref f36)))
  (l36:K.lookup f36=some ⟨oc36,od36,.func (aQ "check_spanning_forest" "check_spanning_forest" (bZ sCg) (bR sCg) (az sCg) .none kV36 dc36 pm36 an36 cd36 ct36),sl36⟩)
  (c36:aK K cd36 "check_spanning_forest"=true)
  (k36:aH K (.ref f36)=true)
  (a37:aD K mainGlobals "completed"=some (some (.ref f37)))
  (l37:K.lookup f37=some ⟨oc37,od37,.func (aQ "completed" "completed" (bZ sCo) (bR sCo) (az sCo) .none kV37 dc37 pm37 an37 cd37 ct37),sl37⟩)
  (c37:aK K cd37 "completed"=true)
  (k37:aH K (.ref f37)=true)
  (a38:aD K mainGlobals "check_all_held"=some (some (.ref f38)))
  (l38:K.lookup f38=some ⟨oc38,od38,.func (aQ "check_all_held" "check_all_held" (bZ sAh) (bR sAh) (az sAh) .none kV38 dc38 pm38 an38 cd38 ct38),sl38⟩)
  (c38:aK K cd38 "check_all_held"=true)
  (k38:aH K (.ref f38)=true)
  (a39:aD K mainGlobals "layered"=some (some (.ref f39)))
  (l39:K.lookup f39=some ⟨oc39,od39,.func (aQ "layered" "layered" (bZ sLy) (bR sLy) (az sLy) .none kV39 dc39 pm39 an39 cd39 ct39),sl39⟩)
  (c39:aK K cd39 "layered"=true)
  (k39:aH K (.ref f39)=true)
  (a40:aD K mainGlobals "from_forests"=some (some (.ref f40)))
  (l40:K.lookup f40=some ⟨oc40,od40,.func (aQ "from_forests" "from_forests" (bZ sFf) (bR sFf) (az sFf) .none kV40 dc40 pm40 an40 cd40 ct40),sl40⟩)
  (c40:aK K cd40 "from_forests"=true)
  (k40:aH K (.ref f40)=true)
  (a41:aD K mainGlobals "_law_cell"=some (some (.ref f41)))
  (l41:K.lookup f41=some ⟨oc41,od41,.func (aQ "_law_cell" "_law_cell" (bZ sC) (bR sC) (az sC) .none kV41 dc41 pm41 an41 cd41 ct41),sl41⟩)
  (c41:aK K cd41 "_law_cell"=true)
  (k41:aH K (.ref f41)=true)
  (a42:aD K mainGlobals "_law_whole"=some (some (.ref f42)))
  (l42:K.lookup f42=some ⟨oc42,od42,.func (aQ "_law_whole" "_law_whole" (bZ sH) (bR sH) (az sH) .none kV42 dc42 pm42 an42 cd42 ct42),sl42⟩)
  (c42:aK K cd42 "_law_whole"=true)
  (k42:aH K (.ref f42)=true)
  (a43:aD K mainGlobals "_law_alone"=some (some (.ref f43)))
  (l43:K.lookup f43=some ⟨oc43,od43,.func (aQ "_law_alone" "_law_alone" (bZ sX) (bR sX) (az sX) .none kV43 dc43 pm43 an43 cd43 ct43),sl43⟩)
  (c43:aK K cd43 "_law_alone"=true)
  (k43:aH K (.ref f43)=true)
  (a44:aD K mainGlobals "_law_forest"=some (some (.ref f44)))
  (l44:K.lookup f44=some ⟨oc44,od44,.func (aQ "_law_forest" "_law_forest" (bZ sFo) (bR sFo) (az sFo) .none kV44 dc44 pm44 an44 cd44 ct44),sl44⟩)
  (c44:aK K cd44 "_law_forest"=true)
  (k44:aH K (.ref f44)=true)
  (a45:aD K mainGlobals "_law_gains"=some (some (.ref f45)))
  (l45:K.lookup f45=some ⟨oc45,od45,.func (aQ "_law_gains" "_law_gains" (bZ sLg) (bR sLg) (az sLg) .none kV45 dc45 pm45 an45 cd45 ct45),sl45⟩)
  (c45:aK K cd45 "_law_gains"=true)
  (k45:aH K (.ref f45)=true)
  (a46:aD K mainGlobals "_law_amounts"=some (some (.ref f46)))
  (l46:K.lookup f46=some ⟨oc46,od46,.func (aQ "_law_amounts" "_law_amounts" (bZ sLm) (bR sLm) (az sLm) .none kV46 dc46 pm46 an46 cd46 ct46),sl46⟩)
  (c46:aK K cd46 "_law_amounts"=true)
  (k46:aH K (.ref f46)=true)
  (a47:aD K mainGlobals "_law_bad_set"=some (some (.ref f47)))
  (l47:K.lookup f47=some ⟨oc47,od47,.func (aQ "_law_bad_set" "_law_bad_set" (bZ sBs) (bR sBs) (az sBs) .none kV47 dc47 pm47 an47 cd47 ct47),sl47⟩)
  (c47:aK K cd47 "_law_bad_set"=true)
  (k47:aH K (.ref f47)=true)
  (a48:aD K mainGlobals "_law_two_trees"=some (some (.ref f48)))
  (l48:K.lookup f48=some ⟨oc48,od48,.func (aQ "_law_two_trees" "_law_two_trees" (bZ sTt) (bR sTt) (az sTt) .none kV48 dc48 pm48 an48 cd48 ct48),sl48⟩)
  (c48:aK K cd48 "_law_two_trees"=true)
  (k48:aH K (.ref f48)=true)
  (a49:aD K mainGlobals "_law_refused"=some (some (.ref f49)))
  (l49:K.lookup f49=some ⟨oc49,od49,.func (aQ "_law_refused" "_law_refused" (bZ sRf) (bR sRf) (az sRf) .none kV49 dc49 pm49 an49 cd49 ct49),sl49⟩)
  (c49:aK K cd49 "_law_refused"=true)
  (k49:aH K (.ref f49)=true)
  (a50:aD K mainGlobals "_law_spans"=some (some (.ref f50)))
  (l50:K.lookup f50=some ⟨oc50,od50,.func (aQ "_law_spans" "_law_spans" (bZ sSn) (bR sSn) (az sSn) .none kV50 dc50 pm50 an50 cd50 ct50),sl50⟩)
  (c50:aK K cd50 "_law_spans"=true)
  (k50:aH K (.ref f50)=true)
  (a51:aD K mainGlobals "_law_right"=some (some (.ref f51)))
  (l51:K.lookup f51=some ⟨oc51,od51,.func (aQ "_law_right" "_law_right" (bZ sR) (bR sR) (az sR) .none kV51 dc51 pm51 an51 cd51 ct51),sl51⟩)
  (c51:aK K cd51 "_law_right"=true)
  (k51:aH K (.ref f51)=true)
  (a52:aD K mainGlobals "law"=some (some (.ref f52)))
  (l52:K.lookup f52=some ⟨oc52,od52,.func (aQ "law" "law" (bZ sL) (bR sL) (az sL) .none kV52 dc52 pm52 an52 cd52 ct52),sl52⟩)
  (c52:aK K cd52 "law"=true)
  (k52:aH K (.ref f52)=true)
  (pg:PySem.W.plainGet K qWeb Str.empty=true)
  (hd:PySem.W.hasDictIn K qWeb=true)
  (po:PySem.W.plainOver K qWeb=true)
  (sa:cB K (.ref qWeb) "__setattr__"=some (some (.builtin "object.__setattr__")))
  (nM:cB K (.ref qWeb) "many"=some none)
  (nT:cB K (.ref qWeb) "ties"=some none)
  (ca:cB K (.ref qWeb) "__class__"=some (some (.builtin "object.__class__")))
  (cg:PySem.W.specialIn K (.builtin "object.__class__") "__get__"=some (some (.builtin "getset_descriptor.__get__")))
  (ck:PySem.W.takesIn K (.builtin "object.__class__")=some true)
  (co:dH K qWeb (.type "object")=some true)
  (mk:PySem.W.makesIn K qWeb=true)
  (kc:aH K (.ref qWeb)=true)
  (mp:aD K mainGlobals "MOST_PLACES"=some (some (.int 20 tk1)))
  (mt:aD K mainGlobals "MOST_TIES"=some (some (.int 40 tk2)))
  (x_ie_FlowError:fD K qFlowError uU "ValueError.__new__"=true)
  (x_ie_BadTie:fD K qBadTie uU "ValueError.__new__"=true)
  (x_ie_BadFlow:fD K qBadFlow uU "ValueError.__new__"=true)
  (x_ie_BadRest:fD K qBadRest uU "ValueError.__new__"=true)
  (x_ie_BadSet:fD K qBadSet uU "ValueError.__new__"=true)
  (x_mr_BadSet:dH K qBadSet (.ref qFlowError)=some true)
  (x_ga_BadSet:cB K (.ref qBadSet) "__getattribute__"=some (some (.builtin "BaseException.__getattribute__")))
  (x_gn_BadSet:cB K (.ref qBadSet) "__getattr__"=some none)
  (x_cl_BadSet:cB K (.ref qBadSet) "__class__"=some (some (.builtin "object.__class__")))
  (x_co_BadSet:dH K qBadSet (.type "object")=some true)
  (x_cb_BadSet:dH K qBadSet (.type "BaseException")=some true)
  (x_is_BadSet:PySem.W.isClsIn K qBadSet=true)
  (x_k_BadSet_BadWeb:bu K (.ref qBadSet) (.ref qBadWeb)=some false)
  (x_k_BadSet_TooMany:bu K (.ref qBadSet) (.ref qTooMany)=some false)
  (x_k_BadSet_BadPlace:bu K (.ref qBadSet) (.ref qBadPlace)=some false)
  (x_k_BadSet_BadTie:bu K (.ref qBadSet) (.ref qBadTie)=some false)
  (x_k_BadSet_BadFlow:bu K (.ref qBadSet) (.ref qBadFlow)=some false)
  (x_k_BadSet_BadRest:bu K (.ref qBadSet) (.ref qBadRest)=some false)
  (x_k_BadSet_NoFlow:bu K (.ref qBadSet) (.ref qNoFlow)=some false)
  (x_k_BadSet_BadSet:bu K (.ref qBadSet) (.ref qBadSet)=some true)
  (x_k_BadSet_BadPaper:bu K (.ref qBadSet) (.ref qBadPaper)=some false)
  (x_k_BadSet_BadText:bu K (.ref qBadSet) (.ref qBadText)=some false)
  (x_k_BadSet_BadDeed:bu K (.ref qBadSet) (.ref qBadDeed)=some false)
  (x_kf_BadSet:bu K (.ref qBadSet) (.ref qFlowError)=some true)
  (x_kv_BadSet:bu K (.ref qBadSet) (.type "ValueError")=some true)
  (z0:aD K mainGlobals "ValueError"=some none)
  (z1:aD K mainGlobals "abs"=some none)
  (z2:aD K mainGlobals "all"=some none)
  (z3:aD K mainGlobals "any"=some none)
  (z4:aD K mainGlobals "bool"=some none)
  (z5:aD K mainGlobals "enumerate"=some none)
  (z6:aD K mainGlobals "int"=some none)
  (z7:aD K mainGlobals "isinstance"=some none)
  (z8:aD K mainGlobals "len"=some none)
  (z9:aD K mainGlobals "list"=some none)
  (z10:aD K mainGlobals "max"=some none)
  (z11:aD K mainGlobals "min"=some none)
  (z12:aD K mainGlobals "range"=some none)
  (z13:aD K mainGlobals "sorted"=some none)
  (z14:aD K mainGlobals "sum"=some none)
  (z15:aD K mainGlobals "tuple"=some none)
  (z16:aD K mainGlobals "zip"=some none) :
  ∃fd:FuncData,(∀(s:Shared) (v:Value),BindsTo s fd ⟨[v],[]⟩ [("script",v)])∧∀base:Heap,K.In base→base.Ns mainGlobals mg→fH l.prog w K mg base CX0 12 fa fd ["script"] (sP K):=by
 have e:=hfa.symm.trans (aF X G a52)
 cases e
 have T:Txt K mg (⟨qFlowError,qBadWeb,qTooMany,qBadPlace,qBadTie,qBadFlow,qBadRest,qNoFlow,qBadSet,qBadPaper,qBadText,qBadDeed,qWeb⟩:Cs):=⟨bL X G z0,bL X G z1,bL X G z2,bL X G z3,bL X G z4,bL X G z5,bL X G z6,bL X G z7,bL X G z8,bL X G z9,bL X G z10,bL X G z11,bL X G z12,bL X G z13,bL X G z14,bL X G z15,bL X G z16,aF X G aCFlowError,aF X G aCBadWeb,aF X G aCTooMany,aF X G aCBadPlace,aF X G aCBadTie,aF X G aCBadFlow,aF X G aCBadRest,aF X G aCNoFlow,aF X G aCBadSet,aF X G aCBadPaper,aF X G aCBadText,aF X G aCBadDeed,aF X G aCWeb,⟨⟨pg,hd,po,sa⟩,nM,nT,ca,cg,ck,co⟩,⟨_,aF X G mp⟩,⟨_,aF X G mt⟩,x_ie_FlowError,x_ie_BadTie,x_ie_BadFlow,x_ie_BadRest,x_ie_BadSet,x_mr_BadSet,⟨⟨x_ga_BadSet,x_gn_BadSet,x_cl_BadSet,cg,ck,x_co_BadSet,x_cb_BadSet,x_is_BadSet⟩,⟨_,_,_,_,_,_,_,_,_,_,_,x_k_BadSet_BadWeb,x_k_BadSet_TooMany,x_k_BadSet_BadPlace,x_k_BadSet_BadTie,x_k_BadSet_BadFlow,x_k_BadSet_BadRest,x_k_BadSet_NoFlow,x_k_BadSet_BadSet,x_k_BadSet_BadPaper,x_k_BadSet_BadText,x_k_BadSet_BadDeed,rfl⟩,x_kf_BadSet,x_kv_BadSet⟩⟩
 have F1:=cO (st:=sN) l1 c1 k1
 have F2:=cO (st:=sTi) l2 c2 k2
 have F3:=cO (st:=sMe) l3 c3 k3
 have F4:=cO (st:=sPc) l4 c4 k4
 have F5:=cO (st:=sAm) l5 c5 k5
 have F6:=cO (st:=sGs) l6 c6 k6
 have F7:=cO (st:=sAd) l7 c7 k7
 have F8:=cO (st:=sTm) l8 c8 k8
 have F9:=cO (st:=sCb) l9 c9 k9
 have F10:=cO (st:=sRl) l10 c10 k10
 have F11:=cO (st:=sSf) l11 c11 k11
 have F12:=cO (st:=sSe) l12 c12 k12
 have F13:=cO (st:=sWw) l13 c13 k13
 have F14:=cO (st:=sRa) l14 c14 k14
 have F15:=cO (st:=sPu) l15 c15 k15
 have F16:=cO (st:=sCd) l16 c16 k16
 have F17:=cO (st:=sBt) l17 c17 k17
 have F18:=cO (st:=sFr) l18 c18 k18
 have F19:=cO (st:=sFt) l19 c19 k19
 have F20:=cO (st:=sFe) l20 c20 k20
 have F21:=cO (st:=sFw) l21 c21 k21
 have F22:=cO (st:=sWb) l22 c22 k22
 have F23:=cO (st:=sRg) l23 c23 k23
 have F24:=cO (st:=sRo) l24 c24 k24
 have F25:=cO (st:=sCr) l25 c25 k25
 have F26:=cO (st:=sRs) l26 c26 k26
 have F27:=cO (st:=sIr) l27 c27 k27
 have F28:=cO (st:=sFz) l28 c28 k28
 have F29:=cO (st:=sRd) l29 c29 k29
 have F30:=cO (st:=sLt) l30 c30 k30
 have F31:=cO (st:=sCk) l31 c31 k31
 have F32:=cO (st:=sMr) l32 c32 k32
 have F33:=cO (st:=sEv) l33 c33 k33
 have F34:=cO (st:=sEf) l34 c34 k34
 have F35:=cO (st:=sSg) l35 c35 k35
 have F36:=cO (st:=sCg) l36 c36 k36
 have F37:=cO (st:=sCo) l37 c37 k37
 have F38:=cO (st:=sAh) l38 c38 k38
 have F39:=cO (st:=sLy) l39 c39 k39
 have F40:=cO (st:=sFf) l40 c40 k40
 have F41:=cO (st:=sC) l41 c41 k41
 have F42:=cO (st:=sH) l42 c42 k42
 have F43:=cO (st:=sX) l43 c43 k43
 have F44:=cO (st:=sFo) l44 c44 k44
 have F45:=cO (st:=sLg) l45 c45 k45
 have F46:=cO (st:=sLm) l46 c46 k46
 have F47:=cO (st:=sBs) l47 c47 k47
 have F48:=cO (st:=sTt) l48 c48 k48
 have F49:=cO (st:=sRf) l49 c49 k49
 have F50:=cO (st:=sSn) l50 c50 k50
 have F51:=cO (st:=sR) l51 c51 k51
 have F52:=cO (st:=sL) l52 c52 k52
 have b1:=F1.binds (ps:=["self","many","ties"]) fun _ _ _ _ _ _ us hl=>by obtain ⟨_,_,_,rfl⟩:=gU hl;rfl
 have b2:=F2.binds (ps:=["web","tie"]) fun _ _ _ _ _ _ us hl=>by obtain ⟨_,_,rfl⟩:=gW hl;rfl
 have b3:=F3.binds (ps:=["labels","one","two"]) fun _ _ _ _ _ _ us hl=>by obtain ⟨_,_,_,rfl⟩:=gU hl;rfl
 have b4:=F4.binds (ps:=["web"]) fun _ _ _ _ _ _ us hl=>by obtain ⟨_,rfl⟩:=mn hl;rfl
 have b5:=F5.binds (ps:=["web","flow"]) fun _ _ _ _ _ _ us hl=>by obtain ⟨_,_,rfl⟩:=gW hl;rfl
 have b6:=F6.binds (ps:=["web","flow"]) fun _ _ _ _ _ _ us hl=>by obtain ⟨_,_,rfl⟩:=gW hl;rfl
 have b7:=F7.binds (ps:=["one","two"]) fun _ _ _ _ _ _ us hl=>by obtain ⟨_,_,rfl⟩:=gW hl;rfl
 have b8:=F8.binds (ps:=["number","flow"]) fun _ _ _ _ _ _ us hl=>by obtain ⟨_,_,rfl⟩:=gW hl;rfl
 have b9:=F9.binds (ps:=["web","lows","highs"]) fun _ _ _ _ _ _ us hl=>by obtain ⟨_,_,_,rfl⟩:=gU hl;rfl
 have b10:=F10.binds (ps:=["amounts","lows","highs"]) fun _ _ _ _ _ _ us hl=>by obtain ⟨_,_,_,rfl⟩:=gU hl;rfl
 have b11:=F11.binds (ps:=["web","rooms","place"]) fun _ _ _ _ _ _ us hl=>by obtain ⟨_,_,_,rfl⟩:=gU hl;rfl
 have b12:=F12.binds (ps:=["web","step"]) fun _ _ _ _ _ _ us hl=>by obtain ⟨_,_,rfl⟩:=gW hl;rfl
 have b13:=F13.binds (ps:=["web","rooms","start"]) fun _ _ _ _ _ _ us hl=>by obtain ⟨_,_,_,rfl⟩:=gU hl;rfl
 have b14:=F14.binds (ps:=["rooms","steps"]) fun _ _ _ _ _ _ us hl=>by obtain ⟨_,_,rfl⟩:=gW hl;rfl
 have b15:=F15.binds (ps:=["amounts","steps","size"]) fun _ _ _ _ _ _ us hl=>by obtain ⟨_,_,_,rfl⟩:=gU hl;rfl
 have b16:=F16.binds (ps:=["amount","low","high"]) fun _ _ _ _ _ _ us hl=>by obtain ⟨_,_,_,rfl⟩:=gU hl;rfl
 have b17:=F17.binds (ps:=["web","lows","highs"]) fun _ _ _ _ _ _ us hl=>by obtain ⟨_,_,_,rfl⟩:=gU hl;rfl
 have b18:=F18.binds (ps:=["web"]) fun _ _ _ _ _ _ us hl=>by obtain ⟨_,rfl⟩:=mn hl;rfl
 have b19:=F19.binds (ps:=["web"]) fun _ _ _ _ _ _ us hl=>by obtain ⟨_,rfl⟩:=mn hl;rfl
 have b20:=F20.binds (ps:=["web","tie","place"]) fun _ _ _ _ _ _ us hl=>by obtain ⟨_,_,_,rfl⟩:=gU hl;rfl
 have b21:=F21.binds (ps:=["web","some","start","goal"]) fun _ _ _ _ _ _ us hl=>by obtain ⟨_,_,_,_,rfl⟩:=xH hl;rfl
 have b22:=F22.binds (ps:=["web","tie","some"]) fun _ _ _ _ _ _ us hl=>by obtain ⟨_,_,_,rfl⟩:=gU hl;rfl
 have b23:=F23.binds (ps:=["web","tie","back"]) fun _ _ _ _ _ _ us hl=>by obtain ⟨_,_,_,rfl⟩:=gU hl;rfl
 have b24:=F24.binds (ps:=["web","tie"]) fun _ _ _ _ _ _ us hl=>by obtain ⟨_,_,rfl⟩:=gW hl;rfl
 have b25:=F25.binds (ps:=["k"]) fun _ _ _ _ _ _ us hl=>by obtain ⟨_,rfl⟩:=mn hl;rfl
 have b26:=F26.binds (ps:=["amounts","k"]) fun _ _ _ _ _ _ us hl=>by obtain ⟨_,_,rfl⟩:=gW hl;rfl
 have b27:=F27.binds (ps:=["web","rests","k"]) fun _ _ _ _ _ _ us hl=>by obtain ⟨_,_,_,rfl⟩:=gU hl;rfl
 have b28:=F28.binds (ps:=["web","values"]) fun _ _ _ _ _ _ us hl=>by obtain ⟨_,_,rfl⟩:=gW hl;rfl
 have b29:=F29.binds (ps:=["web","flow","k"]) fun _ _ _ _ _ _ us hl=>by obtain ⟨_,_,_,rfl⟩:=gU hl;rfl
 have b30:=F30.binds (ps:=["web","rests","k"]) fun _ _ _ _ _ _ us hl=>by obtain ⟨_,_,_,rfl⟩:=gU hl;rfl
 have b31:=F31.binds (ps:=["web","some"]) fun _ _ _ _ _ _ us hl=>by obtain ⟨_,_,rfl⟩:=gW hl;rfl
 have b32:=F32.binds (ps:=["web","some"]) fun _ _ _ _ _ _ us hl=>by obtain ⟨_,_,rfl⟩:=gW hl;rfl
 have b33:=F33.binds (ps:=["web","some"]) fun _ _ _ _ _ _ us hl=>by obtain ⟨_,_,rfl⟩:=gW hl;rfl
 have b34:=F34.binds (ps:=["web","some"]) fun _ _ _ _ _ _ us hl=>by obtain ⟨_,_,rfl⟩:=gW hl;rfl
 have b35:=F35.binds (ps:=["web","some"]) fun _ _ _ _ _ _ us hl=>by obtain ⟨_,_,rfl⟩:=gW hl;rfl
 have b36:=F36.binds (ps:=["web","some"]) fun _ _ _ _ _ _ us hl=>by obtain ⟨_,_,rfl⟩:=gW hl;rfl
 have b37:=F37.binds (ps:=["web","some"]) fun _ _ _ _ _ _ us hl=>by obtain ⟨_,_,rfl⟩:=gW hl;rfl
 have b38:=F38.binds (ps:=["web","sets"]) fun _ _ _ _ _ _ us hl=>by obtain ⟨_,_,rfl⟩:=gW hl;rfl
 have b39:=F39.binds (ps:=["web","sets"]) fun _ _ _ _ _ _ us hl=>by obtain ⟨_,_,rfl⟩:=gW hl;rfl
 have b40:=F40.binds (ps:=["web","one","two"]) fun _ _ _ _ _ _ us hl=>by obtain ⟨_,_,_,rfl⟩:=gU hl;rfl
 have b41:=F41.binds (ps:=["script","k"]) fun _ _ _ _ _ _ us hl=>by obtain ⟨_,_,rfl⟩:=gW hl;rfl
 have b42:=F42.binds (ps:=["found"]) fun _ _ _ _ _ _ us hl=>by obtain ⟨_,rfl⟩:=mn hl;rfl
 have b43:=F43.binds (ps:=["e"]) fun _ _ _ _ _ _ us hl=>by obtain ⟨_,rfl⟩:=mn hl;rfl
 have b44:=F44.binds (ps:=["many","ends","order"]) fun _ _ _ _ _ _ us hl=>by obtain ⟨_,_,_,rfl⟩:=gU hl;rfl
 have b45:=F45.binds (ps:=["many","ends","amounts"]) fun _ _ _ _ _ _ us hl=>by obtain ⟨_,_,_,rfl⟩:=gU hl;rfl
 have b46:=F46.binds (ps:=["found","many"]) fun _ _ _ _ _ _ us hl=>by obtain ⟨_,_,rfl⟩:=gW hl;rfl
 have b47:=F47.binds (ps:=["some","count","cell"]) fun _ _ _ _ _ _ us hl=>by obtain ⟨_,_,_,rfl⟩:=gU hl;rfl
 have b48:=F48.binds (ps:=["script"]) fun _ _ _ _ _ _ us hl=>by obtain ⟨_,rfl⟩:=mn hl;rfl
 have b49:=F49.binds (ps:=["web","one","two"]) fun _ _ _ _ _ _ us hl=>by obtain ⟨_,_,_,rfl⟩:=gU hl;rfl
 have b50:=F50.binds (ps:=["many","ends","some"]) fun _ _ _ _ _ _ us hl=>by obtain ⟨_,_,_,rfl⟩:=gU hl;rfl
 have b51:=F51.binds (ps:=["many","ends","web","one","two"]) fun _ _ _ _ _ _ us hl=>by obtain ⟨_,_,_,_,_,rfl⟩:=AS hl;rfl
 refine ⟨aQ "law" "law" (bZ sL) (bR sL) (az sL) .none kV52 dc52 pm52 an52 cd52 ct52,fun s v=>.of_eq rfl,fun base _ _=>?_⟩
 have D_N:sj l.prog w K mg base 1 "Web" qWeb ["self","many","ties"] (lU K qWeb):=⟨f1,_,⟨mk,a1,i1,kc⟩,CJ F1 T,b1,aF X G aCWeb⟩
 have D_Ti:hX l.prog w K mg base 1 "check_tie" ["web","tie"] (yY K qWeb qBadTie):=.of F2 (aF X G a2) b2 (zY F2 T )
 have D_Me:Def l.prog w K mg base 1 "merged" ["labels","one","two"] (yn K):=.of F3 (aF X G a3) b3 (Am F3 T )
 have D_Pc:Def l.prog w K mg base 2 "pieces" ["web"] (zk K (⟨qFlowError,qBadWeb,qTooMany,qBadPlace,qBadTie,qBadFlow,qBadRest,qNoFlow,qBadSet,qBadPaper,qBadText,qBadDeed,qWeb⟩:Cs)):=.of F4 (aF X G a4) b4 (Ak F4 T D_Me)
 have D_Am:hX l.prog w K mg base 1 "check_amounts" ["web","flow"] (yv K qWeb qBadFlow):=.of F5 (aF X G a5) b5 (AM F5 T )
 have D_Gs:Def l.prog w K mg base 1 "gains" ["web","flow"] (zr K qWeb):=.of F6 (aF X G a6) b6 (As F6 T )
 have D_Ad:hX l.prog w K mg base 1 "added" ["one","two"] (xf K qBadFlow):=.of F7 (aF X G a7) b7 (AO F7 T )
 have D_Tm:Def l.prog w K mg base 1 "times" ["number","flow"] (xb K):=.of F8 (aF X G a8) b8 (zX F8 T )
 have D_Cb:Def l.prog w K mg base 2 "check_bounds" ["web","lows","highs"] (zE K (⟨qFlowError,qBadWeb,qTooMany,qBadPlace,qBadTie,qBadFlow,qBadRest,qNoFlow,qBadSet,qBadPaper,qBadText,qBadDeed,qWeb⟩:Cs)):=.of F9 (aF X G a9) b9 (AJ F9 T D_Am)
 have D_Rl:Def l.prog w K mg base 1 "rooms_left" ["amounts","lows","highs"] (zf K):=.of F10 (aF X G a10) b10 (Ae F10 T )
 have D_Sf:Def l.prog w K mg base 1 "steps_from" ["web","rooms","place"] (za K (⟨qFlowError,qBadWeb,qTooMany,qBadPlace,qBadTie,qBadFlow,qBadRest,qNoFlow,qBadSet,qBadPaper,qBadText,qBadDeed,qWeb⟩:Cs)):=.of F11 (aF X G a11) b11 (Aa F11 T )
 have D_Se:Def l.prog w K mg base 1 "step_end" ["web","step"] (yk K (⟨qFlowError,qBadWeb,qTooMany,qBadPlace,qBadTie,qBadFlow,qBadRest,qNoFlow,qBadSet,qBadPaper,qBadText,qBadDeed,qWeb⟩:Cs)):=.of F12 (aF X G a12) b12 (Ab F12 T )
 have D_Ww:Def l.prog w K mg base 2 "ways_with_room" ["web","rooms","start"] (yW K (⟨qFlowError,qBadWeb,qTooMany,qBadPlace,qBadTie,qBadFlow,qBadRest,qNoFlow,qBadSet,qBadPaper,qBadText,qBadDeed,qWeb⟩:Cs)):=.of F13 (aF X G a13) b13 (zU F13 T D_Sf D_Se)
 have D_Ra:Def l.prog w K mg base 1 "room_along" ["rooms","steps"] (zi K):=.of F14 (aF X G a14) b14 (Ai F14 T )
 have D_Pu:Def l.prog w K mg base 1 "pushed" ["amounts","steps","size"] (zj K):=.of F15 (aF X G a15) b15 (Aj F15 T )
 have D_Cd:Def l.prog w K mg base 1 "change_due" ["amount","low","high"] (zD K):=.of F16 (aF X G a16) b16 (AI F16 T )
 have D_Bt:Def l.prog w K mg base 3 "between" ["web","lows","highs"] (zF K (⟨qFlowError,qBadWeb,qTooMany,qBadPlace,qBadTie,qBadFlow,qBadRest,qNoFlow,qBadSet,qBadPaper,qBadText,qBadDeed,qWeb⟩:Cs)):=.of F17 (aF X G a17) b17 (AK F17 T D_Cb D_Rl D_Se D_Ww D_Ra D_Pu D_Cd)
 have D_Fe:Def l.prog w K mg base 1 "far_end" ["web","tie","place"] (yr K (⟨qFlowError,qBadWeb,qTooMany,qBadPlace,qBadTie,qBadFlow,qBadRest,qNoFlow,qBadSet,qBadPaper,qBadText,qBadDeed,qWeb⟩:Cs)):=.of F20 (aF X G a20) b20 (AA F20 T )
 have D_Fw:Def l.prog w K mg base 2 "find_way" ["web","some","start","goal"] (zu K (⟨qFlowError,qBadWeb,qTooMany,qBadPlace,qBadTie,qBadFlow,qBadRest,qNoFlow,qBadSet,qBadPaper,qBadText,qBadDeed,qWeb⟩:Cs)):=.of F21 (aF X G a21) b21 (Av F21 T D_Fe)
 have D_Fr:Def l.prog w K mg base 2 "forest" ["web"] (yp K (⟨qFlowError,qBadWeb,qTooMany,qBadPlace,qBadTie,qBadFlow,qBadRest,qNoFlow,qBadSet,qBadPaper,qBadText,qBadDeed,qWeb⟩:Cs)):=.of F18 (aF X G a18) b18 (Ax F18 T D_Me)
 have D_Ft:Def l.prog w K mg base 3 "free_ties" ["web"] (xc K (⟨qFlowError,qBadWeb,qTooMany,qBadPlace,qBadTie,qBadFlow,qBadRest,qNoFlow,qBadSet,qBadPaper,qBadText,qBadDeed,qWeb⟩:Cs)):=.of F19 (aF X G a19) b19 (Aw F19 T D_Fr)
 have D_Wb:Def l.prog w K mg base 3 "way_back" ["web","tie","some"] (yj K (⟨qFlowError,qBadWeb,qTooMany,qBadPlace,qBadTie,qBadFlow,qBadRest,qNoFlow,qBadSet,qBadPaper,qBadText,qBadDeed,qWeb⟩:Cs)):=.of F22 (aF X G a22) b22 (zV F22 T D_Fw)
 have D_Rg:Def l.prog w K mg base 2 "ring_flow" ["web","tie","back"] (zg K (⟨qFlowError,qBadWeb,qTooMany,qBadPlace,qBadTie,qBadFlow,qBadRest,qNoFlow,qBadSet,qBadPaper,qBadText,qBadDeed,qWeb⟩:Cs)):=.of F23 (aF X G a23) b23 (Af F23 T D_Fe)
 have D_Ro:hX l.prog w K mg base 4 "ring_of" ["web","tie"] (ze K (⟨qFlowError,qBadWeb,qTooMany,qBadPlace,qBadTie,qBadFlow,qBadRest,qNoFlow,qBadSet,qBadPaper,qBadText,qBadDeed,qWeb⟩:Cs)):=.of F24 (aF X G a24) b24 (Ad F24 T D_Ti D_Fr D_Wb D_Rg)
 have D_Cr:hX l.prog w K mg base 1 "check_rest" ["k"] (yt K qBadRest):=.of F25 (aF X G a25) b25 (AE F25 T )
 have D_Rs:hX l.prog w K mg base 2 "rests_of" ["amounts","k"] (zc K qBadRest):=.of F26 (aF X G a26) b26 (Ac F26 T D_Cr)
 have D_Ir:hX l.prog w K mg base 3 "is_rest_flow" ["web","rests","k"] (yo K (⟨qFlowError,qBadWeb,qTooMany,qBadPlace,qBadTie,qBadFlow,qBadRest,qNoFlow,qBadSet,qBadPaper,qBadText,qBadDeed,qWeb⟩:Cs)):=.of F27 (aF X G a27) b27 (Ar F27 T D_Cr D_Am D_Rs D_Gs)
 have D_Fz:hX l.prog w K mg base 5 "filled_whole" ["web","values"] (zt K (⟨qFlowError,qBadWeb,qTooMany,qBadPlace,qBadTie,qBadFlow,qBadRest,qNoFlow,qBadSet,qBadPaper,qBadText,qBadDeed,qWeb⟩:Cs)):=.of F28 (aF X G a28) b28 (Au F28 T D_Ft D_Ad D_Tm D_Ro)
 have D_Rd:Def l.prog w K mg base 4 "reduced" ["web","flow","k"] (zh K (⟨qFlowError,qBadWeb,qTooMany,qBadPlace,qBadTie,qBadFlow,qBadRest,qNoFlow,qBadSet,qBadPaper,qBadText,qBadDeed,qWeb⟩:Cs)):=.of F29 (aF X G a29) b29 (Ah F29 T D_Ad D_Tm D_Bt)
 have D_Lt:Def l.prog w K mg base 6 "lifted" ["web","rests","k"] (zo K (⟨qFlowError,qBadWeb,qTooMany,qBadPlace,qBadTie,qBadFlow,qBadRest,qNoFlow,qBadSet,qBadPaper,qBadText,qBadDeed,qWeb⟩:Cs)):=.of F30 (aF X G a30) b30 (Ao F30 T D_Ir D_Ft D_Fz D_Rd)
 have D_Ck:hX l.prog w K mg base 1 "check_set" ["web","some"] (yu K (⟨qFlowError,qBadWeb,qTooMany,qBadPlace,qBadTie,qBadFlow,qBadRest,qNoFlow,qBadSet,qBadPaper,qBadText,qBadDeed,qWeb⟩:Cs)):=.of F31 (aF X G a31) b31 (AG F31 T )
 have D_Mr:Def l.prog w K mg base 1 "marks" ["web","some"] (ym K (⟨qFlowError,qBadWeb,qTooMany,qBadPlace,qBadTie,qBadFlow,qBadRest,qNoFlow,qBadSet,qBadPaper,qBadText,qBadDeed,qWeb⟩:Cs)):=.of F32 (aF X G a32) b32 (Al F32 T )
 have D_Ev:hX l.prog w K mg base 4 "is_even" ["web","some"] (zx K (⟨qFlowError,qBadWeb,qTooMany,qBadPlace,qBadTie,qBadFlow,qBadRest,qNoFlow,qBadSet,qBadPaper,qBadText,qBadDeed,qWeb⟩:Cs)):=.of F33 (aF X G a33) b33 (AB F33 T D_Ck D_Mr D_Ir)
 have D_Ef:hX l.prog w K mg base 7 "even_flow" ["web","some"] (zy K (⟨qFlowError,qBadWeb,qTooMany,qBadPlace,qBadTie,qBadFlow,qBadRest,qNoFlow,qBadSet,qBadPaper,qBadText,qBadDeed,qWeb⟩:Cs)):=.of F34 (aF X G a34) b34 (AD F34 T D_Ev D_Mr D_Lt)
 have D_Sg:Def l.prog w K mg base 4 "is_spanning_forest" ["web","some"] (y_ K (⟨qFlowError,qBadWeb,qTooMany,qBadPlace,qBadTie,qBadFlow,qBadRest,qNoFlow,qBadSet,qBadPaper,qBadText,qBadDeed,qWeb⟩:Cs)):=.of F35 (aF X G a35) b35 (z_ F35 T D_Ft D_Pc D_N)
 have D_Cg:hX l.prog w K mg base 5 "check_spanning_forest" ["web","some"] (zC K (⟨qFlowError,qBadWeb,qTooMany,qBadPlace,qBadTie,qBadFlow,qBadRest,qNoFlow,qBadSet,qBadPaper,qBadText,qBadDeed,qWeb⟩:Cs)):=.of F36 (aF X G a36) b36 (AH F36 T D_Ck D_Sg)
 have D_Co:hX l.prog w K mg base 6 "completed" ["web","some"] (zA K (⟨qFlowError,qBadWeb,qTooMany,qBadPlace,qBadTie,qBadFlow,qBadRest,qNoFlow,qBadSet,qBadPaper,qBadText,qBadDeed,qWeb⟩:Cs)):=.of F37 (aF X G a37) b37 (AF F37 T D_Cg D_Wb)
 have D_Ah:hX l.prog w K mg base 1 "check_all_held" ["web","sets"] (zH K (⟨qFlowError,qBadWeb,qTooMany,qBadPlace,qBadTie,qBadFlow,qBadRest,qNoFlow,qBadSet,qBadPaper,qBadText,qBadDeed,qWeb⟩:Cs)):=.of F38 (aF X G a38) b38 (AN F38 T )
 have D_Ly:hX l.prog w K mg base 8 "layered" ["web","sets"] (zm K (⟨qFlowError,qBadWeb,qTooMany,qBadPlace,qBadTie,qBadFlow,qBadRest,qNoFlow,qBadSet,qBadPaper,qBadText,qBadDeed,qWeb⟩:Cs)):=.of F39 (aF X G a39) b39 (An F39 T D_Ef D_Ad D_Tm D_Ah)
 have D_Ff:hX l.prog w K mg base 9 "from_forests" ["web","one","two"] (yq K (⟨qFlowError,qBadWeb,qTooMany,qBadPlace,qBadTie,qBadFlow,qBadRest,qNoFlow,qBadSet,qBadPaper,qBadText,qBadDeed,qWeb⟩:Cs)):=.of F40 (aF X G a40) b40 (Az F40 T D_Co D_Ly)
 have D_C:Def l.prog w K mg base 1 "_law_cell" ["script","k"] (spC K):=.of F41 (aF X G a41) b41 (CM F41 T )
 have D_H:Def l.prog w K mg base 1 "_law_whole" ["found"] (spH K):=.of F42 (aF X G a42) b42 (CL F42 T )
 have D_X:yh l.prog w K mg base 1 "_law_alone" ["e"] (spX K (⟨qFlowError,qBadWeb,qTooMany,qBadPlace,qBadTie,qBadFlow,qBadRest,qNoFlow,qBadSet,qBadPaper,qBadText,qBadDeed,qWeb⟩:Cs)):=.of F43 (aF X G a43) b43 (CH F43 T )
 have D_Fo:Def l.prog w K mg base 1 "_law_forest" ["many","ends","order"] (zw K):=.of F44 (aF X G a44) b44 (Ay F44 T )
 have D_Lg:Def l.prog w K mg base 1 "_law_gains" ["many","ends","amounts"] (zq K):=.of F45 (aF X G a45) b45 (Aq F45 T )
 have D_Lm:Def l.prog w K mg base 2 "_law_amounts" ["found","many"] (zp K):=.of F46 (aF X G a46) b46 (Ap F46 T D_H)
 have D_Bs:Def l.prog w K mg base 1 "_law_bad_set" ["some","count","cell"] (zG K):=.of F47 (aF X G a47) b47 (AL F47 T )
 have D_Tt:Def l.prog w K mg base 2 "_law_two_trees" ["script"] (yX K):=.of F48 (aF X G a48) b48 (zW F48 T D_C)
 have D_Rf:Def l.prog w K mg base 10 "_law_refused" ["web","one","two"] (yl K (⟨qFlowError,qBadWeb,qTooMany,qBadPlace,qBadTie,qBadFlow,qBadRest,qNoFlow,qBadSet,qBadPaper,qBadText,qBadDeed,qWeb⟩:Cs)):=.of F49 (aF X G a49) b49 (Ag F49 T D_Ff D_X)
 have D_Sn:Def l.prog w K mg base 2 "_law_spans" ["many","ends","some"] (yZ K):=.of F50 (aF X G a50) b50 (zZ F50 T D_Fo)
 have D_R:Def l.prog w K mg base 11 "_law_right" ["many","ends","web","one","two"] (spR K (⟨qFlowError,qBadWeb,qTooMany,qBadPlace,qBadTie,qBadFlow,qBadRest,qNoFlow,qBadSet,qBadPaper,qBadText,qBadDeed,qWeb⟩:Cs)):=.of F51 (aF X G a51) b51 (CI F51 T D_Sn D_Rf D_Ff D_Lm D_Lg)
 exact CK F52 T D_C D_Tt D_Bs D_R D_N
theorem walk {l:PySem.W.OpenLaw} {q:Program} {loose:List Str} {XP:(Str→Option Value)→Heap→Prop} {YP:World→Heap→Prop} {d:DefRec} {K:Params→ai} (hn:l.most=some 63) (hdf:d.params.defaults=[])
  (hY:∀(w:World) (h:Heap),YP w h→(K w.params).In h)
  (F:∀(w:World) (mg:Str→Option Value) (fa:Addr) (h:Heap),(K w.params).In h→h.Ns mainGlobals mg→mg d.name=some (.ref fa) →
   ∃fd:FuncData,(∀(s:Shared) (u:Value),BindsTo s fd ⟨[u],[]⟩ [("script",u)])∧∀base:Heap,(K w.params).In base→base.Ns mainGlobals mg→fH l.prog w (K w.params) mg base CX0 12 fa fd ["script"] (sP (K w.params))) :
  PySem.W.WalkO q loose XP YP l.row.toRowW d [] (fun f vs=>PySem.call f vs) :=
 L2.uS (n:=63) (k:=12) (x:="script") (CX:=fun _=>CX0) (sp:=fun w=>sP (K w.params)) hn (by decide) hdf ⟨rfl,by decide,by decide⟩ hY F (fun _ _ a ns hl _ hS=>⟨a,ns,rfl,hS,hl,fun _=>rfl⟩) fun _ _ _ _ _ z=>z
end Pk
namespace PySem.W.Fast
theorem tw15464771420519295621:True:=⟨⟩
theorem tw3049036180706271901:True:=⟨⟩
theorem tw9163143843200471132:True:=⟨⟩
theorem tw16935454517412995851:True:=⟨⟩
theorem tw3417020858165519275:True:=⟨⟩
theorem tw10381874421901286072:True:=⟨⟩
theorem tw4573401115431780177:True:=⟨⟩
theorem tw785508167126256189:True:=⟨⟩
theorem tw4378868021653985166:True:=⟨⟩
theorem tw4846043425317270305:True:=⟨⟩
theorem tw10843003087134801246:True:=⟨⟩
theorem tw34104962627724675:True:=⟨⟩
theorem tw7968120478939372076:True:=⟨⟩
theorem tw8002804676072775460:True:=⟨⟩
theorem tw2190497094501546676:True:=⟨⟩
theorem tw17776740049079021459:True:=⟨⟩
theorem tw11995600682130234609:True:=⟨⟩
theorem tw12261435761002841361:True:=⟨⟩
theorem tw14996337761789333228:True:=⟨⟩
theorem tw3943807249718422693:True:=⟨⟩
theorem tw12312533650015440624:True:=⟨⟩
theorem tw18324385093077704022:True:=⟨⟩
theorem tw16563165253890784916:True:=⟨⟩
theorem tw7024965467451938487:True:=⟨⟩
theorem tw13612353338871791861:True:=⟨⟩
theorem tw15396295467825375544:True:=⟨⟩
theorem tw8499836212197252263:True:=⟨⟩
theorem tw7863385285452556388:True:=⟨⟩
theorem tw7377107083150619697:True:=⟨⟩
theorem tw6422419427967343940:True:=⟨⟩
theorem tw5985297636583045519:True:=⟨⟩
theorem tw2670688942258983004:True:=⟨⟩
theorem tw18333823679854696871:True:=⟨⟩
theorem tw8671062362874153811:True:=⟨⟩
theorem tw17374967737530057223:True:=⟨⟩
theorem tw6313648422782250484:True:=⟨⟩
theorem tw15938441260368361149:True:=⟨⟩
theorem tw1838274810507813307:True:=⟨⟩
theorem tw1127525711501144993:True:=⟨⟩
theorem tw8804534381567649906:True:=⟨⟩
theorem tw208987067245940602:True:=⟨⟩
theorem tw11002045715425146380:True:=⟨⟩
theorem tw1619853250040820458:True:=⟨⟩
theorem tw14117482590391060165:True:=⟨⟩
theorem tw12255336136615717371:True:=⟨⟩
theorem tw9662775436242578572:True:=⟨⟩
theorem tw15611138769826802108:True:=⟨⟩
theorem tw8596662750075110254:True:=⟨⟩
theorem tw2130224605770173745:True:=⟨⟩
theorem tw15012406469413609377:True:=⟨⟩
theorem tw11066498943637796224:True:=⟨⟩
theorem tw8485830118181835600:True:=⟨⟩
theorem tw17843924819351375707:True:=⟨⟩
theorem tw7810062436346360217:True:=⟨⟩
theorem tw6997642073367052958:True:=⟨⟩
theorem tw8499460615917684753:True:=⟨⟩
theorem tw10707259399490748868:True:=⟨⟩
theorem tw4640735474821741035:True:=⟨⟩
theorem tw15279428095519050846:True:=⟨⟩
theorem tw10638399828004520452:True:=⟨⟩
theorem tw11149906263053148666:True:=⟨⟩
theorem tw7625955252258025005:True:=⟨⟩
theorem tw1568202188343755134:True:=⟨⟩
theorem tw3445686314843777082:True:=⟨⟩
theorem tw2779787743304786351:True:=⟨⟩
theorem tw4058242866066577910:True:=⟨⟩
theorem tw2454297511380301450:True:=⟨⟩
theorem tw3958222688408171890:True:=⟨⟩
theorem tw5832636615444852990:True:=⟨⟩
theorem tw7202102233419504383:True:=⟨⟩
theorem tw13364257884783495297:True:=⟨⟩
theorem tw307815996663121810:True:=⟨⟩
theorem tw11339126469557127090:True:=⟨⟩
theorem tw722374898220595207:True:=⟨⟩
theorem tw5645436056398918425:True:=⟨⟩
theorem tw3952443785737042175:True:=⟨⟩
theorem tw16556485938975493841:True:=⟨⟩
theorem tw1372418852352000813:True:=⟨⟩
theorem tw11353367071250173572:True:=⟨⟩
theorem tw12471390146002743784:True:=⟨⟩
theorem tw4137778404065132408:True:=⟨⟩
theorem tw3513071003077595801:True:=⟨⟩
theorem tw1030867919667290984:True:=⟨⟩
theorem tw4682348726123792132:True:=⟨⟩
theorem tw18183646034412090514:True:=⟨⟩
theorem tw8225087683930670143:True:=⟨⟩
theorem tw6870165241040624995:True:=⟨⟩
theorem tw7226060005180893848:True:=⟨⟩
theorem tw5483869753418244557:True:=⟨⟩
theorem tw9652689578362733423:True:=⟨⟩
theorem tw4905220007787276053:True:=⟨⟩
theorem tw6550494421878796359:True:=⟨⟩
theorem tw2000901598277810301:True:=⟨⟩
theorem tw11214820265079942391:True:=⟨⟩
theorem tw12786888923540040443:True:=⟨⟩
theorem tw7160246988036633058:True:=⟨⟩
theorem tw15706882633137045363:True:=⟨⟩
theorem tw11746651234644197784:True:=⟨⟩
theorem tw9210654736259703538:True:=⟨⟩
theorem tw13870695019510754860:True:=⟨⟩
theorem tw17894771190429945552:True:=⟨⟩
theorem tw9304839437323170220:True:=⟨⟩
theorem tw14890683641414842494:True:=⟨⟩
theorem tw6924984059198870445:True:=⟨⟩
theorem tw15433800830273570399:True:=⟨⟩
theorem tw13514868273952780124:True:=⟨⟩
theorem tw2738311219195427443:True:=⟨⟩
theorem tw9226529817687391727:True:=⟨⟩
theorem tw3286179110482085648:True:=⟨⟩
theorem tw4621047969548139640:True:=⟨⟩
theorem tw5167115121232564913:True:=⟨⟩
theorem tw10575451743526066258:True:=⟨⟩
theorem tw18030113270914555991:True:=⟨⟩
theorem tw7098935323788561042:True:=⟨⟩
theorem tw1248064107841847163:True:=⟨⟩
theorem tw5966183909910796884:True:=⟨⟩
theorem tw8531862237733983032:True:=⟨⟩
theorem tw15625149697034564928:True:=⟨⟩
theorem tw14666912249586511782:True:=⟨⟩
theorem tw13957482520107480633:True:=⟨⟩
theorem tw7466800911371832752:True:=⟨⟩
theorem tw4925281564592988279:True:=⟨⟩
theorem tw9497017519814901373:True:=⟨⟩
theorem tw10112485420103894570:True:=⟨⟩
theorem tw6252073697699931713:True:=⟨⟩
theorem tw16436908170008312476:True:=⟨⟩
theorem tw18377820616148303078:True:=⟨⟩
theorem tw6596536590843861262:True:=⟨⟩
theorem tw6100985663707130773:True:=⟨⟩
theorem tw10467552938820342177:True:=⟨⟩
theorem tw5755071427560557186:True:=⟨⟩
theorem tw5032074941615554750:True:=⟨⟩
theorem tw5898502104386275031:True:=⟨⟩
theorem tw3732662422853298242:True:=⟨⟩
theorem tw11244766046100889473:True:=⟨⟩
theorem tw8569158575353259973:True:=⟨⟩
theorem tw13543699825076433313:True:=⟨⟩
theorem tw13282717484823909534:True:=⟨⟩
theorem tw488622210370341991:True:=⟨⟩
theorem tw3918503131714641965:True:=⟨⟩
theorem tw9828968241216356309:True:=⟨⟩
theorem tw4414154746950479083:True:=⟨⟩
theorem tw11009070155599619459:True:=⟨⟩
theorem tw2047298524763650789:True:=⟨⟩
theorem tw16679632342400141807:True:=⟨⟩
theorem tw4961686279103540227:True:=⟨⟩
theorem tw4119532260640069108:True:=⟨⟩
theorem tw6622737655152420106:True:=⟨⟩
theorem tw11904363222193413325:True:=⟨⟩
theorem tw3391961480297025168:True:=⟨⟩
theorem tw2831015513695829268:True:=⟨⟩
theorem tw5776117478329314742:True:=⟨⟩
theorem tw1157321733574243589:True:=⟨⟩
theorem tw17055475333447569011:True:=⟨⟩
theorem tw6578730284176903294:True:=⟨⟩
theorem tw8683677589601668755:True:=⟨⟩
theorem tw16395788323832887747:True:=⟨⟩
theorem tw776035110182118371:True:=⟨⟩
theorem tw6307487636704266789:True:=⟨⟩
theorem tw601285220494023242:True:=⟨⟩
theorem tw15281076516772539143:True:=⟨⟩
theorem tw3353212177400553537:True:=⟨⟩
theorem tw4738195461155492122:True:=⟨⟩
theorem tw5044855378699967340:True:=⟨⟩
theorem tw17588848068580374223:True:=⟨⟩
theorem tw13493602297085980090:True:=⟨⟩
theorem tw519823429979731072:True:=⟨⟩
theorem tw11293303053311499379:True:=⟨⟩
theorem tw13061393380823841400:True:=⟨⟩
theorem tw12697886517703155774:True:=⟨⟩
theorem tw6024048278442332896:True:=⟨⟩
theorem tw15523032461600293917:True:=⟨⟩
theorem tw8735975337727308906:True:=⟨⟩
theorem tw15395548000013800696:True:=⟨⟩
theorem tw10996920596095344929:True:=⟨⟩
theorem tw12675222883429438253:True:=⟨⟩
theorem tw5937916111131235445:True:=⟨⟩
theorem tw3766118616440422754:True:=⟨⟩
theorem tw12898187705385395573:True:=⟨⟩
theorem tw691577940276334840:True:=⟨⟩
theorem tw13360695244081770169:True:=⟨⟩
theorem tw11257584529460081876:True:=⟨⟩
theorem tw824339735867047139:True:=⟨⟩
theorem tw4334182786755447871:True:=⟨⟩
theorem tw4746143502899941904:True:=⟨⟩
theorem tw16975982944572435560:True:=⟨⟩
theorem tw10079268005762295954:True:=⟨⟩
theorem tw15968645882308998509:True:=⟨⟩
theorem tw8617053899128901819:True:=⟨⟩
theorem tw3353918213140383857:True:=⟨⟩
theorem tw16739438420405499627:True:=⟨⟩
theorem tw10196159686865874901:True:=⟨⟩
theorem tw2557249499685196640:True:=⟨⟩
theorem tw12658165664703130737:True:=⟨⟩
theorem tw7542394405310106159:True:=⟨⟩
theorem tw5660652871154149860:True:=⟨⟩
theorem tw8572405124815394669:True:=⟨⟩
theorem tw7499152986964521848:True:=⟨⟩
theorem tw7829882056439551700:True:=⟨⟩
theorem tw1809237667409109679:True:=⟨⟩
theorem tw9026857584378456463:True:=⟨⟩
theorem tw10430968787543919133:True:=⟨⟩
theorem tw17214380974683893460:True:=⟨⟩
theorem tw6396099282502591411:True:=⟨⟩
theorem tw3338117591215842290:True:=⟨⟩
theorem tw15612478019411957615:True:=⟨⟩
theorem tw646189153493221609:True:=⟨⟩
theorem tw6916789016883651382:True:=⟨⟩
theorem tw15550748361371284825:True:=⟨⟩
theorem tw4163740790085110364:True:=⟨⟩
theorem tw472504131600105151:True:=⟨⟩
theorem tw17681432337479988628:True:=⟨⟩
theorem tw952080109623515240:True:=⟨⟩
theorem tw6910151110975444108:True:=⟨⟩
theorem tw13467595325453212412:True:=⟨⟩
theorem tw7885472945730411633:True:=⟨⟩
theorem tw14934381197325326055:True:=⟨⟩
theorem tw16494308556515286986:True:=⟨⟩
theorem tw15707446144737272009:True:=⟨⟩
theorem tw1699297152108573801:True:=⟨⟩
theorem tw9516261638309232022:True:=⟨⟩
theorem tw4620679051341366881:True:=⟨⟩
theorem tw15875361729778466395:True:=⟨⟩
theorem tw1004565245139257165:True:=⟨⟩
theorem tw8892029545558703964:True:=⟨⟩
theorem tw13308531100248691422:True:=⟨⟩
theorem tw6022954650894958807:True:=⟨⟩
theorem tw10478476478663575611:True:=⟨⟩
theorem tw3559681637778089539:True:=⟨⟩
theorem tw11960669726068226513:True:=⟨⟩
theorem tw6583579594136257377:True:=⟨⟩
theorem tw11684293519420741586:True:=⟨⟩
theorem tw7074572576827255630:True:=⟨⟩
theorem tw1724100064864506593:True:=⟨⟩
theorem tw2580831767819323514:True:=⟨⟩
theorem tw12909663014967152665:True:=⟨⟩
theorem tw15765754522543781081:True:=⟨⟩
theorem tw4855495173442262791:True:=⟨⟩
theorem tw12105504021793189233:True:=⟨⟩
theorem tw633581748619026075:True:=⟨⟩
theorem tw4186743072695401234:True:=⟨⟩
theorem tw17914141940250272125:True:=⟨⟩
theorem tw15042543325077844394:True:=⟨⟩
theorem tw3835537919083608873:True:=⟨⟩
theorem tw4875792561628085969:True:=⟨⟩
theorem tw926946315360229677:True:=⟨⟩
theorem tw7568729900604371241:True:=⟨⟩
theorem tw103423331214530710:True:=⟨⟩
theorem tw15108298732420916979:True:=⟨⟩
theorem tw10690798257681827414:True:=⟨⟩
theorem tw16102022854380819353:True:=⟨⟩
theorem tw2902341558634713945:True:=⟨⟩
theorem tw1416551003967143959:True:=⟨⟩
theorem tw10204993376676318523:True:=⟨⟩
theorem tw5047685456618929852:True:=⟨⟩
theorem tw1999553555260638488:True:=⟨⟩
theorem tw682211058004574775:True:=⟨⟩
theorem tw835880829471714554:True:=⟨⟩
theorem tw10575551618070590413:True:=⟨⟩
theorem tw17789318807719104597:True:=⟨⟩
theorem tw11132403410693818906:True:=⟨⟩
theorem tw16177676631071227118:True:=⟨⟩
theorem tw1637761121923901161:True:=⟨⟩
theorem tw8751087989991239037:True:=⟨⟩
theorem tw1277991653786142339:True:=⟨⟩
theorem tw4464221708179152226:True:=⟨⟩
theorem tw13541139441030557339:True:=⟨⟩
theorem tw2193990088834170851:True:=⟨⟩
theorem tw7971532588657748548:True:=⟨⟩
theorem tw3513359673427901548:True:=⟨⟩
theorem tw14020362531608627244:True:=⟨⟩
theorem tw14680362717342319107:True:=⟨⟩
theorem tw216315807835382804:True:=⟨⟩
theorem tw11982610726158050647:True:=⟨⟩
theorem tw12423012044030662286:True:=⟨⟩
theorem tw13142878663688101238:True:=⟨⟩
theorem tw8798056435837004932:True:=⟨⟩
theorem tw962453106362175416:True:=⟨⟩
theorem tw7378760170389648154:True:=⟨⟩
theorem tw11011764607658908481:True:=⟨⟩
theorem tw13646051253547985554:True:=⟨⟩
theorem tw16123366193574101119:True:=⟨⟩
theorem tw4880014446556663400:True:=⟨⟩
theorem tw9486071977850883896:True:=⟨⟩
theorem tw14909519799385897766:True:=⟨⟩
theorem tw12924894075076033868:True:=⟨⟩
theorem tw7842390038776315388:True:=⟨⟩
theorem tw2093065991617793690:True:=⟨⟩
theorem tw10990037457954477402:True:=⟨⟩
theorem tw13393745415392088902:True:=⟨⟩
theorem tw3702292749414678515:True:=⟨⟩
theorem tw3718451006595514582:True:=⟨⟩
theorem tw8859725431959244785:True:=⟨⟩
theorem tw18369444094826204788:True:=⟨⟩
theorem tw9483850772506300825:True:=⟨⟩
theorem tw371235141433046292:True:=⟨⟩
theorem tw11284090018045861351:True:=⟨⟩
theorem tw15347895816033662484:True:=⟨⟩
theorem tw12214181445657337859:True:=⟨⟩
theorem tw11378093495695210908:True:=⟨⟩
theorem tw3080498258213465730:True:=⟨⟩
theorem tw12924461991469967152:True:=⟨⟩
theorem tw17112137793608783464:True:=⟨⟩
theorem tw510268978077927954:True:=⟨⟩
theorem tw2037860878614980818:True:=⟨⟩
theorem tw12899543497885901108:True:=⟨⟩
theorem tw9834807934338046246:True:=⟨⟩
theorem tw1839068636710545240:True:=⟨⟩
theorem tw11733663752243186541:True:=⟨⟩
theorem tw16317159671071856864:True:=⟨⟩
theorem tw624950529287078461:True:=⟨⟩
theorem tw15174336890100879774:True:=⟨⟩
theorem tw5397097001608384701:True:=⟨⟩
theorem tw16800936125302277506:True:=⟨⟩
theorem tw15920436490687432734:True:=⟨⟩
theorem tw4139199888794210006:True:=⟨⟩
theorem tw8385611109335802232:True:=⟨⟩
theorem tw384472672202348253:True:=⟨⟩
theorem tw7829329207889909698:True:=⟨⟩
theorem tw3931337221190779897:True:=⟨⟩
theorem tw1261236595963691786:True:=⟨⟩
theorem tw10932790174334671988:True:=⟨⟩
theorem tw4349309970586750562:True:=⟨⟩
theorem tw10569974066078487394:True:=⟨⟩
theorem tw11700111094070964295:True:=⟨⟩
theorem tw3741788359295053143:True:=⟨⟩
theorem tw2732797133011684951:True:=⟨⟩
theorem tw15388129171679055305:True:=⟨⟩
theorem tw5253484368411160052:True:=⟨⟩
theorem tw14369083398414481272:True:=⟨⟩
theorem tw15624054056790788330:True:=⟨⟩
theorem tw10488742967771077964:True:=⟨⟩
theorem tw1106218973482306342:True:=⟨⟩
theorem tw18424381882445951355:True:=⟨⟩
theorem tw6482463838889401167:True:=⟨⟩
theorem tw3826720151267760629:True:=⟨⟩
theorem tw13143849010632081797:True:=⟨⟩
theorem tw7006078484145660517:True:=⟨⟩
theorem tw7279602535946163355:True:=⟨⟩
theorem tw12212058598145282454:True:=⟨⟩
theorem tw5669208447685634767:True:=⟨⟩
theorem tw3173309689786073554:True:=⟨⟩
theorem tw2373471949647212773:True:=⟨⟩
theorem tw16435887575782995201:True:=⟨⟩
theorem tw14159228254994935015:True:=⟨⟩
theorem tw4451671445154105676:True:=⟨⟩
theorem tw14285186479583159468:True:=⟨⟩
theorem tw17678167240470186578:True:=⟨⟩
theorem tw16496733451025814991:True:=⟨⟩
theorem tw8866925477516223033:True:=⟨⟩
theorem tw5273840396615227725:True:=⟨⟩
theorem tw1506088121749204148:True:=⟨⟩
theorem tw4266416158307175164:True:=⟨⟩
theorem tw8302416598609396568:True:=⟨⟩
theorem tw14268589885335405234:True:=⟨⟩
theorem tw4059872299251327224:True:=⟨⟩
theorem tw13128163939858814078:True:=⟨⟩
theorem tw6074599285910640926:True:=⟨⟩
theorem tw3302753800840741240:True:=⟨⟩
theorem tw6252854557504103096:True:=⟨⟩
theorem tw707417403194793785:True:=⟨⟩
theorem tw14197505230118882166:True:=⟨⟩
theorem tw15165791737326464960:True:=⟨⟩
theorem tw11101534192159018867:True:=⟨⟩
theorem tw14451161306711789452:True:=⟨⟩
theorem tw14829997040835518821:True:=⟨⟩
theorem tw10270124891956448131:True:=⟨⟩
theorem tw11256600652316058402:True:=⟨⟩
theorem tw10843204592832687415:True:=⟨⟩
theorem tw11306894743470296074:True:=⟨⟩
theorem tw17363062804807896917:True:=⟨⟩
theorem tw7102985661008387909:True:=⟨⟩
theorem tw3474001380717645252:True:=⟨⟩
theorem tw9121642035000827786:True:=⟨⟩
theorem tw9642292239933056207:True:=⟨⟩
theorem tw16097873869093892817:True:=⟨⟩
theorem tw5563828999114178910:True:=⟨⟩
theorem tw14882206835061893643:True:=⟨⟩
theorem tw9831699412127961868:True:=⟨⟩
theorem tw15341831089816777797:True:=⟨⟩
theorem tw12676038250511502835:True:=⟨⟩
theorem tw8363173336641856009:True:=⟨⟩
theorem tw14345542038191966471:True:=⟨⟩
theorem tw12265222017414024868:True:=⟨⟩
theorem tw14539349907708748351:True:=⟨⟩
theorem tw714884561071730485:True:=⟨⟩
theorem tw13704999612270790441:True:=⟨⟩
theorem tw16064073137739828316:True:=⟨⟩
theorem tw207040035270655971:True:=⟨⟩
theorem tw5311285743957689962:True:=⟨⟩
theorem tw5409723033022485501:True:=⟨⟩
theorem tw16822016895290982336:True:=⟨⟩
theorem tw2919953303148333491:True:=⟨⟩
theorem tw131494146481510433:True:=⟨⟩
theorem tw9030254770411360671:True:=⟨⟩
theorem tw4205916432092640682:True:=⟨⟩
theorem tw10250721315590681025:True:=⟨⟩
theorem tw6815219088252409154:True:=⟨⟩
theorem tw14772494340770060962:True:=⟨⟩
theorem tw15049406533062508294:True:=⟨⟩
theorem tw16263677937578546721:True:=⟨⟩
theorem tw6599147582061754356:True:=⟨⟩
theorem tw4654658161671690271:True:=⟨⟩
theorem tw16774099068278561758:True:=⟨⟩
theorem tw16721084784997968945:True:=⟨⟩
theorem tw8739851987601508178:True:=⟨⟩
theorem tw18169456522121811428:True:=⟨⟩
theorem tw11991143681934367191:True:=⟨⟩
theorem tw1430705784020655780:True:=⟨⟩
theorem tw17576266561615373691:True:=⟨⟩
theorem tw15097904751855467265:True:=⟨⟩
theorem tw5855037392370753245:True:=⟨⟩
theorem tw8889087303752000530:True:=⟨⟩
theorem tw14964454701068374251:True:=⟨⟩
theorem tw9293791629518308748:True:=⟨⟩
theorem tw11175510398434741016:True:=⟨⟩
theorem tw13297553755550100239:True:=⟨⟩
theorem tw11106834691513791358:True:=⟨⟩
theorem tw16713850961215372509:True:=⟨⟩
theorem tw9868486455159119650:True:=⟨⟩
theorem tw4274701368415808012:True:=⟨⟩
theorem tw252806150610036298:True:=⟨⟩
theorem tw2741062752571018797:True:=⟨⟩
theorem tw3361693554462183692:True:=⟨⟩
theorem tw4885590865647633915:True:=⟨⟩
theorem tw17734939219470512588:True:=⟨⟩
theorem tw3015109181051781881:True:=⟨⟩
theorem tw8015508622965218648:True:=⟨⟩
theorem tw11871140540392797906:True:=⟨⟩
theorem tw860247884101442293:True:=⟨⟩
theorem tw14550335057723858118:True:=⟨⟩
theorem tw10476817562382440835:True:=⟨⟩
theorem tw16378403660079005950:True:=⟨⟩
theorem tw4951337896811357036:True:=⟨⟩
theorem tw4363791664192947219:True:=⟨⟩
theorem tw16378101909421115284:True:=⟨⟩
theorem tw14932983800805575876:True:=⟨⟩
theorem tw16585192550856349919:True:=⟨⟩
theorem tw7671573119248916376:True:=⟨⟩
theorem tw8347679652295234623:True:=⟨⟩
theorem tw10147981929860053220:True:=⟨⟩
theorem tw3024289984461178252:True:=⟨⟩
theorem tw3382550762363493435:True:=⟨⟩
theorem tw670915368643263856:True:=⟨⟩
theorem tw9901406972495255543:True:=⟨⟩
theorem tw13099844040372553241:True:=⟨⟩
theorem tw17669517103206532689:True:=⟨⟩
theorem tw17913115605587101932:True:=⟨⟩
theorem tw11050166127205101794:True:=⟨⟩
theorem tw4217350071119595239:True:=⟨⟩
theorem tw13745124340422007694:True:=⟨⟩
theorem tw4748221677384913501:True:=⟨⟩
theorem tw1379444517951471013:True:=⟨⟩
theorem tw14841501991031430112:True:=⟨⟩
theorem tw17476066977682942613:True:=⟨⟩
theorem tw14085597295737673582:True:=⟨⟩
theorem tw2167905617735580333:True:=⟨⟩
theorem tw7208274205092170556:True:=⟨⟩
theorem tw1423228029055483738:True:=⟨⟩
theorem tw17881986397107358443:True:=⟨⟩
theorem tw2387357302576103205:True:=⟨⟩
theorem tw3564051000460926244:True:=⟨⟩
theorem tw14723370068528641310:True:=⟨⟩
theorem tw8921006017120384769:True:=⟨⟩
theorem tw16461831687423910972:True:=⟨⟩
theorem tw12290352314357617718:True:=⟨⟩
theorem tw11178245298031167380:True:=⟨⟩
theorem tw3100431173418220558:True:=⟨⟩
theorem tw12288133443073062071:True:=⟨⟩
theorem tw10445317457088273799:True:=⟨⟩
theorem tw11859733092606668259:True:=⟨⟩
theorem tw2584135159738448023:True:=⟨⟩
theorem tw14509839396736010101:True:=⟨⟩
theorem tw15312280308379538752:True:=⟨⟩
theorem tw783901657404893612:True:=⟨⟩
theorem tw8628319452859878674:True:=⟨⟩
theorem tw9685749017435433500:True:=⟨⟩
theorem tw17482104053999003853:True:=⟨⟩
theorem tw366089478654261100:True:=⟨⟩
theorem tw6088487523107777995:True:=⟨⟩
theorem tw3530607092008750351:True:=⟨⟩
theorem tw13393796218176247252:True:=⟨⟩
theorem tw15278907023938592691:True:=⟨⟩
theorem tw3747626324034443514:True:=⟨⟩
theorem tw16167983482347186062:True:=⟨⟩
theorem tw1851560531067651244:True:=⟨⟩
theorem tw14467334182771749260:True:=⟨⟩
theorem tw15453513324401015336:True:=⟨⟩
theorem tw3816395750180540584:True:=⟨⟩
theorem tw2929699369755552560:True:=⟨⟩
theorem tw8210037581121511091:True:=⟨⟩
theorem tw12589928367721666304:True:=⟨⟩
theorem tw11756688968340527149:True:=⟨⟩
theorem tw11676029125042966786:True:=⟨⟩
theorem tw2992754061655118426:True:=⟨⟩
theorem tw15905210608225125929:True:=⟨⟩
theorem tw18129148618968309357:True:=⟨⟩
end PySem.W.Fast
open PySem PySem.W PyProof.Rows
set_option maxRecDepth 100000 in
set_option maxHeartbeats 0 in
theorem PySem.Challenge.cw_busyweb_k40_whole_within_four_holds : PySem.Challenge.rw_busyweb_k40_whole_within_four.Holds := by
  w_on;o_law;k_head;(case hw=>w_witness2)
  k_fill
  refine Pk.walk (l:=PySem.Challenge.rw_busyweb_k40_whole_within_four) rfl rfl (fun w h Y=>PySem.W.kIn_of Y) ?F
  case F =>
    intro w mg fa h KX G hmg
    refine' Pk.all_mk KX G hmg ?aCFlowError ?aCBadWeb ?aCTooMany ?aCBadPlace ?aCBadTie ?aCBadFlow ?aCBadRest ?aCNoFlow ?aCBadSet ?aCBadPaper ?aCBadText ?aCBadDeed ?aCWeb ?a1 ?i1 ?l1 ?c1 ?k1 ?a2 ?l2 ?c2 ?k2 ?a3 ?l3 ?c3 ?k3 ?a4 ?l4 ?c4 ?k4 ?a5 ?l5 ?c5 ?k5 ?a6 ?l6 ?c6 ?k6 ?a7 ?l7 ?c7 ?k7 ?a8 ?l8 ?c8 ?k8 ?a9 ?l9 ?c9 ?k9 ?a10 ?l10 ?c10 ?k10 ?a11 ?l11 ?c11 ?k11 ?a12 ?l12 ?c12 ?k12 ?a13 ?l13 ?c13 ?k13 ?a14 ?l14 ?c14 ?k14 ?a15 ?l15 ?c15 ?k15 ?a16 ?l16 ?c16 ?k16 ?a17 ?l17 ?c17 ?k17 ?a18 ?l18 ?c18 ?k18 ?a19 ?l19 ?c19 ?k19 ?a20 ?l20 ?c20 ?k20 ?a21 ?l21 ?c21 ?k21 ?a22 ?l22 ?c22 ?k22 ?a23 ?l23 ?c23 ?k23 ?a24 ?l24 ?c24 ?k24 ?a25 ?l25 ?c25 ?k25 ?a26 ?l26 ?c26 ?k26 ?a27 ?l27 ?c27 ?k27 ?a28 ?l28 ?c28 ?k28 ?a29 ?l29 ?c29 ?k29 ?a30 ?l30 ?c30 ?k30 ?a31 ?l31 ?c31 ?k31 ?a32 ?l32 ?c32 ?k32 ?a33 ?l33 ?c33 ?k33 ?a34 ?l34 ?c34 ?k34 ?a35 ?l35 ?c35 ?k35 ?a36 ?l36 ?c36 ?k36 ?a37 ?l37 ?c37 ?k37 ?a38 ?l38 ?c38 ?k38 ?a39 ?l39 ?c39 ?k39 ?a40 ?l40 ?c40 ?k40 ?a41 ?l41 ?c41 ?k41 ?a42 ?l42 ?c42 ?k42 ?a43 ?l43 ?c43 ?k43 ?a44 ?l44 ?c44 ?k44 ?a45 ?l45 ?c45 ?k45 ?a46 ?l46 ?c46 ?k46 ?a47 ?l47 ?c47 ?k47 ?a48 ?l48 ?c48 ?k48 ?a49 ?l49 ?c49 ?k49 ?a50 ?l50 ?c50 ?k50 ?a51 ?l51 ?c51 ?k51 ?a52 ?l52 ?c52 ?k52 ?pg ?hd ?po ?sa ?nM ?nT ?ca ?cg ?ck ?co ?mk ?kc ?mp ?mt ?x_ie_FlowError ?x_ie_BadTie ?x_ie_BadFlow ?x_ie_BadRest ?x_ie_BadSet ?x_mr_BadSet ?x_ga_BadSet ?x_gn_BadSet ?x_cl_BadSet ?x_co_BadSet ?x_cb_BadSet ?x_is_BadSet ?x_k_BadSet_BadWeb ?x_k_BadSet_TooMany ?x_k_BadSet_BadPlace ?x_k_BadSet_BadTie ?x_k_BadSet_BadFlow ?x_k_BadSet_BadRest ?x_k_BadSet_NoFlow ?x_k_BadSet_BadSet ?x_k_BadSet_BadPaper ?x_k_BadSet_BadText ?x_k_BadSet_BadDeed ?x_kf_BadSet ?x_kv_BadSet ?z0 ?z1 ?z2 ?z3 ?z4 ?z5 ?z6 ?z7 ?z8 ?z9 ?z10 ?z11 ?z12 ?z13 ?z14 ?z15 ?z16
    (case aCFlowError=>k_is)
    (case aCBadWeb=>k_is)
    (case aCTooMany=>k_is)
    (case aCBadPlace=>k_is)
    (case aCBadTie=>k_is)
    (case aCBadFlow=>k_is)
    (case aCBadRest=>k_is)
    (case aCNoFlow=>k_is)
    (case aCBadSet=>k_is)
    (case aCBadPaper=>k_is)
    (case aCBadText=>k_is)
    (case aCBadDeed=>k_is)
    (case aCWeb=>k_is)
    (case a1=>k_is)
    (case i1=>k_is)
    (case l1=>k_is)
    (case c1=>k_is)
    (case k1=>k_is)
    (case a2=>k_is)
    (case l2=>k_is)
    (case c2=>k_is)
    (case k2=>k_is)
    (case a3=>k_is)
    (case l3=>k_is)
    (case c3=>k_is)
    (case k3=>k_is)
    (case a4=>k_is)
    (case l4=>k_is)
    (case c4=>k_is)
    (case k4=>k_is)
    (case a5=>k_is)
    (case l5=>k_is)
    (case c5=>k_is)
    (case k5=>k_is)
    (case a6=>k_is)
    (case l6=>k_is)
    (case c6=>k_is)
    (case k6=>k_is)
    (case a7=>k_is)
    (case l7=>k_is)
    (case c7=>k_is)
    (case k7=>k_is)
    (case a8=>k_is)
    (case l8=>k_is)
    (case c8=>k_is)
    (case k8=>k_is)
    (case a9=>k_is)
    (case l9=>k_is)
    (case c9=>k_is)
    (case k9=>k_is)
    (case a10=>k_is)
    (case l10=>k_is)
    (case c10=>k_is)
    (case k10=>k_is)
    (case a11=>k_is)
    (case l11=>k_is)
    (case c11=>k_is)
    (case k11=>k_is)
    (case a12=>k_is)
    (case l12=>k_is)
    (case c12=>k_is)
    (case k12=>k_is)
    (case a13=>k_is)
    (case l13=>k_is)
    (case c13=>k_is)
    (case k13=>k_is)
    (case a14=>k_is)
    (case l14=>k_is)
    (case c14=>k_is)
    (case k14=>k_is)
    (case a15=>k_is)
    (case l15=>k_is)
    (case c15=>k_is)
    (case k15=>k_is)
    (case a16=>k_is)
    (case l16=>k_is)
    (case c16=>k_is)
    (case k16=>k_is)
    (case a17=>k_is)
    (case l17=>k_is)
    (case c17=>k_is)
    (case k17=>k_is)
    (case a18=>k_is)
    (case l18=>k_is)
    (case c18=>k_is)
    (case k18=>k_is)
    (case a19=>k_is)
    (case l19=>k_is)
    (case c19=>k_is)
    (case k19=>k_is)
    (case a20=>k_is)
    (case l20=>k_is)
    (case c20=>k_is)
    (case k20=>k_is)
    (case a21=>k_is)
    (case l21=>k_is)
    (case c21=>k_is)
    (case k21=>k_is)
    (case a22=>k_is)
    (case l22=>k_is)
    (case c22=>k_is)
    (case k22=>k_is)
    (case a23=>k_is)
    (case l23=>k_is)
    (case c23=>k_is)
    (case k23=>k_is)
    (case a24=>k_is)
    (case l24=>k_is)
    (case c24=>k_is)
    (case k24=>k_is)
    (case a25=>k_is)
    (case l25=>k_is)
    (case c25=>k_is)
    (case k25=>k_is)
    (case a26=>k_is)
    (case l26=>k_is)
    (case c26=>k_is)
    (case k26=>k_is)
    (case a27=>k_is)
    (case l27=>k_is)
    (case c27=>k_is)
    (case k27=>k_is)
    (case a28=>k_is)
    (case l28=>k_is)
    (case c28=>k_is)
    (case k28=>k_is)
    (case a29=>k_is)
    (case l29=>k_is)
    (case c29=>k_is)
    (case k29=>k_is)
    (case a30=>k_is)
    (case l30=>k_is)
    (case c30=>k_is)
    (case k30=>k_is)
    (case a31=>k_is)
    (case l31=>k_is)
    (case c31=>k_is)
    (case k31=>k_is)
    (case a32=>k_is)
    (case l32=>k_is)
    (case c32=>k_is)
    (case k32=>k_is)
    (case a33=>k_is)
    (case l33=>k_is)
    (case c33=>k_is)
    (case k33=>k_is)
    (case a34=>k_is)
    (case l34=>k_is)
    (case c34=>k_is)
    (case k34=>k_is)
    (case a35=>k_is)
    (case l35=>k_is)
    (case c35=>k_is)
    (case k35=>k_is)
    (case a36=>k_is)
    (case l36=>k_is)
    (case c36=>k_is)
    (case k36=>k_is)
    (case a37=>k_is)
    (case l37=>k_is)
    (case c37=>k_is)
    (case k37=>k_is)
    (case a38=>k_is)
    (case l38=>k_is)
    (case c38=>k_is)
    (case k38=>k_is)
    (case a39=>k_is)
    (case l39=>k_is)
    (case c39=>k_is)
    (case k39=>k_is)
    (case a40=>k_is)
    (case l40=>k_is)
    (case c40=>k_is)
    (case k40=>k_is)
    (case a41=>k_is)
    (case l41=>k_is)
    (case c41=>k_is)
    (case k41=>k_is)
    (case a42=>k_is)
    (case l42=>k_is)
    (case c42=>k_is)
    (case k42=>k_is)
    (case a43=>k_is)
    (case l43=>k_is)
    (case c43=>k_is)
    (case k43=>k_is)
    (case a44=>k_is)
    (case l44=>k_is)
    (case c44=>k_is)
    (case k44=>k_is)
    (case a45=>k_is)
    (case l45=>k_is)
    (case c45=>k_is)
    (case k45=>k_is)
    (case a46=>k_is)
    (case l46=>k_is)
    (case c46=>k_is)
    (case k46=>k_is)
    (case a47=>k_is)
    (case l47=>k_is)
    (case c47=>k_is)
    (case k47=>k_is)
    (case a48=>k_is)
    (case l48=>k_is)
    (case c48=>k_is)
    (case k48=>k_is)
    (case a49=>k_is)
    (case l49=>k_is)
    (case c49=>k_is)
    (case k49=>k_is)
    (case a50=>k_is)
    (case l50=>k_is)
    (case c50=>k_is)
    (case k50=>k_is)
    (case a51=>k_is)
    (case l51=>k_is)
    (case c51=>k_is)
    (case k51=>k_is)
    (case a52=>k_is)
    (case l52=>k_is)
    (case c52=>k_is)
    (case k52=>k_is)
    (case pg=>k_is)
    (case hd=>k_is)
    (case po=>k_is)
    (case sa=>k_is)
    (case nM=>k_is)
    (case nT=>k_is)
    (case ca=>k_is)
    (case cg=>k_is)
    (case ck=>k_is)
    (case co=>k_is)
    (case mk=>k_is)
    (case kc=>k_is)
    (case mp=>k_is)
    (case mt=>k_is)
    (case x_ie_FlowError=>k_exc)
    (case x_ie_BadTie=>k_exc)
    (case x_ie_BadFlow=>k_exc)
    (case x_ie_BadRest=>k_exc)
    (case x_ie_BadSet=>k_exc)
    (case x_mr_BadSet=>k_is)
    (case x_ga_BadSet=>k_is)
    (case x_gn_BadSet=>k_is)
    (case x_cl_BadSet=>k_is)
    (case x_co_BadSet=>k_is)
    (case x_cb_BadSet=>k_is)
    (case x_is_BadSet=>k_is)
    (case x_k_BadSet_BadWeb=>kit_is)
    (case x_k_BadSet_TooMany=>kit_is)
    (case x_k_BadSet_BadPlace=>kit_is)
    (case x_k_BadSet_BadTie=>kit_is)
    (case x_k_BadSet_BadFlow=>kit_is)
    (case x_k_BadSet_BadRest=>kit_is)
    (case x_k_BadSet_NoFlow=>kit_is)
    (case x_k_BadSet_BadSet=>kit_is)
    (case x_k_BadSet_BadPaper=>kit_is)
    (case x_k_BadSet_BadText=>kit_is)
    (case x_k_BadSet_BadDeed=>kit_is)
    (case x_kf_BadSet=>kit_is)
    (case x_kv_BadSet=>kit_is)
    (case z0=>k_is)
    (case z1=>k_is)
    (case z2=>k_is)
    (case z3=>k_is)
    (case z4=>k_is)
    (case z5=>k_is)
    (case z6=>k_is)
    (case z7=>k_is)
    (case z8=>k_is)
    (case z9=>k_is)
    (case z10=>k_is)
    (case z11=>k_is)
    (case z12=>k_is)
    (case z13=>k_is)
    (case z14=>k_is)
    (case z15=>k_is)
    (case z16=>k_is)
