import PyProof.Rows.All
import Wide.All
import OpenK.AllK
import Wide.FinOn
import Lean
import PyProof.EqAt
import PyProof.EqKinds
import PyProof.TupleCall
import KE.KRevIter
import KE.KDictList
import KE.KDictLaws
import KE.KDictOf
import PyProof.AttrMissHeap
import PyProof.DictWalks
import PyProof.CollectWalk
import PyProof.Rows.SortShell
import PyProof.MinMaxWalk
import PyProof.WalkInts
import PySem.Challenge.RW_busyweb_k41_whole_two_forests_or_a_parti
set_option Elab.async false
set_option linter.all false
set_option maxRecDepth 100000
namespace L2
open PySem PySem.Spec PyProof.Rows
abbrev Key := Sum Int Str
def keyIs : Key → Value → Bool
  | .inl k, v => Value.isInt k v
  | .inr x, v => Value.isStrOf x v
def keyH (w : World) : Key → Int
  | .inl k => hashInt k
  | .inr x => hashStr w x
theorem keyIs_shape : ∀ {k : Key} {v : Value}, keyIs k v = true → (∃ i t, k = Sum.inl i ∧ v = Value.int i t) ∨ (∃ x t, k = Sum.inr x ∧ v = Value.str x t)
  | .inl i, v, h => by
    obtain ⟨t, e⟩ := Value.isInt_shape (k := i) (v := v) h
    exact .inl ⟨i, t, rfl, e⟩
  | .inr x, v, h => by
    obtain ⟨t, e⟩ := Value.isStrOf_shape (x := x) (v := v) h
    exact .inr ⟨x, t, rfl, e⟩
theorem keyIs_int (i : Int) (t : Tok) : keyIs (.inl i) (.int i t) = true := by simp [keyIs, Value.isInt]
theorem keyIs_str (x : Str) (t : Tok) : keyIs (.inr x) (.str x t) = true := by simp [keyIs, Value.isStrOf]
theorem key_ll (a b : Int) : decide ((Sum.inl a : Key) = Sum.inl b) = (a == b) := by
  by_cases e : a = b
  · subst e; simp
  · have h : ¬ (Sum.inl a : Key) = Sum.inl b := fun q => e (Sum.inl.inj q)
    rw [decide_eq_false h]
    exact (beq_eq_false_iff_ne.mpr e).symm
theorem key_rr (a b : Str) : decide ((Sum.inr a : Key) = Sum.inr b) = decide (a = b) := by
  by_cases e : a = b
  · subst e; simp
  · have h : ¬ (Sum.inr a : Key) = Sum.inr b := fun q => e (Sum.inr.inj q)
    rw [decide_eq_false h, decide_eq_false e]
theorem key_lr (a : Int) (b : Str) : decide ((Sum.inl a : Key) = Sum.inr b) = false := decide_eq_false (fun q => nomatch q)
theorem key_rl (a : Str) (b : Int) : decide ((Sum.inr a : Key) = Sum.inl b) = false := decide_eq_false (fun q => nomatch q)
def mixKind (prog : Program) (w : World) : PySem.KeyKind prog w Key where
  is := keyIs
  hash := keyH w
  inj := fun v a b ha hb => by
    rcases keyIs_shape ha with ⟨i, t, rfl, rfl⟩ | ⟨x, t, rfl, rfl⟩
    · rcases keyIs_shape hb with ⟨j, u, rfl, e⟩ | ⟨y, u, rfl, e⟩
      · injection e with e1 _; rw [e1]
      · exact nomatch e
    · rcases keyIs_shape hb with ⟨j, u, rfl, e⟩ | ⟨y, u, rfl, e⟩
      · exact nomatch e
      · injection e with e1 _; rw [e1]
  byValue := fun k v h => by
    rcases keyIs_shape h with ⟨i, t, rfl, rfl⟩ | ⟨x, t, rfl, rfl⟩ <;> rfl
  pyHash := fun hv h => by
    rcases keyIs_shape hv with ⟨i, t, rfl, rfl⟩ | ⟨x, t, rfl, rfl⟩
    · exact wpAny_pyHash_int h
    · exact wpAny_pyHash_str h
  eqBool := fun hu hv h => by
    rcases keyIs_shape hu with ⟨i, t, rfl, rfl⟩ | ⟨x, t, rfl, rfl⟩
    · rcases keyIs_shape hv with ⟨j, u, rfl, rfl⟩ | ⟨y, u, rfl, rfl⟩
      · rw [key_ll] at h; exact wpAny_eqBool_int h
      · rw [key_lr] at h; exact SeqAt.EqAt.int_str i t y u _ _ _ _ h
    · rcases keyIs_shape hv with ⟨j, u, rfl, rfl⟩ | ⟨y, u, rfl, rfl⟩
      · rw [key_rl] at h; exact SeqAt.EqAt.str_int x t j u _ _ _ _ h
      · rw [key_rr] at h; exact wpAny_eqBool_str h
  «strs» := fun k x t v h => by
    rcases keyIs_shape h with ⟨i, u, rfl, e⟩ | ⟨y, u, rfl, e⟩
    · exact nomatch e
    · injection e with e1 _
      subst e1
      cases v <;> rfl
theorem mixKind_int (prog : Program) (w : World) (i : Int) (t : Tok) : (mixKind prog w).is (.inl i) (.int i t) = true := keyIs_int i t
theorem mixKind_str (prog : Program) (w : World) (x : Str) (t : Tok) : (mixKind prog w).is (.inr x) (.str x t) = true := keyIs_str x t
end L2
namespace L2
open PySem PySem.Spec PyProof.Rows
inductive V where
  | non | bl (b : Bool) | int (i : Int) | str (x : Str) | byt (b : Array UInt8) | flt (b : UInt64) | ref (a : Addr) | ty (n : String)
  deriving DecidableEq
def RelV : V → Value → Prop
  | .non, u => u = Value.none
  | .bl b, u => u = Value.bool b
  | .int i, u => ∃ t, u = Value.int i t
  | .str x, u => ∃ t, u = Value.str x t
  | .byt b, u => ∃ t, u = Value.bytes b t
  | .flt b, u => ∃ t, u = Value.float b t
  | .ref a, u => u = Value.ref a
  | .ty n, u => u = Value.type n
abbrev Vals : List V → List Value → Prop := Paired RelV
theorem Vals.length {xs : List V} {us : List Value} (r : Vals xs us) : xs.length = us.length := Paired.length r
theorem Vals.get : ∀ {xs : List V} {us : List Value} {i : Nat} {x : V}, Vals xs us → xs[i]? = some x → ∃ u, us[i]? = some u ∧ RelV x u
  | _, _, _, _, .nil, e => by simp at e
  | _, _, 0, _, .cons r _, e => by simp at e; subst e; exact ⟨_, rfl, r⟩
  | _, _, i + 1, x, .cons _ t, e => by
    obtain ⟨u, h1, h2⟩ := Vals.get (i := i) (x := x) t (by simpa using e)
    exact ⟨u, by simpa using h1, h2⟩
theorem Vals.set {x : V} {u : Value} (r : RelV x u) : ∀ {xs : List V} {us : List Value} (i : Nat), Vals xs us → Vals (xs.set i x) (us.set i u)
  | _, _, _, .nil => .nil
  | _, _, 0, .cons _ t => .cons r t
  | _, _, i + 1, .cons q t => .cons q (Vals.set r i t)
theorem Vals.append : ∀ {xs ys : List V} {us ws : List Value}, Vals xs us → Vals ys ws → Vals (xs ++ ys) (us ++ ws)
  | _, _, _, _, .nil, s => s
  | _, _, _, _, .cons r t, s => .cons r (Vals.append t s)
theorem Vals.take : ∀ {xs : List V} {us : List Value} (n : Nat), Vals xs us → Vals (xs.take n) (us.take n)
  | _, _, 0, _ => .nil
  | _, _, _ + 1, .nil => .nil
  | _, _, n + 1, .cons r t => .cons r (Vals.take n t)
theorem Vals.drop : ∀ {xs : List V} {us : List Value} (n : Nat), Vals xs us → Vals (xs.drop n) (us.drop n)
  | _, _, 0, r => r
  | _, _, _ + 1, .nil => .nil
  | _, _, n + 1, .cons _ t => Vals.drop n t
def RelO : Option V → Option Value → Prop
  | some v, some u => RelV v u
  | none, none => True
  | _, _ => False
def KV {κ : Type} : List (κ × V) → List (κ × Value) → Prop := Paired fun (p : κ × V) (q : κ × Value) => p.1 = q.1 ∧ RelV p.2 q.2
def kV : Key → V
  | .inl i => .int i
  | .inr x => .str x
inductive HO where
  | lst (xs : List V)
  | tup (xs : List V)
  | dK (kvs : List (Key × V)) | dT (kvs : List (List Key × V))
  | set (S : Int → Bool) (n : Nat)
  | ins (C dx : Addr) (fs : List (Str × V))
  | own (x : Addr)
  | xd (fs : List (Str × V))
  | met (f x : Addr)
  | rng (lo hi : Int)
  | frz (o : Obj) (u : HO)
  | tbl (ps : Array Value)
  | ext (φ : Heap → Prop)
abbrev Hp := Addr → Option HO
def upd (H : Hp) (a : Addr) (o : HO) : Hp := fun b => if b = a then some o else H b
theorem upd_same {H : Hp} {a : Addr} {o : HO} : upd H a o a = some o := by unfold upd; rw [if_pos rfl]
theorem upd_ne {H : Hp} {a b : Addr} {o : HO} (h : b ≠ a) : upd H a o b = H b := by unfold upd; rw [if_neg h]
theorem ne_of {H : Hp} {a b : Addr} {o u : HO} (h : H a = some o) (h' : H b = some u) (d : o ≠ u) : a ≠ b := by
  intro e; subst e; rw [h] at h'; exact d (Option.some.inj h')
theorem ne_of_none {H : Hp} {a b : Addr} {o : HO} (h : H a = some o) (h' : H b = none) : a ≠ b := by
  intro e; subst e; rw [h] at h'; cases h'
section
variable (P : Program) (w : World)
def ObjOk (H : Hp) (h : Heap) (a : Addr) : HO → Prop
  | .lst xs => xs.length ≤ sizeLine ∧ ∃ (its : List Value) (n : Nat), Vals xs its ∧ h.get? a = some { cls := .type "list", data := .seq its.toArray n }
  | .tup xs => xs.length ≤ sizeLine ∧ ∃ its : List Value, Vals xs its ∧ IsTup h a its.toArray
  | .dK kvs => kvs.length ≤ sizeLine ∧ (a == sysModules) = false ∧ ∃ vs, KV kvs vs ∧ h.DictOf (mixKind P w) a vs
  | .dT kvs => kvs.length ≤ sizeLine ∧ (a == sysModules) = false ∧ ∃ xs : List (List Key × Addr × Value),
      Paired (fun (p : List Key × V) (q : List Key × Addr × Value) => p.1 = q.1 ∧ H q.2.1 = some (.tup (p.1.map kV)) ∧ RelV p.2 q.2.2) kvs xs ∧
      ∃ o es ep, h.get? a = some o ∧ o.ExactDict ∧ o.data = .dict es ep ∧ es.toList = xs.map (entryOfKey (tupleKind (mixKind P w))) ∧ (xs.map (·.1)).Nodup
  | .set S n => h.SetOf (intKind P w) a S n
  | .ins C dx fs => H dx = some (.own a) ∧ fs.length ≤ 1000 ∧ dx ≠ a ∧ h.get? a = some (PySem.W.instObj C dx) ∧
      ∃ mA, h.Ns1 dx mA ∧ (∀ f, RelO (fs.lookup f) (mA f)) ∧ PySem.Within mA (fs.map (·.1))
  | .own _ => ∃ o, h.get? a = some o
  | .xd fs => ∃ mA, h.Ns1 a mA ∧ ∀ f, RelO (fs.lookup f) (mA f)
  | .rng lo hi => ∃ t u v, h.get? a = some { cls := .type "range", data := .fields #[.int lo t, .int hi u, .int 1 v] }
  | .frz o u => h.get? a = some o ∧ ObjOk H h a u
  | .tbl ps => h.get? a = some { cls := .none, data := .fields ps }
  | .met f x => h.get? a = some (PySem.W.methodObj (.ref f) (.ref x))
  | .ext φ => φ h ∧ (∃ o, h.get? a = some o) ∧ ∀ h1 h2 : Heap, φ h1 → (∀ o, h1.get? a = some o → h2.get? a = some o) → φ h2
def HOk (H : Hp) (h : Heap) : Prop := ∀ a o, H a = some o → ObjOk P w H h a o
end
section
variable {P : Program} {w : World} {H H' : Hp} {h h' : Heap} {a : Addr} {o : HO}
theorem ObjOk.lt (x : ObjOk P w H h a o) : a < h.objs.size := by
  cases o with
  | lst xs => obtain ⟨_, _, _, _, e⟩ := x; exact Heap.lt_size e
  | tup xs => obtain ⟨_, _, _, p⟩ := x; exact p.lt
  | dK kvs => obtain ⟨_, _, _, _, o, _, _, e, _⟩ := x; exact Heap.lt_size e
  | dT kvs => obtain ⟨_, _, _, _, o, _, _, e, _⟩ := x; exact Heap.lt_size e
  | set S n => obtain ⟨o, _, _, _, e, _⟩ := x; exact Heap.lt_size e
  | ins C dx fs => obtain ⟨_, _, _, e, _⟩ := x; exact Heap.lt_size e
  | own y => obtain ⟨_, e⟩ := x; exact Heap.lt_size e
  | xd fs => obtain ⟨_, ⟨_, _, _, e, _⟩, _⟩ := x; exact Heap.lt_size e
  | rng lo hi => obtain ⟨_, _, _, e⟩ := x; exact Heap.lt_size e
  | frz ob u => obtain ⟨e, _⟩ := x; exact Heap.lt_size e
  | tbl ps => exact Heap.lt_size (show h.get? a = some _ from x)
  | met f y => exact Heap.lt_size (show h.get? a = some _ from x)
  | ext φ => obtain ⟨_, ⟨_, e⟩, _⟩ := x; exact Heap.lt_size e
theorem Paired.mapP {α β : Type} {F G : α → β → Prop} : ∀ {l₁ : List α} {l₂ : List β}, Paired F l₁ l₂ → (∀ a b, F a b → G a b) → Paired G l₁ l₂
  | _, _, .nil, _ => .nil
  | _, _, .cons r t, f => .cons (f _ _ r) (Paired.mapP t f)
theorem Paired.imp' {α β : Type} {F G : α → β → Prop} (f : ∀ a b, F a b → G a b) {l₁ : List α} {l₂ : List β} (r : Paired F l₁ l₂) : Paired G l₁ l₂ := Paired.mapP r f
theorem ObjOk.stay (x : ObjOk P w H h a o) (k : ∀ b u, (b = a ∨ H b = some (.own a)) → h.get? b = some u → h'.get? b = some u)
    (ho : ∀ b, H b = some (.own a) → H' b = some (.own a)) (ht : ∀ b xs, H b = some (.tup xs) → H' b = some (.tup xs)) : ObjOk P w H' h' a o := by
  induction o with
  | lst xs => obtain ⟨z, its, n, r, e⟩ := x; exact ⟨z, its, n, r, k _ _ (.inl rfl) e⟩
  | tup xs => obtain ⟨z, its, r, ob, e, c⟩ := x; exact ⟨z, its, r, ob, k _ _ (.inl rfl) e, c⟩
  | dK kvs => obtain ⟨z, y, vs, r, ob, es, ep, e, c⟩ := x; exact ⟨z, y, vs, r, ob, es, ep, k _ _ (.inl rfl) e, c⟩
  | dT kvs =>
    obtain ⟨z, y, xs, r, ob, es, ep, e, c⟩ := x
    exact ⟨z, y, xs, Paired.mapP r fun p q z => ⟨z.1, ht _ _ z.2.1, z.2.2⟩, ob, es, ep, k _ _ (.inl rfl) e, c⟩
  | set S n => obtain ⟨ob, es, ep, t, e, c⟩ := x; exact ⟨ob, es, ep, t, k _ _ (.inl rfl) e, c⟩
  | ins C dx fs =>
    obtain ⟨d, z, ne, e, mA, ⟨od, es, ep, e2, c⟩, r⟩ := x
    exact ⟨ho _ d, z, ne, k _ _ (.inl rfl) e, mA, ⟨od, es, ep, k _ _ (.inr d) e2, c⟩, r⟩
  | own y => obtain ⟨ob, e⟩ := x; exact ⟨ob, k _ _ (.inl rfl) e⟩
  | xd fs => obtain ⟨mA, ⟨od, es, ep, e, c⟩, r⟩ := x; exact ⟨mA, ⟨od, es, ep, k _ _ (.inl rfl) e, c⟩, r⟩
  | rng lo hi => obtain ⟨t, u, v, e⟩ := x; exact ⟨t, u, v, k _ _ (.inl rfl) e⟩
  | frz ob u ih => obtain ⟨e, q⟩ := x; exact ⟨k _ _ (.inl rfl) e, ih q⟩
  | tbl ps =>
    have e : h.get? a = some { cls := .none, data := .fields ps } := x
    show h'.get? a = some { cls := .none, data := .fields ps }
    exact k a _ (.inl rfl) e
  | met f y =>
    have e : h.get? a = some (PySem.W.methodObj (.ref f) (.ref y)) := x
    show h'.get? a = some (PySem.W.methodObj (.ref f) (.ref y))
    exact k a _ (.inl rfl) e
  | ext φ => obtain ⟨p, ⟨o, e⟩, st⟩ := x; exact ⟨st _ _ p fun o q => k _ _ (.inl rfl) q, ⟨o, k _ _ (.inl rfl) e⟩, st⟩
theorem HOk.lt (x : HOk P w H h) (e : H a = some o) : a < h.objs.size := (x a o e).lt
theorem HOk.fresh (x : HOk P w H h) (e : h.objs.size ≤ a) : H a = none := by
  cases q : H a with
  | none => rfl
  | some u => exact absurd (Nat.lt_of_lt_of_le (x.lt q) e) (Nat.lt_irrefl _)
theorem HOk.kept (x : HOk P w H h) (k : ∀ b u, h.get? b = some u → h'.get? b = some u) : HOk P w H h' := fun a o e =>
  (x a o e).stay (fun b u _ q => k b u q) (fun _ q => q) fun _ _ q => q
theorem HOk.laid (x : HOk P w H h) (k : ∀ b u, h.get? b = some u → h'.get? b = some u) (hp : h.objs.size ≤ a) (new : ObjOk P w (upd H a o) h' a o) : HOk P w (upd H a o) h' := fun b u e => by
  have hn := x.fresh hp
  by_cases hb : b = a
  · subst hb; rw [upd_same] at e; cases e; exact new
  · rw [upd_ne hb] at e
    exact (x b u e).stay (fun c v _ q => k c v q) (fun c q => by rw [upd_ne (ne_of_none q hn)]; exact q) fun c xs q => by rw [upd_ne (ne_of_none q hn)]; exact q
end
def Rd (H : Hp) (a : Addr) (u : HO) : Prop := H a = some u ∨ ∃ o, H a = some (.frz o u)
theorem Rd.of {H : Hp} {a : Addr} {u : HO} (h : H a = some u) : Rd H a u := .inl h
theorem Rd.ok {P : Program} {w : World} {H : Hp} {h : Heap} {a : Addr} {u : HO} (r : Rd H a u) (x : HOk P w H h) : ObjOk P w H h a u := by
  rcases r with r | ⟨o, r⟩
  · exact x a u r
  · obtain ⟨_, q⟩ := x a _ r
    exact q
def Mut : Option HO → Prop
  | some (.lst _) => True
  | some (.dK _) => True
  | some (.dT _) => True
  | some (.set _ _) => True
  | some (.ins _ _ _) => True
  | some (.ext _) => True
  | _ => False
section
variable {P : Program} {w : World} {H : Hp} {h h' : Heap} {x e : Addr} {o' : HO}
theorem HOk.write (ok : HOk P w H h) (mu : Mut (H x)) (he : e = x ∨ H e = some (.own x)) (k : ∀ b u, b ≠ e → h.get? b = some u → h'.get? b = some u) (heo : ∃ u, h'.get? e = some u)
    (new : ObjOk P w (upd H x o') h' x o') : HOk P w (upd H x o') h' := fun b u q => by
  have nown : ∀ c y, H c = some (.own y) → c ≠ x := fun c y r z => by subst z; rw [r] at mu; exact mu
  have ntup : ∀ c xs, H c = some (.tup xs) → c ≠ x := fun c xs r z => by subst z; rw [r] at mu; exact mu
  by_cases hb : b = x
  · subst hb; rw [upd_same] at q; cases q; exact new
  · rw [upd_ne hb] at q
    by_cases hbe : b = e
    · have q' : H b = some (.own x) := by
        rcases he with z | z
        · exact absurd (hbe.trans z) hb
        · rw [hbe]; exact z
      rw [q] at q'; cases q'
      obtain ⟨v, hv⟩ := heo
      exact ⟨v, by rw [hbe]; exact hv⟩
    · refine (ok b u q).stay (fun c v hc r => k c v ?_ r) (fun c r => by rw [upd_ne (nown c b r)]; exact r) fun c xs r => by rw [upd_ne (ntup c xs r)]; exact r
      rcases hc with rfl | hc
      · exact hbe
      · rintro rfl
        rcases he with z | z
        · exact nown c b hc z
        · rw [hc] at z; cases z; exact hb rfl
end
structure Un (fs ex : List Addr) (H H' : Hp) (h h' : Heap) : Prop where
  keep : ∀ b o, h.get? b = some o → H b = none → b ∉ fs → b ∉ ex → h'.get? b = some o
  slot : ∀ b o, h.get? b = some o → H b = none → b ∈ fs → b ∉ ex → ∃ sl, h'.get? b = some { o with slots := sl }
  free : ∀ b o, h.get? b = some o → H b = none → b ∉ ex → H' b = none
  there : ∀ b o, h.get? b = some o → b ∉ ex → ∃ o', h'.get? b = some o'
  tups : ∀ b xs, H b = some (.tup xs) → H' b = some (.tup xs)
  frzs : ∀ b o u, H b = some (.frz o u) → H' b = some (.frz o u)
  tbls : ∀ b ps, H b = some (.tbl ps) → ∃ more, H' b = some (.tbl (ps ++ more))
section
variable {fs fs' ex ex' : List Addr} {H H1 H2 : Hp} {h h1 h2 h' : Heap} {a x e : Addr} {o : HO}
theorem Un.any (u : Un fs ex H H1 h h1) {b : Addr} {ob : Obj} (q : h.get? b = some ob) (n : H b = none) (hx : b ∉ ex) : ∃ sl, h1.get? b = some { ob with slots := sl } := by
  by_cases hb : b ∈ fs
  · exact u.slot b ob q n hb hx
  · exact ⟨ob.slots, u.keep b ob q n hb hx⟩
theorem Un.trans (a : Un fs ex H H1 h h1) (b : Un fs ex H1 H2 h1 h2) : Un fs ex H H2 h h2 where
  keep := fun c ob q n hc hx => b.keep c ob (a.keep c ob q n hc hx) (a.free c ob q n hx) hc hx
  slot := fun c ob q n hc hx => by
    obtain ⟨sl, e1⟩ := a.slot c ob q n hc hx
    obtain ⟨sl', e2⟩ := b.slot c _ e1 (a.free c ob q n hx) hc hx
    exact ⟨sl', e2⟩
  free := fun c ob q n hx => by
    obtain ⟨o', e1⟩ := a.there c ob q hx
    exact b.free c o' e1 (a.free c ob q n hx) hx
  there := fun c ob q hx => by
    obtain ⟨o', e1⟩ := a.there c ob q hx
    exact b.there c o' e1 hx
  tups := fun c xs q => b.tups c xs (a.tups c xs q)
  frzs := fun c ob xs q => b.frzs c ob xs (a.frzs c ob xs q)
  tbls := fun c ps q => by
    obtain ⟨m1, e1⟩ := a.tbls c ps q
    obtain ⟨m2, e2⟩ := b.tbls c _ e1
    exact ⟨m1 ++ m2, by rw [e2, Array.append_assoc]⟩
theorem Un.kept (k : ∀ b u, h.get? b = some u → h'.get? b = some u) : Un fs ex H H h h' :=
  ⟨fun b ob q _ _ _ => k b ob q, fun b ob q _ _ _ => ⟨ob.slots, k b ob q⟩, fun _ _ _ n _ => n, fun b ob q _ => ⟨ob, k b ob q⟩, fun _ _ q => q, fun _ _ _ q => q, fun _ ps q => ⟨#[], by rw [q]; simp⟩⟩
theorem Un.refl : Un fs ex H H h h := Un.kept fun _ _ q => q
theorem Un.laid (k : ∀ b u, h.get? b = some u → h'.get? b = some u) (hp : h.objs.size ≤ a) (hn : H a = none) : Un fs ex H (upd H a o) h h' where
  keep := fun b u q _ _ _ => k b u q
  slot := fun b u q _ _ _ => ⟨u.slots, k b u q⟩
  free := fun b u q n _ => by rw [upd_ne (Nat.ne_of_lt (Nat.lt_of_lt_of_le (Heap.lt_size q) hp))]; exact n
  there := fun b u q _ => ⟨u, k b u q⟩
  tups := fun b xs q => by rw [upd_ne (ne_of_none q hn)]; exact q
  frzs := fun b u xs q => by rw [upd_ne (ne_of_none q hn)]; exact q
  tbls := fun b ps q => ⟨#[], by rw [upd_ne (ne_of_none q hn), q]; simp⟩
theorem Un.write (mu : Mut (H x)) (he : e = x ∨ H e = some (.own x)) (k : ∀ b u, b ≠ e → h.get? b = some u → h'.get? b = some u) (heo : ∃ u, h'.get? e = some u) : Un fs ex H (upd H x o) h h' := by
  have hx : ∀ b, H b = none → b ≠ x := fun b n z => by subst z; rw [n] at mu; exact mu
  have hb : ∀ b, H b = none → b ≠ e := fun b n z => by
    subst z
    rcases he with r | r
    · exact hx b n r
    · rw [n] at r; cases r
  have hm : ∀ b u, H b = some u → ¬ Mut (some u) → b ≠ x := fun b u q nm z => by subst z; rw [q] at mu; exact nm mu
  refine ⟨fun b u q n _ _ => k b u (hb b n) q, fun b u q n _ _ => ⟨u.slots, k b u (hb b n) q⟩, fun b u q n _ => by rw [upd_ne (hx b n)]; exact n, fun b u q _ => ?_,
    fun b xs q => by rw [upd_ne (hm b _ q fun z => z)]; exact q, fun b u xs q => by rw [upd_ne (hm b _ q fun z => z)]; exact q, fun b ps q => ⟨#[], by rw [upd_ne (hm b _ q fun z => z), q]; simp⟩⟩
  by_cases hbe : b = e
  · subst hbe; exact heo
  · exact ⟨u, k b u hbe q⟩
theorem Un.mono (u : Un fs ex H H1 h h1) (hs : ∀ b ∈ fs, b ∈ fs') (hx : ∀ b ∈ ex, b ∈ ex') : Un fs' ex' H H1 h h1 :=
  ⟨fun b ob q n hb he => u.keep b ob q n (fun z => hb (hs b z)) fun z => he (hx b z), fun _ _ q n _ he => u.any q n fun z => he (hx _ z), fun b ob q n he => u.free b ob q n fun z => he (hx b z), fun b ob q he => u.there b ob q fun z => he (hx b z), u.tups, u.frzs, u.tbls⟩
end
def trk (h : Heap) (H : Hp) : List Addr := (List.range h.objs.size).filter fun a => (H a).isSome
def hidT (h : Heap) (H : Hp) : Heap := PySem.W.hideAll h (trk h H)
theorem hidT_size (h : Heap) (H : Hp) : (hidT h H).objs.size = h.objs.size := PySem.W.hideAll_size _ _
theorem hidT_get {h : Heap} {H : Hp} {b : Addr} {o : Obj} (e : h.get? b = some o) (n : H b = none) : (hidT h H).get? b = some o :=
  PySem.W.hideAll_get _ e fun hm => by
    have q : (H b).isSome = true := (List.mem_filter.mp hm).2
    rw [n] at q; simp at q
theorem of_hidT {h : Heap} {H : Hp} {b : Addr} {o : Obj} (e : (hidT h H).get? b = some o) : h.get? b = some o ∧ H b = none := by
  have e' : h.get? b = some o := PySem.W.of_hideAll (trk h H) e
  refine ⟨e', ?_⟩
  cases q : H b with
  | none => rfl
  | some x =>
    have hm : b ∈ trk h H := List.mem_filter.mpr ⟨List.mem_range.mpr (Heap.lt_size e'), by simp [q]⟩
    have z : (hidT h H).get? b = none := PySem.W.hideAll_none (trk h H) hm
    rw [z] at e; cases e
def allNews (g h : Heap) (L : Addr) : List (Addr × Obj) := (List.range h.objs.size).filterMap fun a => if a = L ∨ (g.get? a).isSome = true then none else (h.get? a).map fun o => (a, o)
def rest (g h : Heap) (L d : Addr) : List (Addr × Obj) := (allNews g h L).filter fun p => decide (p.1 ≠ d)
end L2
namespace L2
open PySem PySem.Spec PyProof.Rows
structure Mod (K : PySem.W.Frag) (mg : Str → Option Value) (base : Heap) : Prop where
  kin : K.In base
  glob : base.Ns mainGlobals mg
  blt : ∃ mb, base.Ns builtinsNs mb ∧ ∀ x : Str, x ≠ "__name__" → mb x = bootBuiltins x
  nolimit : base.NoLimit
structure Cx where
  prog : Program
  w : World
  K : PySem.W.Frag
  mg : Str → Option Value
  base : Heap
  A : Around
  N : List Str
  s₀ : Shared
  H₀ : Hp
  env : Env
  outer : List Env
  stack : List Env
  ex : List Addr
  fn : Str → Bool
  calm : Bool
  pn : List (Addr × Obj)
  xe : Value → Shared → Prop
def frs (l : List Env) : List Addr := l.filterMap (·.frame)
abbrev Cx.fs (X : Cx) : List Addr := frs X.outer
def Vis (sc : Scope) (x : Str) : Prop := sc.names.lookup x = some .local ∨ sc.names.lookup x = some .cell ∨ sc.names.lookup x = some .free
def Loc (sc : Scope) (x : Str) : Prop := sc.names.lookup x = some .local ∨ sc.names.lookup x = some .cell
def Look (env : Env) (h : Heap) (m : Str → Option Value) (x : Str) (u : Value) : Prop :=
  (env.kindOf x = some .local ∧ m x = some u) ∨ ((env.kindOf x = some .cell ∨ env.kindOf x = some .free) ∧ ∃ c, env.cells.lookup x = some c ∧ h.IsCell c (some u))
structure Cx.Ok (X : Cx) : Prop where
  mod : Mod X.K X.mg X.base
  kind : X.env.scope.kind = .function
  glob : X.env.globals = mainGlobals
  blt : X.env.builtins = builtinsNs
  above : X.s₀.heap.objs.size ≤ X.env.locals
  inj : ∀ x y c, X.env.cells.lookup x = some c → X.env.cells.lookup y = some c → x = y
  has : ∀ x, (X.env.kindOf x = some .cell ∨ X.env.kindOf x = some .free) → ∃ c, X.env.cells.lookup x = some c
  cab : ∀ x c, X.fn x = true → X.env.cells.lookup x = some c → X.s₀.heap.objs.size ≤ c
  hd : X.calm = true → X.A.handled = none
  frames : X.A.frames = some X.stack
  stk : X.stack = X.outer ∨ (X.stack = X.env :: X.outer ∧ X.env.frame = some X.env.locals)
  exf : ∀ b ∈ X.ex, b ≠ X.env.locals ∧ ∀ x c, X.env.cells.lookup x = some c → c ≠ b
  bs : ∀ b o, X.base.get? b = some o → X.s₀.heap.get? b = some o ∧ X.H₀ b = none
  bsz : X.base.objs.size ≤ X.s₀.heap.objs.size
  noex : ∀ b o, X.base.get? b = some o → b ∉ X.ex
  exfs : ∀ b ∈ X.ex, b ∉ X.fs
  funs : X.s₀.heap.FunFrames X.base X.outer
  frf : ∀ b ∈ X.fs, X.H₀ b = none
structure Inv (X : Cx) (pins : List (Addr × Obj)) (σ : List (Option V)) (H : Hp) (s : Shared) : Prop where
  ok : X.Ok
  os : s.os = X.s₀.os
  bare : AllBare s.gens
  base : Un X.fs X.ex X.H₀ H X.s₀.heap s.heap
  loc : ∃ m, s.heap.Ns X.env.locals m ∧ ∀ (i : Nat) (x : Str) (v : V), X.N[i]? = some x → σ[i]? = some (some v) → Vis X.env.scope x → ∃ u, RelV v u ∧ Look X.env s.heap m x u
  cell : ∀ x c, X.env.cells.lookup x = some c → ∃ v, s.heap.IsCell c v
  free : H X.env.locals = none
  freeC : ∀ x c, X.env.cells.lookup x = some c → H c = none
  pin : ∀ p ∈ X.pn ++ pins, s.heap.get? p.1 = some p.2 ∧ H p.1 = none ∧ p.1 ≠ X.env.locals ∧ p.1 ∉ X.fs ∧ ∀ v, p.2.data ≠ .cell v
  hok : HOk X.prog X.w H s.heap
  len : σ.length = X.N.length
section
variable {X : Cx} {pins : List (Addr × Obj)} {σ : List (Option V)} {H H' : Hp} {s : Shared} {h' : Heap}
theorem Cx.Ok.nofr (ok : X.Ok) {b : Addr} {o : Obj} (e : X.base.get? b = some o) : b ∉ X.fs := fun hb => by
  have := (ok.funs.mem hb).1
  rw [e] at this; cases this
theorem Inv.bs (I : Inv X pins σ H s) : ∀ b o, X.base.get? b = some o → s.heap.get? b = some o ∧ H b = none := fun b o e =>
  ⟨I.base.keep b o (I.ok.bs b o e).1 (I.ok.bs b o e).2 (I.ok.nofr e) (I.ok.noex b o e), I.base.free b o (I.ok.bs b o e).1 (I.ok.bs b o e).2 (I.ok.noex b o e)⟩
theorem Inv.bk (I : Inv X pins σ H s) : ∀ b o, X.base.get? b = some o → s.heap.get? b = some o := fun b o e => (I.bs b o e).1
theorem Inv.mod (I : Inv X pins σ H s) : Mod X.K X.mg X.base := I.ok.mod
theorem Inv.kIn (I : Inv X pins σ H s) : X.K.In s.heap := I.ok.mod.kin.keeps I.bk
theorem Inv.nolimit (I : Inv X pins σ H s) : s.heap.NoLimit := I.ok.mod.nolimit.keeps I.bk
theorem Inv.fr (I : Inv X pins σ H s) : ∃ m, Fr X.base X.env.locals s.heap m :=
  let ⟨m, hn, _⟩ := I.loc
  ⟨m, hn, I.bk, Nat.le_trans I.ok.bsz I.ok.above⟩
theorem Inv.lt (I : Inv X pins σ H s) : X.env.locals < s.heap.objs.size := let ⟨_, hn, _⟩ := I.loc; hn.lt
theorem Inv.sz (I : Inv X pins σ H s) : X.s₀.heap.objs.size ≤ s.heap.objs.size := Nat.le_trans I.ok.above (Nat.le_of_lt I.lt)
theorem Inv.nofs (I : Inv X pins σ H s) {a : Addr} (h : s.heap.objs.size ≤ a) : a ∉ X.fs := fun hb => by
  obtain ⟨_, o, ho, _⟩ := I.ok.funs.mem hb
  exact absurd (Nat.lt_of_lt_of_le (Heap.lt_size ho) (Nat.le_trans I.sz h)) (Nat.lt_irrefl _)
theorem Inv.cne (I : Inv X pins σ H s) : ∀ x c, X.env.cells.lookup x = some c → c ≠ X.env.locals := fun x c e z => by
  obtain ⟨v, o, ho, hd⟩ := I.cell x c e
  obtain ⟨m, ⟨o', es, ep, ho', hd', _⟩, _⟩ := I.loc
  rw [z, ho'] at ho; cases ho; rw [hd'] at hd; cases hd
theorem Inv.funs (I : Inv X pins σ H s) : s.heap.FunFrames X.base X.outer := by
  have all : ∀ (l : List Env), (∀ b ∈ frs l, b ∈ X.fs) → X.s₀.heap.FunFrames X.base l → s.heap.FunFrames X.base l := by
    intro l
    induction l with
    | nil => intro _ _; trivial
    | cons env r ih =>
      intro hs hl
      obtain ⟨hk, ⟨L, o, hf, hn, ho, hd⟩, hr⟩ := hl
      have hL : L ∈ X.fs := hs L (by unfold frs; rw [List.filterMap_cons, hf]; exact List.mem_cons_self)
      obtain ⟨sl, e⟩ := I.base.slot L o ho (I.ok.frf L hL) hL fun z => I.ok.exfs L z hL
      exact ⟨hk, ⟨L, _, hf, hn, e, hd⟩, ih (fun b hb => hs b (by unfold frs; rw [List.filterMap_cons, hf]; exact List.mem_cons_of_mem _ hb)) hr⟩
  exact all X.outer (fun _ hb => hb) I.ok.funs
theorem Inv.stack (I : Inv X pins σ H s) : s.heap.FunFrames X.base X.stack := by
  rcases I.ok.stk with e | ⟨e, hf⟩
  · rw [e]; exact I.funs
  · rw [e]
    obtain ⟨m, hn, _⟩ := I.loc
    refine .cons (by rw [I.ok.kind]; decide) hf hn ?_ I.funs
    exact Heap.get?_none_of_le (Nat.le_trans I.ok.bsz I.ok.above)
theorem Inv.stkSub (I : Inv X pins σ H s) : ∀ b ∈ frs X.stack, b ∈ X.env.locals :: X.fs := fun b hb => by
  rcases I.ok.stk with e | ⟨e, hf⟩
  · rw [e] at hb; exact List.mem_cons_of_mem _ hb
  · rw [e] at hb
    unfold frs at hb
    rw [List.filterMap_cons, hf] at hb
    exact hb
theorem Inv.stkFree (I : Inv X pins σ H s) : ∀ b ∈ frs X.stack, H b = none := fun b hb => by
  rcases List.mem_cons.mp (I.stkSub b hb) with e | hb
  · rw [e]; exact I.free
  · obtain ⟨_, o, ho, _⟩ := I.ok.funs.mem hb
    exact I.base.free b o ho (I.ok.frf b hb) fun z => I.ok.exfs b z hb
theorem Inv.step {g' : Array GenState} {t' : Nat} {d' : Drawn} {ch : List Addr} (I : Inv X pins σ H s)
    (hch : ∀ b ∈ ch, (b ∈ X.ex ∨ X.s₀.heap.objs.size ≤ b) ∧ b ≠ X.env.locals ∧ (∀ x c, X.env.cells.lookup x = some c → c ≠ b) ∧ ∀ p ∈ X.pn ++ pins, p.1 ≠ b)
    (keep : ∀ b o, b ≠ X.env.locals → b ∉ X.fs → b ∉ ch → s.heap.get? b = some o → H b = none → h'.get? b = some o)
    (slot : ∀ b o, b ≠ X.env.locals → b ∈ X.fs → b ∉ ch → s.heap.get? b = some o → H b = none → ∃ sl, h'.get? b = some { o with slots := sl }) (free : ∀ b o, b ∉ ch → s.heap.get? b = some o → H b = none → H' b = none)
    (there : ∀ b o, b ∉ ch → s.heap.get? b = some o → ∃ o', h'.get? b = some o')
    (tups : ∀ b xs, H b = some (.tup xs) → H' b = some (.tup xs)) (frzs : ∀ b o u, H b = some (.frz o u) → H' b = some (.frz o u)) (tbls : ∀ b ps, H b = some (.tbl ps) → ∃ more, H' b = some (.tbl (ps ++ more)))
    (ns : ∀ m, s.heap.Ns X.env.locals m → h'.Ns X.env.locals m) (hok : HOk X.prog X.w H' h') (hg : AllBare g') :
    Inv X pins σ H' { s with heap := h', gens := g', drawn := d', toks := t' } := by
  have neL : ∀ b o, X.s₀.heap.get? b = some o → b ≠ X.env.locals := fun b o e => Nat.ne_of_lt (Nat.lt_of_lt_of_le (Heap.lt_size e) I.ok.above)
  have neC : ∀ b o, X.s₀.heap.get? b = some o → b ∉ X.ex → b ∉ ch := fun b o e hx hb => by
    rcases (hch b hb).1 with z | z
    · exact hx z
    · exact absurd (Nat.lt_of_lt_of_le (Heap.lt_size e) z) (Nat.lt_irrefl _)
  have cellK : ∀ x c, X.env.cells.lookup x = some c → ∀ v, s.heap.IsCell c v → h'.IsCell c v := fun x c e v ⟨o, ho, hd⟩ => by
    have nch : c ∉ ch := fun z => (hch c z).2.2.1 x c e rfl
    by_cases hc : c ∈ X.fs
    · obtain ⟨sl, q⟩ := slot c o (I.cne x c e) hc nch ho (I.freeC x c e)
      exact ⟨_, q, hd⟩
    · exact ⟨o, keep c o (I.cne x c e) hc nch ho (I.freeC x c e), hd⟩
  refine ⟨I.ok, I.os, hg, ⟨fun b o e n hb hx => ?_, fun b o e n hb hx => ?_, fun b o e n hx => ?_, fun b o e hx => ?_, fun b xs e => tups b xs (I.base.tups b xs e), fun b o xs e => frzs b o xs (I.base.frzs b o xs e), fun b ps e => ?_⟩, ?_, fun x c e => ?_, ?_, fun x c e => ?_, fun p hp => ?_, hok, I.len⟩
  · exact keep b o (neL b o e) hb (neC b o e hx) (I.base.keep b o e n hb hx) (I.base.free b o e n hx)
  · obtain ⟨sl, e1⟩ := I.base.slot b o e n hb hx
    obtain ⟨sl', e2⟩ := slot b _ (neL b o e) hb (neC b o e hx) e1 (I.base.free b o e n hx)
    exact ⟨sl', e2⟩
  · obtain ⟨o', e1⟩ := I.base.there b o e hx
    exact free b o' (neC b o e hx) e1 (I.base.free b o e n hx)
  · obtain ⟨o', e1⟩ := I.base.there b o e hx
    exact there b o' (neC b o e hx) e1
  · obtain ⟨m1, e1⟩ := I.base.tbls b ps e
    obtain ⟨m2, e2⟩ := tbls b _ e1
    exact ⟨m1 ++ m2, by rw [e2, Array.append_assoc]⟩
  · obtain ⟨m, hn, hl⟩ := I.loc
    refine ⟨m, ns m hn, fun i x v e1 e2 e3 => ?_⟩
    obtain ⟨u, r, l⟩ := hl i x v e1 e2 e3
    refine ⟨u, r, ?_⟩
    rcases l with l | ⟨k, c, e, z⟩
    · exact .inl l
    · exact .inr ⟨k, c, e, cellK x c e _ z⟩
  · obtain ⟨v, z⟩ := I.cell x c e
    exact ⟨v, cellK x c e v z⟩
  · obtain ⟨m, ⟨o, _, _, ho, _⟩, _⟩ := I.loc
    exact free _ o (fun z => (hch _ z).2.1 rfl) ho I.free
  · obtain ⟨v, o, ho, hd⟩ := I.cell x c e
    exact free c o (fun z => (hch c z).2.2.1 x c e rfl) ho (I.freeC x c e)
  · obtain ⟨e, n, ne, nf, d⟩ := I.pin p hp
    have nch : p.1 ∉ ch := fun z => (hch p.1 z).2.2.2 p hp rfl
    exact ⟨keep p.1 p.2 ne nf nch e n, free p.1 p.2 nch e n, ne, nf, d⟩
theorem Inv.un {t' : Nat} (I : Inv X pins σ H s) (u : Un X.fs [] H H' s.heap h') (hok : HOk X.prog X.w H' h') : Inv X pins σ H' { s with heap := h', toks := t' } := by
  obtain ⟨m, ⟨o, es, ep, ho, r⟩, _⟩ := id I.loc
  obtain ⟨sl, hL⟩ := u.any ho I.free (by simp)
  exact I.step (g' := s.gens) (d' := s.drawn) (ch := []) (fun _ z => nomatch z) (fun b o _ hb _ e n => u.keep b o e n hb (by simp)) (fun b o _ hb _ e n => u.slot b o e n hb (by simp)) (fun b o _ e n => u.free b o e n (by simp)) (fun b o _ e => u.there b o e (by simp)) u.tups u.frzs u.tbls (fun m' hm => by
    obtain ⟨o', es', ep', ho', r'⟩ := hm
    rw [ho] at ho'; cases ho'
    exact ⟨_, es', ep', hL, r'⟩) hok I.bare
theorem Inv.call {g' : Array GenState} {t' : Nat} {d' : Drawn} {ch : List Addr} (I : Inv X pins σ H s) (u : Un (frs X.stack) ch H H' s.heap h') (hok : HOk X.prog X.w H' h') (hg : AllBare g')
    (hch : ∀ b ∈ ch, (b ∈ X.ex ∨ X.s₀.heap.objs.size ≤ b) ∧ b ≠ X.env.locals ∧ (∀ x c, X.env.cells.lookup x = some c → c ≠ b) ∧ ∀ p ∈ X.pn ++ pins, p.1 ≠ b) :
    Inv X pins σ H' { s with heap := h', gens := g', drawn := d', toks := t' } := by
  obtain ⟨m, ⟨o, es, ep, ho, r⟩, _⟩ := id I.loc
  obtain ⟨sl, hL⟩ := u.any ho I.free fun z => (hch _ z).2.1 rfl
  exact I.step (ch := ch) hch (fun b o hL hb hc e n => u.keep b o e n (fun z => (List.mem_cons.mp (I.stkSub b z)).elim hL hb) hc) (fun b o _ _ hc e n => u.any e n hc) (fun b o hc e n => u.free b o e n hc) (fun b o hc e => u.there b o e hc) u.tups u.frzs u.tbls (fun m' hm => by
    obtain ⟨o', es', ep', ho', r'⟩ := hm
    rw [ho] at ho'; cases ho'
    exact ⟨_, es', ep', hL, r'⟩) hok hg
theorem Inv.turned {t' : Nat} {it : Addr} (I : Inv X pins σ H s) (k : ∀ b o, b ≠ it → s.heap.get? b = some o → h'.get? b = some o) (hn : H it = none) (hL : it ≠ X.env.locals)
    (h1 : it ∈ X.ex ∨ X.s₀.heap.objs.size ≤ it) (h2 : ∀ x c, X.env.cells.lookup x = some c → c ≠ it) (h3 : ∀ p ∈ X.pn ++ pins, p.1 ≠ it) : Inv X pins σ H { s with heap := h', toks := t' } := by
  have nit : ∀ b u, H b = some u → b ≠ it := fun b u e z => by rw [z, hn] at e; cases e
  refine I.step (g' := s.gens) (d' := s.drawn) (ch := [it]) (fun b hb => ?_) (fun b o _ _ hc e _ => k b o (fun z => hc (by simp [z])) e) (fun b o _ _ hc e _ => ⟨o.slots, k b o (fun z => hc (by simp [z])) e⟩) (fun _ _ _ _ n => n)
    (fun b o hc e => ⟨o, k b o (fun z => hc (by simp [z])) e⟩) (fun _ _ e => e) (fun _ _ _ e => e) (fun b ps e => ⟨#[], by rw [e]; simp⟩) (fun m hm => ?_) (fun b u e => ?_) I.bare
  · have e : b = it := by simpa using hb
    subst e
    exact ⟨h1, hL, h2, h3⟩
  · obtain ⟨o, es, ep, ho, r⟩ := hm
    exact ⟨o, es, ep, k _ o (Ne.symm hL) ho, r⟩
  · refine (I.hok b u e).stay (fun c v hc q => k c v ?_ q) (fun _ q => q) fun _ _ q => q
    rcases hc with z | z
    · rw [z]; exact nit b u e
    · exact nit c _ z
theorem Inv.tok (I : Inv X pins σ H s) (t : Nat) : Inv X pins σ H { s with toks := t } := I.un (h' := s.heap) (t' := t) Un.refl I.hok
theorem Inv.kept {t' : Nat} (I : Inv X pins σ H s) (k : ∀ b u, s.heap.get? b = some u → h'.get? b = some u) : Inv X pins σ H { s with heap := h', toks := t' } := I.un (Un.kept k) (I.hok.kept k)
theorem Inv.laid {a : Addr} {o : HO} {t' : Nat} (I : Inv X pins σ H s) (k : ∀ b u, s.heap.get? b = some u → h'.get? b = some u) (hp : s.heap.objs.size ≤ a) (new : ObjOk X.prog X.w (upd H a o) h' a o) :
    Inv X pins σ (upd H a o) { s with heap := h', toks := t' } := I.un (Un.laid k hp (I.hok.fresh hp)) (I.hok.laid k hp new)
theorem Inv.write {x e : Addr} {o : HO} {t' : Nat} (I : Inv X pins σ H s) (mu : Mut (H x)) (he : e = x ∨ H e = some (.own x)) (k : ∀ b u, b ≠ e → s.heap.get? b = some u → h'.get? b = some u) (heo : ∃ u, h'.get? e = some u)
    (new : ObjOk X.prog X.w (upd H x o) h' x o) : Inv X pins σ (upd H x o) { s with heap := h', toks := t' } := I.un (Un.write mu he k heo) (I.hok.write mu he k heo new)
theorem Inv.weak {σ' : List (Option V)} (I : Inv X pins σ H s) (hl : σ'.length = σ.length) (w : ∀ (i : Nat) v, σ'[i]? = some (some v) → σ[i]? = some (some v)) : Inv X pins σ' H s :=
  ⟨I.ok, I.os, I.bare, I.base, let ⟨m, hn, hl'⟩ := I.loc; ⟨m, hn, fun i x v e1 e2 e3 => hl' i x v e1 (w i v e2) e3⟩, I.cell, I.free, I.freeC, I.pin, I.hok, hl.trans I.len⟩
theorem Inv.pins_of {pins' : List (Addr × Obj)} (I : Inv X pins σ H s) (h : ∀ p ∈ pins', s.heap.get? p.1 = some p.2 ∧ H p.1 = none ∧ p.1 ≠ X.env.locals ∧ p.1 ∉ X.fs ∧ ∀ v, p.2.data ≠ .cell v) : Inv X pins' σ H s :=
  ⟨I.ok, I.os, I.bare, I.base, I.loc, I.cell, I.free, I.freeC, fun p hp => (List.mem_append.mp hp).elim (fun z => I.pin p (List.mem_append_left _ z)) (h p), I.hok, I.len⟩
theorem nodup_ix {N : List Str} (hN : N.Nodup) {i j : Nat} {x : Str} (a : N[i]? = some x) (b : N[j]? = some x) : i = j := by
  obtain ⟨h1, e1⟩ := List.getElem?_eq_some_iff.mp a
  obtain ⟨h2, e2⟩ := List.getElem?_eq_some_iff.mp b
  exact (List.getElem_inj hN).mp (e1.trans e2.symm)
theorem store_ok2 {M : Model} {A : Around} {E : Value → Shared → Prop} {i : Nat} {x : Str} {v : V} {u : Value} {Q : Unit → Shared → Prop} (I : Inv X pins σ H s) (hN : X.N.Nodup) (hi : X.N[i]? = some x) (hx : Loc X.env.scope x) (r : RelV v u)
    (h : ∀ s', Inv X pins (σ.set i (some v)) H s' → (∃ a, Heap.SameBut a s.heap s'.heap ∧ (a = X.env.locals ∨ X.env.cells.lookup x = some a)) → Q () s') (hf : X.fn x = true ∨ X.env.scope.names.lookup x = some .local := by first | exact .inl rfl | exact .inr rfl | assumption) : wpAny M A (storeName X.env x u) Q E s := by
  obtain ⟨m, hn, hl⟩ := id I.loc
  have hcls : (X.env.scope.kind == .class || (X.env.scope.kind == .module && X.env.locals != X.env.globals)) = false := by rw [I.ok.kind]; rfl
  have hiσ : i < σ.length := by rw [I.len]; exact (List.getElem?_eq_some_iff.mp hi).1
  have cne := I.cne
  have tracked : ∀ {a : Addr} {h' : Heap}, (∃ o, s.heap.get? a = some o ∧ H a = none) → Heap.SameBut a s.heap h' → HOk X.prog X.w H h' := fun {a h'} ha hs b ob e => by
    obtain ⟨_, _, hfree⟩ := ha
    refine (I.hok b ob e).stay (fun c w' hc q => (hs.2 c ?_).trans q) (fun _ q => q) fun _ _ q => q
    rintro rfl
    rcases hc with rfl | hc
    · rw [hfree] at e; cases e
    · rw [hfree] at hc; cases hc
  rcases hx with hk | hk
  · refine wpAny_storeName_local hk hn (fun h' hn' hs => ?_) hcls
    obtain ⟨oL, _, _, hoL, _⟩ := id hn
    refine h _ ⟨I.ok, I.os, I.bare, ⟨fun b o e n hb hx => ?_, fun b o e n hb hx => ?_, I.base.free, fun b o e hx => ?_, I.base.tups, I.base.frzs, I.base.tbls⟩, ⟨_, hn', fun j y v' e1 e2 e3 => ?_⟩, fun y c e => ?_, I.free, I.freeC, fun p hp => ?_, tracked ⟨oL, hoL, I.free⟩ hs, by simpa using I.len⟩ ⟨_, hs, .inl rfl⟩
    · exact (hs.2 b (Nat.ne_of_lt (Nat.lt_of_lt_of_le (Heap.lt_size e) I.ok.above))).trans (I.base.keep b o e n hb hx)
    · obtain ⟨sl, e1⟩ := I.base.slot b o e n hb hx
      exact ⟨sl, (hs.2 b (Nat.ne_of_lt (Nat.lt_of_lt_of_le (Heap.lt_size e) I.ok.above))).trans e1⟩
    · obtain ⟨o', e1⟩ := I.base.there b o e hx
      exact ⟨o', (hs.2 b (Nat.ne_of_lt (Nat.lt_of_lt_of_le (Heap.lt_size e) I.ok.above))).trans e1⟩
    · by_cases hj : j = i
      · subst hj
        rw [hi] at e1; cases e1
        rw [List.getElem?_set_self hiσ] at e2
        cases e2
        exact ⟨u, r, .inl ⟨hk, by simp⟩⟩
      · rw [List.getElem?_set_ne (Ne.symm hj)] at e2
        obtain ⟨u', r', q⟩ := hl j y v' e1 e2 e3
        refine ⟨u', r', ?_⟩
        rcases q with ⟨k, e⟩ | ⟨k, c, e, z⟩
        · refine .inl ⟨k, ?_⟩
          have : y ≠ x := fun e => hj (nodup_ix hN e1 (e ▸ hi))
          simp [this, e]
        · exact .inr ⟨k, c, e, z.sameBut hs (cne y c e)⟩
    · obtain ⟨w', z⟩ := I.cell y c e
      exact ⟨w', z.sameBut hs (cne y c e)⟩
    · obtain ⟨e, n, ne, nf, d⟩ := I.pin p hp
      exact ⟨(hs.2 p.1 ne).trans e, n, ne, nf, d⟩
  · have hfn : X.fn x = true := by
      rcases hf with z | z
      · exact z
      · rw [z] at hk; cases hk
    obtain ⟨c, hc⟩ := I.ok.has x (.inl hk)
    obtain ⟨w', z⟩ := I.cell x c hc
    refine wpAny_storeName_cell I.ok.kind hk hc z (fun h' hc' hs => ?_)
    obtain ⟨oc, hoc, hocd⟩ := id z
    refine h { s with heap := h' } ⟨I.ok, I.os, I.bare, ⟨fun b o e n hb hx => ?_, fun b o e n hb hx => ?_, I.base.free, fun b o e hx => ?_, I.base.tups, I.base.frzs, I.base.tbls⟩, ⟨m, hn.sameBut hs (Ne.symm (cne x c hc)), fun j y v' e1 e2 e3 => ?_⟩, fun y c' e => ?_, I.free, I.freeC, fun p hp => ?_, tracked ⟨oc, hoc, I.freeC x c hc⟩ hs, by simpa using I.len⟩ ⟨c, hs, .inr hc⟩
    · exact (hs.2 b (Nat.ne_of_lt (Nat.lt_of_lt_of_le (Heap.lt_size e) (I.ok.cab x c hfn hc)))).trans (I.base.keep b o e n hb hx)
    · obtain ⟨sl, e1⟩ := I.base.slot b o e n hb hx
      exact ⟨sl, (hs.2 b (Nat.ne_of_lt (Nat.lt_of_lt_of_le (Heap.lt_size e) (I.ok.cab x c hfn hc)))).trans e1⟩
    · obtain ⟨o', e1⟩ := I.base.there b o e hx
      exact ⟨o', (hs.2 b (Nat.ne_of_lt (Nat.lt_of_lt_of_le (Heap.lt_size e) (I.ok.cab x c hfn hc)))).trans e1⟩
    · by_cases hj : j = i
      · subst hj
        rw [hi] at e1; cases e1
        rw [List.getElem?_set_self hiσ] at e2
        cases e2
        exact ⟨u, r, .inr ⟨.inl hk, c, hc, hc'⟩⟩
      · rw [List.getElem?_set_ne (Ne.symm hj)] at e2
        obtain ⟨u', r', q⟩ := hl j y v' e1 e2 e3
        refine ⟨u', r', ?_⟩
        rcases q with q | ⟨k, c', e, z'⟩
        · exact .inl q
        · refine .inr ⟨k, c', e, z'.sameBut hs ?_⟩
          rintro rfl
          exact hj (nodup_ix hN e1 (I.ok.inj _ _ _ e hc ▸ hi))
    · by_cases hcc : c' = c
      · subst hcc; exact ⟨_, hc'⟩
      · obtain ⟨w2, z2⟩ := I.cell y c' e
        exact ⟨w2, z2.sameBut hs hcc⟩
    · obtain ⟨e, n, ne, nf, d⟩ := I.pin p hp
      refine ⟨(hs.2 p.1 ?_).trans e, n, ne, nf, d⟩
      intro q
      rw [q, hoc] at e
      have q' : oc = p.2 := Option.some.inj e
      exact d w' (by rw [← q']; exact hocd)
theorem store_ok {M : Model} {A : Around} {E : Value → Shared → Prop} {i : Nat} {x : Str} {v : V} {u : Value} {Q : Unit → Shared → Prop} (I : Inv X pins σ H s) (hN : X.N.Nodup) (hi : X.N[i]? = some x) (hx : Loc X.env.scope x) (r : RelV v u)
    (h : ∀ s', Inv X pins (σ.set i (some v)) H s' → Q () s') (hf : X.fn x = true ∨ X.env.scope.names.lookup x = some .local := by first | exact .inl rfl | exact .inr rfl | assumption) : wpAny M A (storeName X.env x u) Q E s :=
  store_ok2 I hN hi hx r (fun s' I' _ => h s' I') hf
theorem Inv.call' {s' : Shared} {ch : List Addr} (I : Inv X pins σ H s) (ho : s'.os = s.os) (u : Un (frs X.stack) ch H H' s.heap s'.heap) (hok : HOk X.prog X.w H' s'.heap) (hg : AllBare s'.gens)
    (hch : ∀ b ∈ ch, (b ∈ X.ex ∨ X.s₀.heap.objs.size ≤ b) ∧ b ≠ X.env.locals ∧ (∀ x c, X.env.cells.lookup x = some c → c ≠ b) ∧ ∀ p ∈ X.pn ++ pins, p.1 ≠ b) : Inv X pins σ H' s' := by
  obtain ⟨h', g', d', t', o'⟩ := s'
  have e : o' = s.os := ho
  subst e
  exact I.call (g' := g') (t' := t') (d' := d') u hok hg hch
end
abbrev XK := Value → Option Addr → Hp → Prop
abbrev St := List (Option V)
abbrev VK := V → Hp → Prop
abbrev TE := St → Hp → VK → Prop
abbrev TT := St → Hp → (Bool → Hp → Prop) → Prop
abbrev TA := St → Hp → (List V → Hp → Prop) → Prop
structure Ends where
  nx : St → Hp → Prop
  rt : VK
  bk : St → Hp → Prop := fun _ _ => False
  ct : St → Hp → Prop := fun _ _ => False
abbrev TS := Ends → St → Hp → Prop
def EP (X : Cx) (pins : List (Addr × Obj)) (σ : St) (Q : VK) (u : Value) (s' : Shared) : Prop := ∃ v H', Inv X pins σ H' s' ∧ RelV v u ∧ Q v H'
def TP (X : Cx) (pins : List (Addr × Obj)) (σ : St) (Q : Bool → Hp → Prop) (b : Bool) (s' : Shared) : Prop := ∃ H', Inv X pins σ H' s' ∧ Q b H'
def AP (X : Cx) (pins : List (Addr × Obj)) (σ : St) (Q : List V → Hp → Prop) (us : List Value) (s' : Shared) : Prop := ∃ vs H', Inv X pins σ H' s' ∧ Vals vs us ∧ Q vs H'
def SP (X : Cx) (pins : List (Addr × Obj)) (D : Ends) (f : Flow) (s' : Shared) : Prop :=
  match f with
  | .next => ∃ σ' H', Inv X pins σ' H' s' ∧ D.nx σ' H'
  | .brk => ∃ σ' H', Inv X pins σ' H' s' ∧ D.bk σ' H'
  | .cont => ∃ σ' H', Inv X pins σ' H' s' ∧ D.ct σ' H'
  | .ret u => ∃ v σ' H', Inv X pins σ' H' s' ∧ RelV v u ∧ D.rt v H'
def PE (X : Cx) (e : Expr) (t : TE) : Prop :=
  ∀ (pins : List (Addr × Obj)) (s : Shared) (σ : St) (H : Hp) (Q : VK), Inv X pins σ H s → t σ H Q → wpAny (model X.prog X.w) X.A (eval e X.env) (EP X pins σ Q) X.xe s
def PT (X : Cx) (e : Expr) (t : TT) : Prop :=
  ∀ (pins : List (Addr × Obj)) (s : Shared) (σ : St) (H : Hp) (Q : Bool → Hp → Prop), Inv X pins σ H s → t σ H Q → wpAny (model X.prog X.w) X.A (isTrue e X.env (eval e X.env)) (TP X pins σ Q) X.xe s
def PW (X : Cx) (e : Expr) (t : TT) : Prop :=
  ∀ (whole : Sem Value) (pins : List (Addr × Obj)) (s : Shared) (σ : St) (H : Hp) (Q : Bool → Hp → Prop), Inv X pins σ H s → t σ H Q → wpAny (model X.prog X.w) X.A (isTrue e X.env whole) (TP X pins σ Q) X.xe s
theorem PW.pt {X : Cx} {e : Expr} {t : TT} (h : PW X e t) : PT X e t := h _
def PA (X : Cx) (es : List Expr) (t : TA) : Prop :=
  ∀ (pos : Pos) (pins : List (Addr × Obj)) (s : Shared) (σ : St) (H : Hp) (Q : List V → Hp → Prop), Inv X pins σ H s → t σ H Q → wpAny (model X.prog X.w) X.A (spliced (backTo pos (starEach es X.env))) (AP X pins σ Q) X.xe s
def PS (X : Cx) (st : Stmt) (t : TS) : Prop :=
  ∀ (pins : List (Addr × Obj)) (s : Shared) (σ : St) (H : Hp) (D : Ends), Inv X pins σ H s → t D σ H → wpAny (model X.prog X.w) X.A (exec st X.env) (SP X pins D) X.xe s
def PSs (X : Cx) (st : List Stmt) (t : TS) : Prop :=
  ∀ (pins : List (Addr × Obj)) (s : Shared) (σ : St) (H : Hp) (D : Ends), Inv X pins σ H s → t D σ H → wpAny (model X.prog X.w) X.A (execs st X.env) (SP X pins D) X.xe s
theorem thn {α : Type} {t : Sem α} {Q Q' : α → Shared → Prop} {M : Model} {A : Around} {E : Value → Shared → Prop} {s : Shared} (h : wpAny M A t Q E s) (hQ : ∀ a s, Q a s → Q' a s) : wpAny M A t Q' E s := wpAny_mono h hQ fun _ _ x => x
end L2
namespace L2
open PySem PySem.Spec PyProof.Rows
section
variable {X : Cx}
def tVar (i : Nat) : TE := fun σ H Q => ∃ v, σ[i]? = some (some v) ∧ Q v H
def tC (v : V) : TE := fun _ H Q => Q v H
theorem pe_var {i : Nat} {x : Str} {pos : Pos} (hN : X.N[i]? = some x) (hv : Vis X.env.scope x) (hd : (x == ("__debug__" : Str)) = false := by decide) (hcd : (x == ("__classdict__" : Str)) = false := by decide) : PE X (.Name x pos) (tVar i) := by
  intro pins s σ H Q I h
  obtain ⟨v, e, h⟩ := h
  obtain ⟨m, hn, hl⟩ := I.loc
  obtain ⟨u, r, l⟩ := hl i x v hN e hv
  have fin : EP X pins σ Q u s := ⟨v, H, I, r, h⟩
  rcases l with ⟨hk, hm⟩ | ⟨hk, c, hc, hcell⟩
  · exact wpAny_Name (wpAny_loadName_local I.ok.kind hk hn hm fin) hd
  · rcases hk with hk | hk
    · exact wpAny_Name (wpAny_loadName_cell I.ok.kind hk hc hcell fin) hd
    · exact wpAny_Name (wpAny_loadName_free I.ok.kind hk hc hcell fin hcd) hd
theorem pe_int {i j pos} : PE X (.Constant (.int i) j pos) (tC (.int i)) := fun _ _ _ H _ I h => wpAny_Constant_int ⟨.int i, H, I.tok _, ⟨_, rfl⟩, h⟩
theorem pe_bl {b j pos} : PE X (.Constant (.bool b) j pos) (tC (.bl b)) := fun _ _ _ H _ I h => Constant_bool ⟨.bl b, H, I, rfl, h⟩
theorem pe_non {j pos} : PE X (.Constant .none j pos) (tC .non) := fun _ _ _ H _ I h => Constant_none ⟨.non, H, I, rfl, h⟩
theorem pe_str {x j pos} : PE X (.Constant (.str x) j pos) (tC (.str x)) := fun _ _ _ H _ I h => Calls.Constant_str ⟨.str x, H, I.tok _, ⟨_, rfl⟩, h⟩
def Gl (X : Cx) (x : Str) : Prop := X.env.kindOf x = some .globalImplicit
theorem ld_glob {E : Value → Shared → Prop} {pins : List (Addr × Obj)} {s : Shared} {σ : St} {H : Hp} {x : Str} {u : Value} {pos : Pos} {Q : Value → Shared → Prop} (I : Inv X pins σ H s) (hg : Gl X x) (hm : X.mg x = some u) (h : Q u s)
    (hd : (x == ("__debug__" : Str)) = false := by decide) : wpAny (model X.prog X.w) X.A (eval (.Name x pos) X.env) Q E s :=
  Calls.Name_function_global I.ok.kind hg (Calls.loadGlobal_global (by rw [I.ok.glob]; exact I.mod.glob.keeps I.bk) hm h) hd
theorem ld_blt {E : Value → Shared → Prop} {pins : List (Addr × Obj)} {s : Shared} {σ : St} {H : Hp} {x : Str} {u : Value} {pos : Pos} {Q : Value → Shared → Prop} (I : Inv X pins σ H s) (hg : Gl X x) (hm : X.mg x = none) (hv : bootBuiltins x = some u) (h : Q u s)
    (hn : x ≠ "__name__" := by decide) (hd : (x == ("__debug__" : Str)) = false := by decide) : wpAny (model X.prog X.w) X.A (eval (.Name x pos) X.env) Q E s := by
  obtain ⟨mb, h1, h2⟩ := I.mod.blt
  exact Calls.Name_function_global I.ok.kind hg (Calls.loadGlobal_builtin (by rw [I.ok.glob]; exact I.mod.glob.keeps I.bk) hm (by rw [I.ok.blt]; exact h1.keeps I.bk) ((h2 x hn).trans hv) h) hd
theorem pe_glob {x : Str} {v : V} {u : Value} {pos : Pos} (hg : Gl X x) (hm : X.mg x = some u) (r : RelV v u) (hd : (x == ("__debug__" : Str)) = false := by decide) : PE X (.Name x pos) (tC v) :=
  fun _ _ _ H _ I h => ld_glob I hg hm ⟨v, H, I, r, h⟩ hd
theorem pe_bltn {x : Str} {v : V} {u : Value} {pos : Pos} (hg : Gl X x) (hm : X.mg x = none) (hv : bootBuiltins x = some u) (r : RelV v u) (hn : x ≠ "__name__" := by decide) (hd : (x == ("__debug__" : Str)) = false := by decide) : PE X (.Name x pos) (tC v) :=
  fun _ _ _ H _ I h => ld_blt I hg hm hv ⟨v, H, I, r, h⟩ hn hd
variable {a b : Expr} {ta tb : TE} {pos : Pos}
def PC (X : Cx) (op : CmpOp) (a b : Expr) (t : TE) : Prop :=
  ∀ (pins : List (Addr × Obj)) (s : Shared) (σ : St) (H : Hp) (Q : VK), Inv X pins σ H s → t σ H Q →
    wpAny (model X.prog X.w) X.A (eval a X.env) (fun v s₁ => wpAny (model X.prog X.w) X.A (eval b X.env) (fun u s₂ => wpAny (model X.prog X.w) X.A (compareOp op v u) (EP X pins σ Q) X.xe s₂) X.xe s₁) X.xe s
theorem nobehind (b : Expr) {op : CmpOp} (h : op ≠ .In) (h2 : op ≠ .NotIn) : behindInMarks op b = false := by
  have e1 : (op == CmpOp.In) = false := by cases op <;> first | rfl | exact absurd rfl h
  have e2 : (op == CmpOp.NotIn) = false := by cases op <;> first | rfl | exact absurd rfl h2
  cases b <;> simp [behindInMarks, e1, e2]
def tB (t : TE) : TT := fun σ H Q => t σ H fun x H1 => ∃ c, x = .bl c ∧ Q c H1
theorem pt_cmp {op : CmpOp} {t : TE} (h : PC X op a b t) (h1 : behindInMarks op b = false := by first | exact nobehind _ (by decide) (by decide) | rfl) : PT X (.Compare a [op] [b] pos) (tB t) := by
  intro pins s σ H Q I hw
  refine wpAny_isTrue_Compare1 (thn (h pins s σ H _ I hw) fun v s1 h1 => thn h1 fun u s2 h2 => thn h2 fun c s3 ⟨x, H1, I1, r1, q1⟩ => ?_) h1
  obtain ⟨d, rfl, q⟩ := q1
  cases r1
  exact wpAny_truthy_bool ⟨H1, I1, q⟩
theorem pt_val {e : Expr} {t : TE} (h : PE X e t) (he : ∀ whole, isTrue e X.env whole = (do let v ← whole; standAt e.pos; holding [v] (truthy v)) := by intro _; rfl) : PT X e (tB t) := by
  intro pins s σ H Q I hw
  refine isTrue_plain (thn (h pins s σ H _ I hw) fun v s1 ⟨x, H1, I1, r1, q1⟩ => ?_) (he _)
  obtain ⟨d, rfl, q⟩ := q1
  cases r1
  exact wpAny_truthy_bool ⟨H1, I1, q⟩
variable {tA tB' : TT} {rest : List Expr}
def tAnd (t u : TT) : TT := fun σ H Q => t σ H fun c H1 => if c = true then u σ H1 Q else Q false H1
def tOr (t u : TT) : TT := fun σ H Q => t σ H fun c H1 => if c = true then Q true H1 else u σ H1 Q
def tNot (t : TT) : TT := fun σ H Q => t σ H fun c H1 => Q (!c) H1
theorem pw_and1 (ha : PT X a tA) : PW X (.BoolOp .And [a] pos) tA := by
  intro wh pins s σ H Q I h
  refine isTrue_and (thn (ha pins s σ H Q I h) fun c s1 e => ?_)
  cases c with
  | true => exact isTrue_and_nil e
  | false => exact e
theorem pw_or1 (ha : PT X a tA) : PW X (.BoolOp .Or [a] pos) tA := by
  intro wh pins s σ H Q I h
  refine isTrue_or (thn (ha pins s σ H Q I h) fun c s1 e => ?_)
  cases c with
  | false => exact isTrue_or_nil e
  | true => exact e
theorem pw_and (ha : PT X a tA) (hb : PW X (.BoolOp .And (b :: rest) pos) tB') : PW X (.BoolOp .And (a :: b :: rest) pos) (tAnd tA tB') := by
  intro wh pins s σ H Q I h
  refine isTrue_and (thn (ha pins s σ H _ I h) fun c s1 ⟨H1, I1, q1⟩ => ?_)
  cases c with
  | true => exact hb wh pins s1 σ H1 Q I1 q1
  | false => exact ⟨H1, I1, q1⟩
theorem pw_or (ha : PT X a tA) (hb : PW X (.BoolOp .Or (b :: rest) pos) tB') : PW X (.BoolOp .Or (a :: b :: rest) pos) (tOr tA tB') := by
  intro wh pins s σ H Q I h
  refine isTrue_or (thn (ha pins s σ H _ I h) fun c s1 ⟨H1, I1, q1⟩ => ?_)
  cases c with
  | true => exact ⟨H1, I1, q1⟩
  | false => exact hb wh pins s1 σ H1 Q I1 q1
theorem pt_not (ha : PT X a tA) : PT X (.UnaryOp .Not a pos) (tNot tA) := by
  intro pins s σ H Q I h
  exact isTrue_not (ha pins s σ H (fun c H1 => Q (!c) H1) I h)
def tAndV (ta tb : TE) : TE := fun σ H Q => ta σ H fun x H1 => ∃ c, x = .bl c ∧ if c = true then tb σ H1 Q else Q (.bl false) H1
def tNotV (ta : TE) : TE := fun σ H Q => ta σ H fun x H1 => ∃ c, x = .bl c ∧ Q (.bl (!c)) H1
theorem pe_one {op} {t : TE} (h : PE X a t) : PE X (.BoolOp op [a] pos) t := fun pins s σ H Q I hw => BoolOp_one (h pins s σ H Q I hw)
theorem pe_and (ha : PE X a ta) (hb : PE X (.BoolOp .And (b :: rest) pos) tb) : PE X (.BoolOp .And (a :: b :: rest) pos) (tAndV ta tb) := by
  intro pins s σ H Q I h
  refine BoolOp_and (thn (ha pins s σ H _ I h) fun v s1 ⟨x, H1, I1, r1, q1⟩ => ?_)
  obtain ⟨c, rfl, q1⟩ := q1
  cases r1
  refine wpAny_truthy_bool ?_
  cases c with
  | true => exact hb pins s1 σ H1 Q I1 q1
  | false => exact ⟨.bl false, H1, I1, rfl, q1⟩
theorem pe_not (ha : PE X a ta) : PE X (.UnaryOp .Not a pos) (tNotV ta) := by
  intro pins s σ H Q I h
  refine UnaryOp_ (thn (ha pins s σ H _ I h) fun v s1 ⟨x, H1, I1, r1, q1⟩ => ?_)
  obtain ⟨c, rfl, q1⟩ := q1
  cases r1
  exact not_of (wpAny_truthy_bool ⟨.bl (!c), H1, I1, rfl, q1⟩)
def tIf (t : TT) (ta tb : TE) : TE := fun σ H Q => t σ H fun c H1 => if c = true then ta σ H1 Q else tb σ H1 Q
theorem pe_ifExp {c : Expr} (hc : PT X c tA) (ha : PE X a ta) (hb : PE X b tb) : PE X (.IfExp c a b pos) (tIf tA ta tb) := by
  intro pins s σ H Q I h
  refine wpAny_IfExp (thn (hc pins s σ H _ I h) fun d s1 ⟨H1, I1, q1⟩ => ?_)
  cases d with
  | true => exact ha pins s1 σ H1 Q I1 q1
  | false => exact hb pins s1 σ H1 Q I1 q1
end
end L2
namespace L2
open PySem PySem.Spec PyProof.Rows
def SqL (K : PySem.W.Frag) (H : Hp) (a : Addr) (xs : List V) : Prop :=
  Rd H a (.lst xs) ∨
    ∃ (o : Obj) (its : Array Value) (n : Nat), K.lookup a = some o ∧ o.cls = .type "list" ∧ o.dict = none ∧ o.data = .seq its n ∧ its.size ≤ sizeLine ∧ Vals xs its.toList
def SqT (K : PySem.W.Frag) (H : Hp) (a : Addr) (xs : List V) : Prop :=
  Rd H a (.tup xs) ∨
    ∃ (o : Obj) (its : Array Value) (n : Nat), K.lookup a = some o ∧ o.cls = .type "tuple" ∧ o.data = .seq its n ∧ its.size ≤ sizeLine ∧ Vals xs its.toList
def absV : Value → Option V
  | .none => some .non
  | .bool b => some (.bl b)
  | .int i _ => some (.int i)
  | .str x _ => some (.str x)
  | .bytes b _ => some (.byt b)
  | .float b _ => some (.flt b)
  | .ref a => some (.ref a)
  | .type n => some (.ty n)
  | _ => none
theorem RelV.abs {x : V} {u : Value} (r : RelV x u) : absV u = some x := by
  cases x with
  | non => cases r; rfl
  | bl _ => cases r; rfl
  | int _ => obtain ⟨t, rfl⟩ := r; rfl
  | str _ => obtain ⟨t, rfl⟩ := r; rfl
  | byt _ => obtain ⟨t, rfl⟩ := r; rfl
  | flt _ => obtain ⟨t, rfl⟩ := r; rfl
  | ref _ => cases r; rfl
  | ty _ => cases r; rfl
theorem RelV.inj {x y : V} {u : Value} (r : RelV x u) (q : RelV y u) : x = y := Option.some.inj (r.abs.symm.trans q.abs)
theorem Vals.inj : ∀ {xs ys : List V} {us : List Value}, Vals xs us → Vals ys us → xs = ys
  | _, _, _, .nil, .nil => rfl
  | _, _, _, .cons r t, .cons r' t' => by rw [r.inj r', Vals.inj t t']
section
variable {X : Cx} {pins : List (Addr × Obj)} {σ : St} {H : Hp} {s : Shared} {a : Addr} {xs ys : List V}
theorem SqL.of {K : PySem.W.Frag} (h : H a = some (.lst xs)) : SqL K H a xs := .inl (.inl h)
theorem SqT.of {K : PySem.W.Frag} (h : H a = some (.tup xs)) : SqT K H a xs := .inl (.inl h)
theorem Inv.list (I : Inv X pins σ H s) (h : SqL X.K H a xs) : ∃ its : List Value, Vals xs its ∧ PlainL s.heap a its.toArray ∧ xs.length ≤ sizeLine := by
  rcases h with h | ⟨o, its, n, hk, hc, hd, hs, hz, r⟩
  · obtain ⟨z, its, n, r, e⟩ := h.ok I.hok
    exact ⟨its, r, ⟨_, n, e, rfl, rfl, rfl⟩, z⟩
  · refine ⟨its.toList, r, ⟨o, n, I.kIn a o hk, hc, hd, by simpa using hs⟩, ?_⟩
    have e := r.length
    simp only [Array.length_toList] at e
    omega
theorem Inv.tuple (I : Inv X pins σ H s) (h : SqT X.K H a xs) : ∃ its : List Value, Vals xs its ∧ IsTup s.heap a its.toArray ∧ xs.length ≤ sizeLine := by
  rcases h with h | ⟨o, its, n, hk, hc, hs, hz, r⟩
  · obtain ⟨z, its, r, p⟩ := h.ok I.hok
    exact ⟨its, r, p, z⟩
  · refine ⟨its.toList, r, ⟨o, I.kIn a o hk, hc, n, by simpa using hs⟩, ?_⟩
    have e := r.length
    simp only [Array.length_toList] at e
    omega
theorem Inv.list_inj (I : Inv X pins σ H s) (h : SqL X.K H a xs) (h' : SqL X.K H a ys) : xs = ys := by
  obtain ⟨its, r, ⟨o, n, e, _, _, d⟩, _⟩ := I.list h
  obtain ⟨its', r', ⟨o', n', e', _, _, d'⟩, _⟩ := I.list h'
  rw [e] at e'; cases e'
  rw [d] at d'
  injection d' with d1 _
  have : its = its' := by simpa using congrArg Array.toList d1
  subst this
  exact r.inj r'
theorem Inv.tuple_inj (I : Inv X pins σ H s) (h : SqT X.K H a xs) (h' : SqT X.K H a ys) : xs = ys := by
  obtain ⟨its, r, ⟨o, e, _, n, d⟩, _⟩ := I.tuple h
  obtain ⟨its', r', ⟨o', e', _, n', d'⟩, _⟩ := I.tuple h'
  rw [e] at e'; cases e'
  rw [d] at d'
  injection d' with d1 _
  have : its = its' := by simpa using congrArg Array.toList d1
  subst this
  exact r.inj r'
end
abbrev Cx.wish (X : Cx) (E : Value → Shared → Prop) : Cx := { X with xe := E }
abbrev Cx.nox (X : Cx) : Cx := X.wish fun _ _ => False
theorem Cx.Ok.wish {X : Cx} (ok : X.Ok) (E : Value → Shared → Prop) : (X.wish E).Ok :=
  ⟨ok.mod, ok.kind, ok.glob, ok.blt, ok.above, ok.inj, ok.has, ok.cab, ok.hd, ok.frames, ok.stk, ok.exf, ok.bs, ok.bsz, ok.noex, ok.exfs, ok.funs, ok.frf⟩
theorem Cx.Ok.unwish {X : Cx} {E : Value → Shared → Prop} (ok : (X.wish E).Ok) : X.Ok :=
  ⟨ok.mod, ok.kind, ok.glob, ok.blt, ok.above, ok.inj, ok.has, ok.cab, ok.hd, ok.frames, ok.stk, ok.exf, ok.bs, ok.bsz, ok.noex, ok.exfs, ok.funs, ok.frf⟩
section
variable {X : Cx} {pins : List (Addr × Obj)} {σ : St} {H : Hp} {s : Shared} {E : Value → Shared → Prop}
theorem Inv.wish (I : Inv X pins σ H s) (E : Value → Shared → Prop) : Inv (X.wish E) pins σ H s := ⟨I.ok.wish E, I.os, I.bare, I.base, I.loc, I.cell, I.free, I.freeC, I.pin, I.hok, I.len⟩
theorem Inv.unwish (I : Inv (X.wish E) pins σ H s) : Inv X pins σ H s := ⟨I.ok.unwish, I.os, I.bare, I.base, I.loc, I.cell, I.free, I.freeC, I.pin, I.hok, I.len⟩
theorem SP.unwish {D : Ends} {f : Flow} {s' : Shared} (h : SP (X.wish E) pins D f s') : SP X pins D f s' := by
  cases f with
  | next => obtain ⟨σ', H', I, q⟩ := h; exact ⟨σ', H', I.unwish, q⟩
  | brk => obtain ⟨σ', H', I, q⟩ := h; exact ⟨σ', H', I.unwish, q⟩
  | cont => obtain ⟨σ', H', I, q⟩ := h; exact ⟨σ', H', I.unwish, q⟩
  | ret u => obtain ⟨v, σ', H', I, r, q⟩ := h; exact ⟨v, σ', H', I.unwish, r, q⟩
theorem PE.nox {e : Expr} {t : TE} (h : PE X.nox e t) : PE X e t := fun pins s σ H Q I hw =>
  wpAny_mono (h pins s σ H Q (I.wish _) hw) (fun _ _ ⟨v, H', I', r, q⟩ => ⟨v, H', I'.unwish, r, q⟩) fun _ _ z => False.elim z
theorem PT.nox {e : Expr} {t : TT} (h : PT X.nox e t) : PT X e t := fun pins s σ H Q I hw =>
  wpAny_mono (h pins s σ H Q (I.wish _) hw) (fun _ _ ⟨H', I', q⟩ => ⟨H', I'.unwish, q⟩) fun _ _ z => False.elim z
theorem PSs.nox {st : List Stmt} {t : TS} (h : PSs X.nox st t) : PSs X st t := fun pins s σ H D I hw =>
  wpAny_mono (h pins s σ H D (I.wish _) hw) (fun _ _ q => q.unwish) fun _ _ z => False.elim z
end
section
variable {X : Cx} {st : Stmt} {rest : List Stmt} {t u : TS} {e : Expr} {te : TE} {pos : Pos}
def tNext : TS := fun D σ H => D.nx σ H
def tSeq (t u : TS) : TS := fun D σ H => t { D with nx := u D } σ H
theorem pss_nil : PSs X [] tNext := fun _ _ σ H _ I h => wpAny_execs_nil ⟨σ, H, I, h⟩
theorem pss_cons (h1 : PS X st t) (h2 : PSs X rest u) : PSs X (st :: rest) (tSeq t u) := by
  intro pins s σ H D I h
  refine wpAny_execs_cons (thn (h1 pins s σ H { D with nx := u D } I h) fun f s1 q => ?_)
  cases f with
  | next =>
    obtain ⟨σ', H', I', q⟩ := q
    exact h2 pins s1 σ' H' D I' q
  | ret v => exact q
  | brk => exact q
  | cont => exact q
theorem pss_one (h1 : PS X st t) : PSs X [st] t := by
  intro pins s σ H D I h
  refine wpAny_execs_cons (thn (h1 pins s σ H D I h) fun f s1 q => ?_)
  cases f with
  | next => exact wpAny_execs_nil q
  | ret v => exact q
  | brk => exact q
  | cont => exact q
theorem Inv.quiet {pins : List (Addr × Obj)} {σ : St} {H : Hp} {s : Shared} (I : Inv X pins σ H s) : interactive X.env = false := by simp [interactive, I.ok.kind]
def tDrop (te : TE) : TS := fun D σ H => te σ H fun _ H1 => D.nx σ H1
theorem ps_expr (he : PE X e te) (hs : swapsWith e none pos.line X.env = pure false := by rfl) : PS X (.Expr e pos) (tDrop te) := by
  intro pins s σ H D I h
  exact wpAny_Expr_any (thn (he pins s σ H _ I h) fun v s1 ⟨x, H1, I1, r1, q1⟩ => ⟨σ, H1, I1, q1⟩) I.quiet hs
def tRet (te : TE) : TS := fun D σ H => te σ H D.rt
theorem ps_ret (he : PE X e te) : PS X (.Return (some e) pos) (tRet te) := by
  intro pins s σ H D I h
  exact wpAny_Return_some (thn (he pins s σ H _ I h) fun v s1 ⟨x, H1, I1, r1, q1⟩ => ⟨x, σ, H1, I1, r1, q1⟩)
def tIfS (c : TT) (t u : TS) : TS := fun D σ H => c σ H fun b H1 => if b = true then t D σ H1 else u D σ H1
theorem ps_if {c : Expr} {a b : List Stmt} {tc : TT} (hc : PT X c tc) (ha : PSs X a t) (hb : PSs X b u) : PS X (.If c a b pos) (tIfS tc t u) := by
  intro pins s σ H D I h
  refine wpAny_If (thn (hc pins s σ H _ I h) fun d s1 ⟨H1, I1, q1⟩ => ?_)
  cases d with
  | true => exact ha pins s1 σ H1 D I1 q1
  | false => exact hb pins s1 σ H1 D I1 q1
def tNever : TS := fun _ _ _ => False
theorem ps_never : PS X st tNever := fun _ _ _ _ _ _ h => h.elim
end
abbrev TG := V → St → Hp → (St → Hp → Prop) → Prop
abbrev TGs := List V → St → Hp → (St → Hp → Prop) → Prop
def PG (X : Cx) (target : Expr) (t : TG) : Prop :=
  ∀ (pins : List (Addr × Obj)) (s : Shared) (σ : St) (H : Hp) (v : V) (u : Value) (Q : St → Hp → Prop), Inv X pins σ H s → RelV v u → t v σ H Q →
    wpAny (model X.prog X.w) X.A (assign target X.env u) (fun _ s' => ∃ σ' H', Inv X pins σ' H' s' ∧ Q σ' H') X.xe s
def PGs (X : Cx) (ts : List Expr) (t : TGs) : Prop :=
  ∀ (pins : List (Addr × Obj)) (s : Shared) (σ : St) (H : Hp) (vs : List V) (us : List Value) (Q : St → Hp → Prop), Inv X pins σ H s → Vals vs us → t vs σ H Q →
    wpAny (model X.prog X.w) X.A (assignInOrder ((assignEach ts X.env).map (·.2)) us) (fun _ s' => ∃ σ' H', Inv X pins σ' H' s' ∧ Q σ' H') X.xe s
abbrev TSet := V → V → V → Hp → (Hp → Prop) → Prop
def PSet (X : Cx) (t : TSet) : Prop :=
  ∀ (pins : List (Addr × Obj)) (s : Shared) (σ : St) (H : Hp) (o i v : V) (ov iv u : Value) (Q : Hp → Prop), Inv X pins σ H s → RelV o ov → RelV i iv → RelV v u → t o i v H Q →
    wpAny (model X.prog X.w) X.A (setItem ov iv u) (fun _ s' => ∃ H', Inv X pins σ H' s' ∧ Q H') X.xe s
abbrev TIp := V → V → Hp → VK → Prop
def PIp (X : Cx) (op : Operator) (t : TIp) : Prop :=
  ∀ (pins : List (Addr × Obj)) (s : Shared) (σ : St) (H : Hp) (x y : V) (v u : Value) (Q : VK), Inv X pins σ H s → RelV x v → RelV y u → t x y H Q →
    wpAny (model X.prog X.w) X.A (inplaceOp op v u) (EP X pins σ Q) X.xe s
section
variable {X : Cx} {pos : Pos}
def gName (i : Nat) : TG := fun v σ H Q => Q (σ.set i (some v)) H
theorem pg_name {i : Nat} {x : Str} (hN : X.N.Nodup) (hi : X.N[i]? = some x) (hx : Loc X.env.scope x) (hf : X.fn x = true ∨ X.env.scope.names.lookup x = some .local := by first | exact .inl rfl | exact .inr rfl | assumption) : PG X (.Name x pos) (gName i) := by
  intro pins s σ H v u Q I r h
  exact wpAny_assign_Name (store_ok I hN hi hx r (fun s' I' => ⟨_, H, I', h⟩) hf)
def gNil : TGs := fun vs σ H Q => vs = [] ∧ Q σ H
def gCons (t : TG) (u : TGs) : TGs := fun vs σ H Q => ∃ v r, vs = v :: r ∧ t v σ H fun σ' H' => u r σ' H' Q
theorem pgs_nil : PGs X [] gNil := by
  intro pins s σ H vs us Q I r h
  obtain ⟨e, h⟩ := h
  subst e
  cases r
  exact assignInOrder_nil ⟨σ, H, I, h⟩
theorem pgs_cons {e : Expr} {es : List Expr} {t : TG} {u : TGs} (h1 : PG X e t) (h2 : PGs X es u)
    (hs : (assignEach (e :: es) X.env).map (·.2) = assign e X.env :: (assignEach es X.env).map (·.2) := by rfl) : PGs X (e :: es) (gCons t u) := by
  intro pins s σ H vs us Q I r h
  obtain ⟨v, vr, e1, h⟩ := h
  subst e1
  cases r with
  | cons r rr =>
    rw [hs]
    refine assignInOrder_cons (thn (h1 pins s σ H _ _ _ I r h) fun _ s1 ⟨σ1, H1, I1, q1⟩ => ?_)
    exact h2 pins s1 σ1 H1 _ _ Q I1 rr q1
def gTup (K : PySem.W.Frag) (n : Nat) (t : TGs) : TG := fun v σ H Q => ∃ a xs, v = .ref a ∧ SqT K H a xs ∧ xs.length = n ∧ t xs σ H Q
theorem pg_tup {es : List Expr} {k : Nat} {t : TGs} {n : Nat} (hc : X.calm = true) (h : PGs X es t)
    (hn : (assignEach es X.env).length = n := by rfl) (hst : (assignEach es X.env).findIdx? (·.1) = none := by rfl) : PG X (.Tuple es k pos) (gTup X.K n t) := by
  intro pins s σ H v u Q I r hw
  obtain ⟨a, xs, e1, hq, hl, hw⟩ := hw
  subst e1
  cases r
  obtain ⟨its, rv, ht, hz⟩ := I.tuple hq
  refine assign_Tuple_tuple (I.ok.hd hc) ht (by simp [hn, ← hl, rv.length]) hst fun h' hx => ?_
  have I1 : Inv X pins σ H { s with heap := h' } := I.kept (t' := s.toks) fun b o e => hx b o (Nat.ne_of_lt (Heap.lt_size e)) e
  exact h pins _ σ H xs _ Q I1 (by simpa using rv) hw
def gSub (to ti : TE) (t : TSet) : TG := fun v σ H Q => to σ H fun o H1 => ti σ H1 fun i H2 => t o i v H2 fun H3 => Q σ H3
theorem pg_sub {o i : Expr} {to ti : TE} {t : TSet} (ho : PE X o to) (hi : PE X i ti) (hs : PSet X t)
    (ha : ∀ v, assign (.Subscript o i pos) X.env v = (do
      let ov ← holding [v] (eval o X.env)
      let iv ← holding [v, ov] (eval i X.env)
      standAt pos
      holding [v, ov, iv] (setItem ov iv v)
      release [v, ov, iv] []) := by intro _; rfl) : PG X (.Subscript o i pos) (gSub to ti t) := by
  intro pins s σ H v u Q I r h
  rw [ha]
  refine wpAny_bind (wpAny_holding (thn (ho pins s σ H _ I h) fun ov s1 ⟨x, H1, I1, r1, q1⟩ => ?_))
  refine wpAny_bind (wpAny_holding (thn (hi pins s1 σ H1 _ I1 q1) fun iv s2 ⟨y, H2, I2, r2, q2⟩ => ?_))
  refine wpAny_bind (wpAny_standAt (wpAny_bind (wpAny_holding (thn (hs pins s2 σ H2 x y v ov iv u _ I2 r1 r2 r q2) fun _ s3 ⟨H3, I3, q3⟩ => ?_))))
  exact wpAny_release ⟨σ, H3, I3, q3⟩
def tAsg (te : TE) (g : TG) : TS := fun D σ H => te σ H fun x H1 => g x σ H1 D.nx
theorem ps_asg {tg e : Expr} {te : TE} {g : TG} (he : PE X e te) (hg : PG X tg g) (hs : swapsWithSole [tg] e pos.line X.env = pure false := by rfl) (hw : swappedStores [tg] e X.env = pure none := by rfl)
    (h1 : (assignEach [tg] X.env).map (·.2) = [assign tg X.env] := by rfl) : PS X (.Assign [tg] e pos) (tAsg te g) := by
  intro pins s σ H D I h
  refine wpAny_Assign_stores (thn (he pins s σ H _ I h) fun v s1 ⟨x, H1, I1, r1, q1⟩ => ?_) hs hw
  rw [h1]
  exact thn (hg pins s1 σ H1 x v _ I1 r1 q1) fun _ s2 q => q
theorem ps_set {i : Nat} {x : Str} {e : Expr} {te : TE} {pos' : Pos} (hN : X.N.Nodup) (hi : X.N[i]? = some x) (hx : Loc X.env.scope x) (he : PE X e te) (hs : swapsWith e (some (.Name x pos')) pos.line X.env = pure false := by rfl) (hf : X.fn x = true ∨ X.env.scope.names.lookup x = some .local := by first | exact .inl rfl | exact .inr rfl | assumption) :
    PS X (.Assign [.Name x pos'] e pos) (tAsg te (gName i)) := by
  intro pins s σ H D I h
  refine wpAny_Assign_Name (thn (he pins s σ H _ I h) fun v s1 ⟨y, H1, I1, r1, q1⟩ => ?_) hs
  exact store_ok I1 hN hi hx r1 (fun s2 I2 => ⟨_, H1, I2, q1⟩) hf
def tAug (i : Nat) (te : TE) (ti : TIp) : TS := fun D σ H => ∃ x, σ[i]? = some (some x) ∧ te σ H fun y H1 => ti x y H1 fun z H2 => D.nx (σ.set i (some z)) H2
theorem ps_aug {i : Nat} {x : Str} {e : Expr} {te : TE} {op : Operator} {ti : TIp} {pos' : Pos} (hN : X.N.Nodup) (hi : X.N[i]? = some x) (hx : Loc X.env.scope x) (he : PE X e te) (ho : PIp X op ti) (hf : X.fn x = true ∨ X.env.scope.names.lookup x = some .local := by first | exact .inl rfl | exact .inr rfl | assumption) :
    PS X (.AugAssign (.Name x pos') op e pos) (tAug i te ti) := by
  intro pins s σ H D I h
  obtain ⟨v, e1, h⟩ := h
  obtain ⟨m, hn, hl⟩ := I.loc
  have vis : Vis X.env.scope x := by rcases hx with k | k; exact .inl k; exact .inr (.inl k)
  obtain ⟨u, r, l⟩ := hl i x v hi e1 vis
  refine wpAny_AugAssign_Name ?_
  have go : wpAny (model X.prog X.w) X.A (eval e X.env) (fun w s₂ => wpAny (model X.prog X.w) X.A (inplaceOp op u w) (fun r s₃ => wpAny (model X.prog X.w) X.A (storeName X.env x r) (fun _ => SP X pins D .next) X.xe s₃) X.xe s₂) X.xe s := by
    refine thn (he pins s σ H _ I h) fun w s1 ⟨y, H1, I1, r1, q1⟩ => ?_
    refine thn (ho pins s1 σ H1 v y u w _ I1 r r1 q1) fun z s2 ⟨zv, H2, I2, r2, q2⟩ => ?_
    exact store_ok I2 hN hi hx r2 (fun s3 I3 => ⟨_, H2, I3, q2⟩) hf
  rcases l with ⟨hk, hm⟩ | ⟨hk, c, hc, hcell⟩
  · exact wpAny_loadName_local I.ok.kind hk hn hm go
  · rcases hk with hk | hk
    · exact wpAny_loadName_cell I.ok.kind hk hc hcell go
    · rcases hx with k | k
      · have : X.env.scope.names.lookup x = some .free := hk
        rw [k] at this; cases this
      · have : X.env.scope.names.lookup x = some .free := hk
        rw [k] at this; cases this
def ipI (f : Int → Int → Int) : TIp := fun x y H Q => ∃ i j, x = .int i ∧ y = .int j ∧ Q (.int (f i j)) H
theorem ip_add : PIp X .Add (ipI fun i j => i + j) := by
  intro pins s σ H x y v u Q I r1 r2 h
  obtain ⟨i, j, e1, e2, q⟩ := h
  subst e1; subst e2
  obtain ⟨t, rfl⟩ := r1
  obtain ⟨t', rfl⟩ := r2
  exact iadd_int ⟨.int _, H, I.tok _, ⟨_, rfl⟩, q⟩
end
section
variable {X : Cx} {pos : Pos}
def tWhile (c : TT) (tb : TS) : TS := fun D σ H => ∃ W : Nat → St → Hp → Prop, (∃ m, W m σ H) ∧ ∀ m σ H, W m σ H →
  c σ H fun b H1 => if b = true then ∃ N : St → Hp → Prop, (∀ σ' H', N σ' H' → ∃ m', m' < m ∧ W m' σ' H') ∧ tb { D with nx := N, ct := N, bk := D.nx } σ H1 else D.nx σ H1
theorem ps_while {c : Expr} {body : List Stmt} {tc : TT} {tb : TS} (hp : PassesOwn (model X.prog X.w) X.A X.env X.xe) (hc : PT X c tc) (hb : PSs X body tb) : PS X (.While c body [] pos) (tWhile tc tb) := by
  intro pins s σ H D I h
  obtain ⟨W, ⟨m0, w0⟩, turn⟩ := h
  refine wpAny_While (codeAny_whileLoop (fun n s' => ∃ σ' H', Inv X pins σ' H' s' ∧ W n σ' H') ?_ m0 ⟨σ, H, I, w0⟩)
  rintro n s1 ⟨σ1, H1, I1, w1⟩
  refine wpAny_passesOwn hp (thn (hc pins s1 σ1 H1 _ I1 (turn n σ1 H1 w1)) fun b s2 ⟨H2, I2, q2⟩ => ?_)
  cases b with
  | true =>
    obtain ⟨N, hN, q2⟩ := q2
    rw [if_pos rfl]
    refine wpAny_passesOwn hp (thn (hb pins s2 σ1 H2 _ I2 q2) fun f s3 q3 => ?_)
    cases f with
    | next =>
      obtain ⟨σ3, H3, I3, n3⟩ := q3
      obtain ⟨m', hm, w3⟩ := hN σ3 H3 n3
      exact ⟨m', hm, σ3, H3, I3, w3⟩
    | cont =>
      obtain ⟨σ3, H3, I3, n3⟩ := q3
      obtain ⟨m', hm, w3⟩ := hN σ3 H3 n3
      exact ⟨m', hm, σ3, H3, I3, w3⟩
    | brk => exact q3
    | ret v => exact q3
  | false =>
    rw [if_neg Bool.false_ne_true]
    exact wpAny_execs_nil ⟨σ1, H2, I2, q2⟩
end
structure It where
  go : Nat → Hp → Prop
  yld : Nat → Hp → V → Hp → Prop
  stop : Nat → Hp → Prop
def FpOk (X : Cx) (pins : List (Addr × Obj)) (H : Hp) (b : Addr) : Prop :=
  H b = none ∧ b ≠ X.env.locals ∧ b ∉ X.fs ∧ (b ∈ X.ex ∨ X.s₀.heap.objs.size ≤ b) ∧ (∀ x c, X.env.cells.lookup x = some c → c ≠ b) ∧ ∀ p ∈ X.pn ++ pins, p.1 ≠ b
theorem Inv.fpOk {X : Cx} {pins : List (Addr × Obj)} {σ : St} {H H' : Hp} {s : Shared} {b : Addr} (I : Inv X pins σ H s) (hb : s.heap.objs.size ≤ b) (hn : H' b = none) : FpOk X pins H' b := by
  refine ⟨hn, Nat.ne_of_gt (Nat.lt_of_lt_of_le I.lt hb), I.nofs hb, .inr (Nat.le_trans I.sz hb), fun x c e z => ?_, fun p hp z => ?_⟩
  · obtain ⟨v, q⟩ := I.cell x c e
    exact absurd (Nat.lt_of_lt_of_le q.lt (by rw [z]; exact hb)) (Nat.lt_irrefl _)
  · exact absurd (Nat.lt_of_lt_of_le (Heap.lt_size (I.pin p hp).1) (by rw [z]; exact hb)) (Nat.lt_irrefl _)
structure Turn (P : Program) (w : World) (K : PySem.W.Frag) (tg : Expr) (J : It) (fp : List Addr) (it : Addr) (tn : Nat → Heap → Prop) : Prop where
  mem : it ∈ fp
  obj : ∀ i h, tn i h → ∀ b ∈ fp, ∃ o, h.get? b = some o ∧ ∀ v, o.data ≠ .cell v
  keep : ∀ i h h', tn i h → (∀ b ∈ fp, ∀ o, h.get? b = some o → h'.get? b = some o) → tn i h'
  item : ∀ (X : Cx), X.prog = P → X.w = w → X.K = K → X.calm = true → ∀ (i : Nat) (pins : List (Addr × Obj)) (s : Shared) (σ : St) (H : Hp) (E : Value → Shared → Prop), Inv X pins σ H s → (∀ b ∈ fp, FpOk X pins H b) → tn i s.heap → J.go i H →
    wpAny (model P w) X.A (pyNext (.ref it)) (fun r s1 => ∃ u, r = some u ∧
      wpAny (model P w) X.A (letOwnedTupleGo tg (.ref it) u) (fun _ s2 => ∃ x H', Inv X pins σ H' s2 ∧ RelV x u ∧ J.yld i H x H' ∧ tn (i + 1) s2.heap ∧ ∀ b ∈ fp, H' b = none) E s1) E s
  done : ∀ (X : Cx), X.prog = P → X.w = w → X.K = K → X.calm = true → ∀ (i : Nat) (pins : List (Addr × Obj)) (s : Shared) (σ : St) (H : Hp) (E : Value → Shared → Prop), Inv X pins σ H s → (∀ b ∈ fp, FpOk X pins H b) → tn i s.heap → J.stop i H →
    wpAny (model P w) X.A (pyNext (.ref it)) (fun r s1 => r = none ∧ Inv X pins σ H s1) E s
  self : ∀ (A : Around) (i : Nat) (s : Shared) (Q : Value → Shared → Prop) (E : Value → Shared → Prop), tn i s.heap → Q (.ref it) s → wpAny (model P w) A (pyIter (.ref it)) Q E s
abbrev TI := St → Hp → (It → Hp → Prop) → Prop
def PIE (X : Cx) (pins : List (Addr × Obj)) (σ : St) (tg : Expr) (R : It → Hp → Prop) (itv : Value) (s2 : Shared) : Prop :=
  ∃ (it : Addr) (fp : List Addr) (tn : Nat → Heap → Prop) (J : It) (H' : Hp), itv = .ref it ∧ Inv X pins σ H' s2 ∧ Turn X.prog X.w X.K tg J fp it tn ∧ tn 0 s2.heap ∧ (∀ b ∈ fp, FpOk X pins H' b) ∧ R J H'
def PI (X : Cx) (tg iter : Expr) (wi : TI) : Prop :=
  ∀ (pins : List (Addr × Obj)) (s : Shared) (σ : St) (H : Hp) (R : It → Hp → Prop), Inv X pins σ H s → wi σ H R →
    wpAny (model X.prog X.w) X.A (eval iter X.env) (fun v s1 => wpAny (model X.prog X.w) X.A (pyIter v) (PIE X pins σ tg R) X.xe s1) X.xe s
theorem go_of {M : Model} {A : Around} {E : Value → Shared → Prop} {s : Shared} {tg : Expr} {it : Addr} {u : Value} {o : Obj} {n : String} {vs : Array Value} {Q : Unit → Shared → Prop} (ho : s.heap.get? it = some o) (hc : o.cls = .type n) (hd : o.data = .fields vs)
    (hn : ["enumerate", "zip", "dict_itemiterator", "dict_reverseitemiterator", "odict_iterator", "itertools.zip_longest", "itertools.pairwise"].contains n = false) (hQ : Q () s) : wpAny M A (letOwnedTupleGo tg (.ref it) u) Q E s := by
  unfold letOwnedTupleGo
  cases tg <;> first
    | exact wpAny_pure hQ
    | (cases u <;> first
        | exact wpAny_pure hQ
        | (refine wpAny_bind (wpAny_load ho ?_)
           rw [hc, hd]
           show wpAny M A (if (["enumerate", "zip", "dict_itemiterator", "dict_reverseitemiterator", "odict_iterator", "itertools.zip_longest", "itertools.pairwise"].contains n && vs[0]? == some (rawInt _)) = true then _ else _) Q E s
           rw [if_neg (by intro h; rw [hn, Bool.false_and] at h; cases h)]
           exact wpAny_pure hQ))
def Itl (K : PySem.W.Frag) (a : Addr) : It :=
  ⟨fun i H => ∃ xs x, SqL K H a xs ∧ xs[i]? = some x, fun i H x H' => H' = H ∧ ∀ xs, SqL K H a xs → xs[i]? = some x, fun i H => ∃ xs, SqL K H a xs ∧ xs.length ≤ i⟩
def Itt (K : PySem.W.Frag) (a : Addr) : It :=
  ⟨fun i H => ∃ xs x, SqT K H a xs ∧ xs[i]? = some x, fun i H x H' => H' = H ∧ ∀ xs, SqT K H a xs → xs[i]? = some x, fun i H => ∃ xs, SqT K H a xs ∧ xs.length ≤ i⟩
def Itr (lo : Int) (n : Nat) : It := ⟨fun i _ => i < n, fun i H x H' => H' = H ∧ x = .int (lo + i), fun i _ => n ≤ i⟩
theorem turn_list {P : Program} {w : World} {K : PySem.W.Frag} {tg : Expr} (a it : Addr) : Turn P w K tg (Itl K a) [it] it (fun i h => h.IsListIter it a i) where
  mem := by simp
  obj := fun i h st b hb => by
    have e : b = it := by simpa using hb
    subst e
    obtain ⟨o, e, c, d⟩ := st
    exact ⟨o, e, fun v z => by rw [d] at z; cases z⟩
  keep := fun i h h' st k => st.at fun o e => k it (by simp) o e
  item := by
    intro X hP hw hK hc i pins s σ H E I hf st hg
    subst hP hw hK
    obtain ⟨xs, x, hq, hx⟩ := hg
    obtain ⟨its, rv, p, hz⟩ := I.list hq
    obtain ⟨u, hu, ru⟩ := rv.get hx
    obtain ⟨f0, f1, f2, f3, f4, f5⟩ := hf it (by simp)
    refine wpAny_pyNext_list_item st p.isList (x := u) (by simpa using hu) fun h' st' sb => ?_
    have I1 : Inv X pins σ H { s with heap := h' } := I.turned (t' := s.toks) (fun b o hb e => (sb.2 b hb).trans e) f0 f1 f3 f4 f5
    obtain ⟨o, e, c, d⟩ := id st'
    exact ⟨u, rfl, go_of (s := { s with heap := h' }) e c d (by decide) ⟨x, H, I1, ru, ⟨rfl, fun ys hy => by rw [I.list_inj hy hq]; exact hx⟩, st', fun b hb => (hf b hb).1⟩⟩
  done := by
    intro X hP hw hK hc i pins s σ H E I hf st hg
    subst hP hw hK
    obtain ⟨xs, hq, hx⟩ := hg
    obtain ⟨its, rv, p, hz⟩ := I.list hq
    obtain ⟨f0, f1, f2, f3, f4, f5⟩ := hf it (by simp)
    have hl := rv.length
    exact wpAny_pyNext_list_end (I.ok.hd hc) st p.isList (by simp; omega) fun h' eb => ⟨rfl, I.turned (t' := s.toks) (fun b o hb e => eb b o hb e) f0 f1 f3 f4 f5⟩
  self := fun _ _ _ _ _ st h => wpAny_pyIter_listiter st h
theorem turn_tuple {P : Program} {w : World} {K : PySem.W.Frag} {tg : Expr} (a it : Addr) : Turn P w K tg (Itt K a) [it] it (fun i h => h.IsTupleIter it a i) where
  mem := by simp
  obj := fun i h st b hb => by
    have e : b = it := by simpa using hb
    subst e
    obtain ⟨o, e, c, d⟩ := st
    exact ⟨o, e, fun v z => by rw [d] at z; cases z⟩
  keep := fun i h h' st k => st.at fun o e => k it (by simp) o e
  item := by
    intro X hP hw hK hc i pins s σ H E I hf st hg
    subst hP hw hK
    obtain ⟨xs, x, hq, hx⟩ := hg
    obtain ⟨its, rv, p, hz⟩ := I.tuple hq
    obtain ⟨u, hu, ru⟩ := rv.get hx
    obtain ⟨f0, f1, f2, f3, f4, f5⟩ := hf it (by simp)
    refine wpAny_pyNext_tuple_item st (show s.heap.IsTuple a its.toArray from p) (x := u) (by simpa using hu) fun h' st' sb => ?_
    have I1 : Inv X pins σ H { s with heap := h' } := I.turned (t' := s.toks) (fun b o hb e => (sb.2 b hb).trans e) f0 f1 f3 f4 f5
    obtain ⟨o, e, c, d⟩ := id st'
    exact ⟨u, rfl, go_of (s := { s with heap := h' }) e c d (by decide) ⟨x, H, I1, ru, ⟨rfl, fun ys hy => by rw [I.tuple_inj hy hq]; exact hx⟩, st', fun b hb => (hf b hb).1⟩⟩
  done := by
    intro X hP hw hK hc i pins s σ H E I hf st hg
    subst hP hw hK
    obtain ⟨xs, hq, hx⟩ := hg
    obtain ⟨its, rv, p, hz⟩ := I.tuple hq
    obtain ⟨f0, f1, f2, f3, f4, f5⟩ := hf it (by simp)
    have hl := rv.length
    exact wpAny_pyNext_tuple_end (I.ok.hd hc) st (show s.heap.IsTuple a its.toArray from p) (by simp; omega) fun h' eb => ⟨rfl, I.turned (t' := s.toks) (fun b o hb e => eb b o hb e) f0 f1 f3 f4 f5⟩
  self := fun _ _ _ _ _ st h => wpAny_pyIter_tupleiter st h
theorem turn_range {P : Program} {w : World} {K : PySem.W.Frag} {tg : Expr} (it : Addr) (lo : Int) (n : Nat) : Turn P w K tg (Itr lo n) [it] it (fun i h => IsRangeIter h it (lo + (i : Nat) * 1) ((n : Int) - (i : Nat)) 1) where
  mem := by simp
  obj := fun i h st b hb => by
    have e : b = it := by simpa using hb
    subst e
    exact ⟨_, st, fun v z => by
      have z' : Data.fields _ = Data.cell v := z
      cases z'⟩
  keep := fun i h h' st k => k it (by simp) _ st
  item := by
    intro X hP hw hK hc i pins s σ H E I hf st hg
    subst hP hw hK
    obtain ⟨f0, f1, f2, f3, f4, f5⟩ := hf it (by simp)
    have W := Walks.range (prog := X.prog) (w := X.w) (I.ok.hd hc) it lo 1 n
    refine W.item i s _ _ hg st fun v h' tk hv st' kk => ?_
    obtain ⟨t, rfl⟩ := hv
    have I1 : Inv X pins σ H { s with heap := h', toks := tk } := I.turned (fun b o hb e => kk b o (by simpa using hb) e) f0 f1 f3 f4 f5
    refine ⟨_, rfl, go_of (s := { s with heap := h', toks := tk }) (n := "range_iterator") st' rfl rfl (by decide) ⟨.int (lo + i), H, I1, ⟨t, ?_⟩, ⟨rfl, rfl⟩, st', fun b hb => (hf b hb).1⟩⟩
    rw [Int.mul_one]
  done := by
    intro X hP hw hK hc i pins s σ H E I hf st hg
    subst hP hw hK
    obtain ⟨f0, f1, f2, f3, f4, f5⟩ := hf it (by simp)
    exact wpAny_pyNext_range_end (I.ok.hd hc) st (by have : n ≤ i := hg; omega) fun h' eb => ⟨rfl, I.turned (t' := s.toks) (fun b o hb e => eb b o hb e) f0 f1 f3 f4 f5⟩
  self := fun _ _ _ _ _ st h => wpAny_pyIter_rangeiter st h
end L2
namespace L2
open PySem PySem.Spec PyProof.Rows
section
variable {X : Cx} {tg : Expr}
theorem range_it {pins : List (Addr × Obj)} {σ : St} {H : Hp} {s : Shared} {R : It → Hp → Prop} {E : Value → Shared → Prop} {lo hi : Int} {t u v : Tok} {tk : Nat} (I : Inv X pins σ H s) (h1 : -(2 ^ 62) ≤ lo) (h2 : lo < 2 ^ 62) (h3 : -(2 ^ 62) ≤ hi) (h4 : hi < 2 ^ 62)
    (q : R (Itr lo (hi - lo).toNat) H) : wpAny (model X.prog X.w) X.A (pyIter (.ref s.heap.objs.size)) (PIE X pins σ tg R) E { s with heap := s.heap.push { cls := .type "range", data := .fields #[.int lo t, .int hi u, .int 1 v] }, toks := tk } := by
  refine wpAny_pyIter_range (IsRange.new ..) (small_one h1 h2 h3 h4) ?_
  have I1 : Inv X pins σ H { s with heap := s.heap.push { cls := .type "range", data := .fields #[.int lo t, .int hi u, .int 1 v] }, toks := tk } := I.kept fun b o e => Heap.get?_push_of_some _ e
  refine ⟨(s.heap.push { cls := .type "range", data := .fields #[.int lo t, .int hi u, .int 1 v] }).objs.size, [(s.heap.push { cls := .type "range", data := .fields #[.int lo t, .int hi u, .int 1 v] }).objs.size], _, _, H, rfl,
    I1.kept (t' := tk) fun b o e => Heap.get?_push_of_some _ e, turn_range _ lo (hi - lo).toNat, ?_, fun b hb => ?_, q⟩
  · have e1 : lo + ((0 : Nat) : Int) * 1 = lo := by simp
    have e2 : (((hi - lo).toNat : Nat) : Int) - ((0 : Nat) : Int) = Builtin.Range.rangeSize lo hi 1 := by rw [rangeSize_one]; split <;> omega
    show IsRangeIter _ _ (lo + ((0 : Nat) : Int) * 1) ((((hi - lo).toNat : Nat) : Int) - ((0 : Nat) : Int)) 1
    rw [e1, e2]
    exact Heap.get?_push_size _ rfl
  · have e : b = (s.heap.push { cls := .type "range", data := .fields #[.int lo t, .int hi u, .int 1 v] }).objs.size := by simpa using hb
    subst e
    exact I1.fpOk (Nat.le_refl _) (I1.hok.fresh (Nat.le_refl _))
def iRng1 (ta : TA) : TI := fun σ H R => ta σ H fun vs H1 => ∃ j : Int, vs = [.int j] ∧ -(2 ^ 62) ≤ j ∧ j < 2 ^ 62 ∧ R (Itr 0 j.toNat) H1
def iRng2 (ta : TA) : TI := fun σ H R => ta σ H fun vs H1 => ∃ i j : Int, vs = [.int i, .int j] ∧ (-(2 ^ 62) ≤ i ∧ i < 2 ^ 62 ∧ -(2 ^ 62) ≤ j ∧ j < 2 ^ 62) ∧ R (Itr i (j - i).toNat) H1
theorem pi_range1 {a : Expr} {ta : TA} {p pos : Pos} (hg : Gl X "range") (hm : X.mg "range" = none) (ha : PA X [a] ta) (hs : starEach [a] X.env = [(false, eval a X.env)] := by rfl) : PI X tg (.Call (.Name "range" p) [a] [] pos) (iRng1 ta) := by
  intro pins s σ H R I h
  refine Call_ (ld_blt I hg hm boot_range (PyProof.Rows.callWith_type1 (thn (ha pos pins s σ H _ I h) fun us s1 ⟨vs, H1, I1, r1, q1⟩ => ?_) hs rfl))
  obtain ⟨j, e, q1, q2, q⟩ := q1
  subst e
  cases r1 with
  | cons r rr =>
    cases rr
    obtain ⟨t, rfl⟩ := r
    exact call_range_1 (range_it I1 (by omega) (by omega) q1 q2 (by simpa using q))
theorem pi_range2 {a b : Expr} {ta : TA} {p pos : Pos} (hg : Gl X "range") (hm : X.mg "range" = none) (ha : PA X [a, b] ta) (hs : starEach [a, b] X.env = [(false, eval a X.env), (false, eval b X.env)] := by rfl) (hs2 : starEach [b] X.env = [(false, eval b X.env)] := by rfl) :
    PI X tg (.Call (.Name "range" p) [a, b] [] pos) (iRng2 ta) := by
  intro pins s σ H R I h
  refine Call_ (ld_blt I hg hm boot_range (PyProof.Rows.callWith_type1 (thn (ha pos pins s σ H _ I h) fun us s1 ⟨vs, H1, I1, r1, q1⟩ => ?_) (by rw [hs, hs2]) (by rw [hs2]; rfl)))
  obtain ⟨i, j, e, ⟨q1, q2, q3, q4⟩, q⟩ := q1
  subst e
  cases r1 with
  | cons r rr =>
    cases rr with
    | cons r' rr =>
      cases rr
      obtain ⟨t, rfl⟩ := r
      obtain ⟨t', rfl⟩ := r'
      exact call_range_2 (range_it I1 q1 q2 q3 q4 q)
def tFor (wi : TI) (g : TG) (tb : TS) : TS := fun D σ H => wi σ H fun J H1 => ∃ W : Nat → Nat → St → Hp → Prop, (∃ m, W 0 m σ H1) ∧ ∀ i m σ H, W i m σ H →
  (J.stop i H ∧ D.nx σ H) ∨ (J.go i H ∧ ∃ N : St → Hp → Prop, (∀ σ' H', N σ' H' → ∃ m', m' < m ∧ W (i + 1) m' σ' H') ∧ ∀ x H', J.yld i H x H' → g x σ H' fun σ2 H2 => tb { D with nx := N, ct := N, bk := D.nx } σ2 H2)
def pinsAt (fp : List Addr) (h : Heap) : List (Addr × Obj) := fp.filterMap fun b => (h.get? b).map fun o => (b, o)
theorem mem_pinsAt {fp : List Addr} {h : Heap} {b : Addr} {o : Obj} (hb : b ∈ fp) (e : h.get? b = some o) : (b, o) ∈ pinsAt fp h := List.mem_filterMap.mpr ⟨b, hb, by rw [e]; rfl⟩
theorem of_pinsAt {fp : List Addr} {h : Heap} {p : Addr × Obj} (hp : p ∈ pinsAt fp h) : p.1 ∈ fp ∧ h.get? p.1 = some p.2 := by
  obtain ⟨b, hb, e⟩ := List.mem_filterMap.mp hp
  cases q : h.get? b with
  | none => rw [q] at e; cases e
  | some o =>
    rw [q] at e
    have e' : (b, o) = p := Option.some.inj e
    subst e'
    exact ⟨hb, q⟩
theorem Inv.pinned {pins : List (Addr × Obj)} {σ : St} {H : Hp} {s : Shared} {fp : List Addr} (I : Inv X pins σ H s) (hf : ∀ b ∈ fp, FpOk X pins H b) (ho : ∀ b ∈ fp, ∃ o, s.heap.get? b = some o ∧ ∀ v, o.data ≠ .cell v) : Inv X (pins ++ pinsAt fp s.heap) σ H s :=
  I.pins_of fun p hp => (List.mem_append.mp hp).elim (fun z => I.pin p (List.mem_append_right _ z)) fun z => by
    obtain ⟨hb, e⟩ := of_pinsAt z
    obtain ⟨f0, f1, f2, _⟩ := hf p.1 hb
    obtain ⟨o, e', d⟩ := ho p.1 hb
    rw [e] at e'; cases e'
    exact ⟨e, f0, f1, f2, d⟩
theorem Inv.unpinned {pins pl : List (Addr × Obj)} {σ : St} {H : Hp} {s : Shared} (I : Inv X (pins ++ pl) σ H s) : Inv X pins σ H s := I.pins_of fun p hp => I.pin p (List.mem_append_right _ (List.mem_append_left _ hp))
theorem ps_for {iter : Expr} {body : List Stmt} {wi : TI} {g : TG} {tb : TS} {pos : Pos} (hp : PassesOwn (model X.prog X.w) X.A X.env X.xe) (hc : X.calm = true) (hi : PI X tg iter wi) (hg : PG X tg g) (hb : PSs X body tb)
    (hs : ∀ x, foldedSetIterable iter X.env x = pure x := by intro _; rfl) : PS X (.For tg iter body [] pos) (tFor wi g tb) := by
  intro pins s σ H D I h
  refine wpAny_For (thn (hi pins s σ H _ I h) fun v s1 h1 => thn h1 fun itv s2 h2 => ?_) hs
  obtain ⟨it, fp, tn, J, H2, e, I2, T, st2, f2, W, ⟨m0, w0⟩, turn⟩ := h2
  subst e
  have stat : ∀ {H' : Hp}, (∀ b ∈ fp, H' b = none) → ∀ b ∈ fp, FpOk X pins H' b := fun hn b hb => ⟨hn b hb, (f2 b hb).2⟩
  refine codeAny_forLoop_any (fun n s' => ∃ i σ' H', Inv X pins σ' H' s' ∧ tn i s'.heap ∧ (∀ b ∈ fp, H' b = none) ∧ W i n σ' H') ?_ m0 ⟨0, σ, H2, I2, st2, fun b hb => (f2 b hb).1, w0⟩
  rintro n s3 ⟨i, σ3, H3, I3, st3, fr3, w3⟩
  rcases turn i n σ3 H3 w3 with ⟨stop, qn⟩ | ⟨go, N, hN, step⟩
  · refine wpAny_passesOwn hp (thn (T.done X rfl rfl rfl hc i pins s3 σ3 H3 X.xe I3 (stat fr3) st3 stop) fun r s4 ⟨hr, I4⟩ => ?_)
    subst hr
    exact wpAny_execs_nil ⟨σ3, H3, I4, qn⟩
  · refine wpAny_passesOwn hp (thn (T.item X rfl rfl rfl hc i pins s3 σ3 H3 X.xe I3 (stat fr3) st3 go) fun r s4 ⟨u, hr, h4⟩ => ?_)
    subst hr
    refine wpAny_passesOwn hp (thn h4 fun _ s5 ⟨x, H5, I5, r5, y5, st5, fr5⟩ => ?_)
    have I5' := I5.pinned (stat fr5) (T.obj _ _ st5)
    refine wpAny_passesOwn hp (thn (hg _ s5 σ3 H5 x u _ I5' r5 (step x H5 y5)) fun _ s6 ⟨σ6, H6, I6, q6⟩ => ?_)
    refine wpAny_passesOwn hp (thn (hb _ s6 σ6 H6 _ I6 q6) fun f s7 q7 => ?_)
    have again : ∀ {σ7 : St} {H7 : Hp}, Inv X (pins ++ pinsAt fp s5.heap) σ7 H7 s7 → N σ7 H7 → ∃ m, m < n ∧ ∃ i σ' H', Inv X pins σ' H' s7 ∧ tn i s7.heap ∧ (∀ b ∈ fp, H' b = none) ∧ W i m σ' H' := fun {σ7 H7} I7 n7 => by
      obtain ⟨m', hm, w7⟩ := hN σ7 H7 n7
      refine ⟨m', hm, i + 1, σ7, H7, I7.unpinned, T.keep _ _ _ st5 fun b hb o e => (I7.pin (b, o) (List.mem_append_right _ (List.mem_append_right _ (mem_pinsAt hb e)))).1, fun b hb => ?_, w7⟩
      obtain ⟨o, e, d⟩ := T.obj _ _ st5 b hb
      exact (I7.pin (b, o) (List.mem_append_right _ (List.mem_append_right _ (mem_pinsAt hb e)))).2.1
    cases f with
    | next => obtain ⟨σ7, H7, I7, n7⟩ := q7; exact again I7 n7
    | cont => obtain ⟨σ7, H7, I7, n7⟩ := q7; exact again I7 n7
    | brk => obtain ⟨σ7, H7, I7, q7⟩ := q7; exact ⟨σ7, H7, I7.unpinned, q7⟩
    | ret v => obtain ⟨x7, σ7, H7, I7, r7, q7⟩ := q7; exact ⟨x7, σ7, H7, I7.unpinned, r7, q7⟩
end
end L2
namespace L2
open PySem PySem.Spec PyProof.Rows
abbrev R2 := V → V → Hp → VK → Prop
def OpR (X : Cx) (f : Value → Value → Sem Value) (r : R2) : Prop :=
  ∀ (pins : List (Addr × Obj)) (s : Shared) (σ : St) (H : Hp) (x y : V) (v u : Value) (Q : VK), Inv X pins σ H s → RelV x v → RelV y u → r x y H Q →
    wpAny (model X.prog X.w) X.A (f v u) (EP X pins σ Q) X.xe s
def CallR (X : Cx) (f : Value) (r : List V → Hp → VK → Prop) : Prop :=
  ∀ (pins : List (Addr × Obj)) (s : Shared) (σ : St) (H : Hp) (xs : List V) (us : List Value) (Q : VK), Inv X pins σ H s → Vals xs us → r xs H Q →
    wpAny (model X.prog X.w) X.A (call f us) (EP X pins σ Q) X.xe s
def tOp (r : R2) (ta tb : TE) : TE := fun σ H Q => ta σ H fun x H1 => tb σ H1 fun y H2 => r x y H2 Q
def rI (C : Int → Int → Prop) (g : Int → Int → V) : R2 := fun x y H Q => ∃ i j, x = .int i ∧ y = .int j ∧ C i j ∧ Q (g i j) H
def rI0 (g : Int → Int → V) : R2 := fun x y H Q => ∃ i j, x = .int i ∧ y = .int j ∧ Q (g i j) H
section
variable {X : Cx} {a b c : Expr} {ta tb tc : TE} {pos : Pos}
theorem binT (ha : PE X a ta) (hb : PE X b tb) {pins : List (Addr × Obj)} {s : Shared} {σ : St} {H : Hp} {R : V → V → Hp → Prop} (I : Inv X pins σ H s)
    (h : ta σ H fun x H1 => tb σ H1 fun y H2 => R x y H2) {Q : Value → Shared → Prop} {f : Value → Value → Sem Value}
    (hf : ∀ v u s2 x y H2, Inv X pins σ H2 s2 → RelV x v → RelV y u → R x y H2 → wpAny (model X.prog X.w) X.A (f v u) Q X.xe s2) :
    wpAny (model X.prog X.w) X.A (eval a X.env) (fun v s₁ => wpAny (model X.prog X.w) X.A (eval b X.env) (fun u s₂ => wpAny (model X.prog X.w) X.A (f v u) Q X.xe s₂) X.xe s₁) X.xe s := by
  refine thn (ha pins s σ H _ I h) fun v s1 ⟨x, H1, I1, r1, q1⟩ => ?_
  refine thn (hb pins s1 σ H1 _ I1 q1) fun u s2 ⟨y, H2, I2, r2, q2⟩ => ?_
  exact hf v u s2 x y H2 I2 r1 r2 q2
theorem pe_op {op : Operator} {r : R2} (ho : OpR X (binaryOp op) r) (ha : PE X a ta) (hb : PE X b tb) : PE X (.BinOp a op b pos) (tOp r ta tb) := by
  intro pins s σ H Q I h
  exact wpAny_BinOp (binT ha hb I h fun v u s2 x y H2 I2 rx ry q => ho pins s2 σ H2 x y v u Q I2 rx ry q)
theorem opI {f : Value → Value → Sem Value} {C : Int → Int → Prop} {g : Int → Int → Int}
    (rule : ∀ (i j : Int) (t u : Tok) (s : Shared) (Q : Value → Shared → Prop) (E : Value → Shared → Prop), C i j → Q (.int (g i j) s.toks) { s with toks := s.toks + 1 } → wpAny (model X.prog X.w) X.A (f (.int i t) (.int j u)) Q E s) :
    OpR X f (rI C fun i j => .int (g i j)) := by
  intro pins s σ H x y v u Q I rx ry h
  obtain ⟨i, j, rfl, rfl, hc, q⟩ := h
  obtain ⟨t, rfl⟩ := rx
  obtain ⟨t', rfl⟩ := ry
  exact rule i j t t' s _ _ hc ⟨.int (g i j), H, I.tok _, ⟨_, rfl⟩, q⟩
theorem opI0 {f : Value → Value → Sem Value} {g : Int → Int → Int}
    (rule : ∀ (i j : Int) (t u : Tok) (s : Shared) (Q : Value → Shared → Prop) (E : Value → Shared → Prop), Q (.int (g i j) s.toks) { s with toks := s.toks + 1 } → wpAny (model X.prog X.w) X.A (f (.int i t) (.int j u)) Q E s) :
    OpR X f (rI0 fun i j => .int (g i j)) := by
  intro pins s σ H x y v u Q I rx ry h
  obtain ⟨i, j, rfl, rfl, q⟩ := h
  obtain ⟨t, rfl⟩ := rx
  obtain ⟨t', rfl⟩ := ry
  exact rule i j t t' s _ _ ⟨.int (g i j), H, I.tok _, ⟨_, rfl⟩, q⟩
theorem opB0 {f : Value → Value → Sem Value} {g : Int → Int → Bool}
    (rule : ∀ (i j : Int) (t u : Tok) (s : Shared) (Q : Value → Shared → Prop) (E : Value → Shared → Prop), Q (.bool (g i j)) s → wpAny (model X.prog X.w) X.A (f (.int i t) (.int j u)) Q E s) :
    OpR X f (rI0 fun i j => .bl (g i j)) := by
  intro pins s σ H x y v u Q I rx ry h
  obtain ⟨i, j, rfl, rfl, q⟩ := h
  obtain ⟨t, rfl⟩ := rx
  obtain ⟨t', rfl⟩ := ry
  exact rule i j t t' s _ _ ⟨.bl (g i j), H, I, rfl, q⟩
def CDiv (i j : Int) : Prop := 0 < j ∧ j < 1073741824
def CMul (i j : Int) : Prop := (-(2 ^ 64) < i ∧ i < 2 ^ 64) ∨ (-(2 ^ 64) < j ∧ j < 2 ^ 64)
theorem CMul.ok {i j : Int} (h : CMul i j) : IntMulOk i j := by
  rcases h with ⟨h1, h2⟩ | ⟨h1, h2⟩
  · exact .of_left (intBits_le_64 h1 h2)
  · exact .of_right (intBits_le_64 h1 h2)
theorem op_add : OpR X (binaryOp .Add) (rI0 fun i j => .int (i + j)) := opI0 fun _ _ _ _ _ _ _ q => add_int q
theorem op_sub : OpR X (binaryOp .Sub) (rI0 fun i j => .int (i - j)) := opI0 fun _ _ _ _ _ _ _ q => sub_int q
theorem op_mul : OpR X (binaryOp .Mult) (rI CMul fun i j => .int (i * j)) := opI fun _ _ _ _ _ _ _ hc q => mul_int q hc.ok
theorem op_fdiv : OpR X (binaryOp .FloorDiv) (rI CDiv fun i j => .int (i / j)) := opI fun i j _ _ _ _ _ hc q => by
  have h1 : (0 : Int) < j := hc.1
  have h2 : j < 1073741824 := hc.2
  exact floordiv_int (by omega) (by rw [Int.fdiv_eq_ediv_of_nonneg i (by omega)]; exact q) (.inl (PyProof.noPylong_small (by omega)))
theorem op_mod : OpR X (binaryOp .Mod) (rI (fun _ j => 0 < j) fun i j => .int (i % j)) := opI fun i j _ _ _ _ _ hc q => by
  have h1 : (0 : Int) < j := hc
  exact mod_int' (by omega) (by rw [Int.fmod_eq_emod_of_nonneg i (by omega)]; exact q)
end
def scal : V → V → Bool
  | .non, .non => true | .non, .int _ => true | .int _, .non => true | .non, .bl _ => true | .bl _, .non => true | .non, .str _ => true | .str _, .non => true
  | .int _, .int _ => true | .bl _, .bl _ => true | .str _, .str _ => true | .byt _, .byt _ => true
  | .int _, .str _ => true | .str _, .int _ => true | .bl _, .str _ => true | .str _, .bl _ => true
  | _, _ => false
def rEq : R2 := fun x y H Q => scal x y = true ∧ Q (.bl (decide (x = y))) H
def rNe : R2 := fun x y H Q => scal x y = true ∧ Q (.bl (!decide (x = y))) H
theorem dec_int {i j : Int} : decide (V.int i = V.int j) = (i == j) := by
  rw [Bool.eq_iff_iff]
  simp
theorem dec_bl {i j : Bool} : decide (V.bl i = V.bl j) = (i == j) := by
  rw [Bool.eq_iff_iff]
  simp
theorem dec_str {i j : Str} : decide (V.str i = V.str j) = (i == j) := by
  rw [Bool.eq_iff_iff]
  simp
theorem dec_byt {i j : Array UInt8} : decide (V.byt i = V.byt j) = (i.toList == j.toList) := by
  rw [Bool.eq_iff_iff]
  cases i
  cases j
  simp
section
variable {X : Cx} {a b c : Expr} {ta tb tc : TE} {pos : Pos}
theorem fin_bl {pins : List (Addr × Obj)} {σ : St} {H : Hp} {s : Shared} {Q : VK} {k k' : Bool} (I : Inv X pins σ H s) (q : Q (.bl k) H) (e : k = k') : EP X pins σ Q (.bool k') s := by
  subst e
  exact ⟨.bl k, H, I, rfl, q⟩
theorem op_eq : OpR X (compareOp .Eq) rEq := by
  intro pins s σ H x y v u Q I rx ry h
  obtain ⟨hs, q⟩ := h
  cases x with
  | non =>
    cases rx
    cases y with
    | non => cases ry; exact PySem.EqNone.eq_none_none (fin_bl I q (by simp))
    | bl j => cases ry; exact PySem.EqNone.eq_none_bool (fin_bl I q (by simp))
    | int j => obtain ⟨t', rfl⟩ := ry; exact PySem.EqNone.eq_none_int (fin_bl I q (by simp))
    | str j => obtain ⟨t', rfl⟩ := ry; exact PySem.EqNone.eq_none_str (fin_bl I q (by simp))
    | _ => exact absurd (show false = true from hs) Bool.false_ne_true
  | bl i =>
    cases rx
    cases y with
    | non => cases ry; exact PySem.EqNone.eq_bool_none (fin_bl I q (by simp))
    | bl j => cases ry; exact eq_bool (fin_bl I q dec_bl)
    | str j => obtain ⟨t', rfl⟩ := ry; exact PySem.EqMixed.eq_bool_str (fin_bl I q (by simp))
    | _ => exact absurd (show false = true from hs) Bool.false_ne_true
  | int i =>
    obtain ⟨t, rfl⟩ := rx
    cases y with
    | non => cases ry; exact PySem.EqNone.eq_int_none (fin_bl I q (by simp))
    | int j => obtain ⟨t', rfl⟩ := ry; exact eq_int (fin_bl I q dec_int)
    | str j => obtain ⟨t', rfl⟩ := ry; exact PySem.EqMixed.eq_int_str (fin_bl I q (by simp))
    | _ => exact absurd (show false = true from hs) Bool.false_ne_true
  | str i =>
    obtain ⟨t, rfl⟩ := rx
    cases y with
    | non => cases ry; exact PySem.EqNone.eq_str_none (fin_bl I q (by simp))
    | bl j => cases ry; exact PySem.EqMixed.eq_str_bool (fin_bl I q (by simp))
    | int j => obtain ⟨t', rfl⟩ := ry; exact PySem.EqMixed.eq_str_int (fin_bl I q (by simp))
    | str j => obtain ⟨t', rfl⟩ := ry; exact eq_str (fin_bl I q dec_str)
    | _ => exact absurd (show false = true from hs) Bool.false_ne_true
  | byt i =>
    obtain ⟨t, rfl⟩ := rx
    cases y with
    | byt j => obtain ⟨t', rfl⟩ := ry; exact PySem.W.eq_bytes (fin_bl I q dec_byt)
    | _ => exact absurd (show false = true from hs) Bool.false_ne_true
  | _ => cases y <;> exact absurd (show false = true from hs) Bool.false_ne_true
theorem op_ne : OpR X (compareOp .NotEq) rNe := by
  intro pins s σ H x y v u Q I rx ry h
  obtain ⟨hs, q⟩ := h
  cases x with
  | non =>
    cases rx
    cases y with
    | non => cases ry; exact PySem.EqNone.ne_none_none (fin_bl I q (by simp))
    | bl j => cases ry; exact PySem.EqNone.ne_none_bool (fin_bl I q (by simp))
    | int j => obtain ⟨t', rfl⟩ := ry; exact PySem.EqNone.ne_none_int (fin_bl I q (by simp))
    | str j => obtain ⟨t', rfl⟩ := ry; exact PySem.EqNone.ne_none_str (fin_bl I q (by simp))
    | _ => exact absurd (show false = true from hs) Bool.false_ne_true
  | bl i =>
    cases rx
    cases y with
    | non => cases ry; exact PySem.EqNone.ne_bool_none (fin_bl I q (by simp))
    | bl j => cases ry; exact ne_bool (fin_bl I q (congrArg not dec_bl))
    | str j => obtain ⟨t', rfl⟩ := ry; exact PySem.EqMixed.ne_bool_str (fin_bl I q (by simp))
    | _ => exact absurd (show false = true from hs) Bool.false_ne_true
  | int i =>
    obtain ⟨t, rfl⟩ := rx
    cases y with
    | non => cases ry; exact PySem.EqNone.ne_int_none (fin_bl I q (by simp))
    | int j => obtain ⟨t', rfl⟩ := ry; exact ne_int (fin_bl I q (congrArg not dec_int))
    | str j => obtain ⟨t', rfl⟩ := ry; exact PySem.EqMixed.ne_int_str (fin_bl I q (by simp))
    | _ => exact absurd (show false = true from hs) Bool.false_ne_true
  | str i =>
    obtain ⟨t, rfl⟩ := rx
    cases y with
    | non => cases ry; exact PySem.EqNone.ne_str_none (fin_bl I q (by simp))
    | bl j => cases ry; exact PySem.EqMixed.ne_str_bool (fin_bl I q (by simp))
    | int j => obtain ⟨t', rfl⟩ := ry; exact PySem.EqMixed.ne_str_int (fin_bl I q (by simp))
    | str j => obtain ⟨t', rfl⟩ := ry; exact ne_str (fin_bl I q (congrArg not dec_str))
    | _ => exact absurd (show false = true from hs) Bool.false_ne_true
  | byt i =>
    obtain ⟨t, rfl⟩ := rx
    cases y with
    | byt j => obtain ⟨t', rfl⟩ := ry; exact PySem.W.ne_bytes (fin_bl I q (congrArg not dec_byt))
    | _ => exact absurd (show false = true from hs) Bool.false_ne_true
  | _ => cases y <;> exact absurd (show false = true from hs) Bool.false_ne_true
theorem op_lt : OpR X (compareOp .Lt) (rI0 fun i j => .bl (decide (i < j))) := opB0 fun _ _ _ _ _ _ _ q => lt_int q
theorem op_le : OpR X (compareOp .LtE) (rI0 fun i j => .bl (decide (i ≤ j))) := opB0 fun _ _ _ _ _ _ _ q => le_int q
theorem op_gt : OpR X (compareOp .Gt) (rI0 fun i j => .bl (decide (j < i))) := opB0 fun _ _ _ _ _ _ _ q => gt_int q
theorem op_ge : OpR X (compareOp .GtE) (rI0 fun i j => .bl (decide (j ≤ i))) := opB0 fun _ _ _ _ _ _ _ q => ge_int q
theorem op_isN : OpR X (compareOp .Is) (fun x y H Q => y = .non ∧ Q (.bl (decide (x = .non))) H) := by
  intro pins s σ H x y v u Q I rx ry h
  obtain ⟨rfl, q⟩ := h
  cases ry
  refine is_none_gen (fin_bl I q ?_)
  cases x <;> first
    | (cases rx; rfl)
    | (obtain ⟨t, rfl⟩ := rx; rfl)
theorem op_notN : OpR X (compareOp .IsNot) (fun x y H Q => y = .non ∧ Q (.bl (!decide (x = .non))) H) := by
  intro pins s σ H x y v u Q I rx ry h
  obtain ⟨rfl, q⟩ := h
  cases ry
  refine isnot_none_gen (fin_bl I q ?_)
  cases x <;> first
    | (cases rx; rfl)
    | (obtain ⟨t, rfl⟩ := rx; rfl)
theorem OpR.or {f : Value → Value → Sem Value} {r r' : R2} (h : OpR X f r) (h' : OpR X f r') : OpR X f (fun x y H Q => r x y H Q ∨ r' x y H Q) := by
  intro pins s σ H x y v u Q I rx ry q
  rcases q with q | q
  · exact h pins s σ H x y v u Q I rx ry q
  · exact h' pins s σ H x y v u Q I rx ry q
theorem nomark (b : Expr) {op : CmpOp} (h : op ≠ .In := by decide) (h2 : op ≠ .NotIn := by decide) : behindInMarks op b = false := by
  have e1 : (op == CmpOp.In) = false := by cases op <;> first | rfl | exact absurd rfl h
  have e2 : (op == CmpOp.NotIn) = false := by cases op <;> first | rfl | exact absurd rfl h2
  cases b <;> simp [behindInMarks, e1, e2]
theorem pe_cmpR {op : CmpOp} {r : R2} (ho : OpR X (compareOp op) r) (ha : PE X a ta) (hb : PE X b tb) (hm : behindInMarks op b = false) : PE X (.Compare a [op] [b] pos) (tOp r ta tb) := by
  intro pins s σ H Q I h
  exact wpAny_Compare1 (binT ha hb I h fun v u s2 x y H2 I2 rx ry q => ho pins s2 σ H2 x y v u Q I2 rx ry q) hm
def tTest (t : TE) : TT := fun σ H Q => t σ H fun x H' => ∃ k, x = .bl k ∧ Q k H'
theorem pt_cmpR {op : CmpOp} {r : R2} (ho : OpR X (compareOp op) r) (ha : PE X a ta) (hb : PE X b tb) (hm : behindInMarks op b = false) : PT X (.Compare a [op] [b] pos) (tTest (tOp r ta tb)) := by
  intro pins s σ H Q I h
  refine wpAny_isTrue_Compare1 (thn (ha pins s σ H _ I h) fun v s1 ⟨x, H1, I1, r1, q1⟩ => thn (hb pins s1 σ H1 _ I1 q1) fun u s2 ⟨y, H2, I2, r2, q2⟩ =>
    thn (ho pins s2 σ H2 x y v u _ I2 r1 r2 q2) fun c s3 ⟨z, H3, I3, r3, k, e, q3⟩ => ?_) hm
  subst e
  cases r3
  exact wpAny_truthy_bool ⟨H3, I3, q3⟩
def tChain (r r' : R2) (ta tb tc : TE) : TE := fun σ H Q => ta σ H fun x H1 => tb σ H1 fun y H2 => r x y H2 fun z H3 => ∃ k, z = .bl k ∧
  (if k = true then tc σ H3 fun w' H4 => r' y w' H4 Q else Q (.bl false) H3)
theorem pt_chain {op op' : CmpOp} {r r' : R2} (ho : OpR X (compareOp op) r) (ho' : OpR X (compareOp op') r') (ha : PE X a ta) (hb : PE X b tb) (hc : PE X c tc)
    (hm : lastMarks [op, op'] [b, c] = false := by with_unfolding_all rfl) : PT X (.Compare a [op, op'] [b, c] pos) (tTest (tChain r r' ta tb tc)) := by
  intro pins s σ H Q I h
  refine isTrue_chain (thn (ha pins s σ H _ I h) fun v s1 ⟨x, H1, I1, r1, q1⟩ => test_link (thn (hb pins s1 σ H1 _ I1 q1) fun u s2 ⟨y, H2, I2, r2, q2⟩ =>
    thn (ho pins s2 σ H2 x y v u _ I2 r1 r2 q2) fun d s3 ⟨z, H3, I3, r3, k, e, q3⟩ => ?_)) hm
  subst e
  cases r3
  refine wpAny_truthy_bool ?_
  cases k with
  | false =>
    obtain ⟨k', e', q'⟩ := q3
    cases e'
    exact ite_ff ⟨H3, I3, q'⟩
  | true =>
    refine ite_tt (test_last (thn (hc pins s3 σ H3 _ I3 q3) fun w' s4 ⟨z', H4, I4, r4, q4⟩ => thn (ho' pins s4 σ H4 y z' u w' _ I4 r2 r4 q4) fun d' s5 ⟨z2, H5, I5, r5, k2, e2, q5⟩ => ?_))
    subst e2
    cases r5
    exact wpAny_truthy_bool ⟨H5, I5, q5⟩
theorem line63 : (sizeLine : Nat) < 2 ^ 63 := by rw [sizeLine_eq]; decide
theorem vals1 {x : V} {us : List Value} (r : Vals [x] us) : ∃ u, us = [u] ∧ RelV x u := by
  cases r with
  | cons r1 r2 => cases r2; exact ⟨_, rfl, r1⟩
theorem vals2 {x y : V} {us : List Value} (r : Vals [x, y] us) : ∃ u w', us = [u, w'] ∧ RelV x u ∧ RelV y w' := by
  cases r with
  | cons r1 r2 =>
    cases r2 with
    | cons r3 r4 => cases r4; exact ⟨_, _, rfl, r1, r3⟩
theorem call_abs : CallR X (.builtin "abs") (fun xs H Q => ∃ i, xs = [.int i] ∧ Q (.int (if i < 0 then -i else i)) H) := by
  intro pins s σ H xs us Q I r h
  obtain ⟨i, rfl, q⟩ := h
  obtain ⟨u, rfl, t, rfl⟩ := vals1 r
  exact call_abs_int fun u tk => ⟨.int (if i < 0 then -i else i), H, I.tok _, ⟨_, rfl⟩, q⟩
theorem call_max2 (hc : X.calm = true) : CallR X (.builtin "max") (fun xs H Q => ∃ i j, xs = [.int i, .int j] ∧ Q (.int (if j > i then j else i)) H) := by
  intro pins s σ H xs us Q I r h
  obtain ⟨i, j, rfl, q⟩ := h
  obtain ⟨u, w', rfl, ⟨t, rfl⟩, ⟨t', rfl⟩⟩ := vals2 r
  refine max_two_ints (I.ok.hd hc) fun h' tk k => ⟨_, H, I.kept k, ?_, q⟩
  by_cases hj : j > i
  · rw [if_pos hj, if_pos hj]; exact ⟨_, rfl⟩
  · rw [if_neg hj, if_neg hj]; exact ⟨_, rfl⟩
theorem call_min2 (hc : X.calm = true) : CallR X (.builtin "min") (fun xs H Q => ∃ i j, xs = [.int i, .int j] ∧ Q (.int (if j < i then j else i)) H) := by
  intro pins s σ H xs us Q I r h
  obtain ⟨i, j, rfl, q⟩ := h
  obtain ⟨u, w', rfl, ⟨t, rfl⟩, ⟨t', rfl⟩⟩ := vals2 r
  refine min_two_ints (I.ok.hd hc) fun h' tk k => ⟨_, H, I.kept k, ?_, q⟩
  by_cases hj : j < i
  · rw [if_pos hj, if_pos hj]; exact ⟨_, rfl⟩
  · rw [if_neg hj, if_neg hj]; exact ⟨_, rfl⟩
theorem call_int1 : CallR X (.type "int") (fun xs H Q => (∃ i, xs = [.int i] ∧ Q (.int i) H) ∨ ∃ k, xs = [.bl k] ∧ Q (.int (if k then 1 else 0)) H) := by
  intro pins s σ H xs us Q I r h
  rcases h with ⟨i, rfl, q⟩ | ⟨k, rfl, q⟩
  · obtain ⟨u, rfl, t, rfl⟩ := vals1 r
    exact call_int_int ⟨.int i, H, I, ⟨_, rfl⟩, q⟩
  · obtain ⟨u, rfl, r1⟩ := vals1 r
    cases r1
    exact call_int_bool ⟨.int (if k then 1 else 0), H, I.tok _, ⟨_, rfl⟩, q⟩
end
end L2
namespace L2
open PySem PySem.Spec PyProof.Rows
structure ObjM (h : Heap) (x dx C : Addr) (mA : Str → Option Value) : Prop where
  obj : h.get? x = some (PySem.W.instObj C dx)
  ns : h.Ns1 dx mA
  ne : dx ≠ x
theorem lookIn_ns {h : Heap} {dx : Addr} {mA : Str → Option Value} (n : h.Ns1 dx mA) : ∃ od, h.get? dx = some od ∧ ∀ name, PySem.W.lookIn name od = some (mA name) := by
  obtain ⟨o, es, ep, ho, hd, hk, _, hm⟩ := n
  refine ⟨o, ho, fun name => ?_⟩
  have e := hm name
  unfold nsFind findBy at e
  rw [← Array.find?_toList] at e
  unfold PySem.W.lookIn
  rw [hd]
  dsimp only
  split
  · rename_i y q
    rw [q] at e
    exact congrArg some e
  · rename_i q
    rw [q] at e
    have a : es.toList.any (·.refKey) = false := by
      rw [List.any_eq_false]
      intro y hy
      obtain ⟨z, t, hkey⟩ := hk y (Array.mem_toList_iff.mp hy)
      simp [DictEntry.refKey, hkey]
    have a' : ¬ es.toList.any (·.refKey) = true := by rw [a]; exact Bool.false_ne_true
    rw [if_neg a']
    exact congrArg some e
theorem ObjM.look {h : Heap} {x dx C : Addr} {mA : Str → Option Value} (I : ObjM h x dx C mA) : ∃ od, PySem.W.InstAt h x (PySem.W.instObj C dx) C (some od) ∧ ∀ name, PySem.W.lookIn name od = some (mA name) :=
  let ⟨od, ho, hl⟩ := lookIn_ns I.ns
  ⟨od, ⟨I.obj, rfl, rfl, ho⟩, hl⟩
section
variable {prog : Program} {w : World} {A : Around} {E : Value → Shared → Prop} {s : Shared} {K : PySem.W.Frag} {x dx C f : Addr} {mA : Str → Option Value} {name : Str} {v : Value}
theorem get_map {expr : Bool} {Q : Value → Shared → Prop} (X : K.In s.heap) (I : ObjM s.heap x dx C mA) (hg : PySem.W.plainGet K C name = true) (hh : PySem.W.hasDictIn K C = true)
    (ha : PySem.W.findIn K (.ref C) name = some none) (hv : mA name = some v) (hv' : PySem.W.handedIn v = true) (h : Q v { s with toks := s.toks + 1 }) :
    wpAny (model prog w) A (getAttr (.ref x) name expr) Q E s := by
  obtain ⟨od, J, hl⟩ := I.look
  exact PySem.W.get_value X J (PySem.W.plainGet_of hg).1 (PySem.W.findObj_own hh ha rfl (by rw [hl, hv])) hv' h
theorem set_map {ns : List Str} {Q : Unit → Shared → Prop} (X : K.In s.heap) (I : ObjM s.heap x dx C mA)
    (hs : PySem.W.findIn K (.ref C) "__setattr__" = some (some (.builtin "object.__setattr__"))) (hp : PySem.W.plainOver K C = true) (ht : PySem.W.takerIn K C name = some none) (hh : PySem.W.hasDictIn K C = true)
    (hw : PySem.Within mA ns) (hsz : ns.length ≤ sizeLine)
    (h : ∀ h', ObjM h' x dx C (fun y => if y = name then some v else mA y) → Heap.SameBut dx s.heap h' → Q () { s with heap := h', toks := s.toks + 2 }) :
    wpAny (model prog w) A (setAttr (.ref x) name v) Q E s := by
  obtain ⟨od, J, hl⟩ := I.look
  refine PySem.W.set_plain X J hs (PySem.W.osa_open (s := { s with toks := s.toks + 1 }) (r := none) X J hp ht fun b => ?_)
  obtain ⟨cd, hc, hd'⟩ := PySem.W.any_some hh
  have hx : s.heap.get? x = some ⟨.ref C, some dx, .plain, #[]⟩ := I.obj
  refine wpAny_bind (wpAny_pure (wpAny_bind (wpAny_bind (wpAny_loadPart hx (wpAny_bind (PySem.W.Looks.here (s := { s with toks := s.toks + 1 }) (PySem.W.looks_clsIn X hc) ?_))))))
  rw [hd']
  refine wpAny_pure (a := some dx) (wpAny_bind (wpAny_pure (wpAny_bind ?_)))
  refine wpAny_nsSet1 (s := { s with toks := s.toks + 1 }) I.ns fun h' hn2 hs2 => ?_
  obtain ⟨oD, esD, epD, hoD, hdD, hcD⟩ := hn2.count (PySem.Within.cons name v hw)
  refine wpAny_bind (wpAny_lookBehind hoD (by rw [hdD]; exact pastItsLine_dict (Nat.le_trans hcD (by rw [List.length_cons]; omega))) ?_)
  exact wpAny_pure (h _ ⟨(hs2.2 _ (Ne.symm I.ne)).trans I.obj, hn2, I.ne⟩ hs2)
theorem make_map {R : Result → Shared → Prop} {vs : List Value} {kw : List (Str × Value)} (X : K.In s.heap) (hm : PySem.W.makesIn K C = true)
    (hi : PySem.W.findIn K (.ref C) "__init__" = some (some (.ref f))) (hf : PySem.W.typeIn K (.ref f) = some (.type "function"))
    (h : codeAny (model prog w) (A.under (.builtin "type.__call__" ⟨.ref C :: vs, kw⟩)) (.call (.ref f) ⟨.ref (s.heap.objs.size + 1) :: vs, kw⟩) (PySem.W.InitBack (s.heap.objs.size + 1) R)
      { s with heap := (s.heap.push PySem.W.emptyDict).push (PySem.W.instObj C s.heap.objs.size) }) :
    codeAny (model prog w) A (.call (.ref C) ⟨vs, kw⟩) R s := by
  obtain ⟨hh, g, d, t, os⟩ := s
  exact PySem.W.make_core (PySem.W.makes_of X hm) (PySem.W.looks_findIn X hi) (fun self => PySem.W.bind_fn X self hf) (.inl rfl) h
end
def putF (f : Str) (v : V) : List (Str × V) → List (Str × V)
  | [] => [(f, v)]
  | (g, x) :: r => if g = f then (g, v) :: r else (g, x) :: putF f v r
theorem lookup_putF (f g : Str) (v : V) : ∀ fs : List (Str × V), (putF f v fs).lookup g = if g = f then some v else fs.lookup g
  | [] => by
    show List.lookup g [(f, v)] = _
    by_cases h : g = f
    · have hb : (g == f) = true := beq_iff_eq.mpr h
      simp only [List.lookup, hb, if_pos h]
    · have hb : (g == f) = false := beq_eq_false_iff_ne.mpr h
      simp only [List.lookup, hb, if_neg h]
  | (k, x) :: r => by
    have ih := lookup_putF f g v r
    rw [show putF f v ((k, x) :: r) = (if k = f then (k, v) :: r else (k, x) :: putF f v r) from rfl]
    by_cases hk : k = f
    · rw [if_pos hk]
      by_cases h : g = k
      · have hb : (g == k) = true := beq_iff_eq.mpr h
        simp only [List.lookup, hb, if_pos (h.trans hk)]
      · have hb : (g == k) = false := beq_eq_false_iff_ne.mpr h
        simp only [List.lookup, hb, if_neg (fun e : g = f => h (e.trans hk.symm))]
    · rw [if_neg hk]
      by_cases h : g = k
      · have hb : (g == k) = true := beq_iff_eq.mpr h
        simp only [List.lookup, hb, if_neg (fun e : g = f => hk (h.symm.trans e))]
      · have hb : (g == k) = false := beq_eq_false_iff_ne.mpr h
        simp only [List.lookup, hb]
        exact ih
theorem keys_putF (f : Str) (v : V) : ∀ fs : List (Str × V), f ∈ (putF f v fs).map (·.1) ∧ ∀ g, g ∈ fs.map (·.1) → g ∈ (putF f v fs).map (·.1)
  | [] => ⟨by simp [putF], fun g h => by simp at h⟩
  | (k, x) :: r => by
    obtain ⟨i1, i2⟩ := keys_putF f v r
    rw [show putF f v ((k, x) :: r) = (if k = f then (k, v) :: r else (k, x) :: putF f v r) from rfl]
    by_cases hk : k = f
    · rw [if_pos hk]
      subst hk
      exact ⟨by simp, fun g h => by simpa using h⟩
    · rw [if_neg hk]
      refine ⟨?_, fun g h => ?_⟩
      · rw [List.map_cons]
        exact List.mem_cons_of_mem _ i1
      · rw [List.map_cons] at h ⊢
        rcases List.mem_cons.mp h with e | e
        · exact List.mem_cons.mpr (.inl e)
        · exact List.mem_cons_of_mem _ (i2 g e)
theorem length_putF (f : Str) (v : V) : ∀ fs : List (Str × V), (putF f v fs).length ≤ fs.length + 1
  | [] => by simp [putF]
  | (k, x) :: r => by
    have ih := length_putF f v r
    rw [show putF f v ((k, x) :: r) = (if k = f then (k, v) :: r else (k, x) :: putF f v r) from rfl]
    by_cases hk : k = f
    · rw [if_pos hk, List.length_cons, List.length_cons]; omega
    · rw [if_neg hk, List.length_cons, List.length_cons]; omega
theorem RelO.some_of {v : V} {o : Option Value} (r : RelO (some v) o) : ∃ u, o = some u ∧ RelV v u := by
  cases o with
  | none => exact (show False from r).elim
  | some u => exact ⟨u, rfl, r⟩
theorem handed_of {v : V} {u : Value} (r : RelV v u) : PySem.W.handedIn u = true := by
  cases v with
  | non => cases (show u = Value.none from r); rfl
  | bl b => cases (show u = Value.bool b from r); rfl
  | int i => obtain ⟨t, e⟩ := (show ∃ t, u = Value.int i t from r); cases e; rfl
  | str x => obtain ⟨t, e⟩ := (show ∃ t, u = Value.str x t from r); cases e; rfl
  | byt b => obtain ⟨t, e⟩ := (show ∃ t, u = Value.bytes b t from r); cases e; rfl
  | flt b => obtain ⟨t, e⟩ := (show ∃ t, u = Value.float b t from r); cases e; rfl
  | ref a => cases (show u = Value.ref a from r); rfl
  | ty n => cases (show u = Value.type n from r); rfl
section
variable {P : Program} {w : World} {H H' : Hp} {h h' : Heap} {a C dx : Addr} {fs fs' : List (Str × V)}
theorem ins_get (hok : HOk P w H h) (e : H a = some (.ins C dx fs)) : ∃ mA, ObjM h a dx C mA ∧ (∀ f, RelO (fs.lookup f) (mA f)) ∧ PySem.Within mA (fs.map (·.1)) ∧ fs.length ≤ 1000 ∧ H dx = some (.own a) := by
  obtain ⟨d, z, ne, ob, mA, n, r, q⟩ := (show ObjOk P w H h a (.ins C dx fs) from hok a _ e)
  exact ⟨mA, ⟨ob, n, ne⟩, r, q, z, d⟩
end
structure Cls (K : PySem.W.Frag) (C : Addr) : Prop where
  pg : PySem.W.plainGet K C Str.empty = true
  hd : PySem.W.hasDictIn K C = true
  po : PySem.W.plainOver K C = true
  sa : PySem.W.findIn K (.ref C) "__setattr__" = some (some (.builtin "object.__setattr__"))
theorem Cls.get {K : PySem.W.Frag} {C : Addr} (c : Cls K C) (f : Str) : PySem.W.plainGet K C f = true := c.pg
def NoAttr (K : PySem.W.Frag) (C : Addr) (f : Str) : Prop := PySem.W.findIn K (.ref C) f = some none
theorem NoAttr.taker {K : PySem.W.Frag} {C : Addr} {f : Str} (n : NoAttr K C f) : PySem.W.takerIn K C f = some none := by
  unfold PySem.W.takerIn
  rw [show PySem.W.findIn K (.ref C) f = some none from n]
  rfl
structure Con (K : PySem.W.Frag) (C : Addr) (f : Str) (v : V) (u : Value) : Prop where
  at_ : PySem.W.findIn K (.ref C) f = some (some u)
  rel : RelV v u
  get : PySem.W.specialIn K u "__get__" = some none
  cp : PySem.W.copiedNames.contains f = false
structure Meth (K : PySem.W.Frag) (C : Addr) (m : Str) (f : Addr) : Prop where
  at_ : PySem.W.findIn K (.ref C) m = some (some (.ref f))
  fn : PySem.W.isFn K (.ref f) = true
  kp : PySem.W.keepIn K (.ref f) = true
section
variable {X : Cx} {pins : List (Addr × Obj)} {σ : St} {H : Hp} {s : Shared} {a C dx : Addr} {fs : List (Str × V)} {f : Str} {v : V} {A : Around} {E : Value → Shared → Prop}
theorem getattr_ok {b : Bool} {Q : Value → Shared → Prop} (I : Inv X pins σ H s) (e : H a = some (.ins C dx fs)) (c : Cls X.K C) (n : NoAttr X.K C f) (l : fs.lookup f = some v)
    (h : ∀ u s', Inv X pins σ H s' → RelV v u → Q u s') : wpAny (model X.prog X.w) A (getAttr (.ref a) f b) Q E s := by
  obtain ⟨mA, O, r, _, _, _⟩ := ins_get I.hok e
  obtain ⟨u, hu, ru⟩ := RelO.some_of (v := v) (o := mA f) (by rw [← l]; exact r f)
  exact get_map I.kIn O (c.get f) c.hd n hu (handed_of ru) (h u _ (I.tok _) ru)
theorem setattr_ok {y : V} {u : Value} {Q : Unit → Shared → Prop} (I : Inv X pins σ H s) (e : H a = some (.ins C dx fs)) (c : Cls X.K C) (n : NoAttr X.K C f) (hl : fs.length < 1000) (ry : RelV y u)
    (h : ∀ s', Inv X pins σ (upd H a (.ins C dx (putF f y fs))) s' → Q () s') : wpAny (model X.prog X.w) A (setAttr (.ref a) f u) Q E s := by
  obtain ⟨mA, O, r, wi, _, ho⟩ := ins_get I.hok e
  have hz : (fs.map (·.1)).length ≤ sizeLine := by rw [List.length_map, sizeLine_eq]; omega
  refine set_map I.kIn O c.sa c.po n.taker c.hd wi hz fun h' O' sb => h _ ?_
  have hd : ∃ o, h'.get? dx = some o := let ⟨o, _, _, e', _⟩ := O'.ns; ⟨o, e'⟩
  refine I.write (x := a) (e := dx) (by rw [e]; exact True.intro) (.inr ho) (fun b q hb z => (sb.2 b hb).trans z) hd ?_
  refine ⟨by rw [upd_ne O.ne]; exact ho, ?_, O.ne, O'.obj, _, O'.ns, fun g => ?_, fun g hg => ?_⟩
  · have := length_putF f y fs; omega
  · show RelO ((putF f y fs).lookup g) (if g = f then some u else mA g)
    rw [lookup_putF]
    by_cases q : g = f
    · rw [if_pos q, if_pos q]; exact ry
    · rw [if_neg q, if_neg q]; exact r g
  · by_cases q : g = f
    · rw [q]; exact (keys_putF f y fs).1
    · refine (keys_putF f y fs).2 g (wi g fun z => hg ?_)
      show (if g = f then some u else mA g) = none
      rw [if_neg q]; exact z
theorem Inv.made (I : Inv X pins σ H s) : Inv X pins σ (upd (upd H s.heap.objs.size (.own (s.heap.objs.size + 1))) (s.heap.objs.size + 1) (.ins C s.heap.objs.size []))
    { s with heap := (s.heap.push PySem.W.emptyDict).push (PySem.W.instObj C s.heap.objs.size) } := by
  have e1 : (s.heap.push PySem.W.emptyDict).get? s.heap.objs.size = some PySem.W.emptyDict := Heap.get?_push_size s.heap rfl
  have e2 : ((s.heap.push PySem.W.emptyDict).push (PySem.W.instObj C s.heap.objs.size)).get? (s.heap.objs.size + 1) = some (PySem.W.instObj C s.heap.objs.size) := by
    have := Heap.get?_push_size (s.heap.push PySem.W.emptyDict) (o := PySem.W.instObj C s.heap.objs.size) rfl
    rwa [Heap.size_push] at this
  have e3 : (s.heap.push PySem.W.emptyDict).Ns s.heap.objs.size (fun _ => none) := ⟨PySem.W.emptyDict, #[], _, e1, rfl, (fun e he => absurd he (by simp)), fun _ => rfl⟩
  have I1 := I.laid (a := s.heap.objs.size) (o := .own (s.heap.objs.size + 1)) (h' := s.heap.push PySem.W.emptyDict) (t' := s.toks) (fun b u q => Heap.get?_push_of_some _ q) (Nat.le_refl _) ⟨_, e1⟩
  refine I1.laid (a := s.heap.objs.size + 1) (o := .ins C s.heap.objs.size []) (t' := s.toks) (fun b u q => Heap.get?_push_of_some _ q) (Nat.le_of_eq (Heap.size_push _ _)) ?_
  have ne : s.heap.objs.size ≠ s.heap.objs.size + 1 := Nat.ne_of_lt (Nat.lt_succ_self _)
  refine ⟨by rw [upd_ne ne, upd_same], Nat.zero_le _, ne, e2, fun _ => none, (Heap.Ns1.of_empty e3).at fun o q => Heap.get?_push_of_some _ q, fun _ => True.intro, fun y hy => absurd rfl hy⟩
theorem attr_of {prog : Program} {w : World} {env : Env} {e : Expr} {f : Str} {pos : Pos} {s : Shared} {Q : Value → Shared → Prop} (hb : attributeBase e f env (eval e env) = eval e env)
    (h : wpAny (model prog w) A (eval e env) (fun o s₁ => wpAny (model prog w) A (getAttr o f true) Q E s₁) E s) : wpAny (model prog w) A (eval (.Attribute e f pos) env) Q E s :=
  Attribute_any_ h (by rw [arm_eval_Attribute, hb])
end
def sFld (K : PySem.W.Frag) (ta tv : TE) (f : Str) : TS := fun D σ H => tv σ H fun y H1 => ta σ H1 fun x H2 => ∃ a C dx fs, x = .ref a ∧ H2 a = some (.ins C dx fs) ∧ Cls K C ∧ NoAttr K C f ∧ fs.length < 1000 ∧
  D.nx σ (upd H2 a (.ins C dx (putF f y fs)))
section
variable {X : Cx} {o e value : Expr} {f : Str} {pos pos' tpos : Pos} {ta tv : TE}
theorem ps_fld (ha : PE X o ta) (hv : PE X value tv) (hs : swapsWith value (some (.Attribute o f pos')) pos.line X.env = pure false) : PS X (.Assign [.Attribute o f pos'] value pos) (sFld X.K ta tv f) := by
  intro pins s σ H D I h
  refine plainObj_wpAny_Assign_Attribute (thn (hv pins s σ H _ I h) fun u s1 ⟨y, H1, I1, ry, q⟩ => thn (ha pins s1 σ H1 _ I1 q) fun ov s2 ⟨x, H2, I2, rx, a, C, dx, fs, ex, ea, c, n, l, q2⟩ => ?_) hs
  subst ex
  obtain rfl : ov = Value.ref a := rx
  exact setattr_ok I2 ea c n l ry fun s3 I3 => ⟨σ, _, I3, q2⟩
end
section
variable {X : Cx} {pins : List (Addr × Obj)} {σ : St} {H : Hp} {s : Shared} {A : Around} {E : Value → Shared → Prop} {Q : Value → Shared → Prop} {c : Value} {b : Bool}
inductive TyOf (K : PySem.W.Frag) (H : Hp) : V → Value → Prop where
  | non : TyOf K H .non (.type "NoneType")
  | bl (x : Bool) : TyOf K H (.bl x) (.type "bool")
  | int (i : Int) : TyOf K H (.int i) (.type "int")
  | str (x : Str) : TyOf K H (.str x) (.type "str")
  | flt (x : UInt64) : TyOf K H (.flt x) (.type "float")
  | lst {a : Addr} {xs : List V} (e : H a = some (.lst xs)) : TyOf K H (.ref a) (.type "list")
  | frz {a : Addr} {o : Obj} {xs : List V} (e : H a = some (.frz o (.lst xs))) : TyOf K H (.ref a) (.type "list")
  | tup {a : Addr} {xs : List V} (e : H a = some (.tup xs)) : TyOf K H (.ref a) (.type "tuple")
  | dK {a : Addr} {kvs : List (Key × V)} (e : H a = some (.dK kvs)) : TyOf K H (.ref a) (.type "dict")
  | dT {a : Addr} {kvs : List (List Key × V)} (e : H a = some (.dT kvs)) : TyOf K H (.ref a) (.type "dict")
  | ins {a C dx : Addr} {fs : List (Str × V)} (e : H a = some (.ins C dx fs)) (cl : Cls K C) (ha : PySem.W.findIn K (.ref C) "__class__" = some (some (.builtin "object.__class__")))
      (hn : PySem.W.specialIn K (.builtin "object.__class__") "__get__" = some (some (.builtin "getset_descriptor.__get__"))) (htk : PySem.W.takesIn K (.builtin "object.__class__") = some true)
      (hm : PySem.W.mroIn K C (.type "object") = some true) : TyOf K H (.ref a) (.ref C)
theorem isinst_ok {x : V} {u t : Value} (I : Inv X pins σ H s) (rx : RelV x u) (ty : TyOf X.K H x t) (e : PySem.W.kitOne X.K t c = some b) (h : ∀ tk, Q (.bool b) { s with toks := tk }) :
    wpAny (model X.prog X.w) A (call (.builtin "isinstance") [u, c]) Q E s := by
  cases ty with
  | non => cases (show u = Value.none from rx); exact PySem.W.kia_one PySem.W.kitx_none I.kIn True.intro e (fun z => nomatch z) h
  | bl y => cases (show u = Value.bool y from rx); exact PySem.W.kia_one PySem.W.kitx_bool I.kIn True.intro e (fun z => nomatch z) h
  | int i => obtain ⟨t, q⟩ := (show ∃ t, u = Value.int i t from rx); cases q; exact PySem.W.kia_one PySem.W.kitx_int I.kIn True.intro e (fun z => nomatch z) h
  | str y => obtain ⟨t, q⟩ := (show ∃ t, u = Value.str y t from rx); cases q; exact PySem.W.kia_one PySem.W.kitx_str I.kIn True.intro e (fun z => nomatch z) h
  | flt y => obtain ⟨t, q⟩ := (show ∃ t, u = Value.float y t from rx); cases q; exact PySem.W.kia_one PySem.W.kitx_float I.kIn True.intro e (fun z => nomatch z) h
  | @lst a xs ea =>
    cases (show u = Value.ref a from rx)
    obtain ⟨_, _, n, _, h1⟩ := (show ObjOk X.prog X.w H s.heap a (.lst xs) from I.hok a _ ea)
    exact PySem.W.kia_one PySem.W.kitx_list I.kIn ⟨_, h1, rfl⟩ e (fun z => nomatch z) h
  | @frz a ob xs ea =>
    cases (show u = Value.ref a from rx)
    obtain ⟨_, _, _, n, _, h1⟩ := (show ObjOk X.prog X.w H s.heap a (.frz ob (.lst xs)) from I.hok a _ ea)
    exact PySem.W.kia_one PySem.W.kitx_list I.kIn ⟨_, h1, rfl⟩ e (fun z => nomatch z) h
  | @tup a xs ea =>
    cases (show u = Value.ref a from rx)
    obtain ⟨_, _, _, p⟩ := (show ObjOk X.prog X.w H s.heap a (.tup xs) from I.hok a _ ea)
    obtain ⟨o, h1, h2, _⟩ := p
    exact PySem.W.kia_one PySem.W.kitx_tuple I.kIn ⟨o, h1, h2⟩ e (fun z => nomatch z) h
  | @dK a kvs ea =>
    cases (show u = Value.ref a from rx)
    obtain ⟨_, _, vs, _, p⟩ := (show ObjOk X.prog X.w H s.heap a (.dK kvs) from I.hok a _ ea)
    obtain ⟨o, es, ep, h1, h2, _⟩ := p
    exact PySem.W.kia_one PySem.W.kitx_dict I.kIn ⟨o, h1, h2.1⟩ e (fun z => nomatch z) h
  | @dT a kvs ea =>
    cases (show u = Value.ref a from rx)
    obtain ⟨_, _, xs, _, o, es, ep, h1, h2, _⟩ := (show ObjOk X.prog X.w H s.heap a (.dT kvs) from I.hok a _ ea)
    exact PySem.W.kia_one PySem.W.kitx_dict I.kIn ⟨o, h1, h2.1⟩ e (fun z => nomatch z) h
  | @ins a C dx fs ea cl ha hn htk hm =>
    cases (show u = Value.ref a from rx)
    obtain ⟨mA, O, _⟩ := ins_get I.hok ea
    obtain ⟨od, J, _⟩ := O.look
    exact PySem.W.kia_one (PySem.W.kitx_own (cl.get _) cl.hd ha hn htk hm) I.kIn J e (fun z => nomatch z) h
end
end L2
namespace L2
open PySem PySem.Spec PyProof.Rows
structure Room (k : Nat) (A : Around) : Prop where
  hd : A.handled = none
  dp : A.depth + 3 * k + 5 < recursionLimit
  un : A.units + 16 * k + 200 < cLine
theorem Room.mono {j k : Nat} {A : Around} (r : Room k A) (h : j ≤ k) : Room j A := ⟨r.hd, by have := r.dp; omega, by have := r.un; omega⟩
theorem Room.deeper {k : Nat} {A : Around} (r : Room (k + 1) A) (env : Env) : Room k (A.deeper env) :=
  ⟨r.hd, by have := r.dp; show A.depth + 1 + 3 * k + 5 < _; omega, by have := r.un; show A.units + 3 + 16 * k + 200 < _; omega⟩
theorem Room.in1 {k : Nat} {A : Around} (r : Room (k + 1) A) : Room k A.in1 :=
  ⟨r.hd, by have := r.dp; show A.depth + 3 * k + 5 < _; omega, by have := r.un; show A.units + 1 + 16 * k + 200 < _; omega⟩
theorem make_depth {A : Around} {C : Addr} {us : List Value} {kw : List (Str × Value)} : (A.under (.builtin "type.__call__" ⟨.ref C :: us, kw⟩)).depth = A.depth + 1 := by
  first | rfl | simp [Around.under, Code.weight, Code.isCreation, Code.isGuard, Code.isCaller, Code.frames, Code.isFrame, guardIds]
theorem make_units {A : Around} {C : Addr} {us : List Value} {kw : List (Str × Value)} : (A.under (.builtin "type.__call__" ⟨.ref C :: us, kw⟩)).units = A.units + 1 := by
  first | rfl | simp [Around.under, Code.cUnits, Code.frames, Code.isFrame]
theorem Room.make {k : Nat} {A : Around} (r : Room (k + 1) A) (C : Addr) (us : List Value) (kw : List (Str × Value)) : Room k (A.under (.builtin "type.__call__" ⟨.ref C :: us, kw⟩)) :=
  ⟨r.hd, by have := r.dp; rw [make_depth]; omega, by have := r.un; rw [make_units]; omega⟩
theorem Room.depth {k : Nat} {A : Around} (r : Room k A) : A.depth < recursionLimit := by have := r.dp; omega
theorem Room.units {k : Nat} {A : Around} (r : Room k A) : A.units + 64 < cLine := by have := r.un; omega
def tNil : TA := fun _ H Q => Q [] H
def tCons (ta : TE) (tr : TA) : TA := fun σ H Q => ta σ H fun x H1 => tr σ H1 fun xs H2 => Q (x :: xs) H2
section
variable {X : Cx} {e : Expr} {es : List Expr} {te : TE} {t : TA} {pos : Pos}
theorem pa_nil : PA X [] tNil := fun _ _ _ _ H Q I h => Calls.spliced_nil ⟨[], H, I, .nil, h⟩
theorem pa_cons (ha : PE X e te) (hr : PA X es t) (hs : starEach (e :: es) X.env = (false, eval e X.env) :: starEach es X.env := by rfl) : PA X (e :: es) (tCons te t) := by
  intro pos pins s σ H Q I h
  rw [hs]
  show wpAny _ _ (spliced ((false, eval e X.env) :: backTo pos (starEach es X.env))) _ _ s
  refine Calls.spliced_cons (thn (ha pins s σ H _ I h) fun u s1 ⟨x, H1, I1, r1, q1⟩ => ?_)
  exact thn (hr pos pins s1 σ H1 _ I1 q1) fun us s2 ⟨xs, H2, I2, r2, q2⟩ => ⟨x :: xs, H2, I2, .cons r1 r2, q2⟩
def tTup (t : TA) : TE := fun σ H Q => t σ H fun xs H1 => xs.length ≤ sizeLine ∧ ∀ p, H1 p = none → Q (.ref p) (upd H1 p (.tup xs))
def tLst (t : TA) : TE := fun σ H Q => t σ H fun xs H1 => xs.length ≤ sizeLine ∧ ∀ p, H1 p = none → Q (.ref p) (upd H1 p (.lst xs))
theorem pe_tup {x1} (h : PA X es t) : PE X (.Tuple es x1 pos) (tTup t) := by
  intro pins s σ H Q I hq
  refine wpAny_Tuple_spliced (thn (h pos pins s σ H _ I hq) fun us s1 ⟨xs, H1, I1, r, z, q⟩ => ⟨by rw [← r.length]; exact z, ?_⟩)
  have hf : H1 s1.heap.objs.size = none := I1.hok.fresh (Nat.le_refl _)
  refine ⟨.ref s1.heap.objs.size, upd H1 s1.heap.objs.size (.tup xs), I1.laid (t' := s1.toks) (fun b u e => Heap.get?_push_of_some _ e) (Nat.le_refl _) ?_, rfl, q _ hf⟩
  exact ⟨z, us, r, ⟨_, Heap.get?_push_size _ rfl, rfl, _, rfl⟩⟩
theorem pe_lst (h : PA X es t) : PE X (.List es pos) (tLst t) := by
  intro pins s σ H Q I hq
  refine wpAny_List_spliced (thn (h pos pins s σ H _ I hq) fun us s1 ⟨xs, H1, I1, r, z, q⟩ => ⟨by rw [← r.length]; exact z, ?_⟩)
  have hf : H1 s1.heap.objs.size = none := I1.hok.fresh (Nat.le_refl _)
  refine ⟨.ref s1.heap.objs.size, upd H1 s1.heap.objs.size (.lst xs), I1.laid (t' := s1.toks) (fun b u e => Heap.get?_push_of_some _ e) (Nat.le_refl _) ?_, rfl, q _ hf⟩
  exact ⟨z, us, 0, r, Heap.get?_push_size _ rfl⟩
end
abbrev Sp := List V → Hp → VK → XK → Prop
abbrev CXT := List Env → Hp → Shared → XK → Value → Shared → Prop
structure Env0 (P : Program) (w : World) (K : PySem.W.Frag) (mg : Str → Option Value) (base : Heap) (A : Around) (outer : List Env) (s : Shared) (H : Hp) : Prop where
  frames : A.frames = some outer
  mod : Mod K mg base
  bs : ∀ b o, base.get? b = some o → s.heap.get? b = some o ∧ H b = none
  bsz : base.objs.size ≤ s.heap.objs.size
  funs : s.heap.FunFrames base outer
  frf : ∀ b ∈ frs outer, H b = none
  hok : HOk P w H s.heap
  bare : AllBare s.gens
def CE (outer : List Env) (P : Program) (w : World) (H : Hp) (s : Shared) (Q : VK) (u : Value) (s' : Shared) : Prop :=
  ∃ v H', s'.os = s.os ∧ AllBare s'.gens ∧ Un (frs outer) [] H H' s.heap s'.heap ∧ HOk P w H' s'.heap ∧ RelV v u ∧ Q v H'
def CR (CX : CXT) (outer : List Env) (P : Program) (w : World) (H : Hp) (s : Shared) (Q : VK) (E : XK) (r : Result) (s' : Shared) : Prop :=
  match r with
  | .ok (.ret u) => CE outer P w H s Q u s'
  | .ok _ => False
  | .error e => CX outer H s E e s'
structure FnOk (P : Program) (w : World) (K : PySem.W.Frag) (mg : Str → Option Value) (base : Heap) (CX : CXT) (k : Nat) (f : Addr) (fd : FuncData) (ps : List Str) (sp : Sp) : Prop where
  len : ∀ vs H Q E, sp vs H Q E → vs.length = ps.length
  run : ∀ (A : Around) (outer : List Env) (s : Shared) (H : Hp) (args : Args) (us : List Value) (vs : List V) (Q : VK) (E : XK), Room k A → Env0 P w K mg base A outer s H → BindsTo s fd args (ps.zip us) → Vals vs us → sp vs H Q E →
    codeAny (model P w) A (.call (.ref f) args) (CR CX outer P w H s Q E) s
theorem FnOk.mono {P : Program} {w : World} {K : PySem.W.Frag} {mg : Str → Option Value} {base : Heap} {CX : CXT} {j k : Nat} {f : Addr} {fd : FuncData} {ps : List Str} {sp : Sp} (F : FnOk P w K mg base CX j f fd ps sp) (h : j ≤ k) :
    FnOk P w K mg base CX k f fd ps sp := ⟨F.len, fun A outer s H args us vs Q E hr => F.run A outer s H args us vs Q E (hr.mono h)⟩
theorem FnOk.imp {P : Program} {w : World} {K : PySem.W.Frag} {mg : Str → Option Value} {base : Heap} {CX : CXT} {k : Nat} {f : Addr} {fd : FuncData} {ps : List Str} {sp sp' : Sp} (F : FnOk P w K mg base CX k f fd ps sp)
    (h : ∀ vs H Q E, sp' vs H Q E → sp vs H Q E) : FnOk P w K mg base CX k f fd ps sp' :=
  ⟨fun vs H Q E q => F.len vs H Q E (h _ _ _ _ q), fun A outer s H args us vs Q E hr he hb hv hs => F.run A outer s H args us vs Q E hr he hb hv (h _ _ _ _ hs)⟩
theorem Env0.make {P : Program} {w : World} {K : PySem.W.Frag} {mg : Str → Option Value} {base : Heap} {A : Around} {outer : List Env} {s : Shared} {H : Hp} (e : Env0 P w K mg base A outer s H) (C : Addr) (us : List Value) (kw : List (Str × Value)) :
    Env0 P w K mg base (A.under (.builtin "type.__call__" ⟨.ref C :: us, kw⟩)) outer s H := ⟨by first | exact e.frames | (simpa [Around.under, Code.envs, Code.isFrame, pushEnvs] using e.frames), e.mod, e.bs, e.bsz, e.funs, e.frf, e.hok, e.bare⟩
theorem Env0.in1 {P : Program} {w : World} {K : PySem.W.Frag} {mg : Str → Option Value} {base : Heap} {A : Around} {outer : List Env} {s : Shared} {H : Hp} (e : Env0 P w K mg base A outer s H) :
    Env0 P w K mg base A.in1 outer s H := ⟨e.frames, e.mod, e.bs, e.bsz, e.funs, e.frf, e.hok, e.bare⟩
section
variable {X : Cx} {pins : List (Addr × Obj)} {σ : St} {H : Hp} {s s' : Shared}
theorem Inv.env0 (I : Inv X pins σ H s) : Env0 X.prog X.w X.K X.mg X.base X.A X.stack s H :=
  ⟨I.ok.frames, I.ok.mod, I.bs, Nat.le_trans I.ok.bsz I.sz, I.stack, I.stkFree, I.hok, I.bare⟩
theorem Inv.after {Q : VK} {u : Value} (I : Inv X pins σ H s) (h : CE X.stack X.prog X.w H s Q u s') : EP X pins σ Q u s' := by
  obtain ⟨v, H', os, bare, un, hok, r, q⟩ := h
  obtain ⟨hh, g, d, t, os'⟩ := s'
  obtain rfl : os' = s.os := os
  exact ⟨v, H', I.call (h' := hh) (g' := g) (d' := d) (t' := t) (ch := []) un hok bare (fun b z => absurd z (by simp)), r, q⟩
end
def tCall (sp : Sp) (dvs : List V) (E : XK) (t : TA) : TE := fun σ H Q => t σ H fun vs H1 => sp (vs ++ dvs) H1 Q E
def tMake (C : Addr) (sp : Sp) (dvs : List V) (E : XK) (t : TA) : TE := fun σ H Q => t σ H fun vs H1 => ∀ x dx, H1 x = none → H1 dx = none → dx ≠ x →
  sp (.ref x :: (vs ++ dvs)) (upd (upd H1 dx (.own x)) x (.ins C dx [])) (fun v H2 => v = .non ∧ Q (.ref x) H2) E
def Binds (K : PySem.W.Frag) (fd : FuncData) (ps : List Str) (ds : List Value) : Prop :=
  ∀ (s : Shared) (us : List Value), K.In s.heap → (us ++ ds).length = ps.length → BindsTo s fd ⟨us, []⟩ (ps.zip (us ++ ds))
theorem Binds.all {K : PySem.W.Frag} {fd : FuncData} {ps : List Str} (h : ∀ us : List Value, us.length = ps.length → bindArgs fd ⟨us, []⟩ = pure (ps.zip us)) : Binds K fd ps [] := fun s us _ hl => by
  rw [List.append_nil] at hl ⊢
  exact .of_eq (h us hl)
def Passes (CX : CXT) (X : Cx) (E : XK) : Prop := ∀ (pins : List (Addr × Obj)) (σ : St) (H : Hp) (s : Shared) (e : Value) (s' : Shared), Inv X pins σ H s → CX X.stack H s E e s' → X.xe e s'
section
variable {X : Cx} {CX : CXT} {k : Nat} {f C : Addr} {fd : FuncData} {ps : List Str} {sp : Sp} {dvs : List V} {ds : List Value} {E : XK} {x m : Str} {p pos apos : Pos} {e o : Expr} {es : List Expr} {ta : TE} {t : TA}
theorem run_fn {pins : List (Addr × Obj)} {σ : St} {H : Hp} {s : Shared} {Q : VK} {us : List Value} {vs : List V} (F : FnOk X.prog X.w X.K X.mg X.base CX k f fd ps sp) (hr : Room k X.A) (hb : Binds X.K fd ps ds) (hd : Vals dvs ds) (hx : Passes CX X E)
    (I : Inv X pins σ H s) (r : Vals vs us) (h : sp (vs ++ dvs) H Q E) : wpAny (model X.prog X.w) X.A (call (.ref f) us) (EP X pins σ Q) X.xe s := by
  have r2 : Vals (vs ++ dvs) (us ++ ds) := r.append hd
  have hl : (us ++ ds).length = ps.length := by rw [← r2.length]; exact F.len _ _ _ _ h
  refine wpAny_call (codeAny_mono (F.run X.A X.stack s H ⟨us, []⟩ (us ++ ds) (vs ++ dvs) Q E hr I.env0 (hb s us I.kIn hl) r2 h) fun r s' hq => ?_)
  cases r with
  | error e => exact hx pins σ H s e s' I hq
  | ok fl =>
    cases fl with
    | ret u => exact I.after hq
    | next => exact False.elim hq
    | brk => exact False.elim hq
    | cont => exact False.elim hq
theorem pe_call (F : FnOk X.prog X.w X.K X.mg X.base CX k f fd ps sp) (hr : Room k X.A) (hg : Gl X x) (hm : X.mg x = some (.ref f)) (hk : PySem.W.keepIn X.K (.ref f) = true) (hb : Binds X.K fd ps ds) (hd : Vals dvs ds) (hx : Passes CX X E)
    (ha : PA X (e :: es) t) (hdb : (x == ("__debug__" : Str)) = false := by decide) (he : starEach (e :: es) X.env = (false, eval e X.env) :: starEach es X.env := by rfl) (hpl : (backTo pos (starEach es X.env)).any (·.1) = false := by rfl) :
    PE X (.Call (.Name x p) (e :: es) [] pos) (tCall sp dvs E t) := by
  intro pins s σ H Q I h
  refine wpAny_Call_Name_kw (ld_glob I hg hm ?_ hdb)
  refine PySem.W.callWith_K (h₀ := X.base) I.ok.mod.kin hk (thn (ha pos pins s σ H _ I h) fun us s1 ⟨vs, H1, I1, r, q⟩ => ⟨I1.kIn, ?_⟩) he hpl
  exact run_fn F hr hb hd hx I1 r q
structure Mk (K : PySem.W.Frag) (C f : Addr) : Prop where
  makes : PySem.W.makesIn K C = true
  init : PySem.W.findIn K (.ref C) "__init__" = some (some (.ref f))
  fn : PySem.W.isFn K (.ref f) = true
  kp : PySem.W.keepIn K (.ref C) = true
theorem run_make {pins : List (Addr × Obj)} {σ : St} {H : Hp} {s : Shared} {Q : VK} {us : List Value} {vs : List V} (M : Mk X.K C f) (F : FnOk X.prog X.w X.K X.mg X.base CX k f fd ps sp) (hr : Room (k + 1) X.A) (hb : Binds X.K fd ps ds) (hd : Vals dvs ds)
    (hx : Passes CX X E) (I : Inv X pins σ H s) (r : Vals vs us)
    (h : ∀ x dx, H x = none → H dx = none → dx ≠ x → sp (.ref x :: (vs ++ dvs)) (upd (upd H dx (.own x)) x (.ins C dx [])) (fun v H2 => v = .non ∧ Q (.ref x) H2) E) :
    wpAny (model X.prog X.w) X.A (call (.ref C) us) (EP X pins σ Q) X.xe s := by
  have hq := h (s.heap.objs.size + 1) s.heap.objs.size (I.hok.fresh (Nat.le_succ _)) (I.hok.fresh (Nat.le_refl _)) (Nat.ne_of_lt (Nat.lt_succ_self _))
  have I2 := Inv.made (C := C) I
  have r2 : Vals (V.ref (s.heap.objs.size + 1) :: (vs ++ dvs)) (Value.ref (s.heap.objs.size + 1) :: (us ++ ds)) := .cons rfl (r.append hd)
  have hl : (Value.ref (s.heap.objs.size + 1) :: us ++ ds).length = ps.length := by
    have e := r2.length
    rw [F.len _ _ _ _ hq] at e
    exact e.symm
  refine wpAny_call (make_map (f := f) I.kIn M.makes M.init (beq_iff_eq.mp M.fn) (codeAny_mono (F.run _ X.stack _ _ ⟨Value.ref (s.heap.objs.size + 1) :: us, []⟩ (Value.ref (s.heap.objs.size + 1) :: (us ++ ds)) _ _ E (hr.make C us [])
    (I2.env0.make C us []) (hb _ (Value.ref (s.heap.objs.size + 1) :: us) I2.kIn hl) r2 hq) fun r s' hq' => ?_))
  cases r with
  | error e => exact hx pins σ _ _ e s' I2 hq'
  | ok fl =>
    cases fl with
    | ret u =>
      obtain ⟨v, H', I3, rv, ev, q3⟩ := I2.after hq'
      subst ev
      exact ⟨rv, ⟨V.ref (s.heap.objs.size + 1), H', I3, rfl, q3⟩⟩
    | next => exact False.elim hq'
    | brk => exact False.elim hq'
    | cont => exact False.elim hq'
theorem pe_make (M : Mk X.K C f) (F : FnOk X.prog X.w X.K X.mg X.base CX k f fd ps sp) (hr : Room (k + 1) X.A) (hg : Gl X x) (hm : X.mg x = some (.ref C)) (hb : Binds X.K fd ps ds) (hd : Vals dvs ds) (hx : Passes CX X E)
    (ha : PA X (e :: es) t) (hdb : (x == ("__debug__" : Str)) = false := by decide) (he : starEach (e :: es) X.env = (false, eval e X.env) :: starEach es X.env := by rfl) (hpl : (backTo pos (starEach es X.env)).any (·.1) = false := by rfl) :
    PE X (.Call (.Name x p) (e :: es) [] pos) (tMake C sp dvs E t) := by
  intro pins s σ H Q I h
  refine wpAny_Call_Name_kw (ld_glob I hg hm ?_ hdb)
  refine PySem.W.callWith_K (h₀ := X.base) I.ok.mod.kin M.kp (thn (ha pos pins s σ H _ I h) fun us s1 ⟨vs, H1, I1, r, q⟩ => ⟨I1.kIn, ?_⟩) he hpl
  exact run_make M F hr hb hd hx I1 r q
end
section
variable {X : Cx} {CX : CXT} {k : Nat} {f C : Addr} {fd : FuncData} {ps ks : List Str} {sp : Sp} {E : XK} {x m : Str} {p pos apos kpos : Pos} {e o : Expr} {es : List Expr} {kws : List Keyword} {te ta : TE} {t tk : TA} {nm : Option Str}
structure KBinds (K : PySem.W.Frag) (fd : FuncData) (ps ks : List Str) (g : List Value → List Value → List Value) (gV : List V → List V → List V) : Prop where
  to : ∀ (s : Shared) (us ws : List Value), K.In s.heap → (g us ws).length = ps.length → BindsTo s fd ⟨us, ks.zip ws⟩ (ps.zip (g us ws))
  rel : ∀ {vs : List V} {us : List Value} {zs : List V} {ws : List Value}, Vals vs us → Vals zs ws → Vals (gV vs zs) (g us ws)
variable {g : List Value → List Value → List Value} {gV : List V → List V → List V}
end
structure FnScope (N P : List Str) (sc : Scope) : Prop where
  kind : sc.kind = .function
  co : sc.isCoroutine = false
  gen : sc.isGenerator = false
  nd : N.Nodup
  pre : N.take P.length = P
  par : ∀ x ∈ P, sc.names.lookup x = some .local ∨ sc.names.lookup x = some .cell
  nofree : ∀ y ∈ sc.names, y.2 ≠ .free
theorem bindL_out {kindOf : Str → Option NameKind} {x : Str} : ∀ {binds : List (Str × Value)} {m : Str → Option Value}, (∀ v, (x, v) ∉ binds) → bindL kindOf binds m x = m x
  | [], _, _ => rfl
  | (n, v) :: r, m, h => by
    unfold bindL
    rw [bindL_out fun w hw => h w (List.mem_cons_of_mem _ hw)]
    split
    · have : x ≠ n := by rintro rfl; exact h v List.mem_cons_self
      simp [this]
    · rfl
theorem bindC_out {kindOf : Str → Option NameKind} {x : Str} : ∀ {binds : List (Str × Value)} {m : Str → Option Value}, (∀ v, (x, v) ∉ binds) → bindC kindOf binds m x = m x
  | [], _, _ => rfl
  | (n, v) :: r, m, h => by
    unfold bindC
    rw [bindC_out fun w hw => h w (List.mem_cons_of_mem _ hw)]
    split
    · rfl
    · have : x ≠ n := by rintro rfl; exact h v List.mem_cons_self
      simp [this]
theorem bindL_get {kindOf : Str → Option NameKind} {x : Str} {v : Value} : ∀ {P : List Str} {vs : List Value} {i : Nat} {m : Str → Option Value}, P.Nodup → P[i]? = some x → vs[i]? = some v → kindOf x = some .local →
    bindL kindOf (P.zip vs) m x = some v
  | [], _, _, _, _, h, _, _ => by simp at h
  | _ :: _, [], _, _, _, _, h, _ => by simp at h
  | p :: P, w :: vs, 0, m, nd, h1, h2, hk => by
    simp at h1 h2; subst h1; subst h2
    show bindL kindOf ((p, w) :: P.zip vs) m p = _
    unfold bindL
    rw [bindL_out fun v hv => (List.nodup_cons.mp nd).1 (List.of_mem_zip hv).1, if_pos hk]
    simp
  | p :: P, w :: vs, i + 1, m, nd, h1, h2, hk => by
    show bindL kindOf ((p, w) :: P.zip vs) m x = _
    unfold bindL
    exact bindL_get (i := i) (List.nodup_cons.mp nd).2 (by simpa using h1) (by simpa using h2) hk
theorem bindC_get {kindOf : Str → Option NameKind} {x : Str} {v : Value} : ∀ {P : List Str} {vs : List Value} {i : Nat} {m : Str → Option Value}, P.Nodup → P[i]? = some x → vs[i]? = some v → kindOf x ≠ some .local →
    bindC kindOf (P.zip vs) m x = some v
  | [], _, _, _, _, h, _, _ => by simp at h
  | _ :: _, [], _, _, _, _, h, _ => by simp at h
  | p :: P, w :: vs, 0, m, nd, h1, h2, hk => by
    simp at h1 h2; subst h1; subst h2
    show bindC kindOf ((p, w) :: P.zip vs) m p = _
    unfold bindC
    rw [bindC_out fun v hv => (List.nodup_cons.mp nd).1 (List.of_mem_zip hv).1, if_neg hk]
    simp
  | p :: P, w :: vs, i + 1, m, nd, h1, h2, hk => by
    show bindC kindOf ((p, w) :: P.zip vs) m x = _
    unfold bindC
    exact bindC_get (i := i) (List.nodup_cons.mp nd).2 (by simpa using h1) (by simpa using h2) hk
def start (N : List Str) (vs : List V) : St := vs.map some ++ List.replicate (N.length - vs.length) none
def cxOf (CX : CXT) (P : Program) (w : World) (K : PySem.W.Frag) (mg : Str → Option Value) (base : Heap) (N : List Str) (qual : Str) (scope : Scope) (f : Addr) (cd : Value) (A : Around) (outer : List Env) (s : Shared) (H : Hp) (E : XK) : Cx where
  prog := P
  w := w
  K := K
  mg := mg
  base := base
  A := A.deeper (envOfC qual scope s.heap.objs.size f cd)
  N := N
  s₀ := s
  H₀ := H
  env := envOfC qual scope s.heap.objs.size f cd
  outer := outer
  stack := envOfC qual scope s.heap.objs.size f cd :: outer
  ex := []
  calm := true
  fn := fun _ => true
  pn := []
  xe := fun e s' => wpAny (model P w) (A.deeper (envOfC qual scope s.heap.objs.size f cd)) (leaving (envOfC qual scope s.heap.objs.size f cd) e) (fun _ s'' => CX outer H s E e s'') (fun e' s'' => CX outer H s E e' s'') s'
theorem cell_has {sc : Scope} {n : Nat} {x : Str} (h : sc.names.lookup x = some .cell) : ∃ c, (cellsFrom n sc.names []).lookup x = some c := by
  have q := PySem.W.cellsFrom_some sc.names n [] (.inl h)
  exact Option.isSome_iff_exists.mp q
theorem inv_start {CX : CXT} {P : Program} {w : World} {K : PySem.W.Frag} {mg : Str → Option Value} {base : Heap} {N ps : List Str} {qual : Str} {scope : Scope} {f : Addr} {cd : Value} {A : Around} {outer : List Env} {s s1 : Shared} {H : Hp} {E : XK} {us : List Value} {vs : List V}
    (S : FnScope N ps scope) (hd : A.handled = none) (e0 : Env0 P w K mg base A outer s H) (hl : vs.length = ps.length) (r : Vals vs us)
    (x : InCallC s s.heap.objs.size (bindL (envOfC qual scope s.heap.objs.size f cd).kindOf (ps.zip us) fun _ => none) (cellsFrom (s.heap.objs.size + 1) scope.names []) (bindC (envOfC qual scope s.heap.objs.size f cd).kindOf (ps.zip us) fun _ => none) s1) :
    Inv (cxOf CX P w K mg base N qual scope f cd A outer s H E) [] (start N vs) H s1 := by
  have hpl : ps.length ≤ N.length := by have := congrArg List.length S.pre; rw [List.length_take] at this; omega
  obtain ⟨h1, tk, rfl, hk⟩ := x.done
  have noA : ∀ b : Addr, b ∉ (cxOf CX P w K mg base N qual scope f cd A outer s H E).ex := fun b z => absurd (show b ∈ ([] : List Addr) from z) (by simp)
  refine ⟨⟨e0.mod, S.kind, rfl, rfl, Nat.le_refl _, fun y z c h1 h2 => ?_, fun y hy => ?_, fun y c _ h => ?_, fun _ => hd, Around.frames_deeper e0.frames, .inr ⟨rfl, rfl⟩, fun b z => absurd z (noA b), e0.bs, e0.bsz, fun b _ _ => noA b, fun b z => absurd z (noA b), e0.funs, e0.frf⟩,
    rfl, e0.bare, Un.kept hk, ⟨_, x.toInCall.ns, fun i y v h1 h2 h3 => ?_⟩, fun y c h => ⟨_, x.cell y c h⟩, e0.hok.fresh (Nat.le_refl _), fun y c h => ?_, fun p hp => absurd (show p ∈ ([] : List (Addr × Obj)) from hp) (by simp), e0.hok.kept hk, ?_⟩
  · exact name_of_addr x.apart (PySem.mem_of_lookup h1) (PySem.mem_of_lookup h2)
  · have hy : scope.names.lookup y = some .cell ∨ scope.names.lookup y = some .free := hy
    rcases hy with hy | hy
    · exact cell_has hy
    · exact absurd rfl (S.nofree _ (PySem.mem_of_lookup hy))
  · exact Nat.le_of_lt (x.above y c (PySem.mem_of_lookup h))
  · have hi : i < vs.length := by
      unfold start at h2
      by_cases hi : i < vs.length
      · exact hi
      · rw [List.getElem?_append_right (by simpa using hi)] at h2
        rw [List.getElem?_replicate] at h2
        split at h2 <;> cases h2
    have ha : vs[i]? = some v := by
      unfold start at h2
      rw [List.getElem?_append_left (by simpa using hi), List.getElem?_map] at h2
      cases e : vs[i]? with
      | none => rw [e] at h2; cases h2
      | some a => rw [e] at h2; cases h2; rfl
    obtain ⟨u, hu, rv⟩ := r.get ha
    have hp : ps[i]? = some y := by
      rw [← S.pre, List.getElem?_take_of_lt (by omega)]; exact h1
    have ndP : ps.Nodup := by rw [← S.pre]; exact S.nd.sublist (List.take_sublist _ _)
    refine ⟨u, rv, ?_⟩
    rcases S.par y (List.mem_of_getElem? hp) with k | k
    · exact .inl ⟨k, bindL_get ndP hp hu k⟩
    · obtain ⟨c, e⟩ := cell_has (n := s.heap.objs.size + 1) k
      refine .inr ⟨.inl k, c, e, ?_⟩
      have q := x.cell y c e
      rw [bindC_get ndP hp hu (by show scope.names.lookup y ≠ _; rw [k]; decide)] at q
      exact q
  · exact e0.hok.fresh (Nat.le_of_lt (x.above y c (PySem.mem_of_lookup h)))
  · unfold start
    show _ = N.length
    rw [List.length_append, List.length_map, List.length_replicate]
    omega
theorem fn_of {CX : CXT} {P : Program} {w : World} {K : PySem.W.Frag} {mg : Str → Option Value} {base : Heap} {k : Nat} {f : Addr} {name qual : Str} {params : Arguments} {body : List Stmt} {scope : Scope} {dV kV doc pm cdv ct oc : Value} {an od : Option Addr}
    {osl : Array (Option Value)} {N ps : List Str} {sp : Sp} (lk : K.lookup f = some ⟨oc, od, .func (PySem.W.fnOf name qual params body scope dV kV doc pm an cdv ct), osl⟩) (hcd : PySem.W.codeIn K cdv qual = true) (S : FnScope N ps scope)
    (len : ∀ vs H Q E, sp vs H Q E → vs.length = ps.length)
    (hbody : ∀ (A : Around) (outer : List Env) (s : Shared) (H : Hp) (vs : List V) (Q : VK) (E : XK), Room k (A.deeper (envOfC qual scope s.heap.objs.size f cdv)) → sp vs H Q E →
      ∃ t, PSs (cxOf CX P w K mg base N qual scope f cdv A outer s H E) body t ∧ t { nx := fun _ H' => Q .non H', rt := Q } (start N vs) H) :
    FnOk P w K mg base CX (k + 1) f (PySem.W.fnOf name qual params body scope dV kV doc pm an cdv ct) ps sp := by
  refine ⟨len, fun A outer s H args us vs Q E hr e0 hb r hsp => ?_⟩
  have hl := len _ _ _ _ hsp
  have KX : K.In s.heap := e0.mod.kin.keeps fun b o e => (e0.bs b o e).1
  have lim : s.heap.NoLimit := e0.mod.nolimit.keeps fun b o e => (e0.bs b o e).1
  have hkind : ∀ y ∈ ps.zip us, scope.names.lookup y.1 = some .local ∨ (scope.names.lookup y.1 = some .cell ∧ ((cellsFrom (s.heap.objs.size + 1) scope.names []).lookup y.1).isSome = true) := fun ⟨n, v⟩ hy => by
    rcases S.par n (List.of_mem_zip hy).1 with q | q
    · exact .inl q
    · exact .inr ⟨q, PySem.W.cellsFrom_some _ _ _ (.inl q)⟩
  refine codeAny_call_function hr.depth (KX _ _ lk) rfl S.co S.gen rfl (PySem.W.codeRec_of KX hcd) (hb _ _ _ _ ?_)
  refine wpAny_newFunctionEnv_cells S.kind hkind fun env he s1 x => ?_
  subst he
  refine ⟨lim.keeps x.toInCall.keep, codeAny_func ?_⟩
  obtain ⟨t, ht, hq⟩ := hbody A outer s H vs Q E (hr.deeper _) hsp
  have I : Inv (cxOf CX P w K mg base N qual scope f cdv A outer s H E) [] (start N vs) H s1 := inv_start S hr.hd e0 hl r x
  refine wpAny_mono (ht [] s1 (start N vs) H _ I hq) (fun fl s' hs => ?_) fun e s' hs => hs
  have fin : ∀ {σ' : St} {H' : Hp} {v : V} {u : Value}, Inv (cxOf CX P w K mg base N qual scope f cdv A outer s H E) [] σ' H' s' → RelV v u → Q v H' → CE outer P w H s Q u s' :=
    fun {σ' H' v u} J rv q => ⟨v, H', J.os, J.bare, J.base, J.hok, rv, q⟩
  cases fl with
  | ret u =>
    obtain ⟨v, σ', H', J, rv, q⟩ := hs
    exact fin J rv q
  | next =>
    obtain ⟨σ', H', J, q⟩ := hs
    exact fin (v := V.non) (u := Value.none) J rfl q
  | brk =>
    obtain ⟨_, _, _, q⟩ := hs
    exact False.elim q
  | cont =>
    obtain ⟨_, _, _, q⟩ := hs
    exact False.elim q
end L2
namespace L2
open PySem PySem.Spec PyProof.Rows
section
variable {X : Cx} {x : Str} {p pos : Pos} {e : Expr} {es : List Expr} {t : TA} {id T : String} {r : List V → Hp → VK → Prop}
def tCB (r : List V → Hp → VK → Prop) (t : TA) : TE := fun σ H Q => t σ H fun vs H1 => r vs H1 Q
theorem pe_callB (hc : CallR X (.builtin id) r) (hg : Gl X x) (hm : X.mg x = none) (hv : bootBuiltins x = some (.builtin id)) (ha : PA X (e :: es) t) (hn : x ≠ "__name__" := by decide) (hdb : (x == ("__debug__" : Str)) = false := by decide)
    (he : starEach (e :: es) X.env = (false, eval e X.env) :: starEach es X.env := by rfl) (hpl : (backTo pos (starEach es X.env)).any (·.1) = false := by rfl) : PE X (.Call (.Name x p) (e :: es) [] pos) (tCB r t) := by
  intro pins s σ H Q I h
  refine wpAny_Call_Name_kw (ld_blt I hg hm hv ?_ hn hdb)
  exact PyProof.Rows.callWith_builtin1 (thn (ha pos pins s σ H _ I h) fun us s1 ⟨vs, H1, I1, r1, q1⟩ => hc pins s1 σ H1 vs us Q I1 r1 q1) he hpl
theorem pe_callTy (hc : CallR X (.type T) r) (hg : Gl X x) (hm : X.mg x = none) (hv : bootBuiltins x = some (.type T)) (ha : PA X (e :: es) t) (hn : x ≠ "__name__" := by decide) (hdb : (x == ("__debug__" : Str)) = false := by decide)
    (he : starEach (e :: es) X.env = (false, eval e X.env) :: starEach es X.env := by rfl) (hpl : (backTo pos (starEach es X.env)).any (·.1) = false := by rfl) : PE X (.Call (.Name x p) (e :: es) [] pos) (tCB r t) := by
  intro pins s σ H Q I h
  refine wpAny_Call_Name_kw (ld_blt I hg hm hv ?_ hn hdb)
  exact PyProof.Rows.callWith_type1 (thn (ha pos pins s σ H _ I h) fun us s1 ⟨vs, H1, I1, r1, q1⟩ => hc pins s1 σ H1 vs us Q I1 r1 q1) he hpl
end
end L2
namespace HT
open PySem PyProof.Rows
section
open PySem.SeqAt
open PySem.AutoSeq1 (wpAny_loadPart')
open PySem.MeetsSeq PySem.MeetsSeq2 PySem.MeetsSeq3
end
section
variable {prog : Program} {w : World} {A : Around} {E : Value → Shared → Prop} {s : Shared}
def sIx (n d : Nat) : Option Int → Nat
  | none => d
  | some v => if v < 0 then (v + (n : Int)).toNat else min v.toNat n
end
end HT
namespace L2
open PySem PySem.Spec PyProof.Rows
abbrev TO := St → Hp → (Option Int → Hp → Prop) → Prop
def PO (X : Cx) (e : Option Expr) (t : TO) : Prop :=
  ∀ (pins : List (Addr × Obj)) (s : Shared) (σ : St) (H : Hp) (Q : Option Int → Hp → Prop), Inv X pins σ H s → t σ H Q →
    wpAny (model X.prog X.w) X.A (evalPart e X.env) (fun u s' => ∃ o H', Inv X pins σ H' s' ∧ IsPart u o ∧ Q o H') X.xe s
def tNoPart : TO := fun _ H Q => Q none H
def tPart (t : TE) : TO := fun σ H Q => t σ H fun x H1 => ∃ i, x = .int i ∧ Q (some i) H1
section
variable {X : Cx} {e : Expr} {te : TE} {lo hi : Option Expr} {tl th : TO} {pos p2 : Pos}
theorem po_none : PO X none tNoPart := by
  intro pins s σ H Q I h
  rw [evalPart_none]
  exact wpAny_pure ⟨none, H, I, .none, h⟩
theorem po_some (h : PE X e te) : PO X (some e) (tPart te) := by
  intro pins s σ H Q I hw
  rw [evalPart_some]
  refine thn (h pins s σ H _ I hw) fun u s1 ⟨x, H1, I1, r1, q1⟩ => ?_
  obtain ⟨i, rfl, q⟩ := q1
  obtain ⟨t, rfl⟩ := r1
  exact ⟨some i, H1, I1, .int i t, q⟩
def SlR (X : Cx) (r : V → Option Int → Option Int → Hp → VK → Prop) : Prop :=
  ∀ (pins : List (Addr × Obj)) (s : Shared) (σ : St) (H : Hp) (x : V) (v vl vu : Value) (lo hi : Option Int) (sl : Addr) (Q : VK), Inv X pins σ H s → RelV x v → s.heap.IsSliceOf sl vl vu .none → IsPart vl lo → IsPart vu hi → r x lo hi H Q →
    ∃ T id, typeLookup (.type T) "__getitem__" = pure (some (.builtin id)) ∧ s.TypeIs v T ∧ wpAny (model X.prog X.w) X.A (getItem v (.ref sl)) (EP X pins σ Q) X.xe s
theorem SlR.or {r r' : V → Option Int → Option Int → Hp → VK → Prop} (h : SlR X r) (h' : SlR X r') : SlR X (fun x lo hi H Q => r x lo hi H Q ∨ r' x lo hi H Q) := by
  intro pins s σ H x v vl vu lo hi sl Q I rx hs pl pu q
  rcases q with q | q
  · exact h pins s σ H x v vl vu lo hi sl Q I rx hs pl pu q
  · exact h' pins s σ H x v vl vu lo hi sl Q I rx hs pl pu q
def tSl (r : V → Option Int → Option Int → Hp → VK → Prop) (te : TE) (tl th : TO) : TE := fun σ H Q => te σ H fun x H1 => tl σ H1 fun l H2 => th σ H2 fun u H3 => r x l u H3 Q
theorem pe_slice {r : V → Option Int → Option Int → Hp → VK → Prop} (hr : SlR X r) (he : PE X e te) (hl : PO X lo tl) (hu : PO X hi th) : PE X (.Subscript e (.Slice lo hi none p2) pos) (tSl r te tl th) := by
  intro pins s σ H Q I h
  refine Subscript_ (thn (he pins s σ H _ I h) fun v s1 ⟨x, H1, I1, r1, q1⟩ => ?_)
  refine wpAny_Slice (thn (hl pins s1 σ H1 _ I1 q1) fun vl s2 ⟨l, H2, I2, pl, q2⟩ => thn (hu pins s2 σ H2 _ I2 q2) fun vu s3 ⟨u, H3, I3, pu, q3⟩ => ?_)
  rw [evalPart_none]
  refine wpAny_pure ?_
  have I4 : Inv X pins σ H3 { s3 with heap := s3.heap.push { cls := .type "slice", data := .fields #[vl, vu, .none] } } := I3.kept (t' := s3.toks) fun b ob q => Heap.get?_push_of_some _ q
  obtain ⟨T, id, hT, ht, hg⟩ := hr pins { s3 with heap := s3.heap.push { cls := .type "slice", data := .fields #[vl, vu, .none] } } σ H3 x v vl vu l u s3.heap.objs.size Q I4 r1 (Heap.IsSliceOf.new ..) pl pu q3
  show wpAny (model X.prog X.w) X.A (subscriptTail e (.Slice lo hi none p2) v (.ref s3.heap.objs.size)) (EP X pins σ Q) X.xe { s3 with heap := s3.heap.push { cls := .type "slice", data := .fields #[vl, vu, .none] } }
  exact tail_any (ops := [.ref s3.heap.objs.size, v]) ht hT hg (by with_unfolding_all rfl)
def cutV (xs : List V) (lo hi : Option Int) : List V := (xs.drop (HT.sIx xs.length 0 lo)).take (HT.sIx xs.length xs.length hi - HT.sIx xs.length 0 lo)
theorem cutV_length (xs : List V) (lo hi : Option Int) : (cutV xs lo hi).length ≤ xs.length := by
  unfold cutV
  rw [List.length_take, List.length_drop]
  omega
end
end L2
namespace L2
open PySem PySem.Spec PyProof.Rows
def ixN (n : Nat) (i : Int) : Option Nat := if 0 ≤ i then (if i < n then some i.toNat else none) else if -(n : Int) ≤ i then some (i + n).toNat else none
def atI {α : Type} (xs : List α) (i : Int) : Option α := (ixN xs.length i).bind fun j => xs[j]?
theorem ixN_seq {n : Nat} {i : Int} {j : Nat} (h : ixN n i = some j) : seqIndex? i n = some j ∧ j < n ∧ -(n : Int) ≤ i ∧ i < n := by
  unfold ixN at h
  by_cases h0 : 0 ≤ i
  · rw [if_pos h0] at h
    by_cases h1 : i < n
    · rw [if_pos h1] at h
      have e : i.toNat = j := Option.some.inj h
      exact ⟨by rw [seqIndex_of h0 h1, e], by omega, by omega, h1⟩
    · rw [if_neg h1] at h; cases h
  · rw [if_neg h0] at h
    by_cases h1 : -(n : Int) ≤ i
    · rw [if_pos h1] at h
      have e : (i + n).toNat = j := Option.some.inj h
      exact ⟨by rw [seqIndex_neg (by omega) h1, e], by omega, h1, by omega⟩
    · rw [if_neg h1] at h; cases h
theorem atI_get {α : Type} {xs : List α} {i : Int} {v : α} (h : atI xs i = some v) : ∃ j, seqIndex? i xs.length = some j ∧ xs[j]? = some v ∧ j < xs.length ∧ -(xs.length : Int) ≤ i ∧ i < xs.length := by
  unfold atI at h
  cases e : ixN xs.length i with
  | none => rw [e] at h; cases h
  | some j =>
    rw [e] at h
    obtain ⟨h1, h2, h3, h4⟩ := ixN_seq e
    exact ⟨j, h1, h, h2, h3, h4⟩
theorem atI_nat {α : Type} {xs : List α} {j : Nat} {v : α} (h : xs[j]? = some v) : atI xs (j : Int) = some v := by
  have hj : j < xs.length := (List.getElem?_eq_some_iff.mp h).1
  have e : ixN xs.length (j : Int) = some j := by
    unfold ixN
    rw [if_pos (by omega), if_pos (by omega)]; simp
  unfold atI; rw [e]; exact h
def PlainIx (b : Expr) : Prop := ∀ o i, subscripted b false o i = operate [o, i] (getItem o i)
def IxR (X : Cx) (r : R2) : Prop :=
  ∀ (value slice : Expr) (pins : List (Addr × Obj)) (s : Shared) (σ : St) (H : Hp) (x y : V) (v u : Value) (Q : VK), Inv X pins σ H s → RelV x v → RelV y u → r x y H Q →
    subscripted slice false v u = operate [v, u] (getItem v u) → wpAny (model X.prog X.w) X.A (subscriptTail value slice v u) (EP X pins σ Q) X.xe s
def MtR (X : Cx) (id : String) (r : V → List V → Hp → VK → Prop) : Prop :=
  ∀ (pins : List (Addr × Obj)) (s : Shared) (σ : St) (H : Hp) (x : V) (xs : List V) (v : Value) (us : List Value) (Q : VK), Inv X pins σ H s → RelV x v → Vals xs us → r x xs H Q →
    wpAny (model X.prog X.w) X.A (call (.builtin id) (v :: us)) (EP X pins σ Q) X.xe s
section
variable {X : Cx} {a b : Expr} {ta tb : TE} {pos : Pos}
theorem IxR.or {r r' : R2} (h : IxR X r) (h' : IxR X r') : IxR X (fun x y H Q => r x y H Q ∨ r' x y H Q) := by
  intro value slice pins s σ H x y v u Q I rx ry q hs
  rcases q with q | q
  · exact h value slice pins s σ H x y v u Q I rx ry q hs
  · exact h' value slice pins s σ H x y v u Q I rx ry q hs
theorem MtR.or {id : String} {r r' : V → List V → Hp → VK → Prop} (h : MtR X id r) (h' : MtR X id r') : MtR X id (fun x xs H Q => r x xs H Q ∨ r' x xs H Q) := by
  intro pins s σ H x xs v us Q I rx rs q
  rcases q with q | q
  · exact h pins s σ H x xs v us Q I rx rs q
  · exact h' pins s σ H x xs v us Q I rx rs q
theorem pe_ix {r : R2} (hr : IxR X r) (ha : PE X a ta) (hb : PE X b tb) (hs : PlainIx b) : PE X (.Subscript a b pos) (tOp r ta tb) := by
  intro pins s σ H Q I h
  exact Subscript_ (binT ha hb I h fun v u s2 x y H2 I2 rx ry q => hr a b pins s2 σ H2 x y v u Q I2 rx ry q (hs _ _))
def rIxL (K : PySem.W.Frag) : R2 := fun x y H Q => ∃ p xs i v, x = .ref p ∧ y = .int i ∧ SqL K H p xs ∧ atI xs i = some v ∧ Q v H
def rIxT (K : PySem.W.Frag) : R2 := fun x y H Q => ∃ p xs i v, x = .ref p ∧ y = .int i ∧ SqT K H p xs ∧ atI xs i = some v ∧ Q v H
theorem ix_list : IxR X (rIxL X.K) := by
  intro value slice pins s σ H x y v u Q I rx ry h hs
  obtain ⟨p, xs, i, z, rfl, rfl, hq, he, q⟩ := h
  cases rx
  obtain ⟨t, rfl⟩ := ry
  obtain ⟨its, r, pl, hz⟩ := I.list hq
  obtain ⟨j, h1, h2, h3, h4, h5⟩ := atI_get he
  obtain ⟨w, ew, rw'⟩ := r.get h2
  have hl := r.length
  have hn := line63
  have fin : EP X pins σ Q w s := ⟨z, H, I, rw', q⟩
  by_cases h0 : 0 ≤ i
  · have hj : i.toNat = j := by
      rw [seqIndex_of h0 h5] at h1
      exact Option.some.inj h1
    exact item_listR pl.isList h0 (by omega) (by rw [hj]; simpa using ew) fin hs
  · have hj : (i + (its.toArray.size : Int)).toNat = j := by
      rw [seqIndex_neg (by omega) h4] at h1
      rw [List.size_toArray, ← hl]
      exact Option.some.inj h1
    exact subscriptTail_builtinR (x := w) pl.isList.typeIs slot_list_getitem.lookup
      (wpAny_getItem_list_neg (Q := fun r s' => r = w ∧ EP X pins σ Q r s') pl.isList (by omega) (by rw [List.size_toArray] <;> omega) (by omega) (by rw [hj]; simpa using ew) ⟨rfl, fin⟩) hs
theorem ix_tup : IxR X (rIxT X.K) := by
  intro value slice pins s σ H x y v u Q I rx ry h hs
  obtain ⟨p, xs, i, z, rfl, rfl, hq, he, q⟩ := h
  cases rx
  obtain ⟨t, rfl⟩ := ry
  obtain ⟨its, r, pl, hz⟩ := I.tuple hq
  obtain ⟨j, h1, h2, h3, h4, h5⟩ := atI_get he
  obtain ⟨w, ew, rw'⟩ := r.get h2
  have hl := r.length
  have hn := line63
  have fin : EP X pins σ Q w s := ⟨z, H, I, rw', q⟩
  exact subscriptTail_builtinR (x := w) pl.typeIs slot_tuple_getitem.lookup
    (getItem_tuple (j := j) (Q := fun r s' => r = w ∧ EP X pins σ Q r s') pl (by omega) (by omega) (by rw [List.size_toArray, ← hl]; exact h1) (by simpa using ew) ⟨rfl, fin⟩) hs
theorem mapSeq_set (its : List Value) (n j : Nat) (u : Value) : Obj.mapSeq (·.setIfInBounds j u) { cls := .type "list", data := .seq its.toArray n } = { cls := .type "list", data := .seq (its.set j u).toArray n } := by
  simp [Obj.mapSeq]
theorem Inv.lst {pins : List (Addr × Obj)} {σ : St} {H : Hp} {s : Shared} {p : Addr} {xs : List V} (I : Inv X pins σ H s) (h : H p = some (.lst xs)) :
    ∃ (its : List Value) (n : Nat), Vals xs its ∧ s.heap.get? p = some { cls := .type "list", data := .seq its.toArray n } ∧ xs.length ≤ sizeLine := by
  obtain ⟨z, its, n, r, e⟩ := I.hok p _ h
  exact ⟨its, n, r, e, z⟩
theorem Inv.lstUpd {pins : List (Addr × Obj)} {σ : St} {H : Hp} {s : Shared} {p : Addr} {xs ys : List V} {its its' : List Value} {n n' : Nat} {f : Obj → Obj} (I : Inv X pins σ H s) (h : H p = some (.lst xs))
    (ho : s.heap.get? p = some { cls := .type "list", data := .seq its.toArray n }) (hf : f { cls := .type "list", data := .seq its.toArray n } = { cls := .type "list", data := .seq its'.toArray n' }) (r : Vals ys its') (hz : ys.length ≤ sizeLine) (t : Nat) :
    Inv X pins σ (upd H p (.lst ys)) { s with heap := s.heap.update p f, toks := t } := by
  have e : (s.heap.update p f).get? p = some { cls := .type "list", data := .seq its'.toArray n' } := by
    rw [Heap.get?_update_self f ho (by rw [hf] <;> rfl), hf]
  refine I.write (x := p) (e := p) (by rw [h]; trivial) (.inl rfl) (fun b u hb q => (Heap.get?_update_other _ _ (Ne.symm hb)).trans q) ⟨_, e⟩ ?_
  exact ⟨hz, its', n', r, e⟩
def rSetL : V → V → V → Hp → (Hp → Prop) → Prop := fun o i v H Q => ∃ p xs k j, o = .ref p ∧ i = .int k ∧ H p = some (.lst xs) ∧ ixN xs.length k = some j ∧ Q (upd H p (.lst (xs.set j v)))
theorem set_list : PSet X rSetL := by
  intro pins s σ H o i v ov iv u Q I ro ri rv h
  obtain ⟨p, xs, k, j, rfl, rfl, hp, hj, q⟩ := h
  cases ro
  obtain ⟨t, rfl⟩ := ri
  obtain ⟨its, n, r, ho, hz⟩ := I.lst hp
  obtain ⟨h1, h2, h3, h4⟩ := ixN_seq hj
  have hl := r.length
  have hn := line63
  have I' : Inv X pins σ (upd H p (.lst (xs.set j v))) { s with heap := s.heap.update p (Obj.mapSeq (·.setIfInBounds j u)) } :=
    I.lstUpd hp ho (mapSeq_set its n j u) (r.set rv j) (by rw [List.length_set]; exact hz) s.toks
  by_cases h0 : 0 ≤ k
  · have hk : k.toNat = j := by
      rw [seqIndex_of h0 h4] at h1
      exact Option.some.inj h1
    exact PySem.W.ki_setAt ho h0 (by omega) (by rw [List.size_toArray, ← hl]; exact h4) (by rw [hk]; exact ⟨_, I', q⟩)
  · have hk : (k + (its.toArray.size : Int)).toNat = j := by
      rw [seqIndex_neg (by omega) h3] at h1
      rw [List.size_toArray, ← hl]
      exact Option.some.inj h1
    exact PySem.W.ki_setBack ho (by omega) (by rw [List.size_toArray, ← hl]; exact h3) (by omega) (by rw [hk]; exact ⟨_, I', q⟩)
theorem slice_bounds (lo hi : Option Int) (n : Nat) : (sliceBounds lo hi none n).1 = ((HT.sIx n 0 lo : Nat) : Int) ∧ (sliceBounds lo hi none n).2.1 = ((HT.sIx n n hi : Nat) : Int) ∧ (sliceBounds lo hi none n).2.2 = 1 := by
  refine ⟨?_, ?_, rfl⟩
  · cases lo with
    | none => simp [sliceBounds, HT.sIx]
    | some i =>
      simp only [sliceBounds, HT.sIx, Option.getD_none, show (1 : Int) > 0 by decide, if_true]
      by_cases h : i < 0
      · simp only [h, if_true] <;> omega
      · simp only [h, if_false] <;> omega
  · cases hi with
    | none => simp [sliceBounds, HT.sIx]
    | some i =>
      simp only [sliceBounds, HT.sIx, Option.getD_none, show (1 : Int) > 0 by decide, if_true]
      by_cases h : i < 0
      · simp only [h, if_true] <;> omega
      · simp only [h, if_false] <;> omega
theorem slicePick_cut (its : List Value) (lo hi : Option Int) : slicePick its.toArray lo hi none = ((its.drop (HT.sIx its.length 0 lo)).take (HT.sIx its.length its.length hi - HT.sIx its.length 0 lo)).toArray := by
  obtain ⟨h1, h2, h3⟩ := slice_bounds lo hi its.toArray.size
  unfold slicePick
  rw [h1, h2, h3]
  simp only [sliceRange_one, pick_run, List.size_toArray] <;> rfl
def rSlL (K : PySem.W.Frag) : V → Option Int → Option Int → Hp → VK → Prop := fun x lo hi H Q => ∃ a xs, x = .ref a ∧ SqL K H a xs ∧ ∀ p, H p = none → Q (.ref p) (upd H p (.lst (cutV xs lo hi)))
theorem sl_list : SlR X (rSlL X.K) := by
  intro pins s σ H x v vl vu lo hi sl Q I rx hs pl pu h
  obtain ⟨a, xs, rfl, hx, q⟩ := h
  cases rx
  obtain ⟨its, r, ht, hz⟩ := I.list hx
  have hlen := r.length
  refine ⟨"list", _, slot_list_getitem.lookup, ht.isList.typeIs, ?_⟩
  refine wpAny_getItem_list_slice ht.isList hs pl pu .none (by simp) ?_ (by rw [List.size_toArray] <;> omega)
  rw [slicePick_cut, ← hlen]
  refine ⟨.ref s.heap.objs.size, _, I.laid (t' := s.toks) (o := .lst (cutV xs lo hi)) (fun b ob q => Heap.get?_push_of_some _ q) (Nat.le_refl _) ?_, rfl, q _ (I.hok.fresh (Nat.le_refl _))⟩
  exact ⟨Nat.le_trans (cutV_length xs lo hi) hz, _, 0, (r.drop (HT.sIx xs.length 0 lo)).take (HT.sIx xs.length xs.length hi - HT.sIx xs.length 0 lo), Heap.get?_push_size _ rfl⟩
def flatV : V → Bool
  | .non => true
  | .bl _ => true
  | .int _ => true
  | .str _ => true
  | _ => false
def eqV : V → V → Bool
  | .non, .non => true
  | .bl a, .bl b => a == b
  | .bl a, .int b => (if a then 1 else 0) == b
  | .int a, .bl b => a == (if b then 1 else 0)
  | .int a, .int b => a == b
  | .str a, .str b => a == b
  | _, _ => false
theorem eqAt_V {A : Around} {s : Shared} {y x : V} {u v : Value} (ry : RelV y u) (rx : RelV x v) (fy : flatV y = true) (fx : flatV x = true) : SeqAt.EqAt A s u v (eqV y x) := by
  cases y with
  | non =>
    cases ry
    cases x with
    | non => cases rx; exact SeqAt.EqAt.same _
    | bl b => cases rx; exact SeqAt.EqAt.none_bool b
    | int b => obtain ⟨t, rfl⟩ := rx; exact SeqAt.EqAt.none_int b t
    | str b => obtain ⟨t, rfl⟩ := rx; exact SeqAt.EqAt.none_str b t
    | _ => exact absurd (show false = true from fx) Bool.false_ne_true
  | bl a =>
    cases ry
    cases x with
    | non => cases rx; exact SeqAt.EqAt.bool_none a
    | bl b => cases rx; exact SeqAt.EqAt.bool_bool a b
    | int b => obtain ⟨t, rfl⟩ := rx; exact SeqAt.EqAt.bool_int a b t
    | str b => obtain ⟨t, rfl⟩ := rx; exact SeqAt.EqAt.bool_str a b t
    | _ => exact absurd (show false = true from fx) Bool.false_ne_true
  | int a =>
    obtain ⟨t', rfl⟩ := ry
    cases x with
    | non => cases rx; exact SeqAt.EqAt.int_none a t'
    | bl b => cases rx; exact SeqAt.EqAt.int_bool a t' b
    | int b => obtain ⟨t, rfl⟩ := rx; exact SeqAt.EqAt.int_int a t' b t
    | str b => obtain ⟨t, rfl⟩ := rx; exact SeqAt.EqAt.int_str a t' b t
    | _ => exact absurd (show false = true from fx) Bool.false_ne_true
  | str a =>
    obtain ⟨t', rfl⟩ := ry
    cases x with
    | non => cases rx; exact SeqAt.EqAt.str_none a t'
    | bl b => cases rx; exact SeqAt.EqAt.str_bool a t' b
    | int b => obtain ⟨t, rfl⟩ := rx; exact SeqAt.EqAt.str_int a t' b t
    | str b => obtain ⟨t, rfl⟩ := rx; exact SeqAt.EqAt.str_str a t' b t
    | _ => exact absurd (show false = true from fx) Bool.false_ne_true
  | _ => exact absurd (show false = true from fy) Bool.false_ne_true
def eqU (x : V) (u : Value) : Bool := match u with
  | .none => eqV .non x
  | .bool b => eqV (.bl b) x
  | .int i _ => eqV (.int i) x
  | .str z _ => eqV (.str z) x
  | _ => false
theorem eqU_of {x y : V} {u : Value} (r : RelV y u) (f : flatV y = true) : eqU x u = eqV y x := by
  cases y with
  | non => cases r; rfl
  | bl b => cases r; rfl
  | int i => obtain ⟨t, rfl⟩ := r; rfl
  | str z => obtain ⟨t, rfl⟩ := r; rfl
  | _ => exact absurd (show false = true from f) Bool.false_ne_true
theorem any_eqU {x : V} : ∀ {xs : List V} {us : List Value}, Vals xs us → xs.all flatV = true → us.any (eqU x) = xs.any fun y => eqV y x
  | _, _, .nil, _ => rfl
  | y :: xs, u :: us, .cons r t, f => by
    rw [List.all_cons, Bool.and_eq_true] at f
    rw [List.any_cons, List.any_cons, eqU_of r f.1, any_eqU t f.2]
theorem mem_eqAt {A : Around} {s : Shared} {x : V} {v : Value} (rx : RelV x v) (fx : flatV x = true) : ∀ {xs : List V} {us : List Value}, Vals xs us → xs.all flatV = true → ∀ u ∈ us, SeqAt.EqAt A s u v (eqU x u)
  | _, _, .nil, _ => fun u hu => by cases hu
  | y :: xs, u :: us, .cons r t, f => fun u' hu => by
    rw [List.all_cons, Bool.and_eq_true] at f
    rcases List.mem_cons.mp hu with rfl | hu
    · rw [eqU_of r f.1]; exact eqAt_V r rx f.1 fx
    · exact mem_eqAt rx fx t f.2 u' hu
def inV (x : V) (xs : List V) : Bool := xs.any fun y => eqV y x
def rIn (K : PySem.W.Frag) (neg : Bool) : R2 := fun x y H Q => ∃ p xs, y = .ref p ∧ (SqL K H p xs ∨ SqT K H p xs) ∧ flatV x = true ∧ xs.all flatV = true ∧ Q (.bl (if neg then !inV x xs else inV x xs)) H
theorem op_in_seq : OpR X (compareOp .In) (rIn X.K false) := by
  intro pins s σ H x y v u Q I rx ry h
  obtain ⟨p, xs, rfl, hq, fx, fs, q⟩ := h
  cases ry
  rcases hq with hq | hq
  · obtain ⟨its, r, pl, hz⟩ := I.list hq
    refine SeqAt.in_listAt (eqU x) pl.isList (fun w hw => mem_eqAt rx fx r fs w (by simpa using hw)) ⟨.bl _, H, I, rfl, ?_⟩
    rw [show its.toArray.any (eqU x) = its.any (eqU x) by simp, any_eqU r fs]
    exact q
  · obtain ⟨its, r, pl, hz⟩ := I.tuple hq
    refine SeqAt.in_tupleAt (eqU x) pl (fun w hw => mem_eqAt rx fx r fs w (by simpa using hw)) ⟨.bl _, H, I, rfl, ?_⟩
    rw [show its.toArray.any (eqU x) = its.any (eqU x) by simp, any_eqU r fs]
    exact q
theorem op_notIn_seq : OpR X (compareOp .NotIn) (rIn X.K true) := by
  intro pins s σ H x y v u Q I rx ry h
  obtain ⟨p, xs, rfl, hq, fx, fs, q⟩ := h
  cases ry
  rcases hq with hq | hq
  · obtain ⟨its, r, pl, hz⟩ := I.list hq
    refine SeqAt.notIn_listAt (eqU x) pl.isList (fun w hw => mem_eqAt rx fx r fs w (by simpa using hw)) ⟨.bl _, H, I, rfl, ?_⟩
    rw [show its.toArray.any (eqU x) = its.any (eqU x) by simp, any_eqU r fs]
    exact q
  · obtain ⟨its, r, pl, hz⟩ := I.tuple hq
    refine SeqAt.notIn_tupleAt (eqU x) pl (fun w hw => mem_eqAt rx fx r fs w (by simpa using hw)) ⟨.bl _, H, I, rfl, ?_⟩
    rw [show its.toArray.any (eqU x) = its.any (eqU x) by simp, any_eqU r fs]
    exact q
theorem call_len_seq : CallR X (.builtin "len") (fun xs H Q => ∃ p ys, xs = [.ref p] ∧ (SqL X.K H p ys ∨ SqT X.K H p ys) ∧ Q (.int ys.length) H) := by
  intro pins s σ H xs us Q I r h
  obtain ⟨p, ys, rfl, hq, q⟩ := h
  obtain ⟨u, rfl, rx⟩ := vals1 r
  cases rx
  have hn := line63
  rcases hq with hq | hq
  · obtain ⟨its, r', pl, hz⟩ := I.list hq
    have hlen := r'.length
    exact Calls.call_len_list pl.isList (by simp only [List.size_toArray] <;> omega) ⟨.int ys.length, H, I.tok _, ⟨s.toks + 1, by rw [List.size_toArray, hlen]⟩, q⟩
  · obtain ⟨its, r', pl, hz⟩ := I.tuple hq
    have hlen := r'.length
    exact len_tuple pl (by simp only [List.size_toArray] <;> omega) ⟨.int ys.length, H, I.tok _, ⟨s.toks + 1, by rw [List.size_toArray, hlen]⟩, q⟩
theorem CallR.or {f : Value} {r r' : List V → Hp → VK → Prop} (h : CallR X f r) (h' : CallR X f r') : CallR X f (fun xs H Q => r xs H Q ∨ r' xs H Q) := by
  intro pins s σ H xs us Q I rs q
  rcases q with q | q
  · exact h pins s σ H xs us Q I rs q
  · exact h' pins s σ H xs us Q I rs q
theorem call_list_of : CallR X (.type "list") (fun xs H Q => ∃ p ys, xs = [.ref p] ∧ (SqL X.K H p ys ∨ SqT X.K H p ys) ∧ ∀ l, H l = none → Q (.ref l) (upd H l (.lst ys))) := by
  intro pins s σ H xs us Q I r h
  obtain ⟨p, ys, rfl, hq, q⟩ := h
  obtain ⟨u, rfl, rx⟩ := vals1 r
  cases rx
  have fin : ∀ (its : List Value), Vals ys its → ys.length ≤ sizeLine → ∀ (h' : Heap) (c' : Nat), (∀ b o', s.heap.get? b = some o' → h'.get? b = some o') →
      h'.get? s.heap.objs.size = some { cls := .type "list", dict := none, data := .seq its.toArray c', slots := #[] } → EP X pins σ Q (.ref s.heap.objs.size) { s with heap := h' } := fun its r' hz h' c' kp e =>
    ⟨.ref s.heap.objs.size, _, I.laid (t' := s.toks) kp (Nat.le_refl _) (show ObjOk X.prog X.w _ h' _ (.lst ys) from ⟨hz, its, c', r', e⟩), rfl, q _ (I.hok.fresh (Nat.le_refl _))⟩
  rcases hq with hq | hq
  · obtain ⟨its, r', pl, hz⟩ := I.list hq
    have hlen := r'.length
    obtain ⟨o, ho, hc, n, hd⟩ := pl.isList
    exact call_list_seq p (.inl rfl) ho hc hd (fun h' c' kp e => fin its r' hz h' c' kp e) (by simp only [List.size_toArray] <;> omega)
  · obtain ⟨its, r', pl, hz⟩ := I.tuple hq
    have hlen := r'.length
    obtain ⟨o, ho, hc, n, hd⟩ := pl
    exact call_list_seq p (.inr rfl) ho hc hd (fun h' c' kp e => fin its r' hz h' c' kp e) (by simp only [List.size_toArray] <;> omega)
theorem call_tuple_of : CallR X (.type "tuple") (fun xs H Q => ∃ p ys, xs = [.ref p] ∧ ((SqL X.K H p ys ∧ ∀ l, H l = none → Q (.ref l) (upd H l (.tup ys))) ∨ (SqT X.K H p ys ∧ Q (.ref p) H))) := by
  intro pins s σ H xs us Q I r h
  obtain ⟨p, ys, rfl, h⟩ := h
  obtain ⟨u, rfl, rx⟩ := vals1 r
  cases rx
  rcases h with ⟨hq, q⟩ | ⟨hq, q⟩
  · obtain ⟨its, r', pl, hz⟩ := I.list hq
    have hlen := r'.length
    refine call_tuple_list pl.isList (fun h' kp => ?_) (by simp only [List.size_toArray] <;> omega)
    have I1 : Inv X pins σ H { s with heap := h' } := I.kept (t' := s.toks) kp
    have I2 : Inv X pins σ (upd H h'.objs.size (.tup ys)) { s with heap := h'.push { cls := .type "tuple", data := .seq its.toArray } } :=
      I1.laid (t' := s.toks) (fun b o e => Heap.get?_push_of_some _ e) (Nat.le_refl _) (show ObjOk X.prog X.w _ _ _ (.tup ys) from ⟨hz, its, r', IsTup.new _ _⟩)
    exact ⟨.ref h'.objs.size, _, I2, rfl, q _ (I1.hok.fresh (Nat.le_refl _))⟩
  · obtain ⟨its, r', pl, hz⟩ := I.tuple hq
    exact call_tuple_same pl ⟨.ref p, H, I, rfl, q⟩
def tyV (K : PySem.W.Frag) (T : String) (x : V) (H : Hp) : Prop := match x with
  | .str _ => T = "str"
  | .int _ => T = "int"
  | .ref p => (T = "list" ∧ ∃ xs, SqL K H p xs) ∨ (T = "tuple" ∧ ∃ o, K.lookup p = some o ∧ o.cls = .type "tuple" ∧ o.dict = none) ∨
      (T = "dict" ∧ ((∃ kvs, H p = some (.dK kvs)) ∨ ∃ kvs, H p = some (.dT kvs))) ∨ (T = "set" ∧ ∃ S n, H p = some (.set S n))
  | _ => False
theorem tyV_is {pins : List (Addr × Obj)} {σ : St} {H : Hp} {s : Shared} {T : String} {x : V} {v : Value} (I : Inv X pins σ H s) (r : RelV x v) (ty : tyV X.K T x H) :
    s.TypeIs v T ∧ ∀ a, v = .ref a → ∃ ob, s.heap.get? a = some ob ∧ ob.dict = none := by
  cases x with
  | str z =>
    obtain ⟨t, rfl⟩ := r
    cases (show T = "str" from ty)
    exact ⟨typeIs_str s z t, fun _ e => nomatch e⟩
  | int i =>
    obtain ⟨t, rfl⟩ := r
    cases (show T = "int" from ty)
    exact ⟨typeIs_int s i t, fun _ e => nomatch e⟩
  | ref p =>
    cases r
    rcases ty with ⟨rfl, xs, hq⟩ | ⟨rfl, o, hk, hc, hd⟩ | ⟨rfl, hk⟩ | ⟨rfl, S, n, hk⟩
    · obtain ⟨its, _, pl, _⟩ := I.list hq
      refine ⟨pl.isList.typeIs, fun a e => ?_⟩
      cases e
      obtain ⟨o, n, e, c, hd, _⟩ := pl
      exact ⟨o, e, hd⟩
    · refine ⟨⟨o, I.kIn p o hk, hc⟩, fun a e => ?_⟩
      cases e
      exact ⟨o, I.kIn _ o hk, hd⟩
    · have z : ∃ o, s.heap.get? p = some o ∧ o.ExactDict := by
        rcases hk with ⟨kvs, hk⟩ | ⟨kvs, hk⟩
        · obtain ⟨_, _, _, _, o, _, _, e, ex, _⟩ := I.hok p _ hk
          exact ⟨o, e, ex⟩
        · obtain ⟨_, _, _, _, o, _, _, e, ex, _⟩ := I.hok p _ hk
          exact ⟨o, e, ex⟩
      obtain ⟨o, e, ex⟩ := z
      refine ⟨⟨o, e, ex.1⟩, fun a e2 => ?_⟩
      cases e2
      exact ⟨o, e, ex.2.1⟩
    · obtain ⟨o, _, _, _, e, ex, _⟩ := I.hok p _ hk
      refine ⟨⟨o, e, ex.1⟩, fun a e2 => ?_⟩
      cases e2
      exact ⟨o, e, ex.2.1⟩
  | _ => exact False.elim ty
def tBM0 (K : PySem.W.Frag) (T : String) (r : V → List V → Hp → VK → Prop) (to : TE) : TE := fun σ H Q => to σ H fun x H1 => tyV K T x H1 ∧ r x [] H1 Q
def tBM (K : PySem.W.Frag) (T : String) (r : V → List V → Hp → VK → Prop) (to : TE) (t : TA) : TE := fun σ H Q => to σ H fun x H1 => tyV K T x H1 ∧ t σ H1 fun xs H2 => r x xs H2 Q
variable {o e : Expr} {es : List Expr} {to : TE} {t : TA} {name : Str} {apos cpos : Pos} {T id : String} {r : V → List V → Hp → VK → Prop}
theorem pe_bm0 (pa : PlainAttrs T) (slot : Slot T name id) (hty : typeOf (.builtin id) = pure (.type "method_descriptor")) (hm : MtR X id r) (ho : PE X o to)
    (hbase : attributeBase o name X.env (eval o X.env) = eval o X.env := by rfl) (hline : (apos.endLine == cpos.line) = true := by rfl) : PE X (.Call (.Attribute o name apos) [] [] cpos) (tBM0 X.K T r to) := by
  intro pins s σ H Q I h
  refine wpAny_Call_method0_late hbase hline (thn (ho pins s σ H _ I h) fun v s1 ⟨x, H1, I1, r1, ty, q1⟩ => ?_)
  obtain ⟨h1, h2⟩ := tyV_is I1 r1 ty
  exact ⟨T, id, pa, slot, hty, h1, h2, Calls.callWith_builtin rfl (PySem.evalArgs_none (hm pins s1 σ H1 x [] v [] Q I1 r1 .nil q1))⟩
theorem pe_bm (pa : PlainAttrs T) (slot : Slot T name id) (hty : typeOf (.builtin id) = pure (.type "method_descriptor")) (hm : MtR X id r) (ho : PE X o to) (ha : PA X (e :: es) t)
    (hbase : attributeBase o name X.env (eval o X.env) = eval o X.env := by rfl)
    (hfew : ((backTo cpos (starEach (e :: es) X.env)).all (fun x => !x.1) && (backToKw cpos (keywordEach [] X.env)).all (fun x => x.1.isSome)
      && decide ((e :: es).length + ([] : List Keyword).length + (if ([] : List Keyword).isEmpty then 0 else 1) < 30)) = true := by rfl)
    (hline : (apos.endLine == cpos.line) = true := by rfl) (hs : starEach (e :: es) X.env = (false, eval e X.env) :: starEach es X.env := by rfl) (hplain : (backTo cpos (starEach es X.env)).any (·.1) = false := by rfl) :
    PE X (.Call (.Attribute o name apos) (e :: es) [] cpos) (tBM X.K T r to t) := by
  intro pins s σ H Q I h
  refine wpAny_Call_method_late hbase hfew hline rfl (thn (ho pins s σ H _ I h) fun v s1 ⟨x, H1, I1, r1, ty, q1⟩ => ?_)
  obtain ⟨h1, h2⟩ := tyV_is I1 r1 ty
  refine ⟨T, id, pa, slot, hty, h1, h2, ?_⟩
  have hA := ha cpos pins s1 σ H1 _ I1 q1
  rw [hs] at hA ⊢
  refine Calls.callWith_builtin (by show (false || (backTo cpos (starEach es X.env)).any (·.1)) = false; rw [hplain] <;> rfl) (Calls.evalArgs_plain ?_)
  exact thn hA fun us s2 ⟨vs, H2, I2, r2, q2⟩ => hm pins s2 σ H2 x vs v us Q I2 r1 r2 q2
end
end L2
namespace L2
open PySem PySem.Spec PyProof.Rows
def MtM (X : Cx) (id : String) (r : V → List V → Hp → VK → Prop) : Prop :=
  ∀ (pins : List (Addr × Obj)) (s : Shared) (σ : St) (H : Hp) (x : V) (xs : List V) (v : Value) (us : List Value) (Q : VK), Inv X pins σ H s → RelV x v → Vals xs us → r x xs H Q →
    wpAny (model X.prog X.w) X.A (call (.builtin id) (v :: us)) (EP X pins σ Q) X.xe s
theorem Vals.one : ∀ {x : V} {us : List Value}, Vals [x] us → ∃ u, us = [u] ∧ RelV x u
  | _, _, .cons r .nil => ⟨_, rfl, r⟩
theorem Vals.two : ∀ {x y : V} {us : List Value}, Vals [x, y] us → ∃ u v, us = [u, v] ∧ RelV x u ∧ RelV y v
  | _, _, _, .cons r (.cons q .nil) => ⟨_, _, rfl, r, q⟩
theorem Vals.zero : ∀ {us : List Value}, Vals [] us → us = []
  | _, .nil => rfl
theorem Vals.eraseIdx : ∀ {xs : List V} {us : List Value} (i : Nat), Vals xs us → Vals (xs.eraseIdx i) (us.eraseIdx i)
  | _, _, _, .nil => .nil
  | _, _, 0, .cons _ t => t
  | _, _, i + 1, .cons r t => .cons r (Vals.eraseIdx i t)
theorem Vals.reverse {xs : List V} {us : List Value} (h : Vals xs us) : Vals xs.reverse us.reverse := by
  induction h with
  | nil => exact .nil
  | cons r t ih => rw [List.reverse_cons, List.reverse_cons]; exact Vals.append ih (.cons r .nil)
theorem Vals.rep {xs : List V} {us : List Value} (h : Vals xs us) : ∀ k : Nat, Vals (List.replicate k xs).flatten (List.replicate k us).flatten
  | 0 => .nil
  | k + 1 => by
    rw [List.replicate_succ, List.replicate_succ, List.flatten_cons, List.flatten_cons]
    exact Vals.append h (Vals.rep h k)
theorem len_erase {α : Type} : ∀ (l : List α) (i : Nat), (l.eraseIdx i).length ≤ l.length
  | [], _ => Nat.le_refl _
  | _ :: _, 0 => Nat.le_succ _
  | _ :: r, i + 1 => Nat.succ_le_succ (len_erase r i)
theorem foldl_rep (its : List Value) : ∀ (k : Nat) (acc : List Value),
    List.foldl (fun x1 x2 => x1 ++ x2) acc.toArray (List.replicate k its.toArray) = (acc ++ (List.replicate k its).flatten).toArray
  | 0, acc => by simp
  | k + 1, acc => by
    have e : acc.toArray ++ its.toArray = (acc ++ its).toArray := by simp
    have e2 : (acc ++ its) ++ (List.replicate k its).flatten = acc ++ (List.replicate (k + 1) its).flatten := by
      rw [List.replicate_succ, List.flatten_cons, List.append_assoc]
    rw [← e2, ← foldl_rep its k (acc ++ its), ← e, List.replicate_succ, List.foldl_cons]
section
variable {X : Cx} {pins : List (Addr × Obj)} {σ : St} {H : Hp} {s : Shared} {l b : Addr} {xs ys zs : List V}
theorem Inv.lset {its its' : List Value} {n : Nat} {f : Array Value → Array Value} {t' : Nat} (I : Inv X pins σ H s) (hH : H l = some (.lst xs))
    (e : s.heap.get? l = some { cls := .type "list", data := .seq its.toArray n }) (hf : f its.toArray = its'.toArray) (hv : Vals ys its') (hz : ys.length ≤ sizeLine) :
    Inv X pins σ (upd H l (.lst ys)) { s with heap := s.heap.update l (Obj.mapSeq f), toks := t' } := by
  have q := PySem.IsL.update e f
  rw [hf] at q
  refine I.write (x := l) (e := l) (by rw [hH]; exact trivial) (.inl rfl) (fun b' u hb hu => (Heap.get?_update_other s.heap (Obj.mapSeq f) (Ne.symm hb)).trans hu) ⟨_, q⟩ ?_
  exact ⟨hz, its', _, hv, q⟩
theorem Inv.lnew {its : List Value} {t' : Nat} (I : Inv X pins σ H s) (hv : Vals ys its) (hz : ys.length ≤ sizeLine) :
    Inv X pins σ (upd H s.heap.objs.size (.lst ys)) { s with heap := s.heap.push { cls := .type "list", data := .seq its.toArray }, toks := t' } :=
  I.laid (fun _ _ q => Heap.get?_push_of_some _ q) (Nat.le_refl _) ⟨hz, its, 0, hv, Heap.get?_push_size _ rfl⟩
theorem Inv.fresh (I : Inv X pins σ H s) : H s.heap.objs.size = none := I.hok.fresh (Nat.le_refl _)
theorem Inv.lstM (I : Inv X pins σ H s) (hH : H l = some (.lst xs)) : xs.length ≤ sizeLine ∧ ∃ (its : List Value) (n : Nat), Vals xs its ∧ xs.length = its.length ∧ s.heap.get? l = some { cls := .type "list", data := .seq its.toArray n } := by
  obtain ⟨z, its, n, r, e⟩ := I.hok l _ hH
  exact ⟨z, its, n, r, r.length, e⟩
theorem notLongL {n : Nat} (h : n ≤ sizeLine) : Builtin.List.listTooLong n = false := by
  unfold Builtin.List.listTooLong
  exact decide_eq_false (by omega)
end
section
variable {X : Cx}
def rAppend : V → List V → Hp → VK → Prop := fun x vs H Q => ∃ l xs y, x = .ref l ∧ vs = [y] ∧ H l = some (.lst xs) ∧ xs.length < sizeLine ∧ Q .non (upd H l (.lst (xs ++ [y])))
theorem mt_append : MtM X "list.append" rAppend := by
  intro pins s σ H x vs v us Q I rx rv h
  obtain ⟨l, xs, y, rfl, rfl, hH, hz, q⟩ := h
  cases rx
  obtain ⟨u, rfl, ru⟩ := rv.one
  obtain ⟨z, its, n, r, hl, e⟩ := I.lstM hH
  refine call_meets F.slot_list_append ⟨_, e, rfl⟩ F.entry_list_append (F.args_list_append_2 _ _) (PySem.list_append l its.toArray n u (by rw [List.size_toArray]; omega)) ⟨e, ?_⟩
  refine ⟨.non, _, I.lset (its' := its ++ [u]) hH e (by simp) (r.append (.cons ru .nil)) ?_, rfl, q⟩
  rw [List.length_append, List.length_singleton]
  omega
def rExtend : V → List V → Hp → VK → Prop := fun x vs H Q => ∃ l b xs zs, x = .ref l ∧ vs = [.ref b] ∧ H l = some (.lst xs) ∧ H b = some (.lst zs) ∧ xs.length + zs.length ≤ sizeLine ∧ Q .non (upd H l (.lst (xs ++ zs)))
theorem mt_extend : MtM X "list.extend" rExtend := by
  intro pins s σ H x vs v us Q I rx rv h
  obtain ⟨l, b, xs, zs, rfl, rfl, hH, hB, hz, q⟩ := h
  cases rx
  obtain ⟨u, rfl, ru⟩ := rv.one
  cases ru
  obtain ⟨z, its, n, r, hl, e⟩ := I.lstM hH
  obtain ⟨z2, its2, n2, r2, hl2, e2⟩ := I.lstM hB
  have hsz : its.toArray.size + its2.toArray.size ≤ sizeLine := by rw [List.size_toArray, List.size_toArray]; omega
  have hlong : ¬ (!its.toArray.isEmpty && Builtin.List.listTooLong (its.toArray.size + its2.toArray.size)) = true := by
    rw [notLongL hsz, Bool.and_false]
    exact Bool.false_ne_true
  refine call_meets F.slot_list_extend ⟨_, e, rfl⟩ F.entry_list_extend (F.args_list_extend_2 _ _)
    (AutoSeq1.list_extend_list_list_0 l its.toArray n b its2.toArray n2 hlong (by rw [List.size_toArray]; omega) (by omega)) ⟨e, e2, ?_⟩
  refine ⟨.non, _, I.lset (its' := its ++ its2) hH e (by simp) (r.append r2) ?_, rfl, q⟩
  rw [List.length_append]
  omega
def rPopAt : V → List V → Hp → VK → Prop := fun x vs H Q => ∃ l xs i k y, x = .ref l ∧ vs = [.int i] ∧ H l = some (.lst xs) ∧ -(2 ^ 63) ≤ i ∧ i < 2 ^ 63 ∧ seqIndex? i xs.length = some k ∧ xs[k]? = some y ∧ Q y (upd H l (.lst (xs.eraseIdx k)))
theorem mt_popAt : MtM X "list.pop" rPopAt := by
  intro pins s σ H x vs v us Q I rx rv h
  obtain ⟨l, xs, i, k, y, rfl, rfl, hH, h1, h2, hk, hy, q⟩ := h
  cases rx
  obtain ⟨u, rfl, ru⟩ := rv.one
  obtain ⟨t, rfl⟩ := ru
  obtain ⟨z, its, n, r, hl, e⟩ := I.lstM hH
  obtain ⟨w, hw, rw'⟩ := r.get hy
  refine call_meets F.slot_list_pop ⟨_, e, rfl⟩ F.entry_list_pop (F.args_list_pop_2 _ _)
    (MeetsSeq.list_pop_at l its.toArray n i t k w (fitsIndex_both h1 h2) (by rw [List.size_toArray, ← hl]; exact hk) (by rw [← Array.getElem?_toList]; exact hw) (by rw [List.size_toArray]; omega)) ⟨e, ?_⟩
  refine ⟨y, _, I.lset (its' := its.eraseIdx k) hH e ?_ (r.eraseIdx k) ?_, rw', q⟩
  · show its.toArray.eraseIdxIfInBounds k = (its.eraseIdx k).toArray
    rw [List.eraseIdxIfInBounds_toArray]
  · have := len_erase xs k
    omega
def rReverse : V → List V → Hp → VK → Prop := fun x vs H Q => ∃ l xs, x = .ref l ∧ vs = [] ∧ H l = some (.lst xs) ∧ Q .non (upd H l (.lst xs.reverse))
theorem mt_reverse : MtM X "list.reverse" rReverse := by
  intro pins s σ H x vs v us Q I rx rv h
  obtain ⟨l, xs, rfl, rfl, hH, q⟩ := h
  cases rx
  have hus := rv.zero
  subst hus
  obtain ⟨z, its, n, r, hl, e⟩ := I.lstM hH
  refine call_meets F.slot_list_reverse ⟨_, e, rfl⟩ F.entry_list_reverse (F.args_list_reverse_1 _) (AutoSeq1.list_reverse_list_0 l its.toArray n (by rw [List.size_toArray]; omega)) ⟨e, ?_⟩
  refine ⟨.non, _, I.lset (its' := its.reverse) hH e (by simp) r.reverse ?_, rfl, q⟩
  rw [List.length_reverse]
  omega
def rClear : V → List V → Hp → VK → Prop := fun x vs H Q => ∃ l xs, x = .ref l ∧ vs = [] ∧ H l = some (.lst xs) ∧ Q .non (upd H l (.lst []))
theorem mt_clear : MtM X "list.clear" rClear := by
  intro pins s σ H x vs v us Q I rx rv h
  obtain ⟨l, xs, rfl, rfl, hH, q⟩ := h
  cases rx
  have hus := rv.zero
  subst hus
  obtain ⟨z, its, n, r, hl, e⟩ := I.lstM hH
  refine call_meets F.slot_list_clear ⟨_, e, rfl⟩ F.entry_list_clear (F.args_list_clear_1 _) (AutoSeq1.list_clear_list_0 l its.toArray n (by rw [List.size_toArray]; omega)) ⟨e, ?_⟩
  exact ⟨.non, _, I.lset (its' := []) (ys := []) hH e rfl .nil (Nat.zero_le _), rfl, q⟩
def rCat : R2 := fun x y H Q => ∃ l b xs zs, x = .ref l ∧ y = .ref b ∧ H l = some (.lst xs) ∧ H b = some (.lst zs) ∧ xs.length + zs.length ≤ sizeLine ∧ ∀ p, H p = none → Q (.ref p) (upd H p (.lst (xs ++ zs)))
theorem op_cat : OpR X (binaryOp .Add) rCat := by
  intro pins s σ H x y v u Q I rx ry h
  obtain ⟨l, b, xs, zs, rfl, rfl, hH, hB, hz, q⟩ := h
  cases rx
  cases ry
  obtain ⟨z, its, n, r, hl, e⟩ := I.lstM hH
  obtain ⟨z2, its2, n2, r2, hl2, e2⟩ := I.lstM hB
  refine PySem.P.add_list e e2 ?_ (by rw [List.size_toArray, List.size_toArray]; omega)
  have ea : its.toArray ++ its2.toArray = (its ++ its2).toArray := by simp
  rw [ea]
  exact ⟨.ref _, _, I.lnew (t' := s.toks) (r.append r2) (by rw [List.length_append]; omega), rfl, q _ I.fresh⟩
def rRep : R2 := fun x y H Q => ∃ l k xs, x = .ref l ∧ y = .int k ∧ H l = some (.lst xs) ∧ -(2 ^ 63) ≤ k ∧ k < 2 ^ 63 ∧ xs.length * k.toNat ≤ sizeLine ∧
  ∀ p, H p = none → Q (.ref p) (upd H p (.lst (List.replicate k.toNat xs).flatten))
theorem len_rep {α : Type} (xs : List α) (k : Nat) : (List.replicate k xs).flatten.length = k * xs.length := by
  induction k with
  | zero => simp
  | succ k ih => rw [List.replicate_succ, List.flatten_cons, List.length_append, ih, Nat.succ_mul, Nat.add_comm]
theorem op_rep : OpR X (binaryOp .Mult) rRep := by
  intro pins s σ H x y v u Q I rx ry h
  obtain ⟨l, k, xs, rfl, rfl, hH, h1, h2, hz, q⟩ := h
  cases rx
  obtain ⟨t, rfl⟩ := ry
  obtain ⟨z, its, n, r, hl, e⟩ := I.lstM hH
  have hlen : its.toArray.size * k.toNat ≤ sizeLine := by rw [List.size_toArray, ← hl]; exact hz
  have hcap : ¬ its.toArray.size * k.toNat > (2 ^ 63 - 1) / 8 := by
    have : (sizeLine : Nat) ≤ (2 ^ 63 - 1) / 8 := by decide
    omega
  have hfit : ¬ (!Builtin.List.listFitsIndex k) = true := by
    rw [fitsIndex_both h1 h2]
    exact Bool.false_ne_true
  have hlong : ¬ Builtin.List.listTooLong (its.toArray.size * k.toNat) = true := by
    rw [notLongL hlen]
    exact Bool.false_ne_true
  have hnew : List.foldl (fun x1 x2 => x1 ++ x2) #[] (List.replicate (if its.toArray.isEmpty = true then 0 else k.toNat) its.toArray) = (List.replicate k.toNat its).flatten.toArray := by
    have f0 : ∀ m : Nat, List.foldl (fun x1 x2 => x1 ++ x2) #[] (List.replicate m its.toArray) = (List.replicate m its).flatten.toArray := fun m => by
      have := foldl_rep its m []
      rw [List.nil_append] at this
      exact this
    rw [f0]
    cases its with
    | nil => simp
    | cons a r' => rw [if_neg (by simp)]
  refine wpAny_binaryOp_repeat_ref (T := "list") (U := "int") (by decide) ⟨_, e, rfl⟩ (fun s' => typeIs_int s' k t) noFill_list_mul F.fills_int_mul F.slot_int_rmul repeat_list F.slot_int_index.lookup
    (call_meets F.slot_int_rmul (typeIs_int s k t) F.entry_int_rmul (F.args_int_rmul_2 _ _) (int___rmul___int_list k t l its.toArray n)
      ⟨e, rfl, ⟨_, e, rfl⟩, call_meets F.slot_list_mul ⟨_, e, rfl⟩ F.entry_list_mul (F.args_list_mul_2 _ _) (AutoListH.list___mul___list_int_3 l its.toArray n k t hfit hcap hlong) ⟨e, ?_⟩⟩)
  rw [hnew]
  exact ⟨.ref _, _, I.lnew (t' := s.toks) (r.rep k.toNat) (by rw [len_rep, Nat.mul_comm]; exact hz), rfl, q _ I.fresh⟩
end
section
variable {prog : Program} {w : World} {A : Around} {E : Value → Shared → Prop} {s : Shared}
end
section
variable {X : Cx}
end
end L2
namespace Att
open PySem PySem.W PySem.Calls PyProof.Rows
theorem ints_of_wellAll {P : Params} {h : Heap} : ∀ (ns : List Int) (vs : List Value), WellAll P h vs (ns.map WData.int) → IntsAre vs ns := by
  intro ns
  induction ns with
  | nil =>
    intro vs w
    rw [List.map_nil] at w
    cases w
    exact .nil
  | cons n ns ih =>
    intro vs w
    rw [List.map_cons] at w
    cases w with
    | cons a b =>
      cases a
      exact .cons _ _ (ih _ b)
theorem script_of {l : OpenLaw} {n : Nat} (hn : l.most = some n) {P : Params} {h : Heap} {args : List WData} {vals : List Value}
    (hpre : l.row.toRowW.claim.pre args = true) (hwl : WellAll P h vals args) :
    ∃ a vs ns, vals = [Value.ref a] ∧ args = [WData.list (ns.map WData.int)] ∧ h.get? a = some { cls := .type "list", data := .seq vs.toArray } ∧ IntsAre vs ns ∧ ns.length ≤ n := by
  have hsh : WShape.hasAll [] args [.list .int] = true := (pre_splitW hpre).1
  have hc : l.pre.holds [] { args := args } = true := (pre_splitW hpre).2
  obtain ⟨d, r, rfl, h1, h2⟩ := hasAllW_cons hsh
  obtain rfl := hasAllW_nil h2
  obtain ⟨xs, rfl, h3⟩ := hasW_list h1
  obtain ⟨ns, rfl⟩ := items_int h3
  have hlen : ns.length ≤ n := by
    unfold OpenLaw.pre at hc
    have h4 : (WTm.not (.lt (.lit (.int (n : Int))) (.len (.arg 0)))).holds [] { args := [.list (ns.map .int)] } = true := by
      have h4 := (holds_andW hc).1
      rw [hn] at h4
      exact h4
    have h5 := condW_of h4 (w_not (w_lt w_lit (w_len_list (w_arg rfl))))
    rw [List.length_map] at h5
    refine Nat.le_of_not_lt fun q => ?_
    have q' : (n : Int) < ((ns.length : Nat) : Int) := by omega
    first
      | (rw [decide_eq_true q'] at h5; exact absurd h5 (by decide))
      | (simp at h5; omega)
  cases hwl with
  | cons w1 w2 =>
    cases w2
    cases w1 with
    | list ho hall => exact ⟨_, _, ns, rfl, rfl, ho, ints_of_wellAll ns _ hall, hlen⟩
theorem post_true (l : OpenLaw) (args : List WData) : l.row.toRowW.claim.post args (.bool true) args = true :=
  postW_of (r := l.row.toRowW) (X := (true == true))
    (show WShape.has [] (.bool true) .bool = true by first | rfl | decide | simp [WShape.has, WShape.arms, WShape.armsAll])
    (show (WTm.eq .res (.lit (.bool true))).value [] { args := args, res := some (.bool true), after := args } = some (.bool (true == true)) from w_eq_bool (w_res rfl) w_lit) rfl
theorem attach_call {l : OpenLaw} {n : Nat} {q : Program} {loose : List Str} {XP : (Str → Option Value) → Heap → Prop} {YP : World → Heap → Prop} {d : DefRec}
    (hn : l.most = some n) (hdf : d.params.defaults = [])
    (call : ∀ (w : World) (s₀ s₁ : Shared) (mg mb : Str → Option Value) (fa : Addr) (o : Obj) (pm cd doc : Value) (a : Addr) (vs : List Value) (ns : List Int),
      Ground q loose [] XP w s₀ mg mb s₁.heap → YP w s₁.heap →
      s₁.heap.get? fa = some o → o.data = .func (docDef d.name d.params d.body d.scope pm cd doc) → s₁.heap.CodeRec cd d.name → mg d.name = some (.ref fa) →
      s₁.heap.get? a = some { cls := .type "list", data := .seq vs.toArray } → IntsAre vs ns → ns.length ≤ n → s₁.gens = #[] →
      codeAny (model l.prog w) callerA (.call (.ref fa) ⟨[.ref a], []⟩) (fun r s' => r = .ok (.ret (.bool true)) ∧ OldK s₁.heap s'.heap ∧ s'.os = s₁.os ∧ AllBare s'.gens) s₁) :
    WalkO q loose XP YP l.row.toRowW d [] (fun f vs => PySem.call f vs) := by
  intro w s₀ s₁ mg mb G Y fa o pm cd doc dV kV ho hd hcd hD hmg hg args vals as hpre hlay hrd hwl hlo
  obtain rfl : dV = .none := Dflts.none hD hdf
  obtain rfl : kV = .none := Dflts.noKw hD
  obtain ⟨a, vs, ns, rfl, rfl, hobj, hints, hlen⟩ := script_of hn hpre hwl
  refine enter_call (codeAny_mono (call w s₀ s₁ mg mb fa o pm cd doc a vs ns G Y ho (fd_plain hd) hcd hmg hobj hints hlen hg) fun r s' hq => ?_)
  obtain ⟨rfl, h2, h3, h4⟩ := hq
  exact ⟨.inl ⟨.bool true, .bool true, [], rfl, fun _ => rfl, .bool true, post_true l _, fun _ => ⟨List.Pairwise.nil, fun _ hm => (nomatch hm)⟩⟩, h2, h3, h4⟩
section
variable {prog : Program} {w : World} {A : Around} {E : Value → Shared → Prop} {s : Shared} {K : Frag}
def ledger (h : Heap) (L d : Addr) : List (Addr × Obj) := (List.range h.objs.size).filterMap fun a => if a = L ∨ a = d then none else (h.get? a).map fun o => (a, o)
end
end Att
namespace L2
open PySem PySem.Spec PyProof.Rows
theorem vals_ints : ∀ {vs : List Value} {ns : List Int}, IntsAre vs ns → Vals (ns.map V.int) vs
  | _, _, .nil => .nil
  | _, _, .cons n t h => .cons ⟨t, rfl⟩ (vals_ints h)
def Only (H : Hp) : Prop := ∀ b, H b = none ∨ ∃ o xs, H b = some (.frz o (.lst xs))
theorem law_call {P : Program} {w : World} {K : PySem.W.Frag} {mg mb : Str → Option Value} {CX : CXT} {k : Nat} {fa a : Addr} {fd : FuncData} {x : Str} {sp : Sp} {s₁ : Shared} {vs : List Value} {ns : List Int}
    (KX : K.In s₁.heap) (hns : s₁.heap.Ns mainGlobals mg) (hb : s₁.heap.Ns builtinsNs mb) (hbb : ∀ x : Str, x ≠ "__name__" → mb x = bootBuiltins x) (hlim : s₁.heap.NoLimit) (hg : s₁.gens = #[])
    (ha : s₁.heap.get? a = some { cls := .type "list", data := .seq vs.toArray }) (hi : IntsAre vs ns) (hl : ns.length ≤ sizeLine) (hr : Room k callerA)
    (F : ∀ base : Heap, K.In base → base.Ns mainGlobals mg → FnOk P w K mg base CX k fa fd [x] sp) (hbind : ∀ (s : Shared) (u : Value), BindsTo s fd ⟨[u], []⟩ [(x, u)])
    (hsp : ∀ H : Hp, Only H → SqL K H a (ns.map V.int) → sp [.ref a] H (fun v _ => v = .bl true) fun _ _ _ => False)
    (hCX : ∀ H e s', CX [] H s₁ (fun _ _ _ => False) e s' → False) :
    codeAny (model P w) callerA (.call (.ref fa) ⟨[.ref a], []⟩) (fun r s' => r = .ok (.ret (.bool true)) ∧ OldK s₁.heap s'.heap ∧ s'.os = s₁.os ∧ AllBare s'.gens) s₁ := by
  have rv := vals_ints hi
  have lenV := hi.length
  have core : ∀ H : Hp, Only H → SqL K H a (ns.map V.int) → HOk P w H s₁.heap → (∀ b, H b ≠ none → b = a) → (H a ≠ none → K.lookup a = none) →
      codeAny (model P w) callerA (.call (.ref fa) ⟨[.ref a], []⟩) (fun r s' => r = .ok (.ret (.bool true)) ∧ OldK s₁.heap s'.heap ∧ s'.os = s₁.os ∧ AllBare s'.gens) s₁ := by
    intro H hO hS hok hA hK
    have base_of : ∀ {b : Addr} {o : Obj}, s₁.heap.get? b = some o → H b = none → (hidT s₁.heap H).get? b = some o := fun e n => hidT_get e n
    have noA : ∀ {b : Addr} {o : Obj} {es : Array DictEntry} {ep : Nat}, s₁.heap.get? b = some o → o.data = .dict es ep → H b = none := fun {b o es ep} e d => by
      cases q : H b with
      | none => rfl
      | some u =>
        have e' : b = a := hA b (by rw [q]; simp)
        subst e'
        rw [ha] at e; cases e
        have d' : Data.seq vs.toArray _ = Data.dict es ep := d
        cases d'
    have nsK : ∀ {b : Addr} {m : Str → Option Value}, s₁.heap.Ns b m → (hidT s₁.heap H).Ns b m := fun {b m} ⟨o, es, ep, e, d, r⟩ => ⟨o, es, ep, base_of e (noA e d), d, r⟩
    have hKb : K.In (hidT s₁.heap H) := fun b o e => base_of (KX b o e) (by
      cases q : H b with
      | none => rfl
      | some u =>
        have e' : b = a := hA b (by rw [q]; simp)
        subst e'
        rw [hK (by rw [q]; simp)] at e; cases e)
    have hM : Mod K mg (hidT s₁.heap H) := ⟨hKb, nsK hns, ⟨mb, nsK hb, hbb⟩, let ⟨mc, h1, h2⟩ := hlim; ⟨mc, nsK h1, h2⟩⟩
    have e0 : Env0 P w K mg (hidT s₁.heap H) callerA [] s₁ H := ⟨rfl, hM, fun b o e => of_hidT e, Nat.le_of_eq (hidT_size _ _), trivial, fun b hb => absurd (show b ∈ ([] : List Addr) from hb) (by simp), hok, .of_eq hg⟩
    refine codeAny_mono ((F _ hKb (nsK hns)).run callerA [] s₁ H ⟨[.ref a], []⟩ [.ref a] [.ref a] _ _ hr e0 (hbind s₁ (.ref a)) (.cons rfl .nil) (hsp H hO hS)) fun r s' h => ?_
    cases r with
    | error e => exact (hCX H e s' h).elim
    | ok fl =>
      cases fl with
      | next => exact False.elim h
      | brk => exact False.elim h
      | cont => exact False.elim h
      | ret u =>
        obtain ⟨v, H', os, bare, un, hok', r', q⟩ := h
        have q' : v = .bl true := q
        subst q'
        obtain rfl : u = Value.bool true := r'
        refine ⟨rfl, OldK.of_keep fun b o e => ?_, os, bare⟩
        cases q : H b with
        | none => exact un.keep b o e q (by intro z; exact absurd (show b ∈ ([] : List Addr) from z) (by simp)) (by simp)
        | some u =>
          rcases hO b with z | ⟨ob, xs, z⟩
          · rw [q] at z; cases z
          · have z2 := un.frzs b ob _ z
            obtain ⟨e1, _⟩ := hok b _ z
            obtain ⟨e2, _⟩ := hok' b _ z2
            rw [e] at e1; cases e1
            exact e2
  cases hk : K.lookup a with
  | some o =>
    have e := KX a o hk
    rw [ha] at e
    cases e
    refine core (fun _ => none) (fun _ => .inl rfl) (.inr ⟨_, vs.toArray, _, hk, rfl, rfl, rfl, by rw [List.size_toArray, lenV]; exact hl, by simpa using rv⟩) (fun b u z => by have z' : (none : Option HO) = some u := z; cases z') (fun b z => absurd rfl z) fun z => absurd rfl z
  | none =>
    refine core (fun b => if b = a then some (.frz { cls := .type "list", data := .seq vs.toArray } (.lst (ns.map V.int))) else none) (fun b => ?_) (.inl (.inr ⟨{ cls := .type "list", data := .seq vs.toArray }, if_pos rfl⟩)) (fun b u z => ?_) (fun b z => ?_) fun _ => hk
    · by_cases hb : b = a
      · exact .inr ⟨_, _, if_pos hb⟩
      · exact .inl (if_neg hb)
    · by_cases hb : b = a
      · have z' := (if_pos hb).symm.trans z
        cases z'
        subst hb
        exact ⟨ha, by rw [List.length_map]; exact hl, vs, _, rv, ha⟩
      · have z' := (if_neg hb).symm.trans z
        cases z'
    · by_cases hb : b = a
      · exact hb
      · exact absurd (if_neg hb) z
end L2
namespace L2
open PySem PySem.Spec PyProof.Rows
theorem walk_of {l : PySem.W.OpenLaw} {n k : Nat} {q : Program} {loose : List Str} {XP : (Str → Option Value) → Heap → Prop} {YP : World → Heap → Prop} {d : DefRec} {K : Params → PySem.W.Frag} {CX : World → CXT} {sp : World → Sp} {x : Str}
    (hn : l.most = some n) (hn2 : n ≤ sizeLine) (hdf : d.params.defaults = []) (hr : Room k callerA)
    (hY : ∀ (w : World) (h : Heap), YP w h → (K w.params).In h)
    (F : ∀ (w : World) (mg : Str → Option Value) (fa : Addr) (h : Heap), (K w.params).In h → h.Ns mainGlobals mg → mg d.name = some (.ref fa) →
      ∃ fd : FuncData, (∀ (s : Shared) (u : Value), BindsTo s fd ⟨[u], []⟩ [(x, u)]) ∧
        ∀ base : Heap, (K w.params).In base → base.Ns mainGlobals mg → FnOk l.prog w (K w.params) mg base (CX w) k fa fd [x] (sp w))
    (hsp : ∀ (w : World) (H : Hp) (a : Addr) (ns : List Int), ns.length ≤ n → Only H → SqL (K w.params) H a (ns.map V.int) → sp w [.ref a] H (fun v _ => v = .bl true) fun _ _ _ => False)
    (hCX : ∀ (w : World) (H : Hp) (s : Shared) (e : Value) (s' : Shared), CX w [] H s (fun _ _ _ => False) e s' → False) :
    PySem.W.WalkO q loose XP YP l.row.toRowW d [] (fun f vs => PySem.call f vs) := by
  refine Att.attach_call hn hdf fun w s₀ s₁ mg mb fa o pm cd doc a vs ns G Y ho hd hcd hmg hobj hints hlen hg => ?_
  have KX := hY w _ Y
  obtain ⟨fd, hb, hF⟩ := F w mg fa _ KX G.T.g hmg
  exact law_call KX G.T.g G.T.b G.T.builtins G.T.nolimit hg hobj hints (Nat.le_trans hlen hn2) hr hF hb (fun H hO hS => hsp w H a ns hlen hO hS) fun H e s' => hCX w H s₁ e s'
end L2
namespace L2
open PySem PySem.Spec PyProof.Rows
def inClass (s : Stmt) (j : Nat) : Stmt := match s with
  | .ClassDef _ _ _ body _ _ _ _ _ _ _ => body.getD j (.Pass ⟨0, 0, 0, 0⟩)
  | _ => .Pass ⟨0, 0, 0, 0⟩
def defArgs (s : Stmt) : Arguments := match s with
  | .FunctionDef _ a _ _ _ _ _ _ _ _ => a
  | _ => { posonlyargs := [], args := [], vararg := none, kwonlyargs := [], kw_defaults := [], kwarg := none, defaults := [] }
def defBody (s : Stmt) : List Stmt := match s with
  | .FunctionDef _ _ b _ _ _ _ _ _ _ => b
  | _ => []
def defScope (s : Stmt) : Scope := match s with
  | .FunctionDef _ _ _ _ _ _ sc _ _ _ => sc
  | _ => { kind := .function, names := [], isGenerator := false, isCoroutine := false }
abbrev CX0 : CXT := fun _ _ _ _ _ _ => False
abbrev E0 : XK := fun _ _ _ => False
theorem pass0 {X : Cx} : Passes CX0 X E0 := fun _ _ _ _ _ _ _ h => h.elim
structure Fun (K : PySem.W.Frag) (x qual : Str) (st : Stmt) (f : Addr) (fd : FuncData) : Prop where
  ex : ∃ (oc : Value) (od : Option Addr) (kV doc pm : Value) (an : Option Addr) (cdv ct : Value) (osl : Array (Option Value)),
    fd = PySem.W.fnOf x qual (defArgs st) (defBody st) (defScope st) .none kV doc pm an cdv ct ∧ K.lookup f = some ⟨oc, od, .func fd, osl⟩ ∧ PySem.W.codeIn K cdv qual = true
  kp : PySem.W.keepIn K (.ref f) = true
section
variable {P : Program} {w : World} {K : PySem.W.Frag} {mg : Str → Option Value} {base : Heap}
theorem Fun.ok {x qual : Str} {st : Stmt} {f : Addr} {fd : FuncData} {N ps : List Str} {k : Nat} {sp : Sp} (F : Fun K x qual st f fd) (S : FnScope N ps (defScope st)) (len : ∀ vs H Q E, sp vs H Q E → vs.length = ps.length)
    (hbody : ∀ (cdv : Value) (A : Around) (outer : List Env) (s : Shared) (H : Hp) (vs : List V) (Q : VK) (E : XK), Room k (A.deeper (envOfC qual (defScope st) s.heap.objs.size f cdv)) → sp vs H Q E →
      ∃ t, PSs (cxOf CX0 P w K mg base N qual (defScope st) f cdv A outer s H E).nox (defBody st) t ∧ t { nx := fun _ H' => Q .non H', rt := Q } (start N vs) H) : FnOk P w K mg base CX0 (k + 1) f fd ps sp := by
  obtain ⟨oc, od, kV, doc, pm, an, cdv, ct, osl, rfl, lk, hcd⟩ := F.ex
  refine fn_of lk hcd S len fun A outer s H vs Q E hr hsp => ?_
  obtain ⟨t, h, q⟩ := hbody cdv A outer s H vs Q E hr hsp
  exact ⟨t, h.nox, q⟩
theorem Fun.binds {x qual : Str} {st : Stmt} {f : Addr} {fd : FuncData} {ps : List Str} (F : Fun K x qual st f fd)
    (h : ∀ (kV doc pm : Value) (an : Option Addr) (cdv ct : Value) (us : List Value), us.length = ps.length → bindArgs (PySem.W.fnOf x qual (defArgs st) (defBody st) (defScope st) .none kV doc pm an cdv ct) ⟨us, []⟩ = pure (ps.zip us)) : Binds K fd ps [] := by
  obtain ⟨oc, od, kV, doc, pm, an, cdv, ct, osl, rfl, lk, hcd⟩ := F.ex
  exact .all (h kV doc pm an cdv ct)
theorem fun_mk {x qual : Str} {st : Stmt} {f : Addr} {oc : Value} {od an : Option Addr} {osl : Array (Option Value)} {kV doc pm cdv ct : Value} (l : K.lookup f = some ⟨oc, od, .func (PySem.W.fnOf x qual (defArgs st) (defBody st) (defScope st) .none kV doc pm an cdv ct), osl⟩)
    (c : PySem.W.codeIn K cdv qual = true) (k : PySem.W.keepIn K (.ref f) = true) : Fun K x qual st f (PySem.W.fnOf x qual (defArgs st) (defBody st) (defScope st) .none kV doc pm an cdv ct) := ⟨⟨oc, od, kV, doc, pm, an, cdv, ct, osl, rfl, l, c⟩, k⟩
end
theorem hu_of {A : Around} {k : Nat} (hr : Room k A) : A.units + 1 < cLine := Nat.lt_of_le_of_lt (Nat.add_le_add_left (by decide : 1 ≤ 64) _) hr.units
theorem small1000 {n : Nat} (h : n ≤ 1000) : n < sizeLine := Nat.lt_of_le_of_lt h (by decide)
section
variable {X : Cx}
theorem pv (i : Nat) {x : Str} {pos : Pos} (hN : X.N[i]? = some x := by rfl) (hv : Vis X.env.scope x := by first | exact Or.inl rfl | exact Or.inr (Or.inl rfl) | exact Or.inr (Or.inr rfl)) (hd : (x == ("__debug__" : Str)) = false := by decide)
    (hcd : (x == ("__classdict__" : Str)) = false := by decide) : PE X (.Name x pos) (tVar i) := pe_var hN hv hd hcd
end
theorem iteF {A B : Prop} (h : B) : if false = true then A else B := by
  rw [if_neg Bool.false_ne_true]
  exact h
theorem iteT {A B : Prop} (h : A) : if true = true then A else B := by
  rw [if_pos rfl]
  exact h
theorem ite2 {c A B : Prop} [Decidable c] (h1 : c → A) (h2 : ¬ c → B) : if c then A else B := by
  by_cases h : c
  · rw [if_pos h]
    exact h1 h
  · rw [if_neg h]
    exact h2 h
def Same (H H' : Hp) : Prop := ∀ b o, H b = some o → H' b = some o
theorem Same.refl (H : Hp) : Same H H := fun _ _ h => h
theorem Same.trans {H H1 H2 : Hp} (a : Same H H1) (b : Same H1 H2) : Same H H2 := fun c o h => b c o (a c o h)
theorem Same.free {H H' : Hp} (e : Same H H') {l : Addr} (h : H' l = Option.none) : H l = Option.none := by
  cases q : H l with
  | none => rfl
  | some o =>
    rw [e l o q] at h
    cases h
theorem Same.seq {K : PySem.W.Frag} {H H' : Hp} {a : Addr} {xs : List V} (e : Same H H') (h : SqL K H a xs) : SqL K H' a xs := by
  rcases h with (h | ⟨o, h⟩) | h
  · exact .inl (.inl (e _ _ h))
  · exact .inl (.inr ⟨o, e _ _ h⟩)
  · exact .inr h
end L2
namespace L2
open PySem PySem.Spec PyProof.Rows
def clOf (en : Env) : List (Str × NameKind) → List (Str × Addr) → List (Str × Addr)
  | [], cs => cs
  | (n, k) :: r, cs => if (k == NameKind.free) = true then clOf en r ((n, (en.cells.lookup n).getD 0) :: cs) else clOf en r cs
theorem clOf_for {en : Env} : ∀ (ns : List (Str × NameKind)) (cs : List (Str × Addr)), (∀ y ∈ ns, y.2 = .free → (en.cells.lookup y.1).isSome = true) →
    (forIn ns cs fun (y : Str × NameKind) (r : List (Str × Addr)) => (if (y.2 == NameKind.free) = true then (cellOf en y.1 >>= fun a => pure (ForInStep.yield ((y.1, a) :: r))) else pure (ForInStep.yield r) : Sem (ForInStep (List (Str × Addr))))) = pure (clOf en ns cs) := by
  intro ns
  induction ns with
  | nil => intro cs _; rfl
  | cons y r ih =>
    intro cs h
    obtain ⟨n, k⟩ := y
    rw [List.forIn_cons]
    have hr := fun cs => ih cs fun y hy => h y (List.mem_cons_of_mem _ hy)
    dsimp only
    by_cases hk : (k == NameKind.free) = true
    · have hk' : k = .free := by simpa using hk
      obtain ⟨a, ha⟩ := Option.isSome_iff_exists.mp (h (n, k) List.mem_cons_self hk')
      have e1 : cellOf en n = pure a := by unfold cellOf; dsimp only at ha; rw [ha]
      have e2 : clOf en ((n, k) :: r) cs = clOf en r ((n, a) :: cs) := by
        show (if (k == NameKind.free) = true then _ else _) = _
        rw [if_pos hk]; dsimp only at ha; rw [ha]; rfl
      rw [if_pos hk, e1, e2]
      simp only [pure_bind]
      exact hr _
    · have e2 : clOf en ((n, k) :: r) cs = clOf en r cs := by
        show (if (k == NameKind.free) = true then _ else _) = _
        rw [if_neg hk]
      rw [if_neg hk, e2]
      simp only [pure_bind]
      exact hr _
theorem closureFor_cl {en : Env} {sc : Scope} (h : ∀ y ∈ sc.names, y.2 = .free → (en.cells.lookup y.1).isSome = true) : closureFor sc en = pure (clOf en sc.names []) := by
  have q := clOf_for (en := en) sc.names [] h
  unfold closureFor
  refine Eq.trans ?_ (show (forIn sc.names ([] : List (Str × Addr)) _ >>= pure) = _ by rw [q]; rfl)
  rfl
theorem clOf_sub {en : Env} : ∀ (ns : List (Str × NameKind)) (cs : List (Str × Addr)), (∀ y ∈ ns, y.2 = .free → (en.cells.lookup y.1).isSome = true) → (∀ x c, cs.lookup x = some c → en.cells.lookup x = some c) →
    ∀ x c, (clOf en ns cs).lookup x = some c → en.cells.lookup x = some c
  | [], cs, _, hc, x, c, e => hc x c e
  | (n, k) :: r, cs, h, hc, x, c, e => by
    have hr : ∀ y ∈ r, y.2 = .free → (en.cells.lookup y.1).isSome = true := fun y hy => h y (List.mem_cons_of_mem _ hy)
    unfold clOf at e
    by_cases hk : (k == NameKind.free) = true
    · rw [if_pos hk] at e
      refine clOf_sub r _ hr (fun x' c' e' => ?_) x c e
      rw [List.lookup_cons] at e'
      cases hx : x' == n with
      | true =>
        rw [hx] at e'
        have hx' : x' = n := by simpa using hx
        obtain ⟨a, ha⟩ := Option.isSome_iff_exists.mp (h (n, k) List.mem_cons_self (by simpa using hk))
        dsimp only at ha e'
        rw [ha] at e'
        rw [hx', ha]
        exact e'
      | false => rw [hx] at e'; exact hc x' c' e'
    · rw [if_neg hk] at e
      exact clOf_sub r cs hr hc x c e
theorem clOf_has {en : Env} : ∀ (ns : List (Str × NameKind)) (cs : List (Str × Addr)) (x : Str), ((x, NameKind.free) ∈ ns ∨ (cs.lookup x).isSome = true) → ((clOf en ns cs).lookup x).isSome = true
  | [], cs, x, h => by
    rcases h with h | h
    · cases h
    · exact h
  | (n, k) :: r, cs, x, h => by
    unfold clOf
    by_cases hk : (k == NameKind.free) = true
    · rw [if_pos hk]
      refine clOf_has r _ x ?_
      rcases h with h | h
      · rcases List.mem_cons.mp h with e | h
        · right
          rw [List.lookup_cons, show (x == n) = true by simpa using congrArg Prod.fst e]
          rfl
        · exact .inl h
      · right
        rw [List.lookup_cons]
        cases hx : x == n with
        | true => rfl
        | false => exact h
    · rw [if_neg hk]
      refine clOf_has r _ x ?_
      rcases h with h | h
      · rcases List.mem_cons.mp h with e | h
        · exfalso
          have e' : NameKind.free = k := congrArg Prod.snd e
          rw [← e'] at hk
          exact hk (by decide)
        · exact .inl h
      · exact .inr h
theorem relabel_free {en : Env} : ∀ {ns : List (Str × NameKind)} {x : Str}, ns.lookup x = some .free →
    (ns.map fun (n, k) => if (k == NameKind.free && en.scope.kind == .function && en.kindOf n == some .cell) then (n, NameKind.cell) else (n, k)).lookup x = some .cell ∨
    (ns.map fun (n, k) => if (k == NameKind.free && en.scope.kind == .function && en.kindOf n == some .cell) then (n, NameKind.cell) else (n, k)).lookup x = some .free
  | [], _, h => by simp at h
  | (n, k) :: r, x, h => by
    have ih := @relabel_free en r x
    rw [List.map_cons]
    cases hx : x == n with
    | true =>
      simp only [List.lookup_cons, hx] at h
      cases h
      dsimp only
      split
      · left; simp [List.lookup_cons, hx]
      · right; simp [List.lookup_cons, hx]
    | false =>
      simp only [List.lookup_cons, hx] at h
      dsimp only
      split
      · simp only [List.lookup_cons, hx]; exact ih h
      · simp only [List.lookup_cons, hx]; exact ih h
theorem relabel_of {en : Env} : ∀ {ns : List (Str × NameKind)} {x : Str} {q : NameKind}, (q = .cell ∨ q = .free) →
    (ns.map fun (n, k) => if (k == NameKind.free && en.scope.kind == .function && en.kindOf n == some .cell) then (n, NameKind.cell) else (n, k)).lookup x = some q → (x, NameKind.free) ∈ ns ∨ (x, NameKind.cell) ∈ ns
  | [], _, _, _, h => by simp at h
  | (n, k) :: r, x, q, hq, h => by
    have ih := @relabel_of en r x q hq
    rw [List.map_cons] at h
    dsimp only at h
    by_cases hc : (k == NameKind.free && en.scope.kind == .function && en.kindOf n == some .cell) = true
    · rw [if_pos hc] at h
      have hk : k = .free := by
        simp only [Bool.and_eq_true] at hc
        simpa using hc.1.1
      cases hx : x == n with
      | true =>
        have hx' : x = n := by simpa using hx
        exact .inl (by rw [hx', hk]; exact List.mem_cons_self)
      | false =>
        simp only [List.lookup_cons, hx] at h
        rcases ih h with z | z
        · exact .inl (List.mem_cons_of_mem _ z)
        · exact .inr (List.mem_cons_of_mem _ z)
    · rw [if_neg hc] at h
      cases hx : x == n with
      | true =>
        have hx' : x = n := by simpa using hx
        simp only [List.lookup_cons, hx] at h
        cases h
        rcases hq with z | z
        · exact .inr (by rw [hx', ← z]; exact List.mem_cons_self)
        · exact .inl (by rw [hx', ← z]; exact List.mem_cons_self)
      | false =>
        simp only [List.lookup_cons, hx] at h
        rcases ih h with z | z
        · exact .inl (List.mem_cons_of_mem _ z)
        · exact .inr (List.mem_cons_of_mem _ z)
abbrev blk (X : Cx) (N' : List Str) (sc : Scope) (C : Addr) (s2 : Shared) (H2 : Hp) (ex : List Addr) : Cx :=
  { X with N := N', s₀ := s2, H₀ := H2, env := compEnvC sc (clOf X.env sc.names []) C X.env, outer := X.stack, stack := X.stack, ex := ex, fn := fun _ => false, xe := fun _ _ => False }
def cst (σ : St) (nl : Nat) (js : List Nat) : St := List.replicate nl none ++ js.map fun j => (σ[j]?).getD none
structure CScope (X : Cx) (sc : Scope) (N' : List Str) (nl : Nat) (js : List Nat) : Prop where
  kind : sc.kind = .function
  nocell : ∀ y ∈ sc.names, y.2 ≠ .cell
  locs : ∀ y ∈ sc.names, y.2 = .local → sc.names.lookup y.1 = some .local
  frees : ∀ y ∈ sc.names, y.2 = .free → X.env.kindOf y.1 = some .cell ∨ X.env.kindOf y.1 = some .free
  cap : ∀ (i j : Nat), js[i]? = some j → ∃ x, N'[nl + i]? = some x ∧ X.N[j]? = some x ∧ sc.names.lookup x = some .free
  len : N'.length = nl + js.length
def Wk (σ0 σ2 : St) : Prop := σ0.length = σ2.length ∧ ∀ (i : Nat) v, σ0[i]? = some (some v) → σ2[i]? = some (some v)
def PIf (X : Cx) (ifs : List Expr) (t : TT) : Prop :=
  ∀ (pins : List (Addr × Obj)) (s : Shared) (σ : St) (H : Hp) (Q : Bool → Hp → Prop), Inv X pins σ H s → t σ H Q →
    wpAny (model X.prog X.w) X.A (forIn ifs true fun c r => if r = true then do let ok ← isTrue c X.env (eval c X.env); pure (ForInStep.yield ok) else pure (ForInStep.yield r)) (TP X pins σ Q) X.xe s
theorem pif_nil {X : Cx} : PIf X [] (fun _ H Q => Q true H) := fun _ _ _ H _ I h => wpAny_tests_nil ⟨H, I, h⟩
theorem pif_one {X : Cx} {c : Expr} {t : TT} (h : PT X c t) : PIf X [c] t := fun pins s σ H Q I hw => wpAny_tests_one (h pins s σ H Q I hw)
section
variable {X : Cx} {sc : Scope} {N' : List Str} {nl : Nat} {js : List Nat} {pins : List (Addr × Obj)} {σ : St} {H : Hp} {s : Shared}
theorem CScope.hasC (S : CScope X sc N' nl js) (ok : X.Ok) : ∀ y ∈ sc.names, y.2 = .free → (X.env.cells.lookup y.1).isSome = true := fun y hy hf => by
  obtain ⟨c, e⟩ := ok.has y.1 (S.frees y hy hf)
  rw [e]; rfl
theorem CScope.sub (S : CScope X sc N' nl js) (ok : X.Ok) {x : Str} {c : Addr} (e : (clOf X.env sc.names []).lookup x = Option.some c) : X.env.cells.lookup x = Option.some c :=
  clOf_sub sc.names [] (S.hasC ok) (fun _ _ z => by simp at z) x c e
theorem blk_ok (S : CScope X sc N' nl js) (I : Inv X pins σ H s) {fp : List Addr} {C : Addr} (hf : ∀ b ∈ fp, FpOk X pins H b) (hC : s.heap.objs.size ≤ C) (hfC : ∀ b ∈ fp, b ≠ C) : (blk X N' sc C s H fp).Ok where
  mod := I.ok.mod
  kind := S.kind
  glob := I.ok.glob
  blt := I.ok.blt
  above := hC
  inj := fun x y c h1 h2 => I.ok.inj x y c (S.sub I.ok h1) (S.sub I.ok h2)
  has := fun x hx => by
    have hm : (x, NameKind.free) ∈ sc.names ∨ (x, NameKind.cell) ∈ sc.names := by
      rcases hx with z | z
      · exact relabel_of (.inl rfl) z
      · exact relabel_of (.inr rfl) z
    rcases hm with z | z
    · exact Option.isSome_iff_exists.mp (clOf_has sc.names [] x (.inl z))
    · exact absurd rfl (S.nocell _ z)
  cab := fun x c h _ => absurd (show false = true from h) Bool.false_ne_true
  hd := I.ok.hd
  frames := I.ok.frames
  stk := .inl rfl
  exf := fun b hb => ⟨hfC b hb, fun x c e => (hf b hb).2.2.2.2.1 x c (S.sub I.ok e)⟩
  bs := I.bs
  bsz := Nat.le_trans I.ok.bsz I.sz
  noex := fun b o e hb => by
    rcases (hf b hb).2.2.2.1 with z | z
    · exact I.ok.noex b o e z
    · exact absurd (Nat.lt_of_lt_of_le (Heap.lt_size (I.ok.bs b o e).1) z) (Nat.lt_irrefl _)
  exfs := fun b hb hs => by
    rcases List.mem_cons.mp (I.stkSub b hs) with z | z
    · exact (hf b hb).2.1 z
    · exact (hf b hb).2.2.1 z
  funs := I.stack
  frf := I.stkFree
theorem cst_len (hl : N'.length = nl + js.length) : (cst σ nl js).length = N'.length := by
  unfold cst
  rw [List.length_append, List.length_replicate, List.length_map, hl]
theorem cst_get {i : Nat} {v : V} (e : (cst σ nl js)[i]? = some (some v)) : ∃ k j, i = nl + k ∧ js[k]? = some j ∧ σ[j]? = some (some v) := by
  unfold cst at e
  by_cases hi : i < nl
  · rw [List.getElem?_append_left (by simpa using hi), List.getElem?_replicate] at e
    rw [if_pos hi] at e
    cases e
  · rw [List.getElem?_append_right (by simpa using hi), List.length_replicate, List.getElem?_map] at e
    cases q : js[i - nl]? with
    | none => rw [q] at e; cases e
    | some j =>
      rw [q] at e
      have e' : (σ[j]?).getD none = some v := by simpa using e
      refine ⟨i - nl, j, by omega, q, ?_⟩
      cases z : σ[j]? with
      | none => rw [z] at e'; cases e'
      | some w' => rw [z] at e'; simpa using e'
theorem blk_inv (S : CScope X sc N' nl js) (I : Inv X pins σ H s) {fp : List Addr} {C : Addr} {h' : Heap} {t' : Nat} {m : Str → Option Value} (hf : ∀ b ∈ fp, FpOk X pins H b) (hC : s.heap.objs.size ≤ C) (hfC : ∀ b ∈ fp, b ≠ C)
    (k : ∀ b u, s.heap.get? b = some u → h'.get? b = some u) (hn : h'.Ns C m) : Inv (blk X N' sc C s H fp) pins (cst σ nl js) H { s with heap := h', toks := t' } where
  ok := blk_ok S I hf hC hfC
  os := rfl
  bare := I.bare
  base := Un.kept k
  loc := by
    refine ⟨m, hn, fun i x v e1 e2 e3 => ?_⟩
    obtain ⟨q, j, rfl, hj, hv⟩ := cst_get e2
    obtain ⟨x', n1, n2, n3⟩ := S.cap q j hj
    have ex : x' = x := by
      have z : N'[nl + q]? = some x := e1
      rw [n1] at z; exact Option.some.inj z
    subst ex
    obtain ⟨m0, _, hl⟩ := I.loc
    have kf := S.frees (x', .free) (PySem.mem_of_lookup n3) rfl
    obtain ⟨u, r, l⟩ := hl j x' v n2 hv (by
      rcases kf with z | z
      · exact .inr (.inl z)
      · exact .inr (.inr z))
    refine ⟨u, r, ?_⟩
    rcases l with ⟨z, _⟩ | ⟨_, c, hc, hcell⟩
    · rcases kf with y | y
      · rw [z] at y; cases y
      · rw [z] at y; cases y
    · obtain ⟨c', hc'⟩ := Option.isSome_iff_exists.mp (clOf_has (en := X.env) sc.names [] x' (.inl (PySem.mem_of_lookup n3)))
      have e : c' = c := by
        have z := S.sub I.ok hc'
        rw [hc] at z; exact (Option.some.inj z).symm
      subst e
      obtain ⟨o, ho, hd⟩ := hcell
      exact .inr ⟨relabel_free n3, c', hc', ⟨o, k _ _ ho, hd⟩⟩
  cell := fun x c e => by
    obtain ⟨v, o, ho, hd⟩ := I.cell x c (S.sub I.ok e)
    exact ⟨v, o, k _ _ ho, hd⟩
  free := I.hok.fresh hC
  freeC := fun x c e => I.freeC x c (S.sub I.ok e)
  pin := fun p hp => by
    obtain ⟨e, n, ne, nf, d⟩ := I.pin p hp
    refine ⟨k _ _ e, n, Nat.ne_of_lt (Nat.lt_of_lt_of_le (Heap.lt_size e) hC), fun z => ?_, d⟩
    rcases List.mem_cons.mp (I.stkSub _ z) with y | y
    · exact ne y
    · exact nf y
  hok := I.hok.kept k
  len := cst_len S.len
end
theorem compLoop_any {prog : Program} {w : World} {A : Around} {R : Result → Shared → Prop} {s : Shared} {elt tg it' : Expr} {ifs : List Expr} {sc : Scope} {pos : Pos} {it acc : Value} {en : Env} (I : Nat → Shared → Prop)
    (turn : ∀ n s, I n s → wpAny (model prog w) A (pyNext it) (fun r s1 => match r with
      | none => R (.ok .next) s1
      | some v => wpAny (model prog w) A (letOwnedTupleGo tg it v) (fun _ s2 => wpAny (model prog w) A (assign tg en v) (fun _ s3 =>
          wpAny (model prog w) A (forIn ifs true fun c r => if r = true then do let ok ← isTrue c en (eval c en); pure (ForInStep.yield ok) else pure (ForInStep.yield r)) (fun ok s4 =>
            if ok = true then wpAny (model prog w) A (eval elt en) (fun x s5 => wpAny (model prog w) A (call (.builtin "list.append") [acc, x]) (fun _ s6 => ∃ m, m < n ∧ I m s6) (fun _ _ => False) s5) (fun _ _ => False) s4
            else ∃ m, m < n ∧ I m s4) (fun _ _ => False) s3) (fun _ _ => False) s2) (fun _ _ => False) s1) (fun _ _ => False) s)
    (n : Nat) (h : I n s) : codeAny (model prog w) A (.compLoop (.ListComp elt [⟨tg, it', ifs, 0⟩] sc pos) 0 it acc en) R s := by
  refine codeAny_loop rfl I (fun n s hI => ?_) n h
  show wpAny _ A ((compTurn (.ListComp elt [⟨tg, it', ifs, 0⟩] sc pos) 0 it acc en).onRaise (fun x => do noteFrame x en; theTreesLotGoes x)) _ _ s
  refine wpAny_noted ?_
  rw [compTurn_list]
  refine wpAny_bind (wpAny_standAt (wpAny_bind (wpAny_mono (turn n s hI) (fun r s1 h1 => ?_) fun _ _ z => z.elim)))
  cases r with
  | none => exact wpAny_pure h1
  | some v =>
    refine wpAny_bind (wpAny_mono h1 (fun _ s2 h2 => ?_) fun _ _ z => z.elim)
    refine wpAny_bind (wpAny_mono h2 (fun _ s3 h3 => ?_) fun _ _ z => z.elim)
    refine wpAny_bind (wpAny_mono h3 (fun ok s4 h4 => ?_) fun _ _ z => z.elim)
    cases ok with
    | false => exact wpAny_pure ⟨rfl, h4⟩
    | true =>
      refine wpAny_bind (wpAny_bind (wpAny_mono h4 (fun x s5 h5 => ?_) fun _ _ z => z.elim))
      exact wpAny_bind (wpAny_mono h5 (fun _ s6 h6 => wpAny_pure (wpAny_pure ⟨rfl, h6⟩)) fun _ _ z => z.elim)
def LcW (J : It) (g : TG) (tt : TT) (te : TE) (σ0 : St) (Q : VK) (H1 : Hp) : Prop :=
  ∃ W : Nat → Nat → List V → Hp → Prop, (∃ m, W 0 m [] H1) ∧ ∀ i m ys H, W i m ys H → ys.length ≤ sizeLine ∧
    ((J.stop i H ∧ ∀ p, H p = none → Q (.ref p) (upd H p (.lst ys))) ∨
     (J.go i H ∧ ∀ x H', J.yld i H x H' → g x σ0 H' fun σ2 H2 => Wk σ0 σ2 ∧ tt σ2 H2 fun k H3 => if k = true then te σ2 H3 fun v H4 => ys.length < sizeLine ∧ ∃ m', m' < m ∧ W (i + 1) m' (ys ++ [v]) H4 else ∃ m', m' < m ∧ W (i + 1) m' ys H3))
def tLc (wi : TI) (g : TG) (tt : TT) (te : TE) (nl : Nat) (js : List Nat) : TE := fun σ H Q => wi σ H fun J H1 => LcW J g tt te (cst σ nl js) Q H1
section
variable {X : Cx} {sc : Scope} {N' : List Str} {nl : Nat} {js : List Nat} {tg iter elt : Expr} {ifs : List Expr} {pos : Pos} {wi : TI} {g : TG} {tt : TT} {te : TE}
theorem lc_core {pins : List (Addr × Obj)} {σ : St} {H : Hp} {s : Shared} {E : Value → Shared → Prop} {RR : Value → Addr → Result → Shared → Prop} {it : Addr} {fp : List Addr} {tn : Nat → Heap → Prop} {J : It} {Q : VK} (hc : X.calm = true) (S : CScope X sc N' nl js)
    (hg : ∀ C s2 H2 ex, PG (blk X N' sc C s2 H2 ex) tg g) (ht : ∀ C s2 H2 ex, PIf (blk X N' sc C s2 H2 ex) ifs tt) (he : ∀ C s2 H2 ex, PE (blk X N' sc C s2 H2 ex) elt te)
    (I : Inv X pins σ H s) (T : Turn X.prog X.w X.K tg J fp it tn) (st : tn 0 s.heap) (hf : ∀ b ∈ fp, FpOk X pins H b) (h : LcW J g tt te (cst σ nl js) Q H)
    (fin : ∀ D C H' s' m, Inv X pins σ H' s' → s'.heap.Ns C m → FpOk X pins H' C → Q (.ref D) H' → RR (.ref D) C (.ok .next) s') :
    wpAny (model X.prog X.w) X.A (newList []) (fun acc s3 => wpAny (model X.prog X.w) X.A (newFunctionEnv sc X.env.globals (clOf X.env sc.names []) [] X.env.qual none .none (some X.env)) (fun cenv s4 =>
      codeAny (model X.prog X.w) X.A (.compStart (.ListComp elt [⟨tg, iter, ifs, 0⟩] sc pos) 0 (.ref it) acc { cenv with scope := relabel sc X.env }) (RR acc cenv.locals) s4) E s3) E s := by
  obtain ⟨W, ⟨m0, w0⟩, step⟩ := h
  refine wpAny_newObj_type (wpAny_newFunctionEnv S.nocell (by intro y hy; simp at hy) (fun h1 hns hsb => ?_) S.kind)
  dsimp only at hns hsb ⊢
  generalize hP : s.heap.push { cls := .type "list", dict := none, data := .seq ([] : List Value).toArray } = P1 at hns hsb ⊢
  have hCs : P1.objs.size = s.heap.objs.size + 1 := by rw [← hP, Heap.size_push]
  have hDC : s.heap.objs.size ≠ P1.objs.size := by rw [hCs]; exact Nat.ne_of_lt (Nat.lt_succ_self _)
  have hCle : s.heap.objs.size ≤ P1.objs.size := by rw [hCs]; exact Nat.le_succ _
  have ltf : ∀ b ∈ fp, b < s.heap.objs.size := fun b hb => by
    obtain ⟨o, e, _⟩ := T.obj 0 _ st b hb
    exact Heap.lt_size e
  have hfC : ∀ b ∈ fp, b ≠ P1.objs.size := fun b hb => Nat.ne_of_lt (Nat.lt_of_lt_of_le (ltf b hb) hCle)
  have old : ∀ b o, s.heap.get? b = some o → h1.get? b = some o := fun b o e =>
    hsb.extBut b o (Nat.ne_of_lt (Nat.lt_of_lt_of_le (Heap.lt_size e) hCle)) (Heap.get?_push_of_some _ (hP ▸ Heap.get?_push_of_some _ e))
  have accD : h1.get? s.heap.objs.size = some { cls := .type "list", data := .seq ([] : List Value).toArray 0 } := hsb.extBut _ _ hDC (Heap.get?_push_of_some _ (hP ▸ Heap.get?_push_size _ rfl))
  generalize hDd : s.heap.objs.size = D at *
  generalize hCd : P1.objs.size = C at *
  have ltp : ∀ p ∈ X.pn ++ pins, p.1 < D := fun p hp => by rw [← hDd]; exact Heap.lt_size (I.pin p hp).1
  have ltc : ∀ x c, X.env.cells.lookup x = some c → c < D := fun x c e => by
    obtain ⟨v, o, ho, _⟩ := I.cell x c e
    rw [← hDd]; exact Heap.lt_size ho
  have noD : D ∉ frs X.stack := fun z => by
    rcases List.mem_cons.mp (I.stkSub _ z) with y | y
    · have := I.lt; rw [← y, hDd] at this; exact Nat.lt_irrefl _ this
    · exact I.nofs (Nat.le_of_eq hDd) y
  have fpB : ∀ {H' : Hp} {o : Obj}, (∀ b ∈ fp, H' b = none) → ∀ b ∈ fp, FpOk (blk X N' sc C s H fp) (pins ++ [(D, o)]) H' b := fun {H' o} hn b hb => by
    obtain ⟨f0, f1, f2, f3, f4, f5⟩ := hf b hb
    refine ⟨hn b hb, hfC b hb, fun z => ?_, .inl hb, fun x c e => f4 x c (S.sub I.ok e), fun p hp => ?_⟩
    · rcases List.mem_cons.mp (I.stkSub _ z) with y | y
      · exact f1 y
      · exact f2 y
    · have hp' : p ∈ (X.pn ++ pins) ++ [(D, o)] := by rw [List.append_assoc]; exact hp
      rcases List.mem_append.mp hp' with z | z
      · exact f5 p z
      · have e : p = (D, o) := by simpa using z
        subst e
        exact Nat.ne_of_gt (ltf b hb)
  have repin : ∀ {σ' : St} {H' : Hp} {s' : Shared} {its : List Value} {c : Nat}, Inv (blk X N' sc C s H fp) pins σ' H' s' → H' D = none → s'.heap.get? D = some { cls := .type "list", data := .seq its.toArray c } →
      Inv (blk X N' sc C s H fp) (pins ++ [(D, { cls := .type "list", data := .seq its.toArray c })]) σ' H' s' := fun {σ' H' s' its c} I' hn e =>
    I'.pins_of fun p hp => by
      rcases List.mem_append.mp hp with z | z
      · exact I'.pin p (List.mem_append_right _ z)
      · have e' : p = (D, { cls := .type "list", data := .seq its.toArray c }) := by simpa using z
        subst e'
        exact ⟨e, hn, hDC, noD, fun v z => by cases z⟩
  have loop : ∀ s4 : Shared, s4 = { s with heap := h1, toks := s.toks + ([] : List (Str × Value)).length } →
      codeAny (model X.prog X.w) X.A (.compLoop (.ListComp elt [⟨tg, iter, ifs, 0⟩] sc pos) 0 (.ref it) (.ref D) (compEnvC sc (clOf X.env sc.names []) C X.env)) (RR (.ref D) C) s4 := by
    rintro s4 rfl
    refine compLoop_any (fun n s' => ∃ (i : Nat) (ys : List V) (H' : Hp) (its : List Value) (c : Nat), Inv (blk X N' sc C s H fp) (pins ++ [(D, { cls := .type "list", data := .seq its.toArray c })]) (cst σ nl js) H' s' ∧
      tn i s'.heap ∧ (∀ b ∈ fp, H' b = none) ∧ Vals ys its ∧ W i n ys H') ?_ m0 ⟨0, [], H, [], 0, ?_, ?_, fun b hb => (hf b hb).1, .nil, w0⟩
    · rintro n s' ⟨i, ys, H', its, c, I', st', fr', rv, w'⟩
      obtain ⟨hz, alt⟩ := step i n ys H' w'
      rcases alt with ⟨stop, qn⟩ | ⟨go, more⟩
      · refine wpAny_mono (T.done (blk X N' sc C s H fp) rfl rfl rfl hc i _ s' _ H' (fun _ _ => False) I' (fpB fr') st' stop) (fun r s5 ⟨hr, I5⟩ => ?_) fun _ _ z => z
        subst hr
        obtain ⟨eD, nD, _⟩ := I5.pin (D, _) (List.mem_append_right _ (List.mem_append_right _ List.mem_cons_self))
        dsimp only at eD nD
        obtain ⟨mC, hnC, _⟩ := I5.loc
        have hHD : H D = none := I.hok.fresh (Nat.le_of_eq hDd)
        have I6 : Inv X pins σ (upd H' D (.lst ys)) s5 := by
          refine I.call' (ch := fp) I5.os ?_ ?_ I5.bare fun b hb => ?_
          · have B : Un (frs X.stack) fp H H' s.heap s5.heap := I5.base
            refine ⟨B.keep, B.slot, fun b o e n hx => ?_, B.there, fun b xs e => ?_, fun b o u e => ?_, fun b ps e => ?_⟩
            · rw [upd_ne (by rw [← hDd]; exact Nat.ne_of_lt (Heap.lt_size e))]; exact B.free b o e n hx
            · rw [upd_ne (ne_of_none e hHD)]; exact B.tups b xs e
            · rw [upd_ne (ne_of_none e hHD)]; exact B.frzs b o u e
            · rw [upd_ne (ne_of_none e hHD)]; exact B.tbls b ps e
          · intro b u e
            by_cases hb : b = D
            · subst hb
              rw [upd_same] at e
              cases e
              exact ⟨hz, its, c, rv, eD⟩
            · rw [upd_ne hb] at e
              exact (I5.hok b u e).stay (fun _ _ _ q => q) (fun x q => by rw [upd_ne (ne_of_none q nD)]; exact q) fun x xs q => by rw [upd_ne (ne_of_none q nD)]; exact q
          · obtain ⟨f0, f1, f2, f3, f4, f5⟩ := hf b hb
            exact ⟨f3, f1, f4, f5⟩
        refine fin D C _ s5 mC I6 hnC ⟨?_, ?_, ?_, ?_, ?_, ?_⟩ (qn D nD)
        · rw [upd_ne (Ne.symm hDC)]; exact I5.free
        · have := I.lt; rw [hDd] at this; exact Nat.ne_of_gt (Nat.lt_of_lt_of_le this hCle)
        · exact I.nofs (by rw [hDd]; exact hCle)
        · exact .inr (Nat.le_trans I.sz (by rw [hDd]; exact hCle))
        · exact fun x c' e => Nat.ne_of_lt (Nat.lt_of_lt_of_le (ltc x c' e) hCle)
        · exact fun p hp => Nat.ne_of_lt (Nat.lt_of_lt_of_le (ltp p hp) hCle)
      · refine wpAny_mono (T.item (blk X N' sc C s H fp) rfl rfl rfl hc i _ s' _ H' (fun _ _ => False) I' (fpB fr') st' go) (fun r s5 ⟨u, hr, h5⟩ => ?_) fun _ _ z => z
        subst hr
        refine wpAny_mono h5 (fun _ s6 ⟨x, H6, I6, r6, y6, st6, fr6⟩ => ?_) fun _ _ z => z
        have I6' := I6.pinned (fpB fr6) (T.obj _ _ st6)
        refine wpAny_mono (hg C s H fp _ s6 _ H6 x u _ I6' r6 (more x H6 y6)) (fun _ s7 ⟨σ7, H7, I7, wk, q7⟩ => ?_) fun _ _ z => z
        refine wpAny_mono (ht C s H fp _ s7 σ7 H7 _ I7 q7) (fun ok s8 ⟨H8, I8, q8⟩ => ?_) fun _ _ z => z
        have again : ∀ {H9 : Hp} {s9 : Shared}, Inv (blk X N' sc C s H fp) ((pins ++ [(D, { cls := .type "list", data := .seq its.toArray c })]) ++ pinsAt fp s6.heap) σ7 H9 s9 →
            (∀ b ∈ fp, ∀ o, s6.heap.get? b = some o → s9.heap.get? b = some o) ∧ (∀ b ∈ fp, H9 b = none) := fun {H9 s9} I9 => by
          refine ⟨fun b hb o e => (I9.pin (b, o) (List.mem_append_right _ (List.mem_append_right _ (mem_pinsAt hb e)))).1, fun b hb => ?_⟩
          obtain ⟨o, e, d⟩ := T.obj _ _ st6 b hb
          exact (I9.pin (b, o) (List.mem_append_right _ (List.mem_append_right _ (mem_pinsAt hb e)))).2.1
        cases ok with
        | false =>
          rw [if_neg Bool.false_ne_true] at q8 ⊢
          obtain ⟨m', hm, w8⟩ := q8
          obtain ⟨k8, fr8⟩ := again I8
          exact ⟨m', hm, i + 1, ys, H8, its, c, I8.unpinned.weak wk.1 wk.2, T.keep _ _ _ st6 k8, fr8, rv, w8⟩
        | true =>
          rw [if_pos rfl] at q8 ⊢
          refine wpAny_mono (he C s H fp _ s8 σ7 H8 _ I8 q8) (fun y s9 ⟨v, H9, I9, r9, hz9, m', hm, w9⟩ => ?_) fun _ _ z => z
          obtain ⟨k9, fr9⟩ := again I9
          have I9' := I9.unpinned
          obtain ⟨eD, nD, _⟩ := I9'.pin (D, _) (List.mem_append_right _ (List.mem_append_right _ List.mem_cons_self))
          dsimp only at eD nD
          have hl := rv.length
          refine wpAny_list_append_plain ⟨c, eD⟩ (fun h' pl sb => ?_) (by rw [List.size_toArray]; omega)
          have I10 : Inv (blk X N' sc C s H fp) pins σ7 H9 { s9 with heap := h' } := I9'.unpinned.turned (it := D) (t' := s9.toks) (fun b o hb e => (sb.2 b hb).trans e) nD hDC
            (.inr (Nat.le_of_eq hDd)) (fun x c' e => Nat.ne_of_lt (ltc x c' (S.sub I.ok e))) fun p hp => Nat.ne_of_lt (ltp p hp)
          obtain ⟨c2, e2⟩ := pl
          have ea : its.toArray.push y = (its ++ [y]).toArray := by simp
          rw [ea] at e2
          refine ⟨m', hm, i + 1, ys ++ [v], H9, its ++ [y], c2, (repin I10 nD e2).weak wk.1 wk.2, T.keep _ _ _ st6 fun b hb o e => ?_, fr9, rv.append (.cons r9 .nil), w9⟩
          exact (sb.2 b (Nat.ne_of_lt (ltf b hb))).trans (k9 b hb o e)
    · exact repin (blk_inv S I hf (by rw [hDd]; exact hCle) hfC old hns) (I.hok.fresh (Nat.le_of_eq hDd)) accD
    · exact T.keep _ _ _ st fun b _ o e => old b o e
  exact codeAny_compStart_list (loop _ rfl) (T.self _ 0 _ _ _ (T.keep _ _ _ st fun b _ o e => old b o e) (loop _ rfl))
theorem pe_lc (hc : X.calm = true) (S : CScope X sc N' nl js) (hi : PI X tg iter wi)
    (hg : ∀ C s2 H2 ex, PG (blk X N' sc C s2 H2 ex) tg g) (ht : ∀ C s2 H2 ex, PIf (blk X N' sc C s2 H2 ex) ifs tt) (he : ∀ C s2 H2 ex, PE (blk X N' sc C s2 H2 ex) elt te)
    (hs : ∀ x, foldedSetIterable iter X.env x = pure x := by intro _; rfl) : PE X (.ListComp elt [⟨tg, iter, ifs, 0⟩] sc pos) (tLc wi g tt te nl js) := by
  intro pins s σ H Q I h
  rw [eval_ListComp]
  refine wpAny_comprehension_free (use := none) rfl hs (closureFor_cl (S.hasC I.ok)) S.kind S.locs (thn (hi pins s σ H _ I h) fun v s1 h1 => thn h1 fun itv s2 h2 => ?_)
  obtain ⟨it, fp, tn, J, H2, rfl, I2, T, st2, f2, q2⟩ := h2
  refine lc_core (RR := fun acc C => compPost (model X.prog X.w) X.A X.xe none (EP X pins σ Q) acc C) hc S hg ht he I2 T st2 f2 q2 fun D C H' s' m I' hn ⟨f0, f1, f2, f3, f4, f5⟩ q => ?_
  exact ⟨m, hn, fun h' sb => ⟨.ref D, H', I'.turned (it := C) (t' := s'.toks) (fun b o hb e => (sb.2 b hb).trans e) f0 f1 f3 f4 f5, rfl, q⟩⟩
theorem ps_setlc {i : Nat} {x : Str} {pos' spos : Pos} (hc : X.calm = true) (S : CScope X sc N' nl js) (hi : PI X tg iter wi)
    (hg : ∀ C s2 H2 ex, PG (blk X N' sc C s2 H2 ex) tg g) (ht : ∀ C s2 H2 ex, PIf (blk X N' sc C s2 H2 ex) ifs tt) (he : ∀ C s2 H2 ex, PE (blk X N' sc C s2 H2 ex) elt te)
    (hN : X.N.Nodup) (hx : X.N[i]? = some x) (hloc : X.env.scope.names.lookup x = some .local)
    (hsw : swapsWith (.ListComp elt [⟨tg, iter, ifs, 0⟩] sc pos) (some (.Name x pos')) spos.line X.env = pure true := by rfl) (hs : ∀ x, foldedSetIterable iter X.env x = pure x := by intro _; rfl) :
    PS X (.Assign [.Name x pos'] (.ListComp elt [⟨tg, iter, ifs, 0⟩] sc pos) spos) (tAsg (tLc wi g tt te nl js) (gName i)) := by
  intro pins s σ H D0 I h
  rw [exec_Assign_Name_used _ _ _ _ hsw]
  refine wpAny_bind (wpAny_standAt (wpAny_bind ?_))
  show wpAny _ X.A (do let _ ← comprehension (.ListComp elt [⟨tg, iter, ifs, 0⟩] sc pos) sc X.env _ (newList []) false (eval iter X.env) (some (assign (.Name x pos') X.env))) _ _ s
  refine wpAny_bind (wpAny_mono (wpAny_comprehension_free (use := some (assign (.Name x pos') X.env)) (Q := fun _ s' => SP X pins D0 .next s') rfl hs (closureFor_cl (S.hasC I.ok)) S.kind S.locs
    (thn (hi pins s σ H _ I h) fun v s1 h1 => thn h1 fun itv s2 h2 => ?_)) (fun _ s' hq => wpAny_pure (wpAny_pure hq)) fun _ _ e => e)
  obtain ⟨it, fp, tn, J, H2, rfl, I2, T, st2, f2, q2⟩ := h2
  refine lc_core (RR := fun acc C => compPost (model X.prog X.w) X.A X.xe (some (assign (.Name x pos') X.env)) (fun _ s' => SP X pins D0 .next s') acc C) hc S hg ht he I2 T st2 f2 q2 fun D C H' s' m I' hn ⟨f0, f1, f2, f3, f4, f5⟩ q => ?_
  show wpAny _ X.A (assign (.Name x pos') X.env (.ref D)) _ _ s'
  obtain ⟨o, es, ep, ho, hd, r⟩ := hn
  have I2' : Inv X (pins ++ [(C, o)]) σ H' s' := I'.pins_of fun p hp => by
    rcases List.mem_append.mp hp with z | z
    · exact I'.pin p (List.mem_append_right _ z)
    · have e' : p = (C, o) := by simpa using z
      subst e'
      exact ⟨ho, f0, f1, f2, fun v z => by rw [hd] at z; cases z⟩
  refine wpAny_assign_Name (store_ok I2' hN hx (.inl hloc) (v := .ref D) rfl (fun s3 I3 => ?_) (.inr hloc))
  obtain ⟨e3, _⟩ := I3.pin (C, o) (List.mem_append_right _ (List.mem_append_right _ List.mem_cons_self))
  refine ⟨m, ⟨o, es, ep, e3, hd, r⟩, fun h' sb => ⟨_, H', I3.unpinned.turned (it := C) (t' := s3.toks) (fun b o hb e => (sb.2 b hb).trans e) f0 f1 f3 f4 f5, q⟩⟩
end
end L2
namespace L2
open PySem PySem.Spec PyProof.Rows
theorem Vals.tog : ∀ {xs : List V} {us : List Value} {i : Nat} {u : Value}, Vals xs us → us[i]? = some u → ∃ x, xs[i]? = some x ∧ RelV x u
  | _, _, _, _, .nil, e => by simp at e
  | _, _, 0, _, .cons r _, e => by simp at e; subst e; exact ⟨_, rfl, r⟩
  | _, _, i + 1, u, .cons _ t, e => by
    obtain ⟨x, h1, h2⟩ := Vals.tog (i := i) (u := u) t (by simpa using e)
    exact ⟨x, by simpa using h1, h2⟩
theorem Vals.ints_at {ns : List Int} {us : List Value} {i : Nat} {u : Value} (r : Vals (ns.map V.int) us) (e : us.toArray[i]? = some u) : ∃ t, u = .int (ns.getD i 0) t := by
  obtain ⟨x, h1, h2⟩ := r.tog (i := i) (u := u) (by simpa using e)
  rw [List.getElem?_map] at h1
  cases q : ns[i]? with
  | none => rw [q] at h1; cases h1
  | some z =>
    rw [q] at h1
    have e' : V.int z = x := Option.some.inj h1
    subst e'
    obtain ⟨t, rfl⟩ := h2
    exact ⟨t, by rw [List.getD_eq_getElem?_getD, q]; rfl⟩
theorem preSum_take (ns : List Int) : ∀ k, preSum (fun i => ns.getD i 0) k = (ns.take k).sum
  | 0 => by simp [preSum]
  | k + 1 => by
    rw [preSum, preSum_take ns k, List.take_add_one, List.sum_append, List.getD_eq_getElem?_getD]
    cases ns[k]? <;> simp
section
variable {X : Cx} {pins : List (Addr × Obj)} {σ : St} {H : Hp} {s : Shared}
theorem Inv.moved {o : Obj} {s' : Shared} (I : Inv X pins σ H s) (mv : Moved [s.heap.objs.size] (fun a b => b = a) { s with heap := s.heap.push o } s') : Inv X pins σ H s' := by
  have k : ∀ b u, s.heap.get? b = some u → s'.heap.get? b = some u := fun b u e => mv.heap b u (fun z => by
    have z' : b = s.heap.objs.size := by simpa using z
    exact absurd (Heap.lt_size e) (by rw [z']; exact Nat.lt_irrefl _)) (Heap.get?_push_of_some _ e)
  exact I.call' (ch := []) mv.os (Un.kept k) (I.hok.kept k) (by rw [mv.gens]; exact I.bare) fun b z => absurd z (by simp)
theorem iter_seq {A : Around} {E : Value → Shared → Prop} {Q : Value → Shared → Prop} {p : Addr} {ys : List V} (hh : A.handled = none) (I : Inv X pins σ H s) (hq : SqL X.K H p ys ∨ SqT X.K H p ys)
    (h : ∀ (it : Addr) (its : List Value) (fp : List Addr) (T : Nat → Heap → Prop) (s2 : Shared), Vals ys its → Walks X.prog X.w A it fp [it] its.toArray.size (fun i v => its.toArray[i]? = some v) T → T 0 s2.heap → (∀ b ∈ fp, b < s2.heap.objs.size) →
      (∀ s', Moved [it] (fun a b => b = a) s2 s' → Inv X pins σ H s') → Q (.ref it) s2) : wpAny (model X.prog X.w) A (pyIter (.ref p)) Q E s := by
  rcases hq with hq | hq
  · obtain ⟨its, r, pl, hz⟩ := I.list hq
    obtain ⟨o, ho, _⟩ := id pl.isList
    have hlt := Heap.lt_size ho
    refine wpAny_pyIter_list pl.isList (h s.heap.objs.size its [s.heap.objs.size, p] _ _ r (Walks.list hh _ p (Nat.ne_of_lt hlt) its.toArray) ⟨⟨_, Heap.get?_push_size _ rfl, rfl, rfl⟩, pl.isList.at fun o e => Heap.get?_push_of_some _ e⟩ (fun b hb => ?_) fun s' mv => I.moved mv)
    dsimp only
    rw [Heap.size_push]
    rcases List.mem_cons.mp hb with z | z
    · rw [z]; exact Nat.lt_succ_self _
    · have z' : b = p := by simpa using z
      rw [z']; exact Nat.lt_succ_of_lt hlt
  · obtain ⟨its, r, pl, hz⟩ := I.tuple hq
    have pt : s.heap.IsTuple p its.toArray := pl
    obtain ⟨o, ho, _⟩ := id pt
    have hlt := Heap.lt_size ho
    refine wpAny_pyIter_tuple pt (h s.heap.objs.size its [s.heap.objs.size, p] _ _ r (Walks.tuple hh _ p (Nat.ne_of_lt hlt) its.toArray) ⟨⟨_, Heap.get?_push_size _ rfl, rfl, rfl⟩, pt.at fun o e => Heap.get?_push_of_some _ e⟩ (fun b hb => ?_) fun s' mv => I.moved mv)
    dsimp only
    rw [Heap.size_push]
    rcases List.mem_cons.mp hb with z | z
    · rw [z]; exact Nat.lt_succ_self _
    · have z' : b = p := by simpa using z
      rw [z']; exact Nat.lt_succ_of_lt hlt
end
section
variable {X : Cx}
theorem call_sum_seq (hc : X.calm = true) : CallR X (.builtin "sum") (fun xs H Q => ∃ (p : Addr) (ns : List Int), xs = [.ref p] ∧ (SqL X.K H p (ns.map V.int) ∨ SqT X.K H p (ns.map V.int)) ∧ Q (.int ns.sum) H) := by
  intro pins s σ H xs us Q I r h
  obtain ⟨p, ns, rfl, hq, q⟩ := h
  obtain ⟨u, rfl, rx⟩ := vals1 r
  cases rx
  refine call_sum_walkAnyS (iter_seq (I.ok.hd hc) I hq fun it its fp T s2 rv W st hfp inv => ⟨it, fp, [it], _, _, _, _, fun i => ns.getD i 0, rfl, W.toS, st, hfp, fun i v e => rv.ints_at e, fun s' t' mv => ?_⟩)
  have hl : its.toArray.size = ns.length := by
    have := rv.length
    rw [List.length_map] at this
    rw [List.size_toArray]; omega
  refine ⟨.int ns.sum, H, inv s' mv, ⟨t', ?_⟩, q⟩
  rw [preSum_take, hl, List.take_length]
def tv : V → Bool
  | .bl b => b
  | .int i => i != 0
  | _ => false
def isBI : V → Bool
  | .bl _ => true
  | .int _ => true
  | _ => false
theorem truth_of {ys : List V} {its : List Value} {A : Around} (rv : Vals ys its) (hb : ys.all isBI = true) : TruthOf X.prog X.w A (fun i v => its.toArray[i]? = some v) (fun i => tv (ys.getD i .non)) := by
  intro i v s Q E e h
  obtain ⟨x, h1, h2⟩ := rv.tog (i := i) (u := v) (by simpa using e)
  have hx : isBI x = true := List.all_eq_true.mp hb x (List.mem_of_getElem? h1)
  dsimp only at h
  rw [List.getD_eq_getElem?_getD, h1] at h
  cases x with
  | bl b => cases h2; exact wpAny_truthy_bool h
  | int i => obtain ⟨t, rfl⟩ := h2; exact PySem.P.truthy_int h
  | _ => exact absurd (show false = true from hx) Bool.false_ne_true
theorem range_all {ys : List V} (f : V → Bool) : (List.range ys.length).all (fun i => f (ys.getD i .non)) = ys.all f := by
  rw [Bool.eq_iff_iff, List.all_eq_true, List.all_eq_true]
  constructor
  · intro h x hx
    obtain ⟨i, hi, rfl⟩ := List.mem_iff_getElem.mp hx
    have := h i (List.mem_range.mpr hi)
    rwa [List.getD_eq_getElem?_getD, List.getElem?_eq_getElem hi] at this
  · intro h i hi
    have hi' := List.mem_range.mp hi
    rw [List.getD_eq_getElem?_getD, List.getElem?_eq_getElem hi']
    exact h _ (List.getElem_mem hi')
theorem range_any {ys : List V} (f : V → Bool) : (List.range ys.length).any (fun i => f (ys.getD i .non)) = ys.any f := by
  rw [Bool.eq_iff_iff, List.any_eq_true, List.any_eq_true]
  constructor
  · rintro ⟨i, hi, h⟩
    have hi' := List.mem_range.mp hi
    rw [List.getD_eq_getElem?_getD, List.getElem?_eq_getElem hi'] at h
    exact ⟨_, List.getElem_mem hi', h⟩
  · rintro ⟨x, hx, h⟩
    obtain ⟨i, hi, rfl⟩ := List.mem_iff_getElem.mp hx
    exact ⟨i, List.mem_range.mpr hi, by rw [List.getD_eq_getElem?_getD, List.getElem?_eq_getElem hi]; exact h⟩
theorem call_all_seq (hc : X.calm = true) : CallR X (.builtin "all") (fun xs H Q => ∃ (p : Addr) (ys : List V), xs = [.ref p] ∧ (SqL X.K H p ys ∨ SqT X.K H p ys) ∧ ys.all isBI = true ∧ Q (.bl (ys.all tv)) H) := by
  intro pins s σ H xs us Q I r h
  obtain ⟨p, ys, rfl, hq, hb, q⟩ := h
  obtain ⟨u, rfl, rx⟩ := vals1 r
  cases rx
  refine call_all_walkS (iter_seq (I.ok.hd hc) I hq fun it its fp T s2 rv W st hfp inv => ⟨it, fp, [it], _, _, _, _, _, rfl, W.toS, st, truth_of rv hb, fun s' mv => ?_⟩)
  refine ⟨.bl (ys.all tv), H, inv s' mv, ?_, q⟩
  show Value.bool _ = Value.bool _
  rw [List.size_toArray, ← rv.length, range_all]
theorem call_any_seq (hc : X.calm = true) : CallR X (.builtin "any") (fun xs H Q => ∃ (p : Addr) (ys : List V), xs = [.ref p] ∧ (SqL X.K H p ys ∨ SqT X.K H p ys) ∧ ys.all isBI = true ∧ Q (.bl (ys.any tv)) H) := by
  intro pins s σ H xs us Q I r h
  obtain ⟨p, ys, rfl, hq, hb, q⟩ := h
  obtain ⟨u, rfl, rx⟩ := vals1 r
  cases rx
  refine call_any_walkS (iter_seq (I.ok.hd hc) I hq fun it its fp T s2 rv W st hfp inv => ⟨it, fp, [it], _, _, _, _, _, rfl, W.toS, st, truth_of rv hb, fun s' mv => ?_⟩)
  refine ⟨.bl (ys.any tv), H, inv s' mv, ?_, q⟩
  show Value.bool _ = Value.bool _
  rw [List.size_toArray, ← rv.length, range_any]
end
structure ItOk (J : It) (n : Nat) (val : Nat → V) (C : Hp → Prop) : Prop where
  go : ∀ i H, C H → i < n → J.go i H
  yld : ∀ i H x H', C H → i < n → J.yld i H x H' → H' = H ∧ x = val i
  stop : ∀ i H, C H → n ≤ i → J.stop i H
theorem itok_list {K : PySem.W.Frag} {a : Addr} {xs : List V} : ItOk (Itl K a) xs.length (fun i => xs.getD i .non) (fun H => SqL K H a xs) where
  go := fun i H q hi => ⟨xs, xs[i], q, by simp [hi]⟩
  yld := fun i H x H' q hi ⟨e, y⟩ => ⟨e, by rw [List.getD_eq_getElem?_getD, y xs q]; rfl⟩
  stop := fun i H q hi => ⟨xs, q, hi⟩
theorem itok_tup {K : PySem.W.Frag} {a : Addr} {xs : List V} : ItOk (Itt K a) xs.length (fun i => xs.getD i .non) (fun H => SqT K H a xs) where
  go := fun i H q hi => ⟨xs, xs[i], q, by simp [hi]⟩
  yld := fun i H x H' q hi ⟨e, y⟩ => ⟨e, by rw [List.getD_eq_getElem?_getD, y xs q]; rfl⟩
  stop := fun i H q hi => ⟨xs, q, hi⟩
theorem itok_range {lo : Int} {n : Nat} : ItOk (Itr lo n) n (fun i => .int (lo + (i : Nat))) (fun _ => True) where
  go := fun i H _ hi => hi
  yld := fun i H x H' _ hi ⟨e, y⟩ => ⟨e, y⟩
  stop := fun i H _ hi => hi
theorem lc_by {J : It} {n : Nat} {val : Nat → V} {C : Hp → Prop} {g : TG} {tt : TT} {te : TE} {σ0 : St} {Q : VK} {H : Hp} (O : ItOk J n val C) (Pv : Nat → List V → Hp → Prop) (hn : n ≤ sizeLine) (h0 : Pv 0 [] H) (hl : ∀ i ys H, i ≤ n → Pv i ys H → C H ∧ ys.length ≤ i)
    (hs : ∀ i ys H, i < n → Pv i ys H → g (val i) σ0 H fun σ2 H2 => Wk σ0 σ2 ∧ tt σ2 H2 fun k H3 => if k = true then te σ2 H3 fun v H4 => ys.length < sizeLine ∧ ∃ m', m' < n - i ∧ (m' = n - (i + 1) ∧ i + 1 ≤ n ∧ Pv (i + 1) (ys ++ [v]) H4) else ∃ m', m' < n - i ∧ (m' = n - (i + 1) ∧ i + 1 ≤ n ∧ Pv (i + 1) ys H3))
    (hd : ∀ ys H, Pv n ys H → ∀ p, H p = none → Q (.ref p) (upd H p (.lst ys))) : LcW J g tt te σ0 Q H := by
  refine ⟨fun i m ys H => m = n - i ∧ i ≤ n ∧ Pv i ys H, ⟨n, by simp, Nat.zero_le _, h0⟩, ?_⟩
  rintro i m ys H ⟨rfl, hi, p⟩
  obtain ⟨c, hy⟩ := hl i ys H hi p
  refine ⟨by omega, ?_⟩
  by_cases hlt : i < n
  · refine .inr ⟨O.go i H c hlt, fun x H' y => ?_⟩
    obtain ⟨rfl, rfl⟩ := O.yld i H x H' c hlt y
    exact hs i ys _ hlt p
  · have e : i = n := by omega
    subst e
    exact .inl ⟨O.stop _ H c (Nat.le_refl _), hd ys H p⟩
theorem for_by {J : It} {n : Nat} {val : Nat → V} {C : Hp → Prop} {g : TG} {tb : TS} {D : Ends} {σ : St} {H : Hp} (O : ItOk J n val C) (Pv : Nat → St → Hp → Prop) (h0 : Pv 0 σ H) (hl : ∀ i σ H, i ≤ n → Pv i σ H → C H)
    (hs : ∀ i σ H, i < n → Pv i σ H → g (val i) σ H fun σ2 H2 => tb { D with nx := Pv (i + 1), ct := Pv (i + 1), bk := D.nx } σ2 H2) (hd : ∀ σ H, Pv n σ H → D.nx σ H) :
    ∃ W : Nat → Nat → St → Hp → Prop, (∃ m, W 0 m σ H) ∧ ∀ i m σ H, W i m σ H →
      (J.stop i H ∧ D.nx σ H) ∨ (J.go i H ∧ ∃ N : St → Hp → Prop, (∀ σ' H', N σ' H' → ∃ m', m' < m ∧ W (i + 1) m' σ' H') ∧ ∀ x H', J.yld i H x H' → g x σ H' fun σ2 H2 => tb { D with nx := N, ct := N, bk := D.nx } σ2 H2) := by
  refine ⟨fun i m σ H => m = n - i ∧ i ≤ n ∧ Pv i σ H, ⟨n, by simp, Nat.zero_le _, h0⟩, ?_⟩
  rintro i m σ H ⟨rfl, hi, p⟩
  have c := hl i σ H hi p
  by_cases hlt : i < n
  · refine .inr ⟨O.go i H c hlt, Pv (i + 1), fun σ' H' p' => ⟨n - (i + 1), by omega, rfl, hlt, p'⟩, fun x H' y => ?_⟩
    obtain ⟨rfl, rfl⟩ := O.yld i H x H' c hlt y
    exact hs i σ _ hlt p
  · have e : i = n := by omega
    subst e
    exact .inl ⟨O.stop _ H c (Nat.le_refl _), hd σ H p⟩
theorem wk_set {σ0 : St} {i : Nat} {v : Option V} (h : σ0[i]? = some none) : Wk σ0 (σ0.set i v) := by
  refine ⟨by rw [List.length_set], fun j w' e => ?_⟩
  by_cases hj : i = j
  · subst hj; rw [h] at e; cases e
  · rw [List.getElem?_set_ne hj]; exact e
theorem Same.new {H : Hp} {p : Addr} {o : HO} (h : H p = none) : Same H (upd H p o) := fun b u e => by
  rw [upd_ne (ne_of_none e h)]
  exact e
theorem Same.tup {K : PySem.W.Frag} {H H' : Hp} {a : Addr} {xs : List V} (e : Same H H') (h : SqT K H a xs) : SqT K H' a xs := by
  rcases h with (h | ⟨o, h⟩) | h
  · exact .inl (.inl (e _ _ h))
  · exact .inl (.inr ⟨o, e _ _ h⟩)
  · exact .inr h
theorem Same.next {H H1 : Hp} {p : Addr} {o : HO} (s : Same H H1) (h : H1 p = none) : Same H (upd H1 p o) := s.trans (Same.new h)
end L2
namespace L2
open PySem PySem.Spec PyProof.Rows
def tCut (t : TS) : TS := fun D σ H => ∃ M : St → Hp → Prop, t { D with nx := M } σ H ∧ ∀ σ' H', M σ' H' → D.nx σ' H'
theorem ps_cut {X : Cx} {st : Stmt} {t : TS} (h : PS X st t) : PS X st (tCut t) := by
  intro pins s σ H D I hw
  obtain ⟨M, h1, h2⟩ := hw
  refine thn (h pins s σ H { D with nx := M } I h1) fun f s' q => ?_
  cases f with
  | next => obtain ⟨σ', H', I', q⟩ := q; exact ⟨σ', H', I', h2 _ _ q⟩
  | brk => exact q
  | cont => exact q
  | ret u => exact q
theorem PI.or {X : Cx} {tg e : Expr} {w1 w2 : TI} (h1 : PI X tg e w1) (h2 : PI X tg e w2) : PI X tg e (fun σ H R => w1 σ H R ∨ w2 σ H R) := by
  intro pins s σ H R I h
  rcases h with h | h
  · exact h1 pins s σ H R I h
  · exact h2 pins s σ H R I h
def Def (P : Program) (w : World) (K : PySem.W.Frag) (mg : Str → Option Value) (base : Heap) (k : Nat) (x : Str) (ps : List Str) (sp : Sp) : Prop :=
  ∃ f fd, FnOk P w K mg base CX0 k f fd ps sp ∧ mg x = some (.ref f) ∧ PySem.W.keepIn K (.ref f) = true ∧ Binds K fd ps []
theorem Def.of {P : Program} {w : World} {K : PySem.W.Frag} {mg : Str → Option Value} {base : Heap} {k : Nat} {x qual : Str} {ps : List Str} {sp : Sp} {st : Stmt} {f : Addr} {fd : FuncData}
    (F : Fun K x qual st f fd) (m : mg x = some (.ref f)) (b : Binds K fd ps []) (ok : FnOk P w K mg base CX0 k f fd ps sp) : Def P w K mg base k x ps sp := ⟨f, fd, ok, m, F.kp, b⟩
theorem pe_def {X : Cx} {k : Nat} {x : Str} {ps : List Str} {sp : Sp} {e : Expr} {es : List Expr} {t : TA} {p pos : Pos} (D : Def X.prog X.w X.K X.mg X.base k x ps sp) (hr : Room k X.A) (hg : Gl X x) (ha : PA X (e :: es) t)
    (hdb : (x == ("__debug__" : Str)) = false := by decide) (he : starEach (e :: es) X.env = (false, eval e X.env) :: starEach es X.env := by rfl) (hpl : (backTo pos (starEach es X.env)).any (·.1) = false := by rfl) :
    PE X (.Call (.Name x p) (e :: es) [] pos) (tCall sp [] E0 t) := by
  obtain ⟨f, fd, F, m, kp, b⟩ := D
  exact pe_call F hr hg m kp b .nil pass0 ha hdb he hpl
def cchk (osc : Scope) (N : List Str) (sc : Scope) (N' : List Str) (nl : Nat) (js : List Nat) : Bool :=
  sc.kind == .function && sc.names.all (fun y => y.2 != .cell) && sc.names.all (fun y => y.2 != .local || sc.names.lookup y.1 == some .local) &&
  sc.names.all (fun y => y.2 != .free || (osc.names.lookup y.1 == some .cell || osc.names.lookup y.1 == some .free)) && (N'.length == nl + js.length) &&
  (List.range js.length).all (fun i => match js[i]?, N'[nl + i]? with | some j, some x => N[j]? == some x && sc.names.lookup x == some .free | _, _ => false)
theorem CScope.of {X : Cx} {osc sc : Scope} {N N' : List Str} {nl : Nat} {js : List Nat} (h : cchk osc N sc N' nl js = true) (h1 : X.env.scope = osc) (h2 : X.N = N) : CScope X sc N' nl js := by
  unfold cchk at h
  simp only [Bool.and_eq_true] at h
  obtain ⟨⟨⟨⟨⟨a1, a2⟩, a3⟩, a4⟩, a5⟩, a6⟩ := h
  refine ⟨by simpa using a1, fun y hy e => ?_, fun y hy e => ?_, fun y hy e => ?_, fun i j e => ?_, by simpa using a5⟩
  · have := List.all_eq_true.mp a2 y hy
    rw [e] at this
    exact absurd this (by decide)
  · have := List.all_eq_true.mp a3 y hy
    rw [e] at this
    simpa using this
  · have := List.all_eq_true.mp a4 y hy
    rw [e] at this
    have this : (osc.names.lookup y.1 == some .cell || osc.names.lookup y.1 == some .free) = true := by simpa using this
    show X.env.scope.names.lookup y.1 = _ ∨ X.env.scope.names.lookup y.1 = _
    rw [h1]
    simpa using this
  · have hi : i < js.length := (List.getElem?_eq_some_iff.mp e).1
    have := List.all_eq_true.mp a6 i (List.mem_range.mpr hi)
    rw [e] at this
    cases q : N'[nl + i]? with
    | none => rw [q] at this; exact absurd (show false = true from this) Bool.false_ne_true
    | some x =>
      rw [q] at this
      dsimp only at this
      rw [Bool.and_eq_true] at this
      exact ⟨x, rfl, by rw [h2]; simpa using this.1, by simpa using this.2⟩
theorem at_int {ns : List Int} {k : Int} (h0 : 0 ≤ k) (h : k < (ns.length : Int)) : atI (ns.map V.int) k = some (.int (ns.getD k.toNat 0)) := by
  have hk : k.toNat < ns.length := by omega
  have := atI_nat (xs := ns.map V.int) (j := k.toNat) (v := .int (ns.getD k.toNat 0)) (by rw [List.getElem?_map, List.getD_eq_getElem?_getD, List.getElem?_eq_getElem hk]; rfl)
  rwa [Int.toNat_of_nonneg h0] at this
theorem flat_ints (ns : List Int) : (ns.map V.int).all flatV = true := by
  rw [List.all_eq_true]
  intro x hx
  obtain ⟨n, _, rfl⟩ := List.mem_map.mp hx
  rfl
theorem inV_ints (z : Int) (ns : List Int) : inV (.int z) (ns.map V.int) = ns.any (· == z) := by
  unfold inV
  rw [List.any_map]
  rfl
theorem getD_map_int {ns : List Int} {i : Nat} (h : i < (ns.map V.int).length) : ∃ z, (ns.map V.int).getD i .non = .int z ∧ ns[i]? = some z := by
  rw [List.length_map] at h
  refine ⟨ns[i], ?_, List.getElem?_eq_getElem h⟩
  rw [List.getD_eq_getElem?_getD, List.getElem?_map, List.getElem?_eq_getElem h]
  rfl
theorem take_snoc {α : Type} {l : List α} {i : Nat} {z : α} (h : l[i]? = some z) : l.take (i + 1) = l.take i ++ [z] := by
  rw [List.take_add_one, h]
  rfl
end L2
namespace L2
open PySem
theorem kit_self (K : PySem.W.Frag) (t : Value) : PySem.W.kitOne K t t = some true := by
  unfold PySem.W.kitOne
  rw [if_pos (by simp)]
end L2
namespace L2
open PySem PySem.Spec PyProof.Rows
mutual
inductive DatV (K : PySem.W.Frag) (H : Hp) : V → PyData → Prop
  | non : DatV K H .non .none
  | bl (b : Bool) : DatV K H (.bl b) (.bool b)
  | int (i : Int) : DatV K H (.int i) (.int i)
  | str (x : Str) : DatV K H (.str x) (.str x)
  | lst {a : Addr} {xs : List V} {ds : List PyData} : SqL K H a xs → DatVs K H xs ds → DatV K H (.ref a) (.list ds)
  | tup {a : Addr} {xs : List V} {ds : List PyData} : SqT K H a xs → DatVs K H xs ds → DatV K H (.ref a) (.tuple ds)
inductive DatVs (K : PySem.W.Frag) (H : Hp) : List V → List PyData → Prop
  | nil : DatVs K H [] []
  | cons {x : V} {d : PyData} {xs : List V} {ds : List PyData} : DatV K H x d → DatVs K H xs ds → DatVs K H (x :: xs) (d :: ds)
end
section
variable {X : Cx} {pins : List (Addr × Obj)} {σ : St} {H : Hp} {s : Shared}
mutual
theorem DatV.reads (I : Inv X pins σ H s) : ∀ {x : V} {d : PyData} {u : Value}, DatV X.K H x d → RelV x u → ∃ as, Reads s.heap u d as
  | _, _, _, .non, r => by cases r; exact ⟨_, .none⟩
  | _, _, _, .bl b, r => by cases r; exact ⟨_, .bool b⟩
  | _, _, _, .int i, r => by obtain ⟨t, rfl⟩ := r; exact ⟨_, .int i t⟩
  | _, _, _, .str x, r => by obtain ⟨t, rfl⟩ := r; exact ⟨_, .str x t⟩
  | _, _, _, .lst hq h, r => by
    cases r
    obtain ⟨its, rv, pl, _⟩ := I.list hq
    obtain ⟨o, n, e, c, _, d⟩ := pl
    obtain ⟨as, q⟩ := DatVs.reads I h rv
    exact ⟨_, .list e c d (by simpa using q)⟩
  | _, _, _, .tup hq h, r => by
    cases r
    obtain ⟨its, rv, pl, _⟩ := I.tuple hq
    obtain ⟨o, e, c, n, d⟩ := pl
    obtain ⟨as, q⟩ := DatVs.reads I h rv
    exact ⟨_, .tuple e c d (by simpa using q)⟩
theorem DatVs.reads (I : Inv X pins σ H s) : ∀ {xs : List V} {ds : List PyData} {us : List Value}, DatVs X.K H xs ds → Vals xs us → ∃ as, ReadsAll s.heap us ds as
  | _, _, _, .nil, .nil => ⟨_, .nil⟩
  | _, _, _, .cons h t, .cons r rr => by
    obtain ⟨as, q⟩ := DatV.reads I h r
    obtain ⟨bs, q'⟩ := DatVs.reads I t rr
    exact ⟨_, .cons q q'⟩
end
end
def rEqD (K : PySem.W.Frag) (f : Bool → Bool) : R2 := fun x y H Q => ∃ d e, DatV K H x d ∧ DatV K H y e ∧ SeqAt.shaped d = true ∧ SeqAt.shaped e = true ∧ Q (.bl (f (PyData.eqv d e))) H
section
variable {X : Cx}
theorem op_eqD (hu : X.A.units + 64 < cLine) : OpR X (compareOp .Eq) (rEqD X.K id) := by
  intro pins s σ H x y v u Q I rx ry h
  obtain ⟨d, e, hd, he, sd, se, q⟩ := h
  obtain ⟨as, r1⟩ := hd.reads I rx
  obtain ⟨bs, r2⟩ := he.reads I ry
  exact eq_dataH r1 r2 sd se hu ⟨.bl _, H, I, rfl, q⟩
theorem op_neD (hu : X.A.units + 64 < cLine) : OpR X (compareOp .NotEq) (rEqD X.K not) := by
  intro pins s σ H x y v u Q I rx ry h
  obtain ⟨d, e, hd, he, sd, se, q⟩ := h
  obtain ⟨as, r1⟩ := hd.reads I rx
  obtain ⟨bs, r2⟩ := he.reads I ry
  exact ne_dataH r1 r2 sd se hu ⟨.bl _, H, I, rfl, q⟩
end
mutual
theorem DatV.same {K : PySem.W.Frag} {H H' : Hp} (S : Same H H') : ∀ {x : V} {d : PyData}, DatV K H x d → DatV K H' x d
  | _, _, .non => .non
  | _, _, .bl b => .bl b
  | _, _, .int i => .int i
  | _, _, .str x => .str x
  | _, _, .lst hq h => .lst (S.seq hq) (DatVs.same S h)
  | _, _, .tup hq h => .tup (S.tup hq) (DatVs.same S h)
theorem DatVs.same {K : PySem.W.Frag} {H H' : Hp} (S : Same H H') : ∀ {xs : List V} {ds : List PyData}, DatVs K H xs ds → DatVs K H' xs ds
  | _, _, .nil => .nil
  | _, _, .cons h t => .cons (DatV.same S h) (DatVs.same S t)
end
def dI (ns : List Int) : PyData := .list (ns.map PyData.int)
def dP (e : Int × Int) : PyData := .tuple [.int e.1, .int e.2]
def dE (es : List (Int × Int)) : PyData := .list (es.map dP)
theorem dI_lay : ∀ ns : List Int, PyData.canLayAll0 (ns.map PyData.int) = true ∧ PyData.depthAll (ns.map PyData.int) = 0
  | [] => ⟨rfl, rfl⟩
  | n :: r => by
    obtain ⟨h1, h2⟩ := dI_lay r
    simp only [List.map_cons, PyData.canLayAll0, PyData.canLay0, PyData.depthAll, PyData.depth, h1, h2]
    exact ⟨rfl, rfl⟩
theorem dE_lay : ∀ es : List (Int × Int), PyData.canLayAll0 (es.map dP) = true ∧ PyData.depthAll (es.map dP) ≤ 1
  | [] => ⟨rfl, Nat.zero_le _⟩
  | n :: r => by
    obtain ⟨h1, h2⟩ := dE_lay r
    simp only [List.map_cons, dP, PyData.canLayAll0, PyData.canLay0, PyData.depthAll, PyData.depth, h1]
    exact ⟨rfl, Nat.max_le.mpr ⟨by simp, h2⟩⟩
theorem shaped_dI (ns : List Int) : SeqAt.shaped (dI ns) = true := by
  obtain ⟨h1, h2⟩ := dI_lay ns
  unfold SeqAt.shaped dI
  simp only [PyData.canLay0, PyData.depth, h1, h2]
  rfl
theorem shaped_dE (es : List (Int × Int)) : SeqAt.shaped (dE es) = true := by
  obtain ⟨h1, h2⟩ := dE_lay es
  unfold SeqAt.shaped dE
  simp only [PyData.canLay0, PyData.depth, h1, Bool.true_and]
  exact decide_eq_true (by omega)
theorem eqvAll_dI : ∀ ns ms : List Int, PyData.eqvAll (ns.map PyData.int) (ms.map PyData.int) = decide (ns = ms)
  | [], [] => rfl
  | [], _ :: _ => rfl
  | _ :: _, [] => rfl
  | a :: r, b :: t => by
    simp only [List.map_cons, PyData.eqvAll, PyData.eqv, eqvAll_dI r t]
    by_cases h : a = b <;> by_cases h' : r = t <;> simp [h, h']
theorem eqv_dI (ns ms : List Int) : PyData.eqv (dI ns) (dI ms) = decide (ns = ms) := eqvAll_dI ns ms
theorem datVs_ints {K : PySem.W.Frag} {H : Hp} : ∀ ns : List Int, DatVs K H (ns.map V.int) (ns.map PyData.int)
  | [] => .nil
  | n :: r => .cons (.int n) (datVs_ints r)
theorem dat_ints {K : PySem.W.Frag} {H : Hp} {a : Addr} {ns : List Int} (h : SqL K H a (ns.map V.int)) : DatV K H (.ref a) (dI ns) := .lst h (datVs_ints ns)
def Pairs (K : PySem.W.Frag) (H : Hp) : List V → List (Int × Int) → Prop := Paired fun v e => ∃ r, v = .ref r ∧ SqT K H r [.int e.1, .int e.2]
theorem Pairs.same {K : PySem.W.Frag} {H H' : Hp} (S : Same H H') {xs : List V} {es : List (Int × Int)} (h : Pairs K H xs es) : Pairs K H' xs es := Paired.mapP h fun _ _ ⟨r, e, q⟩ => ⟨r, e, S.tup q⟩
theorem Pairs.dat {K : PySem.W.Frag} {H : Hp} : ∀ {xs : List V} {es : List (Int × Int)}, Pairs K H xs es → DatVs K H xs (es.map dP)
  | _, _, .nil => .nil
  | _, _, .cons ⟨_, e, q⟩ t => by subst e; exact .cons (.tup q (.cons (.int _) (.cons (.int _) .nil))) (Pairs.dat t)
theorem dat_ends {K : PySem.W.Frag} {H : Hp} {a : Addr} {xs : List V} {es : List (Int × Int)} (h : SqL K H a xs) (p : Pairs K H xs es) : DatV K H (.ref a) (dE es) := .lst h p.dat
theorem Pairs.len {K : PySem.W.Frag} {H : Hp} {xs : List V} {es : List (Int × Int)} (h : Pairs K H xs es) : xs.length = es.length := Paired.length h
theorem Pairs.at {K : PySem.W.Frag} {H : Hp} : ∀ {xs : List V} {es : List (Int × Int)} {i : Nat}, Pairs K H xs es → i < xs.length → ∃ r e, xs.getD i .non = .ref r ∧ SqT K H r [.int e.1, .int e.2] ∧ es[i]? = some e ∧ e ∈ es
  | _, _, _, .nil, h => absurd h (Nat.not_lt_zero _)
  | _, _, 0, .cons ⟨r, e, q⟩ _, _ => ⟨r, _, e, q, rfl, List.mem_cons_self⟩
  | _, _, i + 1, .cons _ t, h => by
    obtain ⟨r, e, h1, h2, h3, h4⟩ := Pairs.at (i := i) t (by simpa using h)
    exact ⟨r, e, by simpa using h1, h2, by simpa using h3, List.mem_cons_of_mem _ h4⟩
theorem Pairs.snoc {K : PySem.W.Frag} {H : Hp} {xs : List V} {es : List (Int × Int)} {r : Addr} {e : Int × Int} (h : Pairs K H xs es) (q : SqT K H r [.int e.1, .int e.2]) : Pairs K H (xs ++ [.ref r]) (es ++ [e]) := Paired.snoc h ⟨r, rfl, q⟩
def SameX (a : Addr) (H H' : Hp) : Prop := ∀ b o, b ≠ a → H b = some o → H' b = some o
theorem SameX.tup {K : PySem.W.Frag} {H H' : Hp} {a r : Addr} {xs zs : List V} (S : SameX a H H') (ha : H a = some (.lst zs)) (h : SqT K H r xs) : SqT K H' r xs := by
  rcases h with (h | ⟨o, h⟩) | h
  · exact .inl (.inl (S _ _ (ne_of h ha (by intro z; cases z)) h))
  · exact .inl (.inr ⟨o, S _ _ (ne_of h ha (by intro z; cases z)) h⟩)
  · exact .inr h
theorem Pairs.sameX {K : PySem.W.Frag} {H H' : Hp} {a : Addr} {zs : List V} (S : SameX a H H') (ha : H a = some (.lst zs)) {xs : List V} {es : List (Int × Int)} (h : Pairs K H xs es) : Pairs K H' xs es :=
  Paired.mapP h fun _ _ ⟨r, e, q⟩ => ⟨r, e, S.tup ha q⟩
theorem sameX_upd {H : Hp} {a : Addr} {o : HO} : SameX a H (upd H a o) := fun b u hb e => by rw [upd_ne hb]; exact e
end L2
namespace L2
open PySem PySem.Spec PyProof.Rows
section
variable {X : Cx} {tg : Expr}
def iSeq (K : PySem.W.Frag) (tl : TE) : TI := fun σ H R => tl σ H fun x H1 => ∃ a xs, x = .ref a ∧ (SqL K H1 a xs ∨ SqT K H1 a xs) ∧ ∀ J C, ItOk J xs.length (fun i => xs.getD i .non) C → (∀ H2, Same H1 H2 → C H2) → R J H1
theorem pi_seq {l : Expr} {tl : TE} (hl : PE X l tl) : PI X tg l (iSeq X.K tl) := by
  intro pins s σ H R I h
  refine thn (hl pins s σ H _ I h) fun v s1 ⟨x, H1, I1, r1, q1⟩ => ?_
  obtain ⟨a, xs, e, hq, q⟩ := q1
  subst e
  cases r1
  have fp : ∀ b ∈ [s1.heap.objs.size], FpOk X pins H1 b := fun b hb => by
    have e : b = s1.heap.objs.size := by simpa using hb
    rw [e]; exact I1.fpOk (Nat.le_refl _) (I1.hok.fresh (Nat.le_refl _))
  rcases hq with hq | hq
  · obtain ⟨its, rv, p, hz⟩ := I1.list hq
    exact wpAny_pyIter_list p.isList ⟨s1.heap.objs.size, [s1.heap.objs.size], _, _, H1, rfl, I1.kept (t' := s1.toks) fun b o e => Heap.get?_push_of_some _ e, turn_list a _, ⟨_, Heap.get?_push_size _ rfl, rfl, rfl⟩, fp,
      q _ _ itok_list fun H2 S => S.seq hq⟩
  · obtain ⟨its, rv, p, hz⟩ := I1.tuple hq
    exact wpAny_pyIter_tuple (show s1.heap.IsTuple a its.toArray from p) ⟨s1.heap.objs.size, [s1.heap.objs.size], _, _, H1, rfl, I1.kept (t' := s1.toks) fun b o e => Heap.get?_push_of_some _ e, turn_tuple a _, ⟨_, Heap.get?_push_size _ rfl, rfl, rfl⟩, fp,
      q _ _ itok_tup fun H2 S => S.tup hq⟩
end
inductive TyX (K : PySem.W.Frag) (H : Hp) : V → Value → Prop
  | of {x : V} {t : Value} : TyOf K H x t → TyX K H x t
  | tup {a : Addr} {xs : List V} : SqT K H a xs → TyX K H (.ref a) (.type "tuple")
  | lst {a : Addr} {xs : List V} : SqL K H a xs → TyX K H (.ref a) (.type "list")
section
variable {X : Cx}
theorem call_isX : CallR X (.builtin "isinstance") (fun xs H Q => ∃ x c t cv b, xs = [x, c] ∧ RelV c cv ∧ (∀ u, RelV c u → u = cv) ∧ TyX X.K H x t ∧ PySem.W.kitOne X.K t cv = some b ∧ Q (.bl b) H) := by
  intro pins s σ H xs us Q I r h
  obtain ⟨x, c, t, cv, b, rfl, _, hu, ty, e, q⟩ := h
  obtain ⟨u, u', rfl, rx, rc⟩ := vals2 r
  obtain rfl := hu u' rc
  have fin : ∀ tk, EP X pins σ Q (.bool b) { s with toks := tk } := fun tk => ⟨.bl b, H, I.tok _, rfl, q⟩
  cases ty with
  | of ty => exact isinst_ok I rx ty e fin
  | @tup a ys hq =>
    cases (show u = Value.ref a from rx)
    obtain ⟨its, rv, ⟨o, h1, h2, _⟩, hz⟩ := I.tuple hq
    exact PySem.W.kia_one PySem.W.kitx_tuple I.kIn ⟨o, h1, h2⟩ e (fun z => nomatch z) fin
  | @lst a ys hq =>
    cases (show u = Value.ref a from rx)
    obtain ⟨its, rv, ⟨o, n, h1, h2, _⟩, hz⟩ := I.list hq
    exact PySem.W.kia_one PySem.W.kitx_list I.kIn ⟨o, h1, h2⟩ e (fun z => nomatch z) fin
end
end L2
namespace L2
open PySem PySem.Spec PyProof.Rows
theorem pg_pair {X : Cx} {i j : Nat} {x y : Str} {p1 p2 pos : Pos} {k : Nat} (hc : X.calm = true) (hN : X.N.Nodup) (hi : X.N[i]? = some x) (hj : X.N[j]? = some y) (hx : X.env.scope.names.lookup x = some .local) (hy : X.env.scope.names.lookup y = some .local) :
    PG X (.Tuple [.Name x p1, .Name y p2] k pos) (gTup X.K 2 (gCons (gName i) (gCons (gName j) gNil))) := pg_tup hc (pgs_cons (pg_name hN hi (.inl hx) (.inr hx)) (pgs_cons (pg_name hN hj (.inl hy) (.inr hy)) pgs_nil))
theorem kIntBool {K : PySem.W.Frag} : PySem.W.kitOne K (.type "int") (.type "bool") = some false := by with_unfolding_all rfl
theorem Wk.trans {a b d : St} (x : Wk a b) (y : Wk b d) : Wk a d := ⟨x.1.trans y.1, fun i v e => y.2 i v (x.2 i v e)⟩
theorem wk_set2 {σ0 : St} {i j : Nat} {v u : Option V} (h : σ0[i]? = some none) (h' : (σ0.set i v)[j]? = some none) : Wk σ0 ((σ0.set i v).set j u) := (wk_set h).trans (wk_set h')
section
variable {K : PySem.W.Frag} {H H' : Hp} {a r C dx : Addr} {xs : List V} {fs : List (Str × V)}
theorem SameX.seqI (S : SameX a H H') (ha : H a = some (.ins C dx fs)) (h : SqL K H r xs) : SqL K H' r xs := by
  rcases h with (h | ⟨o, h⟩) | h
  · exact .inl (.inl (S _ _ (ne_of h ha (by intro z; cases z)) h))
  · exact .inl (.inr ⟨o, S _ _ (ne_of h ha (by intro z; cases z)) h⟩)
  · exact .inr h
theorem SameX.tupI (S : SameX a H H') (ha : H a = some (.ins C dx fs)) (h : SqT K H r xs) : SqT K H' r xs := by
  rcases h with (h | ⟨o, h⟩) | h
  · exact .inl (.inl (S _ _ (ne_of h ha (by intro z; cases z)) h))
  · exact .inl (.inr ⟨o, S _ _ (ne_of h ha (by intro z; cases z)) h⟩)
  · exact .inr h
theorem Pairs.sameI (S : SameX a H H') (ha : H a = some (.ins C dx fs)) {es : List (Int × Int)} (h : Pairs K H xs es) : Pairs K H' xs es := Paired.mapP h fun _ _ ⟨r, e, q⟩ => ⟨r, e, S.tupI ha q⟩
theorem Pairs.take_snoc {xs : List V} {es : List (Int × Int)} {i : Nat} {e : Int × Int} (h : es[i]? = some e) : es.take (i + 1) = es.take i ++ [e] := L2.take_snoc h
end
end L2
namespace L2
open PySem PySem.Spec PyProof.Rows
theorem PE.imp {X : Cx} {e : Expr} {t t' : TE} (h : PE X e t) (k : ∀ σ H Q, t' σ H Q → t σ H Q) : PE X e t' := fun pins s σ H Q I hw => h pins s σ H Q I (k σ H Q hw)
theorem Same.upd {H H' : Hp} {l : Addr} {o : HO} (e : Same H H') (h : H l = none) : Same H (L2.upd H' l o) := fun b u q => by rw [upd_ne (ne_of_none q h)]; exact e _ _ q
theorem pe_defR {X : Cx} {k k' : Nat} {x : Str} {ps : List Str} {sp : Sp} {e : Expr} {es : List Expr} {t : TA} {p pos : Pos} (D : Def X.prog X.w X.K X.mg X.base k x ps sp) (hr : Room k' X.A) (ha : PA X (e :: es) t) (hk : k ≤ k' := by decide) (hg : Gl X x := by rfl)
    (hdb : (x == ("__debug__" : Str)) = false := by decide) (he : starEach (e :: es) X.env = (false, eval e X.env) :: starEach es X.env := by rfl) (hpl : (backTo pos (starEach es X.env)).any (·.1) = false := by rfl) :
    PE X (.Call (.Name x p) (e :: es) [] pos) (fun σ H Q => t σ H fun vs H1 => sp vs H1 Q E0) := (pe_def D (hr.mono hk) hg ha hdb he hpl).imp fun σ H Q h => by
  show t σ H fun vs H1 => sp (vs ++ []) H1 Q E0
  simp only [List.append_nil]
  exact h
structure WebC (K : PySem.W.Frag) (C : Addr) : Prop where
  cl : Cls K C
  nM : NoAttr K C "many"
  nT : NoAttr K C "ties"
  ca : PySem.W.findIn K (.ref C) "__class__" = some (some (.builtin "object.__class__"))
  cg : PySem.W.specialIn K (.builtin "object.__class__") "__get__" = some (some (.builtin "getset_descriptor.__get__"))
  ck : PySem.W.takesIn K (.builtin "object.__class__") = some true
  co : PySem.W.mroIn K C (.type "object") = some true
abbrev wFs (m : Int) (t : Addr) : List (Str × V) := [("many", .int m), ("ties", .ref t)]
theorem wFs_many (m : Int) (t : Addr) : (wFs m t).lookup ("many" : Str) = some (.int m) := rfl
theorem wFs_ties (m : Int) (t : Addr) : (wFs m t).lookup ("ties" : Str) = some (.ref t) := rfl
def WebAt (K : PySem.W.Frag) (C : Addr) (H : Hp) (a : Addr) (m : Int) (es : List (Int × Int)) : Prop := ∃ dx t xs, H a = some (.ins C dx (wFs m t)) ∧ H t = some (.tup xs) ∧ Pairs K H xs es
theorem WebAt.same {K : PySem.W.Frag} {C : Addr} {H H' : Hp} {a : Addr} {m : Int} {es : List (Int × Int)} (h : WebAt K C H a m es) (S : Same H H') : WebAt K C H' a m es := by
  obtain ⟨dx, t, xs, h1, h2, h3⟩ := h
  exact ⟨dx, t, xs, S _ _ h1, S _ _ h2, h3.same S⟩
theorem WebAt.ty {K : PySem.W.Frag} {C : Addr} {H : Hp} {a : Addr} {m : Int} {es : List (Int × Int)} (W : WebC K C) (h : WebAt K C H a m es) : TyOf K H (.ref a) (.ref C) := by
  obtain ⟨dx, t, xs, h1, _⟩ := h
  exact .ins h1 W.cl W.ca W.cg W.ck W.co
section
variable {X : Cx} {C : Addr} {e : Expr} {ta : TE} {pos : Pos}
def tMany (K : PySem.W.Frag) (C : Addr) (ta : TE) : TE := fun σ H Q => ta σ H fun x H1 => ∃ a m es, x = .ref a ∧ WebAt K C H1 a m es ∧ Q (.int m) H1
def tTies (K : PySem.W.Frag) (C : Addr) (ta : TE) : TE := fun σ H Q => ta σ H fun x H1 => ∃ a m es, x = .ref a ∧ WebAt K C H1 a m es ∧ ∀ t xs, H1 t = some (.tup xs) → Pairs K H1 xs es → Q (.ref t) H1
theorem pe_fld2 {f : Str} {r : V → Hp → VK → Prop} (he : PE X e ta) (hb : attributeBase e f X.env (eval e X.env) = eval e X.env) (k : ∀ x H Q, r x H Q → ∃ a C dx fs v, x = .ref a ∧ H a = some (.ins C dx fs) ∧ Cls X.K C ∧ NoAttr X.K C f ∧ fs.lookup f = some v ∧ Q v H) :
    PE X (.Attribute e f pos) (fun σ H Q => ta σ H fun x H1 => r x H1 Q) := by
  intro pins s σ H Q I h
  refine attr_of hb (thn (he pins s σ H _ I h) fun u s1 ⟨x, H1, I1, rx, q⟩ => ?_)
  obtain ⟨a, C', dx, fs, v, ex, ea, c, n, l, q'⟩ := k _ _ _ q
  subst ex
  obtain rfl : u = Value.ref a := rx
  exact getattr_ok I1 ea c n l fun u' s2 I2 ru => ⟨v, H1, I2, ru, q'⟩
theorem pe_many (W : WebC X.K C) (he : PE X e ta) (hb : attributeBase e "many" X.env (eval e X.env) = eval e X.env := by rfl) : PE X (.Attribute e "many" pos) (tMany X.K C ta) :=
  pe_fld2 (r := fun x H1 Q => ∃ a m es, x = .ref a ∧ WebAt X.K C H1 a m es ∧ Q (.int m) H1) he hb fun x H Q ⟨a, m, es, ex, ⟨dx, t, xs, h1, _⟩, q⟩ => ⟨a, C, dx, _, _, ex, h1, W.cl, W.nM, wFs_many m t, q⟩
theorem pe_ties (W : WebC X.K C) (he : PE X e ta) (hb : attributeBase e "ties" X.env (eval e X.env) = eval e X.env := by rfl) : PE X (.Attribute e "ties" pos) (tTies X.K C ta) :=
  pe_fld2 (r := fun x H1 Q => ∃ a m es, x = .ref a ∧ WebAt X.K C H1 a m es ∧ ∀ t xs, H1 t = some (.tup xs) → Pairs X.K H1 xs es → Q (.ref t) H1) he hb fun x H Q ⟨a, m, es, ex, ⟨dx, t, xs, h1, h2, h3⟩, q⟩ => ⟨a, C, dx, _, _, ex, h1, W.cl, W.nT, wFs_ties m t, q t xs h2 h3⟩
end
def EndsIn (es : List (Int × Int)) (m : Int) : Prop := ∀ e ∈ es, 0 ≤ e.1 ∧ e.1 < m ∧ 0 ≤ e.2 ∧ e.2 < m
theorem EndsIn.nil {m : Int} : EndsIn [] m := fun _ h => nomatch h
theorem EndsIn.snoc {es : List (Int × Int)} {m : Int} {e : Int × Int} (h : EndsIn es m) (q : 0 ≤ e.1 ∧ e.1 < m ∧ 0 ≤ e.2 ∧ e.2 < m) : EndsIn (es ++ [e]) m := fun x hx => by
  rcases List.mem_append.mp hx with z | z
  · exact h x z
  · have e' : x = e := by simpa using z
    rw [e']; exact q
def spInit (K : PySem.W.Frag) (C : Addr) : Sp := fun vs H Q _ => ∃ (x dx p : Addr) (m : Int) (xs : List V) (es : List (Int × Int)), vs = [.ref x, .int m, .ref p] ∧ H x = some (.ins C dx []) ∧ (SqL K H p xs ∨ SqT K H p xs) ∧ Pairs K H xs es ∧
  1 ≤ m ∧ m ≤ 20 ∧ es.length ≤ 40 ∧ EndsIn es m ∧ ∀ H' t ys, SameX x H H' → H' x = some (.ins C dx (wFs m t)) → H' t = some (.tup ys) → Pairs K H' ys es → Q .non H'
def MkDef (P : Program) (w : World) (K : PySem.W.Frag) (mg : Str → Option Value) (base : Heap) (k : Nat) (x : Str) (C : Addr) (ps : List Str) (sp : Sp) : Prop :=
  ∃ f fd, Mk K C f ∧ FnOk P w K mg base CX0 k f fd ps sp ∧ Binds K fd ps [] ∧ mg x = some (.ref C)
def tWeb (K : PySem.W.Frag) (C : Addr) (t : TA) : TE := fun σ H Q => t σ H fun vs H1 => ∃ (p : Addr) (m : Int) (xs : List V) (es : List (Int × Int)), vs = [.int m, .ref p] ∧ (SqL K H1 p xs ∨ SqT K H1 p xs) ∧ Pairs K H1 xs es ∧
  1 ≤ m ∧ m ≤ 20 ∧ es.length ≤ 40 ∧ EndsIn es m ∧ ∀ x H', H1 x = none → Same H1 H' → WebAt K C H' x m es → Q (.ref x) H'
theorem pe_make' {X : Cx} {k k' : Nat} {C : Addr} {x : Str} {ps : List Str} {sp : Sp} {e : Expr} {es : List Expr} {t : TA} {p pos : Pos} {R : List V → Hp → VK → Prop} (D : MkDef X.prog X.w X.K X.mg X.base k x C ps sp) (hr : Room k' X.A) (ha : PA X (e :: es) t)
    (hR : ∀ vs H1 Q, R vs H1 Q → ∀ x dx, H1 x = none → H1 dx = none → dx ≠ x → sp (.ref x :: vs) (upd (upd H1 dx (.own x)) x (.ins C dx [])) (fun v H2 => v = .non ∧ Q (.ref x) H2) E0)
    (hk : k + 1 ≤ k' := by decide) (hg : Gl X x := by rfl)
    (hdb : (x == ("__debug__" : Str)) = false := by decide) (he : starEach (e :: es) X.env = (false, eval e X.env) :: starEach es X.env := by rfl) (hpl : (backTo pos (starEach es X.env)).any (·.1) = false := by rfl) :
    PE X (.Call (.Name x p) (e :: es) [] pos) (fun σ H Q => t σ H fun vs H1 => R vs H1 Q) := by
  obtain ⟨f, fd, M, F, b, m⟩ := D
  intro pins s σ H Q I h
  refine wpAny_Call_Name_kw (ld_glob I hg m ?_ hdb)
  refine PySem.W.callWith_K (h₀ := X.base) I.ok.mod.kin M.kp (thn (ha pos pins s σ H _ I h) fun us s1 ⟨vs, H1, I1, r, q⟩ => ⟨I1.kIn, ?_⟩) he hpl
  exact run_make (dvs := []) (ds := []) M F (hr.mono hk) b .nil pass0 I1 r fun y dy n1 n2 n3 => by
    rw [List.append_nil]
    exact hR vs H1 Q q y dy n1 n2 n3
theorem pe_web {X : Cx} {k k' : Nat} {C : Addr} {x : Str} {ps : List Str} {e : Expr} {es : List Expr} {t : TA} {p pos : Pos} (D : MkDef X.prog X.w X.K X.mg X.base k x C ps (spInit X.K C)) (hr : Room k' X.A) (ha : PA X (e :: es) t)
    (hk : k + 1 ≤ k' := by decide) (hg : Gl X x := by rfl)
    (hdb : (x == ("__debug__" : Str)) = false := by decide) (he : starEach (e :: es) X.env = (false, eval e X.env) :: starEach es X.env := by rfl) (hpl : (backTo pos (starEach es X.env)).any (·.1) = false := by rfl) :
    PE X (.Call (.Name x p) (e :: es) [] pos) (tWeb X.K C t) := by
  refine pe_make' D hr ha (fun vs H1 Q q => ?_) hk hg hdb he hpl
  obtain ⟨p', mm, xs, es', rfl, hq, hp, b1, b2, b3, b4, q⟩ := q
  intro z dz nz ndz ne
  have s1 : Same H1 (upd (upd H1 dz (.own z)) z (.ins C dz [])) := (Same.new ndz).trans (Same.new (by rw [upd_ne ne.symm]; exact nz))
  refine ⟨z, dz, p', mm, xs, es', rfl, upd_same, hq.imp (fun y => s1.seq y) (fun y => s1.tup y), hp.same s1, b1, b2, b3, b4, fun H' tt ys sx h1 h2 h3 => ⟨rfl, ?_⟩⟩
  exact q z H' nz (fun bb o eb => sx _ _ (ne_of_none eb nz) (s1 _ _ eb)) ⟨dz, tt, ys, h1, h2, h3⟩
end L2
namespace L2
open PySem PySem.Spec PyProof.Rows
theorem SameX.of {H H' : Hp} {a : Addr} (S : Same H H') : SameX a H H' := fun b o _ e => S b o e
theorem SameX.trans {H H1 H2 : Hp} {a : Addr} (S : SameX a H H1) (T : SameX a H1 H2) : SameX a H H2 := fun b o n e => T b o n (S b o n e)
theorem SameX.seq {K : PySem.W.Frag} {H H' : Hp} {a r : Addr} {xs : List V} (S : SameX a H H') (hr : r ≠ a) (h : SqL K H r xs) : SqL K H' r xs := by
  rcases h with (h | ⟨o, h⟩) | h
  · exact .inl (.inl (S _ _ hr h))
  · exact .inl (.inr ⟨o, S _ _ hr h⟩)
  · exact .inr h
theorem WebAt.sameX {K : PySem.W.Frag} {C : Addr} {H H' : Hp} {a b : Addr} {m : Int} {es : List (Int × Int)} {zs : List V} (h : WebAt K C H a m es) (S : SameX b H H') (hb : H b = some (.lst zs)) : WebAt K C H' a m es := by
  obtain ⟨dx, t, xs, h1, h2, h3⟩ := h
  exact ⟨dx, t, xs, S _ _ (ne_of h1 hb (by intro z; cases z)) h1, S _ _ (ne_of h2 hb (by intro z; cases z)) h2, h3.sameX S hb⟩
end L2
namespace L2
open PySem PySem.Spec PyProof.Rows
section
variable {X : Cx} {K : PySem.W.Frag}
theorem ixL (h : X.K = K) : IxR X (rIxL K) := by subst h; exact ix_list
theorem ixT (h : X.K = K) : IxR X (rIxT K) := by subst h; exact ix_tup
theorem slL (h : X.K = K) : SlR X (rSlL K) := by subst h; exact sl_list
theorem opIn (h : X.K = K) : OpR X (compareOp .In) (rIn K false) := by subst h; exact op_in_seq
theorem opNotIn (h : X.K = K) : OpR X (compareOp .NotIn) (rIn K true) := by subst h; exact op_notIn_seq
theorem opEqD (h : X.K = K) (hu : X.A.units + 64 < cLine) : OpR X (compareOp .Eq) (rEqD K id) := by subst h; exact op_eqD hu
theorem opNeD (h : X.K = K) (hu : X.A.units + 64 < cLine) : OpR X (compareOp .NotEq) (rEqD K not) := by subst h; exact op_neD hu
def rLen (K : PySem.W.Frag) : List V → Hp → VK → Prop := fun xs H Q => ∃ p ys, xs = [.ref p] ∧ (SqL K H p ys ∨ SqT K H p ys) ∧ Q (.int ys.length) H
theorem cLen (h : X.K = K) : CallR X (.builtin "len") (rLen K) := by subst h; exact call_len_seq
def rList (K : PySem.W.Frag) : List V → Hp → VK → Prop := fun xs H Q => ∃ p ys, xs = [.ref p] ∧ (SqL K H p ys ∨ SqT K H p ys) ∧ ∀ l, H l = none → Q (.ref l) (upd H l (.lst ys))
theorem cList (h : X.K = K) : CallR X (.type "list") (rList K) := by subst h; exact call_list_of
def rTuple (K : PySem.W.Frag) : List V → Hp → VK → Prop := fun xs H Q => ∃ p ys, xs = [.ref p] ∧ ((SqL K H p ys ∧ ∀ l, H l = none → Q (.ref l) (upd H l (.tup ys))) ∨ (SqT K H p ys ∧ Q (.ref p) H))
theorem cTuple (h : X.K = K) : CallR X (.type "tuple") (rTuple K) := by subst h; exact call_tuple_of
def rSum (K : PySem.W.Frag) : List V → Hp → VK → Prop := fun xs H Q => ∃ (p : Addr) (ns : List Int), xs = [.ref p] ∧ (SqL K H p (ns.map V.int) ∨ SqT K H p (ns.map V.int)) ∧ Q (.int ns.sum) H
theorem cSum (h : X.K = K) (hc : X.calm = true) : CallR X (.builtin "sum") (rSum K) := by subst h; exact call_sum_seq hc
def rAll (K : PySem.W.Frag) : List V → Hp → VK → Prop := fun xs H Q => ∃ (p : Addr) (ys : List V), xs = [.ref p] ∧ (SqL K H p ys ∨ SqT K H p ys) ∧ ys.all isBI = true ∧ Q (.bl (ys.all tv)) H
theorem cAll (h : X.K = K) (hc : X.calm = true) : CallR X (.builtin "all") (rAll K) := by subst h; exact call_all_seq hc
def rAny (K : PySem.W.Frag) : List V → Hp → VK → Prop := fun xs H Q => ∃ (p : Addr) (ys : List V), xs = [.ref p] ∧ (SqL K H p ys ∨ SqT K H p ys) ∧ ys.all isBI = true ∧ Q (.bl (ys.any tv)) H
theorem cAny (h : X.K = K) (hc : X.calm = true) : CallR X (.builtin "any") (rAny K) := by subst h; exact call_any_seq hc
def rIs (K : PySem.W.Frag) : List V → Hp → VK → Prop := fun xs H Q => ∃ x c t cv b, xs = [x, c] ∧ RelV c cv ∧ (∀ u, RelV c u → u = cv) ∧ TyX K H x t ∧ PySem.W.kitOne K t cv = some b ∧ Q (.bl b) H
theorem cIs (h : X.K = K) : CallR X (.builtin "isinstance") (rIs K) := by subst h; exact call_isX
theorem piSeq {tg l : Expr} {tl : TE} (h : X.K = K) (hl : PE X l tl) : PI X tg l (iSeq K tl) := by subst h; exact pi_seq hl
theorem pgTup {es : List Expr} {k : Nat} {t : TGs} {n : Nat} {pos : Pos} (hK : X.K = K) (hc : X.calm = true) (h : PGs X es t) (hn : (assignEach es X.env).length = n) (hst : (assignEach es X.env).findIdx? (·.1) = none := by rfl) : PG X (.Tuple es k pos) (gTup K n t) := by
  subst hK; exact pg_tup hc h hn hst
theorem pgPair {i j : Nat} {x y : Str} {p1 p2 pos : Pos} {k : Nat} (hK : X.K = K) (hc : X.calm = true) (hN : X.N.Nodup) (hi : X.N[i]? = some x) (hj : X.N[j]? = some y) (hx : X.env.scope.names.lookup x = some .local) (hy : X.env.scope.names.lookup y = some .local) :
    PG X (.Tuple [.Name x p1, .Name y p2] k pos) (gTup K 2 (gCons (gName i) (gCons (gName j) gNil))) := by subst hK; exact pg_pair hc hN hi hj hx hy
theorem pMany {C : Addr} {e : Expr} {ta : TE} {pos : Pos} (h : X.K = K) (W : WebC K C) (he : PE X e ta) (hb : attributeBase e "many" X.env (eval e X.env) = eval e X.env := by rfl) : PE X (.Attribute e "many" pos) (tMany K C ta) := by subst h; exact pe_many W he hb
theorem pTies {C : Addr} {e : Expr} {ta : TE} {pos : Pos} (h : X.K = K) (W : WebC K C) (he : PE X e ta) (hb : attributeBase e "ties" X.env (eval e X.env) = eval e X.env := by rfl) : PE X (.Attribute e "ties" pos) (tTies K C ta) := by subst h; exact pe_ties W he hb
end
end L2
namespace L2
open PySem PySem.Spec PyProof.Rows
theorem ObjOk.live {P : Program} {w : World} {H : Hp} {h : Heap} {a : Addr} {o : HO} (x : ObjOk P w H h a o) : ∃ ob, h.get? a = some ob := by
  cases o with
  | lst xs => obtain ⟨_, _, _, _, e⟩ := x; exact ⟨_, e⟩
  | tup xs => obtain ⟨_, _, _, ob, e, _⟩ := x; exact ⟨_, e⟩
  | dK kvs => obtain ⟨_, _, _, _, ob, _, _, e, _⟩ := x; exact ⟨_, e⟩
  | dT kvs => obtain ⟨_, _, _, _, ob, _, _, e, _⟩ := x; exact ⟨_, e⟩
  | set S n => obtain ⟨ob, _, _, _, e, _⟩ := x; exact ⟨_, e⟩
  | ins C dx fs => obtain ⟨_, _, _, e, _⟩ := x; exact ⟨_, e⟩
  | own y => exact x
  | xd fs => obtain ⟨_, ⟨_, _, _, e, _⟩, _⟩ := x; exact ⟨_, e⟩
  | rng lo hi => obtain ⟨_, _, _, e⟩ := x; exact ⟨_, e⟩
  | frz ob u => obtain ⟨e, _⟩ := x; exact ⟨_, e⟩
  | tbl ps => exact ⟨_, x⟩
  | met f y => exact ⟨_, x⟩
  | ext φ => obtain ⟨_, e, _⟩ := x; exact e
def Yg (X : Cx) (H : Hp) (b : Addr) : Prop := X.s₀.heap.get? b = none ∧ H b = none ∧ ∀ p ∈ X.pn, p.1 ≠ b
section
variable {X : Cx} {pins : List (Addr × Obj)} {σ : St} {H : Hp} {s : Shared}
end
def IsX (o : Obj) : Value → Prop
  | .int d A => o.cls = .ref A ∧ o.dict = some d.toNat
  | C => o.cls = C
def FlyO (X : Cx) (H : Hp) (h : Heap) (x : Addr) (C : Value) (fl : Option Value) : Prop :=
  Yg X H x ∧ ∃ oe vs a0, h.get? x = some oe ∧ IsX oe C ∧ oe.data = .fields vs ∧ vs[0]? = some a0 ∧
    match fl with
    | none => vs[1]? = some .none
    | some v => ∃ T oT ts, vs[1]? = some (.ref T) ∧ T ≠ x ∧ Yg X H T ∧ h.get? T = some oT ∧ oT.data = .fields ts ∧ ts[3]? = some v
section
variable {X : Cx} {σ : St} {H : Hp} {s : Shared} {M : Model} {A : Around} {E : Value → Shared → Prop} {x : Addr} {C : Value}
theorem FlyO.mv {h h' : Heap} {fl : Option Value} (F : FlyO X H h x C fl) (k : ∀ b o, h.get? b = some o → h'.get? b = some o) : FlyO X H h' x C fl := by
  obtain ⟨y, oe, vs, a0, e, c, d, v0, r⟩ := F
  refine ⟨y, oe, vs, a0, k _ _ e, c, d, v0, ?_⟩
  cases fl with
  | none => exact r
  | some v => obtain ⟨T, oT, ts, r1, r2, r3, r4, r5⟩ := r; exact ⟨T, oT, ts, r1, r2, r3, k _ _ r4, r5⟩
theorem IsX.eqv {o o' : Obj} (hc : o'.cls = o.cls) (hd : o'.dict = o.dict) : ∀ {C : Value}, IsX o C → IsX o' C := fun {C} h => by
  cases C <;> first
    | exact ⟨hc.trans h.1, hd.trans h.2⟩
    | exact hc.trans h
structure Hung (e : Addr) (oe tb : Obj) (vs : Array Value) (h h' : Heap) : Prop where
  new : h'.get? h.objs.size = some tb
  rest : ∀ b o, b ≠ e → h.get? b = some o → h'.get? b = some o
  at_ : ∃ o', h'.get? e = some o' ∧ o'.cls = oe.cls ∧ o'.dict = oe.dict ∧ o'.data = .fields (vs.setIfInBounds 1 (.ref h.objs.size))
theorem Hung.mk' {e : Addr} {oe tb : Obj} {vs : Array Value} {h : Heap} (he : h.get? e = some oe) (hd : oe.data = .fields vs) (ht : tb.isFreed = false) : Hung e oe tb vs h ((h.push tb).update e (Obj.mapFields (·.setIfInBounds 1 (.ref h.objs.size)))) := by
  obtain ⟨c, d, x, sl⟩ := oe
  cases hd
  have ne := Nat.ne_of_lt (Heap.lt_size he)
  exact ⟨Heap.get?_update_of_ne _ ne (Heap.get?_push_size _ ht), fun b o hb q => Heap.get?_update_of_ne _ (Ne.symm hb) (Heap.get?_push_of_some _ q), _, Heap.get?_update_self _ (Heap.get?_push_of_some _ he) rfl, rfl, rfl, rfl⟩
end
def CXE (P : Program) (w : World) : CXT := fun outer H s E e s' =>
  ∃ (x : Addr) (C : Value) (H' : Hp), e = .ref x ∧ s'.os = s.os ∧ AllBare s'.gens ∧ Un (frs outer) [] H H' s.heap s'.heap ∧ HOk P w H' s'.heap ∧ s.heap.get? x = none ∧ H' x = none ∧
    (∃ oe vs a0 T oT ts, s'.heap.get? x = some oe ∧ IsX oe C ∧ oe.data = .fields vs ∧ vs[0]? = some a0 ∧ vs[1]? = some (.ref T) ∧ T ≠ x ∧ s.heap.get? T = none ∧ H' T = none ∧ s'.heap.get? T = some oT ∧ oT.data = .fields ts ∧ ts[3]? = some .none) ∧
    E C none H'
structure Body (X : Cx) : Prop where
  ex : X.ex = []
  st : X.stack = X.env :: X.outer
  fr : X.env.frame = some X.env.locals
section
variable {X : Cx} {Ex : St → Value → Hp → Prop}
theorem PSs.more {E1 : Value → Shared → Prop} {st : List Stmt} {t : TS} (h : PSs (X.wish E1) st t) (hE : ∀ e s, E1 e s → X.xe e s) : PSs X st t := fun pins s σ H D I hw =>
  wpAny_mono (h pins s σ H D (I.wish _) hw) (fun _ _ q => q.unwish) fun e s z => hE e s z
end
section
variable {P : Program} {w : World} {K : PySem.W.Frag} {mg : Str → Option Value} {base : Heap}
end
section
variable {X : Cx} {Ex : St → Value → Hp → Prop}
def DefE (P : Program) (w : World) (K : PySem.W.Frag) (mg : Str → Option Value) (base : Heap) (k : Nat) (x : Str) (ps : List Str) (sp : Sp) : Prop :=
  ∃ f fd, FnOk P w K mg base (CXE P w) k f fd ps sp ∧ mg x = some (.ref f) ∧ PySem.W.keepIn K (.ref f) = true ∧ Binds K fd ps []
theorem DefE.of {P : Program} {w : World} {K : PySem.W.Frag} {mg : Str → Option Value} {base : Heap} {k : Nat} {x qual : Str} {ps : List Str} {sp : Sp} {st : Stmt} {f : Addr} {fd : FuncData}
    (F : Fun K x qual st f fd) (m : mg x = some (.ref f)) (b : Binds K fd ps []) (ok : FnOk P w K mg base (CXE P w) k f fd ps sp) : DefE P w K mg base k x ps sp := ⟨f, fd, ok, m, F.kp, b⟩
end
end L2
namespace L2
open PySem PySem.Spec PyProof.Rows
abbrev vErr : List Value := [.type "ValueError", .type "Exception", .type "BaseException", .type "object"]
def IsExc (K : PySem.W.Frag) (C : Addr) : Prop := PySem.W.excIn K C vErr "ValueError.__new__" = true
theorem IsExc.obj {K : PySem.W.Frag} {C : Addr} (q : IsExc K C) {h : Heap} (X : K.In h) : ∃ bm N nm qn bs hd sn sub ab col dd k0 k1 k2 k3 k5 mN,
    h.get? C = some (excClassObj nm qn C N bs bm hd sn sub ab col dd k0 k1 k2 k3 k5 "ValueError.__new__") ∧ h.Ns N mN ∧ mN "__init__" = none ∧ OwnTail h vErr bm ∧ PySem.W.mroIn K C = fun b => some ((Value.ref C :: bm).contains b) := by
  unfold IsExc PySem.W.excIn at q
  split at q
  · next dct cd sl look =>
    split at q
    · next C' tl s0 s1 s2 s3 nn s5 em es =>
      simp only [Bool.and_eq_true, beq_iff_eq, Bool.not_eq_true'] at q
      obtain ⟨⟨⟨⟨⟨e1, e2⟩, e3⟩, e4⟩, e5⟩, e6⟩ := q
      subst e1; subst e2
      have hc : PySem.W.clsIn K C' = some cd := by unfold PySem.W.clsIn; rw [look]
      have hm : PySem.W.mroIn K C' = fun b => some ((Value.ref C' :: tl).contains b) := by
        funext b
        unfold PySem.W.mroIn
        rw [hc, Option.bind_some, em]
        rfl
      obtain ⟨z1, z2, z3, z4, z5, z6, z7, z8, z9, z10, z11⟩ := cd
      dsimp only at em e3 e5 e6
      subst em; subst e3
      obtain ⟨ll⟩ := sl
      simp only at es
      subst es
      exact ⟨tl, _, _, _, _, _, _, _, _, _, _, _, _, _, _, _, _, X _ _ look, .of_isNs (PySem.W.isNs_of_in X e5), PySem.W.nsMap_none_of_in X e5 e6, PySem.W.tail_of_in X e4, hm⟩
    · cases q
  · cases q
section
variable {X : Cx} {Ex : St → Value → Hp → Prop}
end
end L2
namespace L2
open PySem PySem.Spec PyProof.Rows
section
variable {X : Cx} {σ : St} {H : Hp} {s : Shared}
end
section
variable {M : Model} {A : Around} {E : Value → Shared → Prop} {nm q nm' q' : Str} {C N C' N' : Addr} {bs bm bs' bm' : List Value} {hd hd' : Bool} {sn sn' : List Str} {sub sub' : List Value} {ab ab' : Bool} {col col' : Option Bool} {dd dd' : Option Addr}
  {k0 k1 k2 k3 k5 l0 l1 l2 l3 l5 : Option Value} {newId newId' : String}
end
section
variable {X : Cx}
theorem Inv.pn {pins : List (Addr × Obj)} {σ : St} {H : Hp} {s : Shared} (I : Inv X pins σ H s) : Inv { X with pn := X.pn ++ pins } [] σ H s :=
  ⟨⟨I.ok.mod, I.ok.kind, I.ok.glob, I.ok.blt, I.ok.above, I.ok.inj, I.ok.has, I.ok.cab, I.ok.hd, I.ok.frames, I.ok.stk, I.ok.exf, I.ok.bs, I.ok.bsz, I.ok.noex, I.ok.exfs, I.ok.funs, I.ok.frf⟩, I.os, I.bare, I.base, I.loc, I.cell, I.free, I.freeC, fun p hp => I.pin p (by simpa using hp), I.hok, I.len⟩
abbrev Cx.held (X : Cx) (x : Addr) : Cx := { X with A := X.A.mark (some (.ref x)), calm := false }
theorem Inv.held {pins : List (Addr × Obj)} {σ : St} {H : Hp} {s : Shared} (I : Inv X pins σ H s) (x : Addr) : Inv (X.held x) pins σ H s :=
  ⟨⟨I.ok.mod, I.ok.kind, I.ok.glob, I.ok.blt, I.ok.above, I.ok.inj, I.ok.has, I.ok.cab, fun z => (Bool.false_ne_true z).elim, I.ok.frames, I.ok.stk, I.ok.exf, I.ok.bs, I.ok.bsz, I.ok.noex, I.ok.exfs, I.ok.funs, I.ok.frf⟩, I.os, I.bare, I.base, I.loc, I.cell, I.free, I.freeC, I.pin, I.hok, I.len⟩
end
end L2
namespace L2
open PySem PySem.Spec PyProof.Rows PySem.W Builtin Builtin.ObjectAttr Builtin.Getset_descriptor
structure ExcC (K : Frag) (A : Addr) : Prop where
  ga : findIn K (.ref A) "__getattribute__" = some (some (.builtin "BaseException.__getattribute__"))
  gn : findIn K (.ref A) "__getattr__" = some none
  cl : findIn K (.ref A) "__class__" = some (some (.builtin "object.__class__"))
  cg : specialIn K (.builtin "object.__class__") "__get__" = some (some (.builtin "getset_descriptor.__get__"))
  ck : takesIn K (.builtin "object.__class__") = some true
  co : mroIn K A (.type "object") = some true
  cb : mroIn K A (.type "BaseException") = some true
  is : (clsIn K A).isSome = true
section
variable {prog : Program} {w : World} {B : Around} {E : Value → Shared → Prop} {K : Frag} {x A : Addr} {o : Obj}
end
section
variable {X : Cx}
end
end L2
namespace L2
open PySem PySem.Spec PyProof.Rows
section
variable {X : Cx}
end
def Big (m : Int) (es : List (Int × Int)) : Prop := m < 1 ∨ 20 < m ∨ 40 < (es.length : Int)
instance (m : Int) (es : List (Int × Int)) : Decidable (Big m es) := by unfold Big; infer_instance
instance (es : List (Int × Int)) (m : Int) : Decidable (EndsIn es m) := by unfold EndsIn; infer_instance
end L2
namespace L2
open PySem PySem.Spec PyProof.Rows
section
variable {K : PySem.W.Frag} {H : Hp}
theorem Pairs.get : ∀ {xs : List V} {es : List (Int × Int)} {i : Nat}, Pairs K H xs es → i < es.length → ∃ r e, xs[i]? = some (.ref r) ∧ SqT K H r [.int e.1, .int e.2] ∧ es[i]? = some e ∧ e ∈ es
  | _, _, _, .nil, h => absurd h (Nat.not_lt_zero _)
  | _, _, 0, .cons ⟨r, e, q⟩ _, _ => ⟨r, _, by rw [e]; rfl, q, rfl, List.mem_cons_self⟩
  | _, _, i + 1, .cons _ t, h => by
    obtain ⟨r, e, h1, h2, h3, h4⟩ := Pairs.get (i := i) t (by simpa using h)
    exact ⟨r, e, by simpa using h1, h2, by simpa using h3, List.mem_cons_of_mem _ h4⟩
theorem Pairs.append : ∀ {xs ys : List V} {es fs : List (Int × Int)}, Pairs K H xs es → Pairs K H ys fs → Pairs K H (xs ++ ys) (es ++ fs)
  | _, _, _, _, .nil, s => s
  | _, _, _, _, .cons r t, s => .cons r (Pairs.append t s)
theorem Pairs.set {r : Addr} {e : Int × Int} (q : SqT K H r [.int e.1, .int e.2]) : ∀ {xs : List V} {es : List (Int × Int)} (i : Nat), Pairs K H xs es → Pairs K H (xs.set i (.ref r)) (es.set i e)
  | _, _, _, .nil => .nil
  | _, _, 0, .cons _ t => .cons ⟨r, rfl, q⟩ t
  | _, _, i + 1, .cons p t => .cons p (Pairs.set q i t)
theorem Pairs.rep {r : Addr} {e : Int × Int} (q : SqT K H r [.int e.1, .int e.2]) : ∀ n : Nat, Pairs K H (List.replicate n [V.ref r]).flatten (List.replicate n e)
  | 0 => .nil
  | n + 1 => by
    rw [List.replicate_succ, List.replicate_succ, List.flatten_cons]
    exact .cons ⟨r, rfl, q⟩ (Pairs.rep q n)
theorem ixN_nat {n : Nat} {i : Int} (h0 : 0 ≤ i) (h : i < (n : Int)) : ixN n i = some i.toNat := by
  unfold ixN; rw [if_pos h0, if_pos h]
theorem atI_int {α : Type} {xs : List α} {i : Int} {v : α} (h0 : 0 ≤ i) (h : xs[i.toNat]? = some v) : atI xs i = some v := by
  have := atI_nat h
  rwa [Int.toNat_of_nonneg h0] at this
theorem at2 {a b : V} {j : Int} (h0 : 0 ≤ j) (h : j < 2) : ∃ v, atI [a, b] j = some v ∧ (v = a ∨ v = b) := by
  have : j = 0 ∨ j = 1 := by omega
  rcases this with rfl | rfl
  · exact ⟨a, rfl, .inl rfl⟩
  · exact ⟨b, rfl, .inr rfl⟩
theorem at3 {a b d : V} {j : Int} (h0 : 0 ≤ j) (h : j < 3) : ∃ v, atI [a, b, d] j = some v ∧ (v = a ∨ v = b ∨ v = d) := by
  have : j = 0 ∨ j = 1 ∨ j = 2 := by omega
  rcases this with rfl | rfl | rfl
  · exact ⟨a, rfl, .inl rfl⟩
  · exact ⟨b, rfl, .inr (.inl rfl)⟩
  · exact ⟨d, rfl, .inr (.inr rfl)⟩
end
end L2
namespace L2
open PySem PySem.Spec PyProof.Rows
section
variable {prog : Program} {w : World} {A : Around} {E : Value → Shared → Prop} {s : Shared}
set_option maxHeartbeats 2000000 in
theorem stepT {it l : Addr} {i : Nat} {items : Array Value} {x : Value} {c d : Option Addr} {sl sl2 : Array (Option Value)} {n : Nat} {P : Fin → Shared → Prop} (hit : s.heap.get? it = some { cls := .type "tuple_iterator", dict := c, data := .fields #[.ref l, .int i 0], slots := sl }) (hl : s.heap.get? l = some { cls := .type "tuple", dict := d, data := .seq items n, slots := sl2 }) (hx : items[i]? = some x)
    (hP : ∀ h', h'.get? it = some { cls := .type "tuple_iterator", dict := c, data := .fields #[.ref l, .int (i + 1 : Nat) 0], slots := sl } → Heap.SameBut it s.heap h' → P (.done (.ret x)) { s with heap := h' }) :
    wpAny (model prog w) A (Builtin.«tuple_iterator.__next__» ⟨[.ref it], []⟩) P E s := by
  obtain ⟨hp, g, dr, tk, os⟩ := s
  unfold Builtin.«tuple_iterator.__next__»
  wp_walk using AutoSeq1.wpAny_loadPart' hit, AutoSeq1.wpAny_loadPart' hl
  rw [Int.toNat_natCast, hx]
  wp_walk
  have up := Heap.get?_update_self (Obj.mapFields fun v => v.setIfInBounds 1 (rawInt ((i : Int) + 1))) hit rfl
  exact hP _ up (Heap.SameBut.update ..)
set_option maxHeartbeats 2000000 in
theorem stopT {it l : Addr} {i : Nat} {items : Array Value} {c d : Option Addr} {sl sl2 : Array (Option Value)} {n : Nat} {P : Fin → Shared → Prop} (hh : A.handled = none) (hit : s.heap.get? it = some { cls := .type "tuple_iterator", dict := c, data := .fields #[.ref l, .int i 0], slots := sl }) (hl : s.heap.get? l = some { cls := .type "tuple", dict := d, data := .seq items n, slots := sl2 }) (hx : items[i]? = none)
    (hE : ∀ h' e, Heap.ExtBut it s.heap h' → (∃ o, h'.get? e = some o ∧ o.cls = .type "StopIteration") → E (.ref e) { s with heap := h' }) :
    wpAny (model prog w) A (Builtin.«tuple_iterator.__next__» ⟨[.ref it], []⟩) P E s := by
  obtain ⟨hp, g, dr, tk, os⟩ := s
  unfold Builtin.«tuple_iterator.__next__»
  wp_walk using AutoSeq1.wpAny_loadPart' hit, AutoSeq1.wpAny_loadPart' hl
  rw [Int.toNat_natCast, hx]
  wp_walk
  refine wpAny_raiseNew_none hh (hE _ _ ?_ ⟨_, Heap.get?_push_size _ rfl, rfl⟩)
  have one := Heap.SameBut.update (h := hp) (a := it) (f := Obj.mapFields fun v => v.setIfInBounds 0 Value.none)
  exact (one.extBut.push _).push _
theorem nextT_item {it l : Addr} {i : Nat} {items : Array Value} {x : Value} {Q : Value → Shared → Prop} (hit : s.heap.IsTupleIter it l i) (hl : s.heap.IsTuple l items) (hx : items[i]? = some x) (hQ : ∀ h', h'.IsTupleIter it l (i + 1) → Heap.SameBut it s.heap h' → Q x { s with heap := h' }) : wpAny (model prog w) A (Builtin.SmallTypes.nextOf (.ref it)) Q E s := by
  have ty := hit.typeIs
  obtain ⟨⟨_, c, _, sl⟩, ho, rfl, rfl⟩ := hit
  obtain ⟨⟨_, d, _, sl2⟩, hol, rfl, n, rfl⟩ := hl
  have walked := wpAny_call_entry (prog := prog) (w := w) (A := A) (E := E) F.slot_tuple_iterator_next ty F.entry_tuple_iterator_next (stepT ho hol hx fun h' e sb => ⟨x, rfl, hQ h' ⟨_, e, rfl, rfl⟩ sb⟩) (F.args_tuple_iterator_next_1 _)
  unfold Builtin.SmallTypes.nextOf
  exact wpAny_bind (wpAny_callSpecial?_slot ty F.slot_tuple_iterator_next (wpAny_mono walked (fun v s' q => wpAny_pure q) fun _ _ z => z))
theorem nextT_end {it l : Addr} {i : Nat} {items : Array Value} {Q : Value → Shared → Prop} (hh : A.handled = none) (hit : s.heap.IsTupleIter it l i) (hl : s.heap.IsTuple l items) (hx : items[i]? = none) (hE : ∀ h' e, Heap.ExtBut it s.heap h' → (∃ o, h'.get? e = some o ∧ o.cls = .type "StopIteration") → E (.ref e) { s with heap := h' }) : wpAny (model prog w) A (Builtin.SmallTypes.nextOf (.ref it)) Q E s := by
  have ty := hit.typeIs
  obtain ⟨⟨_, c, _, sl⟩, ho, rfl, rfl⟩ := hit
  obtain ⟨⟨_, d, _, sl2⟩, hol, rfl, n, rfl⟩ := hl
  have walked := wpAny_call_entry (prog := prog) (w := w) (A := A) (E := E) (Q := fun v s' => Q v s') F.slot_tuple_iterator_next ty F.entry_tuple_iterator_next (stopT (show A.in1.handled = none from hh) ho hol hx hE) (F.args_tuple_iterator_next_1 _)
  unfold Builtin.SmallTypes.nextOf
  exact wpAny_bind (wpAny_callSpecial?_slot ty F.slot_tuple_iterator_next (wpAny_mono walked (fun v s' q => wpAny_pure q) fun _ _ z => z))
theorem tIter_at {h h' : Heap} {it t : Addr} {i : Nat} (x : h.IsTupleIter it t i) (k : ∀ o, h.get? it = some o → h'.get? it = some o) : h'.IsTupleIter it t i := let ⟨o, ho, r⟩ := x; ⟨o, k o ho, r⟩
end
def SIt (b : Bool) (h : Heap) (it l : Addr) (i : Nat) : Prop := match b with | false => h.IsListIter it l i | true => h.IsTupleIter it l i
def SSq (b : Bool) (h : Heap) (l : Addr) (xs : Array Value) : Prop := match b with | false => h.IsList l xs | true => h.IsTuple l xs
theorem SIt.keep {b : Bool} {h h' : Heap} {it l : Addr} {i : Nat} (x : SIt b h it l i) (k : ∀ o, h.get? it = some o → h'.get? it = some o) : SIt b h' it l i := by
  cases b
  · exact Heap.IsListIter.at x k
  · exact tIter_at x k
theorem SSq.keep {b : Bool} {h h' : Heap} {l : Addr} {xs : Array Value} (x : SSq b h l xs) (k : ∀ o, h.get? l = some o → h'.get? l = some o) : SSq b h' l xs := by
  cases b
  · exact Heap.IsList.at x k
  · exact Heap.IsTuple.at x k
theorem SIt.obj {b : Bool} {h : Heap} {it l : Addr} {i : Nat} (x : SIt b h it l i) : ∃ o, h.get? it = some o ∧ ∀ v, o.data ≠ .cell v := by
  cases b
  · obtain ⟨o, e, _, d⟩ := x; exact ⟨o, e, fun v z => by rw [d] at z; cases z⟩
  · obtain ⟨o, e, _, d⟩ := x; exact ⟨o, e, fun v z => by rw [d] at z; cases z⟩
theorem SSq.live {b : Bool} {h : Heap} {l : Addr} {xs : Array Value} (x : SSq b h l xs) : ∃ o, h.get? l = some o := by
  cases b
  · obtain ⟨o, e, _⟩ := x; exact ⟨o, e⟩
  · obtain ⟨o, e, _⟩ := x; exact ⟨o, e⟩
theorem draws_src {prog : Program} {w : World} {A : Around} (hh : A.handled = none) (b : Bool) (it l : Addr) (hne : l ≠ it) (items : Array Value) : Draws prog w A it [it, l] items.size (fun i v => items[i]? = some v) (fun i h => SIt b h it l i ∧ SSq b h l items) := by
  cases b
  · exact Draws.list hh it l hne items
  · exact { live := fun _ _ st => let ⟨o, ho, _⟩ := st.1; ⟨o, ho⟩
            frame := fun _ _ _ st hk => ⟨tIter_at st.1 fun o e => hk it (by simp) o e, Heap.IsTuple.at st.2 fun o e => hk l (by simp) o e⟩
            item := fun i s Q E hi st hQ => nextT_item st.1 st.2 (x := items[i]) (by simp [hi]) fun h' hit' hs' => hQ _ h' s.toks (by simp [hi]) ⟨hit', Heap.IsTuple.extBut st.2 hs'.extBut hne⟩ hs'
            done := fun s Q E st hE => nextT_end hh st.1 st.2 (by simp) hE }
structure ZA (z TO i1 i2 : Addr) (f1 f2 : List Addr) : Prop where
  m1 : i1 ∈ f1
  m2 : i2 ∈ f2
  z1 : z ∉ f1
  z2 : z ∉ f2
  o1 : TO ∉ f1
  o2 : TO ∉ f2
  x1 : i1 ∉ f2
  x2 : i2 ∉ f1
  oz : TO ≠ z
section
variable {prog : Program} {w : World} {A : Around} {E : Value → Shared → Prop} {s : Shared} {z TI TO i1 i2 : Addr} {f1 f2 : List Addr} {n1 n2 i : Nat} {P1 P2 : Nat → Value → Prop} {S1 S2 : Nat → Heap → Prop} {a b : Value}
end
end L2
namespace L2
open PySem PySem.Spec PyProof.Rows
def SqB (b : Bool) (K : PySem.W.Frag) (H : Hp) (a : Addr) (xs : List V) : Prop := match b with | false => SqL K H a xs | true => SqT K H a xs
theorem SqB.of {K : PySem.W.Frag} {H : Hp} {a : Addr} {xs : List V} (h : SqL K H a xs ∨ SqT K H a xs) : ∃ b, SqB b K H a xs := by
  rcases h with h | h
  · exact ⟨false, h⟩
  · exact ⟨true, h⟩
theorem SqB.or {b : Bool} {K : PySem.W.Frag} {H : Hp} {a : Addr} {xs : List V} (h : SqB b K H a xs) : SqL K H a xs ∨ SqT K H a xs := by
  cases b
  · exact .inl h
  · exact .inr h
section
variable {X : Cx} {pins : List (Addr × Obj)} {σ : St} {H : Hp} {s : Shared} {b : Bool} {a c : Addr} {xs : List V}
theorem Inv.src (I : Inv X pins σ H s) (h : SqB b X.K H a xs) : ∃ its : List Value, Vals xs its ∧ SSq b s.heap a its.toArray ∧ xs.length ≤ sizeLine := by
  cases b
  · obtain ⟨its, r, p, z⟩ := I.list h; exact ⟨its, r, p.isList, z⟩
  · obtain ⟨its, r, p, z⟩ := I.tuple h; exact ⟨its, r, p, z⟩
theorem Inv.srcNe (I : Inv X pins σ H s) (h : SqB b X.K H a xs) (f : FpOk X pins H c) : a ≠ c := by
  have known : ∀ o, X.K.lookup a = some o → a ≠ c := fun o hk e => by
    have hb := I.ok.mod.kin a o hk
    subst e
    rcases f.2.2.2.1 with z | z
    · exact I.ok.noex a o hb z
    · exact absurd (Nat.lt_of_lt_of_le (Heap.lt_size hb) (Nat.le_trans I.ok.bsz z)) (Nat.lt_irrefl _)
  have free : ∀ o, H a = some o → a ≠ c := fun o e z => by rw [z, f.1] at e; cases e
  cases b
  · rcases h with (h | ⟨o, h⟩) | ⟨o, _, _, hk, _⟩
    · exact free _ h
    · exact free _ h
    · exact known o hk
  · rcases h with (h | ⟨o, h⟩) | ⟨o, _, _, hk, _⟩
    · exact free _ h
    · exact free _ h
    · exact known o hk
theorem Inv.turnedLaid {h' : Heap} {t' : Nat} {fp : List Addr} {ys : List V} {us : List Value} (I : Inv X pins σ H s) (hf : ∀ b ∈ fp, FpOk X pins H b) (k : ∀ c o, c ∉ fp → s.heap.get? c = some o → h'.get? c = some o) (r : Vals ys us) (hz : ys.length ≤ sizeLine) (hT : IsTup h' s.heap.objs.size us.toArray) :
    Inv X pins σ (upd H s.heap.objs.size (.tup ys)) { s with heap := h', toks := t' } := by
  have hn : H s.heap.objs.size = none := I.hok.fresh (Nat.le_refl _)
  refine I.call' (ch := fp) rfl ⟨fun b o e n hb hx => k b o hx e, fun b o e n hb hx => ⟨o.slots, k b o hx e⟩, fun b o e n hx => ?_, fun b o e hx => ⟨o, k b o hx e⟩, fun b zs e => ?_, fun b o u e => ?_, fun b ps e => ⟨#[], ?_⟩⟩ (fun b u e => ?_) I.bare fun b hb => ?_
  · rw [upd_ne (Nat.ne_of_lt (Heap.lt_size e))]; exact n
  · rw [upd_ne (ne_of_none e hn)]; exact e
  · rw [upd_ne (ne_of_none e hn)]; exact e
  · rw [upd_ne (ne_of_none e hn), e]; simp
  · by_cases hb : b = s.heap.objs.size
    · subst hb; rw [upd_same] at e; cases e
      exact ⟨hz, us, r, hT⟩
    · rw [upd_ne hb] at e
      refine (I.hok b u e).stay (fun c v hc q => k c v (fun z => ?_) q) (fun c q => by rw [upd_ne (ne_of_none q hn)]; exact q) fun c zs q => by rw [upd_ne (ne_of_none q hn)]; exact q
      have z' := (hf c z).1
      rcases hc with hc | hc
      · rw [hc, e] at z'; cases z'
      · rw [hc] at z'; cases z'
  · obtain ⟨f0, f1, f2, f3, f4, f5⟩ := hf b hb
    exact ⟨f3, f1, f4, f5⟩
theorem Inv.turnedAll {h' : Heap} {t' : Nat} {fp : List Addr} (I : Inv X pins σ H s) (hf : ∀ b ∈ fp, FpOk X pins H b) (k : ∀ c o, c ∉ fp → s.heap.get? c = some o → h'.get? c = some o) : Inv X pins σ H { s with heap := h', toks := t' } := by
  refine I.call' (ch := fp) rfl ⟨fun b o e n hb hx => k b o hx e, fun b o e n hb hx => ⟨o.slots, k b o hx e⟩, fun b o e n hx => n, fun b o e hx => ⟨o, k b o hx e⟩, fun b zs e => e, fun b o u e => e, fun b ps e => ⟨#[], by rw [e]; simp⟩⟩ (fun b u e => ?_) I.bare fun b hb => ?_
  · refine (I.hok b u e).stay (fun c v hc q => k c v (fun z => ?_) q) (fun c q => q) fun c zs q => q
    have z' := (hf c z).1
    rcases hc with hc | hc
    · rw [hc, e] at z'; cases z'
    · rw [hc] at z'; cases z'
  · obtain ⟨f0, f1, f2, f3, f4, f5⟩ := hf b hb
    exact ⟨f3, f1, f4, f5⟩
end
section
variable {prog : Program} {w : World} {A : Around} {E : Value → Shared → Prop} {s : Shared}
end
section
variable {prog : Program} {w : World} {A : Around} {E : Value → Shared → Prop} {s : Shared}
end
theorem getD_val {xs : List V} {its : List Value} {i : Nat} {u : Value} (r : Vals xs its) (e : its.toArray[i]? = some u) : RelV (xs.getD i .non) u := by
  obtain ⟨x, h1, h2⟩ := r.tog (i := i) (u := u) (by simpa using e)
  rw [List.getD_eq_getElem?_getD, h1]; exact h2
structure ItP (J : It) (n : Nat) (val : Nat → List V) (C : Hp → Prop) : Prop where
  go : ∀ i H, C H → i < n → J.go i H
  yld : ∀ i H x H', C H → i < n → J.yld i H x H' → ∃ p, x = .ref p ∧ H p = none ∧ H' = upd H p (.tup (val i))
  stop : ∀ H, C H → J.stop n H
theorem SqB.same {b : Bool} {K : PySem.W.Frag} {H H' : Hp} {a : Addr} {xs : List V} (h : SqB b K H a xs) (S : Same H H') : SqB b K H' a xs := by
  cases b
  · exact S.seq h
  · exact S.tup h
section
variable {X : Cx} {K : PySem.W.Frag} {elts : List Expr} {kx : Nat} {tpos : Pos}
end
theorem lc_byP {J : It} {n : Nat} {val : Nat → List V} {C : Hp → Prop} {g : TG} {tt : TT} {te : TE} {σ0 : St} {Q : VK} {H : Hp} (O : ItP J n val C) (Pv : Nat → List V → Hp → Prop) (hn : n ≤ sizeLine) (h0 : Pv 0 [] H) (hl : ∀ i ys H, i ≤ n → Pv i ys H → C H ∧ ys.length ≤ i)
    (hs : ∀ i ys H p, i < n → Pv i ys H → H p = none → g (.ref p) σ0 (upd H p (.tup (val i))) fun σ2 H2 => Wk σ0 σ2 ∧ tt σ2 H2 fun k H3 => if k = true then te σ2 H3 fun v H4 => ys.length < sizeLine ∧ ∃ m', m' < n - i ∧ (m' = n - (i + 1) ∧ i + 1 ≤ n ∧ Pv (i + 1) (ys ++ [v]) H4) else ∃ m', m' < n - i ∧ (m' = n - (i + 1) ∧ i + 1 ≤ n ∧ Pv (i + 1) ys H3))
    (hd : ∀ ys H, Pv n ys H → ∀ p, H p = none → Q (.ref p) (upd H p (.lst ys))) : LcW J g tt te σ0 Q H := by
  refine ⟨fun i m ys H => m = n - i ∧ i ≤ n ∧ Pv i ys H, ⟨n, by simp, Nat.zero_le _, h0⟩, ?_⟩
  rintro i m ys H ⟨rfl, hi, p⟩
  obtain ⟨c, hy⟩ := hl i ys H hi p
  refine ⟨by omega, ?_⟩
  by_cases hlt : i < n
  · refine .inr ⟨O.go i H c hlt, fun x H' y => ?_⟩
    obtain ⟨q, rfl, hq, rfl⟩ := O.yld i H x H' c hlt y
    exact hs i ys _ q hlt p hq
  · obtain rfl : i = n := by omega
    exact .inl ⟨O.stop H c, hd ys H p⟩
theorem for_byP {J : It} {n : Nat} {val : Nat → List V} {C : Hp → Prop} {g : TG} {tb : TS} {D : Ends} {σ : St} {H : Hp} (O : ItP J n val C) (Pv : Nat → St → Hp → Prop) (h0 : Pv 0 σ H) (hl : ∀ i σ H, i ≤ n → Pv i σ H → C H)
    (hs : ∀ i σ H p, i < n → Pv i σ H → H p = none → g (.ref p) σ (upd H p (.tup (val i))) fun σ2 H2 => tb { D with nx := Pv (i + 1), ct := Pv (i + 1), bk := D.nx } σ2 H2) (hd : ∀ σ H, Pv n σ H → D.nx σ H) :
    ∃ W : Nat → Nat → St → Hp → Prop, (∃ m, W 0 m σ H) ∧ ∀ i m σ H, W i m σ H → (J.stop i H ∧ D.nx σ H) ∨ (J.go i H ∧ ∃ N : St → Hp → Prop, (∀ σ' H', N σ' H' → ∃ m', m' < m ∧ W (i + 1) m' σ' H') ∧ ∀ x H', J.yld i H x H' → g x σ H' fun σ2 H2 => tb { D with nx := N, ct := N, bk := D.nx } σ2 H2) := by
  refine ⟨fun i m σ H => m = n - i ∧ i ≤ n ∧ Pv i σ H, ⟨n, by simp, Nat.zero_le _, h0⟩, ?_⟩
  rintro i m σ H ⟨rfl, hi, p⟩
  have c := hl i σ H hi p
  by_cases hlt : i < n
  · refine .inr ⟨O.go i H c hlt, Pv (i + 1), fun σ' H' p' => ⟨n - (i + 1), by omega, rfl, hlt, p'⟩, fun x H' y => ?_⟩
    obtain ⟨q, rfl, hq, rfl⟩ := O.yld i H x H' c hlt y
    exact hs i σ _ q hlt p hq
  · obtain rfl : i = n := by omega
    exact .inl ⟨O.stop H c, hd σ H p⟩
end L2
namespace L2
open PySem PySem.Spec PyProof.Rows
section
variable {X : Cx} {K : PySem.W.Frag}
end
theorem DefE.calm {P : Program} {w : World} {K : PySem.W.Frag} {mg : Str → Option Value} {base : Heap} {k : Nat} {x : Str} {ps : List Str} {sp : Sp} (D : DefE P w K mg base k x ps sp) : Def P w K mg base k x ps (fun vs H Q _ => sp vs H Q fun _ _ _ => False) := by
  obtain ⟨f, fd, F, m, kp, b⟩ := D
  refine ⟨f, fd, ⟨fun vs H Q E h => F.len _ _ _ _ h, fun A outer s H args us vs Q E hr he hb hv hs => codeAny_mono (F.run A outer s H args us vs Q _ hr he hb hv hs) fun r s' hq => ?_⟩, m, kp, b⟩
  cases r with
  | error e => obtain ⟨_, _, _, _, _, _, _, _, _, _, _, z⟩ := hq; exact z.elim
  | ok fl => cases fl <;> exact hq
theorem SqB.len {b : Bool} {K : PySem.W.Frag} {H : Hp} {a : Addr} {xs : List V} (h : SqB b K H a xs) : SqL K H a xs ∨ SqT K H a xs := h.or
theorem getD_ints {ns : List Int} {i : Nat} (h : i < ns.length) : (ns.map V.int).getD i .non = .int (ns.getD i 0) := by
  rw [List.getD_eq_getElem?_getD, List.getElem?_map, List.getD_eq_getElem?_getD, List.getElem?_eq_getElem h]; rfl
end L2
namespace L2
open PySem PySem.Spec PyProof.Rows
structure RoomC (k : Nat) (A : Around) : Prop where
  dp : A.depth + 3 * k + 5 < recursionLimit
  un : A.units + 16 * k + 200 < cLine
theorem Room.c {k : Nat} {A : Around} (r : Room k A) : RoomC k A := ⟨r.dp, r.un⟩
theorem Room.held {k : Nat} {A : Around} {v : Option Value} (r : Room k A) : RoomC k (A.mark v) := ⟨r.dp, r.un⟩
theorem RoomC.mono {j k : Nat} {A : Around} (r : RoomC k A) (h : j ≤ k) : RoomC j A := ⟨by have := r.dp; omega, by have := r.un; omega⟩
structure FnOkC (P : Program) (w : World) (K : PySem.W.Frag) (mg : Str → Option Value) (base : Heap) (k : Nat) (f : Addr) (fd : FuncData) (ps : List Str) (sp : Sp) : Prop where
  len : ∀ vs H Q E, sp vs H Q E → vs.length = ps.length
  run : ∀ (A : Around) (outer : List Env) (s : Shared) (H : Hp) (args : Args) (us : List Value) (vs : List V) (Q : VK) (E : XK), RoomC k A → Env0 P w K mg base A outer s H → BindsTo s fd args (ps.zip us) → Vals vs us → sp vs H Q E → codeAny (model P w) A (.call (.ref f) args) (CR CX0 outer P w H s Q E) s
def DefC (P : Program) (w : World) (K : PySem.W.Frag) (mg : Str → Option Value) (base : Heap) (k : Nat) (x : Str) (ps : List Str) (sp : Sp) : Prop :=
  ∃ f fd, FnOkC P w K mg base k f fd ps sp ∧ mg x = some (.ref f) ∧ PySem.W.keepIn K (.ref f) = true ∧ Binds K fd ps []
theorem DefC.of {P : Program} {w : World} {K : PySem.W.Frag} {mg : Str → Option Value} {base : Heap} {k : Nat} {x qual : Str} {ps : List Str} {sp : Sp} {st : Stmt} {f : Addr} {fd : FuncData}
    (F : Fun K x qual st f fd) (m : mg x = some (.ref f)) (b : Binds K fd ps []) (ok : FnOkC P w K mg base k f fd ps sp) : DefC P w K mg base k x ps sp := ⟨f, fd, ok, m, F.kp, b⟩
theorem DefC.calm {P : Program} {w : World} {K : PySem.W.Frag} {mg : Str → Option Value} {base : Heap} {k : Nat} {x : Str} {ps : List Str} {sp : Sp} (D : DefC P w K mg base k x ps sp) : Def P w K mg base k x ps sp := by
  obtain ⟨f, fd, F, r⟩ := D
  exact ⟨f, fd, ⟨F.len, fun A outer s H args us vs Q E hr => F.run A outer s H args us vs Q E hr.c⟩, r⟩
def iSeqB (K : PySem.W.Frag) (tl : TE) : TI := fun σ H R => tl σ H fun x H1 => ∃ b a xs, x = .ref a ∧ SqB b K H1 a xs ∧ ∀ J C, ItOk J xs.length (fun i => xs.getD i .non) C → (∀ H2, SqB b K H2 a xs → C H2) → R J H1
theorem piSeqB {X : Cx} {K : PySem.W.Frag} {tg l : Expr} {tl : TE} (hK : X.K = K) (hl : PE X l tl) : PI X tg l (iSeqB K tl) := by
  subst hK
  intro pins s σ H R I h
  refine thn (hl pins s σ H _ I h) fun v s1 ⟨x, H1, I1, r1, q1⟩ => ?_
  obtain ⟨b, a, xs, e, hq, q⟩ := q1
  subst e
  cases r1
  have fp : ∀ b ∈ [s1.heap.objs.size], FpOk X pins H1 b := fun b hb => by
    have e : b = s1.heap.objs.size := by simpa using hb
    rw [e]; exact I1.fpOk (Nat.le_refl _) (I1.hok.fresh (Nat.le_refl _))
  cases b
  · obtain ⟨its, rv, p, hz⟩ := I1.list hq
    exact wpAny_pyIter_list p.isList ⟨s1.heap.objs.size, [s1.heap.objs.size], _, _, H1, rfl, I1.kept (t' := s1.toks) fun b o e => Heap.get?_push_of_some _ e, turn_list a _, ⟨_, Heap.get?_push_size _ rfl, rfl, rfl⟩, fp, q _ _ itok_list fun H2 S => S⟩
  · obtain ⟨its, rv, p, hz⟩ := I1.tuple hq
    exact wpAny_pyIter_tuple (show s1.heap.IsTuple a its.toArray from p) ⟨s1.heap.objs.size, [s1.heap.objs.size], _, _, H1, rfl, I1.kept (t' := s1.toks) fun b o e => Heap.get?_push_of_some _ e, turn_tuple a _, ⟨_, Heap.get?_push_size _ rfl, rfl, rfl⟩, fp, q _ _ itok_tup fun H2 S => S⟩
end L2
namespace L2
open PySem PySem.Spec PyProof.Rows
set_option maxRecDepth 100000
section
variable {prog : Program} {w : World} {A : Around} {E : Value → Shared → Prop} {s : Shared}
end
section
variable {prog : Program} {w : World} {A : Around} {E : Value → Shared → Prop} {s : Shared}
end
section
variable {X : Cx} {K : PySem.W.Frag}
end
end L2
namespace L2
open PySem PySem.Spec PyProof.Rows
section
variable {X : Cx}
theorem op_mulB : OpR X (binaryOp .Mult) (rI (fun i j => i.natAbs < 2 ^ 200 ∧ j.natAbs < 2 ^ 200) fun i j => .int (i * j)) := opI fun i j _ _ _ _ _ hc q => mul_int q (by
  have h1 := intBits_le hc.1
  have h2 := intBits_le hc.2
  unfold IntMulOk
  intro h
  rw [Bool.and_eq_true] at h
  have h3 : ((Builtin.Int.intBits i + Builtin.Int.intBits j : Nat) : Int) > bitsLine := of_decide_eq_true h.2
  have h4 : (400 : Int) ≤ bitsLine := by decide
  omega)
end
end L2
namespace L2
open PySem PySem.Spec PyProof.Rows
open AutoSeq1 (wpAny_loadPart')
set_option maxRecDepth 100000
set_option maxHeartbeats 1000000 in
theorem meets_enumT (l : Addr) (items : Array Value) (n : Nat) (dct : Option Addr) (sl : Array (Option Value)) : Meets (Builtin.«enumerate.__new__» ⟨[.type "enumerate", .ref l], []⟩) (fun _ R s => s.heap.get? l = some { cls := .type "tuple", dict := dct, data := .seq items n, slots := sl } ∧
      R (.ok (.ret (.ref (s.heap.push { cls := .type "tuple_iterator", data := .fields #[.ref l, .int 0 0] }).objs.size))) { s with heap := (s.heap.push { cls := .type "tuple_iterator", data := .fields #[.ref l, .int 0 0] }).push { cls := .type "enumerate", data := .fields #[.none, .bool false, .ref s.heap.objs.size, rawInt 0, .none, .none] } }) :=
  .of_wp fun prog w A R s h => by
    obtain ⟨at_, told⟩ := h
    obtain ⟨hp, gs, dn, tk, os⟩ := s
    have self := sub_enumerate
    have seq : Heap.IsTuple (Shared.heap ⟨hp, gs, dn, tk, os⟩) l items := ⟨_, at_, rfl, n, rfl⟩
    wp_walk using AutoSeq1.wpAny_loadPart' at_
    apply wpAny_stack_any
    intro rows
    apply wpAny_pure
    split
    rename_i cl _ _ _ _ _
    rcases Bool.eq_false_or_eq_true (cl == Value.type "enumerate") with q | q <;> rw [q]
    all_goals wp_walk using AutoSeq1.wpAny_loadPart' at_, wpAny_pyIter_tuple seq
    all_goals exact ⟨_, rfl, told⟩
section
variable {prog : Program} {w : World} {A : Around} {E : Value → Shared → Prop} {s : Shared}
theorem call_enumT {l : Addr} {items : Array Value} {Q : Value → Shared → Prop} (hL : s.heap.IsTuple l items)
    (h : ∀ h', IsEnum h' (s.heap.objs.size + 1) s.heap.objs.size 0 .none → h'.IsTupleIter s.heap.objs.size l 0 → (∀ b o, s.heap.get? b = some o → h'.get? b = some o) → Q (.ref (s.heap.objs.size + 1)) { s with heap := h' }) : wpAny (model prog w) A (call (.type "enumerate") [.ref l]) Q E s := by
  obtain ⟨⟨cc, dct, dt, sl⟩, hl, hc, n, hd⟩ := hL
  replace hc : cc = .type "tuple" := hc; replace hd : dt = .seq items n := hd; subst hc hd
  refine callType_new F.called_enumerate (by decide) (F.typeCall_enumerate_1 _) (F.newCall_enumerate_1 _) (fun obj => F.args_object_init_2 obj _) F.entry_enumerate_new (meets_enumT l items n dct sl) ⟨hl, ?_⟩
  have hz : (s.heap.push { cls := .type "tuple_iterator", data := .fields #[.ref l, .int 0 0] }).objs.size = s.heap.objs.size + 1 := Heap.size_push ..
  show _ ∧ _
  rw [hz]
  have he : IsEnum ((s.heap.push { cls := .type "tuple_iterator", data := .fields #[.ref l, .int 0 0] }).push { cls := .type "enumerate", data := .fields #[.none, .bool false, .ref s.heap.objs.size, rawInt 0, .none, .none] }) (s.heap.objs.size + 1) s.heap.objs.size 0 .none := by
    have := Heap.get?_push_size (s.heap.push { cls := .type "tuple_iterator", data := .fields #[.ref l, .int 0 0] }) (o := { cls := .type "enumerate", data := .fields #[.none, .bool false, .ref s.heap.objs.size, rawInt 0, .none, .none] }) rfl
    rw [hz] at this; exact this
  exact ⟨⟨_, he, rfl⟩, h _ he ⟨_, Heap.get?_push_of_some _ (Heap.get?_push_size _ rfl), rfl, rfl⟩ fun b o x => Heap.get?_push_of_some _ (Heap.get?_push_of_some _ x)⟩
theorem call_enumB {b : Bool} {l : Addr} {items : Array Value} {Q : Value → Shared → Prop} (hL : SSq b s.heap l items)
    (h : ∀ h', IsEnum h' (s.heap.objs.size + 1) s.heap.objs.size 0 .none → SIt b h' s.heap.objs.size l 0 → (∀ b o, s.heap.get? b = some o → h'.get? b = some o) → Q (.ref (s.heap.objs.size + 1)) { s with heap := h' }) : wpAny (model prog w) A (call (.type "enumerate") [.ref l]) Q E s := by
  cases b
  · exact call_enumerate_list hL fun h' h1 h2 _ h3 => h h' h1 h2 h3
  · exact call_enumT hL fun h' h1 h2 h3 => h h' h1 h2 h3
end
def Ite (K : PySem.W.Frag) (b : Bool) (a : Addr) (xs : List V) : It :=
  ⟨fun i H => SqB b K H a xs ∧ i < xs.length, fun i H x H' => ∃ p, x = .ref p ∧ H p = none ∧ H' = upd H p (.tup [.int (i : Nat), xs.getD i .non]), fun i H => SqB b K H a xs ∧ i = xs.length⟩
theorem turn_enum {P : Program} {w : World} {K : PySem.W.Frag} {elts : List Expr} {kx} {pos : Pos} (b : Bool) (a e it : Addr) (xs : List V) (ne : e ≠ it) :
    Turn P w K (.Tuple elts kx pos) (Ite K b a xs) [e, it] e (fun i h => (∃ old, IsEnum h e it (i : Nat) old) ∧ SIt b h it a i) where
  mem := by simp
  obj := fun i h st c hc => by
    obtain ⟨⟨old, he⟩, h1⟩ := st
    simp only [List.mem_cons, List.not_mem_nil, or_false] at hc
    rcases hc with rfl | rfl
    · exact ⟨_, he, fun v z => by cases z⟩
    · exact h1.obj
  keep := fun i h h' st k => by
    obtain ⟨⟨old, he⟩, h1⟩ := st
    exact ⟨⟨old, k e (by simp) _ he⟩, h1.keep fun o x => k it (by simp) o x⟩
  item := by
    intro X hP hw hK hc i pins s σ H E I hf st hg
    subst hP hw hK
    obtain ⟨⟨old, he⟩, h1⟩ := st
    obtain ⟨q1, hx⟩ := hg
    obtain ⟨its, r1, p1, z1⟩ := I.src q1
    have na := I.srcNe q1 (hf it (by simp)); have nb := I.srcNe q1 (hf e (by simp)); have len1 := r1.length
    have D := draws_src (prog := X.prog) (w := X.w) (A := X.A.in1) (I.ok.hd hc) b it a na its.toArray
    refine wpAny_pyNext_enum_itemD D he ⟨h1, p1⟩ (by simp; omega) ne (by simp [ne, nb.symm]) fun x h' tk hPx ho hs' hT hsz hk => ?_
    have r : Vals [V.int (i : Nat), xs.getD i .non] [Value.int (i : Nat) tk, x] := .cons ⟨tk, rfl⟩ (.cons (getD_val r1 hPx) .nil)
    have I1 : Inv X pins σ (upd H s.heap.objs.size (.tup [.int (i : Nat), xs.getD i .non])) { s with heap := h', toks := tk + 1 } :=
      I.turnedLaid (t' := tk + 1) hf (fun c o hc e' => hk c o (fun q => hc (by simp [q])) (fun q => hc (by simp [q])) e') r (by show 2 ≤ sizeLine; decide) ⟨_, hT, rfl, _, rfl⟩
    have nH : H s.heap.objs.size = none := I.hok.fresh (Nat.le_refl _)
    have fresh : ∀ c ∈ [e, it], (upd H s.heap.objs.size (.tup [.int (i : Nat), xs.getD i .non])) c = none := fun c hc => by
      rw [upd_ne ?_]
      · exact (hf c hc).1
      · simp only [List.mem_cons, List.not_mem_nil, or_false] at hc
        rcases hc with rfl | rfl
        · exact Nat.ne_of_lt (Heap.lt_size he)
        · obtain ⟨o, e', _⟩ := h1.obj; exact Nat.ne_of_lt (Heap.lt_size e')
    obtain ⟨f0, f1, f2, f3, f4, f5⟩ := hf e (by simp)
    refine ⟨_, rfl, wpAny_letOwnedTupleGo_enum ho fun h2 he2 sb => ⟨.ref s.heap.objs.size, _, I1.turned (t' := tk + 1) (fun b o hb e' => (sb.2 b hb).trans e') (fresh e (by simp)) f1 f3 f4 f5, rfl, ⟨_, rfl, nH, rfl⟩, ⟨⟨x, by simpa using he2⟩, ?_⟩, fresh⟩⟩
    exact hs'.1.keep fun o e' => (sb.2 it ne.symm).trans e'
  done := by
    intro X hP hw hK hc i pins s σ H E I hf st hg
    subst hP hw hK
    obtain ⟨⟨old, he⟩, h1⟩ := st
    obtain ⟨q1, hx⟩ := hg
    obtain ⟨its, r1, p1, z1⟩ := I.src q1
    have na := I.srcNe q1 (hf it (by simp)); have len1 := r1.length
    have D := draws_src (prog := X.prog) (w := X.w) (A := X.A.in1) (I.ok.hd hc) b it a na its.toArray
    have hs : SIt b s.heap it a its.toArray.size := by rw [List.size_toArray, ← len1, ← hx]; exact h1
    refine wpAny_pyNext_enum_endD D he ⟨hs, p1⟩ fun h' eb => ⟨rfl, I.turnedAll (t' := s.toks) hf fun c o hc e' => eb c o (fun q => hc (by simp [q])) e'⟩
  self := fun A i s Q E st h => by obtain ⟨⟨old, he⟩, _⟩ := st; exact wpAny_pyIter_enum he h
theorem itp_enum {K : PySem.W.Frag} {b : Bool} {a : Addr} {xs : List V} : ItP (Ite K b a xs) xs.length (fun i => [.int (i : Nat), xs.getD i .non]) (fun H => SqB b K H a xs) where
  go := fun i H c hi => ⟨c, hi⟩
  yld := fun i H x H' c hi y => y
  stop := fun H c => ⟨c, rfl⟩
def iEnum (K : PySem.W.Frag) (ta : TA) : TI := fun σ H R => ta σ H fun vs H1 => ∃ (b : Bool) (a : Addr) (xs : List V), vs = [.ref a] ∧ SqB b K H1 a xs ∧ ∀ J C, ItP J xs.length (fun i => [.int (i : Nat), xs.getD i .non]) C → (∀ H2, SqB b K H2 a xs → C H2) → R J H1
theorem pi_enum {X : Cx} {K : PySem.W.Frag} {elts : List Expr} {kx : Nat} {tpos : Pos} {a : Expr} {ta : TA} {p pos : Pos} (hK : X.K = K) (hg : Gl X "enumerate") (hm : X.mg "enumerate" = none) (ha : PA X [a] ta) (hs : starEach [a] X.env = [(false, eval a X.env)] := by rfl) :
    PI X (.Tuple elts kx tpos) (.Call (.Name "enumerate" p) [a] [] pos) (iEnum K ta) := by
  subst hK
  intro pins s σ H R I h
  refine Call_ (ld_blt I hg hm boot_enumerate (PyProof.Rows.callWith_type1 (thn (ha pos pins s σ H _ I h) fun us s1 ⟨vs, H1, I1, r1, q1⟩ => ?_) hs rfl))
  obtain ⟨b, a1, xs, e, q1, q⟩ := q1
  subst e
  obtain ⟨u, rfl, rx⟩ := vals1 r1
  cases rx
  obtain ⟨its, rv1, p1, z1⟩ := I1.src q1
  refine call_enumB p1 fun h' he h1 hk => wpAny_pyIter_enum he ?_
  have I2 : Inv X pins σ H1 { s1 with heap := h' } := I1.kept (t' := s1.toks) hk
  refine ⟨_, [s1.heap.objs.size + 1, s1.heap.objs.size], _, _, H1, rfl, I2, turn_enum b a1 _ _ xs (Nat.ne_of_gt (Nat.lt_succ_self _)), ⟨⟨_, he⟩, h1⟩, fun c hc => ?_, q _ _ itp_enum fun H2 k1 => k1⟩
  have : s1.heap.objs.size ≤ c := by
    simp only [List.mem_cons, List.not_mem_nil, or_false] at hc
    rcases hc with rfl | rfl <;> first | exact Nat.le_add_right _ _ | exact Nat.le_refl _
  exact I1.fpOk this (I1.hok.fresh this)
end L2
namespace L2
open PySem PySem.Spec PyProof.Rows
def Thin (H : Hp) (v : V) : Prop := ∃ r o xs, v = .ref r ∧ H r = some (.frz o (.tup xs)) ∧ o.dict = none
theorem Thin.same {H H' : Hp} {v : V} (S : Same H H') (h : Thin H v) : Thin H' v := by
  obtain ⟨r, o, xs, e, h1, h2⟩ := h
  exact ⟨r, o, xs, e, S _ _ h1, h2⟩
def WebD (K : PySem.W.Frag) (C : Addr) (H : Hp) (a : Addr) (m : Int) (es : List (Int × Int)) : Prop := ∃ dx t xs, H a = some (.ins C dx (wFs m t)) ∧ H t = some (.tup xs) ∧ Pairs K H xs es ∧ ∀ v ∈ xs, Thin H v
theorem WebD.at {K : PySem.W.Frag} {C : Addr} {H : Hp} {a : Addr} {m : Int} {es : List (Int × Int)} (h : WebD K C H a m es) : WebAt K C H a m es := by
  obtain ⟨dx, t, xs, h1, h2, h3, _⟩ := h
  exact ⟨dx, t, xs, h1, h2, h3⟩
theorem WebD.same {K : PySem.W.Frag} {C : Addr} {H H' : Hp} {a : Addr} {m : Int} {es : List (Int × Int)} (h : WebD K C H a m es) (S : Same H H') : WebD K C H' a m es := by
  obtain ⟨dx, t, xs, h1, h2, h3, h4⟩ := h
  exact ⟨dx, t, xs, S _ _ h1, S _ _ h2, h3.same S, fun v hv => (h4 v hv).same S⟩
section
variable {X : Cx} {K : PySem.W.Frag}
end
end L2
namespace L2
open PySem PySem.Spec PyProof.Rows
section
variable {prog : Program} {w : World} {A : Around} {E : Value → Shared → Prop} {s : Shared}
end
section
variable {X : Cx} {K : PySem.W.Frag}
theorem rng_acc {lo : Int} {n : Nat} {acc : Array Value} (h : ItemsOf (fun i v => ∃ t, v = .int (lo + i * 1) t) acc n) : Vals (((List.range n).map fun i => lo + ((i : Nat) : Int)).map V.int) acc.toList := by
  obtain ⟨h1, h2⟩ := h
  have key : ∀ (us : List Value) (k m : Nat), us.length = m → (∀ (j : Nat) v, us[j]? = some v → ∃ t, v = .int (lo + ((k + j : Nat) : Int)) t) → Vals (((List.range' k m).map fun i => lo + ((i : Nat) : Int)).map V.int) us := by
    intro us
    induction us with
    | nil => intro k m hm _; cases hm; exact .nil
    | cons u us ih =>
      intro k m hm hv
      cases m with
      | zero => cases hm
      | succ m =>
        rw [List.range'_succ, List.map_cons, List.map_cons]
        refine .cons ?_ (ih (k + 1) m (by simpa using hm) fun j v e => ?_)
        · obtain ⟨t, e⟩ := hv 0 u rfl
          exact ⟨t, by rw [e, Nat.add_zero]⟩
        · obtain ⟨t, e'⟩ := hv (j + 1) v (by simpa using e)
          exact ⟨t, by rw [e', show k + (j + 1) = k + 1 + j by omega]⟩
  rw [List.range_eq_range']
  refine key acc.toList 0 n (by simpa using h1) fun j v e => ?_
  obtain ⟨t, e'⟩ := h2 j v (by simpa using e)
  exact ⟨t, by rw [e', Int.mul_one, Nat.zero_add]⟩
theorem listrange_ok {pins : List (Addr × Obj)} {σ : St} {H : Hp} {s : Shared} {E : Value → Shared → Prop} {lo hi : Int} {t u v : Tok} {tk : Nat} {Q : VK} (hh : X.A.handled = none) (I : Inv X pins σ H s) (h1 : -(2 ^ 62) ≤ lo) (h2 : lo < 2 ^ 62) (h3 : -(2 ^ 62) ≤ hi) (h4 : hi < 2 ^ 62) (hn : (hi - lo).toNat ≤ 1000)
    (q : ∀ l, H l = none → Q (.ref l) (upd H l (.lst (((List.range (hi - lo).toNat).map fun i => lo + ((i : Nat) : Int)).map V.int)))) :
    wpAny (model X.prog X.w) X.A (call (.type "list") [.ref s.heap.objs.size]) (EP X pins σ Q) E { s with heap := s.heap.push { cls := .type "range", data := .fields #[.int lo t, .int hi u, .int 1 v] }, toks := tk } := by
  refine call_list_range (n := (hi - lo).toNat) hh (IsRange.new ..) (small_one h1 h2 h3 h4) (by rw [rangeSize_one]; split <;> omega) (Nat.le_trans hn (by decide)) fun h' tk' acc' c' hk hS hacc => ?_
  have fr : s.heap.objs.size ≤ (s.heap.push { cls := .type "range", data := .fields #[.int lo t, .int hi u, .int 1 v] }).objs.size := by rw [Heap.size_push]; exact Nat.le_succ _
  have ea : acc' = acc'.toList.toArray := rfl
  refine ⟨.ref _, _, I.laid (t' := tk') (fun b o e => hk b o (Heap.get?_push_of_some _ e)) fr (show ObjOk X.prog X.w _ h' _ (.lst _) from ⟨?_, acc'.toList, c', rng_acc hacc, hS⟩), rfl, q _ (I.hok.fresh fr)⟩
  rw [List.length_map, List.length_map, List.length_range]; exact Nat.le_of_lt (small1000 hn)
def tLr1 (ta : TA) : TE := fun σ H Q => ta σ H fun vs H1 => ∃ j : Int, vs = [.int j] ∧ -(2 ^ 62) ≤ j ∧ j ≤ 1000 ∧ ∀ l, H1 l = none → Q (.ref l) (upd H1 l (.lst (((List.range j.toNat).map fun i => 0 + ((i : Nat) : Int)).map V.int)))
theorem pe_listrange1 {e : Expr} {ta : TA} {p1 p2 pos1 pos2 : Pos} (hc : X.calm = true) (hg : Gl X "list") (hm : X.mg "list" = none) (hg2 : Gl X "range") (hm2 : X.mg "range" = none) (ha : PA X [e] ta)
    (hs : starEach [.Call (.Name "range" p2) [e] [] pos2] X.env = [(false, eval (.Call (.Name "range" p2) [e] [] pos2) X.env)] := by rfl) (hs2 : starEach [e] X.env = [(false, eval e X.env)] := by rfl) :
    PE X (.Call (.Name "list" p1) [.Call (.Name "range" p2) [e] [] pos2] [] pos1) (tLr1 ta) := by
  intro pins s σ H Q I h
  refine Call_ (ld_blt I hg hm boot_list (PyProof.Rows.callWith_type1 ?_ hs rfl))
  rw [hs]
  refine Calls.spliced_cons ?_
  refine Call_ (ld_blt I hg2 hm2 boot_range (PyProof.Rows.callWith_type1 (thn (ha pos2 pins s σ H _ I h) fun us s1 ⟨vs, H1, I1, r1, q1⟩ => ?_) hs2 rfl))
  obtain ⟨j, rfl, b1, b2, q⟩ := q1
  obtain ⟨u, rfl, t, rfl⟩ := vals1 r1
  refine call_range_1 (Calls.spliced_nil ?_)
  exact listrange_ok (I.ok.hd hc) I1 (by decide) (by decide) b1 (by omega) (by omega) fun l nl => by rw [Int.sub_zero]; exact q l nl
end
theorem Pairs.take {K : PySem.W.Frag} {H : Hp} : ∀ {xs : List V} {es : List (Int × Int)} (i : Nat), Pairs K H xs es → Pairs K H (xs.take i) (es.take i)
  | _, _, _, .nil => by rw [List.take_nil, List.take_nil]; exact .nil
  | _, _, 0, .cons _ _ => .nil
  | _, _, i + 1, .cons p t => .cons p (Pairs.take i t)
theorem Pairs.drop {K : PySem.W.Frag} {H : Hp} : ∀ {xs : List V} {es : List (Int × Int)} (i : Nat), Pairs K H xs es → Pairs K H (xs.drop i) (es.drop i)
  | _, _, _, .nil => by rw [List.drop_nil, List.drop_nil]; exact .nil
  | _, _, 0, .cons p t => .cons p t
  | _, _, i + 1, .cons _ t => Pairs.drop i t
end L2
namespace L2
open PySem PySem.Spec PyProof.Rows
section
variable {X : Cx} {tg : Expr}
end
end L2
namespace L2
open PySem PySem.Spec PyProof.Rows
section
variable {κ : Type} [DecidableEq κ]
def valV (kvs : List (κ × V)) (k : κ) : Option V := (kvs.find? fun kv => decide (kv.1 = k)).map (·.2)
def putK (kvs : List (κ × V)) (k : κ) (v : V) : List (κ × V) :=
  if (kvs.any fun kv => decide (kv.1 = k)) = true then kvs.map (fun kv => if kv.1 = k then (kv.1, v) else kv) else kvs ++ [(k, v)]
def dropK (kvs : List (κ × V)) (k : κ) : List (κ × V) := kvs.filter fun kv => decide (kv.1 ≠ k)
theorem valV_pos {p : κ × V} {r : List (κ × V)} {k : κ} (e : p.1 = k) : valV (p :: r) k = some p.2 := by simp [valV, List.find?_cons, e]
theorem valV_neg {p : κ × V} {r : List (κ × V)} {k : κ} (e : ¬ p.1 = k) : valV (p :: r) k = valV r k := by simp [valV, List.find?_cons, e]
theorem valV_any (k : κ) : ∀ kvs : List (κ × V), (kvs.any fun kv => decide (kv.1 = k)) = (valV kvs k).isSome
  | [] => rfl
  | p :: r => by
    rw [List.any_cons]
    by_cases e : p.1 = k
    · simp only [valV_pos e, decide_eq_true e, Bool.true_or, Option.isSome_some]
    · rw [valV_neg e, decide_eq_false e, Bool.false_or]; exact valV_any k r
theorem length_putK (kvs : List (κ × V)) (k : κ) (v : V) : (putK kvs k v).length ≤ kvs.length + 1 := by
  unfold putK
  split
  · rw [List.length_map]; omega
  · rw [List.length_append, List.length_cons, List.length_nil]; omega
theorem putK_new {kvs : List (κ × V)} {k : κ} (v : V) (h : valV kvs k = none) : putK kvs k v = kvs ++ [(k, v)] := by
  unfold putK
  rw [valV_any, h]
  exact if_neg (by decide)
theorem RelO.isSome_eq {o : Option V} {u : Option Value} (r : RelO o u) : o.isSome = u.isSome := by
  cases o with
  | none => cases u with
    | none => rfl
    | some _ => exact (show False from r).elim
  | some _ => cases u with
    | none => exact (show False from r).elim
    | some _ => rfl
theorem RelO.getD {o : Option V} {u : Option Value} {d : V} {d' : Value} (r : RelO o u) (rd : RelV d d') : RelV (o.getD d) (u.getD d') := by
  cases o with
  | none => cases u with
    | none => exact rd
    | some _ => exact (show False from r).elim
  | some _ => cases u with
    | none => exact (show False from r).elim
    | some _ => exact r
theorem KV.val {kvs : List (κ × V)} {vs : List (κ × Value)} (r : KV kvs vs) (k : κ) : RelO (valV kvs k) (valueAt vs k) := by
  unfold KV at r
  induction r with
  | nil => exact True.intro
  | @cons p q ps qs h t ih =>
    obtain ⟨h1, h2⟩ := h
    by_cases e : p.1 = k
    · have e' : q.1 = k := h1.symm.trans e
      have b : valueAt (q :: qs) k = some q.2 := by simp [valueAt, List.find?_cons, e']
      rw [valV_pos e, b]; exact h2
    · have e' : ¬ q.1 = k := fun z => e (h1.trans z)
      have b : valueAt (q :: qs) k = valueAt qs k := by simp [valueAt, List.find?_cons, e']
      rw [valV_neg e, b]; exact ih
theorem KV.any {kvs : List (κ × V)} {vs : List (κ × Value)} (r : KV kvs vs) (k : κ) : (kvs.any fun kv => decide (kv.1 = k)) = vs.any fun kv => decide (kv.1 = k) := by
  unfold KV at r
  induction r with
  | nil => rfl
  | cons h t ih => rw [List.any_cons, List.any_cons, ih, h.1]
theorem KV.repl {kvs : List (κ × V)} {vs : List (κ × Value)} (r : KV kvs vs) (k : κ) {y : V} {u : Value} (ry : RelV y u) :
    KV (kvs.map fun kv => if kv.1 = k then (kv.1, y) else kv) (vs.map fun kv => if kv.1 = k then (kv.1, u) else kv) := by
  unfold KV at r ⊢
  induction r with
  | nil => exact .nil
  | @cons p q ps qs h t ih =>
    rw [List.map_cons, List.map_cons]
    refine .cons ?_ ih
    obtain ⟨h1, h2⟩ := h
    by_cases e : p.1 = k
    · rw [if_pos e, if_pos (h1.symm.trans e)]; exact ⟨h1, ry⟩
    · rw [if_neg e, if_neg (fun z => e (h1.trans z))]; exact ⟨h1, h2⟩
theorem KV.put {kvs : List (κ × V)} {vs : List (κ × Value)} (r : KV kvs vs) (k : κ) {y : V} {u : Value} (ry : RelV y u) : KV (putK kvs k y) (stored vs k u) := by
  unfold putK stored
  rw [r.any k]
  by_cases e : (vs.any fun kv => decide (kv.1 = k)) = true
  · rw [if_pos e, if_pos e]; exact r.repl k ry
  · rw [if_neg e, if_neg e]; exact Paired.snoc r ⟨rfl, ry⟩
theorem KV.drop {kvs : List (κ × V)} {vs : List (κ × Value)} (r : KV kvs vs) (k : κ) : KV (dropK kvs k) (without vs k) := by
  unfold KV at r ⊢
  unfold dropK without
  induction r with
  | nil => exact .nil
  | @cons p q ps qs h t ih =>
    obtain ⟨h1, h2⟩ := h
    rw [List.filter_cons, List.filter_cons]
    by_cases e : p.1 = k
    · have a : ¬ decide (p.1 ≠ k) = true := by simp [e]
      have b : ¬ decide (q.1 ≠ k) = true := by simp [h1.symm.trans e]
      rw [if_neg a, if_neg b]; exact ih
    · have e' : ¬ q.1 = k := fun z => e (h1.trans z)
      have a : decide (p.1 ≠ k) = true := by simp [e]
      have b : decide (q.1 ≠ k) = true := by simp [e']
      rw [if_pos a, if_pos b]; exact .cons ⟨h1, h2⟩ ih
theorem KV.keys {kvs : List (κ × V)} {vs : List (κ × Value)} (r : KV kvs vs) : kvs.map (·.1) = vs.map (·.1) := by
  unfold KV at r
  induction r with
  | nil => rfl
  | cons h t ih => rw [List.map_cons, List.map_cons, ih, h.1]
theorem KV.length {kvs : List (κ × V)} {vs : List (κ × Value)} (r : KV kvs vs) : kvs.length = vs.length := Paired.length r
end
theorem kV_is {P : Program} {w : World} {k : Key} {u : Value} (r : RelV (kV k) u) : (mixKind P w).is k u = true := by
  cases k with
  | inl i => obtain ⟨t, e⟩ := (show ∃ t, u = Value.int i t from r); subst e; exact mixKind_int P w i t
  | inr x => obtain ⟨t, e⟩ := (show ∃ t, u = Value.str x t from r); subst e; exact mixKind_str P w x t
theorem items_are {P : Program} {w : World} : ∀ {ks : List Key} {us : List Value}, Vals (ks.map kV) us → ItemsAre (mixKind P w) ks us
  | [], _, r => by rw [List.map_nil] at r; cases r; exact .nil
  | k :: ks, _, r => by
    rw [List.map_cons] at r
    cases r with
    | cons h t => exact .cons (kV_is h) (items_are t)
abbrev KT (H : Hp) : List (List Key × V) → List (List Key × Addr × Value) → Prop := Paired fun p q => p.1 = q.1 ∧ H q.2.1 = some (.tup (p.1.map kV)) ∧ RelV p.2 q.2.2
theorem KT.val {H : Hp} {kvs : List (List Key × V)} {xs : List (List Key × Addr × Value)} (r : KT H kvs xs) (k : List Key) : RelO (valV kvs k) ((atKey xs k).map (·.2)) := by
  induction r with
  | nil => exact True.intro
  | @cons p q ps qs h t ih =>
    obtain ⟨h1, _, h2⟩ := h
    by_cases e : p.1 = k
    · have e' : q.1 = k := h1.symm.trans e
      have b : atKey (q :: qs) k = some q.2 := by simp [atKey, List.find?_cons, e']
      rw [valV_pos e, b]; exact h2
    · have e' : ¬ q.1 = k := fun z => e (h1.trans z)
      have b : atKey (q :: qs) k = atKey qs k := by simp [atKey, List.find?_cons, e']
      rw [valV_neg e, b]; exact ih
theorem KT.repl {H : Hp} {kvs : List (List Key × V)} {xs : List (List Key × Addr × Value)} (r : KT H kvs xs) (k : List Key) {y : V} {u : Value} (ry : RelV y u) :
    KT H (kvs.map fun kv => if kv.1 = k then (kv.1, y) else kv) (xs.map (putAt k u)) := by
  induction r with
  | nil => exact .nil
  | @cons p q ps qs h t ih =>
    rw [List.map_cons, List.map_cons]
    refine .cons ?_ ih
    obtain ⟨h1, h2, h3⟩ := h
    unfold putAt
    by_cases e : p.1 = k
    · rw [if_pos e, if_pos (h1.symm.trans e)]; exact ⟨h1, h2, ry⟩
    · rw [if_neg e, if_neg (fun z => e (h1.trans z))]; exact ⟨h1, h2, h3⟩
theorem KT.put {H : Hp} {kvs : List (List Key × V)} {xs : List (List Key × Addr × Value)} (r : KT H kvs xs) (k : List Key) {b : Addr} {y : V} {u : Value} (hb : H b = some (.tup (k.map kV))) (ry : RelV y u) :
    KT H (putK kvs k y) (storedH xs k b u) := by
  have e : (kvs.any fun kv => decide (kv.1 = k)) = (atKey xs k).isSome := by
    rw [valV_any, (r.val k).isSome_eq, Option.isSome_map]
  unfold putK storedH
  rw [e]
  by_cases q : (atKey xs k).isSome = true
  · rw [if_pos q, if_pos q]; exact r.repl k ry
  · rw [if_neg q, if_neg q]; exact Paired.snoc r ⟨rfl, hb, ry⟩
theorem KT.keeps {H H' : Hp} {kvs : List (List Key × V)} {xs : List (List Key × Addr × Value)} (r : KT H kvs xs) (ht : ∀ b ys, H b = some (.tup ys) → H' b = some (.tup ys)) : KT H' kvs xs :=
  Paired.mapP r fun _ _ z => ⟨z.1, ht _ _ z.2.1, z.2.2⟩
section
variable {P : Program} {w : World} {H : Hp} {h : Heap} {a : Addr}
theorem rd_of {u : HO} (ok : HOk P w H h) (e : Rd H a u) : ObjOk P w H h a u := e.ok ok
theorem dk_rd {kvs : List (Key × V)} (ok : HOk P w H h) (e : Rd H a (.dK kvs)) : kvs.length ≤ sizeLine ∧ (a == sysModules) = false ∧ ∃ vs, KV kvs vs ∧ h.DictOf (mixKind P w) a vs :=
  show ObjOk P w H h a (.dK kvs) from rd_of ok e
theorem dk_of {kvs : List (Key × V)} (ok : HOk P w H h) (e : H a = some (.dK kvs)) : kvs.length ≤ sizeLine ∧ (a == sysModules) = false ∧ ∃ vs, KV kvs vs ∧ h.DictOf (mixKind P w) a vs := dk_rd ok (.inl e)
theorem key_of {ks : List Key} (ok : HOk P w H h) (e : H a = some (.tup (ks.map kV))) : (tupleKind (mixKind P w)).is h ks a := by
  obtain ⟨_, its, r, o, h1, h2, n, h3⟩ := (show ObjOk P w H h a (.tup (ks.map kV)) from ok a _ e)
  exact ⟨o, its.toArray, n, h1, h2, h3, by simpa using items_are r⟩
theorem dt_rd {kvs : List (List Key × V)} (ok : HOk P w H h) (e : Rd H a (.dT kvs)) : kvs.length ≤ sizeLine ∧ (a == sysModules) = false ∧
    ∃ xs, KT H kvs xs ∧ h.DictOfH (tupleKind (mixKind P w)) a xs := by
  obtain ⟨z, y, xs, r, o, es, ep, h1, h2, h3, h4, h5⟩ := (show ObjOk P w H h a (.dT kvs) from rd_of ok e)
  refine ⟨z, y, xs, r, o, es, ep, h1, h2, h3, h4, fun x hx => ?_, h5⟩
  have all : ∀ {l : List (List Key × V)} {m : List (List Key × Addr × Value)}, KT H l m → ∀ x ∈ m, (tupleKind (mixKind P w)).is h x.1 x.2.1 := by
    intro l m q
    induction q with
    | nil => intro x hx; exact nomatch hx
    | @cons p q ps qs hq t ih =>
      intro x hx
      rcases List.mem_cons.mp hx with e | hx
      · subst e
        exact key_of ok (by rw [← hq.1]; exact hq.2.1)
      · exact ih x hx
  exact all r x hx
theorem dt_of {kvs : List (List Key × V)} (ok : HOk P w H h) (e : H a = some (.dT kvs)) : kvs.length ≤ sizeLine ∧ (a == sysModules) = false ∧
    ∃ xs, KT H kvs xs ∧ h.DictOfH (tupleKind (mixKind P w)) a xs := dt_rd ok (.inl e)
end
def DGet (H : Hp) (a : Addr) (y : V) (r : Option V) : Prop :=
  (∃ kvs k, Rd H a (.dK kvs) ∧ y = kV k ∧ r = valV kvs k) ∨ ∃ kvs k b, Rd H a (.dT kvs) ∧ y = .ref b ∧ H b = some (.tup (k.map kV)) ∧ r = valV kvs k
def DPut (H : Hp) (a : Addr) (y v : V) (H' : Hp) : Prop :=
  (∃ kvs k, H a = some (.dK kvs) ∧ y = kV k ∧ kvs.length < sizeLine ∧ H' = upd H a (.dK (putK kvs k v))) ∨
  ∃ kvs k b, H a = some (.dT kvs) ∧ y = .ref b ∧ H b = some (.tup (k.map kV)) ∧ kvs.length < sizeLine ∧ H' = upd H a (.dT (putK kvs k v))
theorem DGet.k {H : Hp} {a : Addr} {kvs : List (Key × V)} {k : Key} (e : H a = some (.dK kvs)) : DGet H a (kV k) (valV kvs k) := .inl ⟨kvs, k, .inl e, rfl, rfl⟩
theorem DGet.t {H : Hp} {a b : Addr} {kvs : List (List Key × V)} {k : List Key} (e : H a = some (.dT kvs)) (eb : H b = some (.tup (k.map kV))) : DGet H a (.ref b) (valV kvs k) := .inr ⟨kvs, k, b, .inl e, rfl, eb, rfl⟩
theorem DPut.k {H : Hp} {a : Addr} {kvs : List (Key × V)} {k : Key} {v : V} (e : H a = some (.dK kvs)) (hl : kvs.length < sizeLine) : DPut H a (kV k) v (upd H a (.dK (putK kvs k v))) := .inl ⟨kvs, k, e, rfl, hl, rfl⟩
theorem DPut.t {H : Hp} {a b : Addr} {kvs : List (List Key × V)} {k : List Key} {v : V} (e : H a = some (.dT kvs)) (eb : H b = some (.tup (k.map kV))) (hl : kvs.length < sizeLine) :
    DPut H a (.ref b) v (upd H a (.dT (putK kvs k v))) := .inr ⟨kvs, k, b, e, rfl, eb, hl, rfl⟩
section
variable {X : Cx} {pins : List (Addr × Obj)} {σ : St} {H : Hp} {s : Shared} {a : Addr} {y v : V} {u r : Value} {o : Option V} {A : Around} {E : Value → Shared → Prop}
theorem Inv.big (I : Inv X pins σ H s) : sysModules < s.heap.objs.size := by
  have h : mainGlobals < s.heap.objs.size := (I.mod.glob.keeps I.bk).lt
  exact Nat.lt_trans (by decide) h
theorem d_getItem {Q : Value → Shared → Prop} (hu : A.units + 1 < cLine) (I : Inv X pins σ H s) (g : DGet H a y (some v)) (ry : RelV y u) (h : ∀ w' s', Inv X pins σ H s' → RelV v w' → Q w' s') :
    wpAny (model X.prog X.w) A (getItem (.ref a) u) Q E s := by
  rcases g with ⟨kvs, k, e, ey, l⟩ | ⟨kvs, k, b, e, ey, eb, l⟩
  · subst ey
    obtain ⟨z, hd, vs, rel, dd⟩ := dk_rd I.hok e
    obtain ⟨w', hw, rw'⟩ := RelO.some_of (v := v) (o := valueAt vs k) (by rw [l]; exact rel.val k)
    exact wpAny_getItem_of (kV_is ry) dd.mapOf hw (h w' _ (I.tok _) rw')
  · subst ey
    cases (show u = Value.ref b from ry)
    obtain ⟨z, hd, xs, rel, dd⟩ := dt_rd I.hok e
    obtain ⟨w', hw, rw'⟩ := RelO.some_of (v := v) (o := (atKey xs k).map (·.2)) (by rw [l]; exact rel.val k)
    obtain ⟨p, hp, hp2⟩ := Option.map_eq_some_iff.mp hw
    refine wpAny_getItem_heap (tupleKind_room_in1 hu) (key_of I.hok eb) dd hp ?_
    rw [hp2]
    exact h w' _ (I.tok _) rw'
theorem d_in {Q : Value → Shared → Prop} (hu : A.units + 1 < cLine) (I : Inv X pins σ H s) (g : DGet H a y o) (ry : RelV y u) (h : ∀ s', Inv X pins σ H s' → Q (.bool o.isSome) s') :
    wpAny (model X.prog X.w) A (compareOp .In u (.ref a)) Q E s := by
  rcases g with ⟨kvs, k, e, ey, l⟩ | ⟨kvs, k, b, e, ey, eb, l⟩
  · subst ey
    obtain ⟨z, hd, vs, rel, dd⟩ := dk_rd I.hok e
    refine wpAny_in_of (kV_is ry) hd dd.mapOf ?_
    rw [← (rel.val k).isSome_eq, ← l]
    exact h _ (I.tok _)
  · subst ey
    cases (show u = Value.ref b from ry)
    obtain ⟨z, hd, xs, rel, dd⟩ := dt_rd I.hok e
    refine wpAny_in_heap (tupleKind_room_in1 hu) (key_of I.hok eb) hd dd ?_
    have q := (rel.val k).isSome_eq
    rw [Option.isSome_map] at q
    rw [← q, ← l]
    exact h _ (I.tok _)
theorem d_notIn {Q : Value → Shared → Prop} (hu : A.units + 1 < cLine) (I : Inv X pins σ H s) (g : DGet H a y o) (ry : RelV y u) (h : ∀ s', Inv X pins σ H s' → Q (.bool (!o.isSome)) s') :
    wpAny (model X.prog X.w) A (compareOp .NotIn u (.ref a)) Q E s := by
  rcases g with ⟨kvs, k, e, ey, l⟩ | ⟨kvs, k, b, e, ey, eb, l⟩
  · subst ey
    obtain ⟨z, hd, vs, rel, dd⟩ := dk_rd I.hok e
    refine wpAny_notIn_of (kV_is ry) hd dd.mapOf ?_
    rw [← (rel.val k).isSome_eq, ← l]
    exact h _ (I.tok _)
  · subst ey
    cases (show u = Value.ref b from ry)
    obtain ⟨z, hd, xs, rel, dd⟩ := dt_rd I.hok e
    refine wpAny_notIn_heap (tupleKind_room_in1 hu) (key_of I.hok eb) hd dd ?_
    have q := (rel.val k).isSome_eq
    rw [Option.isSome_map] at q
    rw [← q, ← l]
    exact h _ (I.tok _)
theorem d_write {h' : Heap} {t' : Nat} {ob : HO} (I : Inv X pins σ H s) (mu : Mut (H a)) (hs : Heap.SameBut a s.heap h') (he : ∃ q, h'.get? a = some q) (new : ObjOk X.prog X.w (upd H a ob) h' a ob) :
    Inv X pins σ (upd H a ob) { s with heap := h', toks := t' } :=
  I.write (x := a) (e := a) mu (.inl rfl) (fun b q hb z => (hs.2 b hb).trans z) he new
theorem dk_new {P : Program} {w : World} {H' : Hp} {h' : Heap} {kvs : List (Key × V)} {vs : List (Key × Value)} (z : kvs.length ≤ sizeLine) (hd : (a == sysModules) = false) (rel : KV kvs vs) (dd : h'.DictOf (mixKind P w) a vs) :
    ObjOk P w H' h' a (.dK kvs) := ⟨z, hd, vs, rel, dd⟩
theorem d_setItem {H' : Hp} {Q : Unit → Shared → Prop} (hu : A.units + 1 < cLine) (I : Inv X pins σ H s) (g : DPut H a y v H') (ry : RelV y u) (rv : RelV v r) (h : ∀ s', Inv X pins σ H' s' → Q () s') :
    wpAny (model X.prog X.w) A (setItem (.ref a) u r) Q E s := by
  rcases g with ⟨kvs, k, e, ey, l, eH⟩ | ⟨kvs, k, b, e, ey, eb, l, eH⟩
  · subst ey eH
    obtain ⟨z, hd, vs, rel, dd⟩ := dk_of I.hok e
    have hz : vs.length ≤ sizeLine := by rw [← rel.length]; exact z
    have hl : (putK kvs k v).length ≤ sizeLine := by have := length_putK kvs k v; omega
    refine wpAny_setItem_pairs (hsz := hz) (kV_is ry) dd fun h' dd' hs => h _ ?_
    have he : ∃ q, h'.get? a = some q := let ⟨q, _, _, hq, _⟩ := dd'; ⟨q, hq⟩
    exact d_write I (by rw [e]; exact True.intro) hs he (dk_new hl hd (rel.put k rv) dd')
  · subst ey eH
    cases (show u = Value.ref b from ry)
    obtain ⟨z, hd, xs, rel, dd⟩ := dt_of I.hok e
    have hz : xs.length ≤ sizeLine := by rw [← Paired.length rel]; exact z
    have hl : (putK kvs k v).length ≤ sizeLine := by have := length_putK kvs k v; omega
    refine wpAny_setItem_heap (hsz := hz) (tupleKind_room_in1 hu) (key_of I.hok eb) dd fun h' dd' hs => h _ ?_
    obtain ⟨q, es, ep, hq, h2, h3, h4, _, h5⟩ := dd'
    refine d_write I (by rw [e]; exact True.intro) hs ⟨q, hq⟩ ⟨hl, hd, _, (rel.put k eb rv).keeps fun c ys ec => ?_, q, es, ep, hq, h2, h3, h4, h5⟩
    rw [upd_ne (ne_of ec e (fun z => nomatch z))]
    exact ec
end
section
variable {X : Cx} {pins : List (Addr × Obj)} {σ : St} {H : Hp} {s : Shared} {a : Addr} {kvs : List (Key × V)} {k : Key} {u : Value} {A : Around} {E : Value → Shared → Prop}
end
def NoSl (i : Expr) : Prop := ∀ ov iv, subscripted i false ov iv = operate [ov, iv] (getItem ov iv)
theorem subD_of {prog : Program} {w : World} {A : Around} {E : Value → Shared → Prop} {s : Shared} {env : Env} {value slice : Expr} {pos : Pos} {T id : String} {Q : Value → Shared → Prop}
    (hl : typeLookup (.type T) "__getitem__" = pure (some (.builtin id))) (hs : NoSl slice)
    (h : wpAny (model prog w) A (eval value env) (fun o s₁ => wpAny (model prog w) A (eval slice env) (fun i s₂ => s₂.TypeIs o T ∧ wpAny (model prog w) A (getItem o i) Q E s₂) E s₁) E s) :
    wpAny (model prog w) A (eval (.Subscript value slice pos) env) Q E s := by
  refine Subscript_ (wpAny_mono h (fun o s₁ h₁ => wpAny_mono h₁ (fun i s₂ h₂ => ?_) fun _ _ x => x) fun _ _ x => x)
  obtain ⟨hT, h₂⟩ := h₂
  unfold subscriptTail
  refine wpAny_bind ?_
  rw [getitemInPython_of_ne hT.not_modules]
  refine wpAny_bind (wpAny_specialOf hT hl ?_)
  have fin : wpAny (model prog w) A (subscripted slice false o i) (fun r s₃ => wpAny (model prog w) A (letTemporaryGo value o r >>= fun _ => pure r) Q E s₃) E s₂ := by
    rw [hs o i]
    exact wpAny_operating (wpAny_mono h₂ (fun r s₃ h₃ => wpAny_bind (wpAny_letTemporaryGo (wpAny_pure h₃))) fun _ _ x => x)
  first
    | exact wpAny_pure (wpAny_bind fin)
    | exact wpAny_bind (wpAny_pure (wpAny_bind fin))
    | exact wpAny_bind fin
theorem dict_typeIs {X : Cx} {pins : List (Addr × Obj)} {σ : St} {H : Hp} {s : Shared} {a : Addr} {y : V} {o : Option V} (I : Inv X pins σ H s) (g : DGet H a y o) : s.TypeIs (.ref a) "dict" := by
  rcases g with ⟨kvs, k, e, _, _⟩ | ⟨kvs, k, b, e, _, _, _⟩
  · obtain ⟨_, _, vs, _, dd⟩ := dk_rd I.hok e
    exact dd.typeIs
  · obtain ⟨_, _, xs, _, dd⟩ := dt_rd I.hok e
    exact dd.typeIs
def tDGet (td ty : TE) : TE := fun σ H Q => td σ H fun x H1 => ty σ H1 fun y H2 => ∃ a v, x = .ref a ∧ DGet H2 a y (some v) ∧ Q v H2
def tDIn (ty td : TE) : TE := fun σ H Q => ty σ H fun y H1 => td σ H1 fun x H2 => ∃ a o, x = .ref a ∧ DGet H2 a y o ∧ Q (.bl o.isSome) H2
def tDNotIn (ty td : TE) : TE := fun σ H Q => ty σ H fun y H1 => td σ H1 fun x H2 => ∃ a o, x = .ref a ∧ DGet H2 a y o ∧ Q (.bl (!o.isSome)) H2
def sDPut (td ty tv : TE) : TS := fun D σ H => tv σ H fun v H1 => td σ H1 fun x H2 => ty σ H2 fun y H3 => ∃ a H4, x = .ref a ∧ DPut H3 a y v H4 ∧ D.nx σ H4
section
variable {X : Cx} {o i e value : Expr} {pos pos' tpos : Pos} {td ty tv : TE}
theorem pe_dget (hu : X.A.units + 1 < cLine) (ho : PE X o td) (hi : PE X i ty) (hs : NoSl i) : PE X (.Subscript o i pos) (tDGet td ty) := by
  intro pins s σ H Q I h
  refine subD_of PySem.F.slot_dict_getitem.lookup hs (thn (ho pins s σ H _ I h) fun u s1 ⟨x, H1, I1, rx, q1⟩ => thn (hi pins s1 σ H1 _ I1 q1) fun iv s2 ⟨y, H2, I2, ry, a, v, ex, g, q2⟩ => ?_)
  subst ex
  obtain rfl : u = Value.ref a := rx
  exact ⟨dict_typeIs I2 g, d_getItem hu I2 g ry fun w' s3 I3 rw' => ⟨v, H2, I3, rw', q2⟩⟩
theorem pc_din (hu : X.A.units + 1 < cLine) (hi : PE X i ty) (ho : PE X o td) : PC X .In i o (tDIn ty td) := by
  intro pins s σ H Q I h
  refine thn (hi pins s σ H _ I h) fun iv s1 ⟨y, H1, I1, ry, q1⟩ => thn (ho pins s1 σ H1 _ I1 q1) fun u s2 ⟨x, H2, I2, rx, a, ov, ex, g, q2⟩ => ?_
  subst ex
  obtain rfl : u = Value.ref a := rx
  exact d_in hu I2 g ry fun s3 I3 => ⟨.bl ov.isSome, H2, I3, rfl, q2⟩
theorem pc_dnotin (hu : X.A.units + 1 < cLine) (hi : PE X i ty) (ho : PE X o td) : PC X .NotIn i o (tDNotIn ty td) := by
  intro pins s σ H Q I h
  refine thn (hi pins s σ H _ I h) fun iv s1 ⟨y, H1, I1, ry, q1⟩ => thn (ho pins s1 σ H1 _ I1 q1) fun u s2 ⟨x, H2, I2, rx, a, ov, ex, g, q2⟩ => ?_
  subst ex
  obtain rfl : u = Value.ref a := rx
  exact d_notIn hu I2 g ry fun s3 I3 => ⟨.bl (!ov.isSome), H2, I3, rfl, q2⟩
theorem ps_dput (hu : X.A.units + 1 < cLine) (ho : PE X o td) (hi : PE X i ty) (hv : PE X value tv) (hs : swapsWith value (some (.Subscript o i pos')) pos.line X.env = pure false) :
    PS X (.Assign [.Subscript o i pos'] value pos) (sDPut td ty tv) := by
  intro pins s σ H D I h
  refine wpAny_Assign_Subscript (thn (hv pins s σ H _ I h) fun r s1 ⟨v, H1, I1, rv, q1⟩ => thn (ho pins s1 σ H1 _ I1 q1) fun u s2 ⟨x, H2, I2, rx, q2⟩ => thn (hi pins s2 σ H2 _ I2 q2) fun iv s3 ⟨y, H3, I3, ry, a, H4, ex, g, q3⟩ => ?_) hs
  subst ex
  obtain rfl : u = Value.ref a := rx
  exact d_setItem hu I3 g ry rv fun s4 I4 => ⟨σ, H4, I4, q3⟩
end
theorem dk_empty {P : Program} {w : World} {H : Hp} (h : Heap) (hb : sysModules < h.objs.size) : ObjOk P w H (h.push { cls := .type "dict", data := .dict #[] }) h.objs.size (.dK []) :=
  ⟨Nat.zero_le _, beq_eq_false_iff_ne.mpr (Ne.symm (Nat.ne_of_lt hb)), [], .nil, Heap.DictOf.new h⟩
def tDNewK : TE := fun _ H Q => ∀ p, H p = none → Q (.ref p) (upd H p (.dK []))
section
variable {X : Cx} {pos : Pos}
theorem pe_dnewK : PE X (.Dict [] [] pos) tDNewK := fun pins s σ H Q I h =>
  wpAny_Dict_empty ⟨.ref s.heap.objs.size, _, I.laid (a := s.heap.objs.size) (o := .dK []) (t' := s.toks) (fun _ _ q => Heap.get?_push_of_some _ q) (Nat.le_refl _) (dk_empty s.heap I.big), rfl, h _ (I.hok.fresh (Nat.le_refl _))⟩
end
def tPairs : List (TE × TE) → St → Hp → (List (V × V) → Hp → Prop) → Prop
  | [], _, H, Q => Q [] H
  | (tk, tv) :: r, σ, H, Q => tk σ H fun x H1 => tv σ H1 fun y H2 => tPairs r σ H2 fun ps H3 => Q ((x, y) :: ps) H3
abbrev VV : List (V × V) → List (Value × Value) → Prop := Paired fun p q => RelV p.1 q.1 ∧ RelV p.2 q.2
def PPs (X : Cx) (pos : Pos) (keys : List (Option Expr)) (values : List Expr) (trs : List (TE × TE)) : Prop :=
  ∀ (pins : List (Addr × Obj)) (s : Shared) (σ : St) (H : Hp) (Q : List (V × V) → Hp → Prop), Inv X pins σ H s → tPairs trs σ H Q →
    wpAny (model X.prog X.w) X.A (evalPairs (pairTrees keys values X.env pos)) (fun vs s' => ∃ ps H', Inv X pins σ H' s' ∧ VV ps vs ∧ Q ps H') X.xe s
theorem pps_nil {X : Cx} {pos : Pos} : PPs X pos [] [] [] := fun pins s σ H Q I h => pairTrees_nil_walk ⟨[], H, I, .nil, h⟩
theorem pps_cons {X : Cx} {pos : Pos} {k v : Expr} {ks : List (Option Expr)} {vs : List Expr} {tk tv : TE} {trs : List (TE × TE)} (hk : PE X k tk) (hv : PE X v tv) (hr : PPs X pos ks vs trs) :
    PPs X pos (some k :: ks) (v :: vs) ((tk, tv) :: trs) := fun pins s σ H Q I h =>
  pairTrees_cons_walk (thn (hk pins s σ H _ I h) fun u s1 ⟨x, H1, I1, rx, q1⟩ => thn (hv pins s1 σ H1 _ I1 q1) fun w2 s2 ⟨y, H2, I2, ry, q2⟩ =>
    thn (hr pins s2 σ H2 _ I2 q2) fun ws s3 ⟨ps, H3, I3, rel, q3⟩ => ⟨(x, y) :: ps, H3, I3, .cons ⟨rx, ry⟩ rel, q3⟩)
def mergeK (kvs more : List (Key × V)) : List (Key × V) := more.foldl (fun acc kv => putK acc kv.1 kv.2) kvs
theorem KV.merge : ∀ {more : List (Key × V)} {rs : List (Key × Value)} {kvs : List (Key × V)} {vs : List (Key × Value)}, KV more rs → KV kvs vs → KV (mergeK kvs more) (merged vs rs) := by
  intro more rs kvs vs r
  unfold KV at r
  induction r generalizing kvs vs with
  | nil => intro q; exact q
  | @cons p q ps qs h t ih =>
    intro r0
    have e : KV (putK kvs p.1 p.2) (stored vs q.1 q.2) := by
      have := r0.put p.1 h.2
      rw [← h.1]; exact this
    exact ih e
theorem length_mergeK : ∀ (more kvs : List (Key × V)), (mergeK kvs more).length ≤ kvs.length + more.length
  | [], kvs => by show kvs.length ≤ kvs.length + 0; omega
  | p :: r, kvs => by
    have h1 := length_mergeK r (putK kvs p.1 p.2)
    have h2 := length_putK kvs p.1 p.2
    show (mergeK (putK kvs p.1 p.2) r).length ≤ _
    rw [List.length_cons]; omega
theorem carries_of {P : Program} {w : World} : ∀ {kvs : List (Key × V)} {ws : List (Value × Value)}, VV (kvs.map fun kv => (kV kv.1, kv.2)) ws → ∃ rs, Carries (mixKind P w) ws rs ∧ KV kvs rs
  | [], _, r => by rw [List.map_nil] at r; cases r; exact ⟨[], True.intro, .nil⟩
  | p :: kvs, _, r => by
    rw [List.map_cons] at r
    cases r with
    | @cons a b as bs h t =>
      obtain ⟨rs, c, q⟩ := carries_of (P := P) (w := w) t
      obtain ⟨b1, b2⟩ := b
      exact ⟨(p.1, b2) :: rs, ⟨kV_is h.1, rfl, c⟩, .cons ⟨rfl, h.2⟩ q⟩
def tDisp (trs : List (TE × TE)) : TE := fun σ H Q => ∀ p, H p = none → tPairs trs σ (upd H p (.dK [])) fun ps H2 => H2 p = some (.dK []) ∧ ∃ kvs : List (Key × V), ps = kvs.map (fun kv => (kV kv.1, kv.2)) ∧ kvs.length ≤ 15 ∧ Q (.ref p) (upd H2 p (.dK (mergeK [] kvs)))
theorem pe_disp {X : Cx} {pos : Pos} {keys : List (Option Expr)} {values : List Expr} {trs : List (TE × TE)} (h : PPs X pos keys values trs) (hall : keys.all (·.isSome) = true) (hl : keys.length = values.length) (h0 : keys ≠ [])
    (h15 : keys.length ≤ 15) : PE X (.Dict keys values pos) (tDisp trs) := by
  intro pins s σ H Q I q
  have hn := I.hok.fresh (Nat.le_refl s.heap.objs.size)
  have I1 := I.laid (a := s.heap.objs.size) (o := .dK []) (h' := s.heap.push { cls := .type "dict", data := .dict #[] }) (t' := s.toks) (fun _ _ q => Heap.get?_push_of_some _ q) (Nat.le_refl _) (dk_empty s.heap I.big)
  refine wpAny_Dict_walk (knd := mixKind X.prog X.w) hall hl h0 h15 (thn (h pins _ σ _ _ I1 (q _ hn)) fun ws s2 ⟨ps, H2, I2, rel, e, kvs, ep, lk, q2⟩ => ?_)
  subst ep
  obtain ⟨rs, c, rk⟩ := carries_of (P := X.prog) (w := X.w) rel
  obtain ⟨z, hd, vs0, r0, dd⟩ := dk_of I2.hok e
  cases r0
  refine ⟨rs, c, dd, fun h' dd' hs => ⟨.ref s.heap.objs.size, _, ?_, rfl, q2⟩⟩
  have hz : (mergeK [] kvs).length ≤ sizeLine := by
    have h1 := length_mergeK kvs []
    rw [List.length_nil] at h1
    rw [sizeLine_eq]; omega
  have he : ∃ q, h'.get? s.heap.objs.size = some q := let ⟨q, _, _, hq, _⟩ := dd'; ⟨q, hq⟩
  exact d_write I2 (by rw [e]; exact True.intro) hs he (dk_new hz hd (rk.merge .nil) dd')
structure M1 (X : Cx) (o : Expr) (m : Str) (apos : Pos) (e : Expr) (cpos : Pos) : Prop where
  base : attributeBase o m X.env (eval o X.env) = eval o X.env
  few : ((backTo cpos (starEach [e] X.env)).all (fun x => !x.1) && (backToKw cpos (keywordEach [] X.env)).all (fun x => x.1.isSome)
    && decide (([e] : List Expr).length + ([] : List Keyword).length + (if ([] : List Keyword).isEmpty then 0 else 1) < 30)) = true
  line : (apos.endLine == cpos.line) = true
  trees : backTo cpos (starEach [e] X.env) = [(false, eval e X.env)]
structure M2 (X : Cx) (o : Expr) (m : Str) (apos : Pos) (e f : Expr) (cpos : Pos) : Prop where
  base : attributeBase o m X.env (eval o X.env) = eval o X.env
  few : ((backTo cpos (starEach [e, f] X.env)).all (fun x => !x.1) && (backToKw cpos (keywordEach [] X.env)).all (fun x => x.1.isSome)
    && decide (([e, f] : List Expr).length + ([] : List Keyword).length + (if ([] : List Keyword).isEmpty then 0 else 1) < 30)) = true
  line : (apos.endLine == cpos.line) = true
  trees : backTo cpos (starEach [e, f] X.env) = [(false, eval e X.env), (false, eval f X.env)]
def IsD (H : Hp) (a : Addr) : Prop := (∃ kvs, Rd H a (.dK kvs)) ∨ ∃ kvs, Rd H a (.dT kvs)
theorem isD_at {X : Cx} {pins : List (Addr × Obj)} {σ : St} {H : Hp} {s : Shared} {a : Addr} (I : Inv X pins σ H s) (d : IsD H a) :
    s.TypeIs (.ref a) "dict" ∧ (∀ b, Value.ref a = .ref b → ∃ ob, s.heap.get? b = some ob ∧ ob.dict = none) ∧ (a == sysModules) = false := by
  rcases d with ⟨kvs, e⟩ | ⟨kvs, e⟩
  · obtain ⟨_, hd, vs, _, dd⟩ := dk_rd I.hok e
    refine ⟨dd.typeIs, fun b q => ?_, hd⟩
    cases q
    obtain ⟨ob, _, _, h1, h2, _⟩ := dd
    exact ⟨ob, h1, h2.2.1⟩
  · obtain ⟨_, hd, xs, _, dd⟩ := dt_rd I.hok e
    refine ⟨dd.typeIs, fun b q => ?_, hd⟩
    cases q
    obtain ⟨ob, _, _, h1, h2, _⟩ := dd
    exact ⟨ob, h1, h2.2.1⟩
section
variable {X : Cx} {pins : List (Addr × Obj)} {σ : St} {H : Hp} {s : Shared} {a : Addr} {y d : V} {u r : Value} {o : Option V} {A : Around} {E : Value → Shared → Prop}
theorem d_get1 {Q : Value → Shared → Prop} (hu : A.units + 1 < cLine) (I : Inv X pins σ H s) (g : DGet H a y o) (ry : RelV y u) (h : ∀ w' s', Inv X pins σ H s' → RelV (o.getD .non) w' → Q w' s') :
    wpAny (model X.prog X.w) A (call (.builtin "dict.get") [.ref a, u]) Q E s := by
  rcases g with ⟨kvs, k, e, ey, l⟩ | ⟨kvs, k, b, e, ey, eb, l⟩
  · subst ey
    obtain ⟨z, hd, vs, rel, dd⟩ := dk_rd I.hok e
    refine call_meetsIn PySem.F.slot_dict_get dd.typeIs PySem.F.entry_dict_get (PySem.F.args_dict_get_2 _ _) (meets_dict_get (mixKind X.prog X.w) a (kV_is ry) hd) ⟨_, dd.mapOf, h _ _ (I.tok _) ?_⟩
    rw [l]
    exact (rel.val k).getD rfl
  · subst ey
    cases (show u = Value.ref b from ry)
    obtain ⟨z, hd, xs, rel, dd⟩ := dt_rd I.hok e
    refine call_meetsIn PySem.F.slot_dict_get dd.typeIs PySem.F.entry_dict_get (PySem.F.args_dict_get_2 _ _) (meetsH_dict_get (tupleKind (mixKind X.prog X.w)) a b hd) ⟨tupleKind_room_in1 hu, k, xs, key_of I.hok eb, dd, h _ _ (I.tok _) ?_⟩
    rw [l]
    exact (rel.val k).getD rfl
end
def tDGet1 (td ty : TE) : TE := fun σ H Q => td σ H fun x H1 => ∃ a, x = .ref a ∧ IsD H1 a ∧ ty σ H1 fun y H2 => ∃ o, DGet H2 a y o ∧ Q (o.getD .non) H2
section
variable {X : Cx} {o e f : Expr} {apos cpos : Pos} {td ty tx : TE}
theorem pe_dget1 (hu : X.A.units + 1 < cLine) (ho : PE X o td) (he : PE X e ty) (m : M1 X o "get" apos e cpos) : PE X (.Call (.Attribute o "get" apos) [e] [] cpos) (tDGet1 td ty) := by
  intro pins s σ H Q I h
  refine wpAny_Call_method m.base m.few m.line PySem.F.plainAttrs_dict PySem.F.slot_dict_get PySem.F.type_dict_get (thn (ho pins s σ H _ I h) fun u s1 ⟨x, H1, I1, rx, a, ex, d, q1⟩ => ?_)
  subst ex
  obtain rfl : u = Value.ref a := rx
  obtain ⟨t1, t2, _⟩ := isD_at I1 d
  refine ⟨t1, t2, ?_⟩
  rw [m.trees]
  refine Calls.callWith_builtin rfl (Calls.evalArgs_plain (Calls.spliced_cons (thn (he pins s1 σ H1 _ I1 q1) fun iv s2 ⟨y, H2, I2, ry, ov, g, q2⟩ => Calls.spliced_nil ?_)))
  exact d_get1 hu I2 g ry fun w' s3 I3 rw' => ⟨_, H2, I3, rw', q2⟩
end
section
variable {X : Cx} {pins : List (Addr × Obj)} {σ : St} {H : Hp} {s : Shared} {a : Addr} {kvs : List (Key × V)} {A : Around} {E : Value → Shared → Prop}
end
section
variable {X : Cx} {pins : List (Addr × Obj)} {σ : St} {H : Hp} {s : Shared} {a : Addr} {y : V} {u : Value} {A : Around} {E : Value → Shared → Prop}
end
end L2
namespace L2
open PySem PySem.Spec PyProof.Rows
section
variable {κ : Type} [DecidableEq κ]
end
end L2
namespace L2
open PySem PySem.Spec PyProof.Rows
section
variable {X : Cx} {pins : List (Addr × Obj)} {σ : St} {H : Hp} {s : Shared} {a : Addr} {kvs : List (Key × V)} {k : Key} {u r : Value} {z : V} {A : Around} {E : Value → Shared → Prop}
theorem d_setdef {Q : Value → Shared → Prop} (I : Inv X pins σ H s) (e : H a = some (.dK kvs)) (ry : RelV (kV k) u) (rz : RelV z r) (l : kvs.length < sizeLine)
    (h1 : ∀ v, valV kvs k = some v → ∀ w' s', Inv X pins σ H s' → RelV v w' → Q w' s') (h2 : valV kvs k = none → ∀ s', Inv X pins σ (upd H a (.dK (putK kvs k z))) s' → Q r s') :
    wpAny (model X.prog X.w) A (call (.builtin "dict.setdefault") [.ref a, u, r]) Q E s := by
  obtain ⟨zz, hd, vs, rel, dd⟩ := dk_of I.hok e
  have hl : (putK kvs k z).length ≤ sizeLine := by have := length_putK kvs k z; omega
  have rv := rel.val k
  refine call_meetsIn PySem.F.slot_dict_setdefault dd.typeIs PySem.F.entry_dict_setdefault (PySem.F.args_dict_setdefault_3 _ _ _) (kt_meets_setdefault (mixKind X.prog X.w) a (kV_is ry) hd r) ⟨vs, dd, by rw [← rel.length]; exact zz, fun v hv => ?_, fun hn h' dd' hs => ?_⟩
  · rw [hv] at rv
    cases lv : valV kvs k with
    | some v0 => rw [lv] at rv; exact h1 v0 lv v _ (I.tok _) rv
    | none => rw [lv] at rv; exact (show False from rv).elim
  · rw [hn] at rv
    cases lv : valV kvs k with
    | some v0 => rw [lv] at rv; exact (show False from rv).elim
    | none => exact h2 lv _ (d_write I (by rw [e]; exact True.intro) hs (let ⟨q, _, _, hq, _⟩ := dd'; ⟨q, hq⟩) (dk_new hl hd (rel.put k rz) dd'))
end
def tDSet (td ty tx : TE) : TE := fun σ H Q => td σ H fun x H1 => ∃ a, x = .ref a ∧ IsD H1 a ∧ ty σ H1 fun y H2 => tx σ H2 fun z H3 => ∃ kvs k, H3 a = some (.dK kvs) ∧ y = kV k ∧ kvs.length < sizeLine ∧
  (∀ v, valV kvs k = some v → Q v H3) ∧ (valV kvs k = none → Q z (upd H3 a (.dK (putK kvs k z))))
def tDVals (td : TE) : TE := fun σ H Q => td σ H fun x H1 => ∃ a kvs, x = .ref a ∧ H1 a = some (.dK kvs) ∧ ∀ l, H1 l = none → Q (.ref l) (upd H1 l (.lst (kvs.map (·.2))))
theorem vals_kv {kvs : List (Key × V)} {vs : List (Key × Value)} (r : KV kvs vs) : Vals (kvs.map (·.2)) (vs.map (·.2)) := by
  induction r with
  | nil => exact .nil
  | cons h t ih => exact .cons h.2 ih
section
variable {X : Cx} {o e f : Expr} {apos cpos p1 pos1 : Pos} {td ty tx : TE}
theorem pe_dsetd (ho : PE X o td) (he : PE X e ty) (hf : PE X f tx) (m : M2 X o "setdefault" apos e f cpos) : PE X (.Call (.Attribute o "setdefault" apos) [e, f] [] cpos) (tDSet td ty tx) := by
  intro pins s σ H Q I h
  refine wpAny_Call_method m.base m.few m.line PySem.F.plainAttrs_dict PySem.F.slot_dict_setdefault PySem.F.type_dict_setdefault (thn (ho pins s σ H _ I h) fun u s1 ⟨x, H1, I1, rx, a, ex, d, q1⟩ => ?_)
  subst ex
  obtain rfl : u = Value.ref a := rx
  obtain ⟨t1, t2, _⟩ := isD_at I1 d
  refine ⟨t1, t2, ?_⟩
  rw [m.trees]
  refine Calls.callWith_builtin rfl (Calls.evalArgs_plain (Calls.spliced_cons (thn (he pins s1 σ H1 _ I1 q1) fun iv s2 ⟨y, H2, I2, ry, q2⟩ =>
    Calls.spliced_cons (thn (hf pins s2 σ H2 _ I2 q2) fun fv s3 ⟨z, H3, I3, rz, kvs, k, ea, ey, l, q3, q4⟩ => Calls.spliced_nil ?_))))
  subst ey
  exact d_setdef I3 ea ry rz l (fun v lv w' s4 I4 rw' => ⟨v, H3, I4, rw', q3 v lv⟩) fun lv s4 I4 => ⟨z, _, I4, rz, q4 lv⟩
theorem pe_listvals (hc : X.calm = true) (hg : Gl X "list") (hm : X.mg "list" = none) (ho : PE X o td) (hbase : attributeBase o "values" X.env (eval o X.env) = eval o X.env := by rfl) (hline : (apos.endLine == cpos.line) = true := by rfl)
    (hs : starEach [.Call (.Attribute o "values" apos) [] [] cpos] X.env = [(false, eval (.Call (.Attribute o "values" apos) [] [] cpos) X.env)] := by rfl) :
    PE X (.Call (.Name "list" p1) [.Call (.Attribute o "values" apos) [] [] cpos] [] pos1) (tDVals td) := by
  intro pins s σ H Q I h
  refine Call_ (ld_blt I hg hm boot_list (PyProof.Rows.callWith_type1 ?_ hs rfl))
  rw [hs]
  refine Calls.spliced_cons ?_
  refine wpAny_Call_method0_late hbase hline (thn (ho pins s σ H _ I h) fun v s1 ⟨x, H1, I1, r1, a, kvs, ex, ea, q⟩ => ?_)
  subst ex
  obtain rfl : v = Value.ref a := r1
  obtain ⟨t1, t2, _⟩ := isD_at I1 (.inl ⟨kvs, .inl ea⟩)
  obtain ⟨zz, hd, vs, rel, dd⟩ := dk_of I1.hok ea
  refine ⟨"dict", "dict.values", PySem.F.plainAttrs_dict, PySem.F.slot_dict_values, PySem.F.type_dict_values, t1, t2, Calls.callWith_builtin rfl (PySem.evalArgs_none ?_)⟩
  refine call_meetsIn PySem.F.slot_dict_values dd.typeIs PySem.F.entry_dict_values (PySem.F.args_dict_values_1 _) (meets_dict_values (mixKind X.prog X.w) a hd) ⟨⟨vs, dd⟩, Calls.spliced_nil ?_⟩
  obtain ⟨ob, es, ep, hq⟩ := id dd
  have dA : (s1.heap.push { cls := .type "dict_values", data := .fields #[.ref a] }).DictAt (mixKind X.prog X.w) a vs ep := Heap.DictAt.push ⟨ob, es, hq⟩ _
  refine PySem.W.kdl_call (PySem.W.kdl_values (knd := mixKind X.prog X.w) (kvs := vs) (ep := ep) (r := s1.heap.objs.size) (d := a)) (I.ok.hd hc) ⟨⟨_, Heap.get?_push_size _ rfl, rfl, rfl⟩, dA⟩ (by rw [← rel.length]; exact zz) fun h' tk acc' c' hk hS hacc => ?_
  have fr : s1.heap.objs.size ≤ (s1.heap.push { cls := .type "dict_values", data := .fields #[.ref a] }).objs.size := by rw [Heap.size_push]; exact Nat.le_succ _
  have ac : acc' = (vs.map (·.2)).toArray := by
    obtain ⟨h1, h2⟩ := hacc
    apply Array.ext
    · rw [h1]; simp
    · intro i hi hi2
      obtain ⟨k, e⟩ := h2 i acc'[i] (Array.getElem?_eq_getElem hi)
      have e3 : (vs.map (·.2))[i]? = some acc'[i] := by rw [List.getElem?_map, e]; rfl
      have hi3 : i < (vs.map (·.2)).length := by simpa using hi2
      rw [List.getElem?_eq_getElem hi3] at e3
      simpa using (Option.some.inj e3).symm
  subst ac
  exact ⟨.ref _, _, I1.laid (t' := tk) (fun b o e => hk b o (Heap.get?_push_of_some _ e)) fr (show ObjOk X.prog X.w _ h' _ (.lst (kvs.map (·.2))) from ⟨by rw [List.length_map]; exact zz, vs.map (·.2), c', vals_kv rel, hS⟩), rfl, q _ (I1.hok.fresh fr)⟩
end
end L2
namespace L2
inductive Cn (es : List (Int × Int)) : Int → Int → Prop
  | refl (a : Int) : Cn es a a
  | fwd {a : Int} {e : Int × Int} : Cn es a e.1 → e ∈ es → Cn es a e.2
  | bwd {a : Int} {e : Int × Int} : Cn es a e.2 → e ∈ es → Cn es a e.1
theorem Cn.trans {es : List (Int × Int)} {a b c : Int} (h : Cn es a b) (h2 : Cn es b c) : Cn es a c := by
  induction h2 with
  | refl => exact h
  | fwd _ he ih => exact .fwd ih he
  | bwd _ he ih => exact .bwd ih he
theorem Cn.tie {es : List (Int × Int)} {e : Int × Int} (h : e ∈ es) : Cn es e.1 e.2 := .fwd (.refl _) h
theorem Cn.eit {es : List (Int × Int)} {e : Int × Int} (h : e ∈ es) : Cn es e.2 e.1 := .bwd (.refl _) h
theorem Cn.symm {es : List (Int × Int)} {a b : Int} (h : Cn es a b) : Cn es b a := by
  induction h with
  | refl => exact .refl _
  | fwd _ he ih => exact (Cn.eit he).trans ih
  | bwd _ he ih => exact (Cn.tie he).trans ih
theorem Cn.map {es es' : List (Int × Int)} {g : Int → Int} (hg : ∀ e ∈ es, Cn es' (g e.1) (g e.2)) {a b : Int} (h : Cn es a b) : Cn es' (g a) (g b) := by
  induction h with
  | refl => exact .refl _
  | fwd _ he ih => exact ih.trans (hg _ he)
  | bwd _ he ih => exact ih.trans (hg _ he).symm
theorem Cn.mono {es es' : List (Int × Int)} (hs : ∀ e ∈ es, e ∈ es') {a b : Int} (h : Cn es a b) : Cn es' a b := Cn.map (g := id) (fun e he => Cn.tie (hs e he)) h
structure Lab (n : Int) (es : List (Int × Int)) (f : Int → Int) : Prop where
  conn : ∀ p, 0 ≤ p → p < n → Cn es p (f p)
  same : ∀ e ∈ es, f e.1 = f e.2
  low : ∀ p, 0 ≤ p → p < n → 0 ≤ f p ∧ f p ≤ p
theorem lab_cn {es : List (Int × Int)} {f : Int → Int} (h : ∀ e ∈ es, f e.1 = f e.2) {a b : Int} (c : Cn es a b) : f a = f b := by
  induction c with
  | refl => rfl
  | fwd _ he ih => rw [ih, h _ he]
  | bwd _ he ih => rw [ih, ← h _ he]
theorem Lab.le {n : Int} {es : List (Int × Int)} {f g : Int → Int} (F : Lab n es f) (G : Lab n es g) {p : Int} (p0 : 0 ≤ p) (p1 : p < n) : g p ≤ f p := by
  have l := F.low p p0 p1
  have e := lab_cn G.same (F.conn p p0 p1)
  have := G.low (f p) l.1 (by omega)
  omega
theorem Lab.uniq {n : Int} {es : List (Int × Int)} {f g : Int → Int} (F : Lab n es f) (G : Lab n es g) {p : Int} (p0 : 0 ≤ p) (p1 : p < n) : f p = g p := Int.le_antisymm (G.le F p0 p1) (F.le G p0 p1)
theorem Lab.idem {n : Int} {es : List (Int × Int)} {f : Int → Int} (F : Lab n es f) {p : Int} (p0 : 0 ≤ p) (p1 : p < n) : f (f p) = f p := (lab_cn F.same (F.conn p p0 p1)).symm
theorem Lab.iff {n : Int} {es : List (Int × Int)} {f : Int → Int} (F : Lab n es f) {p q : Int} (p0 : 0 ≤ p) (p1 : p < n) (q0 : 0 ≤ q) (q1 : q < n) : f p = f q ↔ Cn es p q :=
  ⟨fun e => (F.conn p p0 p1).trans (by rw [e]; exact (F.conn q q0 q1).symm), fun c => lab_cn F.same c⟩
theorem Lab.nil (n : Int) : Lab n [] (fun p => p) := ⟨fun p _ _ => .refl p, fun e he => (nomatch he), fun p h _ => ⟨h, Int.le_refl _⟩⟩
theorem Lab.congr {n : Int} {es : List (Int × Int)} {f g : Int → Int} (F : Lab n es f) (hE : ∀ e ∈ es, 0 ≤ e.1 ∧ e.1 < n ∧ 0 ≤ e.2 ∧ e.2 < n) (h : ∀ p, 0 ≤ p → p < n → f p = g p) : Lab n es g :=
  ⟨fun p p0 p1 => by rw [← h p p0 p1]; exact F.conn p p0 p1, fun e he => by
    have := hE e he
    rw [← h _ this.1 this.2.1, ← h _ this.2.2.1 this.2.2.2]; exact F.same e he, fun p p0 p1 => by rw [← h p p0 p1]; exact F.low p p0 p1⟩
def mrg (f : Int → Int) (e : Int × Int) (p : Int) : Int := if f p = max (f e.1) (f e.2) then min (f e.1) (f e.2) else f p
theorem Lab.merge {n : Int} {es : List (Int × Int)} {f : Int → Int} {e : Int × Int} (F : Lab n es f) (b : 0 ≤ e.1 ∧ e.1 < n ∧ 0 ≤ e.2 ∧ e.2 < n) : Lab n (es ++ [e]) (mrg f e) := by
  have l1 := F.low e.1 b.1 b.2.1
  have l2 := F.low e.2 b.2.2.1 b.2.2.2
  have up : ∀ {x y : Int}, Cn es x y → Cn (es ++ [e]) x y := fun c => c.mono fun a ha => List.mem_append_left _ ha
  have me : e ∈ es ++ [e] := List.mem_append_right _ (List.mem_singleton.mpr rfl)
  have c1 : Cn (es ++ [e]) (f e.1) (f e.2) := (up (F.conn e.1 b.1 b.2.1)).symm.trans ((Cn.tie me).trans (up (F.conn e.2 b.2.2.1 b.2.2.2)))
  refine ⟨fun p p0 p1 => ?_, fun a ha => ?_, fun p p0 p1 => ?_⟩
  · have cp := up (F.conn p p0 p1)
    unfold mrg
    by_cases h : f p = max (f e.1) (f e.2)
    · rw [if_pos h]
      rw [h] at cp
      by_cases g : f e.1 ≤ f e.2
      · rw [Int.max_eq_right g] at cp; rw [Int.min_eq_left g]; exact cp.trans c1.symm
      · rw [Int.max_eq_left (by omega)] at cp; rw [Int.min_eq_right (by omega)]; exact cp.trans c1
    · rw [if_neg h]; exact cp
  · rcases List.mem_append.mp ha with y | y
    · unfold mrg; rw [F.same a y]
    · have ea : a = e := List.mem_singleton.mp y
      subst ea
      unfold mrg
      have h1 : f a.1 ≤ f a.2 ∨ f a.2 < f a.1 := by omega
      rcases h1 with g | g
      · rw [Int.max_eq_right g, Int.min_eq_left g, if_pos rfl]; split <;> omega
      · rw [Int.max_eq_left (by omega), Int.min_eq_right (by omega), if_pos rfl]; split <;> omega
  · have := F.low p p0 p1
    unfold mrg
    by_cases h : f p = max (f e.1) (f e.2)
    · rw [if_pos h]; omega
    · rw [if_neg h]; exact this
def rts (n : Nat) (f : Int → Int) : List Int := ((List.range n).filter fun (m : Nat) => decide (f (m : Int) = (m : Int))).map fun (m : Nat) => (m : Int)
def grp (n : Nat) (f : Int → Int) (r : Int) : List Int := ((List.range n).filter fun (p : Nat) => decide (f (p : Int) = r)).map fun (p : Nat) => (p : Int)
def pcs (n : Nat) (f : Int → Int) : List (List Int) := (rts n f).map (grp n f)
theorem rts_succ (n : Nat) (f : Int → Int) : rts (n + 1) f = rts n f ++ (if f n = n then [(n : Int)] else []) := by
  unfold rts
  rw [List.range_succ, List.filter_append, List.map_append]
  by_cases h : f n = n
  · rw [if_pos h, List.filter_cons_of_pos (by rw [decide_eq_true h])]; rfl
  · rw [if_neg h, List.filter_cons_of_neg (by rw [decide_eq_false h]; decide)]; rfl
theorem grp_succ (n : Nat) (f : Int → Int) (r : Int) : grp (n + 1) f r = grp n f r ++ (if f n = r then [(n : Int)] else []) := by
  unfold grp
  rw [List.range_succ, List.filter_append, List.map_append]
  by_cases h : f n = r
  · rw [if_pos h, List.filter_cons_of_pos (by rw [decide_eq_true h])]; rfl
  · rw [if_neg h, List.filter_cons_of_neg (by rw [decide_eq_false h]; decide)]; rfl
theorem mem_rts {n : Nat} {f : Int → Int} {r : Int} : r ∈ rts n f ↔ 0 ≤ r ∧ r < n ∧ f r = r := by
  unfold rts
  rw [List.mem_map]
  constructor
  · rintro ⟨m, hm, rfl⟩
    rw [List.mem_filter, List.mem_range, decide_eq_true_eq] at hm
    exact ⟨by omega, by omega, hm.2⟩
  · rintro ⟨h0, h1, h2⟩
    refine ⟨r.toNat, ?_, by omega⟩
    rw [List.mem_filter, List.mem_range, decide_eq_true_eq]
    have e : ((r.toNat : Nat) : Int) = r := by omega
    rw [e]; exact ⟨by omega, h2⟩
theorem mem_grp {n : Nat} {f : Int → Int} {r p : Int} : p ∈ grp n f r ↔ 0 ≤ p ∧ p < n ∧ f p = r := by
  unfold grp
  rw [List.mem_map]
  constructor
  · rintro ⟨m, hm, rfl⟩
    rw [List.mem_filter, List.mem_range, decide_eq_true_eq] at hm
    exact ⟨by omega, by omega, hm.2⟩
  · rintro ⟨h0, h1, h2⟩
    refine ⟨p.toNat, ?_, by omega⟩
    rw [List.mem_filter, List.mem_range, decide_eq_true_eq]
    have e : ((p.toNat : Nat) : Int) = p := by omega
    rw [e]; exact ⟨by omega, h2⟩
theorem rts_len (n : Nat) (f : Int → Int) : (rts n f).length ≤ n := by
  unfold rts
  rw [List.length_map]
  exact Nat.le_trans (List.length_filter_le _ _) (by rw [List.length_range]; exact Nat.le_refl _)
theorem grp_len (n : Nat) (f : Int → Int) (r : Int) : (grp n f r).length ≤ n := by
  unfold grp
  rw [List.length_map]
  exact Nat.le_trans (List.length_filter_le _ _) (by rw [List.length_range]; exact Nat.le_refl _)
theorem rts_congr {n : Nat} {f g : Int → Int} (h : ∀ p : Int, 0 ≤ p → p < n → f p = g p) : rts n f = rts n g := by
  unfold rts
  congr 1
  refine List.filter_congr fun m hm => ?_
  rw [List.mem_range] at hm
  rw [h m (by omega) (by omega)]
theorem grp_congr {n : Nat} {f g : Int → Int} (r : Int) (h : ∀ p : Int, 0 ≤ p → p < n → f p = g p) : grp n f r = grp n g r := by
  unfold grp
  congr 1
  refine List.filter_congr fun m hm => ?_
  rw [List.mem_range] at hm
  rw [h m (by omega) (by omega)]
theorem pcs_congr {n : Nat} {f g : Int → Int} (h : ∀ p : Int, 0 ≤ p → p < n → f p = g p) : pcs n f = pcs n g := by
  unfold pcs
  rw [rts_congr h]
  exact List.map_congr_left fun r _ => grp_congr r h
end L2
namespace L2
open PySem
theorem nodup_sub {α : Type} [DecidableEq α] : ∀ {l l' : List α}, l.Nodup → (∀ a ∈ l, a ∈ l') → l.length ≤ l'.length
  | [], _, _, _ => Nat.zero_le _
  | a :: l, l', h, s => by
    rw [List.nodup_cons] at h
    have ha := s a List.mem_cons_self
    have := nodup_sub (l := l) (l' := l'.erase a) h.2 fun b hb => (List.mem_erase_of_ne (fun (z : b = a) => h.1 (z ▸ hb))).mpr (s b (List.mem_cons_of_mem _ hb))
    rw [List.length_erase_of_mem ha] at this
    have : 0 < l'.length := List.length_pos_of_mem ha
    rw [List.length_cons]; omega
theorem nodup_len {rs : List Int} {m : Int} (h : rs.Nodup) (b : ∀ p ∈ rs, 0 ≤ p ∧ p < m) : rs.length ≤ m.toNat := by
  have := nodup_sub (l' := (List.range m.toNat).map fun (i : Nat) => (i : Int)) h fun p hp => by
    have := b p hp
    exact List.mem_map.mpr ⟨p.toNat, List.mem_range.mpr (by omega), by omega⟩
  rwa [List.length_map, List.length_range] at this
theorem nodup_snoc {α : Type} {l : List α} {a : α} (h : l.Nodup) (n : ¬ a ∈ l) : (l ++ [a]).Nodup := by
  rw [List.nodup_append]
  refine ⟨h, by simp, fun x hx y hy e => ?_⟩
  rw [List.mem_singleton.mp hy] at e
  exact n (e ▸ hx)
def atP (p : Int) (e : Int × Int) : Bool := e.1 == p || e.2 == p
theorem inV_at (p a b : Int) : inV (.int p) [.int a, .int b] = atP p (a, b) := by
  have := inV_ints p [a, b]
  rw [show [V.int a, V.int b] = [a, b].map V.int from rfl, this]
  simp [atP]
theorem atP_iff {p : Int} {e : Int × Int} : atP p e = true ↔ e.1 = p ∨ e.2 = p := by
  unfold atP
  rw [Bool.or_eq_true, beq_iff_eq, beq_iff_eq]
def far (e : Int × Int) (p : Int) : Int := if e.1 = p then e.2 else e.1
def tieOf (es : List (Int × Int)) (t : Int) : Int × Int := es.getD t.toNat (0, 0)
def sub (es : List (Int × Int)) (ss : List Int) : List (Int × Int) := ss.map (tieOf es)
theorem far_cn {es : List (Int × Int)} {e : Int × Int} (h : e ∈ es) {p : Int} (hp : e.1 = p ∨ e.2 = p) : Cn es p (far e p) := by
  unfold far
  by_cases c : e.1 = p
  · rw [if_pos c, ← c]; exact Cn.tie h
  · rw [if_neg c]
    rcases hp with y | y
    · exact absurd y c
    · rw [← y]; exact Cn.eit h
theorem far_end (e : Int × Int) {p : Int} (hp : e.1 = p ∨ e.2 = p) : e.1 = far e p ∨ e.2 = far e p := by
  unfold far
  by_cases c : e.1 = p
  · rw [if_pos c]; exact .inr rfl
  · rw [if_neg c]; exact .inl rfl
inductive Way (es : List (Int × Int)) (ss : List Int) (a : Int) : List Int → List Int → Int → Prop
  | nil : Way es ss a [] [] a
  | snoc {ts ps : List Int} {p t : Int} : Way es ss a ts ps p → t ∈ ss → 0 ≤ t → t < (es.length : Int) → ((tieOf es t).1 = p ∨ (tieOf es t).2 = p) → ¬ far (tieOf es t) p ∈ ps ++ [p] → Way es ss a (ts ++ [t]) (ps ++ [p]) (far (tieOf es t) p)
theorem Way.cn {es : List (Int × Int)} {ss ts ps : List Int} {a p : Int} (h : Way es ss a ts ps p) : Cn (sub es ss) a p := by
  induction h with
  | nil => exact .refl _
  | snoc _ ht _ _ hp _ ih => exact ih.trans (far_cn (List.mem_map.mpr ⟨_, ht, rfl⟩) hp)
theorem Way.nd {es : List (Int × Int)} {ss ts ps : List Int} {a p : Int} (h : Way es ss a ts ps p) : (ps ++ [p]).Nodup := by
  induction h with
  | nil => simp
  | snoc _ _ _ _ _ hn ih => exact nodup_snoc ih hn
theorem Way.len {es : List (Int × Int)} {ss ts ps : List Int} {a p : Int} (h : Way es ss a ts ps p) : ts.length = ps.length := by
  induction h with
  | nil => rfl
  | snoc _ _ _ _ _ _ ih => rw [List.length_append, List.length_append, ih]; rfl
theorem Way.ends {es : List (Int × Int)} {ss ts ps : List Int} {a p : Int} (h : Way es ss a ts ps p) : ∀ t ∈ ts, (tieOf es t).1 ∈ ps ++ [p] ∧ (tieOf es t).2 ∈ ps ++ [p] := by
  induction h with
  | nil => exact fun t ht => nomatch ht
  | @snoc ts ps p t _ _ _ _ hp _ ih =>
    intro t' ht'
    rcases List.mem_append.mp ht' with y | y
    · exact ⟨List.mem_append_left _ (ih t' y).1, List.mem_append_left _ (ih t' y).2⟩
    · rw [List.mem_singleton.mp y]
      have mp : p ∈ (ps ++ [p]) ++ [far (tieOf es t) p] := List.mem_append_left _ (List.mem_append_right _ (List.mem_singleton.mpr rfl))
      have mf : far (tieOf es t) p ∈ (ps ++ [p]) ++ [far (tieOf es t) p] := List.mem_append_right _ (List.mem_singleton.mpr rfl)
      by_cases c : (tieOf es t).1 = p
      · have e2 : far (tieOf es t) p = (tieOf es t).2 := if_pos c
        rw [c]; exact ⟨mp, by rw [← e2]; exact mf⟩
      · have e1 : far (tieOf es t) p = (tieOf es t).1 := if_neg c
        have e2 : (tieOf es t).2 = p := hp.resolve_left c
        rw [e2]; exact ⟨by rw [← e1]; exact mf, mp⟩
theorem Way.fresh {es : List (Int × Int)} {ss ts ps : List Int} {a p t : Int} (h : Way es ss a ts ps p) (hp : (tieOf es t).1 = p ∨ (tieOf es t).2 = p) (hn : ¬ far (tieOf es t) p ∈ ps ++ [p]) : ¬ t ∈ ts := fun ht => by
  have := h.ends t ht
  rcases far_end (tieOf es t) hp with y | y
  · exact hn (y ▸ this.1)
  · exact hn (y ▸ this.2)
theorem Way.tnd {es : List (Int × Int)} {ss ts ps : List Int} {a p : Int} (h : Way es ss a ts ps p) : ts.Nodup := by
  induction h with
  | nil => simp
  | snoc h _ _ _ hp hn ih => exact nodup_snoc ih (h.fresh hp hn)
theorem Way.sub {es : List (Int × Int)} {ss ts ps : List Int} {a p : Int} (h : Way es ss a ts ps p) : ∀ t ∈ ts, t ∈ ss ∧ 0 ≤ t ∧ t < (es.length : Int) := by
  induction h with
  | nil => exact fun t ht => nomatch ht
  | snoc _ h1 h2 h3 _ _ ih =>
    intro t' ht'
    rcases List.mem_append.mp ht' with y | y
    · exact ih t' y
    · rw [List.mem_singleton.mp y]; exact ⟨h1, h2, h3⟩
theorem valV_key (ad : Int → Addr) (k : Int) : ∀ R : List Int, valV (R.map fun r => ((Sum.inl r : Key), V.ref (ad r))) (Sum.inl k) = if k ∈ R then some (V.ref (ad k)) else none
  | [] => rfl
  | r :: R => by
    rw [List.map_cons]
    by_cases e : r = k
    · subst e
      rw [valV_pos rfl, if_pos List.mem_cons_self]
    · rw [valV_neg (fun z => e (Sum.inl.inj z)), valV_key ad k R]
      by_cases h : k ∈ R
      · rw [if_pos h, if_pos (List.mem_cons_of_mem _ h)]
      · rw [if_neg h, if_neg (fun z => (List.mem_cons.mp z).elim (fun y => e y.symm) h)]
theorem cn_closed {es : List (Int × Int)} {R : List Int} {a b : Int} (ha : a ∈ R) (hc : ∀ e ∈ es, ∀ p ∈ R, (e.1 = p ∨ e.2 = p) → far e p ∈ R) (h : Cn es a b) : b ∈ R := by
  induction h with
  | refl => exact ha
  | fwd _ he ih => have := hc _ he _ ih (.inl rfl); rwa [show far _ _ = _ from if_pos rfl] at this
  | @bwd e _ he ih =>
    have := hc _ he _ ih (.inr rfl)
    unfold far at this
    by_cases c : e.1 = e.2
    · rw [if_pos c] at this; rw [c]; exact this
    · rwa [if_neg c] at this
end L2
namespace L2
structure Nam (n : Int) (es : List (Int × Int)) (f : Int → Int) : Prop where
  conn : ∀ p, 0 ≤ p → p < n → Cn es p (f p)
  same : ∀ e ∈ es, f e.1 = f e.2
  rng : ∀ p, 0 ≤ p → p < n → 0 ≤ f p ∧ f p < n
theorem Nam.iff {n : Int} {es : List (Int × Int)} {f : Int → Int} (F : Nam n es f) {p q : Int} (p0 : 0 ≤ p) (p1 : p < n) (q0 : 0 ≤ q) (q1 : q < n) : f p = f q ↔ Cn es p q :=
  ⟨fun e => (F.conn p p0 p1).trans (by rw [e]; exact (F.conn q q0 q1).symm), fun c => lab_cn F.same c⟩
theorem Nam.nil (n : Int) : Nam n [] (fun p => p) := ⟨fun p _ _ => .refl p, fun e he => (nomatch he), fun p h h' => ⟨h, h'⟩⟩
theorem Nam.congr {n : Int} {es : List (Int × Int)} {f g : Int → Int} (F : Nam n es f) (hE : ∀ e ∈ es, 0 ≤ e.1 ∧ e.1 < n ∧ 0 ≤ e.2 ∧ e.2 < n) (h : ∀ p, 0 ≤ p → p < n → f p = g p) : Nam n es g :=
  ⟨fun p p0 p1 => by rw [← h p p0 p1]; exact F.conn p p0 p1, fun e he => by
    have := hE e he
    rw [← h _ this.1 this.2.1, ← h _ this.2.2.1 this.2.2.2]; exact F.same e he, fun p p0 p1 => by rw [← h p p0 p1]; exact F.rng p p0 p1⟩
theorem Nam.put {n : Int} {es : List (Int × Int)} {f : Int → Int} {e : Int × Int} (F : Nam n es f) (b : 0 ≤ e.1 ∧ e.1 < n ∧ 0 ≤ e.2 ∧ e.2 < n) : Nam n (es ++ [e]) (fun p => if f p = f e.2 then f e.1 else f p) := by
  have up : ∀ {x y : Int}, Cn es x y → Cn (es ++ [e]) x y := fun c => c.mono fun a ha => List.mem_append_left _ ha
  have me : e ∈ es ++ [e] := List.mem_append_right _ (List.mem_singleton.mpr rfl)
  refine ⟨fun p p0 p1 => ?_, fun a ha => ?_, fun p p0 p1 => ?_⟩
  · have cp := up (F.conn p p0 p1)
    by_cases h : f p = f e.2
    · try dsimp only
      rw [if_pos h]
      rw [h] at cp
      exact cp.trans ((up (F.conn e.2 b.2.2.1 b.2.2.2)).symm.trans ((Cn.eit me).trans (up (F.conn e.1 b.1 b.2.1))))
    · try dsimp only
      rw [if_neg h]; exact cp
  · rcases List.mem_append.mp ha with y | y
    · try dsimp only
      rw [F.same a y]
    · have ea : a = e := List.mem_singleton.mp y
      subst ea
      try dsimp only
      rw [if_pos rfl]; split
      · rfl
      · rfl
  · try dsimp only
    split
    · exact F.rng _ b.1 b.2.1
    · exact F.rng p p0 p1
theorem Nam.skip {n : Int} {es : List (Int × Int)} {f : Int → Int} {e : Int × Int} (F : Nam n es f) (h : f e.1 = f e.2) : Nam n (es ++ [e]) f :=
  ⟨fun p p0 p1 => (F.conn p p0 p1).mono fun a ha => List.mem_append_left _ ha, fun a ha => by
    rcases List.mem_append.mp ha with y | y
    · exact F.same a y
    · rw [List.mem_singleton.mp y]; exact h, F.rng⟩
theorem Lab.skip {n : Int} {es : List (Int × Int)} {f : Int → Int} {e : Int × Int} (F : Lab n es f) (h : f e.1 = f e.2) : Lab n (es ++ [e]) f :=
  ⟨fun p p0 p1 => (F.conn p p0 p1).mono fun a ha => List.mem_append_left _ ha, fun a ha => by
    rcases List.mem_append.mp ha with y | y
    · exact F.same a y
    · rw [List.mem_singleton.mp y]; exact h, F.low⟩
noncomputable def inF (es : List (Int × Int)) (i : Nat) : Bool := @decide (¬ Cn (es.take i) (es.getD i (0, 0)).1 (es.getD i (0, 0)).2) (Classical.propDecidable _)
theorem inF_iff {es : List (Int × Int)} {i : Nat} : inF es i = true ↔ ¬ Cn (es.take i) (es.getD i (0, 0)).1 (es.getD i (0, 0)).2 := by
  unfold inF; exact @decide_eq_true_iff _ (Classical.propDecidable _)
noncomputable def frN (es : List (Int × Int)) (n : Nat) : List Int := ((List.range n).filter fun i => inF es i).map fun (i : Nat) => (i : Int)
noncomputable def frst (es : List (Int × Int)) : List Int := frN es es.length
theorem frN_succ (es : List (Int × Int)) (n : Nat) : frN es (n + 1) = frN es n ++ (if inF es n = true then [(n : Int)] else []) := by
  unfold frN
  rw [List.range_succ, List.filter_append, List.map_append]
  by_cases h : inF es n = true
  · rw [if_pos h, List.filter_cons_of_pos h]; rfl
  · rw [if_neg h, List.filter_cons_of_neg h]; rfl
theorem mem_frN {es : List (Int × Int)} {n : Nat} {t : Int} : t ∈ frN es n ↔ 0 ≤ t ∧ t < n ∧ inF es t.toNat = true := by
  unfold frN
  rw [List.mem_map]
  constructor
  · rintro ⟨m, hm, rfl⟩
    rw [List.mem_filter, List.mem_range] at hm
    exact ⟨by omega, by omega, hm.2⟩
  · rintro ⟨h0, h1, h2⟩
    exact ⟨t.toNat, List.mem_filter.mpr ⟨List.mem_range.mpr (by omega), h2⟩, by omega⟩
theorem frN_len (es : List (Int × Int)) (n : Nat) : (frN es n).length ≤ n := by
  unfold frN
  rw [List.length_map]
  exact Nat.le_trans (List.length_filter_le _ _) (by rw [List.length_range]; exact Nat.le_refl _)
def upto (n : Nat) : List Int := (List.range n).map fun (i : Nat) => (i : Int)
def oth (n : Nat) (t : Int) : List Int := (upto n).filter fun z => decide (z ≠ t)
theorem upto_succ (n : Nat) : upto (n + 1) = upto n ++ [(n : Int)] := by unfold upto; rw [List.range_succ, List.map_append]; rfl
theorem upto_len (n : Nat) : (upto n).length = n := by unfold upto; rw [List.length_map, List.length_range]
theorem upto_get {n i : Nat} (h : i < n) : (upto n)[i]? = some (i : Int) := by unfold upto; rw [List.getElem?_map, List.getElem?_range h]; rfl
theorem mem_upto {n : Nat} {t : Int} : t ∈ upto n ↔ 0 ≤ t ∧ t < n := by
  unfold upto
  rw [List.mem_map]
  constructor
  · rintro ⟨m, hm, rfl⟩
    rw [List.mem_range] at hm
    omega
  · rintro ⟨h0, h1⟩
    exact ⟨t.toNat, List.mem_range.mpr (by omega), by omega⟩
theorem upto0 (n : Nat) : ((List.range n).map fun i => 0 + ((i : Nat) : Int)) = upto n := by
  unfold upto
  exact List.map_congr_left fun i _ => Int.zero_add _
theorem sub_upto (es : List (Int × Int)) : ∀ n, n ≤ es.length → sub es (upto n) = es.take n
  | 0, _ => rfl
  | n + 1, h => by
    have hg : es[n]? = some (es.getD n (0, 0)) := by rw [List.getD_eq_getElem?_getD, List.getElem?_eq_getElem (show n < es.length by omega)]; rfl
    rw [List.take_add_one, hg, upto_succ]
    unfold sub
    rw [List.map_append]
    have := sub_upto es n (by omega)
    unfold sub at this
    rw [this]
    rfl
noncomputable def fre (es : List (Int × Int)) : List Int := (upto es.length).filter fun z => !((frst es).any (· == z))
end L2
namespace L2
open PySem PySem.Spec PyProof.Rows
theorem Vals.intsAre : ∀ {ns : List Int} {us : List Value}, Vals (ns.map V.int) us → IntsAre us ns
  | [], _, .nil => .nil
  | _ :: _, _, .cons r t => by obtain ⟨k, rfl⟩ := r; exact .cons _ _ (Vals.intsAre t)
theorem IntsAre.vals : ∀ {ns : List Int} {us : List Value}, IntsAre us ns → Vals (ns.map V.int) us
  | _, _, .nil => .nil
  | _, _, .cons _ _ t => .cons ⟨_, rfl⟩ (IntsAre.vals t)
section
variable {X : Cx} {K : PySem.W.Frag}
theorem cSorted (hK : X.K = K) : CallR X (.builtin "sorted") (fun xs H Q => ∃ (p : Addr) (ns : List Int), xs = [.ref p] ∧ SqL K H p (ns.map V.int) ∧ ns.length < 64 ∧ ∀ (l : Addr) (ns' : List Int), H l = none → ns'.Perm ns → ns'.Pairwise (· ≤ ·) → Q (.ref l) (upd H l (.lst (ns'.map V.int)))) := by
  subst hK
  intro pins s σ H xs us Q I r h
  obtain ⟨p, ns, rfl, hq, hz, q⟩ := h
  obtain ⟨u, rfl, rx⟩ := vals1 r
  cases rx
  obtain ⟨its, rv, pl, hzz⟩ := I.list hq
  have hlen := rv.length
  rw [List.length_map] at hlen
  refine sorted_ints pl.isList (Vals.intsAre rv) (by omega) fun out ns' a1 a2 a3 => ?_
  obtain ⟨e, he⟩ := sortedAll_at s.heap its out
  have hl' := a2.length_eq
  exact ⟨.ref _, _, I.laid (t' := s.toks) (fun _ _ => sortedAll_old) (Nat.le_succ _) (show ObjOk X.prog X.w _ (sortedAll s.heap its out) _ (.lst (ns'.map V.int)) from ⟨by rw [List.length_map]; exact Nat.le_of_lt (small1000 (by omega)), out.toList, e, IntsAre.vals a1, he⟩), rfl, q _ ns' (I.hok.fresh (Nat.le_succ _)) a2 a3⟩
end
theorem sorted_uniq : ∀ {a b : List Int}, a.Perm b → a.Pairwise (· ≤ ·) → b.Pairwise (· ≤ ·) → a = b := fun h ha hb => h.eq_of_pairwise (le := (· ≤ ·)) (fun _ _ _ _ x y => Int.le_antisymm x y) ha hb
end L2
namespace L2
open PySem PySem.Spec PyProof.Rows
def lf (ls : List Int) (p : Int) : Int := ls.getD p.toNat 0
theorem lf_range (n : Nat) (p : Int) (p0 : 0 ≤ p) (p1 : p < n) : lf ((List.range n).map fun i => 0 + ((i : Nat) : Int)) p = p := by
  unfold lf
  rw [List.getD_eq_getElem?_getD, List.getElem?_map, List.getElem?_range (by omega)]
  show 0 + ((p.toNat : Nat) : Int) = p
  omega
theorem lf_map (ls : List Int) (g : Int → Int) (p : Int) (p0 : 0 ≤ p) (p1 : p < ls.length) : lf (ls.map g) p = g (lf ls p) := by
  unfold lf
  rw [List.getD_eq_getElem?_getD, List.getElem?_map, List.getD_eq_getElem?_getD, List.getElem?_eq_getElem (show p.toNat < ls.length by omega)]; rfl
theorem none_back {H0 H' : Hp} {l : Addr} (s : Same H0 H') (n : H' l = none) : H0 l = none := by
  cases e : H0 l with
  | none => rfl
  | some o => have := s _ _ e; rw [n] at this; cases this
theorem tie_get {K : PySem.W.Frag} {H : Hp} {ys : List V} {es : List (Int × Int)} {t : Int} (hp : Pairs K H ys es) (h0 : 0 ≤ t) (h1 : t < (es.length : Int)) : ∃ r, atI ys t = some (.ref r) ∧ SqT K H r [.int (tieOf es t).1, .int (tieOf es t).2] ∧ tieOf es t ∈ es := by
  have hi : t.toNat < es.length := by omega
  obtain ⟨r, e, er, hr, ei, he⟩ := hp.get hi
  have e0 : tieOf es t = e := by unfold tieOf; rw [List.getD_eq_getElem?_getD, ei]; rfl
  rw [e0]
  exact ⟨r, atI_int h0 er, hr, he⟩
theorem Nam.start (n : Nat) (m : Int) (h : m.toNat = n) : Nam m [] (lf ((List.range n).map fun i => 0 + ((i : Nat) : Int))) := (Nam.nil m).congr (fun e he => (nomatch he)) fun p p0 p1 => (lf_range n p p0 (by omega)).symm
def dT (es : List (Int × Int)) : PyData := .tuple (es.map dP)
end L2
namespace L2
open PySem
def dp (p : Int) (es : List (Int × Int)) (fs : List Int) : Nat → Int
  | 0 => 0
  | i + 1 => dp p es fs i + (if (es.getD i (0, 0)).2 = p then fs.getD i 0 else 0) - (if (es.getD i (0, 0)).1 = p then fs.getD i 0 else 0)
def memI (ps : List Int) (z : Int) : Bool := ps.any (· == z)
def ac (ps : List Int) (es : List (Int × Int)) (fs : List Int) : Nat → Int
  | 0 => 0
  | i + 1 => ac ps es fs i + (if (memI ps (es.getD i (0, 0)).1 && !memI ps (es.getD i (0, 0)).2) = true then fs.getD i 0 else 0) - (if (memI ps (es.getD i (0, 0)).2 && !memI ps (es.getD i (0, 0)).1) = true then fs.getD i 0 else 0)
theorem getD_map0 (z : Int) (fs : List Int) (n : Nat) : (fs.map (z * ·)).getD n 0 = z * fs.getD n 0 := by
  rw [List.getD_eq_getElem?_getD, List.getElem?_map, List.getD_eq_getElem?_getD]
  cases fs[n]? with
  | none => exact (Int.mul_zero z).symm
  | some v => rfl
theorem dp_map (p z : Int) (es : List (Int × Int)) (fs : List Int) : ∀ n, dp p es (fs.map (z * ·)) n = z * dp p es fs n
  | 0 => (Int.mul_zero z).symm
  | n + 1 => by
    show dp p es (fs.map (z * ·)) n + _ - _ = z * (dp p es fs n + _ - _)
    rw [dp_map p z es fs n, getD_map0, Int.mul_sub, Int.mul_add]
    by_cases c1 : (es.getD n (0, 0)).2 = p <;> by_cases c2 : (es.getD n (0, 0)).1 = p <;> simp only [c1, c2, if_true, if_false, Int.mul_zero]
theorem getD_zip (fs gs : List Int) (h : fs.length = gs.length) (n : Nat) : (List.zipWith (· + ·) fs gs).getD n 0 = fs.getD n 0 + gs.getD n 0 := by
  rw [List.getD_eq_getElem?_getD, List.getElem?_zipWith, List.getD_eq_getElem?_getD, List.getD_eq_getElem?_getD]
  by_cases hn : n < fs.length
  · rw [List.getElem?_eq_getElem hn, List.getElem?_eq_getElem (show n < gs.length by omega)]; rfl
  · rw [List.getElem?_eq_none (by omega), List.getElem?_eq_none (show gs.length ≤ n by omega)]; rfl
theorem dp_zip (p : Int) (es : List (Int × Int)) (fs gs : List Int) (h : fs.length = gs.length) : ∀ n, dp p es (List.zipWith (· + ·) fs gs) n = dp p es fs n + dp p es gs n
  | 0 => rfl
  | n + 1 => by
    show dp p es (List.zipWith (· + ·) fs gs) n + _ - _ = (dp p es fs n + _ - _) + (dp p es gs n + _ - _)
    rw [dp_zip p es fs gs h n, getD_zip fs gs h]
    by_cases c1 : (es.getD n (0, 0)).2 = p <;> by_cases c2 : (es.getD n (0, 0)).1 = p <;> simp only [c1, c2, if_true, if_false] <;> omega
theorem sum_pick (a z : Int) : ∀ ps : List Int, ps.Nodup → (ps.map fun p => if z = p then a else 0).sum = if memI ps z = true then a else 0
  | [], _ => rfl
  | p :: ps, h => by
    rw [List.nodup_cons] at h
    rw [List.map_cons, List.sum_cons, sum_pick a z ps h.2]
    show _ = if ((p == z) || memI ps z) = true then a else 0
    by_cases c : z = p
    · subst c
      have hn : memI ps z = false := by
        unfold memI
        rw [List.any_eq_false]
        intro y hy e
        rw [beq_iff_eq] at e
        exact h.1 (e ▸ hy)
      rw [hn, if_pos rfl, beq_self_eq_true]; simp
    · have hb : (p == z) = false := by rw [beq_eq_false_iff_ne]; exact fun e => c e.symm
      rw [if_neg c, hb, Bool.false_or, Int.zero_add]
theorem sum_three (A B C : Int → Int) : ∀ ps : List Int, (ps.map fun p => A p + B p - C p).sum = (ps.map A).sum + (ps.map B).sum - (ps.map C).sum
  | [] => rfl
  | p :: ps => by
    rw [List.map_cons, List.sum_cons, sum_three A B C ps, List.map_cons, List.map_cons, List.map_cons, List.sum_cons, List.sum_cons, List.sum_cons]; omega
theorem ac_dp (ps : List Int) (hN : ps.Nodup) (es : List (Int × Int)) (fs : List Int) : ∀ n, ac ps es fs n = -(ps.map fun p => dp p es fs n).sum
  | 0 => by
    have : ∀ ps : List Int, (ps.map fun _ => (0 : Int)).sum = 0 := fun ps => by
      induction ps with
      | nil => rfl
      | cons p ps ih => rw [List.map_cons, List.sum_cons, ih]; rfl
    show (0 : Int) = -(ps.map fun _ => (0 : Int)).sum
    rw [this]; rfl
  | n + 1 => by
    have e := sum_three (fun p => dp p es fs n) (fun p => if (es.getD n (0, 0)).2 = p then fs.getD n 0 else 0) (fun p => if (es.getD n (0, 0)).1 = p then fs.getD n 0 else 0) ps
    rw [sum_pick _ _ _ hN, sum_pick _ _ _ hN] at e
    show ac ps es fs n + _ - _ = -(ps.map fun p => dp p es fs n + (if (es.getD n (0, 0)).2 = p then fs.getD n 0 else 0) - (if (es.getD n (0, 0)).1 = p then fs.getD n 0 else 0)).sum
    rw [e, ac_dp ps hN es fs n]
    cases memI ps (es.getD n (0, 0)).1 <;> cases memI ps (es.getD n (0, 0)).2 <;> simp <;> omega
theorem ac_zero {ps : List Int} (hN : ps.Nodup) {es : List (Int × Int)} {fs : List Int} {n : Nat} (h : ∀ p : Int, dp p es fs n = 0) : ac ps es fs n = 0 := by
  rw [ac_dp ps hN es fs n]
  have : ∀ ps : List Int, (ps.map fun p => dp p es fs n).sum = 0 := fun ps => by
    induction ps with
    | nil => rfl
    | cons p ps ih => rw [List.map_cons, List.sum_cons, ih, h]; rfl
  rw [this]; rfl
theorem getDi_set (fs : List Int) (i n : Nat) (v : Int) (h : i < fs.length) : (fs.set i v).getD n 0 = if i = n then v else fs.getD n 0 := by
  rw [List.getD_eq_getElem?_getD, List.getElem?_set, List.getD_eq_getElem?_getD]
  by_cases c : i = n
  · rw [if_pos c, if_pos c, if_pos h]; rfl
  · rw [if_neg c, if_neg c]
theorem dp_set (p : Int) (es : List (Int × Int)) (fs : List Int) (k : Nat) (v : Int) (hk : k < fs.length) : ∀ n, dp p es (fs.set k v) n = dp p es fs n + (if k < n then (if (es.getD k (0, 0)).2 = p then v - fs.getD k 0 else 0) - (if (es.getD k (0, 0)).1 = p then v - fs.getD k 0 else 0) else 0)
  | 0 => by show (0 : Int) = 0 + _; rw [if_neg (Nat.not_lt_zero _)]; rfl
  | n + 1 => by
    show dp p es (fs.set k v) n + _ - _ = dp p es fs n + _ - _ + _
    rw [dp_set p es fs k v hk n, getDi_set fs k n v hk]
    by_cases c : k = n
    · subst c
      rw [if_neg (Nat.lt_irrefl _), if_pos rfl, if_pos (Nat.lt_succ_self _)]
      by_cases c1 : (es.getD k (0, 0)).2 = p <;> by_cases c2 : (es.getD k (0, 0)).1 = p <;> simp only [c1, c2, if_true, if_false] <;> omega
    · rw [if_neg c]
      by_cases c3 : k < n
      · rw [if_pos c3, if_pos (show k < n + 1 by omega)]; omega
      · rw [if_neg c3, if_neg (show ¬ k < n + 1 by omega)]; omega
theorem dp_nil (p : Int) (es : List (Int × Int)) (k : Nat) : ∀ n, dp p es (List.replicate k 0) n = 0
  | 0 => rfl
  | n + 1 => by
    show dp p es (List.replicate k 0) n + _ - _ = 0
    have e : (List.replicate k (0 : Int)).getD n 0 = 0 := by
      rw [List.getD_eq_getElem?_getD, List.getElem?_replicate]; split <;> rfl
    rw [dp_nil p es k n, e]; simp
theorem lab_ex {m : Int} : ∀ {es : List (Int × Int)}, (∀ e ∈ es, 0 ≤ e.1 ∧ e.1 < m ∧ 0 ≤ e.2 ∧ e.2 < m) → ∀ n, ∃ f, Lab m (es.take n) f
  | es, hE, 0 => ⟨_, Lab.nil m⟩
  | es, hE, n + 1 => by
    obtain ⟨f, F⟩ := lab_ex hE n
    rw [List.take_add_one]
    cases h : es[n]? with
    | none => exact ⟨f, by simpa using F⟩
    | some e => exact ⟨_, F.merge (hE e (List.mem_of_getElem? h))⟩
theorem memI_iff {ps : List Int} {z : Int} : memI ps z = true ↔ z ∈ ps := by
  unfold memI
  rw [List.any_eq_true]
  constructor
  · rintro ⟨x, hx, e⟩; rw [← beq_iff_eq.mp e]; exact hx
  · exact fun h => ⟨z, h, beq_iff_eq.mpr rfl⟩
theorem grp_nd (n : Nat) (f : Int → Int) (r : Int) : (grp n f r).Nodup := by
  unfold grp
  rw [List.nodup_iff_pairwise_ne, List.pairwise_map]
  exact (List.Pairwise.filter _ List.pairwise_lt_range).imp fun h z => by omega
theorem flow_zero {m : Int} {es : List (Int × Int)} {fs : List Int} (hE : ∀ e ∈ es, 0 ≤ e.1 ∧ e.1 < m ∧ 0 ≤ e.2 ∧ e.2 < m) (hd : ∀ p : Int, dp p es fs es.length = 0) (h0 : ∀ t, t < es.length → ¬ inF es t = true → fs.getD t 0 = 0) : ∀ t, t < es.length → fs.getD t 0 = 0 := by
  have key : ∀ k t, t < es.length → es.length ≤ t + k → fs.getD t 0 = 0 := by
    intro k
    induction k with
    | zero => intro t ht h; omega
    | succ k ih =>
      intro t ht h
      by_cases hF : inF es t = true
      · obtain ⟨f, F⟩ := lab_ex hE t
        have hg : es[t]? = some (es.getD t (0, 0)) := by rw [List.getD_eq_getElem?_getD, List.getElem?_eq_getElem ht]; rfl
        obtain ⟨b1, b2, b3, b4⟩ := hE _ (List.mem_of_getElem? hg)
        have hne : ¬ f (es.getD t (0, 0)).1 = f (es.getD t (0, 0)).2 := fun z => inF_iff.mp hF ((F.iff b1 b2 b3 b4).mp z)
        have hz := ac_zero (grp_nd m.toNat f (f (es.getD t (0, 0)).1)) hd
        have hmem : ∀ z : Int, 0 ≤ z → z < m → memI (grp m.toNat f (f (es.getD t (0, 0)).1)) z = decide (f z = f (es.getD t (0, 0)).1) := fun z z0 z1 => by
          rw [Bool.eq_iff_iff, memI_iff, mem_grp, decide_eq_true_iff]
          exact ⟨fun h => h.2.2, fun h => ⟨z0, by omega, h⟩⟩
        have st : ∀ n, n ≤ es.length → ac (grp m.toNat f (f (es.getD t (0, 0)).1)) es fs n = if t < n then fs.getD t 0 else 0 := by
          intro n
          induction n with
          | zero => intro _; rw [if_neg (Nat.not_lt_zero _)]; rfl
          | succ n ihn =>
            intro hn
            show ac _ es fs n + _ - _ = _
            rw [ihn (by omega)]
            have hgn : es[n]? = some (es.getD n (0, 0)) := by rw [List.getD_eq_getElem?_getD, List.getElem?_eq_getElem (show n < es.length by omega)]; rfl
            obtain ⟨d1, d2, d3, d4⟩ := hE _ (List.mem_of_getElem? hgn)
            rw [hmem _ d1 d2, hmem _ d3 d4]
            by_cases c : n < t
            · have es1 : f (es.getD n (0, 0)).1 = f (es.getD n (0, 0)).2 := F.same _ (List.mem_take_iff_getElem.mpr ⟨n, by omega, by rw [List.getD_eq_getElem?_getD, List.getElem?_eq_getElem (show n < es.length by omega)]; rfl⟩)
              rw [es1, if_neg (show ¬ t < n by omega), if_neg (show ¬ t < n + 1 by omega)]
              cases decide (f (es.getD n (0, 0)).2 = f (es.getD t (0, 0)).1) <;> simp
            · by_cases c2 : n = t
              · subst c2
                rw [decide_eq_true rfl, decide_eq_false (fun z => hne z.symm), if_neg (Nat.lt_irrefl _), if_pos (Nat.lt_succ_self _)]; simp
              · have hzn : fs.getD n 0 = 0 := ih n (by omega) (by omega)
                rw [if_pos (show t < n by omega), if_pos (show t < n + 1 by omega), hzn]; simp
        rw [st es.length (Nat.le_refl _), if_pos ht] at hz
        exact hz
      · exact h0 t ht hF
  exact fun t ht => key es.length t ht (by omega)
theorem flow_uniq {m : Int} {es : List (Int × Int)} {fs gs : List Int} (hE : ∀ e ∈ es, 0 ≤ e.1 ∧ e.1 < m ∧ 0 ≤ e.2 ∧ e.2 < m) (h1 : fs.length = es.length) (h2 : gs.length = es.length) (hf : ∀ p : Int, dp p es fs es.length = 0) (hg : ∀ p : Int, dp p es gs es.length = 0) (h0 : ∀ t, t < es.length → ¬ inF es t = true → fs.getD t 0 = gs.getD t 0) : fs = gs := by
  have hz := flow_zero (fs := List.zipWith (· + ·) fs (gs.map ((-1) * ·))) hE (fun p => by rw [dp_zip p es _ _ (by rw [List.length_map]; omega), dp_map, hf p, hg p]; rfl) fun t ht hn => by
    rw [getD_zip _ _ (by rw [List.length_map]; omega), getD_map0, h0 t ht hn]; omega
  apply List.ext_getElem (by omega)
  intro t ht1 ht2
  have := hz t (by omega)
  rw [getD_zip _ _ (by rw [List.length_map]; omega), getD_map0, List.getD_eq_getElem?_getD, List.getElem?_eq_getElem ht1, List.getD_eq_getElem?_getD, List.getElem?_eq_getElem ht2] at this
  have e : fs[t] + -1 * gs[t] = 0 := this
  omega
theorem frst_cn (es : List (Int × Int)) : ∀ n, n ≤ es.length → ∀ {a b : Int}, Cn (es.take n) a b → Cn (sub es (frN es n)) a b
  | 0, _, _, _, h => h.mono fun e he => (by simp at he)
  | n + 1, hn, a, b, h => by
    have ih : ∀ {a b : Int}, Cn (es.take n) a b → Cn (sub es (frN es (n + 1))) a b := fun h => (frst_cn es n (by omega) h).mono fun e he => by
      rw [frN_succ]; unfold sub at *; rw [List.map_append]; exact List.mem_append_left _ he
    have hg : es[n]? = some (es.getD n (0, 0)) := by rw [List.getD_eq_getElem?_getD, List.getElem?_eq_getElem (show n < es.length by omega)]; rfl
    refine Cn.map (g := id) (fun e he => ?_) h
    rw [List.take_add_one, hg] at he
    rcases List.mem_append.mp he with y | y
    · exact ih (Cn.tie y)
    · have ee : e = es.getD n (0, 0) := by simpa using y
      subst ee
      by_cases c : inF es n = true
      · refine Cn.tie ?_
        rw [frN_succ, if_pos c]
        unfold sub
        rw [List.map_append]
        exact List.mem_append_right _ (List.mem_singleton.mpr rfl)
      · exact ih (Classical.byContradiction fun z => c (inF_iff.mpr z))
def cur (es : List (Int × Int)) (a : Int) (ts : List Int) : Int := ts.foldl (fun p t => far (tieOf es t) p) a
theorem cur_snoc (es : List (Int × Int)) (a : Int) (ts : List Int) (t : Int) : cur es a (ts ++ [t]) = far (tieOf es t) (cur es a ts) := by unfold cur; rw [List.foldl_append]; rfl
theorem Way.cur {es : List (Int × Int)} {ss ts ps : List Int} {a p : Int} (h : Way es ss a ts ps p) : L2.cur es a ts = p := by
  induction h with
  | nil => rfl
  | snoc _ _ _ _ _ _ ih => rw [cur_snoc, ih]
theorem Way.step {es : List (Int × Int)} {ss ts ps : List Int} {a p : Int} (h : Way es ss a ts ps p) : ∀ i t, ts[i]? = some t → (tieOf es t).1 = L2.cur es a (ts.take i) ∨ (tieOf es t).2 = L2.cur es a (ts.take i) := by
  induction h with
  | nil => intro i t e; simp at e
  | @snoc ts ps p t h _ _ _ hp _ ih =>
    intro i t' e
    by_cases c : i < ts.length
    · rw [List.getElem?_append_left c] at e
      rw [List.take_append_of_le_length (by omega)]
      exact ih i t' e
    · have hi : i = ts.length := by
        have := (List.getElem?_eq_some_iff.mp e).1
        rw [List.length_append] at this
        have e1 : [t].length = 1 := rfl
        omega
      subst hi
      rw [List.getElem?_append_right (Nat.le_refl _), Nat.sub_self] at e
      have et : t = t' := by simpa using e
      rw [List.take_left, h.cur, ← et]
      exact hp
end L2
namespace L2
open PySem PySem.Spec PyProof.Rows
section
variable {X : Cx}
def rIdx (K : PySem.W.Frag) : V → List V → Hp → VK → Prop := fun x vs H Q => ∃ (p : Addr) (ns : List Int) (z : Int) (j : Nat), x = .ref p ∧ vs = [.int z] ∧ SqL K H p (ns.map V.int) ∧ j < ns.length ∧ ns.length ≤ 1000 ∧ ns.getD j 0 = z ∧ (∀ i, i < j → ns.getD i 0 ≠ z) ∧ Q (.int (j : Nat)) H
theorem mt_index : MtM X "list.index" (rIdx X.K) := by
  intro pins s σ H x vs v us Q I rx rv h
  obtain ⟨p, ns, z, j, rfl, rfl, hq, hj, hn, hz, hno, q⟩ := h
  cases rx
  obtain ⟨u, rfl, ry⟩ := rv.one
  obtain ⟨its, r, ⟨ob, n, e, c, dn, d⟩, _⟩ := I.list hq
  obtain ⟨oc, od, odt, osl⟩ := ob
  dsimp only at c dn d
  subst c dn d
  have hl := r.length
  rw [List.length_map] at hl
  have key : ∀ i (hi : i < its.toArray.size), eqU (.int z) its.toArray[i] = (ns.getD i 0 == z) := fun i hi => by
    obtain ⟨t, et⟩ := r.ints_at (i := i) (u := its.toArray[i]) (Array.getElem?_eq_getElem hi)
    rw [et]
    exact eqU_of (y := V.int (ns.getD i 0)) ⟨t, rfl⟩ rfl
  refine call_meets PySem.F.slot_list_index ⟨_, e, rfl⟩ PySem.F.entry_list_index (PySem.F.args_list_index_2 _ _) (SeqAt.list_indexAt p its.toArray n _ _ u (eqU (.int z)) j (by rw [List.size_toArray]; omega) (by omega) (by rw [key, hz]; exact beq_self_eq_true z) fun i hi hij => by rw [key]; exact beq_eq_false_iff_ne.mpr (hno i hij)) ⟨e, fun w hw => mem_eqAt ry rfl r (flat_ints ns) w (by simpa using hw), ?_⟩
  exact ⟨.int (j : Nat), H, I.tok _, ⟨_, rfl⟩, q⟩
theorem mIndex {K : PySem.W.Frag} (h : X.K = K) : MtM X "list.index" (rIdx K) := by subst h; exact mt_index
end
end L2
namespace L2
open PySem PySem.Spec PyProof.Rows
section
variable {X : Cx}
theorem op_fdivB : OpR X (binaryOp .FloorDiv) (rI (fun _ j => 0 < j ∧ j < 2 ^ 200) fun i j => .int (i / j)) := opI fun i j _ _ _ _ _ hc q => by
  have h1 : (0 : Int) < j := hc.1
  have h2 : j < 2 ^ 200 := hc.2
  have h3 : j.natAbs ≠ 0 := by omega
  have h4 : j.natAbs < 2 ^ 200 := by omega
  exact floordiv_int (by omega) (by rw [Int.fdiv_eq_ediv_of_nonneg i (by omega)]; exact q) (.inl (PyProof.noPylong_of_log2 (Nat.lt_of_lt_of_le ((Nat.log2_lt h3).mpr h4) (by decide))))
end
theorem flow_dvd {m k : Int} {es : List (Int × Int)} {fs : List Int} (hE : ∀ e ∈ es, 0 ≤ e.1 ∧ e.1 < m ∧ 0 ≤ e.2 ∧ e.2 < m) (hd : ∀ p : Int, dp p es fs es.length = 0) (h0 : ∀ t, t < es.length → ¬ inF es t = true → k ∣ fs.getD t 0) : ∀ t, t < es.length → k ∣ fs.getD t 0 := by
  have key : ∀ n t, t < es.length → es.length ≤ t + n → k ∣ fs.getD t 0 := by
    intro n
    induction n with
    | zero => intro t ht h; omega
    | succ n ih =>
      intro t ht h
      by_cases hF : inF es t = true
      · obtain ⟨f, F⟩ := lab_ex hE t
        have hg : es[t]? = some (es.getD t (0, 0)) := by rw [List.getD_eq_getElem?_getD, List.getElem?_eq_getElem ht]; rfl
        obtain ⟨b1, b2, b3, b4⟩ := hE _ (List.mem_of_getElem? hg)
        have hne : ¬ f (es.getD t (0, 0)).1 = f (es.getD t (0, 0)).2 := fun z => inF_iff.mp hF ((F.iff b1 b2 b3 b4).mp z)
        have hz := ac_zero (grp_nd m.toNat f (f (es.getD t (0, 0)).1)) hd
        have hmem : ∀ z : Int, 0 ≤ z → z < m → memI (grp m.toNat f (f (es.getD t (0, 0)).1)) z = decide (f z = f (es.getD t (0, 0)).1) := fun z z0 z1 => by
          rw [Bool.eq_iff_iff, memI_iff, mem_grp, decide_eq_true_iff]
          exact ⟨fun h => h.2.2, fun h => ⟨z0, by omega, h⟩⟩
        have st : ∀ j, j ≤ es.length → k ∣ (ac (grp m.toNat f (f (es.getD t (0, 0)).1)) es fs j - if t < j then fs.getD t 0 else 0) := by
          intro j
          induction j with
          | zero => intro _; rw [if_neg (Nat.not_lt_zero _)]; exact ⟨0, by rw [Int.mul_zero]; rfl⟩
          | succ j ihj =>
            intro hj
            have ih1 := ihj (by omega)
            show k ∣ (ac _ es fs j + _ - _ - _)
            have hgn : es[j]? = some (es.getD j (0, 0)) := by rw [List.getD_eq_getElem?_getD, List.getElem?_eq_getElem (show j < es.length by omega)]; rfl
            obtain ⟨d1, d2, d3, d4⟩ := hE _ (List.mem_of_getElem? hgn)
            rw [hmem _ d1 d2, hmem _ d3 d4]
            by_cases c : j < t
            · have es1 : f (es.getD j (0, 0)).1 = f (es.getD j (0, 0)).2 := F.same _ (List.mem_take_iff_getElem.mpr ⟨j, by omega, by rw [List.getD_eq_getElem?_getD, List.getElem?_eq_getElem (show j < es.length by omega)]; rfl⟩)
              rw [es1, if_neg (show ¬ t < j + 1 by omega)]
              rw [if_neg (show ¬ t < j by omega)] at ih1
              cases decide (f (es.getD j (0, 0)).2 = f (es.getD t (0, 0)).1) <;> simpa using ih1
            · by_cases c2 : j = t
              · subst c2
                rw [decide_eq_true rfl, decide_eq_false (fun z => hne z.symm), if_pos (Nat.lt_succ_self _)]
                rw [if_neg (Nat.lt_irrefl _)] at ih1
                have e : ∀ A B : Int, A + (if (true && !false) = true then B else 0) - (if (false && !true) = true then B else 0) - B = A - 0 := fun A B => by simp
                rw [e]; exact ih1
              · obtain ⟨u, hu⟩ : k ∣ fs.getD j 0 := ih j (by omega) (by omega)
                rw [if_pos (show t < j + 1 by omega)]
                rw [if_pos (show t < j by omega)] at ih1
                obtain ⟨v, hv⟩ := ih1
                have e : ∀ (x y : Bool) (A B C : Int), A + (if (x && !y) = true then C else 0) - (if (y && !x) = true then C else 0) - B = (A - B) + C * ((if x = true then 1 else 0) - (if y = true then 1 else 0)) := fun x y A B C => by
                  cases x <;> cases y <;> simp <;> omega
                rw [hu, e, hv, Int.mul_assoc, ← Int.mul_add]
                exact ⟨_, rfl⟩
        have := st es.length (Nat.le_refl _)
        rw [if_pos ht, hz] at this
        obtain ⟨v, hv⟩ := this
        exact ⟨-v, by rw [Int.mul_neg]; omega⟩
      · exact h0 t ht hF
  exact fun t ht => key es.length t ht (by omega)
theorem fre_iff {es : List (Int × Int)} {k : Nat} (hk : k < es.length) : (k : Int) ∈ fre es ↔ ¬ inF es k = true := by
  unfold fre
  rw [List.mem_filter, mem_upto]
  have : (frst es).any (· == (k : Int)) = true ↔ inF es k = true := by
    rw [show (frst es).any (· == (k : Int)) = memI (frst es) (k : Int) from rfl, memI_iff]
    unfold frst
    rw [mem_frN]
    exact ⟨fun h => h.2.2, fun h => ⟨by omega, by omega, h⟩⟩
  constructor
  · rintro ⟨_, h⟩ z
    rw [this.mpr z] at h; cases h
  · intro h
    refine ⟨⟨by omega, by omega⟩, ?_⟩
    rw [Bool.eq_false_iff.mpr fun z => h (this.mp z)]; rfl
def FW (es : List (Int × Int)) (vs fs : List Int) : Prop := fs.length = es.length ∧ (∀ p : Int, dp p es fs es.length = 0) ∧ ∀ j, j < (fre es).length → fs.getD ((fre es).getD j 0).toNat 0 = vs.getD j 0
theorem fre_at {es : List (Int × Int)} {t : Nat} (ht : t < es.length) (hn : ¬ inF es t = true) : ∃ j, j < (fre es).length ∧ (fre es).getD j 0 = (t : Int) := by
  obtain ⟨j, hj, e⟩ := List.mem_iff_getElem.mp ((fre_iff ht).mpr hn)
  exact ⟨j, hj, by rw [List.getD_eq_getElem?_getD, List.getElem?_eq_getElem hj]; exact e⟩
theorem FW.uniq {m : Int} {es : List (Int × Int)} {vs fs gs : List Int} (hE : ∀ e ∈ es, 0 ≤ e.1 ∧ e.1 < m ∧ 0 ≤ e.2 ∧ e.2 < m) (hf : FW es vs fs) (hg : FW es vs gs) : fs = gs := flow_uniq hE hf.1 hg.1 hf.2.1 hg.2.1 fun t ht hn => by
  obtain ⟨j, hj, e⟩ := fre_at ht hn
  have h1 := hf.2.2 j hj
  have h2 := hg.2.2 j hj
  rw [e, show ((t : Nat) : Int).toNat = t by omega] at h1 h2
  rw [h1, h2]
theorem FW.rest {m k : Int} {es : List (Int × Int)} {vs ws fs gs : List Int} (hE : ∀ e ∈ es, 0 ≤ e.1 ∧ e.1 < m ∧ 0 ≤ e.2 ∧ e.2 < m) (hf : FW es vs fs) (hg : FW es ws gs) (h : ∀ j, j < (fre es).length → k ∣ ws.getD j 0 - vs.getD j 0) : (gs.map (· % k)) = (fs.map (· % k)) := by
  have hl : gs.length = (fs.map ((-1) * ·)).length := by rw [List.length_map, hf.1, hg.1]
  have hz := flow_dvd (k := k) (fs := List.zipWith (· + ·) gs (fs.map ((-1) * ·))) hE (fun p => by rw [dp_zip p es _ _ hl, dp_map, hf.2.1 p, hg.2.1 p]; rfl) fun t ht hn => by
    obtain ⟨j, hj, e⟩ := fre_at ht hn
    have h1 := hf.2.2 j hj
    have h2 := hg.2.2 j hj
    rw [e, show ((t : Nat) : Int).toNat = t by omega] at h1 h2
    rw [getD_zip _ _ hl, getD_map0, h1, h2, show ws.getD j 0 + -1 * vs.getD j 0 = ws.getD j 0 - vs.getD j 0 by omega]
    exact h j hj
  apply List.ext_getElem (by rw [List.length_map, List.length_map, hf.1, hg.1])
  intro t h1 h2
  rw [List.length_map] at h1 h2
  rw [List.getElem_map, List.getElem_map]
  have hg1 := hg.1
  obtain ⟨u, hu⟩ := hz t (by omega)
  rw [getD_zip _ _ hl, getD_map0, List.getD_eq_getElem?_getD, List.getElem?_eq_getElem h1, List.getD_eq_getElem?_getD, List.getElem?_eq_getElem h2] at hu
  have hu' : gs[t] + -1 * fs[t] = k * u := hu
  rw [show gs[t] = fs[t] + k * u by omega, Int.add_mul_emod_self_left]
end L2
namespace L2
end L2
namespace L2
open PySem PySem.Spec PyProof.Rows
section
variable {X : Cx}
theorem op_isnot_bl : OpR X (compareOp .IsNot) (fun x y H Q => ∃ a b, x = .bl a ∧ y = .bl b ∧ Q (.bl (a != b)) H) := by
  intro pins s σ H x y v u Q I rx ry h
  obtain ⟨a, b, rfl, rfl, q⟩ := h
  cases rx
  cases ry
  exact isnot_bool ⟨.bl (a != b), H, I, rfl, q⟩
end
def Tch (es : List (Int × Int)) (L : List Int) (p : Int) : Prop := ∃ t ∈ L, (tieOf es t).1 = p ∨ (tieOf es t).2 = p
theorem cn_alone {es : List (Int × Int)} {L : List Int} {p q : Int} (h : ¬ Tch es L p) (c : Cn (sub es L) p q) : q = p := by
  have := cn_closed (R := [p]) (List.mem_singleton.mpr rfl) (fun e he r hr hx => by
    obtain ⟨t, ht, rfl⟩ := List.mem_map.mp he
    rw [List.mem_singleton.mp hr] at hx
    exact absurd ⟨t, ht, hx⟩ h) c
  exact List.mem_singleton.mp this
theorem dp_loops {es : List (Int × Int)} {fs : List Int} {p : Int} : ∀ n, (∀ k, k < n → ((es.getD k (0, 0)).1 = p ↔ (es.getD k (0, 0)).2 = p)) → dp p es fs n = 0
  | 0, _ => rfl
  | n + 1, h => by
    show dp p es fs n + _ - _ = 0
    rw [dp_loops n fun k hk => h k (by omega)]
    have := h n (by omega)
    by_cases c : (es.getD n (0, 0)).2 = p
    · rw [if_pos c, if_pos (this.mpr c)]; omega
    · rw [if_neg c, if_neg (fun z => c (this.mp z))]; rfl
structure FlI (m : Int) (es : List (Int × Int)) (as : List Int) (L fs : List Int) : Prop where
  len : fs.length = es.length
  nd : L.Nodup
  fr : ∀ t ∈ L, 0 ≤ t ∧ t < (es.length : Int) ∧ inF es t.toNat = true
  free : ∀ k, k < es.length → ¬ inF es k = true → fs.getD k 0 = as.getD k 0
  nought : ∀ t ∈ L, fs.getD t.toNat 0 = 0
  done : ∀ p, 0 ≤ p → p < m → ¬ Tch es L p → dp p es fs es.length = 0
  held : ∀ p q, Tch es L p → Tch es L q → Cn es p q → Cn (sub es L) p q
theorem frst_nd (es : List (Int × Int)) : (frst es).Nodup := by
  unfold frst frN
  rw [List.nodup_iff_pairwise_ne, List.pairwise_map]
  exact (List.Pairwise.filter _ List.pairwise_lt_range).imp fun h z => by omega
theorem FlI.start {m : Int} {es : List (Int × Int)} {as : List Int} (hl : as.length = es.length) (h0 : ∀ k, k < es.length → inF es k = true → as.getD k 0 = 0) : FlI m es as (frst es) as := by
  have hin : ∀ t ∈ frst es, 0 ≤ t ∧ t < (es.length : Int) ∧ inF es t.toNat = true := fun t ht => mem_frN.mp ht
  have hcn : ∀ {p q : Int}, Cn es p q → Cn (sub es (frst es)) p q := fun {p q} c => frst_cn es es.length (Nat.le_refl _) (by rw [List.take_length]; exact c)
  refine ⟨hl, frst_nd es, hin, fun k _ _ => rfl, fun t ht => h0 _ (by have := hin t ht; omega) (hin t ht).2.2, fun p p0 p1 hp => ?_, fun p q _ _ c => hcn c⟩
  refine dp_loops es.length fun k hk => ?_
  have hm : es.getD k (0, 0) ∈ es := by rw [List.getD_eq_getElem?_getD, List.getElem?_eq_getElem hk]; exact List.getElem_mem hk
  constructor
  · intro e
    have := cn_alone hp (hcn (show Cn es p (es.getD k (0, 0)).2 by rw [← e]; exact Cn.tie hm))
    exact this
  · intro e
    have := cn_alone hp (hcn (show Cn es p (es.getD k (0, 0)).1 by rw [← e]; exact Cn.eit hm))
    exact this
theorem FlI.step {m : Int} {es : List (Int × Int)} {as L fs : List Int} {u t w : Int} (hE : ∀ e ∈ es, 0 ≤ e.1 ∧ e.1 < m ∧ 0 ≤ e.2 ∧ e.2 < m) (I : FlI m es as L fs) (ht : t ∈ L) (hf : L.filter (fun s => atP u (tieOf es s)) = [t])
    (hw : w = if (tieOf es t).1 = u then dp u es fs es.length else -(dp u es fs es.length)) : FlI m es as (L.erase t) (fs.set t.toNat w) := by
  have htF := I.fr t ht
  have htl : t.toNat < fs.length := by rw [I.len]; omega
  have hmt : tieOf es t ∈ es := by unfold tieOf; rw [List.getD_eq_getElem?_getD, List.getElem?_eq_getElem (show t.toNat < es.length by omega)]; exact List.getElem_mem _
  obtain ⟨b1, b2, b3, b4⟩ := hE _ hmt
  have hut : (tieOf es t).1 = u ∨ (tieOf es t).2 = u := by
    have : t ∈ L.filter (fun s => atP u (tieOf es s)) := by rw [hf]; exact List.mem_singleton.mpr rfl
    exact atP_iff.mp (List.mem_filter.mp this).2
  have honly : ∀ s ∈ L, ((tieOf es s).1 = u ∨ (tieOf es s).2 = u) → s = t := fun s hs hx => by
    have : s ∈ L.filter (fun s => atP u (tieOf es s)) := List.mem_filter.mpr ⟨hs, atP_iff.mpr hx⟩
    rw [hf] at this
    exact List.mem_singleton.mp this
  have hne : (tieOf es t).1 ≠ (tieOf es t).2 := fun z => inF_iff.mp htF.2.2 (by
    show Cn _ (tieOf es t).1 (tieOf es t).2
    rw [← z]; exact Cn.refl _)
  obtain ⟨v, hv⟩ : ∃ v, v = far (tieOf es t) u := ⟨_, rfl⟩
  have huv : u ≠ v := by
    rw [hv]; unfold far
    by_cases c : (tieOf es t).1 = u
    · rw [if_pos c, ← c]; exact hne
    · rw [if_neg c]; exact fun z => c z.symm
  have hends : ∀ x, ((tieOf es t).1 = x ∨ (tieOf es t).2 = x) → x = u ∨ x = v := fun x hx => by
    rw [hv]; unfold far
    by_cases c : (tieOf es t).1 = u
    · rw [if_pos c]
      rcases hx with y | y
      · exact .inl (y.symm.trans c)
      · exact .inr y.symm
    · rw [if_neg c]
      have c2 := hut.resolve_left c
      rcases hx with y | y
      · exact .inr y.symm
      · exact .inl (y.symm.trans c2)
  have hcuv : Cn es u v := by rw [hv]; exact far_cn hmt hut
  have hsub : ∀ s ∈ L.erase t, s ∈ L ∧ s ≠ t := fun s hs => ⟨List.mem_of_mem_erase hs, fun z => by
    rw [z] at hs
    exact (List.Nodup.not_mem_erase I.nd) hs⟩
  have hback : ∀ s ∈ L, s ≠ t → s ∈ L.erase t := fun s hs z => (List.mem_erase_of_ne z).mpr hs
  have hnu : ¬ Tch es (L.erase t) u := fun ⟨s, hs, hx⟩ => (hsub s hs).2 (honly s (hsub s hs).1 hx)
  have hdp : ∀ p : Int, dp p es (fs.set t.toNat w) es.length = dp p es fs es.length + ((if (tieOf es t).2 = p then w else 0) - (if (tieOf es t).1 = p then w else 0)) := fun p => by
    rw [dp_set p es fs t.toNat w htl, I.nought t ht, if_pos (show t.toNat < es.length by omega)]
    show _ + ((if (tieOf es t).2 = p then w - 0 else 0) - (if (tieOf es t).1 = p then w - 0 else 0)) = _
    rw [Int.sub_zero]
  have hdu : dp u es (fs.set t.toNat w) es.length = 0 := by
    rw [hdp u, hw]
    by_cases c : (tieOf es t).1 = u
    · rw [if_pos c, if_pos c, if_neg (fun z => hne (c.trans z.symm))]; omega
    · rw [if_neg c, if_neg c, if_pos (hut.resolve_left c)]; omega
  have hother : ∀ p, p ≠ u → p ≠ v → dp p es (fs.set t.toNat w) es.length = dp p es fs es.length := fun p h1 h2 => by
    rw [hdp p, if_neg (fun z => (hends p (.inr z)).elim h1 h2), if_neg (fun z => (hends p (.inl z)).elim h1 h2)]; omega
  have hmap : ∀ {p q : Int}, p ≠ u → q ≠ u → Cn (sub es L) p q → Cn (sub es (L.erase t)) p q := fun {p q} h1 h2 c => by
    have := Cn.map (es' := sub es (L.erase t)) (g := fun x => if x = u then v else x) (fun e he => by
      obtain ⟨s, hs, rfl⟩ := List.mem_map.mp he
      by_cases cs : s = t
      · subst cs
        have e1 : (if (tieOf es s).1 = u then v else (tieOf es s).1) = v := by
          by_cases c : (tieOf es s).1 = u
          · rw [if_pos c]
          · rw [if_neg c]; exact ((hends _ (.inl rfl)).resolve_left c)
        have e2 : (if (tieOf es s).2 = u then v else (tieOf es s).2) = v := by
          by_cases c : (tieOf es s).2 = u
          · rw [if_pos c]
          · rw [if_neg c]; exact ((hends _ (.inr rfl)).resolve_left c)
        show Cn _ (if (tieOf es s).1 = u then v else (tieOf es s).1) (if (tieOf es s).2 = u then v else (tieOf es s).2)
        rw [e1, e2]; exact Cn.refl _
      · have n1 : ¬ (tieOf es s).1 = u := fun z => cs (honly s hs (.inl z))
        have n2 : ¬ (tieOf es s).2 = u := fun z => cs (honly s hs (.inr z))
        show Cn _ (if (tieOf es s).1 = u then v else (tieOf es s).1) (if (tieOf es s).2 = u then v else (tieOf es s).2)
        rw [if_neg n1, if_neg n2]
        exact Cn.tie (List.mem_map.mpr ⟨s, hback s hs cs, rfl⟩)) c
    have e : Cn (sub es (L.erase t)) (if p = u then v else p) (if q = u then v else q) := this
    rwa [if_neg h1, if_neg h2] at e
  refine ⟨by rw [List.length_set]; exact I.len, I.nd.erase t, fun s hs => I.fr s (hsub s hs).1, fun k hk hn => ?_, fun s hs => ?_, fun p p0 p1 hp => ?_, fun p q hp hq c => ?_⟩
  · rw [getDi_set fs t.toNat k w htl, if_neg (show ¬ t.toNat = k from fun z => hn (z ▸ htF.2.2))]
    exact I.free k hk hn
  · have h1 := hsub s hs
    have h2 := I.fr s h1.1
    rw [getDi_set fs t.toNat s.toNat w htl, if_neg (fun z => h1.2 (by omega))]
    exact I.nought s h1.1
  · by_cases c1 : p = u
    · rw [c1]; exact hdu
    · by_cases c2 : p = v
      · subst c2
        obtain ⟨f, F⟩ := lab_ex hE es.length
        rw [List.take_length] at F
        have hz : ac (grp m.toNat f (f p)) es (fs.set t.toNat w) es.length = 0 := by
          have : ∀ n, n ≤ es.length → ac (grp m.toNat f (f p)) es (fs.set t.toNat w) n = 0 := by
            intro n
            induction n with
            | zero => intro _; rfl
            | succ n ih =>
              intro hn
              show ac _ es (fs.set t.toNat w) n + _ - _ = 0
              have hmn : es.getD n (0, 0) ∈ es := by rw [List.getD_eq_getElem?_getD, List.getElem?_eq_getElem (show n < es.length by omega)]; exact List.getElem_mem _
              obtain ⟨d1, d2, d3, d4⟩ := hE _ hmn
              have es1 := F.same _ hmn
              have hmm : memI (grp m.toNat f (f p)) (es.getD n (0, 0)).1 = memI (grp m.toNat f (f p)) (es.getD n (0, 0)).2 := by
                rw [Bool.eq_iff_iff, memI_iff, memI_iff, mem_grp, mem_grp, es1]
                exact ⟨fun h => ⟨d3, by omega, h.2.2⟩, fun h => ⟨d1, by omega, h.2.2⟩⟩
              rw [ih (by omega), hmm]
              cases memI (grp m.toNat f (f p)) (es.getD n (0, 0)).2 <;> simp
          exact this es.length (Nat.le_refl _)
        rw [ac_dp _ (grp_nd _ _ _)] at hz
        have hq0 : ∀ q ∈ grp m.toNat f (f p), q ≠ p → dp q es (fs.set t.toNat w) es.length = 0 := fun q hq hqp => by
          have hq' := mem_grp.mp hq
          by_cases c3 : q = u
          · rw [c3]; exact hdu
          · rw [hother q c3 hqp]
            refine I.done q hq'.1 (by omega) fun hT => ?_
            have hTp : Tch es L p := ⟨t, ht, by
              rcases hut with y | y
              · exact .inr (by rw [hv]; unfold far; rw [if_pos y])
              · by_cases c : (tieOf es t).1 = u
                · exact .inr (by rw [hv]; unfold far; rw [if_pos c])
                · exact .inl (by rw [hv]; unfold far; rw [if_neg c])⟩
            have hc := I.held p q hTp hT ((F.iff p0 p1 hq'.1 (by omega)).mp hq'.2.2.symm)
            have := cn_alone hp (hmap c1 c3 hc)
            exact hqp this
        have hsum : ∀ R : List Int, R.Nodup → (∀ q ∈ R, q ≠ p → dp q es (fs.set t.toNat w) es.length = 0) → (R.map fun q => dp q es (fs.set t.toNat w) es.length).sum = if p ∈ R then dp p es (fs.set t.toNat w) es.length else 0 := by
          intro R
          induction R with
          | nil => intro _ _; rfl
          | cons q R ih =>
            intro hn hq
            rw [List.nodup_cons] at hn
            rw [List.map_cons, List.sum_cons, ih hn.2 fun r hr => hq r (List.mem_cons_of_mem _ hr)]
            by_cases e : q = p
            · subst e
              rw [if_neg hn.1, if_pos List.mem_cons_self]; omega
            · rw [hq q List.mem_cons_self e]
              by_cases e2 : p ∈ R
              · rw [if_pos e2, if_pos (List.mem_cons_of_mem _ e2)]; omega
              · rw [if_neg e2, if_neg (fun z => (List.mem_cons.mp z).elim (fun y => e y.symm) e2)]; rfl
        rw [hsum _ (grp_nd _ _ _) hq0, if_pos (mem_grp.mpr ⟨p0, by omega, rfl⟩)] at hz
        omega
      · rw [hother p c1 c2]
        refine I.done p p0 p1 fun ⟨s, hs, hx⟩ => ?_
        by_cases cs : s = t
        · subst cs
          exact (hends p hx).elim c1 c2
        · exact hp ⟨s, hback s hs cs, hx⟩
  · have h1 : p ≠ u := fun z => hnu (z ▸ hp)
    have h2 : q ≠ u := fun z => hnu (z ▸ hq)
    obtain ⟨s, hs, hx⟩ := hp
    obtain ⟨s', hs', hx'⟩ := hq
    exact hmap h1 h2 (I.held p q ⟨s, (hsub s hs).1, hx⟩ ⟨s', (hsub s' hs').1, hx'⟩ c)
end L2
namespace L2
open PySem PySem.Spec PyProof.Rows
end L2
namespace L2
open PySem PySem.Spec PyProof.Rows
def en (p : Int) (e : Int × Int) : Int := (if e.1 = p then 1 else 0) + (if e.2 = p then 1 else 0)
end L2
namespace L2
open PySem PySem.Spec PyProof.Rows
section
variable {X : Cx}
end
noncomputable def frv (es : List (Int × Int)) (rs : List Int) : List Int := (fre es).map fun t => rs.getD t.toNat 0
theorem getD_map_mod (fs : List Int) (k : Int) (n : Nat) : (fs.map (· % k)).getD n 0 = fs.getD n 0 % k := by
  rw [List.getD_eq_getElem?_getD, List.getElem?_map, List.getD_eq_getElem?_getD]
  cases fs[n]? with
  | none => exact (Int.zero_emod k).symm
  | some v => rfl
theorem gD_at {xs : List Int} {i : Nat} (h : i < xs.length) : xs.getD i 0 = xs[i] := by rw [List.getD_eq_getElem?_getD, List.getElem?_eq_getElem h]; rfl
theorem FW.frv {k : Int} {es : List (Int × Int)} {ws fs : List Int} (hl : ws.length = (fre es).length) (hw : ∀ d ∈ ws, 0 ≤ d ∧ d < k) (h : FW es ws fs) : frv es (fs.map (· % k)) = ws := by
  unfold L2.frv
  apply List.ext_getElem (by rw [List.length_map]; exact hl.symm)
  intro i h1 h2
  rw [List.length_map] at h1
  have e := h.2.2 i h1
  rw [gD_at h1, gD_at h2] at e
  obtain ⟨b1, b2⟩ := hw ws[i] (List.getElem_mem h2)
  rw [List.getElem_map, getD_map_mod, e, Int.emod_eq_of_lt b1 b2]
end L2
namespace L2
open PySem PySem.Spec PyProof.Rows PySem.W Builtin Builtin.ObjectAttr
structure ExI (K : Frag) (A F f : Addr) : Prop where
  lk : ∃ nm qn N bs sn sub ab col dd k0 k1 k2 k3 k5, K.lookup A = some (excClassObj nm qn A N bs (.ref F :: vErr) true sn sub ab col dd k0 k1 k2 k3 k5 "ValueError.__new__")
  up : IsExc K F
  ini : findIn K (.ref A) "__init__" = some (some (.ref f))
  fn : isFn K (.ref f) = true
  sa : findIn K (.ref A) "__setattr__" = some (some (.builtin "object.__setattr__"))
  nt : findIn K (.ref A) "tie" = some none
theorem ExI.dict {K : Frag} {A F f : Addr} (c : ExI K A F f) : hasDictIn K A = true := by
  obtain ⟨nm, qn, N, bs, sn, sub, ab, col, dd, k0, k1, k2, k3, k5, look⟩ := c.lk
  unfold hasDictIn clsIn
  rw [look]; rfl
section
variable {prog : Program} {w : World} {B : Around} {E : Value → Shared → Prop} {K : Frag} {A F f : Addr} {h : Heap} {g : Array GenState} {d : Drawn} {t : Nat} {os : OsState}
end
section
variable {prog : Program} {w : World} {M : Model} {B : Around} {E : Value → Shared → Prop} {env : Env}
variable {nm q : Str} {C N : Addr} {bs bm : List Value} {hdct : Bool} {sn : List Str} {sub : List Value} {ab : Bool} {col : Option Bool} {dd : Option Addr} {k0 k1 k2 k3 k5 : Option Value} {newId : String}
end
end L2
namespace L2
open PySem PySem.Spec PyProof.Rows PySem.W Builtin Builtin.ObjectAttr
section
variable {prog : Program} {w : World} {B : Around} {E : Value → Shared → Prop} {K : Frag} {A F f x : Addr} {s : Shared}
end
section
variable {X : Cx} {σ : St} {H : Hp} {s : Shared} {A F f x : Addr}
end
section
variable {X : Cx} {Ex : St → Value → Hp → Prop}
end
section
variable {X : Cx}
end
section
variable {prog : Program} {w : World} {B : Around} {E : Value → Shared → Prop} {K : Frag} {A x : Addr} {s : Shared}
end
section
variable {X : Cx}
end
end L2
namespace L2
open PySem PySem.Spec PyProof.Rows PySem.W
def ClsX (C : Value) (A : Addr) : Prop := C = .ref A ∨ ∃ d, C = .int d A
theorem ClsX.cls {o : Obj} {C : Value} {A : Addr} (h : ClsX C A) (i : IsX o C) : o.cls = .ref A := by
  rcases h with rfl | ⟨d, rfl⟩
  · exact i
  · exact i.1
section
variable {X : Cx}
end
end L2
namespace L2
open PySem PySem.Spec PyProof.Rows PySem.W
section
variable {X : Cx}
end
end L2
namespace L2
open PySem
end L2
namespace L2
open PySem PySem.Spec PyProof.Rows
structure ZA3 (z TO i1 i2 i3 : Addr) (f1 f2 f3 : List Addr) : Prop where
  m1 : i1 ∈ f1
  m2 : i2 ∈ f2
  m3 : i3 ∈ f3
  z1 : z ∉ f1
  z2 : z ∉ f2
  z3 : z ∉ f3
  o1 : TO ∉ f1
  o2 : TO ∉ f2
  o3 : TO ∉ f3
  x12 : i1 ∉ f2
  x13 : i1 ∉ f3
  x21 : i2 ∉ f1
  x23 : i2 ∉ f3
  x31 : i3 ∉ f1
  x32 : i3 ∉ f2
  oz : TO ≠ z
section
variable {prog : Program} {w : World} {A : Around} {E : Value → Shared → Prop} {s : Shared} {z TI TO i1 i2 i3 : Addr} {f1 f2 f3 : List Addr} {n1 n2 n3 i : Nat} {P1 P2 P3 : Nat → Value → Prop} {S1 S2 S3 : Nat → Heap → Prop} {a b c : Value}
end
end L2
namespace L2
open PySem PySem.Spec PyProof.Rows
section
variable {prog : Program} {w : World} {A : Around} {E : Value → Shared → Prop} {s : Shared}
end
section
variable {X : Cx} {K : PySem.W.Frag} {elts : List Expr} {kx : Nat} {tpos : Pos}
end
end L2
namespace L2
open PySem
def stE (es : List (Int × Int)) (s : Int × Int) : Int := if s.2 = 1 then (tieOf es s.1).2 else (tieOf es s.1).1
def stB (es : List (Int × Int)) (s : Int × Int) : Int := if s.2 = 1 then (tieOf es s.1).1 else (tieOf es s.1).2
def StV (es : List (Int × Int)) (s : Int × Int) : Prop := 0 ≤ s.1 ∧ s.1 < (es.length : Int) ∧ (s.2 = 1 ∨ s.2 = -1)
def rmN (as lo hi : List Int) : List (Int × Int) := (List.range as.length).map fun i => (hi.getD i 0 - as.getD i 0, as.getD i 0 - lo.getD i 0)
def rmA (rm : List (Int × Int)) (s : Int × Int) : Int := if s.2 = 1 then (rm.getD s.1.toNat (0, 0)).1 else (rm.getD s.1.toNat (0, 0)).2
theorem rmN_at {as lo hi : List Int} {i : Nat} (h : i < as.length) : (rmN as lo hi).getD i (0, 0) = (hi.getD i 0 - as.getD i 0, as.getD i 0 - lo.getD i 0) := by
  unfold rmN
  rw [List.getD_eq_getElem?_getD, List.getElem?_map, List.getElem?_range h]; rfl
def stN (es rm : List (Int × Int)) (p : Int) : Nat → List (Int × Int)
  | 0 => []
  | i + 1 => (stN es rm p i ++ if (es.getD i (0, 0)).1 = p ∧ 0 < (rm.getD i (0, 0)).1 then [((i : Int), (1 : Int))] else []) ++ if (es.getD i (0, 0)).2 = p ∧ 0 < (rm.getD i (0, 0)).2 then [((i : Int), (-1 : Int))] else []
def stpS (es : List (Int × Int)) (p : Int) (S : List Int × (Int → List (Int × Int))) (s : Int × Int) : List Int × (Int → List (Int × Int)) :=
  if stE es s ∈ S.1 then S else (S.1 ++ [stE es s], fun z => if z = stE es s then S.2 p ++ [s] else S.2 z)
def rndS (es rm : List (Int × Int)) (S : List Int × (Int → List (Int × Int))) (k : Nat) : List Int × (Int → List (Int × Int)) := (stN es rm (S.1.getD k 0) es.length).foldl (stpS es (S.1.getD k 0)) S
def runS (es rm : List (Int × Int)) : Nat → List Int × (Int → List (Int × Int)) → Nat → List Int × (Int → List (Int × Int))
  | 0, S, _ => S
  | n + 1, S, k => if k < S.1.length then runS es rm n (rndS es rm S k) (k + 1) else S
def wwr (es rm : List (Int × Int)) (a : Int) (m : Nat) : List Int × (Int → List (Int × Int)) := runS es rm m ([a], fun _ => []) 0
inductive WayS (es rm : List (Int × Int)) (a : Int) : List (Int × Int) → List Int → Int → Prop
  | nil : WayS es rm a [] [] a
  | snoc {ss : List (Int × Int)} {ps : List Int} {p : Int} {s : Int × Int} : WayS es rm a ss ps p → StV es s → stB es s = p → 0 < rmA rm s → ¬ stE es s ∈ ps ++ [p] → WayS es rm a (ss ++ [s]) (ps ++ [p]) (stE es s)
section
variable {es rm : List (Int × Int)} {a p : Int} {ss : List (Int × Int)} {ps : List Int}
theorem WayS.nd (h : WayS es rm a ss ps p) : (ps ++ [p]).Nodup := by
  induction h with
  | nil => simp
  | snoc _ _ _ _ hn ih => exact nodup_snoc ih hn
theorem WayS.len (h : WayS es rm a ss ps p) : ss.length = ps.length := by
  induction h with
  | nil => rfl
  | snoc _ _ _ _ _ ih => rw [List.length_append, List.length_append, ih]; rfl
theorem WayS.first (h : WayS es rm a ss ps p) : a ∈ ps ++ [p] := by
  induction h with
  | nil => exact List.mem_singleton.mpr rfl
  | snoc _ _ _ _ _ ih => exact List.mem_append_left _ ih
theorem WayS.step (h : WayS es rm a ss ps p) : ∀ s ∈ ss, StV es s ∧ 0 < rmA rm s ∧ stE es s ≠ a ∧ stE es s ∈ ps ++ [p] ∧ stB es s ∈ ps ++ [p] := by
  induction h with
  | nil => exact fun s hs => nomatch hs
  | @snoc ss ps p s h hv hb hr hn ih =>
    intro t ht
    rcases List.mem_append.mp ht with y | y
    · obtain ⟨h1, h2, h3, h4, h5⟩ := ih t y
      exact ⟨h1, h2, h3, List.mem_append_left _ h4, List.mem_append_left _ h5⟩
    · rw [List.mem_singleton.mp y]
      exact ⟨hv, hr, fun e => hn (e ▸ h.first), List.mem_append_right _ (List.mem_singleton.mpr rfl), by rw [hb]; exact List.mem_append_left _ (List.mem_append_right _ (List.mem_singleton.mpr rfl))⟩
theorem st_ends {s t : Int × Int} (e : s.1 = t.1) : stE es s = stE es t ∨ stE es s = stB es t := by
  unfold stE stB
  rw [e]
  by_cases c1 : s.2 = 1 <;> by_cases c2 : t.2 = 1 <;> simp [c1, c2]
theorem WayS.tnd (h : WayS es rm a ss ps p) : (ss.map (·.1)).Nodup := by
  induction h with
  | nil => simp
  | @snoc ss ps p s h hv hb hr hn ih =>
    rw [List.map_append]
    refine nodup_snoc ih fun ht => ?_
    obtain ⟨t, h1, h2⟩ := List.mem_map.mp ht
    obtain ⟨_, _, _, q1, q2⟩ := h.step t h1
    rcases st_ends (es := es) (show s.1 = t.1 from h2.symm) with e | e
    · exact hn (e ▸ q1)
    · exact hn (e ▸ q2)
end
def psh (as : List Int) (ss : List (Int × Int)) (z : Int) : List Int := ss.foldl (fun as s => as.set s.1.toNat (as.getD s.1.toNat 0 + s.2 * z)) as
theorem psh_snoc (as : List Int) (ss : List (Int × Int)) (s : Int × Int) (z : Int) : psh as (ss ++ [s]) z = (psh as ss z).set s.1.toNat ((psh as ss z).getD s.1.toNat 0 + s.2 * z) := by unfold psh; rw [List.foldl_append]; rfl
theorem psh_len (as : List Int) (z : Int) (ss : List (Int × Int)) : (psh as ss z).length = as.length := by
  induction ss generalizing as with
  | nil => rfl
  | cons s ss ih => exact (ih _).trans (List.length_set ..)
theorem dp_step1 {es : List (Int × Int)} {as : List Int} {s : Int × Int} {z : Int} (hl : as.length = es.length) (hv : StV es s) (p : Int) : dp p es (as.set s.1.toNat (as.getD s.1.toNat 0 + s.2 * z)) es.length = dp p es as es.length + (if stE es s = p then z else 0) - (if stB es s = p then z else 0) := by
  obtain ⟨h0, h1, h2⟩ := hv
  rw [dp_set p es as _ _ (by omega), if_pos (by omega)]
  unfold stE stB tieOf
  have e : as.getD s.1.toNat 0 + s.2 * z - as.getD s.1.toNat 0 = s.2 * z := by omega
  rw [e]
  rcases h2 with c | c
  · rw [c, if_pos rfl, if_pos rfl, Int.one_mul]; omega
  · rw [c, if_neg (show ¬ (-1 : Int) = 1 by decide), if_neg (show ¬ (-1 : Int) = 1 by decide), Int.neg_mul, Int.one_mul]
    split <;> split <;> omega
theorem WayS.dp {es rm : List (Int × Int)} {a q : Int} {ss : List (Int × Int)} {ps : List Int} (h : WayS es rm a ss ps q) {as : List Int} {z : Int} (hl : as.length = es.length) (p : Int) : dp p es (psh as ss z) es.length = L2.dp p es as es.length + (if q = p then z else 0) - (if a = p then z else 0) := by
  induction h with
  | nil => show L2.dp p es as _ = _; omega
  | @snoc ss ps q s h hv hb hr hn ih =>
    rw [psh_snoc, dp_step1 ((psh_len ..).trans hl) hv p, ih, hb]; omega
theorem WayS.ring {es rm : List (Int × Int)} {ss : List (Int × Int)} {ps : List Int} {s : Int × Int} (h : WayS es rm (stE es s) ss ps (stB es s)) (hv : StV es s) {as : List Int} {z : Int} (hl : as.length = es.length) (p : Int) : L2.dp p es (psh as (ss ++ [s]) z) es.length = L2.dp p es as es.length := by
  rw [psh_snoc, dp_step1 ((psh_len ..).trans hl) hv p, h.dp hl p]; omega
theorem psh_out {z : Int} {t : Nat} {ss : List (Int × Int)} : ∀ {as : List Int}, (∀ s ∈ ss, s.1.toNat ≠ t) → (psh as ss z).getD t 0 = as.getD t 0 := by
  induction ss with
  | nil => intro as _; rfl
  | cons s ss ih =>
    intro as h
    have e := ih (as := as.set s.1.toNat (as.getD s.1.toNat 0 + s.2 * z)) fun u hu => h u (List.mem_cons_of_mem _ hu)
    refine Eq.trans e ?_
    rw [List.getD_eq_getElem?_getD, List.getElem?_set_ne (h s List.mem_cons_self), List.getD_eq_getElem?_getD]
theorem psh_in {es : List (Int × Int)} {z : Int} {s : Int × Int} {ss : List (Int × Int)} : ∀ {as : List Int}, as.length = es.length → (∀ u ∈ ss, StV es u) → (ss.map (·.1)).Nodup → s ∈ ss → (psh as ss z).getD s.1.toNat 0 = as.getD s.1.toNat 0 + s.2 * z := by
  induction ss with
  | nil => intro as _ _ _ h; cases h
  | cons u ss ih =>
    intro as hl hv hn hs
    rw [List.map_cons, List.nodup_cons] at hn
    have hu := hv u List.mem_cons_self
    have hl2 : (as.set u.1.toNat (as.getD u.1.toNat 0 + u.2 * z)).length = es.length := (List.length_set ..).trans hl
    rcases List.mem_cons.mp hs with y | y
    · subst y
      have e := psh_out (z := z) (t := s.1.toNat) (ss := ss) (as := as.set s.1.toNat (as.getD s.1.toNat 0 + s.2 * z)) fun v hv' e => by
        have := hv v (List.mem_cons_of_mem _ hv')
        have e' : v.1 = s.1 := by have := this.1; have := hu.1; omega
        exact hn.1 (e' ▸ List.mem_map.mpr ⟨v, hv', rfl⟩)
      refine Eq.trans e ?_
      rw [getDi_set _ _ _ _ (by have := hu.1; have := hu.2.1; omega), if_pos rfl]
    · have e := ih hl2 (fun v h => hv v (List.mem_cons_of_mem _ h)) hn.2 y
      refine Eq.trans e ?_
      have hne : u.1.toNat ≠ s.1.toNat := fun e => by
        have e' : s.1 = u.1 := by have := (hv s (List.mem_cons_of_mem _ y)).1; have := hu.1; omega
        exact hn.1 (e' ▸ List.mem_map.mpr ⟨s, y, rfl⟩)
      rw [List.getD_eq_getElem?_getD, List.getElem?_set_ne hne, List.getD_eq_getElem?_getD]
def dueI (a l h : Int) : Int := if a < l then l - a else if a > h then h - a else 0
def dueN (as lo hi : List Int) (i : Nat) : Int := dueI (as.getD i 0) (lo.getD i 0) (hi.getD i 0)
def stpD (i : Nat) (d : Int) : Int × Int := ((i : Int), if d > 0 then 1 else -1)
theorem stpD_v {es : List (Int × Int)} {i : Nat} (h : i < es.length) (d : Int) : StV es (stpD i d) := by
  refine ⟨by show 0 ≤ (i : Int); omega, by show (i : Int) < _; omega, ?_⟩
  show (if d > 0 then (1 : Int) else -1) = 1 ∨ (if d > 0 then (1 : Int) else -1) = -1
  split
  · exact .inl rfl
  · exact .inr rfl
theorem dueI_next {a l h d z : Int} (hlh : l ≤ h) (e : dueI a l h = d) (hd : d ≠ 0) (z0 : 0 < z) (z1 : z ≤ (if d < 0 then -d else d)) : (dueI (a + (if d > 0 then 1 else -1) * z) l h).natAbs < d.natAbs := by
  unfold dueI at e
  by_cases c : a < l
  · rw [if_pos c] at e
    rw [if_neg (show ¬ d < 0 by omega)] at z1
    rw [if_pos (show d > 0 by omega), Int.one_mul]
    unfold dueI
    split
    · omega
    · split <;> omega
  · rw [if_neg c] at e
    by_cases c2 : a > h
    · rw [if_pos c2] at e
      rw [if_pos (show d < 0 by omega)] at z1
      rw [if_neg (show ¬ d > 0 by omega), Int.neg_mul, Int.one_mul]
      unfold dueI
      split
      · omega
      · split <;> omega
    · rw [if_neg c2] at e; exact absurd e.symm hd
structure BtI (es : List (Int × Int)) (lo hi : List Int) (i : Nat) (as : List Int) : Prop where
  len : as.length = es.length
  flow : ∀ p : Int, dp p es as es.length = 0
  past : ∀ t, t < i → lo.getD t 0 ≤ as.getD t 0 ∧ as.getD t 0 ≤ hi.getD t 0
theorem sz_pos {rm : List (Int × Int)} {d z : Int} {ss : List (Int × Int)} (hd : d ≠ 0) (hr : ∀ s ∈ ss, 0 < rmA rm s) (h : z ∈ (if d < 0 then -d else d) :: ss.map (rmA rm)) : 0 < z := by
  rcases List.mem_cons.mp h with y | y
  · rw [y]; split <;> omega
  · obtain ⟨s, h1, h2⟩ := List.mem_map.mp y
    rw [← h2]; exact hr s h1
theorem way_not {es : List (Int × Int)} {as lo hi : List Int} {i : Nat} {ss : List (Int × Int)} {ps : List Int} {q : Int} (hi' : i < es.length) (hl : as.length = es.length) (hd : dueN as lo hi i ≠ 0) (hlh : lo.getD i 0 ≤ hi.getD i 0)
    (h : WayS es (rmN as lo hi) (stE es (stpD i (dueN as lo hi i))) ss ps q) : ∀ s ∈ ss, s.1 ≠ (i : Int) := fun s hs e => by
  obtain ⟨hv, hr, hne, _⟩ := h.step s hs
  unfold rmA at hr
  rw [e, Int.toNat_natCast, rmN_at (by omega)] at hr
  unfold dueN dueI at hd hne
  unfold stE stpD at hne
  rw [e] at hne
  rcases hv.2.2 with c | c
  · rw [c, if_pos rfl] at hne
    rw [c, if_pos rfl] at hr
    split at hd
    · rename_i c1
      rw [if_pos c1] at hne
      rw [if_pos (show lo.getD i 0 - as.getD i 0 > 0 by omega)] at hne
      exact hne (by simp)
    · split at hd
      · dsimp only at hr; omega
      · exact hd rfl
  · rw [c, if_neg (by decide)] at hne hr
    split at hd
    · dsimp only at hr; omega
    · split at hd
      · rename_i c1 c2
        rw [if_neg c1, if_pos c2] at hne
        rw [if_neg (show ¬ hi.getD i 0 - as.getD i 0 > 0 by omega)] at hne
        exact hne (by simp)
      · exact hd rfl
theorem BtI.next {es : List (Int × Int)} {lo hi as : List Int} {i : Nat} {z : Int} {ss : List (Int × Int)} {ps : List Int} (I : BtI es lo hi i as) (hi' : i < es.length) (hlh : ∀ t, t < es.length → lo.getD t 0 ≤ hi.getD t 0) (hd : dueN as lo hi i ≠ 0)
    (h : WayS es (rmN as lo hi) (stE es (stpD i (dueN as lo hi i))) ss ps (stB es (stpD i (dueN as lo hi i)))) (hz : z ∈ (if dueN as lo hi i < 0 then -dueN as lo hi i else dueN as lo hi i) :: ss.map (rmA (rmN as lo hi))) (hm : ∀ y ∈ (if dueN as lo hi i < 0 then -dueN as lo hi i else dueN as lo hi i) :: ss.map (rmA (rmN as lo hi)), z ≤ y) :
    BtI es lo hi i (psh as (ss ++ [stpD i (dueN as lo hi i)]) z) ∧ (dueN (psh as (ss ++ [stpD i (dueN as lo hi i)]) z) lo hi i).natAbs < (dueN as lo hi i).natAbs := by
  have z0 : 0 < z := sz_pos hd (fun s hs => (h.step s hs).2.1) hz
  have hv := stpD_v hi' (dueN as lo hi i)
  have hno := way_not hi' I.len hd (hlh i hi') h
  have hvs : ∀ u ∈ ss, StV es u := fun u hu => (h.step u hu).1
  have ei : (psh as ss z).getD i 0 = as.getD i 0 := psh_out fun s hs e => hno s hs (by have := (hvs s hs).1; omega)
  have gi : (psh as (ss ++ [stpD i (dueN as lo hi i)]) z).getD i 0 = as.getD i 0 + (if dueN as lo hi i > 0 then 1 else -1) * z := by
    rw [psh_snoc]
    show ((psh as ss z).set ((i : Int)).toNat _).getD i 0 = _
    rw [Int.toNat_natCast, getDi_set _ _ _ _ (by rw [psh_len, I.len]; exact hi'), if_pos rfl]
    show (psh as ss z).getD ((i : Int)).toNat 0 + _ = _
    rw [Int.toNat_natCast, ei]; rfl
  refine ⟨⟨(psh_len ..).trans I.len, fun p => (h.ring hv I.len p).trans (I.flow p), fun t ht => ?_⟩, ?_⟩
  · have gt : (psh as (ss ++ [stpD i (dueN as lo hi i)]) z).getD t 0 = (psh as ss z).getD t 0 := by
      rw [psh_snoc]
      show ((psh as ss z).set ((i : Int)).toNat _).getD t 0 = _
      rw [Int.toNat_natCast, getDi_set _ _ _ _ (by rw [psh_len, I.len]; exact hi'), if_neg (by omega)]
    rw [gt]
    obtain ⟨b1, b2⟩ := I.past t ht
    by_cases hs : ∃ s ∈ ss, s.1.toNat = t
    · obtain ⟨s, hs, es'⟩ := hs
      have e := psh_in (z := z) I.len hvs h.tnd hs
      rw [es'] at e
      rw [e]
      have hr := hm (rmA (rmN as lo hi) s) (List.mem_cons_of_mem _ (List.mem_map.mpr ⟨s, hs, rfl⟩))
      unfold rmA at hr
      rw [es', rmN_at (by rw [I.len]; omega)] at hr
      rcases (hvs s hs).2.2 with c | c
      · rw [c, if_pos rfl] at hr
        rw [c, Int.one_mul]
        have hr' : z ≤ hi.getD t 0 - as.getD t 0 := hr
        omega
      · rw [c, if_neg (by decide)] at hr
        rw [c, Int.neg_mul, Int.one_mul]
        have hr' : z ≤ as.getD t 0 - lo.getD t 0 := hr
        omega
    · rw [psh_out fun s h1 h2 => hs ⟨s, h1, h2⟩]
      exact ⟨b1, b2⟩
  · show (dueI ((psh as (ss ++ [stpD i (dueN as lo hi i)]) z).getD i 0) (lo.getD i 0) (hi.getD i 0)).natAbs < _
    rw [gi]
    exact dueI_next (hlh i hi') rfl hd z0 (hm _ List.mem_cons_self)
def rst (m : Nat) (R : List Int) : List Int := ((List.range m).map fun (j : Nat) => (j : Int)).filter fun p => !decide (p ∈ R)
inductive WhR (es : List (Int × Int)) (lo hi : List Int) (m i : Nat) : List Int → Bool × List Int → Prop
  | done {as : List Int} : dueN as lo hi i = 0 → WhR es lo hi m i as (true, as)
  | shut {as : List Int} : dueN as lo hi i ≠ 0 → ¬ stB es (stpD i (dueN as lo hi i)) ∈ (wwr es (rmN as lo hi) (stE es (stpD i (dueN as lo hi i))) m).1 → WhR es lo hi m i as (false, rst m (wwr es (rmN as lo hi) (stE es (stpD i (dueN as lo hi i))) m).1)
  | next {as ws : List Int} {z : Int} {ss : List (Int × Int)} {r : Bool × List Int} : dueN as lo hi i ≠ 0 → stB es (stpD i (dueN as lo hi i)) ∈ (wwr es (rmN as lo hi) (stE es (stpD i (dueN as lo hi i))) m).1 →
      ss = (wwr es (rmN as lo hi) (stE es (stpD i (dueN as lo hi i))) m).2 (stB es (stpD i (dueN as lo hi i))) → z ∈ (if dueN as lo hi i < 0 then -dueN as lo hi i else dueN as lo hi i) :: ss.map (rmA (rmN as lo hi)) → (∀ y ∈ (if dueN as lo hi i < 0 then -dueN as lo hi i else dueN as lo hi i) :: ss.map (rmA (rmN as lo hi)), z ≤ y) →
      ws = psh as (ss ++ [stpD i (dueN as lo hi i)]) z → WhR es lo hi m i ws r → WhR es lo hi m i as r
inductive BtR (es : List (Int × Int)) (lo hi : List Int) (m : Nat) : Nat → Bool × List Int → Prop
  | nil : BtR es lo hi m 0 (true, List.replicate es.length 0)
  | next {i : Nat} {as : List Int} {r : Bool × List Int} : BtR es lo hi m i (true, as) → WhR es lo hi m i as r → BtR es lo hi m (i + 1) r
  | stop {i : Nat} {x : List Int} : BtR es lo hi m i (false, x) → BtR es lo hi m (i + 1) (false, x)
theorem BtR.shut {es : List (Int × Int)} {lo hi : List Int} {m i n : Nat} {x : List Int} (h : BtR es lo hi m i (false, x)) (hn : i ≤ n) : BtR es lo hi m n (false, x) := by
  induction n with
  | zero => obtain rfl : i = 0 := by omega
            exact h
  | succ n ih =>
    by_cases c : i = n + 1
    · exact c ▸ h
    · exact .stop (ih (by omega))
end L2
namespace L2
open PySem
def tS (fs : List Int) : Nat → Nat → Int
  | _, 0 => 0
  | t, k + 1 => ((fs.getD t 0).natAbs : Int) + tS fs (t + 1) k
theorem tS_snoc (fs : List Int) : ∀ k t, tS fs t (k + 1) = tS fs t k + ((fs.getD (t + k) 0).natAbs : Int)
  | 0, t => by show _ + 0 = 0 + _; rw [Nat.add_zero]; omega
  | k + 1, t => by
    show ((fs.getD t 0).natAbs : Int) + tS fs (t + 1) (k + 1) = (((fs.getD t 0).natAbs : Int) + tS fs (t + 1) k) + _
    rw [tS_snoc fs k (t + 1), show t + 1 + k = t + (k + 1) by omega]; omega
theorem tS_cut {m : Int} {es : List (Int × Int)} {fs : List Int} (hE : ∀ e ∈ es, 0 ≤ e.1 ∧ e.1 < m ∧ 0 ≤ e.2 ∧ e.2 < m) (hd : ∀ p : Int, dp p es fs es.length = 0) {t k : Nat} (ht : t + 1 + k = es.length) (hF : inF es t = true) : ((fs.getD t 0).natAbs : Int) ≤ tS fs (t + 1) k := by
  obtain ⟨f, F⟩ := lab_ex hE t
  have gE : ∀ j, j < es.length → es[j]? = some (es.getD j (0, 0)) := fun j hj => by rw [List.getD_eq_getElem?_getD, List.getElem?_eq_getElem hj]; rfl
  obtain ⟨b1, b2, b3, b4⟩ := hE _ (List.mem_of_getElem? (gE t (by omega)))
  have hne : ¬ f (es.getD t (0, 0)).1 = f (es.getD t (0, 0)).2 := fun z => inF_iff.mp hF ((F.iff b1 b2 b3 b4).mp z)
  have hz := ac_zero (grp_nd m.toNat f (f (es.getD t (0, 0)).1)) hd
  have hmem : ∀ z : Int, 0 ≤ z → z < m → memI (grp m.toNat f (f (es.getD t (0, 0)).1)) z = decide (f z = f (es.getD t (0, 0)).1) := fun z z0 z1 => by
    rw [Bool.eq_iff_iff, memI_iff, mem_grp, decide_eq_true_iff]
    exact ⟨fun h => h.2.2, fun h => ⟨z0, by omega, h⟩⟩
  have bef : ∀ n, n ≤ t → ac (grp m.toNat f (f (es.getD t (0, 0)).1)) es fs n = 0 := by
    intro n
    induction n with
    | zero => intro _; rfl
    | succ n ih =>
      intro hn
      show ac _ es fs n + _ - _ = _
      obtain ⟨d1, d2, d3, d4⟩ := hE _ (List.mem_of_getElem? (gE n (by omega)))
      have es1 : f (es.getD n (0, 0)).1 = f (es.getD n (0, 0)).2 := F.same _ (List.mem_take_iff_getElem.mpr ⟨n, by omega, by rw [List.getD_eq_getElem?_getD, List.getElem?_eq_getElem (show n < es.length by omega)]; rfl⟩)
      rw [ih (by omega), hmem _ d1 d2, hmem _ d3 d4, es1]
      cases decide (f (es.getD n (0, 0)).2 = f (es.getD t (0, 0)).1) <;> simp
  have aft : ∀ j, j ≤ k → fs.getD t 0 - tS fs (t + 1) j ≤ ac (grp m.toNat f (f (es.getD t (0, 0)).1)) es fs (t + 1 + j) ∧ ac (grp m.toNat f (f (es.getD t (0, 0)).1)) es fs (t + 1 + j) ≤ fs.getD t 0 + tS fs (t + 1) j := by
    intro j
    induction j with
    | zero =>
      intro _
      have e : ac (grp m.toNat f (f (es.getD t (0, 0)).1)) es fs (t + 1) = fs.getD t 0 := by
        show ac _ es fs t + _ - _ = _
        rw [bef t (Nat.le_refl _), hmem _ b1 b2, hmem _ b3 b4, decide_eq_true rfl, decide_eq_false (fun z => hne z.symm)]
        simp only [Bool.not_false, Bool.not_true, Bool.and_true, Bool.and_false, Bool.false_eq_true, if_true, if_false, reduceIte]
        omega
      rw [Nat.add_zero, e]
      show _ - 0 ≤ _ ∧ _ ≤ _ + 0
      omega
    | succ j ih =>
      intro hj
      obtain ⟨i1, i2⟩ := ih (by omega)
      rw [tS_snoc]
      have e0 : ∀ G : List Int, ac G es fs (t + 1 + (j + 1)) = ac G es fs (t + 1 + j) + (if (memI G (es.getD (t + 1 + j) (0, 0)).1 && !memI G (es.getD (t + 1 + j) (0, 0)).2) = true then fs.getD (t + 1 + j) 0 else 0) - (if (memI G (es.getD (t + 1 + j) (0, 0)).2 && !memI G (es.getD (t + 1 + j) (0, 0)).1) = true then fs.getD (t + 1 + j) 0 else 0) := fun _ => rfl
      rw [e0]
      have hb : -((fs.getD (t + 1 + j) 0).natAbs : Int) ≤ fs.getD (t + 1 + j) 0 ∧ fs.getD (t + 1 + j) 0 ≤ ((fs.getD (t + 1 + j) 0).natAbs : Int) := by omega
      generalize memI (grp m.toNat f (f (es.getD t (0, 0)).1)) (es.getD (t + 1 + j) (0, 0)).1 = x
      generalize memI (grp m.toNat f (f (es.getD t (0, 0)).1)) (es.getD (t + 1 + j) (0, 0)).2 = y
      cases x <;> cases y <;> simp only [Bool.not_false, Bool.not_true, Bool.and_true, Bool.and_false, Bool.true_and, Bool.false_and, Bool.false_eq_true, if_true, if_false, reduceIte] <;> omega
  have := aft k (Nat.le_refl _)
  rw [ht, hz] at this
  omega
theorem tS_bound {m B : Int} {es : List (Int × Int)} {fs : List Int} (hE : ∀ e ∈ es, 0 ≤ e.1 ∧ e.1 < m ∧ 0 ≤ e.2 ∧ e.2 < m) (hd : ∀ p : Int, dp p es fs es.length = 0) (hB : 0 ≤ B) (h0 : ∀ t, t < es.length → ¬ inF es t = true → ((fs.getD t 0).natAbs : Int) ≤ B) : ∀ k t, t + k = es.length → tS fs t k ≤ 2 ^ k * B - B
  | 0, t, _ => by show 0 ≤ 1 * B - B; omega
  | k + 1, t, ht => by
    have ih := tS_bound hE hd hB h0 k (t + 1) (by omega)
    show ((fs.getD t 0).natAbs : Int) + tS fs (t + 1) k ≤ 2 ^ (k + 1) * B - B
    rw [Int.pow_succ, Int.mul_comm (2 ^ k) 2, Int.mul_assoc]
    have hp : B ≤ 2 ^ k * B := by
      have h1 : (1 : Int) ≤ 2 ^ k := Int.pow_pos (by decide)
      have := Int.mul_le_mul_of_nonneg_right h1 hB
      omega
    generalize (2 : Int) ^ k * B = X at ih hp
    by_cases hF : inF es t = true
    · have := tS_cut hE hd (t := t) (k := k) (by omega) hF
      omega
    · have := h0 t (by omega) hF
      omega
theorem tS_one (fs : List Int) : ∀ k t j, t ≤ j → j < t + k → ((fs.getD j 0).natAbs : Int) ≤ tS fs t k
  | 0, t, j, h1, h2 => by omega
  | k + 1, t, j, h1, h2 => by
    have hn : ∀ k t, 0 ≤ tS fs t k := fun k => by
      induction k with
      | zero => intro t; exact Int.le_refl 0
      | succ k ih => intro t; show 0 ≤ _ + tS fs (t + 1) k; have := ih (t + 1); omega
    show _ ≤ ((fs.getD t 0).natAbs : Int) + tS fs (t + 1) k
    by_cases c : t = j
    · subst c; have := hn k (t + 1); omega
    · have := tS_one fs k (t + 1) j (by omega) (by omega); omega
theorem flow_bound {m B : Int} {es : List (Int × Int)} {fs : List Int} (hE : ∀ e ∈ es, 0 ≤ e.1 ∧ e.1 < m ∧ 0 ≤ e.2 ∧ e.2 < m) (hd : ∀ p : Int, dp p es fs es.length = 0) (hB : 0 ≤ B) (hz : es.length ≤ 40) (h0 : ∀ t, t < es.length → ¬ inF es t = true → ((fs.getD t 0).natAbs : Int) ≤ B) : ∀ t, t < es.length → ((fs.getD t 0).natAbs : Int) ≤ 2 ^ 40 * B := fun t ht => by
  have h1 := tS_one fs es.length 0 t (Nat.zero_le _) (by omega)
  have h2 := tS_bound hE hd hB h0 es.length 0 (Nat.zero_add _)
  have h3 : (2 : Int) ^ es.length ≤ 2 ^ 40 := by exact_mod_cast Nat.pow_le_pow_right (n := 2) (by decide) hz
  have h4 := Int.mul_le_mul_of_nonneg_right h3 hB
  omega
def lwK (fs : List Int) (k : Int) : List Int := fs.map (· / k)
def hgK (fs : List Int) (k : Int) : List Int := fs.map fun a => -(-a / k)
def rdK (fs as : List Int) (k : Int) : List Int := List.zipWith (· + ·) fs (as.map (-k * ·))
structure RdF (es : List (Int × Int)) (rs : List Int) (k : Int) (gs : List Int) : Prop where
  len : gs.length = es.length
  flow : ∀ p : Int, dp p es gs es.length = 0
  zero : ∀ t, t < es.length → rs.getD t 0 = 0 → gs.getD t 0 = 0
  pos : ∀ t, t < es.length → rs.getD t 0 ≠ 0 → gs.getD t 0 = rs.getD t 0 ∨ gs.getD t 0 = rs.getD t 0 - k
def RdR (m : Int) (es : List (Int × Int)) (fs : List Int) (k : Int) (gs : List Int) : Prop := ∃ as, BtR es (lwK fs k) (hgK fs k) m.toNat es.length (true, as) ∧ gs = rdK fs as k
theorem FW.bound {m B : Int} {es : List (Int × Int)} {vs fs : List Int} (hE : ∀ e ∈ es, 0 ≤ e.1 ∧ e.1 < m ∧ 0 ≤ e.2 ∧ e.2 < m) (h : FW es vs fs) (hl : vs.length = (fre es).length) (hB : 0 ≤ B) (hz : es.length ≤ 40) (hv : ∀ v ∈ vs, (v.natAbs : Int) ≤ B) : ∀ t, t < es.length → ((fs.getD t 0).natAbs : Int) ≤ 2 ^ 40 * B :=
  flow_bound hE h.2.1 hB hz fun t ht hn => by
    obtain ⟨j, hj, e⟩ := fre_at ht hn
    have e1 := h.2.2 j hj
    rw [e, Int.toNat_natCast] at e1
    rw [e1, gD_at (by omega)]
    exact hv _ (List.getElem_mem _)
def LtR (m : Int) (es : List (Int × Int)) (rs : List Int) (k : Int) (gs : List Int) : Prop := ∃ fs, FW es (frv es rs) fs ∧ RdR m es fs k gs
end L2
namespace L2
open PySem PySem.Spec PyProof.Rows
section
variable {X : Cx}
def rIns : V → List V → Hp → VK → Prop := fun x vs H Q => ∃ (l : Addr) (xs : List V) (i : Int) (y : V), x = .ref l ∧ vs = [.int i, y] ∧ H l = some (.lst xs) ∧ 0 ≤ i ∧ i ≤ xs.length ∧ xs.length < 1000 ∧ Q .non (upd H l (.lst (xs.take i.toNat ++ y :: xs.drop i.toNat)))
theorem vals_take {xs : List V} {us : List Value} (r : Vals xs us) : ∀ j, Vals (xs.take j) (us.take j) := by
  induction r with
  | nil => intro j; rw [List.take_nil, List.take_nil]; exact .nil
  | cons h t ih =>
    intro j
    cases j with
    | zero => exact .nil
    | succ j => exact .cons h (ih j)
theorem vals_drop {xs : List V} {us : List Value} (r : Vals xs us) : ∀ j, Vals (xs.drop j) (us.drop j) := by
  induction r with
  | nil => intro j; rw [List.drop_nil, List.drop_nil]; exact .nil
  | cons h t ih =>
    intro j
    cases j with
    | zero => exact .cons h t
    | succ j => exact ih j
theorem mt_insI : MtM X "list.insert" rIns := by
  intro pins s σ H x vs v us Q I rx rv h
  obtain ⟨l, xs, i, y, rfl, rfl, hH, i0, i1, hz, q⟩ := h
  cases rx
  obtain ⟨u, u', rfl, ⟨t, rfl⟩, ry⟩ := vals2 rv
  obtain ⟨z, its, n, r, hl, e⟩ := I.lstM hH
  have hlen := r.length
  have big : (1000 : Nat) ≤ sizeLine := by decide
  have fit : ¬ (!Builtin.List.listFitsIndex i) = true := by
    have : Builtin.List.listFitsIndex i = true := by unfold Builtin.List.listFitsIndex; simp; omega
    rw [this]; decide
  refine call_meets F.slot_list_insert ⟨_, e, rfl⟩ F.entry_list_insert (F.args_list_insert_3 _ _ _) (AutoSeq1.list_insert_list_int_val_1 l its.toArray n i t u' fit (by rw [List.size_toArray]; omega)) ⟨e, ?_⟩
  refine ⟨.non, _, I.lset (its' := its.take i.toNat ++ u' :: its.drop i.toNat) hH e ?_ ((vals_take r i.toNat).append (.cons ry (vals_drop r i.toNat))) ?_, rfl, q⟩
  · dsimp only
    rw [if_neg (by omega), List.size_toArray, Nat.min_eq_left (by omega)]
    apply Array.ext'
    simp
    exact List.take_of_length_le (by rw [List.length_drop]; exact Nat.le_refl _)
  · rw [List.length_append, List.length_cons, List.length_take, List.length_drop]
    omega
end
end L2
namespace L2
open PySem PySem.Spec PyProof.Rows
section
variable {prog : Program} {w : World} {A : Around} {E : Value → Shared → Prop} {s : Shared}
end
section
variable {X : Cx}
end
end L2
namespace L2
open PySem
def mkS (n : Nat) (ss : List Int) : List Int := (List.range n).map fun (i : Nat) => if (i : Int) ∈ ss then 1 else 0
theorem mkS_len (n : Nat) (ss : List Int) : (mkS n ss).length = n := by unfold mkS; rw [List.length_map, List.length_range]
theorem mkS_get {n i : Nat} {ss : List Int} (h : i < n) : (mkS n ss)[i]? = some (if (i : Int) ∈ ss then 1 else 0) := by
  unfold mkS; rw [List.getElem?_map, List.getElem?_range h]; rfl
theorem mkS_at {n i : Nat} {ss : List Int} (h : i < n) : (mkS n ss).getD i 0 = if (i : Int) ∈ ss then 1 else 0 := by
  rw [List.getD_eq_getElem?_getD, mkS_get h]; rfl
structure SetOk (n : Nat) (ss : List Int) : Prop where
  rng : ∀ t ∈ ss, 0 ≤ t ∧ t < (n : Int)
  up : ss.Pairwise (· < ·)
theorem SetOk.nd {n : Nat} {ss : List Int} (h : SetOk n ss) : ss.Nodup := by
  rw [List.nodup_iff_pairwise_ne]
  exact h.up.imp fun h e => by omega
theorem SetOk.len {n : Nat} {ss : List Int} (h : SetOk n ss) : ss.length ≤ n := by
  have := nodup_len (m := (n : Int)) h.nd h.rng
  omega
theorem dp_cong {k p : Int} {es : List (Int × Int)} {fs gs : List Int} : ∀ n, (∀ t, t < n → k ∣ fs.getD t 0 - gs.getD t 0) → k ∣ dp p es fs n - dp p es gs n
  | 0, _ => ⟨0, by rw [Int.mul_zero]; rfl⟩
  | n + 1, h => by
    obtain ⟨u, hu⟩ := dp_cong (p := p) (es := es) n fun t ht => h t (by omega)
    obtain ⟨v, hv⟩ := h n (by omega)
    show k ∣ (dp p es fs n + _ - _) - (dp p es gs n + _ - _)
    by_cases c1 : (es.getD n (0, 0)).2 = p <;> by_cases c2 : (es.getD n (0, 0)).1 = p
    · exact ⟨u, by rw [if_pos c1, if_pos c1, if_pos c2, if_pos c2]; omega⟩
    · exact ⟨u + v, by rw [if_pos c1, if_pos c1, if_neg c2, if_neg c2, Int.mul_add]; omega⟩
    · exact ⟨u - v, by rw [if_neg c1, if_neg c1, if_pos c2, if_pos c2, Int.mul_sub]; omega⟩
    · exact ⟨u, by rw [if_neg c1, if_neg c1, if_neg c2, if_neg c2]; omega⟩
def EvS (es : List (Int × Int)) (ss : List Int) : Prop := ∀ p : Int, 2 ∣ dp p es (mkS es.length ss) es.length
theorem EvS.parted {es : List (Int × Int)} {a b c : List Int} (ha : EvS es a) (hb : EvS es b) (hc : ∀ t : Int, t ∈ c ↔ (t ∈ a ∧ ¬ t ∈ b) ∨ (t ∈ b ∧ ¬ t ∈ a)) : EvS es c := fun p => by
  have hl : (mkS es.length a).length = (mkS es.length b).length := by rw [mkS_len, mkS_len]
  obtain ⟨u, hu⟩ := dp_cong (k := 2) (p := p) (es := es) (fs := mkS es.length c) (gs := List.zipWith (· + ·) (mkS es.length a) (mkS es.length b)) es.length fun t ht => by
    rw [getD_zip _ _ hl, mkS_at ht, mkS_at ht, mkS_at ht]
    by_cases h1 : (t : Int) ∈ a <;> by_cases h2 : (t : Int) ∈ b
    · rw [if_pos h1, if_pos h2, if_neg (fun z => ((hc _).mp z).elim (fun y => y.2 h2) fun y => y.2 h1)]; exact ⟨-1, rfl⟩
    · rw [if_pos h1, if_neg h2, if_pos ((hc _).mpr (.inl ⟨h1, h2⟩))]; exact ⟨0, rfl⟩
    · rw [if_neg h1, if_pos h2, if_pos ((hc _).mpr (.inr ⟨h2, h1⟩))]; exact ⟨0, rfl⟩
    · rw [if_neg h1, if_neg h2, if_neg (fun z => ((hc _).mp z).elim (fun y => h1 y.1) fun y => h2 y.1)]; exact ⟨0, rfl⟩
  rw [dp_zip p es _ _ hl] at hu
  obtain ⟨v, hv⟩ := ha p
  obtain ⟨w, hw⟩ := hb p
  exact ⟨u + v + w, by omega⟩
theorem EvS.nil (es : List (Int × Int)) : EvS es [] := fun p => by
  have e : mkS es.length [] = List.replicate es.length 0 := by
    refine List.ext_getElem (by rw [mkS_len, List.length_replicate]) fun i h1 h2 => ?_
    rw [List.getElem_replicate, ← gD_at h1, mkS_at (by rw [mkS_len] at h1; exact h1), if_neg (fun z => nomatch z)]
  rw [e, dp_nil]
  exact ⟨0, rfl⟩
theorem up_le {a : List Int} (h : a.Pairwise (· ≤ ·)) (n : a.Nodup) : a.Pairwise (· < ·) := by
  rw [List.nodup_iff_pairwise_ne] at n
  exact (h.and n).imp fun h => by omega
end L2
namespace L2
open PySem PySem.Spec PyProof.Rows
section
variable {prog : Program} {w : World} {A : Around} {E : Value → Shared → Prop} {s : Shared}
end
section
variable {X : Cx} {pos p2 : Pos} {o : Expr} {lo hi : Option Expr} {to : TE} {tl th : TO}
end
end L2
namespace L2
open PySem
def LlS (H : Hp) : List V → List (List Int) → Prop := Paired fun v ns => ∃ r, v = .ref r ∧ H r = some (.lst (ns.map V.int))
theorem LlS.same {H H' : Hp} (S : Same H H') {xs : List V} {ls : List (List Int)} (h : LlS H xs ls) : LlS H' xs ls := Paired.mapP h fun _ _ ⟨r, e, q⟩ => ⟨r, e, S _ _ q⟩
theorem LlS.len {H : Hp} {xs : List V} {ls : List (List Int)} (h : LlS H xs ls) : xs.length = ls.length := Paired.length h
theorem LlS.at : ∀ {H : Hp} {xs : List V} {ls : List (List Int)} {i : Nat}, LlS H xs ls → i < xs.length → ∃ r ns, xs.getD i .non = .ref r ∧ H r = some (.lst (ns.map V.int)) ∧ ls[i]? = some ns
  | _, _, _, i, .nil, h => absurd h (Nat.not_lt_zero _)
  | _, _, _, 0, .cons ⟨r, e, q⟩ _, _ => ⟨r, _, e, q, rfl⟩
  | _, _, _, i + 1, .cons _ t, h => LlS.at (i := i) t (Nat.lt_of_succ_lt_succ h)
theorem LlS.append : ∀ {H : Hp} {xs ys : List V} {ls ms : List (List Int)}, LlS H xs ls → LlS H ys ms → LlS H (xs ++ ys) (ls ++ ms)
  | _, _, _, _, _, .nil, h => h
  | _, _, _, _, _, .cons a t, h => .cons a (LlS.append t h)
theorem gdl {l : List (List Int)} {g : List Int} {j : Nat} (h : j < l.length) : (l ++ [g]).getD j [] = l.getD j [] := by
  rw [List.getD_eq_getElem?_getD, List.getD_eq_getElem?_getD, List.getElem?_append_left h]
theorem gdr {l : List (List Int)} {g : List Int} : (l ++ [g]).getD l.length [] = g := by
  rw [List.getD_eq_getElem?_getD, List.getElem?_append_right (Nat.le_refl _), Nat.sub_self]; rfl
def lay (n : Nat) (fss : List (List Int)) : Nat → List Int
  | 0 => List.replicate n 0
  | k + 1 => List.zipWith (· + ·) (lay n fss k) ((fss.getD k []).map ((2 ^ k : Int) * ·))
theorem lay_len {n : Nat} {fss : List (List Int)} : ∀ {k : Nat}, (∀ j, j < k → (fss.getD j []).length = n) → (lay n fss k).length = n
  | 0, _ => List.length_replicate ..
  | k + 1, h => by
    show (List.zipWith _ _ _).length = n
    rw [List.length_zipWith, List.length_map, lay_len fun j hj => h j (by omega), h k (by omega)]
    exact Nat.min_self _
theorem lay_at {n t : Nat} {fss : List (List Int)} {k : Nat} (h : ∀ j, j < k + 1 → (fss.getD j []).length = n) (ht : t < n) : (lay n fss (k + 1)).getD t 0 = (lay n fss k).getD t 0 + 2 ^ k * (fss.getD k []).getD t 0 := by
  have h1 := lay_len (n := n) (fss := fss) (k := k) fun j hj => h j (by omega)
  have h2 := h k (by omega)
  show (List.zipWith _ _ _).getD t 0 = _
  rw [List.getD_eq_getElem?_getD, List.getElem?_zipWith, List.getElem?_map, List.getElem?_eq_getElem (h1.symm ▸ ht), List.getElem?_eq_getElem (h2.symm ▸ ht), gD_at (h1.symm ▸ ht), gD_at (h2.symm ▸ ht)]
  rfl
structure LayF (m : Int) (es : List (Int × Int)) (sets fss : List (List Int)) (k : Nat) : Prop where
  rd : ∀ j, j < k → RdF es (mkS es.length (sets.getD j [])) 2 (fss.getD j [])
  lt : ∀ j, j < k → LtR m es (mkS es.length (sets.getD j [])) 2 (fss.getD j [])
theorem LayF.lens {m : Int} {es : List (Int × Int)} {sets fss : List (List Int)} {k : Nat} (L : LayF m es sets fss k) : ∀ j, j < k → (fss.getD j []).length = es.length := fun j hj => (L.rd j hj).len
theorem LayF.pre {m : Int} {es : List (Int × Int)} {sets fss : List (List Int)} {k : Nat} (L : LayF m es sets fss (k + 1)) : LayF m es sets fss k := ⟨fun j hj => L.rd j (by omega), fun j hj => L.lt j (by omega)⟩
theorem LayF.len {m : Int} {es : List (Int × Int)} {sets fss : List (List Int)} {k : Nat} (L : LayF m es sets fss k) : (lay es.length fss k).length = es.length := lay_len L.lens
theorem LayF.snoc {m : Int} {es : List (Int × Int)} {sets fss : List (List Int)} {ss gs : List Int} (L : LayF m es sets fss fss.length) (hs : sets[fss.length]? = some ss) (R : RdF es (mkS es.length ss) 2 gs) (D : LtR m es (mkS es.length ss) 2 gs) : LayF m es sets (fss ++ [gs]) (fss.length + 1) := by
  have e1 : sets.getD fss.length [] = ss := by rw [List.getD_eq_getElem?_getD, hs]; rfl
  have e2 : (fss ++ [gs]).getD fss.length [] = gs := gdr
  constructor <;> intro j hj <;> (by_cases c : j = fss.length)
  · rw [c, e1, e2]; exact R
  · rw [gdl (by omega)]; exact L.rd j (by omega)
  · rw [c, e1, e2]; exact D
  · rw [gdl (by omega)]; exact L.lt j (by omega)
theorem LayF.flow {m : Int} {es : List (Int × Int)} {sets fss : List (List Int)} : ∀ {k : Nat}, LayF m es sets fss k → ∀ p : Int, dp p es (lay es.length fss k) es.length = 0
  | 0, _, p => dp_nil ..
  | k + 1, L, p => by
    show dp p es (List.zipWith _ _ _) _ = 0
    rw [dp_zip p es _ _ (by rw [L.pre.len, List.length_map, L.lens k (by omega)]), dp_map, L.pre.flow p, (L.rd k (by omega)).flow p]
    simp
theorem LayF.one {m : Int} {es : List (Int × Int)} {sets fss : List (List Int)} {k j t : Nat} (L : LayF m es sets fss k) (hj : j < k) (ht : t < es.length) : ((t : Int) ∈ sets.getD j [] → (fss.getD j []).getD t 0 = 1 ∨ (fss.getD j []).getD t 0 = -1) ∧ (¬ (t : Int) ∈ sets.getD j [] → (fss.getD j []).getD t 0 = 0) := by
  have hm := mkS_at (ss := sets.getD j []) ht
  constructor <;> intro c
  · rw [if_pos c] at hm
    rcases (L.rd j hj).pos t ht (by rw [hm]; decide) with z | z
    · rw [hm] at z; exact .inl z
    · rw [hm] at z; exact .inr z
  · rw [if_neg c] at hm
    exact (L.rd j hj).zero t ht hm
theorem pow2_pos (k : Nat) : (0 : Int) < 2 ^ k := Int.pow_pos (by decide)
theorem LayF.bound {m : Int} {es : List (Int × Int)} {sets fss : List (List Int)} {t : Nat} (ht : t < es.length) : ∀ {k : Nat}, LayF m es sets fss k → -(2 ^ k : Int) < (lay es.length fss k).getD t 0 ∧ (lay es.length fss k).getD t 0 < 2 ^ k
  | 0, _ => by
    have : (lay es.length fss 0).getD t 0 = 0 := by
      show (List.replicate es.length (0 : Int)).getD t 0 = 0
      rw [gD_at (by rw [List.length_replicate]; exact ht), List.getElem_replicate]
    rw [this]; decide
  | k + 1, L => by
    have ih := LayF.bound ht L.pre
    have hp := pow2_pos k
    have h2 : (2 : Int) ^ (k + 1) = 2 ^ k * 2 := Int.pow_succ ..
    rw [lay_at L.lens ht, h2]
    by_cases c : (t : Int) ∈ sets.getD k []
    · rcases (L.one (Nat.lt_succ_self k) ht).1 c with z | z <;> rw [z] <;> omega
    · rw [(L.one (Nat.lt_succ_self k) ht).2 c]; omega
theorem LayF.nz {m : Int} {es : List (Int × Int)} {sets fss : List (List Int)} {t : Nat} (ht : t < es.length) : ∀ {k : Nat}, LayF m es sets fss k → ∀ {j : Nat}, j < k → (t : Int) ∈ sets.getD j [] → (lay es.length fss k).getD t 0 ≠ 0
  | k + 1, L, j, hj, hm => by
    have ib := L.pre.bound ht
    have hp := pow2_pos k
    rw [lay_at L.lens ht]
    by_cases c : (t : Int) ∈ sets.getD k []
    · rcases (L.one (Nat.lt_succ_self k) ht).1 c with z | z <;> rw [z] <;> omega
    · rw [(L.one (Nat.lt_succ_self k) ht).2 c, Int.mul_zero, Int.add_zero]
      by_cases y : j = k
      · rw [y] at hm; exact absurd hm c
      · exact LayF.nz ht L.pre (by omega) hm
end L2
namespace L2
open PySem PySem.Spec PyProof.Rows
section
variable {X : Cx} {K : PySem.W.Frag} {a : Expr} {ta : TE} {pos : Pos}
end
theorem asc_nd {l : List Int} (h : l.Pairwise (· < ·)) : l.Nodup := by
  rw [List.nodup_iff_pairwise_ne]
  exact h.imp fun h e => by omega
theorem rts_asc (n : Nat) (f : Int → Int) : (rts n f).Pairwise (· < ·) := by
  unfold rts
  rw [List.pairwise_map]
  exact (List.Pairwise.filter _ List.pairwise_lt_range).imp fun h => by omega
theorem rts_mrg {m : Int} {es : List (Int × Int)} {f : Int → Int} {e : Int × Int} (F : Lab m es f) (b : 0 ≤ e.1 ∧ e.1 < m ∧ 0 ≤ e.2 ∧ e.2 < m) (h : f e.1 ≠ f e.2) : (rts m.toNat (mrg f e)).length + 1 = (rts m.toNat f).length := by
  have l1 := F.low e.1 b.1 b.2.1
  have l2 := F.low e.2 b.2.2.1 b.2.2.2
  have i1 := F.idem b.1 b.2.1
  have i2 := F.idem b.2.2.1 b.2.2.2
  obtain ⟨M, eM⟩ : ∃ M, M = max (f e.1) (f e.2) := ⟨_, rfl⟩
  have fM : f M = M := by
    rw [eM]
    by_cases g : f e.1 ≤ f e.2
    · rw [Int.max_eq_right g]; exact i2
    · rw [Int.max_eq_left (by omega)]; exact i1
  have hM : M ∈ rts m.toNat f := mem_rts.mpr ⟨by omega, by omega, fM⟩
  have e1 : rts m.toNat (mrg f e) = (rts m.toNat f).filter (· != M) := by
    unfold rts
    rw [List.filter_map, List.filter_filter]
    congr 1
    refine List.filter_congr fun p hp => ?_
    rw [List.mem_range] at hp
    have lp := F.low p (by omega) (by omega)
    rw [Bool.eq_iff_iff]
    simp only [Function.comp, Bool.and_eq_true, decide_eq_true_eq, bne_iff_ne, ne_eq]
    unfold mrg
    rw [← eM]
    by_cases c : f (p : Int) = M
    · rw [if_pos c]
      constructor
      · intro z; omega
      · rintro ⟨z1, z2⟩
        exact absurd (z2.symm.trans c) z1
    · rw [if_neg c]
      exact ⟨fun z => ⟨fun y => c (by rw [y]; exact fM), z⟩, fun z => z.2⟩
  have nd := asc_nd (rts_asc m.toNat f)
  rw [e1, ← nd.erase_eq_filter, List.length_erase_of_mem hM]
  have := List.length_pos_of_mem hM
  omega
theorem rts_id (n : Nat) : (rts n fun p => p).length = n := by
  unfold rts
  rw [List.filter_eq_self.mpr fun a _ => by simp, List.length_map, List.length_range]
theorem rank_lab {m : Int} {es : List (Int × Int)} (hE : ∀ e ∈ es, 0 ≤ e.1 ∧ e.1 < m ∧ 0 ≤ e.2 ∧ e.2 < m) : ∀ n, n ≤ es.length → ∃ f, Lab m (es.take n) f ∧ (rts m.toNat f).length + (frN es n).length = m.toNat
  | 0, _ => ⟨fun p => p, by rw [List.take_zero]; exact Lab.nil m, by rw [rts_id]; rfl⟩
  | n + 1, hn => by
    obtain ⟨f, F, hf⟩ := rank_lab hE n (by omega)
    have hg : es[n]? = some (es.getD n (0, 0)) := by rw [List.getD_eq_getElem?_getD, List.getElem?_eq_getElem (show n < es.length by omega)]; rfl
    have b := hE _ (List.mem_of_getElem? hg)
    rw [List.take_add_one, hg, frN_succ]
    by_cases c : inF es n = true
    · have h := inF_iff.mp c
      have hne : f (es.getD n (0, 0)).1 ≠ f (es.getD n (0, 0)).2 := fun z => h ((F.iff b.1 b.2.1 b.2.2.1 b.2.2.2).mp z)
      refine ⟨mrg f (es.getD n (0, 0)), F.merge b, ?_⟩
      have := rts_mrg F b hne
      rw [if_pos c, List.length_append, List.length_singleton]
      omega
    · have h : Cn (es.take n) (es.getD n (0, 0)).1 (es.getD n (0, 0)).2 := Classical.byContradiction fun z => c (inF_iff.mpr z)
      refine ⟨f, F.skip ((F.iff b.1 b.2.1 b.2.2.1 b.2.2.2).mpr h), ?_⟩
      rw [if_neg c, List.append_nil]
      exact hf
theorem lab_of {m : Int} {es : List (Int × Int)} (hE : ∀ e ∈ es, 0 ≤ e.1 ∧ e.1 < m ∧ 0 ≤ e.2 ∧ e.2 < m) : ∃ f, Lab m es f := by
  obtain ⟨f, F, _⟩ := rank_lab hE es.length (Nat.le_refl _)
  rw [List.take_length] at F
  exact ⟨f, F⟩
theorem rank {m : Int} {es : List (Int × Int)} {f : Int → Int} (hE : ∀ e ∈ es, 0 ≤ e.1 ∧ e.1 < m ∧ 0 ≤ e.2 ∧ e.2 < m) (F : Lab m es f) : (rts m.toNat f).length + (frst es).length = m.toNat := by
  obtain ⟨g, G, hg⟩ := rank_lab hE es.length (Nat.le_refl _)
  rw [List.take_length] at G
  rw [rts_congr (g := g) fun p p0 p1 => F.uniq G p0 (by omega)]
  exact hg
theorem lab_fine {m : Int} {es es' : List (Int × Int)} {f f' : Int → Int} (hs : ∀ {a b : Int}, Cn es' a b → Cn es a b) (F : Lab m es f) (F' : Lab m es' f') (h : (rts m.toNat f').length ≤ (rts m.toNat f).length) : ∀ p : Int, 0 ≤ p → p < m → f' p = f p := by
  have s1 : ∀ r ∈ rts m.toNat f, r ∈ rts m.toNat f' := fun r hr => by
    obtain ⟨r0, r1, r2⟩ := mem_rts.mp hr
    have l' := F'.low r r0 (by omega)
    have e := lab_cn F.same (hs (F'.conn r r0 (by omega)))
    have l := F.low (f' r) l'.1 (by omega)
    exact mem_rts.mpr ⟨r0, r1, by omega⟩
  have s2 : ∀ r ∈ rts m.toNat f', r ∈ rts m.toNat f := fun r hr => Classical.byContradiction fun hn => by
    have := nodup_sub (l := r :: rts m.toNat f) (l' := rts m.toNat f') (List.nodup_cons.mpr ⟨hn, asc_nd (rts_asc _ _)⟩) fun a ha => (List.mem_cons.mp ha).elim (fun y => y ▸ hr) (s1 a)
    rw [List.length_cons] at this
    omega
  intro p p0 p1
  have l := F'.low p p0 p1
  have hr := s2 (f' p) (mem_rts.mpr ⟨l.1, by omega, F'.idem p0 p1⟩)
  have e := lab_cn F.same (hs (F'.conn p p0 p1))
  rw [e, (mem_rts.mp hr).2.2]
theorem sub_mem {es : List (Int × Int)} {ss : List Int} (hr : ∀ t ∈ ss, 0 ≤ t ∧ t < (es.length : Int)) : ∀ e ∈ sub es ss, e ∈ es := fun e he => by
  obtain ⟨t, ht, rfl⟩ := List.mem_map.mp he
  have := hr t ht
  unfold tieOf
  rw [List.getD_eq_getElem?_getD, List.getElem?_eq_getElem (show t.toNat < es.length by omega)]
  exact List.getElem_mem _
theorem sub_len (es : List (Int × Int)) (ss : List Int) : (sub es ss).length = ss.length := List.length_map ..
theorem rank_eq {m : Int} {es es' : List (Int × Int)} (hE : ∀ e ∈ es, 0 ≤ e.1 ∧ e.1 < m ∧ 0 ≤ e.2 ∧ e.2 < m) (hE' : ∀ e ∈ es', 0 ≤ e.1 ∧ e.1 < m ∧ 0 ≤ e.2 ∧ e.2 < m) (h1 : ∀ {a b : Int}, Cn es' a b → Cn es a b) (h2 : ∀ {a b : Int}, Cn es a b → Cn es' a b) : (frst es').length = (frst es).length := by
  obtain ⟨f, F⟩ := lab_of hE
  have F' : Lab m es' f := ⟨fun p p0 p1 => h2 (F.conn p p0 p1), fun e he => lab_cn F.same (h1 (Cn.tie he)), F.low⟩
  have r1 := rank hE F
  have r2 := rank hE' F'
  omega
structure Spn (es : List (Int × Int)) (ss : List Int) : Prop where
  ok : SetOk es.length ss
  acy : (frst (sub es ss)).length = ss.length
  all : ss.length = (frst es).length
theorem ends_sub {m : Int} {es : List (Int × Int)} {ss : List Int} (hE : ∀ e ∈ es, 0 ≤ e.1 ∧ e.1 < m ∧ 0 ≤ e.2 ∧ e.2 < m) (hr : ∀ t ∈ ss, 0 ≤ t ∧ t < (es.length : Int)) : ∀ e ∈ sub es ss, 0 ≤ e.1 ∧ e.1 < m ∧ 0 ≤ e.2 ∧ e.2 < m := fun e he => hE e (sub_mem hr e he)
theorem lab_sub {m : Int} {es : List (Int × Int)} {ss : List Int} {f f' : Int → Int} (hE : ∀ e ∈ es, 0 ≤ e.1 ∧ e.1 < m ∧ 0 ≤ e.2 ∧ e.2 < m) (hr : ∀ t ∈ ss, 0 ≤ t ∧ t < (es.length : Int)) (F : Lab m es f) (F' : Lab m (sub es ss) f') (h : (frst (sub es ss)).length = (frst es).length) : ∀ p : Int, 0 ≤ p → p < m → f' p = f p := by
  have r1 := rank hE F
  have r2 := rank (ends_sub hE hr) F'
  exact lab_fine (fun c => c.mono (sub_mem hr)) F F' (by omega)
theorem Spn.cn {m : Int} {es : List (Int × Int)} {ss : List Int} (S : Spn es ss) (hE : ∀ e ∈ es, 0 ≤ e.1 ∧ e.1 < m ∧ 0 ≤ e.2 ∧ e.2 < m) {a b : Int} (h : Cn es a b) (a0 : 0 ≤ a) (a1 : a < m) (b0 : 0 ≤ b) (b1 : b < m) : Cn (sub es ss) a b := by
  obtain ⟨f, F⟩ := lab_of hE
  obtain ⟨f', F'⟩ := lab_of (ends_sub hE S.ok.rng)
  have e := lab_sub hE S.ok.rng F F' (by rw [S.acy, S.all])
  refine (F'.iff a0 a1 b0 b1).mp ?_
  rw [e a a0 a1, e b b0 b1]
  exact (F.iff a0 a1 b0 b1).mpr h
theorem all_inF {es : List (Int × Int)} (h : (frst es).length = es.length) : ∀ i, i < es.length → inF es i = true := fun i hi => by
  unfold frst frN at h
  rw [List.length_map] at h
  have := List.filter_eq_self.mp (List.Sublist.eq_of_length (List.filter_sublist (l := List.range es.length) (p := fun i => inF es i)) (by rw [h, List.length_range]))
  exact this i (List.mem_range.mpr hi)
theorem take_filter : ∀ {ss : List Int} {i : Nat}, ss.Pairwise (· < ·) → i < ss.length → ∀ s ∈ ss, s < ss.getD i 0 → s ∈ ss.take i
  | [], i, _, h, _, _, _ => absurd h (Nat.not_lt_zero _)
  | a :: l, 0, hp, _, s, hs, hlt => by
    have e : (a :: l).getD 0 0 = a := rfl
    rw [e] at hlt
    rcases List.mem_cons.mp hs with y | y
    · omega
    · have := (List.pairwise_cons.mp hp).1 s y; omega
  | a :: l, i + 1, hp, hi, s, hs, hlt => by
    rw [List.take_succ_cons]
    rcases List.mem_cons.mp hs with y | y
    · exact List.mem_cons.mpr (.inl y)
    · exact List.mem_cons_of_mem _ (take_filter (List.pairwise_cons.mp hp).2 (by simpa using hi) s y hlt)
def Acy (es : List (Int × Int)) (L : List Int) : Prop := ∀ t ∈ L, ∀ {M : List Int}, (∀ s ∈ M, s ∈ L ∧ s < t) → ¬ Cn (sub es M) (tieOf es t).1 (tieOf es t).2
theorem Acy.sub {es : List (Int × Int)} {L L' : List Int} (A : Acy es L) (h : ∀ t ∈ L', t ∈ L) : Acy es L' := fun t ht _ hM => A t (h t ht) fun s hs => ⟨h s (hM s hs).1, (hM s hs).2⟩
theorem Spn.free {es : List (Int × Int)} {ss : List Int} (S : Spn es ss) : Acy es ss := fun t ht M hM c => by
  obtain ⟨i, hi, rfl⟩ := List.mem_iff_getElem.mp ht
  have h := inF_iff.mp (all_inF (es := L2.sub es ss) (by rw [S.acy, sub_len]) i (by rw [sub_len]; exact hi))
  have e : (L2.sub es ss).getD i (0, 0) = tieOf es ss[i] := by
    unfold L2.sub
    rw [List.getD_eq_getElem?_getD, List.getElem?_map, List.getElem?_eq_getElem hi]; rfl
  rw [e] at h
  refine h (c.mono fun x hx => ?_)
  obtain ⟨s, hs, rfl⟩ := List.mem_map.mp hx
  have h1 := hM s hs
  unfold L2.sub
  rw [← List.map_take]
  exact List.mem_map.mpr ⟨s, take_filter S.ok.up hi s h1.1 (by rw [gD_at hi]; exact h1.2), rfl⟩
theorem Acy.loop {es : List (Int × Int)} {L : List Int} (A : Acy es L) {t : Int} (ht : t ∈ L) : (tieOf es t).1 ≠ (tieOf es t).2 := fun z => A t ht (M := []) (fun s hs => nomatch hs) (by rw [z]; exact .refl _)
noncomputable def gF (es : List (Int × Int)) (os : List Int) (n : Nat) : List Int := (frN (sub es os) n).map fun i => os.getD i.toNat 0
theorem gF_len (es : List (Int × Int)) (os : List Int) : (gF es os os.length).length = (frst (sub es os)).length := by
  unfold gF frst; rw [List.length_map, sub_len]
theorem getD_all (os : List Int) : ((List.range os.length).map fun i => os.getD i 0) = os := by
  refine List.ext_getElem (by rw [List.length_map, List.length_range]) fun i h1 h2 => ?_
  rw [List.getElem_map, List.getElem_range, gD_at h2]
theorem gF_sub (es : List (Int × Int)) (os : List Int) : (gF es os os.length).Sublist os := by
  have e : gF es os os.length = ((List.range os.length).filter fun i => inF (sub es os) i).map fun i => os.getD i 0 := by
    unfold gF frN
    rw [List.map_map]
    exact List.map_congr_left fun i _ => rfl
  rw [e]
  have := (List.filter_sublist (l := List.range os.length) (p := fun i => inF (sub es os) i)).map fun i => os.getD i 0
  rwa [getD_all] at this
theorem acy_nd {es : List (Int × Int)} {zs : List Int} (h : (frst (sub es zs)).length = zs.length) : zs.Nodup := by
  rw [List.nodup_iff_pairwise_ne, List.pairwise_iff_getElem]
  intro i j hi hj hij e
  have h1 := inF_iff.mp (all_inF (es := sub es zs) (by rw [h, sub_len]) j (by rw [sub_len]; exact hj))
  have ej : (sub es zs).getD j (0, 0) = tieOf es zs[i] := by
    unfold sub
    rw [List.getD_eq_getElem?_getD, List.getElem?_map, List.getElem?_eq_getElem hj, e]; rfl
  rw [ej] at h1
  refine h1 (Cn.tie ?_)
  unfold sub
  rw [← List.map_take]
  exact List.mem_map.mpr ⟨zs[i], List.mem_take_iff_getElem.mpr ⟨i, by omega, rfl⟩, rfl⟩
theorem Spn.test {es : List (Int × Int)} {zs cs : List Int} {n : Nat} (hn : n = (frst es).length) (hr : ∀ t ∈ zs, 0 ≤ t ∧ t < (es.length : Int)) (hs : zs.Pairwise (· ≤ ·)) (hl : zs.length = n) (hp : cs.Perm (gF es zs zs.length)) (hc : cs.Pairwise (· ≤ ·)) : cs = zs ↔ Spn es zs := by
  constructor
  · intro z
    rw [z] at hp
    have h1 : (frst (sub es zs)).length = zs.length := by rw [← gF_len]; exact hp.length_eq.symm
    exact ⟨⟨hr, up_le hs (acy_nd h1)⟩, h1, by omega⟩
  · intro S
    have h1 : gF es zs zs.length = zs := (gF_sub es zs).eq_of_length (by rw [gF_len]; exact S.acy)
    rw [h1] at hp
    exact sorted_uniq hp hc hs
def tg (p : Int) (es : List (Int × Int)) (t : Int) : Int := (if (tieOf es t).2 = p then 1 else 0) - (if (tieOf es t).1 = p then 1 else 0)
theorem Way.two {es : List (Int × Int)} {ss ts ps : List Int} {a b : Int} (p : Int) (W : Way es ss a ts ps b) : (2 : Int) ∣ (ts.map (tg p es)).sum + (if a = p then 1 else 0) + (if b = p then 1 else 0) := by
  induction W with
  | nil =>
    by_cases c : a = p
    · rw [if_pos c]; exact ⟨1, rfl⟩
    · rw [if_neg c]; exact ⟨0, rfl⟩
  | @snoc ts ps q t _ _ _ _ hq _ ih =>
    obtain ⟨u, hu⟩ := ih
    rw [List.map_append, List.sum_append]
    simp only [List.map_cons, List.map_nil, List.sum_cons, List.sum_nil]
    have key : ∃ v, tg p es t + (if q = p then 1 else 0) + (if far (tieOf es t) q = p then (1 : Int) else 0) = 2 * v := by
      unfold tg far
      by_cases c : (tieOf es t).1 = q
      · rw [if_pos c, c]
        by_cases c1 : q = p
        · rw [if_pos c1]; exact ⟨if (tieOf es t).2 = p then 1 else 0, by omega⟩
        · rw [if_neg c1]; exact ⟨if (tieOf es t).2 = p then 1 else 0, by omega⟩
      · rw [if_neg c, hq.resolve_left c]
        by_cases c1 : q = p
        · rw [if_pos c1]; exact ⟨1, by omega⟩
        · rw [if_neg c1]; exact ⟨0, by omega⟩
    obtain ⟨v, hv⟩ := key
    exact ⟨u + v - (if q = p then 1 else 0), by omega⟩
theorem Way.ring {es : List (Int × Int)} {ss ts ps : List Int} {t : Int} (p : Int) (W : Way es ss (tieOf es t).2 ts ps (tieOf es t).1) : (2 : Int) ∣ ((t :: ts).map (tg p es)).sum := by
  obtain ⟨u, hu⟩ := W.two p
  rw [List.map_cons, List.sum_cons]
  unfold tg at *
  exact ⟨u - (if (tieOf es t).1 = p then 1 else 0), by omega⟩
end L2
namespace L2
open PySem
theorem cnS_mono {es : List (Int × Int)} {S S' : List Int} (h : ∀ t ∈ S, t ∈ S') {a b : Int} (c : Cn (sub es S) a b) : Cn (sub es S') a b := c.mono fun e he => by
  obtain ⟨t, ht, rfl⟩ := List.mem_map.mp he
  exact List.mem_map.mpr ⟨t, h t ht, rfl⟩
theorem cnS_sub {es : List (Int × Int)} {S S' : List Int} (h : ∀ t ∈ S, Cn (sub es S') (tieOf es t).1 (tieOf es t).2) {a b : Int} (c : Cn (sub es S) a b) : Cn (sub es S') a b := by
  refine Cn.map (g := id) (fun e he => ?_) c
  obtain ⟨t, ht, rfl⟩ := List.mem_map.mp he
  exact h t ht
theorem cnS_tie {es : List (Int × Int)} {S : List Int} {t : Int} (h : t ∈ S) : Cn (sub es S) (tieOf es t).1 (tieOf es t).2 := Cn.tie (List.mem_map.mpr ⟨t, h, rfl⟩)
theorem way_cnT {es : List (Int × Int)} {ss ts ps : List Int} {a p : Int} (W : Way es ss a ts ps p) : Cn (sub es ts) a p := by
  induction W with
  | nil => exact .refl _
  | @snoc ts ps q u W hu u0 u1 hq hn ih2 => exact (cnS_mono (fun z hz => List.mem_append_left _ hz) ih2).trans (far_cn (List.mem_map.mpr ⟨u, List.mem_append_right _ (List.mem_singleton.mpr rfl), rfl⟩) hq)
theorem way_split {es : List (Int × Int)} {ss ts ps : List Int} {a p b : Int} (W : Way es ss a ts ps p) (hb : b ∈ ts) {S : List Int} (hS : ∀ t ∈ ts, t ≠ b → t ∈ S) : ∃ x y, ((tieOf es b).1 = x ∧ (tieOf es b).2 = y ∨ (tieOf es b).1 = y ∧ (tieOf es b).2 = x) ∧ Cn (sub es S) a x ∧ Cn (sub es S) y p := by
  induction W with
  | nil => cases hb
  | @snoc ts ps p t W ht t0 t1 hp hn ih =>
    by_cases c : b ∈ ts
    · obtain ⟨x, y, h1, h2, h3⟩ := ih c fun u hu hne => hS u (List.mem_append_left _ hu) hne
      have hne : t ≠ b := fun z => W.fresh hp hn (z ▸ c)
      exact ⟨x, y, h1, h2, h3.trans (far_cn (List.mem_map.mpr ⟨t, hS t (List.mem_append_right _ (List.mem_singleton.mpr rfl)) hne, rfl⟩) hp)⟩
    · have e : b = t := by
        rcases List.mem_append.mp hb with y | y
        · exact absurd y c
        · exact List.mem_singleton.mp y
      subst e
      refine ⟨p, far (tieOf es b) p, ?_, ?_, .refl _⟩
      · unfold far
        by_cases d : (tieOf es b).1 = p
        · rw [if_pos d]; exact .inl ⟨d, rfl⟩
        · rw [if_neg d]; exact .inr ⟨rfl, hp.resolve_left d⟩
      · have : ∀ u ∈ ts, u ∈ S := fun u hu => hS u (List.mem_append_left _ hu) fun z => c (z ▸ hu)
        exact cnS_mono this (way_cnT W)
theorem exch {es : List (Int × Int)} {ss ts ps G : List Int} {u b : Int} (W : Way es ss (tieOf es u).2 ts ps (tieOf es u).1) (hb : b ∈ ts) (hG : ∀ t ∈ ts, t ≠ b → t ∈ G) (p q : Int) : Cn (sub es (u :: G)) p q ↔ Cn (sub es (b :: G)) p q := by
  obtain ⟨x, y, h1, h2, h3⟩ := way_split W hb hG
  have up : ∀ {z : Int} {a c : Int}, Cn (sub es G) a c → Cn (sub es (z :: G)) a c := fun h => cnS_mono (fun t ht => List.mem_cons_of_mem _ ht) h
  constructor
  · refine cnS_sub fun t ht => ?_
    rcases List.mem_cons.mp ht with e | e
    · rw [e]
      have hb' : Cn (sub es (b :: G)) x y := by
        have := cnS_tie (es := es) (S := b :: G) List.mem_cons_self
        rcases h1 with ⟨e1, e2⟩ | ⟨e1, e2⟩
        · rw [e1, e2] at this; exact this
        · rw [e1, e2] at this; exact this.symm
      exact (((up h2).trans hb').trans (up h3)).symm
    · exact cnS_tie (List.mem_cons_of_mem _ e)
  · refine cnS_sub fun t ht => ?_
    rcases List.mem_cons.mp ht with e | e
    · rw [e]
      have hu : Cn (sub es (u :: G)) (tieOf es u).1 (tieOf es u).2 := cnS_tie List.mem_cons_self
      have hxy : Cn (sub es (u :: G)) y x := (up h3).trans (hu.trans (up h2))
      rcases h1 with ⟨e1, e2⟩ | ⟨e1, e2⟩
      · rw [e1, e2]; exact hxy.symm
      · rw [e1, e2]; exact hxy
    · exact cnS_tie (List.mem_cons_of_mem _ e)
noncomputable def rk (es : List (Int × Int)) (S : List Int) : Nat := (frst (sub es S)).length
theorem rk_le (es : List (Int × Int)) (S : List Int) : rk es S ≤ S.length := by
  unfold rk frst
  have := frN_len (sub es S) (sub es S).length
  rw [sub_len] at this ⊢
  exact this
section
variable {m : Int} {es : List (Int × Int)} (hE : ∀ e ∈ es, 0 ≤ e.1 ∧ e.1 < m ∧ 0 ≤ e.2 ∧ e.2 < m)
include hE
theorem rk_eq {S S' : List Int} (hr : ∀ t ∈ S, 0 ≤ t ∧ t < (es.length : Int)) (hr' : ∀ t ∈ S', 0 ≤ t ∧ t < (es.length : Int)) (h : ∀ a b : Int, Cn (sub es S) a b ↔ Cn (sub es S') a b) : rk es S = rk es S' :=
  (rank_eq (ends_sub hE hr) (ends_sub hE hr') (fun c => (h _ _).mpr c) (fun c => (h _ _).mp c)).symm
end
theorem rk_snoc {es : List (Int × Int)} {S : List Int} {t : Int} (h : ¬ Cn (sub es S) (tieOf es t).1 (tieOf es t).2) : rk es (S ++ [t]) = rk es S + 1 := by
  have e : sub es (S ++ [t]) = sub es S ++ [tieOf es t] := by unfold sub; rw [List.map_append]; rfl
  have g : (sub es S ++ [tieOf es t]).getD (sub es S).length (0, 0) = tieOf es t := by rw [List.getD_eq_getElem?_getD, List.getElem?_append_right (Nat.le_refl _), Nat.sub_self]; rfl
  have ih : ∀ n, n ≤ (sub es S).length → frN (sub es S ++ [tieOf es t]) n = frN (sub es S) n := fun n hn => by
    unfold frN
    congr 1
    refine List.filter_congr fun i hi => ?_
    rw [List.mem_range] at hi
    unfold inF
    rw [List.take_append_of_le_length (by omega), List.getD_eq_getElem?_getD, List.getElem?_append_left (by omega), ← List.getD_eq_getElem?_getD]
  unfold rk frst
  rw [e, List.length_append, List.length_singleton, frN_succ, ih _ (Nat.le_refl _)]
  have hin : inF (sub es S ++ [tieOf es t]) (sub es S).length = true := by
    rw [inF_iff, g, List.take_left']
    · exact h
    · rfl
  rw [if_pos hin, List.length_append, List.length_singleton]
theorem cnS_perm {es : List (Int × Int)} {S S' : List Int} (h : ∀ t, t ∈ S ↔ t ∈ S') (a b : Int) : Cn (sub es S) a b ↔ Cn (sub es S') a b := ⟨cnS_mono fun t ht => (h t).mp ht, cnS_mono fun t ht => (h t).mpr ht⟩
theorem for_bridge {m : Int} {es : List (Int × Int)} (hE : ∀ e ∈ es, 0 ≤ e.1 ∧ e.1 < m ∧ 0 ≤ e.2 ∧ e.2 < m) {S T : List Int} (hr : ∀ t ∈ S, 0 ≤ t ∧ t < (es.length : Int)) (hf : rk es S = S.length) {b : Int} (hb : b ∈ S) (hT : ∀ t, t ∈ T ↔ t ∈ S ∧ t ≠ b) (hn : T.Nodup) (hS : S.Nodup) : ¬ Cn (sub es T) (tieOf es b).1 (tieOf es b).2 := fun c => by
  have h1 : rk es S = rk es T := rk_eq hE hr (fun t ht => hr t ((hT t).mp ht).1) fun x y => ⟨cnS_sub fun t ht => by
    by_cases e : t = b
    · rw [e]; exact c
    · exact cnS_tie ((hT t).mpr ⟨ht, e⟩), cnS_mono fun t ht => ((hT t).mp ht).1⟩
  have h2 := rk_le es T
  have h3 := nodup_sub (l := b :: T) (l' := S) (List.nodup_cons.mpr ⟨fun z => ((hT b).mp z).2 rfl, hn⟩) fun a ha => (List.mem_cons.mp ha).elim (fun y => y ▸ hb) fun y => ((hT a).mp y).1
  rw [List.length_cons] at h3
  omega
end L2
namespace L2
open PySem
abbrev Own := List (Option Int)
abbrev Ask := List (Int × Option Int)
def owA (ow : Own) (t : Int) : Option Int := ow.getD t.toNat none
def tof (ow : Own) (o : Option Int) : List Int := (upto ow.length).filter fun t => decide (owA ow t = o)
theorem mem_tof {ow : Own} {o : Option Int} {t : Int} : t ∈ tof ow o ↔ 0 ≤ t ∧ t < (ow.length : Int) ∧ owA ow t = o := by
  unfold tof
  rw [List.mem_filter, mem_upto, decide_eq_true_iff, and_assoc]
theorem tof_ok (ow : Own) (o : Option Int) : SetOk ow.length (tof ow o) := by
  refine ⟨fun t ht => ⟨(mem_tof.mp ht).1, (mem_tof.mp ht).2.1⟩, ?_⟩
  unfold tof upto
  refine List.Pairwise.filter _ ?_
  rw [List.pairwise_map]
  exact List.pairwise_lt_range.imp fun h => by omega
def kys (W : Ask) : List Int := W.map (·.1)
def stA (t : Int) (W : Ask) (u : Int) : Ask := if u ∈ kys W then W else W ++ [(u, some t)]
def sdF (bk : Int → Int → Option (List Int)) (t : Int) : List Int → Ask → Ask × Option (Int × Int)
  | [], W => (W, none)
  | s :: r, W => match bk t s with
    | none => (W, some (t, s))
    | some ts => sdF bk t r (ts.foldl (stA t) W)
def sds (o : Option Int) : List Int := [(0 : Int), 1].filter fun s => decide (some s ≠ o)
def rnF (ow : Own) (bk : Int → Int → Option (List Int)) : Nat → Ask → Nat → Ask × Option (Int × Int)
  | 0, W, _ => (W, none)
  | n + 1, W, k => if k < W.length then (match sdF bk (W.getD k (0, none)).1 (sds (owA ow (W.getD k (0, none)).1)) W with
    | (W', some r) => (W', some r)
    | (W', none) => rnF ow bk n W' (k + 1)) else (W, none)
def askF (ow : Own) (bk : Int → Int → Option (List Int)) (st : List Int) : Ask × Option (Int × Int) := rnF ow bk (ow.length + 1) (st.map fun t => (t, none)) 0
theorem mem_sds {o : Option Int} {s : Int} : s ∈ sds o ↔ (s = 0 ∨ s = 1) ∧ o ≠ some s := by
  unfold sds
  rw [List.mem_filter, decide_eq_true_iff]
  simp only [List.mem_cons, List.not_mem_nil, or_false]
  exact ⟨fun ⟨h1, h2⟩ => ⟨h1, fun z => h2 z.symm⟩, fun ⟨h1, h2⟩ => ⟨h1, fun z => h2 z.symm⟩⟩
def At (W : Ask) (i : Nat) (t : Int) : Prop := ∃ o, W[i]? = some (t, o)
def Lt (W : Ask) (x : Int) (i : Nat) : Prop := ∃ (j : Nat) (o : Option Int), W[j]? = some (x, o) ∧ ∀ y, o = some y → ∃ i', i' ≤ i ∧ At W i' y
theorem get_app {W V : Ask} {i : Nat} {p : Int × Option Int} (h : W[i]? = some p) : (W ++ V)[i]? = some p := by
  have hi : i < W.length := by
    rcases Nat.lt_or_ge i W.length with y | y
    · exact y
    · rw [List.getElem?_eq_none y] at h; cases h
  rw [List.getElem?_append_left hi]; exact h
theorem At.app {W V : Ask} {i : Nat} {t : Int} (h : At W i t) : At (W ++ V) i t := let ⟨o, e⟩ := h; ⟨o, get_app e⟩
theorem Lt.app {W V : Ask} {i : Nat} {x : Int} (h : Lt W x i) : Lt (W ++ V) x i := by
  obtain ⟨j, o, h1, h2⟩ := h
  exact ⟨j, o, get_app h1, fun y e => let ⟨i', h3, h4⟩ := h2 y e; ⟨i', h3, h4.app⟩⟩
theorem At.mem {W : Ask} {i : Nat} {t : Int} (h : At W i t) : t ∈ kys W := let ⟨o, e⟩ := h; List.mem_map.mpr ⟨(t, o), List.mem_of_getElem? e, rfl⟩
theorem mem_at {W : Ask} {t : Int} (h : t ∈ kys W) : ∃ i, i < W.length ∧ At W i t := by
  obtain ⟨⟨u, o⟩, hp, e⟩ := List.mem_map.mp h
  obtain ⟨i, hi, e2⟩ := List.mem_iff_getElem.mp hp
  have e' : u = t := e
  exact ⟨i, hi, o, by rw [List.getElem?_eq_getElem hi, e2, e']⟩
theorem At.lt {W : Ask} {i : Nat} {t : Int} (h : At W i t) : i < W.length := by
  obtain ⟨o, e⟩ := h
  rcases Nat.lt_or_ge i W.length with y | y
  · exact y
  · rw [List.getElem?_eq_none y] at e; cases e
theorem nd_at {W : Ask} (hn : (kys W).Nodup) {i j : Nat} {t : Int} (hi : At W i t) (hj : At W j t) : i = j := by
  obtain ⟨o, e⟩ := hi
  obtain ⟨o', e'⟩ := hj
  have l1 := At.lt ⟨o, e⟩
  have l2 := At.lt ⟨o', e'⟩
  have k1 : (kys W)[i]? = some t := by unfold kys; rw [List.getElem?_map, e]; rfl
  have k2 : (kys W)[j]? = some t := by unfold kys; rw [List.getElem?_map, e']; rfl
  have hl : (kys W).length = W.length := List.length_map ..
  rw [List.getElem?_eq_getElem (by omega)] at k1 k2
  have e3 := (Option.some.inj k1).trans (Option.some.inj k2).symm
  rw [List.nodup_iff_pairwise_ne, List.pairwise_iff_getElem] at hn
  rcases Nat.lt_trichotomy i j with y | y | y
  · exact absurd e3 (hn i j (by omega) (by omega) y)
  · exact y
  · exact absurd e3.symm (hn j i (by omega) (by omega) y)
structure AsI (n : Nat) (ow : Own) (bk : Int → Int → Option (List Int)) (st : List Int) (W : Ask) (k : Nat) : Prop where
  nd : (kys W).Nodup
  rng : ∀ t ∈ kys W, 0 ≤ t ∧ t < (n : Int)
  sta : ∀ t ∈ st, t ∈ kys W
  ask : ∀ j u o, W[j]? = some (u, o) → (o = none ∧ u ∈ st) ∨ ∃ t i s ts, o = some t ∧ i < j ∧ i ≤ k ∧ At W i t ∧ (s = 0 ∨ s = 1) ∧ owA ow t ≠ some s ∧ bk t s = some ts ∧ u ∈ ts
  fin : ∀ i, i < k → ∀ t, At W i t → ∀ s, (s = 0 ∨ s = 1) → owA ow t ≠ some s → ∃ ts, bk t s = some ts ∧ ∀ x ∈ ts, Lt W x i
section
variable {n : Nat} {ow : Own} {bk : Int → Int → Option (List Int)} {st : List Int} {W : Ask} {k : Nat} (hb : ∀ t s ts, bk t s = some ts → ∀ u ∈ ts, 0 ≤ u ∧ u < (n : Int))
theorem AsI.old (I : AsI n ow bk st W k) {x : Int} (h : x ∈ kys W) : Lt W x k := by
  obtain ⟨j, hj, o, e⟩ := mem_at h
  refine ⟨j, o, e, fun y ey => ?_⟩
  rcases I.ask j x o e with ⟨h1, _⟩ | ⟨t, i, s, ts, h1, h2, h3, h4, _⟩
  · rw [h1] at ey; cases ey
  · rw [h1] at ey; cases ey; exact ⟨i, h3, h4⟩
theorem kys_snoc (W : Ask) (u : Int) (o : Option Int) : kys (W ++ [(u, o)]) = kys W ++ [u] := by unfold kys; rw [List.map_append]; rfl
include hb in
theorem AsI.snoc (I : AsI n ow bk st W k) {t u s : Int} {ts : List Int} (ht : At W k t) (hs : s = 0 ∨ s = 1) (ho : owA ow t ≠ some s) (hk : bk t s = some ts) (hu : u ∈ ts) (hn : ¬ u ∈ kys W) : AsI n ow bk st (W ++ [(u, some t)]) k := by
  have hlt := ht.lt
  refine ⟨by rw [kys_snoc]; exact nodup_snoc I.nd hn, fun x hx => ?_, fun x hx => by rw [kys_snoc]; exact List.mem_append_left _ (I.sta x hx), fun j v o e => ?_, fun i hi v hv s' hs' ho' => ?_⟩
  · rw [kys_snoc] at hx
    rcases List.mem_append.mp hx with y | y
    · exact I.rng x y
    · rw [List.mem_singleton.mp y]; exact hb t s ts hk u hu
  · rcases Nat.lt_or_ge j W.length with y | y
    · rw [List.getElem?_append_left y] at e
      rcases I.ask j v o e with h | ⟨t', i, s', ts', h1, h2, h3, h4, h5⟩
      · exact .inl h
      · exact .inr ⟨t', i, s', ts', h1, h2, h3, h4.app, h5⟩
    · have ej : j = W.length := by
        rcases Nat.lt_or_ge W.length j with z | z
        · rw [List.getElem?_eq_none (by rw [List.length_append, List.length_singleton]; omega)] at e; cases e
        · omega
      rw [ej, List.getElem?_append_right (Nat.le_refl _), Nat.sub_self] at e
      cases e
      exact .inr ⟨t, k, s, ts, rfl, by omega, Nat.le_refl _, ht.app, hs, ho, hk, hu⟩
  · have hv' : At W i v := by
      obtain ⟨o, e⟩ := hv
      rw [List.getElem?_append_left (by omega)] at e
      exact ⟨o, e⟩
    obtain ⟨ts', h1, h2⟩ := I.fin i hi v hv' s' hs' ho'
    exact ⟨ts', h1, fun x hx => (h2 x hx).app⟩
include hb in
theorem AsI.fold {t s : Int} {ts : List Int} (hs : s = 0 ∨ s = 1) (ho : owA ow t ≠ some s) (hk : bk t s = some ts) : ∀ (us : List Int) {W : Ask}, AsI n ow bk st W k → At W k t → (∀ u ∈ us, u ∈ ts) → ∃ V, us.foldl (stA t) W = W ++ V ∧ AsI n ow bk st (us.foldl (stA t) W) k ∧ ∀ x ∈ us, Lt (us.foldl (stA t) W) x k
  | [], W, I, _, _ => ⟨[], (List.append_nil _).symm, I, fun x hx => nomatch hx⟩
  | u :: us, W, I, ht, hu => by
    have hu1 := hu u List.mem_cons_self
    rw [List.foldl_cons]
    by_cases c : u ∈ kys W
    · have e : stA t W u = W := if_pos c
      rw [e]
      obtain ⟨V, h1, h2, h3⟩ := AsI.fold hs ho hk us I ht fun v hv => hu v (List.mem_cons_of_mem _ hv)
      refine ⟨V, h1, h2, fun x hx => ?_⟩
      rcases List.mem_cons.mp hx with y | y
      · rw [y, h1]; exact (I.old c).app
      · exact h3 x y
    · have e : stA t W u = W ++ [(u, some t)] := if_neg c
      rw [e]
      have I' := I.snoc hb ht hs ho hk hu1 c
      obtain ⟨V, h1, h2, h3⟩ := AsI.fold hs ho hk us I' ht.app fun v hv => hu v (List.mem_cons_of_mem _ hv)
      refine ⟨(u, some t) :: V, by rw [h1, List.append_assoc]; rfl, h2, fun x hx => ?_⟩
      rcases List.mem_cons.mp hx with y | y
      · rw [y, h1]; exact (I'.old (by rw [kys_snoc]; exact List.mem_append_right _ (List.mem_singleton.mpr rfl))).app
      · exact h3 x y
include hb in
theorem AsI.side {t : Int} : ∀ (ss : List Int) {W : Ask}, AsI n ow bk st W k → At W k t → (∀ s ∈ ss, (s = 0 ∨ s = 1) ∧ owA ow t ≠ some s) →
    ∃ V, (sdF bk t ss W).1 = W ++ V ∧ AsI n ow bk st (sdF bk t ss W).1 k ∧ ((sdF bk t ss W).2 = none → ∀ s ∈ ss, ∃ ts, bk t s = some ts ∧ ∀ x ∈ ts, Lt (sdF bk t ss W).1 x k) ∧ ∀ u s, (sdF bk t ss W).2 = some (u, s) → u = t ∧ s ∈ ss ∧ bk t s = none
  | [], W, I, _, _ => ⟨[], (List.append_nil _).symm, I, fun _ s hs => (nomatch hs), fun u s h => nomatch h⟩
  | s :: ss, W, I, ht, h => by
    obtain ⟨hs, ho⟩ := h s List.mem_cons_self
    cases hk : bk t s with
    | none =>
      have e : sdF bk t (s :: ss) W = (W, some (t, s)) := by unfold sdF; rw [hk]
      rw [e]
      exact ⟨[], (List.append_nil _).symm, I, fun z => (nomatch z), fun u s' z => by cases z; exact ⟨rfl, List.mem_cons_self, hk⟩⟩
    | some ts =>
      have e : sdF bk t (s :: ss) W = sdF bk t ss (ts.foldl (stA t) W) := by conv => lhs; unfold sdF; rw [hk]
      rw [e]
      obtain ⟨V, h1, h2, h3⟩ := AsI.fold hb hs ho hk ts I ht fun _ hu => hu
      have ht' : At (ts.foldl (stA t) W) k t := by rw [h1]; exact ht.app
      obtain ⟨V', g1, g2, g3, g4⟩ := AsI.side ss h2 ht' fun s' hs' => h s' (List.mem_cons_of_mem _ hs')
      refine ⟨V ++ V', by rw [g1, h1, List.append_assoc], g2, fun z s' hs' => ?_, fun u s' z => let ⟨a, b, c⟩ := g4 u s' z; ⟨a, List.mem_cons_of_mem _ b, c⟩⟩
      rcases List.mem_cons.mp hs' with y | y
      · refine ⟨ts, by rw [y]; exact hk, fun x hx => ?_⟩
        rw [g1]; exact (h3 x hx).app
      · exact g3 z s' y
include hb in
theorem AsI.run : ∀ (f : Nat) {W : Ask} {k : Nat}, AsI n ow bk st W k → n < f + k →
    ((rnF ow bk f W k).2 = none → AsI n ow bk st (rnF ow bk f W k).1 (rnF ow bk f W k).1.length) ∧
    ∀ t s, (rnF ow bk f W k).2 = some (t, s) → ∃ k', AsI n ow bk st (rnF ow bk f W k).1 k' ∧ At (rnF ow bk f W k).1 k' t ∧ (s = 0 ∨ s = 1) ∧ owA ow t ≠ some s ∧ bk t s = none := by
  intro f
  induction f with
  | zero =>
    intro W k I hf
    have hl : W.length ≤ n := by
      have := nodup_len I.nd (m := (n : Int)) I.rng
      unfold kys at this
      rw [List.length_map] at this
      omega
    refine ⟨fun _ => ⟨I.nd, I.rng, I.sta, fun j u o e => ?_, fun i hi => I.fin i (by have : i < W.length := hi; omega)⟩, fun t s z => nomatch z⟩
    rcases I.ask j u o e with h | ⟨t, i, s, ts, h1, h2, h3, h4, h5⟩
    · exact .inl h
    · exact .inr ⟨t, i, s, ts, h1, h2, Nat.le_of_lt h4.lt, h4, h5⟩
  | succ f ih =>
    intro W k I hf
    unfold rnF
    by_cases hk : k < W.length
    · rw [if_pos hk]
      have ht : At W k (W.getD k (0, none)).1 := ⟨(W.getD k (0, none)).2, by rw [List.getD_eq_getElem?_getD, List.getElem?_eq_getElem hk]; rfl⟩
      generalize (W.getD k (0, none)).1 = t at ht ⊢
      obtain ⟨V, h1, h2, h3, h4⟩ := AsI.side hb (sds (owA ow t)) I ht fun s hs => mem_sds.mp hs
      generalize sdF bk t (sds (owA ow t)) W = R at h1 h2 h3 h4 ⊢
      obtain ⟨W', r⟩ := R
      dsimp only at h1 h2 h3 h4
      have ht' : At W' k t := by rw [h1]; exact ht.app
      cases r with
      | some p =>
        obtain ⟨u, s⟩ := p
        refine ⟨fun z => (nomatch z), fun t' s' z => ?_⟩
        cases z
        obtain ⟨e, a, b⟩ := h4 u s rfl
        subst e
        obtain ⟨c, d⟩ := mem_sds.mp a
        exact ⟨k, h2, ht', c, d, b⟩
      | none =>
        refine ih (W := W') (k := k + 1) ⟨h2.nd, h2.rng, h2.sta, fun j u o e => ?_, fun i hi v hv s hs ho => ?_⟩ (by omega)
        · rcases h2.ask j u o e with h | ⟨t', i, s, ts, h1, h2, h3, h5⟩
          · exact .inl h
          · exact .inr ⟨t', i, s, ts, h1, h2, by omega, h5⟩
        · by_cases c : i = k
          · subst c
            have ev : v = t := by
              obtain ⟨o, e⟩ := hv
              obtain ⟨o', e'⟩ := ht'
              rw [e] at e'
              injection e' with e'
              injection e' with e'
            subst ev
            exact h3 rfl s (mem_sds.mpr ⟨hs, ho⟩)
          · exact h2.fin i (by omega) v hv s hs ho
    · rw [if_neg hk]
      refine ⟨fun _ => ⟨I.nd, I.rng, I.sta, fun j u o e => ?_, fun i hi => I.fin i (by have : i < W.length := hi; omega)⟩, fun t s z => nomatch z⟩
      rcases I.ask j u o e with h | ⟨t, i, s, ts, h1, h2, h3, h4, h5⟩
      · exact .inl h
      · exact .inr ⟨t, i, s, ts, h1, h2, Nat.le_of_lt h4.lt, h4, h5⟩
theorem AsI.start (hst : st.Nodup) (hr : ∀ t ∈ st, 0 ≤ t ∧ t < (n : Int)) : AsI n ow bk st (st.map fun t => (t, none)) 0 := by
  have hk : kys (st.map fun t => (t, (none : Option Int))) = st := by
    unfold kys
    rw [List.map_map]
    exact List.map_id _
  refine ⟨by rw [hk]; exact hst, by rw [hk]; exact hr, by rw [hk]; exact fun _ h => h, fun j u o e => ?_, fun i hi => absurd hi (Nat.not_lt_zero _)⟩
  rw [List.getElem?_map] at e
  cases hj : st[j]? with
  | none => rw [hj] at e; cases e
  | some v =>
    rw [hj] at e
    cases e
    exact .inl ⟨rfl, List.mem_of_getElem? hj⟩
end
end L2
namespace L2
open PySem
structure BkOk (es : List (Int × Int)) (ow : Own) (bk : Int → Int → Option (List Int)) : Prop where
  way : ∀ t s ts, bk t s = some ts → ∃ ps, Way es (tof ow (some s)) (tieOf es t).2 ts ps (tieOf es t).1
theorem BkOk.own {es : List (Int × Int)} {ow : Own} {bk : Int → Int → Option (List Int)} (B : BkOk es ow bk) {t s : Int} {ts : List Int} (h : bk t s = some ts) {u : Int} (hu : u ∈ ts) : u ∈ tof ow (some s) := by
  obtain ⟨ps, W⟩ := B.way t s ts h
  exact (W.sub u hu).1
theorem BkOk.rng {es : List (Int × Int)} {ow : Own} {bk : Int → Int → Option (List Int)} (B : BkOk es ow bk) : ∀ t s ts, bk t s = some ts → ∀ u ∈ ts, 0 ≤ u ∧ u < (es.length : Int) := fun t s ts h u hu => by
  obtain ⟨ps, W⟩ := B.way t s ts h
  exact ⟨(W.sub u hu).2.1, (W.sub u hu).2.2⟩
def inA (A : List Int) (ow : Own) (s : Int) : List Int := (tof ow (some s)).filter fun t => decide (t ∈ A)
theorem mem_inA {A : List Int} {ow : Own} {s t : Int} : t ∈ inA A ow s ↔ t ∈ tof ow (some s) ∧ t ∈ A := by unfold inA; rw [List.mem_filter, decide_eq_true_iff]
def Tight (es : List (Int × Int)) (ow : Own) (A : List Int) : Prop := ∀ u ∈ A, ∀ s : Int, (s = 0 ∨ s = 1) → Cn (sub es (inA A ow s)) (tieOf es u).1 (tieOf es u).2
theorem Tight.union {es : List (Int × Int)} {ow : Own} {A B : List Int} (ha : Tight es ow A) (hb : Tight es ow B) : Tight es ow (A ++ B) := fun u hu s hs => by
  rcases List.mem_append.mp hu with y | y
  · exact cnS_mono (fun t ht => mem_inA.mpr ⟨(mem_inA.mp ht).1, List.mem_append_left _ (mem_inA.mp ht).2⟩) (ha u y s hs)
  · exact cnS_mono (fun t ht => mem_inA.mpr ⟨(mem_inA.mp ht).1, List.mem_append_right _ (mem_inA.mp ht).2⟩) (hb u y s hs)
theorem Tight.same {es : List (Int × Int)} {ow ow' : Own} {A : List Int} (ha : Tight es ow A) (hl : ow'.length = ow.length) (h : ∀ x ∈ A, owA ow' x = owA ow x) : Tight es ow' A := fun u hu s hs => cnS_mono (fun t ht => by
  obtain ⟨h1, h2⟩ := mem_inA.mp ht
  obtain ⟨h3, h4, h5⟩ := mem_tof.mp h1
  exact mem_inA.mpr ⟨mem_tof.mpr ⟨h3, by omega, (h t h2).trans h5⟩, h2⟩) (ha u hu s hs)
section
variable {m : Int} {es : List (Int × Int)} {ow : Own} {bk : Int → Int → Option (List Int)} {A : List Int} (hE : ∀ e ∈ es, 0 ≤ e.1 ∧ e.1 < m ∧ 0 ≤ e.2 ∧ e.2 < m) (hol : ow.length = es.length) (B : BkOk es ow bk)
include hE hol B in
theorem Tight.next (hA : Tight es ow A) {u x s : Int} {ts : List Int} (hs : s = 0 ∨ s = 1) (hf : rk es (tof ow (some s)) = (tof ow (some s)).length) (hu : u ∈ A) (hk : bk u s = some ts) (hx : x ∈ ts) : x ∈ A := Classical.byContradiction fun hn => by
  obtain ⟨ps, W⟩ := B.way u s ts hk
  have hxS := B.own hk hx
  have hT : ∀ t, t ∈ (tof ow (some s)).filter (fun t => decide (t ≠ x)) ↔ t ∈ tof ow (some s) ∧ t ≠ x := fun t => by rw [List.mem_filter, decide_eq_true_iff]
  obtain ⟨a, b, h1, h2, h3⟩ := way_split W hx (S := (tof ow (some s)).filter fun t => decide (t ≠ x)) fun t ht hne => (hT t).mpr ⟨(W.sub t ht).1, hne⟩
  have h4 : Cn (sub es ((tof ow (some s)).filter fun t => decide (t ≠ x))) (tieOf es u).1 (tieOf es u).2 := cnS_mono (fun t ht => (hT t).mpr ⟨(mem_inA.mp ht).1, fun z => hn (z ▸ (mem_inA.mp ht).2)⟩) (hA u hu s hs)
  have h5 := (h3.trans h4).trans h2
  have hr : ∀ t ∈ tof ow (some s), 0 ≤ t ∧ t < (es.length : Int) := fun t ht => by rw [← hol]; exact (tof_ok ow (some s)).rng t ht
  refine for_bridge hE hr hf hxS hT (List.Pairwise.filter _ (tof_ok ow (some s)).nd) (tof_ok ow (some s)).nd ?_
  rcases h1 with ⟨e1, e2⟩ | ⟨e1, e2⟩
  · rw [e1, e2]; exact h5.symm
  · rw [e1, e2]; exact h5
include hol B in
theorem AsI.tight {st : List Int} {W : Ask} (I : AsI es.length ow bk st W W.length) : Tight es ow (kys W) := fun u hu s hs => by
  obtain ⟨i, hi, ha⟩ := mem_at hu
  have hr := I.rng u hu
  by_cases c : owA ow u = some s
  · exact cnS_tie (mem_inA.mpr ⟨mem_tof.mpr ⟨hr.1, by omega, c⟩, hu⟩)
  · obtain ⟨ts, h1, h2⟩ := I.fin i hi u ha s hs c
    obtain ⟨ps, Wy⟩ := B.way u s ts h1
    exact (cnS_mono (fun t ht => mem_inA.mpr ⟨(Wy.sub t ht).1, by
      obtain ⟨j, o, e, _⟩ := h2 t ht
      exact At.mem ⟨o, e⟩⟩) (way_cnT Wy)).symm
end
def askr : Ask → Int → Option Int
  | [], _ => none
  | (u, o) :: W, t => if u = t then o else askr W t
theorem askr_at : ∀ {W : Ask} {j : Nat} {t : Int} {o : Option Int}, (kys W).Nodup → W[j]? = some (t, o) → askr W t = o
  | [], j, t, o, _, h => by cases h
  | (u, o') :: W, 0, t, o, _, h => by
    rw [List.getElem?_cons_zero] at h
    cases h
    exact if_pos rfl
  | (u, o') :: W, j + 1, t, o, hn, h => by
    rw [List.getElem?_cons_succ] at h
    have hn' : u ∉ kys W ∧ (kys W).Nodup := List.nodup_cons.mp hn
    have hne : ¬ u = t := fun z => hn'.1 (z ▸ At.mem ⟨o, h⟩)
    show (if u = t then o' else askr W t) = o
    rw [if_neg hne]
    exact askr_at hn'.2 h
def mvF (ow : Own) (W : Ask) : Nat → Own → Option Int → Option Int → Own
  | 0, told, _, _ => told
  | _ + 1, told, none, _ => told
  | f + 1, told, some t, side => mvF ow W f (told.set t.toNat side) (askr W t) (owA ow t)
theorem owA_set {ow : Own} {t x : Int} {o : Option Int} (t0 : 0 ≤ t) (t1 : t < (ow.length : Int)) (x0 : 0 ≤ x) : owA (ow.set t.toNat o) x = if x = t then o else owA ow x := by
  unfold owA
  rw [List.getD_eq_getElem?_getD, List.getElem?_set]
  by_cases c : x = t
  · subst c
    rw [if_pos rfl, if_pos rfl, if_pos (by omega)]; rfl
  · rw [if_neg (by omega), if_neg c, List.getD_eq_getElem?_getD]
theorem tof_len {ow ow' : Own} {o : Option Int} (h : ∀ x : Int, 0 ≤ x → (x ∈ tof ow o ↔ x ∈ tof ow' o)) : (tof ow o).length = (tof ow' o).length :=
  Nat.le_antisymm (nodup_sub (tof_ok ow o).nd fun a ha => (h a ((mem_tof.mp ha).1)).mp ha) (nodup_sub (tof_ok ow' o).nd fun a ha => (h a ((mem_tof.mp ha).1)).mpr ha)
theorem tof_len1 {ow ow' : Own} {o : Option Int} {u : Int} (hu : u ∈ tof ow' o) (h : ∀ x : Int, x ∈ tof ow o ↔ x ∈ tof ow' o ∧ x ≠ u) : (tof ow o).length + 1 = (tof ow' o).length := by
  have n1 := (tof_ok ow o).nd
  have n2 := (tof_ok ow' o).nd
  have h1 := nodup_sub (l := u :: tof ow o) (l' := tof ow' o) (List.nodup_cons.mpr ⟨fun z => ((h u).mp z).2 rfl, n1⟩) fun a ha => (List.mem_cons.mp ha).elim (fun y => y ▸ hu) fun y => ((h a).mp y).1
  have h2 := nodup_sub (l := tof ow' o) (l' := u :: tof ow o) n2 fun a ha => by
    by_cases c : a = u
    · rw [c]; exact List.mem_cons_self
    · exact List.mem_cons_of_mem _ ((h a).mpr ⟨ha, c⟩)
  rw [List.length_cons] at h1 h2
  omega
def Tg (ow : Own) (tk sd s : Int) : List Int := if s = sd then tk :: tof ow (some s) else tof ow (some s)
structure MvR (es : List (Int × Int)) (ow : Own) (tk sd : Int) (A st : List Int) (told : Own) : Prop where
  len : told.length = ow.length
  cn : ∀ s : Int, (s = 0 ∨ s = 1) → ∀ p q, Cn (sub es (tof told (some s))) p q ↔ Cn (sub es (Tg ow tk sd s)) p q
  size : ∀ s : Int, (s = 0 ∨ s = 1) → (tof told (some s)).length = (Tg ow tk sd s).length
  keep : ∀ x ∈ A, 0 ≤ x → owA told x = owA ow x
  two : ∀ x : Int, 0 ≤ x → owA told x = none ∨ owA told x = some 0 ∨ owA told x = some 1
  non : ∀ x : Int, 0 ≤ x → owA told x = none → owA ow x = none
  got : ∃ t ∈ st, owA told t ≠ none
  new : ∀ x : Int, 0 ≤ x → owA ow x = none → x ∈ st ∨ owA told x = none
structure MvI (es : List (Int × Int)) (ow : Own) (W : Ask) (tk sd : Int) (A : List Int) (told : Own) (u si : Int) (i : Nat) (M : List Int) : Prop where
  pos : At W i u
  len : told.length = ow.length
  oth : ∀ x : Int, 0 ≤ x → ¬ x ∈ M → owA told x = owA ow x
  mv : ∀ x ∈ M, ∃ (j : Nat) (y : Int) (i' : Nat), W[j]? = some (x, some y) ∧ At W i' y ∧ i ≤ i'
  uM : ¬ u ∈ M
  sg : si = 0 ∨ si = 1
  so : owA ow u ≠ some si
  cs : ∀ p q, Cn (sub es (u :: tof told (some si))) p q ↔ Cn (sub es (Tg ow tk sd si)) p q
  co : ∀ s : Int, (s = 0 ∨ s = 1) → s ≠ si → ∀ p q, Cn (sub es (tof told (some s))) p q ↔ Cn (sub es (Tg ow tk sd s)) p q
  ls : (tof told (some si)).length + 1 = (Tg ow tk sd si).length
  lo : ∀ s : Int, (s = 0 ∨ s = 1) → s ≠ si → (tof told (some s)).length = (Tg ow tk sd s).length
  uA : ¬ u ∈ A
  nA : ∀ x ∈ M, ¬ x ∈ A
  nn : ∀ x ∈ M, owA told x = some 0 ∨ owA told x = some 1
section
variable {m : Int} {es : List (Int × Int)} {ow : Own} {bk : Int → Int → Option (List Int)} {A st : List Int} {W : Ask} {k0 : Nat} {tk sd : Int} (hE : ∀ e ∈ es, 0 ≤ e.1 ∧ e.1 < m ∧ 0 ≤ e.2 ∧ e.2 < m) (hol : ow.length = es.length) (B : BkOk es ow bk) (hf : ∀ s : Int, (s = 0 ∨ s = 1) → rk es (tof ow (some s)) = (tof ow (some s)).length) (hA : Tight es ow A) (ho2 : ∀ x : Int, 0 ≤ x → owA ow x = none ∨ owA ow x = some 0 ∨ owA ow x = some 1) (hst : ∀ t ∈ st, owA ow t = none) (I : AsI es.length ow bk st W k0)
include hE hol B hf hA ho2 hst I in
theorem MvI.run : ∀ (f i : Nat) {told : Own} {u si : Int} {M : List Int}, i < f → i ≤ k0 → MvI es ow W tk sd A told u si i M → MvR es ow tk sd A st (mvF ow W f told (some u) (some si)) := by
  intro f
  induction f with
  | zero => intro i told u si M hi; exact absurd hi (Nat.not_lt_zero _)
  | succ f ih =>
    intro i told u si M hi hik J
    show MvR es ow tk sd A st (mvF ow W f (told.set u.toNat (some si)) (askr W u) (owA ow u))
    have hur := I.rng u J.pos.mem
    have hul : u < (told.length : Int) := by have := J.len; omega
    obtain ⟨told', et⟩ : ∃ told', told' = told.set u.toNat (some si) := ⟨_, rfl⟩
    have htl : told'.length = ow.length := by rw [et, List.length_set]; exact J.len
    have hset : ∀ x : Int, 0 ≤ x → owA told' x = if x = u then some si else owA told x := fun x x0 => by rw [et]; exact owA_set hur.1 hul x0
    have htu : owA told u = owA ow u := J.oth u hur.1 J.uM
    rw [← et]
    have hmS : ∀ x : Int, x ∈ tof told (some si) ↔ x ∈ tof told' (some si) ∧ x ≠ u := fun x => by
      rw [mem_tof, mem_tof]
      constructor
      · rintro ⟨h1, h2, h3⟩
        have hne : x ≠ u := fun z => J.so (by rw [← htu, ← z]; exact h3)
        exact ⟨⟨h1, by have := J.len; omega, by rw [hset x h1, if_neg hne]; exact h3⟩, hne⟩
      · rintro ⟨⟨h1, h2, h3⟩, hne⟩
        rw [hset x h1, if_neg hne] at h3
        exact ⟨h1, by have := J.len; omega, h3⟩
    have huS : u ∈ tof told' (some si) := mem_tof.mpr ⟨hur.1, by omega, by rw [hset u hur.1, if_pos rfl]⟩
    have hcS : ∀ p q, Cn (sub es (tof told' (some si))) p q ↔ Cn (sub es (Tg ow tk sd si)) p q := fun p q => (cnS_perm (fun x => by
      rw [List.mem_cons, hmS]
      exact ⟨fun h => (Classical.em (x = u)).elim .inl fun c => .inr ⟨h, c⟩, fun h => h.elim (fun c => c ▸ huS) And.left⟩) p q).trans (J.cs p q)
    have hlS : (tof told' (some si)).length = (Tg ow tk sd si).length := by rw [← J.ls]; exact (tof_len1 huS hmS).symm
    obtain ⟨o, eo⟩ := J.pos
    have hask : askr W u = o := askr_at I.nd eo
    rw [hask]
    have hnn : owA told' u = some 0 ∨ owA told' u = some 1 := by
      rw [hset u hur.1, if_pos rfl]
      rcases J.sg with y | y
      · exact .inl (by rw [y])
      · exact .inr (by rw [y])
    rcases I.ask i u o eo with ⟨h1, h2⟩ | ⟨y, i', s, ts, h1, h2, h3, h4, hs, hos, hk, hu⟩
    · subst h1
      have hno := hst u h2
      have hmv : mvF ow W f told' none (owA ow u) = told' := by cases f <;> rfl
      rw [hmv]
      have hoth : ∀ s : Int, s ≠ si → ∀ x : Int, 0 ≤ x → (x ∈ tof told' (some s) ↔ x ∈ tof told (some s)) := fun s hs x x0 => by
        rw [mem_tof, mem_tof, hset x x0]
        by_cases c : x = u
        · subst c
          rw [if_pos rfl, htu, hno]
          exact ⟨fun h => absurd (Option.some.inj h.2.2).symm hs, fun h => nomatch h.2.2⟩
        · rw [if_neg c, htl, J.len]
      refine ⟨htl, fun s hs p q => ?_, fun s hs => ?_, fun x hx x0 => ?_, fun x x0 => ?_, fun x x0 hx => ?_, ⟨u, h2, ?_⟩, fun x x0 hx => ?_⟩
      · by_cases c : s = si
        · rw [c]; exact hcS p q
        · exact (cnS_perm (fun x => ⟨fun h => (hoth s c x (mem_tof.mp h).1).mp h, fun h => (hoth s c x (mem_tof.mp h).1).mpr h⟩) p q).trans (J.co s hs c p q)
      · by_cases c : s = si
        · rw [c]; exact hlS
        · rw [tof_len (hoth s c)]; exact J.lo s hs c
      · have hxu : x ≠ u := fun z => J.uA (z ▸ hx)
        rw [hset x x0, if_neg hxu]
        exact J.oth x x0 fun z => J.nA x z hx
      · rw [hset x x0]
        by_cases c : x = u
        · rw [if_pos c]; rcases J.sg with y | y <;> rw [y]; exact .inr (.inl rfl); exact .inr (.inr rfl)
        · rw [if_neg c]
          by_cases d : x ∈ M
          · exact .inr (J.nn x d)
          · rw [J.oth x x0 d]; exact ho2 x x0
      · rw [hset x x0] at hx
        by_cases c : x = u
        · rw [if_pos c] at hx; cases hx
        · rw [if_neg c] at hx
          by_cases d : x ∈ M
          · rcases J.nn x d with y | y <;> rw [y] at hx <;> cases hx
          · rw [← J.oth x x0 d]; exact hx
      · rcases hnn with y | y <;> rw [y] <;> intro z <;> cases z
      · by_cases c : x = u
        · rw [c]; exact .inl h2
        · rw [hset x x0, if_neg c]
          by_cases d : x ∈ M
          · obtain ⟨j, y', i2, e1, _⟩ := J.mv x d
            rcases I.ask j x _ e1 with ⟨c1, _⟩ | ⟨_, _, s', ts', _, _, _, _, _, _, hk', hu'⟩
            · cases c1
            · have := (mem_tof.mp (B.own hk' hu')).2.2
              rw [hx] at this; cases this
          · exact .inr (by rw [J.oth x x0 d]; exact hx)
    · subst h1
      have huo := mem_tof.mp (B.own hk hu)
      have hne : s ≠ si := fun z => J.so (by rw [← z]; exact huo.2.2)
      rw [huo.2.2]
      refine ih i' (by omega) (by omega) (M := u :: M) ⟨h4, htl, fun x x0 hx => ?_, fun x hx => ?_, fun z => ?_, hs, hos, fun p q => ?_, fun s' hs' hne' p q => ?_, ?_, fun s' hs' hne' => ?_, fun z => ?_, fun x hx => ?_, fun x hx => ?_⟩
      · rw [hset x x0, if_neg (show ¬ x = u from fun z => hx (z ▸ List.mem_cons_self))]
        exact J.oth x x0 fun z => hx (List.mem_cons_of_mem _ z)
      · rcases List.mem_cons.mp hx with z | z
        · rw [z]; exact ⟨i, y, i', eo, h4, Nat.le_refl _⟩
        · obtain ⟨j, y', i2, e1, e2, e3⟩ := J.mv x z
          exact ⟨j, y', i2, e1, e2, by omega⟩
      · rcases List.mem_cons.mp z with c | c
        · have := nd_at I.nd h4 ⟨_, by rw [c]; exact eo⟩
          omega
        · obtain ⟨j, y', i2, e1, e2, e3⟩ := J.mv y c
          have ej := nd_at I.nd h4 ⟨_, e1⟩
          rcases I.ask j y _ e1 with ⟨c1, _⟩ | ⟨y2, i3, _, _, c1, c2, _, c4, _⟩
          · cases c1
          · cases c1
            have := nd_at I.nd e2 c4
            omega
      · obtain ⟨ps, Wy⟩ := B.way y s ts hk
        have hG : ∀ x ∈ ts, x ≠ u → x ∈ tof told' (some s) := fun x hx hxu => by
          have hxo := mem_tof.mp (B.own hk hx)
          refine mem_tof.mpr ⟨hxo.1, by rw [htl]; exact hxo.2.1, ?_⟩
          rw [hset x hxo.1, if_neg hxu, J.oth x hxo.1 fun hM => ?_]
          · exact hxo.2.2
          obtain ⟨j, y', i2, e1, e2, e3⟩ := J.mv x hM
          obtain ⟨ts', g1, g2⟩ := I.fin i' (by omega) y h4 s hs hos
          rw [hk] at g1
          cases g1
          obtain ⟨j', o', f1, f2⟩ := g2 x hx
          have ej := nd_at I.nd ⟨_, e1⟩ ⟨_, f1⟩
          rw [← ej, e1] at f1
          injection f1 with f1
          injection f1 with _ f1
          obtain ⟨i3, f3, f4⟩ := f2 y' f1.symm
          have := nd_at I.nd e2 f4
          omega
        refine (exch Wy hu hG p q).trans (Iff.trans (cnS_perm (fun x => ?_) p q) (J.co s hs hne p q))
        rw [List.mem_cons]
        constructor
        · rintro (c | c)
          · rw [c]; exact mem_tof.mpr ⟨hur.1, hul, htu.trans huo.2.2⟩
          · obtain ⟨c1, c2, c3⟩ := mem_tof.mp c
            rw [hset x c1] at c3
            by_cases d : x = u
            · rw [if_pos d] at c3; exact absurd (Option.some.inj c3).symm hne
            · rw [if_neg d] at c3
              exact mem_tof.mpr ⟨c1, by have := J.len; omega, c3⟩
        · intro c
          obtain ⟨c1, c2, c3⟩ := mem_tof.mp c
          by_cases d : x = u
          · exact .inl d
          · exact .inr (mem_tof.mpr ⟨c1, by have := J.len; omega, by rw [hset x c1, if_neg d]; exact c3⟩)
      · have e : s' = si := by rcases hs' with y | y <;> rcases hs with z | z <;> rcases J.sg with w | w <;> omega
        rw [e]; exact hcS p q
      · rw [← J.lo s hs hne]
        refine tof_len1 (mem_tof.mpr ⟨hur.1, hul, htu.trans huo.2.2⟩) fun x => ?_
        rw [mem_tof, mem_tof]
        constructor
        · rintro ⟨c1, c2, c3⟩
          rw [hset x c1] at c3
          by_cases d : x = u
          · rw [if_pos d] at c3; exact absurd (Option.some.inj c3).symm hne
          · rw [if_neg d] at c3
            exact ⟨⟨c1, by have := J.len; omega, c3⟩, d⟩
        · rintro ⟨⟨c1, c2, c3⟩, d⟩
          exact ⟨c1, by have := J.len; omega, by rw [hset x c1, if_neg d]; exact c3⟩
      · have e : s' = si := by rcases hs' with y | y <;> rcases hs with z | z <;> rcases J.sg with w | w <;> omega
        rw [e]; exact hlS
      · exact J.uA (hA.next hE hol B hs (hf s hs) z hk hu)
      · rcases List.mem_cons.mp hx with z | z
        · rw [z]; exact J.uA
        · exact J.nA x z
      · rcases List.mem_cons.mp hx with z | z
        · rw [z]; exact hnn
        · have hx0 : 0 ≤ x := by obtain ⟨j, y', i2, e1, _⟩ := J.mv x z; exact (I.rng x (At.mem ⟨_, e1⟩)).1
          rw [hset x hx0, if_neg (show ¬ x = u from fun w => J.uM (w ▸ z))]
          exact J.nn x z
end
end L2
namespace L2
open PySem
section
variable {m : Int} {es : List (Int × Int)} {ow : Own} {bk : Int → Int → Option (List Int)} {A st : List Int} (hE : ∀ e ∈ es, 0 ≤ e.1 ∧ e.1 < m ∧ 0 ≤ e.2 ∧ e.2 < m) (hol : ow.length = es.length) (B : BkOk es ow bk) (hf : ∀ s : Int, (s = 0 ∨ s = 1) → rk es (tof ow (some s)) = (tof ow (some s)).length) (hA : Tight es ow A)
include hE hol B hf hA in
theorem ask_tight (hno : ∀ t s, (askF ow bk st).2 = some (t, s) → ¬ Cn (sub es (tof ow (some s))) (tieOf es t).2 (tieOf es t).1) (hst : st.Nodup) (hr : ∀ t ∈ st, 0 ≤ t ∧ t < (es.length : Int)) (hs : ∀ t ∈ st, t ∈ A) : (askF ow bk st).2 = none := by
  obtain ⟨_, h2⟩ := AsI.run B.rng (ow.length + 1) (AsI.start (n := es.length) (ow := ow) (bk := bk) hst hr) (by omega)
  unfold askF at hno ⊢
  cases hc : (rnF ow bk (ow.length + 1) (st.map fun t => (t, none)) 0).2 with
  | none => rfl
  | some p =>
    obtain ⟨t, s⟩ := p
    have hnc := hno t s hc
    obtain ⟨k, I, ha, hs2, ho, hk⟩ := h2 t s hc
    generalize (rnF ow bk (ow.length + 1) (st.map fun t => (t, none)) 0).1 = W at I ha
    have all : ∀ (j : Nat) (u : Int), At W j u → u ∈ A := by
      intro j
      induction j using Nat.strongRecOn with
      | ind j ih =>
        rintro u ⟨o, e⟩
        rcases I.ask j u o e with ⟨_, h⟩ | ⟨y, i, s', ts, _, h2, _, h4, hs', _, hk', hu⟩
        · exact hs u h
        · exact hA.next hE hol B hs' (hf s' hs') (ih i h2 y h4) hk' hu
    have htA := all k t ha
    have hr := I.rng t ha.mem
    exact absurd (cnS_mono (fun x hx => (mem_inA.mp hx).1) (hA t htA s hs2)).symm hnc
end
def grS (ow : Own) (R : Ask × Option (Int × Int)) : Own := match R.2 with
  | none => ow
  | some (t, s) => mvF ow R.1 (ow.length + 1) ow (some t) (some s)
def grF (B : Own → Int → Int → Option (List Int)) (n : Nat) : Nat → Own
  | 0 => List.replicate n none
  | i + 1 => grS (grF B n i) (askF (grF B n i) (B (grF B n i)) [(i : Int)])
structure GrI (es : List (Int × Int)) (ow : Own) (i : Nat) (A : List Int) : Prop where
  len : ow.length = es.length
  two : ∀ x : Int, 0 ≤ x → owA ow x = none ∨ owA ow x = some 0 ∨ owA ow x = some 1
  fo : ∀ s : Int, (s = 0 ∨ s = 1) → rk es (tof ow (some s)) = (tof ow (some s)).length
  tgt : Tight es ow A
  rng : ∀ t ∈ A, 0 ≤ t ∧ t < (es.length : Int)
  lft : ∀ t : Int, 0 ≤ t → t < (i : Int) → owA ow t = none → t ∈ A
  nxt : ∀ t : Int, (i : Int) ≤ t → owA ow t = none
theorem owA_rep (n : Nat) (t : Int) : owA (List.replicate n none) t = none := by
  unfold owA
  rw [List.getD_eq_getElem?_getD, List.getElem?_replicate]; split <;> rfl
theorem GrI.start (es : List (Int × Int)) : GrI es (List.replicate es.length none) 0 [] := by
  have e : ∀ s : Int, tof (List.replicate es.length none) (some s) = [] := fun s => by
    refine List.eq_nil_iff_forall_not_mem.mpr fun t ht => ?_
    have := (mem_tof.mp ht).2.2
    rw [owA_rep] at this; cases this
  refine ⟨List.length_replicate .., fun x _ => .inl (owA_rep ..), fun s _ => ?_, fun u hu => (nomatch hu), fun t ht => (nomatch ht), fun t h0 h1 => by omega, fun t _ => owA_rep ..⟩
  rw [e]; exact Nat.le_antisymm (rk_le es []) (Nat.zero_le _)
theorem rk_cons {m : Int} {es : List (Int × Int)} (hE : ∀ e ∈ es, 0 ≤ e.1 ∧ e.1 < m ∧ 0 ≤ e.2 ∧ e.2 < m) {S : List Int} {t : Int} (hr : ∀ t ∈ S, 0 ≤ t ∧ t < (es.length : Int)) (t0 : 0 ≤ t) (t1 : t < (es.length : Int)) (h : ¬ Cn (sub es S) (tieOf es t).1 (tieOf es t).2) : rk es (t :: S) = rk es S + 1 := by
  rw [← rk_snoc h]
  refine rk_eq hE (fun x hx => ?_) (fun x hx => ?_) (cnS_perm fun x => ?_)
  · rcases List.mem_cons.mp hx with y | y
    · rw [y]; exact ⟨t0, t1⟩
    · exact hr x y
  · rcases List.mem_append.mp hx with y | y
    · exact hr x y
    · rw [List.mem_singleton.mp y]; exact ⟨t0, t1⟩
  · rw [List.mem_cons, List.mem_append, List.mem_singleton]; exact Or.comm
theorem GrI.step {m : Int} {es : List (Int × Int)} (hE : ∀ e ∈ es, 0 ≤ e.1 ∧ e.1 < m ∧ 0 ≤ e.2 ∧ e.2 < m) {ow : Own} {bk : Int → Int → Option (List Int)} {i : Nat} {A : List Int} (G : GrI es ow i A) (B : BkOk es ow bk) (hnc0 : ∀ t s, (askF ow bk [(i : Int)]).2 = some (t, s) → ¬ Cn (sub es (tof ow (some s))) (tieOf es t).2 (tieOf es t).1) (hi : i < es.length) : ∃ A', GrI es (grS ow (askF ow bk [(i : Int)])) (i + 1) A' := by
  have hst : ([(i : Int)] : List Int).Nodup := by simp
  have hr : ∀ t ∈ ([(i : Int)] : List Int), 0 ≤ t ∧ t < (es.length : Int) := fun t ht => by rw [List.mem_singleton.mp ht]; omega
  obtain ⟨h1, h2⟩ := AsI.run B.rng (ow.length + 1) (AsI.start (n := es.length) (ow := ow) (bk := bk) hst hr) (by rw [G.len]; omega)
  have hno : ∀ t ∈ ([(i : Int)] : List Int), owA ow t = none := fun t ht => by rw [List.mem_singleton.mp ht]; exact G.nxt _ (Int.le_refl _)
  unfold askF at hnc0 ⊢
  unfold grS
  generalize rnF ow bk (ow.length + 1) (([(i : Int)] : List Int).map fun t => (t, none)) 0 = R at h1 h2 hnc0 ⊢
  obtain ⟨W, r⟩ := R
  dsimp only at h1 h2 hnc0 ⊢
  cases r with
  | none =>
    have I := h1 rfl
    refine ⟨A ++ kys W, G.len, G.two, G.fo, G.tgt.union (I.tight G.len B), fun t ht => ?_, fun t t0 t1 hn => ?_, fun t ht => G.nxt t (by omega)⟩
    · rcases List.mem_append.mp ht with y | y
      · exact G.rng t y
      · exact I.rng t y
    · by_cases c : t < (i : Int)
      · exact List.mem_append_left _ (G.lft t t0 c hn)
      · have e : t = (i : Int) := by omega
        rw [e]; exact List.mem_append_right _ (I.sta _ (List.mem_singleton.mpr rfl))
  | some p =>
    obtain ⟨tk, sd⟩ := p
    obtain ⟨k, I, ha, hsd, hso, hk⟩ := h2 tk sd rfl
    have hrt := I.rng tk ha.mem
    have hnc : ¬ Cn (sub es (tof ow (some sd))) (tieOf es tk).1 (tieOf es tk).2 := fun c => hnc0 tk sd rfl c.symm
    have htA : ¬ tk ∈ A := fun z => hnc (cnS_mono (fun x hx => (mem_inA.mp hx).1) (G.tgt tk z sd hsd))
    have hkl : k < ow.length + 1 := by
      have := nodup_len I.nd (m := (es.length : Int)) I.rng
      unfold kys at this
      rw [List.length_map] at this
      have := ha.lt
      have := G.len
      omega
    have J : MvI es ow W tk sd A ow tk sd k [] := by
      refine ⟨ha, rfl, fun _ _ _ => rfl, fun x hx => (nomatch hx), fun z => (nomatch z), hsd, hso, fun p q => ?_, fun s hs hne p q => ?_, ?_, fun s hs hne => ?_, htA, fun x hx => (nomatch hx), fun x hx => (nomatch hx)⟩
      · unfold Tg; rw [if_pos rfl]
      · unfold Tg; rw [if_neg hne]
      · unfold Tg; rw [if_pos rfl]; rfl
      · unfold Tg; rw [if_neg hne]
    have R := J.run hE G.len B G.fo G.tgt G.two hno I (ow.length + 1) k hkl (Nat.le_refl _)
    dsimp only
    generalize mvF ow W (ow.length + 1) ow (some tk) (some sd) = told at R ⊢
    have hrg : ∀ s : Int, ∀ t ∈ Tg ow tk sd s, 0 ≤ t ∧ t < (es.length : Int) := fun s t ht => by
      have hto : ∀ t ∈ tof ow (some s), 0 ≤ t ∧ t < (es.length : Int) := fun t ht => by rw [← G.len]; exact (tof_ok ow (some s)).rng t ht
      unfold Tg at ht
      split at ht
      · rcases List.mem_cons.mp ht with y | y
        · rw [y]; exact hrt
        · exact hto t y
      · exact hto t ht
    have hTl : ∀ s : Int, (s = 0 ∨ s = 1) → rk es (Tg ow tk sd s) = (Tg ow tk sd s).length := fun s hs => by
      unfold Tg
      split
      · rename_i c
        rw [rk_cons hE (fun t ht => by rw [← G.len]; exact (tof_ok ow (some s)).rng t ht) hrt.1 hrt.2 (by rw [c]; exact hnc), G.fo s hs]; rfl
      · exact G.fo s hs
    refine ⟨A, R.len.trans G.len, R.two, fun s hs => ?_, G.tgt.same R.len fun x hx => R.keep x hx (G.rng x hx).1, G.rng, fun t t0 t1 hn => ?_, fun t ht => ?_⟩
    · rw [R.size s hs, ← hTl s hs]
      refine rk_eq hE (fun t ht => ?_) (hrg s) (R.cn s hs)
      have := (tof_ok told (some s)).rng t ht
      rw [R.len, G.len] at this
      exact this
    · by_cases c : t < (i : Int)
      · exact G.lft t t0 c (R.non t t0 hn)
      · obtain ⟨u, hu, hu2⟩ := R.got
        rw [List.mem_singleton.mp hu] at hu2
        have e : t = (i : Int) := by omega
        rw [e] at hn
        exact absurd hn hu2
    · rcases R.new t (by omega) (G.nxt t (by omega)) with y | y
      · have := List.mem_singleton.mp y
        omega
      · exact y
end L2
namespace L2
open PySem
def crN (es : List (Int × Int)) (g : Int → Int) : List Int := (upto es.length).filter fun t => decide (g (tieOf es t).1 ≠ g (tieOf es t).2)
theorem mem_crN {es : List (Int × Int)} {g : Int → Int} {t : Int} : t ∈ crN es g ↔ 0 ≤ t ∧ t < (es.length : Int) ∧ g (tieOf es t).1 ≠ g (tieOf es t).2 := by
  unfold crN
  rw [List.mem_filter, mem_upto, decide_eq_true_iff, and_assoc]
theorem upto_nd (n : Nat) : (upto n).Nodup := by
  unfold upto
  rw [List.nodup_iff_pairwise_ne, List.pairwise_map]
  exact List.pairwise_lt_range.imp fun h => by omega
theorem crN_nd (es : List (Int × Int)) (g : Int → Int) : (crN es g).Nodup := List.Pairwise.filter _ (upto_nd _)
theorem flt_two {α : Type} (p : α → Bool) : ∀ l : List α, (l.filter p).length + (l.filter fun x => !p x).length = l.length
  | [] => rfl
  | a :: l => by
    have ih := flt_two p l
    cases h : p a
    · rw [List.filter_cons_of_neg (by rw [h]; decide), List.filter_cons_of_pos (by rw [h]; rfl), List.length_cons, List.length_cons]; omega
    · rw [List.filter_cons_of_pos h, List.filter_cons_of_neg (by rw [h]; decide), List.length_cons, List.length_cons]; omega
theorem rts_mono {m : Int} {es es' : List (Int × Int)} {f f' : Int → Int} (hs : ∀ {a b : Int}, Cn es' a b → Cn es a b) (F : Lab m es f) (F' : Lab m es' f') : (rts m.toNat f).length ≤ (rts m.toNat f').length :=
  nodup_sub (asc_nd (rts_asc _ _)) fun r hr => by
    obtain ⟨r0, r1, r2⟩ := mem_rts.mp hr
    have l' := F'.low r r0 (by omega)
    have e := lab_cn F.same (hs (F'.conn r r0 (by omega)))
    have l := F.low (f' r) l'.1 (by omega)
    exact mem_rts.mpr ⟨r0, r1, by omega⟩
section
variable {m : Int} {es : List (Int × Int)} (hE : ∀ e ∈ es, 0 ≤ e.1 ∧ e.1 < m ∧ 0 ≤ e.2 ∧ e.2 < m)
include hE
theorem rk_lab {S : List Int} {f : Int → Int} (hr : ∀ t ∈ S, 0 ≤ t ∧ t < (es.length : Int)) (F : Lab m (sub es S) f) : (rts m.toNat f).length + rk es S = m.toNat := rank (ends_sub hE hr) F
theorem rk_all {S : List Int} (hr : ∀ t ∈ S, 0 ≤ t ∧ t < (es.length : Int)) : rk es S ≤ (frst es).length := by
  obtain ⟨f, F⟩ := lab_of hE
  obtain ⟨f', F'⟩ := lab_of (ends_sub hE hr)
  have h1 := rank hE F
  have h2 := rk_lab hE hr F'
  have h3 := rts_mono (fun c => c.mono (sub_mem hr)) F F'
  omega
theorem rk_app {S : List Int} (hr : ∀ t ∈ S, 0 ≤ t ∧ t < (es.length : Int)) : ∀ {L : List Int}, (∀ t ∈ L, 0 ≤ t ∧ t < (es.length : Int)) → rk es (S ++ L) ≤ rk es S + L.length := by
  intro L
  induction L generalizing S with
  | nil => intro _; rw [List.append_nil]; exact Nat.le_refl _
  | cons t L ih =>
    intro hL
    have ht := hL t List.mem_cons_self
    have hr' : ∀ x ∈ S ++ [t], 0 ≤ x ∧ x < (es.length : Int) := fun x hx => by
      rcases List.mem_append.mp hx with y | y
      · exact hr x y
      · rw [List.mem_singleton.mp y]; exact ht
    have h1 := ih hr' fun x hx => hL x (List.mem_cons_of_mem _ hx)
    have h2 : rk es (S ++ [t]) ≤ rk es S + 1 := by
      by_cases c : Cn (sub es S) (tieOf es t).1 (tieOf es t).2
      · rw [rk_eq hE hr' hr fun a b => ⟨cnS_sub fun x hx => by
          rcases List.mem_append.mp hx with y | y
          · exact cnS_tie y
          · rw [List.mem_singleton.mp y]; exact c, cnS_mono fun x hx => List.mem_append_left _ hx⟩]
        exact Nat.le_succ _
      · exact Nat.le_of_eq (rk_snoc c)
    rw [List.append_assoc] at h1
    rw [List.length_cons]
    have e : [t] ++ L = t :: L := rfl
    rw [e] at h1
    omega
theorem few_cross {ow : Own} {T T' : List Int} {f g : Int → Int} (hol : ow.length = es.length) (h2 : ∀ x : Int, 0 ≤ x → owA ow x = none ∨ owA ow x = some 0 ∨ owA ow x = some 1) (hf : ∀ s : Int, (s = 0 ∨ s = 1) → rk es (tof ow (some s)) = (tof ow (some s)).length) (hT : Tight es ow T) (hr : ∀ t ∈ T, 0 ≤ t ∧ t < (es.length : Int)) (hlf : ∀ t ∈ tof ow none, t ∈ T) (hT' : ∀ t, t ∈ T' ↔ t ∈ T) (F : Lab m es f) (L : Lab m (sub es T') g) (hne : (tof ow (some 0)).length + (tof ow (some 1)).length ≠ 2 * (m.toNat - (rts m.toNat f).length)) :
    ((crN es g).length : Int) < 2 * (((rts m.toNat g).length : Int) - (rts m.toNat f).length) := by
  have hr' : ∀ t ∈ T', 0 ≤ t ∧ t < (es.length : Int) := fun t ht => hr t ((hT' t).mp ht)
  have ro : ∀ s : Int, ∀ t ∈ tof ow (some s), 0 ≤ t ∧ t < (es.length : Int) := fun s t ht => by rw [← hol]; exact (tof_ok ow (some s)).rng t ht
  have hin : ∀ s : Int, (s = 0 ∨ s = 1) → rk es T' ≤ (inA T ow s).length := fun s hs => by
    rw [rk_eq hE hr' (S' := inA T ow s) (fun t ht => ro s t (mem_inA.mp ht).1) fun a b => ⟨cnS_sub fun t ht => hT t ((hT' t).mp ht) s hs, cnS_mono fun t ht => (hT' t).mpr (mem_inA.mp ht).2⟩]
    exact rk_le ..
  have hsz : ∀ s : Int, (inA T ow s).length + ((tof ow (some s)).filter fun t => !decide (t ∈ T)).length = (tof ow (some s)).length := fun s => flt_two _ _
  have hle : ∀ s : Int, (s = 0 ∨ s = 1) → (tof ow (some s)).length ≤ (frst es).length := fun s hs => by rw [← hf s hs]; exact rk_all hE (ro s)
  have hc : (crN es g).length ≤ ((tof ow (some 0)).filter fun t => !decide (t ∈ T)).length + ((tof ow (some 1)).filter fun t => !decide (t ∈ T)).length := by
    rw [← List.length_append]
    refine nodup_sub (crN_nd es g) fun t ht => ?_
    obtain ⟨t0, t1, t2⟩ := mem_crN.mp ht
    have hn : ¬ t ∈ T := fun z => t2 (lab_cn L.same (cnS_tie ((hT' t).mpr z)))
    have hd : (!decide (t ∈ T)) = true := by simpa using hn
    rcases h2 t t0 with y | y | y
    · exact absurd (hlf t (mem_tof.mpr ⟨t0, by omega, y⟩)) hn
    · exact List.mem_append_left _ (List.mem_filter.mpr ⟨mem_tof.mpr ⟨t0, by omega, y⟩, hd⟩)
    · exact List.mem_append_right _ (List.mem_filter.mpr ⟨mem_tof.mpr ⟨t0, by omega, y⟩, hd⟩)
  have r1 := rank hE F
  have r2 := rk_lab hE hr' L
  have a0 := hin 0 (.inl rfl)
  have a1 := hin 1 (.inr rfl)
  have b0 := hsz 0
  have b1 := hsz 1
  have c0 := hle 0 (.inl rfl)
  have c1 := hle 1 (.inr rfl)
  omega
theorem two_span {ow : Own} {f : Int → Int} (hol : ow.length = es.length) (hf : ∀ s : Int, (s = 0 ∨ s = 1) → rk es (tof ow (some s)) = (tof ow (some s)).length) (F : Lab m es f) (he : (tof ow (some 0)).length + (tof ow (some 1)).length = 2 * (m.toNat - (rts m.toNat f).length)) : Spn es (tof ow (some 0)) ∧ Spn es (tof ow (some 1)) := by
  have ro : ∀ s : Int, SetOk es.length (tof ow (some s)) := fun s => by rw [← hol]; exact tof_ok ow (some s)
  have hle : ∀ s : Int, (s = 0 ∨ s = 1) → (tof ow (some s)).length ≤ (frst es).length := fun s hs => by rw [← hf s hs]; exact rk_all hE (ro s).rng
  have r1 := rank hE F
  have c0 := hle 0 (.inl rfl)
  have c1 := hle 1 (.inr rfl)
  exact ⟨⟨ro 0, hf 0 (.inl rfl), by omega⟩, ⟨ro 1, hf 1 (.inr rfl), by omega⟩⟩
theorem span_cross {S rs : List Int} {f g : Int → Int} (hS : Spn es S) (F : Lab m es f) (hn : rs.Nodup) (hr : ∀ r ∈ rs, 0 ≤ r ∧ r < m) (hg : ∀ a ∈ rs, ∀ b ∈ rs, g a = g b → a = b) : rs.length ≤ (rts m.toNat f).length + (S.filter fun t => decide (g (tieOf es t).1 ≠ g (tieOf es t).2)).length := by
  obtain ⟨L, eL⟩ : ∃ L, L = S.filter fun t => decide (g (tieOf es t).1 ≠ g (tieOf es t).2) := ⟨_, rfl⟩
  obtain ⟨S', eS⟩ : ∃ S', S' = S.filter fun t => !decide (g (tieOf es t).1 ≠ g (tieOf es t).2) := ⟨_, rfl⟩
  have rS : ∀ t ∈ S', 0 ≤ t ∧ t < (es.length : Int) := fun t ht => by rw [eS] at ht; exact hS.ok.rng t (List.mem_filter.mp ht).1
  have rL : ∀ t ∈ L, 0 ≤ t ∧ t < (es.length : Int) := fun t ht => by rw [eL] at ht; exact hS.ok.rng t (List.mem_filter.mp ht).1
  have h1 := rk_app hE rS rL
  have h2 : rk es S = rk es (S' ++ L) := rk_eq hE hS.ok.rng (fun t ht => (List.mem_append.mp ht).elim (rS t) (rL t)) (cnS_perm fun t => by
    rw [List.mem_append, eS, eL, List.mem_filter, List.mem_filter]
    constructor
    · intro h
      cases c : decide (g (tieOf es t).1 ≠ g (tieOf es t).2)
      · exact .inl ⟨h, rfl⟩
      · exact .inr ⟨h, rfl⟩
    · exact fun h => h.elim And.left And.left)
  obtain ⟨f', F'⟩ := lab_of (ends_sub hE rS)
  have hcl : ∀ {a b : Int}, Cn (sub es S') a b → g a = g b := fun c => lab_cn (fun e he => by
    obtain ⟨t, ht, rfl⟩ := List.mem_map.mp he
    rw [eS] at ht
    have := (List.mem_filter.mp ht).2
    simpa using this) c
  have h3 : rs.length ≤ (rts m.toNat f').length := by
    have hnd : (rs.map f').Nodup := by
      rw [List.nodup_iff_pairwise_ne, List.pairwise_map]
      refine List.Pairwise.imp_of_mem (fun {a b} ha hb hne z => hne (hg a ha b hb ?_)) hn
      have l1 := F'.conn a (hr a ha).1 (hr a ha).2
      have l2 := F'.conn b (hr b hb).1 (hr b hb).2
      rw [z] at l1
      exact hcl (l1.trans l2.symm)
    have := nodup_sub hnd (l' := rts m.toNat f') fun x hx => by
      obtain ⟨r, h, rfl⟩ := List.mem_map.mp hx
      have b := hr r h
      have l := F'.low r b.1 b.2
      exact mem_rts.mpr ⟨l.1, by omega, F'.idem b.1 b.2⟩
    rw [List.length_map] at this
    exact this
  have r1 := rank hE F
  have r2 := rk_lab hE rS F'
  have h4 : rk es S = S.length := hS.acy
  have h5 := hS.all
  rw [← eL]
  omega
theorem two_cross {S0 S1 rs : List Int} {f g : Int → Int} (h0 : Spn es S0) (h1 : Spn es S1) (hd : ∀ t ∈ S0, ¬ t ∈ S1) (F : Lab m es f) (hn : rs.Nodup) (hr : ∀ r ∈ rs, 0 ≤ r ∧ r < m) (hg : ∀ a ∈ rs, ∀ b ∈ rs, g a = g b → a = b) : ¬ ((crN es g).length : Int) < 2 * ((rs.length : Int) - (rts m.toNat f).length) := fun hc => by
  have a0 := span_cross hE h0 F hn hr hg
  have a1 := span_cross hE h1 F hn hr hg
  have h2 := nodup_sub (l := (S0.filter fun t => decide (g (tieOf es t).1 ≠ g (tieOf es t).2)) ++ (S1.filter fun t => decide (g (tieOf es t).1 ≠ g (tieOf es t).2))) (l' := crN es g) (by
    rw [List.nodup_append]
    refine ⟨List.Pairwise.filter _ h0.ok.nd, List.Pairwise.filter _ h1.ok.nd, fun a ha b hb z => hd a (List.mem_filter.mp ha).1 (z ▸ (List.mem_filter.mp hb).1)⟩) fun t ht => by
      rcases List.mem_append.mp ht with y | y
      · have := h0.ok.rng t (List.mem_filter.mp y).1
        exact mem_crN.mpr ⟨this.1, this.2, of_decide_eq_true (List.mem_filter.mp y).2⟩
      · have := h1.ok.rng t (List.mem_filter.mp y).1
        exact mem_crN.mpr ⟨this.1, this.2, of_decide_eq_true (List.mem_filter.mp y).2⟩
  rw [List.length_append] at h2
  omega
end
end L2
namespace L2
open PySem PySem.Spec PyProof.Rows
section
variable {prog : Program} {w : World} {A : Around} {E : Value → Shared → Prop} {s : Shared}
theorem no_keys : typeLookup (.type "list") "keys" = pure none := by rw [typeLookup_type, builtinLookup_eq_fast]; kernel_rfl
set_option maxHeartbeats 4000000 in
theorem keys_miss {l : Addr} {o : Obj} {xs : Array Value} {k : Nat} {Q : Option Value → Shared → Prop} (ho : s.heap.get? l = some o) (hc : o.cls = .type "list") (hdat : o.data = .seq xs k) (hd : o.dict = none) (hA : A.handled = none)
    (h : ∀ h' tk, (∀ b o, s.heap.get? b = some o → h'.get? b = some o) → Q none { s with heap := h', toks := tk }) : wpAny (model prog w) A (getAttr? (.ref l) "keys") Q E s := by
  obtain ⟨c, dct, dat, sl⟩ := o
  dsimp only at hc hdat hd
  subst hc hdat hd
  have t1 : ∀ tk', Shared.TypeIs { s with toks := tk' } (.ref l) "list" := fun _ => ⟨_, ho, rfl⟩
  have g1 := F.slot_list_getattribute.lookup
  have g2 := F.slot_list_getattribute.bind (.ref l)
  have g3 := am_list_getattr_none
  have g4 := sub_AttributeError
  have M : ∀ (A' : Around) (Q' : Value → Shared → Prop) (E' : Value → Shared → Prop) (tk tok : Nat), A'.handled = none → (∀ h' tk' e, Heap.NewExcOf s.heap h' e "AttributeError" → E' (.ref e) { s with heap := h', toks := tk' }) → wpAny (model prog w) A' (call (.builtin "list.__getattribute__") [.ref l, .str "keys" tok]) Q' E' { s with toks := tk } := fun A' Q' E' tk tok hh he =>
    call_meets F.slot_list_getattribute (t1 tk) am_entry_list_getattribute (F.args_list_getattribute_2 _ _) (meets_getattribute_miss_list l xs k sl "keys" tok no_keys (by decide) (by decide)) ⟨ho, hh, fun h' tk' e hx => he h' tk' e hx.of⟩
  unfold getAttr? getAttrBy? getAttrBy
  repeat (first | assumption | exact t1 _ | refine M _ _ _ _ _ hA ?_ | wp_step)
  intro h' tk' e hx
  dsimp only
  unfold getattributeRaised
  obtain ⟨ob, fs, q1, q2, q3, q4⟩ := hx.there
  have t2 : Shared.TypeIs { s with heap := h', toks := tk' } (.ref e) "AttributeError" := ⟨_, q1, q2⟩
  repeat (first | assumption | wp_step)
  exact h h' tk' hx.keeps
end
end L2
namespace L2
open PySem PySem.Spec PyProof.Rows
section
variable {prog : Program} {w : World} {A : Around} {E : Value → Shared → Prop} {s : Shared}
theorem du_entry : entryFor table "dict.update.loop" = some Builtin.«dict.update.loop» := entryFor_of_tree (by kernel_rfl)
theorem du_plain : plainId "dict.update.loop" = true := by decide +kernel
abbrev nonK (ts : List Int) : List (Key × Value) := ts.map fun t => ((Sum.inl t : Key), Value.none)
theorem nonK_new {ts : List Int} {t : Int} (h : ¬ t ∈ ts) : stored (nonK ts) (Sum.inl t) Value.none = nonK (ts ++ [t]) := by
  unfold stored
  rw [if_neg]
  · rw [nonK, nonK, List.map_append]; rfl
  · intro hc
    obtain ⟨p, hp, e⟩ := List.any_eq_true.mp hc
    obtain ⟨u, hu, rfl⟩ := List.mem_map.mp hp
    have e' : (Sum.inl u : Key) = Sum.inl t := of_decide_eq_true e
    exact h (Sum.inl.inj e' ▸ hu)
def TupAt (h : Heap) (v : Value) (t : Int) : Prop := ∃ r o n tok, v = .ref r ∧ h.get? r = some o ∧ o.cls = .type "tuple" ∧ o.data = .seq #[.int t tok, .none] n
theorem du_round {I d l : Addr} {items : Array Value} {ts : List Int} {R : Result → Shared → Prop} (hh : A.handled = none) (hne : l ≠ I) (hd : d ≠ I) (hdl : d ≠ l) (hz : items.size = ts.length) (hts : ts.Nodup) (h9 : ts.length ≤ 900) (s0 : Shared) (hv : ∀ i v, items[i]? = some v → TupAt s0.heap v (ts.getD i 0) ∧ v ≠ .ref d ∧ v ≠ .ref I)
    (hR : ∀ h' tk, h'.DictOf (mixKind prog w) d (nonK ts) → (∀ b o, b ≠ d → b ≠ I → s0.heap.get? b = some o → h'.get? b = some o) → R (.ok (.ret .none)) { s0 with heap := h', toks := tk }) :
    ∀ (k i : Nat) (h : Heap) (tk : Nat), k + i = ts.length → h.IsListIter I l i → h.IsList l items → h.DictOf (mixKind prog w) d (nonK (ts.take i)) → (∀ b o, b ≠ d → b ≠ I → s0.heap.get? b = some o → h.get? b = some o) → codeAny (model prog w) A (.builtin "dict.update.loop" ⟨[.ref d, .ref I, rawInt i, .none], []⟩) R { s0 with heap := h, toks := tk } := by
  intro k
  induction k with
  | zero =>
    intro i h tk hk hit hl hD kp
    refine codeAny_builtin du_entry ?_
    rw [Around.under_plainId du_plain]
    have W := Walks.list (prog := prog) (w := w) (A := A.in1) hh I l hne items
    rw [hz] at W
    have N : ∀ (Q : Option Value → Shared → Prop) (E : Value → Shared → Prop), (∀ h' tk', (∀ b o, b ∉ [I] → h.get? b = some o → h'.get? b = some o) → Q none { s0 with heap := h', toks := tk' }) → wpAny (model prog w) A.in1 (pyNext (.ref I)) Q E { s0 with heap := h, toks := tk } := fun Q E hq => W.done { s0 with heap := h, toks := tk } Q E (by rw [show ts.length = i by omega]; exact ⟨hit, hl⟩) hq
    unfold Builtin.«dict.update.loop»
    repeat (first | refine N _ _ ?_ | wp_step)
    intro h' tk' kp'
    repeat wp_step
    rw [List.take_of_length_le (by omega)] at hD
    obtain ⟨o, es, ep, ho, r⟩ := hD
    exact hR h' tk' ⟨o, es, ep, kp' d o (by simp [hd]) ho, r⟩ fun b o b1 b2 q => kp' b o (by simp [b2]) (kp b o b1 b2 q)
  | succ k ih =>
    intro i h tk hk hit hl hD kp
    have hi : i < ts.length := by omega
    refine codeAny_builtin du_entry ?_
    rw [Around.under_plainId du_plain]
    have W := Walks.list (prog := prog) (w := w) (A := A.in1) hh I l hne items
    have N : ∀ (Q : Option Value → Shared → Prop) (E : Value → Shared → Prop), (∀ v h' tk', items[i]? = some v → (h'.IsListIter I l (i + 1) ∧ h'.IsList l items) → (∀ b o, b ∉ [I] → h.get? b = some o → h'.get? b = some o) → Q (some v) { s0 with heap := h', toks := tk' }) → wpAny (model prog w) A.in1 (pyNext (.ref I)) Q E { s0 with heap := h, toks := tk } := fun Q E hq => W.item i { s0 with heap := h, toks := tk } Q E (by omega) ⟨hit, hl⟩ hq
    unfold Builtin.«dict.update.loop»
    repeat (first | refine N _ _ ?_ | wp_step)
    intro v h1 tk1 hv1 hst kp1
    obtain ⟨⟨r, o, n, tok, rfl, hr, hc, hdat⟩, hvd, hvI⟩ := hv i v hv1
    have nrd : r ≠ d := fun z => hvd (by rw [z])
    have nrI : r ≠ I := fun z => hvI (by rw [z])
    have hr1 : h1.get? r = some o := kp1 r o (by simp [nrI]) (kp r o nrd nrI hr)
    have hT : Shared.TypeIs { s0 with heap := h1, toks := tk1 } (.ref r) "tuple" := ⟨_, hr1, hc⟩
    obtain ⟨t, et⟩ : ∃ t, t = ts.getD i 0 := ⟨_, rfl⟩
    have hti : ts[i]? = some t := by rw [et, List.getD_eq_getElem?_getD, List.getElem?_eq_getElem hi]; rfl
    rw [← et] at hdat
    have hD1 : h1.DictOf (mixKind prog w) d (nonK (ts.take i)) := by
      obtain ⟨o, es, ep, ho, r⟩ := hD
      exact ⟨o, es, ep, kp1 d o (by simp [hd]) ho, r⟩
    have hnt : ¬ t ∈ ts.take i := fun z => by
      obtain ⟨j, hj, e⟩ := List.mem_iff_getElem.mp z
      rw [List.length_take] at hj
      rw [List.getElem_take] at e
      rw [List.nodup_iff_pairwise_ne, List.pairwise_iff_getElem] at hts
      rw [List.getElem?_eq_getElem hi] at hti
      exact hts j i (by omega) hi (by omega) (e.trans (Option.some.inj hti).symm)
    have C : ∀ (A' : Around) (Q' : List Value → Shared → Prop) (E' : Value → Shared → Prop), Q' [.int t tok, .none] { s0 with heap := h1, toks := tk1 } → wpAny (model prog w) A' (Builtin.Dict.pairItems (.ref r)) Q' E' { s0 with heap := h1, toks := tk1 } := fun A' Q' E' hq => by
      unfold Builtin.Dict.pairItems
      refine wpAny_bind (wpAny_typeOf hT ?_)
      rw [if_pos (by decide)]
      refine wpAny_bind (wpAny_seqItems hr1 hdat ?_)
      exact wpAny_pure hq
    have C2 : ∀ (A' : Around) (Q' : Unit → Shared → Prop) (E' : Value → Shared → Prop), (∀ h', h'.DictOf (mixKind prog w) d (nonK (ts.take (i + 1))) → Heap.SameBut d h1 h' → Q' () { s0 with heap := h', toks := tk1 + 1 }) → wpAny (model prog w) A' (dictSet d (.int t tok) .none) Q' E' { s0 with heap := h1, toks := tk1 } := fun A' Q' E' hq =>
      wpAny_dictSet_pairs (knd := mixKind prog w) (k := Sum.inl t) (s := { s0 with heap := h1, toks := tk1 }) (show keyIs (Sum.inl t) (.int t tok) = true by simp [keyIs, Value.isInt]) hD1 (fun h' hd' sb => hq h' (by rw [List.take_succ, hti]; rw [nonK_new hnt] at hd'; exact hd') sb) (by
        show (nonK (ts.take i)).length ≤ sizeLine
        rw [nonK, List.length_map, List.length_take]
        exact Nat.le_trans (Nat.min_le_left _ _) (Nat.le_trans (Nat.le_of_lt hi) (Nat.le_trans h9 (by decide))))
    refine wpAny_bind (wpAny_holding (wpAny_bind (wpAny_tryCatch (C _ _ _ ?_))))
    repeat (first | refine C2 _ _ _ ?_ | wp_step)
    intro h2 hD2 sb
    repeat wp_step
    refine ⟨plainId_quiet du_plain _, ?_⟩
    have kp2 : ∀ b o, b ≠ d → h1.get? b = some o → h2.get? b = some o := fun b o hb q => by rw [sb.2 b hb]; exact q
    have e1 : rawInt ((i : Int) + 1) = rawInt ((i + 1 : Nat) : Int) := rfl
    rw [e1]
    exact ih (i + 1) h2 (tk1 + 1) (by omega) (hst.1.at fun o q => kp2 I o hd.symm q) (hst.2.at fun o q => kp2 l o hdl.symm q) hD2 fun b o b1 b2 q => kp2 b o b1 (kp1 b o (by simp [b2]) (kp b o b1 b2 q))
set_option maxHeartbeats 4000000 in
theorem call_dict_pairs {l : Addr} {items : Array Value} {ts : List Int} {Q : Value → Shared → Prop} (hh : A.handled = none) (hl : s.heap.IsList l items) (hdn : ∀ o, s.heap.get? l = some o → o.dict = none) (hz : items.size = ts.length) (hts : ts.Nodup) (h9 : ts.length ≤ 900) (hv : ∀ i v, items[i]? = some v → TupAt s.heap v (ts.getD i 0))
    (h : ∀ h' tk, h'.DictOf (mixKind prog w) s.heap.objs.size (nonK ts) → (∀ b o, s.heap.get? b = some o → h'.get? b = some o) → Q (.ref s.heap.objs.size) { s with heap := h', toks := tk }) :
    wpAny (model prog w) A (call (.type "dict") [.ref l]) Q E s := by
  apply callType_codes (Q₁ := fun obj s₁ => (obj, s₁) = (.ref s.heap.objs.size, { s with heap := s.heap.push { cls := .type "dict", data := .dict #[] } })) F.kt_called_dict (F.kt_typeCall_dict_1 _) F.entry_dict_init (kt_code_dict_new _ rfl)
  intro obj s₁ e
  cases e
  have hnew : (s.heap.push { cls := .type "dict", data := .dict #[] }).DictOf (mixKind prog w) s.heap.objs.size [] := Heap.DictOf.new s.heap
  have hTd := hnew.typeIs (s := { s with heap := s.heap.push { cls := .type "dict", data := .dict #[] } })
  refine ⟨hTd, F.args_dict_init_2 _ _, ?_⟩
  obtain ⟨s1, e1⟩ : ∃ s1 : Shared, s1 = { s with heap := s.heap.push { cls := .type "dict", data := .dict #[] } } := ⟨_, rfl⟩
  rw [← e1] at hTd ⊢
  have hl1 : s1.heap.IsList l items := by rw [e1]; exact hl.push _
  have hTl := hl1.typeIs
  have n1 : (Value.type "list" != Value.type "dict") = true := by decide
  have at1 : s1.heap.get? s.heap.objs.size = some { cls := .type "dict", data := .dict #[] } := by rw [e1]; exact Heap.get?_push_size _ rfl
  obtain ⟨ol, q1, q2, n, q3⟩ := hl1
  have hl1 : s1.heap.IsList l items := ⟨ol, q1, q2, n, q3⟩
  have hh2 : A.in1.in1.handled = none := hh
  obtain ⟨d, ed⟩ : ∃ d, d = s.heap.objs.size := ⟨_, rfl⟩
  rw [← ed] at at1 h ⊢
  have M : ∀ (Q' : Option Value → Shared → Prop) (E' : Value → Shared → Prop), (∀ h' tk, (∀ b o, s1.heap.get? b = some o → h'.get? b = some o) → Q' none { s1 with heap := h', toks := tk }) → wpAny (model prog w) A.in1.in1 (getAttr? (.ref l) "keys") Q' E' s1 := fun Q' E' hq => keys_miss q1 q2 q3 (hdn ol (by obtain ⟨o', r1, _⟩ := hl; have := Heap.get?_push_of_some (h := s.heap) { cls := .type "dict", data := .dict #[] } r1; rw [e1] at q1; rw [this] at q1; cases q1; exact r1)) hh2 hq
  unfold Builtin.«dict.__init__»
  repeat (first | refine M _ _ ?_ | with_reducible apply AutoSeq1.wpAny_loadPart' at1 | with_reducible apply AutoSeq1.wpAny_loadPart' q1 | wp_step)
  intro h2 tk2 kp2
  rw [if_pos (show (none : Option Value).isNone = true from rfl)]
  have k02 : ∀ b o, s.heap.get? b = some o → h2.get? b = some o := fun b o q => kp2 b o (by rw [e1]; exact Heap.get?_push_of_some _ q)
  have hl2 : h2.IsList l items := hl1.at fun o q => kp2 l o q
  have I1 : ∀ (Q' : Value → Shared → Prop) (E' : Value → Shared → Prop), Q' (.ref h2.objs.size) { s1 with heap := h2.push { cls := .type "list_iterator", data := .fields #[.ref l, .int 0 0] }, toks := tk2 } → wpAny (model prog w) A.in1.in1 (pyIter (.ref l)) Q' E' { s1 with heap := h2, toks := tk2 } := fun Q' E' hq => wpAny_pyIter_list (s := { s1 with heap := h2, toks := tk2 }) hl2 hq
  repeat (first | refine I1 _ _ ?_ | wp_step)
  refine ⟨plainId_quiet du_plain _, ?_⟩
  obtain ⟨h3, e3⟩ : ∃ h3, h3 = h2.push { cls := .type "list_iterator", data := .fields #[.ref l, .int 0 0] } := ⟨_, rfl⟩
  have k23 : ∀ b o, h2.get? b = some o → h3.get? b = some o := fun b o q => by rw [e3]; exact Heap.get?_push_of_some _ q
  have ld : l < d := by rw [ed]; obtain ⟨o, q, _⟩ := hl; exact Heap.lt_size q
  have dI : d < h2.objs.size := Heap.lt_size (kp2 d _ at1)
  have f1 : s1.gens = s.gens ∧ s1.drawn = s.drawn ∧ s1.os = s.os := by rw [e1]; exact ⟨rfl, rfl, rfl⟩
  rw [← e3]
  have hD0 : h3.DictOf (mixKind prog w) d (nonK (ts.take 0)) := by
    rw [← ed] at hnew
    obtain ⟨o, es, ep, ho, r⟩ := hnew
    exact ⟨o, es, ep, k23 d o (kp2 d o (by rw [e1]; exact ho)), r⟩
  refine du_round (A := A.in1) (l := l) (items := items) (ts := ts) (show A.in1.handled = none from hh) (Nat.ne_of_lt (Nat.lt_trans ld dI)) (Nat.ne_of_lt dI) (Nat.ne_of_gt ld) hz hts h9 { s1 with heap := h3, toks := tk2 } (fun i v hiv => ?_) (fun h' tk hD kp => ?_) ts.length 0 h3 tk2 rfl ⟨_, by rw [e3]; exact Heap.get?_push_size _ rfl, rfl, rfl⟩ (hl2.at fun o q => k23 l o q) hD0 (fun b o _ _ q => q)
  · obtain ⟨r, o, n, tok, rfl, hr, hc, hdat⟩ := hv i v hiv
    have rd : r < d := by rw [ed]; exact Heap.lt_size hr
    refine ⟨⟨r, o, n, tok, rfl, k23 r o (k02 r o hr), hc, hdat⟩, fun z => ?_, fun z => ?_⟩
    · injection z with z; rw [z] at rd; exact Nat.lt_irrefl _ rd
    · injection z with z; rw [z] at rd; exact Nat.lt_irrefl _ (Nat.lt_trans rd dI)
  · refine ⟨rfl, ?_⟩
    rw [f1.1, f1.2.1, f1.2.2]
    refine h h' tk hD fun b o q => kp b o (fun z => ?_) (fun z => ?_) (k23 b o (k02 b o q))
    · rw [z, ed] at q; exact absurd (Heap.lt_size q) (Nat.lt_irrefl _)
    · rw [z] at q; exact absurd (Nat.lt_trans (Heap.lt_size q) (ed ▸ dI)) (Nat.lt_irrefl _)
end
section
variable {X : Cx}
abbrev nonV (ts : List Int) : List (Key × V) := ts.map fun t => ((Sum.inl t : Key), V.non)
theorem nonKV : ∀ ts : List Int, KV (nonV ts) (nonK ts)
  | [] => .nil
  | t :: ts => .cons ⟨rfl, rfl⟩ (nonKV ts)
def NonPs (H : Hp) : List V → List Int → Prop := Paired fun v t => ∃ r, v = .ref r ∧ H r = some (.tup [.int t, .non])
theorem NonPs.tup {X : Cx} {pins : List (Addr × Obj)} {σ : St} {H : Hp} {s : Shared} (I : Inv X pins σ H s) : ∀ {us : List V} {ts : List Int} {its : List Value}, NonPs H us ts → Vals us its → its.length = ts.length ∧ ∀ i v, its[i]? = some v → TupAt s.heap v (ts.getD i 0)
  | _, _, _, .nil, .nil => ⟨rfl, fun i v h => by cases h⟩
  | _, _, _, .cons ⟨r, e1, e2⟩ ht, .cons hr rt => by
    obtain ⟨h1, h2⟩ := NonPs.tup I ht rt
    refine ⟨by rw [List.length_cons, List.length_cons, h1], fun i v h => ?_⟩
    cases i with
    | zero =>
      rw [List.getElem?_cons_zero] at h
      cases h
      subst e1
      cases hr
      obtain ⟨_, zs, rz, o, q1, q2, n, q3⟩ := (show ObjOk X.prog X.w H s.heap r (.tup _) from I.hok r _ e2)
      cases rz with
      | cons ra rb =>
        cases rb with
        | cons rc rd =>
          cases rd
          obtain ⟨tok, rfl⟩ := ra
          cases rc
          exact ⟨r, o, n, tok, rfl, q1, q2, q3⟩
    | succ i =>
      rw [List.getElem?_cons_succ] at h
      exact h2 i v h
theorem cDictP (hc : X.calm = true) : CallR X (.type "dict") (fun xs H Q => ∃ (p : Addr) (us : List V) (ts : List Int), xs = [.ref p] ∧ H p = some (.lst us) ∧ NonPs H us ts ∧ ts.Nodup ∧ ts.length ≤ 900 ∧ ∀ d, H d = none → Q (.ref d) (upd H d (.dK (nonV ts)))) := by
  intro pins s σ H xs vs Q I r h
  obtain ⟨p, us, ts, rfl, hp, hu, hn, h9, q⟩ := h
  obtain ⟨u, rfl, rx⟩ := vals1 r
  cases rx
  obtain ⟨z, its, n, rv, hl, e⟩ := I.lstM hp
  obtain ⟨h1, h2⟩ := NonPs.tup I hu rv
  refine call_dict_pairs (I.ok.hd hc) ⟨_, e, rfl, n, rfl⟩ (fun o ho => by rw [e] at ho; cases ho; rfl) (by rw [List.size_toArray]; exact h1) hn h9 (fun i v hv => h2 i v (by simpa using hv)) fun h' tk hD kp => ?_
  exact ⟨.ref s.heap.objs.size, _, I.laid (t' := tk) kp (Nat.le_refl _) (show ObjOk X.prog X.w _ h' _ (.dK (nonV ts)) from ⟨by rw [nonV, List.length_map]; exact Nat.le_of_lt (small1000 (by omega)), beq_eq_false_iff_ne.mpr (Ne.symm (Nat.ne_of_lt I.big)), nonK ts, nonKV ts, hD⟩), rfl, q _ (I.hok.fresh (Nat.le_refl _))⟩
end
end L2
namespace L2
open PySem PySem.Spec PyProof.Rows
section
variable {prog : Program} {w : World} {A : Around} {E : Value → Shared → Prop} {s : Shared}
theorem ints_of : ∀ {us : List Value} {ts : List Int}, us.length = ts.length → (∀ (i : Nat) (v : Value), us[i]? = some v → ∃ n t, ts[i]? = some n ∧ v = Value.int n t) → IntsAre us ts
  | [], [], _, _ => .nil
  | [], _ :: _, h, _ => by cases h
  | _ :: _, [], h, _ => by cases h
  | u :: us, n :: ts, h, hv => by
    obtain ⟨m, t, e1, e2⟩ := hv 0 u rfl
    rw [List.getElem?_cons_zero] at e1
    cases e1
    rw [e2]
    exact .cons _ t (ints_of (Nat.succ.inj h) fun i v hi => hv (i + 1) v hi)
theorem hint_dict {I : Addr} {Q : Bool → Shared → Prop} (hT : s.TypeIs (.ref I) "dict") (h : Q false s) : wpAny (model prog w) A (Builtin.List.listLengthHint (.ref I)) Q E s := by
  obtain ⟨f, hf⟩ : ∃ f, f = "dict.__len__" := ⟨_, rfl⟩
  have a1 := F.slot_dict_len.lookup
  have a3 : splitId f = some ("dict", "__len__") := by rw [hf]; decide +kernel
  have a4 := F.kt_sub_dict
  rw [← hf] at a1
  wp_walk
  rw [a3]
  wp_walk
  subst hf
  apply wpAny_ite_true
  · decide +kernel
  wp_walk
  exact h
theorem touch_none {L : Addr} {Q : Unit → Shared → Prop} (h0 : s.heap.get? L = some (seqObj "list" #[] 0)) (h : ∀ h' c, (∀ b o, b ≠ L → s.heap.get? b = some o → h'.get? b = some o) → h'.get? L = some (seqObj "list" #[] c) → Q () { s with heap := h' }) : wpAny (model prog w) A (Builtin.List.listTouch (.ref L)) Q E s := by
  have g1 := get?_update_seq h0 (·.push Value.none)
  have g2 := get?_update_seq g1 (·.pop)
  unfold Builtin.List.listTouch
  apply wpAny_bind
  apply wpAny_updateSeq h0 rfl _ (by decide) (by decide)
  apply wpAny_updateSeq g1 rfl _ (by decide) (by decide)
  exact h _ _ (fun b o hb q => Heap.get?_update_of_ne _ hb.symm (Heap.get?_update_of_ne _ hb.symm q)) g2
set_option maxHeartbeats 4000000 in
theorem collect_dict {d : Addr} {kvs : List (Key × Value)} {ep : Nat} {ts : List Int} {Q : List Value → Shared → Prop} (hh : A.handled = none) (hS : (d == sysModules) = false) (hD : s.heap.DictAt (mixKind prog w) d kvs ep) (hk : kvs.map (·.1) = ts.map Sum.inl) (h9 : ts.length ≤ 900)
    (h : ∀ h' tk us, (∀ b o, s.heap.get? b = some o → h'.get? b = some o) → s.heap.objs.size ≤ h'.objs.size → IntsAre us ts → Q us { s with heap := h', toks := tk }) : wpAny (model prog w) A (collect (.ref d)) Q E s := by
  have hlen : kvs.length = ts.length := by have := congrArg List.length hk; simpa using this
  obtain ⟨L, eL⟩ : ∃ L, L = s.heap.objs.size := ⟨_, rfl⟩
  have alt : d < L := by rw [eL]; obtain ⟨o, _, ho, _⟩ := hD; exact Heap.lt_size ho
  obtain ⟨s1, e1⟩ : ∃ s1 : Shared, s1 = { s with heap := s.heap.push { cls := .type "list", data := .seq #[] } } := ⟨_, rfl⟩
  have D1 : s1.heap.DictAt (mixKind prog w) d kvs ep := by rw [e1]; obtain ⟨o, es, ho, r⟩ := hD; exact ⟨o, es, Heap.get?_push_of_some _ ho, r⟩
  have z1 : s1.heap.objs.size = L + 1 := by rw [e1, eL]; exact Heap.size_push ..
  have hT : s1.TypeIs (.ref d) "dict" := D1.dictOf.typeIs
  have n1 : Builtin.List.listSameRef (.ref L) (.ref d) = false := by simp [Builtin.List.listSameRef, Nat.ne_of_gt alt]
  have n2 : (Value.type "dict" == Value.type "list") = false := by decide
  have n3 : (Value.type "dict" == Value.type "tuple") = false := by decide
  obtain ⟨s2, e2⟩ : ∃ s2 : Shared, s2 = { s1 with heap := s1.heap.push { cls := .type "dict_keyiterator", data := .fields #[.ref d, .int 0 0, .int kvs.length 0, .int ep 0] } } := ⟨_, rfl⟩
  have D2 : s2.heap.DictAt (mixKind prog w) d kvs ep := by rw [e2]; obtain ⟨o, es, ho, r⟩ := D1; exact ⟨o, es, Heap.get?_push_of_some _ ho, r⟩
  have T2 : s2.TypeIs (.ref d) "dict" := D2.dictOf.typeIs
  have C1 : ∀ (A' : Around) (E' : Value → Shared → Prop) (Q' : Value → Shared → Prop), Q' (.ref (L + 1)) s2 → wpAny (model prog w) A' (pyIter (.ref d)) Q' E' s1 := fun A' E' Q' hq => wpAny_pyIter_dict hS D1 (by rw [z1, ← e2]; exact hq)
  have C2 : ∀ (A' : Around) (E' : Value → Shared → Prop) (Q' : Bool → Shared → Prop), Q' false s2 → wpAny (model prog w) A' (Builtin.List.listLengthHint (.ref d)) Q' E' s2 := fun A' E' Q' hq => hint_dict T2 hq
  have at1 : s2.heap.get? L = some (seqObj "list" #[] 0) := by rw [e2, e1, eL]; exact Heap.get?_push_of_some _ (Heap.get?_push_size _ rfl)
  have C3 : ∀ (A' : Around) (E' : Value → Shared → Prop) (Q' : Unit → Shared → Prop), (∀ h' c, (∀ b o, b ≠ L → s2.heap.get? b = some o → h'.get? b = some o) → h'.get? L = some (seqObj "list" #[] c) → Q' () { s2 with heap := h' }) → wpAny (model prog w) A' (Builtin.List.listTouch (.ref L)) Q' E' s2 := fun A' E' Q' hq => touch_none at1 hq
  unfold collect
  apply wpAny_bind
  apply wpAny_runValue
  apply codeAny_builtin F.entry_proto_collect
  rw [Around.under_plainId F.plain_proto_collect]
  unfold Builtin.«proto.collect»
  repeat wp_step
  rw [← eL]
  refine ⟨plainId_quiet F.plain_list_iadd _, codeAny_builtin F.entry_list_iadd ?_⟩
  rw [Around.under_plainId F.plain_list_iadd]
  rw [← e1]
  unfold Builtin.«list.__iadd__»
  repeat (first | refine C1 _ _ _ ?_ | refine C2 _ _ _ ?_ | wp_step)
  apply wpAny_ite_false
  · rw [n1, n2, n3]; rfl
  repeat (first | refine C1 _ _ _ ?_ | refine C2 _ _ _ ?_ | refine C3 _ _ _ ?_ | wp_step)
  intro h3 c3 k3 at3
  obtain ⟨s3, e3⟩ : ∃ s3 : Shared, s3 = { s2 with heap := h3 } := ⟨_, rfl⟩
  rw [← e3]
  repeat wp_step
  constructor
  · exact plainId_quiet F.plain_extend_loop _
  have hh2 : A.in1.handled = none := hh
  have W := (Walks.dictKeys (knd := mixKind prog w) (A := A.in1) hh2 (L + 1) d (Nat.ne_of_lt (Nat.lt_succ_of_lt alt)) kvs ep).toS
  have nL : L ∉ [L + 1, d] := by simp [Nat.ne_of_gt alt]
  have k03 : ∀ b o, s.heap.get? b = some o → s3.heap.get? b = some o := fun b o q => by
    rw [e3]
    exact k3 b o (by rw [eL]; exact Nat.ne_of_lt (Heap.lt_size q)) (by rw [e2, e1]; exact Heap.get?_push_of_some _ (Heap.get?_push_of_some _ q))
  have f3 : s3.gens = s.gens ∧ s3.drawn = s.drawn ∧ s3.os = s.os := by rw [e3, e2, e1]; exact ⟨rfl, rfl, rfl⟩
  have I3 : s3.heap.IsKeyIter (L + 1) d 0 kvs.length ep := ⟨_, by rw [e3]; exact k3 _ _ (Nat.ne_of_gt (Nat.lt_succ_self _)) (by rw [e2, ← z1]; exact Heap.get?_push_size _ rfl), rfl, rfl⟩
  have D3 : s3.heap.DictAt (mixKind prog w) d kvs ep := by rw [e3]; obtain ⟨o, es, ho, r⟩ := D2; exact ⟨o, es, k3 _ _ (Nat.ne_of_lt alt) ho, r⟩
  refine codeAny_extend_loopS W (by rw [hlen]; exact Nat.le_trans h9 (by decide)) L nL _ kvs.length 0 s3 #[] c3 rfl (Nat.zero_le _) ⟨I3, D3⟩ (by rw [e3]; exact at3) (ItemsOf.nil _) fun s' acc c mv at2 all => ?_
  have hus : IntsAre acc.toList ts := ints_of (by rw [Array.length_toList, all.1]; exact hlen) fun i v hv => by
    rw [Array.getElem?_toList] at hv
    obtain ⟨k, x, e1, e2⟩ := all.2 i v hv
    have e3 : (kvs.map (·.1))[i]? = some k := by rw [List.getElem?_map, e1]; rfl
    rw [hk, List.getElem?_map] at e3
    cases ht : ts[i]? with
    | none => rw [ht] at e3; cases e3
    | some t =>
      rw [ht] at e3
      have e4 : Sum.inl t = k := Option.some.inj e3
      subst e4
      obtain ⟨tok, e5⟩ := Value.isInt_shape (show Value.isInt t v = true from e2)
      exact ⟨t, tok, rfl, e5⟩
  obtain ⟨h', gs, dr, tk, os⟩ := s'
  have x1 : gs = s.gens := mv.gens.trans f3.1
  have x2 : dr = s.drawn := mv.drawn.trans f3.2.1
  have x3 : os = s.os := mv.os.trans f3.2.2
  subst x1 x2 x3
  dsimp only
  refine wpAny_bind (wpAny_load at2 (wpAny_pure ?_))
  refine h h' tk acc.toList (fun b o q => mv.heap b o ?_ (k03 b o q)) ?_ hus
  · have lt : b < L := by rw [eL]; exact Heap.lt_size q
    simp [Nat.ne_of_lt lt, Nat.ne_of_lt (Nat.lt_succ_of_lt lt)]
  · rw [← eL]
    exact Nat.le_of_lt (Heap.lt_size at2)
set_option maxHeartbeats 4000000 in
theorem sorted_dict {d : Addr} {kvs : List (Key × Value)} {ep : Nat} {ts : List Int} {Q : Value → Shared → Prop} (hh : A.handled = none) (hS : (d == sysModules) = false) (hD : s.heap.DictAt (mixKind prog w) d kvs ep) (hk : kvs.map (·.1) = ts.map Sum.inl) (h64 : ts.length < 64)
    (h : ∀ (h' : Heap) (tk : Nat) (l : Addr) (out : Array Value) (ns' : List Int) (e : Nat), s.heap.objs.size ≤ l → (∀ b o, s.heap.get? b = some o → h'.get? b = some o) → h'.get? l = some (seqObj "list" out e) → IntsAre out.toList ns' → ns'.Perm ts → ns'.Pairwise (· ≤ ·) → Q (.ref l) { s with heap := h', toks := tk }) : wpAny (model prog w) A (call (.builtin "sorted") [.ref d]) Q E s := by
  apply Calls.call_function_entry kind_sorted plain_sorted entry_sorted (args_sorted1 _)
  unfold Builtin.«sorted»
  have hh2 : A.in1.handled = none := hh
  have C : ∀ (E' : Value → Shared → Prop) (Q' : List Value → Shared → Prop), (∀ h' tk us, (∀ b o, s.heap.get? b = some o → h'.get? b = some o) → s.heap.objs.size ≤ h'.objs.size → IntsAre us ts → Q' us { s with heap := h', toks := tk }) → wpAny (model prog w) A.in1 (collect (.ref d)) Q' E' s := fun E' Q' hq => collect_dict hh2 hS hD hk (by omega) hq
  repeat (first | refine C _ _ ?_ | wp_step)
  intro h1 tk1 us kp1 z1 m1
  obtain ⟨s1, e1⟩ : ∃ s1 : Shared, s1 = { s with heap := h1.push (seqObj "list" us.toArray 0), toks := tk1 } := ⟨_, rfl⟩
  have at1 : s1.heap.get? h1.objs.size = some (seqObj "list" us.toArray 0) := by rw [e1]; exact Heap.get?_push_size _ rfl
  have hol : us.length < 64 := by rw [m1.length]; exact h64
  have C2 : ∀ (E' : Value → Shared → Prop) (Q' : Value → Shared → Prop), (∀ (out : Array Value) (ns' : List Int), IntsAre out.toList ns' → ns'.Perm ts → ns'.Pairwise (· ≤ ·) → Q' .none { s1 with heap := sortedHeap s1.heap h1.objs.size us out }) → wpAny (model prog w) A.in1 (call (.builtin "list.sort") [.ref h1.objs.size]) Q' E' s1 := fun E' Q' hq =>
    wpAny_call_entry slot_list_sort ⟨_, at1, rfl⟩ entry_list_sort (list_sort_tree at1 m1 hol fun out ns' a1 a2 a3 => ⟨_, rfl, hq out ns' a1 a2 a3⟩) (args_list_sort _)
  apply wpAny_bind
  refine wpAny_newList ?_ (Nat.le_trans (Nat.le_of_lt hol) (by decide))
  rw [← e1]
  repeat (first | refine C2 _ _ ?_ | wp_step)
  intro out ns' b1 b2 b3
  obtain ⟨e, he⟩ := sortedHeap_at at1 (out := out)
  subst e1
  refine wpAny_pure ⟨_, rfl, h _ tk1 h1.objs.size out ns' e z1 (fun b o q => ?_) he b1 b2 b3⟩
  have lt := Heap.lt_size (kp1 b o q)
  rw [sortedHeap_old (Nat.ne_of_lt lt) (by rw [size_push']; exact Nat.lt_succ_of_lt lt)]
  exact Heap.get?_push_of_some _ (kp1 b o q)
end
section
variable {X : Cx}
theorem kv_keys {κ : Type} : ∀ {kvs : List (κ × V)} {vs : List (κ × Value)}, KV kvs vs → vs.map (·.1) = kvs.map (·.1)
  | _, _, .nil => rfl
  | _, _, .cons h t => by rw [List.map_cons, List.map_cons, kv_keys t, h.1]
theorem cSortedD (hc : X.calm = true) : CallR X (.builtin "sorted") (fun xs H Q => ∃ (d : Addr) (kvs : List (Key × V)) (ts : List Int), xs = [.ref d] ∧ H d = some (.dK kvs) ∧ kvs.map (·.1) = ts.map Sum.inl ∧ ts.length < 64 ∧ ∀ (l : Addr) (ns' : List Int), H l = none → ns'.Perm ts → ns'.Pairwise (· ≤ ·) → Q (.ref l) (upd H l (.lst (ns'.map V.int)))) := by
  intro pins s σ H xs us Q I r h
  obtain ⟨d, kvs, ts, rfl, hd, hk, h64, q⟩ := h
  obtain ⟨u, rfl, rx⟩ := vals1 r
  cases rx
  obtain ⟨hz, hS, vs, rel, o, es, ep, dd⟩ := dk_of I.hok hd
  refine sorted_dict (I.ok.hd hc) hS (ep := ep) ⟨o, es, dd⟩ ((kv_keys rel).trans hk) h64 fun h' tk l out ns' e hl keep at1 a1 a2 a3 => ?_
  have hl' := a2.length_eq
  exact ⟨.ref _, _, I.laid (t' := tk) keep hl (show ObjOk X.prog X.w _ h' _ (.lst (ns'.map V.int)) from ⟨by rw [List.length_map]; exact Nat.le_of_lt (small1000 (by omega)), out.toList, e, IntsAre.vals a1, at1⟩), rfl, q _ ns' (I.hok.fresh hl) a2 a3⟩
end
end L2
namespace L2
open PySem PySem.Spec PyProof.Rows
theorem pe_bmK {X : Cx} {K : PySem.W.Frag} {e : Expr} {to : TE} {t : TA} {T : String} {r : V → List V → Hp → VK → Prop} (hK : X.K = K) (h : PE X e (tBM X.K T r to t)) : PE X e (tBM K T r to t) := hK ▸ h
end L2
namespace L2
open PySem
def LlA (l : Addr) (H : Hp) : List V → List (List Int) → Prop := Paired fun v ns => ∃ q, v = .ref q ∧ q ≠ l ∧ H q = some (.lst (ns.map V.int))
def RwA (l : Addr) (H : Hp) (v : V) (ls : List (List Int)) : Prop := ∃ r xs, v = .ref r ∧ r ≠ l ∧ H r = some (.lst xs) ∧ LlA l H xs ls
def RsA (l : Addr) (H : Hp) : List V → List (List (List Int)) → Prop := Paired (RwA l H)
theorem LlA.same {l : Addr} {H H' : Hp} (S : Same H H') {xs : List V} {ls : List (List Int)} (h : LlA l H xs ls) : LlA l H' xs ls := Paired.mapP h fun _ _ ⟨r, e, n, q⟩ => ⟨r, e, n, S _ _ q⟩
theorem LlA.upd {l : Addr} {H : Hp} {o : HO} {xs : List V} {ls : List (List Int)} (h : LlA l H xs ls) : LlA l (upd H l o) xs ls := Paired.mapP h fun _ _ ⟨r, e, n, q⟩ => ⟨r, e, n, by rw [upd_ne n]; exact q⟩
theorem LlA.to {l l' : Addr} {H : Hp} (hn : H l' = none) {xs : List V} {ls : List (List Int)} (h : LlA l H xs ls) : LlA l' H xs ls := Paired.mapP h fun _ _ ⟨r, e, n, q⟩ => ⟨r, e, fun z => (by rw [z, hn] at q; cases q), q⟩
theorem LlA.ll {l : Addr} {H : Hp} {xs : List V} {ls : List (List Int)} (h : LlA l H xs ls) : LlS H xs ls := Paired.mapP h fun _ _ ⟨r, e, _, q⟩ => ⟨r, e, q⟩
theorem LlA.len {l : Addr} {H : Hp} {xs : List V} {ls : List (List Int)} (h : LlA l H xs ls) : xs.length = ls.length := Paired.length h
theorem LlA.append {l : Addr} {H : Hp} : ∀ {xs ys : List V} {ls ms : List (List Int)}, LlA l H xs ls → LlA l H ys ms → LlA l H (xs ++ ys) (ls ++ ms)
  | _, _, _, _, .nil, h => h
  | _, _, _, _, .cons a t, h => .cons a (LlA.append t h)
theorem LlA.at {l : Addr} {H : Hp} {xs : List V} {ls : List (List Int)} {i : Nat} (h : LlA l H xs ls) (hi : i < ls.length) : ∃ q, xs[i]? = some (.ref q) ∧ q ≠ l ∧ H q = some (.lst ((ls.getD i []).map V.int)) := by
  induction h generalizing i with
  | nil => exact absurd hi (Nat.not_lt_zero _)
  | cons h t ih =>
    obtain ⟨q, e, n, g⟩ := h
    cases i with
    | zero => exact ⟨q, by rw [e]; rfl, n, g⟩
    | succ i => exact ih (Nat.lt_of_succ_lt_succ hi)
theorem RwA.same {l : Addr} {H H' : Hp} (S : Same H H') {v : V} {ls : List (List Int)} (h : RwA l H v ls) : RwA l H' v ls := by
  obtain ⟨r, xs, e, n, q, t⟩ := h
  exact ⟨r, xs, e, n, S _ _ q, t.same S⟩
theorem RwA.upd {l : Addr} {H : Hp} {o : HO} {v : V} {ls : List (List Int)} (h : RwA l H v ls) : RwA l (upd H l o) v ls := by
  obtain ⟨r, xs, e, n, q, t⟩ := h
  exact ⟨r, xs, e, n, by rw [upd_ne n]; exact q, t.upd⟩
theorem RwA.to {l l' : Addr} {H : Hp} (hn : H l' = none) {v : V} {ls : List (List Int)} (h : RwA l H v ls) : RwA l' H v ls := by
  obtain ⟨r, xs, e, n, q, t⟩ := h
  exact ⟨r, xs, e, fun z => (by rw [z, hn] at q; cases q), q, t.to hn⟩
theorem RsA.same {l : Addr} {H H' : Hp} (S : Same H H') {xs : List V} {ls : List (List (List Int))} (h : RsA l H xs ls) : RsA l H' xs ls := Paired.mapP h fun _ _ q => q.same S
theorem RsA.upd {l : Addr} {H : Hp} {o : HO} {xs : List V} {ls : List (List (List Int))} (h : RsA l H xs ls) : RsA l (upd H l o) xs ls := Paired.mapP h fun _ _ q => q.upd
theorem RsA.to {l l' : Addr} {H : Hp} (hn : H l' = none) {xs : List V} {ls : List (List (List Int))} (h : RsA l H xs ls) : RsA l' H xs ls := Paired.mapP h fun _ _ q => q.to hn
theorem RsA.len {l : Addr} {H : Hp} {xs : List V} {ls : List (List (List Int))} (h : RsA l H xs ls) : xs.length = ls.length := Paired.length h
theorem RsA.snoc {l : Addr} {H : Hp} {xs : List V} {ls : List (List (List Int))} {v : V} {row : List (List Int)} (h : RsA l H xs ls) (q : RwA l H v row) : RsA l H (xs ++ [v]) (ls ++ [row]) := Paired.snoc h q
theorem RsA.at {l : Addr} {H : Hp} {xs : List V} {ls : List (List (List Int))} {i : Nat} (h : RsA l H xs ls) (hi : i < ls.length) : ∃ row, ls[i]? = some row ∧ ∃ v, xs[i]? = some v ∧ RwA l H v row := by
  induction h generalizing i with
  | nil => exact absurd hi (Nat.not_lt_zero _)
  | cons h t ih =>
    cases i with
    | zero => exact ⟨_, rfl, _, rfl, h⟩
    | succ i => exact ih (Nat.lt_of_succ_lt_succ hi)
end L2
namespace Pk
open PySem L2 PyProof.Rows
def top (i : Nat) : Stmt := PySem.Challenge.pw_busyweb_k41_whole_two_forests_or_a_parti.main.body.getD i (.Pass ⟨0, 0, 0, 0⟩)
abbrev sN : Stmt := inClass (top 7) 0
abbrev sMe : Stmt := top 8
abbrev sPc : Stmt := top 9
abbrev sFe : Stmt := top 11
abbrev sFw : Stmt := top 12
abbrev sWb : Stmt := top 13
abbrev sTo : Stmt := top 15
abbrev sAf : Stmt := top 16
abbrev sMv : Stmt := top 17
abbrev sGf : Stmt := top 18
abbrev sPo : Stmt := top 19
abbrev sTf : Stmt := top 20
abbrev sIp : Stmt := top 21
abbrev sCr : Stmt := top 22
abbrev sSw : Stmt := top 23
abbrev sC : Stmt := top 25
abbrev sH : Stmt := top 26
abbrev sE : Stmt := top 27
abbrev sD : Stmt := top 28
abbrev sNm : Stmt := top 29
abbrev sFo : Stmt := top 30
abbrev sTt : Stmt := top 31
abbrev sLp : Stmt := top 32
abbrev sFs : Stmt := top 33
abbrev sPa : Stmt := top 34
abbrev sL : Stmt := top 35
structure Cs where
  Web : Addr
structure Txt (K : PySem.W.Frag) (mg : Str → Option Value) (c : Cs) : Prop where
  abs : mg "abs" = none
  all : mg "all" = none
  any : mg "any" = none
  bool : mg "bool" = none
  dict : mg "dict" = none
  enumerate : mg "enumerate" = none
  int : mg "int" = none
  isinstance : mg "isinstance" = none
  len : mg "len" = none
  list : mg "list" = none
  max : mg "max" = none
  min : mg "min" = none
  range : mg "range" = none
  sorted : mg "sorted" = none
  sum : mg "sum" = none
  tuple : mg "tuple" = none
  mWeb : mg "Web" = some (.ref c.Web)
  web : WebC K c.Web
  most_places : ∃ t, mg "MOST_PLACES" = some (.int 20 t)
  most_ties : ∃ t, mg "MOST_TIES" = some (.int 40 t)
def spLaw (K : PySem.W.Frag) : Sp := fun vs H Q _ => ∃ (a : Addr) (ns : List Int), vs = [.ref a] ∧ SqL K H a (ns.map V.int) ∧ ns.length ≤ 63 ∧ ∀ H', Q (.bl true) H'
section
variable {P : Program} {w : World} {K : PySem.W.Frag} {mg : Str → Option Value} {base : Heap} {c : Cs}
theorem scN : FnScope ["self", "many", "ties", "start", "end"] ["self", "many", "ties"] (defScope sN) := ⟨rfl, rfl, rfl, by decide +kernel, rfl, by decide +kernel, by decide +kernel⟩
theorem putF2 (m : Int) (t : Addr) : putF "ties" (.ref t) (putF "many" (.int m) []) = wFs m t := rfl
theorem ok_N {f : Addr} {fd : FuncData} (F : Fun K "__init__" "Web.__init__" sN f fd) (T : Txt K mg c) : FnOk P w K mg base CX0 1 f fd ["self", "many", "ties"] (spInit K c.Web) := by
  refine F.ok scN (fun vs H Q E h => ?_) (fun cdv A outer s H vs Q E hr h => ?_)
  · obtain ⟨x, dx, p, m, xs, es, rfl, _⟩ := h
    rfl
  · obtain ⟨x, dx, p, m, xs, es, rfl, hx, hS, hp, m1, m2, hz, hE, k⟩ := h
    have hlen := hp.len
    refine ⟨_, pss_cons (ps_if (PW.pt (pw_or (pt_cmpR op_lt (pv 1) (pe_int) (nomark _)) (pw_or (pt_cmpR op_gt (pv 1) (pe_glob (v := .int 20) (by rfl) T.most_places.choose_spec ⟨_, rfl⟩) (nomark _)) (pw_or1 (pt_cmpR op_gt (pe_callB (cLen (K := K) rfl) (by rfl) T.len PySem.boot_len (pa_cons (pv 2) pa_nil)) (pe_glob (v := .int 40) (by rfl) T.most_ties.choose_spec ⟨_, rfl⟩) (nomark _))))))
        (pss_one (ps_never)) (pss_nil))
      (pss_cons (ps_for PassesOwn.never rfl (piSeq (K := K) rfl (pv 2)) (pgTup (K := K) (n := 2) rfl rfl (pgs_cons (pg_name (i := 3) scN.nd rfl (Or.inl rfl)) (pgs_cons (pg_name (i := 4) scN.nd rfl (Or.inl rfl)) (pgs_nil))) rfl)
        (pss_one (ps_if (pt_not (PW.pt (pw_and (pt_chain op_le op_lt (pe_int) (pv 3) (pv 1)) (pw_and1 (pt_chain op_le op_lt (pe_int) (pv 4) (pv 1))))))
        (pss_one (ps_never)) (pss_nil))))
      (pss_cons (ps_fld (pv 0) (pv 1) rfl)
      (pss_one (ps_fld (pv 0) (pe_callTy (cTuple (K := K) rfl) (by rfl) T.tuple PyProof.Rows.boot_tuple (pa_cons (pe_lc (N' := ["start", "end"]) (nl := 2) (js := []) rfl (.of (osc := defScope sN) (N := ["self", "many", "ties", "start", "end"]) (by decide +kernel) rfl rfl) (piSeq (K := K) rfl (pv 2))
        (fun _ _ _ _ => pgPair (K := K) (i := 0) (j := 1) rfl rfl (show (["start", "end"] : List Str).Nodup by decide +kernel) rfl rfl rfl rfl) (fun _ _ _ _ => pif_nil)
        (fun _ _ _ _ => pe_tup (pa_cons (pv 0) (pa_cons (pv 1) pa_nil)))) pa_nil)) rfl)))), ?_⟩
    refine ⟨_, rfl, _, _, rfl, rfl, _, rfl, ?_⟩
    rw [decide_eq_false (by omega)]
    refine iteF ⟨_, rfl, _, _, rfl, rfl, _, rfl, ?_⟩
    rw [decide_eq_false (by omega)]
    refine iteF ⟨_, rfl, p, xs, rfl, hS, _, _, rfl, rfl, _, rfl, ?_⟩
    rw [decide_eq_false (by omega)]
    refine iteF ⟨_, rfl, p, xs, rfl, hS, fun J C O hC => for_by O (fun i σ H2 => H2 = H ∧ ∃ v3 v4, σ = [some (.ref x), some (.int m), some (.ref p), v3, v4]) ⟨rfl, _, _, rfl⟩ (fun i σ H2 _ h => by rw [h.1]; exact hC _ (Same.refl _)) ?_ ?_⟩
    · rintro i σ H2 hi ⟨rfl, v3, v4, rfl⟩
      obtain ⟨r, e, er, hr2, _, he⟩ := hp.at hi
      obtain ⟨b1, b2, b3, b4⟩ := hE e he
      dsimp only
      rw [er]
      refine ⟨r, _, rfl, hr2, rfl, _, _, rfl, _, _, rfl, rfl, ?_⟩
      refine ⟨_, rfl, _, _, rfl, rfl, _, rfl, ?_⟩
      rw [decide_eq_true b1]
      refine iteT ⟨_, rfl, _, _, rfl, rfl, _, rfl, ?_⟩
      rw [decide_eq_true b2]
      refine iteT ⟨_, rfl, _, _, rfl, rfl, _, rfl, ?_⟩
      rw [decide_eq_true b3]
      refine iteT ⟨_, rfl, _, _, rfl, rfl, _, rfl, ?_⟩
      rw [decide_eq_true b4]
      exact iteF ⟨rfl, _, _, rfl⟩
    · rintro σ H2 ⟨rfl, v3, v4, rfl⟩
      refine ⟨_, rfl, _, rfl, x, c.Web, dx, _, rfl, hx, T.web.cl, T.web.nM, (by show 0 < 1000; decide), ?_⟩
      have sx : SameX x H2 (upd H2 x (.ins c.Web dx (putF "many" (.int m) []))) := sameX_upd
      have hS' := hS.imp (fun y => sx.seqI hx y) (fun y => sx.tupI hx y)
      have hp' := hp.sameI sx hx
      have hx' : (upd H2 x (.ins c.Web dx (putF "many" (.int m) []))) x = some (.ins c.Web dx (putF "many" (.int m) [])) := upd_same
      generalize upd H2 x (.ins c.Web dx (putF "many" (.int m) [])) = H3 at sx hS' hp' hx'
      refine ⟨_, rfl, p, xs, rfl, hS', fun J C O hC => lc_by O (fun i ys H4 => Same H3 H4 ∧ Pairs K H4 ys (es.take i)) (Nat.le_of_lt (small1000 (by omega))) ⟨Same.refl _, .nil⟩ ?_ ?_ ?_⟩
      · rintro i ys H4 hi ⟨s4, h4⟩
        have := h4.len
        rw [List.length_take] at this
        exact ⟨hC _ s4, by omega⟩
      · rintro i ys H4 hi ⟨s4, h4⟩
        obtain ⟨r, e, er, hr2, he, _⟩ := (hp'.same s4).at hi
        have hl4 := h4.len
        rw [List.length_take] at hl4
        try dsimp only
        rw [er]
        refine ⟨r, _, rfl, hr2, rfl, _, _, rfl, _, _, rfl, rfl, wk_set2 rfl rfl, iteT ?_⟩
        refine ⟨_, rfl, _, rfl, (by show 2 ≤ sizeLine; decide), fun t ht => ⟨small1000 (by omega), _, by omega, rfl, hi, s4.next ht, ?_⟩⟩
        rw [take_snoc he]
        exact (h4.same (Same.new ht)).snoc (SqT.of upd_same)
      · rintro ys H4 ⟨s4, h4⟩ l hl
        rw [show es.take xs.length = es from List.take_of_length_le (by omega)] at h4
        refine ⟨l, ys, rfl, .inl ⟨SqL.of upd_same, fun t ht => ?_⟩⟩
        have s5 : Same H3 (upd (upd H4 l (.lst ys)) t (.tup ys)) := (s4.next hl).next ht
        refine ⟨_, rfl, x, c.Web, dx, _, rfl, s5 _ _ hx', T.web.cl, T.web.nT, (by show 1 < 1000; decide), ?_⟩
        rw [putF2]
        have hxt : t ≠ x := (ne_of_none (((s4.next hl)) _ _ hx') ht).symm
        refine k _ t ys ((sx.trans (.of s5)).trans sameX_upd) upd_same (by rw [upd_ne hxt]; exact upd_same) ?_
        exact Pairs.sameI sameX_upd (s5 _ _ hx') ((h4.same (Same.new hl)).same (Same.new ht))
def spMe (K : PySem.W.Frag) : Sp := fun vs H Q _ => ∃ (l : Addr) (a b : Int) (ls : List Int), vs = [.ref l, .int a, .int b] ∧ SqL K H l (ls.map V.int) ∧ ls.length ≤ 900 ∧ 0 ≤ a ∧ a < ls.length ∧ 0 ≤ b ∧ b < ls.length ∧
  ∀ l2 H', H l2 = none → Same H H' → H' l2 = some (.lst ((ls.map fun x => if x = max (lf ls a) (lf ls b) then min (lf ls a) (lf ls b) else x).map V.int)) → Q (.ref l2) H'
theorem imin (i j : Int) : (if j < i then j else i) = min i j := by split <;> omega
theorem imax (i j : Int) : (if j > i then j else i) = max i j := by split <;> omega
theorem scMe : FnScope ["labels", "one", "two", "low", "high"] ["labels", "one", "two"] (defScope sMe) := ⟨rfl, rfl, rfl, by decide +kernel, rfl, by decide +kernel, by decide +kernel⟩
set_option maxHeartbeats 4000000 in
theorem ok_Me {f : Addr} {fd : FuncData} (F : Fun K "merged" "merged" sMe f fd) (T : Txt K mg c) : FnOk P w K mg base CX0 1 f fd ["labels", "one", "two"] (spMe K) := by
  refine F.ok scMe (fun vs H Q E h => ?_) (fun cdv A outer s H vs Q E hr h => ?_)
  · obtain ⟨l, a, b, ls, rfl, _⟩ := h
    rfl
  · obtain ⟨l, a, b, ls, rfl, hl, hz, a0, a1, b0, b1, k⟩ := h
    refine ⟨_, pss_cons (ps_set (i := 3) scMe.nd rfl (Or.inr rfl) (pe_callB (call_min2 rfl) (by rfl) T.min PyProof.Rows.boot_min (pa_cons (pe_ix (ixL (K := K) rfl) (pv 0) (pv 1) (fun _ _ => rfl)) (pa_cons (pe_ix (ixL (K := K) rfl) (pv 0) (pv 2) (fun _ _ => rfl)) pa_nil))))
      (pss_cons (ps_set (i := 4) scMe.nd rfl (Or.inr rfl) (pe_callB (call_max2 rfl) (by rfl) T.max PyProof.Rows.boot_max (pa_cons (pe_ix (ixL (K := K) rfl) (pv 0) (pv 1) (fun _ _ => rfl)) (pa_cons (pe_ix (ixL (K := K) rfl) (pv 0) (pv 2) (fun _ _ => rfl)) pa_nil))))
      (pss_one (ps_ret (pe_lc (N' := ["label", "low", "high"]) (nl := 1) (js := [3, 4]) rfl (.of (osc := defScope sMe) (N := ["labels", "one", "two", "low", "high"]) (by decide +kernel) rfl rfl) (piSeq (K := K) rfl (pv 0))
        (fun _ _ _ _ => pg_name (i := 0) (show (["label", "low", "high"] : List Str).Nodup by decide +kernel) rfl (Or.inl rfl)) (fun _ _ _ _ => pif_nil)
        (fun _ _ _ _ => pe_ifExp (pt_cmpR op_eq (pv 0) (pv 2) (nomark _)) (pv 1) (pv 0)))))), ?_⟩
    refine ⟨_, rfl, _, rfl, l, _, _, _, rfl, rfl, hl, at_int a0 a1, _, rfl, _, rfl, l, _, _, _, rfl, rfl, hl, at_int b0 b1, _, _, rfl, ?_⟩
    refine ⟨_, rfl, _, rfl, l, _, _, _, rfl, rfl, hl, at_int a0 a1, _, rfl, _, rfl, l, _, _, _, rfl, rfl, hl, at_int b0 b1, _, _, rfl, ?_⟩
    have hf : ∀ x : Int, (if x = max (lf ls a) (lf ls b) then min (lf ls a) (lf ls b) else x) = (if x = (if ls.getD b.toNat 0 > ls.getD a.toNat 0 then ls.getD b.toNat 0 else ls.getD a.toNat 0) then (if ls.getD b.toNat 0 < ls.getD a.toNat 0 then ls.getD b.toNat 0 else ls.getD a.toNat 0) else x) := fun x => by
      rw [imin, imax]; rfl
    refine ⟨_, rfl, l, _, rfl, .inl hl, fun J C O hC => lc_by O (fun i ys H2 => H2 = H ∧ ys = ((ls.map fun x => if x = max (lf ls a) (lf ls b) then min (lf ls a) (lf ls b) else x).take i).map V.int) (by rw [List.length_map]; exact Nat.le_of_lt (small1000 (by omega))) ⟨rfl, rfl⟩ ?_ ?_ ?_⟩
    · rintro i ys H2 hi ⟨rfl, rfl⟩
      exact ⟨hC _ (Same.refl _), by rw [List.length_map, List.length_take]; omega⟩
    · rintro i ys H hi ⟨rfl, rfl⟩
      obtain ⟨v, ev, gv⟩ := getD_map_int hi
      rw [List.length_map] at hi
      dsimp only
      rw [ev]
      have fin : ∀ u, u = (if v = max (lf ls a) (lf ls b) then min (lf ls a) (lf ls b) else v) → ((ls.map fun x => if x = max (lf ls a) (lf ls b) then min (lf ls a) (lf ls b) else x).take i).map V.int ++ [V.int u] = ((ls.map fun x => if x = max (lf ls a) (lf ls b) then min (lf ls a) (lf ls b) else x).take (i + 1)).map V.int := fun u e => by
        have hv : (ls.map fun x => if x = max (lf ls a) (lf ls b) then min (lf ls a) (lf ls b) else x)[i]? = some u := by rw [List.getElem?_map, gv, e]; rfl
        rw [take_snoc hv, List.map_append]; rfl
      have hl2 : (((ls.map fun x => if x = max (lf ls a) (lf ls b) then min (lf ls a) (lf ls b) else x).take i).map V.int).length < sizeLine := small1000 (by rw [List.length_map, List.length_take]; omega)
      refine ⟨wk_set rfl, iteT ?_⟩
      refine ⟨_, rfl, _, rfl, rfl, _, rfl, ite2 (fun c1 => ?_) (fun c1 => ?_)⟩
      · refine ⟨_, rfl, hl2, _, by rw [List.length_map]; omega, rfl, by rw [List.length_map]; omega, rfl, fin _ ?_⟩
        have c1' := of_decide_eq_true c1
        injection c1' with c1'
        rw [hf, if_pos c1']
      · refine ⟨_, rfl, hl2, _, by rw [List.length_map]; omega, rfl, by rw [List.length_map]; omega, rfl, fin _ ?_⟩
        rw [hf, if_neg (fun z => c1 (decide_eq_true (by rw [z])))]
    · rintro ys H ⟨rfl, rfl⟩ l2 nl
      rw [List.length_map, List.take_of_length_le (by rw [List.length_map]; omega)]
      exact k l2 _ nl (Same.new nl) upd_same
def PcR (K : PySem.W.Frag) (H : Hp) (n : Nat) (f : Int → Int) (l : Addr) (H' : Hp) : Prop := Same H H' ∧ H l = none ∧ ∃ ad : Int → Addr, H' l = some (.lst ((rts n f).map fun r => V.ref (ad r))) ∧
  (∀ r ∈ rts n f, H (ad r) = none ∧ ad r ≠ l ∧ H' (ad r) = some (.lst ((grp n f r).map V.int))) ∧ ∀ r ∈ rts n f, ∀ r' ∈ rts n f, ad r = ad r' → r = r'
def spPc (K : PySem.W.Frag) (c : Cs) : Sp := fun vs H Q _ => ∃ (x : Addr) (m : Int) (es : List (Int × Int)), vs = [.ref x] ∧ WebAt K c.Web H x m es ∧ 1 ≤ m ∧ m ≤ 20 ∧ es.length ≤ 40 ∧ EndsIn es m ∧
  ∀ (l : Addr) (f : Int → Int) (H' : Hp), Lab m es f → PcR K H m.toNat f l H' → Q (.ref l) H'
theorem scPc : FnScope ["web", "labels", "start", "end", "groups", "place", "label"] ["web"] (defScope sPc) := ⟨rfl, rfl, rfl, by decide +kernel, rfl, by decide +kernel, by decide +kernel⟩
set_option maxHeartbeats 4000000 in
theorem ok_Pc {f : Addr} {fd : FuncData} (F : Fun K "pieces" "pieces" sPc f fd) (T : Txt K mg c) (D_Me : Def P w K mg base 1 "merged" ["labels", "one", "two"] (spMe K)) : FnOk P w K mg base CX0 2 f fd ["web"] (spPc K c) := by
  refine F.ok scPc (fun vs H Q E h => ?_) (fun cdv A outer s H vs Q E hr h => ?_)
  · obtain ⟨x, m, es, rfl, _⟩ := h
    rfl
  · obtain ⟨x, m, es, rfl, hw, m1, m2, hz, hE, k⟩ := h
    refine ⟨_, pss_cons (ps_set (i := 1) scPc.nd rfl (Or.inl rfl) (pe_listrange1 rfl rfl T.list rfl T.range (pa_cons (pMany (K := K) rfl T.web (pv 0)) pa_nil)))
      (pss_cons (ps_for PassesOwn.never rfl (piSeq (K := K) rfl (pTies (K := K) rfl T.web (pv 0))) (pgTup (K := K) (n := 2) rfl rfl (pgs_cons (pg_name (i := 2) scPc.nd rfl (Or.inl rfl)) (pgs_cons (pg_name (i := 3) scPc.nd rfl (Or.inl rfl)) (pgs_nil))) rfl)
        (pss_one (ps_set (i := 1) scPc.nd rfl (Or.inl rfl) (pe_defR D_Me hr (pa_cons (pv 1) (pa_cons (pv 2) (pa_cons (pv 3) pa_nil)))))))
      (pss_cons (ps_set (i := 4) scPc.nd rfl (Or.inl rfl) (pe_dnewK))
      (pss_cons (ps_for PassesOwn.never rfl (pi_enum (K := K) rfl rfl T.enumerate (pa_cons (pv 1) pa_nil)) (pgTup (K := K) (n := 2) rfl rfl (pgs_cons (pg_name (i := 5) scPc.nd rfl (Or.inl rfl)) (pgs_cons (pg_name (i := 6) scPc.nd rfl (Or.inl rfl)) (pgs_nil))) rfl)
        (pss_one (ps_expr (pe_bm PySem.F.plainAttrs_list PySem.F.slot_list_append PySem.F.type_list_append mt_append (pe_dsetd (pv 4) (pv 6) (pe_lst pa_nil) ⟨rfl, rfl, rfl, rfl⟩) (pa_cons (pv 5) pa_nil)))))
      (pss_one (ps_ret (pe_listvals rfl rfl T.list (pv 4))))))), ?_⟩
    refine ⟨_, rfl, x, m, es, rfl, hw, m, rfl, by omega, by omega, fun l0 nl0 => ?_⟩
    have s0 : Same H (upd H l0 (.lst (((List.range m.toNat).map fun i => 0 + ((i : Nat) : Int)).map V.int))) := Same.new nl0
    have e0 : (upd H l0 (.lst (((List.range m.toNat).map fun i => 0 + ((i : Nat) : Int)).map V.int))) l0 = some (.lst (((List.range m.toNat).map fun i => 0 + ((i : Nat) : Int)).map V.int)) := upd_same
    generalize upd H l0 (.lst (((List.range m.toNat).map fun i => 0 + ((i : Nat) : Int)).map V.int)) = H0 at s0 e0
    refine ⟨_, rfl, x, m, es, rfl, hw.same s0, fun t ys ht hp => ⟨t, ys, rfl, .inr (SqT.of ht), fun J C O hC => ?_⟩⟩
    have hpl := hp.len
    refine for_by O (fun i σ H2 => ∃ (lb : Addr) (ls : List Int) (v2 v3 : Option V), σ = [some (.ref x), some (.ref lb), v2, v3, none, none, none] ∧ Same H0 H2 ∧ H2 lb = some (.lst (ls.map V.int)) ∧ ls.length = m.toNat ∧ Lab m (es.take i) (lf ls)) ⟨l0, _, none, none, rfl, Same.refl _, e0, by rw [List.length_map, List.length_range], (Lab.nil m).congr (fun e he => (nomatch he)) fun p p0 p1 => (lf_range m.toNat p p0 (by omega)).symm⟩ (fun i σ H2 _ h => ?_) ?_ ?_
    · obtain ⟨lb, ls, v2, v3, _, s2, _⟩ := h
      exact hC _ s2
    · rintro i σ H2 hi ⟨lb, ls, v2, v3, rfl, s2, hl2, hll, hL⟩
      obtain ⟨r, e, er, hr2, ei, he⟩ := hp.at hi
      obtain ⟨b1, b2, b3, b4⟩ := hE e he
      dsimp only
      rw [er]
      refine ⟨r, _, rfl, s2.tup hr2, rfl, _, _, rfl, _, _, rfl, rfl, ?_⟩
      refine ⟨_, rfl, _, rfl, _, rfl, lb, e.1, e.2, ls, rfl, SqL.of hl2, by omega, b1, by omega, b3, by omega, fun l3 H3 nl3 s3 e3 => ?_⟩
      refine ⟨l3, _, _, _, rfl, s2.trans s3, e3, by rw [List.length_map]; exact hll, ?_⟩
      rw [take_snoc ei]
      refine (hL.merge ⟨b1, b2, b3, b4⟩).congr (fun a ha => ?_) fun p p0 p1 => (lf_map ls (fun x => if x = max (lf ls e.1) (lf ls e.2) then min (lf ls e.1) (lf ls e.2) else x) p p0 (by omega)).symm
      rcases List.mem_append.mp ha with y | y
      · exact hE a (List.mem_of_mem_take y)
      · rw [List.mem_singleton.mp y]; exact ⟨b1, b2, b3, b4⟩
    · rintro σ H2 ⟨lb, ls, v2, v3, rfl, s2, hl2, hll, hL⟩
      rw [hpl, List.take_length] at hL
      have s02 := s0.trans s2
      clear s2 s0 e0 hC O ht hp hpl
      intro d nd
      have sd : Same H (upd H2 d (.dK [])) := s02.next nd
      have hd : (upd H2 d (.dK [])) d = some (.dK []) := upd_same
      have ld : (upd H2 d (.dK [])) lb = some (.lst (ls.map V.int)) := Same.new nd _ _ hl2
      have ndH : H d = none := by
        cases e : H d with
        | none => rfl
        | some o => have := s02 _ _ e; rw [nd] at this; cases this
      generalize upd H2 d (.dK []) = H3 at sd hd ld
      have Lf : ∀ p : Int, 0 ≤ p → p < m → 0 ≤ lf ls p ∧ lf ls p ≤ p := hL.low
      have Li : ∀ p : Int, 0 ≤ p → p < m → lf ls (lf ls p) = lf ls p := fun p p0 p1 => hL.idem p0 p1
      have hlm : (ls.map V.int).length = ls.length := List.length_map ..
      refine ⟨_, rfl, false, lb, _, rfl, SqL.of ld, fun J C O hC => ?_⟩
      refine for_byP O (fun i σ H4 => ∃ (ad : Int → Addr) (v5 v6 : Option V), σ = [some (.ref x), some (.ref lb), v2, v3, some (.ref d), v5, v6] ∧ Same H H4 ∧ SameX d H3 H4 ∧ H4 d = some (.dK ((rts i (lf ls)).map fun r => ((Sum.inl r : Key), V.ref (ad r)))) ∧
        (∀ r ∈ rts i (lf ls), H3 (ad r) = none ∧ H4 (ad r) = some (.lst ((grp i (lf ls) r).map V.int))) ∧ ∀ r ∈ rts i (lf ls), ∀ r' ∈ rts i (lf ls), ad r = ad r' → r = r') ⟨fun _ => 0, none, none, rfl, sd, fun _ _ _ z => z, hd, (fun r hr => nomatch hr), (fun r hr => nomatch hr)⟩ (fun i σ H4 _ h => ?_) ?_ ?_
      · obtain ⟨ad, v5, v6, _, _, sx, _⟩ := h
        exact hC _ (SqL.of (sx _ _ (ne_of ld hd (by intro z; cases z)) ld))
      · rintro i σ H4 p hi ⟨ad, v5, v6, rfl, s4, sx4, d4, g4, inj⟩ hp4
        have hi' : i < ls.length := by omega
        dsimp only
        rw [getD_ints hi']
        have ei : ls.getD i 0 = lf ls (i : Int) := rfl
        rw [ei]
        have lo := Lf i (by omega) (by omega)
        have id1 := Li i (by omega) (by omega)
        have s5 := Same.new (o := .tup [.int (i : Nat), .int (lf ls (i : Int))]) hp4
        have t5 : (upd H4 p (.tup [.int (i : Nat), .int (lf ls (i : Int))])) p = some (.tup [.int (i : Nat), .int (lf ls (i : Int))]) := upd_same
        refine ⟨p, _, rfl, SqT.of t5, rfl, _, _, rfl, _, _, rfl, rfl, ?_⟩
        generalize upd H4 p (.tup [.int (i : Nat), .int (lf ls (i : Int))]) = H5 at s5 t5
        have d5 := s5 _ _ d4
        refine ⟨_, rfl, d, rfl, .inl ⟨_, .inl d5⟩, _, rfl, by decide, fun q nq => ?_⟩
        have s6 := Same.new (o := .lst []) nq
        have q6 : (upd H5 q (.lst [])) q = some (.lst []) := upd_same
        generalize upd H5 q (.lst []) = H6 at s6 q6
        have d6 := s6 _ _ d5
        have s46 := s5.trans s6
        have hzr := rts_len i (lf ls)
        refine ⟨_, Sum.inl (lf ls (i : Int)), d6, rfl, small1000 (by rw [List.length_map]; omega), fun v hv => ?_, fun hv => ?_⟩
        · rw [valV_key] at hv
          by_cases hm : lf ls (i : Int) ∈ rts i (lf ls)
          · rw [if_pos hm] at hv
            cases hv
            obtain ⟨n1, c1⟩ := g4 _ hm
            have c6 := s46 _ _ c1
            have hgl := grp_len i (lf ls) (lf ls (i : Int))
            have hne : ¬ lf ls (i : Int) = (i : Int) := fun z => by
              have := (mem_rts.mp hm).2.1
              omega
            have rs : rts (i + 1) (lf ls) = rts i (lf ls) := by rw [rts_succ, if_neg hne, List.append_nil]
            refine ⟨.inl ⟨rfl, _, SqL.of c6⟩, _, rfl, _, _, _, rfl, rfl, c6, small1000 (by rw [List.length_map]; omega), ?_⟩
            rw [show ((grp i (lf ls) (lf ls (i : Int))).map V.int ++ [V.int (i : Int)]) = (grp (i + 1) (lf ls) (lf ls (i : Int))).map V.int by rw [grp_succ, if_pos rfl, List.map_append]; rfl]
            have nd2 : d ≠ ad (lf ls (i : Int)) := ne_of_none hd n1
            refine ⟨ad, _, _, rfl, (s4.trans s46).upd (none_back sd n1), ?_, ?_, ?_, ?_⟩
            · intro b o hb e
              rw [upd_ne (fun z => by rw [z, n1] at e; cases e)]
              exact s46 _ _ (sx4 b o hb e)
            · rw [upd_ne nd2, rs]; exact d6
            · intro r hr
              rw [rs] at hr
              obtain ⟨n2, c2⟩ := g4 r hr
              refine ⟨n2, ?_⟩
              by_cases e : r = lf ls (i : Int)
              · rw [e]; exact upd_same
              · rw [upd_ne (fun z => e (inj _ hr _ hm z)), grp_succ, if_neg (fun z => e z.symm), List.append_nil]
                exact s46 _ _ c2
            · rw [rs]; exact inj
          · rw [if_neg hm] at hv; cases hv
        · rw [valV_key] at hv
          have hm : ¬ lf ls (i : Int) ∈ rts i (lf ls) := fun z => by rw [if_pos z] at hv; cases hv
          have hei : lf ls (i : Int) = (i : Int) := by
            by_cases z : lf ls (i : Int) < (i : Int)
            · exact absurd (mem_rts.mpr ⟨lo.1, z, id1⟩) hm
            · omega
          have rs : rts (i + 1) (lf ls) = rts i (lf ls) ++ [(i : Int)] := by rw [rts_succ, if_pos hei]
          have g0 : grp i (lf ls) (i : Int) = [] := by
            rw [List.eq_nil_iff_forall_not_mem]
            intro p' hp'
            have := mem_grp.mp hp'
            have := Lf p' this.1 (by omega)
            omega
          have pk : putK ((rts i (lf ls)).map fun r => ((Sum.inl r : Key), V.ref (ad r))) (Sum.inl (lf ls (i : Int))) (V.ref q) = (rts (i + 1) (lf ls)).map fun r => ((Sum.inl r : Key), V.ref (if r = (i : Int) then q else ad r)) := by
            rw [putK_new _ (by rw [valV_key, if_neg hm]), rs, List.map_append, hei]
            congr 1
            · refine List.map_congr_left fun r hr => ?_
              rw [if_neg (show ¬ r = (i : Int) from fun z => by have := (mem_rts.mp hr).2.1; omega)]
            · rw [List.map_cons, List.map_nil, if_pos rfl]
          rw [pk]
          have nqd : q ≠ d := (ne_of_none d5 nq).symm
          have q7 : (upd H6 d (.dK ((rts (i + 1) (lf ls)).map fun r => ((Sum.inl r : Key), V.ref (if r = (i : Int) then q else ad r))))) q = some (.lst []) := by rw [upd_ne nqd]; exact q6
          have nq3 : H3 q = none := by
            cases e : H3 q with
            | none => rfl
            | some o => have := s5 _ _ (sx4 _ _ nqd e); rw [nq] at this; cases this
          refine ⟨.inl ⟨rfl, _, SqL.of q7⟩, _, rfl, q, _, _, rfl, rfl, q7, small1000 (by decide), ?_⟩
          refine ⟨fun r => if r = (i : Int) then q else ad r, _, _, rfl, ((s4.trans s46).upd ndH).upd (none_back sd nq3), ?_, ?_, ?_, ?_⟩
          · intro b o hb e
            rw [upd_ne (fun z => by rw [z, nq3] at e; cases e), upd_ne hb]
            exact s46 _ _ (sx4 b o hb e)
          · rw [upd_ne nqd.symm]; exact upd_same
          · intro r hr
            rw [rs] at hr
            rcases List.mem_append.mp hr with y | y
            · obtain ⟨n2, c2⟩ := g4 r y
              have hne : ¬ r = (i : Int) := fun z => by have := (mem_rts.mp y).2.1; omega
              dsimp only
              rw [if_neg hne]
              refine ⟨n2, ?_⟩
              rw [upd_ne (ne_of_none (s5 _ _ c2) nq), upd_ne (fun z => by rw [z, hd] at n2; cases n2), grp_succ, if_neg (by rw [hei]; exact fun z => hne z.symm), List.append_nil]
              exact s46 _ _ c2
            · have e : r = (i : Int) := List.mem_singleton.mp y
              dsimp only
              rw [if_pos e]
              refine ⟨nq3, ?_⟩
              rw [e, grp_succ, if_pos hei, g0]
              exact upd_same
          · intro r hr r' hr' e
            rw [rs] at hr hr'
            have key : ∀ r ∈ rts i (lf ls), ad r ≠ q := fun r y z => by
              have := s5 _ _ (g4 r y).2
              rw [z, nq] at this; cases this
            dsimp only at e
            rcases List.mem_append.mp hr with y | y <;> rcases List.mem_append.mp hr' with y' | y'
            · rw [if_neg (fun z => by have := (mem_rts.mp y).2.1; omega), if_neg (fun z => by have := (mem_rts.mp y').2.1; omega)] at e
              exact inj r y r' y' e
            · rw [if_neg (fun z => by have := (mem_rts.mp y).2.1; omega), if_pos (List.mem_singleton.mp y')] at e
              exact absurd e (key r y)
            · rw [if_pos (List.mem_singleton.mp y), if_neg (fun z => by have := (mem_rts.mp y').2.1; omega)] at e
              exact absurd e.symm (key r' y')
            · rw [List.mem_singleton.mp y, List.mem_singleton.mp y']
      · rintro σ H4 ⟨ad, v5, v6, rfl, s4, sx4, d4, g4, inj⟩
        rw [hlm, hll] at d4 g4 inj
        refine ⟨_, rfl, d, _, rfl, d4, fun l nl => ?_⟩
        rw [List.map_map]
        refine k l (lf ls) _ hL ⟨s4.next nl, none_back s4 nl, ad, upd_same, fun r hr => ?_, inj⟩
        obtain ⟨n2, c2⟩ := g4 r hr
        have hne : ad r ≠ l := ne_of_none c2 nl
        exact ⟨none_back sd n2, hne, by rw [upd_ne hne]; exact c2⟩
def spFe (K : PySem.W.Frag) (c : Cs) : Sp := fun vs H Q _ => ∃ (x : Addr) (t p m : Int) (es : List (Int × Int)), vs = [.ref x, .int t, .int p] ∧ WebAt K c.Web H x m es ∧ 0 ≤ t ∧ t < (es.length : Int) ∧ Q (.int (far (tieOf es t) p)) H
theorem scFe : FnScope ["web", "tie", "place", "ends"] ["web", "tie", "place"] (defScope sFe) := ⟨rfl, rfl, rfl, by decide +kernel, rfl, by decide +kernel, by decide +kernel⟩
set_option maxHeartbeats 4000000 in
theorem ok_Fe {f : Addr} {fd : FuncData} (F : Fun K "far_end" "far_end" sFe f fd) (T : Txt K mg c) : FnOk P w K mg base CX0 1 f fd ["web", "tie", "place"] (spFe K c) := by
  refine F.ok scFe (fun vs H Q E h => ?_) (fun cdv A outer s H vs Q E hr h => ?_)
  · obtain ⟨x, t, p, m, es, rfl, _⟩ := h
    rfl
  · obtain ⟨x, t, p, m, es, rfl, hw, t0, t1, k⟩ := h
    refine ⟨_, pss_cons (ps_set (i := 3) scFe.nd rfl (Or.inl rfl) (pe_ix (ixT (K := K) rfl) (pTies (K := K) rfl T.web (pv 0)) (pv 1) (fun _ _ => rfl)))
      (pss_one (ps_ret (pe_ifExp (pt_cmpR op_eq (pe_ix (ixT (K := K) rfl) (pv 3) (pe_int) (fun _ _ => rfl)) (pv 2) (nomark _)) (pe_ix (ixT (K := K) rfl) (pv 3) (pe_int) (fun _ _ => rfl)) (pe_ix (ixT (K := K) rfl) (pv 3) (pe_int) (fun _ _ => rfl))))), ?_⟩
    refine ⟨_, rfl, x, m, es, rfl, hw, fun tt ys ht hp => ?_⟩
    obtain ⟨r, ar, hr2, _⟩ := tie_get hp t0 t1
    unfold far at k
    refine ⟨_, rfl, tt, ys, t, .ref r, rfl, rfl, SqT.of ht, ar, ?_⟩
    refine ⟨_, rfl, r, _, 0, _, rfl, rfl, hr2, rfl, _, rfl, rfl, _, rfl, ite2 (fun c1 => ?_) (fun c1 => ?_)⟩
    · have c1' := of_decide_eq_true c1
      injection c1' with c1'
      rw [if_pos c1'] at k
      exact ⟨_, rfl, r, _, 1, _, rfl, rfl, hr2, rfl, k⟩
    · rw [if_neg (fun z => c1 (decide_eq_true (by rw [z])))] at k
      exact ⟨_, rfl, r, _, 0, _, rfl, rfl, hr2, rfl, k⟩
structure FwI (H : Hp) (m : Int) (es : List (Int × Int)) (ss : List Int) (a : Int) (d r : Addr) (H2 : Hp) (rs : List Int) (ad : Int → Addr) (wy pl : Int → List Int) : Prop where
  same : Same H H2
  dd : H2 d = some (.dK (rs.map fun p => ((Sum.inl p : Key), V.ref (ad p))))
  rr : H2 r = some (.lst (rs.map V.int))
  nd : rs.Nodup
  rng : ∀ p ∈ rs, 0 ≤ p ∧ p < m
  a0 : a ∈ rs
  cell : ∀ p ∈ rs, H (ad p) = none ∧ ad p ≠ r ∧ H2 (ad p) = some (.lst ((wy p).map V.int))
  way : ∀ p ∈ rs, Way es ss a (wy p) (pl p) p ∧ ∀ q ∈ pl p, q ∈ rs
def stpF (es : List (Int × Int)) (p : Int) (S : List Int × (Int → List Int)) (t : Int) : List Int × (Int → List Int) :=
  if far (tieOf es t) p ∈ S.1 then S else (S.1 ++ [far (tieOf es t) p], fun z => if z = far (tieOf es t) p then S.2 p ++ [t] else S.2 z)
def rndF (es : List (Int × Int)) (ss : List Int) (S : List Int × (Int → List Int)) (st : Nat) : List Int × (Int → List Int) := (ss.filter fun t => atP (S.1.getD st 0) (tieOf es t)).foldl (stpF es (S.1.getD st 0)) S
def runF (es : List (Int × Int)) (ss : List Int) (b : Int) : Nat → List Int × (Int → List Int) → Nat → List Int × (Int → List Int)
  | 0, S, _ => S
  | n + 1, S, st => if b ∈ S.1 ∨ ¬ st < S.1.length then S else runF es ss b n (rndF es ss S st) (st + 1)
def fwT (es : List (Int × Int)) (ss : List Int) (a b : Int) (m : Nat) : List Int := (runF es ss b m ([a], fun _ => []) 0).2 b
theorem runF_end {es : List (Int × Int)} {ss : List Int} {b : Int} {S : List Int × (Int → List Int)} {st : Nat} (h : b ∈ S.1 ∨ ¬ st < S.1.length) : ∀ n, runF es ss b n S st = S
  | 0 => rfl
  | n + 1 => if_pos h
def spFw (K : PySem.W.Frag) (c : Cs) : Sp := fun vs H Q _ => ∃ (x q : Addr) (a b m : Int) (es : List (Int × Int)) (ss : List Int), vs = [.ref x, .ref q, .int a, .int b] ∧ WebAt K c.Web H x m es ∧ SqL K H q (ss.map V.int) ∧ (∀ t ∈ ss, 0 ≤ t ∧ t < (es.length : Int)) ∧ ss.length ≤ 900 ∧ 0 ≤ a ∧ a < m ∧ m ≤ 20 ∧ EndsIn es m ∧
  (¬ Cn (sub es ss) a b → ∀ H', Same H H' → Q .non H') ∧ (∀ l ts ps H', Same H H' → H l = none → H' l = some (.lst (ts.map V.int)) → Way es ss a ts ps b → ts = fwT es ss a b m.toNat → Q (.ref l) H')
theorem scFw : FnScope ["web", "some", "start", "goal", "ways", "reached", "step", "place", "tie", "other"] ["web", "some", "start", "goal"] (defScope sFw) := ⟨rfl, rfl, rfl, by decide +kernel, rfl, by decide +kernel, by decide +kernel⟩
set_option maxHeartbeats 8000000 in
theorem ok_Fw {f : Addr} {fd : FuncData} (F : Fun K "find_way" "find_way" sFw f fd) (T : Txt K mg c) (D_Fe : Def P w K mg base 1 "far_end" ["web", "tie", "place"] (spFe K c)) : FnOk P w K mg base CX0 2 f fd ["web", "some", "start", "goal"] (spFw K c) := by
  refine F.ok scFw (fun vs H Q E h => ?_) (fun cdv A outer s H vs Q E hr h => ?_)
  · obtain ⟨x, q, a, b, m, es, ss, rfl, _⟩ := h
    rfl
  · obtain ⟨x, q, a, b, m, es, ss, rfl, hw, hq, hss, hsl, a0, a1, m2, hE, k1, k2⟩ := h
    refine ⟨_, pss_cons (ps_set (i := 4) scFw.nd rfl (Or.inl rfl) (pe_disp (pps_cons (pv 2) (pe_lst pa_nil) (pps_nil)) rfl rfl (by simp) (by decide)))
      (pss_cons (ps_set (i := 5) scFw.nd rfl (Or.inl rfl) (pe_lst (pa_cons (pv 2) pa_nil)))
      (pss_cons (ps_set (i := 6) scFw.nd rfl (Or.inl rfl) (pe_int))
      (pss_cons (ps_while PassesOwn.never (PW.pt (pw_and (pt_cmp (pc_dnotin (hu_of hr) (pv 3) (pv 4))) (pw_and1 (pt_cmpR op_lt (pv 6) (pe_callB (cLen (K := K) rfl) (by rfl) T.len PySem.boot_len (pa_cons (pv 5) pa_nil)) (nomark _)))))
        (pss_cons (ps_set (i := 7) scFw.nd rfl (Or.inr rfl) (pe_ix (ixL (K := K) rfl) (pv 5) (pv 6) (fun _ _ => rfl)))
      (pss_cons (ps_for PassesOwn.never rfl (piSeqB (K := K) rfl (pe_lc (N' := ["one", "web", "place"]) (nl := 1) (js := [0, 7]) rfl (.of (osc := defScope sFw) (N := ["web", "some", "start", "goal", "ways", "reached", "step", "place", "tie", "other"]) (by decide +kernel) rfl rfl) (piSeq (K := K) rfl (pv 1))
        (fun _ _ _ _ => pg_name (i := 0) (show (["one", "web", "place"] : List Str).Nodup by decide +kernel) rfl (Or.inl rfl)) (fun _ _ _ _ => pif_one (pt_cmpR (opIn (K := K) rfl) (pv 2) (pe_ix (ixT (K := K) rfl) (pTies (K := K) rfl T.web (pv 1)) (pv 0) (fun _ _ => rfl)) (by with_unfolding_all rfl)))
        (fun _ _ _ _ => pv 0))) (pg_name (i := 8) scFw.nd rfl (Or.inl rfl))
        (pss_cons (ps_set (i := 9) scFw.nd rfl (Or.inl rfl) (pe_defR D_Fe hr (pa_cons (pv 0) (pa_cons (pv 8) (pa_cons (pv 7) pa_nil)))))
      (pss_one (ps_cut (ps_if (pt_cmp (pc_dnotin (hu_of hr) (pv 9) (pv 4)))
        (pss_cons (ps_dput (hu_of hr) (pv 4) (pv 9) (pe_op op_cat (pe_dget (hu_of hr) (pv 4) (pv 7) (fun _ _ => rfl)) (pe_lst (pa_cons (pv 8) pa_nil))) rfl)
      (pss_one (ps_expr (pe_bm PySem.F.plainAttrs_list PySem.F.slot_list_append PySem.F.type_list_append mt_append (pv 5) (pa_cons (pv 9) pa_nil))))) (pss_nil))))))
      (pss_one (ps_aug (i := 6) scFw.nd rfl (Or.inl rfl) (pe_int) ip_add)))))
      (pss_one (ps_ret (pe_dget1 (hu_of hr) (pv 4) (pv 3) ⟨rfl, rfl, rfl, rfl⟩)))))), ?_⟩
    intro d nd
    have s1 : Same H (upd H d (.dK [])) := Same.new nd
    have d1 : (upd H d (.dK [])) d = some (.dK []) := upd_same
    generalize upd H d (.dK []) = H1 at s1 d1
    refine ⟨_, rfl, by decide, fun l0 nl0 => ?_⟩
    have s2 := s1.next (o := .lst []) nl0
    have d2 := Same.new (o := .lst []) nl0 _ _ d1
    have e2 : (upd H1 l0 (.lst [])) l0 = some (.lst []) := upd_same
    have l0H : H l0 = none := none_back s1 nl0
    generalize upd H1 l0 (.lst []) = H2 at s2 d2 e2
    refine ⟨d2, [(Sum.inl a, .ref l0)], rfl, (by show 1 ≤ 15; decide), ?_⟩
    have d3 : (upd H2 d (.dK (mergeK [] [((Sum.inl a : Key), V.ref l0)]))) d = some (.dK ([a].map fun p => ((Sum.inl p : Key), V.ref l0))) := upd_same
    have s3 : Same H (upd H2 d (.dK (mergeK [] [((Sum.inl a : Key), V.ref l0)]))) := s2.upd nd
    have e3 : (upd H2 d (.dK (mergeK [] [((Sum.inl a : Key), V.ref l0)]))) l0 = some (.lst []) := by rw [upd_ne (ne_of_none d1 nl0).symm]; exact e2
    generalize upd H2 d (.dK (mergeK [] [((Sum.inl a : Key), V.ref l0)])) = H3 at d3 s3 e3
    refine ⟨_, rfl, (by show 1 ≤ sizeLine; decide), fun r nr => ?_⟩
    have s4 := s3.next (o := .lst [V.int a]) nr
    have d4 := Same.new (o := .lst [V.int a]) nr _ _ d3
    have e4 := Same.new (o := .lst [V.int a]) nr _ _ e3
    have r4 : (upd H3 r (.lst [V.int a])) r = some (.lst ([a].map V.int)) := upd_same
    have rH : H r = none := none_back s3 nr
    have lr : l0 ≠ r := ne_of_none e3 nr
    generalize upd H3 r (.lst [V.int a]) = H4 at s4 d4 e4 r4
    clear s3 d3 e3 s2 d2 e2 nl0 s1 d1 nr
    have drn : d ≠ r := ne_of d4 r4 (by intro z; cases z)
    refine ⟨fun n σ H2 => ∃ (rs : List Int) (st : Nat) (ad : Int → Addr) (wy pl : Int → List Int) (v7 v8 v9 : Option V), n = m.toNat - st ∧ σ = [some (.ref x), some (.ref q), some (.int a), some (.int b), some (.ref d), some (.ref r), some (.int st), v7, v8, v9] ∧ FwI H m es ss a d r H2 rs ad wy pl ∧ st ≤ rs.length ∧
      (∀ j, j < st → ∀ t ∈ ss, ((tieOf es t).1 = rs.getD j 0 ∨ (tieOf es t).2 = rs.getD j 0) → far (tieOf es t) (rs.getD j 0) ∈ rs) ∧ runF es ss b (m.toNat - st) (rs, wy) st = runF es ss b m.toNat ([a], fun _ => []) 0, ⟨m.toNat - 0, [a], 0, fun _ => l0, fun _ => [], fun _ => [], none, none, none, rfl, rfl, ?_, Nat.zero_le _, (fun j hj => absurd hj (Nat.not_lt_zero _)), rfl⟩, ?_⟩
    · refine ⟨s4, d4, r4, by simp, fun p hp => ?_, List.mem_singleton.mpr rfl, fun p hp => ⟨l0H, lr, e4⟩, fun p hp => ?_⟩
      · rw [List.mem_singleton.mp hp]; exact ⟨a0, a1⟩
      · rw [List.mem_singleton.mp hp]; exact ⟨.nil, fun q hq => nomatch hq⟩
    rintro n σ H5 ⟨rs, st, ad, wy, pl, v7, v8, v9, rfl, rfl, I, hst, clo, hrun⟩
    have hrl := nodup_len I.nd I.rng
    refine ⟨_, rfl, _, rfl, d, _, rfl, DGet.k (k := Sum.inl b) I.dd, _, rfl, ?_⟩
    rw [valV_key]
    by_cases hb : b ∈ rs
    · rw [if_pos hb]
      refine iteF (iteF ?_)
      obtain ⟨n1, _, c1⟩ := I.cell b hb
      refine ⟨_, rfl, d, rfl, .inl ⟨_, .inl I.dd⟩, _, rfl, _, DGet.k (k := Sum.inl b) I.dd, ?_⟩
      rw [valV_key, if_pos hb]
      exact k2 (ad b) (wy b) (pl b) H5 I.same n1 c1 (I.way b hb).1 (by unfold fwT; rw [← hrun, runF_end (.inl hb)])
    · rw [if_neg hb]
      refine iteT ⟨_, rfl, _, rfl, r, _, rfl, .inl (SqL.of I.rr), _, _, rfl, rfl, _, rfl, ?_⟩
      have hlm : (rs.map V.int).length = rs.length := List.length_map ..
      by_cases hlt : st < rs.length
      · rw [decide_eq_true (show (st : Int) < ((rs.map V.int).length : Int) by omega)]
        refine iteT ⟨_, fun σ' H' h => h, ?_⟩
        have hpm : rs.getD st 0 ∈ rs := by rw [List.getD_eq_getElem?_getD, List.getElem?_eq_getElem hlt]; exact List.getElem_mem hlt
        have hat : atI (rs.map V.int) (st : Int) = some (.int (rs.getD st 0)) := at_int (ns := rs) (k := (st : Int)) (by omega) (by omega)
        refine ⟨_, rfl, _, rfl, r, _, _, _, rfl, rfl, SqL.of I.rr, hat, ?_⟩
        obtain ⟨p, ep⟩ : ∃ p, p = rs.getD st 0 := ⟨_, rfl⟩
        rw [← ep] at hpm
        have hw5 := hw.same I.same
        refine ⟨_, rfl, q, _, rfl, .inl (I.same.seq hq), fun J C O hC => lc_by O (fun i ys H6 => H6 = H5 ∧ ys = ((ss.take i).filter fun t => atP (rs.getD st 0) (tieOf es t)).map V.int) (by rw [List.length_map]; exact Nat.le_of_lt (small1000 (by omega))) ⟨rfl, rfl⟩ ?_ ?_ ?_⟩
        · rintro i ys H6 hi ⟨rfl, rfl⟩
          refine ⟨hC _ (Same.refl _), ?_⟩
          rw [List.length_map]
          exact Nat.le_trans (List.length_filter_le _ _) (by rw [List.length_take]; omega)
        · rintro i ys H6 hi ⟨rfl, rfl⟩
          obtain ⟨v, ev, gv⟩ := getD_map_int hi
          rw [List.length_map] at hi
          have hv := hss v (List.mem_of_getElem? gv)
          have hyl : (((ss.take i).filter fun t => atP (rs.getD st 0) (tieOf es t)).map V.int).length < sizeLine := small1000 (by
            rw [List.length_map]
            have := List.length_filter_le (fun t => atP (rs.getD st 0) (tieOf es t)) (ss.take i)
            rw [List.length_take] at this; omega)
          try dsimp only
          rw [ev]
          refine ⟨wk_set rfl, _, rfl, _, rfl, x, m, es, rfl, hw5, fun tt ys ht hp => ?_⟩
          obtain ⟨r2, ar, hr2, _⟩ := tie_get hp hv.1 hv.2
          refine ⟨_, rfl, tt, ys, v, .ref r2, rfl, rfl, SqT.of ht, ar, r2, _, rfl, .inr hr2, rfl, rfl, _, rfl, ?_⟩
          rw [if_neg Bool.false_ne_true, show inV (V.int (rs.getD st 0)) [V.int (tieOf es v).1, V.int (tieOf es v).2] = atP (rs.getD st 0) (tieOf es v) from inV_at ..]
          refine ite2 (fun c1 => ?_) (fun c1 => ?_)
          · refine ⟨_, rfl, hyl, _, by rw [List.length_map]; omega, rfl, by rw [List.length_map]; omega, rfl, ?_⟩
            rw [take_snoc gv, List.filter_append, List.map_append, List.filter_cons_of_pos (p := fun t => atP (rs.getD st 0) (tieOf es t)) c1]; rfl
          · refine ⟨_, by rw [List.length_map]; omega, rfl, by rw [List.length_map]; omega, rfl, ?_⟩
            rw [take_snoc gv, List.filter_append, List.map_append, List.filter_cons_of_neg (p := fun t => atP (rs.getD st 0) (tieOf es t)) c1]; exact (List.append_nil _).symm
        · rintro ys H6 ⟨rfl, rfl⟩ l nl
          rw [List.length_map, List.take_length, ← ep]
          have sN := Same.new (o := .lst ((ss.filter fun t => atP p (tieOf es t)).map V.int)) nl
          have eN : (upd H6 l (.lst ((ss.filter fun t => atP p (tieOf es t)).map V.int))) l = some (.lst ((ss.filter fun t => atP p (tieOf es t)).map V.int)) := upd_same
          generalize upd H6 l (.lst ((ss.filter fun t => atP p (tieOf es t)).map V.int)) = H7 at sN eN
          obtain ⟨wy0, ewy⟩ : ∃ wy0, wy0 = wy := ⟨_, rfl⟩
          have I7 : FwI H m es ss a d r H7 rs ad wy0 pl := by
           rw [ewy]
           exact ⟨I.same.trans sN, sN _ _ I.dd, sN _ _ I.rr, I.nd, I.rng, I.a0, fun p hp => ⟨(I.cell p hp).1, (I.cell p hp).2.1, sN _ _ (I.cell p hp).2.2⟩, I.way⟩
          have nlr : l ≠ r := (ne_of_none I.rr nl).symm
          have nld : l ≠ d := (ne_of_none I.dd nl).symm
          have nlH : H l = none := none_back I.same nl
          refine ⟨false, l, _, rfl, SqL.of eN, fun J C O hC => for_by O (fun i σ H8 => ∃ (rs' : List Int) (ad : Int → Addr) (wy pl : Int → List Int) (v8 v9 : Option V), σ = [some (.ref x), some (.ref q), some (.int a), some (.int b), some (.ref d), some (.ref r), some (.int st), some (.int p), v8, v9] ∧ FwI H m es ss a d r H8 rs' ad wy pl ∧ (∃ more, rs' = rs ++ more) ∧
            H8 l = some (.lst ((ss.filter fun t => atP p (tieOf es t)).map V.int)) ∧ (∀ t ∈ (ss.filter fun t => atP p (tieOf es t)).take i, far (tieOf es t) p ∈ rs') ∧ (rs', wy) = ((ss.filter fun t => atP p (tieOf es t)).take i).foldl (stpF es p) (rs, wy0)) ⟨rs, ad, wy0, pl, _, _, rfl, I7, ⟨[], (List.append_nil _).symm⟩, eN, (fun t ht => (by simp at ht)), rfl⟩ (fun i σ H8 _ h => ?_) ?_ ?_⟩
          · obtain ⟨rs', ad, wy, pl, v8, v9, _, _, _, l8, _, _⟩ := h
            exact hC _ (SqL.of l8)
          · rintro i σ H8 hi ⟨rs', ad, wy, pl, v8, v9, rfl, I8, ⟨more, em⟩, l8, hdone, hfold⟩
            obtain ⟨v, ev, gv⟩ := getD_map_int hi
            have hvF := List.mem_filter.mp (List.mem_of_getElem? gv)
            have hv := hss v hvF.1
            have hva := atP_iff.mp hvF.2
            have hp8 : p ∈ rs' := by rw [em]; exact List.mem_append_left _ hpm
            have hw8 := hw.same I8.same
            obtain ⟨_, _, _, hte⟩ : ∃ dx t xs, tieOf es v ∈ es := ⟨0, 0, 0, by
              unfold tieOf
              rw [List.getD_eq_getElem?_getD, List.getElem?_eq_getElem (show v.toNat < es.length by omega)]; exact List.getElem_mem _⟩
            have hb4 := hE _ hte
            have hor : 0 ≤ far (tieOf es v) p ∧ far (tieOf es v) p < m := by
              unfold far; split
              · exact ⟨hb4.2.2.1, hb4.2.2.2⟩
              · exact ⟨hb4.1, hb4.2.1⟩
            try dsimp only
            rw [ev]
            refine ⟨_, rfl, _, rfl, _, rfl, x, v, p, m, es, rfl, hw8, hv.1, hv.2, ?_⟩
            obtain ⟨o, eo⟩ : ∃ o, o = far (tieOf es v) p := ⟨_, rfl⟩
            refine ⟨fun σ' H' => ∃ (rs' : List Int) (ad : Int → Addr) (wy pl : Int → List Int), σ' = [some (.ref x), some (.ref q), some (.int a), some (.int b), some (.ref d), some (.ref r), some (.int st), some (.int p), some (.int v), some (.int (far (tieOf es v) p))] ∧ FwI H m es ss a d r H' rs' ad wy pl ∧ (∃ more, rs' = rs ++ more) ∧
              H' l = some (.lst ((ss.filter fun t => atP p (tieOf es t)).map V.int)) ∧ (∀ t ∈ (ss.filter fun t => atP p (tieOf es t)).take (i + 1), far (tieOf es t) p ∈ rs') ∧ (rs', wy) = ((ss.filter fun t => atP p (tieOf es t)).take (i + 1)).foldl (stpF es p) (rs, wy0), ?_, ?_⟩
            · refine ⟨_, rfl, _, rfl, d, _, rfl, DGet.k (k := Sum.inl (far (tieOf es v) p)) I8.dd, _, rfl, ?_⟩
              rw [valV_key, ← eo]
              rw [← eo] at hor
              by_cases ho : o ∈ rs'
              · rw [if_pos ho]
                refine iteF ⟨rs', ad, wy, pl, rfl, I8, ⟨more, em⟩, l8, fun t ht => ?_, ?_⟩
                · rw [take_snoc gv] at ht
                  rcases List.mem_append.mp ht with y | y
                  · exact hdone t y
                  · rw [List.mem_singleton.mp y, ← eo]; exact ho
                · rw [take_snoc gv, List.foldl_append, ← hfold]
                  show _ = stpF es p (rs', wy) v
                  unfold stpF
                  rw [← eo, if_pos ho]
              · rw [if_neg ho]
                refine iteT ?_
                obtain ⟨n1, nr1, c1⟩ := I8.cell p hp8
                obtain ⟨wp, wq⟩ := I8.way p hp8
                have hwl : (wy p).length ≤ 20 := by
                  rw [wp.len]
                  have := nodup_len (m := m) wp.nd fun z hz => by
                    rcases List.mem_append.mp hz with y | y
                    · exact I8.rng z (wq z y)
                    · rw [List.mem_singleton.mp y]; exact I8.rng p hp8
                  rw [List.length_append] at this
                  omega
                have hrl8 := nodup_len I8.nd I8.rng
                refine ⟨_, rfl, _, rfl, d, .ref (ad p), rfl, ?_, _, rfl, (by show 1 ≤ sizeLine; decide), fun q1 nq1 => ?_⟩
                · have := DGet.k (k := Sum.inl p) I8.dd
                  rw [valV_key, if_pos hp8] at this
                  exact this
                have s9 := Same.new (o := .lst [V.int v]) nq1
                have e9 : (upd H8 q1 (.lst [V.int v])) q1 = some (.lst [V.int v]) := upd_same
                generalize upd H8 q1 (.lst [V.int v]) = H9 at s9 e9
                refine ⟨ad p, q1, _, _, rfl, rfl, s9 _ _ c1, e9, Nat.le_of_lt (small1000 (by rw [List.length_map]; show (wy p).length + 1 ≤ 1000; omega)), fun q2 nq2 => ?_⟩
                rw [show (wy p).map V.int ++ [V.int v] = (wy p ++ [v]).map V.int by rw [List.map_append]; rfl]
                have s10 := s9.next (o := .lst ((wy p ++ [v]).map V.int)) nq2
                have e10 : (upd H9 q2 (.lst ((wy p ++ [v]).map V.int))) q2 = some (.lst ((wy p ++ [v]).map V.int)) := upd_same
                generalize upd H9 q2 (.lst ((wy p ++ [v]).map V.int)) = H10 at s10 e10
                have q2H8 : H8 q2 = none := none_back s9 nq2
                have d10 := s10 _ _ I8.dd
                have r10 := s10 _ _ I8.rr
                have pk : putK (rs'.map fun p => ((Sum.inl p : Key), V.ref (ad p))) (Sum.inl o) (V.ref q2) = (rs' ++ [o]).map fun z => ((Sum.inl z : Key), V.ref (if z = o then q2 else ad z)) := by
                  rw [putK_new _ (by rw [valV_key, if_neg ho]), List.map_append]
                  congr 1
                  · refine List.map_congr_left fun z hz => ?_
                    rw [if_neg (show ¬ z = o from fun y => ho (y ▸ hz))]
                  · rw [List.map_cons, List.map_nil, if_pos rfl]
                refine ⟨_, rfl, _, rfl, d, _, rfl, DPut.k (k := Sum.inl o) d10 (small1000 (by rw [List.length_map]; omega)), ?_⟩
                rw [pk]
                have r11 : (upd H10 d (.dK ((rs' ++ [o]).map fun z => ((Sum.inl z : Key), V.ref (if z = o then q2 else ad z))))) r = some (.lst (rs'.map V.int)) := by rw [upd_ne drn.symm]; exact r10
                refine ⟨_, rfl, .inl ⟨rfl, _, SqL.of r11⟩, _, rfl, r, _, _, rfl, rfl, r11, small1000 (by rw [List.length_map]; omega), ?_⟩
                have q2r : q2 ≠ r := (ne_of_none I8.rr q2H8).symm
                have q2d : q2 ≠ d := (ne_of_none I8.dd q2H8).symm
                have lq : ∀ z ∈ rs', ad z ≠ d := fun z hz => ne_of (I8.cell z hz).2.2 I8.dd (by intro y; cases y)
                refine ⟨rs' ++ [o], fun z => if z = o then q2 else ad z, fun z => if z = o then wy p ++ [v] else wy z, fun z => if z = o then pl p ++ [p] else pl z, rfl, ⟨((I8.same.trans s10).upd nd).upd rH, ?_, ?_, nodup_snoc I8.nd ho, fun z hz => ?_, List.mem_append_left _ I8.a0, fun z hz => ?_, fun z hz => ?_⟩, ⟨more ++ [o], by rw [em, List.append_assoc]⟩, ?_, fun t ht => ?_, ?_⟩
                · rw [upd_ne drn]; exact upd_same
                · rw [show (rs' ++ [o]).map V.int = rs'.map V.int ++ [V.int o] by rw [List.map_append]; rfl]; exact upd_same
                · rcases List.mem_append.mp hz with y | y
                  · exact I8.rng z y
                  · rw [List.mem_singleton.mp y]; exact hor
                · try dsimp only
                  rcases List.mem_append.mp hz with y | y
                  · have hne : ¬ z = o := fun w => ho (w ▸ y)
                    obtain ⟨n2, nr2, c2⟩ := I8.cell z y
                    rw [if_neg hne, if_neg hne]
                    exact ⟨n2, nr2, by rw [upd_ne nr2, upd_ne (lq z y)]; exact s10 _ _ c2⟩
                  · rw [if_pos (List.mem_singleton.mp y), if_pos (List.mem_singleton.mp y)]
                    exact ⟨none_back I8.same q2H8, q2r, by rw [upd_ne q2r, upd_ne q2d]; exact e10⟩
                · try dsimp only
                  rcases List.mem_append.mp hz with y | y
                  · have hne : ¬ z = o := fun w => ho (w ▸ y)
                    rw [if_neg hne, if_neg hne]
                    exact ⟨(I8.way z y).1, fun w hw => List.mem_append_left _ ((I8.way z y).2 w hw)⟩
                  · have hzo := List.mem_singleton.mp y
                    rw [if_pos hzo, if_pos hzo, hzo, eo]
                    refine ⟨.snoc wp hvF.1 hv.1 hv.2 hva fun w => ?_, fun w hw => ?_⟩
                    · rw [← eo] at w
                      rcases List.mem_append.mp w with y | y
                      · exact ho (wq _ y)
                      · exact ho (List.mem_singleton.mp y ▸ hp8)
                    · rcases List.mem_append.mp hw with y | y
                      · exact List.mem_append_left _ (wq _ y)
                      · rw [List.mem_singleton.mp y]; exact List.mem_append_left _ hp8
                · rw [upd_ne nlr, upd_ne nld]; exact s10 _ _ l8
                · rw [take_snoc gv] at ht
                  rcases List.mem_append.mp ht with y | y
                  · exact List.mem_append_left _ (hdone t y)
                  · rw [List.mem_singleton.mp y, ← eo]; exact List.mem_append_right _ (List.mem_singleton.mpr rfl)
                · rw [take_snoc gv, List.foldl_append, ← hfold]
                  show _ = stpF es p (rs', wy) v
                  unfold stpF
                  rw [← eo, if_neg ho]
            · rintro σ' H' ⟨rs', ad, wy, pl, rfl, I', ext, l', hdone', hfold'⟩
              exact ⟨rs', ad, wy, pl, _, _, rfl, I', ext, l', hdone', hfold'⟩
          · rintro σ H8 ⟨rs', ad, wy, pl, v8, v9, rfl, I8, ⟨more, em⟩, l8, hdone, hfold⟩
            rw [List.length_map, List.take_length] at hdone hfold
            have hrl8 := nodup_len I8.nd I8.rng
            refine ⟨_, rfl, _, _, rfl, rfl, m.toNat - (st + 1), by omega, rs', st + 1, ad, wy, pl, _, _, _, rfl, rfl, I8, by rw [em, List.length_append]; omega, fun j hj t ht hta => ?_, ?_⟩
            rotate_left
            · rw [hfold, ewy, ← hrun, show m.toNat - st = (m.toNat - (st + 1)) + 1 by omega]
              show _ = if b ∈ rs ∨ ¬ st < rs.length then _ else runF es ss b (m.toNat - (st + 1)) (rndF es ss (rs, _) st) (st + 1)
              rw [if_neg (fun z => z.elim hb fun y => y hlt)]
              unfold rndF
              rw [ep]
            by_cases hjs : j < st
            · have ej : rs'.getD j 0 = rs.getD j 0 := by rw [em, List.getD_eq_getElem?_getD, List.getElem?_append_left (by omega), List.getD_eq_getElem?_getD]
              rw [ej] at hta ⊢
              rw [em]
              exact List.mem_append_left _ (clo j hjs t ht hta)
            · have hje : j = st := by omega
              have ej : rs'.getD j 0 = p := by rw [hje, ep, em, List.getD_eq_getElem?_getD, List.getElem?_append_left hlt, List.getD_eq_getElem?_getD]
              rw [ej] at hta ⊢
              exact hdone t (List.mem_filter.mpr ⟨ht, atP_iff.mpr hta⟩)
      · rw [decide_eq_false (show ¬ (st : Int) < ((rs.map V.int).length : Int) by omega)]
        refine iteF ?_
        refine ⟨_, rfl, d, rfl, .inl ⟨_, .inl I.dd⟩, _, rfl, _, DGet.k (k := Sum.inl b) I.dd, ?_⟩
        rw [valV_key, if_neg hb]
        refine k1 (fun h => hb (cn_closed I.a0 (fun e he p hp hep => ?_) h)) H5 I.same
        obtain ⟨t, ht, rfl⟩ := List.mem_map.mp he
        obtain ⟨j, hj, rfl⟩ := List.mem_iff_getElem.mp hp
        have ej : rs.getD j 0 = rs[j] := by rw [List.getD_eq_getElem?_getD, List.getElem?_eq_getElem hj]; rfl
        have := clo j (by omega) t ht (by rw [ej]; exact hep)
        rwa [ej] at this
def spWb (K : PySem.W.Frag) (c : Cs) : Sp := fun vs H Q _ => ∃ (x q : Addr) (t m : Int) (es : List (Int × Int)) (ss : List Int), vs = [.ref x, .int t, .ref q] ∧ WebAt K c.Web H x m es ∧ 0 ≤ t ∧ t < (es.length : Int) ∧ SqL K H q (ss.map V.int) ∧ (∀ t ∈ ss, 0 ≤ t ∧ t < (es.length : Int)) ∧ ss.length ≤ 900 ∧ m ≤ 20 ∧ EndsIn es m ∧
  (¬ Cn (sub es ss) (tieOf es t).2 (tieOf es t).1 → ∀ H', Same H H' → Q .non H') ∧ (∀ l ts ps H', Same H H' → H l = none → H' l = some (.lst (ts.map V.int)) → Way es ss (tieOf es t).2 ts ps (tieOf es t).1 → ts = fwT es ss (tieOf es t).2 (tieOf es t).1 m.toNat → Q (.ref l) H')
theorem scWb : FnScope ["web", "tie", "some", "ends"] ["web", "tie", "some"] (defScope sWb) := ⟨rfl, rfl, rfl, by decide +kernel, rfl, by decide +kernel, by decide +kernel⟩
set_option maxHeartbeats 4000000 in
theorem ok_Wb {f : Addr} {fd : FuncData} (F : Fun K "way_back" "way_back" sWb f fd) (T : Txt K mg c) (D_Fw : Def P w K mg base 2 "find_way" ["web", "some", "start", "goal"] (spFw K c)) : FnOk P w K mg base CX0 3 f fd ["web", "tie", "some"] (spWb K c) := by
  refine F.ok scWb (fun vs H Q E h => ?_) (fun cdv A outer s H vs Q E hr h => ?_)
  · obtain ⟨x, q, t, m, es, ss, rfl, _⟩ := h
    rfl
  · obtain ⟨x, q, t, m, es, ss, rfl, hw, t0, t1, hq, hss, hsl, m2, hE, k1, k2⟩ := h
    refine ⟨_, pss_cons (ps_set (i := 3) scWb.nd rfl (Or.inl rfl) (pe_ix (ixT (K := K) rfl) (pTies (K := K) rfl T.web (pv 0)) (pv 1) (fun _ _ => rfl)))
      (pss_one (ps_ret (pe_defR D_Fw hr (pa_cons (pv 0) (pa_cons (pv 2) (pa_cons (pe_ix (ixT (K := K) rfl) (pv 3) (pe_int) (fun _ _ => rfl)) (pa_cons (pe_ix (ixT (K := K) rfl) (pv 3) (pe_int) (fun _ _ => rfl)) pa_nil))))))), ?_⟩
    refine ⟨_, rfl, x, m, es, rfl, hw, fun tt ys ht hp => ?_⟩
    obtain ⟨r, ar, hr2, hm⟩ := tie_get hp t0 t1
    obtain ⟨b1, b2, b3, b4⟩ := hE _ hm
    refine ⟨_, rfl, tt, ys, t, .ref r, rfl, rfl, SqT.of ht, ar, ?_⟩
    exact ⟨_, rfl, _, rfl, _, rfl, r, _, 1, _, rfl, rfl, hr2, rfl, _, rfl, r, _, 0, _, rfl, rfl, hr2, rfl, x, q, _, _, m, es, ss, rfl, hw, hq, hss, hsl, b3, b4, m2, hE, k1, k2⟩
def oV : Option Int → V
  | none => .non
  | some i => .int i
theorem oV_eq (a b : Option Int) : decide (oV a = oV b) = decide (a = b) := by
  rw [Bool.eq_iff_iff, decide_eq_true_iff, decide_eq_true_iff]
  constructor
  · intro h
    cases a <;> cases b
    · rfl
    · cases h
    · cases h
    · injection h with h; rw [h]
  · intro h; rw [h]
def spTo (K : PySem.W.Frag) : Sp := fun vs H Q _ => ∃ (p : Addr) (ow : Own) (o : Option Int), vs = [.ref p, oV o] ∧ SqL K H p (ow.map oV) ∧ ow.length ≤ 40 ∧ ∀ l H', H l = none → Same H H' → H' l = some (.lst ((tof ow o).map V.int)) → Q (.ref l) H'
theorem scTo : FnScope ["owners", "owner"] ["owners", "owner"] (defScope sTo) := ⟨rfl, rfl, rfl, by decide +kernel, rfl, by decide +kernel, by decide +kernel⟩
set_option maxHeartbeats 4000000 in
theorem ok_To {f : Addr} {fd : FuncData} (F : Fun K "ties_of" "ties_of" sTo f fd) (T : Txt K mg c) : FnOk P w K mg base CX0 1 f fd ["owners", "owner"] (spTo K) := by
  refine F.ok scTo (fun vs H Q E h => ?_) (fun cdv A outer s H vs Q E hr h => ?_)
  · obtain ⟨p, ow, o, rfl, _⟩ := h
    rfl
  · obtain ⟨p, ow, o, rfl, hp, hz, k⟩ := h
    refine ⟨_, pss_one (ps_ret (pe_lc (N' := ["tie", "one", "owner"]) (nl := 2) (js := [1]) rfl (.of (osc := defScope sTo) (N := ["owners", "owner"]) (by decide +kernel) rfl rfl) (pi_enum (K := K) rfl rfl T.enumerate (pa_cons (pv 0) pa_nil))
        (fun _ _ _ _ => pgPair (K := K) (i := 0) (j := 1) rfl rfl (show (["tie", "one", "owner"] : List Str).Nodup by decide +kernel) rfl rfl rfl rfl) (fun _ _ _ _ => pif_one (pt_cmpR op_eq (pv 1) (pv 2) (nomark _)))
        (fun _ _ _ _ => pv 0))), ?_⟩
    have hom : (ow.map oV).length = ow.length := List.length_map ..
    refine ⟨_, rfl, false, p, _, rfl, hp, fun J C O hC => lc_byP O (fun j zs H2 => Same H H2 ∧ zs = (((upto ow.length).take j).filter fun t => decide (owA ow t = o)).map V.int) (by rw [hom]; exact Nat.le_of_lt (small1000 (by omega))) ⟨Same.refl _, rfl⟩ ?_ ?_ ?_⟩
    · rintro j zs H2 hj ⟨s2, rfl⟩
      exact ⟨hC _ (s2.seq hp), by rw [List.length_map]; exact Nat.le_trans (List.length_filter_le _ _) (by rw [List.length_take]; omega)⟩
    · rintro j zs H2 pq hj ⟨s2, rfl⟩ hpq
      rw [hom] at hj
      have hg := upto_get hj
      have hl2 : (((upto ow.length).take j).filter fun t => decide (owA ow t = o)).length ≤ j := Nat.le_trans (List.length_filter_le _ _) (by rw [List.length_take]; omega)
      have hv : (ow.map oV).getD j .non = oV (owA ow (j : Int)) := by
        unfold owA
        rw [List.getD_eq_getElem?_getD, List.getElem?_map, Int.toNat_natCast, List.getD_eq_getElem?_getD, List.getElem?_eq_getElem hj]; rfl
      try dsimp only
      rw [hv]
      have s3 := s2.next (o := .tup [.int (j : Nat), oV (owA ow (j : Int))]) hpq
      have t3 : (upd H2 pq (.tup [.int (j : Nat), oV (owA ow (j : Int))])) pq = some (.tup [.int (j : Nat), oV (owA ow (j : Int))]) := upd_same
      have hsc : scal (oV (owA ow (j : Int))) (oV o) = true := by cases owA ow (j : Int) <;> cases o <;> rfl
      refine ⟨pq, _, rfl, SqT.of t3, rfl, _, _, rfl, _, _, rfl, rfl, wk_set2 rfl rfl, _, rfl, _, rfl, hsc, _, rfl, ?_⟩
      rw [oV_eq]
      refine ite2 (fun c1 => ?_) (fun c1 => ?_)
      · refine ⟨_, rfl, small1000 (by rw [List.length_map]; omega), _, by omega, rfl, by omega, s3, ?_⟩
        rw [take_snoc hg, List.filter_append, List.map_append, List.filter_cons_of_pos (p := fun t => decide (owA ow t = o)) c1]; rfl
      · refine ⟨_, by omega, rfl, by omega, s3, ?_⟩
        rw [take_snoc hg, List.filter_append, List.map_append, List.filter_cons_of_neg (p := fun t => decide (owA ow t = o)) c1]; exact (List.append_nil _).symm
    · rintro zs H2 ⟨s2, rfl⟩ l nl
      rw [hom, List.take_of_length_le (by rw [upto_len]; exact Nat.le_refl _)]
      exact k l _ (none_back s2 nl) (s2.next nl) upd_same
noncomputable def bkF (es : List (Int × Int)) (m : Nat) (ow : Own) (t s : Int) : Option (List Int) := @ite _ (∃ ps, Way es (tof ow (some s)) (tieOf es t).2 (fwT es (tof ow (some s)) (tieOf es t).2 (tieOf es t).1 m) ps (tieOf es t).1) (Classical.propDecidable _) (some (fwT es (tof ow (some s)) (tieOf es t).2 (tieOf es t).1 m)) none
theorem bkF_ok (es : List (Int × Int)) (m : Nat) (ow : Own) : BkOk es ow (bkF es m ow) := ⟨fun t s ts h => by
  unfold bkF at h
  split at h
  · rename_i c
    obtain ⟨ps, W⟩ := c
    rw [← Option.some.inj h]
    exact ⟨ps, W⟩
  · cases h⟩
theorem bkF_some {es : List (Int × Int)} {m : Nat} {ow : Own} {t s : Int} {ts ps : List Int} (W : Way es (tof ow (some s)) (tieOf es t).2 ts ps (tieOf es t).1) (e : ts = fwT es (tof ow (some s)) (tieOf es t).2 (tieOf es t).1 m) : bkF es m ow t s = some ts := by
  unfold bkF
  rw [← e]
  split
  · rfl
  · rename_i c
    exact absurd ⟨ps, W⟩ c
theorem bkF_none {es : List (Int × Int)} {m : Nat} {ow : Own} {t s : Int} (h : ¬ Cn (sub es (tof ow (some s))) (tieOf es t).2 (tieOf es t).1) : bkF es m ow t s = none := by
  unfold bkF
  split
  · rename_i c
    obtain ⟨ps, W⟩ := c
    exact absurd W.cn h
  · rfl
def askV (W : Ask) : List (Key × V) := W.map fun p => ((Sum.inl p.1 : Key), oV p.2)
theorem askV_val (t : Int) : ∀ W : Ask, valV (askV W) (Sum.inl t) = if t ∈ kys W then some (oV (askr W t)) else none
  | [] => rfl
  | (u, o) :: W => by
    show valV ((Sum.inl u, oV o) :: askV W) (Sum.inl t) = _
    by_cases e : u = t
    · subst e
      rw [valV_pos rfl, if_pos (show u ∈ kys ((u, o) :: W) from List.mem_cons_self)]
      show some (oV o) = some (oV (if u = u then o else askr W u))
      rw [if_pos rfl]
    · rw [valV_neg (fun z => e (Sum.inl.inj z)), askV_val t W]
      by_cases h : t ∈ kys W
      · rw [if_pos h, if_pos (show t ∈ kys ((u, o) :: W) from List.mem_cons_of_mem _ h)]
        show some (oV (askr W t)) = some (oV (if u = t then o else askr W t))
        rw [if_neg e]
      · rw [if_neg h, if_neg (show ¬ t ∈ kys ((u, o) :: W) from fun z => (List.mem_cons.mp z).elim (fun y => e y.symm) h)]
theorem askV_put {W : Ask} {u t : Int} (h : ¬ u ∈ kys W) : putK (askV W) (Sum.inl u) (V.int t) = askV (W ++ [(u, some t)]) := by
  rw [putK_new _ (by rw [askV_val, if_neg h])]
  unfold askV
  rw [List.map_append]; rfl
def TkV (H : Hp) (v : V) : Option (Int × Int) → Prop
  | none => v = .non
  | some (t, s) => ∃ a, v = .ref a ∧ H a = some (.tup [.int t, .int s])
def spAf (K : PySem.W.Frag) (c : Cs) : Sp := fun vs H Q _ => ∃ (x p q : Addr) (m : Int) (es : List (Int × Int)) (ow : Own) (st : List Int), vs = [.ref x, .ref p, .ref q] ∧ WebAt K c.Web H x m es ∧ SqL K H p (ow.map oV) ∧ SqL K H q (st.map V.int) ∧ ow.length = es.length ∧ es.length ≤ 40 ∧ 1 ≤ m ∧ m ≤ 20 ∧ EndsIn es m ∧ st.Nodup ∧ (∀ t ∈ st, 0 ≤ t ∧ t < (es.length : Int)) ∧
  ∀ (t d : Addr) (v : V) (H' : Hp), Same H H' → H' t = some (.tup [.ref d, v]) → H' d = some (.dK (askV (askF ow (bkF es m.toNat ow) st).1)) → TkV H' v (askF ow (bkF es m.toNat ow) st).2 → (∀ t s, (askF ow (bkF es m.toNat ow) st).2 = some (t, s) → ¬ Cn (sub es (tof ow (some s))) (tieOf es t).2 (tieOf es t).1) → Q (.ref t) H'
structure AfI (n : Nat) (ow : Own) (bk : Int → Int → Option (List Int)) (st : List Int) (H : Hp) (d r : Addr) (H2 : Hp) (W : Ask) (k : Nat) : Prop where
  same : Same H H2
  dd : H2 d = some (.dK (askV W))
  rr : H2 r = some (.lst ((kys W).map V.int))
  as : AsI n ow bk st W k
theorem AsI.step {n : Nat} {ow : Own} {bk : Int → Int → Option (List Int)} {st : List Int} {W W' : Ask} {k : Nat} {t : Int} (hb : ∀ t s ts, bk t s = some ts → ∀ u ∈ ts, 0 ≤ u ∧ u < (n : Int)) (I : AsI n ow bk st W k) (ht : At W k t) (h : sdF bk t (sds (owA ow t)) W = (W', none)) : AsI n ow bk st W' (k + 1) := by
  obtain ⟨V, h1, h2, h3, h4⟩ := AsI.side hb (sds (owA ow t)) I ht fun s hs => mem_sds.mp hs
  rw [h] at h1 h2 h3 h4
  dsimp only at h1 h2 h3
  have ht' : At W' k t := by rw [h1]; exact ht.app
  refine ⟨h2.nd, h2.rng, h2.sta, fun j u o e => ?_, fun i hi v hv s hs ho => ?_⟩
  · rcases h2.ask j u o e with h | ⟨t', i, s, ts, h1, h2, h3, h5⟩
    · exact .inl h
    · exact .inr ⟨t', i, s, ts, h1, h2, by omega, h5⟩
  · by_cases c : i = k
    · subst c
      have ev : v = t := by
        obtain ⟨o, e⟩ := hv
        obtain ⟨o', e'⟩ := ht'
        rw [e] at e'
        injection e' with e'
        injection e' with e'
      subst ev
      exact h3 rfl s (mem_sds.mpr ⟨hs, ho⟩)
    · exact h2.fin i (by omega) v hv s hs ho
theorem scAf : FnScope ["web", "owners", "starts", "askers", "waiting", "at", "tie", "side", "back", "other"] ["web", "owners", "starts"] (defScope sAf) := ⟨rfl, rfl, rfl, by decide +kernel, rfl, by decide +kernel, by decide +kernel⟩
set_option maxHeartbeats 8000000 in
theorem ok_Af {f : Addr} {fd : FuncData} (F : Fun K "asked_from" "asked_from" sAf f fd) (T : Txt K mg c) (D_To : Def P w K mg base 1 "ties_of" ["owners", "owner"] (spTo K)) (D_Wb : Def P w K mg base 3 "way_back" ["web", "tie", "some"] (spWb K c)) : FnOk P w K mg base CX0 4 f fd ["web", "owners", "starts"] (spAf K c) := by
  refine F.ok scAf (fun vs H Q E h => ?_) (fun cdv A outer s H vs Q E hr h => ?_)
  · obtain ⟨x, p, q, m, es, ow, st, rfl, _⟩ := h
    rfl
  · obtain ⟨x, p, q, m, es, ow, st, rfl, hw, hp, hq, hol, hz, m1, m2, hE, hst, hsr, k⟩ := h
    refine ⟨_, pss_cons (ps_set (i := 3) scAf.nd rfl (Or.inl rfl) (pe_callTy (cDictP rfl) (by rfl) T.dict PyProof.Rows.boot_dict (pa_cons (pe_lc (N' := ["tie"]) (nl := 1) (js := []) rfl (.of (osc := defScope sAf) (N := ["web", "owners", "starts", "askers", "waiting", "at", "tie", "side", "back", "other"]) (by decide +kernel) rfl rfl) (piSeq (K := K) rfl (pv 2))
        (fun _ _ _ _ => pg_name (i := 0) (show (["tie"] : List Str).Nodup by decide +kernel) rfl (Or.inl rfl)) (fun _ _ _ _ => pif_nil)
        (fun _ _ _ _ => pe_tup (pa_cons (pv 0) (pa_cons (pe_non) pa_nil)))) pa_nil)))
      (pss_cons (ps_set (i := 4) scAf.nd rfl (Or.inl rfl) (pe_callTy (cList (K := K) rfl) (by rfl) T.list PyProof.Rows.boot_list (pa_cons (pv 2) pa_nil)))
      (pss_cons (ps_set (i := 5) scAf.nd rfl (Or.inl rfl) (pe_int))
      (pss_cons (ps_while PassesOwn.never (pt_cmpR op_lt (pv 5) (pe_callB (cLen (K := K) rfl) (by rfl) T.len PySem.boot_len (pa_cons (pv 4) pa_nil)) (nomark _))
        (pss_cons (ps_set (i := 6) scAf.nd rfl (Or.inr rfl) (pe_ix (ixL (K := K) rfl) (pv 4) (pv 5) (fun _ _ => rfl)))
      (pss_cons (ps_for PassesOwn.never rfl (piSeqB (K := K) rfl (pe_lc (N' := ["one", "owners", "tie"]) (nl := 1) (js := [1, 6]) rfl (.of (osc := defScope sAf) (N := ["web", "owners", "starts", "askers", "waiting", "at", "tie", "side", "back", "other"]) (by decide +kernel) rfl rfl) (piSeq (K := K) rfl (pe_tup (pa_cons (pe_int) (pa_cons (pe_int) pa_nil))))
        (fun _ _ _ _ => pg_name (i := 0) (show (["one", "owners", "tie"] : List Str).Nodup by decide +kernel) rfl (Or.inl rfl)) (fun _ _ _ _ => pif_one (pt_cmpR op_ne (pv 0) (pe_ix (ixL (K := K) rfl) (pv 1) (pv 2) (fun _ _ => rfl)) (nomark _)))
        (fun _ _ _ _ => pv 0))) (pg_name (i := 7) scAf.nd rfl (Or.inl rfl))
        (pss_cons (ps_set (i := 8) scAf.nd rfl (Or.inl rfl) (pe_defR D_Wb hr (pa_cons (pv 0) (pa_cons (pv 6) (pa_cons (pe_defR D_To hr (pa_cons (pv 1) (pa_cons (pv 7) pa_nil))) pa_nil)))))
      (pss_cons (ps_if (pt_cmpR op_isN (pv 8) (pe_non) (nomark _))
        (pss_one (ps_ret (pe_tup (pa_cons (pv 3) (pa_cons (pe_tup (pa_cons (pv 6) (pa_cons (pv 7) pa_nil))) pa_nil))))) (pss_nil))
      (pss_one (ps_for PassesOwn.never rfl (piSeqB (K := K) rfl (pv 8)) (pg_name (i := 9) scAf.nd rfl (Or.inl rfl))
        (pss_one (ps_cut (ps_if (pt_cmp (pc_dnotin (hu_of hr) (pv 9) (pv 3)))
        (pss_cons (ps_dput (hu_of hr) (pv 3) (pv 9) (pv 6) rfl)
      (pss_one (ps_expr (pe_bm PySem.F.plainAttrs_list PySem.F.slot_list_append PySem.F.type_list_append mt_append (pv 4) (pa_cons (pv 9) pa_nil))))) (pss_nil)))))))))
      (pss_one (ps_aug (i := 5) scAf.nd rfl (Or.inl rfl) (pe_int) ip_add)))))
      (pss_one (ps_ret (pe_tup (pa_cons (pv 3) (pa_cons (pe_non) pa_nil)))))))), ?_⟩
    obtain ⟨bk, ebk⟩ : ∃ bk, bk = bkF es m.toNat ow := ⟨_, rfl⟩
    have B : BkOk es ow bk := by rw [ebk]; exact bkF_ok ..
    rw [← ebk] at k
    have hsm : (st.map V.int).length = st.length := List.length_map ..
    have hsl : st.length ≤ 40 := by
      have := nodup_len (m := (es.length : Int)) hst hsr
      omega
    have hom : (ow.map oV).length = es.length := by rw [List.length_map]; exact hol
    refine ⟨_, rfl, q, _, rfl, .inl hq, fun J C O hC => lc_by O (fun i ys H2 => Same H H2 ∧ NonPs H2 ys (st.take i)) (by rw [hsm]; exact Nat.le_of_lt (small1000 (by omega))) ⟨Same.refl _, .nil⟩ ?_ ?_ ?_⟩
    · rintro i ys H2 hi ⟨s2, hn⟩
      exact ⟨hC _ s2, by have := Paired.length hn; rw [List.length_take] at this; omega⟩
    · rintro i ys H2 hi ⟨s2, hn⟩
      obtain ⟨v, ev, gv⟩ := getD_map_int hi
      rw [hsm] at hi
      try dsimp only
      rw [ev]
      have hyl : ys.length ≤ i := by have := Paired.length hn; rw [List.length_take] at this; omega
      refine ⟨wk_set rfl, iteT ⟨_, rfl, (by show 2 ≤ sizeLine; decide), fun g ng => ?_⟩⟩
      have s3 := Same.new (o := .tup [V.int v, V.non]) ng
      refine ⟨small1000 (by omega), _, by omega, rfl, by omega, s2.next ng, ?_⟩
      rw [take_snoc gv]
      exact Paired.snoc (Paired.mapP hn fun _ _ ⟨r, e, h⟩ => ⟨r, e, s3 _ _ h⟩) ⟨g, rfl, upd_same⟩
    rintro ys H2 ⟨s2, hn⟩ lp nlp
    rw [hsm, List.take_length] at hn
    have s3 := s2.next (o := .lst ys) nlp
    have hn3 : NonPs (upd H2 lp (.lst ys)) ys st := Paired.mapP hn fun _ _ ⟨r, e, h⟩ => ⟨r, e, Same.new nlp _ _ h⟩
    refine ⟨lp, ys, st, rfl, upd_same, hn3, hst, by omega, fun d nd => ?_⟩
    have s4 := s3.next (o := .dK (nonV st)) nd
    have d4 : (upd (upd H2 lp (.lst ys)) d (.dK (nonV st))) d = some (.dK (askV (st.map fun t => (t, none)))) := by
      rw [upd_same]
      unfold askV nonV
      rw [List.map_map]; rfl
    have ndH : H d = none := none_back s3 nd
    generalize upd (upd H2 lp (.lst ys)) d (.dK (nonV st)) = H4 at s4 d4
    refine ⟨_, rfl, q, _, rfl, .inl (s4.seq hq), fun r nr => ?_⟩
    have s5 := s4.next (o := .lst (st.map V.int)) nr
    have hk0 : kys (st.map fun t => (t, (none : Option Int))) = st := by
      unfold kys
      rw [List.map_map]; exact List.map_id _
    have r5 : (upd H4 r (.lst (st.map V.int))) r = some (.lst ((kys (st.map fun t => (t, (none : Option Int)))).map V.int)) := by rw [hk0]; exact upd_same
    have d5 := Same.new (o := .lst (st.map V.int)) nr _ _ d4
    have nrH : H r = none := none_back s4 nr
    have ndr : d ≠ r := ne_of_none d4 nr
    generalize upd H4 r (.lst (st.map V.int)) = H5 at s5 r5 d5
    clear s4 d4 s3 hn3 hn s2 nd nr nlp
    have A0 : AsI es.length ow bk st (st.map fun t => (t, none)) 0 := AsI.start hst hsr
    refine ⟨fun n σ H2 => ∃ (W : Ask) (k : Nat) (v6 v7 v8 v9 : Option V), n = es.length + 1 - k ∧ σ = [some (.ref x), some (.ref p), some (.ref q), some (.ref d), some (.ref r), some (.int k), v6, v7, v8, v9] ∧ AfI es.length ow bk st H d r H2 W k ∧ k ≤ W.length ∧ rnF ow bk (es.length + 1 - k) W k = askF ow bk st, ⟨es.length + 1 - 0, _, 0, none, none, none, none, rfl, rfl, ⟨s5, d5, r5, A0⟩, Nat.zero_le _, by unfold askF; rw [hol]; rfl⟩, ?_⟩
    clear s5 d5 r5
    rintro n σ H6 ⟨W, k', v6, v7, v8, v9, rfl, rfl, I, hkl, hrun⟩
    have hWl : W.length ≤ es.length := by
      have := nodup_len (m := (es.length : Int)) I.as.nd I.as.rng
      unfold kys at this
      rw [List.length_map] at this
      omega
    have hkm : ((kys W).map V.int).length = W.length := by unfold kys; rw [List.length_map, List.length_map]
    refine ⟨_, rfl, _, rfl, r, _, rfl, .inl (SqL.of I.rr), _, _, rfl, rfl, _, rfl, ?_⟩
    by_cases hlt : k' < W.length
    · rw [decide_eq_true (show (k' : Int) < (((kys W).map V.int).length : Int) by omega)]
      refine iteT ⟨_, fun σ' H' h => h, ?_⟩
      obtain ⟨t, et⟩ : ∃ t, t = (W.getD k' (0, none)).1 := ⟨_, rfl⟩
      have hat0 : At W k' t := ⟨(W.getD k' (0, none)).2, by rw [et, List.getD_eq_getElem?_getD, List.getElem?_eq_getElem hlt]; rfl⟩
      have htr := I.as.rng t hat0.mem
      have hat : atI ((kys W).map V.int) (k' : Int) = some (.int t) := by
        have := at_int (ns := kys W) (k := (k' : Int)) (by omega) (by unfold kys; rw [List.length_map]; omega)
        rw [Int.toNat_natCast] at this
        rw [this, et]
        unfold kys
        rw [List.getD_eq_getElem?_getD, List.getElem?_map, List.getElem?_eq_getElem hlt, List.getD_eq_getElem?_getD, List.getElem?_eq_getElem hlt]; rfl
      have ato : atI (ow.map oV) t = some (oV (owA ow t)) := by
        refine atI_int htr.1 ?_
        unfold owA
        rw [List.getElem?_map, List.getD_eq_getElem?_getD, List.getElem?_eq_getElem (show t.toNat < ow.length by omega)]; rfl
      refine ⟨_, rfl, _, rfl, r, _, _, _, rfl, rfl, SqL.of I.rr, hat, ?_⟩
      obtain ⟨ss, ess⟩ : ∃ ss, ss = sds (owA ow t) := ⟨_, rfl⟩
      have hsl2 : ∀ j, (([(0 : Int), 1].take j).filter fun s => decide (some s ≠ owA ow t)).length ≤ j := fun j => Nat.le_trans (List.length_filter_le _ _) (by rw [List.length_take]; omega)
      refine ⟨(by show 2 ≤ sizeLine; decide), fun tp ntp => ?_⟩
      have sT := I.same.next (o := .tup (([0, 1] : List Int).map V.int)) ntp
      have tT : (upd H6 tp (.tup (([0, 1] : List Int).map V.int))) tp = some (.tup (([0, 1] : List Int).map V.int)) := upd_same
      have s67 := Same.new (o := .tup (([0, 1] : List Int).map V.int)) ntp
      refine ⟨tp, ([0, 1] : List Int).map V.int, rfl, .inr (SqT.of tT), fun J C O hC => lc_by O (fun j ys H7 => H7 = upd H6 tp (.tup (([0, 1] : List Int).map V.int)) ∧ ys = ((([(0 : Int), 1].take j).filter fun s => decide (some s ≠ owA ow t))).map V.int) (by show 2 ≤ sizeLine; decide) ⟨rfl, rfl⟩ ?_ ?_ ?_⟩
      · rintro j ys H7 hj ⟨rfl, rfl⟩
        exact ⟨hC _ (Same.refl _), by rw [List.length_map]; exact hsl2 j⟩
      · rintro j ys H7 hj ⟨rfl, rfl⟩
        obtain ⟨v, ev, gv⟩ := getD_map_int hj
        have hj2 : j < 2 := hj
        have hl2 := hsl2 j
        try dsimp only
        rw [ev]
        have hsc : scal (V.int v) (oV (owA ow t)) = true := by cases owA ow t <;> rfl
        refine ⟨wk_set rfl, _, rfl, _, rfl, _, rfl, p, _, _, _, rfl, rfl, sT.seq hp, ato, hsc, _, rfl, ?_⟩
        have edec : (!decide (V.int v = oV (owA ow t))) = decide (some v ≠ owA ow t) := by
          rw [show V.int v = oV (some v) from rfl, oV_eq, decide_not]
        rw [edec]
        refine ite2 (fun c1 => ?_) (fun c1 => ?_)
        · refine ⟨_, rfl, small1000 (by rw [List.length_map]; omega), _, by omega, rfl, by omega, rfl, ?_⟩
          rw [take_snoc gv, List.filter_append, List.map_append, List.filter_cons_of_pos (p := fun s => decide (some s ≠ owA ow t)) c1]; rfl
        · refine ⟨_, by omega, rfl, by omega, rfl, ?_⟩
          rw [take_snoc gv, List.filter_append, List.map_append, List.filter_cons_of_neg (p := fun s => decide (some s ≠ owA ow t)) c1]; exact (List.append_nil _).symm
      rintro ys H7 ⟨rfl, rfl⟩ ls nls
      have ess2 : (([(0 : Int), 1].take (([0, 1] : List Int).map V.int).length).filter fun s => decide (some s ≠ owA ow t)) = ss := by rw [ess]; rfl
      rw [ess2]
      have s8 := s67.next (o := .lst (ss.map V.int)) nls
      have l8 : (upd (upd H6 tp (.tup (([0, 1] : List Int).map V.int))) ls (.lst (ss.map V.int))) ls = some (.lst (ss.map V.int)) := upd_same
      generalize upd (upd H6 tp (.tup (([0, 1] : List Int).map V.int))) ls (.lst (ss.map V.int)) = H8 at s8 l8
      have I8 : AfI es.length ow bk st H d r H8 W k' := ⟨I.same.trans s8, s8 _ _ I.dd, s8 _ _ I.rr, I.as⟩
      have nlsd : ls ≠ d := (ne_of_none (s67 _ _ I.dd) nls).symm
      have nlsr : ls ≠ r := (ne_of_none (s67 _ _ I.rr) nls).symm
      have hsm2 : (ss.map V.int).length = ss.length := List.length_map ..
      have hss : ∀ s ∈ ss, (s = 0 ∨ s = 1) ∧ owA ow t ≠ some s := fun s hs => mem_sds.mp (by rw [← ess]; exact hs)
      refine ⟨false, ls, _, rfl, SqL.of l8, fun J C O hC => for_by O (fun j σ H9 => ∃ (W' : Ask) (v7 v8 v9 : Option V), σ = [some (.ref x), some (.ref p), some (.ref q), some (.ref d), some (.ref r), some (.int k'), some (.int t), v7, v8, v9] ∧ AfI es.length ow bk st H d r H9 W' k' ∧ At W' k' t ∧ H9 ls = some (.lst (ss.map V.int)) ∧ sdF bk t (ss.drop j) W' = sdF bk t ss W) ⟨W, _, _, _, rfl, I8, hat0, l8, rfl⟩ (fun j σ H9 _ h => ?_) ?_ ?_⟩
      · obtain ⟨W', v7, v8, v9, _, _, _, l9, _⟩ := h
        exact hC _ (SqL.of l9)
      · rintro j σ H9 hj ⟨W', v7, v8, v9, rfl, I9, hat9, l9, hsd⟩
        obtain ⟨sd, esd, gsd⟩ := getD_map_int hj
        rw [hsm2] at hj
        have hsd2 := hss sd (List.mem_of_getElem? gsd)
        have hdrop : ss.drop j = sd :: ss.drop (j + 1) := by
          rw [List.drop_eq_getElem_cons hj]
          rw [List.getElem?_eq_getElem hj] at gsd
          rw [Option.some.inj gsd]
        have hW9 : W'.length ≤ es.length := by
          have := nodup_len (m := (es.length : Int)) I9.as.nd I9.as.rng
          unfold kys at this
          rw [List.length_map] at this
          omega
        have hlt9 := hat9.lt
        try dsimp only
        rw [esd]
        refine ⟨_, rfl, _, rfl, _, rfl, _, rfl, p, ow, some sd, rfl, I9.same.seq hp, by omega, fun lo HA nlo sA eA => ?_⟩
        have hto : ∀ u ∈ tof ow (some sd), 0 ≤ u ∧ u < (es.length : Int) := fun u hu => by rw [← hol]; exact (tof_ok ow (some sd)).rng u hu
        have htl : (tof ow (some sd)).length ≤ 900 := by
          have := nodup_len (m := (es.length : Int)) (tof_ok ow (some sd)).nd hto
          omega
        refine ⟨x, lo, t, m, es, tof ow (some sd), rfl, hw.same (I9.same.trans sA), htr.1, htr.2, SqL.of eA, hto, htl, m2, hE, fun hnc HB sB => ?_, fun lb ts ps HB sB nlb eB Wy ets => ?_⟩
        · refine ⟨_, rfl, rfl, _, rfl, ?_⟩
          rw [decide_eq_true rfl]
          refine iteT ⟨_, rfl, _, rfl, _, rfl, (by show 2 ≤ sizeLine; decide), fun g ng => ⟨(by show 2 ≤ sizeLine; decide), fun tt ntt => ?_⟩⟩
          have hbn : bk t sd = none := by rw [ebk]; exact bkF_none hnc
          have hres : askF ow bk st = (W', some (t, sd)) := by
            have e1 : sdF bk t ss W = (W', some (t, sd)) := by rw [← hsd, hdrop]; unfold sdF; rw [hbn]
            rw [← hrun, show es.length + 1 - k' = (es.length - k') + 1 by omega]
            unfold rnF
            rw [if_pos hlt, ← et, ← ess, e1]
          have sC := (sA.trans sB).next (o := .tup [V.int t, V.int sd]) ng
          have gC : (upd HB g (.tup [V.int t, V.int sd])) g = some (.tup [V.int t, V.int sd]) := upd_same
          generalize upd HB g (.tup [V.int t, V.int sd]) = HC at sC gC ntt
          have sD := Same.new (o := .tup [V.ref d, V.ref g]) ntt
          refine k tt d (.ref g) _ ((I9.same.trans sC).trans sD) upd_same (by rw [hres]; exact sD _ _ (sC _ _ I9.dd)) (by rw [hres]; exact ⟨g, rfl, sD _ _ gC⟩) fun t' s' e => ?_
          rw [hres] at e
          cases e
          exact hnc
        · have hbs : bk t sd = some ts := by rw [ebk]; exact bkF_some Wy ets
          have s9B := sA.trans sB
          have IB : AfI es.length ow bk st H d r HB W' k' := ⟨I9.same.trans s9B, s9B _ _ I9.dd, s9B _ _ I9.rr, I9.as⟩
          have lB := s9B _ _ l9
          have nlbd : lb ≠ d := (ne_of_none (sA _ _ I9.dd) nlb).symm
          have nlbr : lb ≠ r := (ne_of_none (sA _ _ I9.rr) nlb).symm
          refine ⟨_, rfl, rfl, _, rfl, ?_⟩
          rw [decide_eq_false (show ¬ V.ref lb = V.non by intro z; cases z)]
          refine iteF ?_
          have htm : (ts.map V.int).length = ts.length := List.length_map ..
          refine ⟨_, rfl, false, lb, _, rfl, SqL.of eB, fun J C O hC => for_by O (fun i σ HC => ∃ (W2 : Ask) (v9 : Option V), σ = [some (.ref x), some (.ref p), some (.ref q), some (.ref d), some (.ref r), some (.int k'), some (.int t), some (.int sd), some (.ref lb), v9] ∧ AfI es.length ow bk st H d r HC W2 k' ∧ At W2 k' t ∧ HC ls = some (.lst (ss.map V.int)) ∧ HC lb = some (.lst (ts.map V.int)) ∧ W2 = (ts.take i).foldl (stA t) W') ⟨W', _, rfl, IB, hat9, lB, eB, rfl⟩ (fun i σ HC _ h => ?_) ?_ ?_⟩
          · obtain ⟨W2, v9, _, _, _, _, bC, _⟩ := h
            exact hC _ (SqL.of bC)
          · rintro i σ HC hi ⟨W2, v9, rfl, IC, hatC, lC, bC, eW⟩
            obtain ⟨u, eu, gu⟩ := getD_map_int hi
            rw [htm] at hi
            have hum := List.mem_of_getElem? gu
            have hW2 : W2.length ≤ es.length := by
              have := nodup_len (m := (es.length : Int)) IC.as.nd IC.as.rng
              unfold kys at this
              rw [List.length_map] at this
              omega
            try dsimp only
            rw [eu]
            refine ⟨fun σ' H' => ∃ (W3 : Ask), σ' = [some (.ref x), some (.ref p), some (.ref q), some (.ref d), some (.ref r), some (.int k'), some (.int t), some (.int sd), some (.ref lb), some (.int u)] ∧ AfI es.length ow bk st H d r H' W3 k' ∧ At W3 k' t ∧ H' ls = some (.lst (ss.map V.int)) ∧ H' lb = some (.lst (ts.map V.int)) ∧ W3 = stA t W2 u, ?_, ?_⟩
            · refine ⟨_, rfl, _, rfl, d, _, rfl, DGet.k (k := Sum.inl u) IC.dd, _, rfl, ?_⟩
              rw [askV_val]
              by_cases hu : u ∈ kys W2
              · rw [if_pos hu]
                exact iteF ⟨W2, rfl, IC, hatC, lC, bC, (if_pos hu).symm⟩
              · rw [if_neg hu]
                have hkl2 : (askV W2).length = W2.length := by unfold askV; rw [List.length_map]
                refine iteT ⟨_, rfl, _, rfl, _, rfl, d, _, rfl, DPut.k (k := Sum.inl u) IC.dd (small1000 (by omega)), ?_⟩
                rw [askV_put hu]
                have xD : SameX d HC (upd HC d (.dK (askV (W2 ++ [(u, some t)])))) := sameX_upd
                have dD : (upd HC d (.dK (askV (W2 ++ [(u, some t)])))) d = some (.dK (askV (W2 ++ [(u, some t)]))) := upd_same
                have sD : Same H (upd HC d (.dK (askV (W2 ++ [(u, some t)])))) := IC.same.upd ndH
                generalize upd HC d (.dK (askV (W2 ++ [(u, some t)]))) = HD at xD dD sD
                have rD := xD _ _ ndr.symm IC.rr
                have hkl3 : ((kys W2).map V.int).length = W2.length := by unfold kys; rw [List.length_map, List.length_map]
                refine ⟨_, rfl, .inl ⟨rfl, _, SqL.of rD⟩, _, rfl, r, _, _, rfl, rfl, rD, small1000 (by omega), ?_⟩
                have xE : SameX r HD (upd HD r (.lst ((kys W2).map V.int ++ [V.int u]))) := sameX_upd
                refine ⟨W2 ++ [(u, some t)], rfl, ⟨sD.upd nrH, xE _ _ ndr dD, ?_, IC.as.snoc B.rng hatC hsd2.1 hsd2.2 hbs hum hu⟩, hatC.app, xE _ _ nlsr (xD _ _ nlsd lC), xE _ _ nlbr (xD _ _ nlbd bC), (if_neg hu).symm⟩
                rw [kys_snoc, List.map_append]; exact upd_same
            · rintro σ' H' ⟨W3, rfl, I3, hat3, l3, b3, e3⟩
              refine ⟨W3, _, rfl, I3, hat3, l3, b3, ?_⟩
              rw [take_snoc gu, List.foldl_append, ← eW, e3]; rfl
          · rintro σ HC ⟨W2, v9, rfl, IC, hatC, lC, bC, eW⟩
            rw [htm, List.take_length] at eW
            refine ⟨W2, _, _, _, rfl, IC, hatC, lC, ?_⟩
            rw [← hsd, hdrop]
            conv => rhs; unfold sdF; rw [hbs]
            rw [eW]
      · rintro σ H9 ⟨W', v7, v8, v9, rfl, I9, hat9, l9, hsd⟩
        rw [hsm2, List.drop_length] at hsd
        have e1 : sdF bk t (sds (owA ow t)) W = (W', none) := by rw [← ess, ← hsd]; rfl
        have hA' := AsI.step B.rng I.as hat0 e1
        refine ⟨_, rfl, _, _, rfl, rfl, es.length + 1 - (k' + 1), by omega, W', k' + 1, _, _, _, _, rfl, rfl, ⟨I9.same, I9.dd, I9.rr, hA'⟩, hat9.lt, ?_⟩
        rw [← hrun, show es.length + 1 - k' = (es.length - k') + 1 by omega]
        conv => rhs; unfold rnF
        rw [if_pos hlt, ← et, e1]
        congr 1
        omega
    · rw [decide_eq_false (show ¬ (k' : Int) < (((kys W).map V.int).length : Int) by omega)]
      refine iteF ⟨_, rfl, (by show 2 ≤ sizeLine; decide), fun tt ntt => ?_⟩
      have hres : askF ow bk st = (W, none) := by
        rw [← hrun]
        cases es.length + 1 - k' with
        | zero => rfl
        | succ f => unfold rnF; rw [if_neg hlt]
      have sD := Same.new (o := .tup [V.ref d, V.non]) ntt
      refine k tt d .non _ (I.same.trans sD) upd_same (by rw [hres]; exact sD _ _ I.dd) (by rw [hres]; rfl) fun t' s' e => ?_
      rw [hres] at e
      cases e
def spMv (K : PySem.W.Frag) : Sp := fun vs H Q _ => ∃ (p d g : Addr) (n k0 : Nat) (ow : Own) (bk : Int → Int → Option (List Int)) (st : List Int) (W : Ask) (t s : Int), vs = [.ref p, .ref d, .ref g] ∧ SqL K H p (ow.map oV) ∧ H d = some (.dK (askV W)) ∧ SqT K H g [.int t, .int s] ∧ ow.length = n ∧ n ≤ 40 ∧ AsI n ow bk st W k0 ∧ At W k0 t ∧
  ∀ l H', H l = none → Same H H' → H' l = some (.lst ((mvF ow W (ow.length + 1) ow (some t) (some s)).map oV)) → Q (.ref l) H'
theorem scMv : FnScope ["owners", "askers", "taken", "told", "tie", "side"] ["owners", "askers", "taken"] (defScope sMv) := ⟨rfl, rfl, rfl, by decide +kernel, rfl, by decide +kernel, by decide +kernel⟩
set_option maxHeartbeats 4000000 in
theorem ok_Mv {f : Addr} {fd : FuncData} (F : Fun K "moved" "moved" sMv f fd) (T : Txt K mg c) : FnOk P w K mg base CX0 1 f fd ["owners", "askers", "taken"] (spMv K) := by
  refine F.ok scMv (fun vs H Q E h => ?_) (fun cdv A outer s H vs Q E hr h => ?_)
  · obtain ⟨p, d, g, n, k0, ow, bk, st, W, t, s, rfl, _⟩ := h
    rfl
  · obtain ⟨p, d, g, n, k0, ow, bk, st, W, t, sd, rfl, hp, hd, hg, hol, hz, I, hat, k⟩ := h
    refine ⟨_, pss_cons (ps_set (i := 3) scMv.nd rfl (Or.inl rfl) (pe_callTy (cList (K := K) rfl) (by rfl) T.list PyProof.Rows.boot_list (pa_cons (pv 0) pa_nil)))
      (pss_cons (ps_set (i := 4) scMv.nd rfl (Or.inl rfl) (pe_ix (ixT (K := K) rfl) (pv 2) (pe_int) (fun _ _ => rfl)))
      (pss_cons (ps_set (i := 5) scMv.nd rfl (Or.inl rfl) (pe_ix (ixT (K := K) rfl) (pv 2) (pe_int) (fun _ _ => rfl)))
      (pss_cons (ps_while PassesOwn.never (pt_cmpR op_notN (pv 4) (pe_non) (nomark _))
        (pss_cons (ps_asg (pv 5) (pg_sub (pv 3) (pv 4) set_list))
      (pss_cons (ps_set (i := 5) scMv.nd rfl (Or.inl rfl) (pe_ix (ixL (K := K) rfl) (pv 0) (pv 4) (fun _ _ => rfl)))
      (pss_one (ps_set (i := 4) scMv.nd rfl (Or.inl rfl) (pe_dget (hu_of hr) (pv 1) (pv 4) (fun _ _ => rfl)))))))
      (pss_one (ps_ret (pv 3)))))), ?_⟩
    refine ⟨_, rfl, p, _, rfl, .inl hp, fun l nl => ?_⟩
    have s1 := Same.new (o := .lst (ow.map oV)) nl
    have e1 : (upd H l (.lst (ow.map oV))) l = some (.lst (ow.map oV)) := upd_same
    generalize upd H l (.lst (ow.map oV)) = H1 at s1 e1
    refine ⟨_, rfl, g, _, 0, _, rfl, rfl, s1.tup hg, rfl, _, rfl, g, _, 1, _, rfl, rfl, s1.tup hg, rfl, ?_⟩
    have hkl : k0 < ow.length + 1 := by
      have := nodup_len I.nd (m := (n : Int)) I.rng
      unfold kys at this
      rw [List.length_map] at this
      have := hat.lt
      omega
    refine ⟨fun n σ H2 => ∃ (told : Own) (u so : Option Int) (f : Nat), σ = [some (.ref p), some (.ref d), some (.ref g), some (.ref l), some (oV u), some (oV so)] ∧ Same H H2 ∧ H2 l = some (.lst (told.map oV)) ∧ told.length = ow.length ∧ mvF ow W f told u so = mvF ow W (ow.length + 1) ow (some t) (some sd) ∧ ((u = none ∧ n = 0) ∨ ∃ v i, u = some v ∧ At W i v ∧ i < f ∧ n = i + 1), ⟨k0 + 1, ow, some t, some sd, ow.length + 1, rfl, s1, e1, rfl, rfl, .inr ⟨t, k0, rfl, hat, hkl, rfl⟩⟩, ?_⟩
    rintro n' σ H2 ⟨told, u, so, f', rfl, s2, e2, hl2, hmv, hu⟩
    rcases hu with ⟨rfl, rfl⟩ | ⟨v, i, rfl, hv, hif, rfl⟩
    · refine ⟨_, rfl, rfl, _, rfl, ?_⟩
      refine iteF ⟨_, rfl, k l H2 nl s2 ?_⟩
      rw [← hmv, show mvF ow W f' told none so = told by cases f' <;> rfl]
      exact e2
    · refine ⟨_, rfl, rfl, _, rfl, ?_⟩
      have hvr := I.rng v hv.mem
      refine iteT ⟨_, fun σ' H' h => h, ?_⟩
      refine ⟨_, rfl, _, rfl, _, rfl, l, _, v, _, rfl, rfl, e2, ixN_nat hvr.1 (by rw [List.length_map]; omega), ?_⟩
      rw [show (told.map oV).set v.toNat (oV so) = (told.set v.toNat so).map oV from (List.map_set ..).symm]
      have s3 : Same H (upd H2 l (.lst ((told.set v.toNat so).map oV))) := s2.upd nl
      have e3 : (upd H2 l (.lst ((told.set v.toNat so).map oV))) l = some (.lst ((told.set v.toNat so).map oV)) := upd_same
      generalize upd H2 l (.lst ((told.set v.toNat so).map oV)) = H3 at s3 e3
      have ato : atI (ow.map oV) v = some (oV (owA ow v)) := by
        refine atI_int hvr.1 ?_
        unfold owA
        rw [List.getElem?_map, List.getD_eq_getElem?_getD, List.getElem?_eq_getElem (show v.toNat < ow.length by omega)]; rfl
      refine ⟨_, rfl, _, rfl, p, _, _, _, rfl, rfl, s3.seq hp, ato, ?_⟩
      have hget : DGet H3 d (.int v) (some (oV (askr W v))) := by
        have := DGet.k (k := Sum.inl v) (s3 _ _ hd)
        rw [askV_val, if_pos hv.mem] at this
        exact this
      refine ⟨_, rfl, _, rfl, d, _, rfl, hget, ?_⟩
      obtain ⟨o, eo⟩ := hv
      have hask := askr_at I.nd eo
      cases f' with
      | zero => omega
      | succ f2 =>
        have hmv2 : mvF ow W f2 (told.set v.toNat so) (askr W v) (owA ow v) = mvF ow W (ow.length + 1) ow (some t) (some sd) := hmv
        rcases I.ask i v o eo with ⟨h1, _⟩ | ⟨y, i', _, _, h1, h2, _, h4, _⟩
        · exact ⟨0, by omega, _, none, owA ow v, f2, by rw [hask, h1]; rfl, s3, e3, by rw [List.length_set]; exact hl2, by rw [hask, h1] at hmv2; exact hmv2, .inl ⟨rfl, rfl⟩⟩
        · exact ⟨i' + 1, by omega, _, some y, owA ow v, f2, by rw [hask, h1]; rfl, s3, e3, by rw [List.length_set]; exact hl2, by rw [hask, h1] at hmv2; exact hmv2, .inr ⟨y, i', rfl, h4, by omega, rfl⟩⟩
noncomputable def grO (es : List (Int × Int)) (m : Nat) (i : Nat) : Own := grF (bkF es m) es.length i
def spGf (K : PySem.W.Frag) (c : Cs) : Sp := fun vs H Q _ => ∃ (x : Addr) (m : Int) (es : List (Int × Int)), vs = [.ref x] ∧ WebAt K c.Web H x m es ∧ es.length ≤ 40 ∧ 1 ≤ m ∧ m ≤ 20 ∧ EndsIn es m ∧ ∀ l A H', H l = none → Same H H' → H' l = some (.lst ((grO es m.toNat es.length).map oV)) → GrI es (grO es m.toNat es.length) es.length A → Q (.ref l) H'
theorem scGf : FnScope ["web", "owners", "tie", "told"] ["web"] (defScope sGf) := ⟨rfl, rfl, rfl, by decide +kernel, rfl, by decide +kernel, by decide +kernel⟩
theorem rep_non (n : Nat) : (List.replicate n [V.non]).flatten = (List.replicate n (none : Option Int)).map oV := by
  induction n with
  | zero => rfl
  | succ n ih => rw [List.replicate_succ, List.replicate_succ, List.flatten_cons, ih]; rfl
set_option maxHeartbeats 4000000 in
theorem ok_Gf {f : Addr} {fd : FuncData} (F : Fun K "grown_forests" "grown_forests" sGf f fd) (T : Txt K mg c) (D_Af : Def P w K mg base 4 "asked_from" ["web", "owners", "starts"] (spAf K c)) (D_Mv : Def P w K mg base 1 "moved" ["owners", "askers", "taken"] (spMv K)) : FnOk P w K mg base CX0 5 f fd ["web"] (spGf K c) := by
  refine F.ok scGf (fun vs H Q E h => ?_) (fun cdv A outer s H vs Q E hr h => ?_)
  · obtain ⟨x, m, es, rfl, _⟩ := h
    rfl
  · obtain ⟨x, m, es, rfl, hw, hz, m1, m2, hE, k⟩ := h
    refine ⟨_, pss_cons (ps_set (i := 1) scGf.nd rfl (Or.inl rfl) (pe_op op_rep (pe_lst (pa_cons (pe_non) pa_nil)) (pe_callB (cLen (K := K) rfl) (by rfl) T.len PySem.boot_len (pa_cons (pTies (K := K) rfl T.web (pv 0)) pa_nil))))
      (pss_cons (ps_for PassesOwn.never rfl (pi_range1 rfl T.range (pa_cons (pe_callB (cLen (K := K) rfl) (by rfl) T.len PySem.boot_len (pa_cons (pTies (K := K) rfl T.web (pv 0)) pa_nil)) pa_nil)) (pg_name (i := 2) scGf.nd rfl (Or.inl rfl))
        (pss_cons (ps_set (i := 3) scGf.nd rfl (Or.inl rfl) (pe_defR D_Af hr (pa_cons (pv 0) (pa_cons (pv 1) (pa_cons (pe_lst (pa_cons (pv 2) pa_nil)) pa_nil)))))
      (pss_one (ps_cut (ps_if (pt_cmpR op_notN (pe_ix (ixT (K := K) rfl) (pv 3) (pe_int) (fun _ _ => rfl)) (pe_non) (nomark _))
        (pss_one (ps_set (i := 1) scGf.nd rfl (Or.inl rfl) (pe_defR D_Mv hr (pa_cons (pv 1) (pa_cons (pe_ix (ixT (K := K) rfl) (pv 3) (pe_int) (fun _ _ => rfl)) (pa_cons (pe_ix (ixT (K := K) rfl) (pv 3) (pe_int) (fun _ _ => rfl)) pa_nil)))))) (pss_nil))))))
      (pss_one (ps_ret (pv 1)))), ?_⟩
    refine ⟨(by show 1 ≤ sizeLine; decide), fun l1 nl1 => ?_⟩
    have s1 := Same.new (o := .lst [V.non]) nl1
    have e1 : (upd H l1 (.lst [V.non])) l1 = some (.lst [V.non]) := upd_same
    generalize upd H l1 (.lst [V.non]) = H1 at s1 e1
    refine ⟨_, rfl, x, m, es, rfl, hw.same s1, fun tt0 ys0 ht0 hp0 => ⟨tt0, ys0, rfl, .inr (SqT.of ht0), l1, (ys0.length : Int), _, rfl, rfl, e1, by omega, ?_, ?_, fun al nal => ?_⟩⟩
    · have := hp0.len; omega
    · have := hp0.len; exact Nat.le_of_lt (small1000 (by show 1 * (ys0.length : Int).toNat ≤ 1000; omega))
    have hpl0 := hp0.len
    rw [show ((ys0.length : Int)).toNat = es.length from hpl0, rep_non]
    have s2 := s1.next (o := .lst ((List.replicate es.length (none : Option Int)).map oV)) nal
    have e2 : (upd H1 al (.lst ((List.replicate es.length (none : Option Int)).map oV))) al = some (.lst ((grO es m.toNat 0).map oV)) := upd_same
    have nalH : H al = none := none_back s1 nal
    generalize upd H1 al (.lst ((List.replicate es.length (none : Option Int)).map oV)) = H2 at s2 e2
    clear hp0 ht0 hpl0 e1
    refine ⟨_, rfl, x, m, es, rfl, hw.same s2, fun t ys ht hp => ⟨t, ys, rfl, .inr (SqT.of ht), (ys.length : Int), rfl, by omega, ?_, ?_⟩⟩
    · have := hp.len; omega
    have hpl := hp.len
    refine for_by itok_range (fun i σ H3 => ∃ (al : Addr) (A : List Int) (v2 v3 : Option V), σ = [some (.ref x), some (.ref al), v2, v3] ∧ Same H H3 ∧ H al = none ∧ H3 al = some (.lst ((grO es m.toNat i).map oV)) ∧ GrI es (grO es m.toNat i) i A) ⟨al, [], none, none, rfl, s2, nalH, e2, GrI.start es⟩ (fun _ _ _ _ _ => trivial) ?_ ?_
    · rintro i σ H3 hi ⟨al, A, v2, v3, rfl, s3, nal, e3, G⟩
      have hi' : i < es.length := by have : i < ys.length := hi; omega
      have hgl := G.len
      try dsimp only
      rw [Int.zero_add]
      refine ⟨_, rfl, _, rfl, _, rfl, (by show 1 ≤ sizeLine; decide), fun l3 nl3 => ?_⟩
      have s4 := s3.next (o := .lst ([(i : Int)].map V.int)) nl3
      have e4 := Same.new (o := .lst ([(i : Int)].map V.int)) nl3 _ _ e3
      have q4 : (upd H3 l3 (.lst ([(i : Int)].map V.int))) l3 = some (.lst ([(i : Int)].map V.int)) := upd_same
      refine ⟨x, al, l3, m, es, grO es m.toNat i, [(i : Int)], rfl, hw.same s4, SqL.of e4, SqL.of q4, hgl, hz, m1, m2, hE, by simp, fun t ht => (by rw [List.mem_singleton.mp ht]; omega), fun tt d v H5 s5 t5 d5 v5 hnc => ?_⟩
      have s05 := s4.trans s5
      have e5 := s5 _ _ e4
      have hgs : grO es m.toNat (i + 1) = grS (grO es m.toNat i) (askF (grO es m.toNat i) (bkF es m.toNat (grO es m.toNat i)) [(i : Int)]) := rfl
      obtain ⟨A', G'⟩ := G.step hE (bkF_ok es m.toNat _) hnc hi'
      rw [← hgs] at G'
      have hr1 : ∀ t ∈ ([(i : Int)] : List Int), 0 ≤ t ∧ t < (es.length : Int) := fun t ht => by rw [List.mem_singleton.mp ht]; omega
      obtain ⟨_, hrun⟩ := AsI.run (bkF_ok es m.toNat (grO es m.toNat i)).rng ((grO es m.toNat i).length + 1) (AsI.start (n := es.length) (ow := grO es m.toNat i) (bk := bkF es m.toNat (grO es m.toNat i)) (st := [(i : Int)]) (by simp) hr1) (by omega)
      have hrun2 : ∀ t s, (askF (grO es m.toNat i) (bkF es m.toNat (grO es m.toNat i)) [(i : Int)]).2 = some (t, s) → ∃ k', AsI es.length (grO es m.toNat i) (bkF es m.toNat (grO es m.toNat i)) [(i : Int)] (askF (grO es m.toNat i) (bkF es m.toNat (grO es m.toNat i)) [(i : Int)]).1 k' ∧ At (askF (grO es m.toNat i) (bkF es m.toNat (grO es m.toNat i)) [(i : Int)]).1 k' t := fun t s h => by
        obtain ⟨k', a, b, _⟩ := hrun t s h
        exact ⟨k', a, b⟩
      clear hrun hnc
      generalize askF (grO es m.toNat i) (bkF es m.toNat (grO es m.toNat i)) [(i : Int)] = R at d5 v5 hgs hrun2
      obtain ⟨W, r⟩ := R
      dsimp only at d5 v5 hrun2
      refine ⟨fun σ' H' => ∃ (al : Addr), σ' = [some (.ref x), some (.ref al), some (.int i), some (.ref tt)] ∧ Same H H' ∧ H al = none ∧ H' al = some (.lst ((grO es m.toNat (i + 1)).map oV)), ?_, ?_⟩
      · cases r with
        | none =>
          have v5' : v = .non := v5
          subst v5'
          refine ⟨_, rfl, tt, _, 1, _, rfl, rfl, SqT.of t5, rfl, rfl, _, rfl, iteF ⟨al, rfl, s05, nal, ?_⟩⟩
          rw [hgs]; exact e5
        | some p =>
          obtain ⟨tk, sd⟩ := p
          obtain ⟨a, ea, ha⟩ : ∃ a, v = .ref a ∧ H5 a = some (.tup [.int tk, .int sd]) := v5
          subst ea
          obtain ⟨k', hA, hat⟩ := hrun2 tk sd rfl
          refine ⟨_, rfl, tt, _, 1, _, rfl, rfl, SqT.of t5, rfl, rfl, _, rfl, iteT ?_⟩
          refine ⟨_, rfl, _, rfl, tt, _, 0, _, rfl, rfl, SqT.of t5, rfl, _, rfl, tt, _, 1, _, rfl, rfl, SqT.of t5, rfl, al, d, a, es.length, k', grO es m.toNat i, _, _, W, tk, sd, rfl, SqL.of e5, d5, SqT.of ha, hgl, hz, hA, hat, fun l6 H6 nl6 s6 e6 => ?_⟩
          refine ⟨l6, rfl, s05.trans s6, none_back s05 nl6, ?_⟩
          rw [hgs]; exact e6
      · rintro σ' H' ⟨al, rfl, s6, nal, e6⟩
        exact ⟨al, A', _, _, rfl, s6, nal, e6, G'⟩
    · rintro σ H3 ⟨al, A, v2, v3, rfl, s3, nal, e3, G⟩
      rw [show ((ys.length : Int)).toNat = es.length from hpl] at e3 G
      exact ⟨_, rfl, k al A H3 nal s3 e3 G⟩
theorem PcR.back {K : PySem.W.Frag} {H0 H H' : Hp} {n : Nat} {f : Int → Int} {l : Addr} (s : Same H0 H) (h : PcR K H n f l H') : PcR K H0 n f l H' := by
  obtain ⟨h1, h2, ad, h3, h4, h5⟩ := h
  exact ⟨s.trans h1, none_back s h2, ad, h3, fun r hr => ⟨none_back s (h4 r hr).1, (h4 r hr).2⟩, h5⟩
noncomputable def lftK (es : List (Int × Int)) (m : Nat) (ow : Own) : List Int := kys (askF ow (bkF es m ow) (tof ow none)).1
structure PoR (es : List (Int × Int)) (m : Nat) (ow : Own) (T : List Int) : Prop where
  perm : T.Perm (lftK es m ow)
  srt : T.Pairwise (· ≤ ·)
  tgt : Tight es ow (lftK es m ow)
  rng : ∀ t ∈ lftK es m ow, 0 ≤ t ∧ t < (es.length : Int)
  lft : ∀ t ∈ tof ow none, t ∈ lftK es m ow
def spPo (K : PySem.W.Frag) (c : Cs) : Sp := fun vs H Q _ => ∃ (x p : Addr) (m : Int) (es : List (Int × Int)) (ow : Own) (A : List Int), vs = [.ref x, .ref p] ∧ WebAt K c.Web H x m es ∧ SqL K H p (ow.map oV) ∧ es.length ≤ 40 ∧ 1 ≤ m ∧ m ≤ 20 ∧ EndsIn es m ∧ GrI es ow es.length A ∧
  ∀ (l : Addr) (g : Int → Int) (T : List Int) (H' : Hp), PoR es m.toNat ow T → Lab m (sub es T) g → PcR K H m.toNat g l H' → Q (.ref l) H'
theorem scPo : FnScope ["web", "owners", "told"] ["web", "owners"] (defScope sPo) := ⟨rfl, rfl, rfl, by decide +kernel, rfl, by decide +kernel, by decide +kernel⟩
set_option maxHeartbeats 4000000 in
theorem ok_Po {f : Addr} {fd : FuncData} (F : Fun K "parting_of" "parting_of" sPo f fd) (T : Txt K mg c) (D_Af : Def P w K mg base 4 "asked_from" ["web", "owners", "starts"] (spAf K c)) (D_To : Def P w K mg base 1 "ties_of" ["owners", "owner"] (spTo K)) (D_Pc : Def P w K mg base 2 "pieces" ["web"] (spPc K c)) (D_N : MkDef P w K mg base 1 "Web" c.Web ["self", "many", "ties"] (spInit K c.Web)) : FnOk P w K mg base CX0 5 f fd ["web", "owners"] (spPo K c) := by
  refine F.ok scPo (fun vs H Q E h => ?_) (fun cdv A outer s H vs Q E hr h => ?_)
  · obtain ⟨x, p, m, es, ow, A, rfl, _⟩ := h
    rfl
  · obtain ⟨x, p, m, es, ow, A, rfl, hw, hp, hz, m1, m2, hE, G, k⟩ := h
    refine ⟨_, pss_cons (ps_set (i := 2) scPo.nd rfl (Or.inl rfl) (pe_defR D_Af hr (pa_cons (pv 0) (pa_cons (pv 1) (pa_cons (pe_defR D_To hr (pa_cons (pv 1) (pa_cons (pe_non) pa_nil))) pa_nil)))))
      (pss_one (ps_ret (pe_defR D_Pc hr (pa_cons (pe_web D_N hr (pa_cons (pMany (K := K) rfl T.web (pv 0)) (pa_cons (pe_lc (N' := ["tie", "web"]) (nl := 1) (js := [0]) rfl (.of (osc := defScope sPo) (N := ["web", "owners", "told"]) (by decide +kernel) rfl rfl) (piSeq (K := K) rfl (pe_callB (cSortedD rfl) (by rfl) T.sorted PyProof.Rows.boot_sorted (pa_cons (pe_ix (ixT (K := K) rfl) (pv 2) (pe_int) (fun _ _ => rfl)) pa_nil)))
        (fun _ _ _ _ => pg_name (i := 0) (show (["tie", "web"] : List Str).Nodup by decide +kernel) rfl (Or.inl rfl)) (fun _ _ _ _ => pif_nil)
        (fun _ _ _ _ => pe_ix (ixT (K := K) rfl) (pTies (K := K) rfl T.web (pv 1)) (pv 0) (fun _ _ => rfl))) pa_nil))) pa_nil)))), ?_⟩
    have hgl := G.len
    refine ⟨_, rfl, _, rfl, _, rfl, p, ow, none, rfl, hp, by omega, fun lt H1 nlt s1 e1 => ?_⟩
    have hst : (tof ow none).Nodup := (tof_ok ow none).nd
    have hsr : ∀ t ∈ tof ow none, 0 ≤ t ∧ t < (es.length : Int) := fun t ht => by rw [← hgl]; exact (tof_ok ow none).rng t ht
    refine ⟨x, p, lt, m, es, ow, tof ow none, rfl, hw.same s1, s1.seq hp, SqL.of e1, hgl, hz, m1, m2, hE, hst, hsr, fun tt d v H2 s2 t2 d2 v2 hnc => ?_⟩
    have s02 := s1.trans s2
    have hno := ask_tight hE hgl (bkF_ok es m.toNat ow) G.fo G.tgt hnc hst hsr fun t ht => G.lft t (mem_tof.mp ht).1 (by have := (mem_tof.mp ht).2.1; omega) (mem_tof.mp ht).2.2
    obtain ⟨hrun, _⟩ := AsI.run (bkF_ok es m.toNat ow).rng (ow.length + 1) (AsI.start (n := es.length) (ow := ow) (bk := bkF es m.toNat ow) hst hsr) (by omega)
    have I : AsI es.length ow (bkF es m.toNat ow) (tof ow none) (askF ow (bkF es m.toNat ow) (tof ow none)).1 (askF ow (bkF es m.toNat ow) (tof ow none)).1.length := hrun hno
    have hlf : lftK es m.toNat ow = kys (askF ow (bkF es m.toNat ow) (tof ow none)).1 := rfl
    have hTg : Tight es ow (lftK es m.toNat ow) := I.tight hgl (bkF_ok es m.toNat ow)
    generalize (askF ow (bkF es m.toNat ow) (tof ow none)).1 = W at d2 I hlf
    have hkl : (kys W).length ≤ es.length := by
      have := nodup_len I.nd (m := (es.length : Int)) I.rng
      omega
    have hw2 := hw.same s02
    have hkeys : (askV W).map (·.1) = (kys W).map Sum.inl := by
      unfold askV kys
      rw [List.map_map, List.map_map]; rfl
    refine ⟨_, rfl, x, m, es, rfl, hw2, _, rfl, tt, _, 0, _, rfl, rfl, SqT.of t2, rfl, d, _, kys W, rfl, d2, hkeys, by omega, fun ls T' nls hperm hsrt => ?_⟩
    have s3 := s02.next (o := .lst (T'.map V.int)) nls
    have l3 : (upd H2 ls (.lst (T'.map V.int))) ls = some (.lst (T'.map V.int)) := upd_same
    generalize upd H2 ls (.lst (T'.map V.int)) = H3 at s3 l3
    have hw3 := hw.same s3
    have hTl : T'.length ≤ 40 := by rw [hperm.length_eq]; omega
    have hTm : (T'.map V.int).length = T'.length := List.length_map ..
    have hTr : ∀ t ∈ T', 0 ≤ t ∧ t < (es.length : Int) := fun t ht => I.rng t (hperm.mem_iff.mp ht)
    refine ⟨ls, _, rfl, .inl (SqL.of l3), fun J C O hC => lc_by O (fun i zs H4 => H4 = H3 ∧ Pairs K H3 zs (sub es (T'.take i))) (by rw [hTm]; exact Nat.le_of_lt (small1000 (by omega))) ⟨rfl, .nil⟩ ?_ ?_ ?_⟩
    · rintro i zs H4 hi ⟨rfl, pz⟩
      refine ⟨hC _ (Same.refl _), ?_⟩
      have := pz.len
      rw [sub_len, List.length_take] at this
      omega
    · rintro i zs H4 hi ⟨rfl, pz⟩
      obtain ⟨v, ev, gv⟩ := getD_map_int hi
      rw [hTm] at hi
      have hvr := hTr v (List.mem_of_getElem? gv)
      have hzl : zs.length ≤ i := by
        have := pz.len
        rw [sub_len, List.length_take] at this
        omega
      try dsimp only
      rw [ev]
      refine ⟨wk_set rfl, iteT ⟨_, rfl, x, m, es, rfl, hw3, fun t ys ht hpp => ?_⟩⟩
      obtain ⟨r, ar, hr2, hm⟩ := tie_get hpp hvr.1 hvr.2
      refine ⟨_, rfl, t, ys, v, .ref r, rfl, rfl, SqT.of ht, ar, small1000 (by omega), _, by omega, rfl, by omega, rfl, ?_⟩
      rw [take_snoc gv]
      have : sub es (T'.take i ++ [v]) = sub es (T'.take i) ++ [tieOf es v] := by unfold sub; rw [List.map_append]; rfl
      rw [this]
      exact pz.snoc hr2
    rintro zs H4 ⟨rfl, pz⟩ lw nlw
    rw [hTm, List.take_length] at pz
    have s5 := s3.next (o := .lst zs) nlw
    have hsl : (sub es T').length ≤ 40 := by rw [sub_len]; exact hTl
    have hEk : EndsIn (sub es T') m := ends_sub hE hTr
    refine ⟨lw, m, zs, sub es T', rfl, .inl (SqL.of upd_same), pz.same (Same.new nlw), m1, m2, hsl, hEk, fun y H6 ny s6 hy => ?_⟩
    exact ⟨y, m, _, rfl, hy, m1, m2, hsl, hEk, fun l7 g H7 hL hP => k l7 g T' H7 ⟨by rw [hlf]; exact hperm, hsrt, hTg, fun t ht => I.rng t (by rw [← hlf]; exact ht), fun t ht => by rw [hlf]; exact I.sta t ht⟩ hL (hP.back (s5.trans s6))⟩
def spTf (K : PySem.W.Frag) (c : Cs) : Sp := fun vs H Q _ => ∃ (x : Addr) (m : Int) (es : List (Int × Int)), vs = [.ref x] ∧ WebAt K c.Web H x m es ∧ es.length ≤ 40 ∧ 1 ≤ m ∧ m ≤ 20 ∧ EndsIn es m ∧
  (∀ (t l1 l2 : Addr) (S0 S1 : List Int) (H' : Hp), H l1 = none → H l2 = none → l1 ≠ l2 → Same H H' → H' t = some (.tup [.str "forests", .ref l1, .ref l2]) → H' l1 = some (.lst (S0.map V.int)) → H' l2 = some (.lst (S1.map V.int)) → S0 = tof (grO es m.toNat es.length) (some 0) → S1 = tof (grO es m.toNat es.length) (some 1) → Spn es S0 → Spn es S1 → (∀ t ∈ S0, ¬ t ∈ S1) → Q (.ref t) H') ∧
  (∀ (t l : Addr) (f g : Int → Int) (T : List Int) (H' : Hp), Same H H' → H' t = some (.tup [.str "parting", .ref l]) → PoR es m.toNat (grO es m.toNat es.length) T → Lab m es f → Lab m (sub es T) g → PcR K H m.toNat g l H' → (tof (grO es m.toNat es.length) (some 0)).length + (tof (grO es m.toNat es.length) (some 1)).length ≠ 2 * (m.toNat - (rts m.toNat f).length) → ((crN es g).length : Int) < 2 * (((rts m.toNat g).length : Int) - (rts m.toNat f).length) → Q (.ref t) H')
theorem scTf : FnScope ["web", "owners", "one", "two"] ["web"] (defScope sTf) := ⟨rfl, rfl, rfl, by decide +kernel, rfl, by decide +kernel, by decide +kernel⟩
theorem PcR.same {K : PySem.W.Frag} {H H1 H' : Hp} {n : Nat} {f : Int → Int} {l : Addr} (h : PcR K H n f l H1) (s : Same H1 H') : PcR K H n f l H' := by
  obtain ⟨h1, h2, ad, h3, h4, h5⟩ := h
  exact ⟨h1.trans s, h2, ad, s _ _ h3, fun r hr => ⟨(h4 r hr).1, (h4 r hr).2.1, s _ _ (h4 r hr).2.2⟩, h5⟩
set_option maxHeartbeats 4000000 in
theorem ok_Tf {f : Addr} {fd : FuncData} (F : Fun K "two_forests" "two_forests" sTf f fd) (T : Txt K mg c) (D_Gf : Def P w K mg base 5 "grown_forests" ["web"] (spGf K c)) (D_To : Def P w K mg base 1 "ties_of" ["owners", "owner"] (spTo K)) (D_Pc : Def P w K mg base 2 "pieces" ["web"] (spPc K c)) (D_Po : Def P w K mg base 5 "parting_of" ["web", "owners"] (spPo K c)) : FnOk P w K mg base CX0 6 f fd ["web"] (spTf K c) := by
  refine F.ok scTf (fun vs H Q E h => ?_) (fun cdv A outer s H vs Q E hr h => ?_)
  · obtain ⟨x, m, es, rfl, _⟩ := h
    rfl
  · obtain ⟨x, m, es, rfl, hw, hz, m1, m2, hE, k1, k2⟩ := h
    refine ⟨_, pss_cons (ps_set (i := 1) scTf.nd rfl (Or.inl rfl) (pe_defR D_Gf hr (pa_cons (pv 0) pa_nil)))
      (pss_cons (ps_set (i := 2) scTf.nd rfl (Or.inl rfl) (pe_defR D_To hr (pa_cons (pv 1) (pa_cons (pe_int) pa_nil))))
      (pss_cons (ps_set (i := 3) scTf.nd rfl (Or.inl rfl) (pe_defR D_To hr (pa_cons (pv 1) (pa_cons (pe_int) pa_nil))))
      (pss_cons (ps_if (pt_cmpR op_eq (pe_op op_add (pe_callB (cLen (K := K) rfl) (by rfl) T.len PySem.boot_len (pa_cons (pv 2) pa_nil)) (pe_callB (cLen (K := K) rfl) (by rfl) T.len PySem.boot_len (pa_cons (pv 3) pa_nil))) (pe_op op_mul (pe_int) (pe_op op_sub (pMany (K := K) rfl T.web (pv 0)) (pe_callB (cLen (K := K) rfl) (by rfl) T.len PySem.boot_len (pa_cons (pe_defR D_Pc hr (pa_cons (pv 0) pa_nil)) pa_nil)))) (nomark _))
        (pss_one (ps_ret (pe_tup (pa_cons (pe_str) (pa_cons (pv 2) (pa_cons (pv 3) pa_nil)))))) (pss_nil))
      (pss_one (ps_ret (pe_tup (pa_cons (pe_str) (pa_cons (pe_defR D_Po hr (pa_cons (pv 0) (pa_cons (pv 1) pa_nil))) pa_nil)))))))), ?_⟩
    refine ⟨_, rfl, x, m, es, rfl, hw, hz, m1, m2, hE, fun lo A H1 nlo s1 e1 G => ?_⟩
    obtain ⟨ow, eow⟩ : ∃ ow, ow = grO es m.toNat es.length := ⟨_, rfl⟩
    rw [← eow] at e1 G k1 k2
    have hgl := G.len
    refine ⟨_, rfl, lo, ow, some 0, rfl, SqL.of e1, by omega, fun l1 H2 nl1 s2 e2 => ?_⟩
    refine ⟨_, rfl, lo, ow, some 1, rfl, SqL.of (s2 _ _ e1), by omega, fun l2 H3 nl2 s3 e3 => ?_⟩
    have s13 := s2.trans s3
    have s03 := s1.trans s13
    have e23 := s3 _ _ e2
    have n12 : l1 ≠ l2 := ne_of_none e2 nl2
    have ht0 : (tof ow (some 0)).length ≤ 40 := by
      have := nodup_len (m := (ow.length : Int)) (tof_ok ow (some 0)).nd (tof_ok ow (some 0)).rng
      omega
    have ht1 : (tof ow (some 1)).length ≤ 40 := by
      have := nodup_len (m := (ow.length : Int)) (tof_ok ow (some 1)).nd (tof_ok ow (some 1)).rng
      omega
    refine ⟨_, rfl, l1, _, rfl, .inl (SqL.of e23), _, rfl, l2, _, rfl, .inl (SqL.of e3), _, _, rfl, rfl, ?_⟩
    refine ⟨_, rfl, x, m, es, rfl, hw.same s03, _, rfl, x, m, es, rfl, hw.same s03, m1, m2, hz, hE, fun l4 f4 H4 hL4 hP4 => ?_⟩
    obtain ⟨s4, nl4, ad4, e4, c4, i4⟩ := hP4
    have hrl := rts_len m.toNat f4
    have hrm : ((rts m.toNat f4).map fun r => V.ref (ad4 r)).length = (rts m.toNat f4).length := List.length_map ..
    refine ⟨l4, _, rfl, .inl (SqL.of e4), _, _, rfl, rfl, _, _, rfl, rfl, .inl ⟨by decide, by decide⟩, rfl, _, rfl, ?_⟩
    have s04 := s03.trans s4
    have hmr : (rts m.toNat f4).length ≤ m.toNat := hrl
    by_cases hc : (tof ow (some 0)).length + (tof ow (some 1)).length = 2 * (m.toNat - (rts m.toNat f4).length)
    · rw [decide_eq_true (show V.int ((((tof ow (some 0)).map V.int).length : Int) + (((tof ow (some 1)).map V.int).length : Int)) = V.int (2 * (m - (((rts m.toNat f4).map fun r => V.ref (ad4 r)).length : Int))) by
        rw [List.length_map, List.length_map, hrm]; congr 1; omega)]
      refine iteT ⟨_, rfl, _, rfl, (by show 3 ≤ sizeLine; decide), fun tt ntt => ?_⟩
      have sT := Same.new (o := .tup [V.str "forests", V.ref l1, V.ref l2]) ntt
      obtain ⟨S0, S1⟩ := two_span hE hgl G.fo hL4 hc
      exact k1 tt l1 l2 _ _ _ (none_back s1 nl1) (none_back (s1.trans s2) nl2) n12 (s04.trans sT) upd_same (sT _ _ (s4 _ _ e23)) (sT _ _ (s4 _ _ e3)) rfl rfl S0 S1 fun t h0 h1 => by
        have a0 := (mem_tof.mp h0).2.2
        have a1 := (mem_tof.mp h1).2.2
        rw [a0] at a1
        cases a1
    · rw [decide_eq_false (show ¬ V.int ((((tof ow (some 0)).map V.int).length : Int) + (((tof ow (some 1)).map V.int).length : Int)) = V.int (2 * (m - (((rts m.toNat f4).map fun r => V.ref (ad4 r)).length : Int))) by
        rw [List.length_map, List.length_map, hrm]
        intro z
        injection z with z
        exact hc (by omega))]
      refine iteF ⟨_, rfl, _, rfl, x, lo, m, es, ow, A, rfl, hw.same s04, SqL.of (s4 _ _ (s13 _ _ e1)), hz, m1, m2, hE, G, fun l5 g T' H5 hR hL5 hP5 => ⟨(by show 2 ≤ sizeLine; decide), fun tt ntt => ?_⟩⟩
      have sT := Same.new (o := .tup [V.str "parting", V.ref l5]) ntt
      have hfew := few_cross hE hgl G.two G.fo hR.tgt hR.rng hR.lft (fun t => hR.perm.mem_iff) hL4 hL5 hc
      exact k2 tt l5 f4 g T' _ ((s04.trans hP5.1).trans sT) upd_same hR hL4 hL5 ((hP5.back s04).same sT) hc hfew
def IsPt (m : Nat) (ls : List (List Int)) : Prop := (∀ l ∈ ls, l ≠ [] ∧ l.Pairwise (· ≤ ·)) ∧ ls.flatten.Perm (upto m) ∧ (ls.map (·.headD 0)).Pairwise (· ≤ ·)
noncomputable def isPt (m : Nat) (ls : List (List Int)) : Bool := @decide (IsPt m ls) (Classical.propDecidable _)
theorem isPt_iff {m : Nat} {ls : List (List Int)} : isPt m ls = true ↔ IsPt m ls := by unfold isPt; exact @decide_eq_true_iff _ (Classical.propDecidable _)
def spIp (K : PySem.W.Frag) (c : Cs) : Sp := fun vs H Q _ => ∃ (x p : Addr) (m : Int) (es : List (Int × Int)) (xs : List V) (ls : List (List Int)), vs = [.ref x, .ref p] ∧ WebAt K c.Web H x m es ∧ SqL K H p xs ∧ LlS H xs ls ∧ 1 ≤ m ∧ m ≤ 20 ∧ ls.length < 64 ∧ ls.flatten.length < 64 ∧ ∀ H', Same H H' → Q (.bl (isPt m.toNat ls)) H'
theorem scIp : FnScope ["web", "lists", "places", "some", "leasts"] ["web", "lists"] (defScope sIp) := ⟨rfl, rfl, rfl, by decide +kernel, rfl, by decide +kernel, by decide +kernel⟩
theorem sorted_self {ns ns' : List Int} (h : ns'.Perm ns) (h' : ns'.Pairwise (· ≤ ·)) : decide (ns = ns') = decide (ns.Pairwise (· ≤ ·)) := by
  rw [Bool.eq_iff_iff, decide_eq_true_iff, decide_eq_true_iff]
  exact ⟨fun e => e ▸ h', fun hs => sorted_uniq h.symm hs h'⟩
theorem flat_le {α : Type} : ∀ {ls : List (List α)} {l : List α}, l ∈ ls → l.length ≤ ls.flatten.length
  | _ :: ls, l, h => by
    rw [List.flatten_cons, List.length_append]
    rcases List.mem_cons.mp h with y | y
    · rw [y]; omega
    · have := flat_le y; omega
theorem upto_up (m : Nat) : (upto m).Pairwise (· ≤ ·) := by
  unfold upto
  rw [List.pairwise_map]
  exact List.pairwise_lt_range.imp fun h => by omega
set_option maxHeartbeats 4000000 in
theorem ok_Ip {f : Addr} {fd : FuncData} (F : Fun K "is_parting" "is_parting" sIp f fd) (T : Txt K mg c) : FnOk P w K mg base CX0 1 f fd ["web", "lists"] (spIp K c) := by
  refine F.ok scIp (fun vs H Q E h => ?_) (fun cdv A outer s H vs Q E hr h => ?_)
  · obtain ⟨x, p, m, es, xs, ls, rfl, _⟩ := h
    rfl
  · obtain ⟨x, p, m, es, xs, ls, rfl, hw, hp, hl, m1, m2, hz, hf, k⟩ := h
    have hu : A.units + 3 + 64 < cLine := hr.units
    refine ⟨_, pss_cons (ps_set (i := 2) scIp.nd rfl (Or.inl rfl) (pe_lst pa_nil))
      (pss_cons (ps_for PassesOwn.never rfl (piSeqB (K := K) rfl (pv 1)) (pg_name (i := 3) scIp.nd rfl (Or.inl rfl))
        (pss_cons (ps_if (PW.pt (pw_or (pt_cmpR (opEqD (K := K) rfl hu) (pv 3) (pe_lst pa_nil) (nomark _)) (pw_or1 (pt_cmpR (opNeD (K := K) rfl hu) (pv 3) (pe_callB (cSorted (K := K) rfl) (by rfl) T.sorted PyProof.Rows.boot_sorted (pa_cons (pv 3) pa_nil)) (nomark _)))))
        (pss_one (ps_ret (pe_bl))) (pss_nil))
      (pss_one (ps_expr (pe_bm PySem.F.plainAttrs_list PySem.F.slot_list_extend PySem.F.type_list_extend mt_extend (pv 2) (pa_cons (pv 3) pa_nil))))))
      (pss_cons (ps_setlc (i := 4) (N' := ["some"]) (nl := 1) (js := []) rfl (.of (osc := defScope sIp) (N := ["web", "lists", "places", "some", "leasts"]) (by decide +kernel) rfl rfl) (piSeqB (K := K) rfl (pv 1))
        (fun _ _ _ _ => pg_name (i := 0) (show (["some"] : List Str).Nodup by decide +kernel) rfl (Or.inl rfl)) (fun _ _ _ _ => pif_nil)
        (fun _ _ _ _ => pe_ix (ixL (K := K) rfl) (pv 0) (pe_int) (fun _ _ => rfl)) scIp.nd rfl rfl)
      (pss_one (ps_ret (pe_and (pe_cmpR (opEqD (K := K) rfl hu) (pe_callB (cSorted (K := K) rfl) (by rfl) T.sorted PyProof.Rows.boot_sorted (pa_cons (pv 2) pa_nil)) (pe_listrange1 rfl rfl T.list rfl T.range (pa_cons (pMany (K := K) rfl T.web (pv 0)) pa_nil)) (nomark _)) (pe_one (pe_cmpR (opEqD (K := K) rfl hu) (pv 4) (pe_callB (cSorted (K := K) rfl) (by rfl) T.sorted PyProof.Rows.boot_sorted (pa_cons (pv 4) pa_nil)) (nomark _)))))))), ?_⟩
    have hxl := hl.len
    refine ⟨(by show 0 ≤ sizeLine; decide), fun q nq => ?_⟩
    have s1 := Same.new (o := .lst []) nq
    have q1 : (upd H q (.lst [])) q = some (.lst (([] : List Int).map V.int)) := upd_same
    generalize upd H q (.lst []) = H1 at s1 q1
    refine ⟨_, rfl, false, p, _, rfl, s1.seq hp, fun J C O hC => for_by O (fun i σ H2 => ∃ v3 : Option V, σ = [some (.ref x), some (.ref p), some (.ref q), v3, none] ∧ Same H H2 ∧ H2 q = some (.lst ((ls.take i).flatten.map V.int)) ∧ ∀ l ∈ ls.take i, l ≠ [] ∧ l.Pairwise (· ≤ ·)) ⟨none, rfl, s1, q1, fun l hl => (by simp at hl)⟩ (fun i σ H2 _ h => ?_) ?_ ?_⟩
    · obtain ⟨v3, _, s2, _⟩ := h
      exact hC _ (s2.seq hp)
    · rintro i σ H2 hi ⟨v3, rfl, s2, q2, hall⟩
      obtain ⟨g, ns, eg, hg, gi⟩ := hl.at hi
      have hmem := List.mem_of_getElem? gi
      have hnl := flat_le hmem
      have hg2 := s2 _ _ hg
      try dsimp only
      rw [eg]
      refine ⟨_, rfl, (by show 0 ≤ sizeLine; decide), fun l0 nl0 => ?_⟩
      have s3 := s2.next (o := .lst []) nl0
      have z3 : (upd H2 l0 (.lst [])) l0 = some (.lst (([] : List Int).map V.int)) := upd_same
      have q3 := Same.new (o := .lst []) nl0 _ _ q2
      generalize upd H2 l0 (.lst []) = H3 at s3 z3 q3
      have hg3 := s3 _ _ hg
      refine ⟨dI ns, dI [], dat_ints (SqL.of hg3), dat_ints (SqL.of z3), shaped_dI _, shaped_dI _, _, rfl, ?_⟩
      rw [eqv_dI]
      by_cases c1 : ns = []
      · rw [decide_eq_true c1]
        refine iteT (iteT ?_)
        have : isPt m.toNat ls = false := by
          rw [Bool.eq_false_iff]
          intro z
          exact (isPt_iff.mp z).1 ns hmem |>.1 c1
        rw [← this]
        exact k _ s3
      · rw [decide_eq_false c1]
        refine iteF ⟨_, rfl, _, rfl, g, ns, rfl, SqL.of hg3, by omega, fun l1 ns' nl1 hp1 hs1 => ?_⟩
        have s4 := s3.next (o := .lst (ns'.map V.int)) nl1
        have z4 : (upd H3 l1 (.lst (ns'.map V.int))) l1 = some (.lst (ns'.map V.int)) := upd_same
        have q4 := Same.new (o := .lst (ns'.map V.int)) nl1 _ _ q3
        generalize upd H3 l1 (.lst (ns'.map V.int)) = H4 at s4 z4 q4
        have hg4 := s4 _ _ hg
        refine ⟨dI ns, dI ns', dat_ints (SqL.of hg4), dat_ints (SqL.of z4), shaped_dI _, shaped_dI _, _, rfl, ?_⟩
        rw [eqv_dI, sorted_self hp1 hs1]
        by_cases c2 : ns.Pairwise (· ≤ ·)
        · rw [decide_eq_true c2]
          refine iteF ?_
          have hfl : ((ls.take i).flatten.map V.int).length ≤ 64 := by
            rw [List.length_map]
            have : ls.flatten = (ls.take i).flatten ++ (ls.drop i).flatten := by rw [← List.flatten_append, List.take_append_drop]
            rw [this, List.length_append] at hf
            omega
          refine ⟨_, rfl, .inl ⟨rfl, _, SqL.of q4⟩, _, rfl, q, g, _, _, rfl, rfl, q4, hg4, Nat.le_of_lt (small1000 (by have : (ns.map V.int).length = ns.length := List.length_map ..; omega)), ?_⟩
          refine ⟨_, rfl, s4.upd nq, ?_, fun l hl' => ?_⟩
          · rw [take_snoc gi, List.flatten_append, List.map_append]
            have : ([ns] : List (List Int)).flatten = ns := by simp
            rw [this]; exact upd_same
          · rw [take_snoc gi] at hl'
            rcases List.mem_append.mp hl' with y | y
            · exact hall l y
            · rw [List.mem_singleton.mp y]; exact ⟨c1, c2⟩
        · rw [decide_eq_false c2]
          refine iteT ?_
          have : isPt m.toNat ls = false := by
            rw [Bool.eq_false_iff]
            intro z
            exact c2 ((isPt_iff.mp z).1 ns hmem).2
          rw [← this]
          exact k _ s4
    · rintro σ H2 ⟨v3, rfl, s2, q2, hall⟩
      rw [hxl, List.take_length] at q2 hall
      refine ⟨_, rfl, false, p, _, rfl, s2.seq hp, fun J C O hC => lc_by O (fun i ys H3 => H3 = H2 ∧ ys = ((ls.take i).map (·.headD 0)).map V.int) (Nat.le_of_lt (small1000 (by omega))) ⟨rfl, rfl⟩ ?_ ?_ ?_⟩
      · rintro i ys H3 hi ⟨rfl, rfl⟩
        exact ⟨hC _ (s2.seq hp), by rw [List.length_map, List.length_map, List.length_take]; omega⟩
      · rintro i ys H3 hi ⟨rfl, rfl⟩
        obtain ⟨g, ns, eg, hg, gi⟩ := hl.at hi
        have hne := (hall ns (List.mem_of_getElem? gi)).1
        have at0 : atI (ns.map V.int) 0 = some (.int (ns.headD 0)) := by
          cases ns with
          | nil => exact absurd rfl hne
          | cons a r => exact atI_int (by decide) rfl
        try dsimp only
        rw [eg]
        refine ⟨wk_set rfl, iteT ⟨_, rfl, g, _, 0, _, rfl, rfl, SqL.of (s2 _ _ hg), at0, small1000 (by rw [List.length_map, List.length_map, List.length_take]; omega), _, by omega, rfl, by omega, rfl, ?_⟩⟩
        rw [take_snoc gi, List.map_append, List.map_append]; rfl
      rintro ys H3 ⟨rfl, rfl⟩ lm nlm
      rw [hxl, List.take_length]
      obtain ⟨hs, ehs⟩ : ∃ hs, hs = ls.map (·.headD 0) := ⟨_, rfl⟩
      rw [← ehs]
      have hhl : hs.length < 64 := by rw [ehs, List.length_map]; exact hz
      have s4 := s2.next (o := .lst (hs.map V.int)) nlm
      have m4 : (upd H3 lm (.lst (hs.map V.int))) lm = some (.lst (hs.map V.int)) := upd_same
      have q4 := Same.new (o := .lst (hs.map V.int)) nlm _ _ q2
      generalize upd H3 lm (.lst (hs.map V.int)) = H4 at s4 m4 q4
      refine ⟨_, rfl, q, ls.flatten, rfl, SqL.of q4, hf, fun l5 ns' nl5 hp5 hs5 => ?_⟩
      have s5 := s4.next (o := .lst (ns'.map V.int)) nl5
      have z5 : (upd H4 l5 (.lst (ns'.map V.int))) l5 = some (.lst (ns'.map V.int)) := upd_same
      have m5 := Same.new (o := .lst (ns'.map V.int)) nl5 _ _ m4
      generalize upd H4 l5 (.lst (ns'.map V.int)) = H5 at s5 z5 m5
      have hup : ((List.range m.toNat).map fun i => 0 + ((i : Nat) : Int)) = upto m.toNat := by
        unfold upto
        exact List.map_congr_left fun i _ => Int.zero_add _
      refine ⟨_, rfl, x, m, es, rfl, hw.same s5, m, rfl, by omega, by omega, fun l6 nl6 => ?_⟩
      rw [hup]
      have s6 := s5.next (o := .lst ((upto m.toNat).map V.int)) nl6
      have z6 : (upd H5 l6 (.lst ((upto m.toNat).map V.int))) l6 = some (.lst ((upto m.toNat).map V.int)) := upd_same
      have y6 := Same.new (o := .lst ((upto m.toNat).map V.int)) nl6 _ _ z5
      have m6 := Same.new (o := .lst ((upto m.toNat).map V.int)) nl6 _ _ m5
      generalize upd H5 l6 (.lst ((upto m.toNat).map V.int)) = H6 at s6 z6 y6 m6
      refine ⟨dI ns', dI (upto m.toNat), dat_ints (SqL.of y6), dat_ints (SqL.of z6), shaped_dI _, shaped_dI _, _, rfl, ?_⟩
      rw [eqv_dI]
      by_cases c1 : ns' = upto m.toNat
      · rw [decide_eq_true c1]
        refine iteT ⟨_, rfl, _, rfl, lm, hs, rfl, SqL.of m6, hhl, fun l7 hs' nl7 hp7 hs7 => ?_⟩
        have s7 := s6.next (o := .lst (hs'.map V.int)) nl7
        have z7 : (upd H6 l7 (.lst (hs'.map V.int))) l7 = some (.lst (hs'.map V.int)) := upd_same
        have m7 := Same.new (o := .lst (hs'.map V.int)) nl7 _ _ m6
        generalize upd H6 l7 (.lst (hs'.map V.int)) = H7 at s7 z7 m7
        refine ⟨dI hs, dI hs', dat_ints (SqL.of m7), dat_ints (SqL.of z7), shaped_dI _, shaped_dI _, ?_⟩
        rw [eqv_dI, sorted_self hp7 hs7]
        have : isPt m.toNat ls = decide (hs.Pairwise (· ≤ ·)) := by
          rw [Bool.eq_iff_iff, isPt_iff, decide_eq_true_iff, ehs]
          exact ⟨fun h => h.2.2, fun h => ⟨hall, by rw [← c1]; exact hp5.symm, h⟩⟩
        show Q (.bl (id (decide (hs.Pairwise (· ≤ ·))))) H7
        rw [id, ← this]
        exact k _ s7
      · rw [decide_eq_false c1]
        refine iteF ?_
        have : isPt m.toNat ls = false := by
          rw [Bool.eq_false_iff]
          intro z
          exact c1 (sorted_uniq (hp5.trans (isPt_iff.mp z).2.1) hs5 (upto_up _))
        rw [← this]
        exact k _ s6
def crsL (ls : List (List Int)) (e : Int × Int) : Bool := ls.any fun l => memI l e.1 && !memI l e.2
def spCr (K : PySem.W.Frag) : Sp := fun vs H Q _ => ∃ (p r : Addr) (xs : List V) (ls : List (List Int)) (e : Int × Int), vs = [.ref p, .ref r] ∧ SqL K H p xs ∧ LlS H xs ls ∧ SqT K H r [.int e.1, .int e.2] ∧ ls.length ≤ 64 ∧ ∀ H', Same H H' → Q (.bl (crsL ls e)) H'
theorem scCr : FnScope ["lists", "ends"] ["lists", "ends"] (defScope sCr) := ⟨rfl, rfl, rfl, by decide +kernel, rfl, by decide +kernel, by decide +kernel⟩
theorem bls_any : ∀ bs : List Bool, (bs.map V.bl).all isBI = true ∧ (bs.map V.bl).any tv = bs.any id
  | [] => ⟨rfl, rfl⟩
  | b :: bs => by
    obtain ⟨h1, h2⟩ := bls_any bs
    rw [List.map_cons, List.all_cons, List.any_cons, h1, h2, List.any_cons]
    exact ⟨rfl, rfl⟩
set_option maxHeartbeats 4000000 in
theorem ok_Cr {f : Addr} {fd : FuncData} (F : Fun K "crosses" "crosses" sCr f fd) (T : Txt K mg c) : FnOk P w K mg base CX0 1 f fd ["lists", "ends"] (spCr K) := by
  refine F.ok scCr (fun vs H Q E h => ?_) (fun cdv A outer s H vs Q E hr h => ?_)
  · obtain ⟨p, r, xs, ls, e, rfl, _⟩ := h
    rfl
  · obtain ⟨p, r, xs, ls, e, rfl, hp, hl, hr2, hz, k⟩ := h
    refine ⟨_, pss_one (ps_ret (pe_callB (cAny (K := K) rfl rfl) (by rfl) T.any PyProof.Rows.boot_any (pa_cons (pe_lc (N' := ["some", "ends"]) (nl := 1) (js := [1]) rfl (.of (osc := defScope sCr) (N := ["lists", "ends"]) (by decide +kernel) rfl rfl) (piSeq (K := K) rfl (pv 0))
        (fun _ _ _ _ => pg_name (i := 0) (show (["some", "ends"] : List Str).Nodup by decide +kernel) rfl (Or.inl rfl)) (fun _ _ _ _ => pif_nil)
        (fun _ _ _ _ => pe_and (pe_cmpR (opIn (K := K) rfl) (pe_ix (ixT (K := K) rfl) (pv 1) (pe_int) (fun _ _ => rfl)) (pv 0) (by with_unfolding_all rfl)) (pe_one (pe_cmpR (opNotIn (K := K) rfl) (pe_ix (ixT (K := K) rfl) (pv 1) (pe_int) (fun _ _ => rfl)) (pv 0) (by with_unfolding_all rfl))))) pa_nil))), ?_⟩
    have hxl := hl.len
    refine ⟨_, rfl, p, _, rfl, .inl hp, fun J C O hC => lc_by O (fun i ys H2 => H2 = H ∧ ys = ((ls.take i).map fun l => memI l e.1 && !memI l e.2).map V.bl) (Nat.le_of_lt (small1000 (by omega))) ⟨rfl, rfl⟩ ?_ ?_ ?_⟩
    · rintro i ys H2 hi ⟨rfl, rfl⟩
      exact ⟨hC _ (Same.refl _), by rw [List.length_map, List.length_map, List.length_take]; omega⟩
    · rintro i ys H2 hi ⟨rfl, rfl⟩
      obtain ⟨g, ns, eg, hg, gi⟩ := hl.at hi
      try dsimp only
      rw [eg]
      have fin : ∀ b : Bool, b = (memI ns e.1 && !memI ns e.2) → ((ls.take i).map fun l => memI l e.1 && !memI l e.2).map V.bl ++ [V.bl b] = ((ls.take (i + 1)).map fun l => memI l e.1 && !memI l e.2).map V.bl := fun b hb => by
        rw [take_snoc gi, List.map_append, List.map_append, hb]; rfl
      have hln : (((ls.take i).map fun l => memI l e.1 && !memI l e.2).map V.bl).length ≤ i := by rw [List.length_map, List.length_map, List.length_take]; omega
      refine ⟨wk_set rfl, iteT ⟨_, rfl, r, _, 0, _, rfl, rfl, hr2, rfl, _, rfl, g, _, rfl, .inl (SqL.of hg), rfl, flat_ints _, _, rfl, ?_⟩⟩
      rw [if_neg Bool.false_ne_true, inV_ints]
      cases c1 : ns.any (· == e.1)
      · exact iteF ⟨small1000 (by omega), _, by omega, rfl, by omega, rfl, fin false (by rw [show memI ns e.1 = false from c1]; rfl)⟩
      · refine iteT ⟨_, rfl, r, _, 1, _, rfl, rfl, hr2, rfl, _, rfl, g, _, rfl, .inl (SqL.of hg), rfl, flat_ints _, ?_⟩
        rw [if_pos rfl, inV_ints]
        exact ⟨small1000 (by omega), _, by omega, rfl, by omega, rfl, fin _ (by rw [show memI ns e.1 = true from c1]; rfl)⟩
    rintro ys H2 ⟨rfl, rfl⟩ la nla
    rw [hxl, List.take_length]
    refine ⟨la, _, rfl, .inl (SqL.of upd_same), (bls_any _).1, ?_⟩
    rw [(bls_any _).2, List.any_map]
    exact k _ (Same.new nla)
def spSw (K : PySem.W.Frag) (c : Cs) : Sp := fun vs H Q _ => ∃ (x p : Addr) (m : Int) (es : List (Int × Int)) (xs : List V) (ls : List (List Int)), vs = [.ref x, .ref p] ∧ WebAt K c.Web H x m es ∧ SqL K H p xs ∧ LlS H xs ls ∧ 1 ≤ m ∧ m ≤ 20 ∧ es.length ≤ 40 ∧ EndsIn es m ∧ ls.length < 64 ∧ ls.flatten.length < 64 ∧
  ∀ H' f, Lab m es f → Same H H' → Q (.bl (isPt m.toNat ls && decide (((es.filter (crsL ls)).length : Int) < 2 * ((ls.length : Int) - (rts m.toNat f).length)))) H'
theorem scSw : FnScope ["web", "lists", "crossing"] ["web", "lists"] (defScope sSw) := ⟨rfl, rfl, rfl, by decide +kernel, rfl, by decide +kernel, by decide +kernel⟩
set_option maxHeartbeats 4000000 in
theorem ok_Sw {f : Addr} {fd : FuncData} (F : Fun K "parting_shows" "parting_shows" sSw f fd) (T : Txt K mg c) (D_Ip : Def P w K mg base 1 "is_parting" ["web", "lists"] (spIp K c)) (D_Cr : Def P w K mg base 1 "crosses" ["lists", "ends"] (spCr K)) (D_Pc : Def P w K mg base 2 "pieces" ["web"] (spPc K c)) : FnOk P w K mg base CX0 3 f fd ["web", "lists"] (spSw K c) := by
  refine F.ok scSw (fun vs H Q E h => ?_) (fun cdv A outer s H vs Q E hr h => ?_)
  · obtain ⟨x, p, m, es, xs, ls, rfl, _⟩ := h
    rfl
  · obtain ⟨x, p, m, es, xs, ls, rfl, hw, hp, hl, m1, m2, hz, hE, hlz, hlf, k⟩ := h
    refine ⟨_, pss_cons (ps_if (pt_not (pt_val (pe_defR D_Ip hr (pa_cons (pv 0) (pa_cons (pv 1) pa_nil)))))
        (pss_one (ps_ret (pe_bl))) (pss_nil))
      (pss_cons (ps_setlc (i := 2) (N' := ["ends", "lists"]) (nl := 1) (js := [1]) rfl (.of (osc := defScope sSw) (N := ["web", "lists", "crossing"]) (by decide +kernel) rfl rfl) (piSeq (K := K) rfl (pTies (K := K) rfl T.web (pv 0)))
        (fun _ _ _ _ => pg_name (i := 0) (show (["ends", "lists"] : List Str).Nodup by decide +kernel) rfl (Or.inl rfl)) (fun _ _ _ _ => pif_one (pt_val (pe_defR D_Cr hr (pa_cons (pv 1) (pa_cons (pv 0) pa_nil)))))
        (fun _ _ _ _ => pv 0) scSw.nd rfl rfl)
      (pss_one (ps_ret (pe_cmpR op_lt (pe_callB (cLen (K := K) rfl) (by rfl) T.len PySem.boot_len (pa_cons (pv 2) pa_nil)) (pe_op op_mul (pe_int) (pe_op op_sub (pe_callB (cLen (K := K) rfl) (by rfl) T.len PySem.boot_len (pa_cons (pv 1) pa_nil)) (pe_callB (cLen (K := K) rfl) (by rfl) T.len PySem.boot_len (pa_cons (pe_defR D_Pc hr (pa_cons (pv 0) pa_nil)) pa_nil)))) (nomark _))))), ?_⟩
    have hxl := hl.len
    refine ⟨_, rfl, _, rfl, x, p, m, es, xs, ls, rfl, hw, hp, hl, m1, m2, hlz, hlf, fun H1 s1 => ⟨_, rfl, ?_⟩⟩
    cases hc : isPt m.toNat ls with
    | false =>
      refine iteT ?_
      obtain ⟨f0, F0⟩ := lab_of hE
      have := k H1 f0 F0 s1
      rw [hc] at this
      exact this
    | true =>
      refine iteF ?_
      refine ⟨_, rfl, x, m, es, rfl, hw.same s1, fun t ys ht hpp => ⟨t, ys, rfl, .inr (SqT.of ht), fun J C O hC => lc_by O (fun i zs H2 => Same H1 H2 ∧ zs.length = ((es.take i).filter (crsL ls)).length) (by have := hpp.len; exact Nat.le_of_lt (small1000 (by omega))) ⟨Same.refl _, rfl⟩ ?_ ?_ ?_⟩⟩
      · rintro i zs H2 hi ⟨s2, hz2⟩
        exact ⟨hC _ s2, by rw [hz2]; exact Nat.le_trans (List.length_filter_le _ _) (by rw [List.length_take]; omega)⟩
      · rintro i zs H2 hi ⟨s2, hz2⟩
        obtain ⟨r, e, er, hr2, ei, he⟩ := hpp.at hi
        have hzl : zs.length ≤ i := by rw [hz2]; exact Nat.le_trans (List.length_filter_le _ _) (by rw [List.length_take]; omega)
        have hpl := hpp.len
        try dsimp only
        rw [er]
        have s02 := s1.trans s2
        refine ⟨wk_set rfl, _, rfl, _, rfl, p, r, xs, ls, e, rfl, s02.seq hp, hl.same s02, s2.tup hr2, by omega, fun H3 s3 => ⟨_, rfl, ?_⟩⟩
        rw [take_snoc ei, List.filter_append, List.length_append]
        cases c1 : crsL ls e
        · refine iteF ⟨_, by omega, rfl, by omega, s2.trans s3, ?_⟩
          rw [List.filter_cons_of_neg (by rw [c1]; decide)]; exact hz2
        · refine iteT ⟨_, rfl, small1000 (by omega), _, by omega, rfl, by omega, s2.trans s3, ?_⟩
          rw [List.filter_cons_of_pos c1, List.length_append, hz2]; rfl
      rintro zs H2 ⟨s2, hz2⟩ lc nlc
      have hpl := hpp.len
      rw [hpl, List.take_length] at hz2
      have s3 := (s1.trans s2).next (o := .lst zs) nlc
      have c3 : (upd H2 lc (.lst zs)) lc = some (.lst zs) := upd_same
      generalize upd H2 lc (.lst zs) = H3 at s3 c3
      refine ⟨_, rfl, lc, _, rfl, .inl (SqL.of c3), _, rfl, p, xs, rfl, .inl (s3.seq hp), _, rfl, x, m, es, rfl, hw.same s3, m1, m2, hz, hE, fun l4 f4 H4 hL4 hP4 => ?_⟩
      obtain ⟨s4, nl4, ad4, e4, c4, i4⟩ := hP4
      have hrm : ((rts m.toNat f4).map fun r => V.ref (ad4 r)).length = (rts m.toNat f4).length := List.length_map ..
      refine ⟨l4, _, rfl, .inl (SqL.of e4), _, _, rfl, rfl, _, _, rfl, rfl, .inl ⟨by decide, by decide⟩, _, _, rfl, rfl, ?_⟩
      have := k H4 f4 hL4 (s3.trans s4)
      rw [hc, Bool.true_and] at this
      rw [hrm, hxl, hz2]
      exact this
def spC (K : PySem.W.Frag) : Sp := fun vs H Q _ => ∃ (a : Addr) (ns : List Int) (k : Int), vs = [.ref a, .int k] ∧ SqL K H a (ns.map V.int) ∧ 0 ≤ k ∧ Q (.int (ns.getD k.toNat 0)) H
theorem scC : FnScope ["script", "k"] ["script", "k"] (defScope sC) := ⟨rfl, rfl, rfl, by decide +kernel, rfl, by decide +kernel, by decide +kernel⟩
theorem ok_C {f : Addr} {fd : FuncData} (F : Fun K "_law_cell" "_law_cell" sC f fd) (T : Txt K mg c) : FnOk P w K mg base CX0 1 f fd ["script", "k"] (spC K) := by
  refine F.ok scC (fun vs H Q E h => ?_) (fun cdv A outer s H vs Q E hr h => ?_)
  · obtain ⟨a, ns, k, rfl, _⟩ := h
    rfl
  · obtain ⟨a, ns, k, rfl, hS, h0, q⟩ := h
    refine ⟨_, pss_cons (ps_if (pt_cmpR op_lt (pv 1) (pe_callB (cLen (K := K) rfl) (by rfl) T.len PySem.boot_len (pa_cons (pv 0) pa_nil)) (nomark _))
        (pss_one (ps_ret (pe_ix (ixL (K := K) rfl) (pv 0) (pv 1) (fun _ _ => rfl)))) (pss_nil))
      (pss_one (ps_ret (pe_int))), ?_⟩
    refine ⟨_, rfl, _, rfl, a, _, rfl, .inl hS, _, _, rfl, rfl, _, rfl, ?_⟩
    refine ite2 (fun c => ?_) (fun c => ?_)
    · have c' := of_decide_eq_true c
      rw [List.length_map] at c'
      exact ⟨_, rfl, _, rfl, a, _, k, _, rfl, rfl, hS, at_int h0 c', q⟩
    · have c' : ¬ k < ((ns.map V.int).length : Int) := fun z => c (decide_eq_true z)
      rw [List.length_map] at c'
      have e : ns.getD k.toNat 0 = 0 := by rw [List.getD_eq_getElem?_getD, List.getElem?_eq_none (by omega)]; rfl
      rw [e] at q
      exact q
def spH (_ : PySem.W.Frag) : Sp := fun vs H Q _ => ∃ i, vs = [.int i] ∧ Q (.bl true) H
theorem scH : FnScope ["found"] ["found"] (defScope sH) := ⟨rfl, rfl, rfl, by decide +kernel, rfl, by decide +kernel, by decide +kernel⟩
theorem ok_H {f : Addr} {fd : FuncData} (F : Fun K "_law_whole" "_law_whole" sH f fd) (T : Txt K mg c) : FnOk P w K mg base CX0 1 f fd ["found"] (spH K) := by
  refine F.ok scH (fun vs H Q E h => ?_) (fun cdv A outer s H vs Q E hr h => ?_)
  · obtain ⟨i, rfl, _⟩ := h
    rfl
  · obtain ⟨i, rfl, k⟩ := h
    refine ⟨_, pss_one (ps_ret (pe_and (pe_callB (cIs (K := K) rfl) (by rfl) T.isinstance PyProof.Rows.boot_isinstance (pa_cons (pv 0) (pa_cons (pe_bltn (v := .ty "int") (by rfl) T.int PyProof.Rows.boot_int rfl) pa_nil))) (pe_one (pe_not (pe_callB (cIs (K := K) rfl) (by rfl) T.isinstance PyProof.Rows.boot_isinstance (pa_cons (pv 0) (pa_cons (pe_bltn (v := .ty "bool") (by rfl) T.bool PyProof.Rows.boot_bool rfl) pa_nil))))))), ?_⟩
    refine ⟨_, rfl, _, _, _, _, true, rfl, rfl, fun _ z => z, .of (.int i), kit_self _ _, true, rfl, iteT ?_⟩
    exact ⟨_, rfl, _, _, _, _, false, rfl, rfl, fun _ z => z, .of (.int i), kIntBool, false, rfl, k⟩
def spE (K : PySem.W.Frag) : Sp := fun vs H Q _ => ∃ (a : Addr) (ns : List Int) (m c y : Int), vs = [.ref a, .int m, .int c, .int y] ∧ SqL K H a (ns.map V.int) ∧ 1 ≤ m ∧ m ≤ 1000 ∧ 0 ≤ c ∧ c ≤ 1000 ∧
  ∀ (l : Addr) (xs : List V) (es : List (Int × Int)) (H' : Hp), H l = none → Same H H' → H' l = some (.lst xs) → Pairs K H' xs es → es.length = c.toNat → EndsIn es m → Q (.ref l) H'
theorem scE : FnScope ["script", "many", "count", "way", "rest", "found", "k", "cell", "mixed"] ["script", "many", "count", "way"] (defScope sE) := ⟨rfl, rfl, rfl, by decide +kernel, rfl, by decide +kernel, by decide +kernel⟩
set_option maxHeartbeats 4000000 in
theorem ok_E {f : Addr} {fd : FuncData} (F : Fun K "_law_ends" "_law_ends" sE f fd) (T : Txt K mg c) (D_C : Def P w K mg base 1 "_law_cell" ["script", "k"] (spC K)) : FnOk P w K mg base CX0 2 f fd ["script", "many", "count", "way"] (spE K) := by
  refine F.ok scE (fun vs H Q E h => ?_) (fun cdv A outer s H vs Q E hr h => ?_)
  · obtain ⟨a, ns, m, c, y, rfl, _⟩ := h
    rfl
  · obtain ⟨a, ns, m, c, y, rfl, hS, m1, m2, c1, c2, k⟩ := h
    refine ⟨_, pss_cons (ps_cut (ps_set (i := 4) scE.nd rfl (Or.inl rfl) (pe_callB call_abs (by rfl) T.abs PyProof.Rows.boot_abs (pa_cons (pe_defR D_C hr (pa_cons (pv 0) (pa_cons (pe_int) pa_nil))) pa_nil))))
      (pss_cons (ps_set (i := 5) scE.nd rfl (Or.inl rfl) (pe_lst pa_nil))
      (pss_cons (ps_for PassesOwn.never rfl (pi_range1 rfl T.range (pa_cons (pv 2) pa_nil)) (pg_name (i := 6) scE.nd rfl (Or.inl rfl))
        (pss_cons (ps_set (i := 7) scE.nd rfl (Or.inl rfl) (pe_defR D_C hr (pa_cons (pv 0) (pa_cons (pe_op op_add (pe_int) (pv 6)) pa_nil))))
      (pss_cons (ps_cut (ps_if (pt_cmpR op_eq (pv 3) (pe_int) (nomark _))
        (pss_cons (ps_set (i := 7) scE.nd rfl (Or.inl rfl) (pv 4))
      (pss_one (ps_set (i := 4) scE.nd rfl (Or.inl rfl) (pe_op op_fdiv (pv 4) (pe_op op_mul (pv 1) (pv 1)))))) (pss_nil)))
      (pss_cons (ps_cut (ps_if (pt_cmpR op_eq (pv 3) (pe_int) (nomark _))
        (pss_cons (ps_cut (ps_set (i := 8) scE.nd rfl (Or.inl rfl) (pe_op op_mod (pe_op op_mul (pe_op op_add (pe_op op_add (pe_op op_mod (pe_defR D_C hr (pa_cons (pv 0) (pa_cons (pe_int) pa_nil))) (pe_int)) (pe_op op_mul (pe_int) (pv 6))) (pe_int)) (pe_int)) (pe_int))))
      (pss_cons (ps_cut (ps_set (i := 8) scE.nd rfl (Or.inl rfl) (pe_op op_mod (pe_op op_mul (pv 8) (pv 8)) (pe_int))))
      (pss_one (ps_set (i := 7) scE.nd rfl (Or.inl rfl) (pe_op op_fdiv (pe_op op_mod (pe_op op_mul (pv 8) (pe_int)) (pe_int)) (pe_int)))))) (pss_nil)))
      (pss_one (ps_expr (pe_bm PySem.F.plainAttrs_list PySem.F.slot_list_append PySem.F.type_list_append mt_append (pv 5) (pa_cons (pe_tup (pa_cons (pe_op op_mod (pv 7) (pv 1)) (pa_cons (pe_op op_mod (pe_op op_fdiv (pv 7) (pv 1)) (pv 1)) pa_nil))) pa_nil))))))))
      (pss_one (ps_ret (pv 5))))), ?_⟩
    refine ⟨fun σ' H' => H' = H ∧ ∃ r, σ' = [some (.ref a), some (.int m), some (.int c), some (.int y), some (.int r), none, none, none, none], ?_, ?_⟩
    · exact ⟨_, rfl, a, ns, 1, rfl, hS, by decide, _, rfl, rfl, _, rfl⟩
    rintro σ' H ⟨rfl, r0, rfl⟩
    refine ⟨by decide, fun l hl => ?_⟩
    have s0 : Same H (upd H l (.lst [])) := Same.new hl
    refine ⟨_, rfl, c, rfl, by omega, by omega, for_by itok_range (fun i σ H2 => ∃ (r : Int) (xs : List V) (es : List (Int × Int)) (v6 v7 v8 : Option V), σ = [some (.ref a), some (.int m), some (.int c), some (.int y), some (.int r), some (.ref l), v6, v7, v8] ∧
        Same H H2 ∧ H2 l = some (.lst xs) ∧ Pairs K H2 xs es ∧ es.length = i ∧ EndsIn es m) ⟨r0, [], [], none, none, none, rfl, s0, upd_same, .nil, rfl, EndsIn.nil⟩ (fun _ _ _ _ _ => trivial) ?_ ?_⟩
    · rintro i σ H2 hi ⟨r, xs, es, v6, v7, v8, rfl, sH, hl2, hp, he, hE⟩
      refine ⟨_, rfl, _, rfl, _, _, rfl, rfl, a, ns, _, rfl, sH.seq hS, by omega, ?_⟩
      generalize ns.getD ((2 : Int) + (0 + (i : Nat))).toNat 0 = c0
      refine ⟨fun σ' H' => H' = H2 ∧ ∃ r' c', σ' = [some (.ref a), some (.int m), some (.int c), some (.int y), some (.int r'), some (.ref l), some (.int (0 + (i : Nat))), some (.int c'), v8], ?_, ?_⟩
      · refine ⟨_, rfl, rfl, _, rfl, ite2 (fun c1 => ?_) (fun c1 => ?_)⟩
        · have hmm : 0 < m * m := Int.mul_pos (by omega) (by omega)
          have hmm2 : m * m < 1073741824 := by
            have : m * m ≤ 1000 * 1000 := Int.mul_le_mul m2 m2 (by omega) (by decide)
            omega
          refine ⟨_, rfl, _, rfl, _, rfl, _, rfl, _, _, rfl, rfl, .inl ⟨by omega, by omega⟩, _, _, rfl, rfl, ⟨hmm, hmm2⟩, ?_⟩
          exact ⟨rfl, _, _, rfl⟩
        · exact ⟨rfl, _, _, rfl⟩
      · rintro σ' H2 ⟨rfl, r', c', rfl⟩
        refine ⟨fun σ' H' => H' = H2 ∧ ∃ c' v8, σ' = [some (.ref a), some (.int m), some (.int c), some (.int y), some (.int r'), some (.ref l), some (.int (0 + (i : Nat))), some (.int c'), v8], ?_, ?_⟩
        · refine ⟨_, rfl, rfl, _, rfl, ite2 (fun c1 => ?_) (fun c1 => ?_)⟩
          · refine ⟨fun σ' H' => H' = H2 ∧ ∃ q : Int, 0 ≤ q ∧ q < 2147483647 ∧ σ' = [some (.ref a), some (.int m), some (.int c), some (.int y), some (.int r'), some (.ref l), some (.int (0 + (i : Nat))), some (.int c'), some (.int q)], ?_, ?_⟩
            · refine ⟨_, rfl, a, ns, 1, rfl, sH.seq hS, by decide, _, _, rfl, rfl, (by show (0 : Int) < 1000000007; decide), _, rfl, _, _, rfl, rfl, .inl ⟨by decide, by decide⟩, _, _, rfl, rfl, _, _, rfl, rfl, _, _, rfl, rfl, .inr ⟨by decide, by decide⟩, _, _, rfl, rfl, (by show (0 : Int) < 2147483647; decide), rfl, _, Int.emod_nonneg _ (by decide), Int.emod_lt_of_pos _ (by decide), rfl⟩
            rintro σ' H2 ⟨rfl, q, q0, q1, rfl⟩
            refine ⟨fun σ' H' => H' = H2 ∧ ∃ q : Int, 0 ≤ q ∧ q < 2147483647 ∧ σ' = [some (.ref a), some (.int m), some (.int c), some (.int y), some (.int r'), some (.ref l), some (.int (0 + (i : Nat))), some (.int c'), some (.int q)], ?_, ?_⟩
            · refine ⟨_, rfl, _, rfl, _, _, rfl, rfl, .inl ⟨by omega, by omega⟩, _, _, rfl, rfl, (by show (0 : Int) < 2147483647; decide), rfl, _, Int.emod_nonneg _ (by decide), Int.emod_lt_of_pos _ (by decide), rfl⟩
            rintro σ' H2 ⟨rfl, q, q0, q1, rfl⟩
            exact ⟨_, rfl, _, _, rfl, rfl, .inl ⟨by omega, by omega⟩, _, _, rfl, rfl, (by show (0 : Int) < 2147483647; decide), _, _, rfl, rfl, ⟨by decide, by decide⟩, rfl, _, _, rfl⟩
          · exact ⟨rfl, _, _, rfl⟩
        · rintro σ' H2 ⟨rfl, c2, v8, rfl⟩
          refine ⟨_, rfl, .inl ⟨rfl, _, SqL.of hl2⟩, _, rfl, _, rfl, _, _, rfl, rfl, (by show 0 < m; omega), _, rfl, _, rfl, _, _, rfl, rfl, ⟨by omega, by omega⟩, _, rfl, _, _, rfl, rfl, (by show 0 < m; omega), (by show 2 ≤ sizeLine; decide), fun t ht => ?_⟩
          have s2 : Same H2 (upd H2 t (.tup [.int (c2 % m), .int (c2 / m % m)])) := Same.new ht
          have hlt : l ≠ t := ne_of_none hl2 ht
          have hl3 : (upd H2 t (.tup [.int (c2 % m), .int (c2 / m % m)])) l = some (.lst xs) := s2 _ _ hl2
          have hlen := hp.len
          refine ⟨l, _, _, rfl, rfl, hl3, small1000 (by omega), ?_⟩
          refine ⟨r', xs ++ [.ref t], es ++ [(c2 % m, c2 / m % m)], _, _, _, rfl, (sH.trans s2).upd hl, upd_same, ?_, by rw [List.length_append, he]; rfl, hE.snoc ⟨Int.emod_nonneg _ (by omega), Int.emod_lt_of_pos _ (by omega), Int.emod_nonneg _ (by omega), Int.emod_lt_of_pos _ (by omega)⟩⟩
          refine (Pairs.sameX sameX_upd hl3 (hp.same s2)).snoc (e := (c2 % m, c2 / m % m)) ?_
          exact SqT.of (by rw [upd_ne hlt.symm]; exact upd_same)
    · rintro σ H2 ⟨r, xs, es, v6, v7, v8, rfl, sH, hl2, hp, he, hE⟩
      exact ⟨_, rfl, k l xs es H2 hl sH hl2 hp he hE⟩
def spD (K : PySem.W.Frag) : Sp := fun vs H Q _ => ∃ (a : Addr) (ns : List Int) (mo bo : Int), vs = [.ref a, .int mo, .int bo] ∧ SqL K H a (ns.map V.int) ∧ 1 ≤ mo ∧ mo ≤ 20 ∧ 0 ≤ bo ∧ bo ≤ 40 ∧
  ∀ (t l : Addr) (m : Int) (xs : List V) (es : List (Int × Int)) (H' : Hp), H l = none → Same H H' → H' t = some (.tup [.int m, .ref l]) → H' l = some (.lst xs) → Pairs K H' xs es → 1 ≤ m → m ≤ mo → (es.length : Int) ≤ bo → EndsIn es m → Q (.ref t) H'
theorem scD : FnScope ["script", "most", "bound", "lead", "many", "count"] ["script", "most", "bound"] (defScope sD) := ⟨rfl, rfl, rfl, by decide +kernel, rfl, by decide +kernel, by decide +kernel⟩
set_option maxHeartbeats 4000000 in
theorem ok_D {f : Addr} {fd : FuncData} (F : Fun K "_law_drawn" "_law_drawn" sD f fd) (T : Txt K mg c) (D_C : Def P w K mg base 1 "_law_cell" ["script", "k"] (spC K)) (D_E : Def P w K mg base 2 "_law_ends" ["script", "many", "count", "way"] (spE K)) : FnOk P w K mg base CX0 3 f fd ["script", "most", "bound"] (spD K) := by
  refine F.ok scD (fun vs H Q E h => ?_) (fun cdv A outer s H vs Q E hr h => ?_)
  · obtain ⟨a, ns, mo, bo, rfl, _⟩ := h
    rfl
  · obtain ⟨a, ns, mo, bo, rfl, hS, o1, o2, o3, o4, k⟩ := h
    refine ⟨_, pss_cons (ps_set (i := 3) scD.nd rfl (Or.inl rfl) (pe_defR D_C hr (pa_cons (pv 0) (pa_cons (pe_int) pa_nil))))
      (pss_cons (ps_cut (ps_set (i := 4) scD.nd rfl (Or.inl rfl) (pe_op op_add (pe_int) (pe_op op_mod (pv 3) (pv 1)))))
      (pss_cons (ps_cut (ps_set (i := 5) scD.nd rfl (Or.inl rfl) (pe_op op_mod (pe_op op_add (pe_callB (cLen (K := K) rfl) (by rfl) T.len PySem.boot_len (pa_cons (pv 0) pa_nil)) (pe_op op_fdiv (pv 3) (pe_op op_mul (pe_int) (pv 1)))) (pe_op op_add (pv 2) (pe_int)))))
      (pss_one (ps_ret (pe_tup (pa_cons (pv 4) (pa_cons (pe_defR D_E hr (pa_cons (pv 0) (pa_cons (pv 4) (pa_cons (pv 5) (pa_cons (pe_op op_mod (pe_op op_fdiv (pv 3) (pv 1)) (pe_int)) pa_nil))))) pa_nil))))))), ?_⟩
    refine ⟨_, rfl, a, ns, 0, rfl, hS, by decide, ?_⟩
    generalize ns.getD (0 : Int).toNat 0 = f1
    refine ⟨fun σ' H' => H' = H ∧ ∃ m : Int, 1 ≤ m ∧ m ≤ mo ∧ σ' = [some (.ref a), some (.int mo), some (.int bo), some (.int f1), some (.int m), none], ?_, ?_⟩
    · have b1 := Int.emod_nonneg f1 (show mo ≠ 0 by omega)
      have b2 := Int.emod_lt_of_pos f1 (show (0 : Int) < mo by omega)
      exact ⟨_, rfl, _, rfl, _, _, rfl, rfl, (by show 0 < mo; omega), _, _, rfl, rfl, rfl, _, by omega, by omega, rfl⟩
    rintro σ' H ⟨rfl, m, m1, m2, rfl⟩
    refine ⟨fun σ' H' => H' = H ∧ ∃ ct : Int, 0 ≤ ct ∧ ct ≤ bo ∧ σ' = [some (.ref a), some (.int mo), some (.int bo), some (.int f1), some (.int m), some (.int ct)], ?_, ?_⟩
    · have b1 := fun z : Int => Int.emod_nonneg z (show bo + 1 ≠ 0 by omega)
      have b2 := fun z : Int => Int.emod_lt_of_pos z (show (0 : Int) < bo + 1 by omega)
      refine ⟨_, rfl, a, _, rfl, .inl hS, _, rfl, _, rfl, _, _, rfl, rfl, .inl ⟨by decide, by decide⟩, _, _, rfl, rfl, ⟨by omega, by omega⟩, _, _, rfl, rfl, _, rfl, _, _, rfl, rfl, _, _, rfl, rfl, (by show 0 < bo + 1; omega), rfl, _, b1 _, ?_, rfl⟩
      have := b2 (((ns.map V.int).length : Int) + f1 / (3 * mo))
      omega
    rintro σ' H ⟨rfl, ct, ct0, ct1, rfl⟩
    refine ⟨_, rfl, _, rfl, _, rfl, _, rfl, _, rfl, _, rfl, _, _, rfl, rfl, ⟨by omega, by omega⟩, _, _, rfl, rfl, (by show (0 : Int) < 3; decide), a, ns, m, ct, _, rfl, hS, m1, by omega, ct0, by omega, fun l xs es H1 hl sH hl1 hp he hE => ?_⟩
    refine ⟨(by show 2 ≤ sizeLine; decide), fun t ht => ?_⟩
    have s2 : Same H1 (upd H1 t (.tup [.int m, .ref l])) := Same.new ht
    exact k t l _ xs es _ hl (sH.trans s2) upd_same (s2 _ _ hl1) (hp.same s2) m1 m2 (by omega) hE
def spNm (K : PySem.W.Frag) : Sp := fun vs H Q _ => ∃ (l q : Addr) (m : Int) (xs : List V) (es : List (Int × Int)) (ss : List Int), vs = [.int m, .ref l, .ref q] ∧ SqL K H l xs ∧ Pairs K H xs es ∧ SqL K H q (ss.map V.int) ∧ (∀ t ∈ ss, 0 ≤ t ∧ t < (es.length : Int)) ∧ 1 ≤ m ∧ m ≤ 20 ∧ EndsIn es m ∧
  ∀ l2 ls H', H l2 = none → Same H H' → H' l2 = some (.lst (ls.map V.int)) → ls.length = m.toNat → Nam m (sub es ss) (lf ls) → Q (.ref l2) H'
theorem scNm : FnScope ["many", "ends", "some", "names", "number", "one", "two"] ["many", "ends", "some"] (defScope sNm) := ⟨rfl, rfl, rfl, by decide +kernel, rfl, by decide +kernel, by decide +kernel⟩
set_option maxHeartbeats 4000000 in
theorem ok_Nm {f : Addr} {fd : FuncData} (F : Fun K "_law_names" "_law_names" sNm f fd) (T : Txt K mg c) : FnOk P w K mg base CX0 1 f fd ["many", "ends", "some"] (spNm K) := by
  refine F.ok scNm (fun vs H Q E h => ?_) (fun cdv A outer s H vs Q E hr h => ?_)
  · obtain ⟨l, q, m, xs, es, ss, rfl, _⟩ := h
    rfl
  · obtain ⟨l, q, m, xs, es, ss, rfl, hl, hp, hq, hss, m1, m2, hE, k⟩ := h
    refine ⟨_, pss_cons (ps_set (i := 3) scNm.nd rfl (Or.inl rfl) (pe_listrange1 rfl rfl T.list rfl T.range (pa_cons (pv 0) pa_nil)))
      (pss_cons (ps_for PassesOwn.never rfl (piSeq (K := K) rfl (pv 2)) (pg_name (i := 4) scNm.nd rfl (Or.inl rfl))
        (pss_cons (ps_set (i := 5) scNm.nd rfl (Or.inr rfl) (pe_ix (ixL (K := K) rfl) (pv 3) (pe_ix (ixT (K := K) rfl) (pe_ix (ixL (K := K) rfl) (pv 1) (pv 4) (fun _ _ => rfl)) (pe_int) (fun _ _ => rfl)) (fun _ _ => rfl)))
      (pss_cons (ps_set (i := 6) scNm.nd rfl (Or.inr rfl) (pe_ix (ixL (K := K) rfl) (pv 3) (pe_ix (ixT (K := K) rfl) (pe_ix (ixL (K := K) rfl) (pv 1) (pv 4) (fun _ _ => rfl)) (pe_int) (fun _ _ => rfl)) (fun _ _ => rfl)))
      (pss_one (ps_cut (ps_if (pt_cmpR op_ne (pv 5) (pv 6) (nomark _))
        (pss_one (ps_setlc (i := 3) (N' := ["name", "one", "two"]) (nl := 1) (js := [5, 6]) rfl (.of (osc := defScope sNm) (N := ["many", "ends", "some", "names", "number", "one", "two"]) (by decide +kernel) rfl rfl) (piSeq (K := K) rfl (pv 3))
        (fun _ _ _ _ => pg_name (i := 0) (show (["name", "one", "two"] : List Str).Nodup by decide +kernel) rfl (Or.inl rfl)) (fun _ _ _ _ => pif_nil)
        (fun _ _ _ _ => pe_ix (ixL (K := K) rfl) (pe_lst (pa_cons (pv 0) (pa_cons (pv 1) pa_nil))) (pe_callTy call_int1 (by rfl) T.int PyProof.Rows.boot_int (pa_cons (pe_cmpR op_eq (pv 0) (pv 2) (nomark _)) pa_nil)) (fun _ _ => rfl)) scNm.nd rfl rfl)) (pss_nil)))))))
      (pss_one (ps_ret (pv 3)))), ?_⟩
    refine ⟨_, rfl, m, rfl, by omega, by omega, fun l0 nl0 => ?_⟩
    have s0 : Same H (upd H l0 (.lst (((List.range m.toNat).map fun i => 0 + ((i : Nat) : Int)).map V.int))) := Same.new nl0
    have e0 : (upd H l0 (.lst (((List.range m.toNat).map fun i => 0 + ((i : Nat) : Int)).map V.int))) l0 = some (.lst (((List.range m.toNat).map fun i => 0 + ((i : Nat) : Int)).map V.int)) := upd_same
    generalize upd H l0 (.lst (((List.range m.toNat).map fun i => 0 + ((i : Nat) : Int)).map V.int)) = H0 at s0 e0
    refine ⟨_, rfl, q, _, rfl, .inl (s0.seq hq), fun J C O hC => ?_⟩
    refine for_by O (fun i σ H2 => ∃ (lb : Addr) (ls : List Int) (v4 v5 v6 : Option V), σ = [some (.int m), some (.ref l), some (.ref q), some (.ref lb), v4, v5, v6] ∧ Same H0 H2 ∧ H lb = none ∧ H2 lb = some (.lst (ls.map V.int)) ∧ ls.length = m.toNat ∧ Nam m (sub es (ss.take i)) (lf ls)) ⟨l0, _, none, none, none, rfl, Same.refl _, nl0, e0, by rw [List.length_map, List.length_range], Nam.start _ _ rfl⟩ (fun i σ H2 _ h => ?_) ?_ ?_
    · obtain ⟨lb, ls, v4, v5, v6, _, s2, _⟩ := h
      exact hC _ s2
    · rintro i σ H2 hi ⟨lb, ls, v4, v5, v6, rfl, s2, nlb, hl2, hll, hL⟩
      obtain ⟨v, ev, gv⟩ := getD_map_int hi
      have hv := hss v (List.mem_of_getElem? gv)
      have s02 := s0.trans s2
      obtain ⟨r, ar, hr2, hm⟩ := tie_get (hp.same s02) hv.1 hv.2
      obtain ⟨b1, b2, b3, b4⟩ := hE _ hm
      have a1 : atI (ls.map V.int) (tieOf es v).1 = some (.int (lf ls (tieOf es v).1)) := at_int (ns := ls) b1 (by omega)
      have a2 : atI (ls.map V.int) (tieOf es v).2 = some (.int (lf ls (tieOf es v).2)) := at_int (ns := ls) b3 (by omega)
      try dsimp only
      rw [ev]
      refine ⟨_, rfl, _, rfl, _, rfl, l, xs, v, .ref r, rfl, rfl, s02.seq hl, ar, r, _, 0, _, rfl, rfl, hr2, rfl, lb, _, _, _, rfl, rfl, SqL.of hl2, a1, ?_⟩
      refine ⟨_, rfl, _, rfl, _, rfl, l, xs, v, .ref r, rfl, rfl, s02.seq hl, ar, r, _, 1, _, rfl, rfl, hr2, rfl, lb, _, _, _, rfl, rfl, SqL.of hl2, a2, ?_⟩
      have hsub : sub es (ss.take (i + 1)) = sub es (ss.take i) ++ [tieOf es v] := by unfold sub; rw [take_snoc gv, List.map_append]; rfl
      have hES : ∀ a ∈ sub es (ss.take i) ++ [tieOf es v], 0 ≤ a.1 ∧ a.1 < m ∧ 0 ≤ a.2 ∧ a.2 < m := fun a ha => by
        rcases List.mem_append.mp ha with y | y
        · obtain ⟨t, ht, rfl⟩ := List.mem_map.mp y
          have := hss t (List.mem_of_mem_take ht)
          obtain ⟨_, _, _, hm'⟩ := tie_get (hp.same s02) this.1 this.2
          exact hE _ hm'
        · rw [List.mem_singleton.mp y]; exact ⟨b1, b2, b3, b4⟩
      refine ⟨fun σ' H' => ∃ (lb : Addr) (ls : List Int) (v5 v6 : Option V), σ' = [some (.int m), some (.ref l), some (.ref q), some (.ref lb), some (.int v), v5, v6] ∧ Same H0 H' ∧ H lb = none ∧ H' lb = some (.lst (ls.map V.int)) ∧ ls.length = m.toNat ∧ Nam m (sub es (ss.take (i + 1))) (lf ls), ?_, ?_⟩
      · refine ⟨_, rfl, _, rfl, rfl, _, rfl, ?_⟩
        rw [hsub]
        by_cases c1 : lf ls (tieOf es v).1 = lf ls (tieOf es v).2
        · rw [decide_eq_true (show V.int (lf ls (tieOf es v).1) = V.int (lf ls (tieOf es v).2) by rw [c1])]
          exact iteF ⟨lb, ls, _, _, rfl, s2, nlb, hl2, hll, hL.skip c1⟩
        · rw [decide_eq_false (show ¬ V.int (lf ls (tieOf es v).1) = V.int (lf ls (tieOf es v).2) by intro z; injection z with z; exact c1 z)]
          refine iteT ⟨_, rfl, lb, _, rfl, .inl (SqL.of hl2), fun J C O hC => lc_by O (fun j ys H3 => Same H2 H3 ∧ ys = ((ls.map fun n => if n = lf ls (tieOf es v).2 then lf ls (tieOf es v).1 else n).take j).map V.int) (by rw [List.length_map]; exact Nat.le_of_lt (small1000 (by omega))) ⟨Same.refl _, rfl⟩ ?_ ?_ ?_⟩
          · rintro j ys H3 hj ⟨s3, rfl⟩
            exact ⟨hC _ s3, by rw [List.length_map, List.length_take]; omega⟩
          · rintro j ys H3 hj ⟨s3, rfl⟩
            obtain ⟨n, en, gn⟩ := getD_map_int hj
            rw [List.length_map] at hj
            have fin : ∀ u, u = (if n = lf ls (tieOf es v).2 then lf ls (tieOf es v).1 else n) → ((ls.map fun n => if n = lf ls (tieOf es v).2 then lf ls (tieOf es v).1 else n).take j).map V.int ++ [V.int u] = ((ls.map fun n => if n = lf ls (tieOf es v).2 then lf ls (tieOf es v).1 else n).take (j + 1)).map V.int := fun u e => by
              have hv2 : (ls.map fun n => if n = lf ls (tieOf es v).2 then lf ls (tieOf es v).1 else n)[j]? = some u := by rw [List.getElem?_map, gn, e]; rfl
              rw [take_snoc hv2, List.map_append]; rfl
            try dsimp only
            rw [en]
            refine ⟨wk_set rfl, iteT ⟨_, rfl, _, rfl, (by show 2 ≤ sizeLine; decide), fun q1 nq1 => ?_⟩⟩
            have s4 := s3.next (o := .lst [V.int n, V.int (lf ls (tieOf es v).1)]) nq1
            have e4 : (upd H3 q1 (.lst [V.int n, V.int (lf ls (tieOf es v).1)])) q1 = some (.lst [V.int n, V.int (lf ls (tieOf es v).1)]) := upd_same
            generalize upd H3 q1 (.lst [V.int n, V.int (lf ls (tieOf es v).1)]) = H4 at s4 e4
            have hyl : (((ls.map fun n => if n = lf ls (tieOf es v).2 then lf ls (tieOf es v).1 else n).take j).map V.int).length < sizeLine := small1000 (by rw [List.length_map, List.length_take]; omega)
            by_cases c2 : n = lf ls (tieOf es v).2
            · refine ⟨_, rfl, _, rfl, rfl, .inr ⟨true, by rw [decide_eq_true (by rw [c2])], ?_⟩⟩
              exact ⟨q1, _, 1, _, rfl, rfl, SqL.of e4, rfl, hyl, _, by rw [List.length_map]; omega, rfl, by rw [List.length_map]; omega, s4, fin _ (by rw [if_pos c2])⟩
            · refine ⟨_, rfl, _, rfl, rfl, .inr ⟨false, by rw [decide_eq_false (by intro z; injection z with z; exact c2 z)], ?_⟩⟩
              exact ⟨q1, _, 0, _, rfl, rfl, SqL.of e4, rfl, hyl, _, by rw [List.length_map]; omega, rfl, by rw [List.length_map]; omega, s4, fin _ (by rw [if_neg c2])⟩
          · rintro ys H3 ⟨s3, rfl⟩ l3 nl3
            rw [List.length_map, List.take_of_length_le (by rw [List.length_map]; omega)]
            have sN := s3.next (o := .lst ((ls.map fun n => if n = lf ls (tieOf es v).2 then lf ls (tieOf es v).1 else n).map V.int)) nl3
            refine ⟨l3, _, _, _, rfl, s2.trans sN, none_back (s02.trans s3) nl3, upd_same, by rw [List.length_map]; exact hll, ?_⟩
            exact (hL.put ⟨b1, b2, b3, b4⟩).congr hES fun p p0 p1 => (lf_map ls (fun n => if n = lf ls (tieOf es v).2 then lf ls (tieOf es v).1 else n) p p0 (by omega)).symm
      · rintro σ' H' ⟨lb, ls, v5, v6, rfl, h'⟩
        exact ⟨lb, ls, _, _, _, rfl, h'⟩
    · rintro σ H2 ⟨lb, ls, v4, v5, v6, rfl, s2, nlb, hl2, hll, hL⟩
      rw [List.length_map, List.take_length] at hL
      exact ⟨_, rfl, k lb ls H2 nlb (s0.trans s2) hl2 hll hL⟩
def spFo (K : PySem.W.Frag) : Sp := fun vs H Q _ => ∃ (l q : Addr) (m : Int) (xs : List V) (es : List (Int × Int)) (os : List Int), vs = [.int m, .ref l, .ref q] ∧ SqL K H l xs ∧ Pairs K H xs es ∧ SqL K H q (os.map V.int) ∧ os.length < 64 ∧ (∀ t ∈ os, 0 ≤ t ∧ t < (es.length : Int)) ∧ 1 ≤ m ∧ m ≤ 20 ∧ es.length ≤ 40 ∧ EndsIn es m ∧
  ∀ (l2 : Addr) (cs : List Int) (H' : Hp), H l2 = none → Same H H' → H' l2 = some (.lst (cs.map V.int)) → cs.Perm (gF es os os.length) → cs.Pairwise (· ≤ ·) → Q (.ref l2) H'
theorem scFo : FnScope ["many", "ends", "order", "found", "names", "number", "one", "two"] ["many", "ends", "order"] (defScope sFo) := ⟨rfl, rfl, rfl, by decide +kernel, rfl, by decide +kernel, by decide +kernel⟩
set_option maxHeartbeats 4000000 in
theorem ok_Fo {f : Addr} {fd : FuncData} (F : Fun K "_law_forest" "_law_forest" sFo f fd) (T : Txt K mg c) : FnOk P w K mg base CX0 1 f fd ["many", "ends", "order"] (spFo K) := by
  refine F.ok scFo (fun vs H Q E h => ?_) (fun cdv A outer s H vs Q E hr h => ?_)
  · obtain ⟨l, q, m, xs, es, os, rfl, _⟩ := h
    rfl
  · obtain ⟨l, q, m, xs, es, os, rfl, hl, hp, hq, hoz, hor, m1, m2, hz, hE, k⟩ := h
    have hom : (os.map V.int).length = os.length := List.length_map ..
    refine ⟨_, pss_cons (ps_set (i := 3) scFo.nd rfl (Or.inl rfl) (pe_lst pa_nil))
      (pss_cons (ps_set (i := 4) scFo.nd rfl (Or.inl rfl) (pe_listrange1 rfl rfl T.list rfl T.range (pa_cons (pv 0) pa_nil)))
      (pss_cons (ps_for PassesOwn.never rfl (piSeqB (K := K) rfl (pv 2)) (pg_name (i := 5) scFo.nd rfl (Or.inl rfl))
        (pss_cons (ps_set (i := 6) scFo.nd rfl (Or.inr rfl) (pe_ix (ixL (K := K) rfl) (pv 4) (pe_ix (ixT (K := K) rfl) (pe_ix (ixL (K := K) rfl) (pv 1) (pv 5) (fun _ _ => rfl)) (pe_int) (fun _ _ => rfl)) (fun _ _ => rfl)))
      (pss_cons (ps_set (i := 7) scFo.nd rfl (Or.inr rfl) (pe_ix (ixL (K := K) rfl) (pv 4) (pe_ix (ixT (K := K) rfl) (pe_ix (ixL (K := K) rfl) (pv 1) (pv 5) (fun _ _ => rfl)) (pe_int) (fun _ _ => rfl)) (fun _ _ => rfl)))
      (pss_one (ps_cut (ps_if (pt_cmpR op_ne (pv 6) (pv 7) (nomark _))
        (pss_cons (ps_expr (pe_bm PySem.F.plainAttrs_list PySem.F.slot_list_append PySem.F.type_list_append mt_append (pv 3) (pa_cons (pv 5) pa_nil)))
      (pss_one (ps_setlc (i := 4) (N' := ["name", "one", "two"]) (nl := 1) (js := [6, 7]) rfl (.of (osc := defScope sFo) (N := ["many", "ends", "order", "found", "names", "number", "one", "two"]) (by decide +kernel) rfl rfl) (piSeq (K := K) rfl (pv 4))
        (fun _ _ _ _ => pg_name (i := 0) (show (["name", "one", "two"] : List Str).Nodup by decide +kernel) rfl (Or.inl rfl)) (fun _ _ _ _ => pif_nil)
        (fun _ _ _ _ => pe_ix (ixL (K := K) rfl) (pe_lst (pa_cons (pv 0) (pa_cons (pv 1) pa_nil))) (pe_callTy call_int1 (by rfl) T.int PyProof.Rows.boot_int (pa_cons (pe_cmpR op_eq (pv 0) (pv 2) (nomark _)) pa_nil)) (fun _ _ => rfl)) scFo.nd rfl rfl))) (pss_nil)))))))
      (pss_one (ps_ret (pe_callB (cSorted (K := K) rfl) (by rfl) T.sorted PyProof.Rows.boot_sorted (pa_cons (pv 3) pa_nil)))))), ?_⟩
    refine ⟨by decide, fun fl nfl => ?_⟩
    have s1 : Same H (upd H fl (.lst [])) := Same.new nfl
    have f1 : (upd H fl (.lst [])) fl = some (.lst []) := upd_same
    generalize upd H fl (.lst []) = H1 at s1 f1
    refine ⟨_, rfl, m, rfl, by omega, by omega, fun l0 nl0 => ?_⟩
    have s0 := s1.next (o := .lst (((List.range m.toNat).map fun i => 0 + ((i : Nat) : Int)).map V.int)) nl0
    have f0 := Same.new (o := .lst (((List.range m.toNat).map fun i => 0 + ((i : Nat) : Int)).map V.int)) nl0 _ _ f1
    have e0 : (upd H1 l0 (.lst (((List.range m.toNat).map fun i => 0 + ((i : Nat) : Int)).map V.int))) l0 = some (.lst (((List.range m.toNat).map fun i => 0 + ((i : Nat) : Int)).map V.int)) := upd_same
    have nlf : l0 ≠ fl := (ne_of_none f1 nl0).symm
    generalize upd H1 l0 (.lst (((List.range m.toNat).map fun i => 0 + ((i : Nat) : Int)).map V.int)) = H0 at s0 e0 f0
    refine ⟨_, rfl, false, q, _, rfl, s0.seq hq, fun J C O hC => ?_⟩
    refine for_by O (fun i σ H2 => ∃ (lb : Addr) (ls : List Int) (v5 v6 v7 : Option V), σ = [some (.int m), some (.ref l), some (.ref q), some (.ref fl), some (.ref lb), v5, v6, v7] ∧ Same H H2 ∧ lb ≠ fl ∧ H2 fl = some (.lst ((gF es os i).map V.int)) ∧ H2 lb = some (.lst (ls.map V.int)) ∧ ls.length = m.toNat ∧ Nam m (sub es (os.take i)) (lf ls)) ⟨l0, _, none, none, none, rfl, s0, nlf, f0, e0, by rw [List.length_map, List.length_range], Nam.start _ _ rfl⟩ (fun i σ H2 _ h => ?_) ?_ ?_
    · obtain ⟨lb, ls, v5, v6, v7, _, s2, _⟩ := h
      exact hC _ (s2.seq hq)
    · rintro i σ H2 hi ⟨lb, ls, v5, v6, v7, rfl, s2, nlb, hf2, hl2, hll, hL⟩
      obtain ⟨v, ev, gv⟩ := getD_map_int hi
      rw [hom] at hi
      have hv := hor v (List.mem_of_getElem? gv)
      have hfl : (gF es os i).length ≤ i := by unfold gF; rw [List.length_map]; exact frN_len _ i
      obtain ⟨r, ar, hr2, hm⟩ := tie_get (hp.same s2) hv.1 hv.2
      have eT : tieOf es v = (sub es os).getD i (0, 0) := by
        unfold sub
        rw [List.getD_eq_getElem?_getD, List.getElem?_map, gv]; rfl
      have eO : os.getD i 0 = v := by rw [List.getD_eq_getElem?_getD, gv]; rfl
      have eS : (sub es os).take i = sub es (os.take i) := by unfold sub; rw [List.map_take]
      obtain ⟨b1, b2, b3, b4⟩ := hE _ hm
      have a1 : atI (ls.map V.int) (tieOf es v).1 = some (.int (lf ls (tieOf es v).1)) := at_int (ns := ls) b1 (by omega)
      have a2 : atI (ls.map V.int) (tieOf es v).2 = some (.int (lf ls (tieOf es v).2)) := at_int (ns := ls) b3 (by omega)
      try dsimp only
      rw [ev]
      refine ⟨_, rfl, _, rfl, _, rfl, l, xs, _, .ref r, rfl, rfl, s2.seq hl, ar, r, _, 0, _, rfl, rfl, hr2, rfl, lb, _, _, _, rfl, rfl, SqL.of hl2, a1, ?_⟩
      refine ⟨_, rfl, _, rfl, _, rfl, l, xs, _, .ref r, rfl, rfl, s2.seq hl, ar, r, _, 1, _, rfl, rfl, hr2, rfl, lb, _, _, _, rfl, rfl, SqL.of hl2, a2, ?_⟩
      have hiff := hL.iff b1 b2 b3 b4
      have hES : ∀ a ∈ sub es (os.take i) ++ [tieOf es v], 0 ≤ a.1 ∧ a.1 < m ∧ 0 ≤ a.2 ∧ a.2 < m := fun a ha => by
        rcases List.mem_append.mp ha with y | y
        · exact ends_sub hE (fun t ht => hor t (List.mem_of_mem_take ht)) a y
        · rw [List.mem_singleton.mp y]; exact ⟨b1, b2, b3, b4⟩
      refine ⟨fun σ' H' => ∃ (lb : Addr) (ls : List Int) (v6 v7 : Option V), σ' = [some (.int m), some (.ref l), some (.ref q), some (.ref fl), some (.ref lb), some (.int v), v6, v7] ∧ Same H H' ∧ lb ≠ fl ∧ H' fl = some (.lst ((gF es os (i + 1)).map V.int)) ∧ H' lb = some (.lst (ls.map V.int)) ∧ ls.length = m.toNat ∧ Nam m (sub es (os.take (i + 1))) (lf ls), ?_, ?_⟩
      · refine ⟨_, rfl, _, rfl, rfl, _, rfl, ?_⟩
        have e1 : sub es (os.take (i + 1)) = sub es (os.take i) ++ [tieOf es v] := by
          unfold sub
          rw [take_snoc gv, List.map_append]; rfl
        have e2 : gF es os (i + 1) = gF es os i ++ (if inF (sub es os) i = true then [v] else []) := by
          unfold gF
          rw [frN_succ, List.map_append]
          by_cases c : inF (sub es os) i = true
          · rw [if_pos c, if_pos c]
            show _ ++ [os.getD ((i : Nat) : Int).toNat 0] = _
            rw [Int.toNat_natCast, eO]
          · rw [if_neg c, if_neg c]; rfl
        rw [e1, e2]
        by_cases c1 : lf ls (tieOf es v).1 = lf ls (tieOf es v).2
        · rw [decide_eq_true (show V.int (lf ls (tieOf es v).1) = V.int (lf ls (tieOf es v).2) by rw [c1])]
          have hn : ¬ inF (sub es os) i = true := fun z => (inF_iff.mp z) (by rw [← eT, eS]; exact hiff.mp c1)
          rw [if_neg hn, List.append_nil]
          exact iteF ⟨lb, ls, _, _, rfl, s2, nlb, hf2, hl2, hll, hL.skip c1⟩
        · rw [decide_eq_false (show ¬ V.int (lf ls (tieOf es v).1) = V.int (lf ls (tieOf es v).2) by intro z; injection z with z; exact c1 z)]
          have hn : inF (sub es os) i = true := inF_iff.mpr (by rw [← eT, eS]; exact fun z => c1 (hiff.mpr z))
          rw [if_pos hn]
          refine iteT ⟨_, rfl, .inl ⟨rfl, _, SqL.of hf2⟩, _, rfl, fl, _, _, rfl, rfl, hf2, small1000 (by rw [List.length_map]; omega), ?_⟩
          have x4 : SameX fl H2 (upd H2 fl (.lst ((gF es os i).map V.int ++ [V.int v]))) := sameX_upd
          have t4 : (upd H2 fl (.lst ((gF es os i).map V.int ++ [V.int v]))) fl = some (.lst ((gF es os i ++ [v]).map V.int)) := by rw [List.map_append]; exact upd_same
          have s4 : Same H (upd H2 fl (.lst ((gF es os i).map V.int ++ [V.int v]))) := s2.upd nfl
          generalize upd H2 fl (.lst ((gF es os i).map V.int ++ [V.int v])) = H4 at x4 t4 s4
          have hl4 := x4 _ _ nlb hl2
          refine ⟨_, rfl, lb, _, rfl, .inl (SqL.of hl4), fun J C O hC => lc_by O (fun j ys H5 => Same H4 H5 ∧ ys = ((ls.map fun n => if n = lf ls (tieOf es v).2 then lf ls (tieOf es v).1 else n).take j).map V.int) (by rw [List.length_map]; exact Nat.le_of_lt (small1000 (by omega))) ⟨Same.refl _, rfl⟩ ?_ ?_ ?_⟩
          · rintro j ys H5 hj ⟨s5, rfl⟩
            exact ⟨hC _ s5, by rw [List.length_map, List.length_take]; omega⟩
          · rintro j ys H5 hj ⟨s5, rfl⟩
            obtain ⟨n, en, gn⟩ := getD_map_int hj
            rw [List.length_map] at hj
            have fin : ∀ u, u = (if n = lf ls (tieOf es v).2 then lf ls (tieOf es v).1 else n) → ((ls.map fun n => if n = lf ls (tieOf es v).2 then lf ls (tieOf es v).1 else n).take j).map V.int ++ [V.int u] = ((ls.map fun n => if n = lf ls (tieOf es v).2 then lf ls (tieOf es v).1 else n).take (j + 1)).map V.int := fun u e => by
              have hv2 : (ls.map fun n => if n = lf ls (tieOf es v).2 then lf ls (tieOf es v).1 else n)[j]? = some u := by rw [List.getElem?_map, gn, e]; rfl
              rw [take_snoc hv2, List.map_append]; rfl
            try dsimp only
            rw [en]
            refine ⟨wk_set rfl, iteT ⟨_, rfl, _, rfl, (by show 2 ≤ sizeLine; decide), fun q1 nq1 => ?_⟩⟩
            have s6 := s5.next (o := .lst [V.int n, V.int (lf ls (tieOf es v).1)]) nq1
            have e6 : (upd H5 q1 (.lst [V.int n, V.int (lf ls (tieOf es v).1)])) q1 = some (.lst [V.int n, V.int (lf ls (tieOf es v).1)]) := upd_same
            generalize upd H5 q1 (.lst [V.int n, V.int (lf ls (tieOf es v).1)]) = H6 at s6 e6
            have hyl : (((ls.map fun n => if n = lf ls (tieOf es v).2 then lf ls (tieOf es v).1 else n).take j).map V.int).length < sizeLine := small1000 (by rw [List.length_map, List.length_take]; omega)
            by_cases c2 : n = lf ls (tieOf es v).2
            · refine ⟨_, rfl, _, rfl, rfl, .inr ⟨true, by rw [decide_eq_true (by rw [c2])], ?_⟩⟩
              exact ⟨q1, _, 1, _, rfl, rfl, SqL.of e6, rfl, hyl, _, by rw [List.length_map]; omega, rfl, by rw [List.length_map]; omega, s6, fin _ (by rw [if_pos c2])⟩
            · refine ⟨_, rfl, _, rfl, rfl, .inr ⟨false, by rw [decide_eq_false (by intro z; injection z with z; exact c2 z)], ?_⟩⟩
              exact ⟨q1, _, 0, _, rfl, rfl, SqL.of e6, rfl, hyl, _, by rw [List.length_map]; omega, rfl, by rw [List.length_map]; omega, s6, fin _ (by rw [if_neg c2])⟩
          · rintro ys H5 ⟨s5, rfl⟩ l3 nl3
            rw [List.length_map, List.take_of_length_le (by rw [List.length_map]; omega)]
            have sN := s5.next (o := .lst ((ls.map fun n => if n = lf ls (tieOf es v).2 then lf ls (tieOf es v).1 else n).map V.int)) nl3
            refine ⟨l3, _, _, _, rfl, s4.trans sN, (ne_of_none (s5 _ _ t4) nl3).symm, sN _ _ t4, upd_same, by rw [List.length_map]; exact hll, ?_⟩
            exact (hL.put ⟨b1, b2, b3, b4⟩).congr hES fun p p0 p1 => (lf_map ls (fun n => if n = lf ls (tieOf es v).2 then lf ls (tieOf es v).1 else n) p p0 (by omega)).symm
      · rintro σ' H' ⟨lb, ls, v6, v7, rfl, h'⟩
        exact ⟨lb, ls, _, _, _, rfl, h'⟩
    · rintro σ H2 ⟨lb, ls, v5, v6, v7, rfl, s2, nlb, hf2, hl2, hll, hL⟩
      rw [hom] at hf2
      have hfl : (gF es os os.length).length ≤ os.length := by unfold gF; rw [List.length_map]; exact frN_len _ _
      exact ⟨_, rfl, fl, _, rfl, SqL.of hf2, by omega, fun l2 ns' nl2 hperm hsrt => k l2 ns' _ (none_back s2 nl2) (s2.next nl2) upd_same hperm hsrt⟩
structure TlP (K : PySem.W.Frag) (H : Hp) (l : Addr) (xs : List V) (es : List (Int × Int)) (H2 : Hp) : Prop where
  s : Same H H2
  l : H2 l = some (.lst xs)
  p : Pairs K H2 xs es
theorem TlP.same {K : PySem.W.Frag} {H H2 H3 : Hp} {l : Addr} {xs : List V} {es : List (Int × Int)} (t : TlP K H l xs es H2) (S : Same H2 H3) : TlP K H l xs es H3 := ⟨t.s.trans S, S _ _ t.l, t.p.same S⟩
theorem TlP.put {K : PySem.W.Frag} {H H2 : Hp} {l : Addr} {xs : List V} {es : List (Int × Int)} (t : TlP K H l xs es H2) (nl : H l = none) {z : Addr} {e : Int × Int} (nz : H2 z = none) : TlP K H l (xs ++ [.ref z]) (es ++ [e]) (upd (upd H2 z (.tup [.int e.1, .int e.2])) l (.lst (xs ++ [.ref z]))) := by
  have sz := Same.new (o := .tup [.int e.1, .int e.2]) nz
  have t' := t.same sz
  exact ⟨t'.s.upd nl, upd_same, (t'.p.snoc (e := e) (SqT.of upd_same)).sameX sameX_upd t'.l⟩
theorem first_at {t : Int} {L : List Int} (h : t ∈ L) : ∃ j, j < L.length ∧ L.getD j 0 = t ∧ ∀ i, i < j → L.getD i 0 ≠ t := by
  induction L with
  | nil => cases h
  | cons a L ih =>
    by_cases e : a = t
    · exact ⟨0, Nat.succ_pos _, e, fun i hi => absurd hi (Nat.not_lt_zero _)⟩
    · obtain ⟨j, h1, h2, h3⟩ := ih ((List.mem_cons.mp h).resolve_left fun z => e z.symm)
      exact ⟨j + 1, by rw [List.length_cons]; omega, h2, fun i hi => by
        cases i with
        | zero => exact e
        | succ i => exact h3 i (by omega)⟩
theorem rts_nd1 (n : Nat) (g : Int → Int) : (rts n g).Nodup := by
  unfold rts
  rw [List.nodup_iff_pairwise_ne, List.pairwise_map]
  exact (List.Pairwise.filter _ List.pairwise_lt_range).imp fun h => by omega
theorem one_rts {m : Int} {es : List (Int × Int)} {f : Int → Int} (F : Lab m es f) (m1 : 1 ≤ m) {z : Int} (h : ∀ p : Int, 0 ≤ p → p < m → Cn es z p) : (rts m.toNat f).length = 1 := by
  have f0 : f 0 = 0 := by have := F.low 0 (by omega) (by omega); omega
  have a : ∀ r ∈ rts m.toNat f, r = 0 := fun r hr => by
    obtain ⟨h0, h1, e⟩ := mem_rts.mp hr
    have c1 := lab_cn F.same (h r h0 (by omega))
    have c2 := lab_cn F.same (h 0 (by omega) (by omega))
    omega
  have b : (0 : Int) ∈ rts m.toNat f := mem_rts.mpr ⟨by omega, by omega, f0⟩
  have nd := rts_nd1 m.toNat f
  match rts m.toNat f, a, b, nd with
  | [], _, b, _ => exact nomatch b
  | [_], _, _, _ => rfl
  | x :: y :: _, a, _, nd =>
    have e1 := a x List.mem_cons_self
    have e2 := a y (List.mem_cons_of_mem _ List.mem_cons_self)
    exact absurd (show x ∈ y :: _ by rw [e1, ← e2]; exact List.mem_cons_self) (List.nodup_cons.mp nd).1
theorem tree_spn {m : Int} {es : List (Int × Int)} {ss : List Int} (hE : EndsIn es m) (m1 : 1 ≤ m) (ok : SetOk es.length ss) (hl : (ss.length : Int) = m - 1) {z : Int} (h : ∀ p : Int, 0 ≤ p → p < m → Cn (sub es ss) z p) : Spn es ss := by
  obtain ⟨f', F'⟩ := lab_of (ends_sub hE ok.rng)
  obtain ⟨f, F⟩ := lab_of hE
  have r1 := rank (ends_sub hE ok.rng) F'
  have r2 := rank hE F
  rw [one_rts F' m1 h] at r1
  rw [one_rts F m1 fun p h0 h1 => (h p h0 h1).mono (sub_mem ok.rng)] at r2
  exact ⟨ok, by omega, by omega⟩
theorem tree_cn1 {m : Int} {L : List (Int × Int)} (h : ∀ j : Nat, (j : Int) < m - 1 → ∃ ea : Int, 0 ≤ ea ∧ ea < 1 + j ∧ (ea, 1 + (j : Int)) ∈ L) : ∀ b n : Nat, n < b → (n : Int) < m → Cn L 0 n
  | 0, n, hb, _ => absurd hb (Nat.not_lt_zero _)
  | b + 1, 0, _, _ => .refl _
  | b + 1, n + 1, hb, hn => by
    obtain ⟨ea, e0, e1, he⟩ := h n (by omega)
    have ih := tree_cn1 h b ea.toNat (by omega) (by omega)
    rw [show ((ea.toNat : Nat) : Int) = ea by omega] at ih
    have := Cn.fwd ih he
    rw [show ((n + 1 : Nat) : Int) = 1 + (n : Int) by omega]
    exact this
theorem tree_cn2 {m c : Int} {L : List (Int × Int)} (h : ∀ j : Nat, (j : Int) < m - 1 → ∃ ea : Int, 0 ≤ ea ∧ ea < 1 + j ∧ ((c - (1 + (j : Int))) % m, (c - ea) % m) ∈ L) : ∀ b n : Nat, n < b → (n : Int) < m → Cn L ((c - 0) % m) ((c - (n : Int)) % m)
  | 0, n, hb, _ => absurd hb (Nat.not_lt_zero _)
  | b + 1, 0, _, _ => .refl _
  | b + 1, n + 1, hb, hn => by
    obtain ⟨ea, e0, e1, he⟩ := h n (by omega)
    have ih := tree_cn2 h b ea.toNat (by omega) (by omega)
    rw [show ((ea.toNat : Nat) : Int) = ea by omega] at ih
    have := Cn.bwd ih he
    rw [show ((n + 1 : Nat) : Int) = 1 + (n : Int) by omega]
    exact this
theorem turn_back {m c q : Int} (h0 : 0 ≤ q) (h1 : q < m) : (c - (c - q) % m) % m = q := by
  rw [Int.sub_emod, Int.emod_emod_of_dvd _ (Int.dvd_refl m), ← Int.sub_emod, show c - (c - q) = q by omega, Int.emod_eq_of_lt h0 h1]
def TrI (m c : Int) (es : List (Int × Int)) : Prop := ∀ j : Nat, j < es.length → (j : Int) < 2 * (m - 1) → ∃ ea fr : Int, es[j]? = some (if (j : Int) < m - 1 then (ea, fr) else ((c - fr) % m, (c - ea) % m)) ∧ fr = 1 + (j : Int) % (m - 1) ∧ 0 ≤ ea ∧ ea < fr
theorem TrI.more {m c : Int} {es : List (Int × Int)} (h : TrI m c es) (e : Int × Int) (hl : 2 * (m - 1) ≤ (es.length : Int)) : TrI m c (es ++ [e]) := fun j _ h2 => by
  obtain ⟨ea, fr, e1, r⟩ := h j (by omega) h2
  exact ⟨ea, fr, by rw [List.getElem?_append_left (by omega)]; exact e1, r⟩
theorem TrI.snoc {m c : Int} {es : List (Int × Int)} (h : TrI m c es) {ea fr : Int} {e : Int × Int} (he : e = if (es.length : Int) < m - 1 then (ea, fr) else ((c - fr) % m, (c - ea) % m)) (hf : fr = 1 + (es.length : Int) % (m - 1)) (e0 : 0 ≤ ea) (e1 : ea < fr) : TrI m c (es ++ [e]) := fun j h1 h2 => by
  by_cases d : j < es.length
  · obtain ⟨ea, fr, e1, r⟩ := h j d h2
    exact ⟨ea, fr, by rw [List.getElem?_append_left d]; exact e1, r⟩
  · rw [List.length_append, List.length_singleton] at h1
    have : j = es.length := by omega
    subst this
    exact ⟨ea, fr, by rw [List.getElem?_append_right (Nat.le_refl _), Nat.sub_self, he]; rfl, hf, e0, e1⟩
theorem sub_at {es : List (Int × Int)} {os : List Int} {z : Int} (h0 : 0 ≤ z) (h1 : z < (os.length : Int)) : tieOf (sub es os) z = tieOf es (os.getD z.toNat 0) := by
  unfold tieOf sub
  rw [List.getD_eq_getElem?_getD, List.getElem?_map, List.getD_eq_getElem?_getD (l := os), List.getElem?_eq_getElem (show z.toNat < os.length by omega)]
  rfl
theorem tr_one {m c : Int} {es : List (Int × Int)} {os ss : List Int} (hT : TrI m c es) (hl : 2 * (m - 1) ≤ (es.length : Int)) (m1 : 1 ≤ m) (hE : EndsIn (sub es os) m) (ok : SetOk os.length ss) (hn : (ss.length : Int) = m - 1) (hs : ∀ j : Nat, (j : Int) < m - 1 → ∃ z ∈ ss, os.getD z.toNat 0 = (j : Int)) : Spn (sub es os) ss := by
  have sl : (sub es os).length = os.length := sub_len ..
  refine tree_spn hE m1 (by rw [sl]; exact ok) hn (z := 0) fun p h0 h1 => ?_
  have := tree_cn1 (L := sub (sub es os) ss) (m := m) (fun j hj => ?_) (p.toNat + 1) p.toNat (by omega) (by omega)
  · rwa [show ((p.toNat : Nat) : Int) = p by omega] at this
  · obtain ⟨z, hz, e⟩ := hs j hj
    obtain ⟨ea, fr, g, ef, a0, a1⟩ := hT j (by omega) (by omega)
    rw [if_pos hj] at g
    have : (j : Int) % (m - 1) = j := Int.emod_eq_of_lt (by omega) hj
    rw [this] at ef
    refine ⟨ea, a0, by omega, List.mem_map.mpr ⟨z, hz, ?_⟩⟩
    have hr := ok.rng z hz
    rw [sub_at hr.1 hr.2, e]
    unfold tieOf
    rw [Int.toNat_natCast, List.getD_eq_getElem?_getD, g, ef]; rfl
theorem tr_two {m c : Int} {es : List (Int × Int)} {os ss : List Int} (hT : TrI m c es) (hl : 2 * (m - 1) ≤ (es.length : Int)) (m1 : 1 ≤ m) (hE : EndsIn (sub es os) m) (ok : SetOk os.length ss) (hn : (ss.length : Int) = m - 1) (hs : ∀ j : Nat, (j : Int) < m - 1 → ∃ z ∈ ss, os.getD z.toNat 0 = m - 1 + (j : Int)) : Spn (sub es os) ss := by
  have sl : (sub es os).length = os.length := sub_len ..
  refine tree_spn hE m1 (by rw [sl]; exact ok) hn (z := (c - 0) % m) fun p h0 h1 => ?_
  have b0 := Int.emod_nonneg (c - p) (show m ≠ 0 by omega)
  have b1 := Int.emod_lt_of_pos (c - p) (show 0 < m by omega)
  have := tree_cn2 (L := sub (sub es os) ss) (m := m) (c := c) (fun j hj => ?_) (((c - p) % m).toNat + 1) ((c - p) % m).toNat (by omega) (by omega)
  · rwa [show ((((c - p) % m).toNat : Nat) : Int) = (c - p) % m by omega, turn_back h0 h1] at this
  · obtain ⟨z, hz, e⟩ := hs j hj
    obtain ⟨ea, fr, g, ef, a0, a1⟩ := hT ((m - 1).toNat + j) (by omega) (by omega)
    rw [if_neg (by omega)] at g
    have : (((m - 1).toNat + j : Nat) : Int) % (m - 1) = j := by
      rw [show (((m - 1).toNat + j : Nat) : Int) = (j : Int) + (m - 1) by omega, Int.add_emod_right, Int.emod_eq_of_lt (by omega) hj]
    rw [this] at ef
    refine ⟨ea, a0, by omega, List.mem_map.mpr ⟨z, hz, ?_⟩⟩
    have hr := ok.rng z hz
    rw [sub_at hr.1 hr.2, e]
    unfold tieOf
    rw [show (m - 1 + (j : Int)).toNat = (m - 1).toNat + j by omega, List.getD_eq_getElem?_getD, g, ef]; rfl
def spTt (K : PySem.W.Frag) : Sp := fun vs H Q _ => ∃ (a : Addr) (ns : List Int), vs = [.ref a] ∧ SqL K H a (ns.map V.int) ∧ ns.length ≤ 63 ∧
  ∀ (t l p q : Addr) (m : Int) (xs : List V) (es : List (Int × Int)) (os ts : List Int) (H' : Hp), Same H H' → H' t = some (.tup [.int m, .ref l, .ref p, .ref q]) → H' l = some (.lst xs) → Pairs K H' xs es → 1 ≤ m → m ≤ 20 → es.length ≤ 40 → EndsIn es m → H' p = some (.lst (os.map V.int)) → H' q = some (.lst (ts.map V.int)) → (os.length : Int) = m - 1 → (ts.length : Int) = m - 1 → H l = none → Spn es os → Spn es ts → (∀ z ∈ os, ¬ z ∈ ts) → Q (.ref t) H'
theorem scTt : FnScope ["script", "lead", "many", "ends", "mixed", "k", "fresh", "early", "order", "one", "two"] ["script"] (defScope sTt) := ⟨rfl, rfl, rfl, by decide +kernel, rfl, by decide +kernel, by decide +kernel⟩
set_option maxHeartbeats 16000000 in
theorem ok_Tt {f : Addr} {fd : FuncData} (F : Fun K "_law_two_trees" "_law_two_trees" sTt f fd) (T : Txt K mg c) (D_C : Def P w K mg base 1 "_law_cell" ["script", "k"] (spC K)) : FnOk P w K mg base CX0 2 f fd ["script"] (spTt K) := by
  refine F.ok scTt (fun vs H Q E h => ?_) (fun cdv A outer s H vs Q E hr h => ?_)
  · obtain ⟨a, ns, rfl, _⟩ := h
    rfl
  · obtain ⟨a, ns, rfl, hS, hlen, k⟩ := h
    refine ⟨_, pss_cons (ps_set (i := 1) scTt.nd rfl (Or.inl rfl) (pe_defR D_C hr (pa_cons (pv 0) (pa_cons (pe_int) pa_nil))))
      (pss_cons (ps_cut (ps_set (i := 2) scTt.nd rfl (Or.inl rfl) (pe_op op_add (pe_int) (pe_op op_mod (pe_op op_fdiv (pv 1) (pe_int)) (pe_int)))))
      (pss_cons (ps_set (i := 3) scTt.nd rfl (Or.inr rfl) (pe_lst pa_nil))
      (pss_cons (ps_cut (ps_set (i := 4) scTt.nd rfl (Or.inl rfl) (pe_op op_add (pe_int) (pe_op op_mod (pe_callB (cSum (K := K) rfl rfl) (by rfl) T.sum PyProof.Rows.boot_sum (pa_cons (pv 0) pa_nil)) (pe_int)))))
      (pss_cons (ps_for PassesOwn.never rfl (pi_range1 rfl T.range (pa_cons (pe_op op_mulB (pe_int) (pe_op op_sub (pv 2) (pe_int))) pa_nil)) (pg_name (i := 5) scTt.nd rfl (Or.inl rfl))
        (pss_cons (ps_cut (ps_set (i := 4) scTt.nd rfl (Or.inl rfl) (pe_op op_mod (pe_op op_mulB (pv 4) (pe_int)) (pe_int))))
      (pss_cons (ps_cut (ps_set (i := 4) scTt.nd rfl (Or.inl rfl) (pe_op op_mod (pe_op op_add (pe_op op_mulB (pv 4) (pv 4)) (pe_op op_mulB (pe_int) (pv 5))) (pe_int))))
      (pss_cons (ps_cut (ps_set (i := 6) scTt.nd rfl (Or.inl rfl) (pe_op op_add (pe_int) (pe_op op_mod (pv 5) (pe_op op_sub (pv 2) (pe_int))))))
      (pss_cons (ps_cut (ps_set (i := 7) scTt.nd rfl (Or.inl rfl) (pe_op op_mod (pe_ix (ixL (K := K) rfl) (pe_lst (pa_cons (pe_defR D_C hr (pa_cons (pv 0) (pa_cons (pe_op op_add (pe_int) (pv 5)) pa_nil))) (pa_cons (pe_op op_fdiv (pv 4) (pe_int)) pa_nil))) (pe_op op_mod (pv 1) (pe_int)) (fun _ _ => rfl)) (pv 6))))
      (pss_one (ps_cut (ps_if (pt_cmpR op_lt (pv 5) (pe_op op_sub (pv 2) (pe_int)) (nomark _))
        (pss_one (ps_expr (pe_bm PySem.F.plainAttrs_list PySem.F.slot_list_append PySem.F.type_list_append mt_append (pv 3) (pa_cons (pe_tup (pa_cons (pv 7) (pa_cons (pv 6) pa_nil))) pa_nil)))) (pss_one (ps_expr (pe_bm PySem.F.plainAttrs_list PySem.F.slot_list_append PySem.F.type_list_append mt_append (pv 3) (pa_cons (pe_tup (pa_cons (pe_op op_mod (pe_op op_sub (pe_op op_fdiv (pv 1) (pe_int)) (pv 6)) (pv 2)) (pa_cons (pe_op op_mod (pe_op op_sub (pe_op op_fdiv (pv 1) (pe_int)) (pv 7)) (pv 2)) pa_nil))) pa_nil))))))))))))
      (pss_cons (ps_for PassesOwn.never rfl (pi_range1 rfl T.range (pa_cons (pe_op op_mod (pe_op op_fdiv (pv 1) (pe_int)) (pe_int)) pa_nil)) (pg_name (i := 5) scTt.nd rfl (Or.inl rfl))
        (pss_one (ps_expr (pe_bm PySem.F.plainAttrs_list PySem.F.slot_list_append PySem.F.type_list_append mt_append (pv 3) (pa_cons (pe_tup (pa_cons (pe_op op_mod (pe_op op_fdiv (pv 4) (pe_op op_add (pe_int) (pv 5))) (pv 2)) (pa_cons (pe_op op_mod (pe_op op_fdiv (pv 4) (pe_op op_add (pe_int) (pv 5))) (pv 2)) pa_nil))) pa_nil)))))
      (pss_cons (ps_set (i := 8) scTt.nd rfl (Or.inr rfl) (pe_lst pa_nil))
      (pss_cons (ps_for PassesOwn.never rfl (pi_range1 rfl T.range (pa_cons (pe_callB (cLen (K := K) rfl) (by rfl) T.len PySem.boot_len (pa_cons (pv 3) pa_nil)) pa_nil)) (pg_name (i := 5) scTt.nd rfl (Or.inl rfl))
        (pss_cons (ps_cut (ps_set (i := 4) scTt.nd rfl (Or.inl rfl) (pe_op op_mod (pe_op op_mulB (pv 4) (pe_int)) (pe_int))))
      (pss_cons (ps_cut (ps_set (i := 4) scTt.nd rfl (Or.inl rfl) (pe_op op_mod (pe_op op_add (pe_op op_mulB (pv 4) (pv 4)) (pe_op op_mulB (pe_int) (pv 5))) (pe_int))))
      (pss_one (ps_expr (pe_bm PySem.F.plainAttrs_list PySem.F.slot_list_insert PySem.F.type_list_insert mt_insI (pv 8) (pa_cons (pe_op op_mod (pe_op op_fdiv (pv 4) (pe_int)) (pe_op op_add (pv 5) (pe_int))) (pa_cons (pv 5) pa_nil))))))))
      (pss_cons (ps_set (i := 9) scTt.nd rfl (Or.inl rfl) (pe_callB (cSorted (K := K) rfl) (by rfl) T.sorted PyProof.Rows.boot_sorted (pa_cons (pe_lc (N' := ["k", "order"]) (nl := 1) (js := [8]) rfl (.of (osc := defScope sTt) (N := ["script", "lead", "many", "ends", "mixed", "k", "fresh", "early", "order", "one", "two"]) (by decide +kernel) rfl rfl) (pi_range1 rfl T.range (pa_cons (pe_op op_sub (pv 2) (pe_int)) pa_nil))
        (fun _ _ _ _ => pg_name (i := 0) (show (["k", "order"] : List Str).Nodup by decide +kernel) rfl (Or.inl rfl)) (fun _ _ _ _ => pif_nil)
        (fun _ _ _ _ => pe_bmK (K := K) rfl (pe_bm PySem.F.plainAttrs_list PySem.F.slot_list_index PySem.F.type_list_index (mIndex (K := K) rfl) (pv 1) (pa_cons (pv 0) pa_nil)))) pa_nil)))
      (pss_cons (ps_set (i := 10) scTt.nd rfl (Or.inl rfl) (pe_callB (cSorted (K := K) rfl) (by rfl) T.sorted PyProof.Rows.boot_sorted (pa_cons (pe_lc (N' := ["k", "order"]) (nl := 1) (js := [8]) rfl (.of (osc := defScope sTt) (N := ["script", "lead", "many", "ends", "mixed", "k", "fresh", "early", "order", "one", "two"]) (by decide +kernel) rfl rfl) (pi_range2 rfl T.range (pa_cons (pe_op op_sub (pv 2) (pe_int)) (pa_cons (pe_op op_mulB (pe_int) (pe_op op_sub (pv 2) (pe_int))) pa_nil)))
        (fun _ _ _ _ => pg_name (i := 0) (show (["k", "order"] : List Str).Nodup by decide +kernel) rfl (Or.inl rfl)) (fun _ _ _ _ => pif_nil)
        (fun _ _ _ _ => pe_bmK (K := K) rfl (pe_bm PySem.F.plainAttrs_list PySem.F.slot_list_index PySem.F.type_list_index (mIndex (K := K) rfl) (pv 1) (pa_cons (pv 0) pa_nil)))) pa_nil)))
      (pss_one (ps_ret (pe_tup (pa_cons (pv 2) (pa_cons (pe_lc (N' := ["k", "ends"]) (nl := 1) (js := [3]) rfl (.of (osc := defScope sTt) (N := ["script", "lead", "many", "ends", "mixed", "k", "fresh", "early", "order", "one", "two"]) (by decide +kernel) rfl rfl) (piSeqB (K := K) rfl (pv 8))
        (fun _ _ _ _ => pg_name (i := 0) (show (["k", "ends"] : List Str).Nodup by decide +kernel) rfl (Or.inl rfl)) (fun _ _ _ _ => pif_nil)
        (fun _ _ _ _ => pe_ix (ixL (K := K) rfl) (pv 1) (pv 0) (fun _ _ => rfl))) (pa_cons (pv 9) (pa_cons (pv 10) pa_nil)))))))))))))))), ?_⟩
    refine ⟨_, rfl, a, ns, 0, rfl, hS, by decide, ?_⟩
    generalize ns.getD (0 : Int).toNat 0 = le0
    refine ⟨fun σ' H' => H' = H ∧ ∃ m : Int, 1 ≤ m ∧ m ≤ 20 ∧ σ' = [some (.ref a), some (.int le0), some (.int m), none, none, none, none, none, none, none, none], ?_, ?_⟩
    · have b1 := Int.emod_nonneg (le0 / 2) (show (20 : Int) ≠ 0 by decide)
      have b2 := Int.emod_lt_of_pos (le0 / 2) (show (0 : Int) < 20 by decide)
      exact ⟨_, rfl, _, _, rfl, rfl, ⟨by decide, by decide⟩, _, _, rfl, rfl, (by show (0 : Int) < 20; decide), _, _, rfl, rfl, rfl, _, by omega, by omega, rfl⟩
    rintro σ' H0 ⟨rfl, m, m1, m2, rfl⟩
    refine ⟨by decide, fun le nle => ?_⟩
    have T0 : TlP K H0 le [] [] (upd H0 le (.lst [])) := ⟨Same.new nle, upd_same, .nil⟩
    generalize upd H0 le (.lst []) = H1 at T0
    refine ⟨fun σ' H' => H' = H1 ∧ ∃ mi : Int, 0 ≤ mi ∧ mi < 2 ^ 40 ∧ σ' = [some (.ref a), some (.int le0), some (.int m), some (.ref le), some (.int mi), none, none, none, none, none, none], ?_, ?_⟩
    · have b1 := Int.emod_nonneg ns.sum (show (1000000007 : Int) ≠ 0 by decide)
      have b2 := Int.emod_lt_of_pos ns.sum (show (0 : Int) < 1000000007 by decide)
      exact ⟨_, rfl, a, ns, rfl, .inl (T0.s.seq hS), _, _, rfl, rfl, (by show (0 : Int) < 1000000007; decide), _, _, rfl, rfl, rfl, _, by omega, by omega, rfl⟩
    rintro σ' H2 ⟨rfl, mi, mi0, mi1, rfl⟩
    refine ⟨_, rfl, _, _, rfl, rfl, _, _, rfl, rfl, ⟨by decide, by omega⟩, 2 * (m - 1), rfl, by omega, by omega, ?_⟩
    refine for_by itok_range (fun i σ H3 => ∃ (mi : Int) (xs : List V) (es : List (Int × Int)) (v5 v6 v7 : Option V), σ = [some (.ref a), some (.int le0), some (.int m), some (.ref le), some (.int mi), v5, v6, v7, none, none, none] ∧ TlP K H0 le xs es H3 ∧ 0 ≤ mi ∧ mi < 2 ^ 40 ∧ es.length = i ∧ EndsIn es m ∧ TrI m (le0 / 40) es) ⟨mi, [], [], none, none, none, rfl, T0, mi0, mi1, rfl, EndsIn.nil, fun j hj => absurd hj (Nat.not_lt_zero _)⟩ (fun _ _ _ _ _ => trivial) ?_ ?_
    · clear mi0 mi1 T0
      rintro i σ H3 hi ⟨mi, xs, es, v5, v6, v7, rfl, t, mi0, mi1, hel, hE, hTr⟩
      have hi' : i < (2 * (m - 1)).toNat := hi
      have hxl := t.p.len
      refine ⟨fun σ' H' => H' = H3 ∧ ∃ mi : Int, 0 ≤ mi ∧ mi < 2 ^ 40 ∧ σ' = [some (.ref a), some (.int le0), some (.int m), some (.ref le), some (.int mi), some (.int (0 + (i : Nat))), v6, v7, none, none, none], ?_, ?_⟩
      · refine ⟨_, rfl, _, _, rfl, rfl, ⟨by omega, by decide⟩, _, _, rfl, rfl, (by show (0 : Int) < 2147483647; decide), rfl, _, Int.emod_nonneg _ (by decide), ?_, rfl⟩
        have := Int.emod_lt_of_pos (mi * 48271) (show (0 : Int) < 2147483647 by decide); omega
      rintro σ' H4 ⟨rfl, mj, mj0, mj1, rfl⟩
      refine ⟨fun σ' H' => H' = H4 ∧ ∃ mi : Int, 0 ≤ mi ∧ mi < 2 ^ 40 ∧ σ' = [some (.ref a), some (.int le0), some (.int m), some (.ref le), some (.int mi), some (.int (0 + (i : Nat))), v6, v7, none, none, none], ?_, ?_⟩
      · refine ⟨_, rfl, _, rfl, _, _, rfl, rfl, ⟨by omega, by omega⟩, _, rfl, _, _, rfl, rfl, ⟨by decide, by omega⟩, _, _, rfl, rfl, _, _, rfl, rfl, (by show (0 : Int) < 2147483629; decide), rfl, _, Int.emod_nonneg _ (by decide), ?_, rfl⟩
        have := Int.emod_lt_of_pos (mj * mj + 3 * (0 + (i : Nat))) (show (0 : Int) < 2147483629 by decide); omega
      rintro σ' H5 ⟨rfl, mk, mk0, mk1, rfl⟩
      refine ⟨fun σ' H' => H' = H5 ∧ ∃ fr : Int, (1 ≤ fr ∧ fr = 1 + (i : Int) % (m - 1)) ∧ fr < m ∧ σ' = [some (.ref a), some (.int le0), some (.int m), some (.ref le), some (.int mk), some (.int (0 + (i : Nat))), some (.int fr), v7, none, none, none], ?_, ?_⟩
      · have b1 := Int.emod_nonneg (0 + (i : Nat) : Int) (show m - 1 ≠ 0 by omega)
        have b2 := Int.emod_lt_of_pos (0 + (i : Nat) : Int) (show 0 < m - 1 by omega)
        exact ⟨_, rfl, _, rfl, _, _, rfl, rfl, _, _, rfl, rfl, (by show (0 : Int) < m - 1; omega), _, _, rfl, rfl, rfl, _, ⟨by omega, by rw [Int.zero_add]⟩, by omega, rfl⟩
      rintro σ' H6 ⟨rfl, fr, ⟨f1, f3⟩, f2, rfl⟩
      refine ⟨fun σ' H' => Same H6 H' ∧ ∃ ea : Int, 0 ≤ ea ∧ ea < fr ∧ σ' = [some (.ref a), some (.int le0), some (.int m), some (.ref le), some (.int mk), some (.int (0 + (i : Nat))), some (.int fr), some (.int ea), none, none, none], ?_, ?_⟩
      · have c0 := Int.emod_nonneg le0 (show (2 : Int) ≠ 0 by decide)
        have c1 := Int.emod_lt_of_pos le0 (show (0 : Int) < 2 by decide)
        refine ⟨_, rfl, _, rfl, _, _, rfl, rfl, a, ns, _, rfl, t.s.seq hS, by omega, ?_⟩
        generalize ns.getD ((2 : Int) + (0 + (i : Nat))).toNat 0 = ce
        refine ⟨_, rfl, _, _, rfl, rfl, ⟨by decide, by decide⟩, (by show 2 ≤ sizeLine; decide), fun q nq => ?_⟩
        obtain ⟨v, av, hv⟩ := at2 (a := V.int ce) (b := V.int (mk / 8)) c0 c1
        have hvi : ∃ u : Int, v = .int u := hv.elim (fun e => ⟨_, e⟩) fun e => ⟨_, e⟩
        obtain ⟨u, rfl⟩ := hvi
        exact ⟨_, rfl, _, _, rfl, rfl, (by show (0 : Int) < 2; decide), q, _, _, _, rfl, rfl, SqL.of upd_same, av, _, rfl, _, _, rfl, rfl, (by show 0 < fr; omega), Same.new nq, _, Int.emod_nonneg _ (by omega), Int.emod_lt_of_pos _ (by omega), rfl⟩
      rintro σ' H7 ⟨s7, ea, ea0, ea1, rfl⟩
      have t7 := t.same s7
      refine ⟨fun σ' H' => ∃ (xs : List V) (es : List (Int × Int)), σ' = [some (.ref a), some (.int le0), some (.int m), some (.ref le), some (.int mk), some (.int (0 + (i : Nat))), some (.int fr), some (.int ea), none, none, none] ∧ TlP K H0 le xs es H' ∧ es.length = i + 1 ∧ EndsIn es m ∧ TrI m (le0 / 40) es, ?_, ?_⟩
      · refine ⟨_, rfl, _, rfl, _, _, rfl, rfl, _, _, rfl, rfl, _, rfl, ite2 (fun cc => ?_) (fun cc => ?_)⟩
        · have cc' := of_decide_eq_true cc
          refine ⟨_, rfl, .inl ⟨rfl, _, SqL.of t7.l⟩, _, rfl, _, rfl, (by show 2 ≤ sizeLine; decide), fun z nz => ?_⟩
          exact ⟨le, _, _, rfl, rfl, Same.new nz _ _ t7.l, small1000 (by omega), _, _, rfl, t7.put (e := (ea, fr)) nle nz, by rw [List.length_append, hel]; rfl, hE.snoc ⟨ea0, by omega, by omega, f2⟩, hTr.snoc (ea := ea) (fr := fr) (by rw [if_pos (by omega)]) (by rw [hel]; exact f3) ea0 ea1⟩
        · have cc' := of_decide_eq_false (Bool.eq_false_iff.mpr cc)
          have d1 := Int.emod_nonneg (le0 / 40 - fr) (show m ≠ 0 by omega)
          have d2 := Int.emod_lt_of_pos (le0 / 40 - fr) (show 0 < m by omega)
          have d3 := Int.emod_nonneg (le0 / 40 - ea) (show m ≠ 0 by omega)
          have d4 := Int.emod_lt_of_pos (le0 / 40 - ea) (show 0 < m by omega)
          refine ⟨_, rfl, .inl ⟨rfl, _, SqL.of t7.l⟩, _, rfl, _, _, rfl, rfl, ⟨by decide, by decide⟩, _, rfl, _, _, rfl, rfl, _, rfl, _, _, rfl, rfl, (by show 0 < m; omega), _, rfl, _, _, rfl, rfl, ⟨by decide, by decide⟩, _, rfl, _, _, rfl, rfl, _, rfl, _, _, rfl, rfl, (by show 0 < m; omega), (by show 2 ≤ sizeLine; decide), fun z nz => ?_⟩
          exact ⟨le, _, _, rfl, rfl, Same.new nz _ _ t7.l, small1000 (by omega), _, _, rfl, t7.put (e := ((le0 / 40 - fr) % m, (le0 / 40 - ea) % m)) nle nz, by rw [List.length_append, hel]; rfl, hE.snoc ⟨d1, d2, d3, d4⟩, hTr.snoc (ea := ea) (fr := fr) (by rw [if_neg (by omega)]) (by rw [hel]; exact f3) ea0 ea1⟩
      · rintro σ' H8 ⟨xs, es, rfl, t8, hel8, hE8⟩
        exact ⟨mk, xs, es, _, _, _, rfl, t8, mk0, mk1, hel8, hE8⟩
    clear T0 mi0 mi1
    rintro σ H3 ⟨mi, xs, es, v5, v6, v7, rfl, t, mi0, mi1, hel, hE, hTr⟩
    have h3a := Int.emod_nonneg (le0 / 40) (show (3 : Int) ≠ 0 by decide)
    have h3b := Int.emod_lt_of_pos (le0 / 40) (show (0 : Int) < 3 by decide)
    have hel0 : es.length = (2 * (m - 1)).toNat := hel
    refine ⟨_, rfl, _, _, rfl, rfl, ⟨by decide, by decide⟩, _, _, rfl, rfl, (by show (0 : Int) < 3; decide), le0 / 40 % 3, rfl, by omega, by omega, ?_⟩
    refine for_by itok_range (fun i σ H4 => ∃ (xs : List V) (es : List (Int × Int)) (v5 : Option V), σ = [some (.ref a), some (.int le0), some (.int m), some (.ref le), some (.int mi), v5, v6, v7, none, none, none] ∧ TlP K H0 le xs es H4 ∧ es.length = (2 * (m - 1)).toNat + i ∧ EndsIn es m ∧ TrI m (le0 / 40) es) ⟨xs, es, v5, rfl, t, hel0, hE, hTr⟩ (fun _ _ _ _ _ => trivial) ?_ ?_
    · clear hel hel0 hE t hTr
      rintro i σ H4 hi ⟨xs, es, v5, rfl, t, hel, hE, hTr⟩
      have hi' : i < (le0 / 40 % 3).toNat := hi
      have hxl := t.p.len
      have d1 := Int.emod_nonneg (mi / (3 + (0 + (i : Nat)))) (show m ≠ 0 by omega)
      have d2 := Int.emod_lt_of_pos (mi / (3 + (0 + (i : Nat)))) (show 0 < m by omega)
      have d3 := Int.emod_nonneg (mi / (5 + (0 + (i : Nat)))) (show m ≠ 0 by omega)
      have d4 := Int.emod_lt_of_pos (mi / (5 + (0 + (i : Nat)))) (show 0 < m by omega)
      refine ⟨_, rfl, .inl ⟨rfl, _, SqL.of t.l⟩, _, rfl, _, rfl, _, _, rfl, rfl, _, _, rfl, rfl, ⟨by omega, by omega⟩, _, rfl, _, _, rfl, rfl, (by show 0 < m; omega), _, rfl, _, rfl, _, _, rfl, rfl, _, _, rfl, rfl, ⟨by omega, by omega⟩, _, rfl, _, _, rfl, rfl, (by show 0 < m; omega), (by show 2 ≤ sizeLine; decide), fun z nz => ?_⟩
      exact ⟨le, _, _, rfl, rfl, Same.new nz _ _ t.l, small1000 (by omega), _, _, _, rfl, t.put (e := (mi / (3 + (0 + (i : Nat))) % m, mi / (5 + (0 + (i : Nat))) % m)) nle nz, by rw [List.length_append, hel]; rfl, hE.snoc ⟨d1, d2, d3, d4⟩, hTr.more _ (by omega)⟩
    clear hel hel0 hE t hTr
    rintro σ H4 ⟨xs, es, v5, rfl, t, hel, hE, hTr⟩
    have hel1 : es.length ≤ 40 ∧ (2 * (m - 1)).toNat ≤ es.length := by
      have : (le0 / 40 % 3).toNat ≤ 2 := by omega
      omega
    clear hel h3a h3b
    have hxl := t.p.len
    refine ⟨by decide, fun lo nlo => ?_⟩
    have t5 := t.same (Same.new (o := .lst []) nlo)
    have o5 : (upd H4 lo (.lst [])) lo = some (.lst (([] : List Int).map V.int)) := upd_same
    have nlo0 : H0 lo = none := none_back t.s nlo
    have loe : lo ≠ le := (ne_of_none t.l nlo).symm
    generalize upd H4 lo (.lst []) = H5 at t5 o5
    refine ⟨_, rfl, le, xs, rfl, .inl (SqL.of t5.l), (xs.length : Int), rfl, by omega, by omega, ?_⟩
    rw [Int.toNat_natCast, hxl]
    refine for_by itok_range (fun i σ H6 => ∃ (os : List Int) (mi : Int) (v5 : Option V), σ = [some (.ref a), some (.int le0), some (.int m), some (.ref le), some (.int mi), v5, v6, v7, some (.ref lo), none, none] ∧ TlP K H0 le xs es H6 ∧ H6 lo = some (.lst (os.map V.int)) ∧ os.Perm (upto i) ∧ 0 ≤ mi ∧ mi < 2 ^ 40) ⟨[], mi, v5, rfl, t5, o5, .refl _, mi0, mi1⟩ (fun _ _ _ _ _ => trivial) ?_ ?_
    · clear t5 o5 mi0 mi1 t
      rintro i σ H6 hi ⟨os, mi, v5, rfl, t6, o6, hpm, mi0, mi1⟩
      have hi' : i < es.length := hi
      have hol : os.length = i := by rw [hpm.length_eq, upto_len]
      have hom : (os.map V.int).length = os.length := List.length_map ..
      refine ⟨fun σ' H' => H' = H6 ∧ ∃ mi : Int, 0 ≤ mi ∧ mi < 2 ^ 40 ∧ σ' = [some (.ref a), some (.int le0), some (.int m), some (.ref le), some (.int mi), some (.int (0 + (i : Nat))), v6, v7, some (.ref lo), none, none], ?_, ?_⟩
      · refine ⟨_, rfl, _, _, rfl, rfl, ⟨by omega, by decide⟩, _, _, rfl, rfl, (by show (0 : Int) < 2147483647; decide), rfl, _, Int.emod_nonneg _ (by decide), ?_, rfl⟩
        have := Int.emod_lt_of_pos (mi * 48271) (show (0 : Int) < 2147483647 by decide); omega
      rintro σ' H7 ⟨rfl, mj, mj0, mj1, rfl⟩
      refine ⟨fun σ' H' => H' = H7 ∧ ∃ mi : Int, 0 ≤ mi ∧ mi < 2 ^ 40 ∧ σ' = [some (.ref a), some (.int le0), some (.int m), some (.ref le), some (.int mi), some (.int (0 + (i : Nat))), v6, v7, some (.ref lo), none, none], ?_, ?_⟩
      · refine ⟨_, rfl, _, rfl, _, _, rfl, rfl, ⟨by omega, by omega⟩, _, rfl, _, _, rfl, rfl, ⟨by decide, by omega⟩, _, _, rfl, rfl, _, _, rfl, rfl, (by show (0 : Int) < 2147483629; decide), rfl, _, Int.emod_nonneg _ (by decide), ?_, rfl⟩
        have := Int.emod_lt_of_pos (mj * mj + 11 * (0 + (i : Nat))) (show (0 : Int) < 2147483629 by decide); omega
      rintro σ' H8 ⟨rfl, mk, mk0, mk1, rfl⟩
      have d0 := Int.emod_nonneg (mk / 8) (show (0 + (i : Nat) + 1 : Int) ≠ 0 by omega)
      have d1 := Int.emod_lt_of_pos (mk / 8) (show (0 : Int) < 0 + (i : Nat) + 1 by omega)
      refine ⟨_, rfl, .inl ⟨rfl, _, SqL.of o6⟩, _, rfl, _, _, rfl, rfl, ⟨by decide, by decide⟩, _, rfl, _, _, rfl, rfl, _, _, rfl, rfl, (by show (0 : Int) < 0 + (i : Nat) + 1; omega), _, rfl, ?_⟩
      refine ⟨lo, _, _, _, rfl, rfl, o6, d0, by omega, by omega, ?_⟩
      refine ⟨os.take (mk / 8 % (0 + (i : Nat) + 1)).toNat ++ (0 + ((i : Nat) : Int)) :: os.drop (mk / 8 % (0 + (i : Nat) + 1)).toNat, mk, _, rfl, ⟨t6.s.upd nlo0, by rw [upd_ne loe.symm]; exact t6.l, t6.p.sameX sameX_upd o6⟩, ?_, ?_, mk0, mk1⟩
      · rw [upd_same, List.map_append, List.map_cons, List.map_take, List.map_drop]
      · rw [upto_succ, Int.zero_add]
        refine List.perm_middle.trans ?_
        rw [List.take_append_drop]
        exact (List.Perm.cons _ hpm).trans (List.perm_append_singleton ..).symm
    clear t5 o5 mi0 mi1 t
    rintro σ H6 ⟨os, mi, v5, rfl, t6, o6, hpm, mi0, mi1⟩
    have hol : os.length = es.length := by rw [hpm.length_eq, upto_len]
    have hor : ∀ t ∈ os, 0 ≤ t ∧ t < (es.length : Int) := fun t ht => mem_upto.mp (hpm.mem_iff.mp ht)
    have hom : (os.map V.int).length = os.length := List.length_map ..
    refine ⟨_, rfl, _, _, rfl, rfl, m - 1, rfl, by omega, by omega, lc_by itok_range (fun j ys H7 => H7 = H6 ∧ ∃ zs : List Int, ys = zs.map V.int ∧ zs.length = j ∧ zs.Nodup ∧ (∀ z ∈ zs, (0 ≤ z ∧ z < (es.length : Int)) ∧ os.getD z.toNat 0 < 0 + (j : Nat)) ∧ ∀ i : Nat, i < j → ∃ z ∈ zs, os.getD z.toNat 0 = (i : Int)) (Nat.le_of_lt (small1000 (by omega))) ⟨rfl, [], rfl, rfl, .nil, fun z hz => (nomatch hz), fun i hi => absurd hi (Nat.not_lt_zero _)⟩ ?_ ?_ ?_⟩
    · rintro j ys H7 hj ⟨rfl, zs, rfl, hzl, hzn, hzr, hza⟩
      exact ⟨trivial, by rw [List.length_map]; omega⟩
    · rintro j ys H7 hj ⟨rfl, zs, rfl, hzl, hzn, hzr, hza⟩
      have hj' : j < (m - 1).toNat := hj
      obtain ⟨g, g1, g2, g3⟩ := first_at (t := 0 + (j : Nat)) (hpm.mem_iff.mpr (mem_upto.mpr ⟨by omega, by omega⟩))
      refine ⟨wk_set rfl, iteT ⟨_, rfl, .inl ⟨rfl, _, SqL.of o6⟩, _, rfl, lo, os, _, g, rfl, rfl, SqL.of o6, g1, by omega, g2, g3, small1000 (by rw [List.length_map]; omega), _, by omega, rfl, by omega, rfl, zs ++ [(g : Int)], by rw [List.map_append]; rfl, by rw [List.length_append, hzl]; rfl, nodup_snoc hzn fun z => (by have := (hzr _ z).2; rw [Int.toNat_natCast, g2] at this; omega), fun z hz => ?_, fun i hi => ?_⟩⟩
      · rcases List.mem_append.mp hz with y | y
        · have := hzr z y; exact ⟨this.1, by omega⟩
        · rw [List.mem_singleton.mp y, Int.toNat_natCast, g2]; exact ⟨⟨by omega, by omega⟩, by omega⟩
      · by_cases d : i < j
        · obtain ⟨z, hz, e⟩ := hza i d
          exact ⟨z, List.mem_append_left _ hz, e⟩
        · exact ⟨g, List.mem_append_right _ List.mem_cons_self, by rw [Int.toNat_natCast, g2]; omega⟩
    rintro ys H7 ⟨rfl, zs, rfl, hzl, hzn, hzr, hza⟩ l1 nl1
    refine ⟨l1, zs, rfl, SqL.of upd_same, by omega, fun p os2 np hp1 hs1 => ?_⟩
    have hpl : (os2.length : Int) = m - 1 := by rw [hp1.length_eq]; omega
    have s8 := (Same.new (o := .lst (zs.map V.int)) nl1).next (o := .lst (os2.map V.int)) np
    have e8 : (upd (upd H7 l1 (.lst (zs.map V.int))) p (.lst (os2.map V.int))) p = some (.lst (os2.map V.int)) := upd_same
    generalize upd (upd H7 l1 (.lst (zs.map V.int))) p (.lst (os2.map V.int)) = H8 at s8 e8
    have t8 := t6.same s8
    have o8 := s8 _ _ o6
    have ok1 : SetOk es.length os2 := ⟨fun z hz => (hzr z (hp1.mem_iff.mp hz)).1, up_le hs1 (hp1.nodup_iff.mpr hzn)⟩
    have all1 : ∀ j : Nat, (j : Int) < m - 1 → ∃ z ∈ os2, os.getD z.toNat 0 = (j : Int) := fun j hj => by
      obtain ⟨z, hz, e⟩ := hza j (by omega)
      exact ⟨z, hp1.mem_iff.mpr hz, e⟩
    have low1 : ∀ z ∈ os2, os.getD z.toNat 0 < m - 1 := fun z hz => by have := (hzr z (hp1.mem_iff.mp hz)).2; omega
    clear hp1 hs1 hzl hzr hzn hza
    refine ⟨_, rfl, _, _, rfl, rfl, _, rfl, _, _, rfl, rfl, _, _, rfl, rfl, ⟨by decide, by omega⟩, m - 1, 2 * (m - 1), rfl, ⟨by omega, by omega, by omega, by omega⟩, lc_by itok_range (fun j ys H9 => H9 = H8 ∧ ∃ zs : List Int, ys = zs.map V.int ∧ zs.length = j ∧ zs.Nodup ∧ (∀ z ∈ zs, ((0 ≤ z ∧ z < (es.length : Int)) ∧ m - 1 ≤ os.getD z.toNat 0) ∧ os.getD z.toNat 0 < m - 1 + (j : Nat)) ∧ ∀ i : Nat, i < j → ∃ z ∈ zs, os.getD z.toNat 0 = m - 1 + (i : Int)) (Nat.le_of_lt (small1000 (by omega))) ⟨rfl, [], rfl, rfl, .nil, fun z hz => (nomatch hz), fun i hi => absurd hi (Nat.not_lt_zero _)⟩ ?_ ?_ ?_⟩
    · rintro j ys H9 hj ⟨rfl, zs, rfl, hzl, hzn, hzr, hza⟩
      exact ⟨trivial, by rw [List.length_map]; omega⟩
    · rintro j ys H9 hj ⟨rfl, zs, rfl, hzl, hzn, hzr, hza⟩
      have hj' : j < (2 * (m - 1) - (m - 1)).toNat := hj
      obtain ⟨g, g1, g2, g3⟩ := first_at (t := m - 1 + (j : Nat)) (hpm.mem_iff.mpr (mem_upto.mpr ⟨by omega, by omega⟩))
      refine ⟨wk_set rfl, iteT ⟨_, rfl, .inl ⟨rfl, _, SqL.of o8⟩, _, rfl, lo, os, _, g, rfl, rfl, SqL.of o8, g1, by omega, g2, g3, small1000 (by rw [List.length_map]; omega), _, by omega, rfl, by omega, rfl, zs ++ [(g : Int)], by rw [List.map_append]; rfl, by rw [List.length_append, hzl]; rfl, nodup_snoc hzn fun z => (by have := (hzr _ z).2; rw [Int.toNat_natCast, g2] at this; omega), fun z hz => ?_, fun i hi => ?_⟩⟩
      · rcases List.mem_append.mp hz with y | y
        · have := hzr z y; exact ⟨this.1, by omega⟩
        · rw [List.mem_singleton.mp y, Int.toNat_natCast, g2]; exact ⟨⟨⟨by omega, by omega⟩, by omega⟩, by omega⟩
      · by_cases d : i < j
        · obtain ⟨z, hz, e⟩ := hza i d
          exact ⟨z, List.mem_append_left _ hz, e⟩
        · exact ⟨g, List.mem_append_right _ List.mem_cons_self, by rw [Int.toNat_natCast, g2]; omega⟩
    rintro ys H9 ⟨rfl, zs, rfl, hzl, hzn, hzr, hza⟩ l2 nl2
    refine ⟨l2, zs, rfl, SqL.of upd_same, by omega, fun q ts2 nq hp2 hs2 => ?_⟩
    have hql : (ts2.length : Int) = m - 1 := by rw [hp2.length_eq]; omega
    have sA := (Same.new (o := .lst (zs.map V.int)) nl2).next (o := .lst (ts2.map V.int)) nq
    have eA : (upd (upd H9 l2 (.lst (zs.map V.int))) q (.lst (ts2.map V.int))) q = some (.lst (ts2.map V.int)) := upd_same
    generalize upd (upd H9 l2 (.lst (zs.map V.int))) q (.lst (ts2.map V.int)) = HA at sA eA
    have tA := t8.same sA
    have oA := sA _ _ o8
    have pA := sA _ _ e8
    have ok2 : SetOk es.length ts2 := ⟨fun z hz => (hzr z (hp2.mem_iff.mp hz)).1.1, up_le hs2 (hp2.nodup_iff.mpr hzn)⟩
    have all2 : ∀ j : Nat, (j : Int) < m - 1 → ∃ z ∈ ts2, os.getD z.toNat 0 = m - 1 + (j : Int) := fun j hj => by
      obtain ⟨z, hz, e⟩ := hza j (by omega)
      exact ⟨z, hp2.mem_iff.mpr hz, e⟩
    have low2 : ∀ z ∈ ts2, m - 1 ≤ os.getD z.toNat 0 := fun z hz => (hzr z (hp2.mem_iff.mp hz)).1.2
    clear hp2 hs2 hzl hzr hzn hza
    refine ⟨_, rfl, _, rfl, false, lo, _, rfl, SqL.of oA, fun J C O hC => lc_by O (fun j ys HB => HB = HA ∧ Pairs K HB ys (sub es (os.take j))) (by rw [hom]; exact Nat.le_of_lt (small1000 (by omega))) ⟨rfl, .nil⟩ ?_ ?_ ?_⟩
    · rintro j ys HB hj ⟨rfl, pB⟩
      exact ⟨hC _ (SqL.of oA), by rw [pB.len, sub_len, List.length_take]; omega⟩
    · rintro j ys HB hj ⟨rfl, pB⟩
      obtain ⟨v, ev, gv⟩ := getD_map_int hj
      rw [hom] at hj
      have hv := hor v (List.mem_of_getElem? gv)
      have hpl2 := pB.len
      rw [sub_len, List.length_take] at hpl2
      obtain ⟨r, ar, hr2, _⟩ := tie_get tA.p hv.1 hv.2
      try dsimp only
      rw [ev]
      refine ⟨wk_set rfl, iteT ⟨_, rfl, _, rfl, le, xs, v, .ref r, rfl, rfl, SqL.of tA.l, ar, small1000 (by omega), _, by omega, rfl, by omega, rfl, ?_⟩⟩
      rw [take_snoc gv]
      unfold sub
      rw [List.map_append]
      exact pB.snoc hr2
    rintro ys HB ⟨rfl, pB⟩ lx nlx
    rw [hom, List.take_length] at pB
    refine ⟨_, rfl, _, rfl, (by show 4 ≤ sizeLine; decide), fun tu ntu => ?_⟩
    have sC := (Same.new (o := .lst ys) nlx).next (o := .tup [.int m, .ref lx, .ref p, .ref q]) ntu
    exact k tu lx p q m ys (sub es os) os2 ts2 _ (tA.s.trans sC) upd_same (Same.new ntu _ _ upd_same) (pB.same sC) m1 m2 (by rw [sub_len]; omega) (ends_sub hE hor) (sC _ _ pA) (sC _ _ eA) hpl hql (none_back tA.s nlx) (tr_one hTr (by omega) m1 (ends_sub hE hor) (by rw [hol]; exact ok1) hpl all1) (tr_two hTr (by omega) m1 (ends_sub hE hor) (by rw [hol]; exact ok2) hql all2) (fun z h1 h2 => by have a1 := low1 z h1; have a2 := low2 z h2; omega)
theorem kListB {K : PySem.W.Frag} : PySem.W.kitOne K (.type "list") (.type "list") = some true := by with_unfolding_all rfl
theorem all_bl : ∀ n : Nat, (List.replicate n (V.bl true)).all isBI = true ∧ (List.replicate n (V.bl true)).all tv = true
  | 0 => ⟨rfl, rfl⟩
  | n + 1 => by
    obtain ⟨a, b⟩ := all_bl n
    rw [List.replicate_succ, List.all_cons, List.all_cons, a, b]
    exact ⟨rfl, rfl⟩
def hdL (ls : List (List Int)) (n : Nat) : List (Int × Int) := (List.range n).flatMap fun k => (ls.getD k []).map fun x => (x, (k : Int))
def hdV (hs : List (Int × Int)) : List (Key × V) := hs.map fun p => ((Sum.inl p.1 : Key), V.int p.2)
theorem hdV_none {hs : List (Int × Int)} {x : Int} (h : ¬ x ∈ hs.map (·.1)) : valV (hdV hs) (Sum.inl x) = none := by
  induction hs with
  | nil => rfl
  | cons a r ih =>
    show valV ((Sum.inl a.1, V.int a.2) :: hdV r) (Sum.inl x) = none
    rw [valV_neg (fun z => h (by rw [← Sum.inl.inj z]; exact List.mem_cons_self)), ih fun z => h (List.mem_cons_of_mem _ z)]
theorem hdV_some : ∀ {hs : List (Int × Int)} {x k : Int}, (hs.map (·.1)).Nodup → (x, k) ∈ hs → valV (hdV hs) (Sum.inl x) = some (V.int k)
  | [], _, _, _, h => nomatch h
  | a :: r, x, k, hn, h => by
    have hn' := List.nodup_cons.mp hn
    show valV ((Sum.inl a.1, V.int a.2) :: hdV r) (Sum.inl x) = _
    rcases List.mem_cons.mp h with y | y
    · rw [← y]; exact valV_pos rfl
    · have hne : a.1 ≠ x := fun z => hn'.1 (show a.1 ∈ r.map (·.1) by rw [z]; exact List.mem_map.mpr ⟨(x, k), y, rfl⟩)
      rw [valV_neg (fun z => hne (Sum.inl.inj z))]
      exact hdV_some hn'.2 y
theorem hdV_put {hs : List (Int × Int)} {x k : Int} (h : ¬ x ∈ hs.map (·.1)) : putK (hdV hs) (Sum.inl x) (V.int k) = hdV (hs ++ [(x, k)]) := by
  rw [putK_new _ (hdV_none h)]
  unfold hdV
  rw [List.map_append]; rfl
theorem hdL_succ (ls : List (List Int)) (n : Nat) : hdL ls (n + 1) = hdL ls n ++ (ls.getD n []).map fun x => (x, (n : Int)) := by
  unfold hdL
  rw [List.range_succ, List.flatMap_append]; simp
theorem hdL_keys (ls : List (List Int)) : ∀ n, n ≤ ls.length → (hdL ls n).map (·.1) = (ls.take n).flatten
  | 0, _ => rfl
  | n + 1, h => by
    have g : ls[n]? = some (ls.getD n []) := by rw [List.getD_eq_getElem?_getD, List.getElem?_eq_getElem (by omega)]; rfl
    rw [hdL_succ, List.map_append, hdL_keys ls n (by omega), take_snoc g, List.flatten_append, List.map_map]
    congr 1
    rw [show ([ls.getD n []] : List (List Int)).flatten = ls.getD n [] by simp]
    exact List.map_id _
theorem mem_hdL {ls : List (List Int)} {n : Nat} {x k : Int} : (x, k) ∈ hdL ls n ↔ ∃ i, i < n ∧ k = (i : Int) ∧ x ∈ ls.getD i [] := by
  unfold hdL
  rw [List.mem_flatMap]
  constructor
  · rintro ⟨i, hi, h⟩
    obtain ⟨y, hy, e⟩ := List.mem_map.mp h
    injection e with e1 e2
    exact ⟨i, List.mem_range.mp hi, e2.symm, e1 ▸ hy⟩
  · rintro ⟨i, hi, rfl, hx⟩
    exact ⟨i, List.mem_range.mpr hi, List.mem_map.mpr ⟨x, hx, rfl⟩⟩
theorem nd_key {hs : List (Int × Int)} (hn : (hs.map (·.1)).Nodup) {x k k' : Int} (h : (x, k) ∈ hs) (h' : (x, k') ∈ hs) : k = k' := by
  have a := hdV_some hn h
  have b := hdV_some hn h'
  rw [a] at b
  injection b with b
  injection b
theorem crs_iff {ls : List (List Int)} (hn : ls.flatten.Nodup) {e : Int × Int} {k0 k1 : Int} (h0 : (e.1, k0) ∈ hdL ls ls.length) (h1 : (e.2, k1) ∈ hdL ls ls.length) : crsL ls e = !decide (k0 = k1) := by
  have hk : ((hdL ls ls.length).map (·.1)).Nodup := by rw [hdL_keys ls _ (Nat.le_refl _), List.take_length]; exact hn
  have hin : ∀ l ∈ ls, ∃ k : Int, ∀ x ∈ l, (x, k) ∈ hdL ls ls.length := fun l hl => by
    obtain ⟨i, hi, e⟩ := List.mem_iff_getElem.mp hl
    exact ⟨(i : Int), fun x hx => mem_hdL.mpr ⟨i, hi, rfl, by rw [List.getD_eq_getElem?_getD, List.getElem?_eq_getElem hi, e]; exact hx⟩⟩
  unfold crsL
  by_cases c : k0 = k1
  · rw [decide_eq_true c, Bool.not_true, Bool.eq_false_iff]
    intro z
    obtain ⟨l, hl, hb⟩ := List.any_eq_true.mp z
    rw [Bool.and_eq_true, Bool.not_eq_true'] at hb
    obtain ⟨k, hkl⟩ := hin l hl
    have e0 := nd_key hk h0 (hkl _ (memI_iff.mp hb.1))
    obtain ⟨i, hi, ei, hx⟩ := mem_hdL.mp h1
    obtain ⟨i2, hi2, e2⟩ := List.mem_iff_getElem.mp hl
    have : (e.1, (i2 : Int)) ∈ hdL ls ls.length := mem_hdL.mpr ⟨i2, hi2, rfl, by rw [List.getD_eq_getElem?_getD, List.getElem?_eq_getElem hi2, e2]; exact memI_iff.mp hb.1⟩
    have e3 := nd_key hk h0 this
    have : i2 = i := by omega
    subst this
    rw [List.getD_eq_getElem?_getD, List.getElem?_eq_getElem hi2, e2] at hx
    have hx2 := memI_iff.mpr (show e.2 ∈ l from hx)
    rw [hx2] at hb
    exact nomatch hb.2
  · rw [decide_eq_false c, Bool.not_false, List.any_eq_true]
    obtain ⟨i, hi, ei, hx⟩ := mem_hdL.mp h0
    have hm : ls.getD i [] ∈ ls := by rw [List.getD_eq_getElem?_getD, List.getElem?_eq_getElem hi]; exact List.getElem_mem hi
    refine ⟨_, hm, ?_⟩
    rw [Bool.and_eq_true, Bool.not_eq_true']
    refine ⟨memI_iff.mpr hx, ?_⟩
    rw [Bool.eq_false_iff]
    intro z
    have : (e.2, (i : Int)) ∈ hdL ls ls.length := mem_hdL.mpr ⟨i, hi, rfl, memI_iff.mp z⟩
    exact c (by rw [ei]; exact (nd_key hk h1 this).symm)
theorem cnt_rts {m : Int} {es : List (Int × Int)} {f g : Int → Int} (F : Lab m es f) (G : Nam m es g) {p : Nat} (hp : (p : Int) < m) : (∀ q : Nat, q < p → g q ≠ g p) ↔ f p = p := by
  have l := F.low p (by omega) hp
  constructor
  · intro h
    refine Classical.byContradiction fun c => ?_
    have := h (f p).toNat (by omega)
    rw [show (((f p).toNat : Nat) : Int) = f p by omega] at this
    exact this ((G.iff l.1 (by omega) (by omega) hp).mpr (F.conn p (by omega) hp).symm)
  · intro h q hq e
    have c := (G.iff (by omega) (by omega) (by omega) hp).mp e
    have e2 := lab_cn F.same c
    have l2 := F.low q (by omega) (by omega)
    omega
theorem first_ix (nm : List Int) : ∀ i : Nat, ∃ j, j ≤ i ∧ nm.getD j 0 = nm.getD i 0 ∧ ∀ a, a < j → nm.getD a 0 ≠ nm.getD i 0 := fun i => by
  have H : ∀ n, (∀ a, a < n → nm.getD a 0 ≠ nm.getD i 0) ∨ ∃ j, j < n ∧ nm.getD j 0 = nm.getD i 0 ∧ ∀ a, a < j → nm.getD a 0 ≠ nm.getD i 0 := by
    intro n
    induction n with
    | zero => exact .inl fun a ha => absurd ha (Nat.not_lt_zero _)
    | succ n ih =>
      rcases ih with h | ⟨j, h1, h2, h3⟩
      · by_cases c : nm.getD n 0 = nm.getD i 0
        · exact .inr ⟨n, Nat.lt_succ_self _, c, h⟩
        · refine .inl fun a ha => ?_
          by_cases d : a = n
          · rw [d]; exact c
          · exact h a (by omega)
      · exact .inr ⟨j, by omega, h2, h3⟩
  rcases H (i + 1) with h | ⟨j, h1, h2, h3⟩
  · exact absurd rfl (h i (Nat.lt_succ_self _))
  · exact ⟨j, by omega, h2, h3⟩
def spLp (K : PySem.W.Frag) : Sp := fun vs H Q _ => ∃ (l : Addr) (m : Int) (xs : List V) (es : List (Int × Int)), vs = [.int m, .ref l] ∧ SqL K H l xs ∧ Pairs K H xs es ∧ 1 ≤ m ∧ m ≤ 20 ∧ es.length ≤ 40 ∧ EndsIn es m ∧
  ∀ f H', Lab m es f → Same H H' → Q (.int ((rts m.toNat f).length : Nat)) H'
theorem scLp : FnScope ["many", "ends", "names"] ["many", "ends"] (defScope sLp) := ⟨rfl, rfl, rfl, by decide +kernel, rfl, by decide +kernel, by decide +kernel⟩
set_option maxHeartbeats 8000000 in
theorem ok_Lp {f : Addr} {fd : FuncData} (F : Fun K "_law_pieces" "_law_pieces" sLp f fd) (T : Txt K mg c) (D_Nm : Def P w K mg base 1 "_law_names" ["many", "ends", "some"] (spNm K)) : FnOk P w K mg base CX0 2 f fd ["many", "ends"] (spLp K) := by
  refine F.ok scLp (fun vs H Q E h => ?_) (fun cdv A outer s H vs Q E hr h => ?_)
  · obtain ⟨l, m, xs, es, rfl, _⟩ := h
    rfl
  · obtain ⟨l, m, xs, es, rfl, hl, hx, m1, m2, hz, hE, k⟩ := h
    refine ⟨_, pss_cons (ps_set (i := 2) scLp.nd rfl (Or.inr rfl) (pe_defR D_Nm hr (pa_cons (pv 0) (pa_cons (pv 1) (pa_cons (pe_listrange1 rfl rfl T.list rfl T.range (pa_cons (pe_callB (cLen (K := K) rfl) (by rfl) T.len PySem.boot_len (pa_cons (pv 1) pa_nil)) pa_nil)) pa_nil)))))
      (pss_one (ps_ret (pe_callB (cLen (K := K) rfl) (by rfl) T.len PySem.boot_len (pa_cons (pe_lc (N' := ["place", "names"]) (nl := 1) (js := [2]) rfl (.of (osc := defScope sLp) (N := ["many", "ends", "names"]) (by decide +kernel) rfl rfl) (pi_range1 rfl T.range (pa_cons (pv 0) pa_nil))
        (fun _ _ _ _ => pg_name (i := 0) (show (["place", "names"] : List Str).Nodup by decide +kernel) rfl (Or.inl rfl)) (fun _ _ _ _ => pif_one (pt_cmpR op_eq (pe_bmK (K := K) rfl (pe_bm PySem.F.plainAttrs_list PySem.F.slot_list_index PySem.F.type_list_index (mIndex (K := K) rfl) (pv 1) (pa_cons (pe_ix (ixL (K := K) rfl) (pv 1) (pv 0) (fun _ _ => rfl)) pa_nil))) (pv 0) (nomark _)))
        (fun _ _ _ _ => pv 0)) pa_nil)))), ?_⟩
    have hxl := hx.len
    refine ⟨_, rfl, _, rfl, _, rfl, l, xs, rfl, .inl hl, (xs.length : Int), rfl, by omega, by omega, fun le nle => ?_⟩
    rw [show ((xs.length : Int)).toNat = es.length from hxl, upto0]
    have s3 := Same.new (o := .lst ((upto es.length).map V.int)) nle
    have e3 : (upd H le (.lst ((upto es.length).map V.int))) le = some (.lst ((upto es.length).map V.int)) := upd_same
    generalize upd H le (.lst ((upto es.length).map V.int)) = H3 at s3 e3
    refine ⟨l, le, m, xs, es, upto es.length, rfl, s3.seq hl, hx.same s3, SqL.of e3, fun t ht => mem_upto.mp ht, m1, m2, hE, fun ln nm H4 nln s4 e4 hnl hN => ?_⟩
    rw [sub_upto es _ (Nat.le_refl _), List.take_length] at hN
    have s04 := s3.trans s4
    obtain ⟨f0, F0⟩ := lab_of hE
    have hmm : m.toNat ≤ 20 := by omega
    have fl : ∀ i, ((List.range i).filter fun (p : Nat) => decide (f0 (p : Int) = (p : Int))).length ≤ i := fun i => Nat.le_trans (List.length_filter_le _ _) (by rw [List.length_range]; exact Nat.le_refl _)
    refine ⟨_, rfl, m, rfl, by omega, by omega, ?_⟩
    refine lc_by itok_range (fun i zs H5 => H5 = H4 ∧ zs.length = ((List.range i).filter fun (p : Nat) => decide (f0 (p : Int) = (p : Int))).length) (Nat.le_of_lt (small1000 (by omega))) ⟨rfl, rfl⟩ ?_ ?_ ?_
    · rintro i zs H5 hi ⟨rfl, hzl⟩
      exact ⟨trivial, by rw [hzl]; exact fl i⟩
    · rintro i zs H5 hi ⟨rfl, hzl⟩
      have hi' : i < m.toNat := hi
      have hf := fl i
      have atn : atI (nm.map V.int) (0 + (i : Nat) : Int) = some (.int (nm.getD i 0)) := by
        have := at_int (ns := nm) (k := (0 + (i : Nat) : Int)) (by omega) (by omega)
        rwa [show (0 + (i : Nat) : Int).toNat = i by omega] at this
      obtain ⟨j, hj1, hj2, hj3⟩ := first_ix nm i
      have hcr := cnt_rts F0 hN (p := i) (by omega)
      have hlf : ∀ q : Nat, lf nm (q : Int) = nm.getD q 0 := fun q => by unfold lf; rw [Int.toNat_natCast]
      have hji : decide (V.int (j : Nat) = V.int (0 + (i : Nat))) = decide (f0 (i : Int) = (i : Int)) := by
        rw [Bool.eq_iff_iff, decide_eq_true_iff, decide_eq_true_iff, ← hcr]
        constructor
        · intro z q hq e
          injection z with z
          rw [hlf, hlf] at e
          exact hj3 q (by omega) e
        · intro h
          by_cases c : j = i
          · rw [c, Int.zero_add]
          · exact absurd (by rw [hlf, hlf]; exact hj2) (h j (by omega))
      refine ⟨wk_set rfl, _, rfl, .inl ⟨rfl, _, SqL.of e4⟩, _, rfl, _, rfl, ln, _, _, _, rfl, rfl, SqL.of e4, atn, ln, nm, _, j, rfl, rfl, SqL.of e4, by omega, by omega, hj2, hj3, _, rfl, rfl, _, rfl, ?_⟩
      rw [hji, List.range_succ, List.filter_append, List.length_append]
      refine ite2 (fun c1 => ?_) (fun c1 => ?_)
      · refine ⟨_, rfl, small1000 (by omega), _, by omega, rfl, by omega, rfl, ?_⟩
        rw [List.filter_cons_of_pos (p := fun (p : Nat) => decide (f0 (p : Int) = (p : Int))) c1, List.length_append, hzl]; rfl
      · refine ⟨_, by omega, rfl, by omega, rfl, ?_⟩
        rw [List.filter_cons_of_neg (p := fun (p : Nat) => decide (f0 (p : Int) = (p : Int))) c1]; exact hzl
    rintro zs H5 ⟨rfl, hzl⟩ lz nlz
    have hzr : zs.length = (rts m.toNat f0).length := by rw [hzl]; unfold rts; rw [List.length_map]
    refine ⟨lz, _, rfl, .inl (SqL.of upd_same), ?_⟩
    rw [hzr]
    exact k f0 _ F0 (s04.next nlz)
def spFs (K : PySem.W.Frag) : Sp := fun vs H Q _ => ∃ (l p q : Addr) (m : Int) (xs : List V) (es : List (Int × Int)) (S0 S1 : List Int), vs = [.int m, .ref l, .ref p, .ref q] ∧ SqL K H l xs ∧ Pairs K H xs es ∧ H p = some (.lst (S0.map V.int)) ∧ H q = some (.lst (S1.map V.int)) ∧ 1 ≤ m ∧ m ≤ 20 ∧ es.length ≤ 40 ∧ EndsIn es m ∧ Spn es S0 ∧ Spn es S1 ∧ (∀ t ∈ S0, ¬ t ∈ S1) ∧ ∀ H', Same H H' → Q (.bl true) H'
theorem scFs : FnScope ["many", "ends", "one", "two", "some"] ["many", "ends", "one", "two"] (defScope sFs) := ⟨rfl, rfl, rfl, by decide +kernel, rfl, by decide +kernel, by decide +kernel⟩
set_option maxHeartbeats 8000000 in
theorem ok_Fs {f : Addr} {fd : FuncData} (F : Fun K "_law_forests" "_law_forests" sFs f fd) (T : Txt K mg c) (D_H : Def P w K mg base 1 "_law_whole" ["found"] (spH K)) (D_Lp : Def P w K mg base 2 "_law_pieces" ["many", "ends"] (spLp K)) (D_Fo : Def P w K mg base 1 "_law_forest" ["many", "ends", "order"] (spFo K)) : FnOk P w K mg base CX0 3 f fd ["many", "ends", "one", "two"] (spFs K) := by
  refine F.ok scFs (fun vs H Q E h => ?_) (fun cdv A outer s H vs Q E hr h => ?_)
  · obtain ⟨l, p, q, m, xs, es, S0, S1, rfl, _⟩ := h
    rfl
  · obtain ⟨l, p, q, m, xs, es, S0, S1, rfl, hl, hx, hp, hq, m1, m2, hz, hE, h0, h1, hd, k⟩ := h
    have hu : A.units + 3 + 64 < cLine := hr.units
    refine ⟨_, pss_cons (ps_for PassesOwn.never rfl (piSeqB (K := K) rfl (pe_lst (pa_cons (pv 2) (pa_cons (pv 3) pa_nil)))) (pg_name (i := 4) scFs.nd rfl (Or.inl rfl))
        (pss_cons (ps_if (PW.pt (pw_or (pt_not (pt_val (pe_callB (cIs (K := K) rfl) (by rfl) T.isinstance PyProof.Rows.boot_isinstance (pa_cons (pv 4) (pa_cons (pe_bltn (v := .ty "list") (by rfl) T.list PyProof.Rows.boot_list rfl) pa_nil))))) (pw_or (pt_not (pt_val (pe_callB (cAll (K := K) rfl rfl) (by rfl) T.all PyProof.Rows.boot_all (pa_cons (pe_lc (N' := ["tie"]) (nl := 1) (js := []) rfl (.of (osc := defScope sFs) (N := ["many", "ends", "one", "two", "some"]) (by decide +kernel) rfl rfl) (piSeq (K := K) rfl (pv 4))
        (fun _ _ _ _ => pg_name (i := 0) (show (["tie"] : List Str).Nodup by decide +kernel) rfl (Or.inl rfl)) (fun _ _ _ _ => pif_nil)
        (fun _ _ _ _ => pe_defR D_H hr (pa_cons (pv 0) pa_nil))) pa_nil)))) (pw_or1 (pt_cmpR (opNeD (K := K) rfl hu) (pv 4) (pe_callB (cSorted (K := K) rfl) (by rfl) T.sorted PyProof.Rows.boot_sorted (pa_cons (pv 4) pa_nil)) (nomark _))))))
        (pss_one (ps_ret (pe_bl))) (pss_nil))
      (pss_cons (ps_if (pt_cmpR op_gt (pe_callB (cLen (K := K) rfl) (by rfl) T.len PySem.boot_len (pa_cons (pe_lc (N' := ["tie", "ends"]) (nl := 1) (js := [1]) rfl (.of (osc := defScope sFs) (N := ["many", "ends", "one", "two", "some"]) (by decide +kernel) rfl rfl) (piSeq (K := K) rfl (pv 4))
        (fun _ _ _ _ => pg_name (i := 0) (show (["tie", "ends"] : List Str).Nodup by decide +kernel) rfl (Or.inl rfl)) (fun _ _ _ _ => pif_one (PW.pt (pw_or (pt_cmpR op_lt (pv 0) (pe_int) (nomark _)) (pw_or1 (pt_cmpR op_ge (pv 0) (pe_callB (cLen (K := K) rfl) (by rfl) T.len PySem.boot_len (pa_cons (pv 1) pa_nil)) (nomark _))))))
        (fun _ _ _ _ => pv 0)) pa_nil)) (pe_int) (nomark _))
        (pss_one (ps_ret (pe_bl))) (pss_nil))
      (pss_one (ps_if (PW.pt (pw_or (pt_cmpR op_ne (pe_callB (cLen (K := K) rfl) (by rfl) T.len PySem.boot_len (pa_cons (pv 4) pa_nil)) (pe_op op_sub (pv 0) (pe_defR D_Lp hr (pa_cons (pv 0) (pa_cons (pv 1) pa_nil)))) (nomark _)) (pw_or1 (pt_cmpR (opNeD (K := K) rfl hu) (pe_defR D_Fo hr (pa_cons (pv 0) (pa_cons (pv 1) (pa_cons (pv 4) pa_nil)))) (pv 4) (nomark _)))))
        (pss_one (ps_ret (pe_bl))) (pss_nil))))))
      (pss_one (ps_ret (pe_cmpR op_eq (pe_callB (cLen (K := K) rfl) (by rfl) T.len PySem.boot_len (pa_cons (pe_lc (N' := ["tie", "two"]) (nl := 1) (js := [3]) rfl (.of (osc := defScope sFs) (N := ["many", "ends", "one", "two", "some"]) (by decide +kernel) rfl rfl) (piSeq (K := K) rfl (pv 2))
        (fun _ _ _ _ => pg_name (i := 0) (show (["tie", "two"] : List Str).Nodup by decide +kernel) rfl (Or.inl rfl)) (fun _ _ _ _ => pif_one (pt_cmpR (opIn (K := K) rfl) (pv 0) (pv 1) (by with_unfolding_all rfl)))
        (fun _ _ _ _ => pv 0)) pa_nil)) (pe_int) (nomark _)))), ?_⟩
    have hxl := hx.len
    have hsm : ∀ S, Spn es S → S.length ≤ 40 := fun S h => by
      have a1 := h.all
      have a2 : (frst es).length ≤ es.length := frN_len es es.length
      omega
    have hsr : ∀ S, Spn es S → S.Pairwise (· ≤ ·) := fun S h => h.ok.up.imp fun h => by omega
    have hgs : ∀ S cs, Spn es S → cs.Perm (gF es S S.length) → cs.Pairwise (· ≤ ·) → cs = S := fun S cs h hp hc => by
      have h1 : gF es S S.length = S := (gF_sub es S).eq_of_length (by rw [gF_len]; exact h.acy)
      rw [h1] at hp
      exact sorted_uniq hp hc (hsr S h)
    refine ⟨_, rfl, _, rfl, (by show 2 ≤ sizeLine; decide), fun lt nlt => ?_⟩
    have s1 := Same.new (o := .lst [V.ref p, V.ref q]) nlt
    have t1 : (upd H lt (.lst [V.ref p, V.ref q])) lt = some (.lst [V.ref p, V.ref q]) := upd_same
    generalize upd H lt (.lst [V.ref p, V.ref q]) = H1 at s1 t1
    refine ⟨false, lt, _, rfl, SqL.of t1, fun J C O hC => for_by O (fun i σ H2 => ∃ (v4 : Option V), σ = [some (.int m), some (.ref l), some (.ref p), some (.ref q), v4] ∧ Same H1 H2) ⟨none, rfl, Same.refl _⟩ (fun i σ H2 _ h => ?_) ?_ ?_⟩
    · obtain ⟨v4, _, s2⟩ := h
      exact hC _ (SqL.of (s2 _ _ t1))
    · rintro i σ H2 hi ⟨v4, rfl, s12⟩
      obtain ⟨r, S, er, hrH, hS⟩ : ∃ r S, ([V.ref p, V.ref q] : List V).getD i .non = .ref r ∧ H r = some (.lst (S.map V.int)) ∧ Spn es S := by
        have hi' : i < 2 := hi
        match i, hi' with
        | 0, _ => exact ⟨p, S0, rfl, hp, h0⟩
        | 1, _ => exact ⟨q, S1, rfl, hq, h1⟩
      have hSl := hsm S hS
      have hmS : (S.map V.int).length = S.length := List.length_map ..
      have s2 := s1.trans s12
      have hr2 := s2 _ _ hrH
      try dsimp only
      rw [er]
      refine ⟨_, rfl, _, _, _, _, true, rfl, rfl, fun _ z => z, .of (.lst hr2), kListB, _, rfl, iteF ?_⟩
      refine ⟨_, rfl, r, _, rfl, .inl (SqL.of hr2), fun J C O hC => lc_by O (fun i zs H3 => H3 = H2 ∧ zs = List.replicate i (V.bl true)) (Nat.le_of_lt (small1000 (by omega))) ⟨rfl, rfl⟩ ?_ ?_ ?_⟩
      · rintro i zs H3 hi ⟨rfl, rfl⟩
        exact ⟨hC _ (Same.refl _), by rw [List.length_replicate]; exact Nat.le_refl _⟩
      · rintro i zs H3 hi ⟨rfl, rfl⟩
        obtain ⟨v, ev, gv⟩ := getD_map_int hi
        try dsimp only
        rw [ev]
        refine ⟨wk_set rfl, iteT ⟨_, rfl, v, rfl, small1000 (by rw [List.length_replicate]; omega), _, by omega, rfl, by omega, rfl, ?_⟩⟩
        rw [List.replicate_succ']
      rintro zs H3 ⟨rfl, rfl⟩ lz nlz
      have s3 := s2.next (o := .lst (List.replicate (S.map V.int).length (V.bl true))) nlz
      have s13 := s12.next (o := .lst (List.replicate (S.map V.int).length (V.bl true))) nlz
      have z3 : (upd H3 lz (.lst (List.replicate (S.map V.int).length (V.bl true)))) lz = some (.lst (List.replicate (S.map V.int).length (V.bl true))) := upd_same
      generalize upd H3 lz (.lst (List.replicate (S.map V.int).length (V.bl true))) = H4 at s3 s13 z3
      obtain ⟨ab1, ab2⟩ := all_bl (S.map V.int).length
      refine ⟨lz, _, rfl, .inl (SqL.of z3), ab1, _, rfl, ?_⟩
      rw [ab2]
      clear s2 s12 hr2
      refine iteF ⟨_, rfl, _, rfl, r, S, rfl, SqL.of (s3 _ _ hrH), by omega, fun l1 ns' nl1 hpm hs => ?_⟩
      have s5 := s3.next (o := .lst (ns'.map V.int)) nl1
      have s15 := s13.next (o := .lst (ns'.map V.int)) nl1
      have z5 : (upd H4 l1 (.lst (ns'.map V.int))) l1 = some (.lst (ns'.map V.int)) := upd_same
      generalize upd H4 l1 (.lst (ns'.map V.int)) = H5 at s5 s15 z5
      have hr5 := s5 _ _ hrH
      refine ⟨dI S, dI ns', dat_ints (SqL.of hr5), dat_ints (SqL.of z5), shaped_dI _, shaped_dI _, _, rfl, ?_⟩
      rw [eqv_dI, sorted_self hpm hs, decide_eq_true (hsr S hS)]
      refine iteF ⟨_, rfl, r, _, rfl, .inl (SqL.of hr5), fun J C O hC => lc_by O (fun i zs H3 => H3 = H5 ∧ zs = []) (Nat.le_of_lt (small1000 (by omega))) ⟨rfl, rfl⟩ ?_ ?_ ?_⟩
      · rintro i zs H3 hi ⟨rfl, rfl⟩
        exact ⟨hC _ (Same.refl _), Nat.zero_le _⟩
      · rintro i zs H3 hi ⟨rfl, rfl⟩
        obtain ⟨v, ev, gv⟩ := getD_map_int hi
        have hv := hS.ok.rng v (List.mem_of_getElem? gv)
        try dsimp only
        rw [ev]
        refine ⟨wk_set rfl, _, rfl, _, _, rfl, rfl, _, rfl, ?_⟩
        rw [decide_eq_false (show ¬ v < 0 by omega)]
        refine iteF ⟨_, rfl, _, rfl, l, _, rfl, .inl (s5.seq hl), _, _, rfl, rfl, _, rfl, ?_⟩
        rw [decide_eq_false (show ¬ (xs.length : Int) ≤ v by omega)]
        exact iteF ⟨_, by omega, rfl, by omega, rfl, rfl⟩
      rintro zs H3 ⟨rfl, rfl⟩ ly nly
      have s6 := s5.next (o := .lst []) nly
      have s16 := s15.next (o := .lst []) nly
      have z6 : (upd H3 ly (.lst [])) ly = some (.lst []) := upd_same
      generalize upd H3 ly (.lst []) = H6 at s6 s16 z6
      refine ⟨ly, _, rfl, .inl (SqL.of z6), _, _, rfl, rfl, _, rfl, ?_⟩
      refine iteF ⟨_, rfl, r, _, rfl, .inl (SqL.of (s6 _ _ hrH)), _, rfl, _, rfl, _, rfl, l, m, xs, es, rfl, s6.seq hl, hx.same s6, m1, m2, hz, hE, fun f0 H7 F0 s67 => ?_⟩
      have s7 := s6.trans s67
      have s17 := s16.trans s67
      refine ⟨_, _, rfl, rfl, rfl, _, rfl, ?_⟩
      have hrk := rank hE F0
      have hal := hS.all
      rw [decide_eq_true (show V.int (((S.map V.int).length : Nat) : Int) = V.int (m - ((rts m.toNat f0).length : Nat)) by rw [hmS]; congr 1; omega)]
      refine iteF ⟨_, rfl, _, rfl, _, rfl, l, r, m, xs, es, S, rfl, s7.seq hl, hx.same s7, SqL.of (s7 _ _ hrH), by omega, hS.ok.rng, m1, m2, hz, hE, fun l2 cs H8 nl2 s78 e8 hperm hsort => ?_⟩
      have s8 := s7.trans s78
      have s18 := s17.trans s78
      refine ⟨_, rfl, dI cs, dI S, dat_ints (SqL.of e8), dat_ints (SqL.of (s8 _ _ hrH)), shaped_dI _, shaped_dI _, _, rfl, ?_⟩
      rw [eqv_dI, decide_eq_true (hgs S cs hS hperm hsort)]
      exact iteF ⟨_, rfl, s18⟩
    · rintro σ H2 ⟨v4, rfl, s12⟩
      have s2 := s1.trans s12
      have hm0 : (S0.map V.int).length = S0.length := List.length_map ..
      have hl0 := hsm S0 h0
      have hl1 := hsm S1 h1
      refine ⟨_, rfl, p, _, rfl, .inl (SqL.of (s2 _ _ hp)), fun J C O hC => lc_by O (fun i zs H3 => H3 = H2 ∧ zs = []) (Nat.le_of_lt (small1000 (by omega))) ⟨rfl, rfl⟩ ?_ ?_ ?_⟩
      · rintro i zs H3 hi ⟨rfl, rfl⟩
        exact ⟨hC _ (Same.refl _), Nat.zero_le _⟩
      · rintro i zs H3 hi ⟨rfl, rfl⟩
        obtain ⟨v, ev, gv⟩ := getD_map_int hi
        have hv := hd v (List.mem_of_getElem? gv)
        try dsimp only
        rw [ev]
        refine ⟨wk_set rfl, _, rfl, _, rfl, ?_⟩
        have hin : inV (.int v) (S1.map V.int) = false := by
          rw [inV_ints, Bool.eq_false_iff]
          intro z
          obtain ⟨y, hy, e⟩ := List.any_eq_true.mp z
          exact hv ((beq_iff_eq.mp e) ▸ hy)
        refine ⟨q, _, rfl, .inl (SqL.of (s2 _ _ hq)), rfl, flat_ints _, _, rfl, ?_⟩
        rw [hin]
        exact iteF ⟨_, by omega, rfl, by omega, rfl, rfl⟩
      rintro zs H3 ⟨rfl, rfl⟩ ly nly
      refine ⟨ly, _, rfl, .inl (SqL.of upd_same), rfl, ?_⟩
      exact k _ (s2.next nly)
theorem and_mrg {ch : Bool} {tb : TT} {σ : L2.St} {H : Hp} {R : Bool → Hp → Prop} (hb : ch = true → ∀ R' : Bool → Hp → Prop, R' false H → tb σ H R') (h : R false H) : if ch = true then tb σ H R else R false H := by
  cases ch
  · exact h
  · exact hb rfl R h
theorem IsPt.len1 {m : Nat} {ls : List (List Int)} (h : IsPt m ls) : ls.flatten.length = m := by rw [h.2.1.length_eq, upto_len]
theorem len_flat : ∀ {ls : List (List Int)}, (∀ l ∈ ls, l ≠ []) → ls.length ≤ ls.flatten.length
  | [], _ => Nat.le_refl _
  | a :: r, h => by
    have ih := len_flat (ls := r) fun l hl => h l (List.mem_cons_of_mem _ hl)
    have := h a List.mem_cons_self
    rw [List.flatten_cons, List.length_append, List.length_cons]
    match a, this with
    | [], h => exact absurd rfl h
    | x :: y, _ => rw [List.length_cons]; omega
def spPa (K : PySem.W.Frag) : Sp := fun vs H Q _ => ∃ (l p : Addr) (m : Int) (xs ys : List V) (es : List (Int × Int)) (ls : List (List Int)), vs = [.int m, .ref l, .ref p] ∧ SqL K H l xs ∧ Pairs K H xs es ∧ H p = some (.lst ys) ∧ LlS H ys ls ∧ 1 ≤ m ∧ m ≤ 20 ∧ es.length ≤ 40 ∧ EndsIn es m ∧ IsPt m.toNat ls ∧
  ∀ f H', Lab m es f → Same H H' → Q (.bl (decide (((es.filter (crsL ls)).length : Int) < 2 * ((ls.length : Int) - (rts m.toNat f).length)))) H'
theorem scPa : FnScope ["many", "ends", "lists", "held", "k", "place", "over"] ["many", "ends", "lists"] (defScope sPa) := ⟨rfl, rfl, rfl, by decide +kernel, rfl, by decide +kernel, by decide +kernel⟩
set_option maxHeartbeats 8000000 in
theorem ok_Pa {f : Addr} {fd : FuncData} (F : Fun K "_law_parts" "_law_parts" sPa f fd) (T : Txt K mg c) (D_H : Def P w K mg base 1 "_law_whole" ["found"] (spH K)) (D_Lp : Def P w K mg base 2 "_law_pieces" ["many", "ends"] (spLp K)) : FnOk P w K mg base CX0 3 f fd ["many", "ends", "lists"] (spPa K) := by
  refine F.ok scPa (fun vs H Q E h => ?_) (fun cdv A outer s H vs Q E hr h => ?_)
  · obtain ⟨l, p, m, xs, ys, es, ls, rfl, _⟩ := h
    rfl
  · obtain ⟨l, p, m, xs, ys, es, ls, rfl, hl, hx, hp, hy, m1, m2, hz, hE, hpt, k⟩ := h
    have hu : A.units + 3 + 64 < cLine := hr.units
    refine ⟨_, pss_cons (ps_if (PW.pt (pw_or (pt_not (pt_val (pe_callB (cIs (K := K) rfl) (by rfl) T.isinstance PyProof.Rows.boot_isinstance (pa_cons (pv 2) (pa_cons (pe_bltn (v := .ty "list") (by rfl) T.list PyProof.Rows.boot_list rfl) pa_nil))))) (pw_or1 (pt_not (pt_val (pe_callB (cAll (K := K) rfl rfl) (by rfl) T.all PyProof.Rows.boot_all (pa_cons (pe_lc (N' := ["some"]) (nl := 1) (js := []) rfl (.of (osc := defScope sPa) (N := ["many", "ends", "lists", "held", "k", "place", "over"]) (by decide +kernel) rfl rfl) (piSeq (K := K) rfl (pv 2))
        (fun _ _ _ _ => pg_name (i := 0) (show (["some"] : List Str).Nodup by decide +kernel) rfl (Or.inl rfl)) (fun _ _ _ _ => pif_nil)
        (fun _ _ _ _ => pe_and (pe_callB (cIs (K := K) rfl) (by rfl) T.isinstance PyProof.Rows.boot_isinstance (pa_cons (pv 0) (pa_cons (pe_bltn (v := .ty "list") (by rfl) T.list PyProof.Rows.boot_list rfl) pa_nil))) (pe_one (pe_cmpR (opNeD (K := K) rfl hu) (pv 0) (pe_lst pa_nil) (nomark _))))) pa_nil)))))))
        (pss_one (ps_ret (pe_bl))) (pss_nil))
      (pss_cons (ps_set (i := 3) scPa.nd rfl (Or.inr rfl) (pe_dnewK))
      (pss_cons (ps_for PassesOwn.never rfl (pi_range1 rfl T.range (pa_cons (pe_callB (cLen (K := K) rfl) (by rfl) T.len PySem.boot_len (pa_cons (pv 2) pa_nil)) pa_nil)) (pg_name (i := 4) scPa.nd rfl (Or.inl rfl))
        (pss_cons (ps_if (PW.pt (pw_or (pt_cmpR (opNeD (K := K) rfl hu) (pe_ix (ixL (K := K) rfl) (pv 2) (pv 4) (fun _ _ => rfl)) (pe_callB (cSorted (K := K) rfl) (by rfl) T.sorted PyProof.Rows.boot_sorted (pa_cons (pe_ix (ixL (K := K) rfl) (pv 2) (pv 4) (fun _ _ => rfl)) pa_nil)) (nomark _)) (pw_or1 (PW.pt (pw_and (pt_cmpR op_gt (pv 4) (pe_int) (nomark _)) (pw_and1 (pt_cmpR op_lt (pe_ix (ixL (K := K) rfl) (pe_ix (ixL (K := K) rfl) (pv 2) (pv 4) (fun _ _ => rfl)) (pe_int) (fun _ _ => rfl)) (pe_ix (ixL (K := K) rfl) (pe_ix (ixL (K := K) rfl) (pv 2) (pe_op op_sub (pv 4) (pe_int)) (fun _ _ => rfl)) (pe_int) (fun _ _ => rfl)) (nomark _))))))))
        (pss_one (ps_ret (pe_bl))) (pss_nil))
      (pss_one (ps_for PassesOwn.never rfl (piSeqB (K := K) rfl (pe_ix (ixL (K := K) rfl) (pv 2) (pv 4) (fun _ _ => rfl))) (pg_name (i := 5) scPa.nd rfl (Or.inl rfl))
        (pss_cons (ps_if (PW.pt (pw_or (pt_not (pt_val (pe_defR D_H hr (pa_cons (pv 5) pa_nil)))) (pw_or1 (pt_cmp (pc_din (hu_of hr) (pv 5) (pv 3))))))
        (pss_one (ps_ret (pe_bl))) (pss_nil))
      (pss_one (ps_dput (hu_of hr) (pv 3) (pv 5) (pv 4) rfl)))))))
      (pss_cons (ps_if (pt_cmpR (opNeD (K := K) rfl hu) (pe_callB (cSortedD rfl) (by rfl) T.sorted PyProof.Rows.boot_sorted (pa_cons (pv 3) pa_nil)) (pe_listrange1 rfl rfl T.list rfl T.range (pa_cons (pv 0) pa_nil)) (nomark _))
        (pss_one (ps_ret (pe_bl))) (pss_nil))
      (pss_cons (ps_set (i := 6) scPa.nd rfl (Or.inl rfl) (pe_callB (cLen (K := K) rfl) (by rfl) T.len PySem.boot_len (pa_cons (pe_lc (N' := ["pair", "held"]) (nl := 1) (js := [3]) rfl (.of (osc := defScope sPa) (N := ["many", "ends", "lists", "held", "k", "place", "over"]) (by decide +kernel) rfl rfl) (piSeq (K := K) rfl (pv 1))
        (fun _ _ _ _ => pg_name (i := 0) (show (["pair", "held"] : List Str).Nodup by decide +kernel) rfl (Or.inl rfl)) (fun _ _ _ _ => pif_one (pt_cmpR op_ne (pe_dget (hu_of hr) (pv 1) (pe_ix (ixT (K := K) rfl) (pv 0) (pe_int) (fun _ _ => rfl)) (fun _ _ => rfl)) (pe_dget (hu_of hr) (pv 1) (pe_ix (ixT (K := K) rfl) (pv 0) (pe_int) (fun _ _ => rfl)) (fun _ _ => rfl)) (nomark _)))
        (fun _ _ _ _ => pv 0)) pa_nil)))
      (pss_one (ps_ret (pe_cmpR op_lt (pv 6) (pe_op op_mul (pe_int) (pe_op op_sub (pe_callB (cLen (K := K) rfl) (by rfl) T.len PySem.boot_len (pa_cons (pv 2) pa_nil)) (pe_defR D_Lp hr (pa_cons (pv 0) (pa_cons (pv 1) pa_nil))))) (nomark _)))))))), ?_⟩
    have hyl := hy.len
    have hxl := hx.len
    have hfl := hpt.len1
    have hll := len_flat fun l hl => (hpt.1 l hl).1
    have hpm := hpt.2.1
    have hnd : ls.flatten.Nodup := hpm.nodup_iff.mpr (upto_nd _)
    refine ⟨_, rfl, _, _, _, _, true, rfl, rfl, fun _ z => z, .of (.lst hp), kListB, _, rfl, iteF ?_⟩
    refine ⟨_, rfl, p, _, rfl, .inl (SqL.of hp), fun J C O hC => lc_by O (fun i zs H2 => Same H H2 ∧ zs = List.replicate i (V.bl true)) (Nat.le_of_lt (small1000 (by omega))) ⟨Same.refl _, rfl⟩ ?_ ?_ ?_⟩
    · rintro i zs H2 hi ⟨s2, rfl⟩
      exact ⟨hC _ s2, by rw [List.length_replicate]; exact Nat.le_refl _⟩
    · rintro i zs H2 hi ⟨s2, rfl⟩
      obtain ⟨g, ns, eg, hg, gi⟩ := hy.at hi
      have hg2 := s2 _ _ hg
      have hne := (hpt.1 ns (List.mem_of_getElem? gi)).1
      try dsimp only
      rw [eg]
      refine ⟨wk_set rfl, iteT ⟨_, rfl, _, _, _, _, true, rfl, rfl, fun _ z => z, .of (.lst hg2), kListB, true, rfl, iteT ⟨_, rfl, by decide, fun q nq => ?_⟩⟩⟩
      have s3 := Same.new (o := .lst []) nq
      refine ⟨dI ns, dI [], dat_ints (SqL.of (s3 _ _ hg2)), dat_ints (SqL.of (show (upd H2 q (.lst [])) q = some (.lst (([] : List Int).map V.int)) from upd_same)), shaped_dI _, shaped_dI _, ?_⟩
      rw [eqv_dI, decide_eq_false hne]
      refine ⟨small1000 (by rw [List.length_replicate]; omega), _, by omega, rfl, by omega, s2.trans s3, ?_⟩
      rw [List.replicate_succ']; rfl
    rintro zs H1' ⟨s1', rfl⟩ lz nlz
    have s1a := s1'.next (o := .lst (List.replicate ys.length (V.bl true))) nlz
    have z1a : (upd H1' lz (.lst (List.replicate ys.length (V.bl true)))) lz = some (.lst (List.replicate ys.length (V.bl true))) := upd_same
    generalize upd H1' lz (.lst (List.replicate ys.length (V.bl true))) = H1a at s1a z1a
    obtain ⟨ab1, ab2⟩ := all_bl ys.length
    refine ⟨lz, _, rfl, .inl (SqL.of z1a), ab1, _, rfl, ?_⟩
    rw [ab2]
    refine iteF ?_
    intro d nd'
    have nd := none_back s1a nd'
    have s1 : Same H (upd H1a d (.dK [])) := s1a.next nd'
    have d1 : (upd H1a d (.dK [])) d = some (.dK (hdV (hdL ls 0))) := upd_same
    generalize upd H1a d (.dK []) = H1 at s1 d1
    refine ⟨_, rfl, p, _, rfl, .inl (SqL.of (s1 _ _ hp)), (ys.length : Int), rfl, by omega, by omega, ?_⟩
    rw [show ((ys.length : Int)).toNat = ls.length from hyl]
    refine for_by itok_range (fun i σ H2 => ∃ (v4 v5 : Option V), σ = [some (.int m), some (.ref l), some (.ref p), some (.ref d), v4, v5, none] ∧ Same H H2 ∧ H2 d = some (.dK (hdV (hdL ls i)))) ⟨none, none, rfl, s1, d1⟩ (fun _ _ _ _ _ => trivial) ?_ ?_
    · rintro i σ H2 hi ⟨v4, v5, rfl, s2, d2⟩
      have hi' : i < ls.length := hi
      obtain ⟨g, nsz, eg, hg, gi⟩ := hy.at (show i < ys.length by omega)
      have atg : atI ys (0 + (i : Nat) : Int) = some (.ref g) := by
        rw [Int.zero_add]
        refine atI_nat ?_
        rw [List.getD_eq_getElem?_getD, List.getElem?_eq_getElem (show i < ys.length by omega)] at eg
        rw [List.getElem?_eq_getElem (show i < ys.length by omega)]
        exact congrArg some eg
      have hgD : ls.getD i [] = nsz := by rw [List.getD_eq_getElem?_getD, gi]; rfl
      have hnm : (nsz.map V.int).length = nsz.length := List.length_map ..
      have hkeys := hdL_keys ls (i + 1) (by omega)
      have hndk : ((hdL ls (i + 1)).map (·.1)).Nodup := by
        rw [hkeys]
        have hsp : ls.flatten = (ls.take (i + 1)).flatten ++ (ls.drop (i + 1)).flatten := by rw [← List.flatten_append, List.take_append_drop]
        rw [hsp] at hnd
        exact (List.nodup_append.mp hnd).1
      have hkl : (hdL ls (i + 1)).length ≤ 20 := by
        have h1 := congrArg List.length hkeys
        rw [List.length_map] at h1
        rw [h1]
        have hsp : ls.flatten = (ls.take (i + 1)).flatten ++ (ls.drop (i + 1)).flatten := by rw [← List.flatten_append, List.take_append_drop]
        rw [hsp, List.length_append] at hfl
        omega
      rw [hdL_succ, hgD] at hndk hkl
      rw [List.length_append, List.length_map] at hkl
      have hmem := List.mem_of_getElem? gi
      have hnl := flat_le hmem
      have hns := hpt.1 nsz hmem
      have hns1 : 1 ≤ nsz.length := by
        match nsz, hns.1 with
        | [], h => exact absurd rfl h
        | _ :: _, _ => exact Nat.succ_le_succ (Nat.zero_le _)
      have at0 : atI (nsz.map V.int) 0 = some (.int (nsz.getD 0 0)) := at_int (ns := nsz) (k := 0) (by omega) (by omega)
      refine ⟨_, rfl, _, rfl, p, _, _, _, rfl, rfl, SqL.of (s2 _ _ hp), atg, _, rfl, _, rfl, p, _, _, _, rfl, rfl, SqL.of (s2 _ _ hp), atg, g, nsz, rfl, SqL.of (s2 _ _ hg), by omega, fun l1 ns' nl1 hpm1 hs1 => ?_⟩
      have d2' := Same.new (o := .lst (ns'.map V.int)) nl1 _ _ d2
      have e2 : (upd H2 l1 (.lst (ns'.map V.int))) l1 = some (.lst (ns'.map V.int)) := upd_same
      have s2' := s2.next (o := .lst (ns'.map V.int)) nl1
      clear s2 d2
      generalize upd H2 l1 (.lst (ns'.map V.int)) = H2 at s2' d2' e2
      have s2 := s2'
      have d2 := d2'
      clear s2' d2'
      refine ⟨dI nsz, dI ns', dat_ints (SqL.of (s2 _ _ hg)), dat_ints (SqL.of e2), shaped_dI _, shaped_dI _, _, rfl, ?_⟩
      rw [eqv_dI, sorted_self hpm1 hs1, decide_eq_true hns.2]
      refine iteF ⟨_, rfl, _, _, rfl, rfl, _, rfl, and_mrg (fun ci R' hR => ?_) ?_⟩
      · have ci' := of_decide_eq_true ci
        obtain ⟨g', nsy, eg', hg', gi'⟩ := hy.at (show i - 1 < ys.length by omega)
        have atg' : atI ys (0 + (i : Nat) - 1 : Int) = some (.ref g') := by
          rw [show (0 + (i : Nat) - 1 : Int) = ((i - 1 : Nat) : Int) by omega]
          refine atI_nat ?_
          rw [List.getD_eq_getElem?_getD, List.getElem?_eq_getElem (show i - 1 < ys.length by omega)] at eg'
          rw [List.getElem?_eq_getElem (show i - 1 < ys.length by omega)]
          exact congrArg some eg'
        have hny := (hpt.1 nsy (List.mem_of_getElem? gi')).1
        have hny1 : 1 ≤ nsy.length := by
          match nsy, hny with
          | [], h => exact absurd rfl h
          | _ :: _, _ => exact Nat.succ_le_succ (Nat.zero_le _)
        have at0' : atI (nsy.map V.int) 0 = some (.int (nsy.getD 0 0)) := at_int (ns := nsy) (k := 0) (by omega) (by omega)
        refine ⟨_, rfl, _, rfl, p, _, _, _, rfl, rfl, SqL.of (s2 _ _ hp), atg, g, _, _, _, rfl, rfl, SqL.of (s2 _ _ hg), at0, _, rfl, _, rfl, _, _, rfl, rfl, p, _, _, _, rfl, rfl, SqL.of (s2 _ _ hp), atg', g', _, _, _, rfl, rfl, SqL.of (s2 _ _ hg'), at0', _, _, rfl, rfl, _, rfl, ?_⟩
        have hle := List.pairwise_iff_getElem.mp hpt.2.2 (i - 1) i (by rw [List.length_map]; omega) (by rw [List.length_map]; omega) (by omega)
        rw [List.getElem_map, List.getElem_map] at hle
        have q1 := (List.getElem?_eq_some_iff.mp gi).2
        have q2 := (List.getElem?_eq_some_iff.mp gi').2
        rw [q1, q2] at hle
        have hh : ∀ l : List Int, l.headD 0 = l.getD 0 0 := fun l => by cases l <;> rfl
        rw [hh, hh] at hle
        rw [decide_eq_false (show ¬ nsz.getD 0 0 < nsy.getD 0 0 by omega)]
        exact hR
      refine iteF ?_
      refine ⟨_, rfl, _, rfl, p, _, _, _, rfl, rfl, SqL.of (s2 _ _ hp), atg, false, g, _, rfl, SqL.of (s2 _ _ hg), fun J C O hC => for_by O (fun j σ H3 => ∃ (v5 : Option V), σ = [some (.int m), some (.ref l), some (.ref p), some (.ref d), some (.int (0 + (i : Nat))), v5, none] ∧ Same H H3 ∧ H3 d = some (.dK (hdV (hdL ls i ++ (nsz.take j).map fun x => (x, (i : Int)))))) ⟨_, rfl, s2, by rw [List.take_zero, List.map_nil, List.append_nil]; exact d2⟩ (fun j σ H3 _ h => ?_) ?_ ?_⟩
      · obtain ⟨v5, _, s3, _⟩ := h
        exact hC _ (SqL.of (s3 _ _ hg))
      · rintro j σ H3 hj ⟨v5, rfl, s3, d3⟩
        obtain ⟨v, ev, gv⟩ := getD_map_int hj
        rw [hnm] at hj
        try dsimp only
        rw [ev, Int.zero_add]
        have hnew : ¬ v ∈ (hdL ls i ++ (nsz.take j).map fun x => (x, (i : Int))).map (·.1) := by
          have h2 : nsz = nsz.take j ++ v :: nsz.drop (j + 1) := by
            rw [List.getElem?_eq_getElem hj] at gv
            rw [← Option.some.inj gv, ← List.drop_eq_getElem_cons hj, List.take_append_drop]
          have h3 : hdL ls i ++ nsz.map (fun x => (x, (i : Int))) = (hdL ls i ++ (nsz.take j).map fun x => (x, (i : Int))) ++ (v, (i : Int)) :: (nsz.drop (j + 1)).map fun x => (x, (i : Int)) := by
            conv => lhs; rw [h2]
            rw [List.map_append, List.append_assoc]; rfl
          rw [h3, List.map_append] at hndk
          intro z
          exact (List.nodup_append.mp hndk).2.2 v z v List.mem_cons_self rfl
        have hln : (hdV (hdL ls i ++ (nsz.take j).map fun x => (x, (i : Int)))).length ≤ 20 := by
          unfold hdV
          rw [List.length_map, List.length_append, List.length_map, List.length_take]
          omega
        have hno : (hdV (hdL ls i ++ (nsz.take j).map fun x => (x, (i : Int)))) = hdV (hdL ls i ++ (nsz.take j).map fun x => (x, (i : Int))) := rfl
        have gno : DGet H3 d (.int v) none := by
          have := DGet.k (k := Sum.inl v) d3
          rw [hdV_none hnew] at this
          exact this
        refine ⟨_, rfl, _, rfl, _, rfl, iteF ⟨_, rfl, _, rfl, d, none, rfl, gno, _, rfl, iteF ?_⟩⟩
        refine ⟨_, rfl, _, rfl, _, rfl, d, _, rfl, DPut.k (k := Sum.inl v) d3 (small1000 (by omega)), ?_⟩
        rw [hdV_put hnew]
        refine ⟨_, rfl, s3.upd nd, ?_⟩
        rw [take_snoc gv, List.map_append, ← List.append_assoc]; exact upd_same
      · rintro σ H3 ⟨v5, rfl, s3, d3⟩
        rw [hnm, List.take_length] at d3
        exact ⟨_, _, rfl, s3, by rw [hdL_succ, hgD]; exact d3⟩
    · rintro σ H2 ⟨v4, v5, rfl, s2, d2⟩
      have hkeys := hdL_keys ls ls.length (Nat.le_refl _)
      rw [List.take_length] at hkeys
      refine ⟨_, rfl, d, _, ls.flatten, rfl, d2, ?_, by omega, fun l1 ns' nl1 hpm1 hs1 => ?_⟩
      · unfold hdV
        rw [← hkeys, List.map_map, List.map_map]; rfl
      have s3 := s2.next (o := .lst (ns'.map V.int)) nl1
      have e3 : (upd H2 l1 (.lst (ns'.map V.int))) l1 = some (.lst (ns'.map V.int)) := upd_same
      have d3 := Same.new (o := .lst (ns'.map V.int)) nl1 _ _ d2
      generalize upd H2 l1 (.lst (ns'.map V.int)) = H3 at s3 e3 d3
      refine ⟨_, rfl, m, rfl, by omega, by omega, fun l2 nl2 => ?_⟩
      rw [upto0]
      have s6 := s3.next (o := .lst ((upto m.toNat).map V.int)) nl2
      have f6 : (upd H3 l2 (.lst ((upto m.toNat).map V.int))) l2 = some (.lst ((upto m.toNat).map V.int)) := upd_same
      have e6 := Same.new (o := .lst ((upto m.toNat).map V.int)) nl2 _ _ e3
      have d6 := Same.new (o := .lst ((upto m.toNat).map V.int)) nl2 _ _ d3
      generalize upd H3 l2 (.lst ((upto m.toNat).map V.int)) = H6 at s6 f6 e6 d6
      refine ⟨dI ns', dI (upto m.toNat), dat_ints (SqL.of e6), dat_ints (SqL.of f6), shaped_dI _, shaped_dI _, _, rfl, ?_⟩
      rw [eqv_dI, decide_eq_true (sorted_uniq (hpm1.trans hpm) hs1 (upto_up _))]
      refine iteF ?_
      have hkd : ((hdL ls ls.length).map (·.1)).Nodup := by rw [hdL_keys ls _ (Nat.le_refl _), List.take_length]; exact hnd
      have hmem : ∀ x : Int, 0 ≤ x → x < m → ∃ k, (x, k) ∈ hdL ls ls.length := fun x x0 x1 => by
        have h1 : x ∈ ls.flatten := hpm.mem_iff.mpr (mem_upto.mpr ⟨x0, by omega⟩)
        obtain ⟨g, hg, hxg⟩ := List.mem_flatten.mp h1
        obtain ⟨i, hi, e⟩ := List.mem_iff_getElem.mp hg
        exact ⟨(i : Int), mem_hdL.mpr ⟨i, hi, rfl, by rw [List.getD_eq_getElem?_getD, List.getElem?_eq_getElem hi, e]; exact hxg⟩⟩
      refine ⟨_, rfl, l, _, rfl, .inl (s6.seq hl), fun J C O hC => lc_by O (fun i ws H7 => H7 = H6 ∧ ws.length = ((es.take i).filter (crsL ls)).length) (Nat.le_of_lt (small1000 (by omega))) ⟨rfl, rfl⟩ ?_ ?_ ?_⟩
      · rintro i ws H7 hi ⟨rfl, hwl⟩
        exact ⟨hC _ (Same.refl _), by rw [hwl]; exact Nat.le_trans (List.length_filter_le _ _) (by rw [List.length_take]; omega)⟩
      · rintro i ws H7 hi ⟨rfl, hwl⟩
        obtain ⟨r, e, er, hr2, ei, he⟩ := (hx.same s6).at hi
        have hwi : ws.length ≤ i := by rw [hwl]; exact Nat.le_trans (List.length_filter_le _ _) (by rw [List.length_take]; omega)
        have hbe := hE e he
        obtain ⟨k0, h0⟩ := hmem e.1 hbe.1 hbe.2.1
        obtain ⟨k1, h1⟩ := hmem e.2 hbe.2.2.1 hbe.2.2.2
        have g0 : DGet H7 d (.int e.1) (some (.int k0)) := by
          have := DGet.k (k := Sum.inl e.1) d6
          rw [hdV_some hkd h0] at this
          exact this
        have g1 : DGet H7 d (.int e.2) (some (.int k1)) := by
          have := DGet.k (k := Sum.inl e.2) d6
          rw [hdV_some hkd h1] at this
          exact this
        try dsimp only
        rw [er]
        refine ⟨wk_set rfl, _, rfl, _, rfl, r, _, 0, _, rfl, rfl, hr2, rfl, d, _, rfl, g0, _, rfl, _, rfl, r, _, 1, _, rfl, rfl, hr2, rfl, d, _, rfl, g1, rfl, _, rfl, ?_⟩
        have hdec : (!decide (V.int k0 = V.int k1)) = crsL ls e := by
          rw [crs_iff hnd h0 h1]
          congr 1
          rw [Bool.eq_iff_iff, decide_eq_true_iff, decide_eq_true_iff]
          exact ⟨fun z => by injection z, fun z => by rw [z]⟩
        rw [hdec, take_snoc ei, List.filter_append, List.length_append]
        cases c1 : crsL ls e
        · refine iteF ⟨_, by omega, rfl, by omega, rfl, ?_⟩
          rw [List.filter_cons_of_neg (by rw [c1]; decide)]; exact hwl
        · refine iteT ⟨_, rfl, small1000 (by omega), _, by omega, rfl, by omega, rfl, ?_⟩
          rw [List.filter_cons_of_pos c1, List.length_append, hwl]; rfl
      rintro ws H7 ⟨rfl, hwl⟩ lv nlv
      rw [hxl, List.take_length] at hwl
      have s8 := s6.next (o := .lst ws) nlv
      have v8 : (upd H7 lv (.lst ws)) lv = some (.lst ws) := upd_same
      generalize upd H7 lv (.lst ws) = H8 at s8 v8
      refine ⟨lv, _, rfl, .inl (SqL.of v8), ?_⟩
      refine ⟨_, rfl, _, rfl, p, ys, rfl, .inl (SqL.of (s8 _ _ hp)), _, rfl, _, rfl, l, m, xs, es, rfl, s8.seq hl, hx.same s8, m1, m2, hz, hE, fun f0 H9 F0 s9 => ?_⟩
      refine ⟨_, _, rfl, rfl, _, _, rfl, rfl, .inl ⟨by decide, by decide⟩, _, _, rfl, rfl, ?_⟩
      have := k f0 H9 F0 (s8.trans s9)
      rw [hyl, hwl]
      exact this
theorem crN_len (es : List (Int × Int)) (g : Int → Int) : (crN es g).length = (es.filter fun e => decide (g e.1 ≠ g e.2)).length := by
  have h := sub_upto es es.length (Nat.le_refl _)
  rw [List.take_length] at h
  conv => rhs; rw [← h]
  unfold sub crN
  rw [List.filter_map, List.length_map]
  rfl
theorem filt_len {es : List (Int × Int)} {p q : Int × Int → Bool} (h : ∀ e ∈ es, p e = q e) : (es.filter p).length = (es.filter q).length := by
  rw [List.filter_congr h]
theorem crs_pcs {m : Nat} {g : Int → Int} {e : Int × Int} (h1 : 0 ≤ e.1 ∧ e.1 < m ∧ 0 ≤ e.2 ∧ e.2 < m) (hg : ∀ p : Int, 0 ≤ p → p < m → 0 ≤ g p ∧ g p ≤ p ∧ g (g p) = g p) : crsL (pcs m g) e = decide (g e.1 ≠ g e.2) := by
  unfold crsL
  rw [Bool.eq_iff_iff, List.any_eq_true, decide_eq_true_iff]
  constructor
  · rintro ⟨l, hl, hb⟩ z
    rw [Bool.and_eq_true, Bool.not_eq_true'] at hb
    obtain ⟨r, _, rfl⟩ := List.mem_map.mp hl
    have a := mem_grp.mp (memI_iff.mp hb.1)
    have : memI (grp m g r) e.2 = true := memI_iff.mpr (mem_grp.mpr ⟨h1.2.2.1, h1.2.2.2, by rw [← z]; exact a.2.2⟩)
    rw [this] at hb
    exact nomatch hb.2
  · intro h
    have b := hg e.1 h1.1 h1.2.1
    refine ⟨grp m g (g e.1), List.mem_map.mpr ⟨g e.1, mem_rts.mpr ⟨b.1, by omega, b.2.2⟩, rfl⟩, ?_⟩
    rw [Bool.and_eq_true, Bool.not_eq_true']
    refine ⟨memI_iff.mpr (mem_grp.mpr ⟨h1.1, h1.2.1, rfl⟩), ?_⟩
    rw [Bool.eq_false_iff]
    intro z
    exact h (mem_grp.mp (memI_iff.mp z)).2.2.symm
theorem lab_idem {m : Int} {es : List (Int × Int)} {g : Int → Int} (L : Lab m es g) : ∀ p : Int, 0 ≤ p → p < (m.toNat : Nat) → 0 ≤ g p ∧ g p ≤ p ∧ g (g p) = g p := fun p h0 h1 => by
  have l := L.low p h0 (by omega)
  exact ⟨l.1, l.2, (lab_cn L.same (L.conn p h0 (by omega))).symm⟩
def dLl (lss : List (List Int)) : PyData := .list (lss.map dI)
theorem dLl_lay : ∀ es : List (List Int), PyData.canLayAll0 (es.map dI) = true ∧ PyData.depthAll (es.map dI) ≤ 1
  | [] => ⟨rfl, Nat.zero_le _⟩
  | n :: r => by
    obtain ⟨h1, h2⟩ := dLl_lay r
    obtain ⟨h3, h4⟩ := dI_lay n
    simp only [List.map_cons, dI, PyData.canLayAll0, PyData.canLay0, PyData.depthAll, PyData.depth, h1, h3, h4]
    exact ⟨rfl, Nat.max_le.mpr ⟨by simp, h2⟩⟩
theorem shaped_dLl (es : List (List Int)) : SeqAt.shaped (dLl es) = true := by
  obtain ⟨h1, h2⟩ := dLl_lay es
  unfold SeqAt.shaped dLl
  simp only [PyData.canLay0, PyData.depth, h1, Bool.true_and]
  exact decide_eq_true (by omega)
theorem eqvAll_dLl : ∀ ns ms : List (List Int), PyData.eqvAll (ns.map dI) (ms.map dI) = decide (ns = ms)
  | [], [] => rfl
  | [], _ :: _ => rfl
  | _ :: _, [] => rfl
  | a :: r, b :: t => by
    simp only [List.map_cons, PyData.eqvAll]
    rw [eqv_dI, eqvAll_dLl r t]
    simp only [List.cons.injEq, Bool.decide_and]
theorem eqv_dLl (ns ms : List (List Int)) : PyData.eqv (dLl ns) (dLl ms) = decide (ns = ms) := eqvAll_dLl ns ms
theorem lls_dat {K : PySem.W.Frag} {H : Hp} : ∀ {xs : List V} {ls : List (List Int)}, LlS H xs ls → DatVs K H xs (ls.map dI)
  | _, _, .nil => .nil
  | _, _, .cons ⟨_, e, q⟩ t => by subst e; exact .cons (dat_ints (SqL.of q)) (lls_dat t)
theorem kTupB {K : PySem.W.Frag} : PySem.W.kitOne K (.type "tuple") (.type "tuple") = some true := by with_unfolding_all rfl
theorem eqv_strT (x : Str) : PyData.eqv (.str x) (.str x) = true := by
  unfold PyData.eqv; simp
def dF2 (as bs : List Int) : PyData := .tuple [.str "forests", dI as, dI bs]
def dP2 (ls : List (List Int)) : PyData := .tuple [.str "parting", dLl ls]
theorem eqv_F2 (as bs : List Int) : PyData.eqv (dF2 as bs) (dF2 as bs) = true := by
  show PyData.eqvAll [.str "forests", dI as, dI bs] [.str "forests", dI as, dI bs] = _
  simp only [PyData.eqvAll, eqv_dI, eqv_strT, Bool.and_true, decide_true]
theorem eqv_P2 (ls : List (List Int)) : PyData.eqv (dP2 ls) (dP2 ls) = true := by
  show PyData.eqvAll [.str "parting", dLl ls] [.str "parting", dLl ls] = _
  simp only [PyData.eqvAll, eqv_dLl, eqv_strT, Bool.and_true, decide_true]
theorem shaped_F2 (as bs : List Int) : SeqAt.shaped (dF2 as bs) = true := by
  obtain ⟨h1, h2⟩ := dI_lay as
  obtain ⟨h3, h4⟩ := dI_lay bs
  have hx : PyData.strOk (Str.ofString "forests") = true := by decide +kernel
  unfold SeqAt.shaped dF2 dI
  simp only [PyData.canLay0, PyData.canLayAll0, PyData.depth, PyData.depthAll, h1, h2, h3, h4, hx]
  rfl
theorem shaped_P2 (ls : List (List Int)) : SeqAt.shaped (dP2 ls) = true := by
  obtain ⟨h1, h2⟩ := dLl_lay ls
  have hx : PyData.strOk (Str.ofString "parting") = true := by decide +kernel
  unfold SeqAt.shaped dP2 dLl
  simp only [PyData.canLay0, PyData.canLayAll0, PyData.depth, PyData.depthAll, h1, hx, Bool.true_and, Bool.and_true]
  exact decide_eq_true (by omega)
theorem dat_F2 {K : PySem.W.Frag} {H : Hp} {t l1 l2 : Addr} {as bs : List Int} (ht : H t = some (.tup [.str "forests", .ref l1, .ref l2])) (h1 : H l1 = some (.lst (as.map V.int))) (h2 : H l2 = some (.lst (bs.map V.int))) : DatV K H (.ref t) (dF2 as bs) := .tup (SqT.of ht) (.cons (.str _) (.cons (dat_ints (SqL.of h1)) (.cons (dat_ints (SqL.of h2)) .nil)))
theorem dat_P2 {K : PySem.W.Frag} {H : Hp} {t l : Addr} {ys : List V} {ls : List (List Int)} (ht : H t = some (.tup [.str "parting", .ref l])) (h1 : H l = some (.lst ys)) (h2 : LlS H ys ls) : DatV K H (.ref t) (dP2 ls) := .tup (SqT.of ht) (.cons (.str _) (.cons (.lst (SqL.of h1) (lls_dat h2)) .nil))
theorem tup_ne {H : Hp} {t l : Addr} {vs xs : List V} (h1 : H t = some (.tup vs)) (h2 : H l = some (.lst xs)) : t ≠ l := fun z => by
  rw [z, h2] at h1
  injection h1 with h1
  exact nomatch h1
theorem LlS.updS {H : Hp} {l : Addr} {o : HO} : ∀ {xs : List V} {ls : List (List Int)}, (∀ v ∈ xs, v ≠ .ref l) → LlS H xs ls → LlS (upd H l o) xs ls
  | _, _, _, .nil => .nil
  | _, _, hn, .cons ⟨r, e, q⟩ t => .cons ⟨r, e, by rw [upd_ne (fun z => hn _ List.mem_cons_self (by rw [e, z]))]; exact q⟩ (LlS.updS (fun v hv => hn v (List.mem_cons_of_mem _ hv)) t)
theorem lls_map {H : Hp} {ad : Int → Addr} {g : Int → List Int} : ∀ {rs : List Int}, (∀ r ∈ rs, H (ad r) = some (.lst ((g r).map V.int))) → LlS H (rs.map fun r => V.ref (ad r)) (rs.map g)
  | [], _ => .nil
  | r :: rs, h => .cons ⟨ad r, rfl, h r List.mem_cons_self⟩ (lls_map fun s hs => h s (List.mem_cons_of_mem _ hs))
theorem PcR.ls {K : PySem.W.Frag} {H H' : Hp} {n : Nat} {f : Int → Int} {l : Addr} (h : PcR K H n f l H') : ∃ xs, H' l = some (.lst xs) ∧ LlS H' xs (pcs n f) ∧ (∀ v ∈ xs, ∃ r, v = .ref r ∧ H r = none ∧ r ≠ l) ∧ H l = none := by
  obtain ⟨s, nl, ad, e, c, i⟩ := h
  refine ⟨_, e, lls_map fun r hr => (c r hr).2.2, fun v hv => ?_, nl⟩
  obtain ⟨r, hr, rfl⟩ := List.mem_map.mp hv
  exact ⟨ad r, rfl, (c r hr).1, (c r hr).2.1⟩
theorem Pairs.eraseI {K : PySem.W.Frag} {H : Hp} : ∀ {xs : List V} {es : List (Int × Int)} (i : Nat), Pairs K H xs es → Pairs K H (xs.eraseIdx i) (es.eraseIdx i)
  | _, _, _, .nil => .nil
  | _, _, 0, .cons _ t => t
  | _, _, i + 1, .cons q t => .cons q (Pairs.eraseI i t)
theorem no_part {m : Int} {es : List (Int × Int)} {S0 S1 : List Int} {f : Int → Int} (hE : EndsIn es m) (p0 : Spn es S0) (p1 : Spn es S1) (F : Lab m es f) : S0.length + S1.length = 2 * (m.toNat - (rts m.toNat f).length) := by
  have a := p0.all
  have b := p1.all
  have r := rank hE F
  omega
theorem por_pcs {m : Int} {es : List (Int × Int)} {ow : Own} {T T' : List Int} {g g' : Int → Int} (P : PoR es m.toNat ow T) (P' : PoR es m.toNat ow T') (L : Lab m (sub es T) g) (L' : Lab m (sub es T') g') : pcs m.toNat g' = pcs m.toNat g := by
  have e : T' = T := sorted_uniq (P'.perm.trans P.perm.symm) P'.srt P.srt
  subst e
  exact pcs_congr fun p h0 h1 => L'.uniq L h0 (by omega)
theorem grp_up (n : Nat) (g : Int → Int) (r : Int) : (grp n g r).Pairwise (· < ·) := by
  unfold grp
  rw [List.pairwise_map]
  exact (List.Pairwise.filter _ List.pairwise_lt_range).imp fun h => by omega
theorem pcs_pt {n : Nat} {g : Int → Int} (h : ∀ p : Int, 0 ≤ p → p < n → 0 ≤ g p ∧ g p ≤ p ∧ g (g p) = g p) : IsPt n (pcs n g) := by
  have hd : ∀ r ∈ rts n g, (grp n g r).headD 0 = r ∧ grp n g r ≠ [] := fun r hr => by
    obtain ⟨r0, r1, e⟩ := mem_rts.mp hr
    have hm : r ∈ grp n g r := mem_grp.mpr ⟨r0, r1, e⟩
    have hs := grp_up n g r
    have hx : ∀ x ∈ grp n g r, r ≤ x := fun x hx => by
      obtain ⟨a, b, c⟩ := mem_grp.mp hx
      have := h x a b
      omega
    match grp n g r, hm, hs, hx with
    | x :: l, hm, hs, hx =>
      have a := hx x List.mem_cons_self
      rcases List.mem_cons.mp hm with y | y
      · exact ⟨y.symm, by simp⟩
      · have := (List.pairwise_cons.mp hs).1 r y
        omega
  refine ⟨fun l hl => ?_, ?_, ?_⟩
  · obtain ⟨r, hr, rfl⟩ := List.mem_map.mp hl
    exact ⟨(hd r hr).2, (grp_up n g r).imp fun h => by omega⟩
  · refine (List.perm_ext_iff_of_nodup ?_ (upto_nd n)).mpr fun p => ?_
    · rw [List.nodup_iff_pairwise_ne]
      refine List.pairwise_flatten.mpr ⟨fun l hl => ?_, ?_⟩
      · obtain ⟨r, hr, rfl⟩ := List.mem_map.mp hl
        exact (grp_up n g r).imp fun h => by omega
      · unfold pcs
        rw [List.pairwise_map]
        refine (List.nodup_iff_pairwise_ne.mp (rts_nd1 n g)).imp fun {a b} hab x hx y hy z => ?_
        have h1 := (mem_grp.mp hx).2.2
        have h2 := (mem_grp.mp hy).2.2
        rw [z] at h1
        exact hab (h1.symm.trans h2)
    · rw [mem_upto, List.mem_flatten]
      constructor
      · rintro ⟨l, hl, hp⟩
        obtain ⟨r, hr, rfl⟩ := List.mem_map.mp hl
        obtain ⟨a, b, _⟩ := mem_grp.mp hp
        exact ⟨a, b⟩
      · rintro ⟨a, b⟩
        have q := h p a b
        exact ⟨grp n g (g p), List.mem_map.mpr ⟨g p, mem_rts.mpr ⟨q.1, by omega, q.2.2⟩, rfl⟩, mem_grp.mpr ⟨a, b, rfl⟩⟩
  · have e : (pcs n g).map (·.headD 0) = rts n g := by
      unfold pcs
      rw [List.map_map]
      conv => rhs; rw [← List.map_id (rts n g)]
      exact List.map_congr_left fun r hr => (hd r hr).1
    rw [e]
    unfold rts
    rw [List.pairwise_map]
    exact (List.Pairwise.filter _ List.pairwise_lt_range).imp fun h => by omega
theorem IsPt.fewer {m : Nat} {A B C : List Int} {r : List (List Int)} (h : IsPt m (A :: B :: r)) (hp : C.Perm (A ++ B)) (hs : C.Pairwise (· ≤ ·)) : IsPt m (C :: r) := by
  have hA := h.1 A List.mem_cons_self
  have hC : C ≠ [] := fun z => by
    rw [z] at hp
    exact hA.1 (List.append_eq_nil_iff.mp (List.Perm.eq_nil hp.symm)).1
  refine ⟨fun l hl => ?_, ?_, ?_⟩
  · rcases List.mem_cons.mp hl with y | y
    · rw [y]; exact ⟨hC, hs⟩
    · exact h.1 l (List.mem_cons_of_mem _ (List.mem_cons_of_mem _ y))
  · refine List.Perm.trans ?_ h.2.1
    rw [List.flatten_cons, List.flatten_cons, List.flatten_cons, ← List.append_assoc]
    exact hp.append_right _
  · have p := h.2.2
    rw [List.map_cons, List.map_cons, List.pairwise_cons] at p
    rw [List.map_cons, List.pairwise_cons]
    refine ⟨fun x hx => ?_, (List.pairwise_cons.mp p.2).2⟩
    have a1 := p.1 x (List.mem_cons_of_mem _ hx)
    have hm : A.headD 0 ∈ C := hp.mem_iff.mpr (List.mem_append_left _ (by
      match A, hA.1 with
      | [], h => exact absurd rfl h
      | y :: _, _ => exact List.mem_cons_self))
    match C, hs, hm with
    | c :: C, hs, hm =>
      rcases List.mem_cons.mp hm with y | y
      · show c ≤ x
        omega
      · have := (List.pairwise_cons.mp hs).1 _ y
        show c ≤ x
        omega
theorem scL : FnScope ["script", "many", "ends", "word", "way", "one", "two", "web", "found", "again", "good", "fewer"] ["script"] (defScope sL) := ⟨rfl, rfl, rfl, by decide +kernel, rfl, by decide +kernel, by decide +kernel⟩
set_option maxHeartbeats 16000000 in
theorem ok_L {f : Addr} {fd : FuncData} (F : Fun K "law" "law" sL f fd) (T : Txt K mg c) (D_D : Def P w K mg base 3 "_law_drawn" ["script", "most", "bound"] (spD K)) (D_Tt : Def P w K mg base 2 "_law_two_trees" ["script"] (spTt K)) (D_Tf : Def P w K mg base 6 "two_forests" ["web"] (spTf K c)) (D_Sw : Def P w K mg base 3 "parting_shows" ["web", "lists"] (spSw K c)) (D_Fs : Def P w K mg base 3 "_law_forests" ["many", "ends", "one", "two"] (spFs K)) (D_Pa : Def P w K mg base 3 "_law_parts" ["many", "ends", "lists"] (spPa K)) (D_N : MkDef P w K mg base 1 "Web" c.Web ["self", "many", "ties"] (spInit K c.Web)) : FnOk P w K mg base CX0 7 f fd ["script"] (spLaw K) := by
  refine F.ok scL (fun vs H Q E h => ?_) (fun cdv A outer s H vs Q E hr h => ?_)
  · obtain ⟨a, ns, rfl, _⟩ := h
    rfl
  · obtain ⟨a, ns, rfl, hS, hlen, k⟩ := h
    have hu : A.units + 3 + 64 < cLine := hr.units
    refine ⟨_, pss_cons (ps_asg (pe_defR D_D hr (pa_cons (pv 0) (pa_cons (pe_int) (pa_cons (pe_int) pa_nil)))) (pgTup (K := K) (n := 2) rfl rfl (pgs_cons (pg_name (i := 1) scL.nd rfl (Or.inl rfl)) (pgs_cons (pg_name (i := 2) scL.nd rfl (Or.inl rfl)) (pgs_nil))) rfl))
      (pss_cons (ps_set (i := 3) scL.nd rfl (Or.inl rfl) (pe_str))
      (pss_cons (ps_set (i := 4) scL.nd rfl (Or.inl rfl) (pe_op op_mod (pe_callB (cSum (K := K) rfl rfl) (by rfl) T.sum PyProof.Rows.boot_sum (pa_cons (pv 0) pa_nil)) (pe_int)))
      (pss_cons (ps_cut (ps_if (pt_cmpR op_eq (pv 4) (pe_int) (nomark _))
        (pss_cons (ps_asg (pe_defR D_Tt hr (pa_cons (pv 0) pa_nil)) (pgTup (K := K) (n := 4) rfl rfl (pgs_cons (pg_name (i := 1) scL.nd rfl (Or.inl rfl)) (pgs_cons (pg_name (i := 2) scL.nd rfl (Or.inl rfl)) (pgs_cons (pg_name (i := 5) scL.nd rfl (Or.inl rfl)) (pgs_cons (pg_name (i := 6) scL.nd rfl (Or.inl rfl)) (pgs_nil))))) rfl))
      (pss_cons (ps_set (i := 3) scL.nd rfl (Or.inl rfl) (pe_str))
      (pss_one (ps_cut (ps_if (PW.pt (pw_and (pt_cmpR op_eq (pe_op op_mod (pe_op op_fdivB (pe_callB (cSum (K := K) rfl rfl) (by rfl) T.sum PyProof.Rows.boot_sum (pa_cons (pv 0) pa_nil)) (pe_int)) (pe_int)) (pe_int) (nomark _)) (pw_and1 (pt_cmpR (opNeD (K := K) rfl hu) (pv 2) (pe_lst pa_nil) (nomark _)))))
        (pss_cons (ps_expr (pe_bm PySem.F.plainAttrs_list PySem.F.slot_list_pop PySem.F.type_list_pop mt_popAt (pv 2) (pa_cons (pe_op op_mod (pe_op op_fdivB (pe_callB (cSum (K := K) rfl rfl) (by rfl) T.sum PyProof.Rows.boot_sum (pa_cons (pv 0) pa_nil)) (pe_int)) (pe_callB (cLen (K := K) rfl) (by rfl) T.len PySem.boot_len (pa_cons (pv 2) pa_nil))) pa_nil)))
      (pss_one (ps_set (i := 3) scL.nd rfl (Or.inl rfl) (pe_str)))) (pss_nil)))))) (pss_nil)))
      (pss_cons (ps_set (i := 7) scL.nd rfl (Or.inl rfl) (pe_web D_N hr (pa_cons (pv 1) (pa_cons (pe_callTy (cList (K := K) rfl) (by rfl) T.list PyProof.Rows.boot_list (pa_cons (pv 2) pa_nil)) pa_nil))))
      (pss_cons (ps_set (i := 8) scL.nd rfl (Or.inl rfl) (pe_defR D_Tf hr (pa_cons (pv 7) pa_nil)))
      (pss_cons (ps_if (PW.pt (pw_or (pt_not (pt_val (pe_callB (cIs (K := K) rfl) (by rfl) T.isinstance PyProof.Rows.boot_isinstance (pa_cons (pv 8) (pa_cons (pe_bltn (v := .ty "tuple") (by rfl) T.tuple PyProof.Rows.boot_tuple rfl) pa_nil))))) (pw_or (pt_cmpR op_lt (pe_callB (cLen (K := K) rfl) (by rfl) T.len PySem.boot_len (pa_cons (pv 8) pa_nil)) (pe_int) (nomark _)) (pw_or1 (PW.pt (pw_and (pt_cmpR op_ne (pv 3) (pe_str) (nomark _)) (pw_and1 (pt_cmpR op_ne (pe_ix (ixT (K := K) rfl) (pv 8) (pe_int) (fun _ _ => rfl)) (pv 3) (nomark _)))))))))
        (pss_one (ps_ret (pe_bl))) (pss_nil))
      (pss_cons (ps_set (i := 9) scL.nd rfl (Or.inl rfl) (pe_defR D_Tf hr (pa_cons (pv 7) pa_nil)))
      (pss_cons (ps_if (pt_cmpR op_eq (pe_ix (ixT (K := K) rfl) (pv 8) (pe_int) (fun _ _ => rfl)) (pe_str) (nomark _))
        (pss_cons (ps_if (PW.pt (pw_or (pt_cmpR op_ne (pe_callB (cLen (K := K) rfl) (by rfl) T.len PySem.boot_len (pa_cons (pv 8) pa_nil)) (pe_int) (nomark _)) (pw_or (pt_cmpR (opNeD (K := K) rfl hu) (pv 9) (pv 8) (nomark _)) (pw_or1 (pt_not (pt_val (pe_defR D_Fs hr (pa_cons (pv 1) (pa_cons (pv 2) (pa_cons (pe_ix (ixT (K := K) rfl) (pv 8) (pe_int) (fun _ _ => rfl)) (pa_cons (pe_ix (ixT (K := K) rfl) (pv 8) (pe_int) (fun _ _ => rfl)) pa_nil)))))))))))
        (pss_one (ps_ret (pe_bl))) (pss_nil))
      (pss_cons (ps_expr (pe_bm PySem.F.plainAttrs_list PySem.F.slot_list_append PySem.F.type_list_append mt_append (pe_ix (ixT (K := K) rfl) (pv 8) (pe_int) (fun _ _ => rfl)) (pa_cons (pe_int) pa_nil)))
      (pss_cons (ps_expr (pe_bm0 PySem.F.plainAttrs_list PySem.F.slot_list_clear PySem.F.type_list_clear mt_clear (pe_ix (ixT (K := K) rfl) (pv 8) (pe_int) (fun _ _ => rfl))))
      (pss_one (ps_ret (pe_cmpR (opEqD (K := K) rfl hu) (pe_defR D_Tf hr (pa_cons (pv 7) pa_nil)) (pv 9) (nomark _))))))) (pss_nil))
      (pss_cons (ps_if (PW.pt (pw_or (pt_cmpR op_ne (pe_ix (ixT (K := K) rfl) (pv 8) (pe_int) (fun _ _ => rfl)) (pe_str) (nomark _)) (pw_or (pt_cmpR op_ne (pe_callB (cLen (K := K) rfl) (by rfl) T.len PySem.boot_len (pa_cons (pv 8) pa_nil)) (pe_int) (nomark _)) (pw_or (pt_cmpR (opNeD (K := K) rfl hu) (pv 9) (pv 8) (nomark _)) (pw_or1 (pt_cmpR op_isnot_bl (pe_defR D_Sw hr (pa_cons (pv 7) (pa_cons (pe_ix (ixT (K := K) rfl) (pv 8) (pe_int) (fun _ _ => rfl)) pa_nil))) (pe_bl) (nomark _)))))))
        (pss_one (ps_ret (pe_bl))) (pss_nil))
      (pss_cons (ps_set (i := 10) scL.nd rfl (Or.inl rfl) (pe_defR D_Pa hr (pa_cons (pv 1) (pa_cons (pv 2) (pa_cons (pe_ix (ixT (K := K) rfl) (pv 8) (pe_int) (fun _ _ => rfl)) pa_nil)))))
      (pss_cons (ps_cut (ps_if (pt_cmpR op_gt (pe_callB (cLen (K := K) rfl) (by rfl) T.len PySem.boot_len (pa_cons (pe_ix (ixT (K := K) rfl) (pv 8) (pe_int) (fun _ _ => rfl)) pa_nil)) (pe_int) (nomark _))
        (pss_cons (ps_set (i := 11) scL.nd rfl (Or.inl rfl) (pe_op op_cat (pe_lst (pa_cons (pe_callB (cSorted (K := K) rfl) (by rfl) T.sorted PyProof.Rows.boot_sorted (pa_cons (pe_op op_cat (pe_ix (ixL (K := K) rfl) (pe_ix (ixT (K := K) rfl) (pv 8) (pe_int) (fun _ _ => rfl)) (pe_int) (fun _ _ => rfl)) (pe_ix (ixL (K := K) rfl) (pe_ix (ixT (K := K) rfl) (pv 8) (pe_int) (fun _ _ => rfl)) (pe_int) (fun _ _ => rfl))) pa_nil)) pa_nil)) (pe_slice (slL (K := K) rfl) (pe_ix (ixT (K := K) rfl) (pv 8) (pe_int) (fun _ _ => rfl)) (po_some (pe_int)) (po_none))))
      (pss_one (ps_set (i := 10) scL.nd rfl (Or.inl rfl) (pe_and (pv 10) (pe_one (pe_cmpR op_eq (pe_defR D_Sw hr (pa_cons (pv 7) (pa_cons (pv 11) pa_nil))) (pe_defR D_Pa hr (pa_cons (pv 1) (pa_cons (pv 2) (pa_cons (pv 11) pa_nil)))) (nomark _))))))) (pss_nil)))
      (pss_cons (ps_expr (pe_bm PySem.F.plainAttrs_list PySem.F.slot_list_append PySem.F.type_list_append mt_append (pe_ix (ixL (K := K) rfl) (pe_ix (ixT (K := K) rfl) (pv 8) (pe_int) (fun _ _ => rfl)) (pe_int) (fun _ _ => rfl)) (pa_cons (pv 1) pa_nil)))
      (pss_cons (ps_expr (pe_bm0 PySem.F.plainAttrs_list PySem.F.slot_list_reverse PySem.F.type_list_reverse mt_reverse (pe_ix (ixT (K := K) rfl) (pv 8) (pe_int) (fun _ _ => rfl))))
      (pss_one (ps_ret (pe_and (pv 10) (pe_one (pe_cmpR (opEqD (K := K) rfl hu) (pe_defR D_Tf hr (pa_cons (pv 7) pa_nil)) (pv 9) (nomark _))))))))))))))))))), ?_⟩
    clear hu
    refine ⟨_, rfl, a, ns, 20, 40, rfl, hS, by decide, by decide, by decide, by decide, fun t l m xs es H1 hl sH ht hl1 hp m1 m2 hz hE => ?_⟩
    refine ⟨t, _, rfl, SqT.of ht, rfl, _, _, rfl, _, _, rfl, rfl, ?_⟩
    have hS1 := sH.seq hS
    clear sH ht hl hS
    refine ⟨_, rfl, a, ns, rfl, .inl hS1, _, _, rfl, rfl, (by show (0 : Int) < 3; decide), ?_⟩
    refine ⟨fun σ' H' => ∃ (m : Int) (l : Addr) (xs : List V) (es : List (Int × Int)) (wd : Str) (v4 v5 v6 : Option V), σ' = [some (.ref a), some (.int m), some (.ref l), some (.str wd), v4, v5, v6, none, none, none, none, none] ∧ H' l = some (.lst xs) ∧ Pairs K H' xs es ∧ 1 ≤ m ∧ m ≤ 20 ∧ es.length ≤ 40 ∧ EndsIn es m ∧ (wd = "" ∨ (wd = "forests" ∧ ∃ os ts, Spn es os ∧ Spn es ts ∧ ∀ z ∈ os, ¬ z ∈ ts)), ?_, ?_⟩
    · refine ⟨_, rfl, rfl, _, rfl, ite2 (fun _ => ?_) (fun _ => ?_)⟩
      · refine ⟨_, rfl, a, ns, rfl, hS1, hlen, fun t l p q m xs es os ts H2 s2 ht hl hp m1 m2 hz hE hp' hq' e1 e2 hln h0 h1 hd => ?_⟩
        refine ⟨t, _, rfl, SqT.of ht, rfl, _, _, rfl, _, _, rfl, _, _, rfl, _, _, rfl, rfl, ?_⟩
        have hxl := hp.len
        have S2 := s2.seq hS1
        refine ⟨_, ?_, fun _ _ h => h⟩
        have fin1 : ∃ os ts, Spn es os ∧ Spn es ts ∧ ∀ z ∈ os, ¬ z ∈ ts := ⟨os, ts, h0, h1, hd⟩
        refine ⟨_, rfl, a, ns, rfl, .inl S2, _, _, rfl, rfl, ⟨by decide, by decide⟩, _, _, rfl, rfl, (by show (0 : Int) < 3; decide), rfl, _, rfl, ite2 (fun _ => ?_) (fun _ => iteF ⟨m, l, xs, es, _, _, _, _, rfl, hl, hp, m1, m2, hz, hE, .inr ⟨rfl, fin1⟩⟩)⟩
        refine ⟨_, rfl, by decide, fun q0 nq0 => ?_⟩
        have s3 := Same.new (o := .lst []) nq0
        have q3 : (upd H2 q0 (.lst [])) q0 = some (.lst (([] : List Int).map V.int)) := upd_same
        have hl3 := s3 _ _ hl
        have hp3 := hp.same s3
        have S3 := s3.seq S2
        have lH : H1 l = none := hln
        have s23 := s2.trans s3
        generalize upd H2 q0 (.lst []) = H3 at s3 q3 hl3 hp3 S3 s23
        refine ⟨dE es, dI [], dat_ends (SqL.of hl3) hp3, dat_ints (SqL.of q3), shaped_dE _, shaped_dI _, _, rfl, ?_⟩
        cases es with
        | nil => exact iteF ⟨m, l, xs, [], _, _, _, _, rfl, hl3, hp3, m1, m2, hz, hE, .inr ⟨rfl, fin1⟩⟩
        | cons e er =>
          have hx1 : 1 ≤ xs.length := by rw [hxl, List.length_cons]; omega
          have d0 : (0 : Int) ≤ ns.sum / 9 % (xs.length : Int) := Int.emod_nonneg _ (by omega)
          have d1 : ns.sum / 9 % (xs.length : Int) < (xs.length : Int) := Int.emod_lt_of_pos _ (by omega)
          have hix : ixN xs.length (ns.sum / 9 % (xs.length : Int)) = some (ns.sum / 9 % (xs.length : Int)).toNat := by unfold ixN; rw [if_pos d0, if_pos d1]
          refine iteT ⟨_, rfl, .inl ⟨rfl, _, SqL.of hl3⟩, _, rfl, a, ns, rfl, .inl S3, _, _, rfl, rfl, ⟨by decide, by decide⟩, _, rfl, l, xs, rfl, .inl (SqL.of hl3), _, _, rfl, rfl, (by show (0 : Int) < (xs.length : Int); omega), ?_⟩
          have hxs : xs.length ≤ 40 := by rw [hxl]; exact hz
          refine ⟨l, xs, _, _, _, rfl, rfl, hl3, by omega, by omega, (ixN_seq hix).1, List.getElem?_eq_getElem (by omega), ?_⟩
          refine ⟨m, l, _, _, _, _, _, _, rfl, upd_same, Pairs.sameX sameX_upd hl3 (Pairs.eraseI _ hp3), m1, m2, ?_, ?_, .inl rfl⟩
          · exact Nat.le_trans (List.length_eraseIdx_le _ _) hz
          · exact fun e he => hE e (List.mem_of_mem_eraseIdx he)
      · exact ⟨m, l, xs, es, _, _, _, _, rfl, hl1, hp, m1, m2, by omega, hE, .inl rfl⟩
    clear hl1 hp m1 m2 hz hE hS1
    rintro σ' H2 ⟨m, l, xs, es, wd, v4, v5, v6, rfl, hl, hp, m1, m2, hz, hE, hwd⟩
    have hxl := hp.len
    refine ⟨_, rfl, _, rfl, l, _, rfl, .inl (SqL.of hl), fun l3 n3 => ?_⟩
    have s3 := Same.new (o := .lst xs) n3
    have e3 : (upd H2 l3 (.lst xs)) l3 = some (.lst xs) := upd_same
    have p3 := hp.same s3
    generalize upd H2 l3 (.lst xs) = H3 at s3 e3 p3
    refine ⟨l3, m, xs, es, rfl, .inl (SqL.of e3), p3, m1, m2, hz, hE, fun x HW nx sW hw => ?_⟩
    have s1W := s3.trans sW
    have lW := s1W _ _ hl
    have pW := hp.same s1W
    clear s3 e3 p3 sW s1W hl hp
    refine ⟨_, rfl, x, m, es, rfl, hw, hz, m1, m2, hE, ?_, ?_⟩
    · intro t l1 l2 S0 S1 H3 n1 n2 n12 s3 ht e1 e2 q0 q1 p0 p1 hd
      refine ⟨_, rfl, _, _, _, _, true, rfl, rfl, fun _ z => z, .of (.tup ht), kTupB, _, rfl, iteF ?_⟩
      refine ⟨_, rfl, t, _, rfl, .inr (SqT.of ht), _, _, rfl, rfl, _, rfl, iteF ?_⟩
      refine ⟨_, rfl, rfl, _, rfl, and_mrg (fun cw R' hR => ?_) (iteF ?_)⟩
      · rcases hwd with rfl | ⟨rfl, _⟩
        · rw [decide_eq_true rfl] at cw
          exact nomatch cw
        · refine ⟨_, rfl, t, _, _, _, rfl, rfl, SqT.of ht, rfl, _, rfl, rfl, _, rfl, ?_⟩
          rw [decide_eq_true rfl]
          exact hR
      refine ⟨_, rfl, x, m, es, rfl, hw.same s3, hz, m1, m2, hE, ?_, ?_⟩
      rotate_left
      · intro t' lp' f' g' T' H4 _ _ _ F' _ _ hne _
        exact absurd (by rw [← q0, ← q1]; exact no_part hE p0 p1 F') hne
      intro t' l1' l2' S0' S1' H4 n1' n2' n12' s4 ht' e1' e2' q0' q1' _ _ _
      have eS0 : S0' = S0 := q0'.trans q0.symm
      have eS1 : S1' = S1 := q1'.trans q1.symm
      subst eS0 eS1
      refine ⟨_, rfl, t, _, _, _, rfl, rfl, SqT.of (s4 _ _ ht), rfl, rfl, _, rfl, ?_⟩
      rw [decide_eq_true rfl]
      refine iteT ⟨_, rfl, t, _, rfl, .inr (SqT.of (s4 _ _ ht)), rfl, _, rfl, iteF ?_⟩
      refine ⟨_, rfl, _, rfl, dF2 S0' S1', dF2 S0' S1', dat_F2 ht' e1' e2', dat_F2 (s4 _ _ ht) (s4 _ _ e1) (s4 _ _ e2), shaped_F2 _ _, shaped_F2 _ _, _, rfl, ?_⟩
      rw [eqv_F2]
      have s34 := s3.trans s4
      refine iteF ⟨_, rfl, _, rfl, _, rfl, t, _, _, _, rfl, rfl, SqT.of (s4 _ _ ht), rfl, _, rfl, t, _, _, _, rfl, rfl, SqT.of (s4 _ _ ht), rfl, l, l1, l2, m, xs, es, S0', S1', rfl, SqL.of (s34 _ _ lW), pW.same s34, s4 _ _ e1, s4 _ _ e2, m1, m2, hz, hE, p0, p1, hd, fun H5 s5 => ⟨_, rfl, iteF ?_⟩⟩
      have s45 := s4.trans s5
      have t5 := s45 _ _ ht
      have e15 := s45 _ _ e1
      have e25 := s45 _ _ e2
      have hsz : S0'.length ≤ 40 := by
        have a1 := p0.all
        have a2 : (frst es).length ≤ es.length := frN_len es es.length
        omega
      refine ⟨_, rfl, t, _, _, _, rfl, rfl, SqT.of t5, rfl, .inl ⟨rfl, _, SqL.of e15⟩, l1, _, _, rfl, rfl, e15, small1000 (by rw [List.length_map]; omega), ?_⟩
      have t6 : (upd H5 l1 (.lst (S0'.map V.int ++ [V.int 0]))) t = some (.tup [.str "forests", .ref l1, .ref l2]) := by rw [upd_ne (tup_ne t5 e15)]; exact t5
      have e26 : (upd H5 l1 (.lst (S0'.map V.int ++ [V.int 0]))) l2 = some (.lst (S1'.map V.int)) := by rw [upd_ne (Ne.symm n12)]; exact e25
      refine ⟨_, rfl, t, _, _, _, rfl, rfl, SqT.of t6, rfl, .inl ⟨rfl, _, SqL.of e26⟩, l2, _, rfl, rfl, e26, ?_⟩
      have s7 : Same HW (upd (upd H5 l1 (.lst (S0'.map V.int ++ [V.int 0]))) l2 (.lst [])) := ((s3.trans s45).upd n1).upd n2
      have far : ∀ {z : Addr} {o : HO}, z ≠ l1 → z ≠ l2 → H4 z = some o → (upd (upd H5 l1 (.lst (S0'.map V.int ++ [V.int 0]))) l2 (.lst [])) z = some o := fun h1 h2 h => by rw [upd_ne h2, upd_ne h1]; exact s5 _ _ h
      have t7 := far (tup_ne ht' (s4 _ _ e1)) (tup_ne ht' (s4 _ _ e2)) ht'
      have f1 := far (ne_of_none e1 n1').symm (ne_of_none e2 n1').symm e1'
      have f2 := far (ne_of_none e1 n2').symm (ne_of_none e2 n2').symm e2'
      generalize upd (upd H5 l1 (.lst (S0'.map V.int ++ [V.int 0]))) l2 (.lst []) = H7 at s7 t7 f1 f2
      refine ⟨_, rfl, x, m, es, rfl, hw.same s7, hz, m1, m2, hE, ?_, ?_⟩
      rotate_left
      · intro t' lp' f' g' T' H4 _ _ _ F' _ _ hne _
        exact absurd (by rw [← q0, ← q1]; exact no_part hE p0 p1 F') hne
      intro t3 l13 l23 S03 S13 H8 _ _ _ s8 ht3 e13 e23 q03 q13 _ _ _
      have eS0 : S03 = S0' := q03.trans q0.symm
      have eS1 : S13 = S1' := q13.trans q1.symm
      subst eS0 eS1
      refine ⟨_, rfl, dF2 S03 S13, dF2 S03 S13, dat_F2 ht3 e13 e23, dat_F2 (s8 _ _ t7) (s8 _ _ f1) (s8 _ _ f2), shaped_F2 _ _, shaped_F2 _ _, ?_⟩
      rw [eqv_F2]
      exact k H8
    · intro t lp f1 g T' H3 s3 ht PO F1 Lg PC hne hc
      obtain ⟨ys, eP, LP, NP, nlp⟩ := PC.ls
      have hid := lab_idem Lg
      have hpt := pcs_pt hid
      have hlen1 : (pcs m.toNat g).length = (rts m.toNat g).length := List.length_map ..
      have hcr : ((es.filter (crsL (pcs m.toNat g))).length : Int) < 2 * (((pcs m.toNat g).length : Int) - (rts m.toNat f1).length) := by
        have e1 : (es.filter (crsL (pcs m.toNat g))).length = (crN es g).length := by
          rw [crN_len]
          refine filt_len fun e he => crs_pcs ?_ hid
          have b := hE e he
          exact ⟨b.1, by omega, b.2.2.1, by omega⟩
        rw [e1, hlen1]
        exact hc
      have hrk : ∀ f2, Lab m es f2 → (rts m.toNat f2).length = (rts m.toNat f1).length := fun f2 F2 => by
        have a1 := rank hE F2
        have a2 := rank hE F1
        omega
      have hw0 : wd = "" := by
        rcases hwd with e | ⟨_, os, ts, h0, h1, hd⟩
        · exact e
        · exfalso
          refine two_cross hE h0 h1 hd F1 (rs := rts m.toNat g) (g := g) (rts_nd1 _ _) (fun r hr => ?_) (fun p hp q hq e => ?_) hc
          · have := mem_rts.mp hr
            omega
          · have a1 := (mem_rts.mp hp).2.2
            have a2 := (mem_rts.mp hq).2.2
            rw [a1, a2] at e
            exact e
      subst hw0
      have hfl := hpt.len1
      have hll := len_flat fun l hl => (hpt.1 l hl).1
      have same_of : ∀ {T2 : List Int} {g2 : Int → Int}, PoR es m.toNat (grO es m.toNat es.length) T2 → Lab m (sub es T2) g2 → pcs m.toNat g2 = pcs m.toNat g := fun P2 L2 => por_pcs PO P2 Lg L2
      have nofo : ∀ {S0 S1 : List Int}, S0 = tof (grO es m.toNat es.length) (some 0) → S1 = tof (grO es m.toNat es.length) (some 1) → Spn es S0 → Spn es S1 → False := fun q0 q1 p0 p1 => hne (by rw [← q0, ← q1]; exact no_part hE p0 p1 F1)
      generalize hls : pcs m.toNat g = ls at LP hpt hcr hfl hll same_of
      clear hid hlen1 hls Lg PO PC hc hne hwd
      refine ⟨_, rfl, _, _, _, _, true, rfl, rfl, fun _ z => z, .of (.tup ht), kTupB, _, rfl, iteF ?_⟩
      refine ⟨_, rfl, t, _, rfl, .inr (SqT.of ht), _, _, rfl, rfl, _, rfl, iteF ?_⟩
      refine ⟨_, rfl, rfl, _, rfl, and_mrg (fun cw R' hR => ?_) (iteF ?_)⟩
      · rw [decide_eq_true rfl] at cw
        exact nomatch cw
      refine ⟨_, rfl, x, m, es, rfl, hw.same s3, hz, m1, m2, hE, ?_, ?_⟩
      · intro t' l1' l2' S0' S1' H4 _ _ _ _ _ _ _ q0' q1' p0' p1' _
        exact (nofo q0' q1' p0' p1').elim
      intro t' lp' f2 g2 T2 H4 s4 ht' PO2 F2 L2' PC2 _ _
      obtain ⟨ys', eP', LP', NP', nlp'⟩ := PC2.ls
      rw [same_of PO2 L2'] at LP'
      clear PC2 F2 L2' PO2
      have t4 := s4 _ _ ht
      have P4 := s4 _ _ eP
      have L4 := LP.same s4
      refine ⟨_, rfl, t, _, _, _, rfl, rfl, SqT.of t4, rfl, rfl, _, rfl, iteF ?_⟩
      refine ⟨_, rfl, t, _, _, _, rfl, rfl, SqT.of t4, rfl, rfl, _, rfl, ?_⟩
      rw [decide_eq_true rfl]
      refine iteF ⟨_, rfl, t, _, rfl, .inr (SqT.of t4), rfl, _, rfl, iteF ?_⟩
      refine ⟨_, rfl, _, rfl, dP2 ls, dP2 ls, dat_P2 ht' eP' LP', dat_P2 t4 P4 L4, shaped_P2 _, shaped_P2 _, _, rfl, ?_⟩
      rw [eqv_P2]
      have s34 := s3.trans s4
      refine iteF ⟨_, rfl, _, rfl, t, _, _, _, rfl, rfl, SqT.of t4, rfl, x, lp, m, es, ys, ls, rfl, hw.same s34, SqL.of P4, L4, m1, m2, hz, hE, by omega, by omega, fun H5 f3 F3 s45 => ?_⟩
      rw [hrk f3 F3, isPt_iff.mpr hpt, decide_eq_true hcr]
      have s5 := s34.trans s45
      have t5 := s45 _ _ t4
      have P5 := s45 _ _ P4
      have L5 := L4.same s45
      refine ⟨_, _, rfl, rfl, _, rfl, iteF ?_⟩
      refine ⟨_, rfl, _, rfl, _, rfl, t, _, _, _, rfl, rfl, SqT.of t5, rfl, l, lp, m, xs, ys, es, ls, rfl, SqL.of (s5 _ _ lW), pW.same s5, P5, L5, m1, m2, hz, hE, hpt, fun f4 H6 F4 s56 => ?_⟩
      rw [hrk f4 F4, decide_eq_true hcr]
      have s6 := s5.trans s56
      have s46 := s45.trans s56
      have t6 := s56 _ _ t5
      have P6 := s56 _ _ P5
      have L6 := L5.same s56
      clear t5 P5 L5 s5 s56 s45 L4 P4 t4
      have hyl := L6.len
      refine ⟨fun σ' H' => Same H6 H' ∧ ∃ v11, σ' = [some (.ref a), some (.int m), some (.ref l), some (.str ""), v4, v5, v6, some (.ref x), some (.ref t), some (.ref t'), some (.bl true), v11], ?_, ?_⟩
      · refine ⟨_, rfl, t, _, _, _, rfl, rfl, SqT.of t6, rfl, lp, _, rfl, .inl (SqL.of P6), _, _, rfl, rfl, _, rfl, ite2 (fun c1 => ?_) (fun _ => ⟨Same.refl _, _, rfl⟩)⟩
        have c1' := of_decide_eq_true c1
        match ls, ys, L6, hpt, hfl, hll, P6, c1' with
        | [], _, .nil, _, _, _, _, c1' => exact absurd c1' (by decide)
        | [_], _, .cons _ .nil, _, _, _, _, c1' => exact absurd c1' (by show ¬ (1 : Int) < 1; decide)
        | A :: B :: r, v1 :: v2 :: yr, .cons ⟨gA, eA, hA⟩ (.cons ⟨gB, eB, hB⟩ LR), hpt, hfl, hll, P6, _ =>
          subst eA eB
          have hfl0 := hfl
          rw [List.flatten_cons, List.flatten_cons, List.length_append, List.length_append] at hfl
          rw [hfl0, List.length_cons, List.length_cons] at hll
          have lA : (A.map V.int).length = A.length := List.length_map ..
          have lB : (B.map V.int).length = B.length := List.length_map ..
          have at0 : ∀ (u v : V) (w : List V), atI (u :: v :: w) 0 = some u := fun u v w => atI_nat (j := 0) rfl
          have at1 : ∀ (u v : V) (w : List V), atI (u :: v :: w) 1 = some v := fun u v w => atI_nat (j := 1) rfl
          refine ⟨_, rfl, t, _, _, _, rfl, rfl, SqT.of t6, rfl, lp, _, _, _, rfl, rfl, SqL.of P6, at0 _ _ _, _, rfl, t, _, _, _, rfl, rfl, SqT.of t6, rfl, lp, _, _, _, rfl, rfl, SqL.of P6, at1 _ _ _, gA, gB, _, _, rfl, rfl, hA, hB, Nat.le_of_lt (small1000 (by omega)), fun c1 nc1 => ?_⟩
          rw [← List.map_append]
          have sa := Same.new (o := .lst ((A ++ B).map V.int)) nc1
          have ca : (upd H6 c1 (.lst ((A ++ B).map V.int))) c1 = some (.lst ((A ++ B).map V.int)) := upd_same
          generalize upd H6 c1 (.lst ((A ++ B).map V.int)) = Ha at sa ca
          refine ⟨c1, A ++ B, rfl, SqL.of ca, by rw [List.length_append]; omega, fun l5 C nl5 hpm hs => ?_⟩
          have sb := sa.next (o := .lst (C.map V.int)) nl5
          have cb : (upd Ha l5 (.lst (C.map V.int))) l5 = some (.lst (C.map V.int)) := upd_same
          generalize upd Ha l5 (.lst (C.map V.int)) = Hb at sb cb
          refine ⟨(by show 1 ≤ sizeLine; decide), fun l6 nl6 => ?_⟩
          have sc := sb.next (o := .lst [V.ref l5]) nl6
          have cc : (upd Hb l6 (.lst [V.ref l5])) l6 = some (.lst [V.ref l5]) := upd_same
          have cb' := Same.new (o := .lst [V.ref l5]) nl6 _ _ cb
          generalize upd Hb l6 (.lst [V.ref l5]) = Hc at sc cc cb'
          refine ⟨_, rfl, t, _, _, _, rfl, rfl, SqT.of (sc _ _ t6), rfl, _, rfl, lp, _, rfl, SqL.of (sc _ _ P6), fun l7 nl7 => ?_⟩
          have hrl := LlS.len LR
          have hcl : ∀ (u v : V) (w : List V), cutV (u :: v :: w) (some 2) none = w := fun u v w => by
            simp [cutV, HT.sIx]
          rw [hcl]
          have sd := sc.next (o := .lst yr) nl7
          have cd : (upd Hc l7 (.lst yr)) l7 = some (.lst yr) := upd_same
          have cc' := Same.new (o := .lst yr) nl7 _ _ cc
          have cb'' := Same.new (o := .lst yr) nl7 _ _ cb'
          generalize upd Hc l7 (.lst yr) = Hd at sd cd cc' cb''
          refine ⟨l6, l7, _, _, rfl, rfl, cc', cd, Nat.le_of_lt (small1000 (by rw [List.length_singleton]; omega)), fun l8 nl8 => ?_⟩
          have se := sd.next (o := .lst ([V.ref l5] ++ yr)) nl8
          have ce : (upd Hd l8 (.lst ([V.ref l5] ++ yr))) l8 = some (.lst ([V.ref l5] ++ yr)) := upd_same
          have c5 := Same.new (o := .lst ([V.ref l5] ++ yr)) nl8 _ _ cb''
          generalize upd Hd l8 (.lst ([V.ref l5] ++ yr)) = He at se ce c5
          have Le : LlS He ([V.ref l5] ++ yr) (C :: r) := .cons ⟨l5, rfl, c5⟩ (LlS.same se LR)
          have hpt' := hpt.fewer hpm hs
          have hf' := hpt'.len1
          have s6e := s6.trans se
          refine ⟨_, rfl, true, rfl, iteT ⟨_, rfl, _, rfl, x, l8, m, es, _, C :: r, rfl, hw.same s6e, SqL.of ce, Le, m1, m2, hz, hE, by rw [List.length_cons]; omega, by omega, fun H9 f5 F5 s9 => ?_⟩⟩
          rw [hrk f5 F5, isPt_iff.mpr hpt', Bool.true_and]
          have s69 := s6e.trans s9
          refine ⟨_, rfl, _, rfl, _, rfl, l, l8, m, xs, _, es, C :: r, rfl, SqL.of (s69 _ _ lW), pW.same s69, s9 _ _ ce, LlS.same s9 Le, m1, m2, hz, hE, hpt', fun f6 H10 F6 s10 => ⟨rfl, ?_⟩⟩
          rw [hrk f6 F6, decide_eq_true rfl]
          exact ⟨(se.trans s9).trans s10, _, rfl⟩
      rintro σ' H7 ⟨s67, v11, rfl⟩
      have hy1 : 0 < ys.length := by
        rw [hyl]
        match ls, hfl with
        | [], e => exact absurd e (by show ¬ 0 = m.toNat; omega)
        | _ :: _, _ => exact Nat.succ_pos _
      obtain ⟨gA, A, eA, hA3, gAi⟩ := LP.at hy1
      have gg : ys[0]? = some (.ref gA) := by
        rw [List.getD_eq_getElem?_getD, List.getElem?_eq_getElem hy1] at eA
        rw [List.getElem?_eq_getElem hy1]
        exact congrArg some eA
      have atA : atI ys 0 = some (.ref gA) := atI_nat gg
      obtain ⟨r0, er0, nA, nAl⟩ := NP _ (List.mem_of_getElem? gg)
      injection er0 with er0
      subst er0
      have hAl := flat_le (List.mem_of_getElem? gAi)
      have s37 := (s4.trans s46).trans s67
      have s7 := s6.trans s67
      have t7 := s37 _ _ ht
      have P7 := s37 _ _ eP
      have A7 := s37 _ _ hA3
      refine ⟨_, rfl, t, _, _, _, rfl, rfl, SqT.of t7, rfl, lp, _, _, _, rfl, rfl, SqL.of P7, atA, .inl ⟨rfl, _, SqL.of A7⟩, _, rfl, gA, _, _, rfl, rfl, A7, small1000 (by rw [List.length_map]; omega), ?_⟩
      have t8 : (upd H7 gA (.lst (A.map V.int ++ [V.int m]))) t = some (.tup [.str "parting", .ref lp]) := by rw [upd_ne (tup_ne t7 A7)]; exact t7
      have P8 : (upd H7 gA (.lst (A.map V.int ++ [V.int m]))) lp = some (.lst ys) := by rw [upd_ne (Ne.symm nAl)]; exact P7
      refine ⟨_, rfl, t, _, _, _, rfl, rfl, SqT.of t8, rfl, .inl ⟨rfl, _, SqL.of P8⟩, lp, _, rfl, rfl, P8, ?_⟩
      have s9 : Same HW (upd (upd H7 gA (.lst (A.map V.int ++ [V.int m]))) lp (.lst ys.reverse)) := (s7.upd nA).upd nlp
      have s47 := s46.trans s67
      have far : ∀ {z : Addr} {o : HO}, z ≠ gA → z ≠ lp → H4 z = some o → (upd (upd H7 gA (.lst (A.map V.int ++ [V.int m]))) lp (.lst ys.reverse)) z = some o := fun h1 h2 h => by rw [upd_ne h2, upd_ne h1]; exact s47 _ _ h
      have t9 := far (tup_ne ht' (s4 _ _ hA3)) (tup_ne ht' (s4 _ _ eP)) ht'
      have P9 := far (ne_of_none hA3 nlp').symm (ne_of_none eP nlp').symm eP'
      have ny : ∀ z o, H3 z = some o → ∀ v ∈ ys', v ≠ .ref z := fun z o hz v hv e => by
        obtain ⟨r, er, nr, _⟩ := NP' v hv
        rw [e] at er
        injection er with er
        rw [er, nr] at hz
        exact nomatch hz
      have L9 : LlS (upd (upd H7 gA (.lst (A.map V.int ++ [V.int m]))) lp (.lst ys.reverse)) ys' ls := LlS.updS (ny _ _ eP) (LlS.updS (ny _ _ hA3) (LP'.same s47))
      generalize upd (upd H7 gA (.lst (A.map V.int ++ [V.int m]))) lp (.lst ys.reverse) = H9 at s9 t9 P9 L9
      refine ⟨_, rfl, true, rfl, iteT ⟨_, rfl, x, m, es, rfl, hw.same s9, hz, m1, m2, hE, ?_, ?_⟩⟩
      · intro t' l1' l2' S0' S1' H4 _ _ _ _ _ _ _ q0' q1' p0' p1' _
        exact (nofo q0' q1' p0' p1').elim
      intro t3 lp3 f5 g5 T5 H10 s10 ht3 PO5 F5 L5' PC5 _ _
      obtain ⟨ys3, eP3, LP3, _, _⟩ := PC5.ls
      rw [same_of PO5 L5'] at LP3
      refine ⟨_, rfl, dP2 ls, dP2 ls, dat_P2 ht3 eP3 LP3, dat_P2 (s10 _ _ t9) (s10 _ _ P9) (L9.same s10), shaped_P2 _, shaped_P2 _, ?_⟩
      rw [eqv_P2]
      exact k H10
end
theorem len_1 {us : List Value} (h : us.length = 1) : ∃ a, us = [a] := List.length_eq_one_iff.mp h
theorem len_s {us : List Value} {n : Nat} (h : us.length = n + 1) : ∃ a r, us = a :: r ∧ r.length = n := by
  cases us with
  | nil => cases h
  | cons a r => exact ⟨a, r, rfl, Nat.succ.inj h⟩
theorem len_2 {us : List Value} (h : us.length = 2) : ∃ a b, us = [a, b] := by
  obtain ⟨a, r, rfl, h1⟩ := len_s h
  obtain ⟨b, rfl⟩ := len_1 h1
  exact ⟨a, b, rfl⟩
theorem len_3 {us : List Value} (h : us.length = 3) : ∃ a b c, us = [a, b, c] := by
  obtain ⟨a, r, rfl, h1⟩ := len_s h
  obtain ⟨b, c, rfl⟩ := len_2 h1
  exact ⟨a, b, c, rfl⟩
theorem len_4 {us : List Value} (h : us.length = 4) : ∃ a b c d, us = [a, b, c, d] := by
  obtain ⟨a, r, rfl, h1⟩ := len_s h
  obtain ⟨b, c, d, rfl⟩ := len_3 h1
  exact ⟨a, b, c, d, rfl⟩
theorem len_5 {us : List Value} (h : us.length = 5) : ∃ a b c d e, us = [a, b, c, d, e] := by
  obtain ⟨a, r, rfl, h1⟩ := len_s h
  obtain ⟨b, c, d, e, rfl⟩ := len_4 h1
  exact ⟨a, b, c, d, e, rfl⟩
theorem all_mk {l : PySem.W.OpenLaw} {w : World} {K : PySem.W.Frag} {h : Heap} {mg : Str → Option Value} {fa f1 f2 f3 f4 f5 f6 f7 f8 f9 f10 f11 f12 f13 f14 f15 f16 f17 f18 f19 f20 f21 f22 f23 f24 f25 f26 qWeb : Addr} (X : K.In h) (G : h.Ns mainGlobals mg) (hfa : mg "law" = some (.ref fa))
    {tk1 tk2 : Tok} {od1 an1 od2 an2 od3 an3 od4 an4 od5 an5 od6 an6 od7 an7 od8 an8 od9 an9 od10 an10 od11 an11 od12 an12 od13 an13 od14 an14 od15 an15 od16 an16 od17 an17 od18 an18 od19 an19 od20 an20 od21 an21 od22 an22 od23 an23 od24 an24 od25 an25 od26 an26 : Option Addr} {sl1 sl2 sl3 sl4 sl5 sl6 sl7 sl8 sl9 sl10 sl11 sl12 sl13 sl14 sl15 sl16 sl17 sl18 sl19 sl20 sl21 sl22 sl23 sl24 sl25 sl26 : Array (Option Value)} {oc1 kV1 dc1 pm1 cd1 ct1 oc2 kV2 dc2 pm2 cd2 ct2 oc3 kV3 dc3 pm3 cd3 ct3 oc4 kV4 dc4 pm4 cd4 ct4 oc5 kV5 dc5 pm5 cd5 ct5 oc6 kV6 dc6 pm6 cd6 ct6 oc7 kV7 dc7 pm7 cd7 ct7 oc8 kV8 dc8 pm8 cd8 ct8 oc9 kV9 dc9 pm9 cd9 ct9 oc10 kV10 dc10 pm10 cd10 ct10 oc11 kV11 dc11 pm11 cd11 ct11 oc12 kV12 dc12 pm12 cd12 ct12 oc13 kV13 dc13 pm13 cd13 ct13 oc14 kV14 dc14 pm14 cd14 ct14 oc15 kV15 dc15 pm15 cd15 ct15 oc16 kV16 dc16 pm16 cd16 ct16 oc17 kV17 dc17 pm17 cd17 ct17 oc18 kV18 dc18 pm18 cd18 ct18 oc19 kV19 dc19 pm19 cd19 ct19 oc20 kV20 dc20 pm20 cd20 ct20 oc21 kV21 dc21 pm21 cd21 ct21 oc22 kV22 dc22 pm22 cd22 ct22 oc23 kV23 dc23 pm23 cd23 ct23 oc24 kV24 dc24 pm24 cd24 ct24 oc25 kV25 dc25 pm25 cd25 ct25 oc26 kV26 dc26 pm26 cd26 ct26 : Value}
    (aCWeb : PySem.W.nsIn K mainGlobals "Web" = some (some (.ref qWeb)))
    (a1 : PySem.W.findIn K (.ref qWeb) "__init__" = some (some (.ref f1)))
    (i1 : PySem.W.isFn K (.ref f1) = true)
    (l1 : K.lookup f1 = some ⟨oc1, od1, .func (PySem.W.fnOf "__init__" "Web.__init__" (defArgs sN) (defBody sN) (defScope sN) .none kV1 dc1 pm1 an1 cd1 ct1), sl1⟩)
    (c1 : PySem.W.codeIn K cd1 "Web.__init__" = true)
    (k1 : PySem.W.keepIn K (.ref f1) = true)
    (a2 : PySem.W.nsIn K mainGlobals "merged" = some (some (.ref f2)))
    (l2 : K.lookup f2 = some ⟨oc2, od2, .func (PySem.W.fnOf "merged" "merged" (defArgs sMe) (defBody sMe) (defScope sMe) .none kV2 dc2 pm2 an2 cd2 ct2), sl2⟩)
    (c2 : PySem.W.codeIn K cd2 "merged" = true)
    (k2 : PySem.W.keepIn K (.ref f2) = true)
    (a3 : PySem.W.nsIn K mainGlobals "pieces" = some (some (.ref f3)))
    (l3 : K.lookup f3 = some ⟨oc3, od3, .func (PySem.W.fnOf "pieces" "pieces" (defArgs sPc) (defBody sPc) (defScope sPc) .none kV3 dc3 pm3 an3 cd3 ct3), sl3⟩)
    (c3 : PySem.W.codeIn K cd3 "pieces" = true)
    (k3 : PySem.W.keepIn K (.ref f3) = true)
    (a4 : PySem.W.nsIn K mainGlobals "far_end" = some (some (.ref f4)))
    (l4 : K.lookup f4 = some ⟨oc4, od4, .func (PySem.W.fnOf "far_end" "far_end" (defArgs sFe) (defBody sFe) (defScope sFe) .none kV4 dc4 pm4 an4 cd4 ct4), sl4⟩)
    (c4 : PySem.W.codeIn K cd4 "far_end" = true)
    (k4 : PySem.W.keepIn K (.ref f4) = true)
    (a5 : PySem.W.nsIn K mainGlobals "find_way" = some (some (.ref f5)))
    (l5 : K.lookup f5 = some ⟨oc5, od5, .func (PySem.W.fnOf "find_way" "find_way" (defArgs sFw) (defBody sFw) (defScope sFw) .none kV5 dc5 pm5 an5 cd5 ct5), sl5⟩)
    (c5 : PySem.W.codeIn K cd5 "find_way" = true)
    (k5 : PySem.W.keepIn K (.ref f5) = true)
    (a6 : PySem.W.nsIn K mainGlobals "way_back" = some (some (.ref f6)))
    (l6 : K.lookup f6 = some ⟨oc6, od6, .func (PySem.W.fnOf "way_back" "way_back" (defArgs sWb) (defBody sWb) (defScope sWb) .none kV6 dc6 pm6 an6 cd6 ct6), sl6⟩)
    (c6 : PySem.W.codeIn K cd6 "way_back" = true)
    (k6 : PySem.W.keepIn K (.ref f6) = true)
    (a7 : PySem.W.nsIn K mainGlobals "ties_of" = some (some (.ref f7)))
    (l7 : K.lookup f7 = some ⟨oc7, od7, .func (PySem.W.fnOf "ties_of" "ties_of" (defArgs sTo) (defBody sTo) (defScope sTo) .none kV7 dc7 pm7 an7 cd7 ct7), sl7⟩)
    (c7 : PySem.W.codeIn K cd7 "ties_of" = true)
    (k7 : PySem.W.keepIn K (.ref f7) = true)
    (a8 : PySem.W.nsIn K mainGlobals "asked_from" = some (some (.ref f8)))
    (l8 : K.lookup f8 = some ⟨oc8, od8, .func (PySem.W.fnOf "asked_from" "asked_from" (defArgs sAf) (defBody sAf) (defScope sAf) .none kV8 dc8 pm8 an8 cd8 ct8), sl8⟩)
    (c8 : PySem.W.codeIn K cd8 "asked_from" = true)
    (k8 : PySem.W.keepIn K (.ref f8) = true)
    (a9 : PySem.W.nsIn K mainGlobals "moved" = some (some (.ref f9)))
    (l9 : K.lookup f9 = some ⟨oc9, od9, .func (PySem.W.fnOf "moved" "moved" (defArgs sMv) (defBody sMv) (defScope sMv) .none kV9 dc9 pm9 an9 cd9 ct9), sl9⟩)
    (c9 : PySem.W.codeIn K cd9 "moved" = true)
    (k9 : PySem.W.keepIn K (.ref f9) = true)
    (a10 : PySem.W.nsIn K mainGlobals "grown_forests" = some (some (.ref f10)))
    (l10 : K.lookup f10 = some ⟨oc10, od10, .func (PySem.W.fnOf "grown_forests" "grown_forests" (defArgs sGf) (defBody sGf) (defScope sGf) .none kV10 dc10 pm10 an10 cd10 ct10), sl10⟩)
    (c10 : PySem.W.codeIn K cd10 "grown_forests" = true)
    (k10 : PySem.W.keepIn K (.ref f10) = true)
    (a11 : PySem.W.nsIn K mainGlobals "parting_of" = some (some (.ref f11)))
    (l11 : K.lookup f11 = some ⟨oc11, od11, .func (PySem.W.fnOf "parting_of" "parting_of" (defArgs sPo) (defBody sPo) (defScope sPo) .none kV11 dc11 pm11 an11 cd11 ct11), sl11⟩)
    (c11 : PySem.W.codeIn K cd11 "parting_of" = true)
    (k11 : PySem.W.keepIn K (.ref f11) = true)
    (a12 : PySem.W.nsIn K mainGlobals "two_forests" = some (some (.ref f12)))
    (l12 : K.lookup f12 = some ⟨oc12, od12, .func (PySem.W.fnOf "two_forests" "two_forests" (defArgs sTf) (defBody sTf) (defScope sTf) .none kV12 dc12 pm12 an12 cd12 ct12), sl12⟩)
    (c12 : PySem.W.codeIn K cd12 "two_forests" = true)
    (k12 : PySem.W.keepIn K (.ref f12) = true)
    (a13 : PySem.W.nsIn K mainGlobals "is_parting" = some (some (.ref f13)))
    (l13 : K.lookup f13 = some ⟨oc13, od13, .func (PySem.W.fnOf "is_parting" "is_parting" (defArgs sIp) (defBody sIp) (defScope sIp) .none kV13 dc13 pm13 an13 cd13 ct13), sl13⟩)
    (c13 : PySem.W.codeIn K cd13 "is_parting" = true)
    (k13 : PySem.W.keepIn K (.ref f13) = true)
    (a14 : PySem.W.nsIn K mainGlobals "crosses" = some (some (.ref f14)))
    (l14 : K.lookup f14 = some ⟨oc14, od14, .func (PySem.W.fnOf "crosses" "crosses" (defArgs sCr) (defBody sCr) (defScope sCr) .none kV14 dc14 pm14 an14 cd14 ct14), sl14⟩)
    (c14 : PySem.W.codeIn K cd14 "crosses" = true)
    (k14 : PySem.W.keepIn K (.ref f14) = true)
    (a15 : PySem.W.nsIn K mainGlobals "parting_shows" = some (some (.ref f15)))
    (l15 : K.lookup f15 = some ⟨oc15, od15, .func (PySem.W.fnOf "parting_shows" "parting_shows" (defArgs sSw) (defBody sSw) (defScope sSw) .none kV15 dc15 pm15 an15 cd15 ct15), sl15⟩)
    (c15 : PySem.W.codeIn K cd15 "parting_shows" = true)
    (k15 : PySem.W.keepIn K (.ref f15) = true)
    (a16 : PySem.W.nsIn K mainGlobals "_law_cell" = some (some (.ref f16)))
    (l16 : K.lookup f16 = some ⟨oc16, od16, .func (PySem.W.fnOf "_law_cell" "_law_cell" (defArgs sC) (defBody sC) (defScope sC) .none kV16 dc16 pm16 an16 cd16 ct16), sl16⟩)
    (c16 : PySem.W.codeIn K cd16 "_law_cell" = true)
    (k16 : PySem.W.keepIn K (.ref f16) = true)
    (a17 : PySem.W.nsIn K mainGlobals "_law_whole" = some (some (.ref f17)))
    (l17 : K.lookup f17 = some ⟨oc17, od17, .func (PySem.W.fnOf "_law_whole" "_law_whole" (defArgs sH) (defBody sH) (defScope sH) .none kV17 dc17 pm17 an17 cd17 ct17), sl17⟩)
    (c17 : PySem.W.codeIn K cd17 "_law_whole" = true)
    (k17 : PySem.W.keepIn K (.ref f17) = true)
    (a18 : PySem.W.nsIn K mainGlobals "_law_ends" = some (some (.ref f18)))
    (l18 : K.lookup f18 = some ⟨oc18, od18, .func (PySem.W.fnOf "_law_ends" "_law_ends" (defArgs sE) (defBody sE) (defScope sE) .none kV18 dc18 pm18 an18 cd18 ct18), sl18⟩)
    (c18 : PySem.W.codeIn K cd18 "_law_ends" = true)
    (k18 : PySem.W.keepIn K (.ref f18) = true)
    (a19 : PySem.W.nsIn K mainGlobals "_law_drawn" = some (some (.ref f19)))
    (l19 : K.lookup f19 = some ⟨oc19, od19, .func (PySem.W.fnOf "_law_drawn" "_law_drawn" (defArgs sD) (defBody sD) (defScope sD) .none kV19 dc19 pm19 an19 cd19 ct19), sl19⟩)
    (c19 : PySem.W.codeIn K cd19 "_law_drawn" = true)
    (k19 : PySem.W.keepIn K (.ref f19) = true)
    (a20 : PySem.W.nsIn K mainGlobals "_law_names" = some (some (.ref f20)))
    (l20 : K.lookup f20 = some ⟨oc20, od20, .func (PySem.W.fnOf "_law_names" "_law_names" (defArgs sNm) (defBody sNm) (defScope sNm) .none kV20 dc20 pm20 an20 cd20 ct20), sl20⟩)
    (c20 : PySem.W.codeIn K cd20 "_law_names" = true)
    (k20 : PySem.W.keepIn K (.ref f20) = true)
    (a21 : PySem.W.nsIn K mainGlobals "_law_forest" = some (some (.ref f21)))
    (l21 : K.lookup f21 = some ⟨oc21, od21, .func (PySem.W.fnOf "_law_forest" "_law_forest" (defArgs sFo) (defBody sFo) (defScope sFo) .none kV21 dc21 pm21 an21 cd21 ct21), sl21⟩)
    (c21 : PySem.W.codeIn K cd21 "_law_forest" = true)
    (k21 : PySem.W.keepIn K (.ref f21) = true)
    (a22 : PySem.W.nsIn K mainGlobals "_law_two_trees" = some (some (.ref f22)))
    (l22 : K.lookup f22 = some ⟨oc22, od22, .func (PySem.W.fnOf "_law_two_trees" "_law_two_trees" (defArgs sTt) (defBody sTt) (defScope sTt) .none kV22 dc22 pm22 an22 cd22 ct22), sl22⟩)
    (c22 : PySem.W.codeIn K cd22 "_law_two_trees" = true)
    (k22 : PySem.W.keepIn K (.ref f22) = true)
    (a23 : PySem.W.nsIn K mainGlobals "_law_pieces" = some (some (.ref f23)))
    (l23 : K.lookup f23 = some ⟨oc23, od23, .func (PySem.W.fnOf "_law_pieces" "_law_pieces" (defArgs sLp) (defBody sLp) (defScope sLp) .none kV23 dc23 pm23 an23 cd23 ct23), sl23⟩)
    (c23 : PySem.W.codeIn K cd23 "_law_pieces" = true)
    (k23 : PySem.W.keepIn K (.ref f23) = true)
    (a24 : PySem.W.nsIn K mainGlobals "_law_forests" = some (some (.ref f24)))
    (l24 : K.lookup f24 = some ⟨oc24, od24, .func (PySem.W.fnOf "_law_forests" "_law_forests" (defArgs sFs) (defBody sFs) (defScope sFs) .none kV24 dc24 pm24 an24 cd24 ct24), sl24⟩)
    (c24 : PySem.W.codeIn K cd24 "_law_forests" = true)
    (k24 : PySem.W.keepIn K (.ref f24) = true)
    (a25 : PySem.W.nsIn K mainGlobals "_law_parts" = some (some (.ref f25)))
    (l25 : K.lookup f25 = some ⟨oc25, od25, .func (PySem.W.fnOf "_law_parts" "_law_parts" (defArgs sPa) (defBody sPa) (defScope sPa) .none kV25 dc25 pm25 an25 cd25 ct25), sl25⟩)
    (c25 : PySem.W.codeIn K cd25 "_law_parts" = true)
    (k25 : PySem.W.keepIn K (.ref f25) = true)
    (a26 : PySem.W.nsIn K mainGlobals "law" = some (some (.ref f26)))
    (l26 : K.lookup f26 = some ⟨oc26, od26, .func (PySem.W.fnOf "law" "law" (defArgs sL) (defBody sL) (defScope sL) .none kV26 dc26 pm26 an26 cd26 ct26), sl26⟩)
    (c26 : PySem.W.codeIn K cd26 "law" = true)
    (k26 : PySem.W.keepIn K (.ref f26) = true)
    (pg : PySem.W.plainGet K qWeb Str.empty = true)
    (hd : PySem.W.hasDictIn K qWeb = true)
    (po : PySem.W.plainOver K qWeb = true)
    (sa : PySem.W.findIn K (.ref qWeb) "__setattr__" = some (some (.builtin "object.__setattr__")))
    (nM : PySem.W.findIn K (.ref qWeb) "many" = some none)
    (nT : PySem.W.findIn K (.ref qWeb) "ties" = some none)
    (ca : PySem.W.findIn K (.ref qWeb) "__class__" = some (some (.builtin "object.__class__")))
    (cg : PySem.W.specialIn K (.builtin "object.__class__") "__get__" = some (some (.builtin "getset_descriptor.__get__")))
    (ck : PySem.W.takesIn K (.builtin "object.__class__") = some true)
    (co : PySem.W.mroIn K qWeb (.type "object") = some true)
    (mk : PySem.W.makesIn K qWeb = true)
    (kc : PySem.W.keepIn K (.ref qWeb) = true)
    (mp : PySem.W.nsIn K mainGlobals "MOST_PLACES" = some (some (.int 20 tk1)))
    (mt : PySem.W.nsIn K mainGlobals "MOST_TIES" = some (some (.int 40 tk2)))
    (z0 : PySem.W.nsIn K mainGlobals "abs" = some none)
    (z1 : PySem.W.nsIn K mainGlobals "all" = some none)
    (z2 : PySem.W.nsIn K mainGlobals "any" = some none)
    (z3 : PySem.W.nsIn K mainGlobals "bool" = some none)
    (z4 : PySem.W.nsIn K mainGlobals "dict" = some none)
    (z5 : PySem.W.nsIn K mainGlobals "enumerate" = some none)
    (z6 : PySem.W.nsIn K mainGlobals "int" = some none)
    (z7 : PySem.W.nsIn K mainGlobals "isinstance" = some none)
    (z8 : PySem.W.nsIn K mainGlobals "len" = some none)
    (z9 : PySem.W.nsIn K mainGlobals "list" = some none)
    (z10 : PySem.W.nsIn K mainGlobals "max" = some none)
    (z11 : PySem.W.nsIn K mainGlobals "min" = some none)
    (z12 : PySem.W.nsIn K mainGlobals "range" = some none)
    (z13 : PySem.W.nsIn K mainGlobals "sorted" = some none)
    (z14 : PySem.W.nsIn K mainGlobals "sum" = some none)
    (z15 : PySem.W.nsIn K mainGlobals "tuple" = some none) :
    ∃ fd : FuncData, (∀ (s : Shared) (v : Value), BindsTo s fd ⟨[v], []⟩ [("script", v)]) ∧ ∀ base : Heap, K.In base → base.Ns mainGlobals mg → FnOk l.prog w K mg base CX0 7 fa fd ["script"] (spLaw K) := by
  have e := hfa.symm.trans (PySem.W.mg_of X G a26)
  cases e
  have T : Txt K mg (⟨qWeb⟩ : Cs) := ⟨PySem.W.mg_none_of X G z0, PySem.W.mg_none_of X G z1, PySem.W.mg_none_of X G z2, PySem.W.mg_none_of X G z3, PySem.W.mg_none_of X G z4, PySem.W.mg_none_of X G z5, PySem.W.mg_none_of X G z6, PySem.W.mg_none_of X G z7, PySem.W.mg_none_of X G z8, PySem.W.mg_none_of X G z9, PySem.W.mg_none_of X G z10, PySem.W.mg_none_of X G z11, PySem.W.mg_none_of X G z12, PySem.W.mg_none_of X G z13, PySem.W.mg_none_of X G z14, PySem.W.mg_none_of X G z15, PySem.W.mg_of X G aCWeb, ⟨⟨pg, hd, po, sa⟩, nM, nT, ca, cg, ck, co⟩, ⟨_, PySem.W.mg_of X G mp⟩, ⟨_, PySem.W.mg_of X G mt⟩⟩
  have F1 := fun_mk (st := sN) l1 c1 k1
  have F2 := fun_mk (st := sMe) l2 c2 k2
  have F3 := fun_mk (st := sPc) l3 c3 k3
  have F4 := fun_mk (st := sFe) l4 c4 k4
  have F5 := fun_mk (st := sFw) l5 c5 k5
  have F6 := fun_mk (st := sWb) l6 c6 k6
  have F7 := fun_mk (st := sTo) l7 c7 k7
  have F8 := fun_mk (st := sAf) l8 c8 k8
  have F9 := fun_mk (st := sMv) l9 c9 k9
  have F10 := fun_mk (st := sGf) l10 c10 k10
  have F11 := fun_mk (st := sPo) l11 c11 k11
  have F12 := fun_mk (st := sTf) l12 c12 k12
  have F13 := fun_mk (st := sIp) l13 c13 k13
  have F14 := fun_mk (st := sCr) l14 c14 k14
  have F15 := fun_mk (st := sSw) l15 c15 k15
  have F16 := fun_mk (st := sC) l16 c16 k16
  have F17 := fun_mk (st := sH) l17 c17 k17
  have F18 := fun_mk (st := sE) l18 c18 k18
  have F19 := fun_mk (st := sD) l19 c19 k19
  have F20 := fun_mk (st := sNm) l20 c20 k20
  have F21 := fun_mk (st := sFo) l21 c21 k21
  have F22 := fun_mk (st := sTt) l22 c22 k22
  have F23 := fun_mk (st := sLp) l23 c23 k23
  have F24 := fun_mk (st := sFs) l24 c24 k24
  have F25 := fun_mk (st := sPa) l25 c25 k25
  have F26 := fun_mk (st := sL) l26 c26 k26
  have b1 := F1.binds (ps := ["self", "many", "ties"]) fun _ _ _ _ _ _ us hl => by obtain ⟨_, _, _, rfl⟩ := len_3 hl; rfl
  have b2 := F2.binds (ps := ["labels", "one", "two"]) fun _ _ _ _ _ _ us hl => by obtain ⟨_, _, _, rfl⟩ := len_3 hl; rfl
  have b3 := F3.binds (ps := ["web"]) fun _ _ _ _ _ _ us hl => by obtain ⟨_, rfl⟩ := len_1 hl; rfl
  have b4 := F4.binds (ps := ["web", "tie", "place"]) fun _ _ _ _ _ _ us hl => by obtain ⟨_, _, _, rfl⟩ := len_3 hl; rfl
  have b5 := F5.binds (ps := ["web", "some", "start", "goal"]) fun _ _ _ _ _ _ us hl => by obtain ⟨_, _, _, _, rfl⟩ := len_4 hl; rfl
  have b6 := F6.binds (ps := ["web", "tie", "some"]) fun _ _ _ _ _ _ us hl => by obtain ⟨_, _, _, rfl⟩ := len_3 hl; rfl
  have b7 := F7.binds (ps := ["owners", "owner"]) fun _ _ _ _ _ _ us hl => by obtain ⟨_, _, rfl⟩ := len_2 hl; rfl
  have b8 := F8.binds (ps := ["web", "owners", "starts"]) fun _ _ _ _ _ _ us hl => by obtain ⟨_, _, _, rfl⟩ := len_3 hl; rfl
  have b9 := F9.binds (ps := ["owners", "askers", "taken"]) fun _ _ _ _ _ _ us hl => by obtain ⟨_, _, _, rfl⟩ := len_3 hl; rfl
  have b10 := F10.binds (ps := ["web"]) fun _ _ _ _ _ _ us hl => by obtain ⟨_, rfl⟩ := len_1 hl; rfl
  have b11 := F11.binds (ps := ["web", "owners"]) fun _ _ _ _ _ _ us hl => by obtain ⟨_, _, rfl⟩ := len_2 hl; rfl
  have b12 := F12.binds (ps := ["web"]) fun _ _ _ _ _ _ us hl => by obtain ⟨_, rfl⟩ := len_1 hl; rfl
  have b13 := F13.binds (ps := ["web", "lists"]) fun _ _ _ _ _ _ us hl => by obtain ⟨_, _, rfl⟩ := len_2 hl; rfl
  have b14 := F14.binds (ps := ["lists", "ends"]) fun _ _ _ _ _ _ us hl => by obtain ⟨_, _, rfl⟩ := len_2 hl; rfl
  have b15 := F15.binds (ps := ["web", "lists"]) fun _ _ _ _ _ _ us hl => by obtain ⟨_, _, rfl⟩ := len_2 hl; rfl
  have b16 := F16.binds (ps := ["script", "k"]) fun _ _ _ _ _ _ us hl => by obtain ⟨_, _, rfl⟩ := len_2 hl; rfl
  have b17 := F17.binds (ps := ["found"]) fun _ _ _ _ _ _ us hl => by obtain ⟨_, rfl⟩ := len_1 hl; rfl
  have b18 := F18.binds (ps := ["script", "many", "count", "way"]) fun _ _ _ _ _ _ us hl => by obtain ⟨_, _, _, _, rfl⟩ := len_4 hl; rfl
  have b19 := F19.binds (ps := ["script", "most", "bound"]) fun _ _ _ _ _ _ us hl => by obtain ⟨_, _, _, rfl⟩ := len_3 hl; rfl
  have b20 := F20.binds (ps := ["many", "ends", "some"]) fun _ _ _ _ _ _ us hl => by obtain ⟨_, _, _, rfl⟩ := len_3 hl; rfl
  have b21 := F21.binds (ps := ["many", "ends", "order"]) fun _ _ _ _ _ _ us hl => by obtain ⟨_, _, _, rfl⟩ := len_3 hl; rfl
  have b22 := F22.binds (ps := ["script"]) fun _ _ _ _ _ _ us hl => by obtain ⟨_, rfl⟩ := len_1 hl; rfl
  have b23 := F23.binds (ps := ["many", "ends"]) fun _ _ _ _ _ _ us hl => by obtain ⟨_, _, rfl⟩ := len_2 hl; rfl
  have b24 := F24.binds (ps := ["many", "ends", "one", "two"]) fun _ _ _ _ _ _ us hl => by obtain ⟨_, _, _, _, rfl⟩ := len_4 hl; rfl
  have b25 := F25.binds (ps := ["many", "ends", "lists"]) fun _ _ _ _ _ _ us hl => by obtain ⟨_, _, _, rfl⟩ := len_3 hl; rfl
  refine ⟨PySem.W.fnOf "law" "law" (defArgs sL) (defBody sL) (defScope sL) .none kV26 dc26 pm26 an26 cd26 ct26, fun s v => .of_eq rfl, fun base _ _ => ?_⟩
  have D_N : MkDef l.prog w K mg base 1 "Web" qWeb ["self", "many", "ties"] (spInit K qWeb) := ⟨f1, _, ⟨mk, a1, i1, kc⟩, ok_N F1 T, b1, PySem.W.mg_of X G aCWeb⟩
  have D_Me : Def l.prog w K mg base 1 "merged" ["labels", "one", "two"] (spMe K) := .of F2 (PySem.W.mg_of X G a2) b2 (ok_Me F2 T )
  have D_Pc : Def l.prog w K mg base 2 "pieces" ["web"] (spPc K (⟨qWeb⟩ : Cs)) := .of F3 (PySem.W.mg_of X G a3) b3 (ok_Pc F3 T D_Me)
  have D_Fe : Def l.prog w K mg base 1 "far_end" ["web", "tie", "place"] (spFe K (⟨qWeb⟩ : Cs)) := .of F4 (PySem.W.mg_of X G a4) b4 (ok_Fe F4 T )
  have D_Fw : Def l.prog w K mg base 2 "find_way" ["web", "some", "start", "goal"] (spFw K (⟨qWeb⟩ : Cs)) := .of F5 (PySem.W.mg_of X G a5) b5 (ok_Fw F5 T D_Fe)
  have D_Wb : Def l.prog w K mg base 3 "way_back" ["web", "tie", "some"] (spWb K (⟨qWeb⟩ : Cs)) := .of F6 (PySem.W.mg_of X G a6) b6 (ok_Wb F6 T D_Fw)
  have D_To : Def l.prog w K mg base 1 "ties_of" ["owners", "owner"] (spTo K) := .of F7 (PySem.W.mg_of X G a7) b7 (ok_To F7 T )
  have D_Af : Def l.prog w K mg base 4 "asked_from" ["web", "owners", "starts"] (spAf K (⟨qWeb⟩ : Cs)) := .of F8 (PySem.W.mg_of X G a8) b8 (ok_Af F8 T D_To D_Wb)
  have D_Mv : Def l.prog w K mg base 1 "moved" ["owners", "askers", "taken"] (spMv K) := .of F9 (PySem.W.mg_of X G a9) b9 (ok_Mv F9 T )
  have D_Gf : Def l.prog w K mg base 5 "grown_forests" ["web"] (spGf K (⟨qWeb⟩ : Cs)) := .of F10 (PySem.W.mg_of X G a10) b10 (ok_Gf F10 T D_Af D_Mv)
  have D_Po : Def l.prog w K mg base 5 "parting_of" ["web", "owners"] (spPo K (⟨qWeb⟩ : Cs)) := .of F11 (PySem.W.mg_of X G a11) b11 (ok_Po F11 T D_Af D_To D_Pc D_N)
  have D_Tf : Def l.prog w K mg base 6 "two_forests" ["web"] (spTf K (⟨qWeb⟩ : Cs)) := .of F12 (PySem.W.mg_of X G a12) b12 (ok_Tf F12 T D_Gf D_To D_Pc D_Po)
  have D_Ip : Def l.prog w K mg base 1 "is_parting" ["web", "lists"] (spIp K (⟨qWeb⟩ : Cs)) := .of F13 (PySem.W.mg_of X G a13) b13 (ok_Ip F13 T )
  have D_Cr : Def l.prog w K mg base 1 "crosses" ["lists", "ends"] (spCr K) := .of F14 (PySem.W.mg_of X G a14) b14 (ok_Cr F14 T )
  have D_Sw : Def l.prog w K mg base 3 "parting_shows" ["web", "lists"] (spSw K (⟨qWeb⟩ : Cs)) := .of F15 (PySem.W.mg_of X G a15) b15 (ok_Sw F15 T D_Ip D_Cr D_Pc)
  have D_C : Def l.prog w K mg base 1 "_law_cell" ["script", "k"] (spC K) := .of F16 (PySem.W.mg_of X G a16) b16 (ok_C F16 T )
  have D_H : Def l.prog w K mg base 1 "_law_whole" ["found"] (spH K) := .of F17 (PySem.W.mg_of X G a17) b17 (ok_H F17 T )
  have D_E : Def l.prog w K mg base 2 "_law_ends" ["script", "many", "count", "way"] (spE K) := .of F18 (PySem.W.mg_of X G a18) b18 (ok_E F18 T D_C)
  have D_D : Def l.prog w K mg base 3 "_law_drawn" ["script", "most", "bound"] (spD K) := .of F19 (PySem.W.mg_of X G a19) b19 (ok_D F19 T D_C D_E)
  have D_Nm : Def l.prog w K mg base 1 "_law_names" ["many", "ends", "some"] (spNm K) := .of F20 (PySem.W.mg_of X G a20) b20 (ok_Nm F20 T )
  have D_Fo : Def l.prog w K mg base 1 "_law_forest" ["many", "ends", "order"] (spFo K) := .of F21 (PySem.W.mg_of X G a21) b21 (ok_Fo F21 T )
  have D_Tt : Def l.prog w K mg base 2 "_law_two_trees" ["script"] (spTt K) := .of F22 (PySem.W.mg_of X G a22) b22 (ok_Tt F22 T D_C)
  have D_Lp : Def l.prog w K mg base 2 "_law_pieces" ["many", "ends"] (spLp K) := .of F23 (PySem.W.mg_of X G a23) b23 (ok_Lp F23 T D_Nm)
  have D_Fs : Def l.prog w K mg base 3 "_law_forests" ["many", "ends", "one", "two"] (spFs K) := .of F24 (PySem.W.mg_of X G a24) b24 (ok_Fs F24 T D_H D_Lp D_Fo)
  have D_Pa : Def l.prog w K mg base 3 "_law_parts" ["many", "ends", "lists"] (spPa K) := .of F25 (PySem.W.mg_of X G a25) b25 (ok_Pa F25 T D_H D_Lp)
  exact ok_L F26 T D_D D_Tt D_Tf D_Sw D_Fs D_Pa D_N
theorem walk {l : PySem.W.OpenLaw} {q : Program} {loose : List Str} {XP : (Str → Option Value) → Heap → Prop} {YP : World → Heap → Prop} {d : DefRec} {K : Params → PySem.W.Frag} (hn : l.most = some 63) (hdf : d.params.defaults = [])
    (hY : ∀ (w : World) (h : Heap), YP w h → (K w.params).In h)
    (F : ∀ (w : World) (mg : Str → Option Value) (fa : Addr) (h : Heap), (K w.params).In h → h.Ns mainGlobals mg → mg d.name = some (.ref fa) →
      ∃ fd : FuncData, (∀ (s : Shared) (u : Value), BindsTo s fd ⟨[u], []⟩ [("script", u)]) ∧ ∀ base : Heap, (K w.params).In base → base.Ns mainGlobals mg → FnOk l.prog w (K w.params) mg base CX0 7 fa fd ["script"] (spLaw (K w.params))) :
    PySem.W.WalkO q loose XP YP l.row.toRowW d [] (fun f vs => PySem.call f vs) :=
  L2.walk_of (n := 63) (k := 7) (x := "script") (CX := fun _ => CX0) (sp := fun w => spLaw (K w.params)) hn (by decide) hdf ⟨rfl, by decide, by decide⟩ hY F (fun _ _ a ns hl _ hS => ⟨a, ns, rfl, hS, hl, fun _ => rfl⟩) fun _ _ _ _ _ z => z
end Pk
namespace PySem.W.Fast
theorem tw13993057849967902713 : True := ⟨⟩
theorem tw14309426225178265820 : True := ⟨⟩
theorem tw17397926392729979500 : True := ⟨⟩
theorem tw15543850471106386229 : True := ⟨⟩
theorem tw4172853765415861227 : True := ⟨⟩
theorem tw11824817995921534242 : True := ⟨⟩
theorem tw15614458650748282133 : True := ⟨⟩
theorem tw1976340094558564939 : True := ⟨⟩
theorem tw16572166960072008372 : True := ⟨⟩
theorem tw12761867905666295806 : True := ⟨⟩
theorem tw10442494174911665255 : True := ⟨⟩
theorem tw6391995001287761094 : True := ⟨⟩
theorem tw3180231681554488629 : True := ⟨⟩
theorem tw12103463488430951560 : True := ⟨⟩
theorem tw2020222282924193325 : True := ⟨⟩
theorem tw3837074749544675739 : True := ⟨⟩
theorem tw13433868653386693755 : True := ⟨⟩
theorem tw16904537245958550912 : True := ⟨⟩
theorem tw9110860918295603547 : True := ⟨⟩
theorem tw698956925926119490 : True := ⟨⟩
theorem tw8376123298233394348 : True := ⟨⟩
theorem tw2656403947155471424 : True := ⟨⟩
theorem tw14855507869160789578 : True := ⟨⟩
theorem tw8224311483049686821 : True := ⟨⟩
theorem tw11330579488336389952 : True := ⟨⟩
theorem tw4532164974226212773 : True := ⟨⟩
theorem tw4612308853348700153 : True := ⟨⟩
theorem tw13140919329994160696 : True := ⟨⟩
theorem tw18318536266289823588 : True := ⟨⟩
theorem tw13555677278974692010 : True := ⟨⟩
theorem tw2147620069856322517 : True := ⟨⟩
theorem tw12500475400994830195 : True := ⟨⟩
theorem tw12509639695262805115 : True := ⟨⟩
theorem tw17009078070135911057 : True := ⟨⟩
theorem tw1254865640155470402 : True := ⟨⟩
theorem tw8581899687914918824 : True := ⟨⟩
theorem tw3529212084844190098 : True := ⟨⟩
theorem tw8885378841403336640 : True := ⟨⟩
theorem tw14762287465116658184 : True := ⟨⟩
theorem tw12408561386615556372 : True := ⟨⟩
theorem tw58330791524062866 : True := ⟨⟩
theorem tw8899421383961028147 : True := ⟨⟩
theorem tw9196267258320224055 : True := ⟨⟩
theorem tw8152502089503448064 : True := ⟨⟩
theorem tw16150935196623663361 : True := ⟨⟩
theorem tw3254376995952496883 : True := ⟨⟩
theorem tw13120860415337451695 : True := ⟨⟩
theorem tw11157544230197378114 : True := ⟨⟩
theorem tw7543543189001550619 : True := ⟨⟩
theorem tw14856585032207363151 : True := ⟨⟩
theorem tw883200411158043016 : True := ⟨⟩
theorem tw16617899359352694647 : True := ⟨⟩
theorem tw11335044465755829620 : True := ⟨⟩
theorem tw6436201439323734030 : True := ⟨⟩
theorem tw6819363983338494446 : True := ⟨⟩
theorem tw8835730480467360760 : True := ⟨⟩
theorem tw1805133462850289167 : True := ⟨⟩
theorem tw8990212853034625779 : True := ⟨⟩
theorem tw8543307644456852001 : True := ⟨⟩
theorem tw14136400294866230259 : True := ⟨⟩
theorem tw4873959359022537215 : True := ⟨⟩
theorem tw5985995446471774218 : True := ⟨⟩
theorem tw821964380820081251 : True := ⟨⟩
theorem tw4758409253928975110 : True := ⟨⟩
theorem tw5285130223859576723 : True := ⟨⟩
theorem tw3165514285147980115 : True := ⟨⟩
theorem tw18067850672514926687 : True := ⟨⟩
theorem tw13559222474752549884 : True := ⟨⟩
theorem tw4024570528591375606 : True := ⟨⟩
theorem tw16424595693217400314 : True := ⟨⟩
theorem tw12656689462971521529 : True := ⟨⟩
theorem tw15182701368308852684 : True := ⟨⟩
theorem tw16158534774955174468 : True := ⟨⟩
theorem tw6380140617913510907 : True := ⟨⟩
theorem tw8770769457361488786 : True := ⟨⟩
theorem tw12076248749367576579 : True := ⟨⟩
theorem tw3236649617548273418 : True := ⟨⟩
theorem tw11433107083297877707 : True := ⟨⟩
theorem tw8552275443198363151 : True := ⟨⟩
theorem tw1154381130170598525 : True := ⟨⟩
theorem tw8391037437913527038 : True := ⟨⟩
theorem tw4025413580883932834 : True := ⟨⟩
theorem tw16827143962078812609 : True := ⟨⟩
theorem tw10587940723617508038 : True := ⟨⟩
theorem tw14437158988052739441 : True := ⟨⟩
theorem tw12121952160914176531 : True := ⟨⟩
theorem tw18254297629185719721 : True := ⟨⟩
theorem tw9230376228934394946 : True := ⟨⟩
theorem tw18149407460012762047 : True := ⟨⟩
theorem tw3686484671227911955 : True := ⟨⟩
theorem tw484764835127532282 : True := ⟨⟩
theorem tw11746142673138172199 : True := ⟨⟩
theorem tw8284846910372580064 : True := ⟨⟩
theorem tw2622095471470885002 : True := ⟨⟩
theorem tw16771502451877043249 : True := ⟨⟩
theorem tw8312779577658378789 : True := ⟨⟩
theorem tw2220621909470521338 : True := ⟨⟩
theorem tw8749290715857371755 : True := ⟨⟩
theorem tw11279672890054816572 : True := ⟨⟩
theorem tw8125108499118863443 : True := ⟨⟩
theorem tw2776144412389695408 : True := ⟨⟩
theorem tw12752318932029202529 : True := ⟨⟩
theorem tw12916093464689493094 : True := ⟨⟩
theorem tw9285381279298198032 : True := ⟨⟩
theorem tw5555605925598550440 : True := ⟨⟩
theorem tw3531800617125903438 : True := ⟨⟩
theorem tw10572102932035298988 : True := ⟨⟩
theorem tw4703414312965535171 : True := ⟨⟩
theorem tw9605454516926351205 : True := ⟨⟩
theorem tw801173929063262945 : True := ⟨⟩
theorem tw3294000006479570103 : True := ⟨⟩
theorem tw2382559224805649590 : True := ⟨⟩
theorem tw18374980449760061934 : True := ⟨⟩
theorem tw15623252298844345901 : True := ⟨⟩
theorem tw17799119404330384616 : True := ⟨⟩
theorem tw6703655004935500976 : True := ⟨⟩
theorem tw3608508772773152492 : True := ⟨⟩
theorem tw8176701663755551836 : True := ⟨⟩
theorem tw13183764960773099750 : True := ⟨⟩
theorem tw1782824012304081957 : True := ⟨⟩
theorem tw3858661400854998948 : True := ⟨⟩
theorem tw13105310610662509893 : True := ⟨⟩
theorem tw17836804342321434399 : True := ⟨⟩
theorem tw12149340280595489634 : True := ⟨⟩
theorem tw9575996998529254830 : True := ⟨⟩
theorem tw12558701361917083045 : True := ⟨⟩
theorem tw7709513387632446446 : True := ⟨⟩
theorem tw14548579351403914467 : True := ⟨⟩
theorem tw8102907646884028731 : True := ⟨⟩
theorem tw4079674642637936104 : True := ⟨⟩
theorem tw8291382977891548206 : True := ⟨⟩
theorem tw2197943140432345384 : True := ⟨⟩
theorem tw7602534932384444812 : True := ⟨⟩
theorem tw13736854653541786627 : True := ⟨⟩
theorem tw15009597002015622751 : True := ⟨⟩
theorem tw17159489432448563506 : True := ⟨⟩
theorem tw18099066996986610046 : True := ⟨⟩
theorem tw3136170014332031814 : True := ⟨⟩
theorem tw6215574777842096741 : True := ⟨⟩
theorem tw1561934760895555102 : True := ⟨⟩
theorem tw10038773608980486673 : True := ⟨⟩
theorem tw3637744946028158580 : True := ⟨⟩
theorem tw13292619233224449953 : True := ⟨⟩
theorem tw15743819101667808307 : True := ⟨⟩
theorem tw14495651743829750120 : True := ⟨⟩
theorem tw8552157498528914656 : True := ⟨⟩
theorem tw430507093996798346 : True := ⟨⟩
theorem tw15160484800359146550 : True := ⟨⟩
theorem tw3450689643707028781 : True := ⟨⟩
theorem tw3158121934376851197 : True := ⟨⟩
theorem tw726268665008156919 : True := ⟨⟩
theorem tw11030355817430226501 : True := ⟨⟩
theorem tw9543922521797397208 : True := ⟨⟩
theorem tw13769657897736860669 : True := ⟨⟩
theorem tw12074178385623123477 : True := ⟨⟩
theorem tw13114090205772805931 : True := ⟨⟩
theorem tw11694798152610034181 : True := ⟨⟩
theorem tw3964354543850896170 : True := ⟨⟩
theorem tw15431606088579010165 : True := ⟨⟩
theorem tw4618913882206206845 : True := ⟨⟩
theorem tw8930003784276612619 : True := ⟨⟩
theorem tw9065912043482788917 : True := ⟨⟩
theorem tw7604731184573043519 : True := ⟨⟩
theorem tw4199154754932591186 : True := ⟨⟩
theorem tw2570846573939829515 : True := ⟨⟩
theorem tw9150264506108022151 : True := ⟨⟩
theorem tw6085216438246956745 : True := ⟨⟩
theorem tw9072942244909200127 : True := ⟨⟩
theorem tw6985070599103555872 : True := ⟨⟩
theorem tw15685881113901123047 : True := ⟨⟩
theorem tw17194822365349727440 : True := ⟨⟩
theorem tw15098131942580725941 : True := ⟨⟩
theorem tw9704232327574569387 : True := ⟨⟩
theorem tw18074886034839202656 : True := ⟨⟩
theorem tw8536471347835949453 : True := ⟨⟩
theorem tw3539954940791074710 : True := ⟨⟩
theorem tw12740971326610275860 : True := ⟨⟩
theorem tw4816227450515092365 : True := ⟨⟩
theorem tw433035432959835422 : True := ⟨⟩
theorem tw12910942375077615386 : True := ⟨⟩
theorem tw13162433821642382651 : True := ⟨⟩
theorem tw8780987368871540798 : True := ⟨⟩
theorem tw8754481996888475868 : True := ⟨⟩
theorem tw12836988046166792946 : True := ⟨⟩
theorem tw7036124577095967293 : True := ⟨⟩
theorem tw6242219111865037774 : True := ⟨⟩
theorem tw2959263999463374022 : True := ⟨⟩
theorem tw3294291850417344057 : True := ⟨⟩
theorem tw14518473252864869633 : True := ⟨⟩
theorem tw2179335520150580977 : True := ⟨⟩
theorem tw14711715468775594767 : True := ⟨⟩
theorem tw4489866131475505088 : True := ⟨⟩
theorem tw8881018409866035613 : True := ⟨⟩
theorem tw2365459551912499826 : True := ⟨⟩
theorem tw446299151539381696 : True := ⟨⟩
theorem tw11500035584679263999 : True := ⟨⟩
theorem tw14668296887928091857 : True := ⟨⟩
theorem tw13884235802392564121 : True := ⟨⟩
theorem tw10481440571369228360 : True := ⟨⟩
theorem tw18124723322711884691 : True := ⟨⟩
theorem tw8114670080795537412 : True := ⟨⟩
theorem tw8173815219124793126 : True := ⟨⟩
theorem tw3067766793759589604 : True := ⟨⟩
theorem tw727636959522436990 : True := ⟨⟩
end PySem.W.Fast
open PySem PySem.W PyProof.Rows
set_option maxRecDepth 100000 in
set_option maxHeartbeats 0 in
theorem PySem.Challenge.cw_busyweb_k41_whole_two_forests_or_a_parti_holds : PySem.Challenge.rw_busyweb_k41_whole_two_forests_or_a_parti.Holds := by
  w_on; o_law; k_head; (case hw => w_witness2)
  k_fill
  refine Pk.walk (l := PySem.Challenge.rw_busyweb_k41_whole_two_forests_or_a_parti) rfl rfl (fun w h Y => PySem.W.kIn_of Y) ?F
  case F =>
    intro w mg fa h KX G hmg
    refine' Pk.all_mk KX G hmg ?aCWeb ?a1 ?i1 ?l1 ?c1 ?k1 ?a2 ?l2 ?c2 ?k2 ?a3 ?l3 ?c3 ?k3 ?a4 ?l4 ?c4 ?k4 ?a5 ?l5 ?c5 ?k5 ?a6 ?l6 ?c6 ?k6 ?a7 ?l7 ?c7 ?k7 ?a8 ?l8 ?c8 ?k8 ?a9 ?l9 ?c9 ?k9 ?a10 ?l10 ?c10 ?k10 ?a11 ?l11 ?c11 ?k11 ?a12 ?l12 ?c12 ?k12 ?a13 ?l13 ?c13 ?k13 ?a14 ?l14 ?c14 ?k14 ?a15 ?l15 ?c15 ?k15 ?a16 ?l16 ?c16 ?k16 ?a17 ?l17 ?c17 ?k17 ?a18 ?l18 ?c18 ?k18 ?a19 ?l19 ?c19 ?k19 ?a20 ?l20 ?c20 ?k20 ?a21 ?l21 ?c21 ?k21 ?a22 ?l22 ?c22 ?k22 ?a23 ?l23 ?c23 ?k23 ?a24 ?l24 ?c24 ?k24 ?a25 ?l25 ?c25 ?k25 ?a26 ?l26 ?c26 ?k26 ?pg ?hd ?po ?sa ?nM ?nT ?ca ?cg ?ck ?co ?mk ?kc ?mp ?mt ?z0 ?z1 ?z2 ?z3 ?z4 ?z5 ?z6 ?z7 ?z8 ?z9 ?z10 ?z11 ?z12 ?z13 ?z14 ?z15
    (case aCWeb => k_is)
    (case a1 => k_is)
    (case i1 => k_is)
    (case l1 => k_is)
    (case c1 => k_is)
    (case k1 => k_is)
    (case a2 => k_is)
    (case l2 => k_is)
    (case c2 => k_is)
    (case k2 => k_is)
    (case a3 => k_is)
    (case l3 => k_is)
    (case c3 => k_is)
    (case k3 => k_is)
    (case a4 => k_is)
    (case l4 => k_is)
    (case c4 => k_is)
    (case k4 => k_is)
    (case a5 => k_is)
    (case l5 => k_is)
    (case c5 => k_is)
    (case k5 => k_is)
    (case a6 => k_is)
    (case l6 => k_is)
    (case c6 => k_is)
    (case k6 => k_is)
    (case a7 => k_is)
    (case l7 => k_is)
    (case c7 => k_is)
    (case k7 => k_is)
    (case a8 => k_is)
    (case l8 => k_is)
    (case c8 => k_is)
    (case k8 => k_is)
    (case a9 => k_is)
    (case l9 => k_is)
    (case c9 => k_is)
    (case k9 => k_is)
    (case a10 => k_is)
    (case l10 => k_is)
    (case c10 => k_is)
    (case k10 => k_is)
    (case a11 => k_is)
    (case l11 => k_is)
    (case c11 => k_is)
    (case k11 => k_is)
    (case a12 => k_is)
    (case l12 => k_is)
    (case c12 => k_is)
    (case k12 => k_is)
    (case a13 => k_is)
    (case l13 => k_is)
    (case c13 => k_is)
    (case k13 => k_is)
    (case a14 => k_is)
    (case l14 => k_is)
    (case c14 => k_is)
    (case k14 => k_is)
    (case a15 => k_is)
    (case l15 => k_is)
    (case c15 => k_is)
    (case k15 => k_is)
    (case a16 => k_is)
    (case l16 => k_is)
    (case c16 => k_is)
    (case k16 => k_is)
    (case a17 => k_is)
    (case l17 => k_is)
    (case c17 => k_is)
    (case k17 => k_is)
    (case a18 => k_is)
    (case l18 => k_is)
    (case c18 => k_is)
    (case k18 => k_is)
    (case a19 => k_is)
    (case l19 => k_is)
    (case c19 => k_is)
    (case k19 => k_is)
    (case a20 => k_is)
    (case l20 => k_is)
    (case c20 => k_is)
    (case k20 => k_is)
    (case a21 => k_is)
    (case l21 => k_is)
    (case c21 => k_is)
    (case k21 => k_is)
    (case a22 => k_is)
    (case l22 => k_is)
    (case c22 => k_is)
    (case k22 => k_is)
    (case a23 => k_is)
    (case l23 => k_is)
    (case c23 => k_is)
    (case k23 => k_is)
    (case a24 => k_is)
    (case l24 => k_is)
    (case c24 => k_is)
    (case k24 => k_is)
    (case a25 => k_is)
    (case l25 => k_is)
    (case c25 => k_is)
    (case k25 => k_is)
    (case a26 => k_is)
    (case l26 => k_is)
    (case c26 => k_is)
    (case k26 => k_is)
    (case pg => k_is)
    (case hd => k_is)
    (case po => k_is)
    (case sa => k_is)
    (case nM => k_is)
    (case nT => k_is)
    (case ca => k_is)
    (case cg => k_is)
    (case ck => k_is)
    (case co => k_is)
    (case mk => k_is)
    (case kc => k_is)
    (case mp => k_is)
    (case mt => k_is)
    (case z0 => k_is)
    (case z1 => k_is)
    (case z2 => k_is)
    (case z3 => k_is)
    (case z4 => k_is)
    (case z5 => k_is)
    (case z6 => k_is)
    (case z7 => k_is)
    (case z8 => k_is)
    (case z9 => k_is)
    (case z10 => k_is)
    (case z11 => k_is)
    (case z12 => k_is)
    (case z13 => k_is)
    (case z14 => k_is)
    (case z15 => k_is)
